/- octet.Put, PutText, tesseraref1.Put, PutText: their contracts. -/
import Derived.Test.YtdpgjgoahglgmabApp
namespace Go.Proofs.Ytdpgjgoahglgmab
open Go.RowKit
open Go.Joins
/-- What a call answers that lays bytes in new memory. -/
def NewBytes (w : World) (l : List UInt8) (e : Ending) (w' : World) : Prop := ∃ v, e = .returned v ∧ OwnS w' w.heap.size v l ∧ Below w.heap.size w w'
theorem be4_bs (w : World) (n : Nat) (h : n < 4294967296) : BS (w.alloc (.cells #[.int .u8 ((n : Int) / 16777216), .int .u8 ((n : Int) / 65536 % 256), .int .u8 ((n : Int) / 256 % 256), .int .u8 ((n : Int) % 256)] 5)) (some ⟨w.heap.size, 0, none⟩) (be4 n) := by
  rw [← be4_cells n h]; exact BS.new w (be4 n) 5
set_option maxHeartbeats 400000 in
theorem put_any (a : Option Addr) (cap : Nat) (l : List UInt8) (n : Nat) (hn : n < 4294967296) (w : World) (hlen : l.length ≤ 140737488351232) (hcap : l.length ≤ cap) (h : BS w a l) :
    Calls Try.prog 5 #[.slice a l.length cap, .int .u32 n] w (NewBytes w (l ++ be4 n)) := by
  have hbA := (Below.refl w.heap.size w).alloc (Nat.le_refl _) (.cells #[.int .u8 ((n : Int) / 16777216), .int .u8 ((n : Int) / 65536 % 256), .int .u8 ((n : Int) / 256 % 256), .int .u8 ((n : Int) % 256)] 5)
  obtain ⟨v', w', hr, ho, hb⟩ := run_full_bytes _ a l (be4 n) ⟨w.heap.size, 0, none⟩ 4 (h.below hbA) (be4_bs w n hn) (by simp [be4]) (by simp [be4]; omega)
  have hbB : Below w.heap.size w w' := hbA.trans (hb.mono (by simp))
  have ho' : OwnS w' w.heap.size v' (l ++ be4 n) := ownsRow_le ho (by simp)
  clear ho hbA hb h
  go_enter Try.func5, Try.ntmps5
  go_wp2_with (at_builtin; refine wpList_append_run rfl (.tmp 10) (.tmp 22) 22 22 rfl _ _ rfl rfl v' w' hr ?_)
  go_ret
  exact ⟨_, rfl, ho', hbB⟩
set_option maxHeartbeats 400000 in
theorem puttext_any (a : Option Addr) (cap : Nat) (l : List UInt8) (s : ByteArray) (w : World) (hlen : l.length + s.size ≤ 1073741824) (hcap : l.length ≤ cap) (h : BS w a l) :
    Calls Try.prog 6 #[.slice a l.length cap, .string s] w (NewBytes w (l ++ be4 s.size ++ s.data.toList)) := by
  have hput := put_any a cap l s.size (by omega) w (by omega) hcap h
  clear h
  go_enter Try.func6, Try.ntmps6
  go_wp2_with (first
    | (go_at_call 5; refine hput.mono ?_; rintro e w1 ⟨v1, rfl, ho1, hb1⟩; obtain ⟨v2, w2, hr2, ho2, hb2⟩ := run_own_text w1 w.heap.size v1 _ s ho1 hb1.size (by simp [be4]; omega))
    | (at_builtin; refine wpList_append_run rfl (.tmp 9) (.tmp 10) 22 9 rfl _ _ rfl rfl v2 w2 hr2 ?_))
  go_ret
  exact ⟨_, rfl, ho2, hb1.trans hb2⟩
end Go.Proofs.Ytdpgjgoahglgmab
