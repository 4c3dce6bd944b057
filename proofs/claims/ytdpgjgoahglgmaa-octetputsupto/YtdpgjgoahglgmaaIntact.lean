/- tesserabook.Intact of bytes: of what Roomy made, and stayed, it is true. -/
import Derived.Test.YtdpgjgoahglgmaaRoomy
import Derived.Test.YtdpgjgoahglgmaaSame
namespace Go.Proofs.Ytdpgjgoahglgmaa
open Go.RowKit
theorem fillB_get (l : List UInt8) (m : UInt8) (n k : Nat) (h : k < n) : (fillB l m n).getD (l.length + k) 0 = m := by
  unfold fillB
  rw [List.getD, List.getElem?_append_right (by omega), Nat.add_sub_cancel_left, List.getElem?_append_left (by simpa using h)]
  simp [h]
set_option maxHeartbeats 800000 in
theorem intact_any (g : Nat) (a : Option Addr) (cap : Nat) (l : List UInt8) (m : UInt8) (w : World) (hlen : l.length ≤ 140737488351232) (hf : Own w g (cellsOf (fillB l m 80))) (h : BS w a l) :
    Calls Try.prog 19 #[.slice (some ⟨g, 0, none⟩) (l.length + 80) (l.length + 80), .slice a l.length cap, .int .u8 (m.toNat : Int)] w fun e w' => e = .returned (.bool true) ∧ Below w.heap.size w w' := by
  have hcell : ∀ k, k < 80 → w.cell? ⟨g, l.length + k, none⟩ = some (.int .u8 (m.toNat : Int)) := fun k hk => by
    rw [hf.cell, cellsOf_get _ _ (by rw [fillB_length _ _ _ (by omega)]; omega)]
    rw [fillB_get l m 80 k hk]
  have hsame := same_any (some ⟨g, 0, none⟩) a (l.length + 80) cap l l w (by omega) (Own.bs (by unfold fillB at hf; exact hf)) h
  rw [decide_eq_true rfl] at hsame
  have hgl := hf.lt
  clear hf h
  have hne : (((l.length : Int) + 80) != ((l.length : Int) + 80)) = false := by simp
  go_enter Try.func19, Try.ntmps19
  go_wp2_with (go_at_call 16; refine hsame.mono ?_; rintro e w1 ⟨rfl, hb1⟩)
  go_loop [7] (fun i => ∃ k : Nat, k ≤ 80 ∧ i = .int .i64 ((l.length : Int) + k)) (fun i => 80 + l.length - (intOf i).toNat)
  case atStart => exact ⟨0, Nat.zero_le _, by simp⟩
  case round =>
    obtain ⟨k, hk, rfl⟩ := hrel
    by_cases hlt : k < 80
    · have c1 := hcell k hlt
      rw [← hb1.cell hgl] at c1
      clear hcell
      go_wp2
      exact ⟨⟨k + 1, by omega, by go_num⟩, by simp [intOf]; omega⟩
    · go_wp2
      go_ret
      exact ⟨rfl, hb1⟩
end Go.Proofs.Ytdpgjgoahglgmaa
