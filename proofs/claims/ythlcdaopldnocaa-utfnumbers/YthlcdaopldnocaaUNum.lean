/- UtfNumbers: the walk. -/
import Derived.Test.YthlcdaopldnocaaUScan
import Derived.Test.YthlcdaopldnocaaUKnown
namespace Go.Proofs.Ythlcdaopldnocaa
open Go.RowKit Go.Sort
open Go.Joins
theorem put_lit (b n k : Nat) (q h : List UInt8) (c : UInt8) (ci : Int) (hc : (c.toNat : Int) = ci) (hk : h.length = k) (R : List It) (H : List UInt8) (hR : compI (n - k) (h ++ [c]) = R) (hH : heldL (h ++ [c]) = H) (w : World) (hq : q.take k = h) (h3 : k ≤ 3) (hn : k ≤ n) (hn2 : n < 9223372036854775807) (hsc : SC w b q k n) :
    Calls Try.prog 12 #[.pointer (some ⟨b, 0, none⟩), .int .u8 ci] w fun e w' => ∃ v, e = .returned v ∧ OwnI 30 w' w.heap.size v R ∧ (∃ q', q'.take H.length = H ∧ SC w' b q' H.length (n + 1)) ∧ But b w.heap.size w w' := by
  subst hc hk hR hH
  exact put_any b n q h c w hq h3 hn hn2 hsc
theorem OwnI.none {T : TypeId} {w : World} {base : Nat} {v : Value} (h : OwnI T w base v []) : v = .slice none 0 0 := h.2.2 rfl
set_option maxRecDepth 100000 in
set_option maxHeartbeats 2000000 in
theorem utfnumbers_walk (w : World) : Calls Try.prog 3 #[] w fun e w' => e = .returned (.bool true) ∧ Below w.heap.size w w' := by
  have T1 := fun wx => tail_any ⟨#[226, 130, 172]⟩ wx (by decide)
  rw [show tailL (tl ⟨#[226, 130, 172]⟩) = 0 by decide] at T1
  have T2 := fun wx => tail_any ⟨#[240, 159, 152]⟩ wx (by decide)
  rw [show tailL (tl ⟨#[240, 159, 152]⟩) = 3 by decide] at T2
  have T3 := fun wx => tail_any ⟨#[237, 160]⟩ wx (by decide)
  rw [show tailL (tl ⟨#[237, 160]⟩) = 0 by decide] at T3
  have T4 := fun wx => tail_any ⟨#[192]⟩ wx (by decide)
  rw [show tailL (tl ⟨#[192]⟩) = 0 by decide] at T4
  have R1 := fun wx => replace_any ⟨#[237, 160, 128]⟩ wx (by decide)
  rw [show replL (tl ⟨#[237, 160, 128]⟩) = [239, 191, 189, 239, 191, 189, 239, 191, 189] by decide, show textOf [239, 191, 189, 239, 191, 189, 239, 191, 189] = (⟨#[239, 191, 189, 239, 191, 189, 239, 191, 189]⟩ : ByteArray) from rfl] at R1
  have R2 := fun wx => replace_any ⟨#[226, 130]⟩ wx (by decide)
  rw [show replL (tl ⟨#[226, 130]⟩) = [239, 191, 189] by decide, show textOf [239, 191, 189] = (⟨#[239, 191, 189]⟩ : ByteArray) from rfl] at R2
  go_enter Try.func3, Try.ntmps3
  go_wp2_with fail
  refine (T1 _).mono ?_; rintro e w1 ⟨rfl, rfl⟩
  go_wp2_with fail
  refine (T2 _).mono ?_; rintro e w2 ⟨rfl, rfl⟩
  go_wp2_with fail
  refine (T3 _).mono ?_; rintro e w3 ⟨rfl, rfl⟩
  go_wp2_with fail
  refine (T4 _).mono ?_; rintro e w4 ⟨rfl, rfl⟩
  go_wp2_with fail
  refine (R1 _).mono ?_; rintro e w5 ⟨rfl, hb5⟩
  go_wp2_with fail
  refine (R2 _).mono ?_; rintro e w6 ⟨rfl, hb6⟩
  go_wp2_with fail
  refine (new_any _).mono ?_; rintro e w7 ⟨rfl, s7, hb7, z7⟩
  clear T1 T2 T3 T4 R1 R2
  have hB7 := (hb5.trans (hb6.mono hb5.size)).trans (hb7.mono (by have := hb5.size; have := hb6.size; omega))
  have hz7 := hB7.size
  have hz6 := (hb5.trans (hb6.mono hb5.size)).size
  obtain ⟨b, hb⟩ : ∃ b, b = w6.heap.size := ⟨_, rfl⟩
  rw [← hb] at s7 hz6 z7 ⊢
  clear hb hb7
  go_wp2_with fail
  refine (put_lit b 0 0 _ [] 240 240 rfl rfl [] [240] (by kernel_rfl) (by kernel_rfl) w7 rfl (by omega) (by omega) (by omega) s7).mono ?_
  rintro e w8 ⟨v8, rfl, o8, ⟨q8, t8, s8⟩, b8⟩
  obtain rfl := o8.none
  have hB8 := hB7.trans (b8.below (B' := w4.heap.size) (by omega) (by omega))
  have z8 := b8.2.2.2.1
  clear b8 o8 s7
  go_wp2_with fail
  refine (put_lit b 1 1 _ [240] 159 159 rfl rfl [] [240, 159] (by kernel_rfl) (by kernel_rfl) w8 t8 (by omega) (by omega) (by omega) s8).mono ?_
  rintro e w9 ⟨v9, rfl, o9, ⟨q9, t9, s9⟩, b9⟩
  obtain rfl := o9.none
  have hB9 := hB8.trans (b9.below (B' := w4.heap.size) (by omega) (by omega))
  have z9 := b9.2.2.2.1
  clear b9 o9 s8
  go_wp2_with fail
  refine (put_lit b 2 2 _ [240, 159] 152 152 rfl rfl [] [240, 159, 152] (by kernel_rfl) (by kernel_rfl) w9 t9 (by omega) (by omega) (by omega) s9).mono ?_
  rintro e wa ⟨va, rfl, oa, ⟨qa, ta, sa⟩, ba⟩
  obtain rfl := oa.none
  have hBa := hB9.trans (ba.below (B' := w4.heap.size) (by omega) (by omega))
  have za := ba.2.2.2.1
  clear ba oa s9
  go_wp2_with fail
  refine (held_any b _ _ _ wa sa).mono ?_; rintro e wb ⟨rfl, rfl⟩
  go_wp2_with fail
  refine (count_any b _ _ _ wb sa).mono ?_; rintro e wc ⟨rfl, rfl⟩
  go_wp2_with fail
  refine (put_lit b 3 3 _ [240, 159, 152] 97 97 rfl rfl [⟨0, 1, 65533, true⟩, ⟨1, 1, 65533, true⟩, ⟨2, 1, 65533, true⟩, ⟨3, 1, 97, false⟩] [] (by kernel_rfl) (by kernel_rfl) wc ta (by omega) (by omega) (by omega) sa).mono ?_
  rintro e wd ⟨vd, rfl, od, ⟨qd, td, sd⟩, bd⟩
  have hBd := hBa.trans (bd.below (B' := w4.heap.size) (by omega) (by omega))
  have zd := bd.2.2.2.1
  obtain ⟨g, cap, rfl, hg, hgl, hc1, hc2, hi⟩ := od.form (by simp)
  obtain ⟨c20, c21, c22, c23⟩ := hi 2 _ rfl
  obtain ⟨c30, c31, c32, c33⟩ := hi 3 _ rfl
  simp only [Nat.reduceMul, Nat.reduceAdd] at c20 c21 c22 c23 c30 c31 c32 c33
  clear bd od hi sa
  go_wp2_with fail
  refine (held_any b _ _ _ wd sd).mono ?_; rintro e we ⟨rfl, rfl⟩
  go_wp2_with fail
  refine (end_any b _ _ _ we sd (by simp) (by simp) (by omega)).mono ?_
  rintro e wf ⟨vf, rfl, of, sf, bf⟩
  obtain rfl : vf = .slice none 0 0 := of.2.2 rfl
  have hBf := hBd.trans (bf.below (B' := w4.heap.size) (by omega) (by omega))
  clear bf of c20 c21 c22 c23 c30 c31 c32 c33
  go_wp2_with fail
  refine (known_any _).mono ?_; rintro e wg ⟨rfl, hbg⟩
  go_wp2_with fail
  go_ret
  exact ⟨rfl, hBf.trans (hbg.mono hBf.size)⟩
end Go.Proofs.Ythlcdaopldnocaa
