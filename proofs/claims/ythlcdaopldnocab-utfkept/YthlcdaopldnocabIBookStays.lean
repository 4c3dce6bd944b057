/- (*tesserabook.Book).Stays of bytes: its contract. -/
import Derived.Test.YthlcdaopldnocabIBookKeep1
import Derived.Test.YthlcdaopldnocabURegion
namespace Go.Proofs.Ythlcdaopldnocab
open Go.RowKit
open Go.Joins
set_option maxRecDepth 100000 in
set_option maxHeartbeats 16000000 in
theorem stays_any (w : World) (base B : Nat) (vl vw : Value) (es : List Ent) (held : Int) (hI : BookInv w base B vl vw es held) (h0 : 0 < es.length) :
    Calls Try.prog 21 #[.pointer (some ⟨B, 0, none⟩)] w fun e w' => e = .returned (.bool true) ∧ BookInv w' base B vl vw es held ∧ Only w w' fun k => k = B := by
  obtain ⟨gl, ol, cl, rfl, -, -, hcl, hclm, -⟩ := hI.lists.form (by rw [List.length_map]; exact h0)
  obtain ⟨gw, ow, cw, rfl, -, -, hcw, hcwm, -⟩ := hI.was.form (by rw [List.length_map]; exact h0)
  simp only [List.length_map] at hI hcl hcw ⊢
  obtain ⟨n, hn⟩ : ∃ n, n = es.length := ⟨_, rfl⟩
  rw [← hn] at hI hcl hcw h0 ⊢
  have HN : Hid (n = es.length) := hn
  have HI : Hid (BookInv w base B (.slice (some ⟨gl, ol, none⟩) n cl) (.slice (some ⟨gw, ow, none⟩) n cw) es held) := hI
  have hn63 : n ≤ 9223372036854775807 := by unfold maxLen at hclm; omega
  clear hn hI hclm hcwm
  go_enter Try.func21, Try.ntmps21
  go_wp2
  go_loopg [3] n (fun k i wr => ∃ q : Nat, q ≤ n ∧ k = n - q ∧ i = .int .i64 q ∧ BookInv wr base B (.slice (some ⟨gl, ol, none⟩) n cl) (.slice (some ⟨gw, ow, none⟩) n cw) es held ∧ Only w wr fun k => k = B)
  case atStart => exact ⟨0, Nat.zero_le _, rfl, rfl, HI.out, Only.refl _ _⟩
  case round =>
    obtain ⟨q, hq, rfl, rfl, hIr, hor⟩ := hrel
    have b0 := hIr.at_.c0
    have b1 := hIr.at_.c1
    have b3 := hIr.at_.c3
    by_cases hlt : q < n
    · obtain ⟨_, _, _, e1, -, -, -, -, hlc⟩ := hIr.lists.form (by rw [List.length_map, ← HN.out]; omega)
      obtain ⟨_, _, _, e2, -, -, -, -, hwc⟩ := hIr.was.form (by rw [List.length_map, ← HN.out]; omega)
      simp only [Value.slice.injEq, Option.some.injEq, Addr.mk.injEq, and_true] at e1 e2
      obtain ⟨⟨rfl, rfl⟩, -, rfl⟩ := e1
      obtain ⟨⟨rfl, rfl⟩, -, rfl⟩ := e2
      have hqe : q < es.length := by rw [← HN.out]; exact hlt
      have c0 := hlc q (by rw [List.length_map]; exact hqe)
      have c1 := hwc q (by rw [List.length_map]; exact hqe)
      simp only [List.getElem_map] at c0 c1
      obtain ⟨ho0, ho1⟩ := hIr.ents es[q] (List.getElem_mem hqe)
      obtain ⟨e0, he0⟩ : ∃ e0, e0 = es[q] := ⟨_, rfl⟩
      rw [← he0] at c0 c1 ho0 ho1
      clear he0 hlc hwc hqe
      obtain ⟨v0, u0, l0⟩ := e0
      obtain ⟨a0, k0, hv0⟩ := ho0.shape
      obtain ⟨a1, k1, hu0⟩ := ho1.shape
      simp only at hv0 hu0 ho0 ho1 c0 c1
      subst hv0
      subst hu0
      have HS := same_step_like (wr := wr) ho0 ho1
      have HF : Hid (∀ w5, (Only wr w5 fun _ => False) → BookInv (w5.setCell ⟨B, 3, none⟩ (.bool false)) base B (.slice (some ⟨gl, ol, none⟩) n cl) (.slice (some ⟨gw, ow, none⟩) n cw) es held ∧ Only w (w5.setCell ⟨B, 3, none⟩ (.bool false)) fun k => k = B) := fun w5 ho => by
        have ho' : Only wr w5 fun k => k = B := ho.wider (fun _ h => h.elim)
        have hA := hIr.at_.kept (ho.block B hIr.at_.lt (fun h => h))
        have h1 := hIr.move ho' hA
        have h2 := Only.set (S := fun k => k = B) (w := w5) B 3 (.bool false) rfl
        exact ⟨h1.move h2 hA.set3, (hor.trans ho' (fun _ _ h => h)).trans h2 (fun _ _ h => h)⟩
      have HA5 : Hid (∀ w5, (Only wr w5 fun _ => False) → BookAt w5 B (.slice (some ⟨gl, ol, none⟩) n cl) (.slice (some ⟨gw, ow, none⟩) n cw) held) := fun w5 ho => hIr.at_.kept (ho.block B hIr.at_.lt (fun h => h))
      clear hIr hor ho0 ho1
      go_wp2
      refine wp_region_move_tail (C := fun w' => ∃ n, w' = wr.drewN n) 20 (.tmp 0) rfl rfl (by kernel_rfl) (by kernel_rfl) ⟨1, rfl⟩ (fun _ _ _ _ h => h) ?_
      simp only [Nat.reduceSub, List.take_succ_cons, List.take_zero, List.drop_succ_cons, List.drop_zero]
      go_simp
      repeat (go_big_quiet_step (fail))
      refine wpQuiet_nil ?_
      intro nq
      clear b0 b1 b3 c0 c1
      go_wp2_with fail
      refine (HS.out (wr.drewN nq) ⟨rfl, rfl, rfl, rfl⟩).mono ?_; rintro e w5 ⟨rfl, ho5⟩
      have hA5 := HA5.out w5 ho5
      have z1 := hA5.c3
      have z2 := hA5.free 3
      have hF := HF.out w5 ho5
      clear HF HA5 HS ho5 hA5
      go_wp2_with fail
      go_roundg (n - (q + 1))
      case measure => omega
      case rel => exact ⟨q + 1, by omega, rfl, by go_num, hF.1, hF.2⟩
    · go_wp2
      go_ret
      exact ⟨rfl, hIr, hor⟩
end Go.Proofs.Ythlcdaopldnocab
