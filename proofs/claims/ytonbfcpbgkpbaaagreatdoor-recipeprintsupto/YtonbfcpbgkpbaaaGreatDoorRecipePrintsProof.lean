import Derived.Test.YtonbfcpbgkpbaaaGreatDoorRows
import Derived.Test.YtonbfcpbgkpbaaaGreatDoorCards
import Derived.Test.YtonbfcpbgkpbaaaGreatDoorTie
import Derived.Test.YtonbfcpbgkpbaaaGreatDoorJ19
import Derived.WalkKit
import Derived.ProofKit
import Derived.OpenShut
import Derived.ChangeOld
import Derived.Below
import Derived.SizedLaws
import Derived.SevenTiedAt
import Derived.Deep.DeepHandedRow
/- RecipePrints, where what it reads is of bulk at most 1048576: for every input the call returns true, and each argument reads as it did; what the package-level variables hold is tied to the text. The frame of the row and its card; the walk lies in Z8Prints. -/
namespace Go.Proofs.YtonbfcpbgkpbaaaGreatDoor.recipePrints
open Go.ChangeShapes Go.WideShapes Go.ChangeAt Go.WideMaps Go.WideElems Go.RowKit
set_option linter.unusedVariables false
abbrev wargs : Array Value := #[(.agg #[.slice none 0 0, .slice none 0 0, .slice none 0 0, .slice none 0 0, .slice none 0 0] : Value)]
theorem reads (os : Os) {H : Type} (enc : TypeId × Value → H) : ∃ ds places, DataW.whole enc Tryz.prog ((World.doorLaid Tryz.prog 400 os).forCall (fun _ _ => 0) ⟨#[], wargs, []⟩).memory Tryz.f3.params.toList Rows.recipePrintsSpec.vars false wargs.toList 8 = some (ds, [], places) ∧ Rows.uptoSmall H (ds ++ []) = true :=
  ⟨[.agg [.nil, .nil, .nil, .nil, .nil]], [], by kernel_rfl, by kernel_rfl⟩
set_option maxRecDepth 100000 in
theorem liftedUpto (os : Os) (started : os.Started) (H : Type) (enc : TypeId × Value → H) (FF : Stop.Interp) :
    ReturnsInHanded {} Tryz.checked os 3 .any ((Rows.OpenSpec.upto Rows.recipePrintsSpec).preRow enc Tryz.prog Tryz.f3 Rows.recipePrintsUptoRow.domain false Rows.recipePrintsUptoRow.laid) (((Rows.OpenSpec.upto Rows.recipePrintsSpec).at FF).post enc Tryz.prog Tryz.f3 false true false false) := by
  obtain ⟨ds0, places, hx, hsm⟩ := reads os enc
  refine returnsInHanded_of_row (C := Tryz.checked) (s := Rows.OpenSpec.upto Rows.recipePrintsSpec) own started (by kernel_rfl) Tryz.func3
    ⟨World.doorLaid Tryz.prog 400 os, fun _ _ => 0, ⟨#[], wargs, []⟩, rfl, World.shaped_of_RefB (by kernel_rfl) (by kernel_rfl), rfl, (Input.okWide_of_okWideB (by kernel_rfl)).2,
      OpenSpec.preRow_of_cond 8 hx (by kernel_rfl) (fun k hk => by cases hk; exact hsm) (by kernel_rfl) (door_met os _), by
      simp only [Assume.holds]
      exact ⟨by simp, by simp, fun _ => Modest.zero, by simp, by simp⟩⟩ ?_
  intro W base args ds gs before hval0 hW _ hcond hsz hL _ _
  have hval : ∀ (j : Nat) t v, Tryz.f3.params[j]? = some t → args[j]? = some v → Value.okWide Tryz.prog W .any base t v := hval0
  have hW' := hW
  obtain ⟨p, q, hA0, hV, rfl, hfz, hnd⟩ := hW
  have hA : DataW.TrodAll enc Tryz.prog W 0 (fun _ => true) true Tryz.f3.params.toList args.toList ds p := hA0
  rw [Tryz.params3] at hA hval
  obtain ⟨v0, vs0, d0, ds0, p0, q0, hargs, rfl, rfl, h0, r0⟩ := trodAll_cons hA
  obtain ⟨rfl, rfl, rfl⟩ := trodAll_nil r0
  obtain rfl : args = #[v0] := by cases args; simp_all
  obtain ⟨rfl, rfl⟩ := trodVars_none hV
  have hP := of_laid3 hL
  have hK : Rows.uptoSmall H ([d0] ++ []) = true := hcond _ rfl
  have k0 := h0
  have lt0 : ∀ x ∈ p0, x.block < W.heap.size := by obtain ⟨m, hm⟩ := k0; exact DataW.trod_lt m _ _ _ hm
  obtain ⟨m0, hm0⟩ := h0
  obtain ⟨aw0, cw0, am0, cm0, a0, ca0, b0, cb0, c0, cc0, ws0, ms0, A0, B0, C0, rfl, hW0, hM0, hA0, hB0, hC0, y00, y10, y20, y30, y40, hy0, u00, u10, u20, u30, u40, hb0⟩ := open_mdata (hval 0 26 v0 rfl rfl) hm0
  obtain ⟨z00, z10, z20, z30, z40, zb0⟩ := data_bulk hK hy0 (by simp) u00 u10 u20 u30 u40
  have hbig0 : ∀ x ∈ ws0, x.size ≤ 1048576 := fun x hx => Nat.le_trans (hb0 x hx) zb0
  have hD0 : PrD W aw0 am0 a0 b0 c0 ws0 ms0 A0 B0 C0 := ⟨hW0, hM0.1, hA0, hB0, hC0⟩
  clear hA0 hval0
  refine (prints_walk aw0 am0 a0 b0 c0 cw0 cm0 ca0 cb0 cc0 ws0 ms0 A0 B0 C0 W hD0 z00 z10 hbig0 z20 z30 z40 hP hM0.2).mono fun e W' ⟨he, bel⟩ => ?_
  subst he
  exact ⟨_, rfl, _, _, _, [], _, [], hW', trodAll_mk1 (shut_bool Tryz.underlying4 _), (trodAll_cons_mk (Below.trod laidOut (by kernel_rfl) (of_decide_eq_true (by kernel_rfl)) k0 bel lt0) trodAll_mk0), rfl, bel.frame _, fun h => by cases h⟩
theorem over : Rows.RecipePrintsUptoSaid :=
  OpenClaim.holds_of_cond 3 Tryz.f3 rfl rfl rfl rfl rfl rfl rfl ⟨rfl, rfl, rfl, rfl, rfl⟩ rfl rfl rfl rfl rfl (by kernel_rfl) Tryz.func3 (by kernel_rfl)
    (of_decide_eq_true (by kernel_rfl)) (by unfold Func.isWrapper; first | (rw [if_pos (by decide +kernel)]; kernel_rfl) | (rw [if_neg (by decide +kernel)]; exact ⟨rfl, rfl⟩))
    (fun os started H enc _ FF => by rw [OpenClaim.pre_eq_preRow]; exact liftedUpto os started H enc FF)
theorem proved : Rows.RecipePrintsUptoCardSaid :=
  Claim7.holds_tied_plain_at .later [] _ _ _ _ over (fun _ h => by cases h) (by kernel_rfl) (fun _ h => by cases h) recipePrintsUpto_row_tie rfl ⟨rfl, rfl⟩ (by kernel_rfl) rfl
    (fun f fn hf hfn => by
      obtain rfl : f = 3 := Option.some.inj ((show Tryz.prog.funcNamed "tessera/tesseralaw7.RecipePrints" = some 3 by kernel_rfl).symm.trans hf) |>.symm
      obtain rfl : fn = Tryz.f3 := (Option.some.inj (Tryz.func3.symm.trans hfn)).symm
      exact ⟨by kernel_rfl, fun j t ht => by
        rw [Tryz.params3] at ht
        have hm : t ∈ [26] := by simpa using Array.mem_of_getElem? ht
        have hall : ([26].all fun u => !Tryz.prog.wantsStandIn u) = true := by kernel_rfl
        exact (show Tryz.prog.wantsStandIn t = false by simpa using List.all_eq_true.1 hall t hm)⟩)
    (by kernel_rfl)
#print axioms proved
end Go.Proofs.YtonbfcpbgkpbaaaGreatDoor.recipePrints
