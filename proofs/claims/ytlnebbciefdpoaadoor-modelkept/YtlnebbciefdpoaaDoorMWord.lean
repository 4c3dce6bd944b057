/- model.Model.Word, tesseraref5.Word: their contracts. -/
import Derived.Test.YtlnebbciefdpoaaDoorMView
namespace Go.Proofs.YtlnebbciefdpoaaDoor
open Go.RowKit Go.Sort Go.Joins
/-- What Word answers. -/
def wdV (o : Option ByteArray) : Value := .tuple #[.string (o.getD ⟨#[]⟩), .bool o.isSome]
theorem byte_text (u : World) (id : Int) : (convert 22 9 (.slice (some ⟨u.heap.size, 0, none⟩) 1 1)).run Tryd.prog (u.alloc (.cells #[.int .u8 id] 5)) = .ok (.string (byteS id)) (u.alloc (.cells #[.int .u8 id] 5)) := by
  have h := run_convert_bytes_arg (P := Tryd.prog) (u.alloc (.cells #[.int .u8 id] 5)) 22 5 Tryd.underlying22 Tryd.underlying5 u.heap.size 0 1 1 [id] rfl (fun j hj => by
    obtain rfl : j = 0 := by simpa using hj
    rw [cell_of_block (heap_alloc_new _ _)]; rfl) 9 Tryd.underlying9
  rw [h]
  rfl
set_option maxRecDepth 100000 in
set_option maxHeartbeats 1000000 in
theorem word_any (g cw : Nat) (aw : Option Addr) (ws : List ByteArray) (id : Int) (w : World) (hn : ws.length ≤ 4611686018427387904) (h : w.cell? ⟨g, 0, none⟩ = some (.slice aw ws.length cw)) (hW : WSP w aw ws) :
    Calls Tryd.prog 12 #[.pointer (some ⟨g, 0, none⟩), .int .i64 id] w fun e w' => e = .returned (wdV (wordM ws id)) ∧ Below w.heap.size w w' := by
  have hcv := fun u => byte_text u id
  have HS := fun wx hx => size_any g ws.length cw aw wx hn hx
  by_cases h0 : id < 0
  · have e : wordM ws id = none := by unfold wordM; rw [if_neg (by omega), if_neg (by omega)]
    rw [e]
    have hd : decide (id < 0) = true := decide_eq_true h0
    go_enter Tryd.func12, Tryd.ntmps12
    go_wp2_with fail
    exact bodyPost_ret (v := .tuple #[.string ⟨#[]⟩, .bool false]) (by simp [results, Tryd.results12, go_sem]) rfl ⟨rfl, Below.refl _ _⟩
  · have hd : decide (id < 0) = false := decide_eq_false h0
    by_cases h1 : id < 256
    · have e : wordM ws id = some (byteS id) := by unfold wordM; rw [if_pos (by omega)]
      rw [e]
      have hd1 : decide (256 + (ws.length : Int) ≤ id) = false := decide_eq_false (by omega)
      have hd2 : decide (id < 256) = true := decide_eq_true h1
      go_enter Tryd.func12, Tryd.ntmps12
      go_wp2_with fail
      refine (HS _ h).mono ?_
      rintro e w' ⟨rfl, rfl⟩
      go_wp2_with fail
      exact bodyPost_ret (v := .tuple #[.string (byteS id), .bool true]) (by simp [results, Tryd.results12, go_sem]) rfl ⟨rfl, (Below.refl _ _).alloc (Nat.le_refl _) _⟩
    · by_cases h2 : id - 256 < ws.length
      · obtain ⟨k, hk⟩ : ∃ k : Nat, id = 256 + k := ⟨(id - 256).toNat, by omega⟩
        subst hk
        have hkl : k < ws.length := by omega
        obtain ⟨x, hx⟩ : ∃ x, ws[k]? = some x := ⟨_, List.getElem?_eq_getElem hkl⟩
        have e : wordM ws (256 + k) = some x := by rw [wordM_in (by omega), show (256 + (k : Int) - 256).toNat = k by omega, hx]
        rw [e]
        have hd1 : decide (256 + (ws.length : Int) ≤ 256 + (k : Int)) = false := decide_eq_false (by omega)
        have hd2 : decide (256 + (k : Int) < 256) = false := decide_eq_false (by omega)
        obtain ⟨b, off, rfl, hc⟩ := hW.at_ hx
        go_enter Tryd.func12, Tryd.ntmps12
        go_wp2_with fail
        refine (HS _ h).mono ?_
        rintro e w' ⟨rfl, rfl⟩
        go_wp2_with fail
        exact bodyPost_ret (v := .tuple #[.string x, .bool true]) (by simp [results, Tryd.results12, go_sem]) rfl ⟨rfl, Below.refl _ _⟩
      · have e : wordM ws id = none := by rw [wordM_in (by omega), List.getElem?_eq_none (by omega)]
        rw [e]
        have hd1 : decide (256 + (ws.length : Int) ≤ id) = true := decide_eq_true (by omega)
        go_enter Tryd.func12, Tryd.ntmps12
        go_wp2_with fail
        refine (HS _ h).mono ?_
        rintro e w' ⟨rfl, rfl⟩
        go_wp2_with fail
        exact bodyPost_ret (v := .tuple #[.string ⟨#[]⟩, .bool false]) (by simp [results, Tryd.results12, go_sem]) rfl ⟨rfl, Below.refl _ _⟩
end Go.Proofs.YtlnebbciefdpoaaDoor
