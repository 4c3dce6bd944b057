/- tesserabook.Same of keys: its contract; rows of keys as they are read. -/
import Derived.Test.YtafhgigkhbcnjaaLuTKeys
import Derived.Test.YtafhgigkhbcnjaaLuTPut
namespace Go.Proofs.Ytafhgigkhbcnjaa.LU.T
open Go.RowKit Go.Joins Go.Sort Go.Maps
set_option linter.unusedVariables false
set_option linter.unusedSimpArgs false
set_option maxRecDepth 100000
/-- A key's cell. -/
def EAt (w : World) (b off : Nat) (x : κ) : Prop := w.cell? ⟨b, off, none⟩ = some (.string x)
theorem EAt.below {w w' : World} {b off B : Nat} {x : κ} (h : EAt w b off x) (hb : Below B w w') (hB : b < B) : EAt w' b off x := (hb.cell (p := ⟨b, off, none⟩) hB).trans h
theorem EAt.lt {w : World} {b off : Nat} {x : κ} (h : EAt w b off x) : b < w.heap.size := World.block_lt_of_cell? w _ h
/-- A slice at a holds these keys. -/
def ESP (w : World) (a : Option Addr) (l : List κ) : Prop := l = [] ∨ ∃ b off, a = some ⟨b, off, none⟩ ∧ ∀ i x, l[i]? = some x → EAt w b (off + i) x
theorem ESP.below {w w' : World} {a : Option Addr} {l : List κ} (h : ESP w a l) (hb : Below w.heap.size w w') : ESP w' a l := by
  rcases h with h | ⟨b, off, rfl, hc⟩
  · exact .inl h
  · exact .inr ⟨b, off, rfl, fun i x hx => (hc i x hx).below hb (hc i x hx).lt⟩
theorem cellsE_get (l : List κ) (R : List Value) (i : Nat) (x : κ) (h : l[i]? = some x) : (cellsE l ++ R)[i]? = some (.string x) := by
  induction l generalizing i with
  | nil => simp at h
  | cons y l ih =>
    rw [cellsE_cons]
    cases i with
    | zero =>
      simp at h
      subst h
      simp
    | succ i =>
      have := ih i (by simpa using h)
      simpa using this
theorem OwnE.at_ {w : World} {g : Nat} {l : List κ} {R : List Value} (h : OwnE w g (cellsE l ++ R)) {i : Nat} {x : κ} (hx : l[i]? = some x) : EAt w g (i) x := by
  exact (cell_of_block h (i := i)).trans (by simpa using cellsE_get l R i x hx)
theorem OwnE.esp {w : World} {g : Nat} {l : List κ} (h : OwnE w g (cellsE l)) : ESP w (some ⟨g, 0, none⟩) l :=
  .inr ⟨g, 0, rfl, fun i x hx => by rw [Nat.zero_add]; exact OwnE.at_ (R := []) (by rw [List.append_nil]; exact h) hx⟩
theorem OwnE.lt {w : World} {g : Nat} {L : List Value} (h : OwnE w g L) : g < w.heap.size := (Array.getElem?_eq_some_iff.1 h).1
theorem OwnE.below {w w' : World} {g B : Nat} {L : List Value} (h : OwnE w g L) (hb : Below B w w') (hg : g < B) : OwnE w' g L := (hb.block g hg).trans h
set_option maxHeartbeats 800000 in
theorem same_any (a b : Option Addr) (ca cb : Nat) (l : List κ) (w : World) (hlen : l.length ≤ 9223372036854775807) (ha : ESP w a l) (hb : ESP w b l) :
    Calls Try.prog 28 #[.slice a l.length ca, .slice b l.length cb] w fun e w' => e = .returned (.bool true) ∧ Below w.heap.size w w' := by
  obtain ⟨n, hn⟩ : ∃ n, n = l.length := ⟨_, rfl⟩
  have HN : Hid (n = l.length) := hn
  rw [← hn] at hlen ⊢
  clear hn
  have hne : ((n : Int) != (n : Int)) = false := by simp
  go_enter Try.func28, Try.ntmps28
  go_wp2
  go_loopw [5] (fun i wr => ∃ k : Nat, k ≤ n ∧ i = .int .i64 k ∧ Below w.heap.size w wr) (fun i _ => n - (intOf i).toNat)
  case atStart => exact ⟨0, Nat.zero_le _, rfl, Below.refl _ _⟩
  case round =>
    obtain ⟨k, hk, rfl, hbr⟩ := hrel
    by_cases hlt : k < n
    · have hkl : k < l.length := by rw [← HN.out]; exact hlt
      have hnil : l ≠ [] := fun e => by rw [e] at hkl; simp at hkl
      rcases ha with h | ⟨ga, oa, rfl, ha⟩
      · exact absurd h hnil
      rcases hb with h | ⟨gb, ob, rfl, hb⟩
      · exact absurd h hnil
      obtain ⟨x, hx⟩ : ∃ x, l[k]? = some x := ⟨l[k], List.getElem?_eq_getElem hkl⟩
      have a0 := (ha k x hx).below hbr (ha k x hx).lt
      have b0 := (hb k x hx).below hbr (hb k x hx).lt
      unfold EAt at a0 b0
      have HE : (x.toList == x.toList) = true := by simp
      have HF : (x.toList != x.toList) = false := by simp
      clear ha hb hnil hkl hx
      go_wp2_with fail
      go_quiet (fail)
      go_wp2_with fail
      exact ⟨⟨k + 1, by omega, by go_num, below_drewN hbr nq⟩, by simp only [intOf]; omega⟩
    · have hkn : k = n := by omega
      subst hkn
      go_wp2_with fail
      go_ret
      exact ⟨rfl, hbr⟩
end Go.Proofs.Ytafhgigkhbcnjaa.LU.T
