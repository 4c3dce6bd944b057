import Derived.Test.YtonbfcpbgkpbaabJ7
import Derived.Test.YtonbfcpbgkpbaabJ14
import Derived.Test.YtonbfcpbgkpbaabJ15
import Derived.Test.YtonbfcpbgkpbaabJ16
import Derived.Test.YtonbfcpbgkpbaabJ11
import Derived.Test.YtonbfcpbgkpbaabJ12
section
/- Recipes: how long Parse's lists are: the mathematics. -/
namespace Go.Proofs.Ytonbfcpbgkpbaab
open Go.RowKit
set_option linter.unusedVariables false
set_option linter.unusedSimpArgs false
theorem rules_le : ∀ (f : Nat) (st : PS) (r : RD) (N : Nat), r.M.length + f ≤ N → r.A.length + st.2.length ≤ N → r.B.length + st.2.length ≤ N → r.C.length + st.2.length ≤ N → (rulesF f st r).1.le N := by
  intro f
  induction f with
  | zero =>
    intro st r N h1 h2 h3 h4
    exact ⟨by show r.M.length ≤ N; omega, by show r.A.length ≤ N; omega, by show r.B.length ≤ N; omega, by show r.C.length ≤ N; omega⟩
  | succ f ih =>
    intro st r N h1 h2 h3 h4
    unfold rulesF
    by_cases hc : st.1 = false ∧ headK st ≠ 8
    · rw [if_pos hc]
      have ht := take_length nameM st
      have hm := mergeP_length (takeP nameM st).2
      have hs := spansP_length (takeP nameM st).2
      unfold ruleP
      simp only
      split
      · exact ih _ _ _ (by simp only [List.length_append, List.length_cons, List.length_nil]; omega) (by simp only; omega) (by simp only; omega) (by simp only; omega)
      · split
        · exact ih _ _ _ (by simp only; omega) (by simp only [List.length_append]; omega) (by simp only; omega) (by simp only; omega)
        · split
          · exact ih _ _ _ (by simp only; omega) (by simp only; omega) (by simp only [List.length_append]; omega) (by simp only; omega)
          · split
            · exact ih _ _ _ (by simp only; omega) (by simp only; omega) (by simp only; omega) (by simp only [List.length_append]; omega)
            · exact ih _ _ _ (by simp only; omega) (by simp only; omega) (by simp only; omega) (by simp only; omega)
    · rw [if_neg hc]
      exact ⟨by show r.M.length ≤ N; omega, by show r.A.length ≤ N; omega, by show r.B.length ≤ N; omega, by show r.C.length ≤ N; omega⟩
theorem mean_len : ∀ (l : List Wr) (d d' : MD), meanF l d = .ok d' → d'.W.length = d.W.length ∧ d'.M.length = d.M.length + l.length
  | [], d, d', h => by cases h; exact ⟨rfl, rfl⟩
  | x :: l, d, d', h => by
    unfold meanF at h
    cases hm : meanP x d with
    | error e => rw [hm] at h; cases h
    | ok d1 =>
      rw [hm] at h
      obtain ⟨h1, h2⟩ := mean_len l d1 d' h
      unfold meanP at hm
      split at hm
      · cases hm
      · split at hm
        · cases hm
        · simp only at hm
          split at hm
          · cases hm
          · cases hm
            simp only [List.length_set, List.length_append, List.length_cons, List.length_nil] at h1 h2 ⊢
            exact ⟨h1, by omega⟩
/-- Parse's lists are no longer than its text, by and large. -/
theorem parseA_len {l : List UInt8} {d : PD} (h : parseA l = .ok d) : d.W.length ≤ l.length + 1 ∧ d.M.length ≤ l.length + 1 ∧ d.A.length ≤ l.length + 1 ∧ d.B.length ≤ l.length + 1 ∧ d.C.length ≤ l.length + 1 := by
  unfold parseA at h
  split at h
  · cases h
  · simp only at h
    have hN := strm_length (l.length + 1) l 0
    have hr := rules_le (strm (l.length + 1) l 0).length (false, strm (l.length + 1) l 0) ⟨[], [], [], []⟩ (l.length + 1) (by show 0 + _ ≤ _; omega) (by show 0 + _ ≤ _; simp only; omega) (by show 0 + _ ≤ _; simp only; omega) (by show 0 + _ ≤ _; simp only; omega)
    obtain ⟨r1, r2, r3, r4⟩ := hr
    split at h
    · cases h
    · split at h
      · cases h
      · rename_i d' he
        cases h
        obtain ⟨h1, h2⟩ := mean_len _ _ _ he
        simp only [List.length_replicate, List.length_nil] at h1 h2
        exact ⟨by simp only; omega, by simp only; omega, r2, r3, r4⟩
end Go.Proofs.Ytonbfcpbgkpbaab
end
section
/- RecipeKept: three books on their way. -/
namespace Go.Proofs.Ytonbfcpbgkpbaab
open Go.RowKit Go.Sort Go.Joins
set_option linter.unusedVariables false
/-- A book of texts: n lists at the most, that lie under s. -/
def BkW3 (w : World) (base n s : Nat) : Prop := ∃ vl vw es held, (n = 0 ∨ 0 < es.length) ∧ es.length ≤ n ∧ BW.BookInv w base base vl vw es held ∧ BW.Bnd es s
theorem BkW3.over {w w1 : World} {base n s : Nat} (h : BkW3 w base n s) {S : Nat → Prop} (ho : Only w w1 S) (hS : ∀ k, S k → ¬ BW.Wr w base k) : BkW3 w1 base n s := by
  obtain ⟨vl, vw, es, held, h1, h2, h3, h4⟩ := h
  exact ⟨vl, vw, es, held, h1, h2, h3.over (Nat.le_refl _) ho hS, h4⟩
theorem BkW3.below {w w1 : World} {base n s : Nat} (h : BkW3 w base n s) (hb : Below w.heap.size w w1) : BkW3 w1 base n s := h.over (Only.ofBelow (S := fun _ => False) hb) (fun _ h => h.elim)
theorem BkW3.up {w : World} {base n s : Nat} (h : BkW3 w base n s) : BkW3 w base n w.heap.size := by
  obtain ⟨vl, vw, es, held, h1, h2, h3, h4⟩ := h
  exact ⟨vl, vw, es, held, h1, h2, h3, h3.bnd⟩
theorem BkW3.keep {w : World} {base n s s' : Nat} (h : BkW3 w base n s) (hn : n ≤ 100) {a : Option Addr} {c : Nat} {l : List ByteArray} (hv : BW.OV w s (.slice a l.length c) l) (hl : l.length ≤ 1000000) (hb : base ≤ s) (hs : s ≤ s') (hw : base ≤ w.heap.size) (hu : ∀ g, ob (.slice a l.length c) = some g → g < s') :
    Calls Try.prog 8 #[.pointer (some ⟨base, 0, none⟩), .slice a l.length c] w fun e w' => e = .returned (.tuple #[]) ∧ BkW3 w' base (n + 1) s' ∧ Only w w' (BW.Wk w base) := by
  obtain ⟨vl, vw, es, held, h1, h2, h3, h4⟩ := h
  refine (BW.keep_any w base base vl vw es held a c l h3 (hv.le hb) hw (by omega) (by omega) (h4.fresh hv)).mono ?_
  rintro e w' ⟨rfl, hp⟩
  obtain ⟨vl', vw', es', held', g1, g2, g3, g4, g5⟩ := hp.use h3 (Nat.le_refl _) h4 hs hu
  exact ⟨rfl, ⟨vl', vw', es', held', .inr g1, by omega, g3, g4⟩, g5⟩
theorem BkW3.apart {w : World} {base n s : Nat} (h : BkW3 w base n s) (h0 : 0 < n) (hn : n ≤ 100) :
    Calls Try.prog 11 #[.pointer (some ⟨base, 0, none⟩), .func (.func 12) #[] #[]] w fun e w' => e = .returned (.bool true) ∧ Only w w' (BW.Wr w base) := by
  obtain ⟨vl, vw, es, held, h1, h2, h3, h4⟩ := h
  exact BW.apart_any w base base vl vw es held h3 (by omega) (by omega) (Nat.le_refl _)
/-- A book of merges: n lists at the most, that lie under s. -/
def BkM3 (w : World) (base n s : Nat) : Prop := ∃ vl vw es held, (n = 0 ∨ 0 < es.length) ∧ es.length ≤ n ∧ BM.BookInv w base (base + 1) vl vw es held ∧ BM.Bnd es s
theorem BkM3.over {w w1 : World} {base n s : Nat} (h : BkM3 w base n s) {S : Nat → Prop} (ho : Only w w1 S) (hS : ∀ k, S k → ¬ BM.Wr w base k) : BkM3 w1 base n s := by
  obtain ⟨vl, vw, es, held, h1, h2, h3, h4⟩ := h
  exact ⟨vl, vw, es, held, h1, h2, h3.over (Nat.le_add_right _ _) ho hS, h4⟩
theorem BkM3.below {w w1 : World} {base n s : Nat} (h : BkM3 w base n s) (hb : Below w.heap.size w w1) : BkM3 w1 base n s := h.over (Only.ofBelow (S := fun _ => False) hb) (fun _ h => h.elim)
theorem BkM3.up {w : World} {base n s : Nat} (h : BkM3 w base n s) : BkM3 w base n w.heap.size := by
  obtain ⟨vl, vw, es, held, h1, h2, h3, h4⟩ := h
  exact ⟨vl, vw, es, held, h1, h2, h3, h3.bnd⟩
theorem BkM3.keep {w : World} {base n s s' : Nat} (h : BkM3 w base n s) (hn : n ≤ 100) {a : Option Addr} {c : Nat} {l : List Mg} (hv : BM.OV w s (.slice a l.length c) l) (hl : l.length ≤ 1000000) (hb : base ≤ s) (hs : s ≤ s') (hw : base ≤ w.heap.size) (hu : ∀ g, ob (.slice a l.length c) = some g → g < s') :
    Calls Try.prog 9 #[.pointer (some ⟨base + 1, 0, none⟩), .slice a l.length c] w fun e w' => e = .returned (.tuple #[]) ∧ BkM3 w' base (n + 1) s' ∧ Only w w' (BM.Wk w base) := by
  obtain ⟨vl, vw, es, held, h1, h2, h3, h4⟩ := h
  refine (BM.keep_any w base (base + 1) vl vw es held a c l h3 (hv.le hb) hw (by omega) (by omega) (h4.fresh hv)).mono ?_
  rintro e w' ⟨rfl, hp⟩
  obtain ⟨vl', vw', es', held', g1, g2, g3, g4, g5⟩ := hp.use h3 (Nat.le_add_right _ _) h4 hs hu
  exact ⟨rfl, ⟨vl', vw', es', held', .inr g1, by omega, g3, g4⟩, g5⟩
theorem BkM3.apart {w : World} {base n s : Nat} (h : BkM3 w base n s) (h0 : 0 < n) (hn : n ≤ 100) :
    Calls Try.prog 13 #[.pointer (some ⟨base + 1, 0, none⟩), .func (.func 14) #[] #[]] w fun e w' => e = .returned (.bool true) ∧ Only w w' (BM.Wr w base) := by
  obtain ⟨vl, vw, es, held, h1, h2, h3, h4⟩ := h
  exact BM.apart_any w base (base + 1) vl vw es held h3 (by omega) (by omega) (Nat.le_add_right _ _)
/-- A book of spans: n lists at the most, whose blocks F knows. -/
def BkS3 (w : World) (base n : Nat) (F : Nat → Prop) : Prop := ∃ vl vw es held, (n = 0 ∨ 0 < es.length) ∧ es.length ≤ n ∧ BS.BookInv w base (base + 2) vl vw es held ∧ ∀ e ∈ es, ∀ g, ob e.v = some g → F g
theorem BkS3.over {w w1 : World} {base n : Nat} {F : Nat → Prop} (h : BkS3 w base n F) {S : Nat → Prop} (ho : Only w w1 S) (hS : ∀ k, S k → ¬ BS.Wr w base k) : BkS3 w1 base n F := by
  obtain ⟨vl, vw, es, held, h1, h2, h3, h4⟩ := h
  exact ⟨vl, vw, es, held, h1, h2, h3.over (Nat.le_add_right _ _) ho hS, h4⟩
theorem BkS3.below {w w1 : World} {base n : Nat} {F : Nat → Prop} (h : BkS3 w base n F) (hb : Below w.heap.size w w1) : BkS3 w1 base n F := h.over (Only.ofBelow (S := fun _ => False) hb) (fun _ h => h.elim)
theorem BkS3.up {w : World} {base n : Nat} {F : Nat → Prop} (h : BkS3 w base n F) : BkS3 w base n fun g => g < w.heap.size := by
  obtain ⟨vl, vw, es, held, h1, h2, h3, h4⟩ := h
  exact ⟨vl, vw, es, held, h1, h2, h3, h3.bnd⟩
theorem BkS3.keep {w : World} {base n : Nat} {F : Nat → Prop} (h : BkS3 w base n F) (hn : n ≤ 100) {a : Option Addr} {c : Nat} {l : List Sp} (hv : BS.OV w base (.slice a l.length c) l) (hl : l.length ≤ 1000000) (hw : base ≤ w.heap.size) (hu : ∀ g, F g → ob (.slice a l.length c) ≠ some g) :
    Calls Try.prog 10 #[.pointer (some ⟨base + 2, 0, none⟩), .slice a l.length c] w fun e w' => e = .returned (.tuple #[]) ∧ BkS3 w' base (n + 1) (fun g => F g ∨ ob (.slice a l.length c) = some g) ∧ Only w w' (BS.Wk w base) := by
  obtain ⟨vl, vw, es, held, h1, h2, h3, h4⟩ := h
  refine (BS.keep_any w base (base + 2) vl vw es held a c l h3 hv hw (by omega) (by omega) (fun e he g hg => hu g (h4 e he g hg))).mono ?_
  rintro e w' ⟨rfl, vl', vw', es', held', u, k1, k2, k3, k4⟩
  refine ⟨rfl, ⟨vl', vw', es', held', .inr k1, by have := k2.length_le; simp at this; omega, k3, fun e he g hg => ?_⟩, k4.only.wider (fun i _ hi => h3.wk (Nat.le_add_right _ _) i hi)⟩
  have he' := k2.subset he
  rw [List.mem_append] at he'
  rcases he' with he' | he'
  · exact .inl (h4 e he' g hg)
  · simp only [List.mem_singleton] at he'
    rw [he'] at hg
    exact .inr hg
theorem BkS3.apart {w : World} {base n : Nat} {F : Nat → Prop} (h : BkS3 w base n F) (h0 : 0 < n) (hn : n ≤ 100) :
    Calls Try.prog 15 #[.pointer (some ⟨base + 2, 0, none⟩), .func (.func 16) #[] #[]] w fun e w' => e = .returned (.bool true) ∧ Only w w' (BS.Wr w base) := by
  obtain ⟨vl, vw, es, held, h1, h2, h3, h4⟩ := h
  exact BS.apart_any w base (base + 2) vl vw es held h3 (by omega) (by omega) (Nat.le_add_right _ _)
theorem wrW_notM {w : World} {base : Nat} : ∀ k, BW.Wr w base k → ¬ BM.Wr w base k := by
  rintro k ⟨-, h | h | h⟩ ⟨-, h' | h' | h'⟩ <;> exact absurd rfl (h.ne h' (by decide))
theorem wkW_notM {w : World} {base : Nat} : ∀ k, BW.Wk w base k → ¬ BM.Wr w base k := by
  rintro k ⟨-, h | h⟩ ⟨-, h' | h' | h'⟩ <;> exact absurd rfl (h.ne h' (by decide))
theorem wrW_notS {w : World} {base : Nat} : ∀ k, BW.Wr w base k → ¬ BS.Wr w base k := by
  rintro k ⟨-, h | h | h⟩ ⟨-, h' | h' | h'⟩ <;> exact absurd rfl (h.ne h' (by decide))
theorem wkW_notS {w : World} {base : Nat} : ∀ k, BW.Wk w base k → ¬ BS.Wr w base k := by
  rintro k ⟨-, h | h⟩ ⟨-, h' | h' | h'⟩ <;> exact absurd rfl (h.ne h' (by decide))
theorem wrM_notW {w : World} {base : Nat} : ∀ k, BM.Wr w base k → ¬ BW.Wr w base k := by
  rintro k ⟨-, h | h | h⟩ ⟨-, h' | h' | h'⟩ <;> exact absurd rfl (h.ne h' (by decide))
theorem wkM_notW {w : World} {base : Nat} : ∀ k, BM.Wk w base k → ¬ BW.Wr w base k := by
  rintro k ⟨-, h | h⟩ ⟨-, h' | h' | h'⟩ <;> exact absurd rfl (h.ne h' (by decide))
theorem wrM_notS {w : World} {base : Nat} : ∀ k, BM.Wr w base k → ¬ BS.Wr w base k := by
  rintro k ⟨-, h | h | h⟩ ⟨-, h' | h' | h'⟩ <;> exact absurd rfl (h.ne h' (by decide))
theorem wkM_notS {w : World} {base : Nat} : ∀ k, BM.Wk w base k → ¬ BS.Wr w base k := by
  rintro k ⟨-, h | h⟩ ⟨-, h' | h' | h'⟩ <;> exact absurd rfl (h.ne h' (by decide))
theorem wrS_notW {w : World} {base : Nat} : ∀ k, BS.Wr w base k → ¬ BW.Wr w base k := by
  rintro k ⟨-, h | h | h⟩ ⟨-, h' | h' | h'⟩ <;> exact absurd rfl (h.ne h' (by decide))
theorem wkS_notW {w : World} {base : Nat} : ∀ k, BS.Wk w base k → ¬ BW.Wr w base k := by
  rintro k ⟨-, h | h⟩ ⟨-, h' | h' | h'⟩ <;> exact absurd rfl (h.ne h' (by decide))
theorem wrS_notM {w : World} {base : Nat} : ∀ k, BS.Wr w base k → ¬ BM.Wr w base k := by
  rintro k ⟨-, h | h | h⟩ ⟨-, h' | h' | h'⟩ <;> exact absurd rfl (h.ne h' (by decide))
theorem wkS_notM {w : World} {base : Nat} : ∀ k, BS.Wk w base k → ¬ BM.Wr w base k := by
  rintro k ⟨-, h | h⟩ ⟨-, h' | h' | h'⟩ <;> exact absurd rfl (h.ne h' (by decide))
/-- The three books, and all that lay there ahead of them. -/
structure RS (W0 w : World) (base nw nm ns sw sm : Nat) (F : Nat → Prop) : Prop where
  b0 : base = W0.heap.size
  low : Below base W0 w
  bw : BkW3 w base nw sw
  bm : BkM3 w base nm sm
  bs : BkS3 w base ns F
theorem RS.size {W0 w : World} {base nw nm ns sw sm : Nat} {F : Nat → Prop} (h : RS W0 w base nw nm ns sw sm F) : base ≤ w.heap.size := by
  have := h.low.size
  have := h.b0
  omega
theorem RS.below {W0 w w' : World} {base nw nm ns sw sm : Nat} {F : Nat → Prop} (h : RS W0 w base nw nm ns sw sm F) (hb : Below w.heap.size w w') : RS W0 w' base nw nm ns sw sm F :=
  ⟨h.b0, h.low.trans (hb.mono h.size), h.bw.below hb, h.bm.below hb, h.bs.below hb⟩
theorem RS.up {W0 w : World} {base nw nm ns sw sm : Nat} {F : Nat → Prop} (h : RS W0 w base nw nm ns sw sm F) : RS W0 w base nw nm ns w.heap.size w.heap.size (fun g => g < w.heap.size) :=
  ⟨h.b0, h.low, h.bw.up, h.bm.up, h.bs.up⟩
theorem RS.keepW {W0 w : World} {base nw nm ns sw sm s' : Nat} {F : Nat → Prop} (h : RS W0 w base nw nm ns sw sm F) (hn : nw ≤ 100) {a : Option Addr} {c : Nat} {l : List ByteArray} (hv : BW.OV w sw (.slice a l.length c) l) (hl : l.length ≤ 1000000) (hb : base ≤ sw) (hs : sw ≤ s') (hu : ∀ g, ob (.slice a l.length c) = some g → g < s') :
    Calls Try.prog 8 #[.pointer (some ⟨base, 0, none⟩), .slice a l.length c] w fun e w' => e = .returned (.tuple #[]) ∧ RS W0 w' base (nw + 1) nm ns s' sm F ∧ Only w w' (BW.Wk w base) := by
  refine (h.bw.keep hn hv hl hb hs h.size hu).mono ?_
  rintro e w' hp
  have ho := hp.2.2
  exact ⟨hp.1, ⟨h.b0, h.low.trans (ho.below (fun i hi => hi.1) h.size), hp.2.1, h.bm.over ho wkW_notM, h.bs.over ho wkW_notS⟩, ho⟩
theorem RS.keepM {W0 w : World} {base nw nm ns sw sm s' : Nat} {F : Nat → Prop} (h : RS W0 w base nw nm ns sw sm F) (hn : nm ≤ 100) {a : Option Addr} {c : Nat} {l : List Mg} (hv : BM.OV w sm (.slice a l.length c) l) (hl : l.length ≤ 1000000) (hb : base ≤ sm) (hs : sm ≤ s') (hu : ∀ g, ob (.slice a l.length c) = some g → g < s') :
    Calls Try.prog 9 #[.pointer (some ⟨base + 1, 0, none⟩), .slice a l.length c] w fun e w' => e = .returned (.tuple #[]) ∧ RS W0 w' base nw (nm + 1) ns sw s' F ∧ Only w w' (BM.Wk w base) := by
  refine (h.bm.keep hn hv hl hb hs h.size hu).mono ?_
  rintro e w' hp
  have ho := hp.2.2
  exact ⟨hp.1, ⟨h.b0, h.low.trans (ho.below (fun i hi => hi.1) h.size), h.bw.over ho wkM_notW, hp.2.1, h.bs.over ho wkM_notS⟩, ho⟩
theorem RS.keepS {W0 w : World} {base nw nm ns sw sm : Nat} {F : Nat → Prop} (h : RS W0 w base nw nm ns sw sm F) (hn : ns ≤ 100) {a : Option Addr} {c : Nat} {l : List Sp} (hv : BS.OV w base (.slice a l.length c) l) (hl : l.length ≤ 1000000) (hu : ∀ g, F g → ob (.slice a l.length c) ≠ some g) :
    Calls Try.prog 10 #[.pointer (some ⟨base + 2, 0, none⟩), .slice a l.length c] w fun e w' => e = .returned (.tuple #[]) ∧ RS W0 w' base nw nm (ns + 1) sw sm (fun g => F g ∨ ob (.slice a l.length c) = some g) ∧ Only w w' (BS.Wk w base) := by
  refine (h.bs.keep hn hv hl h.size hu).mono ?_
  rintro e w' hp
  have ho := hp.2.2
  exact ⟨hp.1, ⟨h.b0, h.low.trans (ho.below (fun i hi => hi.1) h.size), h.bw.over ho wkS_notW, h.bm.over ho wkS_notM, hp.2.1⟩, ho⟩
/-- Blocks of lists and of data. -/
def Tys (w : World) (k : Nat) : Prop := TyB w 9 k ∨ TyB w 47 k ∨ TyB w 50 k ∨ TyB w 27 k
theorem wkW_tys {w : World} {base : Nat} : ∀ k, BW.Wk w base k → ¬ Tys w k := by
  rintro k ⟨-, h | h⟩ (h' | h' | h' | h') <;> exact absurd rfl (h.ne h' (by decide))
theorem wkM_tys {w : World} {base : Nat} : ∀ k, BM.Wk w base k → ¬ Tys w k := by
  rintro k ⟨-, h | h⟩ (h' | h' | h' | h') <;> exact absurd rfl (h.ne h' (by decide))
theorem wkS_tys {w : World} {base : Nat} : ∀ k, BS.Wk w base k → ¬ Tys w k := by
  rintro k ⟨-, h | h⟩ (h' | h' | h' | h') <;> exact absurd rfl (h.ne h' (by decide))
/-- What Parse handed out, in a box. -/
structure XS (w : World) (lo zx : Nat) (a0 a1 a2 a3 a4 : Option Addr) (c0 c1 c2 c3 c4 : Nat) (ws : List ByteArray) (ms : List Mg) (A B C : List Sp) : Prop where
  box : DBox w zx (.slice a0 ws.length c0) (.slice a1 ms.length c1) (.slice a2 A.length c2) (.slice a3 B.length c3) (.slice a4 C.length c4)
  o0 : BW.OV w lo (.slice a0 ws.length c0) ws
  o1 : BM.OV w lo (.slice a1 ms.length c1) ms
  o2 : BS.OV w lo (.slice a2 A.length c2) A
  o3 : BS.OV w lo (.slice a3 B.length c3) B
  o4 : BS.OV w lo (.slice a4 C.length c4) C
  dAB : Apart (.slice a2 A.length c2) (.slice a3 B.length c3)
  dAC : Apart (.slice a2 A.length c2) (.slice a4 C.length c4)
  dBC : Apart (.slice a3 B.length c3) (.slice a4 C.length c4)
theorem XS.over {w w' : World} {lo zx : Nat} {a0 a1 a2 a3 a4 : Option Addr} {c0 c1 c2 c3 c4 : Nat} {ws : List ByteArray} {ms : List Mg} {A B C : List Sp} (h : XS w lo zx a0 a1 a2 a3 a4 c0 c1 c2 c3 c4 ws ms A B C) {S : Nat → Prop} (ho : Only w w' S) (hS : ∀ k, S k → ¬ Tys w k) : XS w' lo zx a0 a1 a2 a3 a4 c0 c1 c2 c3 c4 ws ms A B C :=
  ⟨(ho.block zx h.box.lt (fun hs => hS _ hs (.inr (.inr (.inr ⟨_, h.box⟩))))).trans h.box, h.o0.over ho (fun k hk ht => hS k hk (.inl ht)), h.o1.over ho (fun k hk ht => hS k hk (.inr (.inl ht))), h.o2.over ho (fun k hk ht => hS k hk (.inr (.inr (.inl ht)))), h.o3.over ho (fun k hk ht => hS k hk (.inr (.inr (.inl ht)))), h.o4.over ho (fun k hk ht => hS k hk (.inr (.inr (.inl ht)))), h.dAB, h.dAC, h.dBC⟩
theorem XS.below {w w' : World} {lo zx : Nat} {a0 a1 a2 a3 a4 : Option Addr} {c0 c1 c2 c3 c4 : Nat} {ws : List ByteArray} {ms : List Mg} {A B C : List Sp} (h : XS w lo zx a0 a1 a2 a3 a4 c0 c1 c2 c3 c4 ws ms A B C) (hb : Below w.heap.size w w') : XS w' lo zx a0 a1 a2 a3 a4 c0 c1 c2 c3 c4 ws ms A B C :=
  h.over (Only.ofBelow (S := fun _ => False) hb) (fun _ h => h.elim)
theorem ob_own {v : Value} {g : Nat} (h : ob v = some g) : v.ownBlock = some g := by
  unfold ob at h
  split at h
  · split at h
    · cases h
    · exact h
  · cases h
/-- What a call of Parse hands out, refused or not. -/
structure XP (w : World) (lo : Nat) (a0 a1 a2 a3 a4 : Option Addr) (c0 c1 c2 c3 c4 : Nat) (ws : List ByteArray) (ms : List Mg) (A B C : List Sp) : Prop where
  o0 : BW.OV w lo (.slice a0 ws.length c0) ws
  o1 : BM.OV w lo (.slice a1 ms.length c1) ms
  o2 : BS.OV w lo (.slice a2 A.length c2) A
  o3 : BS.OV w lo (.slice a3 B.length c3) B
  o4 : BS.OV w lo (.slice a4 C.length c4) C
  dAB : Apart (.slice a2 A.length c2) (.slice a3 B.length c3)
  dAC : Apart (.slice a2 A.length c2) (.slice a4 C.length c4)
  dBC : Apart (.slice a3 B.length c3) (.slice a4 C.length c4)
  n0 : ws.length ≤ 1000000
  n1 : ms.length ≤ 1000000
  n2 : A.length ≤ 1000000
  n3 : B.length ≤ 1000000
  n4 : C.length ≤ 1000000
theorem XP.box {w w' : World} {lo zx : Nat} {a0 a1 a2 a3 a4 : Option Addr} {c0 c1 c2 c3 c4 : Nat} {ws : List ByteArray} {ms : List Mg} {A B C : List Sp} (h : XP w lo a0 a1 a2 a3 a4 c0 c1 c2 c3 c4 ws ms A B C) (hb : Below w.heap.size w w') (hD : DBox w' zx (.slice a0 ws.length c0) (.slice a1 ms.length c1) (.slice a2 A.length c2) (.slice a3 B.length c3) (.slice a4 C.length c4)) : XS w' lo zx a0 a1 a2 a3 a4 c0 c1 c2 c3 c4 ws ms A B C :=
  have ho : Only w w' (fun _ => False) := Only.ofBelow hb
  ⟨hD, h.o0.over ho (fun _ h => h.elim), h.o1.over ho (fun _ h => h.elim), h.o2.over ho (fun _ h => h.elim), h.o3.over ho (fun _ h => h.elim), h.o4.over ho (fun _ h => h.elim), h.dAB, h.dAC, h.dBC⟩
theorem cellsW_text (l : List (List UInt8)) : cellsW (l.map textOf) = l.flatMap encS1 := by
  induction l with
  | nil => rfl
  | cons x l ih => rw [List.map_cons, List.flatMap_cons, ← ih]; rfl
theorem parse_handed {s : ByteArray} {pl : Nat → Nat × Nat} {e : Ending} {w w' : World} (hs : s.size ≤ 4000) (h : ParsePost w pl (parseA (tl s)) e w') :
    Below w.heap.size w w' ∧ ∃ a0 a1 a2 a3 a4 c0 c1 c2 c3 c4 ws ms A B C p q r k, e = .returned (.tuple #[.agg #[.slice a0 (ws : List ByteArray).length c0, .slice a1 (ms : List Mg).length c1, .slice a2 (A : List Sp).length c2, .slice a3 (B : List Sp).length c3, .slice a4 (C : List Sp).length c4], .agg #[.int .i64 p, .int .i64 q, .int .i64 r], .int .i64 k]) ∧ XP w' w.heap.size a0 a1 a2 a3 a4 c0 c1 c2 c3 c4 ws ms A B C := by
  obtain ⟨hb, hm⟩ := h
  refine ⟨hb, ?_⟩
  cases hR : parseA (tl s) with
  | error y =>
    rw [hR] at hm
    exact ⟨none, none, none, none, none, 0, 0, 0, 0, 0, [], [], [], [], [], _, _, _, _, hm, ⟨none, 0, rfl, Nat.le_refl _, by omega, .inl ⟨rfl, rfl⟩⟩, ⟨none, 0, rfl, Nat.le_refl _, by omega, .inl ⟨rfl, rfl⟩⟩, ⟨none, 0, rfl, Nat.le_refl _, by omega, .inl ⟨rfl, rfl⟩⟩, ⟨none, 0, rfl, Nat.le_refl _, by omega, .inl ⟨rfl, rfl⟩⟩, ⟨none, 0, rfl, Nat.le_refl _, by omega, .inl ⟨rfl, rfl⟩⟩, (fun i hi => by cases hi), (fun i hi => by cases hi), (fun i hi => by cases hi), by simp, by simp, by simp, by simp, by simp⟩
  | ok d =>
    rw [hR] at hm
    obtain ⟨W, M, A, B, C, he, h1, h2, h3, h4, h5, d1, d2, d3⟩ := hm
    have hl := parseA_len hR
    rw [tl_len] at hl
    obtain ⟨a0, c0, e0, q0⟩ : BW.OV w' w.heap.size W (d.W.map textOf) := BW.OV.of_owns (by rw [cellsW_text, List.length_map]; exact h1)
    obtain ⟨a1, c1, e1, q1⟩ : BM.OV w' w.heap.size M d.M := BM.OV.of_owns h2
    obtain ⟨a2, c2, e2, q2⟩ : BS.OV w' w.heap.size A d.A := BS.OV.of_owns h3
    obtain ⟨a3, c3, e3, q3⟩ : BS.OV w' w.heap.size B d.B := BS.OV.of_owns h4
    obtain ⟨a4, c4, e4, q4⟩ : BS.OV w' w.heap.size C d.C := BS.OV.of_owns h5
    subst e0 e1 e2 e3 e4
    exact ⟨a0, a1, a2, a3, a4, c0, c1, c2, c3, c4, _, _, _, _, _, 0, 0, 0, 0, he, ⟨_, _, rfl, q0⟩, ⟨_, _, rfl, q1⟩, ⟨_, _, rfl, q2⟩, ⟨_, _, rfl, q3⟩, ⟨_, _, rfl, q4⟩, d1, d2, d3, by rw [List.length_map]; omega, by omega, by omega, by omega, by omega⟩
theorem RS.start (W0 : World) : RS W0 (((W0.alloc (.cells #[.slice none 0 0, .slice none 0 0, .int .i64 0, .bool false] 37)).alloc (.cells #[.slice none 0 0, .slice none 0 0, .int .i64 0, .bool false] 40)).alloc (.cells #[.slice none 0 0, .slice none 0 0, .int .i64 0, .bool false] 43)) W0.heap.size 0 0 0 0 0 (fun _ => False) := by
  have h1 : BkW3 (W0.alloc (.cells #[.slice none 0 0, .slice none 0 0, .int .i64 0, .bool false] 37)) W0.heap.size 0 0 := ⟨_, _, [], 0, .inl rfl, Nat.le_refl _, BW.book_new W0, fun e he => by simp at he⟩
  have b1 := box_below W0 (.cells #[.slice none 0 0, .slice none 0 0, .int .i64 0, .bool false] 37)
  obtain ⟨W1, hW1⟩ : ∃ W1, W1 = W0.alloc (.cells #[.slice none 0 0, .slice none 0 0, .int .i64 0, .bool false] 37) := ⟨_, rfl⟩
  have hs1 : W1.heap.size = W0.heap.size + 1 := by rw [hW1]; simp
  rw [← hW1] at h1 b1 ⊢
  have h2 : BkM3 (W1.alloc (.cells #[.slice none 0 0, .slice none 0 0, .int .i64 0, .bool false] 40)) W0.heap.size 0 0 := ⟨_, _, [], 0, .inl rfl, Nat.le_refl _, by rw [← hs1]; exact BM.book_new W1, fun e he => by simp at he⟩
  have b2 := box_below W1 (.cells #[.slice none 0 0, .slice none 0 0, .int .i64 0, .bool false] 40)
  obtain ⟨W2, hW2⟩ : ∃ W2, W2 = W1.alloc (.cells #[.slice none 0 0, .slice none 0 0, .int .i64 0, .bool false] 40) := ⟨_, rfl⟩
  have hs2 : W2.heap.size = W0.heap.size + 2 := by rw [hW2]; simp [hs1]
  rw [← hW2] at h2 b2 ⊢
  have h3 : BkS3 (W2.alloc (.cells #[.slice none 0 0, .slice none 0 0, .int .i64 0, .bool false] 43)) W0.heap.size 0 (fun _ => False) := ⟨_, _, [], 0, .inl rfl, Nat.le_refl _, by rw [← hs2]; exact BS.book_new W2, fun e he => by simp at he⟩
  have b3 := box_below W2 (.cells #[.slice none 0 0, .slice none 0 0, .int .i64 0, .bool false] 43)
  have b12 := b1.trans (b2.mono b1.size)
  exact ⟨rfl, b12.trans (b3.mono b12.size), (h1.below b2).below b3, h2.below b3, h3⟩
theorem ovltW {w : World} {base : Nat} {v : Value} {l : List ByteArray} (h : BW.OV w base v l) : ∀ g, ob v = some g → g < w.heap.size := by
  intro g hg
  obtain ⟨_, cur, hc⟩ := h.block hg
  exact (Array.getElem?_eq_some_iff.1 hc).1
theorem ovltM {w : World} {base : Nat} {v : Value} {l : List Mg} (h : BM.OV w base v l) : ∀ g, ob v = some g → g < w.heap.size := by
  intro g hg
  obtain ⟨_, cur, hc⟩ := h.block hg
  exact (Array.getElem?_eq_some_iff.1 hc).1
theorem ovltS {w : World} {base : Nat} {v : Value} {l : List Sp} (h : BS.OV w base v l) : ∀ g, ob v = some g → g < w.heap.size := by
  intro g hg
  obtain ⟨_, cur, hc⟩ := h.block hg
  exact (Array.getElem?_eq_some_iff.1 hc).1
/-- Two books are left. -/
structure RS2 (W0 w : World) (base nm ns sm : Nat) (F : Nat → Prop) : Prop where
  b0 : base = W0.heap.size
  low : Below base W0 w
  bm : BkM3 w base nm sm
  bs : BkS3 w base ns F
structure RS1 (W0 w : World) (base ns : Nat) (F : Nat → Prop) : Prop where
  b0 : base = W0.heap.size
  low : Below base W0 w
  bs : BkS3 w base ns F
theorem low_size {W0 w : World} {base : Nat} (b0 : base = W0.heap.size) (h : Below base W0 w) : base ≤ w.heap.size := by
  have := h.size
  omega
theorem RS.apartW {W0 w : World} {base nw nm ns sw sm : Nat} {F : Nat → Prop} (h : RS W0 w base nw nm ns sw sm F) (h0 : 0 < nw) (hn : nw ≤ 100) :
    Calls Try.prog 11 #[.pointer (some ⟨base, 0, none⟩), .func (.func 12) #[] #[]] w fun e w' => e = .returned (.bool true) ∧ RS2 W0 w' base nm ns sm F := by
  refine (h.bw.apart h0 hn).mono ?_
  rintro e w' ⟨rfl, ho⟩
  exact ⟨rfl, h.b0, h.low.trans (ho.below (fun i hi => hi.1) h.size), h.bm.over ho wrW_notM, h.bs.over ho wrW_notS⟩
theorem RS2.apartM {W0 w : World} {base nm ns sm : Nat} {F : Nat → Prop} (h : RS2 W0 w base nm ns sm F) (h0 : 0 < nm) (hn : nm ≤ 100) :
    Calls Try.prog 13 #[.pointer (some ⟨base + 1, 0, none⟩), .func (.func 14) #[] #[]] w fun e w' => e = .returned (.bool true) ∧ RS1 W0 w' base ns F := by
  refine (h.bm.apart h0 hn).mono ?_
  rintro e w' ⟨rfl, ho⟩
  exact ⟨rfl, h.b0, h.low.trans (ho.below (fun i hi => hi.1) (low_size h.b0 h.low)), h.bs.over ho wrM_notS⟩
theorem RS1.apartS {W0 w : World} {base ns : Nat} {F : Nat → Prop} (h : RS1 W0 w base ns F) (h0 : 0 < ns) (hn : ns ≤ 100) :
    Calls Try.prog 15 #[.pointer (some ⟨base + 2, 0, none⟩), .func (.func 16) #[] #[]] w fun e w' => e = .returned (.bool true) ∧ Below W0.heap.size W0 w' := by
  refine (h.bs.apart h0 hn).mono ?_
  rintro e w' ⟨rfl, ho⟩
  refine ⟨rfl, ?_⟩
  rw [← h.b0]
  exact h.low.trans (ho.below (fun i hi => hi.1) (low_size h.b0 h.low))
end Go.Proofs.Ytonbfcpbgkpbaab
end
section
/- tesseralaw7.RecipeKept: the walk. -/
namespace Go.Proofs.Ytonbfcpbgkpbaab
open Go.RowKit Go.Sort Go.Joins
set_option linter.unusedVariables false
set_option linter.unusedSimpArgs false
set_option maxRecDepth 100000
set_option maxHeartbeats 8000000 in
theorem kept_walk (a : ByteArray) (w : World) (hs : a.size ≤ 9223372036854775807) :
    Calls Try.prog 4 #[.string a] w fun e w' => e = .returned (.bool true) ∧ Below w.heap.size w w' := by
  go_enter Try.func4, Try.ntmps4
  go_wp2_with fail
  refine (few7_any a w).mono ?_
  rintro e w' ⟨rfl, hw⟩
  rw [hw]
  clear hw w'
  obtain ⟨src, hsrc⟩ : ∃ src, src = few7 a := ⟨_, rfl⟩
  have hsz : src.size ≤ 2000 := by rw [hsrc]; exact few7_size a
  rw [← hsrc]
  clear hsrc
  have HP : Hid (∀ wr : World, Calls Try.prog 6 #[.string src] wr (ParsePost wr (plT src) (parseA (tl src)))) := Lib.hid fun wr => parse_any src (plT src) wr (by omega) (fun y hy wx => placeOf_any src y.1 (by omega) (by have := (parseA_at (by rw [tl_len]; omega) hy).1; rwa [tl_len] at this) wx)
  have hR6 := RS.start w
  obtain ⟨base, hbase⟩ : ∃ base, base = w.heap.size := ⟨_, rfl⟩
  have HBS : Hid (base = w.heap.size) := hbase
  obtain ⟨V, hV⟩ : ∃ V, V = (((w.alloc (.cells #[.slice none 0 0, .slice none 0 0, .int .i64 0, .bool false] 37)).alloc (.cells #[.slice none 0 0, .slice none 0 0, .int .i64 0, .bool false] 40)).alloc (.cells #[.slice none 0 0, .slice none 0 0, .int .i64 0, .bool false] 43)) := ⟨_, rfl⟩
  have HV : Hid (V = (((w.alloc (.cells #[.slice none 0 0, .slice none 0 0, .int .i64 0, .bool false] 37)).alloc (.cells #[.slice none 0 0, .slice none 0 0, .int .i64 0, .bool false] 40)).alloc (.cells #[.slice none 0 0, .slice none 0 0, .int .i64 0, .bool false] 43))) := hV
  rw [← hV, ← hbase] at hR6
  clear hV hbase
  go_wp2_with fail
  rw [← HV.out, ← HBS.out]
  rw [show base + 1 + 1 = base + 2 from rfl]
  clear HV
  go_loopw [6, 7, 8, 9] (fun v x p k wr => ∃ i : Nat, i ≤ 2 ∧ v = .int .i64 (i : Nat) ∧ ∃ sw sm F, RS w wr base i i (3 * i) sw sm F) (fun v _ _ _ _ => 2 - (intOf v).toNat)
  case atStart => exact ⟨0, Nat.zero_le _, rfl, 0, 0, _, hR6⟩
  case round =>
    clear hR6
    obtain ⟨i, hi, rfl, sw, sm, F, hR⟩ := hrel
    have hR := hR.up
    have hlow : Below w.heap.size w wr := by rw [← HBS.out]; exact hR.low
    have hbsl : base ≤ wr.heap.size := hR.size
    by_cases hlt : i < 2
    · have hP := HP.out wr
      have HR : Hid (RS w wr base i i (3 * i) wr.heap.size wr.heap.size (fun g => g < wr.heap.size)) := hR
      clear hR hlow
      go_wp2_with fail
      refine hP.mono ?_
      rintro e w1 hp
      obtain ⟨hb1, a0, a1, a2, a3, a4, c0, c1, c2, c3, c4, ws, ms, A, B, C, p, q, r, k, rfl, hX⟩ := parse_handed (by omega) hp
      clear hP hp
      obtain ⟨hw0, hw1, hw2, hw3, hw4⟩ : ws.length ≤ 1000000 ∧ ms.length ≤ 1000000 ∧ A.length ≤ 1000000 ∧ B.length ≤ 1000000 ∧ C.length ≤ 1000000 := ⟨hX.n0, hX.n1, hX.n2, hX.n3, hX.n4⟩
      have h1R := HR.out.below hb1
      have HX : Hid (XP w1 wr.heap.size a0 a1 a2 a3 a4 c0 c1 c2 c3 c4 ws ms A B C) := hX
      have H1R : Hid (RS w w1 base i i (3 * i) wr.heap.size wr.heap.size (fun g => g < wr.heap.size)) := h1R
      clear hX h1R hb1 HR
      go_upto_region 9 with fail
      have hD := (DBox.new w1 (.slice a0 ws.length c0) (.slice a1 ms.length c1) (.slice a2 A.length c2) (.slice a3 B.length c3) (.slice a4 C.length c4))
      have b1 := box_below w1 (.cells #[.slice a0 ws.length c0, .slice a1 ms.length c1, .slice a2 A.length c2, .slice a3 B.length c3, .slice a4 C.length c4] 27)
      have b2 := b1.trans ((box_below (w1.alloc (.cells #[.slice a0 ws.length c0, .slice a1 ms.length c1, .slice a2 A.length c2, .slice a3 B.length c3, .slice a4 C.length c4] 27)) (.cells #[.int .i64 p, .int .i64 q, .int .i64 r] 29)).mono b1.size)
      have hD2 := hD.below (box_below _ (.cells #[.int .i64 p, .int .i64 q, .int .i64 r] 29)) hD.lt
      have h8R := H1R.out.below b2
      have hX9 := HX.out.box b2 hD2
      obtain ⟨w9, hw9⟩ : ∃ w9, w9 = ((w1.alloc (.cells #[.slice a0 ws.length c0, .slice a1 ms.length c1, .slice a2 A.length c2, .slice a3 B.length c3, .slice a4 C.length c4] 27)).alloc (.cells #[.int .i64 p, .int .i64 q, .int .i64 r] 29)) := ⟨_, rfl⟩
      rw [← hw9] at hX9 h8R ⊢
      obtain ⟨zx, hzx⟩ : ∃ zx, zx = w1.heap.size := ⟨_, rfl⟩
      rw [← hzx] at hX9 ⊢
      obtain ⟨sl, hsl⟩ : ∃ sl, sl = wr.heap.size := ⟨_, rfl⟩
      rw [← hsl] at hX9 h8R hbsl
      have h9R := h8R
      clear hD b1 b2 hD2 H1R HX hw9 hzx hsl h8R
      have HAB := Lib.hid hX9.dAB
      have HAC := Lib.hid hX9.dAC
      have HBC := Lib.hid hX9.dBC
      have hKp := h9R.keepW (s' := sl + w9.heap.size) (by omega) hX9.o0 hw0 hbsl (Nat.le_add_right _ _) (fun g hg => by have := ovltW hX9.o0 g hg; omega)
      have x0 := hX9.box.c0
      have HX9 := Lib.hid hX9
      clear hX9 h9R
      go_wp2_with fail
      refine hKp.mono ?_
      rintro e w10 ⟨rfl, h10R, ho⟩
      have hX10 := HX9.out.over ho wkW_tys
      clear hKp x0 HX9 ho
      have hKp := h10R.keepM (s' := sl + w10.heap.size) (by omega) hX10.o1 hw1 hbsl (Nat.le_add_right _ _) (fun g hg => by have := ovltM hX10.o1 g hg; omega)
      have x1 := hX10.box.c1
      have HX10 := Lib.hid hX10
      clear hX10 h10R
      go_wp2_with fail
      refine hKp.mono ?_
      rintro e w11 ⟨rfl, h11R, ho⟩
      have hX11 := HX10.out.over ho wkM_tys
      clear hKp x1 HX10 ho
      have hKp := h11R.keepS (by omega) (hX11.o2.le hbsl) hw2 (fun g hg hg' => by have := (hX11.o2.block hg').1; omega)
      have x2 := hX11.box.c2
      have HX11 := Lib.hid hX11
      clear hX11 h11R
      go_wp2_with fail
      refine hKp.mono ?_
      rintro e w12 ⟨rfl, h12R, ho⟩
      have hX12 := HX11.out.over ho wkS_tys
      clear hKp x2 HX11 ho
      have hKp := h12R.keepS (by omega) (hX12.o3.le hbsl) hw3 (fun g hg hg' => by
        rcases hg with hg | hg
        · have := (hX12.o3.block hg').1; omega
        · exact HAB.out g (ob_own hg) (ob_own hg'))
      have x3 := hX12.box.c3
      have HX12 := Lib.hid hX12
      clear hX12 h12R
      go_wp2_with fail
      refine hKp.mono ?_
      rintro e w13 ⟨rfl, h13R, ho⟩
      have hX13 := HX12.out.over ho wkS_tys
      clear hKp x3 HX12 ho
      have hKp := h13R.keepS (by omega) (hX13.o4.le hbsl) hw4 (fun g hg hg' => by
        rcases hg with (hg | hg) | hg
        · have := (hX13.o4.block hg').1; omega
        · exact HAC.out g (ob_own hg) (ob_own hg')
        · exact HBC.out g (ob_own hg) (ob_own hg'))
      have x4 := hX13.box.c4
      clear hX13 h13R
      go_wp2_with fail
      refine hKp.mono ?_
      rintro e w14 ⟨rfl, h14R, ho⟩
      clear hKp x4 ho HAB HAC HBC
      have H14 := Lib.hid h14R
      clear h14R hbsl
      go_wp2_with fail
      go_roundw
      case rel => exact ⟨i + 1, by omega, by go_num, _, _, _, H14.out⟩
      case measure => simp only [intOf]; omega
    · obtain rfl : i = 2 := by omega
      have HR : Hid (RS w wr base 2 2 6 wr.heap.size wr.heap.size (fun g => g < wr.heap.size)) := hR
      have hA1 := HR.out.apartW (by omega) (by omega)
      clear hR hbsl hlow
      go_wp2_with fail
      refine hA1.mono ?_
      rintro e v1 ⟨rfl, r1⟩
      have hA2 := r1.apartM (by omega) (by omega)
      clear hA1
      go_wp2_with fail
      refine hA2.mono ?_
      rintro e v2 ⟨rfl, r2⟩
      have hA3 := r2.apartS (by omega) (by omega)
      clear hA2
      go_wp2_with fail
      refine hA3.mono ?_
      rintro e v3 ⟨rfl, r3⟩
      clear hA3
      go_wp2_with fail
      refine (known_any _).mono ?_
      rintro e v6 ⟨rfl, hb6⟩
      go_wp2_with fail
      go_ret
      exact ⟨rfl, r3.trans (hb6.mono r3.size)⟩
end Go.Proofs.Ytonbfcpbgkpbaab
end
