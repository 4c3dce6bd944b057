/- Least recently used, in plain mathematics: a ring of blocks whose neighbours know one another, and the list that it tells. -/
import Derived.WalkKit
namespace Go.Proofs.Ytafhgigkhbcnjaa.LU
set_option linter.unusedVariables false
set_option linter.unusedSimpArgs false
/-- f, but v at i. -/
def upd {α : Type} (f : Nat → α) (i : Nat) (v : α) : Nat → α := fun j => if j = i then v else f j
theorem upd_same {α : Type} (f : Nat → α) (i : Nat) (v : α) : upd f i v i = v := if_pos rfl
theorem upd_other {α : Type} (f : Nat → α) {i j : Nat} (v : α) (h : j ≠ i) : upd f i v j = f j := if_neg h
/-- Each two that stand side by side know one another: q leads on, p leads back. -/
def Adj (p q : Nat → Nat) : List Nat → Prop
  | [] => True
  | [_] => True
  | a :: b :: l => (q a = b ∧ p b = a) ∧ Adj p q (b :: l)
theorem adj_congr {p q p' q' : Nat → Nat} : ∀ {L : List Nat}, (∀ a ∈ L.dropLast, q' a = q a) → (∀ b ∈ L.tail, p' b = p b) → Adj p q L → Adj p' q' L
  | [], _, _, _ => trivial
  | [_], _, _, _ => trivial
  | a :: b :: l, h1, h2, h3 => by
    refine ⟨⟨(h1 a (by simp)).trans h3.1.1, (h2 b (by simp)).trans h3.1.2⟩, adj_congr (L := b :: l) (fun x hx => h1 x ?_) (fun x hx => h2 x ?_) h3.2⟩
    · rw [List.dropLast_cons_of_ne_nil (by simp)]; exact List.mem_cons_of_mem _ hx
    · exact List.mem_cons_of_mem _ hx
theorem adj_split {p q : Nat → Nat} {x : Nat} {B : List Nat} : ∀ {A : List Nat}, Adj p q (A ++ x :: B) ↔ Adj p q (A ++ [x]) ∧ Adj p q (x :: B)
  | [] => by simp [Adj]
  | [a] => by
    show (_ ∧ Adj p q (x :: B)) ↔ (_ ∧ True) ∧ _
    simp [and_assoc]
  | a :: b :: A => by
    show (_ ∧ Adj p q (b :: A ++ x :: B)) ↔ (_ ∧ Adj p q (b :: A ++ [x])) ∧ _
    rw [adj_split (A := b :: A)]
    simp only [and_assoc]
/-- The ring: the knot, the blocks, the knot. -/
def Rg (p q : Nat → Nat) (kn : Nat) (bl : List Nat) : Prop := Adj p q (kn :: (bl ++ [kn]))
theorem rg_around {p q : Nat → Nat} {kn x : Nat} {l1 l2 : List Nat} (h : Rg p q kn (l1 ++ x :: l2)) :
    ∃ A a b B, kn :: l1 = A ++ [a] ∧ l2 ++ [kn] = b :: B ∧ Adj p q (A ++ [a]) ∧ q a = x ∧ p x = a ∧ q x = b ∧ p b = x ∧ Adj p q (b :: B) := by
  obtain ⟨A, a, hA⟩ : ∃ A a, kn :: l1 = A ++ [a] := ⟨(kn :: l1).dropLast, (kn :: l1).getLast (by simp), (List.dropLast_concat_getLast (by simp)).symm⟩
  obtain ⟨b, B, hB⟩ : ∃ b B, l2 ++ [kn] = b :: B := by
    cases l2 with
    | nil => exact ⟨kn, [], rfl⟩
    | cons y l => exact ⟨y, l ++ [kn], rfl⟩
  unfold Rg at h
  rw [show kn :: (l1 ++ x :: l2 ++ [kn]) = A ++ a :: x :: b :: B by
    rw [show kn :: (l1 ++ x :: l2 ++ [kn]) = (kn :: l1) ++ x :: (l2 ++ [kn]) by simp, hA, hB]; simp] at h
  obtain ⟨h1, h2⟩ := adj_split.1 h
  exact ⟨A, a, b, B, hA, hB, h1, h2.1.1, h2.1.2, h2.2.1.1, h2.2.1.2, h2.2.2⟩
theorem rg_mem {p q : Nat → Nat} {kn x : Nat} {bl : List Nat} (h : Rg p q kn bl) (hx : x ∈ bl) : p x ∈ kn :: bl ∧ q x ∈ kn :: bl := by
  obtain ⟨l1, l2, rfl⟩ := List.append_of_mem hx
  obtain ⟨A, a, b, B, hA, hB, _, _, h1, h2, _, _⟩ := rg_around h
  rw [h1, h2]
  constructor
  · have : a ∈ kn :: l1 := by rw [hA]; simp
    simp at this ⊢
    rcases this with h | h
    · exact .inl h
    · exact .inr (.inl h)
  · have : b ∈ l2 ++ [kn] := by rw [hB]; simp
    simp at this ⊢
    rcases this with h | h
    · exact .inr (.inr (.inr h))
    · exact .inl h
/-- x is cut out. -/
theorem rg_cut {p q : Nat → Nat} {kn x : Nat} {l1 l2 : List Nat} (hnd : (kn :: (l1 ++ x :: l2)).Nodup) (h : Rg p q kn (l1 ++ x :: l2)) :
    Rg (upd p (q x) (p x)) (upd q (p x) (q x)) kn (l1 ++ l2) := by
  obtain ⟨A, a, b, B, hA, hB, h1, h2, h3, h4, h5, h6⟩ := rg_around h
  rw [h3, h4]
  unfold Rg
  rw [show kn :: (l1 ++ l2 ++ [kn]) = A ++ a :: b :: B by
    rw [show kn :: (l1 ++ l2 ++ [kn]) = (kn :: l1) ++ (l2 ++ [kn]) by simp, hA, hB]; simp]
  have hk : kn ∉ l1 ++ x :: l2 := (List.nodup_cons.1 hnd).1
  have hn := (List.nodup_cons.1 hnd).2
  have hd : ∀ y ∈ l1, y ∉ l2 := fun y h1 h2 => (List.nodup_append.1 hn).2.2 y h1 y (List.mem_cons_of_mem _ h2) rfl
  have hl1 : (kn :: l1).Nodup := List.nodup_cons.2 ⟨fun h => hk (by simp [h]), (List.nodup_append.1 hn).1⟩
  have hl2 : (l2 ++ [kn]).Nodup := by
    rw [List.nodup_append]
    refine ⟨(List.nodup_cons.1 (List.nodup_append.1 hn).2.1).2, by simp, fun y hy z hz e => ?_⟩
    simp at hz
    subst hz; subst e
    exact hk (by simp [hy])
  have ha : a ∈ kn :: l1 := by rw [hA]; simp
  have hb : b ∈ l2 ++ [kn] := by rw [hB]; simp
  have haA : a ∉ A := by
    rw [hA, List.nodup_append] at hl1
    exact fun h => hl1.2.2 a h a (by simp) rfl
  have hbB : b ∉ B := by rw [hB] at hl2; exact (List.nodup_cons.1 hl2).1
  have hal2 : a ∉ l2 := by
    intro hh
    rcases List.mem_cons.1 ha with h' | h'
    · exact hk (by rw [← h']; simp [hh])
    · exact hd a h' hh
  have hbl1 : b ∉ l1 := by
    intro hh
    rcases List.mem_append.1 hb with h' | h'
    · exact hd b hh h'
    · simp at h'
      exact hk (by rw [← h']; simp [hh])
  refine adj_split.2 ⟨adj_congr (fun y hy => upd_other _ _ ?_) (fun y hy => upd_other _ _ ?_) h1, ⟨upd_same _ _ _, upd_same _ _ _⟩, adj_congr (fun y hy => upd_other _ _ ?_) (fun y hy => upd_other _ _ ?_) h6⟩
  · rintro rfl
    rw [List.dropLast_append_of_ne_nil (by simp)] at hy
    simp at hy
    exact haA hy
  · rintro rfl
    rw [← hA] at hy
    exact hbl1 hy
  · rintro rfl
    rw [← hB, List.dropLast_append_of_ne_nil (by simp)] at hy
    simp at hy
    exact hal2 hy
  · rintro rfl
    exact hbB hy
/-- x is put behind the knot. -/
theorem rg_link {p q : Nat → Nat} {kn x : Nat} {bl : List Nat} (hnd : (kn :: x :: bl).Nodup) (h : Rg p q kn bl) :
    Rg (upd (upd p x kn) (q kn) x) (upd (upd q x (q kn)) kn x) kn (x :: bl) ∧ q kn ∈ kn :: bl := by
  obtain ⟨b, B, hB⟩ : ∃ b B, bl ++ [kn] = b :: B := by
    cases bl with
    | nil => exact ⟨kn, [], rfl⟩
    | cons y l => exact ⟨y, l ++ [kn], rfl⟩
  unfold Rg at h
  rw [hB] at h
  obtain ⟨⟨h1, h2⟩, h3⟩ := h
  rw [h1]
  have hk : kn ∉ x :: bl := (List.nodup_cons.1 hnd).1
  have hx : x ∉ bl := (List.nodup_cons.1 (List.nodup_cons.1 hnd).2).1
  have hn : bl.Nodup := (List.nodup_cons.1 (List.nodup_cons.1 hnd).2).2
  have hb : b ∈ bl ++ [kn] := by rw [hB]; simp
  have hxk : x ≠ kn := fun e => hk (by simp [e])
  have hl2 : (bl ++ [kn]).Nodup := by
    rw [List.nodup_append]
    refine ⟨hn, by simp, fun y hy z hz e => ?_⟩
    simp at hz
    subst hz; subst e
    exact hk (by simp [hy])
  have hbB : b ∉ B := by rw [hB] at hl2; exact (List.nodup_cons.1 hl2).1
  have hxb : x ≠ b := by
    rintro rfl
    rcases List.mem_append.1 hb with h' | h'
    · exact hx h'
    · simp at h'; exact hxk h'
  have hxB : x ∉ bl ++ [kn] := by
    intro h'
    rcases List.mem_append.1 h' with h' | h'
    · exact hx h'
    · simp at h'; exact hxk h'
  refine ⟨?_, ?_⟩
  · unfold Rg
    rw [show x :: bl ++ [kn] = x :: b :: B by rw [List.cons_append, hB]]
    refine ⟨⟨upd_same _ _ _, (upd_other _ _ hxb).trans (upd_same _ _ _)⟩, ⟨(upd_other _ _ hxk).trans (upd_same _ _ _), upd_same _ _ _⟩, adj_congr (fun y hy => ?_) (fun y hy => ?_) h3⟩
    · rw [← hB, List.dropLast_append_of_ne_nil (by simp)] at hy
      simp at hy
      rw [upd_other _ _ (fun e => hk (by simp [← e, hy])), upd_other _ _ (fun e => hx (by rw [← e]; exact hy))]
    · have hy' : y ∈ bl ++ [kn] := by rw [hB]; exact List.mem_cons_of_mem _ hy
      rw [upd_other _ _ (fun e => hbB (by rw [← e]; exact hy)), upd_other _ _ (fun e => hxB (by rw [← e]; exact hy'))]
  · rcases List.mem_append.1 hb with h' | h'
    · exact List.mem_cons_of_mem _ h'
    · simp at h'; simp [h']
section
variable {κ : Type} [DecidableEq κ]
/-- What is kept without k. -/
def without (k : κ) (l : List (κ × Int)) : List (κ × Int) := l.filter fun r => decide (r.1 ≠ k)
/-- Put. -/
def putL (c : Nat) (l : List (κ × Int)) (k : κ) (v : Int) : List (κ × Int) := ((k, v) :: without k l).take c
/-- What Get finds. -/
def gotL (l : List (κ × Int)) (k : κ) : Option Int := (l.find? fun r => decide (r.1 = k)).map (·.2)
/-- Get. -/
def getL (l : List (κ × Int)) (k : κ) : List (κ × Int) := match gotL l k with
  | some v => (k, v) :: without k l
  | none => l
/-- The list that blocks tell. -/
def rowsOf (key : Nat → κ) (val : Nat → Int) (bl : List Nat) : List (κ × Int) := bl.map fun b => (key b, val b)
omit [DecidableEq κ] in
theorem rows_length (key : Nat → κ) (val : Nat → Int) (bl : List Nat) : (rowsOf key val bl).length = bl.length := by simp [rowsOf]
theorem without_rows {key : Nat → κ} {val : Nat → Int} {l1 l2 : List Nat} {e : Nat} (h : ((l1 ++ e :: l2).map key).Nodup) : without (key e) (rowsOf key val (l1 ++ e :: l2)) = rowsOf key val (l1 ++ l2) := by
  unfold without rowsOf
  rw [List.map_append, List.filter_append, List.map_append, List.map_cons]
  rw [List.map_append, List.map_cons, List.nodup_append] at h
  obtain ⟨_, h2, h3⟩ := h
  have h4 := (List.nodup_cons.1 h2).1
  congr 1
  · rw [List.filter_eq_self]
    intro r hr
    obtain ⟨b, hb, rfl⟩ := List.mem_map.1 hr
    simp only [decide_eq_true_eq]
    exact fun e => h3 (key b) (List.mem_map_of_mem hb) _ (List.mem_cons_self) e
  · rw [List.filter_cons_of_neg (by simp), List.filter_eq_self]
    intro r hr
    obtain ⟨b, hb, rfl⟩ := List.mem_map.1 hr
    simp only [decide_eq_true_eq]
    exact fun e => h4 (by rw [← e]; exact List.mem_map_of_mem hb)
theorem without_no {key : Nat → κ} {val : Nat → Int} {bl : List Nat} {k : κ} (h : ∀ b ∈ bl, key b ≠ k) : without k (rowsOf key val bl) = rowsOf key val bl := by
  unfold without rowsOf
  rw [List.filter_eq_self]
  intro r hr
  obtain ⟨b, hb, rfl⟩ := List.mem_map.1 hr
  simpa using h b hb
theorem got_rows {key : Nat → κ} {val : Nat → Int} : ∀ {bl : List Nat} {e : Nat}, (bl.map key).Nodup → e ∈ bl → gotL (rowsOf key val bl) (key e) = some (val e)
  | [], e, _, h => by simp at h
  | b :: bl, e, hn, h => by
    unfold gotL rowsOf
    rw [List.map_cons, List.find?_cons]
    by_cases hk : key b = key e
    · have : b = e := by
        rcases List.mem_cons.1 h with rfl | h
        · rfl
        · exact absurd (hk ▸ List.mem_map_of_mem h) (List.nodup_cons.1 hn).1
      subst this
      simp
    · rw [show decide (key b = key e) = false from decide_eq_false hk]
      refine got_rows (List.nodup_cons.1 hn).2 ((List.mem_cons.1 h).resolve_left ?_)
      rintro rfl
      exact hk rfl
theorem got_no {key : Nat → κ} {val : Nat → Int} {bl : List Nat} {k : κ} (h : ∀ b ∈ bl, key b ≠ k) : gotL (rowsOf key val bl) k = none := by
  unfold gotL rowsOf
  rw [Option.map_eq_none_iff, List.find?_eq_none]
  intro r hr
  obtain ⟨b, hb, rfl⟩ := List.mem_map.1 hr
  simpa using h b hb
end
end Go.Proofs.Ytafhgigkhbcnjaa.LU
