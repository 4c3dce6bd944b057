import Derived.Test.YtonbfcpbgkpbaaaGreatDoorJ11
import Derived.Test.YtonbfcpbgkpbaaaGreatDoorJ12
import Derived.Test.YtonbfcpbgkpbaaaGreatDoorJ8
import Derived.Test.YtonbfcpbgkpbaaaGreatDoorRows
import Derived.ProofKit
import Derived.LaidMore
import Derived.OpenShut
import Derived.Stop.Joined
import Derived.Shelf.Strconv.Itoa3
import Derived.Test.YtonbfcpbgkpbaaaGreatDoorProg
import Derived.Lib.LaidTab
import Derived.Test.YtonbfcpbgkpbaaaGreatDoorJ7
import Derived.Test.YtonbfcpbgkpbaaaGreatDoorJ1
import Derived.Below
import Derived.Lib.Bytealg
import Derived.Lib.Walk
import Derived.Lib.Strings
import Derived.Lib.LastIndexByte
import Derived.Laws.Externs
import Derived.RangeFuncNested
import Derived.RangeFuncBound
import Derived.RangeFuncCalls
import Derived.RangeFuncLeaves
import Derived.RangeFuncBox
import Derived.Shelf.Abstract
import Derived.Shelf.RegionOpen
import Derived.WalkKit
import Derived.OwnWalkIn
import Derived.TacticsInMore
import Derived.LoopNIn
import Derived.LoopIn
import Derived.Maps.AppendAt
section
/- Recipes: the merges that are printed mean what they meant: the mathematics. -/
namespace Go.Proofs.YtonbfcpbgkpbaaaGreatDoor
set_option linter.unusedVariables false
set_option linter.unusedSimpArgs false
set_option maxRecDepth 100000
theorem toList_tl (s : ByteArray) : s.toList = tl s := ByteArray.toList_eq s
theorem tl_inj {a b : ByteArray} (h : tl a = tl b) : a = b := by
  cases a; cases b
  simp at h
  rw [h]
/-- How many marks stand below a number. -/
def cnt7 (M : Nat → Bool) : Nat → Nat
  | 0 => 0
  | k + 1 => cnt7 M k + (M k).toNat
theorem cnt7_le (M : Nat → Bool) : ∀ n, cnt7 M n ≤ n
  | 0 => Nat.le_refl _
  | n + 1 => by
    have := cnt7_le M n
    have := Bool.toNat_le (M n)
    unfold cnt7
    omega
theorem cnt7_all {M : Nat → Bool} : ∀ {n : Nat}, cnt7 M n = n → ∀ j, j < n → M j = true
  | 0, _, j, h => by omega
  | n + 1, h, j, hj => by
    have hle := cnt7_le M n
    rw [cnt7] at h
    cases hM : M n with
    | true =>
      rw [hM] at h
      by_cases e : j = n
      · rw [e]; exact hM
      · have h' : cnt7 M n = n := by simp at h; omega
        exact cnt7_all h' j (by omega)
    | false =>
      rw [hM] at h
      simp at h
      omega
theorem cnt7_add {M : Nat → Bool} {v : Nat} (hv : M v = false) : ∀ n, cnt7 (fun j => decide (j = v) || M j) n = cnt7 M n + (if v < n then 1 else 0)
  | 0 => rfl
  | n + 1 => by
    have ih := cnt7_add hv n
    rw [cnt7, cnt7, ih]
    rcases Nat.lt_trichotomy v n with h | h | h
    · rw [if_pos h, if_pos (by omega : v < n + 1), decide_eq_false (by omega : ¬ n = v), Bool.false_or]
      omega
    · subst h
      rw [if_neg (by omega), if_pos (by omega : v < v + 1), hv]
      simp
    · rw [if_neg (by omega), if_neg (by omega : ¬ v < n + 1), decide_eq_false (by omega : ¬ n = v), Bool.false_or]
      omega
theorem cnt7_low : ∀ n, 256 ≤ n → cnt7 (fun j => decide (j < 256)) n = 256 := by
  have h1 : ∀ k, k ≤ 256 → cnt7 (fun j => decide (j < 256)) k = k := by
    intro k
    induction k with
    | zero => intro _; rfl
    | succ k ih =>
      intro hk
      rw [cnt7, ih (by omega), decide_eq_true (by omega : k < 256)]
      rfl
  intro n hn
  induction n with
  | zero => omega
  | succ n ih =>
    by_cases e : n + 1 = 256
    · rw [e]; exact h1 256 (Nat.le_refl _)
    · rw [cnt7, ih (by omega), decide_eq_false (by omega : ¬ n < 256)]
      rfl
theorem unlike_inj {ws : List ByteArray} (h : unlikeF ws = true) : ∀ i j, i < j → j < ws.length → ws.getD i ⟨#[]⟩ ≠ ws.getD j ⟨#[]⟩ := by
  have hd : dcn ws ws.length = ws.length := by
    unfold unlikeF at h
    have : (dcn ws ws.length : Int) = (ws.length : Int) := by simpa using h
    omega
  have hk : ∀ n, dcn ws n = n → ∀ k, k < n → memB (ws.take k) (ws.getD k ⟨#[]⟩) = false := by
    intro n
    induction n with
    | zero => intro _ k hk; omega
    | succ n ih =>
      intro e k hk
      have hle := dcn_le ws n
      rw [dcn] at e
      by_cases hm : memB (ws.take n) (ws.getD n ⟨#[]⟩) = true
      · rw [if_pos hm] at e
        omega
      · rw [if_neg hm] at e
        by_cases e2 : k = n
        · rw [e2]; simpa using hm
        · exact ih (by omega) k (by omega)
  intro i j hij hj he
  have h1 := hk _ hd j hj
  unfold memB at h1
  rw [List.any_eq_false] at h1
  refine h1 (ws.getD i ⟨#[]⟩) ?_ (decide_eq_true he.symm)
  have hi : i < ws.length := by omega
  have : (ws.take j)[i]? = some (ws.getD i ⟨#[]⟩) := by
    rw [List.getElem?_take_of_lt hij, List.getElem?_eq_getElem hi]
    simp [List.getD, List.getElem?_eq_getElem hi]
  exact List.mem_of_getElem? this
theorem pre_tl {s p : ByteArray} (h : preB s p = true) : tl p = (tl s).take p.size ∧ p.size ≤ s.size := by
  unfold preB at h
  simp only [Bool.and_eq_true, decide_eq_true_eq] at h
  refine ⟨?_, h.1⟩
  have h2 := h.2
  rw [toList_tl, toList_tl] at h2
  have h3 : tl (s.extract 0 p.size) = tl p := by simpa using h2
  rw [← h3, tl_extract]
  simp
theorem cutOk_tl {ws : List ByteArray} {x : Mg} (h : cutOk ws x = true) : tl (wordF ws x.i.toNat) = tl (wordF ws x.l.toNat) ++ tl (wordF ws x.r.toNat) := by
  unfold cutOk cutP at h
  by_cases hp : preB (wordF ws x.i.toNat) (wordF ws x.l.toNat) = true
  · rw [if_pos hp] at h
    simp only [Bool.true_and] at h
    obtain ⟨h1, h2⟩ := pre_tl hp
    rw [toList_tl, toList_tl] at h
    have h3 : tl ((wordF ws x.i.toNat).extract (wordF ws x.l.toNat).size (wordF ws x.i.toNat).size) = tl (wordF ws x.r.toNat) := by simpa using h
    rw [← h3, tl_rest, h1, List.take_append_drop]
  · rw [if_neg hp] at h
    simp at h
/-- What is known when some merges are read: marks M. -/
structure Mean (ws : List ByteArray) (n : Nat) (M : Nat → Bool) (pre : List Mg) (d : MD) : Prop where
  len : d.W.length = n
  row : ∀ j, j < n → d.W.getD j [] = if M (256 + j) then tl (ws.getD j ⟨#[]⟩) else []
  two : ∀ id, 256 ≤ id → M id = true → 2 ≤ (tl (wordF ws id)).length ∧ id < 256 + n
  low : ∀ id, id < 256 → M id = true
  mem : ∀ id, 256 ≤ id → M id = true → (tl (wordF ws id), id) ∈ d.made
  src : ∀ e ∈ d.made, 256 ≤ e.2 ∧ e.2 < 256 + n ∧ e.1 = tl (wordF ws e.2)
  mg : d.M = pre
theorem word_hi {ws : List ByteArray} {id : Nat} (h : 256 ≤ id) : wordF ws id = ws.getD (id - 256) ⟨#[]⟩ := by
  unfold wordF
  rw [if_neg (by omega)]
theorem idOf_ok {ws : List ByteArray} {n : Nat} {M : Nat → Bool} {pre : List Mg} {d : MD} (h : Mean ws n M pre d) (hn : ws.length = n) (hu : unlikeF ws = true) {id : Nat} (hM : M id = true) : idOfP d.made (tl (wordF ws id)) = some id := by
  by_cases hlo : id < 256
  · have e : tl (wordF ws id) = [UInt8.ofNat id] := by unfold wordF; rw [if_pos hlo]
    rw [e]
    show some (UInt8.ofNat id).toNat = some id
    rw [UInt8.toNat_ofNat', Nat.mod_eq_of_lt (by omega)]
  · obtain ⟨h2, h3⟩ := h.two id (by omega) hM
    have hm := h.mem id (by omega) hM
    have e : idOfP d.made (tl (wordF ws id)) = (d.made.find? fun x => x.1 == tl (wordF ws id)).map (·.2) := by
      unfold idOfP
      split
      · rename_i c hc
        rw [hc] at h2
        simp at h2
      · rfl
    rw [e]
    cases hf : d.made.find? fun x => x.1 == tl (wordF ws id) with
    | none =>
      rw [List.find?_eq_none] at hf
      exact absurd (by simp) (hf _ hm)
    | some y =>
      have hy := List.find?_some hf
      have hyl := List.mem_of_find?_eq_some hf
      obtain ⟨y1, y2, y3⟩ := h.src y hyl
      have hy' : y.1 = tl (wordF ws id) := by simpa using hy
      rw [y3] at hy'
      have hw := tl_inj hy'
      rw [word_hi y1, word_hi (by omega)] at hw
      rcases Nat.lt_trichotomy (y.2 - 256) (id - 256) with h4 | h4 | h4
      · exact absurd hw (unlike_inj hu _ _ h4 (by omega))
      · show some y.2 = some id
        congr 1
        omega
      · exact absurd hw.symm (unlike_inj hu _ _ h4 (by omega))
theorem made_len {ws : List ByteArray} {n : Nat} {M : Nat → Bool} {pre : List Mg} {d : MD} (h : Mean ws n M pre d) {id : Nat} (hM : M id = true) : 1 ≤ (tl (wordF ws id)).length := by
  by_cases hlo : id < 256
  · unfold wordF
    rw [if_pos hlo]
    simp
  · have := (h.two id (by omega) hM).1
    omega
theorem isMadeF_nat {n : Nat} {M : Nat → Bool} {i : Int} (h : isMadeF n M i = true) : ∃ k : Nat, i = k ∧ k < n ∧ M k = true := by
  unfold isMadeF at h
  simp only [Bool.and_eq_true, decide_eq_true_eq] at h
  exact ⟨i.toNat, by omega, by omega, h.2⟩
theorem newId_nat {n : Nat} {M : Nat → Bool} {i : Int} (h : newId n M i = true) : ∃ k : Nat, i = k ∧ k < n ∧ M k = false := by
  unfold newId at h
  simp only [Bool.and_eq_true, decide_eq_true_eq, Bool.not_eq_true'] at h
  exact ⟨i.toNat, by omega, by omega, h.2⟩
/-- The words of a merge, as they are written. -/
def mgX (ws : List ByteArray) (x : Mg) (y : List UInt8 × List UInt8 × List UInt8) : Prop := y.1 = tl (wordF ws x.l.toNat) ∧ y.2.1 = tl (wordF ws x.r.toNat) ∧ ((valF 10 0 y.2.2 : Nat) : Int) = x.i
theorem mean_ok {ws : List ByteArray} {n : Nat} (hn : ws.length = n) (hu : unlikeF ws = true) : ∀ (ms : List Mg) (M : Nat → Bool) (pre : List Mg) (d : MD) (L : List Wr), Mean ws n M pre d → madeF ws (256 + n) ms M = true → L.length = ms.length → (∀ (i : Nat) (x : Mg) (y : Wr), ms[i]? = some x → L[i]? = some y → mgX ws x (wrX y)) →
    ∃ d' M', meanF L d = .ok d' ∧ Mean ws n M' (pre ++ ms) d' ∧ cnt7 M' (256 + n) = cnt7 M (256 + n) + ms.length
  | [], M, pre, d, L, h, _, hl, _ => by
    have : L = [] := List.length_eq_zero_iff.1 hl
    subst this
    exact ⟨d, M, rfl, by rw [List.append_nil]; exact h, rfl⟩
  | x :: ms, M, pre, d, L, h, hm, hl, hx => by
    cases L with
    | nil => simp at hl
    | cons y L =>
      rw [madeF_cons] at hm
      by_cases hc : newId (256 + n) M x.i = true ∧ isMadeF (256 + n) M x.l = true ∧ isMadeF (256 + n) M x.r = true ∧ cutOk ws x = true
      · rw [if_pos hc] at hm
        obtain ⟨c1, c2, c3, c4⟩ := hc
        obtain ⟨v, hv, hvn, hMv⟩ := newId_nat c1
        obtain ⟨a, ha, han, hMa⟩ := isMadeF_nat c2
        obtain ⟨b, hb, hbn, hMb⟩ := isMadeF_nat c3
        have hw := cutOk_tl c4
        obtain ⟨xl, xr, xi⟩ := x
        simp only at hv ha hb
        subst hv ha hb
        simp only [Int.toNat_natCast] at hm hw
        obtain ⟨y1, y2, y3⟩ := hx 0 _ y rfl rfl
        simp only [Int.toNat_natCast, wrX] at y1 y2 y3
        have hv256 : 256 ≤ v := by
          by_cases hh : v < 256
          · rw [h.low v hh] at hMv; cases hMv
          · omega
        have la := made_len h hMa
        have lb := made_len h hMb
        have hrow : d.W.getD (v - 256) [] = [] := by
          rw [h.row (v - 256) (by omega), show 256 + (v - 256) = v by omega, hMv]
          simp
        have hval : valF 10 0 y.i.s = v := by omega
        have hstep : meanP y d = .ok ⟨d.W.set (v - 256) (y.l.s ++ y.r.s), (y.l.s ++ y.r.s, v) :: d.made, d.M ++ [⟨a, b, v⟩]⟩ := by
          unfold meanP
          rw [y1, idOf_ok h hn hu hMa, y2]
          simp only
          rw [idOf_ok h hn hu hMb]
          simp only [hval]
          rw [if_neg (by rw [h.len, hrow]; simp; omega)]
        have hwv : y.l.s ++ y.r.s = tl (wordF ws v) := by rw [y1, y2, hw]
        rw [hwv] at hstep
        have hnew : Mean ws n (fun j => decide (j = v) || M j) (pre ++ [⟨a, b, v⟩]) ⟨d.W.set (v - 256) (tl (wordF ws v)), (tl (wordF ws v), v) :: d.made, d.M ++ [⟨a, b, v⟩]⟩ := by
          refine ⟨by simp [h.len], fun j hj => ?_, fun id h1 h2 => ?_, fun id h1 => by simp [h.low id h1], fun id h1 h2 => ?_, fun e he => ?_, by rw [h.mg]⟩
          · show (d.W.set (v - 256) (tl (wordF ws v))).getD j [] = _
            by_cases e : j = v - 256
            · subst e
              rw [List.getD, List.getElem?_set_self (by rw [h.len]; omega)]
              have e2 : 256 + (v - 256) = v := by omega
              rw [e2]
              simp [word_hi hv256]
            · rw [List.getD, List.getElem?_set_ne (by omega)]
              have := h.row j hj
              rw [List.getD] at this
              rw [this, decide_eq_false (by omega : ¬ 256 + j = v)]
              rfl
          · by_cases e : id = v
            · subst e
              refine ⟨?_, hvn⟩
              rw [hw, List.length_append]
              omega
            · exact h.two id h1 (by simpa [e] using h2)
          · by_cases e : id = v
            · subst e
              exact List.mem_cons_self
            · exact List.mem_cons_of_mem _ (h.mem id h1 (by simpa [e] using h2))
          · rcases List.mem_cons.1 he with rfl | he
            · exact ⟨hv256, hvn, rfl⟩
            · exact h.src e he
        obtain ⟨d', M', h1, h2, h3⟩ := mean_ok hn hu ms _ _ _ L hnew hm (by simpa using hl) (fun i x' y' hx' hy' => hx (i + 1) x' y' (by simpa using hx') (by simpa using hy'))
        refine ⟨d', M', ?_, by rw [List.append_cons]; exact h2, ?_⟩
        · rw [meanF, hstep]
          exact h1
        · rw [h3, cnt7_add hMv, if_pos hvn, List.length_cons]
          omega
      · rw [if_neg hc] at hm
        cases hm
/-- All that was printed is read. -/
theorem mean_all {ws : List ByteArray} {ms : List Mg} {L : List Wr} (hl : ws.length = ms.length) (hu : unlikeF ws = true) (hm : madeF ws (256 + ms.length) ms (fun j => decide (j < 256)) = true) (hL : L.length = ms.length) (hx : ∀ (i : Nat) (x : Mg) (y : Wr), ms[i]? = some x → L[i]? = some y → mgX ws x (wrX y)) :
    ∃ d', meanF L ⟨List.replicate L.length [], [], []⟩ = .ok d' ∧ d'.W = ws.map (fun w => tl w) ∧ d'.M = ms := by
  have h0 : Mean ws ms.length (fun j => decide (j < 256)) [] ⟨List.replicate L.length [], [], []⟩ := by
    refine ⟨by simp [hL], fun j hj => ?_, fun id h1 h2 => ?_, fun id h1 => decide_eq_true h1, fun id h1 h2 => ?_, fun e he => by simp at he, rfl⟩
    · have e : decide (256 + j < 256) = false := decide_eq_false (by omega)
      rw [e]
      simp [List.getD, List.getElem?_replicate]
      split <;> rfl
    · have := of_decide_eq_true h2
      omega
    · have := of_decide_eq_true h2
      omega
  obtain ⟨d', M', h1, h2, h3⟩ := mean_ok hl hu ms _ _ _ L h0 hm hL hx
  refine ⟨d', h1, ?_, by rw [h2.mg]; rfl⟩
  rw [cnt7_low _ (by omega)] at h3
  have hall := cnt7_all h3
  apply List.ext_getElem?
  intro j
  by_cases hj : j < ms.length
  · have hr := h2.row j hj
    rw [hall (256 + j) (by omega), if_pos rfl] at hr
    have hj2 : j < d'.W.length := by rw [h2.len]; exact hj
    have hj3 : j < ws.length := by omega
    rw [List.getElem?_eq_getElem hj2, List.getElem?_map, List.getElem?_eq_getElem hj3]
    simp only [Option.map_some, Option.some.injEq]
    simpa [List.getD, List.getElem?_eq_getElem hj2, List.getElem?_eq_getElem hj3] using hr
  · rw [List.getElem?_eq_none (by rw [h2.len]; omega), List.getElem?_eq_none (by simp; omega)]
end Go.Proofs.YtonbfcpbgkpbaaaGreatDoor
end
section
/- Recipes: the text that is printed, its tokens, what is read of it: the mathematics. -/
namespace Go.Proofs.YtonbfcpbgkpbaaaGreatDoor
set_option linter.unusedVariables false
set_option linter.unusedSimpArgs false
set_option maxRecDepth 100000
/-- Tokens and what they are scanned as. -/
def TkL : List (List UInt8) → List KS → Prop
  | [], [] => True
  | t :: ts, (k, s) :: ks => TkOk t k s ∧ TkL ts ks
  | _, _ => False
theorem TkL.app : ∀ {a : List (List UInt8)} {ka : List KS} {b : List (List UInt8)} {kb : List KS}, TkL a ka → TkL b kb → TkL (a ++ b) (ka ++ kb)
  | [], [], _, _, _, h => h
  | t :: a, (k, s) :: ka, _, _, h, h2 => ⟨h.1, TkL.app h.2 h2⟩
theorem TkL.len : ∀ {a : List (List UInt8)} {ka : List KS}, TkL a ka → ka.length = a.length
  | [], [], _ => rfl
  | t :: a, (k, s) :: ka, h => by simp [TkL.len h.2]
theorem TkL.get : ∀ {a : List (List UInt8)} {ka : List KS}, TkL a ka → ∀ i, i < a.length → TkOk (a.getD i []) (ka.getD i (0, [])).1 (ka.getD i (0, [])).2
  | [], [], _, i, hi => by simp at hi
  | t :: a, (k, s) :: ka, h, 0, _ => h.1
  | t :: a, (k, s) :: ka, h, i + 1, hi => by
    have := TkL.get h.2 i (by simpa using hi)
    simpa using this
/-- A line: tokens and what stands at its end. -/
def lnT (w : List UInt8) (ts : List (List UInt8)) : List UInt8 := jn ts ts.length ++ w
theorem chunk_line {w : List UInt8} {ts : List (List UInt8)} {ks : List KS} (h : TkL ts ks) (h0 : 0 < ts.length) (hw : Gap w) : Chunk (lnT w ts) ks := by
  have := chunk_join ts ks h.len h.get ts.length (Nat.le_refl _) w (fun _ => hw) (fun e => by omega)
  rwa [List.take_of_length_le (by rw [h.len]; exact Nat.le_refl _)] at this
/-- The tokens of a merge. -/
def mergeT (ws : List ByteArray) (x : Mg) : List (List UInt8) := [sMerge, quoteF (tl (wordF ws x.l.toNat)), sPlus, quoteF (tl (wordF ws x.r.toNat)), sEq, dec3 x.i.toNat]
def mergeR (ws : List ByteArray) (x : Mg) : Rul := .m (tl (wordF ws x.l.toNat)) (tl (wordF ws x.r.toNat)) (dec3 x.i.toNat)
theorem tkl_merge {ws : List ByteArray} {x : Mg} (h : 256 ≤ x.i.toNat ∧ x.i.toNat < 1000) : TkL (mergeT ws x) (rulKs (mergeR ws x)) :=
  ⟨tk_name (by decide) (by decide), tk_word _, tk_sign (by decide), tk_word _, tk_sign (by decide), tk_dec (by omega) h.2, trivial⟩
theorem sp_scal {x : Sp} (h : spOk x = true) : ∃ lo hi : Nat, x.lo = lo ∧ x.hi = hi ∧ scalarB lo = true ∧ scalarB hi = true ∧ lo ≤ 1114111 ∧ hi ≤ 1114111 := by
  unfold spOk at h
  simp only [Bool.and_eq_true] at h
  have hs : ∀ z : Int, scalZ z = true → ∃ n : Nat, z = n ∧ scalarB n = true ∧ n ≤ 1114111 := by
    intro z hz
    simp only [scalZ, Bool.and_eq_true, Bool.or_eq_true, decide_eq_true_eq] at hz
    refine ⟨z.toNat, by omega, ?_, by omega⟩
    simp only [scalarB, Bool.or_eq_true, Bool.and_eq_true, decide_eq_true_eq]
    omega
  obtain ⟨a, a1, a2, a3⟩ := hs _ h.1
  obtain ⟨b, b1, b2, b3⟩ := hs _ h.2
  exact ⟨a, b, a1, b1, a2, b2, a3, b3⟩
theorem sp_fit {x : Sp} (h : spOk x = true) : SpFit x := by
  obtain ⟨a, b, h1, h2, _, _, h3, h4⟩ := sp_scal h
  exact ⟨⟨a, h1, h3⟩, b, h2, h4⟩
theorem tkl_sp {x : Sp} (h : spOk x = true) : TkL (spT x) (spKs x) := by
  obtain ⟨a, b, h1, h2, h3, h4, _, _⟩ := sp_scal h
  unfold spT spKs
  rw [h1, h2]
  simp only [Int.toNat_natCast]
  split
  · exact ⟨tk_rune h3, trivial⟩
  · exact ⟨tk_rune h3, tk_to, tk_rune h4, trivial⟩
theorem tkl_sps {l : List Sp} (h : l.all spOk = true) : TkL (l.flatMap spT) (l.flatMap spKs) := by
  induction l with
  | nil => trivial
  | cons x l ih =>
    simp only [List.all_cons, Bool.and_eq_true] at h
    rw [List.flatMap_cons, List.flatMap_cons]
    exact (tkl_sp h.1).app (ih h.2)
theorem tkl_cls {i : Nat} {l : List Sp} (h : l.all spOk = true) : TkL (clsT (clsNm i) l) (rulKs (.c i l)) := by
  have h1 : TkL [clsNm i, [123]] [(1, clsNm i), (5, sOpen)] := by
    refine ⟨?_, tk_sign (by decide), trivial⟩
    unfold clsNm
    split
    · exact tk_name (by decide) (by decide)
    · split
      · exact tk_name (by decide) (by decide)
      · exact tk_name (by decide) (by decide)
  have h2 : TkL [[125]] [(5, sShut)] := ⟨tk_sign (by decide), trivial⟩
  have := (h1.app (tkl_sps h)).app h2
  unfold clsT rulKs
  rw [List.append_assoc] at this
  exact this
/-- What is printed: lines. -/
def linesF (ws : List ByteArray) (ms : List Mg) (A B C : List Sp) : List (List (List UInt8)) := ms.map (mergeT ws) ++ [clsT (clsNm 0) A, clsT (clsNm 1) B, clsT (clsNm 2) C]
def rulesOf (ws : List ByteArray) (ms : List Mg) (A B C : List Sp) : List Rul := ms.map (mergeR ws) ++ [.c 0 A, .c 1 B, .c 2 C]
def textF (w : List UInt8) (L : List (List (List UInt8))) : List UInt8 := L.flatMap (lnT w)
/-- May they be printed? 0, or why not. -/
def wordsOk (ws : List ByteArray) (ms : List Mg) : Bool := decide (ws.length = ms.length) && unlikeF ws && madeF ws (256 + ms.length) ms (fun j => decide (j < 256))
def runesOk (A B C : List Sp) : Bool := A.all spOk && B.all spOk && C.all spOk
theorem made_ids {ws : List ByteArray} {n : Nat} : ∀ (ms : List Mg) (M : Nat → Bool), (∀ j, j < 256 → M j = true) → madeF ws n ms M = true → ∀ x ∈ ms, (∃ i : Nat, x.i = i ∧ 256 ≤ i ∧ i < n) ∧ (∃ i : Nat, x.l = i ∧ i < n) ∧ ∃ i : Nat, x.r = i ∧ i < n
  | [], M, _, _, x, hx => by simp at hx
  | y :: ms, M, hlo, h, x, hx => by
    rw [madeF_cons] at h
    by_cases hc : newId n M y.i = true ∧ isMadeF n M y.l = true ∧ isMadeF n M y.r = true ∧ cutOk ws y = true
    · rw [if_pos hc] at h
      obtain ⟨v, hv, hvn, hMv⟩ := newId_nat hc.1
      rcases List.mem_cons.1 hx with rfl | hx
      · obtain ⟨a, ha, han, _⟩ := isMadeF_nat hc.2.1
        obtain ⟨b, hb, hbn, _⟩ := isMadeF_nat hc.2.2.1
        refine ⟨⟨v, hv, ?_, hvn⟩, ⟨a, ha, han⟩, b, hb, hbn⟩
        by_cases hh : v < 256
        · rw [hlo v hh] at hMv; cases hMv
        · omega
      · exact made_ids ms _ (fun j hj => by simp [hlo j hj]) h x hx
    · rw [if_neg hc] at h
      cases h
theorem lines_chunk {w : List UInt8} (hw : Gap w) {ws : List ByteArray} {ms : List Mg} {A B C : List Sp} (hn : ms.length ≤ 700) (h1 : wordsOk ws ms = true) (h2 : runesOk A B C = true) : Chunk (textF w (linesF ws ms A B C)) ((rulesOf ws ms A B C).flatMap rulKs) := by
  simp only [wordsOk, Bool.and_eq_true, decide_eq_true_eq] at h1
  simp only [runesOk, Bool.and_eq_true] at h2
  have hid := made_ids ms _ (fun j hj => decide_eq_true hj) h1.2
  have hm : ∀ l : List Mg, (∀ x ∈ l, ∃ i : Nat, x.i = i ∧ 256 ≤ i ∧ i < 256 + ms.length) → Chunk ((l.map (mergeT ws)).flatMap (lnT w)) ((l.map (mergeR ws)).flatMap rulKs) := by
    intro l
    induction l with
    | nil => intro _; exact chunk_nil
    | cons x l ih =>
      intro h
      obtain ⟨i, hi, hi1, hi2⟩ := h x (by simp)
      rw [List.map_cons, List.map_cons, List.flatMap_cons, List.flatMap_cons]
      exact (chunk_line (tkl_merge (by rw [hi]; simp; omega)) (by show 0 < 6; omega) hw).app (ih (fun y hy => h y (by simp [hy])))
  have hc : ∀ i (l : List Sp), l.all spOk = true → Chunk (lnT w (clsT (clsNm i) l)) (rulKs (.c i l)) := fun i l h => chunk_line (tkl_cls h) (by unfold clsT; simp) hw
  unfold textF linesF rulesOf
  rw [List.flatMap_append, List.flatMap_append]
  refine (hm ms (fun x hx => (hid x hx).1)).app ?_
  have := ((hc 0 A h2.1.1).app (hc 1 B h2.1.2)).app (hc 2 C h2.2)
  simp only [List.flatMap_cons, List.flatMap_nil, List.append_nil]
  rw [List.append_assoc] at this
  rw [List.append_assoc] at this
  exact this
theorem rules_fit_of {ws : List ByteArray} {ms : List Mg} {A B C : List Sp} (h2 : runesOk A B C = true) : ∀ R ∈ rulesOf ws ms A B C, RulFit R := by
  simp only [runesOk, Bool.and_eq_true, List.all_eq_true] at h2
  intro R hR
  unfold rulesOf at hR
  rcases List.mem_append.1 hR with hR | hR
  · obtain ⟨x, _, rfl⟩ := List.mem_map.1 hR
    trivial
  · simp only [List.mem_cons, List.mem_nil_iff, or_false] at hR
    rcases hR with rfl | rfl | rfl
    · exact ⟨by omega, fun x hx => sp_fit (h2.1.1 x hx)⟩
    · exact ⟨by omega, fun x hx => sp_fit (h2.1.2 x hx)⟩
    · exact ⟨by omega, fun x hx => sp_fit (h2.2 x hx)⟩
theorem fold_merges (ws : List ByteArray) : ∀ (ms : List Mg) (d : RX), (ms.map (mergeR ws)).foldl rulX d = { d with M := d.M ++ ms.map fun x => (tl (wordF ws x.l.toNat), tl (wordF ws x.r.toNat), dec3 x.i.toNat) }
  | [], d => by simp
  | x :: ms, d => by
    rw [List.map_cons, List.foldl_cons, fold_merges ws ms]
    simp [rulX, mergeR]
/-- What was gathered of the merges means them. -/
theorem mean_text {ws : List ByteArray} {ms : List Mg} {rd : RD} (hn : ms.length ≤ 700) (h1 : wordsOk ws ms = true) (hM : rd.M.map wrX = ms.map fun x => (tl (wordF ws x.l.toNat), tl (wordF ws x.r.toNat), dec3 x.i.toNat)) :
    ∃ d, meanF rd.M ⟨List.replicate rd.M.length [], [], []⟩ = .ok d ∧ d.W = ws.map (fun w => tl w) ∧ d.M = ms := by
  simp only [wordsOk, Bool.and_eq_true, decide_eq_true_eq] at h1
  have hid := made_ids ms _ (fun j hj => decide_eq_true hj) h1.2
  have hl : rd.M.length = ms.length := by simpa using congrArg List.length hM
  refine mean_all h1.1.1 h1.1.2 h1.2 hl (fun i x y hx hy => ?_)
  have := congrArg (fun l => l[i]?) hM
  simp only [List.getElem?_map, hx, hy, Option.map_some, Option.some.injEq] at this
  obtain ⟨k, hk, hk1, hk2⟩ := (hid x (List.mem_of_getElem? hx)).1
  unfold mgX
  rw [this, hk]
  refine ⟨rfl, rfl, ?_⟩
  simp only [Int.toNat_natCast]
  rw [dec_val (by omega)]
/-- What is printed is read as what it was: whatever stands at the lines' ends, ahead and behind. -/
theorem parse_text {w b c : List UInt8} (hw : Gap w) (hb : BlkS b) (hc : BlkEnd c) {ws : List ByteArray} {ms : List Mg} {A B C : List Sp} (hn : ms.length ≤ 700) (h1 : wordsOk ws ms = true) (h2 : runesOk A B C = true)
    (hl : (b ++ (textF w (linesF ws ms A B C) ++ c)).length ≤ 4194304) : parseA (b ++ (textF w (linesF ws ms A B C) ++ c)) = .ok ⟨ws.map (fun w => tl w), ms, A, B, C⟩ := by
  have ht : Txt (b ++ (textF w (linesF ws ms A B C) ++ c)) ((rulesOf ws ms A B C).flatMap rulKs) := by
    have := lines_chunk hw hn h1 h2 c [] (.fin c hc)
    rw [List.append_nil] at this
    exact this.blk hb
  obtain ⟨rd, hrd, hp⟩ := parse_rules hl (rules_fit_of h2) ht
  have hf : (rulesOf ws ms A B C).foldl rulX ⟨[], [], [], []⟩ = ⟨ms.map fun x => (tl (wordF ws x.l.toNat), tl (wordF ws x.r.toNat), dec3 x.i.toNat), A, B, C⟩ := by
    unfold rulesOf
    rw [List.foldl_append, fold_merges]
    simp [rulX]
  rw [hf] at hrd
  unfold rxOf at hrd
  injection hrd with e1 e2 e3 e4
  obtain ⟨d, hd, hd1, hd2⟩ := mean_text hn h1 e1
  rw [hp, hd]
  simp only [hd1, hd2, e2, e3, e4]
end Go.Proofs.YtonbfcpbgkpbaaaGreatDoor
end
section
/- What the row's condition lists (three tables of the library): the door's own heap meets it. -/
namespace Go.Proofs.YtonbfcpbgkpbaaaGreatDoor
open Go.ChangeShapes Go.WideShapes Go.ChangeAt Go.WideMaps Go.WideElems Go.RowKit
theorem own : ownKnob Tryz.prog.godebug = none := by kernel_rfl
theorem laidOut : laidOutB Tryz.prog = true := by kernel_rfl
/-- The condition's list. -/
abbrev laids : List (String × DataW Unit) := [("math/bits.deBruijn32tab", Rows.laid_math_bits_deBruijn32tab), ("math/bits.deBruijn64tab", Rows.laid_math_bits_deBruijn64tab), ("internal/strconv.uint64pow10", Rows.laid_internal_strconv_uint64pow10)]
/-- The door's own heap meets the condition. -/
theorem door_met (os : Os) (args : Array Value) : laidMetH Tryz.prog laids ((World.doorLaid Tryz.prog 400 os).forCall (fun _ _ => 0) ⟨#[], args, []⟩).memory :=
  laidMetH_of_parts3 (fuel := 8) (laidMet_of_run' 8 (by kernel_rfl) (by kernel_rfl)) (by kernel_rfl) (by kernel_rfl)
end Go.Proofs.YtonbfcpbgkpbaaaGreatDoor
end
section
/- The contract of strconv.Itoa, laid off the shelf at this dump. -/
namespace Go.Proofs.YtonbfcpbgkpbaaaGreatDoor
end Go.Proofs.YtonbfcpbgkpbaaaGreatDoor
namespace Go.Proofs
open Go.Shelf
def Tryz.laysM171_ren : Go.Shelf.Ren := ⟨fun | 171 => 19 | 243 => 39 | 246 => 50 | 283 => 63 | 284 => 64 | 285 => 65 | 286 => 66 | 129 => 89 | 317 => 88 | 318 => 90 | 319 => 91 | 320 => 92 | 337 => 102 | 338 => 103 | n => n, fun | 3 => 3 | 9 => 9 | 2 => 2 | 4 => 4 | 171 => 115 | 0 => 0 | 53 => 116 | 37 => 50 | 5 => 5 | 173 => 119 | 212 => 136 | 51 => 137 | 20 => 20 | 213 => 138 | 46 => 74 | 232 => 149 | 233 => 150 | n => n, fun | 17 => 0 | 18 => 2 | 19 => 3 | n => n⟩
theorem Tryz.laysM171 : Go.Proofs.LaysM.n171 Tryz.prog Tryz.laysM171_ren := {
  mixed := by kernel_rfl
  f129 := Tryz.func89.trans (congrArg some (by kernel_rfl))
  f171 := Tryz.func19.trans (congrArg some (by kernel_rfl))
  f243 := Tryz.func39.trans (congrArg some (by kernel_rfl))
  f246 := Tryz.func50.trans (congrArg some (by kernel_rfl))
  f283 := Tryz.func63.trans (congrArg some (by kernel_rfl))
  f284 := Tryz.func64.trans (congrArg some (by kernel_rfl))
  f285 := Tryz.func65.trans (congrArg some (by kernel_rfl))
  f286 := Tryz.func66.trans (congrArg some (by kernel_rfl))
  f317 := Tryz.func88.trans (congrArg some (by kernel_rfl))
  f318 := Tryz.func90.trans (congrArg some (by kernel_rfl))
  f319 := Tryz.func91.trans (congrArg some (by kernel_rfl))
  f320 := Tryz.func92.trans (congrArg some (by kernel_rfl))
  f337 := Tryz.func102.trans (congrArg some (by kernel_rfl))
  f338 := Tryz.func103.trans (congrArg some (by kernel_rfl))
  t0 := Tryz.underlying0
  a0 := Tryz.isAgg0
  z0 := Tryz.sizeOf0
  v0 := Tryz.zeroValue0
  t2 := Tryz.underlying2
  a2 := Tryz.isAgg2
  z2 := Tryz.sizeOf2
  v2 := Tryz.zeroValue2
  t3 := Tryz.underlying3
  a3 := Tryz.isAgg3
  z3 := Tryz.sizeOf3
  v3 := Tryz.zeroValue3
  t4 := Tryz.underlying4
  a4 := Tryz.isAgg4
  z4 := Tryz.sizeOf4
  v4 := Tryz.zeroValue4
  t5 := Tryz.underlying5
  a5 := Tryz.isAgg5
  z5 := Tryz.sizeOf5
  v5 := Tryz.zeroValue5
  t9 := Tryz.underlying9
  a9 := Tryz.isAgg9
  z9 := Tryz.sizeOf9
  v9 := Tryz.zeroValue9
  t20 := Tryz.underlying20
  a20 := Tryz.isAgg20
  z20 := Tryz.sizeOf20
  v20 := Tryz.zeroValue20
  t37 := Tryz.underlying50
  a37 := Tryz.isAgg50
  z37 := Tryz.sizeOf50
  v37 := Tryz.zeroValue50
  t46 := Tryz.underlying74
  a46 := Tryz.isAgg74
  z46 := Tryz.sizeOf74
  v46 := Tryz.zeroValue74
  t51 := Tryz.underlying137
  a51 := Tryz.isAgg137
  z51 := Tryz.sizeOf137
  v51 := Tryz.zeroValue137
  t53 := Tryz.underlying116
  a53 := Tryz.isAgg116
  z53 := Tryz.sizeOf116
  v53 := Tryz.zeroValue116
  t171 := Tryz.underlying115
  a171 := Tryz.isAgg115
  z171 := Tryz.sizeOf115
  v171 := Tryz.zeroValue115
  t173 := Tryz.underlying119
  a173 := Tryz.isAgg119
  z173 := Tryz.sizeOf119
  v173 := Tryz.zeroValue119
  t212 := Tryz.underlying136
  a212 := Tryz.isAgg136
  z212 := Tryz.sizeOf136
  v212 := Tryz.zeroValue136
  t213 := Tryz.underlying138
  a213 := Tryz.isAgg138
  z213 := Tryz.sizeOf138
  t232 := Tryz.underlying149
  a232 := Tryz.isAgg149
  z232 := Tryz.sizeOf149
  v232 := Tryz.zeroValue149
  t233 := Tryz.underlying150
  a233 := Tryz.isAgg150
  z233 := Tryz.sizeOf150
  v233 := Tryz.zeroValue150
  g17 := by kernel_rfl
  g18 := by kernel_rfl
  g19 := by kernel_rfl
  i0 := by kernel_rfl
  i2 := by kernel_rfl
  i3 := by kernel_rfl
  i4 := by kernel_rfl
  i5 := by kernel_rfl
  i9 := by kernel_rfl
  i20 := by kernel_rfl
  i37 := by kernel_rfl
  i46 := by kernel_rfl
  i51 := by kernel_rfl
  i53 := by kernel_rfl
  i171 := by kernel_rfl
  i173 := by kernel_rfl
  i212 := by kernel_rfl
  i232 := by kernel_rfl
  i233 := by kernel_rfl
  m17 := by kernel_rfl
  m18 := by kernel_rfl
  m19 := by kernel_rfl }
open Go.RowKit Go.Sort Go.Lib in
/-- strconv.Itoa: "Itoa is equivalent to FormatInt(int64(i), 10).": i's DECIMAL NUMERAL ('Lib.itoa': a '-' where i is negative, then the digits), FOR EVERY int. The world behind the call: the world before it, new blocks behind the heap (the library's 'var a [24]byte'), draws. (LAID: no walk: one application.) -/
theorem Tryz.strconv_Itoa (n : Int) (h0 : -9223372036854775808 ≤ n) (h1 : n ≤ 9223372036854775807) (w : World) (htab : Lib.TabIs Tryz.prog w "internal/strconv.uint64pow10" .u64 Lib.pow10Tab) :
    Calls Tryz.prog 19 #[.int .i64 n] w fun e w' => e = .returned (.string ⟨(Lib.itoa n).toArray⟩) ∧ ∃ k os, w' = grow (w.drewN k) os := Any.strconv_Itoa Tryz.laysM171 n h0 h1 w htab
end Go.Proofs
end
section
/- The table of powers of ten, off the row's condition (three tables are listed). -/
namespace Go.Proofs.YtonbfcpbgkpbaaaGreatDoor
open Go.ChangeShapes Go.WideShapes Go.ChangeAt Go.WideMaps Go.WideElems Go.RowKit
theorem gPow : Tryz.prog.globalNamed "internal/strconv.uint64pow10" = some 0 := by kernel_rfl
theorem tPow : (Tryz.prog.globals[0]?).map (·.type) = some 136 := by kernel_rfl
theorem undPow : Tryz.prog.underlying 136 = some (.array 20 116) := by kernel_rfl
/-- The powers of ten, as the library's contract asks for them. -/
abbrev PT (w : World) : Prop := Lib.TabIs Tryz.prog w "internal/strconv.uint64pow10" .u64 [1, 10, 100, 1000, 10000, 100000, 1000000, 10000000, 100000000, 1000000000, 10000000000, 100000000000, 1000000000000, 10000000000000, 100000000000000, 1000000000000000, 10000000000000000, 100000000000000000, 1000000000000000000, 10000000000000000000]
set_option maxRecDepth 100000 in
theorem of_laid3 {W : World} (h : laidMetH Tryz.prog laids W) : PT W := by
  rw [MakeChecks.laidMetH_plain _ _ _ (by kernel_rfl)] at h
  obtain ⟨ps, ⟨_, _, _, _, _, _, _, _, _, _, ⟨_, _, _, _, _, _, _, _, _, _, ⟨g2, t2, ⟨cs2⟩, f2, p2, q2, hg2, ht2, hv2, hd2, _, _⟩, _⟩, _⟩, _⟩ := h
  obtain rfl := Option.some.inj (gPow.symm.trans hg2)
  obtain rfl := Option.some.inj (tPow.symm.trans ht2)
  unfold PT Lib.TabIs
  rw [hv2]
  exact congrArg (fun l => some (List.toArray l)) (Lib.cells_of_tab (zs := [1, 10, 100, 1000, 10000, 100000, 1000000, 10000000, 100000000, 1000000000, 10000000000, 100000000000, 1000000000000, 10000000000000, 100000000000000, 1000000000000000, 10000000000000000, 100000000000000000, 1000000000000000000, 10000000000000000000]) undPow Tryz.underlying116 (by kernel_rfl) (by kernel_rfl) hd2)
end Go.Proofs.YtonbfcpbgkpbaaaGreatDoor
end
section
/- recipe.areUnlike of none: its contract. -/
namespace Go.Proofs.YtonbfcpbgkpbaaaGreatDoor
open Go.RowKit Go.Sort Go.Joins
set_option linter.unusedVariables false
set_option linter.unusedSimpArgs false
set_option maxRecDepth 100000
theorem len_map (w : World) (b : Nat) (h : w.heap[b]? = some (.map #[] 0)) : (Builtin.len_ #[75] 3 #[.map (some b)]).run Tryz.prog w = .ok (.int .i64 0) w := by
  simp [Builtin.len_, Builtin.lenOf, goInt]
  rw [show (getObj b).run Tryz.prog w = .ok (.map #[] 0) w by simp [getObj, Sem.run, h]]
  rfl
set_option maxHeartbeats 1000000 in
theorem unlike_nil (w : World) : Calls Tryz.prog 15 #[.slice none 0 0] w fun e w' => e = .returned (.bool true) ∧ Below w.heap.size w w' := by
  have hmm := @run_makeMap Tryz.prog
  have hn := heap_alloc_new w (.map #[] 0)
  have hb := box_below w (.map #[] 0)
  obtain ⟨X, hX⟩ : ∃ X, X = w.alloc (.map #[] 0) := ⟨_, rfl⟩
  rw [← hX] at hn hb
  have HX := Lib.hid hX
  clear hX
  go_enter Tryz.func15, Tryz.ntmps15
  go_wp2_with fail
  rw [← HX.out]
  go_loopw [4, 5, 9] (fun x y i wr => i = .int .i64 0 ∧ wr = X) (fun _ _ _ _ => 0)
  case atStart => exact ⟨rfl, rfl⟩
  case round =>
    obtain ⟨rfl, hw⟩ := hrel
    rw [hw]
    have hlm := len_map X w.heap.size hn
    go_wp2_with fail
    go_ret
    exact ⟨rfl, hb⟩
end Go.Proofs.YtonbfcpbgkpbaaaGreatDoor
end
section
/- How often a byte stands in a text, where the last one stands: strings.Count, strings.LastIndex of one byte. -/
namespace Go.Proofs.YtonbfcpbgkpbaaaGreatDoor
open Go.RowKit
set_option linter.unusedVariables false
set_option linter.unusedSimpArgs false
set_option maxRecDepth 100000
theorem count_one (s : ByteArray) (c : UInt8) (w : World) :
    Calls Tryz.prog 51 #[.string s, .string ⟨#[c]⟩] w fun e w' => e = .returned (.int .i64 (Lib.countByte s.data.toList c)) ∧ w' = w := by
  go_enter Tryz.func51, Tryz.ntmps51
  go_wp2
  rw [run_callFunc_extern Tryz.func68 (by kernel_rfl) (by kernel_rfl) (by kernel_rfl) (e := Extern.BytealgCount.count) (by kernel_rfl), Lib.run_countString]
  simp only [Result.andThen]
  rw [Oper.upon_value]
  go_wp2
  go_ret
  exact ⟨rfl, rfl⟩
set_option maxHeartbeats 4000000 in
theorem lastbyte_any (s : ByteArray) (c : UInt8) (hs : s.size < 4611686018427387904) (w : World) :
    Calls Tryz.prog 74 #[.string s, .int .u8 (c.toNat : Int)] w fun e w' => e = .returned (.int .i64 (Lib.lastIndexByte s (c.toNat : Int))) ∧ w' = w := by
  obtain ⟨n, hn⟩ : ∃ n, n = s.size := ⟨_, rfl⟩
  obtain ⟨cc, hcc⟩ : ∃ cc : Int, cc = (c.toNat : Int) := ⟨_, rfl⟩
  rw [← hcc]
  clear hcc
  go_enter Tryz.func74, Tryz.ntmps74
  go_wp2
  go_loop [5] (fun vi => ∃ k : Nat, k ≤ s.size ∧ vi = .int .i64 ((k : Int) - 1) ∧ Hid (Lib.lastIndexByte s cc = Lib.lastIdx s cc k)) (fun vi => ((RowKit.intOf vi) + 1).toNat)
  case atStart => exact ⟨s.size, Nat.le_refl _, by first | rfl | go_num | (congr 1; omega), rfl⟩
  case round =>
    obtain ⟨k, hk, rfl, hh⟩ := hrel
    go_wp2
    · have hc : (((s[k - 1]).toNat : Int) == cc) = true := by assumption
      have k1 : 1 ≤ k := by omega
      have e1 : Lib.lastIdx s cc k = ((k - 1 : Nat) : Int) := by
        have := Lib.lastIdx_hit s cc (k - 1) (by rw [show s.data[k - 1]! = s[k - 1] from (getElem!_pos s.data (k - 1) (by simpa using by omega)).trans rfl]; simpa using hc)
        rwa [show k - 1 + 1 = k by omega] at this
      go_ret
      have e2 : ((k - 1 : Nat) : Int) = (k : Int) - 1 := by omega
      rw [hh.out, e1, e2]
      exact ⟨rfl, rfl⟩
    · have hc : (((s[k - 1]).toNat : Int) == cc) = false := by assumption
      have k1 : 1 ≤ k := by omega
      have e1 : Lib.lastIdx s cc k = Lib.lastIdx s cc (k - 1) := by
        have := Lib.lastIdx_miss s cc (k - 1) (by rw [show s.data[k - 1]! = s[k - 1] from (getElem!_pos s.data (k - 1) (by simpa using by omega)).trans rfl]; simpa using hc)
        rwa [show k - 1 + 1 = k by omega] at this
      refine ⟨⟨k - 1, by omega, by congr 1; omega, hh.out.trans e1⟩, ?_⟩
      simp [RowKit.intOf]; omega
    · have k0 : k = 0 := by omega
      subst k0
      go_ret
      rw [hh.out]
      exact ⟨rfl, rfl⟩
theorem last_one (s : ByteArray) (c : UInt8) (hs : s.size < 4611686018427387904) (w : World) :
    Calls Tryz.prog 53 #[.string s, .string ⟨#[c]⟩] w fun e w' => e = .returned (.int .i64 (Lib.lastIndexByte s (c.toNat : Int))) ∧ w' = w := by
  have HC := lastbyte_any s c hs w
  go_enter Tryz.func53, Tryz.ntmps53
  go_wp2_with fail
  refine HC.mono ?_
  rintro e w' ⟨rfl, rfl⟩
  go_wp2_with fail
  go_ret
  exact ⟨rfl, rfl⟩
end Go.Proofs.YtonbfcpbgkpbaaaGreatDoor
end
section
/- What the run-time reads at a place of a text: by utf's own front. -/
namespace Go.Proofs.YtonbfcpbgkpbaaaGreatDoor
open Go.RowKit
theorem tl_ext (s : ByteArray) (a b : Nat) : tl (s.extract a b) = ((tl s).drop a).take (b - a) := by
  simp [tl, List.take_drop]
/-- The rune of a whole sequence. -/
def rn (l : List UInt8) : Nat :=
  if (front l).1 = 1 then bt l 0 else
  if (front l).1 = 2 then bt l 0 % 32 * 64 + bt l 1 % 64 else
  if (front l).1 = 3 then bt l 0 % 16 * 4096 + bt l 1 % 64 * 64 + bt l 2 % 64 else
  bt l 0 % 8 * 262144 + bt l 1 % 64 * 4096 + bt l 2 % 64 * 64 + bt l 3 % 64
theorem get_bt (s : ByteArray) (i k : Nat) : (s.get! (i + k)).toNat = bt ((tl s).drop i) k := by
  rw [bt_drop]
  unfold bt
  congr 1
  show s.data[i + k]! = _
  rw [getElem!_def, List.getD_eq_getElem?_getD]
  simp only [tl, Array.getElem?_toList]
  cases s.data[i + k]? <;> rfl
theorem size_lt (s : ByteArray) (i k : Nat) : (i + k < s.size) ↔ k < ((tl s).drop i).length := by
  rw [List.length_drop, tl_len]; omega
/-- As numbers. -/
def dec4 (n b0 b1 b2 b3 : Nat) : Nat × Nat :=
  if b0 < 128 then (b0, 1) else
  if b0 / 32 = 6 ∧ 1 < n ∧ b1 / 64 = 2 then (if 128 ≤ b0 % 32 * 64 + b1 % 64 then (b0 % 32 * 64 + b1 % 64, 2) else (65533, 1)) else
  if b0 / 16 = 14 ∧ (1 < n ∧ b1 / 64 = 2) ∧ 2 < n ∧ b2 / 64 = 2 then
    (if 2048 ≤ b0 % 16 * 4096 + b1 % 64 * 64 + b2 % 64 ∧ (b0 % 16 * 4096 + b1 % 64 * 64 + b2 % 64 < 55296 ∨ 57344 ≤ b0 % 16 * 4096 + b1 % 64 * 64 + b2 % 64 ∧ b0 % 16 * 4096 + b1 % 64 * 64 + b2 % 64 ≤ 1114111) then (b0 % 16 * 4096 + b1 % 64 * 64 + b2 % 64, 3) else (65533, 1)) else
  if b0 / 8 = 30 ∧ (1 < n ∧ b1 / 64 = 2) ∧ (2 < n ∧ b2 / 64 = 2) ∧ 3 < n ∧ b3 / 64 = 2 then
    (if 65536 ≤ b0 % 8 * 262144 + b1 % 64 * 4096 + b2 % 64 * 64 + b3 % 64 ∧ (b0 % 8 * 262144 + b1 % 64 * 4096 + b2 % 64 * 64 + b3 % 64 < 55296 ∨ 57344 ≤ b0 % 8 * 262144 + b1 % 64 * 4096 + b2 % 64 * 64 + b3 % 64 ∧ b0 % 8 * 262144 + b1 % 64 * 4096 + b2 % 64 * 64 + b3 % 64 ≤ 1114111) then (b0 % 8 * 262144 + b1 % 64 * 4096 + b2 % 64 * 64 + b3 % 64, 4) else (65533, 1)) else
  (65533, 1)
theorem decode_nums (s : ByteArray) (i : Nat) (_h : ((tl s).drop i) ≠ []) : Utf8.decode s i = dec4 ((tl s).drop i).length (bt ((tl s).drop i) 0) (bt ((tl s).drop i) 1) (bt ((tl s).drop i) 2) (bt ((tl s).drop i) 3) := by
  unfold Utf8.decode dec4
  simp only [get_bt, size_lt, Utf8.runeError, Utf8.valid]
  generalize bt ((tl s).drop i) 0 = b0
  generalize bt ((tl s).drop i) 1 = b1
  generalize bt ((tl s).drop i) 2 = b2
  generalize bt ((tl s).drop i) 3 = b3
  generalize ((tl s).drop i).length = n
  have e : ∀ x : Nat, (((0 : Int) ≤ (x : Int)) ∧ (x : Int) < 55296) ↔ x < 55296 := fun x => by omega
  simp only [Bool.and_eq_true, Bool.or_eq_true, decide_eq_true_eq, beq_iff_eq, ge_iff_le, and_assoc]
  repeat' split
  all_goals first | rfl | (exfalso; omega)
theorem dec4_front (l : List UInt8) (h : l ≠ []) : dec4 l.length (bt l 0) (bt l 1) (bt l 2) (bt l 3) = if (front l).2 = true then (rn l, (front l).1) else (65533, 1) := by
  have h0 := List.length_pos_iff.2 h
  have l0 := bt_lt l 0
  have l1 := bt_lt l 1
  have l2 := bt_lt l 2
  have l3 := bt_lt l 3
  have hs := front_spec l
  unfold rn
  generalize bt l 0 = b0 at *
  generalize bt l 1 = b1 at *
  generalize bt l 2 = b2 at *
  generalize bt l 3 = b3 at *
  generalize l.length = n at *
  clear h
  unfold dec4
  rcases hs with ⟨e, g⟩ | ⟨e, g⟩ | ⟨e, g⟩ | ⟨e, g⟩ | ⟨e, g⟩ | ⟨e, g⟩ | ⟨e, g⟩ | ⟨e, g⟩ <;> rw [e] <;> clear e <;> simp only [Bool.false_eq_true, if_false, if_true, Nat.reduceEqDiff]
  all_goals
    repeat' split
    all_goals first | (exfalso; omega) | rfl
/-- WHAT IS READ. -/
theorem decode_front (s : ByteArray) (i : Nat) (h : ((tl s).drop i) ≠ []) : Utf8.decode s i = if (front ((tl s).drop i)).2 = true then (rn ((tl s).drop i), (front ((tl s).drop i)).1) else (65533, 1) := by
  rw [decode_nums s i h, dec4_front _ h]
theorem rn_take (l : List UInt8) (h : (front l).2 = true) : rn (l.take (front l).1) = rn l := by
  have hf := front_whole_take l h
  have hle := front_le l
  have hb : ∀ k, k < (front l).1 → bt (l.take (front l).1) k = bt l k := fun k hk => by
    unfold bt
    rw [List.getD_eq_getElem?_getD, List.getD_eq_getElem?_getD, List.getElem?_take, if_pos hk]
  have h1 := hle.2.2.1 h
  unfold rn
  rw [hf]
  have c : (front l).1 = 1 ∨ (front l).1 = 2 ∨ (front l).1 = 3 ∨ (front l).1 = 4 := by omega
  rcases c with c | c | c | c <;> rw [c] at hb ⊢ <;> simp [hb]
/-- The sequence's item. -/
theorem decode_whole (s : ByteArray) (a n : Nat) (h : (front ((tl s).drop a)).2 = true) (hn : n = (front ((tl s).drop a)).1) : Utf8.decode (s.extract a (a + n)) 0 = (rn ((tl s).drop a), n) := by
  have he : tl (s.extract a (a + n)) = ((tl s).drop a).take n := by rw [tl_ext, show a + n - a = n by omega]
  have h1 := (front_le ((tl s).drop a)).2.2.1 h
  have hl := (front_le ((tl s).drop a)).1
  have hne : (tl (s.extract a (a + n))).drop 0 ≠ [] := by
    rw [he, List.drop_zero]
    intro hh
    have := congrArg List.length hh
    rw [List.length_take, List.length_nil] at this
    omega
  rw [decode_front _ _ hne, he, List.drop_zero, hn, front_whole_take _ h, if_pos h, rn_take _ h]
end Go.Proofs.YtonbfcpbgkpbaaaGreatDoor
end
section
/- The items of a text: what they are. -/
namespace Go.Proofs.YtonbfcpbgkpbaaaGreatDoor
open Go.RowKit
/-- The first item. -/
def headIt (k : Nat) (l : List UInt8) : It := if (front l).2 = true then ⟨k, (front l).1, rn l, false⟩ else ⟨k, 1, 65533, true⟩
theorem headIt_bytes (k : Nat) (l : List UInt8) : (headIt k l).bytes = wid l := by
  unfold headIt wid; split <;> rfl
theorem headIt_frm (k : Nat) (l : List UInt8) : (headIt k l).frm = k := by
  unfold headIt; split <;> rfl
def itemsF : Nat → Nat → List UInt8 → List It
  | 0, _, _ => []
  | f + 1, k, l => if l = [] then [] else headIt k l :: itemsF f (k + wid l) (l.drop (wid l))
theorem itemsF_any (n : Nat) : ∀ (k : Nat) (l : List UInt8) (f g : Nat), l.length ≤ n → l.length ≤ f → l.length ≤ g → itemsF f k l = itemsF g k l := by
  induction n with
  | zero =>
    intro k l f g h _ _
    have h0 : l = [] := List.length_eq_zero_iff.1 (by omega)
    subst h0
    cases f <;> cases g <;> simp [itemsF]
  | succ n ih =>
    intro k l f g h hf hg
    by_cases h0 : l = []
    · subst h0
      cases f <;> cases g <;> simp [itemsF]
    · have h1 := List.length_pos_iff.2 h0
      have h2 := wid_pos l
      obtain ⟨f, rfl⟩ : ∃ k, f = k + 1 := ⟨f - 1, by omega⟩
      obtain ⟨g, rfl⟩ : ∃ k, g = k + 1 := ⟨g - 1, by omega⟩
      unfold itemsF
      rw [if_neg h0, if_neg h0, ih _ (l.drop (wid l)) f g (by simp; omega) (by simp; omega) (by simp; omega)]
/-- The items of the bytes l, of which the first one is byte k. -/
def items (k : Nat) (l : List UInt8) : List It := itemsF l.length k l
theorem items_nil (k : Nat) : items k [] = [] := rfl
theorem items_cons (k : Nat) (l : List UInt8) (h : l ≠ []) : items k l = headIt k l :: items (k + wid l) (l.drop (wid l)) := by
  have h1 := List.length_pos_iff.2 h
  have h2 := wid_pos l
  unfold items
  obtain ⟨n, hn⟩ : ∃ n, l.length = n + 1 := ⟨l.length - 1, by omega⟩
  rw [hn, itemsF, if_neg h, itemsF_any _ _ (l.drop (wid l)) n _ (Nat.le_refl _) (by simp; omega) (Nat.le_refl _)]
/-- By what is left. -/
theorem bytes_ind {p : List UInt8 → Prop} (hnil : p []) (hcons : ∀ l, l ≠ [] → (∀ m, m.length < l.length → p m) → p l) (l : List UInt8) : p l := by
  obtain ⟨n, hn⟩ : ∃ n, n = l.length := ⟨_, rfl⟩
  induction n using Nat.strongRecOn generalizing l with
  | ind n ih =>
    by_cases h : l = []
    · subst h; exact hnil
    · exact hcons l h fun m hm => ih m.length (by omega) m rfl
theorem drop_wid_lt (l : List UInt8) (h : l ≠ []) : (l.drop (wid l)).length < l.length := by
  have h1 := List.length_pos_iff.2 h
  have h2 := wid_pos l
  simp; omega
theorem items_length (l : List UInt8) : ∀ k, (items k l).length ≤ l.length := by
  refine bytes_ind (p := fun l => ∀ k, (items k l).length ≤ l.length) (fun k => by simp [items_nil]) (fun l h ih k => ?_) l
  have h1 := drop_wid_lt l h
  have h2 := ih _ h1 (k + wid l)
  rw [items_cons k l h]
  simp only [List.length_cons]
  omega
end Go.Proofs.YtonbfcpbgkpbaaaGreatDoor
end
section
/- utf.Items: its iterator's contract. -/
namespace Go.Proofs.YtonbfcpbgkpbaaaGreatDoor
open Go.RowKit Go.Shelf
open Go.Joins
attribute [local go_sem] Oper.semAt_some
/-- What a round keeps: what lay below, and each block that is one item. -/
def KpI (n₀ : Nat) (A B : World) : Prop := Below n₀ A B ∧ ∀ (k : Nat) (c : Array Value), A.heap[k]? = some (.cells c 125 (0, 0)) → c.size = 4 → B.heap[k]? = A.heap[k]?
theorem cell_alloc_l {W : World} {a : Addr} {v : Value} (o : Obj) (h : W.cell? a = some v) : (W.alloc o).cell? a = some v := cell_kept h (World.grownBy_alloc W o none) (fun r e => by cases e)
theorem KpI.refl (n₀ : Nat) (A : World) : KpI n₀ A A := ⟨Below.refl _ _, fun _ _ _ _ => rfl⟩
theorem KpI.trans {n₀ : Nat} {A B C : World} (h : KpI n₀ A B) (k : KpI n₀ B C) : KpI n₀ A C :=
  ⟨h.1.trans k.1, fun i c hi hc => by
    have h1 := h.2 i c hi hc
    rw [← h1]
    exact k.2 i c (by rw [h1]; exact hi) hc⟩
theorem KpI.of_below {n₀ : Nat} {A B : World} (h : Below A.heap.size A B) (hn : n₀ ≤ A.heap.size) : KpI n₀ A B :=
  ⟨h.mono hn, fun k _ hk _ => h.block k (Array.getElem?_eq_some_iff.1 hk).1⟩
theorem KpI.putObj {n₀ : Nat} {w : World} (hn : n₀ ≤ w.heap.size) (W : World) (l : Nat) (o o' : Obj) (hl : w.heap.size ≤ l) (h : W.heap[l]? = some o) (ho : o.isCells = false) (hw : o.isWalk = false) : KpI n₀ W (W.putObj l o') :=
  ⟨belowK_b hn W l o o' hl h ho hw, fun k c hk _ => by
    have hne : k ≠ l := fun e => by subst e; rw [h] at hk; cases hk; simp [Obj.isCells] at ho
    exact World.putObj_heap_other hne⟩
/-- What the iterator asks of a round: its text's box and each block that is one item lie as they lay. -/
def KpJ (Bs : Nat) (A B : World) : Prop := A.heap.size ≤ B.heap.size ∧ B.heap[Bs]? = A.heap[Bs]? ∧ ∀ (k : Nat) (c : Array Value), A.heap[k]? = some (.cells c 125 (0, 0)) → c.size = 4 → B.heap[k]? = A.heap[k]?
theorem KpJ.refl (Bs : Nat) (A : World) : KpJ Bs A A := ⟨Nat.le_refl _, rfl, fun _ _ _ _ => rfl⟩
theorem KpJ.trans {Bs : Nat} {A B C : World} (h : KpJ Bs A B) (k : KpJ Bs B C) : KpJ Bs A C :=
  ⟨Nat.le_trans h.1 k.1, k.2.1.trans h.2.1, fun i c hi hc => by
    have h1 := h.2.2 i c hi hc
    rw [← h1]
    exact k.2.2 i c (by rw [h1]; exact hi) hc⟩
theorem KpI.toJ {n₀ Bs : Nat} {A B : World} (h : KpI n₀ A B) (hb : Bs < n₀) : KpJ Bs A B := ⟨h.1.size, h.1.block Bs hb, h.2⟩
theorem KpJ.putObj {Bs : Nat} {w : World} (hn : Bs < w.heap.size) (W : World) (l : Nat) (o o' : Obj) (hl : w.heap.size ≤ l) (h : W.heap[l]? = some o) (ho : o.isCells = false) (_hw : o.isWalk = false) : KpJ Bs W (W.putObj l o') :=
  ⟨by simp, World.putObj_heap_other (by omega), fun k c hk _ => by
    have hne : k ≠ l := fun e => by subst e; rw [h] at hk; cases hk; simp [Obj.isCells] at ho
    exact World.putObj_heap_other hne⟩
set_option maxRecDepth 100000 in
set_option maxHeartbeats 2000000 in
theorem items1_in (n : Nat) (hn : 1 ≤ n) (l Bs N : Nat) (s : ByteArray) (hs : s.size ≤ 9223372036854775807) (J Jx : List It → World → Prop)
    (hN : (items 0 (tl s)).length ≤ N)
    (hJ : ∀ pre A B, J pre A → Below A.heap.size A B → J pre B)
    (hY : ∀ pre x W, J pre W → pre.length < N → YieldAt Fence.wide (n - 1) Tryz.prog l #[itv x] W fun e W' =>
      (e = .returned (.bool true) ∧ J (pre ++ [x]) W' ∧ KpJ Bs W W') ∨ (e = .returned (.bool false) ∧ Jx (pre ++ [x]) W'))
    (W : World) (hBs : W.cell? ⟨Bs, 0, none⟩ = some (.string s)) (h0 : J [] W) :
    CallsIn Fence.wide n Tryz.prog 70 #[.func (.yield l) #[] #[], .pointer (some ⟨Bs, 0, none⟩)] W fun e W' => (∃ v, e = .returned v) ∧
      ((∃ ys, ys = items 0 (tl s) ∧ J ys W') ∨ (∃ pre, pre <+: items 0 (tl s) ∧ Jx pre W')) := by
  refine callsIn_of_wp Tryz.func70 rfl trivial ?_ rfl
  simp only [Tryz.ntmps70, List.size_toArray, List.length_cons, List.length_nil, Nat.reduceAdd, Nat.reduceSub, Array.replicate_succ, Array.replicate_zero, List.push_toArray, List.append_toArray, List.nil_append, List.cons_append]
  gi_wp2
  gi_loopw [3] (fun i wr => ∃ (k : Nat) (pre : List It), k ≤ s.size ∧ i = .int .i64 k ∧ items 0 (tl s) = pre ++ items k ((tl s).drop k) ∧ J pre wr ∧ wr.heap[Bs]? = W.heap[Bs]?) (fun i _ => s.size - (intOf i).toNat)
  case atStart => exact ⟨0, [], Nat.zero_le _, rfl, rfl, h0, rfl⟩
  case round =>
    obtain ⟨k, pre, hk, rfl, he, hJs, hnx⟩ := hrel
    have hcx : wr.cell? ⟨Bs, 0, none⟩ = some (.string s) := (World.cell?_of_block (w := W) (a := ⟨Bs, 0, none⟩) hnx).trans hBs
    have hBlt : Bs < wr.heap.size := World.block_lt_of_cell? wr _ hcx
    have HX : Hid (wr.heap[Bs]? = W.heap[Bs]?) := hnx
    clear hnx
    by_cases hlt : k < s.size
    · have hne : (tl s).drop k ≠ [] := fun h => by have := congrArg List.length h; simp at this; omega
      have hcons := items_cons k _ hne
      have hF := front_any (s.extract k s.size)
      rw [tl_rest] at hF
      have hFs : (s.extract k s.size).size ≤ 9223372036854775807 := by simp; omega
      have hle := front_le ((tl s).drop k)
      have hdw := fun n => decode_whole s k n
      unfold headIt wid at hcons
      have HE : Hid (items 0 (tl s) = pre ++ items k ((tl s).drop k)) := he
      clear he
      obtain ⟨⟨m, b⟩, hr⟩ : ∃ r, r = front ((tl s).drop k) := ⟨_, rfl⟩
      rw [← hr] at hF hle hcons hdw
      have HR : Hid (front ((tl s).drop k) = (m, b)) := hr.symm
      clear hr
      obtain ⟨hle1, hle2, hle3, hle4⟩ := hle
      have hlen : ((tl s).drop k).length = s.size - k := by simp
      rw [hlen] at hle1
      simp only at hle1 hle2 hle3 hle4 hdw hcons
      cases b with
      | true =>
        have hm1 := hle3 rfl
        have hd := hdw m rfl rfl
        clear hdw hle3 hle4
        have hse : (s.extract k (k + m)).size = m := by simp; omega
        gi_wp2_with (first
          | (refine ⟨trivial, ?_⟩; gi_at_call 71; refine (callsIn_wide.2 (badByte_any k _)).mono ?_; rintro e w1 ⟨rfl, hb1⟩; unfold itv; dsimp only; have hcA := fun o => cell_alloc_l o ((hb1.cell (p := ⟨Bs, 0, none⟩) hBlt).trans hcx))
          | (refine ⟨trivial, ?_⟩; gi_at_call 72; refine (callsIn_wide.2 (hF _ hFs)).mono ?_; rintro e w2 ⟨rfl, rfl⟩)
          | (refine ⟨trivial, ?_⟩; gi_at_call 73; refine (callsIn_wide.2 (sequence_any (s.extract k (k + m)) k (by omega) (by omega) _)).mono ?_; rintro e w3 ⟨rfl, hb3⟩; rw [hse, hd]; unfold itv; dsimp only; have hx3 := (hb3.block w1.heap.size (by simp)).trans (World.alloc_heap_new w1 _); have x0 := cell_of_block hx3 (i := 0); have x1 := cell_of_block hx3 (i := 1); have x2 := cell_of_block hx3 (i := 2); have x3 := cell_of_block hx3 (i := 3); have f0 := fun i => unfrozen_of_block hx3 i))
        have hb4 : Below wr.heap.size wr ((((w3.setCell ⟨w1.heap.size, 0, none⟩ (.int .i64 (k : Nat))).setCell ⟨w1.heap.size, 1, none⟩ (.int .i64 (m : Nat))).setCell ⟨w1.heap.size, 2, none⟩ (.int .i32 (rn ((tl s).drop k) : Nat))).setCell ⟨w1.heap.size, 3, none⟩ (.bool false)) := by
          have hz := hb1.size
          exact (((((hb1.alloc hz _).trans (hb3.mono (by simp; omega))).setCell (p := ⟨w1.heap.size, 0, none⟩) hz _).setCell (p := ⟨w1.heap.size, 1, none⟩) hz _).setCell (p := ⟨w1.heap.size, 2, none⟩) hz _).setCell (p := ⟨w1.heap.size, 3, none⟩) hz _
        have hx4 := block_setCell (i := 3) (block_setCell (i := 2) (block_setCell (i := 1) (block_setCell (i := 0) hx3 (.int .i64 (k : Nat))) (.int .i64 (m : Nat))) (.int .i32 (rn ((tl s).drop k) : Nat))) (.bool false)
        obtain ⟨W4, hW4⟩ : ∃ W4, W4 = (((w3.setCell ⟨w1.heap.size, 0, none⟩ (.int .i64 (k : Nat))).setCell ⟨w1.heap.size, 1, none⟩ (.int .i64 (m : Nat))).setCell ⟨w1.heap.size, 2, none⟩ (.int .i32 (rn ((tl s).drop k) : Nat))).setCell ⟨w1.heap.size, 3, none⟩ (.bool false) := ⟨_, rfl⟩
        rw [← hW4] at hb4 hx4 ⊢
        clear hW4 hx3 x0 x1 x2 x3 f0 hb3 hcA
        have hi4 : items 0 (tl s) = (pre ++ [⟨k, m, rn ((tl s).drop k), false⟩]) ++ items (k + m) ((tl s).drop (k + m)) := by
          rw [HE.out, hcons, List.drop_drop]
          simp
        have HL : Hid (items 0 (tl s) = (pre ++ [⟨k, m, rn ((tl s).drop k), false⟩]) ++ items (k + m) ((tl s).drop (k + m))) := hi4
        have hp4 : pre.length < N := by
          have := congrArg List.length hi4
          simp at this
          omega
        obtain ⟨fn, tmps, assign, body, hy, hR⟩ := hY pre ⟨k, m, rn ((tl s).drop k), false⟩ W4 (hJ _ _ _ hJs hb4) hp4
        unfold itv at hy
        dsimp only at hy
        clear hi4 hcons
        rw [hy]
        gi_wp2
        refine hR.mono ?_
        rintro e W5 (⟨rfl, hJ5, hk5⟩ | ⟨rfl, hJx5⟩)
        · have hx5 := hk5.2.2 _ _ hx4 rfl
          rw [hx4] at hx5
          have hx6 := cell_of_block hx5 (i := 1)
          gi_wp2
          go_roundw
          case rel => exact ⟨k + m, _, by omega, by go_num, HL.out, hJ5, hk5.2.1.trans ((hb4.block Bs hBlt).trans HX.out)⟩
          case measure => simp [intOf]; omega
        · gi_wp2
          refine bodyPost_ret (results_none rfl _ _ _) rfl ?_
          exact ⟨⟨_, rfl⟩, .inr ⟨_, ⟨_, HL.out.symm⟩, hJx5⟩⟩
      | false =>
        simp only [Bool.false_eq_true, if_false] at hcons
        clear hdw hle3 hle4
        gi_wp2_with (first
          | (refine ⟨trivial, ?_⟩; gi_at_call 71; refine (callsIn_wide.2 (badByte_any k _)).mono ?_; rintro e w1 ⟨rfl, hb1⟩; unfold itv; dsimp only; have hcA := fun o => cell_alloc_l o ((hb1.cell (p := ⟨Bs, 0, none⟩) hBlt).trans hcx))
          | (refine ⟨trivial, ?_⟩; gi_at_call 72; refine (callsIn_wide.2 (hF _ hFs)).mono ?_; rintro e w2 ⟨rfl, rfl⟩))
        have hb4 : Below wr.heap.size wr (w1.alloc (.cells #[.int .i64 (k : Nat), .int .i64 1, .int .i32 65533, .bool true] 125)) := hb1.alloc hb1.size _
        have hx4 := World.alloc_heap_new w1 (.cells #[.int .i64 (k : Nat), .int .i64 1, .int .i32 65533, .bool true] 125)
        obtain ⟨W4, hW4⟩ : ∃ W4, W4 = w1.alloc (.cells #[.int .i64 (k : Nat), .int .i64 1, .int .i32 65533, .bool true] 125) := ⟨_, rfl⟩
        rw [← hW4] at hb4 hx4 ⊢
        clear hW4 hcA
        have hi4 : items 0 (tl s) = (pre ++ [⟨k, 1, 65533, true⟩]) ++ items (k + 1) ((tl s).drop (k + 1)) := by
          rw [HE.out, hcons, List.drop_drop]
          simp
        have HL : Hid (items 0 (tl s) = (pre ++ [⟨k, 1, 65533, true⟩]) ++ items (k + 1) ((tl s).drop (k + 1))) := hi4
        have hp4 : pre.length < N := by
          have := congrArg List.length hi4
          simp at this
          omega
        obtain ⟨fn, tmps, assign, body, hy, hR⟩ := hY pre ⟨k, 1, 65533, true⟩ W4 (hJ _ _ _ hJs hb4) hp4
        unfold itv at hy
        dsimp only at hy
        clear hi4 hcons
        rw [show ((1 : Nat) : Int) = 1 from rfl, show ((65533 : Nat) : Int) = 65533 from rfl] at hy
        rw [hy]
        gi_wp2
        refine hR.mono ?_
        rintro e W5 (⟨rfl, hJ5, hk5⟩ | ⟨rfl, hJx5⟩)
        · have hx5 := hk5.2.2 _ _ hx4 rfl
          rw [hx4] at hx5
          have hx6 := cell_of_block hx5 (i := 1)
          gi_wp2
          go_roundw
          case rel => exact ⟨k + 1, _, by omega, by go_num, HL.out, hJ5, hk5.2.1.trans ((hb4.block Bs hBlt).trans HX.out)⟩
          case measure => simp [intOf]; omega
        · gi_wp2
          refine bodyPost_ret (results_none rfl _ _ _) rfl ?_
          exact ⟨⟨_, rfl⟩, .inr ⟨_, ⟨_, HL.out.symm⟩, hJx5⟩⟩
    · obtain rfl : k = s.size := by omega
      have hd0 : (tl s).drop s.size = [] := by rw [← tl_len, List.drop_length]
      rw [hd0, items_nil, List.append_nil] at he
      have HE : Hid (items 0 (tl s) = pre) := he
      clear he hd0
      gi_wp2
      go_end0
      exact ⟨⟨_, rfl⟩, .inl ⟨_, HE.out.symm, hJs⟩⟩
/-- utf.Items: the text is boxed; the function value captures the box. -/
theorem items_in (n : Nat) (s : ByteArray) (w : World) :
    CallsIn Fence.wide n Tryz.prog 52 #[.string s] w fun e w' => e = .returned (.func (.func 70) #[] #[.pointer (some ⟨w.heap.size, 0, none⟩)]) ∧ w' = w.alloc (.cells #[.string s] 9) := by
  refine callsIn_of_wp Tryz.func52 rfl trivial ?_ rfl
  simp only [Tryz.ntmps52, List.size_toArray, List.length_cons, List.length_nil, Nat.reduceAdd, Nat.reduceSub, Array.replicate_succ, Array.replicate_zero, List.push_toArray, List.append_toArray, List.nil_append, List.cons_append]
  gi_wp2
  go_ret
  exact ⟨rfl, rfl⟩
theorem items_stops (n : Nat) (hn : 1 ≤ n) (Bs : Nat) (s : ByteArray) (hs : s.size ≤ 9223372036854775807) (w : World) (hc : w.cell? ⟨Bs, 0, none⟩ = some (.string s)) :
    SeqStopsK Fence.wide n Tryz.prog 70 #[.pointer (some ⟨Bs, 0, none⟩)] (fun x : It => #[itv x]) (KpJ Bs) (fun ys => ys = items 0 (tl s)) (fun pre => pre <+: items 0 (tl s)) (items 0 (tl s)).length w := fun l J Jx W hW hJ _ hY h0 =>
  items1_in n hn l Bs _ s hs J Jx (Nat.le_refl _)
    (fun pre A B hA hAB => hJ pre A B none hA ⟨hAB.os, hAB.tape, hAB.output, hAB.size, fun k hk _ => hAB.block k hk⟩ (fun r e => by cases e))
    hY W ((hW.cell (p := ⟨Bs, 0, none⟩) (World.block_lt_of_cell? w _ hc)).trans hc) h0
end Go.Proofs.YtonbfcpbgkpbaaaGreatDoor
end
