import Derived.Test.YtonbfcpbgkpbaaaDoorJ15
import Derived.Shelf.Strconv.Itoa3
import Derived.Test.YtonbfcpbgkpbaaaDoorProg
import Derived.Test.YtonbfcpbgkpbaaaDoorJ13
import Derived.Lib.LaidTab
import Derived.Test.YtonbfcpbgkpbaaaDoorJ12
import Derived.Test.YtonbfcpbgkpbaaaDoorJ3
section
/- Recipes: the text that is printed, its tokens, what is read of it: the mathematics. -/
namespace Go.Proofs.YtonbfcpbgkpbaaaDoor
set_option linter.unusedVariables false
set_option linter.unusedSimpArgs false
set_option maxRecDepth 100000
/-- Tokens and what they are scanned as. -/
def TkL : List (List UInt8) → List KS → Prop
  | [], [] => True
  | t :: ts, (k, s) :: ks => TkOk t k s ∧ TkL ts ks
  | _, _ => False
theorem TkL.app : ∀ {a : List (List UInt8)} {ka : List KS} {b : List (List UInt8)} {kb : List KS}, TkL a ka → TkL b kb → TkL (a ++ b) (ka ++ kb)
  | [], [], _, _, _, h => h
  | t :: a, (k, s) :: ka, _, _, h, h2 => ⟨h.1, TkL.app h.2 h2⟩
theorem TkL.len : ∀ {a : List (List UInt8)} {ka : List KS}, TkL a ka → ka.length = a.length
  | [], [], _ => rfl
  | t :: a, (k, s) :: ka, h => by simp [TkL.len h.2]
theorem TkL.get : ∀ {a : List (List UInt8)} {ka : List KS}, TkL a ka → ∀ i, i < a.length → TkOk (a.getD i []) (ka.getD i (0, [])).1 (ka.getD i (0, [])).2
  | [], [], _, i, hi => by simp at hi
  | t :: a, (k, s) :: ka, h, 0, _ => h.1
  | t :: a, (k, s) :: ka, h, i + 1, hi => by
    have := TkL.get h.2 i (by simpa using hi)
    simpa using this
/-- A line: tokens and what stands at its end. -/
def lnT (w : List UInt8) (ts : List (List UInt8)) : List UInt8 := jn ts ts.length ++ w
theorem chunk_line {w : List UInt8} {ts : List (List UInt8)} {ks : List KS} (h : TkL ts ks) (h0 : 0 < ts.length) (hw : Gap w) : Chunk (lnT w ts) ks := by
  have := chunk_join ts ks h.len h.get ts.length (Nat.le_refl _) w (fun _ => hw) (fun e => by omega)
  rwa [List.take_of_length_le (by rw [h.len]; exact Nat.le_refl _)] at this
/-- The tokens of a merge. -/
def mergeT (ws : List ByteArray) (x : Mg) : List (List UInt8) := [sMerge, quoteF (tl (wordF ws x.l.toNat)), sPlus, quoteF (tl (wordF ws x.r.toNat)), sEq, dec3 x.i.toNat]
def mergeR (ws : List ByteArray) (x : Mg) : Rul := .m (tl (wordF ws x.l.toNat)) (tl (wordF ws x.r.toNat)) (dec3 x.i.toNat)
theorem tkl_merge {ws : List ByteArray} {x : Mg} (h : 256 ≤ x.i.toNat ∧ x.i.toNat < 1000) : TkL (mergeT ws x) (rulKs (mergeR ws x)) :=
  ⟨tk_name (by decide) (by decide), tk_word _, tk_sign (by decide), tk_word _, tk_sign (by decide), tk_dec (by omega) h.2, trivial⟩
theorem sp_scal {x : Sp} (h : spOk x = true) : ∃ lo hi : Nat, x.lo = lo ∧ x.hi = hi ∧ scalarB lo = true ∧ scalarB hi = true ∧ lo ≤ 1114111 ∧ hi ≤ 1114111 := by
  unfold spOk at h
  simp only [Bool.and_eq_true] at h
  have hs : ∀ z : Int, scalZ z = true → ∃ n : Nat, z = n ∧ scalarB n = true ∧ n ≤ 1114111 := by
    intro z hz
    simp only [scalZ, Bool.and_eq_true, Bool.or_eq_true, decide_eq_true_eq] at hz
    refine ⟨z.toNat, by omega, ?_, by omega⟩
    simp only [scalarB, Bool.or_eq_true, Bool.and_eq_true, decide_eq_true_eq]
    omega
  obtain ⟨a, a1, a2, a3⟩ := hs _ h.1
  obtain ⟨b, b1, b2, b3⟩ := hs _ h.2
  exact ⟨a, b, a1, b1, a2, b2, a3, b3⟩
theorem sp_fit {x : Sp} (h : spOk x = true) : SpFit x := by
  obtain ⟨a, b, h1, h2, _, _, h3, h4⟩ := sp_scal h
  exact ⟨⟨a, h1, h3⟩, b, h2, h4⟩
theorem tkl_sp {x : Sp} (h : spOk x = true) : TkL (spT x) (spKs x) := by
  obtain ⟨a, b, h1, h2, h3, h4, _, _⟩ := sp_scal h
  unfold spT spKs
  rw [h1, h2]
  simp only [Int.toNat_natCast]
  split
  · exact ⟨tk_rune h3, trivial⟩
  · exact ⟨tk_rune h3, tk_to, tk_rune h4, trivial⟩
theorem tkl_sps {l : List Sp} (h : l.all spOk = true) : TkL (l.flatMap spT) (l.flatMap spKs) := by
  induction l with
  | nil => trivial
  | cons x l ih =>
    simp only [List.all_cons, Bool.and_eq_true] at h
    rw [List.flatMap_cons, List.flatMap_cons]
    exact (tkl_sp h.1).app (ih h.2)
theorem tkl_cls {i : Nat} {l : List Sp} (h : l.all spOk = true) : TkL (clsT (clsNm i) l) (rulKs (.c i l)) := by
  have h1 : TkL [clsNm i, [123]] [(1, clsNm i), (5, sOpen)] := by
    refine ⟨?_, tk_sign (by decide), trivial⟩
    unfold clsNm
    split
    · exact tk_name (by decide) (by decide)
    · split
      · exact tk_name (by decide) (by decide)
      · exact tk_name (by decide) (by decide)
  have h2 : TkL [[125]] [(5, sShut)] := ⟨tk_sign (by decide), trivial⟩
  have := (h1.app (tkl_sps h)).app h2
  unfold clsT rulKs
  rw [List.append_assoc] at this
  exact this
/-- What is printed: lines. -/
def linesF (ws : List ByteArray) (ms : List Mg) (A B C : List Sp) : List (List (List UInt8)) := ms.map (mergeT ws) ++ [clsT (clsNm 0) A, clsT (clsNm 1) B, clsT (clsNm 2) C]
def rulesOf (ws : List ByteArray) (ms : List Mg) (A B C : List Sp) : List Rul := ms.map (mergeR ws) ++ [.c 0 A, .c 1 B, .c 2 C]
def textF (w : List UInt8) (L : List (List (List UInt8))) : List UInt8 := L.flatMap (lnT w)
/-- May they be printed? 0, or why not. -/
def wordsOk (ws : List ByteArray) (ms : List Mg) : Bool := decide (ws.length = ms.length) && unlikeF ws && madeF ws (256 + ms.length) ms (fun j => decide (j < 256))
def runesOk (A B C : List Sp) : Bool := A.all spOk && B.all spOk && C.all spOk
theorem made_ids {ws : List ByteArray} {n : Nat} : ∀ (ms : List Mg) (M : Nat → Bool), (∀ j, j < 256 → M j = true) → madeF ws n ms M = true → ∀ x ∈ ms, (∃ i : Nat, x.i = i ∧ 256 ≤ i ∧ i < n) ∧ (∃ i : Nat, x.l = i ∧ i < n) ∧ ∃ i : Nat, x.r = i ∧ i < n
  | [], M, _, _, x, hx => by simp at hx
  | y :: ms, M, hlo, h, x, hx => by
    rw [madeF_cons] at h
    by_cases hc : newId n M y.i = true ∧ isMadeF n M y.l = true ∧ isMadeF n M y.r = true ∧ cutOk ws y = true
    · rw [if_pos hc] at h
      obtain ⟨v, hv, hvn, hMv⟩ := newId_nat hc.1
      rcases List.mem_cons.1 hx with rfl | hx
      · obtain ⟨a, ha, han, _⟩ := isMadeF_nat hc.2.1
        obtain ⟨b, hb, hbn, _⟩ := isMadeF_nat hc.2.2.1
        refine ⟨⟨v, hv, ?_, hvn⟩, ⟨a, ha, han⟩, b, hb, hbn⟩
        by_cases hh : v < 256
        · rw [hlo v hh] at hMv; cases hMv
        · omega
      · exact made_ids ms _ (fun j hj => by simp [hlo j hj]) h x hx
    · rw [if_neg hc] at h
      cases h
theorem lines_chunk {w : List UInt8} (hw : Gap w) {ws : List ByteArray} {ms : List Mg} {A B C : List Sp} (hn : ms.length ≤ 700) (h1 : wordsOk ws ms = true) (h2 : runesOk A B C = true) : Chunk (textF w (linesF ws ms A B C)) ((rulesOf ws ms A B C).flatMap rulKs) := by
  simp only [wordsOk, Bool.and_eq_true, decide_eq_true_eq] at h1
  simp only [runesOk, Bool.and_eq_true] at h2
  have hid := made_ids ms _ (fun j hj => decide_eq_true hj) h1.2
  have hm : ∀ l : List Mg, (∀ x ∈ l, ∃ i : Nat, x.i = i ∧ 256 ≤ i ∧ i < 256 + ms.length) → Chunk ((l.map (mergeT ws)).flatMap (lnT w)) ((l.map (mergeR ws)).flatMap rulKs) := by
    intro l
    induction l with
    | nil => intro _; exact chunk_nil
    | cons x l ih =>
      intro h
      obtain ⟨i, hi, hi1, hi2⟩ := h x (by simp)
      rw [List.map_cons, List.map_cons, List.flatMap_cons, List.flatMap_cons]
      exact (chunk_line (tkl_merge (by rw [hi]; simp; omega)) (by show 0 < 6; omega) hw).app (ih (fun y hy => h y (by simp [hy])))
  have hc : ∀ i (l : List Sp), l.all spOk = true → Chunk (lnT w (clsT (clsNm i) l)) (rulKs (.c i l)) := fun i l h => chunk_line (tkl_cls h) (by unfold clsT; simp) hw
  unfold textF linesF rulesOf
  rw [List.flatMap_append, List.flatMap_append]
  refine (hm ms (fun x hx => (hid x hx).1)).app ?_
  have := ((hc 0 A h2.1.1).app (hc 1 B h2.1.2)).app (hc 2 C h2.2)
  simp only [List.flatMap_cons, List.flatMap_nil, List.append_nil]
  rw [List.append_assoc] at this
  rw [List.append_assoc] at this
  exact this
theorem rules_fit_of {ws : List ByteArray} {ms : List Mg} {A B C : List Sp} (h2 : runesOk A B C = true) : ∀ R ∈ rulesOf ws ms A B C, RulFit R := by
  simp only [runesOk, Bool.and_eq_true, List.all_eq_true] at h2
  intro R hR
  unfold rulesOf at hR
  rcases List.mem_append.1 hR with hR | hR
  · obtain ⟨x, _, rfl⟩ := List.mem_map.1 hR
    trivial
  · simp only [List.mem_cons, List.mem_nil_iff, or_false] at hR
    rcases hR with rfl | rfl | rfl
    · exact ⟨by omega, fun x hx => sp_fit (h2.1.1 x hx)⟩
    · exact ⟨by omega, fun x hx => sp_fit (h2.1.2 x hx)⟩
    · exact ⟨by omega, fun x hx => sp_fit (h2.2 x hx)⟩
theorem fold_merges (ws : List ByteArray) : ∀ (ms : List Mg) (d : RX), (ms.map (mergeR ws)).foldl rulX d = { d with M := d.M ++ ms.map fun x => (tl (wordF ws x.l.toNat), tl (wordF ws x.r.toNat), dec3 x.i.toNat) }
  | [], d => by simp
  | x :: ms, d => by
    rw [List.map_cons, List.foldl_cons, fold_merges ws ms]
    simp [rulX, mergeR]
/-- What was gathered of the merges means them. -/
theorem mean_text {ws : List ByteArray} {ms : List Mg} {rd : RD} (hn : ms.length ≤ 700) (h1 : wordsOk ws ms = true) (hM : rd.M.map wrX = ms.map fun x => (tl (wordF ws x.l.toNat), tl (wordF ws x.r.toNat), dec3 x.i.toNat)) :
    ∃ d, meanF rd.M ⟨List.replicate rd.M.length [], [], []⟩ = .ok d ∧ d.W = ws.map (fun w => tl w) ∧ d.M = ms := by
  simp only [wordsOk, Bool.and_eq_true, decide_eq_true_eq] at h1
  have hid := made_ids ms _ (fun j hj => decide_eq_true hj) h1.2
  have hl : rd.M.length = ms.length := by simpa using congrArg List.length hM
  refine mean_all h1.1.1 h1.1.2 h1.2 hl (fun i x y hx hy => ?_)
  have := congrArg (fun l => l[i]?) hM
  simp only [List.getElem?_map, hx, hy, Option.map_some, Option.some.injEq] at this
  obtain ⟨k, hk, hk1, hk2⟩ := (hid x (List.mem_of_getElem? hx)).1
  unfold mgX
  rw [this, hk]
  refine ⟨rfl, rfl, ?_⟩
  simp only [Int.toNat_natCast]
  rw [dec_val (by omega)]
/-- What is printed is read as what it was: whatever stands at the lines' ends, ahead and behind. -/
theorem parse_text {w b c : List UInt8} (hw : Gap w) (hb : Blk b) (hc : BlkEnd c) {ws : List ByteArray} {ms : List Mg} {A B C : List Sp} (hn : ms.length ≤ 700) (h1 : wordsOk ws ms = true) (h2 : runesOk A B C = true)
    (hl : (b ++ (textF w (linesF ws ms A B C) ++ c)).length ≤ 4194304) : parseA (b ++ (textF w (linesF ws ms A B C) ++ c)) = .ok ⟨ws.map (fun w => tl w), ms, A, B, C⟩ := by
  have ht : Txt (b ++ (textF w (linesF ws ms A B C) ++ c)) ((rulesOf ws ms A B C).flatMap rulKs) := by
    have := lines_chunk hw hn h1 h2 c [] (.fin c hc)
    rw [List.append_nil] at this
    exact this.blk hb
  obtain ⟨rd, hrd, hp⟩ := parse_rules hl (rules_fit_of h2) ht
  have hf : (rulesOf ws ms A B C).foldl rulX ⟨[], [], [], []⟩ = ⟨ms.map fun x => (tl (wordF ws x.l.toNat), tl (wordF ws x.r.toNat), dec3 x.i.toNat), A, B, C⟩ := by
    unfold rulesOf
    rw [List.foldl_append, fold_merges]
    simp [rulX]
  rw [hf] at hrd
  unfold rxOf at hrd
  injection hrd with e1 e2 e3 e4
  obtain ⟨d, hd, hd1, hd2⟩ := mean_text hn h1 e1
  rw [hp, hd]
  simp only [hd1, hd2, e2, e3, e4]
end Go.Proofs.YtonbfcpbgkpbaaaDoor
end
section
/- The contract of strconv.Itoa, laid off the shelf at this dump. -/
namespace Go.Proofs.YtonbfcpbgkpbaaaDoor
end Go.Proofs.YtonbfcpbgkpbaaaDoor
namespace Go.Proofs
open Go.Shelf
def Tryd.laysM171_ren : Go.Shelf.Ren := ⟨fun | 171 => 18 | 243 => 33 | 246 => 47 | 283 => 71 | 284 => 72 | 285 => 73 | 286 => 74 | 129 => 85 | 317 => 84 | 318 => 86 | 319 => 87 | 320 => 88 | 337 => 95 | 338 => 96 | n => n, fun | 3 => 3 | 9 => 9 | 2 => 2 | 4 => 4 | 171 => 114 | 0 => 0 | 53 => 115 | 37 => 35 | 5 => 5 | 173 => 118 | 212 => 130 | 51 => 122 | 20 => 20 | 213 => 131 | 46 => 79 | 232 => 135 | 233 => 136 | n => n, fun | 17 => 1 | 18 => 2 | 19 => 3 | n => n⟩
theorem Tryd.laysM171 : Go.Proofs.LaysM.n171 Tryd.prog Tryd.laysM171_ren := {
  mixed := by kernel_rfl
  f129 := Tryd.func85.trans (congrArg some (by kernel_rfl))
  f171 := Tryd.func18.trans (congrArg some (by kernel_rfl))
  f243 := Tryd.func33.trans (congrArg some (by kernel_rfl))
  f246 := Tryd.func47.trans (congrArg some (by kernel_rfl))
  f283 := Tryd.func71.trans (congrArg some (by kernel_rfl))
  f284 := Tryd.func72.trans (congrArg some (by kernel_rfl))
  f285 := Tryd.func73.trans (congrArg some (by kernel_rfl))
  f286 := Tryd.func74.trans (congrArg some (by kernel_rfl))
  f317 := Tryd.func84.trans (congrArg some (by kernel_rfl))
  f318 := Tryd.func86.trans (congrArg some (by kernel_rfl))
  f319 := Tryd.func87.trans (congrArg some (by kernel_rfl))
  f320 := Tryd.func88.trans (congrArg some (by kernel_rfl))
  f337 := Tryd.func95.trans (congrArg some (by kernel_rfl))
  f338 := Tryd.func96.trans (congrArg some (by kernel_rfl))
  t0 := Tryd.underlying0
  a0 := Tryd.isAgg0
  z0 := Tryd.sizeOf0
  v0 := Tryd.zeroValue0
  t2 := Tryd.underlying2
  a2 := Tryd.isAgg2
  z2 := Tryd.sizeOf2
  v2 := Tryd.zeroValue2
  t3 := Tryd.underlying3
  a3 := Tryd.isAgg3
  z3 := Tryd.sizeOf3
  v3 := Tryd.zeroValue3
  t4 := Tryd.underlying4
  a4 := Tryd.isAgg4
  z4 := Tryd.sizeOf4
  v4 := Tryd.zeroValue4
  t5 := Tryd.underlying5
  a5 := Tryd.isAgg5
  z5 := Tryd.sizeOf5
  v5 := Tryd.zeroValue5
  t9 := Tryd.underlying9
  a9 := Tryd.isAgg9
  z9 := Tryd.sizeOf9
  v9 := Tryd.zeroValue9
  t20 := Tryd.underlying20
  a20 := Tryd.isAgg20
  z20 := Tryd.sizeOf20
  v20 := Tryd.zeroValue20
  t37 := Tryd.underlying35
  a37 := Tryd.isAgg35
  z37 := Tryd.sizeOf35
  v37 := Tryd.zeroValue35
  t46 := Tryd.underlying79
  a46 := Tryd.isAgg79
  z46 := Tryd.sizeOf79
  v46 := Tryd.zeroValue79
  t51 := Tryd.underlying122
  a51 := Tryd.isAgg122
  z51 := Tryd.sizeOf122
  v51 := Tryd.zeroValue122
  t53 := Tryd.underlying115
  a53 := Tryd.isAgg115
  z53 := Tryd.sizeOf115
  v53 := Tryd.zeroValue115
  t171 := Tryd.underlying114
  a171 := Tryd.isAgg114
  z171 := Tryd.sizeOf114
  v171 := Tryd.zeroValue114
  t173 := Tryd.underlying118
  a173 := Tryd.isAgg118
  z173 := Tryd.sizeOf118
  v173 := Tryd.zeroValue118
  t212 := Tryd.underlying130
  a212 := Tryd.isAgg130
  z212 := Tryd.sizeOf130
  v212 := Tryd.zeroValue130
  t213 := Tryd.underlying131
  a213 := Tryd.isAgg131
  z213 := Tryd.sizeOf131
  t232 := Tryd.underlying135
  a232 := Tryd.isAgg135
  z232 := Tryd.sizeOf135
  v232 := Tryd.zeroValue135
  t233 := Tryd.underlying136
  a233 := Tryd.isAgg136
  z233 := Tryd.sizeOf136
  v233 := Tryd.zeroValue136
  g17 := by kernel_rfl
  g18 := by kernel_rfl
  g19 := by kernel_rfl
  i0 := by kernel_rfl
  i2 := by kernel_rfl
  i3 := by kernel_rfl
  i4 := by kernel_rfl
  i5 := by kernel_rfl
  i9 := by kernel_rfl
  i20 := by kernel_rfl
  i37 := by kernel_rfl
  i46 := by kernel_rfl
  i51 := by kernel_rfl
  i53 := by kernel_rfl
  i171 := by kernel_rfl
  i173 := by kernel_rfl
  i212 := by kernel_rfl
  i232 := by kernel_rfl
  i233 := by kernel_rfl
  m17 := by kernel_rfl
  m18 := by kernel_rfl
  m19 := by kernel_rfl }
open Go.RowKit Go.Sort Go.Lib in
/-- strconv.Itoa: "Itoa is equivalent to FormatInt(int64(i), 10).": i's DECIMAL NUMERAL ('Lib.itoa': a '-' where i is negative, then the digits), FOR EVERY int. The world behind the call: the world before it, new blocks behind the heap (the library's 'var a [24]byte'), draws. (LAID: no walk: one application.) -/
theorem Tryd.strconv_Itoa (n : Int) (h0 : -9223372036854775808 ≤ n) (h1 : n ≤ 9223372036854775807) (w : World) (htab : Lib.TabIs Tryd.prog w "internal/strconv.uint64pow10" .u64 Lib.pow10Tab) :
    Calls Tryd.prog 18 #[.int .i64 n] w fun e w' => e = .returned (.string ⟨(Lib.itoa n).toArray⟩) ∧ ∃ k os, w' = grow (w.drewN k) os := Any.strconv_Itoa Tryd.laysM171 n h0 h1 w htab
end Go.Proofs
end
section
/- The table of powers of ten, off the row's condition (three tables are listed). -/
namespace Go.Proofs.YtonbfcpbgkpbaaaDoor
open Go.ChangeShapes Go.WideShapes Go.ChangeAt Go.WideMaps Go.WideElems Go.RowKit
theorem gPow : Tryd.prog.globalNamed "internal/strconv.uint64pow10" = some 1 := by kernel_rfl
theorem tPow : (Tryd.prog.globals[1]?).map (·.type) = some 130 := by kernel_rfl
theorem undPow : Tryd.prog.underlying 130 = some (.array 20 115) := by kernel_rfl
/-- The powers of ten, as the library's contract asks for them. -/
abbrev PT (w : World) : Prop := Lib.TabIs Tryd.prog w "internal/strconv.uint64pow10" .u64 [1, 10, 100, 1000, 10000, 100000, 1000000, 10000000, 100000000, 1000000000, 10000000000, 100000000000, 1000000000000, 10000000000000, 100000000000000, 1000000000000000, 10000000000000000, 100000000000000000, 1000000000000000000, 10000000000000000000]
set_option maxRecDepth 100000 in
theorem of_laid3 {W : World} (h : laidMetH Tryd.prog laids W) : PT W := by
  rw [MakeChecks.laidMetH_plain _ _ _ (by kernel_rfl)] at h
  obtain ⟨ps, ⟨_, _, _, _, _, _, _, _, _, _, ⟨_, _, _, _, _, _, _, _, _, _, ⟨g2, t2, ⟨cs2⟩, f2, p2, q2, hg2, ht2, hv2, hd2, _, _⟩, _⟩, _⟩, _⟩ := h
  obtain rfl := Option.some.inj (gPow.symm.trans hg2)
  obtain rfl := Option.some.inj (tPow.symm.trans ht2)
  unfold PT Lib.TabIs
  rw [hv2]
  exact congrArg (fun l => some (List.toArray l)) (Lib.cells_of_tab (zs := [1, 10, 100, 1000, 10000, 100000, 1000000, 10000000, 100000000, 1000000000, 10000000000, 100000000000, 1000000000000, 10000000000000, 100000000000000, 1000000000000000, 10000000000000000, 100000000000000000, 1000000000000000000, 10000000000000000000]) undPow Tryd.underlying115 (by kernel_rfl) (by kernel_rfl) hd2)
end Go.Proofs.YtonbfcpbgkpbaaaDoor
end
section
/- recipe.Print: its answer as a plain function; sizes. -/
namespace Go.Proofs.YtonbfcpbgkpbaaaDoor
open Go.RowKit Go.Sort Go.Joins
set_option linter.unusedVariables false
set_option linter.unusedSimpArgs false
set_option maxRecDepth 100000
theorem PT.stays {w w' : World} (h : PT w) (hb : Below w.heap.size w w') : PT w' := tab_stays gPow h hb (Nat.le_refl _)
/-- What Print answers. -/
def printF (ws : List ByteArray) (ms : List Mg) (A B C : List Sp) : List UInt8 × Nat :=
  if wordsOk ws ms = true then (if runesOk A B C = true then (textF [10] (linesF ws ms A B C), 0) else ([], 14)) else ([], 21)
theorem itoa_dec : ∀ v : Nat, v < 356 → 256 ≤ v → Lib.itoa (v : Int) = dec3 v := of_decide_eq_true (by kernel_rfl)
theorem itoa_any (v : Nat) (h1 : 256 ≤ v) (h2 : v < 356) (w : World) (hP : PT w) : Calls Tryd.prog 18 #[.int .i64 (v : Nat)] w fun e w' => e = .returned (.string (textOf (dec3 v))) ∧ Below w.heap.size w w' := by
  refine (Tryd.strconv_Itoa (v : Int) (by omega) (by omega) w hP).mono ?_
  rintro e w' ⟨rfl, k, os, rfl⟩
  rw [itoa_dec v h2 h1]
  exact ⟨rfl, below_regrown w (w.drawn + k) os⟩
theorem jn_len (ts : List (List UInt8)) (B : Nat) (h : ∀ t ∈ ts, t.length ≤ B) : ∀ k, (jn ts k).length ≤ k * (B + 1)
  | 0 => by simp [jn]
  | k + 1 => by
    have ih := jn_len ts B h k
    rw [jn_succ, List.length_append, List.length_append, Nat.add_mul]
    have : (ts.getD k []).length ≤ B := by
      by_cases hk : k < ts.length
      · have := h ts[k] (List.getElem_mem hk)
        simpa [List.getD, List.getElem?_eq_getElem hk] using this
      · simp [List.getD, List.getElem?_eq_none (by omega : ts.length ≤ k)]
    have : (if 0 < k then [(32 : UInt8)] else []).length ≤ 1 := by split <;> simp
    omega
theorem quote_len (w : ByteArray) (h : w.size ≤ 1048576) : (quoteF (tl w)).length ≤ 3145730 := by
  have := quoteT_len (tl w)
  have h2 : (tl w).length = w.size := by simp
  unfold quoteF
  rw [List.length_cons, List.length_append]
  show _ + 1 + 1 ≤ _
  omega
theorem wordF_le (ws : List ByteArray) (h : ∀ x ∈ ws, x.size ≤ 1048576) (id : Nat) : (wordF ws id).size ≤ 1048576 := by
  unfold wordF
  split
  · show 1 ≤ _
    omega
  · by_cases hk : id - 256 < ws.length
    · have := h ws[id - 256] (List.getElem_mem hk)
      simpa [List.getD, List.getElem?_eq_getElem hk] using this
    · rw [List.getD, List.getElem?_eq_none (by omega : ws.length ≤ id - 256)]
      show 0 ≤ _
      omega
theorem merge_len {ws : List ByteArray} (h : ∀ x ∈ ws, x.size ≤ 1048576) (x : Mg) : ∀ t ∈ mergeT ws x, t.length ≤ 3145730 := by
  intro t ht
  unfold mergeT at ht
  simp only [List.mem_cons, List.mem_nil_iff, or_false] at ht
  rcases ht with rfl | rfl | rfl | rfl | rfl | rfl
  · decide
  · exact quote_len _ (wordF_le ws h _)
  · decide
  · exact quote_len _ (wordF_le ws h _)
  · decide
  · show 3 ≤ _; omega
theorem rtok_len {n : Nat} (h : n ≤ 1114111) : (runeTok n).length ≤ 8 := by
  obtain ⟨l, hl, _, h2, _⟩ := rune_form h
  unfold runeTok
  rw [hl]
  simp
  omega
theorem cls_len {l : List Sp} {nm : List UInt8} (hn : nm.length ≤ 8) (h : l.all spOk = true) : (∀ t ∈ clsT nm l, t.length ≤ 8) ∧ (clsT nm l).length ≤ 3 * l.length + 3 := by
  constructor
  · intro t ht
    unfold clsT at ht
    simp only [List.mem_append, List.mem_cons, List.mem_nil_iff, or_false, List.mem_flatMap] at ht
    rcases ht with (h1 | ⟨x, hx, h1⟩) | h1
    · rcases h1 with rfl | rfl
      · exact hn
      · decide
    · have := List.all_eq_true.1 h x hx
      obtain ⟨a, b, e1, e2, _, _, l1, l2⟩ := sp_scal this
      unfold spT at h1
      rw [e1, e2] at h1
      simp only [Int.toNat_natCast] at h1
      split at h1
      · simp at h1
        subst h1
        exact rtok_len l1
      · simp at h1
        rcases h1 with rfl | rfl | rfl
        · exact rtok_len l1
        · decide
        · exact rtok_len l2
    · subst h1; decide
  · unfold clsT
    have := flatT_len l
    rw [List.length_append, List.length_append]
    show 2 + _ + 1 ≤ _
    omega
/-- The text of the first merges. -/
def accF (ws : List ByteArray) (ms : List Mg) (k : Nat) : List UInt8 := textF [10] ((ms.take k).map (mergeT ws))
theorem accF_succ {ws : List ByteArray} {ms : List Mg} {k : Nat} {x : Mg} (h : ms[k]? = some x) : accF ws ms (k + 1) = accF ws ms k ++ (jn (mergeT ws x) (mergeT ws x).length ++ [10]) := by
  unfold accF textF
  rw [List.take_add_one, h, List.map_append, List.flatMap_append]
  simp [lnT]
theorem accF_len {ws : List ByteArray} (h : ∀ x ∈ ws, x.size ≤ 1048576) (ms : List Mg) : ∀ k, k ≤ ms.length → (accF ws ms k).length ≤ k * 18874388
  | 0, _ => by simp [accF, textF]
  | k + 1, hk => by
    have ih := accF_len h ms k (by omega)
    rw [accF_succ (List.getElem?_eq_getElem (by omega : k < ms.length)), List.length_append, List.length_append]
    have := jn_len _ _ (merge_len h ms[k]) (mergeT ws ms[k]).length
    have e : (mergeT ws ms[k]).length = 6 := rfl
    rw [e] at this ⊢
    simp
    omega
theorem text_all (ws : List ByteArray) (ms : List Mg) (A B C : List Sp) : textF [10] (linesF ws ms A B C) = accF ws ms ms.length ++ lnT [10] (clsT nmL A) ++ lnT [10] (clsT nmN B) ++ lnT [10] (clsT nmS C) := by
  unfold textF linesF accF textF
  rw [List.take_of_length_le (Nat.le_refl _)]
  simp only [List.flatMap_append, List.flatMap_cons, List.flatMap_nil, List.append_nil, List.append_assoc]
  rfl
end Go.Proofs.YtonbfcpbgkpbaaaDoor
end
section
/- recipe.Print for all data: its contract. -/
namespace Go.Proofs.YtonbfcpbgkpbaaaDoor
open Go.RowKit Go.Sort Go.Joins
set_option linter.unusedVariables false
set_option linter.unusedSimpArgs false
set_option maxRecDepth 100000
/-- What Print's argument is, in a world. -/
structure PrD (w : World) (aw am a b c : Option Addr) (ws : List ByteArray) (ms : List Mg) (A B C : List Sp) : Prop where
  hW : WSP w aw ws
  hM : MSP w am ms
  hA : SPS w a A
  hB : SPS w b B
  hC : SPS w c C
theorem PrD.below {w w' : World} {aw am a b c : Option Addr} {ws : List ByteArray} {ms : List Mg} {A B C : List Sp} (h : PrD w aw am a b c ws ms A B C) (hb : Below w.heap.size w w') : PrD w' aw am a b c ws ms A B C :=
  ⟨h.hW.below hb, h.hM.below hb, h.hA.below hb, h.hB.below hb, h.hC.below hb⟩
/-- Sizes that are met. -/
structure PrZ (ws : List ByteArray) (ms : List Mg) (A B C : List Sp) : Prop where
  w : ws.length ≤ 1048576
  m : ms.length ≤ 100
  big : ∀ x ∈ ws, x.size ≤ 1048576
  a : A.length ≤ 1048576
  b : B.length ≤ 1048576
  c : C.length ≤ 1048576
set_option maxHeartbeats 8000000 in
theorem print_any (aw am a b c : Option Addr) (cw cm ca cb cc : Nat) (ws : List ByteArray) (ms : List Mg) (A B C : List Sp) (w : World) (hD : PrD w aw am a b c ws ms A B C) (hZ : PrZ ws ms A B C) (hP : PT w) :
    Calls Tryd.prog 6 #[.agg #[.slice aw ws.length cw, .slice am ms.length cm, .slice a A.length ca, .slice b B.length cb, .slice c C.length cc]] w fun e w' => e = .returned (.tuple #[.string (textOf (printF ws ms A B C).1), .int .i64 ((printF ws ms A B C).2 : Nat)]) ∧ Below w.heap.size w w' := by
  obtain ⟨R, hR⟩ : ∃ R, R = printF ws ms A B C := ⟨_, rfl⟩
  have HR := Lib.hid hR
  rw [← hR]
  clear hR
  have hX := DBox.new w (.slice aw ws.length cw) (.slice am ms.length cm) (.slice a A.length ca) (.slice b B.length cb) (.slice c C.length cc)
  have hb0 := box_below w (.cells #[.slice aw ws.length cw, .slice am ms.length cm, .slice a A.length ca, .slice b B.length cb, .slice c C.length cc] 26)
  obtain ⟨Y, hY⟩ : ∃ Y, Y = w.alloc (.cells #[.slice aw ws.length cw, .slice am ms.length cm, .slice a A.length ca, .slice b B.length cb, .slice c C.length cc] 26) := ⟨_, rfl⟩
  rw [← hY] at hb0 hX
  have HY := Lib.hid hY
  have hDY := hD.below hb0
  have HPY := Lib.hid (show PT Y from hP.stays hb0)
  have HB0 := Lib.hid hb0
  clear hY hb0 hP hD
  obtain ⟨z, hz⟩ : ∃ z, z = w.heap.size := ⟨_, rfl⟩
  have HZ := Lib.hid hz
  rw [← hz] at hX
  clear hz
  have HD := Lib.hid hX
  have HDY := Lib.hid hDY
  have HSZ := Lib.hid hZ
  have x0 := hX.c0
  have x1 := hX.c1
  have hmf : ∀ (fn : Fn) (first cap : Array Value) (w : World), (Instr.makeFunc fn first cap).run Tryd.prog w = .ok (.func fn first cap) w := fun _ _ _ _ => rfl
  have hU := unlike_any aw cw ws Y hDY.hW (by have := hZ.w; omega) (fun x hx => by have := hZ.big x hx; omega)
  obtain ⟨nw, hnw⟩ : ∃ nw, nw = ws.length := ⟨_, rfl⟩
  obtain ⟨nm, hnm⟩ : ∃ nm, nm = ms.length := ⟨_, rfl⟩
  have HNW := Lib.hid hnw
  have HNM := Lib.hid hnm
  rw [← hnw] at x0 hU HY HD ⊢
  rw [← hnm] at x1 HY HD ⊢
  clear hX hDY hZ hnw hnm
  go_enter Tryd.func6, Tryd.ntmps6
  go_upto_region 2 with fail
  rw [← HY.out, ← HZ.out]
  clear HY
  by_cases hl : nw = nm
  · have q0 : (((nw : Nat) : Int) != ((nm : Nat) : Int)) = false := by simp; omega
    have HL := Lib.hid hl
    clear hl
    obtain ⟨tu, htu⟩ : ∃ t, t = unlikeF ws := ⟨_, rfl⟩
    rw [← htu] at hU
    have HTU := Lib.hid htu
    clear htu
    cases tu with
    | false =>
      go_wp2_with fail
      refine hU.mono ?_
      rintro e w1 ⟨rfl, hb1⟩
      clear hU
      go_wp2_with fail
      go_ret2
      refine ⟨?_, HB0.out.trans (hb1.mono HB0.out.size)⟩
      rw [HR.out]
      unfold printF wordsOk
      rw [← HTU.out]
      simp
      rfl
    | true =>
      go_wp2_with fail
      refine hU.mono ?_
      rintro e w1 ⟨rfl, hb1⟩
      have hD1 := HD.out.below hb1 HD.out.lt
      have HD1 := Lib.hid hD1
      have HB1 := Lib.hid (HB0.out.trans (hb1.mono HB0.out.size))
      have hDY1 := HDY.out.below hb1
      have HDY1 := Lib.hid hDY1
      have HPY1 := Lib.hid (show PT w1 from HPY.out.stays hb1)
      have x1 := hD1.c1
      have x00 := hD1.c0
      rw [HNW.out] at x00
      have hMa := made_any z am aw cm cw ms ws w1 hD1.lt x00 hDY1.hW hDY1.hM (by rw [← HNW.out, ← HNM.out]; exact HL.out) (by have := HSZ.out.m; omega) (fun x hx => by have := HSZ.out.big x hx; omega)
      obtain ⟨tm, htm⟩ : ∃ t, t = madeF ws (256 + ms.length) ms (fun j => decide (j < 256)) := ⟨_, rfl⟩
      rw [← htm, ← HNM.out] at hMa
      have HTM := Lib.hid htm
      clear hU hb1 HD HB0 hD1 hDY1 x00 x0 HDY HPY htm
      cases tm with
      | false =>
        go_wp2_with fail
        refine hMa.mono ?_
        rintro e w2 ⟨rfl, hb2⟩
        clear hMa
        go_wp2_with fail
        go_ret2
        refine ⟨?_, HB1.out.trans (hb2.mono HB1.out.size)⟩
        rw [HR.out]
        unfold printF wordsOk
        rw [← HTM.out]
        simp
        rfl
      | true =>
        go_wp2_with fail
        refine hMa.mono ?_
        rintro e w2 ⟨rfl, hb2⟩
        clear hMa
        have hwok : wordsOk ws ms = true := by
          unfold wordsOk
          rw [← HTM.out, ← HTU.out]
          simp
          rw [← HNW.out, ← HNM.out]
          exact HL.out
        have HWOK := Lib.hid hwok
        have hD2 := HD1.out.below hb2 HD1.out.lt
        have HD2 := Lib.hid hD2
        have HB2 := Lib.hid (HB1.out.trans (hb2.mono HB1.out.size))
        have hDY2 := HDY1.out.below hb2
        have HDY2 := Lib.hid hDY2
        have HPY2 := Lib.hid (show PT w2 from HPY1.out.stays hb2)
        have x2 := hD2.c2
        have x3 := hD2.c3
        have x4 := hD2.c4
        have x1 := hD2.c1
        have hR1 := runes_any a ca A w2 hDY2.hA (by have := HSZ.out.a; omega)
        have hR2 := runes_any b cb B w2 hDY2.hB (by have := HSZ.out.b; omega)
        have hR3 := runes_any c cc C w2 hDY2.hC (by have := HSZ.out.c; omega)
        have hrk : runesOk A B C = (A.all spOk && B.all spOk && C.all spOk) := rfl
        obtain ⟨t1, ht1⟩ : ∃ t, t = A.all spOk := ⟨_, rfl⟩
        obtain ⟨t2, ht2⟩ : ∃ t, t = B.all spOk := ⟨_, rfl⟩
        obtain ⟨t3, ht3⟩ : ∃ t, t = C.all spOk := ⟨_, rfl⟩
        rw [← ht1] at hR1 hrk
        rw [← ht2] at hR2 hrk
        rw [← ht3] at hR3 hrk
        have HT1 := Lib.hid ht1
        have HT2 := Lib.hid ht2
        have HT3 := Lib.hid ht3
        have HRK := Lib.hid hrk
        clear hb2 HD1 HB1 hD2 hDY2 HDY1 HPY1 ht1 ht2 ht3 hrk hwok
        cases t1 with
        | false =>
          go_wp2_with fail
          refine hR1.mono ?_
          rintro e w3 ⟨rfl, hb3⟩
          clear hR1
          go_wp2_with fail
          go_ret2
          refine ⟨?_, HB2.out.trans (hb3.mono HB2.out.size)⟩
          rw [HR.out]
          unfold printF
          rw [HWOK.out, HRK.out]
          rfl
        | true =>
        cases t2 with
        | false =>
          go_wp2_with fail
          refine hR1.mono ?_
          rintro e w3 ⟨rfl, hb3⟩
          clear hR1
          have hR2 := runes_any b cb B w3 (HDY2.out.hB.below hb3) (by have := HSZ.out.b; omega)
          rw [← HT2.out] at hR2
          have x3 := (HD2.out.below hb3 HD2.out.lt).c3
          go_wp2_with fail
          refine hR2.mono ?_
          rintro e w4 ⟨rfl, hb4⟩
          have hb4 := hb3.trans (hb4.mono hb3.size)
          clear hR2
          go_wp2_with fail
          go_ret2
          refine ⟨?_, HB2.out.trans (hb4.mono HB2.out.size)⟩
          rw [HR.out]
          unfold printF
          rw [HWOK.out, HRK.out]
          rfl
        | true =>
        cases t3 with
        | false =>
          go_wp2_with fail
          refine hR1.mono ?_
          rintro e w3 ⟨rfl, hb3⟩
          clear hR1
          have hR2 := runes_any b cb B w3 (HDY2.out.hB.below hb3) (by have := HSZ.out.b; omega)
          rw [← HT2.out] at hR2
          have x3 := (HD2.out.below hb3 HD2.out.lt).c3
          go_wp2_with fail
          refine hR2.mono ?_
          rintro e w4 ⟨rfl, hb4⟩
          have hb4 := hb3.trans (hb4.mono hb3.size)
          clear hR2
          have hR3 := runes_any c cc C w4 (HDY2.out.hC.below hb4) (by have := HSZ.out.c; omega)
          rw [← HT3.out] at hR3
          have x4 := (HD2.out.below hb4 HD2.out.lt).c4
          go_wp2_with fail
          refine hR3.mono ?_
          rintro e w5 ⟨rfl, hb5⟩
          have hb5 := hb4.trans (hb5.mono hb4.size)
          clear hR3
          go_wp2_with fail
          go_ret2
          refine ⟨?_, HB2.out.trans (hb5.mono HB2.out.size)⟩
          rw [HR.out]
          unfold printF
          rw [HWOK.out, HRK.out]
          rfl
        | true =>
          go_wp2_with fail
          refine hR1.mono ?_
          rintro e w3 ⟨rfl, hb3⟩
          clear hR1
          have hR2 := runes_any b cb B w3 (HDY2.out.hB.below hb3) (by have := HSZ.out.b; omega)
          rw [← HT2.out] at hR2
          have x3 := (HD2.out.below hb3 HD2.out.lt).c3
          go_wp2_with fail
          refine hR2.mono ?_
          rintro e w4 ⟨rfl, hb4⟩
          have hb4 := hb3.trans (hb4.mono hb3.size)
          clear hR2
          have hR3 := runes_any c cc C w4 (HDY2.out.hC.below hb4) (by have := HSZ.out.c; omega)
          rw [← HT3.out] at hR3
          have x4 := (HD2.out.below hb4 HD2.out.lt).c4
          go_wp2_with fail
          refine hR3.mono ?_
          rintro e w5 ⟨rfl, hb5⟩
          have hb5 := hb4.trans (hb5.mono hb4.size)
          clear hR3 hb3 hb4
          have hD5 := HD2.out.below hb5 HD2.out.lt
          have HD5 := Lib.hid hD5
          have HB5 := Lib.hid (HB2.out.trans (hb5.mono HB2.out.size))
          have HDY5 := Lib.hid (HDY2.out.below hb5)
          have HPY5 := Lib.hid (show PT w5 from HPY2.out.stays hb5)
          have HTXT := Lib.hid (show R = (textF [10] (linesF ws ms A B C), 0) by
            rw [HR.out]
            unfold printF
            rw [HWOK.out, HRK.out]
            rfl)
          clear hD5 hb5 HD2 HB2 HDY2 HPY2 x1 x2 x3 x4 hR2 hR3 HR
          have hbl := heap_alloc_new w5 (.cells #[.pointer none, .slice none 0 0] 50)
          have hbb := box_below w5 (.cells #[.pointer none, .slice none 0 0] 50)
          obtain ⟨V, hV⟩ : ∃ V, V = w5.alloc (.cells #[.pointer none, .slice none 0 0] 50) := ⟨_, rfl⟩
          have hVs : V.heap.size = w5.heap.size + 1 := by rw [hV]; simp
          rw [← hV] at hbl hbb
          have HV := Lib.hid hV
          clear hV
          obtain ⟨bb, hbz⟩ : ∃ bb, bb = w5.heap.size := ⟨_, rfl⟩
          rw [← hbz] at hbl hVs
          have HBZ := Lib.hid hbz
          have hI0 : BI V bb bb (.slice none 0 0) [] := ⟨⟨_, .inl rfl, hbl⟩, rfl, .inl ⟨rfl, rfl⟩⟩
          have hDV := HD5.out.below hbb HD5.out.lt
          have hzb : z < bb := by rw [hbz]; exact HD5.out.lt
          have HI0 := Lib.hid hI0
          have HVS := Lib.hid hVs
          have HBV := Lib.hid (show Below bb w5 V by rw [hbz]; exact hbb)
          have x1 := hDV.c1
          clear hI0 hDV hbl hbb hbz hVs
          go_upto_region 7 with fail
          rw [← HV.out, ← HBZ.out]
          clear HV
          go_wp2_with fail
          go_loopw [48] (fun v wr => ∃ (k : Nat) (v' : Value), k ≤ nm ∧ v = .int .i64 (k : Nat) ∧ BI wr bb bb v' (accF ws ms k) ∧ Below bb w5 wr) (fun v _ => nm - (intOf v).toNat)
          case atStart => exact ⟨0, _, Nat.zero_le _, rfl, by rw [show accF ws ms 0 = [] by simp [accF, textF]]; exact HI0.out, HBV.out⟩
          case round =>
            obtain ⟨k, v', hk, rfl, hI, hB⟩ := hrel
            have hsb := hI.lt
            have HI := Lib.hid hI
            have HB := Lib.hid hB
            have hB' : Below w5.heap.size w5 wr := by rw [← HBZ.out]; exact hB
            have hDr := HDY5.out.below hB'
            have hPr : PT wr := HPY5.out.stays hB'
            have hDb := HD5.out.below hB' HD5.out.lt
            have hal := accF_len HSZ.out.big ms k (by rw [← HNM.out]; exact hk)
            have hm100 : nm ≤ 100 := by rw [HNM.out]; exact HSZ.out.m
            have HAL := Lib.hid (show (accF ws ms k).length ≤ 1887438800 by
              have : k * 18874388 ≤ 100 * 18874388 := Nat.mul_le_mul_right _ (by omega)
              omega)
            clear hB hB' hal hI
            by_cases hkn : k < nm
            · have d0 : decide ((k : Int) < (nm : Int)) = true := decide_eq_true (by omega)
              have d1 : decide (k < nm) = true := decide_eq_true hkn
              have hkm : k < ms.length := by rw [← HNM.out]; exact hkn
              obtain ⟨bm, off, rfl, hmg⟩ := hDr.hM.cellsAt hkm
              have hget : ms[k]? = some ms[k] := List.getElem?_eq_getElem hkm
              have hids := made_ids ms _ (fun j hj => decide_eq_true hj) HTM.out.symm ms[k] (List.getElem_mem hkm)
              obtain ⟨x, hx⟩ : ∃ x, x = ms[k] := ⟨_, rfl⟩
              rw [← hx] at hmg hget hids
              have HG := Lib.hid hget
              clear hx hget hkm
              obtain ⟨xl, xr, xi⟩ := x
              obtain ⟨⟨vi, hvi, vi1, vi2⟩, ⟨vl, hvl, vl2⟩, vr, hvr, vr2⟩ := hids
              simp only at hvi hvl hvr
              subst hvi hvl hvr
              obtain ⟨m0, m1, m2⟩ := hmg
              simp only at m0 m1 m2
              have ik : 0 ≤ (k : Int) ∧ (k : Int) < (nm : Int) := by omega
              have x0 := hDb.c0
              have HX0 := Lib.hid x0
              have HDr := Lib.hid hDr
              have HPr := Lib.hid hPr
              clear x0 hDr hPr hDb d1 hk
              have hbx := box_below wr (.cells #[.int .i64 (vl : Nat), .int .i64 (vr : Nat), .int .i64 (vi : Nat)] 52)
              have hxl := heap_alloc_new wr (.cells #[.int .i64 (vl : Nat), .int .i64 (vr : Nat), .int .i64 (vi : Nat)] 52)
              go_wp2_with fail
              obtain ⟨X, hX⟩ : ∃ X, X = wr.alloc (.cells #[.int .i64 (vl : Nat), .int .i64 (vr : Nat), .int .i64 (vi : Nat)] 52) := ⟨_, rfl⟩
              obtain ⟨q, hq⟩ : ∃ q, q = wr.heap.size := ⟨_, rfl⟩
              rw [← hX] at hbx hxl ⊢
              rw [← hq] at hxl ⊢
              have HQ := Lib.hid hq
              clear hX hq m0 m1 m2 d0
              have k0 := cell_regrown ((cell_of_block hxl 0).trans rfl)
              have k1 := cell_regrown ((cell_of_block hxl 1).trans rfl)
              have k2 := cell_regrown ((cell_of_block hxl 2).trans rfl)
              have x0 := (hbx.cell (World.block_lt_of_cell? wr _ HX0.out)).trans HX0.out
              rw [HNW.out] at x0
              have hWX := HDr.out.hW.below hbx
              have hPX := HPr.out.stays hbx
              have hln : ms.length = nm := HNM.out.symm
              have hlw : ws.length = nm := by rw [← HNW.out]; exact HL.out
              have HL1 := fun d os => wordOf_any z vl aw cw ws (grow (redrawn X d) os) (by omega) (by omega) (cell_regrown x0 d os) (hWX.below (below_regrown X d os))
              have HL2 := fun d os => wordOf_any z vr aw cw ws (grow (redrawn X d) os) (by omega) (by omega) (cell_regrown x0 d os) (hWX.below (below_regrown X d os))
              have HQ1 := fun d os => quote_any (wordF ws vl) (grow (redrawn X d) os) (by have := wordF_le ws HSZ.out.big vl; omega)
              have HQ2 := fun d os => quote_any (wordF ws vr) (grow (redrawn X d) os) (by have := wordF_le ws HSZ.out.big vr; omega)
              have HIt := fun d os => itoa_any vi vi1 (by omega) (grow (redrawn X d) os) (hPX.stays (below_regrown X d os))
              have HXL := Lib.hid hxl
              clear hxl x0 hWX hPX hln hlw
              refine wp_region_quiet_tail (C := fun w' => ∃ p : Regrown, w' = grow (redrawn X p.d) p.os) 13 (by kernel_rfl) (by kernel_rfl) ⟨⟨_, #[]⟩, by rw [grow_empty]; rfl⟩ ?_
              simp only [List.take_succ_cons, List.take_zero, List.drop_succ_cons, List.drop_zero]
              repeat (go_big_quiet_step (fail))
              go_big_quiet_step ((go_at_call 12; exact Calls.regrown_of (HL1 _ _)))
              repeat (go_big_quiet_step (fail))
              go_big_quiet_step ((go_at_call 17; exact Calls.regrown_of (HQ1 _ _)))
              repeat (go_big_quiet_step (fail))
              go_big_quiet_step ((go_at_call 12; exact Calls.regrown_of (HL2 _ _)))
              repeat (go_big_quiet_step (fail))
              go_big_quiet_step ((go_at_call 17; exact Calls.regrown_of (HQ2 _ _)))
              repeat (go_big_quiet_step (fail))
              go_big_quiet_step ((go_at_call 18; exact Calls.regrown_of (HIt _ _)))
              refine wpQuiet_nil ?_
              intro W5 hw'
              have hb5 : Below X.heap.size X W5 := by
                obtain ⟨⟨dq, osq⟩, rfl⟩ := hw'
                exact below_regrown _ _ _
              clear hw' k0 k1 k2 HL1 HL2 HQ1 HQ2 HIt HXL
              have hb6 := hbx.trans (hb5.mono hbx.size)
              have hI5 := HI.out.below hb6
              have hsl := box_below W5 (.cells #[.string (textOf sMerge), .string (textOf (quoteF (tl (wordF ws vl)))), .string (textOf sPlus), .string (textOf (quoteF (tl (wordF ws vr)))), .string (textOf sEq), .string (textOf (dec3 vi))] 9)
              have hnw := heap_alloc_new W5 (.cells #[.string (textOf sMerge), .string (textOf (quoteF (tl (wordF ws vl)))), .string (textOf sPlus), .string (textOf (quoteF (tl (wordF ws vr)))), .string (textOf sEq), .string (textOf (dec3 vi))] 9)
              have hI6 := hI5.below hsl
              have hb7 := hb6.trans (hsl.mono hb6.size)
              have HB7 := Lib.hid hb7
              have hgetX := HG.out
              have hml := jn_len _ _ (merge_len HSZ.out.big ⟨(vl : Int), (vr : Int), (vi : Int)⟩)
              have hwl := writeLine_any bb bb v' (accF ws ms k) W5.heap.size 6 _ (mergeT ws ⟨(vl : Int), (vr : Int), (vi : Int)⟩) _ hI6 (by have := hb7.size; omega) hnw (by
                intro i hi
                have hi6 : i < 6 := hi
                have : i = 0 ∨ i = 1 ∨ i = 2 ∨ i = 3 ∨ i = 4 ∨ i = 5 := by omega
                rcases this with rfl | rfl | rfl | rfl | rfl | rfl <;> rfl) (by
                intro k' hk'
                have h6 : k' ≤ 6 := hk'
                have h7 := hml k'
                have h8 := HAL.out
                have : k' * (3145730 + 1) ≤ 6 * (3145730 + 1) := Nat.mul_le_mul_right _ h6
                omega) (by show 6 ≤ _; omega)
              rw [show (mergeT ws ⟨(vl : Int), (vr : Int), (vi : Int)⟩).length = 6 from rfl] at hwl
              have HWL := Lib.hid hwl
              have HI6 := Lib.hid hI6
              clear hb5 hb6 hsl hnw hI5 hI6 hb7 hml hbx hgetX hwl
              go_wp2_with fail
              refine HWL.out.mono ?_
              rintro e w7 ⟨rfl, v7, hI7, hB7, hM7⟩
              have hbe := HI6.out.wrote_below hB7
              have HBE := Lib.hid (HB.out.trans ((HB7.out.mono (by omega)).trans hbe))
              have HI7 := Lib.hid (show BI w7 bb bb v7 (accF ws ms (k + 1)) by rw [accF_succ HG.out]; exact hI7)
              clear hI7 hB7 hM7 hbe HI6 HWL
              go_wp2_with fail
              go_roundw
              case rel => exact ⟨k + 1, v7, by omega, by go_num, HI7.out, HBE.out⟩
              case measure => simp [intOf]; omega
            · have d0 : decide ((k : Int) < (nm : Int)) = false := decide_eq_false (by omega)
              have d1 : decide (k < nm) = false := decide_eq_false hkn
              have hkm : k = ms.length := by rw [← HNM.out]; omega
              have HKM := Lib.hid hkm
              have hDb5 := hDb
              have x2 := hDb.c2
              have HDb := Lib.hid hDb
              have HDr := Lib.hid hDr
              have hCA := class_any nmL a ca A wr hDr.hA (by have := HSZ.out.a; omega) HT1.out.symm
              clear hkm hDb hDb5 hDr hPr hk hkn
              go_upto_region 12 with fail
              clear d0 d1
              go_wp2_with fail
              refine hCA.mono ?_
              rintro e w7 ⟨v7, rfl, hO7, hb7⟩
              obtain ⟨t7, c7, cur7, rfl, hT7, hc7⟩ := toks hO7 (by unfold clsT; simp)
              have hl7 := cls_len (nm := nmL) (by decide) HT1.out.symm
              have hI7 := HI.out.below hb7
              have HB7 := Lib.hid (HB.out.trans (hb7.mono (by omega)))
              have hW7 := writeLine_any bb bb v' _ t7 c7 cur7 (clsT nmL A) w7 hI7 (by have := hb7.size; omega) hT7 hc7 (by
                intro k' hk'
                have h1 := jn_len _ _ hl7.1 k'
                have h2 := HAL.out
                have h3 := hl7.2
                have h4 := HSZ.out.a
                omega) (by have h3 := hl7.2; have h4 := HSZ.out.a; omega)
              have HW7 := Lib.hid hW7
              have HI7 := Lib.hid hI7
              have hs7 := hb7.size
              clear hCA hO7 hb7 hT7 hc7 hl7 hI7 hW7 x2
              go_wp2_with fail
              refine HW7.out.mono ?_
              rintro e w8 ⟨rfl, v8, hI8, hB8, hM8⟩
              have hb8 := HI7.out.wrote_below hB8
              have HB8 := Lib.hid (HB7.out.trans hb8)
              have hl8 := cls_len (nm := nmL) (by decide) HT1.out.symm
              have ha8 : (accF ws ms k ++ (jn (clsT nmL A) (clsT nmL A).length ++ [10])).length ≤ 2000000000 := by
                have h1 := jn_len _ _ hl8.1 (clsT nmL A).length
                have h2 := HAL.out
                have h3 := hl8.2
                have h4 := HSZ.out.a
                rw [List.length_append, List.length_append]
                show _ + (_ + 1) ≤ _
                omega
              have HA8 := Lib.hid ha8
              have HI8 := Lib.hid hI8
              have hs8 := hb8.size
              have h8w : Below w5.heap.size w5 w8 := by rw [← HBZ.out]; exact HB8.out
              have hDr8 := HDY5.out.below h8w
              have hDb8 := HD5.out.below h8w HD5.out.lt
              have x3 := hDb8.c3
              have hCB := class_any nmN b cb B w8 hDr8.hB (by have := HSZ.out.b; omega) HT2.out.symm
              clear hI8 hB8 hM8 hb8 hl8 ha8 HW7 HI7 HB7 h8w hDr8 hDb8
              go_wp2_with fail
              refine hCB.mono ?_
              rintro e w9 ⟨v9, rfl, hO9, hb9⟩
              obtain ⟨t9, c9, cur9, rfl, hT9, hc9⟩ := toks hO9 (by unfold clsT; simp)
              have hl9 := cls_len (nm := nmN) (by decide) HT2.out.symm
              have hI9 := HI8.out.below hb9
              have HB9 := Lib.hid (HB8.out.trans (hb9.mono (by omega)))
              have hW9 := writeLine_any bb bb v8 _ t9 c9 cur9 (clsT nmN B) w9 hI9 (by have := hb9.size; omega) hT9 hc9 (by
                intro k' hk'
                have h1 := jn_len _ _ hl9.1 k'
                have h2 := HA8.out
                have h3 := hl9.2
                have h4 := HSZ.out.b
                omega) (by have h3 := hl9.2; have h4 := HSZ.out.b; omega)
              have HW9 := Lib.hid hW9
              have HI9 := Lib.hid hI9
              have hs9 := hb9.size
              clear hCB hO9 hb9 hT9 hc9 hl9 hI9 hW9 x3
              go_wp2_with fail
              refine HW9.out.mono ?_
              rintro e w10 ⟨rfl, v10, hI10, hB10, hM10⟩
              have hb10 := HI9.out.wrote_below hB10
              have HB10 := Lib.hid (HB9.out.trans hb10)
              have hl10 := cls_len (nm := nmN) (by decide) HT2.out.symm
              have ha10 : (accF ws ms k ++ (jn (clsT nmL A) (clsT nmL A).length ++ [10]) ++ (jn (clsT nmN B) (clsT nmN B).length ++ [10])).length ≤ 2100000000 := by
                have h1 := jn_len _ _ hl10.1 (clsT nmN B).length
                have h2 := HA8.out
                have h3 := hl10.2
                have h4 := HSZ.out.b
                have e3 : (jn (clsT nmN B) (clsT nmN B).length ++ [(10 : UInt8)]).length = (jn (clsT nmN B) (clsT nmN B).length).length + 1 := by rw [List.length_append]; rfl
                rw [List.length_append]
                omega
              have HA10 := Lib.hid ha10
              have HI10 := Lib.hid hI10
              have hs10 := hb10.size
              have h10w : Below w5.heap.size w5 w10 := by rw [← HBZ.out]; exact HB10.out
              have hDr10 := HDY5.out.below h10w
              have hDb10 := HD5.out.below h10w HD5.out.lt
              have x4 := hDb10.c4
              have hCC := class_any nmS c cc C w10 hDr10.hC (by have := HSZ.out.c; omega) HT3.out.symm
              clear hI10 hB10 hM10 hb10 hl10 ha10 HW9 HI9 HB9 h10w hDr10 hDb10
              go_wp2_with fail
              refine hCC.mono ?_
              rintro e w11 ⟨v11, rfl, hO11, hb11⟩
              obtain ⟨t11, c11, cur11, rfl, hT11, hc11⟩ := toks hO11 (by unfold clsT; simp)
              have hl11 := cls_len (nm := nmS) (by decide) HT3.out.symm
              have hI11 := HI10.out.below hb11
              have HB11 := Lib.hid (HB10.out.trans (hb11.mono (by omega)))
              have hW11 := writeLine_any bb bb v10 _ t11 c11 cur11 (clsT nmS C) w11 hI11 (by have := hb11.size; omega) hT11 hc11 (by
                intro k' hk'
                have h1 := jn_len _ _ hl11.1 k'
                have h2 := HA10.out
                have h3 := hl11.2
                have h4 := HSZ.out.c
                omega) (by have h3 := hl11.2; have h4 := HSZ.out.c; omega)
              have HW11 := Lib.hid hW11
              have HI11 := Lib.hid hI11
              have hs11 := hb11.size
              clear hCC hO11 hb11 hT11 hc11 hl11 hI11 hW11 x4
              go_wp2_with fail
              refine HW11.out.mono ?_
              rintro e w12 ⟨rfl, v12, hI12, hB12, hM12⟩
              have hb12 := HI11.out.wrote_below hB12
              have HB12 := Lib.hid (HB11.out.trans hb12)
              obtain ⟨TX, hTX⟩ : ∃ TX, TX = accF ws ms k ++ (jn (clsT nmL A) (clsT nmL A).length ++ [10]) ++ (jn (clsT nmN B) (clsT nmN B).length ++ [10]) ++ (jn (clsT nmS C) (clsT nmS C).length ++ [10]) := ⟨_, rfl⟩
              rw [← hTX] at hI12
              have HTX := Lib.hid hTX
              have hS := string_any bb bb v12 _ w12 hI12 (by rw [hTX]; simp) (by have := hb12.size; omega)
              clear hTX
              clear hI12 hB12 hM12 hb12 HW11 HI11
              go_wp2_with fail
              refine hS.mono ?_
              rintro e w13 ⟨rfl, hb13⟩
              clear hS
              go_wp2_with fail
              go_ret2
              have hbw : w.heap.size ≤ bb := by have := HBZ.out; have := HB5.out.size; omega
              refine ⟨?_, HB5.out.trans ((HB12.out.mono hbw).trans (hb13.mono hbw))⟩
              rw [HTXT.out, text_all, ← HKM.out]
              show Ending.returned (.tuple #[.string (textOf TX), .int .i64 0]) = _
              rw [HTX.out]
              rfl
  · have q0 : (((nw : Nat) : Int) != ((nm : Nat) : Int)) = true := by simp; omega
    have HL := Lib.hid hl
    clear hl
    clear hU
    go_wp2_with fail
    go_ret2
    refine ⟨?_, HB0.out⟩
    rw [HR.out]
    unfold printF wordsOk
    rw [decide_eq_false (by rw [← HNW.out, ← HNM.out]; exact HL.out)]
    simp
    rfl
end Go.Proofs.YtonbfcpbgkpbaaaDoor
end
