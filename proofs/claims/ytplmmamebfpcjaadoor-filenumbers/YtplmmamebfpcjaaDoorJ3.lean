import Derived.Test.YtplmmamebfpcjaaDoorJ2
import Derived.Test.YtplmmamebfpcjaaDoorJ0
section
/- spans.In and the document's own: their contracts. -/
namespace Go.Proofs.YtplmmamebfpcjaaDoor
open Go.RowKit Go.Sort
def lies (l : List Sp) (r : Int) : Bool := l.any fun x => decide (x.lo ≤ r) && decide (r ≤ x.hi)
theorem inB_eq (l : List Sp) (r : Int) : inB l r = (runeB r && lies l r) := rfl
theorem lies_true {l : List Sp} {r : Int} {i : Nat} {x : Sp} (hx : l[i]? = some x) (h1 : x.lo ≤ r) (h2 : r ≤ x.hi) : lies l r = true := by
  unfold lies
  rw [List.any_eq_true]
  exact ⟨x, List.mem_of_getElem? hx, by simp [h1, h2]⟩
theorem lies_false {l : List Sp} {r : Int} (h : ∀ (i : Nat) (x : Sp), l[i]? = some x → ¬ (x.lo ≤ r ∧ r ≤ x.hi)) : lies l r = false := by
  cases hl : lies l r with
  | false => rfl
  | true =>
    unfold lies at hl
    rw [List.any_eq_true] at hl
    obtain ⟨x, hx, h2⟩ := hl
    obtain ⟨i, hi⟩ := List.getElem?_of_mem hx
    simp at h2
    exact absurd h2 (h i x hi)
/-- A slice's length. -/
def lenV : Value → Nat
  | .slice _ n _ => n
  | _ => 0
/-- No span but those from lo on, m of them, can hold r. -/
def Left (l : List Sp) (r : Int) (lo m : Nat) : Prop := ∀ (i : Nat) (x : Sp), l[i]? = some x → (i < lo ∨ lo + m ≤ i) → ¬ (x.lo ≤ r ∧ r ≤ x.hi)
theorem Left.low {l : List Sp} {r : Int} {lo m k : Nat} {x : Sp} (h : Left l r lo m) (hR : Rgt l) (hx : l[lo + k]? = some x) (hr : r < x.lo) : Left l r lo k := by
  intro i y hy hi
  by_cases e : i = lo + k
  · subst e
    rw [hx] at hy
    cases hy
    omega
  · by_cases h1 : i < lo
    · exact h i y hy (.inl h1)
    · have h2 := hR.rise (show lo + k < i by omega) hx hy
      have h3 := (hR.row hx).2.2
      omega
theorem Left.high {l : List Sp} {r : Int} {lo m k : Nat} {x : Sp} (h : Left l r lo m) (hR : Rgt l) (hx : l[lo + k]? = some x) (hk : k < m) (hr : x.hi < r) : Left l r (lo + k + 1) (m - (k + 1)) := by
  intro i y hy hi
  by_cases e : i = lo + k
  · subst e
    rw [hx] at hy
    cases hy
    omega
  · by_cases h1 : i < lo + k
    · have h2 := hR.rise h1 hy hx
      have h3 := (hR.row hx).2.2
      omega
    · exact h i y hy (.inr (by omega))
set_option maxHeartbeats 2000000 in
theorem in_any (a : Option Addr) (cap : Nat) (l : List Sp) (r : Int) (w : World) (hlen : l.length ≤ cap) (hcap : cap ≤ 9223372036854775807) (h : SPS w a l) (hR : Rgt l) (hG : GL w) :
    Calls Tryd.prog 68 #[.slice a l.length cap, .int .i32 r] w fun e w' => e = .returned (.bool (inB l r)) ∧ Below w.heap.size w w' := by
  obtain ⟨B, hB⟩ : ∃ B, B = inB l r := ⟨_, rfl⟩
  have HB : Hid (B = inB l r) := hB
  rw [← hB]
  clear hB
  have HL : Hid (l.length ≤ cap) := hlen
  obtain ⟨n, hn⟩ : ∃ n, n = l.length := ⟨_, rfl⟩
  have HN : Hid (n = l.length) := hn
  rw [← hn] at hlen ⊢
  clear hn
  go_enter Tryd.func68, Tryd.ntmps68
  go_wp2_with fail
  refine (isRune_any r _ hG).mono ?_
  rintro e w1 ⟨rfl, hb1⟩
  cases hr : runeB r with
  | false =>
    have hE : B = false := by rw [HB.out, inB_eq, hr]; rfl
    subst hE
    clear hr
    go_wp2_with fail
    go_ret
    exact ⟨rfl, hb1⟩
  | true =>
    have HE : Hid (B = lies l r) := by show B = lies l r; rw [HB.out, inB_eq, hr]; rfl
    clear hr HB
    go_wp2_with fail
    go_loopw [0] (fun v wr => ∃ (p : Option Addr) (lo m cp : Nat), v = .slice p m cp ∧ m ≤ cp ∧ cp ≤ cap ∧ lo + m ≤ n ∧ (0 < m → ∃ b off, p = some ⟨b, off + lo * 2, none⟩ ∧ ∀ i x, l[i]? = some x → SpAt w b (off + i * 2) x) ∧ Left l r lo m ∧ Below w.heap.size w wr) (fun v _ => lenV v)
    case atStart => 
      refine ⟨a, 0, n, cap, rfl, hlen, Nat.le_refl _, by omega, fun h0 => ?_, fun i x hx hi => ?_, hb1⟩
      · rcases h with h | ⟨b, off, h1, h2⟩
        · rw [HN.out, h] at h0; simp at h0
        · exact ⟨b, off, by rw [h1]; simp, h2⟩
      · have := (List.getElem?_eq_some_iff.1 hx).1
        rw [← HN.out] at this
        omega
    case round =>
      obtain ⟨p, lo, m, cp, rfl, hm, hcp, hlm, hp, hL, hbr⟩ := hrel
      clear h
      by_cases h0 : 0 < m
      · obtain ⟨b, off, rfl, hc⟩ := hp h0
        obtain ⟨k, hk⟩ : ∃ k, k = m / 2 := ⟨_, rfl⟩
        have hkm : k < m := by omega
        have hq : (m : Int) / 2 = (k : Int) := by omega
        obtain ⟨x, hx⟩ : ∃ x, l[lo + k]? = some x := ⟨_, List.getElem?_eq_getElem (by rw [← HN.out]; omega)⟩
        obtain ⟨c0, c1⟩ := (hc _ x hx).below hbr
        rw [show off + (lo + k) * 2 = off + lo * 2 + k * 2 by omega] at c0 c1
        have HX : Hid (l[lo + k]? = some x) := hx
        have HC : Hid (∀ i x, l[i]? = some x → SpAt w b (off + i * 2) x) := hc
        have HK : Hid (k = m / 2) := hk
        clear hp hc hx hk
        have hd0 : decide (0 < (m : Int)) = true := by simp; omega
        by_cases h1 : r < x.lo
        · have d1 : decide (r < x.lo) = true := decide_eq_true h1
          go_wp2_with fail
          exact ⟨⟨_, lo, k, cp, rfl, by omega, hcp, by omega, fun _ => ⟨b, off, rfl, HC.out⟩, hL.low hR HX.out h1, hbr.alloc hbr.size _⟩, by simp only [lenV]; omega⟩
        · have d1 : decide (r < x.lo) = false := decide_eq_false h1
          by_cases h2 : x.hi < r
          · have d2 : decide (x.hi < r) = true := decide_eq_true h2
            by_cases h3 : cp = k + 1
            · subst h3
              go_wp2_with fail
              refine ⟨⟨_, lo + k + 1, 0, 0, rfl, Nat.le_refl _, by omega, by omega, fun h => absurd h (by omega), ?_, hbr.alloc hbr.size _⟩, by simp only [lenV]; omega⟩
              have := hL.high hR HX.out hkm h2
              rw [show m - (k + 1) = 0 by omega] at this
              exact this
            · go_wp2_with fail
              exact ⟨⟨_, lo + k + 1, m - (k + 1), cp - (k + 1), rfl, by omega, by omega, by omega, fun _ => ⟨b, off, by rw [show off + (lo + k + 1) * 2 = off + lo * 2 + (k + 1) * 2 by omega], HC.out⟩, hL.high hR HX.out hkm h2, hbr.alloc hbr.size _⟩, by simp only [lenV]; omega⟩
          · have d2 : decide (x.hi < r) = false := decide_eq_false h2
            go_wp2_with fail
            have hE : B = true := by rw [HE.out]; exact lies_true HX.out (by omega) (by omega)
            subst hE
            go_ret
            exact ⟨rfl, hbr.alloc hbr.size _⟩
      · have hm0 : m = 0 := by omega
        subst hm0
        have hE : B = false := by rw [HE.out]; exact lies_false fun i x hx => hL i x hx (by omega)
        subst hE
        clear hp
        go_wp2_with fail
        go_ret
        exact ⟨rfl, hbr⟩
end Go.Proofs.YtplmmamebfpcjaaDoor
end
section
/- The document's own In: its contract. -/
namespace Go.Proofs.YtplmmamebfpcjaaDoor
open Go.RowKit Go.Sort
end Go.Proofs.YtplmmamebfpcjaaDoor
end
section
/- classes.Table.Of: its contract; the value of data. -/
namespace Go.Proofs.YtplmmamebfpcjaaDoor
open Go.RowKit Go.Sort Go.Joins
/-- The three cells that are read. -/
def Tri (w : World) (b0 : Nat) (a b c : Option Addr) (ca cb cc : Nat) (A B C : List Sp) : Prop := w.cell? ⟨b0, 1, none⟩ = some (.slice a A.length ca) ∧ w.cell? ⟨b0, 2, none⟩ = some (.slice b B.length cb) ∧ w.cell? ⟨b0, 3, none⟩ = some (.slice c C.length cc)
theorem Tri.below {w w' : World} {b0 : Nat} {a b c : Option Addr} {ca cb cc : Nat} {A B C : List Sp} (h : Tri w b0 a b c ca cb cc A B C) (hb : Below w.heap.size w w') : Tri w' b0 a b c ca cb cc A B C :=
  ⟨(hb.cell (World.block_lt_of_cell? w _ h.1)).trans h.1, (hb.cell (World.block_lt_of_cell? w _ h.2.1)).trans h.2.1, (hb.cell (World.block_lt_of_cell? w _ h.2.2)).trans h.2.2⟩
theorem Four.tri {w : World} {b0 : Nat} {a b c : Option Addr} {ca cb cc : Nat} {A B C : List Sp} (h : Four w b0 a b c ca cb cc A B C) : Tri w b0 a b c ca cb cc A B C := ⟨h 1 (by omega), h 2 (by omega), h 3 (by omega)⟩
/-- A Table lies at block b0. -/
def TabAt (w : World) (b0 : Nat) (A B C : List Sp) : Prop := ∃ a b c ca cb cc, Tri w b0 a b c ca cb cc A B C ∧ Lst w a ca A ∧ Lst w b cb B ∧ Lst w c cc C
theorem TabAt.below {w w' : World} {b0 : Nat} {A B C : List Sp} (h : TabAt w b0 A B C) (hb : Below w.heap.size w w') : TabAt w' b0 A B C := by
  obtain ⟨a, b, c, ca, cb, cc, h1, h2, h3, h4⟩ := h
  exact ⟨a, b, c, ca, cb, cc, h1.below hb, h2.below hb, h3.below hb, h4.below hb⟩
theorem Four.one {w : World} {b0 : Nat} {a b c : Option Addr} {ca cb cc : Nat} {A B C : List Sp} (h : Four w b0 a b c ca cb cc A B C) : w.cell? ⟨b0, 1, none⟩ = some (.slice a A.length ca) ∧ w.cell? ⟨b0, 2, none⟩ = some (.slice b B.length cb) ∧ w.cell? ⟨b0, 3, none⟩ = some (.slice c C.length cc) ∧ w.cell? ⟨b0, 0, none⟩ = some (.slice none 0 0) :=
  ⟨h 1 (by omega), h 2 (by omega), h 3 (by omega), h 0 (by omega)⟩
set_option maxRecDepth 100000 in
set_option maxHeartbeats 1000000 in
theorem of_any (b0 : Nat) (A B C : List Sp) (r : Int) (w : World) (hT : TabAt w b0 A B C) (hRA : Rgt A) (hRB : Rgt B) (hRC : Rgt C) (hG : GL w) :
    Calls Tryd.prog 61 #[.pointer (some ⟨b0, 0, none⟩), .int .i32 r] w fun e w' => e = .returned (.int .i64 (kindOf A B C r : Nat)) ∧ Below w.heap.size w w' := by
  obtain ⟨a, b, c, ca, cb, cc, hF, hA, hB, hC⟩ := hT
  have HA := fun wx (h : Lst wx a ca A) (hg : GL wx) => in_any a ca A r wx h.le h.cap h.at' hRA hg
  have HB := fun wx (h : Lst wx b cb B) (hg : GL wx) => in_any b cb B r wx h.le h.cap h.at' hRB hg
  have HC := fun wx (h : Lst wx c cc C) (hg : GL wx) => in_any c cc C r wx h.le h.cap h.at' hRC hg
  unfold kindOf
  obtain ⟨u, hu⟩ : ∃ u, u = inB A r := ⟨_, rfl⟩
  obtain ⟨v, hv⟩ : ∃ v, v = inB B r := ⟨_, rfl⟩
  obtain ⟨x, hx⟩ : ∃ x, x = inB C r := ⟨_, rfl⟩
  rw [← hu] at HA ⊢
  rw [← hv] at HB ⊢
  rw [← hx] at HC ⊢
  clear hu hv hx
  have hF0 := hF
  obtain ⟨c1, c2, c3⟩ := hF
  go_enter Tryd.func61, Tryd.ntmps61
  go_wp2_with fail
  refine (HA _ hA hG).mono ?_
  rintro e w1 ⟨rfl, hb1⟩
  have hF1 := Tri.below hF0 hb1
  have hB1 := hB.below hb1
  have hC1 := hC.below hb1
  have hG1 := hG.below hb1
  have hF1' := hF1
  obtain ⟨-, d2, d3⟩ := hF1'
  clear HA hF0 hA hB hC hG c1 c2 c3
  cases u with
  | true =>
    go_wp2_with fail
    go_ret
    exact ⟨rfl, hb1⟩
  | false =>
    go_wp2_with fail
    refine (HB _ hB1 hG1).mono ?_
    rintro e w2 ⟨rfl, hb2⟩
    have hC2 := hC1.below hb2
    have hG2 := hG1.below hb2
    obtain ⟨-, -, e3⟩ := hF1.below hb2
    have B2 := hb1.trans (hb2.mono hb1.size)
    clear HB hF1 hB1 hC1 hG1 d2 d3 hb1 hb2
    cases v with
    | true =>
      go_wp2_with fail
      go_ret
      exact ⟨rfl, B2⟩
    | false =>
      go_wp2_with fail
      refine (HC _ hC2 hG2).mono ?_
      rintro e w3 ⟨rfl, hb3⟩
      have B3 := B2.trans (hb3.mono B2.size)
      clear HC hC2 hG2 e3 hb3 B2
      cases x with
      | true =>
        go_wp2_with fail
        go_ret
        exact ⟨rfl, B3⟩
      | false =>
        go_wp2_with fail
        go_ret
        exact ⟨rfl, B3⟩
/-- The value of data, its three lists known. -/
def dtV (v0 v1 : Value) (a b c : Option Addr) (na ca nb cb nc cc : Nat) : Value := .agg #[v0, v1, .slice a na ca, .slice b nb cb, .slice c nc cc]
end Go.Proofs.YtplmmamebfpcjaaDoor
end
section
/- Words and merges in memory; what a Model's block holds. -/
namespace Go.Proofs.YtplmmamebfpcjaaDoor
open Go.RowKit Go.Sort Go.Joins
/-- The slice that begins at a holds the words l. -/
def WSP (w : World) (a : Option Addr) (l : List ByteArray) : Prop :=
  l = [] ∨ ∃ b off, a = some ⟨b, off, none⟩ ∧ ∀ i x, l[i]? = some x → w.cell? ⟨b, off + i, none⟩ = some (.string x)
theorem WSP.below {w w' : World} {a : Option Addr} {l : List ByteArray} (h : WSP w a l) (hb : Below w.heap.size w w') : WSP w' a l := by
  rcases h with h | ⟨b, off, rfl, hc⟩
  · exact .inl h
  · exact .inr ⟨b, off, rfl, fun i x hx => (hb.cell (World.block_lt_of_cell? w _ (hc i x hx))).trans (hc i x hx)⟩
theorem WSP.at_ {w : World} {a : Option Addr} {l : List ByteArray} (h : WSP w a l) {i : Nat} {x : ByteArray} (hx : l[i]? = some x) : ∃ b off, a = some ⟨b, off, none⟩ ∧ w.cell? ⟨b, off + i, none⟩ = some (.string x) := by
  rcases h with rfl | ⟨b, off, rfl, hc⟩
  · simp at hx
  · exact ⟨b, off, rfl, hc i x hx⟩
/-- A merge's three cells. -/
def MgAt (w : World) (b off : Nat) (x : Mg) : Prop := w.cell? ⟨b, off, none⟩ = some (.int .i64 x.l) ∧ w.cell? ⟨b, off + 1, none⟩ = some (.int .i64 x.r) ∧ w.cell? ⟨b, off + 2, none⟩ = some (.int .i64 x.i)
theorem MgAt.below {w w' : World} {b off : Nat} {x : Mg} (h : MgAt w b off x) (hb : Below w.heap.size w w') : MgAt w' b off x :=
  ⟨(hb.cell (World.block_lt_of_cell? w _ h.1)).trans h.1, (hb.cell (World.block_lt_of_cell? w _ h.2.1)).trans h.2.1, (hb.cell (World.block_lt_of_cell? w _ h.2.2)).trans h.2.2⟩
/-- The slice that begins at a holds the merges l. -/
def MSP (w : World) (a : Option Addr) (l : List Mg) : Prop :=
  l = [] ∨ ∃ b off, a = some ⟨b, off, none⟩ ∧ ∀ i x, l[i]? = some x → MgAt w b (off + i * 3) x
theorem MSP.below {w w' : World} {a : Option Addr} {l : List Mg} (h : MSP w a l) (hb : Below w.heap.size w w') : MSP w' a l := by
  rcases h with h | ⟨b, off, rfl, hc⟩
  · exact .inl h
  · exact .inr ⟨b, off, rfl, fun i x hx => (hc i x hx).below hb⟩
theorem MSP.at_ {w : World} {a : Option Addr} {l : List Mg} (h : MSP w a l) {i : Nat} {x : Mg} (hx : l[i]? = some x) : ∃ b off, a = some ⟨b, off, none⟩ ∧ MgAt w b (off + i * 3) x := by
  rcases h with rfl | ⟨b, off, rfl, hc⟩
  · simp at hx
  · exact ⟨b, off, rfl, hc i x hx⟩
structure Lsw (w : World) (a : Option Addr) (c : Nat) (l : List ByteArray) : Prop where
  le : l.length ≤ c
  cap : c ≤ 9223372036854775807
  at' : WSP w a l
structure Lsm (w : World) (a : Option Addr) (c : Nat) (l : List Mg) : Prop where
  le : l.length ≤ c
  cap : c ≤ 9223372036854775807
  at' : MSP w a l
theorem Lsw.below {w w' : World} {a : Option Addr} {c : Nat} {l : List ByteArray} (h : Lsw w a c l) (hb : Below w.heap.size w w') : Lsw w' a c l := ⟨h.le, h.cap, h.at'.below hb⟩
theorem Lsm.below {w w' : World} {a : Option Addr} {c : Nat} {l : List Mg} (h : Lsm w a c l) (hb : Below w.heap.size w w') : Lsm w' a c l := ⟨h.le, h.cap, h.at'.below hb⟩
/-- Its value. -/
def mgV (x : Mg) : Value := .agg #[.int .i64 x.l, .int .i64 x.r, .int .i64 x.i]
set_option maxHeartbeats 400000 in
theorem size_any (g n cw : Nat) (aw : Option Addr) (w : World) (hn : n ≤ 4611686018427387904) (h : w.cell? ⟨g, 0, none⟩ = some (.slice aw n cw)) :
    Calls Tryd.prog 22 #[.pointer (some ⟨g, 0, none⟩)] w fun e w' => e = .returned (.int .i64 (256 + (n : Int))) ∧ w' = w := by
  go_enter Tryd.func22, Tryd.ntmps22
  go_wp2_with fail
  go_ret
  exact ⟨rfl, rfl⟩
end Go.Proofs.YtplmmamebfpcjaaDoor
end
section
/- model.Model.Word, tesseraref5.Word: their contracts. -/
namespace Go.Proofs.YtplmmamebfpcjaaDoor
open Go.RowKit Go.Sort Go.Joins
/-- What Word answers. -/
def wdV (o : Option ByteArray) : Value := .tuple #[.string (o.getD ⟨#[]⟩), .bool o.isSome]
theorem byte_text (u : World) (id : Int) : (convert 22 9 (.slice (some ⟨u.heap.size, 0, none⟩) 1 1)).run Tryd.prog (u.alloc (.cells #[.int .u8 id] 5)) = .ok (.string (byteS id)) (u.alloc (.cells #[.int .u8 id] 5)) := by
  have h := run_convert_bytes_arg (P := Tryd.prog) (u.alloc (.cells #[.int .u8 id] 5)) 22 5 Tryd.underlying22 Tryd.underlying5 u.heap.size 0 1 1 [id] rfl (fun j hj => by
    obtain rfl : j = 0 := by simpa using hj
    rw [cell_of_block (heap_alloc_new _ _)]; rfl) 9 Tryd.underlying9
  rw [h]
  rfl
set_option maxRecDepth 100000 in
set_option maxHeartbeats 1000000 in
theorem word_any (g cw : Nat) (aw : Option Addr) (ws : List ByteArray) (id : Int) (w : World) (hn : ws.length ≤ 4611686018427387904) (h : w.cell? ⟨g, 0, none⟩ = some (.slice aw ws.length cw)) (hW : WSP w aw ws) :
    Calls Tryd.prog 62 #[.pointer (some ⟨g, 0, none⟩), .int .i64 id] w fun e w' => e = .returned (wdV (wordM ws id)) ∧ Below w.heap.size w w' := by
  have hcv := fun u => byte_text u id
  have HS := fun wx hx => size_any g ws.length cw aw wx hn hx
  by_cases h0 : id < 0
  · have e : wordM ws id = none := by unfold wordM; rw [if_neg (by omega), if_neg (by omega)]
    rw [e]
    have hd : decide (id < 0) = true := decide_eq_true h0
    go_enter Tryd.func62, Tryd.ntmps62
    go_wp2_with fail
    exact bodyPost_ret (v := .tuple #[.string ⟨#[]⟩, .bool false]) (by simp [results, Tryd.results62, go_sem]) rfl ⟨rfl, Below.refl _ _⟩
  · have hd : decide (id < 0) = false := decide_eq_false h0
    by_cases h1 : id < 256
    · have e : wordM ws id = some (byteS id) := by unfold wordM; rw [if_pos (by omega)]
      rw [e]
      have hd1 : decide (256 + (ws.length : Int) ≤ id) = false := decide_eq_false (by omega)
      have hd2 : decide (id < 256) = true := decide_eq_true h1
      go_enter Tryd.func62, Tryd.ntmps62
      go_wp2_with fail
      refine (HS _ h).mono ?_
      rintro e w' ⟨rfl, rfl⟩
      go_wp2_with fail
      exact bodyPost_ret (v := .tuple #[.string (byteS id), .bool true]) (by simp [results, Tryd.results62, go_sem]) rfl ⟨rfl, (Below.refl _ _).alloc (Nat.le_refl _) _⟩
    · by_cases h2 : id - 256 < ws.length
      · obtain ⟨k, hk⟩ : ∃ k : Nat, id = 256 + k := ⟨(id - 256).toNat, by omega⟩
        subst hk
        have hkl : k < ws.length := by omega
        obtain ⟨x, hx⟩ : ∃ x, ws[k]? = some x := ⟨_, List.getElem?_eq_getElem hkl⟩
        have e : wordM ws (256 + k) = some x := by rw [wordM_in (by omega), show (256 + (k : Int) - 256).toNat = k by omega, hx]
        rw [e]
        have hd1 : decide (256 + (ws.length : Int) ≤ 256 + (k : Int)) = false := decide_eq_false (by omega)
        have hd2 : decide (256 + (k : Int) < 256) = false := decide_eq_false (by omega)
        obtain ⟨b, off, rfl, hc⟩ := hW.at_ hx
        go_enter Tryd.func62, Tryd.ntmps62
        go_wp2_with fail
        refine (HS _ h).mono ?_
        rintro e w' ⟨rfl, rfl⟩
        go_wp2_with fail
        exact bodyPost_ret (v := .tuple #[.string x, .bool true]) (by simp [results, Tryd.results62, go_sem]) rfl ⟨rfl, Below.refl _ _⟩
      · have e : wordM ws id = none := by rw [wordM_in (by omega), List.getElem?_eq_none (by omega)]
        rw [e]
        have hd1 : decide (256 + (ws.length : Int) ≤ id) = true := decide_eq_true (by omega)
        go_enter Tryd.func62, Tryd.ntmps62
        go_wp2_with fail
        refine (HS _ h).mono ?_
        rintro e w' ⟨rfl, rfl⟩
        go_wp2_with fail
        exact bodyPost_ret (v := .tuple #[.string ⟨#[]⟩, .bool false]) (by simp [results, Tryd.results62, go_sem]) rfl ⟨rfl, Below.refl _ _⟩
end Go.Proofs.YtplmmamebfpcjaaDoor
end
section
/- tesseraref5.Word, made, Longest; tesserakeep.Large; model.longest, isMade: their contracts. -/
namespace Go.Proofs.YtplmmamebfpcjaaDoor
open Go.RowKit Go.Sort Go.Joins
/-- A block that holds data. -/
def DBox (w : World) (z : Nat) (v0 v1 v2 v3 v4 : Value) : Prop := w.heap[z]? = some (.cells #[v0, v1, v2, v3, v4] 45 (0, 0))
theorem DBox.new (w : World) (v0 v1 v2 v3 v4 : Value) : DBox (w.alloc (.cells #[v0, v1, v2, v3, v4] 45)) w.heap.size v0 v1 v2 v3 v4 := heap_alloc_new _ _
theorem DBox.lt {w : World} {z : Nat} {v0 v1 v2 v3 v4 : Value} (h : DBox w z v0 v1 v2 v3 v4) : z < w.heap.size := (Array.getElem?_eq_some_iff.1 h).1
theorem DBox.below {w w' : World} {z B : Nat} {v0 v1 v2 v3 v4 : Value} (h : DBox w z v0 v1 v2 v3 v4) (hb : Below B w w') (hz : z < B) : DBox w' z v0 v1 v2 v3 v4 := (hb.block z hz).trans h
theorem DBox.c0 {w : World} {z : Nat} {v0 v1 v2 v3 v4 : Value} (h : DBox w z v0 v1 v2 v3 v4) : w.cell? ⟨z, 0, none⟩ = some v0 := cell_of_block h 0
theorem DBox.c1 {w : World} {z : Nat} {v0 v1 v2 v3 v4 : Value} (h : DBox w z v0 v1 v2 v3 v4) : w.cell? ⟨z, 1, none⟩ = some v1 := cell_of_block h 1
theorem DBox.c2 {w : World} {z : Nat} {v0 v1 v2 v3 v4 : Value} (h : DBox w z v0 v1 v2 v3 v4) : w.cell? ⟨z, 2, none⟩ = some v2 := cell_of_block h 2
theorem DBox.c3 {w : World} {z : Nat} {v0 v1 v2 v3 v4 : Value} (h : DBox w z v0 v1 v2 v3 v4) : w.cell? ⟨z, 3, none⟩ = some v3 := cell_of_block h 3
theorem DBox.c4 {w : World} {z : Nat} {v0 v1 v2 v3 v4 : Value} (h : DBox w z v0 v1 v2 v3 v4) : w.cell? ⟨z, 4, none⟩ = some v4 := cell_of_block h 4
theorem box_below (w : World) (o : Obj) : Below w.heap.size w (w.alloc o) := (Below.refl _ _).alloc (Nat.le_refl _) _
end Go.Proofs.YtplmmamebfpcjaaDoor
end
section
/- classes.lists.wrong: its contract. -/
namespace Go.Proofs.YtplmmamebfpcjaaDoor
open Go.RowKit Go.Sort Go.Joins
/-- The value of a refusal. -/
def wrV (c : Nat × Nat × Nat) : Value := .agg #[.int .i64 (c.1 : Nat), .int .i64 (c.2.1 : Nat), .int .i64 (c.2.2 : Nat)]
/-- Three cells written. -/
theorem wr_set {W : World} {g : Nat} {v0 v1 v2 u0 u1 u2 : Value} {t : TypeId} (h : W.heap[g]? = some (.cells #[v0, v1, v2] t (0, 0))) :
    (((W.setCell ⟨g, 0, none⟩ u0).setCell ⟨g, 1, none⟩ u1).setCell ⟨g, 2, none⟩ u2).heap[g]? = some (.cells #[u0, u1, u2] t (0, 0)) := by
  have := block_setCell (i := 2) (block_setCell (i := 1) (block_setCell (i := 0) h u0) u1) u2
  simpa using this
theorem wr_below {w W : World} {B g : Nat} {u0 u1 u2 : Value} (h : Below B w W) (hg : B ≤ g) : Below B w (((W.setCell ⟨g, 0, none⟩ u0).setCell ⟨g, 1, none⟩ u1).setCell ⟨g, 2, none⟩ u2) :=
  ((h.setCell (p := ⟨g, 0, none⟩) hg _).setCell (p := ⟨g, 1, none⟩) hg _).setCell (p := ⟨g, 2, none⟩) hg _
set_option maxRecDepth 100000 in
set_option maxHeartbeats 8000000 in
theorem wrong_any (a b c : Option Addr) (ca cb cc : Nat) (A B C : List Sp) (w : World) (hA : Lst w a ca A) (hB : Lst w b cb B) (hC : Lst w c cc C) (hG : GL w) :
    Calls Tryd.prog 52 #[lsV a b c A.length ca B.length cb C.length cc] w fun e w' => e = .returned (wrV (checkA A B C)) ∧ Below w.heap.size w w' := by
  have bX := heap_alloc_new w (.cells #[.slice none 0 0, .slice a A.length ca, .slice b B.length cb, .slice c C.length cc] 101)
  obtain ⟨Y0, hY0⟩ : ∃ Y0, Y0 = w.alloc (.cells #[.slice none 0 0, .slice a A.length ca, .slice b B.length cb, .slice c C.length cc] 101) := ⟨_, rfl⟩
  have s0 : Y0.heap.size = w.heap.size + 1 := by rw [hY0]; simp
  have b0 : Below w.heap.size w Y0 := by rw [hY0]; exact (Below.refl _ _).alloc (Nat.le_refl _) _
  have hF : Four Y0 w.heap.size a b c ca cb cc A B C := by rw [hY0]; exact Four.new w a b c ca cb cc A B C 101
  obtain ⟨Y1, hY1⟩ : ∃ Y1, Y1 = Y0.alloc (.cells #[.int .i64 0, .int .i64 0, .int .i64 0] 80) := ⟨_, rfl⟩
  have s1 : Y1.heap.size = w.heap.size + 1 + 1 := by rw [hY1]; simp; omega
  have b1 : Below w.heap.size w Y1 := by rw [hY1]; exact b0.alloc b0.size _
  have hF1 : Four Y1 w.heap.size a b c ca cb cc A B C := by rw [hY1]; exact hF.below ((Below.refl _ _).alloc (Nat.le_refl _) _)
  have hW1 : Y1.heap[w.heap.size + 1]? = some (.cells #[.int .i64 0, .int .i64 0, .int .i64 0] 80 (0, 0)) := by rw [hY1, ← s0]; exact heap_alloc_new _ _
  obtain ⟨Y2, hY2⟩ : ∃ Y2, Y2 = Y1.alloc (.cells #[.func (.func 58) #[] #[], .func (.func 59) #[] #[], .func (.func 60) #[] #[]] 125) := ⟨_, rfl⟩
  have b2 : Below w.heap.size w Y2 := by rw [hY2]; exact b1.alloc b1.size _
  have b12 : Below Y1.heap.size Y1 Y2 := by rw [hY2]; exact (Below.refl _ _).alloc (Nat.le_refl _) _
  have hF2 := hF1.below b12
  have hW2 := (b12.block _ (by rw [s1]; omega)).trans hW1
  have hS2 : Y2.heap[w.heap.size + 1 + 1]? = some (.cells #[.func (.func 58) #[] #[], .func (.func 59) #[] #[], .func (.func 60) #[] #[]] 125 (0, 0)) := by rw [hY2, ← s1]; exact heap_alloc_new _ _
  have hA2 := hA.below b2
  have hB2 := hB.below b2
  have hC2 := hC.below b2
  have hG2 := hG.below b2
  have s2 : Y2.heap.size = w.heap.size + 1 + 1 + 1 := by rw [hY2]; simp; omega
  have hn1 : w.heap.size + 1 < Y2.heap.size := by omega
  clear hA hB hC hG bX hF hF1 hW1 b0 b1 b12
  unfold lsV
  go_enter Tryd.func52, Tryd.ntmps52
  go_wp2_with fail
  have HY : Hid (Y2 = Y1.alloc (.cells #[.func (.func 58) #[] #[], .func (.func 59) #[] #[], .func (.func 60) #[] #[]] 125)) := hY2
  rw [← hY0, ← hY1, ← hY2]
  clear hY0 hY1 hY2 s0 s1 HY
  obtain ⟨z, hz⟩ : ∃ z, z = w.heap.size := ⟨_, rfl⟩
  have HZ : Hid (z = w.heap.size) := hz
  rw [← hz] at hF2 hW2 hS2 hn1 ⊢
  clear hz s2
  go_loopw [11] (fun v wr => ∃ k : Nat, k ≤ 3 ∧ v = .int .i64 (k : Nat) ∧ Pass A B C (3 * k) ∧ Below Y2.heap.size Y2 wr) (fun v _ => 3 - (intOf v).toNat)
  case atStart => exact ⟨0, by omega, rfl, Pass.zero A B C, Below.refl _ _⟩
  case round =>
    obtain ⟨k, hk, rfl, hP, hbr⟩ := hrel
    have hS := (hbr.block _ (Array.getElem?_eq_some_iff.1 hS2).1).trans hS2
    have fk0 := cell_of_block hS (i := 0)
    have fk1 := cell_of_block hS (i := 1)
    have fk2 := cell_of_block hS (i := 2)
    clear hS hS2
    rcases (show k = 0 ∨ k = 1 ∨ k = 2 ∨ k = 3 by omega) with rfl | rfl | rfl | rfl
    · rw [show ((0 : Nat) : Int) = 0 from rfl]
      go_wp2_with fail
      clear fk0 fk1 fk2
      go_loopw [5] (fun v wi => ∃ i : Nat, 1 ≤ i ∧ i ≤ 4 ∧ v = .int .i64 (i : Nat) ∧ Pass A B C (3 * 0 + (i - 1)) ∧ Below Y2.heap.size Y2 wi) (fun v _ => 4 - (intOf v).toNat)
      case atStart => exact ⟨1, by omega, by omega, rfl, hP, hbr⟩
      case round =>
        clear hbr hP
        obtain ⟨i, hi, hi4, rfl, hPi, hbi⟩ := hrel
        by_cases hi3 : i ≤ 3
        · have HR := fun (wx : World) (h1 : Lst wx a ca A) (h2 : Lst wx b cb B) (h3 : Lst wx c cc C) (hg : GL wx) => tooMany_any a b c ca cb cc A B C i (by omega) wx
          have hent := ent_rule A B C (r := 0) hi hi3
          have hbad := check_bad (q := 3 * 0 + (i - 1)) (by omega) hPi
          rw [hent, show (3 * 0 + (i - 1)) % 3 + 1 = i by omega] at hbad
          have hok := fun h => hPi.succ (h : (ent A B C (3 * 0 + (i - 1))).2 = 0)
          rw [hent] at hok
          unfold rowV at HR
          obtain ⟨⟨p, e⟩, hm⟩ : ∃ m, m = ruleA A B C 0 i := ⟨_, rfl⟩
          rw [← hm] at HR hok hbad
          clear hm hent
          simp only at hok hbad
          have HOK : Hid (e = 0 → Pass A B C (3 * 0 + (i - 1) + 1)) := hok
          have HBAD : Hid (e ≠ 0 → checkA A B C = (e, i, p)) := hbad
          have HPI : Hid (Pass A B C (3 * 0 + (i - 1))) := hPi
          obtain ⟨q1, q2, q3, q0⟩ := (hF2.below hbi).one
          have hWi := (hbi.block _ (Array.getElem?_eq_some_iff.1 hW2).1).trans hW2
          have hd4 : decide ((i : Int) ≤ 3) = true := decide_eq_true (by omega)
          have HR := HR wr (hA2.below hbi) (hB2.below hbi) (hC2.below hbi) (hG2.below hbi)
          clear hok hbad hPi
          go_wp2_with fail
          refine HR.mono ?_
          rintro r w1 ⟨rfl, hb1⟩
          have B1 := hbi.trans (hb1.mono hbi.size)
          have hW1 := (hb1.block _ (Array.getElem?_eq_some_iff.1 hWi).1).trans hWi
          clear HR q1 q2 q3 q0 hb1 hWi
          by_cases he : e = 0
          · have hPn := HOK.out he
            subst he
            have HPN : Hid (Pass A B C (3 * 0 + (i - 1) + 1)) := hPn
            clear hPn HOK HBAD
            go_wp2_with fail
            exact ⟨⟨i + 1, by omega, by omega, by go_num, by have := HPN.out; rwa [show 3 * 0 + (i + 1 - 1) = 3 * 0 + (i - 1) + 1 by omega], B1⟩, by simp only [intOf]; omega⟩
          · have hE := HBAD.out he
            have HE : Hid (checkA A B C = (e, i, p)) := hE
            have hne : ((e : Int) != 0) = true := by simp; omega
            have f0 := fun j => unfrozen_of_block hW1 j
            have HW1 := hW1
            have x0 := cell_of_block hW1 (i := 0)
            have x1 := cell_of_block hW1 (i := 1)
            have x2 := cell_of_block hW1 (i := 2)
            clear he hE HOK HBAD hW1
            go_wp2_with fail
            have hfin := wr_set HW1 (u0 := .int .i64 (e : Nat)) (u1 := .int .i64 (i : Nat)) (u2 := .int .i64 (p : Nat))
            have hBf := wr_below (b2.trans (B1.mono b2.size)) (g := z + 1) (u0 := .int .i64 (e : Nat)) (u1 := .int .i64 (i : Nat)) (u2 := .int .i64 (p : Nat)) (by rw [HZ.out]; omega)
            obtain ⟨Wf, hWf⟩ : ∃ Wf, Wf = (((w1.setCell ⟨z + 1, 0, none⟩ (.int .i64 (e : Nat))).setCell ⟨z + 1, 1, none⟩ (.int .i64 (i : Nat))).setCell ⟨z + 1, 2, none⟩ (.int .i64 (p : Nat))) := ⟨_, rfl⟩
            rw [← hWf] at hfin hBf ⊢
            have y0 := cell_of_block hfin (i := 0)
            have y1 := cell_of_block hfin (i := 1)
            have y2 := cell_of_block hfin (i := 2)
            exact bodyPost_ret (v := wrV (e, i, p)) (by simp [results, Tryd.results52, go_sem, wrV, y0, y1, y2]) rfl ⟨by rw [HE.out], hBf⟩
        · have hi5 : i = 4 := by omega
          subst hi5
          have HPI : Hid (Pass A B C (3 * 0 + (4 - 1))) := hPi
          clear hPi
          go_wp2_with fail
          exact ⟨⟨0 + 1, by omega, by go_num, HPI.out, hbi⟩, by simp only [intOf]; omega⟩
    · rw [show ((1 : Nat) : Int) = 1 from rfl]
      go_wp2_with fail
      clear fk0 fk1 fk2
      go_loopw [5] (fun v wi => ∃ i : Nat, 1 ≤ i ∧ i ≤ 4 ∧ v = .int .i64 (i : Nat) ∧ Pass A B C (3 * 1 + (i - 1)) ∧ Below Y2.heap.size Y2 wi) (fun v _ => 4 - (intOf v).toNat)
      case atStart => exact ⟨1, by omega, by omega, rfl, hP, hbr⟩
      case round =>
        clear hbr hP
        obtain ⟨i, hi, hi4, rfl, hPi, hbi⟩ := hrel
        by_cases hi3 : i ≤ 3
        · have HR := fun (wx : World) (h1 : Lst wx a ca A) (h2 : Lst wx b cb B) (h3 : Lst wx c cc C) (hg : GL wx) => notRight_any a b c ca cb cc A B C i (by omega) wx h1 h2 h3 hg
          have hent := ent_rule A B C (r := 1) hi hi3
          have hbad := check_bad (q := 3 * 1 + (i - 1)) (by omega) hPi
          rw [hent, show (3 * 1 + (i - 1)) % 3 + 1 = i by omega] at hbad
          have hok := fun h => hPi.succ (h : (ent A B C (3 * 1 + (i - 1))).2 = 0)
          rw [hent] at hok
          unfold rowV at HR
          obtain ⟨⟨p, e⟩, hm⟩ : ∃ m, m = ruleA A B C 1 i := ⟨_, rfl⟩
          rw [← hm] at HR hok hbad
          clear hm hent
          simp only at hok hbad
          have HOK : Hid (e = 0 → Pass A B C (3 * 1 + (i - 1) + 1)) := hok
          have HBAD : Hid (e ≠ 0 → checkA A B C = (e, i, p)) := hbad
          have HPI : Hid (Pass A B C (3 * 1 + (i - 1))) := hPi
          obtain ⟨q1, q2, q3, q0⟩ := (hF2.below hbi).one
          have hWi := (hbi.block _ (Array.getElem?_eq_some_iff.1 hW2).1).trans hW2
          have hd4 : decide ((i : Int) ≤ 3) = true := decide_eq_true (by omega)
          have HR := HR wr (hA2.below hbi) (hB2.below hbi) (hC2.below hbi) (hG2.below hbi)
          clear hok hbad hPi
          go_wp2_with fail
          refine HR.mono ?_
          rintro r w1 ⟨rfl, hb1⟩
          have B1 := hbi.trans (hb1.mono hbi.size)
          have hW1 := (hb1.block _ (Array.getElem?_eq_some_iff.1 hWi).1).trans hWi
          clear HR q1 q2 q3 q0 hb1 hWi
          by_cases he : e = 0
          · have hPn := HOK.out he
            subst he
            have HPN : Hid (Pass A B C (3 * 1 + (i - 1) + 1)) := hPn
            clear hPn HOK HBAD
            go_wp2_with fail
            exact ⟨⟨i + 1, by omega, by omega, by go_num, by have := HPN.out; rwa [show 3 * 1 + (i + 1 - 1) = 3 * 1 + (i - 1) + 1 by omega], B1⟩, by simp only [intOf]; omega⟩
          · have hE := HBAD.out he
            have HE : Hid (checkA A B C = (e, i, p)) := hE
            have hne : ((e : Int) != 0) = true := by simp; omega
            have f0 := fun j => unfrozen_of_block hW1 j
            have HW1 := hW1
            have x0 := cell_of_block hW1 (i := 0)
            have x1 := cell_of_block hW1 (i := 1)
            have x2 := cell_of_block hW1 (i := 2)
            clear he hE HOK HBAD hW1
            go_wp2_with fail
            have hfin := wr_set HW1 (u0 := .int .i64 (e : Nat)) (u1 := .int .i64 (i : Nat)) (u2 := .int .i64 (p : Nat))
            have hBf := wr_below (b2.trans (B1.mono b2.size)) (g := z + 1) (u0 := .int .i64 (e : Nat)) (u1 := .int .i64 (i : Nat)) (u2 := .int .i64 (p : Nat)) (by rw [HZ.out]; omega)
            obtain ⟨Wf, hWf⟩ : ∃ Wf, Wf = (((w1.setCell ⟨z + 1, 0, none⟩ (.int .i64 (e : Nat))).setCell ⟨z + 1, 1, none⟩ (.int .i64 (i : Nat))).setCell ⟨z + 1, 2, none⟩ (.int .i64 (p : Nat))) := ⟨_, rfl⟩
            rw [← hWf] at hfin hBf ⊢
            have y0 := cell_of_block hfin (i := 0)
            have y1 := cell_of_block hfin (i := 1)
            have y2 := cell_of_block hfin (i := 2)
            exact bodyPost_ret (v := wrV (e, i, p)) (by simp [results, Tryd.results52, go_sem, wrV, y0, y1, y2]) rfl ⟨by rw [HE.out], hBf⟩
        · have hi5 : i = 4 := by omega
          subst hi5
          have HPI : Hid (Pass A B C (3 * 1 + (4 - 1))) := hPi
          clear hPi
          go_wp2_with fail
          exact ⟨⟨1 + 1, by omega, by go_num, HPI.out, hbi⟩, by simp only [intOf]; omega⟩
    · rw [show ((2 : Nat) : Int) = 2 from rfl]
      go_wp2_with fail
      clear fk0 fk1 fk2
      go_loopw [5] (fun v wi => ∃ i : Nat, 1 ≤ i ∧ i ≤ 4 ∧ v = .int .i64 (i : Nat) ∧ Pass A B C (3 * 2 + (i - 1)) ∧ Below Y2.heap.size Y2 wi) (fun v _ => 4 - (intOf v).toNat)
      case atStart => exact ⟨1, by omega, by omega, rfl, hP, hbr⟩
      case round =>
        clear hbr hP
        obtain ⟨i, hi, hi4, rfl, hPi, hbi⟩ := hrel
        by_cases hi3 : i ≤ 3
        · have HR := fun (wx : World) (h1 : Lst wx a ca A) (h2 : Lst wx b cb B) (h3 : Lst wx c cc C) (hg : GL wx) => over_any a b c ca cb cc A B C i hi hi3 wx h1 h2 h3 (hPi.rgt (by omega)).1 (hPi.rgt (by omega)).2.1 (hPi.rgt (by omega)).2.2 hg
          have hent := ent_rule A B C (r := 2) hi hi3
          have hbad := check_bad (q := 3 * 2 + (i - 1)) (by omega) hPi
          rw [hent, show (3 * 2 + (i - 1)) % 3 + 1 = i by omega] at hbad
          have hok := fun h => hPi.succ (h : (ent A B C (3 * 2 + (i - 1))).2 = 0)
          rw [hent] at hok
          unfold rowV at HR
          obtain ⟨⟨p, e⟩, hm⟩ : ∃ m, m = ruleA A B C 2 i := ⟨_, rfl⟩
          rw [← hm] at HR hok hbad
          clear hm hent
          simp only at hok hbad
          have HOK : Hid (e = 0 → Pass A B C (3 * 2 + (i - 1) + 1)) := hok
          have HBAD : Hid (e ≠ 0 → checkA A B C = (e, i, p)) := hbad
          have HPI : Hid (Pass A B C (3 * 2 + (i - 1))) := hPi
          obtain ⟨q1, q2, q3, q0⟩ := (hF2.below hbi).one
          have hWi := (hbi.block _ (Array.getElem?_eq_some_iff.1 hW2).1).trans hW2
          have hd4 : decide ((i : Int) ≤ 3) = true := decide_eq_true (by omega)
          have HR := HR wr (hA2.below hbi) (hB2.below hbi) (hC2.below hbi) (hG2.below hbi)
          clear hok hbad hPi
          go_wp2_with fail
          refine HR.mono ?_
          rintro r w1 ⟨rfl, hb1⟩
          have B1 := hbi.trans (hb1.mono hbi.size)
          have hW1 := (hb1.block _ (Array.getElem?_eq_some_iff.1 hWi).1).trans hWi
          clear HR q1 q2 q3 q0 hb1 hWi
          by_cases he : e = 0
          · have hPn := HOK.out he
            subst he
            have HPN : Hid (Pass A B C (3 * 2 + (i - 1) + 1)) := hPn
            clear hPn HOK HBAD
            go_wp2_with fail
            exact ⟨⟨i + 1, by omega, by omega, by go_num, by have := HPN.out; rwa [show 3 * 2 + (i + 1 - 1) = 3 * 2 + (i - 1) + 1 by omega], B1⟩, by simp only [intOf]; omega⟩
          · have hE := HBAD.out he
            have HE : Hid (checkA A B C = (e, i, p)) := hE
            have hne : ((e : Int) != 0) = true := by simp; omega
            have f0 := fun j => unfrozen_of_block hW1 j
            have HW1 := hW1
            have x0 := cell_of_block hW1 (i := 0)
            have x1 := cell_of_block hW1 (i := 1)
            have x2 := cell_of_block hW1 (i := 2)
            clear he hE HOK HBAD hW1
            go_wp2_with fail
            have hfin := wr_set HW1 (u0 := .int .i64 (e : Nat)) (u1 := .int .i64 (i : Nat)) (u2 := .int .i64 (p : Nat))
            have hBf := wr_below (b2.trans (B1.mono b2.size)) (g := z + 1) (u0 := .int .i64 (e : Nat)) (u1 := .int .i64 (i : Nat)) (u2 := .int .i64 (p : Nat)) (by rw [HZ.out]; omega)
            obtain ⟨Wf, hWf⟩ : ∃ Wf, Wf = (((w1.setCell ⟨z + 1, 0, none⟩ (.int .i64 (e : Nat))).setCell ⟨z + 1, 1, none⟩ (.int .i64 (i : Nat))).setCell ⟨z + 1, 2, none⟩ (.int .i64 (p : Nat))) := ⟨_, rfl⟩
            rw [← hWf] at hfin hBf ⊢
            have y0 := cell_of_block hfin (i := 0)
            have y1 := cell_of_block hfin (i := 1)
            have y2 := cell_of_block hfin (i := 2)
            exact bodyPost_ret (v := wrV (e, i, p)) (by simp [results, Tryd.results52, go_sem, wrV, y0, y1, y2]) rfl ⟨by rw [HE.out], hBf⟩
        · have hi5 : i = 4 := by omega
          subst hi5
          have HPI : Hid (Pass A B C (3 * 2 + (4 - 1))) := hPi
          clear hPi
          go_wp2_with fail
          exact ⟨⟨2 + 1, by omega, by go_num, HPI.out, hbi⟩, by simp only [intOf]; omega⟩
    · clear fk0 fk1 fk2
      have hPe : Pass A B C 9 := hP
      have hend := check_end hPe
      obtain ⟨r1, r2, r3⟩ := hPe.rgt (by omega)
      have hbl := blank_of hPe
      rw [← hbl] at hend
      have hf3 := hF2.below hbr
      obtain ⟨q1, q2, q3, q0⟩ := hf3.one
      have hWr := (hbr.block _ (Array.getElem?_eq_some_iff.1 hW2).1).trans hW2
      have ba : Below wr.heap.size wr (wr.alloc (.cells #[.slice none 0 0, .slice a A.length ca, .slice b B.length cb, .slice c C.length cc] 104)) := (Below.refl _ _).alloc (Nat.le_refl _) _
      have hT : TabAt (wr.alloc (.cells #[.slice none 0 0, .slice a A.length ca, .slice b B.length cb, .slice c C.length cc] 104)) wr.heap.size A B C := ⟨a, b, c, ca, cb, cc, (Four.new wr a b c ca cb cc A B C 104).tri, (hA2.below hbr).below ba, (hB2.below hbr).below ba, (hC2.below hbr).below ba⟩
      have hGa := (hG2.below hbr).below ba
      have H1 := fun wx (h : TabAt wx wr.heap.size A B C) (hg : GL wx) => of_any wr.heap.size A B C 32 wx h r1 r2 r3 hg
      have H2 := fun wx (h : TabAt wx wr.heap.size A B C) (hg : GL wx) => of_any wr.heap.size A B C 39 wx h r1 r2 r3 hg
      obtain ⟨k1, hk1⟩ : ∃ k, k = kindOf A B C 32 := ⟨_, rfl⟩
      obtain ⟨k2, hk2⟩ : ∃ k, k = kindOf A B C 39 := ⟨_, rfl⟩
      rw [← hk1] at H1 hend
      rw [← hk2] at H2 hend
      clear hk1 hk2 hbl hPe hP r1 r2 r3 hf3 hF2 hA2 hB2 hC2 hG2 hW2
      have HEND : Hid (checkA A B C = if (decide (k1 ≠ 3) || decide (k2 ≠ 4)) = true then (20, 3, 0) else (0, 0, 0)) := hend
      have hWa := (ba.block _ (Array.getElem?_eq_some_iff.1 hWr).1).trans hWr
      clear hend hWr
      go_wp2_with fail
      refine (H1 _ hT hGa).mono ?_
      rintro e w1 ⟨rfl, hb1⟩
      have hT1 := hT.below hb1
      have hG1 := hGa.below hb1
      have hW1 := (hb1.block _ (Array.getElem?_eq_some_iff.1 hWa).1).trans hWa
      have B1 := (hbr.trans (ba.mono hbr.size)).trans (hb1.mono (Nat.le_trans hbr.size ba.size))
      clear H1 hT hGa hWa hb1 ba q0 q1 q2 q3
      by_cases e1 : k1 = 3
      · subst e1
        have n1 : (((3 : Nat) : Int) != 3) = false := by simp
        go_wp2_with fail
        refine (H2 _ hT1 hG1).mono ?_
        rintro e w2 ⟨rfl, hb2⟩
        have hW2 := (hb2.block _ (Array.getElem?_eq_some_iff.1 hW1).1).trans hW1
        have B2 := B1.trans (hb2.mono B1.size)
        clear H2 hT1 hG1 hW1 hb2
        by_cases e2 : k2 = 4
        · subst e2
          have HE : Hid (checkA A B C = (0, 0, 0)) := by show _ = _; rw [HEND.out]; simp
          have n2 : (((4 : Nat) : Int) != 4) = false := by simp
          have f0 := fun j => unfrozen_of_block hW2 j
          have HW1 := hW2
          have x0 := cell_of_block hW2 (i := 0)
          have x1 := cell_of_block hW2 (i := 1)
          have x2 := cell_of_block hW2 (i := 2)
          clear HEND hW2 B1
          go_wp2_with fail
          have hfin := wr_set HW1 (u0 := .int .i64 0) (u1 := .int .i64 0) (u2 := .int .i64 0)
          have hBf := wr_below (b2.trans (B2.mono b2.size)) (g := z + 1) (u0 := .int .i64 0) (u1 := .int .i64 0) (u2 := .int .i64 0) (by rw [HZ.out]; omega)
          obtain ⟨Wf, hWf⟩ : ∃ Wf, Wf = (((w2.setCell ⟨z + 1, 0, none⟩ (.int .i64 0)).setCell ⟨z + 1, 1, none⟩ (.int .i64 0)).setCell ⟨z + 1, 2, none⟩ (.int .i64 0)) := ⟨_, rfl⟩
          rw [← hWf] at hfin hBf ⊢
          have y0 := cell_of_block hfin (i := 0)
          have y1 := cell_of_block hfin (i := 1)
          have y2 := cell_of_block hfin (i := 2)
          exact bodyPost_ret (v := wrV (0, 0, 0)) (by simp [results, Tryd.results52, go_sem, wrV, y0, y1, y2]) rfl ⟨by rw [HE.out], hBf⟩
        · have HE : Hid (checkA A B C = (20, 3, 0)) := by show _ = _; rw [HEND.out]; simp [e2]
          have n2 : ((k2 : Int) != 4) = true := by simp; omega
          have f0 := fun j => unfrozen_of_block hW2 j
          have HW1 := hW2
          have x0 := cell_of_block hW2 (i := 0)
          have x1 := cell_of_block hW2 (i := 1)
          have x2 := cell_of_block hW2 (i := 2)
          clear HEND hW2 e2 B1
          go_wp2_with fail
          have hfin := wr_set HW1 (u0 := .int .i64 20) (u1 := .int .i64 3) (u2 := .int .i64 0)
          have hBf := wr_below (b2.trans (B2.mono b2.size)) (g := z + 1) (u0 := .int .i64 20) (u1 := .int .i64 3) (u2 := .int .i64 0) (by rw [HZ.out]; omega)
          obtain ⟨Wf, hWf⟩ : ∃ Wf, Wf = (((w2.setCell ⟨z + 1, 0, none⟩ (.int .i64 20)).setCell ⟨z + 1, 1, none⟩ (.int .i64 3)).setCell ⟨z + 1, 2, none⟩ (.int .i64 0)) := ⟨_, rfl⟩
          rw [← hWf] at hfin hBf ⊢
          have y0 := cell_of_block hfin (i := 0)
          have y1 := cell_of_block hfin (i := 1)
          have y2 := cell_of_block hfin (i := 2)
          exact bodyPost_ret (v := wrV (20, 3, 0)) (by simp [results, Tryd.results52, go_sem, wrV, y0, y1, y2]) rfl ⟨by rw [HE.out], hBf⟩
      · have HE : Hid (checkA A B C = (20, 3, 0)) := by show _ = _; rw [HEND.out]; simp [e1]
        have n1 : ((k1 : Int) != 3) = true := by simp; omega
        have f0 := fun j => unfrozen_of_block hW1 j
        have HW1 := hW1
        have x0 := cell_of_block hW1 (i := 0)
        have x1 := cell_of_block hW1 (i := 1)
        have x2 := cell_of_block hW1 (i := 2)
        have B2 := B1
        clear HEND hW1 e1 H2 hT1 hG1
        go_wp2_with fail
        have hfin := wr_set HW1 (u0 := .int .i64 20) (u1 := .int .i64 3) (u2 := .int .i64 0)
        have hBf := wr_below (b2.trans (B2.mono b2.size)) (g := z + 1) (u0 := .int .i64 20) (u1 := .int .i64 3) (u2 := .int .i64 0) (by rw [HZ.out]; omega)
        obtain ⟨Wf, hWf⟩ : ∃ Wf, Wf = (((w1.setCell ⟨z + 1, 0, none⟩ (.int .i64 20)).setCell ⟨z + 1, 1, none⟩ (.int .i64 3)).setCell ⟨z + 1, 2, none⟩ (.int .i64 0)) := ⟨_, rfl⟩
        rw [← hWf] at hfin hBf ⊢
        have y0 := cell_of_block hfin (i := 0)
        have y1 := cell_of_block hfin (i := 1)
        have y2 := cell_of_block hfin (i := 2)
        exact bodyPost_ret (v := wrV (20, 3, 0)) (by simp [results, Tryd.results52, go_sem, wrV, y0, y1, y2]) rfl ⟨by rw [HE.out], hBf⟩
end Go.Proofs.YtplmmamebfpcjaaDoor
end
