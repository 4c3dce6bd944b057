/- spans.In and the document's own: their contracts. -/
import Derived.Test.YtlnebbciefdpoaaDoorSRefRight
namespace Go.Proofs.YtlnebbciefdpoaaDoor
open Go.RowKit Go.Sort
def lies (l : List Sp) (r : Int) : Bool := l.any fun x => decide (x.lo ≤ r) && decide (r ≤ x.hi)
theorem inB_eq (l : List Sp) (r : Int) : inB l r = (runeB r && lies l r) := rfl
theorem lies_true {l : List Sp} {r : Int} {i : Nat} {x : Sp} (hx : l[i]? = some x) (h1 : x.lo ≤ r) (h2 : r ≤ x.hi) : lies l r = true := by
  unfold lies
  rw [List.any_eq_true]
  exact ⟨x, List.mem_of_getElem? hx, by simp [h1, h2]⟩
theorem lies_false {l : List Sp} {r : Int} (h : ∀ (i : Nat) (x : Sp), l[i]? = some x → ¬ (x.lo ≤ r ∧ r ≤ x.hi)) : lies l r = false := by
  cases hl : lies l r with
  | false => rfl
  | true =>
    unfold lies at hl
    rw [List.any_eq_true] at hl
    obtain ⟨x, hx, h2⟩ := hl
    obtain ⟨i, hi⟩ := List.getElem?_of_mem hx
    simp at h2
    exact absurd h2 (h i x hi)
/-- A slice's length. -/
def lenV : Value → Nat
  | .slice _ n _ => n
  | _ => 0
/-- No span but those from lo on, m of them, can hold r. -/
def Left (l : List Sp) (r : Int) (lo m : Nat) : Prop := ∀ (i : Nat) (x : Sp), l[i]? = some x → (i < lo ∨ lo + m ≤ i) → ¬ (x.lo ≤ r ∧ r ≤ x.hi)
theorem Left.low {l : List Sp} {r : Int} {lo m k : Nat} {x : Sp} (h : Left l r lo m) (hR : Rgt l) (hx : l[lo + k]? = some x) (hr : r < x.lo) : Left l r lo k := by
  intro i y hy hi
  by_cases e : i = lo + k
  · subst e
    rw [hx] at hy
    cases hy
    omega
  · by_cases h1 : i < lo
    · exact h i y hy (.inl h1)
    · have h2 := hR.rise (show lo + k < i by omega) hx hy
      have h3 := (hR.row hx).2.2
      omega
theorem Left.high {l : List Sp} {r : Int} {lo m k : Nat} {x : Sp} (h : Left l r lo m) (hR : Rgt l) (hx : l[lo + k]? = some x) (hk : k < m) (hr : x.hi < r) : Left l r (lo + k + 1) (m - (k + 1)) := by
  intro i y hy hi
  by_cases e : i = lo + k
  · subst e
    rw [hx] at hy
    cases hy
    omega
  · by_cases h1 : i < lo + k
    · have h2 := hR.rise h1 hy hx
      have h3 := (hR.row hx).2.2
      omega
    · exact h i y hy (.inr (by omega))
set_option maxHeartbeats 2000000 in
theorem in_any (a : Option Addr) (cap : Nat) (l : List Sp) (r : Int) (w : World) (hlen : l.length ≤ cap) (hcap : cap ≤ 9223372036854775807) (h : SPS w a l) (hR : Rgt l) (hG : GL w) :
    Calls Tryd.prog 81 #[.slice a l.length cap, .int .i32 r] w fun e w' => e = .returned (.bool (inB l r)) ∧ Below w.heap.size w w' := by
  obtain ⟨B, hB⟩ : ∃ B, B = inB l r := ⟨_, rfl⟩
  have HB : Hid (B = inB l r) := hB
  rw [← hB]
  clear hB
  have HL : Hid (l.length ≤ cap) := hlen
  obtain ⟨n, hn⟩ : ∃ n, n = l.length := ⟨_, rfl⟩
  have HN : Hid (n = l.length) := hn
  rw [← hn] at hlen ⊢
  clear hn
  go_enter Tryd.func81, Tryd.ntmps81
  go_wp2_with fail
  refine (isRune_any r _ hG).mono ?_
  rintro e w1 ⟨rfl, hb1⟩
  cases hr : runeB r with
  | false =>
    have hE : B = false := by rw [HB.out, inB_eq, hr]; rfl
    subst hE
    clear hr
    go_wp2_with fail
    go_ret
    exact ⟨rfl, hb1⟩
  | true =>
    have HE : Hid (B = lies l r) := by show B = lies l r; rw [HB.out, inB_eq, hr]; rfl
    clear hr HB
    go_wp2_with fail
    go_loopw [0] (fun v wr => ∃ (p : Option Addr) (lo m cp : Nat), v = .slice p m cp ∧ m ≤ cp ∧ cp ≤ cap ∧ lo + m ≤ n ∧ (0 < m → ∃ b off, p = some ⟨b, off + lo * 2, none⟩ ∧ ∀ i x, l[i]? = some x → SpAt w b (off + i * 2) x) ∧ Left l r lo m ∧ Below w.heap.size w wr) (fun v _ => lenV v)
    case atStart => 
      refine ⟨a, 0, n, cap, rfl, hlen, Nat.le_refl _, by omega, fun h0 => ?_, fun i x hx hi => ?_, hb1⟩
      · rcases h with h | ⟨b, off, h1, h2⟩
        · rw [HN.out, h] at h0; simp at h0
        · exact ⟨b, off, by rw [h1]; simp, h2⟩
      · have := (List.getElem?_eq_some_iff.1 hx).1
        rw [← HN.out] at this
        omega
    case round =>
      obtain ⟨p, lo, m, cp, rfl, hm, hcp, hlm, hp, hL, hbr⟩ := hrel
      clear h
      by_cases h0 : 0 < m
      · obtain ⟨b, off, rfl, hc⟩ := hp h0
        obtain ⟨k, hk⟩ : ∃ k, k = m / 2 := ⟨_, rfl⟩
        have hkm : k < m := by omega
        have hq : (m : Int) / 2 = (k : Int) := by omega
        obtain ⟨x, hx⟩ : ∃ x, l[lo + k]? = some x := ⟨_, List.getElem?_eq_getElem (by rw [← HN.out]; omega)⟩
        obtain ⟨c0, c1⟩ := (hc _ x hx).below hbr
        rw [show off + (lo + k) * 2 = off + lo * 2 + k * 2 by omega] at c0 c1
        have HX : Hid (l[lo + k]? = some x) := hx
        have HC : Hid (∀ i x, l[i]? = some x → SpAt w b (off + i * 2) x) := hc
        have HK : Hid (k = m / 2) := hk
        clear hp hc hx hk
        have hd0 : decide (0 < (m : Int)) = true := by simp; omega
        by_cases h1 : r < x.lo
        · have d1 : decide (r < x.lo) = true := decide_eq_true h1
          go_wp2_with fail
          exact ⟨⟨_, lo, k, cp, rfl, by omega, hcp, by omega, fun _ => ⟨b, off, rfl, HC.out⟩, hL.low hR HX.out h1, hbr.alloc hbr.size _⟩, by simp only [lenV]; omega⟩
        · have d1 : decide (r < x.lo) = false := decide_eq_false h1
          by_cases h2 : x.hi < r
          · have d2 : decide (x.hi < r) = true := decide_eq_true h2
            by_cases h3 : cp = k + 1
            · subst h3
              go_wp2_with fail
              refine ⟨⟨_, lo + k + 1, 0, 0, rfl, Nat.le_refl _, by omega, by omega, fun h => absurd h (by omega), ?_, hbr.alloc hbr.size _⟩, by simp only [lenV]; omega⟩
              have := hL.high hR HX.out hkm h2
              rw [show m - (k + 1) = 0 by omega] at this
              exact this
            · go_wp2_with fail
              exact ⟨⟨_, lo + k + 1, m - (k + 1), cp - (k + 1), rfl, by omega, by omega, by omega, fun _ => ⟨b, off, by rw [show off + (lo + k + 1) * 2 = off + lo * 2 + (k + 1) * 2 by omega], HC.out⟩, hL.high hR HX.out hkm h2, hbr.alloc hbr.size _⟩, by simp only [lenV]; omega⟩
          · have d2 : decide (x.hi < r) = false := decide_eq_false h2
            go_wp2_with fail
            have hE : B = true := by rw [HE.out]; exact lies_true HX.out (by omega) (by omega)
            subst hE
            go_ret
            exact ⟨rfl, hbr.alloc hbr.size _⟩
      · have hm0 : m = 0 := by omega
        subst hm0
        have hE : B = false := by rw [HE.out]; exact lies_false fun i x hx => hL i x hx (by omega)
        subst hE
        clear hp
        go_wp2_with fail
        go_ret
        exact ⟨rfl, hbr⟩
end Go.Proofs.YtlnebbciefdpoaaDoor
