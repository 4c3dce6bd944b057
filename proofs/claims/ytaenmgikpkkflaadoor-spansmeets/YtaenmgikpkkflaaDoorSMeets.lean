/- SpansMeets: the walk. -/
import Derived.Test.YtaenmgikpkkflaaDoorSAsk
import Derived.Test.YtaenmgikpkkflaaDoorSOpen
namespace Go.Proofs.YtaenmgikpkkflaaDoor
open Go.RowKit Go.Sort Go.Joins
set_option maxHeartbeats 4000000 in
theorem meets_walk (a b c : Option Addr) (ca cb cc : Nat) (A B : List Sp) (L : List Int) (w : World) (hla : A.length ≤ ca) (hca : ca ≤ 9223372036854775807) (hlb : B.length ≤ cb) (hcb : cb ≤ 9223372036854775807) (hlc : L.length ≤ 9223372036854775807) (hA : SPS w a A) (hB : SPS w b B) (hL : RNS w c L) (hG : GL w) :
    Calls Tryd.prog 7 #[.slice a A.length ca, .slice b B.length cb, .slice c L.length cc] w fun e w' => e = .returned (.bool true) ∧ Below w.heap.size w w' := by
  have H1 := refRight_any a ca A w (by omega) hA
  have H2 := fun (wx : World) (h : SPS wx b B) => refRight_any b cb B wx (by omega) h
  obtain ⟨pa, ea, qa, ra⟩ := rowV_eq A
  obtain ⟨pb, eb, qb, rb⟩ := rowV_eq B
  rw [qa] at H1
  rw [qb] at H2
  clear qa qb
  by_cases h1 : ea = 0
  · subst h1
    have hRa := ra rfl
    have h1 : (((0 : Nat) : Int) != 0) = false := by simp
    by_cases h2 : eb = 0
    · subst h2
      have hRb := rb rfl
      clear ra rb
      have H3 := fun (wx : World) (h1 : SPS wx a A) (h2 : SPS wx b B) (hg : GL wx) => meet_any a b ca cb A B wx (by omega) (by omega) h1 h2 hRa hRb hg
      have H4 := fun (wx : World) (h1 : SPS wx b B) (h2 : SPS wx a A) (hg : GL wx) => meet_any b a cb ca B A wx (by omega) (by omega) h1 h2 hRb hRa hg
      have H5 := fun (r : Int) (wx : World) (h1 : SPS wx a A) (hg : GL wx) => in_any a ca A r wx hla hca h1 hRa hg
      have H6 := fun (r : Int) (wx : World) (h1 : SPS wx b B) (hg : GL wx) => in_any b cb B r wx hlb hcb h1 hRb hg
      have hsame := meetA_comm A B
      have hwit : ∀ r, inB A r = true → inB B r = true → (meetA A B).2 = true := fun r h1 h2 => meet_of_in h1 h2
      unfold meetV at H3 H4
      obtain ⟨⟨pm, vm⟩, hm⟩ : ∃ m, m = meetA A B := ⟨_, rfl⟩
      rw [← hm] at H3 hsame hwit
      obtain ⟨⟨pn, vn⟩, hn⟩ : ∃ m, m = meetA B A := ⟨_, rfl⟩
      rw [← hn] at H4 hsame
      simp only at hsame hwit
      subst hsame
      clear hm hn hRa hRb
      have q4 : (vm == vm) = true := by simp
      obtain ⟨n, hn⟩ : ∃ n, n = L.length := ⟨_, rfl⟩
      have HN : Hid (n = L.length) := hn
      rw [← hn] at hlc ⊢
      clear hn
      go_enter Tryd.func7, Tryd.ntmps7
      go_wp2_with fail
      refine H1.mono ?_
      rintro e w1 ⟨rfl, hb1⟩
      have a1 := hA.below hb1
      have b1 := hB.below hb1
      have g1 := hG.below hb1
      have l1 := hL.below hb1
      clear hA hB hG H1 hL
      go_wp2_with fail
      refine (H2 _ b1).mono ?_
      rintro e w2 ⟨rfl, hb2⟩
      have a2 := a1.below hb2
      have b2 := b1.below hb2
      have g2 := g1.below hb2
      have l2 := l1.below hb2
      have B2 := hb1.trans (hb2.mono hb1.size)
      clear a1 b1 g1 H2 hb1 hb2 l1
      go_wp2_with fail
      refine (H3 _ a2 b2 g2).mono ?_
      rintro e w3 ⟨rfl, hb3⟩
      have a3 := a2.below hb3
      have b3 := b2.below hb3
      have g3 := g2.below hb3
      have l3 := l2.below hb3
      have B3 := B2.trans (hb3.mono B2.size)
      clear a2 b2 g2 H3 hb3 B2 l2
      go_wp2_with fail
      refine (H4 _ b3 a3 g3).mono ?_
      rintro e w4 ⟨rfl, hb4⟩
      have a4 := a3.below hb4
      have b4 := b3.below hb4
      have g4 := g3.below hb4
      have l4 := l3.below hb4
      have B4 := B3.trans (hb4.mono B3.size)
      clear a3 b3 g3 H4 hb4 B3 l3
      go_wp2_with fail
      go_loopw [15] (fun i wr => ∃ k : Nat, k ≤ n ∧ i = .int .i64 k ∧ Below w.heap.size w wr ∧ Below w4.heap.size w4 wr) (fun i _ => n - (intOf i).toNat)
      case atStart => exact ⟨0, Nat.zero_le _, rfl, B4, Below.refl _ _⟩
      case round =>
        obtain ⟨k, hk, rfl, hbr, hb4⟩ := hrel
        have a5 := a4.below hb4
        have b5 := b4.below hb4
        have g5 := g4.below hb4
        by_cases hlt : k < n
        · rcases l4 with h | ⟨bl, ol, rfl, hl⟩
          · have := HN.out; rw [h] at this; simp at this; omega
          obtain ⟨r, hr⟩ : ∃ r, L[k]? = some r := ⟨_, List.getElem?_eq_getElem (by rw [← HN.out]; exact hlt)⟩
          have c5 := (hb4.cell (World.block_lt_of_cell? w4 _ (hl k r hr))).trans (hl k r hr)
          clear hl hr a4 b4 g4
          have H5 := H5 r
          have H6 := H6 r
          have hw := hwit r
          obtain ⟨u, hu⟩ : ∃ u, u = inB A r := ⟨_, rfl⟩
          obtain ⟨v, hv⟩ : ∃ v, v = inB B r := ⟨_, rfl⟩
          rw [← hu] at H5 hw
          rw [← hv] at H6 hw
          have HW : Hid (u = true → v = true → vm = true) := hw
          clear hu hv hwit hw
          go_wp2_with fail
          refine (H5 _ a5 g5).mono ?_
          rintro e w5 ⟨rfl, hb5⟩
          have b6 := b5.below hb5
          have g6 := g5.below hb5
          have B6 := hbr.trans (hb5.mono hbr.size)
          have D6 := hb4.trans (hb5.mono hb4.size)
          have c6 := (hb5.cell (World.block_lt_of_cell? _ _ c5)).trans c5
          clear a5 b5 g5 c5 H5 hb5 hbr hb4
          cases u with
          | false =>
            clear HW
            go_wp2_with fail
            exact ⟨⟨k + 1, by omega, by go_num, B6, D6⟩, by simp only [intOf]; omega⟩
          | true =>
            go_wp2_with fail
            refine (H6 _ b6 g6).mono ?_
            rintro e w7 ⟨rfl, hb7⟩
            have B7 := B6.trans (hb7.mono B6.size)
            have D7 := D6.trans (hb7.mono D6.size)
            clear H6 b6 g6 c6 hb7 B6 D6
            cases v with
            | false =>
              clear HW
              go_wp2_with fail
              exact ⟨⟨k + 1, by omega, by go_num, B7, D7⟩, by simp only [intOf]; omega⟩
            | true =>
              have hvm : vm = true := by have := HW.out; simpa using this
              subst hvm
              clear HW
              go_wp2_with fail
              exact ⟨⟨k + 1, by omega, by go_num, B7, D7⟩, by simp only [intOf]; omega⟩
        · have hkn : k = n := by omega
          subst hkn
          clear hwit l4 a4 b4 g4 a5 b5
          go_wp2_with fail
          refine (known_any _ g5).mono ?_
          rintro e w9 ⟨rfl, hb9⟩
          go_wp2_with fail
          go_ret
          exact ⟨rfl, hbr.trans (hb9.mono hbr.size)⟩
    · have h2 : ((eb : Int) != 0) = true := by simp; omega
      clear ra rb
      go_enter Tryd.func7, Tryd.ntmps7
      go_wp2_with fail
      refine H1.mono ?_
      rintro e w1 ⟨rfl, hb1⟩
      have b1 := hB.below hb1
      have g1 := hG.below hb1
      go_wp2_with fail
      refine (H2 _ b1).mono ?_
      rintro e w2 ⟨rfl, hb2⟩
      have g2 := g1.below hb2
      have B2 := hb1.trans (hb2.mono hb1.size)
      clear hb1 hb2 b1 g1
      go_wp2_with fail
      refine (known_any _ g2).mono ?_
      rintro e w9 ⟨rfl, hb9⟩
      go_wp2_with fail
      go_ret
      exact ⟨rfl, B2.trans (hb9.mono B2.size)⟩
  · have h1 : ((ea : Int) != 0) = true := by simp; omega
    clear ra rb
    go_enter Tryd.func7, Tryd.ntmps7
    go_wp2_with fail
    refine H1.mono ?_
    rintro e w1 ⟨rfl, hb1⟩
    have b1 := hB.below hb1
    have g1 := hG.below hb1
    go_wp2_with fail
    refine (H2 _ b1).mono ?_
    rintro e w2 ⟨rfl, hb2⟩
    have g2 := g1.below hb2
    have B2 := hb1.trans (hb2.mono hb1.size)
    clear hb1 hb2 b1 g1
    go_wp2_with fail
    refine (known_any _ g2).mono ?_
    rintro e w9 ⟨rfl, hb9⟩
    go_wp2_with fail
    go_ret
    exact ⟨rfl, B2.trans (hb9.mono B2.size)⟩
end Go.Proofs.YtaenmgikpkkflaaDoor
