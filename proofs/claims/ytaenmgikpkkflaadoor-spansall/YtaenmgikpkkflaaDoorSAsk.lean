/- SpansAsk: the walk. -/
import Derived.Test.YtaenmgikpkkflaaDoorSKnown
import Derived.Test.YtaenmgikpkkflaaDoorSRefIn
import Derived.Test.YtaenmgikpkkflaaDoorSRefSize
import Derived.Test.YtaenmgikpkkflaaDoorSRefMeet
namespace Go.Proofs.YtaenmgikpkkflaaDoor
open Go.RowKit Go.Sort Go.Joins
theorem rowV_eq (l : List Sp) : ∃ p e : Nat, rowV (rightA l) = .tuple #[.int .i64 (p : Nat), .int .i64 (e : Nat)] ∧ (e = 0 → Rgt l) :=
  ⟨_, _, rfl, rightA_zero⟩
set_option maxHeartbeats 4000000 in
theorem ask_walk (a b : Option Addr) (ca cb : Nat) (A B : List Sp) (r : Int) (w : World) (hla : A.length ≤ ca) (hca : ca ≤ 9223372036854775807) (hlb : B.length ≤ cb) (hcb : cb ≤ 9223372036854775807) (hA : SPS w a A) (hB : SPS w b B) (hG : GL w) :
    Calls Tryd.prog 5 #[.slice a A.length ca, .slice b B.length cb, .int .i32 r] w fun e w' => e = .returned (.bool true) ∧ Below w.heap.size w w' := by
  have H1 := refRight_any a ca A w (by omega) hA
  have H2 := fun (wx : World) (h : SPS wx b B) => refRight_any b cb B wx (by omega) h
  obtain ⟨pa, ea, qa, ra⟩ := rowV_eq A
  obtain ⟨pb, eb, qb, rb⟩ := rowV_eq B
  rw [qa] at H1
  rw [qb] at H2
  clear qa qb
  by_cases h1 : ea = 0
  · subst h1
    have hRa := ra rfl
    have h1 : (((0 : Nat) : Int) != 0) = false := by simp
    by_cases h2 : eb = 0
    · subst h2
      have hRb := rb rfl
      clear ra rb
      have H3 := fun (wx : World) (h1 : SPS wx a A) (h2 : SPS wx b B) (hg : GL wx) => meet_any a b ca cb A B wx (by omega) (by omega) h1 h2 hRa hRb hg
      have H4 := fun (wx : World) (h1 : SPS wx a A) (h2 : SPS wx b B) => refMeet_any a b ca cb A B wx (by omega) (by omega) h1 h2 hRa hRb
      have H5 := fun (wx : World) (h1 : SPS wx a A) (hg : GL wx) => in_any a ca A r wx hla hca h1 hRa hg
      have H6 := fun (wx : World) (h1 : SPS wx a A) => refIn_any a ca A r wx (by omega) h1
      have H7 := fun (wx : World) (h1 : SPS wx a A) (hg : GL wx) => size_any a ca A wx (by omega) h1 hRa hg
      have H8 := fun (wx : World) (h1 : SPS wx a A) => refSize_any a ca A wx (by omega) h1 hRa
      unfold meetV at H3 H4
      obtain ⟨⟨pm, vm⟩, hm⟩ : ∃ m, m = meetA A B := ⟨_, rfl⟩
      rw [← hm] at H3 H4
      obtain ⟨vi, hi⟩ : ∃ v, v = inB A r := ⟨_, rfl⟩
      rw [← hi] at H5 H6
      obtain ⟨S, hS⟩ : ∃ S, S = sizeA A := ⟨_, rfl⟩
      rw [← hS] at H7 H8
      clear hm hi hS hRa hRb
      have q1 : (vi == vi) = true := by simp
      have q2 : (S == S) = true := by simp
      have q3 : ((pm : Int) == (pm : Int)) = true := by simp
      have q4 : (vm == vm) = true := by simp
      go_enter Tryd.func5, Tryd.ntmps5
      go_wp2_with fail
      refine H1.mono ?_
      rintro e w1 ⟨rfl, hb1⟩
      have a1 := hA.below hb1
      have b1 := hB.below hb1
      have g1 := hG.below hb1
      clear hA hB hG H1
      go_wp2_with fail
      refine (H2 _ b1).mono ?_
      rintro e w2 ⟨rfl, hb2⟩
      have a2 := a1.below hb2
      have b2 := b1.below hb2
      have g2 := g1.below hb2
      have B2 := hb1.trans (hb2.mono hb1.size)
      clear a1 b1 g1 H2 hb1 hb2
      go_wp2_with fail
      refine (H3 _ a2 b2 g2).mono ?_
      rintro e w3 ⟨rfl, hb3⟩
      have a3 := a2.below hb3
      have b3 := b2.below hb3
      have g3 := g2.below hb3
      have B3 := B2.trans (hb3.mono B2.size)
      clear a2 b2 g2 H3 hb3 B2
      go_wp2_with fail
      refine (H4 _ a3 b3).mono ?_
      rintro e w4 ⟨rfl, hb4⟩
      have a4 := a3.below hb4
      have g4 := g3.below hb4
      have B4 := B3.trans (hb4.mono B3.size)
      clear a3 b3 g3 H4 hb4 B3
      go_wp2_with fail
      refine (H5 _ a4 g4).mono ?_
      rintro e w5 ⟨rfl, hb5⟩
      have a5 := a4.below hb5
      have g5 := g4.below hb5
      have B5 := B4.trans (hb5.mono B4.size)
      clear a4 g4 H5 hb5 B4
      go_wp2_with fail
      refine (H6 _ a5).mono ?_
      rintro e w6 ⟨rfl, hb6⟩
      have a6 := a5.below hb6
      have g6 := g5.below hb6
      have B6 := B5.trans (hb6.mono B5.size)
      clear a5 g5 H6 hb6 B5
      go_wp2_with fail
      refine (H7 _ a6 g6).mono ?_
      rintro e w7 ⟨rfl, hb7⟩
      have a7 := a6.below hb7
      have g7 := g6.below hb7
      have B7 := B6.trans (hb7.mono B6.size)
      clear a6 g6 H7 hb7 B6
      go_wp2_with fail
      refine (H8 _ a7).mono ?_
      rintro e w8 ⟨rfl, hb8⟩
      have g8 := g7.below hb8
      have B8 := B7.trans (hb8.mono B7.size)
      clear a7 g7 H8 hb8 B7
      go_wp2_with fail
      refine (known_any _ g8).mono ?_
      rintro e w9 ⟨rfl, hb9⟩
      go_wp2_with fail
      go_ret
      exact ⟨rfl, B8.trans (hb9.mono B8.size)⟩
    · have h2 : ((eb : Int) != 0) = true := by simp; omega
      clear ra rb
      go_enter Tryd.func5, Tryd.ntmps5
      go_wp2_with fail
      refine H1.mono ?_
      rintro e w1 ⟨rfl, hb1⟩
      have b1 := hB.below hb1
      have g1 := hG.below hb1
      go_wp2_with fail
      refine (H2 _ b1).mono ?_
      rintro e w2 ⟨rfl, hb2⟩
      have g2 := g1.below hb2
      have B2 := hb1.trans (hb2.mono hb1.size)
      clear hb1 hb2 b1 g1
      go_wp2_with fail
      refine (known_any _ g2).mono ?_
      rintro e w9 ⟨rfl, hb9⟩
      go_wp2_with fail
      go_ret
      exact ⟨rfl, B2.trans (hb9.mono B2.size)⟩
  · have h1 : ((ea : Int) != 0) = true := by simp; omega
    clear ra rb
    go_enter Tryd.func5, Tryd.ntmps5
    go_wp2_with fail
    refine H1.mono ?_
    rintro e w1 ⟨rfl, hb1⟩
    have b1 := hB.below hb1
    have g1 := hG.below hb1
    go_wp2_with fail
    refine (H2 _ b1).mono ?_
    rintro e w2 ⟨rfl, hb2⟩
    have g2 := g1.below hb2
    have B2 := hb1.trans (hb2.mono hb1.size)
    clear hb1 hb2 b1 g1
    go_wp2_with fail
    refine (known_any _ g2).mono ?_
    rintro e w9 ⟨rfl, hb9⟩
    go_wp2_with fail
    go_ret
    exact ⟨rfl, B2.trans (hb9.mono B2.size)⟩
end Go.Proofs.YtaenmgikpkkflaaDoor
