/- OctetGets: the walk. -/
import Derived.Test.YtdpgjgoahglgmaaKnown
import Derived.Test.YtdpgjgoahglgmaaRefGet
import Derived.Test.YtdpgjgoahglgmaaIntact
namespace Go.Proofs.Ytdpgjgoahglgmaa
open Go.RowKit
theorem getTextR_neg (l : List UInt8) (i most : Int) (h : most < 0) : ∃ e : Int, getTextR l i most = ([], 0, e) ∧ getTextR l i (-1) = ([], 0, e) := by
  unfold getTextR
  by_cases hg : (getR l i).2.2 ≠ 0
  · simp only [if_pos hg]; exact ⟨_, rfl, rfl⟩
  · simp only [if_neg hg]
    rw [if_pos (by omega), if_pos (by omega)]
    exact ⟨_, rfl, rfl⟩
set_option maxHeartbeats 1600000 in
theorem gets_walk (a : Option Addr) (cap : Nat) (l : List UInt8) (i most : Int) (w : World) (hlen : l.length ≤ 140737488351232) (hcap : l.length ≤ cap) (h : BS w a l)
    (hm1 : -9223372036854775808 ≤ most) (hm2 : most ≤ 9223372036854775807) :
    Calls Try.prog 5 #[.slice a l.length cap, .int .i64 i, .int .i64 most] w fun e w' => e = .returned (.bool true) ∧ Below w.heap.size w w' := by
  have H1 := roomy_any a cap l 165 w hlen h
  have H2 := fun (wx : World) (hx : BS wx (some ⟨w.heap.size, 0, none⟩) l) => get_any (some ⟨w.heap.size, 0, none⟩) (l.length + 80) l i wx (by omega) (by omega) hx
  have H3 := fun (wx : World) (hx : BS wx a l) => refget_any a cap l i wx (by omega) hx
  have H4 := fun (wx : World) (hx : BS wx (some ⟨w.heap.size, 0, none⟩) l) => gettext_any (some ⟨w.heap.size, 0, none⟩) (l.length + 80) l i most wx (by omega) (by omega) hx hm1 hm2
  have H5 := fun (m : Int) (wx : World) (hx : BS wx a l) => refgettext_any a cap l i m wx (by omega) hcap hx
  have H6 := fun (wx : World) (hf : Own wx w.heap.size (cellsOf (fillB l 165 80))) (hx : BS wx a l) => intact_any w.heap.size a cap l 165 wx hlen hf hx
  rw [show ((165 : UInt8).toNat : Int) = 165 from rfl] at H1 H6
  by_cases hneg : most < 0
  · obtain ⟨e0, ht, htn⟩ := getTextR_neg l i most hneg
    have H5 := H5 (-1)
    rw [ht] at H4
    rw [htn] at H5
    rw [show textOf [] = ⟨#[]⟩ from rfl] at H4 H5
    obtain ⟨r, hr⟩ : ∃ r, r = getR l i := ⟨_, rfl⟩
    rw [← hr] at H2 H3
    clear hr ht htn
    obtain ⟨n, to, e⟩ := r
    go_enter Try.func5, Try.ntmps5
    go_wp2_with fail
    refine H1.mono ?_; rintro e w1 ⟨rfl, hb1, ho1, hs1⟩
    have h1 := h.below hb1
    have p1 : BS w1 (some ⟨w.heap.size, 0, none⟩) l := Own.bs (by unfold fillB at ho1; exact ho1)
    go_wp2_with fail
    refine (H2 _ p1).mono ?_; rintro e2 w2 ⟨rfl, hb2⟩
    have h2 := h1.below hb2
    have p2 := p1.below hb2
    have ho2 := ho1.below hb2 hs1
    have hs2 : w.heap.size < w2.heap.size := Nat.lt_of_lt_of_le hs1 hb2.size
    go_wp2_with fail
    refine (H3 _ h2).mono ?_; rintro e3 w3 ⟨rfl, hb3⟩
    have h3 := h2.below hb3
    have p3 := p2.below hb3
    have ho3 := ho2.below hb3 hs2
    have hs3 : w.heap.size < w3.heap.size := Nat.lt_of_lt_of_le hs2 hb3.size
    go_wp2_with fail
    refine (H4 _ p3).mono ?_; rintro e4 w4 ⟨rfl, hb4⟩
    have h4 := h3.below hb4
    have ho4 := ho3.below hb4 hs3
    have hs4 : w.heap.size < w4.heap.size := Nat.lt_of_lt_of_le hs3 hb4.size
    go_wp2_with fail
    refine (H5 _ h4).mono ?_; rintro e5 w5 ⟨rfl, hb5⟩
    have h5 := h4.below hb5
    have ho5 := ho4.below hb5 hs4
    go_wp2_with fail
    refine (H6 _ ho5 h5).mono ?_; rintro e6 w6 ⟨rfl, hb6⟩
    go_wp2_with fail
    refine (known_any _).mono ?_; rintro e7 w7 ⟨rfl, hb7⟩
    go_wp2_with fail
    go_ret
    refine ⟨rfl, ?_⟩
    have s1 := hb1.size
    have s2 := hb2.size
    have s3 := hb3.size
    have s4 := hb4.size
    have s5 := hb5.size
    have s6 := hb6.size
    exact (((((hb1.trans (hb2.mono (by omega))).trans (hb3.mono (by omega))).trans (hb4.mono (by omega))).trans (hb5.mono (by omega))).trans (hb6.mono (by omega))).trans (hb7.mono (by omega))
  · have H5 := H5 most
    obtain ⟨r, hr⟩ : ∃ r, r = getR l i := ⟨_, rfl⟩
    obtain ⟨q, hq⟩ : ∃ q, q = getTextR l i most := ⟨_, rfl⟩
    rw [← hr] at H2 H3
    rw [← hq] at H4 H5
    clear hr hq
    obtain ⟨n, to, e⟩ := r
    obtain ⟨T, up, f⟩ := q
    go_enter Try.func5, Try.ntmps5
    go_wp2_with fail
    refine H1.mono ?_; rintro e w1 ⟨rfl, hb1, ho1, hs1⟩
    have h1 := h.below hb1
    have p1 : BS w1 (some ⟨w.heap.size, 0, none⟩) l := Own.bs (by unfold fillB at ho1; exact ho1)
    go_wp2_with fail
    refine (H2 _ p1).mono ?_; rintro e2 w2 ⟨rfl, hb2⟩
    have h2 := h1.below hb2
    have p2 := p1.below hb2
    have ho2 := ho1.below hb2 hs1
    have hs2 : w.heap.size < w2.heap.size := Nat.lt_of_lt_of_le hs1 hb2.size
    go_wp2_with fail
    refine (H3 _ h2).mono ?_; rintro e3 w3 ⟨rfl, hb3⟩
    have h3 := h2.below hb3
    have p3 := p2.below hb3
    have ho3 := ho2.below hb3 hs2
    have hs3 : w.heap.size < w3.heap.size := Nat.lt_of_lt_of_le hs2 hb3.size
    go_wp2_with fail
    refine (H4 _ p3).mono ?_; rintro e4 w4 ⟨rfl, hb4⟩
    have h4 := h3.below hb4
    have ho4 := ho3.below hb4 hs3
    have hs4 : w.heap.size < w4.heap.size := Nat.lt_of_lt_of_le hs3 hb4.size
    go_wp2_with fail
    refine (H5 _ h4).mono ?_; rintro e5 w5 ⟨rfl, hb5⟩
    have h5 := h4.below hb5
    have ho5 := ho4.below hb5 hs4
    go_wp2_with fail
    refine (H6 _ ho5 h5).mono ?_; rintro e6 w6 ⟨rfl, hb6⟩
    go_wp2_with fail
    refine (known_any _).mono ?_; rintro e7 w7 ⟨rfl, hb7⟩
    go_wp2_with fail
    go_ret
    refine ⟨rfl, ?_⟩
    have s1 := hb1.size
    have s2 := hb2.size
    have s3 := hb3.size
    have s4 := hb4.size
    have s5 := hb5.size
    have s6 := hb6.size
    exact (((((hb1.trans (hb2.mono (by omega))).trans (hb3.mono (by omega))).trans (hb4.mono (by omega))).trans (hb5.mono (by omega))).trans (hb6.mono (by omega))).trans (hb7.mono (by omega))
end Go.Proofs.Ytdpgjgoahglgmaa
