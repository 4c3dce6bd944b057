/- UtfHeld: the walk. -/
import Derived.Test.YthlcdaopldnocabUGoesMath
import Derived.Test.YthlcdaopldnocabUKnown
namespace Go.Proofs.Ythlcdaopldnocab
open Go.RowKit
open Go.Joins
theorem item_cells {T : TypeId} {w : World} {base : Nat} {v : Value} {A : List It} {x : It} (h : OwnI T w base v (A ++ [x])) :
    ∃ g cap, v = .slice (some ⟨g, 0, none⟩) (A.length + 1) cap ∧ A.length + 1 ≤ cap ∧ cap ≤ 9223372036854775807 ∧ ItAt w g A.length x := by
  obtain ⟨g, cap, hv, _, _, hc, hc2, hi⟩ := h.form (by simp)
  rw [List.length_append, List.length_singleton] at hv hc
  exact ⟨g, cap, hv, hc, hc2, hi A.length x (by simp)⟩
set_option maxRecDepth 100000 in
set_option maxHeartbeats 4000000 in
theorem utfheld_walk (s : ByteArray) (hs : s.size ≤ 1048576) (w : World) : Calls Try.prog 3 #[.string s] w fun e w' => e = .returned (.bool true) ∧ Below w.heap.size w w' := by
  have H1 := fun wx => tail_any s wx (by omega)
  have h3 := heldL_three (tl s)
  have hg := goes_on (tl s)
  rw [tail_held] at H1
  rw [tl_len] at h3
  have HG : (heldL (tl s)).length ≠ 0 → Hid (∃ c : Nat, 128 ≤ c ∧ c < 192 ∧
    (tailL (tl s ++ [UInt8.ofNat c]) = (heldL (tl s)).length + 1 ∨ (tailL (tl s ++ [UInt8.ofNat c]) = 0 ∧ ∃ A x, items 0 (tl s ++ [UInt8.ofNat c]) = A ++ [x] ∧ x.bad = false ∧ x.bytes = (heldL (tl s)).length + 1))) := fun h => hg (fun e => h (by rw [e]; rfl))
  clear hg
  obtain ⟨h31, h32⟩ := h3
  generalize (heldL (tl s)).length = n at *
  go_enter Try.func3, Try.ntmps3
  go_wp2_with fail
  refine (H1 _).mono ?_; rintro e w1 ⟨rfl, he⟩
  obtain rfl := he.symm
  clear H1
  have d1 : decide (s.size < n) = false := by simp; omega
  have d2 : decide ((n : Int) < 0) = false := by simp
  have d3 : decide (3 < (n : Int)) = false := by simp; omega
  by_cases hn : n = 0
  · subst hn
    clear HG
    go_wp2_with fail
    refine (known_any _).mono ?_; rintro e w9 ⟨rfl, hb9⟩
    go_wp2_with fail
    go_ret
    exact ⟨rfl, hb9⟩
  · have hn0 : ((n : Int) == 0) = false := by simp; omega
    obtain ⟨cs, hc1, hc2, hcs⟩ := (HG hn).out
    have HC : Hid (tailL (tl s ++ [UInt8.ofNat cs]) = n + 1 ∨ (tailL (tl s ++ [UInt8.ofNat cs]) = 0 ∧ ∃ A x, items 0 (tl s ++ [UInt8.ofNat cs]) = A ++ [x] ∧ x.bad = false ∧ x.bytes = n + 1)) := hcs
    clear HG hcs
    go_wp2_with fail
    go_loopw [4, 5] (fun met c wr => ∃ (m : Bool) (k : Nat), met = .bool m ∧ c = .int .i64 (k : Nat) ∧ 128 ≤ k ∧ k ≤ 192 ∧ (cs < k → m = true) ∧ Below w.heap.size w wr) (fun _ c _ => 192 - (intOf c).toNat)
    case atStart => exact ⟨false, 128, rfl, rfl, by omega, by omega, by omega, Below.refl _ _⟩
    case round =>
      obtain ⟨m, k, rfl, rfl, hk1, hk2, hm, hB⟩ := hrel
      by_cases hlt : k < 192
      · have hcv := text_bytes (P := Try.prog) 24 5 9 Try.underlying24 Try.underlying5 Try.underlying9 wr.heap.size 0 1 [UInt8.ofNat k] (wr.alloc (.cells #[.int .u8 k] 5)) (fun j hj => by
          obtain rfl : j = 0 := by simpa using hj
          rw [cell_of_block (World.alloc_heap_new wr _)]
          simp
          omega)
        have hB1 := hB.alloc hB.size (.cells #[.int .u8 k] 5)
        rw [List.length_singleton] at hcv
        obtain ⟨t1, ht1⟩ : ∃ t1, t1 = textOf [UInt8.ofNat k] := ⟨_, rfl⟩
        rw [← ht1] at hcv
        have hts : t1.size ≤ 1 := by rw [ht1]; exact Nat.le_refl 1
        obtain ⟨x, hx⟩ : ∃ x, x = s ++ t1 := ⟨_, rfl⟩
        have hxt : tl x = tl s ++ [UInt8.ofNat k] := by rw [hx, ht1]; simp [tl, textOf]
        clear ht1
        have hxs : x.size ≤ 1048577 := by rw [← tl_len, hxt, List.length_append, tl_len]; simp; omega
        have HL := fun wx => list_any x (by omega) wx
        have HT := fun wx => tail_any x wx (by omega)
        rw [hxt] at HL HT
        have hne : items 0 (tl s ++ [UInt8.ofNat k]) ≠ [] := fun e => by
          rw [items_cons _ _ (by simp)] at e
          cases e
        obtain ⟨A, y, hAy⟩ : ∃ A y, items 0 (tl s ++ [UInt8.ofNat k]) = A ++ [y] := ⟨_, _, (List.dropLast_concat_getLast hne).symm⟩
        have hAl := items_length (tl s ++ [UInt8.ofNat k]) 0
        rw [hAy] at HL hAl
        simp only [List.length_append, List.length_singleton, tl_len] at hAl
        have HK : Hid (k = cs → tailL (tl s ++ [UInt8.ofNat k]) = n + 1 ∨ (tailL (tl s ++ [UInt8.ofNat k]) = 0 ∧ y.bad = false ∧ y.bytes = n + 1)) := fun e => by
          subst e
          rcases HC.out with h | ⟨h1, A', x', h2, h3, h4⟩
          · exact .inl h
          · rw [hAy] at h2
            have h5 : y = x' := by
              have := congrArg List.getLast? h2
              simpa using this
            rw [h5]
            exact .inr ⟨h1, h3, h4⟩
        generalize tailL (tl s ++ [UInt8.ofNat k]) = T at *
        clear hne hAy hxt
        have HX : Hid (x = s ++ t1) := hx
        obtain ⟨W1, hW1⟩ : ∃ W1, W1 = wr.alloc (.cells #[.int .u8 k] 5) := ⟨_, rfl⟩
        rw [← hW1] at hB1
        go_wp2_with fail
        rw [← HX.out, ← hW1]
        clear hcv HX hW1 hx
        refine (HL _).mono ?_; rintro e w2 ⟨v2, rfl, o2, b2⟩
        obtain ⟨g, cap, rfl, hc1, hc2, i0, i1, i2, i3⟩ := item_cells o2
        have hB2 := hB1.trans (b2.mono hB1.size)
        clear HL o2 b2 hB1
        cases m with
        | true =>
          go_wp2_with fail
          go_roundw
          case rel => exact ⟨true, k + 1, rfl, by go_num, by omega, by omega, fun _ => rfl, hB2⟩
          case measure => simp [intOf]; omega
        | false =>
          by_cases hT : T = n + 1
          · have q1 : ((T : Int) == (n : Int) + 1) = true := by simp; omega
            go_wp2_with fail
            refine (HT _).mono ?_; rintro e w3 ⟨rfl, he⟩
            obtain rfl := he.symm
            go_wp2_with fail
            go_roundw
            case rel => exact ⟨true, k + 1, rfl, by go_num, by omega, by omega, fun _ => rfl, hB2⟩
            case measure => simp [intOf]; omega
          · have q1 : ((T : Int) == (n : Int) + 1) = false := by simp; omega
            by_cases hT0 : T = 0
            · have q2 : ((T : Int) == 0) = true := by simp; omega
              by_cases hyb : y.bad = false ∧ y.bytes = n + 1
              · obtain ⟨hy1, hy2⟩ := hyb
                rw [hy1] at i3
                have q3 : ((y.bytes : Int) == (n : Int) + 1) = true := by simp; omega
                go_wp2_with fail
                refine (HT _).mono ?_; rintro e w3 ⟨rfl, he⟩
                obtain rfl := he.symm
                go_wp2_with fail
                refine (HT _).mono ?_; rintro e w3 ⟨rfl, he⟩
                obtain rfl := he.symm
                go_wp2_with fail
                go_roundw
                case rel => exact ⟨true, k + 1, rfl, by go_num, by omega, by omega, fun _ => rfl, hB2⟩
                case measure => simp [intOf]; omega
              · have hkc : k ≠ cs := fun e => by
                  rcases HK.out e with h | ⟨_, h⟩
                  · exact hT h
                  · exact hyb h
                cases hyd : y.bad with
                | true =>
                  rw [hyd] at i3
                  go_wp2_with fail
                  refine (HT _).mono ?_; rintro e w3 ⟨rfl, he⟩
                  obtain rfl := he.symm
                  go_wp2_with fail
                  refine (HT _).mono ?_; rintro e w3 ⟨rfl, he⟩
                  obtain rfl := he.symm
                  go_wp2_with fail
                  go_roundw
                  case rel => exact ⟨false, k + 1, rfl, by go_num, by omega, by omega, fun h => hm (by omega), hB2⟩
                  case measure => simp [intOf]; omega
                | false =>
                  rw [hyd] at i3
                  have q3 : ((y.bytes : Int) == (n : Int) + 1) = false := by
                    have : y.bytes ≠ n + 1 := fun e => hyb ⟨hyd, e⟩
                    simp; omega
                  go_wp2_with fail
                  refine (HT _).mono ?_; rintro e w3 ⟨rfl, he⟩
                  obtain rfl := he.symm
                  go_wp2_with fail
                  refine (HT _).mono ?_; rintro e w3 ⟨rfl, he⟩
                  obtain rfl := he.symm
                  go_wp2_with fail
                  go_roundw
                  case rel => exact ⟨false, k + 1, rfl, by go_num, by omega, by omega, fun h => hm (by omega), hB2⟩
                  case measure => simp [intOf]; omega
            · have q2 : ((T : Int) == 0) = false := by simp; omega
              have hkc : k ≠ cs := fun e => by
                rcases HK.out e with h | ⟨h, _⟩
                · exact hT h
                · exact hT0 h
              go_wp2_with fail
              refine (HT _).mono ?_; rintro e w3 ⟨rfl, he⟩
              obtain rfl := he.symm
              go_wp2_with fail
              refine (HT _).mono ?_; rintro e w3 ⟨rfl, he⟩
              obtain rfl := he.symm
              go_wp2_with fail
              go_roundw
              case rel => exact ⟨false, k + 1, rfl, by go_num, by omega, by omega, fun h => hm (by omega), hB2⟩
              case measure => simp [intOf]; omega
      · obtain rfl : k = 192 := by omega
        obtain rfl := hm hc2
        go_wp2_with fail
        refine (known_any _).mono ?_; rintro e w9 ⟨rfl, hb9⟩
        go_wp2_with fail
        go_ret
        exact ⟨rfl, hB.trans (hb9.mono hB.size)⟩
end Go.Proofs.Ythlcdaopldnocab
