/- ChainBoth: the walk. -/
import Derived.Test.YtlmbkhpbfmkmjaaCHOpen
namespace Go.Proofs.Ytlmbkhpbfmkmjaa.CH
open Go.RowKit Go.Joins Go.Sort
set_option linter.unusedVariables false
set_option linter.unusedSimpArgs false
set_option maxRecDepth 100000
theorem ret_i64 {a b : Int} (h : a = b) : Ending.returned (.int .i64 a) = .returned (.int .i64 b) := by rw [h]
/-- A number brought between lo and hi. -/
theorem within_any (n : Int) (lo hi : Nat) (h : lo ≤ hi) (hh : hi ≤ 4294967296) (w : World) :
    Calls Try.prog 13 #[.int .i64 n, .int .i64 (lo : Nat), .int .i64 (hi : Nat)] w fun e w' => ∃ k : Nat, lo ≤ k ∧ k ≤ hi ∧ e = .returned (.int .i64 k) ∧ w' = w := by
  have h1 : ((hi : Int) - lo + 1 == 0) = false := by simp; omega
  have t1 : n.tmod ((hi : Int) - lo + 1) < (hi : Int) - lo + 1 := Int.tmod_lt_of_pos _ (by omega)
  have t2 : -((hi : Int) - lo + 1) < n.tmod ((hi : Int) - lo + 1) := by
    have := Int.lt_tmod_of_pos n (b := (hi : Int) - lo + 1) (by omega)
    omega
  by_cases hp : n.tmod ((hi : Int) - lo + 1) < 0
  · go_enter Try.func13, Try.ntmps13
    go_wp2
    go_ret
    exact ⟨(lo + (n.tmod ((hi : Int) - lo + 1) + hi - lo + 1)).toNat, by omega, by omega, ret_i64 (by omega), rfl⟩
  · have hp' : 0 ≤ n.tmod ((hi : Int) - lo + 1) := by omega
    clear hp
    go_enter Try.func13, Try.ntmps13
    go_wp2
    go_ret
    exact ⟨(lo + n.tmod ((hi : Int) - lo + 1)).toNat, by omega, by omega, ret_i64 (by omega), rfl⟩
theorem INS.at_ {w : World} {a : Option Addr} {l : List Int} (h : INS w a l) {i : Nat} {r : Int} (hr : l[i]? = some r) : ∃ b off, a = some ⟨b, off, none⟩ ∧ w.cell? ⟨b, off + i, none⟩ = some (.int .i64 r) := by
  rcases h with rfl | ⟨b, off, rfl, hc⟩
  · simp at hr
  · exact ⟨b, off, rfl, hc i r hr⟩
theorem INS.below {w w' : World} {a : Option Addr} {l : List Int} (h : INS w a l) (hb : Below w.heap.size w w') : INS w' a l := by
  rcases h with h | ⟨b, off, rfl, hc⟩
  · exact .inl h
  · exact .inr ⟨b, off, rfl, fun i r hr => (hb.cell (World.block_lt_of_cell? w _ (hc i r hr))).trans (hc i r hr)⟩
theorem clamp_mid {i : Nat} (h : i ≤ 200) : (if ((i : Nat) : Int) < 0 then 0 else ((i : Nat) : Int)) = (i : Nat) ∧ (if (1048576 : Int) < (i : Nat) then 1048576 else ((i : Nat) : Int)) = (i : Nat) := by
  constructor
  · rw [if_neg (by omega)]
  · rw [if_neg (by omega)]
/-- Behind a number that was cut out its neighbours stand side by side. -/
theorem cut_next {inn : Nat → Bool} {n k : Nat} (hk : k < n) (hin : inn k = true) (h : 0 ≤ prevA inn n (k : Nat)) : nextA (cutP inn k) n (prevA inn n (k : Nat)) = nextA inn n (k : Nat) := by
  have e1 : prevA inn n (k : Nat) = numF n (dnG inn n k) := by unfold prevA; rw [has_in hk hin]; rfl
  have e2 : nextA inn n (k : Nat) = numF n (nxF inn n k) := by unfold nextA; rw [has_in hk hin]; rfl
  rw [e1] at h
  rw [e1, e2]
  unfold numF at h
  have hle := dn_le (inn := inn) (n := n) (i := k) (by omega)
  split at h
  · omega
  · rename_i hne
    have hlt : dnG inn n k < n := by omega
    have hi := dn_in (inn := inn) (n := n) (i := k) (by omega) hlt
    have hk2 : dnG inn n k ≠ k := by rcases dn_spec inn n k with ⟨h1, _⟩ | ⟨h1, _⟩ <;> omega
    have hc : cutP inn k (dnG inn n k) = true := by unfold cutP; rw [if_neg hk2]; exact hi
    rw [show numF n (dnG inn n k) = ((dnG inn n k : Nat) : Int) from if_neg hne]
    unfold nextA
    rw [has_in hlt hc, if_pos rfl, Int.toNat_natCast, nx_cut hk hin (by omega) (.inr hi) hk2, if_pos rfl]
theorem cut_prev {inn : Nat → Bool} {n k : Nat} (hk : k < n) (hin : inn k = true) (h : 0 ≤ nextA inn n (k : Nat)) : prevA (cutP inn k) n (nextA inn n (k : Nat)) = prevA inn n (k : Nat) := by
  have e1 : prevA inn n (k : Nat) = numF n (dnG inn n k) := by unfold prevA; rw [has_in hk hin]; rfl
  have e2 : nextA inn n (k : Nat) = numF n (nxF inn n k) := by unfold nextA; rw [has_in hk hin]; rfl
  rw [e2] at h
  rw [e1, e2]
  unfold numF at h
  have hle := nx_le (inn := inn) (n := n) (i := k) (by omega)
  split at h
  · omega
  · rename_i hne
    have hlt : nxF inn n k < n := by omega
    have hi := nx_in (inn := inn) (n := n) (i := k) (by omega) hlt
    have hk2 : nxF inn n k ≠ k := by
      have := (up_spec inn (n - (k + 1)) (k + 1)).1
      unfold nxF
      rw [if_neg (by omega)]
      omega
    have hc : cutP inn k (nxF inn n k) = true := by unfold cutP; rw [if_neg hk2]; exact hi
    rw [show numF n (nxF inn n k) = ((nxF inn n k : Nat) : Int) from if_neg hne]
    unfold prevA
    rw [has_in hlt hc, if_pos rfl, Int.toNat_natCast, dn_cut hk hin (by omega) (.inr hi) hk2, if_pos rfl]
theorem num_ge (n i : Nat) : -1 ≤ numF n (i : Nat) := by unfold numF; split <;> omega
theorem has_no {inn : Nat → Bool} {n k : Nat} (hk : k < n) (h : hasB inn n (k : Nat) = false) : inn k = false := by
  cases hi : inn k with
  | false => rfl
  | true => rw [has_in hk hi] at h; cases h
theorem has_yes {inn : Nat → Bool} {n k : Nat} (h : hasB inn n (k : Nat) = true) : inn k = true := by
  simp only [hasB, Bool.and_eq_true] at h
  exact h.2
set_option maxHeartbeats 4000000 in
theorem both_walk (n0 : Int) (a : Option Addr) (cap : Nat) (l : List Int) (w : World) (hlen : l.length ≤ 9223372036854775807) (hin : INS w a l) :
    Calls Try.prog 5 #[.int .i64 n0, .slice a l.length cap] w fun e w' => e = .returned (.bool true) ∧ Below w.heap.size w w' := by
  have HW := within_any n0 1 200 (by omega) (by omega) w
  have e1 : (((1 : Nat) : Int)) = 1 := rfl
  have e2 : (((200 : Nat) : Int)) = 200 := rfl
  rw [e1, e2] at HW
  clear e1 e2
  obtain ⟨m, hm⟩ : ∃ m, m = l.length := ⟨_, rfl⟩
  have HM : Hid (m = l.length) := hm
  rw [← hm] at hlen ⊢
  clear hm
  go_enter Try.func5, Try.ntmps5
  go_wp2_with fail
  refine HW.mono ?_
  rintro e w1 ⟨n, hn1, hn2, rfl, he⟩
  obtain rfl := he.symm
  clear HW
  have HN := new_any (n : Nat) (n : Nat) n w (clamp_mid hn2).1 (clamp_mid hn2).2 (by omega)
  go_wp2_with fail
  refine HN.mono ?_
  rintro e w1 ⟨g, b, rfl, hg, hb, hC, B1⟩
  clear HN
  go_wp2_with fail
  go_loopw [6] (fun v wr => ∃ (k : Nat) (inn : Nat → Bool) (cnt : Nat), k ≤ m ∧ v = .int .i64 (k : Nat) ∧ Ch wr g b n inn (cnt : Nat) ∧ cnt = cntG inn n ∧ Below w.heap.size w wr) (fun v _ => m - (intOf v).toNat)
  case atStart => exact ⟨0, _, n, by omega, rfl, hC, (cnt_all (Nat.le_refl n)).symm, B1⟩
  case round =>
    clear hC B1
    obtain ⟨k, inn, cnt, hk, rfl, hC, hcnt, hB⟩ := hrel
    have HCN : Hid (cnt = cntG inn n) := hcnt
    clear hcnt
    by_cases hend : k < m ∧ k < 300
    · obtain ⟨hkm, hk3⟩ := hend
      have d0 : decide ((k : Int) < (m : Int)) = true := decide_eq_true (by omega)
      have d1 : decide ((k : Int) < 300) = true := decide_eq_true (by omega)
      have d2 : decide (k < m) = true := decide_eq_true (by omega)
      obtain ⟨x, hx⟩ : ∃ x, l[k]? = some x := ⟨_, List.getElem?_eq_getElem (by rw [← HM.out]; exact hkm)⟩
      obtain ⟨bb, off, rfl, hcell⟩ := (hin.below hB).at_ hx
      have HX : Hid (l[k]? = some x) := hx
      clear hx
      have ik : 0 ≤ (k : Int) ∧ (k : Int) < (m : Int) := by omega
      have HW := within_any x 0 (n - 1) (by omega) (by omega) wr
      have e1 : (((0 : Nat) : Int)) = 0 := rfl
      have e2 : (((n - 1 : Nat) : Int)) = (n : Int) - 1 := by omega
      rw [e1, e2] at HW
      clear e1 e2
      go_wp2_with fail
      refine HW.mono ?_
      rintro e w1 ⟨c, hc1, hc2, rfl, he⟩
      obtain rfl := he.symm
      clear HW
      have hcn : c < n := by omega
      have HP := prev_any g b n inn cnt (c : Nat) wr hC
      have HNx := next_any g b n inn cnt (c : Nat) wr hC
      have HH := has_any g b n inn cnt (c : Nat) wr hC
      have hge1 : -1 ≤ prevA inn n (c : Nat) := by unfold prevA; split; exact num_ge _ _; omega
      have hge2 : -1 ≤ nextA inn n (c : Nat) := by unfold nextA; split; exact num_ge _ _; omega
      have hcp := fun h : inn c = true => cut_next hcn h
      have hcq := fun h : inn c = true => cut_prev hcn h
      obtain ⟨ap, hap⟩ : ∃ ap, ap = prevA inn n (c : Nat) := ⟨_, rfl⟩
      obtain ⟨aq, haq⟩ : ∃ aq, aq = nextA inn n (c : Nat) := ⟨_, rfl⟩
      rw [← hap] at HP hge1 hcp hcq
      rw [← haq] at HNx hge2 hcp hcq
      have HCP : Hid (inn c = true → 0 ≤ ap → nextA (cutP inn c) n ap = aq) := hcp
      have HCQ : Hid (inn c = true → 0 ≤ aq → prevA (cutP inn c) n aq = ap) := hcq
      clear hap haq hcp hcq
      go_wp2_with fail
      refine HP.mono ?_
      rintro e w1 ⟨rfl, he⟩
      obtain rfl := he.symm
      clear HP
      go_wp2_with fail
      refine HNx.mono ?_
      rintro e w1 ⟨rfl, he⟩
      obtain rfl := he.symm
      clear HNx
      obtain ⟨t, ht⟩ : ∃ t, t = hasB inn n (c : Nat) := ⟨_, rfl⟩
      rw [← ht] at HH
      cases t with
      | false =>
        clear ht
        go_wp2_with fail
        refine HH.mono ?_
        rintro e w1 ⟨rfl, he⟩
        obtain rfl := he.symm
        clear HH
        go_wp2_with fail
        go_roundw
        case rel => exact ⟨k + 1, inn, cnt, by omega, by go_num, hC, HCN.out, hB⟩
        case measure => simp [intOf]; omega
      | true =>
        have hin2 := has_yes ht.symm
        have hcc := cnt_cut inn hin2 n
        rw [if_pos hcn] at hcc
        have hcle : cntG inn n ≤ 1048576 := by
          have := all_cnt inn n
          have := all_len inn n 0
          omega
        have HCU := cut_yes g b n inn (cnt : Nat) c wr hC hcn hin2 (by have := HCN.out; omega)
        have HCC : Hid (cntG (cutP inn c) n + 1 = cntG inn n) := hcc
        have hcpp := HCP.out hin2
        have hcqq := HCQ.out hin2
        clear hcc hcle HCP HCQ ht
        go_wp2_with fail
        refine HH.mono ?_
        rintro e w1 ⟨rfl, he⟩
        obtain rfl := he.symm
        clear HH
        go_wp2_with fail
        refine HCU.mono ?_
        rintro e w2 ⟨rfl, hC2, t2⟩
        clear HCU
        have B2 := hB.trans (t2.below hg hb hB.size)
        have hc1' : 1 ≤ cnt := by have := HCN.out; have := HCC.out; omega
        rw [show ((cnt : Nat) : Int) - 1 = ((cnt - 1 : Nat) : Int) by omega] at hC2
        have HC1 : Hid (1 ≤ cnt) := hc1'
        have HC1' : Hid (cnt - 1 = cntG (cutP inn c) n) := (by have := HCN.out; have := HCC.out; show cnt - 1 = _; omega)
        clear t2 hc1'
        have H1 := next_any g b n _ _ ap w2 hC2
        have H2 := prev_any g b n _ _ aq w2 hC2
        have hpp : 0 ≤ ap → (nextA (cutP inn c) n ap != aq) = false := fun h => by rw [hcpp h]; simp
        have hqq : 0 ≤ aq → (prevA (cutP inn c) n aq != ap) = false := fun h => by rw [hcqq h]; simp
        clear hcpp hcqq
        obtain ⟨v1, hv1⟩ : ∃ v1, v1 = nextA (cutP inn c) n ap := ⟨_, rfl⟩
        obtain ⟨v2, hv2⟩ : ∃ v2, v2 = prevA (cutP inn c) n aq := ⟨_, rfl⟩
        rw [← hv1] at H1 hpp
        rw [← hv2] at H2 hqq
        clear hv1 hv2
        by_cases ha0 : 0 ≤ ap
        · have da : decide (0 ≤ ap) = true := decide_eq_true ha0
          have hpp := hpp ha0
          clear ha0
          by_cases hq0 : 0 ≤ aq
          · have dq : decide (0 ≤ aq) = true := decide_eq_true hq0
            have hqq := hqq hq0
            clear hq0
            go_wp2_with fail
            refine H1.mono ?_
            rintro e w3 ⟨rfl, he⟩
            obtain rfl := he.symm
            go_wp2_with fail
            refine H2.mono ?_
            rintro e w3 ⟨rfl, he⟩
            obtain rfl := he.symm
            go_wp2_with fail
            go_roundw
            case rel => exact ⟨k + 1, _, cnt - 1, by omega, by go_num, hC2, HC1'.out, B2⟩
            case measure => simp [intOf]; omega
          · have dq : decide (0 ≤ aq) = false := decide_eq_false hq0
            clear hq0 hqq
            go_wp2_with fail
            refine H1.mono ?_
            rintro e w3 ⟨rfl, he⟩
            obtain rfl := he.symm
            go_wp2_with fail
            go_roundw
            case rel => exact ⟨k + 1, _, cnt - 1, by omega, by go_num, hC2, HC1'.out, B2⟩
            case measure => simp [intOf]; omega
        · have da : decide (0 ≤ ap) = false := decide_eq_false ha0
          clear ha0 hpp
          by_cases hq0 : 0 ≤ aq
          · have dq : decide (0 ≤ aq) = true := decide_eq_true hq0
            have hqq := hqq hq0
            clear hq0
            go_wp2_with fail
            refine H2.mono ?_
            rintro e w3 ⟨rfl, he⟩
            obtain rfl := he.symm
            go_wp2_with fail
            go_roundw
            case rel => exact ⟨k + 1, _, cnt - 1, by omega, by go_num, hC2, HC1'.out, B2⟩
            case measure => simp [intOf]; omega
          · have dq : decide (0 ≤ aq) = false := decide_eq_false hq0
            clear hq0 hqq
            go_wp2_with fail
            go_roundw
            case rel => exact ⟨k + 1, _, cnt - 1, by omega, by go_num, hC2, HC1'.out, B2⟩
            case measure => simp [intOf]; omega
    · have hB2 := hB
      have HE : Hid (¬(k < m ∧ k < 300)) := hend
      clear hend
      obtain ⟨t1, ht1⟩ : ∃ t, decide ((k : Int) < (m : Int)) = t := ⟨_, rfl⟩
      cases t1 with
      | false =>
        have d2 : decide (k < m) = false := by simpa using ht1
        go_wp2_with fail
        refine (known_any _).mono ?_
        rintro e w2 ⟨rfl, hb2⟩
        go_wp2_with fail
        go_ret
        exact ⟨rfl, hB2.trans (hb2.mono hB2.size)⟩
      | true =>
        have d2 : decide (k < m) = true := by simpa using ht1
        have d1 : decide ((k : Int) < 300) = false := decide_eq_false (by have := HE.out; have : k < m := of_decide_eq_true d2; omega)
        go_wp2_with fail
        refine (known_any _).mono ?_
        rintro e w2 ⟨rfl, hb2⟩
        go_wp2_with fail
        go_ret
        exact ⟨rfl, hB2.trans (hb2.mono hB2.size)⟩
end Go.Proofs.Ytlmbkhpbfmkmjaa.CH
