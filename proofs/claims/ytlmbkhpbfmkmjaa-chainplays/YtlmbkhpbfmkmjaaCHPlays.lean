/- ChainPlays: the walk. -/
import Derived.Test.YtlmbkhpbfmkmjaaCHAll
namespace Go.Proofs.Ytlmbkhpbfmkmjaa.CH
open Go.RowKit Go.Joins Go.Sort
set_option linter.unusedVariables false
set_option linter.unusedSimpArgs false
set_option maxRecDepth 100000
theorem infoB : (Try.prog.info? 4).map (fun i => (i.zero, i.size, i.bytes)) = some (some (.bool false), 1, 1) := by kernel_rfl
theorem run_makeB (n : Nat) (hn : n ≤ 1048577) : ∃ arr : Array Value, (∀ i, i < n → arr[i]? = some (.bool false)) ∧ ∀ u : World, (Instr.makeSlice 30 (.int .i64 (n : Nat)) (.int .i64 (n : Nat))).run Try.prog u = .ok (.slice (some ⟨u.heap.size, 0, none⟩) n n) (u.alloc (.cells arr 4)) := by
  obtain ⟨i0, hi, hz0, hz1, hz2⟩ := info_parts infoB
  refine ⟨madeCells (Value.bool false).cells (n * 1), fun i h => ?_, fun u => ?_⟩
  · have hs : i < (madeCells (Value.bool false).cells (n * 1)).size := by rw [size_madeCells]; omega
    rw [Array.getElem?_eq_getElem hs]
    simp [madeCells, Value.cells, Nat.mod_one]
  · have h := run_make (P := Try.prog) u 30 4 i0 _ Try.underlying30 hi hz0 .i64 .i64 (n : Int) (n : Int) (by omega) (Int.le_refl _) (by rw [hz2]; omega) (by omega)
    rw [hz1] at h
    have e : ((n : Int)).toNat = n := by omega
    rw [e] at h
    exact h
/-- One place is written. -/
def updB (inn : Nat → Bool) (k : Nat) (v : Bool) : Nat → Bool := fun m => if m = k then v else inn m
theorem BlAt.set {w : World} {b n : Nat} {inn : Nat → Bool} (h : BlAt w b n inn) (k : Nat) (v : Bool) : BlAt (w.setCell ⟨b, k, none⟩ (.bool v)) b n (updB inn k v) := by
  obtain ⟨arr, h1, h2⟩ := h
  refine ⟨_, block_setCell h1 _, fun j hj => ?_⟩
  rw [arr_set (h2 j hj)]
  unfold updB
  split <;> rfl
theorem BlAt.ext {w : World} {b n : Nat} {f g : Nat → Bool} (h : BlAt w b n f) (e : ∀ i, i < n → f i = g i) : BlAt w b n g := by
  obtain ⟨arr, h1, h2⟩ := h
  exact ⟨arr, h1, fun i hi => by rw [h2 i hi, e i hi]⟩
theorem BlAt.other {w : World} {b n : Nat} {inn : Nat → Bool} (h : BlAt w b n inn) {g o : Nat} (v : Value) (hne : b ≠ g) : BlAt (w.setCell ⟨g, o, none⟩ v) b n inn :=
  h.kept (Below.heap_setCell w ⟨g, o, none⟩ v b hne)
theorem updB_cut (inn : Nat → Bool) (k : Nat) : updB inn k false = cutP inn k := rfl
theorem next_out {inn : Nat → Bool} {n i : Nat} (h : inn i = false) : nextA inn n (i : Nat) = -1 ∧ prevA inn n (i : Nat) = -1 := by
  have : hasB inn n (i : Nat) = false := by simp [hasB, h]
  unfold nextA prevA
  rw [this]
  exact ⟨rfl, rfl⟩
/-- The last one below i, as the law keeps it. -/
def lastF (inn : Nat → Bool) (n i : Nat) : Int := numF n (dnG inn n i)
theorem last_in {inn : Nat → Bool} {n i : Nat} (hi : i < n) (h : inn i = true) : lastF inn n (i + 1) = i ∧ prevA inn n (i : Nat) = lastF inn n i := by
  constructor
  · unfold lastF
    rw [dnG, if_pos h]
    unfold numF
    rw [if_neg (by omega)]
  · unfold prevA lastF
    rw [has_in hi h, if_pos rfl]
    rfl
theorem last_out {inn : Nat → Bool} {n i : Nat} (h : inn i = false) : lastF inn n (i + 1) = lastF inn n i := by
  unfold lastF
  rw [dnG, h]
  rfl
theorem last_nat {inn : Nat → Bool} {n i : Nat} (hi : i ≤ n) (h : 0 ≤ lastF inn n i) : ∃ m : Nat, lastF inn n i = m ∧ m < n ∧ inn m = true ∧ dnG inn n i = m := by
  unfold lastF numF at h ⊢
  have hle := dn_le (inn := inn) hi
  split at h
  · omega
  · rename_i hne
    have hlt : dnG inn n i < n := by omega
    exact ⟨_, by rw [if_neg hne], hlt, dn_in hi hlt, rfl⟩
theorem last_next {inn : Nat → Bool} {n i : Nat} (hi : i < n) (hin : inn i = true) (h : 0 ≤ lastF inn n i) : nextA inn n (lastF inn n i) = i := by
  obtain ⟨m, h1, h2, h3, h4⟩ := last_nat (by omega) h
  rw [h1]
  unfold nextA
  rw [has_in h2 h3, if_pos rfl, Int.toNat_natCast, ← h4, nx_dn hi hin]
  unfold numF
  rw [if_neg (by omega)]
theorem last_end {inn : Nat → Bool} {n : Nat} (h : 0 ≤ lastF inn n n) : nextA inn n (lastF inn n n) = -1 := by
  obtain ⟨m, h1, h2, h3, h4⟩ := last_nat (Nat.le_refl _) h
  rw [h1]
  unfold nextA
  rw [has_in h2 h3, if_pos rfl, Int.toNat_natCast, ← h4, nx_dn_knot (by omega)]
  unfold numF
  rw [if_pos rfl]
theorem last_ge (inn : Nat → Bool) (n i : Nat) : -1 ≤ lastF inn n i := num_ge _ _
set_option maxHeartbeats 8000000 in
theorem plays_walk (n0 : Int) (a : Option Addr) (cap : Nat) (l : List Int) (stop : Int) (w : World) (hlen : l.length ≤ 9223372036854775807) (hin : INS w a l) :
    Calls Try.prog 4 #[.int .i64 n0, .slice a l.length cap, .int .i64 stop] w fun e w' => e = .returned (.bool true) ∧ Below w.heap.size w w' := by
  have HW := within_any n0 0 200 (by omega) (by omega) w
  have e1 : (((0 : Nat) : Int)) = 0 := rfl
  have e2 : (((200 : Nat) : Int)) = 200 := rfl
  rw [e1, e2] at HW
  clear e1 e2
  obtain ⟨m, hm⟩ : ∃ m, m = l.length := ⟨_, rfl⟩
  have HM : Hid (m = l.length) := hm
  rw [← hm] at hlen ⊢
  clear hm
  go_enter Try.func4, Try.ntmps4
  go_wp2_with fail
  refine HW.mono ?_
  rintro e w1 ⟨n, hn1, hn2, rfl, he⟩
  obtain rfl := he.symm
  clear HW
  have HN := new_any (n : Nat) (n : Nat) n w (clamp_mid hn2).1 (clamp_mid hn2).2 (by omega)
  go_wp2_with fail
  refine HN.mono ?_
  rintro e w1 ⟨g, b, rfl, hg, hb, hC, B1⟩
  clear HN
  obtain ⟨arr, harr, hmk⟩ := run_makeB n (by omega)
  have hL : BlAt (w1.alloc (.cells arr 4)) w1.heap.size n (fun _ => false) := ⟨arr, heap_alloc_new w1 _, harr⟩
  have hb2 : Below w1.heap.size w1 (w1.alloc (.cells arr 4)) := (Below.refl _ _).alloc (Nat.le_refl _) _
  have hC2 := hC.below hb2
  have B2 := B1.trans (hb2.mono B1.size)
  have hgb : g ≠ w1.heap.size ∧ b ≠ w1.heap.size ∧ w.heap.size ≤ w1.heap.size := ⟨by have := hC.lt; omega, by have := hC.lt; omega, B1.size⟩
  clear harr hb2 hC B1
  go_upto_region 7 with fail
  obtain ⟨W2, hW2⟩ : ∃ W2, W2 = w1.alloc (.cells arr 4) := ⟨_, rfl⟩
  obtain ⟨bi, hbi⟩ : ∃ bi, bi = w1.heap.size := ⟨_, rfl⟩
  rw [← hW2] at hL hC2 B2 ⊢
  rw [← hbi] at hL hgb ⊢
  clear hW2 hbi hmk
  go_wp2_with fail
  go_loopw [10] (fun v wr => ∃ k : Nat, k ≤ n ∧ v = .int .i64 (k : Nat) ∧ Ch wr g b n (inn0 n) (n : Nat) ∧ BlAt wr bi n (fun m => decide (m < k)) ∧ Below w.heap.size w wr) (fun v _ => n - (intOf v).toNat)
  case atStart => exact ⟨0, by omega, rfl, hC2, hL.ext (fun i _ => by simp), B2⟩
  case round =>
    clear hL hC2 B2
    obtain ⟨k, hk, rfl, hC, hL, hB⟩ := hrel
    by_cases hkn : k < n
    · have d0 : decide ((k : Int) < (n : Int)) = true := decide_eq_true (by omega)
      have d1 : decide (k < n) = true := decide_eq_true hkn
      have c0 := hL.at' (i := k) hkn
      have f0 := hL.free
      have i0 : 0 ≤ (k : Int) ∧ (k : Int) < (n : Int) := by omega
      have hL2 := (hL.set k true).ext (g := fun m => decide (m < k + 1)) (fun i hi => by
        unfold updB
        by_cases e : i = k
        · rw [if_pos e]; simp; omega
        · rw [if_neg e]
          show decide (i < k) = decide (i < k + 1)
          by_cases h : i < k
          · rw [decide_eq_true h, decide_eq_true (by omega)]
          · rw [decide_eq_false h, decide_eq_false (by omega)])
      have hC2 := hC.kept (Below.heap_setCell wr ⟨bi, k, none⟩ (.bool true) g hgb.1) (Below.heap_setCell wr ⟨bi, k, none⟩ (.bool true) b hgb.2.1)
      have hB2 := hB.setCell (p := ⟨bi, k, none⟩) hgb.2.2 (.bool true)
      have HL : Hid (BlAt wr bi n (fun m => decide (m < k))) := hL
      clear hL
      go_wp2_with fail
      go_roundw
      case rel => exact ⟨k + 1, by omega, by go_num, hC2, hL2, hB2⟩
      case measure => simp [intOf]; omega
    · have d0 : decide ((k : Int) < (n : Int)) = false := decide_eq_false (by omega)
      have d1 : decide (k < n) = false := decide_eq_false hkn
      have hL2 := hL.ext (g := inn0 n) (fun i hi => by
        show decide (i < k) = decide (i < n)
        rw [decide_eq_true hi, decide_eq_true (by omega)])
      clear hL
      go_wp2_with fail
      clear d0 d1
      go_loopw [9, 11] (fun v9 v wr => ∃ (k : Nat) (inn : Nat → Bool) (cnt : Nat), k ≤ m ∧ v9 = .int .i64 (cnt : Nat) ∧ v = .int .i64 (k : Nat) ∧ Ch wr g b n inn (cnt : Nat) ∧ cnt = cntG inn n ∧ BlAt wr bi n inn ∧ Below w.heap.size w wr) (fun _ v _ => m - (intOf v).toNat)
      case atStart => exact ⟨0, _, n, by omega, rfl, rfl, hC, (cnt_all (Nat.le_refl n)).symm, hL2, hB⟩
      case round =>
        clear hC hB hL2
        obtain ⟨k, inn, cnt, hk, rfl, rfl, hC, hcnt, hL, hB⟩ := hrel
        have HCN : Hid (cnt = cntG inn n) := hcnt
        clear hcnt
        by_cases hend : k < m ∧ k < 300
        · obtain ⟨hkm, hk3⟩ := hend
          have d0 : decide ((k : Int) < (m : Int)) = true := decide_eq_true (by omega)
          have d1 : decide ((k : Int) < 300) = true := decide_eq_true (by omega)
          have d2 : decide (k < m) = true := decide_eq_true (by omega)
          obtain ⟨x, hx⟩ : ∃ x, l[k]? = some x := ⟨_, List.getElem?_eq_getElem (by rw [← HM.out]; exact hkm)⟩
          obtain ⟨bb, off, rfl, hcell⟩ := (hin.below hB).at_ hx
          have HX : Hid (l[k]? = some x) := hx
          clear hx
          have ik : 0 ≤ (k : Int) ∧ (k : Int) < (m : Int) := by omega
          have HH := has_any g b n inn (cnt : Nat) x wr hC
          obtain ⟨t, ht⟩ : ∃ t, t = hasB inn n x := ⟨_, rfl⟩
          rw [← ht] at HH
          cases t with
          | false =>
            have HCU := cut_no g b n inn (cnt : Nat) x wr hC ht.symm
            have hno : hasB inn n x = false := ht.symm
            unfold hasB at hno
            have HNO : Hid ((decide (0 ≤ x) && decide (x < (n : Int)) && inn x.toNat) = false) := hno
            clear ht hno
            by_cases x0 : 0 ≤ x
            · have dx0 : decide (0 ≤ x) = true := decide_eq_true x0
              by_cases x1 : x < (n : Int)
              · have dx1 : decide (x < (n : Int)) = true := decide_eq_true x1
                obtain ⟨c, rfl⟩ : ∃ c : Nat, x = c := ⟨x.toNat, by omega⟩
                have hcn : c < n := by omega
                have dx2 : decide (c < n) = true := decide_eq_true hcn
                have hf : inn c = false := by
                  have := HNO.out
                  rw [dx0, dx1] at this
                  simpa using this
                have c0 := hL.at' (i := c) hcn
                rw [hf] at c0
                have i0 : 0 ≤ (c : Int) ∧ (c : Int) < (n : Int) := by omega
                clear x0 x1 HNO
                go_wp2_with fail
                refine HH.mono ?_
                rintro e w3 ⟨rfl, he⟩
                obtain rfl := he.symm
                go_wp2_with fail
                refine HCU.mono ?_
                rintro e w3 ⟨rfl, he⟩
                obtain rfl := he.symm
                go_wp2_with fail
                refine HH.mono ?_
                rintro e w3 ⟨rfl, he⟩
                obtain rfl := he.symm
                go_wp2_with fail
                go_roundw
                case rel => exact ⟨k + 1, inn, cnt, by omega, rfl, by go_num, hC, HCN.out, hL, hB⟩
                case measure => simp [intOf]; omega
              · have dx1 : decide (x < (n : Int)) = false := decide_eq_false x1
                clear x0 x1 HNO
                go_wp2_with fail
                refine HH.mono ?_
                rintro e w3 ⟨rfl, he⟩
                obtain rfl := he.symm
                go_wp2_with fail
                refine HCU.mono ?_
                rintro e w3 ⟨rfl, he⟩
                obtain rfl := he.symm
                go_wp2_with fail
                refine HH.mono ?_
                rintro e w3 ⟨rfl, he⟩
                obtain rfl := he.symm
                go_wp2_with fail
                go_roundw
                case rel => exact ⟨k + 1, inn, cnt, by omega, rfl, by go_num, hC, HCN.out, hL, hB⟩
                case measure => simp [intOf]; omega
            · have dx0 : decide (0 ≤ x) = false := decide_eq_false x0
              clear x0 HNO
              go_wp2_with fail
              refine HH.mono ?_
              rintro e w3 ⟨rfl, he⟩
              obtain rfl := he.symm
              go_wp2_with fail
              refine HCU.mono ?_
              rintro e w3 ⟨rfl, he⟩
              obtain rfl := he.symm
              go_wp2_with fail
              refine HH.mono ?_
              rintro e w3 ⟨rfl, he⟩
              obtain rfl := he.symm
              go_wp2_with fail
              go_roundw
              case rel => exact ⟨k + 1, inn, cnt, by omega, rfl, by go_num, hC, HCN.out, hL, hB⟩
              case measure => simp [intOf]; omega
          | true =>
            obtain ⟨c, rfl, hcn, hin2⟩ := hasB_true ht.symm
            have dx0 : decide (0 ≤ (c : Int)) = true := decide_eq_true (by omega)
            have dx1 : decide ((c : Int) < (n : Int)) = true := decide_eq_true (by omega)
            have dx2 : decide (c < n) = true := decide_eq_true hcn
            have c0 := hL.at' (i := c) hcn
            rw [hin2] at c0
            have i0 : 0 ≤ (c : Int) ∧ (c : Int) < (n : Int) := by omega
            have hcc := cnt_cut inn hin2 n
            rw [if_pos hcn] at hcc
            have hcle : cntG inn n ≤ 1048576 := by
              have := all_cnt inn n
              have := all_len inn n 0
              omega
            have HCU := cut_yes g b n inn (cnt : Nat) c wr hC hcn hin2 (by have := HCN.out; omega)
            have HCC : Hid (cntG (cutP inn c) n + 1 = cntG inn n) := hcc
            clear hcc hcle ht
            have hcnt1 : 1 ≤ cnt ∧ cnt ≤ 1048576 := by
              have h1 := HCN.out
              have h2 := HCC.out
              have := all_cnt inn n
              have := all_len inn n 0
              omega
            go_wp2_with fail
            refine HH.mono ?_
            rintro e w3 ⟨rfl, he⟩
            obtain rfl := he.symm
            clear HH
            go_wp2_with fail
            refine HCU.mono ?_
            rintro e w3 ⟨rfl, hC3, t3⟩
            clear HCU
            rw [show ((cnt : Nat) : Int) - 1 = ((cnt - 1 : Nat) : Int) by omega] at hC3
            have hL3 : BlAt w3 bi n inn := hL.kept (t3.block bi hL.lt hgb.1.symm hgb.2.1.symm)
            have B3 := hB.trans (t3.below hg hb hB.size)
            have HH := has_any g b n (cutP inn c) (cnt - 1 : Nat) (c : Nat) w3 hC3
            rw [show hasB (cutP inn c) n (c : Nat) = false by simp [hasB, cutP]] at HH
            have hL4 := hL3.set c false
            rw [updB_cut] at hL4
            have c3 := hL3.at' (i := c) hcn
            have f3 := hL3.free
            have hC4 := hC3.kept (Below.heap_setCell w3 ⟨bi, c, none⟩ (.bool false) g hgb.1) (Below.heap_setCell w3 ⟨bi, c, none⟩ (.bool false) b hgb.2.1)
            have B4 := B3.setCell (p := ⟨bi, c, none⟩) hgb.2.2 (.bool false)
            have HC1' : Hid (cnt - 1 = cntG (cutP inn c) n) := (by have := HCN.out; have := HCC.out; show cnt - 1 = _; omega)
            clear t3 hL3
            go_wp2_with fail
            refine HH.mono ?_
            rintro e w5 ⟨rfl, he⟩
            obtain rfl := he.symm
            clear HH
            go_wp2_with fail
            go_roundw
            case rel => exact ⟨k + 1, _, cnt - 1, by omega, by go_num, by go_num, hC4, HC1'.out, hL4, B4⟩
            case measure => simp [intOf]; omega
        · have HE : Hid (¬(k < m ∧ k < 300)) := hend
          clear hend
          have HLen := len_any g b n (cnt : Nat) wr hC.own
          obtain ⟨t1, ht1⟩ : ∃ t, decide ((k : Int) < (m : Int)) = t := ⟨_, rfl⟩
          cases t1 with
          | false =>
            have d2 : decide (k < m) = false := by simpa using ht1
            go_wp2_with fail
            clear ht1 d2 HE
            refine HLen.mono ?_
            rintro e w3 ⟨rfl, he⟩
            obtain rfl := he.symm
            clear HLen
            have q0 : (((cnt : Nat) : Int) != ((cnt : Nat) : Int)) = false := by simp
            go_wp2_with fail
            clear q0
            obtain ⟨WC, hWC⟩ : ∃ WC, WC = wr := ⟨_, rfl⟩
            rw [← hWC] at hC hL hB ⊢
            clear hWC wr
            go_loopw [14, 15] (fun v14 v wr => ∃ i : Nat, i ≤ n ∧ v14 = .int .i64 (lastF inn n i) ∧ v = .int .i64 (i : Nat) ∧ wr = WC) (fun _ v _ => n - (intOf v).toNat)
            case atStart => exact ⟨0, by omega, by simp [lastF, dnG, numF], rfl, rfl⟩
            case round =>
              obtain ⟨i, hi, rfl, rfl, rfl⟩ := hrel
              by_cases hin3 : i < n
              · have d0 : decide ((i : Int) < (n : Int)) = true := decide_eq_true (by omega)
                have d1 : decide (i < n) = true := decide_eq_true hin3
                have c0 := hL.at' (i := i) hin3
                have i0 : 0 ≤ (i : Int) ∧ (i : Int) < (n : Int) := by omega
                have HN := next_any g b n inn (cnt : Nat) (i : Nat) wr hC
                have HP := prev_any g b n inn (cnt : Nat) (i : Nat) wr hC
                cases hti : inn i with
                | false =>
                  rw [hti] at c0
                  rw [(next_out (n := n) hti).1] at HN
                  rw [(next_out (n := n) hti).2] at HP
                  have hl := last_out (n := n) hti
                  have HLL : Hid (lastF inn n (i + 1) = lastF inn n i) := hl
                  clear hl hti
                  obtain ⟨la, hla⟩ : ∃ la, la = lastF inn n i := ⟨_, rfl⟩
                  have HLA : Hid (la = lastF inn n i) := hla
                  rw [← hla]
                  clear hla
                  go_wp2_with fail
                  refine HN.mono ?_
                  rintro e w3 ⟨rfl, he⟩
                  obtain rfl := he.symm
                  go_wp2_with fail
                  refine HP.mono ?_
                  rintro e w3 ⟨rfl, he⟩
                  obtain rfl := he.symm
                  go_wp2_with fail
                  go_roundw
                  case rel => exact ⟨i + 1, by omega, by rw [HLL.out, HLA.out], by go_num, trivial⟩
                  case measure => simp [intOf]; omega
                | true =>
                  rw [hti] at c0
                  obtain ⟨hl1, hl2⟩ := last_in hin3 hti
                  rw [hl2] at HP
                  have hl3 := last_next hin3 hti
                  have hge := last_ge inn n i
                  have HLL : Hid (lastF inn n (i + 1) = i) := hl1
                  clear hl1 hl2 hti HN
                  obtain ⟨la, hla⟩ : ∃ la, la = lastF inn n i := ⟨_, rfl⟩
                  rw [← hla] at HP hl3 hge ⊢
                  have HLA : Hid (la = lastF inn n i) := hla
                  clear hla
                  have q1 : (la != la) = false := by simp
                  by_cases la0 : 0 ≤ la
                  · have da : decide (0 ≤ la) = true := decide_eq_true la0
                    have HN := next_any g b n inn (cnt : Nat) la wr hC
                    rw [hl3 la0] at HN
                    have q2 : ((i : Int) != (i : Int)) = false := by simp
                    clear hl3 la0
                    go_wp2_with fail
                    refine HP.mono ?_
                    rintro e w3 ⟨rfl, he⟩
                    obtain rfl := he.symm
                    go_wp2_with fail
                    refine HN.mono ?_
                    rintro e w3 ⟨rfl, he⟩
                    obtain rfl := he.symm
                    go_wp2_with fail
                    go_roundw
                    case rel => exact ⟨i + 1, by omega, by rw [HLL.out], by go_num, trivial⟩
                    case measure => simp [intOf]; omega
                  · have da : decide (0 ≤ la) = false := decide_eq_false la0
                    clear hl3 la0
                    go_wp2_with fail
                    refine HP.mono ?_
                    rintro e w3 ⟨rfl, he⟩
                    obtain rfl := he.symm
                    go_wp2_with fail
                    go_roundw
                    case rel => exact ⟨i + 1, by omega, by rw [HLL.out], by go_num, trivial⟩
                    case measure => simp [intOf]; omega
              · have d0 : decide ((i : Int) < (n : Int)) = false := decide_eq_false (by omega)
                have d1 : decide (i < n) = false := decide_eq_false hin3
                have hen : i = n := by omega
                have hl3 := last_end (inn := inn) (n := n)
                rw [hen]
                have hge := last_ge inn n n
                rw [hen] at d0 d1
                clear hen hin3 hi i
                obtain ⟨la, hla⟩ : ∃ la, la = lastF inn n n := ⟨_, rfl⟩
                rw [← hla] at hl3 hge ⊢
                clear hla
                have HW := within_any stop 0 20 (by omega) (by omega) wr
                have e1 : (((0 : Nat) : Int)) = 0 := rfl
                have e2 : (((20 : Nat) : Int)) = 20 := rfl
                rw [e1, e2] at HW
                clear e1 e2
                by_cases la0 : 0 ≤ la
                · have da : decide (0 ≤ la) = true := decide_eq_true la0
                  have HN := next_any g b n inn (cnt : Nat) la wr hC
                  rw [hl3 la0] at HN
                  clear hl3 la0
                  go_wp2_with fail
                  refine HN.mono ?_
                  rintro e w3 ⟨rfl, he⟩
                  obtain rfl := he.symm
                  clear HN
                  go_wp2_with fail
                  refine HW.mono ?_
                  rintro e w3 ⟨k0, hk1, hk2, rfl, he⟩
                  obtain rfl := he.symm
                  clear HW
                  go_wp2_with fail
                  refine (all_walk g b bi n inn cnt k0 wr hC hL HCN.out).mono ?_
                  rintro e w3 ⟨rfl, hb3⟩
                  go_wp2_with fail
                  refine (known_any _).mono ?_
                  rintro e w4 ⟨rfl, hb4⟩
                  go_wp2_with fail
                  go_ret
                  have B3 := hB.trans (hb3.mono hB.size)
                  exact ⟨rfl, B3.trans (hb4.mono B3.size)⟩
                · have da : decide (0 ≤ la) = false := decide_eq_false la0
                  clear hl3 la0
                  go_wp2_with fail
                  refine HW.mono ?_
                  rintro e w3 ⟨k0, hk1, hk2, rfl, he⟩
                  obtain rfl := he.symm
                  clear HW
                  go_wp2_with fail
                  refine (all_walk g b bi n inn cnt k0 wr hC hL HCN.out).mono ?_
                  rintro e w3 ⟨rfl, hb3⟩
                  go_wp2_with fail
                  refine (known_any _).mono ?_
                  rintro e w4 ⟨rfl, hb4⟩
                  go_wp2_with fail
                  go_ret
                  have B3 := hB.trans (hb3.mono hB.size)
                  exact ⟨rfl, B3.trans (hb4.mono B3.size)⟩
          | true =>
            have d2 : decide (k < m) = true := by simpa using ht1
            have d1 : decide ((k : Int) < 300) = false := decide_eq_false (by have := HE.out; have : k < m := of_decide_eq_true d2; omega)
            go_wp2_with fail
            clear ht1 d2 d1 HE
            refine HLen.mono ?_
            rintro e w3 ⟨rfl, he⟩
            obtain rfl := he.symm
            clear HLen
            have q0 : (((cnt : Nat) : Int) != ((cnt : Nat) : Int)) = false := by simp
            go_wp2_with fail
            clear q0
            obtain ⟨WC, hWC⟩ : ∃ WC, WC = wr := ⟨_, rfl⟩
            rw [← hWC] at hC hL hB ⊢
            clear hWC wr
            go_loopw [14, 15] (fun v14 v wr => ∃ i : Nat, i ≤ n ∧ v14 = .int .i64 (lastF inn n i) ∧ v = .int .i64 (i : Nat) ∧ wr = WC) (fun _ v _ => n - (intOf v).toNat)
            case atStart => exact ⟨0, by omega, by simp [lastF, dnG, numF], rfl, rfl⟩
            case round =>
              obtain ⟨i, hi, rfl, rfl, rfl⟩ := hrel
              by_cases hin3 : i < n
              · have d0 : decide ((i : Int) < (n : Int)) = true := decide_eq_true (by omega)
                have d1 : decide (i < n) = true := decide_eq_true hin3
                have c0 := hL.at' (i := i) hin3
                have i0 : 0 ≤ (i : Int) ∧ (i : Int) < (n : Int) := by omega
                have HN := next_any g b n inn (cnt : Nat) (i : Nat) wr hC
                have HP := prev_any g b n inn (cnt : Nat) (i : Nat) wr hC
                cases hti : inn i with
                | false =>
                  rw [hti] at c0
                  rw [(next_out (n := n) hti).1] at HN
                  rw [(next_out (n := n) hti).2] at HP
                  have hl := last_out (n := n) hti
                  have HLL : Hid (lastF inn n (i + 1) = lastF inn n i) := hl
                  clear hl hti
                  obtain ⟨la, hla⟩ : ∃ la, la = lastF inn n i := ⟨_, rfl⟩
                  have HLA : Hid (la = lastF inn n i) := hla
                  rw [← hla]
                  clear hla
                  go_wp2_with fail
                  refine HN.mono ?_
                  rintro e w3 ⟨rfl, he⟩
                  obtain rfl := he.symm
                  go_wp2_with fail
                  refine HP.mono ?_
                  rintro e w3 ⟨rfl, he⟩
                  obtain rfl := he.symm
                  go_wp2_with fail
                  go_roundw
                  case rel => exact ⟨i + 1, by omega, by rw [HLL.out, HLA.out], by go_num, trivial⟩
                  case measure => simp [intOf]; omega
                | true =>
                  rw [hti] at c0
                  obtain ⟨hl1, hl2⟩ := last_in hin3 hti
                  rw [hl2] at HP
                  have hl3 := last_next hin3 hti
                  have hge := last_ge inn n i
                  have HLL : Hid (lastF inn n (i + 1) = i) := hl1
                  clear hl1 hl2 hti HN
                  obtain ⟨la, hla⟩ : ∃ la, la = lastF inn n i := ⟨_, rfl⟩
                  rw [← hla] at HP hl3 hge ⊢
                  have HLA : Hid (la = lastF inn n i) := hla
                  clear hla
                  have q1 : (la != la) = false := by simp
                  by_cases la0 : 0 ≤ la
                  · have da : decide (0 ≤ la) = true := decide_eq_true la0
                    have HN := next_any g b n inn (cnt : Nat) la wr hC
                    rw [hl3 la0] at HN
                    have q2 : ((i : Int) != (i : Int)) = false := by simp
                    clear hl3 la0
                    go_wp2_with fail
                    refine HP.mono ?_
                    rintro e w3 ⟨rfl, he⟩
                    obtain rfl := he.symm
                    go_wp2_with fail
                    refine HN.mono ?_
                    rintro e w3 ⟨rfl, he⟩
                    obtain rfl := he.symm
                    go_wp2_with fail
                    go_roundw
                    case rel => exact ⟨i + 1, by omega, by rw [HLL.out], by go_num, trivial⟩
                    case measure => simp [intOf]; omega
                  · have da : decide (0 ≤ la) = false := decide_eq_false la0
                    clear hl3 la0
                    go_wp2_with fail
                    refine HP.mono ?_
                    rintro e w3 ⟨rfl, he⟩
                    obtain rfl := he.symm
                    go_wp2_with fail
                    go_roundw
                    case rel => exact ⟨i + 1, by omega, by rw [HLL.out], by go_num, trivial⟩
                    case measure => simp [intOf]; omega
              · have d0 : decide ((i : Int) < (n : Int)) = false := decide_eq_false (by omega)
                have d1 : decide (i < n) = false := decide_eq_false hin3
                have hen : i = n := by omega
                have hl3 := last_end (inn := inn) (n := n)
                rw [hen]
                have hge := last_ge inn n n
                rw [hen] at d0 d1
                clear hen hin3 hi i
                obtain ⟨la, hla⟩ : ∃ la, la = lastF inn n n := ⟨_, rfl⟩
                rw [← hla] at hl3 hge ⊢
                clear hla
                have HW := within_any stop 0 20 (by omega) (by omega) wr
                have e1 : (((0 : Nat) : Int)) = 0 := rfl
                have e2 : (((20 : Nat) : Int)) = 20 := rfl
                rw [e1, e2] at HW
                clear e1 e2
                by_cases la0 : 0 ≤ la
                · have da : decide (0 ≤ la) = true := decide_eq_true la0
                  have HN := next_any g b n inn (cnt : Nat) la wr hC
                  rw [hl3 la0] at HN
                  clear hl3 la0
                  go_wp2_with fail
                  refine HN.mono ?_
                  rintro e w3 ⟨rfl, he⟩
                  obtain rfl := he.symm
                  clear HN
                  go_wp2_with fail
                  refine HW.mono ?_
                  rintro e w3 ⟨k0, hk1, hk2, rfl, he⟩
                  obtain rfl := he.symm
                  clear HW
                  go_wp2_with fail
                  refine (all_walk g b bi n inn cnt k0 wr hC hL HCN.out).mono ?_
                  rintro e w3 ⟨rfl, hb3⟩
                  go_wp2_with fail
                  refine (known_any _).mono ?_
                  rintro e w4 ⟨rfl, hb4⟩
                  go_wp2_with fail
                  go_ret
                  have B3 := hB.trans (hb3.mono hB.size)
                  exact ⟨rfl, B3.trans (hb4.mono B3.size)⟩
                · have da : decide (0 ≤ la) = false := decide_eq_false la0
                  clear hl3 la0
                  go_wp2_with fail
                  refine HW.mono ?_
                  rintro e w3 ⟨k0, hk1, hk2, rfl, he⟩
                  obtain rfl := he.symm
                  clear HW
                  go_wp2_with fail
                  refine (all_walk g b bi n inn cnt k0 wr hC hL HCN.out).mono ?_
                  rintro e w3 ⟨rfl, hb3⟩
                  go_wp2_with fail
                  refine (known_any _).mono ?_
                  rintro e w4 ⟨rfl, hb4⟩
                  go_wp2_with fail
                  go_ret
                  have B3 := hB.trans (hb3.mono hB.size)
                  exact ⟨rfl, B3.trans (hb4.mono B3.size)⟩
end Go.Proofs.Ytlmbkhpbfmkmjaa.CH
