/- UtfValid: the walk. -/
import Derived.Test.YthlcdaopldnocaaUValidMath
import Derived.Test.YthlcdaopldnocaaUKnown
import Derived.Test.YthlcdaopldnocaaUSame
import Derived.Lib.OthersKept
namespace Go.Proofs.Ythlcdaopldnocaa
open Go.RowKit Go.Lib
theorem str_eq (a b : ByteArray) : (a.toList == b.toList) = decide (tl a = tl b) := by
  rw [ByteArray.toList_eq, ByteArray.toList_eq, Bool.eq_iff_iff]
  simp
theorem decode_pos (s : ByteArray) (i : Nat) (h : i < s.size) : 1 ≤ (Utf8.decode s i).2 ∧ i + (Utf8.decode s i).2 ≤ s.size := by
  have hne : (tl s).drop i ≠ [] := fun e => by have := congrArg List.length e; simp at this; omega
  have hl : ((tl s).drop i).length = s.size - i := by simp
  rw [decode_front s i hne]
  have h1 := front_le ((tl s).drop i)
  rw [hl] at h1
  split
  · rename_i hb
    have := h1.2.2.1 hb
    exact ⟨this, by simp only; omega⟩
  · exact ⟨Nat.le_refl _, by simp only; omega⟩
theorem tl_app (a b : ByteArray) : tl (a ++ b) = tl a ++ tl b := by simp [tl]
theorem cleanI_snoc (M : List It) (k : Nat) (x : It) (h : M[k]? = some x) : cleanI (M.take (k + 1)) = (cleanI (M.take k) && !x.bad) := by
  rw [List.take_add_one, h]
  simp [cleanI]
theorem tl_text (l : List UInt8) : tl (textOf l) = l := by simp [tl, textOf]
theorem text_size (l : List UInt8) : (textOf l).size = l.length := by simp [textOf, ByteArray.size]
theorem replF_length (f : Nat) : ∀ l : List UInt8, (replF f l).length ≤ 3 * l.length := by
  induction f with
  | zero => intro l; simp [replF]
  | succ f ih =>
    intro l
    unfold replF
    split
    · simp
    · rename_i h
      have h2 := stepL_pos l
      have h3 := stepL_le l h
      have := ih (l.drop (stepL l))
      rw [List.length_append]
      split <;> simp at this ⊢ <;> omega
theorem replL_length (l : List UInt8) : (replL l).length ≤ 3 * l.length := replF_length _ _
set_option maxRecDepth 100000 in
set_option maxHeartbeats 4000000 in
theorem utfvalid_walk (s t : ByteArray) (hs : s.size + t.size ≤ 1048576) (w : World) :
    Calls Try.prog 8 #[.string s, .string t] w fun e w' => e = .returned (.bool true) ∧ Below w.heap.size w w' := by
  have H1 := fun wx => replace_any s wx (by omega)
  obtain ⟨r, hr⟩ : ∃ r, r = textOf (replL (tl s)) := ⟨_, rfl⟩
  have hrt : tl r = replL (tl s) := by rw [hr, tl_text]
  have hrs : r.size ≤ 3145728 := by
    have := replL_length (tl s)
    rw [tl_len] at this
    rw [hr, text_size]
    omega
  have hcr : cleanL (tl r) = true := by rw [hrt]; exact repl_clean _
  have HLr := fun wx => list_any r (by omega) wx
  have HRr := fun wx => replace_any r wx (by omega)
  rw [clean_repl _ hcr, show textOf (tl r) = r from rfl] at HRr
  have HTr := fun wx => tail_any r wx (by omega)
  rw [tail_held, clean_tail _ hcr, List.length_nil] at HTr
  have HLs := fun wx => list_any s (by omega) wx
  have HTs := fun wx => tail_any s wx (by omega)
  have HRst := fun wx => replace_any (s ++ t) wx (by simp; omega)
  have HRt := fun wx => replace_any t wx (by omega)
  rw [← hr] at H1
  have HR : Hid (tl r = replL (tl s)) := hrt
  have hci : ∀ (i : Nat) (x : It), (items 0 (tl r))[i]? = some x → x.bad = false := fun i x hx => by
    have h := hcr
    unfold cleanL cleanI at h
    have := List.all_eq_true.1 h x (List.mem_of_getElem? hx)
    simpa using this
  have hN := items_length (tl r) 0
  have hM := items_length (tl s) 0
  rw [tl_len] at hN hM
  have HQ : ((r.toList == s.toList) : Bool) = cleanL (tl s) := by
    rw [str_eq, Bool.eq_iff_iff, decide_eq_true_iff, clean_iff, ← hrt]
  have HQ' : Hid (((r.toList == s.toList) : Bool) = cleanL (tl s)) := HQ
  have HA : tailL (tl s) = 0 → Hid (((textOf (replL (tl (s ++ t)))).toList == (r ++ textOf (replL (tl t))).toList) = true) := fun h => by
    show ((textOf (replL (tl (s ++ t)))).toList == (r ++ textOf (replL (tl t))).toList) = true
    rw [str_eq, tl_text, tl_app, tl_app, tl_text, hrt, decide_eq_true_iff]
    rw [tail_held] at h
    exact repl_append _ _ (List.length_eq_zero_iff.1 h)
  have HCl : Hid (cleanI (items 0 (tl s)) = cleanL (tl s)) := rfl
  clear hr hrt hcr HQ HR
  generalize items 0 (tl r) = L at *
  generalize items 0 (tl s) = M at *
  generalize textOf (replL (tl (s ++ t))) = R3 at *
  have h4 : (textOf (replL (tl t))).size ≤ 3145728 := by
    have := replL_length (tl t)
    rw [tl_len] at this
    rw [text_size]
    omega
  generalize textOf (replL (tl t)) = R4 at *
  generalize tailL (tl s) = T at *
  generalize cleanL (tl s) = cc at *
  go_enter Try.func8, Try.ntmps8
  go_wp2_with fail
  refine (H1 _).mono ?_; rintro e w1 ⟨rfl, hb1⟩
  clear H1
  go_wp2_with fail
  go_loopw [6] (fun x wr => ∃ pos, x = .bool false ∧ pos ≤ r.size ∧ wr.heap[w1.heap.size]? = some (.stringIter r pos) ∧ Below w.heap.size w wr) (fun _ wr => r.size - wr.iterPos w1.heap.size)
  case atStart => exact ⟨0, rfl, Nat.zero_le _, World.iter_heap _ _ _, hb1.alloc hb1.size _⟩
  case round =>
    obtain ⟨pos, rfl, hp, hk, hB⟩ := hrel
    have hsz := hb1.size
    by_cases hlt : pos < r.size
    · have hn := fun ty => run_next_any_at (P := Try.prog) wr w1.heap.size r pos ty hk hlt
      have hd := decode_pos r pos hlt
      have hk2 := iterAt_heap wr w1.heap.size r pos (pos + (Utf8.decode r pos).2) hk
      have hB2 := below_iterAt hB (k := w1.heap.size) hsz r (pos + (Utf8.decode r pos).2)
      generalize wr.iterAt w1.heap.size r (pos + (Utf8.decode r pos).2) = W2 at *
      obtain ⟨hd1, hd2⟩ := hd
      generalize (Utf8.decode r pos).1 = d at *
      generalize (Utf8.decode r pos).2 = m at *
      have hd0 : decide ((d : Int) < 0) = false := by simp
      go_wp2_with fail
      go_roundw
      case rel => exact ⟨pos + m, rfl, hd2, hk2, hB2⟩
      case measure => simp [World.iterPos, hk, hk2]; omega
    · have hn := fun ty => run_next_end_at (P := Try.prog) wr w1.heap.size r pos ty hk hlt
      go_wp2_with fail
      refine (HLr _).mono ?_; rintro e w2 ⟨v2, rfl, ho2, hb2⟩
      obtain ⟨a2, c2, rfl, i2, l2⟩ := ho2.its
      have hB2 := hB.trans (hb2.mono hB.size)
      clear HLr ho2 hn hk hb2 hB
      go_wp2_with fail
      refine (HRr _).mono ?_; rintro e w3 ⟨rfl, hb3⟩
      have hB3 := hB2.trans (hb3.mono hB2.size)
      have i3 := i2.below hb3
      clear HRr hb3 hB2 i2
      go_wp2_with fail
      refine (HTr _).mono ?_; rintro e w4 ⟨rfl, he⟩
      obtain rfl := he.symm
      clear HTr
      go_wp2_with fail
      go_loop [11] (fun i => ∃ k : Nat, k ≤ L.length ∧ i = .int .i64 k) (fun i => L.length - (intOf i).toNat)
      case atStart => exact ⟨0, Nat.zero_le _, rfl⟩
      case round =>
        obtain ⟨k, hk, rfl⟩ := hrel
        by_cases hkl : k < L.length
        · obtain ⟨x, hx⟩ : ∃ x, L[k]? = some x := ⟨L[k], List.getElem?_eq_getElem hkl⟩
          have hbad := hci k x hx
          rcases i3 with h | ⟨g, rfl, hi⟩
          · rw [h] at hkl; simp at hkl
          obtain ⟨-, -, -, x3⟩ := hi k x hx
          rw [hbad] at x3
          clear hci hi hx hbad
          go_wp2_with fail
          go_round
          case rel => exact ⟨k + 1, by omega, by go_num⟩
          case measure => simp [intOf]; omega
        · clear hci i3
          go_wp2_with fail
          refine (HLs _).mono ?_; rintro e w5 ⟨v5, rfl, ho5, hb5⟩
          obtain ⟨a5, c5, rfl, i5, l5⟩ := ho5.its
          have hB5 := hB3.trans (hb5.mono hB3.size)
          clear HLs ho5 hb5 hB3
          go_wp2_with fail
          go_loop [14, 15] (fun c i => ∃ k : Nat, k ≤ M.length ∧ i = .int .i64 k ∧ c = .bool (cleanI (M.take k))) (fun _ i => M.length - (intOf i).toNat)
          case atStart => exact ⟨0, Nat.zero_le _, rfl, rfl⟩
          case round =>
            obtain ⟨k, hk, rfl, rfl⟩ := hrel
            by_cases hkl : k < M.length
            · obtain ⟨x, hx⟩ : ∃ x, M[k]? = some x := ⟨M[k], List.getElem?_eq_getElem hkl⟩
              have hsn := cleanI_snoc M k x hx
              rcases i5 with h | ⟨g, rfl, hi⟩
              · rw [h] at hkl; simp at hkl
              obtain ⟨-, -, -, x3⟩ := hi k x hx
              have HSN : Hid (cleanI (M.take (k + 1)) = (cleanI (M.take k) && !x.bad)) := hsn
              clear hi hx hsn
              cases hcb : cleanI (M.take k) with
              | true =>
                rw [hcb, Bool.true_and] at HSN
                clear hcb
                go_wp2_with fail
                go_round
                case rel => exact ⟨k + 1, by omega, by go_num, by rw [HSN.out]⟩
                case measure => simp [intOf]; omega
              | false =>
                rw [hcb, Bool.false_and] at HSN
                clear hcb
                go_wp2_with fail
                go_round
                case rel => exact ⟨k + 1, by omega, by go_num, by rw [HSN.out]⟩
                case measure => simp [intOf]; omega
            · obtain rfl : k = M.length := by omega
              have hq := HQ'.out
              rw [List.take_length, HCl.out]
              clear i5 HCl HQ'
              by_cases hT : T = 0
              · subst hT
                have hA := (HA rfl).out
                clear HA
                cases cc <;>
                · go_wp2_with fail
                  refine (HTs _).mono ?_; rintro e w6 ⟨rfl, he⟩
                  obtain rfl := he.symm
                  go_wp2_with fail
                  refine (HRst _).mono ?_; rintro e w7 ⟨rfl, hb7⟩
                  go_wp2_with fail
                  refine (HRt _).mono ?_; rintro e w8 ⟨rfl, hb8⟩
                  go_wp2_with fail
                  refine (known_any _).mono ?_; rintro e w9 ⟨rfl, hb9⟩
                  go_wp2_with fail
                  go_ret
                  have s7 := hb7.size
                  have s8 := hb8.size
                  exact ⟨rfl, ((hB5.trans (hb7.mono hB5.size)).trans (hb8.mono (Nat.le_trans hB5.size s7))).trans (hb9.mono (Nat.le_trans hB5.size (Nat.le_trans s7 s8)))⟩
              · have hT' : ((T : Int) != 0) = true := by simp; omega
                clear HA hT
                cases cc <;>
                · go_wp2_with fail
                  refine (HTs _).mono ?_; rintro e w6 ⟨rfl, he⟩
                  obtain rfl := he.symm
                  go_wp2_with fail
                  refine (known_any _).mono ?_; rintro e w9 ⟨rfl, hb9⟩
                  go_wp2_with fail
                  go_ret
                  exact ⟨rfl, hB5.trans (hb9.mono hB5.size)⟩
end Go.Proofs.Ythlcdaopldnocaa
