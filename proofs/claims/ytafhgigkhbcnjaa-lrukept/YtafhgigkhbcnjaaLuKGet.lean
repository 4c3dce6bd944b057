/- lru's Get: its contract. -/
import Derived.Test.YtafhgigkhbcnjaaLuKNew
namespace Go.Proofs.Ytafhgigkhbcnjaa.LU.K
open Go.RowKit Go.Joins Go.Sort Go.Maps
set_option linter.unusedVariables false
set_option linter.unusedSimpArgs false
set_option maxRecDepth 100000
theorem mem_move {α : Type} {l1 l2 : List α} {e i : α} : i ∈ e :: (l1 ++ l2) ↔ i ∈ l1 ++ e :: l2 := by
  simp only [List.mem_cons, List.mem_append]
  constructor
  · rintro (h | h | h)
    · exact .inr (.inl h)
    · exact .inl h
    · exact .inr (.inr h)
  · rintro (h | h | h)
    · exact .inr (.inl h)
    · exact .inl h
    · exact .inr (.inr h)
/-- One that was used goes first. -/
theorem Ca.moved {w w' : World} {x c mb kn : Nat} {l1 l2 : List Nat} {e : Nat} {key : Nat → κ} {val val' : Nat → Int} {f : κ → Option Nat} (h : Ca w x c mb kn (l1 ++ e :: l2) key val f)
    (h1 : CaAt w' x c mb kn) (h2 : w'.heap[mb]? = w.heap[mb]?) {p q : Nat → Nat} (h3 : Es w' (kn :: (l1 ++ e :: l2)) key val' p q) (h4 : Rg p q kn (e :: (l1 ++ l2))) : Ca w' x c mb kn (e :: (l1 ++ l2)) key val' f := by
  have hl : (e :: (l1 ++ l2)).length = (l1 ++ e :: l2).length := by simp; omega
  refine ⟨h1, ⟨p, q, h3.sub fun i hi => ?_, h4⟩, ?_, by rw [hl]; exact h.map.kept h2, fun k b => ?_, fun b hb => h.kw b (mem_move.1 hb), by rw [hl]; exact h.le, h.room⟩
  · rcases List.mem_cons.1 hi with rfl | hi
    · exact List.mem_cons_self
    · exact List.mem_cons_of_mem _ (mem_move.1 hi)
  · have := h.nd
    refine List.nodup_cons.2 ⟨fun hi => (List.nodup_cons.1 this).1 (mem_move.1 hi), ?_⟩
    exact (List.perm_middle.nodup_iff).1 (List.nodup_cons.1 this).2
  · rw [h.tells k b, mem_move]
/-- What both halves of a move ask. -/
theorem move_nd {kn e : Nat} {l1 l2 : List Nat} (h : (kn :: (l1 ++ e :: l2)).Nodup) : (kn :: e :: (l1 ++ l2)).Nodup :=
  List.nodup_cons.2 ⟨fun hi => (List.nodup_cons.1 h).1 (mem_move.1 hi), (List.perm_middle.nodup_iff).1 (List.nodup_cons.1 h).2⟩
set_option maxHeartbeats 2000000 in
theorem get_any (k : κ) (hk : Kw k) (x c : Nat) (F : Nat → Prop) (l : List (κ × Int)) (W : World) (h : Lru W x c F l) :
    Calls Try.prog 15 #[.pointer (some ⟨x, 0, none⟩), kv k] W fun e w' => e = .returned (.tuple #[.int .i64 ((gotL l k).getD 0), .bool (gotL l k).isSome]) ∧ Lru w' x c F (getL l k) ∧ Tu F W w' := by
  obtain ⟨mb, kn, bl, key, val, f, h1, rfl, g1, g2, g3, g4, g5, g6, g7⟩ := h
  have HF : ∀ w1, Below W.heap.size W w1 → Calls Try.prog 34 #[.pointer (some ⟨x, 0, none⟩), kv k] w1 fun e w' => e = .returned (pv (f k)) ∧ Below w1.heap.size w1 w' :=
    fun w1 hb => find_any k hk x c mb kn bl key val f w1 (h1.below hb)
  have hb0 := (Below.refl W.heap.size W).alloc (Nat.le_refl _) (.cells #[.int .i64 k.1, .int .i64 k.2] 36)
  have HC : Hid (Ca W x c mb kn bl key val f) := h1
  cases hf : f k with
  | none =>
    rw [hf] at HF
    have hno : ∀ b ∈ bl, key b ≠ k := fun b hb e => by
      have := (h1.tells k b).2 ⟨hb, e⟩
      rw [hf] at this
      cases this
    have e1 : gotL (rowsOf key val bl) k = none := got_no hno
    have e2 : getL (rowsOf key val bl) k = rowsOf key val bl := by unfold getL; rw [e1]
    rw [e1, e2]
    have HQ : Hid (∀ w1, Below W.heap.size W w1 → Lru w1 x c F (rowsOf key val bl)) := fun w1 hb =>
      ⟨mb, kn, bl, key, val, f, h1.below hb, rfl, g1, g2, g3, g4, fun i hi => Nat.lt_of_lt_of_le (g5 i hi) hb.size, g6, g7⟩
    clear e1 e2 hno hf h1 g1 g2 g3 g4 g5 g6 g7 hk HC
    unfold kv at HF ⊢
    unfold pv at HF
    go_enter Try.func15, Try.ntmps15
    go_wp2_with fail
    refine (HF _ hb0).mono ?_
    rintro e w1 ⟨rfl, hb1⟩
    have hb2 := hb0.trans (hb1.mono (by simp))
    clear HF
    go_wp2_with fail
    exact bodyPost_ret (v := .tuple #[.int .i64 0, .bool false]) (by simp [results, Try.results15]) rfl ⟨rfl, HQ.out w1 hb2, Tu.of_below hb2⟩
  | some e =>
    rw [hf] at HF
    obtain ⟨he, rfl⟩ := (h1.tells k e).1 hf
    have hkeys := h1.keys
    obtain ⟨l1, l2, rfl⟩ := List.append_of_mem he
    have e1 : gotL (rowsOf key val (l1 ++ e :: l2)) (key e) = some (val e) := got_rows hkeys he
    have e2 : getL (rowsOf key val (l1 ++ e :: l2)) (key e) = rowsOf key val (e :: (l1 ++ l2)) := by
      unfold getL
      rw [e1]
      show (key e, val e) :: without (key e) _ = _
      rw [without_rows hkeys]
      rfl
    rw [e1, e2]
    obtain ⟨v, hv⟩ : ∃ v, v = val e := ⟨_, rfl⟩
    have HV : Hid (v = val e) := hv
    rw [← hv]
    have HFS : Hid (∀ i ∈ kn :: (l1 ++ e :: l2), F i) := fun i hi => by
      rcases List.mem_cons.1 hi with rfl | hi
      · exact g3
      · exact g4 i hi
    have HE : Hid (∀ w', Ca w' x c mb kn (e :: (l1 ++ l2)) key val f → W.heap.size ≤ w'.heap.size → Lru w' x c F (rowsOf key val (e :: (l1 ++ l2)))) := fun w' hc hs =>
      ⟨mb, kn, _, key, val, f, hc, rfl, g1, g2, g3, fun i hi => g4 i (mem_move.1 hi), fun i hi => Nat.lt_of_lt_of_le (g5 i hi) hs, by simp at g6 ⊢; omega, fun i hi => by rw [mem_move]; exact g7 i hi⟩
    clear e1 e2 hv hkeys he hf h1 g1 g2 g3 g4 g5 g6 g7 hk
    obtain ⟨kk, hkk⟩ : ∃ kk, kk = key e := ⟨_, rfl⟩
    rw [← hkk] at HF hb0 ⊢
    clear hkk
    unfold kv at HF ⊢
    unfold pv at HF
    go_enter Try.func15, Try.ntmps15
    go_wp2_with fail
    refine (HF _ hb0).mono ?_
    rintro e w1 ⟨rfl, hb1⟩
    have hb2 := hb0.trans (hb1.mono (by simp))
    clear HF hb0
    go_wp2_with fail
    have C1 := HC.out.below hb2
    obtain ⟨p, q, L1, R1⟩ := C1.es
    have he : e ∈ l1 ++ e :: l2 := by simp
    have hm := rg_mem R1 he
    refine (cut_any _ key val p q e w1 L1 (List.mem_cons_of_mem _ he) hm.1 hm.2).mono ?_
    rintro _ w2 ⟨rfl, L2, T2⟩
    have R2 := rg_cut C1.nd R1
    have O2 : CaAt w2 x c mb kn := (T2.block x C1.own.lt (fun hi => C1.xe hi rfl)).trans C1.own
    have HS2 : Hid (w1.heap.size ≤ w2.heap.size) := T2.size
    have HM2 : Hid (w2.heap[mb]? = w1.heap[mb]?) := T2.block mb C1.map.lt (fun hi => C1.mbe hi rfl)
    have HR2 : Hid (Rg (upd p (q e) (p e)) (upd q (p e) (q e)) kn (l1 ++ l2)) := R2
    have HL2 : Hid (Es w2 (kn :: (l1 ++ e :: l2)) key val (upd p (q e) (p e)) (upd q (p e) (q e))) := L2
    have HT2 : Hid (Tu F W w2) := (Tu.of_below hb2).trans' T2 (fun i hi => .inl (HFS.out i hi))
    have HC1 : Hid (Ca w1 x c mb kn (l1 ++ e :: l2) key val f) := C1
    have HO2 : Hid (CaAt w2 x c mb kn) := O2
    unfold CaAt at O2
    have c2 := cell_of_block O2 (i := 2)
    clear R2 L2 T2 L1 R1 C1 O2 hm he hb2
    go_wp2_with fail
    have R3 := rg_link (move_nd HC1.out.nd) HR2.out
    have hq : upd q (p e) (q e) kn ∈ kn :: (l1 ++ e :: l2) := by
      rcases List.mem_cons.1 R3.2 with h' | h'
      · rw [h']; exact List.mem_cons_self
      · exact List.mem_cons_of_mem _ (mem_move.1 (List.mem_cons_of_mem _ h'))
    refine (link_any _ key val _ _ kn e w2 HL2.out List.mem_cons_self (List.mem_cons_of_mem _ (by simp)) hq).mono ?_
    rintro _ w3 ⟨rfl, L3, T3⟩
    have O3 : CaAt w3 x c mb kn := (T3.block x HO2.out.lt (fun hi => HC1.out.xe hi rfl)).trans HO2.out
    have c3 := L3.value (List.mem_cons_of_mem kn (by simp : e ∈ l1 ++ e :: l2))
    rw [← HV.out] at c3
    have HT3 : Hid (Tu F W w3) := HT2.out.trans' T3 (fun i hi => .inl (HFS.out i hi))
    have HC3 : Hid (Ca w3 x c mb kn (e :: (l1 ++ l2)) key val f) := HC1.out.moved O3 ((T3.block mb (Nat.lt_of_lt_of_le HC1.out.map.lt HS2.out) (fun hi => HC1.out.mbe hi rfl)).trans HM2.out) L3 R3.1
    clear O3 L3 T3 R3 hq c2
    go_wp2_with fail
    exact bodyPost_ret (v := .tuple #[.int .i64 v, .bool true]) (by simp [results, Try.results15]) rfl ⟨rfl, HE.out w3 HC3.out HT3.out.size, HT3.out⟩
end Go.Proofs.Ytafhgigkhbcnjaa.LU.K
