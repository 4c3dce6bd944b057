/- lru.New: its contract. -/
import Derived.Test.YtafhgigkhbcnjaaLuKFind
import Derived.Carry
namespace Go.Proofs.Ytafhgigkhbcnjaa.LU.K
open Go.RowKit Go.Joins Go.Sort Go.Maps
set_option linter.unusedVariables false
set_option linter.unusedSimpArgs false
set_option maxRecDepth 100000
/-- A cache, as its blocks F and what it keeps. -/
def Lru (w : World) (x c : Nat) (F : Nat → Prop) (l : List (κ × Int)) : Prop :=
  ∃ mb kn bl key val f, Ca w x c mb kn bl key val f ∧ l = rowsOf key val bl ∧ F x ∧ F mb ∧ F kn ∧ (∀ i ∈ bl, F i) ∧ (∀ i, F i → i < w.heap.size) ∧ bl.length ≤ c ∧ ∀ i, F i → i = x ∨ i = mb ∨ i = kn ∨ i ∈ bl
theorem Lru.tu {w w' : World} {x c : Nat} {F G : Nat → Prop} {l : List (κ × Int)} (h : Lru w x c F l) (ht : Tu G w w') (hd : ∀ i, F i → ¬ G i) : Lru w' x c F l := by
  obtain ⟨mb, kn, bl, key, val, f, h1, h2, h3, h4, h5, h6, h7, h8, h9⟩ := h
  refine ⟨mb, kn, bl, key, val, f, h1.kept (ht.block x (h7 x h3) (hd x h3)) (ht.block mb (h7 mb h4) (hd mb h4)) (fun e he => ?_), h2, h3, h4, h5, h6, fun i hi => Nat.lt_of_lt_of_le (h7 i hi) ht.size, h8, h9⟩
  have : F e := by
    rcases List.mem_cons.1 he with rfl | he
    · exact h5
    · exact h6 e he
  exact ht.block e (h7 e this) (hd e this)
/-- A block of another type is none of the cache's. -/
theorem Lru.apart {w : World} {x c : Nat} {F : Nat → Prop} {l : List (κ × Int)} (h : Lru w x c F l) {g : Nat} {cur : Array Value} {t : TypeId} (hg : w.heap[g]? = some (.cells cur t (0, 0))) (h1 : t ≠ 75) (h2 : t ≠ 72) : ¬ F g := by
  obtain ⟨mb, kn, bl, key, val, f, k1, k2, k3, k4, k5, k6, k7, k8, k9⟩ := h
  intro hF
  obtain ⟨p, q, e1, _⟩ := k1.es
  have he : ∀ i ∈ kn :: bl, i ≠ g := fun i hi e => by
    have := e1 i hi
    rw [e, hg] at this
    injection this with this
    injection this with _ this _
    exact h2 this
  rcases k9 g hF with e | e | e | e
  · have := k1.own
    unfold CaAt at this
    rw [← e, hg] at this
    injection this with this
    injection this with _ this _
    exact h1 this
  · obtain ⟨es, cl, this⟩ := k1.map.isMap
    rw [← e, hg] at this
    cases this
  · exact he kn List.mem_cons_self e.symm
  · exact he g (List.mem_cons_of_mem _ e) rfl
theorem Lru.below {w w' : World} {x c : Nat} {F : Nat → Prop} {l : List (κ × Int)} (h : Lru w x c F l) (hb : Below w.heap.size w w') : Lru w' x c F l :=
  h.tu (G := fun _ => False) (Tu.of_below hb) (fun _ _ h => h)
theorem Lru.len {w : World} {x c : Nat} {F : Nat → Prop} {l : List (κ × Int)} (h : Lru w x c F l) : l.length ≤ c ∧ c ≤ 4096 := by
  obtain ⟨mb, kn, bl, key, val, f, h1, rfl, _, _, _, _, _, h8, _⟩ := h
  rw [rows_length]
  exact ⟨h8, h1.room⟩
set_option maxHeartbeats 1000000 in
theorem new_no (c : Int) (hc : c < 0 ∨ 4096 < c) (W : World) :
    Calls Try.prog 12 #[.int .i64 c] W fun e w' => e = .returned (.tuple #[.pointer none, .int .i64 1]) ∧ w' = W := by
  by_cases h0 : c < 0
  · have d0 : decide (c < 0) = true := decide_eq_true h0
    clear h0 hc
    go_enter Try.func12, Try.ntmps12
    go_wp2_with fail
    exact bodyPost_ret (v := .tuple #[.pointer none, .int .i64 1]) (by simp [results, Try.results12]) rfl ⟨rfl, rfl⟩
  · have d0 : decide (c < 0) = false := decide_eq_false h0
    have d1 : decide (4096 < c) = true := decide_eq_true (by omega)
    clear h0 hc
    go_enter Try.func12, Try.ntmps12
    go_wp2_with fail
    exact bodyPost_ret (v := .tuple #[.pointer none, .int .i64 1]) (by simp [results, Try.results12]) rfl ⟨rfl, rfl⟩
set_option maxHeartbeats 1000000 in
theorem new_any (c : Nat) (hc : c ≤ 4096) (W : World) :
    Calls Try.prog 12 #[.int .i64 (c : Nat)] W fun e w' => ∃ x F, e = .returned (.tuple #[.pointer (some ⟨x, 0, none⟩), .int .i64 0]) ∧ Lru w' x c F [] ∧ (∀ i, F i → W.heap.size ≤ i) ∧ Below W.heap.size W w' := by
  have d0 : decide ((c : Int) < 0) = false := decide_eq_false (by omega)
  have d1 : decide (4096 < (c : Int)) = false := decide_eq_false (by omega)
  have d2 : decide (4096 < c) = false := decide_eq_false (by omega)
  go_enter Try.func12, Try.ntmps12
  go_upto_region 5 with fail
  obtain ⟨N, hN⟩ : ∃ N, N = W.heap.size := ⟨_, rfl⟩
  rw [← hN]
  obtain ⟨W1, hW1⟩ : ∃ W1, W1 = W.alloc (.cells (ec (0, 0) 0 N N) 72 (0, 0)) := ⟨_, rfl⟩
  have e1 : W.alloc (.cells #[.int .i64 0, .int .i64 0, .int .i64 0, .pointer (some ⟨N, 0, none⟩), .pointer (some ⟨N, 0, none⟩)] 72 (0, 0)) = W1 := hW1.symm
  rw [e1]
  have hs1 : W1.heap.size = N + 1 := by rw [hW1, World.size_alloc, hN]
  have h0 : W1.heap[N]? = some (.cells (ec (0, 0) 0 N N) 72 (0, 0)) := by rw [hW1, hN]; exact heap_alloc_new W _
  have b1 : Below N W W1 := by rw [hW1, hN]; exact (Below.refl _ _).alloc (Nat.le_refl _) _
  have HN : Hid (N = W.heap.size) := hN
  clear hN hW1 e1
  have hm0 := MapP.made W1
  have b2 := b1.alloc (by omega) (.map #[] 0)
  have h1 : (W1.alloc (.map #[] 0)).heap[N]? = some (.cells (ec (0, 0) 0 N N) 72 (0, 0)) := (Below.heap_alloc W1 _ N (by omega)).trans h0
  have hs2 : (W1.alloc (.map #[] 0)).heap.size = N + 2 := by rw [World.size_alloc, hs1]
  rw [hs1] at hm0
  obtain ⟨W2, hW2⟩ : ∃ W2, W2 = W1.alloc (.map #[] 0) := ⟨_, rfl⟩
  have hrun : (Instr.makeMap 73 none).run Try.prog W1 = .ok (.map (some (N + 1))) W2 := by
    rw [hW2, ← hs1]; rfl
  rw [← hW2] at hm0 b2 h1 hs2
  have HW2 : Hid (W2 = W1.alloc (.map #[] 0)) := hW2
  clear hW2 h0 b1 hs1
  have HS2 : Hid (W2.heap.size = N + 2) := hs2
  go_wp2_with fail
  obtain ⟨W3, hW3⟩ : ∃ W3, W3 = W2.alloc (.cells #[.int .i64 (c : Nat), .map (some (N + 1)), .pointer (some ⟨N, 0, none⟩)] 75 (0, 0)) := ⟨_, rfl⟩
  have h3 : CaAt W3 (N + 2) c (N + 1) N := by
    unfold CaAt
    rw [hW3, ← HS2.out]
    exact heap_alloc_new W2 _
  have b3 : Below N W W3 := by
    rw [hW3]
    exact b2.alloc (by have := HS2.out; omega) _
  have h4 : W3.heap[N]? = some (.cells (ec (0, 0) 0 N N) 72 (0, 0)) := by
    rw [hW3]
    exact (Below.heap_alloc W2 _ N (by have := HS2.out; omega)).trans h1
  have hm3 : MapP W3 (N + 1) 0 (fun _ => none) := hm0.kept (by rw [hW3]; exact Below.heap_alloc W2 _ (N + 1) (by have := HS2.out; omega))
  have hs3 : W3.heap.size = N + 3 := by rw [hW3, World.size_alloc, HS2.out]
  rw [← hW3]
  refine bodyPost_ret (v := .tuple #[.pointer (some ⟨N + 2, 0, none⟩), .int .i64 0]) (by simp [results, Try.results12]) rfl ⟨N + 2, fun i => i = N ∨ i = N + 1 ∨ i = N + 2, rfl, ⟨N + 1, N, [], fun _ => (0, 0), fun _ => 0, fun _ => none, ⟨h3, ⟨fun _ => N, fun _ => N, fun e he => ?_, ⟨⟨rfl, rfl⟩, trivial⟩⟩, by simp, hm3, by simp, by simp, by simp, hc⟩, rfl, .inr (.inr rfl), .inr (.inl rfl), .inl rfl, by simp, fun i hi => ?_, by simp, fun i hi => ?_⟩, fun i hi => ?_, ?_⟩
  · obtain rfl : e = N := by simpa using he
    exact h4
  · rw [hs3]
    rcases hi with rfl | rfl | rfl <;> omega
  · rcases hi with hi | hi | hi
    · exact .inr (.inr (.inl hi))
    · exact .inr (.inl hi)
    · exact .inl hi
  · have := HN.out
    rcases hi with rfl | rfl | rfl <;> omega
  · rw [← HN.out]; exact b3
end Go.Proofs.Ytafhgigkhbcnjaa.LU.K
