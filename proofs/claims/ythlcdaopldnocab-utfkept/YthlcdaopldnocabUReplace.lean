/- utf.Replace: its contract. -/
import Derived.Test.YthlcdaopldnocabUTail
import Derived.Test.YthlcdaopldnocabText
import Derived.OwnWalk
namespace Go.Proofs.Ythlcdaopldnocab
open Go.RowKit
open Go.Joins
/-- How many bytes are replaced or taken at once. -/
def stepL (l : List UInt8) : Nat := max (front l).1 1
theorem stepL_pos (l : List UInt8) : 1 ≤ stepL l := Nat.le_max_right _ _
theorem stepL_le (l : List UInt8) (h : l ≠ []) : stepL l ≤ l.length := by
  have := (front_le l).1
  have h0 := List.length_pos_iff.2 h
  unfold stepL; omega
/-- What Replace makes of a text, in so many steps. -/
def replF : Nat → List UInt8 → List UInt8
  | 0, _ => []
  | f + 1, l => if l = [] then [] else (if (front l).2 = true then l.take (stepL l) else [239, 191, 189]) ++ replF f (l.drop (stepL l))
theorem replF_any (n : Nat) : ∀ (l : List UInt8) (f g : Nat), l.length ≤ n → l.length ≤ f → l.length ≤ g → replF f l = replF g l := by
  induction n with
  | zero =>
    intro l f g h _ _
    have h0 : l = [] := List.length_eq_zero_iff.1 (by omega)
    subst h0
    cases f <;> cases g <;> simp [replF]
  | succ n ih =>
    intro l f g h hf hg
    by_cases h0 : l = []
    · subst h0
      cases f <;> cases g <;> simp [replF]
    · have h1 := List.length_pos_iff.2 h0
      have h2 := stepL_pos l
      obtain ⟨f, rfl⟩ : ∃ k, f = k + 1 := ⟨f - 1, by omega⟩
      obtain ⟨g, rfl⟩ : ∃ k, g = k + 1 := ⟨g - 1, by omega⟩
      unfold replF
      rw [if_neg h0, if_neg h0, ih (l.drop (stepL l)) f g (by simp; omega) (by simp; omega) (by simp; omega)]
/-- What Replace makes of a text. -/
def replL (l : List UInt8) : List UInt8 := replF l.length l
theorem replL_nil : replL [] = [] := rfl
theorem replL_cons (l : List UInt8) (h : l ≠ []) : replL l = (if (front l).2 = true then l.take (stepL l) else [239, 191, 189]) ++ replL (l.drop (stepL l)) := by
  have h1 := List.length_pos_iff.2 h
  have h2 := stepL_pos l
  unfold replL
  obtain ⟨k, hk⟩ : ∃ k, l.length = k + 1 := ⟨l.length - 1, by omega⟩
  rw [hk, replF, if_neg h, replF_any _ (l.drop (stepL l)) k _ (Nat.le_refl _) (by simp; omega) (Nat.le_refl _)]
theorem tl_first (s : ByteArray) (n : Nat) : tl (s.extract 0 n) = (tl s).take n := by
  rw [tl_extract]; simp
theorem tl_rest (s : ByteArray) (n : Nat) : tl (s.extract n s.size) = (tl s).drop n := by
  rw [tl_extract, List.take_of_length_le (by simp)]
theorem OwnS.text {w : World} {base : Nat} {v : Value} {l : List UInt8} (h : OwnS w base v l) : (convert 24 9 v).run Try.prog w = .ok (.string (textOf l)) w := by
  by_cases hl : 0 < l.length
  · obtain ⟨g, cap, rfl, _, _, _, _, hbs⟩ := h.form hl
    rcases hbs with rfl | ⟨b, off, he, hc⟩
    · simp at hl
    · obtain ⟨rfl, rfl⟩ : g = b ∧ 0 = off := by simpa using he
      exact text_bytes (P := Try.prog) 24 5 9 Try.underlying24 Try.underlying5 Try.underlying9 g 0 cap l w hc
  · have h0 : l = [] := List.length_eq_zero_iff.1 (by omega)
    subst h0
    rcases h.2 with ⟨rfl, _⟩ | ⟨g, cap, cur, rfl, _⟩
    · exact text_zero (P := Try.prog) 24 5 9 Try.underlying24 Try.underlying5 Try.underlying9 none 0 w
    · exact text_zero (P := Try.prog) 24 5 9 Try.underlying24 Try.underlying5 Try.underlying9 (some ⟨g, 0, none⟩) cap w
def strLen : Value → Nat
  | .string t => t.size
  | _ => 0
set_option maxHeartbeats 400000 in
theorem replace_any (s : ByteArray) (w : World) (hs : s.size ≤ 46912496118442) : Calls Try.prog 16 #[.string s] w fun e w' => e = .returned (.string (textOf (replL (tl s)))) ∧ Below w.heap.size w w' := by
  obtain ⟨i0, hi, hz0, hz1, hz2⟩ := info_parts info5
  obtain ⟨w1, hmk, ho1, hg1⟩ := run_make_own (P := Try.prog) w w.heap.size 24 5 i0 (.int .u8 0) 1 Try.underlying24 hi hz0 hz1 .i64 .i64 s.size (by rw [hz2]; omega) (by unfold maxLen; omega) (Nat.le_refl _)
  go_enter Try.func16, Try.ntmps16
  go_wp2_with fail
  go_loopw [0, 4] (fun x o wr => ∃ t out, x = .string t ∧ OwnS wr w.heap.size o out ∧ Below w.heap.size w wr ∧ out ++ replL (tl t) = replL (tl s) ∧ out.length + 3 * t.size ≤ 3 * s.size) (fun x _ _ => strLen x)
  case atStart => exact ⟨s, [], rfl, ho1, (Below.refl _ _).grown hg1 (Nat.le_refl _) (fun k hk => by cases hk), rfl, by simp⟩
  case round =>
    obtain ⟨t, out, rfl, ho, hb, he, hsz⟩ := hrel
    by_cases ht : 0 < t.size
    · have hne := not_empty t ht
      have hF := front_any t
      have HE : Hid (out ++ replL (tl t) = replL (tl s)) := he
      clear he hmk ho1 hg1
      have hle := front_le (tl t)
      rw [tl_len] at hle
      obtain ⟨⟨n, b⟩, hr⟩ : ∃ r, r = front (tl t) := ⟨_, rfl⟩
      rw [← hr] at hF hle
      have HR : Hid (front (tl t) = (n, b)) := hr.symm
      clear hr
      obtain ⟨hle1, hle2, hle3, hle4⟩ := hle
      simp only at hle1 hle2 hle3 hle4
      have hts : t.size ≤ 9223372036854775807 := by omega
      have hne' : tl t ≠ [] := fun h => by have := tl_len t; rw [h] at this; simp at this; omega
      cases b with
      | true =>
        have hn1 := hle3 rfl
        clear hle3 hle4
        have HC : Hid ((out ++ (tl t).take n) ++ replL ((tl t).drop n) = replL (tl s)) := by
          rw [← HE.out, replL_cons _ hne', HR.out, if_pos rfl, List.append_assoc]
          unfold stepL
          rw [HR.out, Nat.max_eq_left hn1]
          exact rfl
        clear HE HR hne'
        go_wp2_with (first
          | (go_at_call 15; refine (hF _ hts).mono ?_; rintro e w2 ⟨rfl, rfl⟩)
          | (at_builtin; obtain ⟨v2, w3, hr2, ho2, hb2⟩ := run_own_text _ _ _ out (t.extract 0 n) ho hb.size (by simp; omega); refine wpList_append_run rfl (.tmp 21) (.tmp 24) 24 9 rfl _ _ rfl rfl v2 w3 hr2 ?_))
        go_roundw
        case rel =>
          refine ⟨t.extract n t.size, out ++ (tl t).take n, rfl, ?_, hb.trans hb2, ?_, ?_⟩
          · rw [← tl_first t n]
            exact ho2
          · rw [tl_rest]; exact HC.out
          · simp; omega
        case measure => simp [strLen]; omega
      | false =>
        have HC : Hid ((out ++ [239, 191, 189]) ++ replL ((tl t).drop (max n 1)) = replL (tl s)) := by
          rw [← HE.out, replL_cons _ hne', HR.out, if_neg (by simp), List.append_assoc]
          unfold stepL
          rw [HR.out]
          exact rfl
        clear HE HR hne' hle3 hle4
        rcases Nat.eq_zero_or_pos n with rfl | hn1
        · go_wp2_with (first
            | (go_at_call 15; refine (hF _ hts).mono ?_; rintro e w2 ⟨rfl, rfl⟩)
            | (at_builtin; obtain ⟨v2, w3, hr2, ho2, hb2⟩ := run_own_text _ _ _ out ⟨#[239, 191, 189]⟩ ho hb.size (by simp [ByteArray.size]; omega); refine wpList_append_run rfl (.tmp 26) (.tmp 27) 24 9 rfl _ _ rfl rfl v2 w3 hr2 ?_))
          go_roundw
          case rel =>
            refine ⟨t.extract 1 t.size, out ++ [239, 191, 189], rfl, ho2, hb.trans hb2, ?_, ?_⟩
            · rw [tl_rest]; exact HC.out
            · simp; omega
          case measure => simp [strLen]; omega
        · have hmx : max n 1 = n := by omega
          rw [hmx] at HC
          clear hmx
          go_wp2_with (first
            | (go_at_call 15; refine (hF _ hts).mono ?_; rintro e w2 ⟨rfl, rfl⟩)
            | (at_builtin; obtain ⟨v2, w3, hr2, ho2, hb2⟩ := run_own_text _ _ _ out ⟨#[239, 191, 189]⟩ ho hb.size (by simp [ByteArray.size]; omega); refine wpList_append_run rfl (.tmp 26) (.tmp 27) 24 9 rfl _ _ rfl rfl v2 w3 hr2 ?_))
          go_roundw
          case rel =>
            refine ⟨t.extract n t.size, out ++ [239, 191, 189], rfl, ho2, hb.trans hb2, ?_, ?_⟩
            · rw [tl_rest]; exact HC.out
            · simp; omega
          case measure => simp [strLen]; omega
    · have hem := is_empty t (by omega)
      have h0 : tl t = [] := List.length_eq_zero_iff.1 (by rw [tl_len]; omega)
      rw [h0, replL_nil, List.append_nil] at he
      have HC : Hid (out = replL (tl s)) := he
      have hcv := ho.text
      clear he h0
      go_wp2_with fail
      go_ret
      exact ⟨by rw [← HC.out]; rfl, hb⟩
end Go.Proofs.Ythlcdaopldnocab
