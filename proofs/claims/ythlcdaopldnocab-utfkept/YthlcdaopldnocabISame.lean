/- tesserabook.Same of items: of lists that are alike: its contract. -/
import Derived.Test.YthlcdaopldnocabIBook
import Derived.Test.YthlcdaopldnocabUKnown
import Derived.WalkSpells
import Derived.WalkLawsBesides
import Derived.Deep.QuietTactic
import Derived.BigQuiet
namespace Go.Proofs.Ythlcdaopldnocab
open Go.RowKit
theorem ItAt.below {W W' : World} {g i : Nat} {x : It} (h : ItAt W g i x) (hb : Below W.heap.size W W') : ItAt W' g i x := by
  obtain ⟨h0, h1, h2, h3⟩ := h
  exact ⟨(hb.cell (World.block_lt_of_cell? W _ h0)).trans h0, (hb.cell (World.block_lt_of_cell? W _ h1)).trans h1, (hb.cell (World.block_lt_of_cell? W _ h2)).trans h2, (hb.cell (World.block_lt_of_cell? W _ h3)).trans h3⟩
/-- The slice that begins at a holds the items l. -/
def ITS (w : World) (a : Option Addr) (l : List It) : Prop := l = [] ∨ ∃ g, a = some ⟨g, 0, none⟩ ∧ ∀ i x, l[i]? = some x → ItAt w g i x
theorem OwnI.its {T : TypeId} {w : World} {base : Nat} {v : Value} {l : List It} (h : OwnI T w base v l) : ∃ a cap, v = .slice a l.length cap ∧ ITS w a l ∧ l.length ≤ cap := by
  by_cases hl : l = []
  · have h0 := h.2.2 hl
    subst hl
    exact ⟨none, 0, h0, .inl rfl, Nat.le_refl _⟩
  · obtain ⟨g, cap, hv, _, _, hc, _, hi⟩ := h.form hl
    exact ⟨_, cap, hv, .inr ⟨g, rfl, hi⟩, hc⟩
set_option maxHeartbeats 800000 in
theorem isame_eq (a b : Option Addr) (ca cb : Nat) (l : List It) (w : World) (hlen : l.length ≤ 9223372036854775807) (ha : ITS w a l) (hb : ITS w b l) :
    Calls Try.prog 18 #[.slice a l.length ca, .slice b l.length cb] w fun e w' => e = .returned (.bool true) ∧ Below w.heap.size w w' := by
  obtain ⟨n, hn⟩ : ∃ n, n = l.length := ⟨_, rfl⟩
  have HN : Hid (n = l.length) := hn
  rw [← hn] at hlen ⊢
  clear hn
  go_enter Try.func18, Try.ntmps18
  go_wp2
  go_loopw [5] (fun i wr => ∃ k : Nat, k ≤ n ∧ i = .int .i64 k ∧ Below w.heap.size w wr) (fun i _ => n - (intOf i).toNat)
  case atStart => exact ⟨0, Nat.zero_le _, rfl, Below.refl _ _⟩
  case round =>
    obtain ⟨k, hk, rfl, hbr⟩ := hrel
    by_cases hlt : k < n
    · have hkl : k < l.length := by rw [← HN.out]; exact hlt
      have hne : l ≠ [] := fun e => by subst e; simp at hkl
      rcases ha with h | ⟨ga, rfl, ha⟩
      · exact absurd h hne
      rcases hb with h | ⟨gb, rfl, hb⟩
      · exact absurd h hne
      obtain ⟨x, hx⟩ : ∃ x, l[k]? = some x := ⟨l[k], List.getElem?_eq_getElem hkl⟩
      obtain ⟨a0, a1, a2, a3⟩ := (ha k x hx).below hbr
      obtain ⟨b0, b1, b2, b3⟩ := (hb k x hx).below hbr
      clear ha hb hne hkl hx
      go_wp2
      go_quiet (fail)
      go_wp2
      exact ⟨⟨k + 1, by omega, by go_num, below_drewN hbr nq⟩, by simp [intOf]; omega⟩
    · have hkn : k = n := by omega
      subst hkn
      clear ha hb
      go_wp2
      go_ret
      exact ⟨rfl, hbr⟩
end Go.Proofs.Ythlcdaopldnocab
