/- RecipeQuotes: its walk. -/
import Derived.Test.YtonbfcpbgkpbaaaQQuote2
import Derived.Test.YtonbfcpbgkpbaaaQKnown
namespace Go.Proofs.Ytonbfcpbgkpbaaa
open Go.RowKit Go.Sort Go.Joins
set_option linter.unusedVariables false
set_option maxRecDepth 100000
set_option maxHeartbeats 2000000 in
theorem quotes_walk (s : ByteArray) (w : World) (hs : s.size ≤ 1048576) : Calls Try.prog 4 #[.string s] w fun e w' => e = .returned (.bool true) ∧ Below w.heap.size w w' := by
  have H1 := fun wx => quote_any s wx (by omega)
  have H2 := fun wx => rquote_any s wx (by omega)
  generalize textOf (quoteF (tl s)) = t at *
  go_enter Try.func4, Try.ntmps4
  go_wp2_with fail
  refine (H1 _).mono ?_; rintro e w1 ⟨rfl, hb1⟩
  go_wp2_with fail
  refine (H2 _).mono ?_; rintro e w2 ⟨rfl, hb2⟩
  go_wp2_with fail
  refine (known_any w2).mono ?_; rintro e w3 ⟨rfl, hb3⟩
  go_wp2_with fail
  go_ret
  exact ⟨rfl, (hb1.trans (hb2.mono hb1.size)).trans (hb3.mono (Nat.le_trans hb1.size hb2.size))⟩
end Go.Proofs.Ytonbfcpbgkpbaaa
