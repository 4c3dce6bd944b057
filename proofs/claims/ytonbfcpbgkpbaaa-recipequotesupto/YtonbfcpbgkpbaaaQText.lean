/- Texts of bytes. -/
import Derived.Test.YtonbfcpbgkpbaaaOApp
import Derived.OwnWalk
import Derived.Laws.BytesArg
import Derived.Laws.BytesString
namespace Go.Proofs.Ytonbfcpbgkpbaaa
open Go.RowKit
/-- A text of these bytes. -/
def textOf (l : List UInt8) : ByteArray := ⟨l.toArray⟩
theorem text_bytes {P : Program} (src e dst : TypeId) (hs : P.underlying src = some (.slice e)) (he : P.underlying e = some (.int .u8)) (hd : P.underlying dst = some .string)
    (b off cap : Nat) (l : List UInt8) (w : World) (hc : ∀ j, j < l.length → w.cell? ⟨b, off + j, none⟩ = some (.int .u8 ((l.getD j 0).toNat : Int))) :
    (convert src dst (.slice (some ⟨b, off, none⟩) l.length cap)).run P w = .ok (.string (textOf l)) w := by
  have h := run_convert_bytes_arg (P := P) w src e hs he b off l.length cap (l.map fun c => (c.toNat : Int)) (by simp) (fun j hj => by
    rw [hc j hj]; simp [List.getD, List.getElem?_eq_getElem hj]) dst hd
  rw [h]
  congr 2
  simp [strOfNums, textOf, List.map_map]
  apply List.ext_getElem
  · simp
  · intro j h1 h2; simp
theorem text_zero {P : Program} (src e dst : TypeId) (hs : P.underlying src = some (.slice e)) (he : P.underlying e = some (.int .u8)) (hd : P.underlying dst = some .string)
    (a : Option Addr) (cap : Nat) (w : World) : (convert src dst (.slice a 0 cap)).run P w = .ok (.string (textOf [])) w := by
  cases a with
  | none => exact run_convert_bytes_nil (P := P) w src e hs he 0 cap dst hd
  | some x =>
    have hl : (loadCells x 0).run P w = .ok #[] w := by rfl
    rw [run_convert_bytes_string w src dst e _ 0 cap hs he hd, run_bytesToString w x 0 cap [] (by simpa using hl)]
    rfl
end Go.Proofs.Ytonbfcpbgkpbaaa
