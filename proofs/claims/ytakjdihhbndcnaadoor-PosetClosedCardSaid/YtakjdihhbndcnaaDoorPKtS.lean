/- A set that comes in as an argument. -/
import Derived.Test.YtakjdihhbndcnaaDoorPKit
namespace Go.Proofs.YtakjdihhbndcnaaDoor
open Go.ChangeShapes Go.WideShapes Go.ChangeAt Go.RowKit
theorem set_in {H : Type} {enc : TypeId × Value → H} {W : World} {base b0 : Nat} {spare : Nat → Bool} {held : Bool} {v : Value} {d : DataW H} {p : List MemPlace}
    (hv : Value.okWide Tryd.prog W .any base 37 v) (h : DataW.Trod enc Tryd.prog W b0 spare held 37 v d p) :
    ∃ (N : Int) (A : Option Addr) (len cap : Nat) (f : Nat → Nat), v = .agg #[.int .i64 N, .slice A len cap] ∧ Wds W A len f := by
  obtain ⟨cs, rfl, hsz⟩ := okWide_struct Tryd.underlying37 hv
  obtain ⟨fuel, hf⟩ := h
  obtain ⟨l⟩ := cs
  match l, hsz.trans cells37 with
  | [u, v], _ =>
    obtain ⟨r, rfl, rfl, hw⟩ := row_in hf
    exact ⟨r.N, r.A, r.l, r.c, r.f, rfl, hw⟩
end Go.Proofs.YtakjdihhbndcnaaDoor
