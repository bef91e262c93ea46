/-
  Small words on what stays below a block. No condition.
-/
import Derived.Test.YtfahoneccglloaaDoorBase
namespace Go.Proofs.YtfahoneccglloaaDoor
open Go.RowKit
theorem below_drewN {B : Nat} {a b : World} (h : Below B a b) (n : Nat) : Below B a (b.drewN n) := h.trans ⟨rfl, rfl, rfl, Nat.le_refl _, fun _ _ => rfl⟩
theorem below_drew {B : Nat} {a b : World} (h : Below B a b) : Below B a b.drew := below_drewN h 1
theorem below_setCell {B : Nat} {a b : World} (h : Below B a b) {p : Addr} (hp : B ≤ p.block) (u : Value) : Below B a (b.setCell p u) := h.setCell hp u
end Go.Proofs.YtfahoneccglloaaDoor
