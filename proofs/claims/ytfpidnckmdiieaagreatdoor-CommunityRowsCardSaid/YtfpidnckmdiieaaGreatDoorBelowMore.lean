/-
  Small words on what stays below a block. No condition.
-/
import Derived.Test.YtfpidnckmdiieaaGreatDoorBase
namespace Go.Proofs.YtfpidnckmdiieaaGreatDoor
open Go.RowKit
theorem below_drewN {B : Nat} {a b : World} (h : Below B a b) (n : Nat) : Below B a (b.drewN n) := h.trans ⟨rfl, rfl, rfl, Nat.le_refl _, fun _ _ => rfl⟩
theorem below_drew {B : Nat} {a b : World} (h : Below B a b) : Below B a b.drew := below_drewN h 1
theorem below_setCell {B : Nat} {a b : World} (h : Below B a b) {p : Addr} (hp : B ≤ p.block) (u : Value) : Below B a (b.setCell p u) := h.setCell hp u
theorem below_made {B : Nat} {a w x : World} (h : Below B a w) (hB : B ≤ a.heap.size) (o : Obj) {q : Nat} (hg : (w.alloc o).grownBy x (some q)) (hq : w.heap.size ≤ q) : Below B a x :=
  (h.alloc (Nat.le_trans hB h.size) o).grown hg (by have := h.size; simp; omega) (by intro e he; injection he with he; subst he; exact Nat.le_trans (Nat.le_trans hB h.size) hq)
theorem Blk.over {w x : World} {g : Nat} {t : TypeId} {cs : Array Value} (h : Blk w g t cs) (hb : Below w.heap.size w x) : Blk x g t cs := h.below hb h.lt
theorem Blk.stays {w x : World} {g q : Nat} {t : TypeId} {cs : Array Value} (h : Blk w g t cs) (o : Obj) (hg : (w.alloc o).grownBy x (some q)) (hq : w.heap.size ≤ q) : Blk x g t cs :=
  (h.alloc o).grown hg (by intro e; injection e with e; have := h.lt; omega)
theorem Blk.on {w x : World} {g : Nat} {t : TypeId} {cs : Array Value} (h : Blk w g t cs) (hb : Below w.heap.size w x) : Blk x g t cs := h.below hb h.lt
theorem Blk.kept {w x : World} {g q : Nat} {t : TypeId} {cs : Array Value} (h : Blk w g t cs) (o : Obj) (hg : (w.alloc o).grownBy x (some q)) (hq : w.heap.size ≤ q) : Blk x g t cs :=
  (h.alloc o).grown hg (by intro e; injection e with e; have := h.lt; omega)
theorem below_new {B : Nat} {a w x : World} (h : Below B a w) (hB : B ≤ a.heap.size) (o : Obj) {q : Nat} (hg : (w.alloc o).grownBy x (some q)) (hq : w.heap.size ≤ q) : Below B a x :=
  (h.alloc (Nat.le_trans hB h.size) o).grown hg (by have := h.size; simp; omega) (by intro e he; injection he with he; subst he; exact Nat.le_trans (Nat.le_trans hB h.size) hq)
end Go.Proofs.YtfpidnckmdiieaaGreatDoor
