/-
  What within, whole, rows.Write of attributes, and Join of package attr do, in whatever memory. No condition beyond sizes that fit memory.
-/
import Derived.Test.YtjhpikbilegfaaaGreatDoorAtV
import Derived.Test.YtjhpikbilegfaaaGreatDoorAggG
namespace Go.Proofs.YtjhpikbilegfaaaGreatDoor
open Go.RowKit
set_option linter.unusedVariables false
set_option linter.unusedSimpArgs false

theorem within_any (w : World) (n lo hi : Int) : Calls Tryz.prog 25 #[.int .i64 n, .int .i64 lo, .int .i64 hi] w fun e w' => e = .returned (.bool (decide (lo ≤ n ∧ n ≤ hi))) ∧ w = w' := by
  by_cases h1 : lo ≤ n
  · by_cases h2 : n ≤ hi
    · rw [decide_eq_true (show lo ≤ n ∧ n ≤ hi from ⟨h1, h2⟩)]
      go_enter Tryz.func25, Tryz.ntmps25
      go_wp2
      go_ret
      exact ⟨rfl, rfl⟩
    · rw [decide_eq_false (show ¬ (lo ≤ n ∧ n ≤ hi) from fun h => h2 h.2)]
      go_enter Tryz.func25, Tryz.ntmps25
      go_wp2
      go_ret
      exact ⟨rfl, rfl⟩
  · rw [decide_eq_false (show ¬ (lo ≤ n ∧ n ≤ hi) from fun h => h1 h.1)]
    go_enter Tryz.func25, Tryz.ntmps25
    go_wp2
    go_ret
    exact ⟨rfl, rfl⟩
/-! ### whole -/
theorem at_twoX (w : World) (F K : Nat) : At (w.alloc (.cells #[.int .u8 (IntKind.u8.wrap (F : Int)), .int .u8 (IntKind.u8.wrap (K : Int))] 5)) w.heap.size (w.heap.size + 1) (some ⟨w.heap.size, 0, none⟩) 2 [UInt8.ofNat F, UInt8.ofNat K] := by
  rw [wrap8, wrap8]
  refine ⟨rfl, fun _ => ⟨_, _, rfl, Nat.le_refl _, by omega, fun j u hu => ?_⟩⟩
  have hB := Blk.new w 5 #[.int .u8 ((UInt8.ofNat F).toNat : Int), .int .u8 ((UInt8.ofNat K).toNat : Int)]
  rw [show (0 : Nat) + j = j by omega, hB.cell]
  match j, hu with
  | 0, hu => simp at hu; subst hu; rfl
  | 1, hu => simp at hu; subst hu; rfl
/-- what the walk of whole leans on: the box, the value -/
structure WhS (w x : World) (lo hi : Nat) (r : RawP) : Prop where
  b : Blk x w.heap.size 46 (rawC r)
  v : At x lo hi r.A r.n r.v
  bl : Below w.heap.size w x
  hh : hi ≤ w.heap.size
section
variable {w x y : World} {lo hi : Nat} {r : RawP}
theorem WhS.on (h : WhS w x lo hi r) (hb : Below x.heap.size x y) : WhS w y lo hi r := ⟨h.b.over hb, h.v.below (hb.mono (Nat.le_trans h.hh h.bl.size)), below_step h.bl hb (Nat.le_refl _), h.hh⟩
theorem WhS.new (h : WhS w x lo hi r) (o : Obj) : WhS w (x.alloc o) lo hi r := h.on ((Below.refl _ _).alloc (Nat.le_refl _) _)
theorem WhS.drew (h : WhS w x lo hi r) : WhS w x.drew lo hi r := ⟨h.b.drew, h.v.drew, below_drew h.bl, h.hh⟩
theorem WhS.c0 (h : WhS w x lo hi r) : x.cell? ⟨w.heap.size, 0, none⟩ = some (.int .i64 r.f) := h.b.cell 0
theorem WhS.c1 (h : WhS w x lo hi r) : x.cell? ⟨w.heap.size, 1, none⟩ = some (.int .i64 r.k) := h.b.cell 1
theorem WhS.c2 (h : WhS w x lo hi r) : x.cell? ⟨w.heap.size, 2, none⟩ = some (.slice r.A r.n r.c) := h.b.cell 2
end
def WholePost (w : World) (r : Rw) (e : Ending) (w' : World) : Prop :=
  ∃ v, e = .returned (.tuple #[v, .int .i64 (errRw r)]) ∧ w'.ownsRow w.heap.size 5 1 v (outRw r).length (bvs (outRw r)) ∧ Below w.heap.size w w'
theorem WholePost.no {w w' : World} {r : Rw} {k : Int} (h : errRw r = k) (hk : k ≠ 0) (hb : Below w.heap.size w w') : WholePost w r (.returned (.tuple #[.slice none 0 0, .int .i64 k])) w' := by
  refine ⟨.slice none 0 0, by rw [h], ?_, hb⟩
  unfold outRw
  rw [if_neg (by rw [h]; exact hk)]
  exact World.ownsRow_nil _ _ _ _
/-! ### rows.Write -/
def outRws (l : List Rw) : List UInt8 := if errRws l = 0 then codeRws l else []
def RawWritePost (w : World) (l : List Rw) (e : Ending) (w' : World) : Prop :=
  ∃ v, e = .returned (.tuple #[v, .int .i64 (errRws l)]) ∧ w'.ownsRow w.heap.size 5 1 v (outRws l).length (bvs (outRws l)) ∧ Below w.heap.size w w'
/-! ### Join -/
def JoinPost (w : World) (l : List Rw) (e : Ending) (w' : World) : Prop :=
  ∃ v, e = .returned (.tuple #[v, .int .i64 (joinE l)]) ∧ w'.ownsRow w.heap.size 5 1 v (joinB l).length (bvs (joinB l)) ∧ Below w.heap.size w w'
end Go.Proofs.YtjhpikbilegfaaaGreatDoor
