/-
  The document's Bytes and Read of a label. The one condition: a slice of at most 4096 bytes.
-/
import Derived.Test.YtjhpikbilegfaaaGreatDoorLabRW
import Derived.Test.YtjhpikbilegfaaaGreatDoorRefs
namespace Go.Proofs.YtjhpikbilegfaaaGreatDoor
open Go.RowKit
set_option linter.unusedVariables false
set_option linter.unusedSimpArgs false

theorem reflab_no (w : World) (x : Int) (last : Bool) (h : x < 0 ∨ 1048575 < x) :
    Calls Tryz.prog 61 #[.int .i64 x, .bool last] w fun e w' => e = .returned (.tuple #[.slice none 0 0, .int .i64 5]) ∧ w = w' := by
  by_cases h0 : x < 0
  · clear h
    go_enter Tryz.func61, Tryz.ntmps61
    go_wp2
    go_ret2
    exact ⟨rfl, rfl⟩
  · have h1 : 1048575 < x := by omega
    clear h
    go_enter Tryz.func61, Tryz.ntmps61
    go_wp2
    go_ret2
    exact ⟨rfl, rfl⟩
theorem reflab_yes (w : World) (x : Nat) (last : Bool) (h : x ≤ 1048575) :
    Calls Tryz.prog 61 #[.int .i64 (x : Int), .bool last] w fun e w' => ∃ v, e = .returned (.tuple #[v, .int .i64 0]) ∧ w'.ownsRow w.heap.size 5 1 v 3 (bvs (codeL x last)) ∧ Below w.heap.size w w' := by
  have h0 : ¬ (x : Int) < 0 := by omega
  have h1 : (x : Int) ≤ 1048575 := by omega
  have e0 := hide (show 16 * (x : Int) = ((x * 16 : Nat) : Int) by omega)
  have e1 := hide (show 16 * (x : Int) + 1 = ((x * 16 + 1 : Nat) : Int) by omega)
  cases last
  · go_enter Tryz.func61, Tryz.ntmps61
    go_wp2_with fail
    rw [e0.out]
    refine (refbytes_any w (x * 16) 3 (by omega) (by omega) (by omega)).mono ?_
    rintro e w1 ⟨v, rfl, ho, hb⟩
    go_wp2
    go_ret2
    exact ⟨v, rfl, ho, hb⟩
  · go_enter Tryz.func61, Tryz.ntmps61
    go_wp2_with fail
    rw [e1.out]
    refine (refbytes_any w (x * 16 + 1) 3 (by omega) (by omega) (by omega)).mono ?_
    rintro e w1 ⟨v, rfl, ho, hb⟩
    go_wp2
    go_ret2
    exact ⟨v, rfl, ho, hb⟩
end Go.Proofs.YtjhpikbilegfaaaGreatDoor
