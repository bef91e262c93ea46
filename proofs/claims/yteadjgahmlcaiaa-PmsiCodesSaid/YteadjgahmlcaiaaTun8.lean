/-
  What Bytes of package pmsi answers, in one: whatever tunnel. No condition beyond sizes that fit memory.
-/
import Derived.Test.YteadjgahmlcaiaaTunSmall
import Derived.Test.YteadjgahmlcaiaaRefTunS
import Derived.Test.YteadjgahmlcaiaaArgs6
namespace Go.Proofs.Yteadjgahmlcaiaa
open Go.RowKit
set_option linter.unusedVariables false
set_option linter.unusedSimpArgs false

def outT (t : Tun) : List UInt8 := if rightT t then codeT t else []
def outE (t : Tun) : Int := if rightT t then 0 else 1
theorem out_yes {t : Tun} (h : rightT t = true) : outT t = codeT t ∧ outE t = 0 := by unfold outT outE; rw [h]; exact ⟨rfl, rfl⟩
theorem out_no {t : Tun} (h : rightT t = false) : outT t = [] ∧ outE t = 1 := by unfold outT outE; rw [h]; exact ⟨rfl, rfl⟩
theorem bytesT_any (w : World) (lf : Bool) (k l s : Int) (bs : List UInt8) (A : Option Addr) (n c hi : Nat) (id : List UInt8) (hA : At w 0 hi A n id) (hh : hi ≤ w.heap.size) (hl : bs.length = 16) (hc : n ≤ c) :
    Calls Try.prog 26 #[.agg (tunC lf k l s bs (.slice A n c))] w fun e w' => ∃ A' c', e = .returned (.tuple #[.slice A' (outT ⟨lf, k, l, s, bs, id⟩).length c', .int .i64 (outE ⟨lf, k, l, s, bs, id⟩)]) ∧
      w'.ownsRow w.heap.size 5 1 (.slice A' (outT ⟨lf, k, l, s, bs, id⟩).length c') (outT ⟨lf, k, l, s, bs, id⟩).length (bvs (outT ⟨lf, k, l, s, bs, id⟩)) ∧ Below w.heap.size w w' := by
  by_cases hr : rightT ⟨lf, k, l, s, bs, id⟩ = true
  · rw [(out_yes hr).1, (out_yes hr).2]
    refine (bytesT_yes w lf k l s bs A n c hi id hA hh hl hc hr).mono ?_
    rintro e w1 ⟨v, rfl, ho, hb⟩
    obtain ⟨A', c', rfl, _, _⟩ := own_shape ho
    exact ⟨A', c', rfl, ho, hb⟩
  · have hr' : rightT ⟨lf, k, l, s, bs, id⟩ = false := by simpa using hr
    rw [(out_no hr').1, (out_no hr').2]
    refine (bytesT_no w lf k l s bs A n c hi id hA hh hl hr').mono ?_
    rintro e w1 ⟨rfl, hb⟩
    exact ⟨none, 0, rfl, by simpa [bvs] using World.ownsRow_nil _ _ _ _, hb⟩
end Go.Proofs.Yteadjgahmlcaiaa
