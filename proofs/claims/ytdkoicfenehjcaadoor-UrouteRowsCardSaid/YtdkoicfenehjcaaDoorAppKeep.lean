/-
  append of bytes onto a row that is owned: what the old slice reads stays as it was. No condition beyond sizes that fit memory.
-/
import Derived.Test.YtdkoicfenehjcaaDoorBase
import Derived.Maps.AppendAt
namespace Go.Proofs.YtdkoicfenehjcaaDoor
open Go.RowKit
set_option linter.unusedVariables false
set_option linter.unusedSimpArgs false

section
variable {P : Program} (w : World)
theorem run_append_keep (base : Nat) (t ty e : TypeId) (i : TypeInfo) (ht : P.underlying t = some (.slice e)) (hi : P.info? e = some i) (hz : i.zero = some (.int .u8 0))
    (hsize : i.size = 1) (hby : i.bytes = 1)
    (A : Option Addr) (n cc : Nat) (xs : List UInt8) (hown : w.ownsRow base e 1 (.slice A n cc) n (bvs xs))
    (lo hi' : Nat) (ad : Addr) (m c : Nat) (news : List UInt8) (hr : At w lo hi' (some ad) m news) (hm : 0 < m)
    (hbytes : n + m ≤ 140737488355328) (hbase : base ≤ w.heap.size) :
    ∃ v' w', (Builtin.append_ #[t, t] ty #[.slice A n cc, .slice (some ad) m c]).run P w = .ok v' w' ∧ w'.ownsRow base e 1 v' (n + m) (bvs (xs ++ news)) ∧ w.grownBy w' (Value.ownBlock (.slice A n cc)) ∧
      (v'.ownBlock = Value.ownBlock (.slice A n cc) ∨ v'.ownBlock = some w.heap.size) ∧ At w' base w'.heap.size A n xs := by
  obtain ⟨v', w', hrun, h2, h3, h4⟩ := run_append_bytes (P := P) w base t ty e i ht hi hz hsize hby (.slice A n cc) n xs hown lo hi' (some ad) m c news hr hbytes hbase
  refine ⟨v', w', hrun, h2, h3, h4, ?_⟩
  obtain ⟨ad', hq, hcells⟩ := hr.cells hm
  injection hq with hq
  subst hq
  have hnl : (bvs news).length = m * i.size := by rw [bvs_length, hr.1, hsize, Nat.mul_one]
  have hxl : xs.length = n := by have := hown.1; rw [bvs_length] at this; omega
  rcases Nat.eq_zero_or_pos n with h0 | h0
  · subst h0
    have : xs = [] := List.eq_nil_of_length_eq_zero hxl
    subst this
    exact At.nil _ _ _ _
  have hold := At.own hown
  obtain ⟨ad0, rfl, _⟩ := hold.cells h0
  rcases hown.2 with ⟨hv, _⟩ | ⟨g, cap, cur, hv, hbg, hg, hnc, hcm, hcs, htake⟩
  · cases hv
  · injection hv with e1 e2 e3
    injection e1 with e1
    subst e1 e3
    by_cases hroom : n + m ≤ cc
    · have hfit : n * i.size + (bvs news).length ≤ cur.size := by rw [hnl, hcs, ← Nat.add_mul, hsize]; omega
      have hr2 := run_append_room (P := P) w t ty e i ht hi g n cc cur hg ad m c (bvs news) hnl hcells (bvs_one _) hroom hfit
      rw [hrun] at hr2
      injection hr2 with hv2 hw2
      subst hv2
      have h5 := (At.own h2).head (k := n) (by omega)
      rw [List.take_left' hxl] at h5
      exact h5
    · have holds : ∀ j u, (bvs xs)[j]? = some u → w.cell? ((⟨g, 0, none⟩ : Addr).add j) = some u := hown.cells (g := g) rfl
      have hr2 := run_append_grow (P := P) w t ty e i (.int .u8 0) ht hi hz ⟨g, 0, none⟩ n cc (bvs xs) (by rw [hsize]; exact hown.1) holds ad m c (bvs news) hnl hcells (by omega) (by unfold maxLen at hcm; omega) (growslice_fits (by omega) (by rw [hby]; omega))
      rw [hrun] at hr2
      injection hr2 with hv2 hw2
      subst hw2
      exact ((hold.drew).alloc (Nat.le_refl _) _).lt
theorem wpList_append_keep {ops : Array Oper} {rest : List Oper} {o : Oper} {a : Act} {Q : Exit → Act → World → Prop} (hgd : o.guard = none) (s x : Operand) (t : TypeId)
    (ho : o.op = .call { callee := .builtin .append, args := #[s, x], argTypes := #[t, t] })
    (base : Nat) (e : TypeId) (i : TypeInfo) (ht : P.underlying t = some (.slice e)) (hi : P.info? e = some i) (hz : i.zero = some (.int .u8 0))
    (hsize : i.size = 1) (hby : i.bytes = 1)
    (A : Option Addr) (n cc : Nat) (xs : List UInt8) (hs : a.eval s = .slice A n cc) (hown : w.ownsRow base e 1 (.slice A n cc) n (bvs xs))
    (lo hi' : Nat) (ad : Addr) (m c : Nat) (news : List UInt8) (hx : a.eval x = .slice (some ad) m c) (hr : At w lo hi' (some ad) m news) (hm : 0 < m)
    (hbytes : n + m ≤ 140737488355328) (hbase : base ≤ w.heap.size)
    (h : ∀ v' w', w'.ownsRow base e 1 v' (n + m) (bvs (xs ++ news)) → w.grownBy w' (Value.ownBlock (.slice A n cc)) → (v'.ownBlock = Value.ownBlock (.slice A n cc) ∨ v'.ownBlock = some w.heap.size) → At w' base w'.heap.size A n xs → wpList P ops Q rest (a.put o.dst v') w') : wpList P ops Q (o :: rest) a w := by
  refine wpList_plain hgd fun K hK => ?_
  obtain ⟨v', w', hrun, h2, h3, h4, h5⟩ := run_append_keep (P := P) w base t o.type e i ht hi hz hsize hby A n cc xs hown lo hi' ad m c news hr hm hbytes hbase
  unfold Oper.wp execOp
  simp only [ho, resolve, invoke, builtin, Sem.run_bind, Sem.run_pure, Result.andThen_ok, List.map_toArray, List.map_cons, List.map_nil, hs, hx, hrun]
  exact hK _ _ (h v' w' h2 h3 h4 h5)
end
end Go.Proofs.YtdkoicfenehjcaaDoor
