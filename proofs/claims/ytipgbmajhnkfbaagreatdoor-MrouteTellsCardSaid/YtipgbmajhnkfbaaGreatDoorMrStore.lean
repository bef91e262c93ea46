/-
  Writing into the parts of a route that lies in a block; one cell; copy into its distinguisher. No condition.
-/
import Derived.Test.YtipgbmajhnkfbaaGreatDoorMrV
namespace Go.Proofs.YtipgbmajhnkfbaaGreatDoor
open Go.RowKit
set_option linter.unusedVariables false
set_option linter.unusedSimpArgs false
theorem mro_set {w : World} {g o : Nat} {t : TypeId} {m m' : Mr} {p q r vs : List Value} (h : Blk w g t (mroC m)) (h1 : mroL m = p ++ (q ++ r)) (h2 : mroL m' = p ++ (vs ++ r)) (hp : p.length = o) (hq : q.length = vs.length) :
    Blk (w.setCells g o vs) g t (mroC m') := by
  subst hp
  unfold mroC at h ⊢
  rw [h1] at h
  rw [h2]
  exact blk_splice vs q p w hq h
theorem mro_set_rd {w : World} {g : Nat} {t : TypeId} {m : Mr} (h : Blk w g t (mroC m)) (hm : m.W) {d : List UInt8} (hd : d.length = 8) : Blk (w.setCells g 1 (bvs d)) g t (mroC { m with rd := d }) :=
  mro_set (p := [.int .i64 m.k]) (q := bvs m.rd) h rfl rfl rfl (by rw [bvs_length, bvs_length, hm.rd, hd])
theorem mro_set_a {w : World} {g : Nat} {t : TypeId} {m : Mr} (h : Blk w g t (mroC m)) (hm : m.W) (x : Int) : Blk (w.setCell ⟨g, 9, none⟩ (.int .i64 x)) g t (mroC { m with a := x }) :=
  mro_set (p := [.int .i64 m.k] ++ bvs m.rd) (q := [.int .i64 m.a]) (vs := [.int .i64 x]) h (by simp only [mroL, List.append_assoc]; rfl) (by simp only [mroL, List.append_assoc]) (by simp [bvs, hm.rd]) rfl
theorem mro_set_s {w : World} {g : Nat} {t : TypeId} {m : Mr} (h : Blk w g t (mroC m)) (hm : m.W) (s : Int) {bs : List UInt8} (hl : bs.length = 16) : Blk (w.setCells g 10 (.int .i64 s :: bvs bs)) g t (mroC { m with ss := s, sb := bs }) :=
  mro_set (p := [.int .i64 m.k] ++ (bvs m.rd ++ [.int .i64 m.a])) (q := .int .i64 m.ss :: bvs m.sb) h (by simp only [mroL, List.append_assoc]; rfl) (by simp only [mroL, List.append_assoc]) (by simp [bvs, hm.rd]) (by simp [bvs, hm.sb, hl])
theorem mro_set_g {w : World} {g : Nat} {t : TypeId} {m : Mr} (h : Blk w g t (mroC m)) (hm : m.W) (s : Int) {bs : List UInt8} (hl : bs.length = 16) : Blk (w.setCells g 27 (.int .i64 s :: bvs bs)) g t (mroC { m with gs := s, gb := bs }) :=
  mro_set (p := [.int .i64 m.k] ++ (bvs m.rd ++ ([.int .i64 m.a] ++ (.int .i64 m.ss :: bvs m.sb)))) (q := .int .i64 m.gs :: bvs m.gb) h (by simp only [mroL, List.append_assoc]; rfl) (by simp only [mroL, List.append_assoc]) (by simp [bvs, hm.rd, hm.sb]) (by simp [bvs, hm.gb, hl])
theorem mro_set_f {w : World} {g : Nat} {t : TypeId} {m : Mr} (h : Blk w g t (mroC m)) (hm : m.W) (s : Int) {bs : List UInt8} (hl : bs.length = 16) : Blk (w.setCells g 44 (.int .i64 s :: bvs bs)) g t (mroC { m with fs := s, fb := bs }) :=
  mro_set (p := [.int .i64 m.k] ++ (bvs m.rd ++ ([.int .i64 m.a] ++ ((.int .i64 m.ss :: bvs m.sb) ++ (.int .i64 m.gs :: bvs m.gb))))) (q := .int .i64 m.fs :: bvs m.fb) h (by simp only [mroL, List.append_assoc]; rfl) (by simp only [mroL, List.append_assoc]) (by simp [bvs, hm.rd, hm.sb, hm.gb]) (by simp [bvs, hm.fb, hl])
theorem mro_set_k {w : World} {g : Nat} {t : TypeId} {m : Mr} (h : Blk w g t (mroC m)) (hm : m.W) (x : List UInt8) : Blk (w.setCell ⟨g, 61, none⟩ (.string ⟨x.toArray⟩)) g t (mroC { m with key := x }) :=
  mro_set (p := [.int .i64 m.k] ++ (bvs m.rd ++ ([.int .i64 m.a] ++ ((.int .i64 m.ss :: bvs m.sb) ++ ((.int .i64 m.gs :: bvs m.gb) ++ (.int .i64 m.fs :: bvs m.fb)))))) (q := [.string ⟨m.key.toArray⟩]) (r := []) (vs := [.string ⟨x.toArray⟩]) h (by simp only [mroL, List.append_assoc, List.append_nil]) (by simp only [mroL, List.append_assoc, List.append_nil]) (by simp [bvs, hm.rd, hm.sb, hm.gb, hm.fb]) rfl
theorem mro_there {w : World} {g : Nat} {t : TypeId} {m : Mr} (h : Blk w g t (mroC m)) (hm : m.W) {o n : Nat} (ho : o + n ≤ 62) : w.there g o n := fun j hj => by
  refine ⟨?_, h.frozen _⟩
  rw [h.cell]
  have := mro_size hm
  simp [this]
  omega
theorem exec_copy_rd {o : Oper} {a : Act} {w : World} (d s : Operand) (ho : o.op = .call { callee := .builtin .copy, args := #[d, s], argTypes := #[38, 38] })
    {g n c lo hi : Nat} {A : Option Addr} {bs : List UInt8} {t : TypeId} {m : Mr} (hd : a.eval d = .slice (some ⟨g, 1, none⟩) 8 8) (hs : a.eval s = .slice A n c) (h : Blk w g t (mroC m)) (hm : m.W) (hz : m.rd = zero8) (hr : At w lo hi A n bs) :
    ∃ v w', (execOp a.eval o).run Tryz.prog w = .ok (.value v) w' ∧ Blk w' g t (mroC { m with rd := pad8 bs }) ∧ w.grownBy w' (some g) := by
  have hl := hr.len
  have hsz : (Tryz.prog.info? 5).map (·.size) = some 1 := by kernel_rfl
  have fin : ∀ {v : Value} {w' : World}, (Builtin.copy_ #[38, 38] o.type #[.slice (some ⟨g, 1, none⟩) 8 8, .slice A n c]).run Tryz.prog w = .ok v w' → (execOp a.eval o).run Tryz.prog w = .ok (.value v) w' := fun hrun => by
    unfold execOp
    simp only [ho, resolve, invoke, builtin, Sem.run_bind, Sem.run_pure, Result.andThen_ok, List.map_toArray, List.map_cons, List.map_nil, hd, hs, hrun]
  rcases Nat.eq_zero_or_pos n with h0 | h0
  · subst h0
    have : bs = [] := List.eq_nil_of_length_eq_zero hl
    subst this
    refine ⟨_, _, fin (run_copy_none (P := Tryz.prog) w _ _ _ 5 _ A 8 8 0 c Tryz.underlying38 hsz (by simp)), ?_, grown_refl w _⟩
    have e : pad8 [] = m.rd := by rw [hz]; rfl
    rw [e]
    exact h
  · obtain ⟨ad, rfl, hc⟩ := hr.cells h0
    have ht : ((bvs bs).take 8).length = Nat.min n 8 := by rw [List.length_take, bvs_length, hl, Nat.min_comm]
    have ht8 : ((bvs bs).take 8).length ≤ 8 := by rw [List.length_take]; omega
    have hth := mro_there h hm (o := 1) (n := 8) (by omega)
    refine ⟨_, _, fin (run_copy_cells (P := Tryz.prog) w _ _ _ 5 g 1 8 8 ad n c ((bvs bs).take 8) Tryz.underlying38 hsz ht (fun j v hv => hc j v (by
        rw [List.getElem?_take] at hv
        split at hv
        · exact hv
        · cases hv))
      (fun j hj => (hth j (by omega)).1) (fun j hj => (hth j (by omega)).2) (fun v hv => bvs_one bs v (List.mem_of_mem_take hv))), ?_, grown_setCells _ _ _ _ (grown_refl w _)⟩
    refine mro_set (p := [.int .i64 m.k]) (q := (bvs zero8).take (min n 8)) (r := (bvs zero8).drop (min n 8) ++ ([.int .i64 m.a] ++ ((.int .i64 m.ss :: bvs m.sb) ++ ((.int .i64 m.gs :: bvs m.gb) ++ ((.int .i64 m.fs :: bvs m.fb) ++ [.string ⟨m.key.toArray⟩]))))) h ?_ ?_ rfl ?_
    · unfold mroL
      rw [hz, ← List.append_assoc ((bvs zero8).take _), List.take_append_drop]
    · unfold mroL
      simp only
      rw [← pad_cells bs, hl, List.append_assoc]
    · rw [ht, List.length_take, bvs_length]
      simp [zero8]
end Go.Proofs.YtipgbmajhnkfbaaGreatDoor
