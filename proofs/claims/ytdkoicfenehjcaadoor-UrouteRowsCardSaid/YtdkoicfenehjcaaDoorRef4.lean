/-
  What the document's own Has does, in whatever memory. No condition beyond sizes that fit memory.
-/
import Derived.Test.YtdkoicfenehjcaaDoorRef3
namespace Go.Proofs.YtdkoicfenehjcaaDoor
open Go.RowKit
set_option linter.unusedVariables false
set_option linter.unusedSimpArgs false

theorem exec_load_addr {o : Oper} {a : Act} {w : World} (x : Operand) (ho : o.op = .load 26 x) (g : Nat) (hx : a.eval x = .pointer (some ⟨g, 0, none⟩)) {t : TypeId} {s : Int} {bs : List UInt8} (h : Blk w g t (addrC s bs)) (hl : bs.length = 16) :
    (execOp a.eval o).run Tryd.prog w = .ok (.value (.agg (addrC s bs))) w := by
  unfold execOp
  simp only [ho, hx, Instr.loadAt, Instr.sureAddr, Sem.run_bind, Sem.run_pure, Result.andThen_ok, load_addr h hl]
theorem exec_load_pref {o : Oper} {a : Act} {w : World} (x : Operand) (ho : o.op = .load 28 x) (g : Nat) (hx : a.eval x = .pointer (some ⟨g, 0, none⟩)) {t : TypeId} {s k : Int} {bs : List UInt8} (h : Blk w g t (prefC s bs k)) (hl : bs.length = 16) :
    (execOp a.eval o).run Tryd.prog w = .ok (.value (.agg (prefC s bs k))) w := by
  unfold execOp
  simp only [ho, hx, Instr.loadAt, Instr.sureAddr, Sem.run_bind, Sem.run_pure, Result.andThen_ok, load_pref h hl]
/-- a boxed prefix, and a boxed address behind it -/
def PrefAddr (w x : World) (sp : Int) (bp : List UInt8) (k : Int) (s : Int) (bs : List UInt8) : Prop := Blk x w.heap.size 28 (prefC sp bp k) ∧ Blk x (w.heap.size + 1) 26 (addrC s bs) ∧ Below w.heap.size w x
section
variable {w x y : World} {sp k s : Int} {bp bs : List UInt8}
theorem PrefAddr.a (h : PrefAddr w x sp bp k s bs) : Blk x w.heap.size 28 (prefC sp bp k) := h.1
theorem PrefAddr.b (h : PrefAddr w x sp bp k s bs) : Blk x (w.heap.size + 1) 26 (addrC s bs) := h.2.1
theorem PrefAddr.bel (h : PrefAddr w x sp bp k s bs) : Below w.heap.size w x := h.2.2
theorem PrefAddr.on (h : PrefAddr w x sp bp k s bs) (hb : Below x.heap.size x y) : PrefAddr w y sp bp k s bs := ⟨h.1.on hb, h.2.1.on hb, below_step h.2.2 hb (Nat.le_refl _)⟩
theorem PrefAddr.drew (h : PrefAddr w x sp bp k s bs) : PrefAddr w x.drew sp bp k s bs := ⟨h.1.drew, h.2.1.drew, below_drew h.2.2⟩
theorem PrefAddr.new (w : World) (sp : Int) (bp : List UInt8) (k : Int) (s : Int) (bs : List UInt8) : PrefAddr w ((w.alloc (.cells (prefC sp bp k) 28)).alloc (.cells (addrC s bs) 26)) sp bp k s bs :=
  ⟨(Blk.new w _ _).alloc _, blk_new2 w _ _ _, ((Below.refl _ _).alloc (Nat.le_refl _) _).alloc (by simp) _⟩
end

/-- what it comes to -/
theorem has_no1 {sp k s : Int} {bp bs : List UInt8} (hl : bs.length = 16) (h : hasB sp bp k sp bp = false) : hasB sp bp k s bs = false := by
  by_cases hh : hasB sp bp k s bs = true
  · obtain ⟨h1, rfl, rfl⟩ := has_parts.1 hh
    have := has_cut hl h1
    rw [this] at h
    cases h
  · simpa using hh
theorem has_no2 {sp k s : Int} {bp bs : List UInt8} (h : rightA s bs = false) : hasB sp bp k s bs = false := by
  unfold hasB cutOk
  rw [h]
  rfl
theorem has_no3 {sp k s : Int} {bp bs : List UInt8} (h : s ≠ sp) : hasB sp bp k s bs = false := by
  unfold hasB
  rw [decide_eq_false (fun e => h e.1), Bool.and_false]
theorem has_told {k s : Int} {bp bs : List UInt8} (hl : bs.length = 16) (hp : bp.length = 16) (h : hasB s bp k s bp = true) (hr : rightA s bs = true) :
    (s = 4 ∨ s = 16) ∧ 0 ≤ k ∧ k ≤ 8 * s ∧ (hasB s bp k s bs = true ↔ ∀ i : Nat, (i : Int) < k → i < 128 → bitA bs i = bitA bp i) := by
  obtain ⟨h1, _, h3⟩ := has_parts.1 h
  obtain ⟨r1, r2, r3, r4⟩ := cutOk_parts.1 h1
  refine ⟨by rcases right_size r1 with h | h | h <;> omega, r3, r4, ?_⟩
  rw [has_parts, cutOk_parts]
  constructor
  · intro hx
    exact (cut_agree hl hp h3).1 hx.2.2
  · intro hx
    exact ⟨⟨hr, r2, r3, r4⟩, rfl, (cut_agree hl hp h3).2 hx⟩

end Go.Proofs.YtdkoicfenehjcaaDoor
