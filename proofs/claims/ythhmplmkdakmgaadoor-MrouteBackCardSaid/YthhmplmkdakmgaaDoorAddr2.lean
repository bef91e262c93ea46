/-
  What Of, mask, Cut and Has of package addr do, in whatever memory. No condition beyond sizes that fit memory.
-/
import Derived.Test.YthhmplmkdakmgaaDoorAddr1
import Derived.StillTailTactics
import Derived.Great.BuildSlice
namespace Go.Proofs.YthhmplmkdakmgaaDoor
open Go.RowKit
set_option linter.unusedVariables false
set_option linter.unusedSimpArgs false

theorem right_size {s : Int} {bs : List UInt8} (h : rightA s bs = true) : s = 0 ∨ s = 4 ∨ s = 16 := by
  unfold rightA at h
  simp only [Bool.and_eq_true] at h
  exact of_decide_eq_true h.1
theorem of_no (w : World) (A : Option Addr) (n c : Nat) (hs : sizeA n = false) :
    Calls Tryd.prog 71 #[.slice A n c] w fun e w' => e = .returned (.tuple #[.agg (addrC 0 zero16), .int .i64 1]) ∧ Below w.heap.size w w' := by
  have HS := hide hs
  clear hs
  go_enter Tryd.func71, Tryd.ntmps71
  go_wp2_with (first
    | (go_at_call 81; refine (rightSize_any _ _).mono ?_; rintro e w1 ⟨rfl, rfl⟩; rw [HS.out])
    | (refine wpList_store_addr rfl (.tmp 2) (.tmp 9) rfl w.heap.size rfl (s := 0) (bs := zero16) (congrArg Value.agg (addrC_zero 0)).symm zero16_len (Blk.new w _ _) rfl ?_; intro w2 hb2 hg2))
  refine ret_addr2 (p := 2) (q := 3) (v := .int .i64 1) rfl rfl rfl hb2 zero16_len rfl ?_
  exact ⟨rfl, ((Below.refl _ _).alloc (Nat.le_refl _) _).grown hg2 (by simp) (by simp)⟩

theorem blk_new2 (w : World) (o : Obj) (t : TypeId) (cs : Array Value) : Blk ((w.alloc o).alloc (.cells cs t)) (w.heap.size + 1) t cs := heap_alloc2_new w o _
theorem sizeA_nat {n : Nat} (h : sizeA n = true) : n = 0 ∨ n = 4 ∨ n = 16 := by
  have : (n : Int) = 0 ∨ (n : Int) = 4 ∨ (n : Int) = 16 := of_decide_eq_true h
  omega
theorem pad_len {xs : List UInt8} (h : xs.length ≤ 16) : (pad xs).length = 16 := by unfold pad; simp; omega
/-- copy(a.B[:], b) -/
theorem wpList_copy_addr {w : World} {ops : Array Oper} {rest : List Oper} {o : Oper} {a : Act} {Q : Exit → Act → World → Prop} (hgd : o.guard = none) (d s : Operand)
    (ho : o.op = .call { callee := .builtin .copy, args := #[d, s], argTypes := #[30, 30] })
    (g n c lo hi : Nat) (A : Option Addr) (bs : List UInt8) (z : Int) (hg : Blk w g 26 (addrC z zero16)) (hr : At w lo hi A n bs) (hn : n ≤ 16)
    (hd : a.eval d = .slice (some ⟨g, 1, none⟩) 16 16) (hs : a.eval s = .slice A n c)
    (h : ∀ w', Blk w' g 26 (addrC z (pad bs)) → w.grownBy w' (some g) → wpList Tryd.prog ops Q rest (a.put o.dst (goInt n)) w') : wpList Tryd.prog ops Q (o :: rest) a w := by
  have hl := hr.len
  have hsz : (Tryd.prog.info? 5).map (·.size) = some 1 := by kernel_rfl
  rcases Nat.eq_zero_or_pos n with h0 | h0
  · subst h0
    have : bs = [] := List.eq_nil_of_length_eq_zero hl
    subst this
    refine wpList_copy_nothing hgd d s 30 30 ho 5 Tryd.underlying30 hsz _ _ _ _ _ _ hd hs (by simp) ?_
    exact h w hg (grown_refl w _)
  · obtain ⟨ad, rfl, hc⟩ := hr.cells h0
    have hb := bvs_length bs
    refine wpList_copy_own hgd d s 30 30 ho 5 Tryd.underlying30 hsz g 1 16 16 ad n c hd hs (addrC z zero16) 26 hg (bvs bs) (by rw [hb, hl]; exact (Nat.min_eq_left hn).symm) hc
      (by rw [addrC_size z zero16_len, hb, hl]; omega) (bvs_one _) ?_
    rw [hb, hl]
    have e : ((addrC z zero16).toList.take 1 ++ (bvs bs ++ (addrC z zero16).toList.drop (1 + n))).toArray = addrC z (pad bs) := by
      unfold addrC pad
      refine congrArg List.toArray ?_
      simp only [List.take_succ_cons, List.take_zero, List.cons_append, List.nil_append]
      rw [bvs_append, Nat.add_comm, List.drop_succ_cons, hl]
      refine congrArg (fun l => _ :: (_ ++ l)) ?_
      unfold bvs zero16
      rw [← List.map_drop, List.drop_replicate]
    rw [e]
    exact h _ (hg.setRow _) (grown_setRow _ _ _)

set_option maxHeartbeats 1000000 in
set_option maxRecDepth 20000 in
theorem of_yes (w : World) (lo hi : Nat) (A : Option Addr) (n c : Nat) (xs : List UInt8) (h : At w lo hi A n xs) (hh : hi ≤ w.heap.size) (hs : sizeA n = true) :
    Calls Tryd.prog 71 #[.slice A n c] w fun e w' => e = .returned (.tuple #[.agg (addrC n (pad xs)), .int .i64 0]) ∧ Below w.heap.size w w' := by
  have hn16 : n ≤ 16 := by rcases sizeA_nat hs with h | h | h <;> omega
  have HS := hide hs
  have H := hide h
  have HPL := hide (pad_len (xs := xs) (by rw [h.len]; exact hn16))
  clear hs h
  go_enter Tryd.func71, Tryd.ntmps71
  go_wp2_with (first
    | (go_at_call 81; refine (rightSize_any _ _).mono ?_; rintro e w1 ⟨rfl, rfl⟩; rw [HS.out])
    | (refine wpList_store_addr rfl (.tmp 4) (.tmp 12) rfl (w.heap.size + 1) rfl (s := n) (bs := zero16) (congrArg Value.agg (addrC_zero n)).symm zero16_len (blk_new2 w _ _ _) rfl ?_; intro w2 hb2 hg2; have HB2 := hide hb2; have HG2 := hide hg2; clear hb2 hg2; have HA2 := hide ((H.out.alloc hh _).alloc (by simp; omega) _ |>.grown HG2.out (by simp; omega) (by intro g hg; injection hg; omega)); have HZ2 := hide ((Blk.new w _ _).alloc _ |>.grown HG2.out (by simp)))
    | (with_reducible refine wpList_copy_addr rfl (.tmp 14) (.tmp 15) rfl (w.heap.size + 1) n c lo hi A xs n HB2.out HA2.out hn16 rfl rfl ?_; intro w3 hb3 hg3; have HB3 := hide hb3; have HG3 := hide hg3; clear hb3 hg3; have HZ3 := hide (HZ2.out.grown HG3.out (by simp)))
    | (with_reducible refine wpList_load_addr rfl (.tmp 4) rfl (w.heap.size + 1) rfl HB3.out HPL.out ?_)
    | (refine wpList_store_addr rfl (.tmp 2) (.tmp 17) rfl w.heap.size rfl (s := n) (bs := pad xs) rfl HPL.out HZ3.out rfl ?_; intro w4 hb4 hg4; have HB4 := hide hb4; have HG4 := hide hg4; clear hb4 hg4))
  refine ret_addr2 (p := 2) (q := 3) (v := .int .i64 0) rfl rfl rfl HB4.out HPL.out rfl ?_
  refine ⟨rfl, ?_⟩
  have k0 := ((Below.refl w.heap.size w).alloc (Nat.le_refl _) (.cells #[.int .i64 0, .int .u8 0, .int .u8 0, .int .u8 0, .int .u8 0, .int .u8 0, .int .u8 0, .int .u8 0, .int .u8 0, .int .u8 0, .int .u8 0, .int .u8 0, .int .u8 0, .int .u8 0, .int .u8 0, .int .u8 0, .int .u8 0] 26))
  have k1 := k0.alloc (by simp) (.cells #[.int .i64 0, .int .u8 0, .int .u8 0, .int .u8 0, .int .u8 0, .int .u8 0, .int .u8 0, .int .u8 0, .int .u8 0, .int .u8 0, .int .u8 0, .int .u8 0, .int .u8 0, .int .u8 0, .int .u8 0, .int .u8 0, .int .u8 0] 26)
  have k2 := k1.grown HG2.out (by simp; omega) (by simp)
  have k3 := k2.grown HG3.out k2.size (by simp)
  exact k3.grown HG4.out k3.size (by simp)
theorem of_any (w : World) (lo hi : Nat) (A : Option Addr) (n c : Nat) (xs : List UInt8) (h : At w lo hi A n xs) (hh : hi ≤ w.heap.size) :
    Calls Tryd.prog 71 #[.slice A n c] w fun e w' => e = .returned (.tuple #[.agg (addrC (ofS xs) (ofB xs)), .int .i64 (ofE xs)]) ∧ Below w.heap.size w w' := by
  unfold ofS ofB ofE
  rw [h.len]
  by_cases hs : sizeA n = true
  · rw [if_pos hs, if_pos hs, if_pos hs]
    exact of_yes w lo hi A n c xs h hh hs
  · rw [if_neg hs, if_neg hs, if_neg hs]
    exact of_no w A n c (by simpa using hs)

theorem and_u8 (a b : UInt8) : bits .and .u8 (a.toNat : Int) (b.toNat : Int) = ((a &&& b).toNat : Int) := by
  show IntKind.u8.wrap ((BitVec.ofInt 8 (a.toNat : Int) &&& BitVec.ofInt 8 (b.toNat : Int)).toNat : Int) = _
  have h1 : ∀ x : UInt8, BitVec.ofInt 8 (x.toNat : Int) = x.toBitVec := fun x => by
    rw [BitVec.ofInt_natCast]; simp
  rw [h1, h1]
  have : (a.toBitVec &&& b.toBitVec).toNat = (a &&& b).toNat := rfl
  rw [this]
  have := (a &&& b).toNat_lt
  rw [IntKind.wrap_u8]
  omega
theorem addrC_set (s : Int) (l : List UInt8) (k : Nat) (b : UInt8) : (addrC s l).setIfInBounds (1 + k) (.int .u8 (b.toNat : Int)) = addrC s (l.set k b) := by
  unfold addrC bvs
  rw [List.setIfInBounds_toArray, Nat.add_comm, List.set_cons_succ, List.map_set]
  rfl
end Go.Proofs.YthhmplmkdakmgaaDoor
