/-
  What Parse of package mroute does, and few, V4 and small of the statements, in whatever memory. The one condition beyond sizes that fit memory: the tables hold what their texts lay.
-/
import Derived.Test.YthhmplmkdakmgaaDoorMrTake
import Derived.Test.YthhmplmkdakmgaaDoorMrTxt
namespace Go.Proofs.YthhmplmkdakmgaaDoor
open Go.RowKit
set_option linter.unusedVariables false
set_option linter.unusedSimpArgs false

/-- what Parse answers -/
def parsR (b : List UInt8) (k : Int) : Mr := if takeE b k = 0 ∧ takeN b k < b.length then bareM 0 else takeR b k
def parsE (b : List UInt8) (k : Int) : Int := if takeE b k = 0 ∧ takeN b k < b.length then 4 else takeE b k
theorem takeR_W (b : List UInt8) (k : Int) : (takeR b k).W := by
  by_cases h : takeE b k = 0
  · have hz : k = 4 ∨ k = 16 := by
      refine Decidable.byContradiction fun hn => ?_
      unfold takeE at h
      rw [if_pos hn] at h
      cases h
    obtain ⟨_, hw, _⟩ := (take_iff hz (m := takeR b k)).1 ⟨h, rfl⟩
    exact hw
  · unfold takeR
    rw [if_neg h]
    exact bare_W 0
set_option maxRecDepth 20000 in
set_option maxHeartbeats 1000000 in
theorem mparse_any (w : World) (lo hi : Nat) (A : Option Addr) (n c : Nat) (b : List UInt8) (k : Int) (h : At w lo hi A n b) (hh : hi ≤ w.heap.size) (hc : n ≤ c) (hnn : n ≤ 10000000000000) (hN : Named w) :
    Calls Tryd.prog 8 #[.slice A n c, .int .i64 k] w fun e w' => e = .returned (.tuple #[.agg (mroC (parsR b k)), .int .i64 (parsE b k)]) ∧ Below w.heap.size w w' := by
  have RES : Hid (Blk (w.alloc (.cells #[.int .i64 0, .int .u8 0, .int .u8 0, .int .u8 0, .int .u8 0, .int .u8 0, .int .u8 0, .int .u8 0, .int .u8 0, .int .i64 0, .int .i64 0, .int .u8 0, .int .u8 0, .int .u8 0, .int .u8 0, .int .u8 0, .int .u8 0, .int .u8 0, .int .u8 0, .int .u8 0, .int .u8 0, .int .u8 0, .int .u8 0, .int .u8 0, .int .u8 0, .int .u8 0, .int .u8 0, .int .i64 0, .int .u8 0, .int .u8 0, .int .u8 0, .int .u8 0, .int .u8 0, .int .u8 0, .int .u8 0, .int .u8 0, .int .u8 0, .int .u8 0, .int .u8 0, .int .u8 0, .int .u8 0, .int .u8 0, .int .u8 0, .int .u8 0, .int .i64 0, .int .u8 0, .int .u8 0, .int .u8 0, .int .u8 0, .int .u8 0, .int .u8 0, .int .u8 0, .int .u8 0, .int .u8 0, .int .u8 0, .int .u8 0, .int .u8 0, .int .u8 0, .int .u8 0, .int .u8 0, .int .u8 0, .string ⟨#[]⟩] 28)) w.heap.size 28 (mroC (bareM 0))) := hide (by rw [bareC0]; exact Blk.new w _ _)
  have W0 := hide ((Below.refl w.heap.size w).alloc (Nat.le_refl _) (.cells #[.int .i64 0, .int .u8 0, .int .u8 0, .int .u8 0, .int .u8 0, .int .u8 0, .int .u8 0, .int .u8 0, .int .u8 0, .int .i64 0, .int .i64 0, .int .u8 0, .int .u8 0, .int .u8 0, .int .u8 0, .int .u8 0, .int .u8 0, .int .u8 0, .int .u8 0, .int .u8 0, .int .u8 0, .int .u8 0, .int .u8 0, .int .u8 0, .int .u8 0, .int .u8 0, .int .u8 0, .int .i64 0, .int .u8 0, .int .u8 0, .int .u8 0, .int .u8 0, .int .u8 0, .int .u8 0, .int .u8 0, .int .u8 0, .int .u8 0, .int .u8 0, .int .u8 0, .int .u8 0, .int .u8 0, .int .u8 0, .int .u8 0, .int .u8 0, .int .i64 0, .int .u8 0, .int .u8 0, .int .u8 0, .int .u8 0, .int .u8 0, .int .u8 0, .int .u8 0, .int .u8 0, .int .u8 0, .int .u8 0, .int .u8 0, .int .u8 0, .int .u8 0, .int .u8 0, .int .u8 0, .int .u8 0, .string ⟨#[]⟩] 28))
  have HN := hide (hN.below W0.out)
  have HA := hide (h.alloc hh (.cells #[.int .i64 0, .int .u8 0, .int .u8 0, .int .u8 0, .int .u8 0, .int .u8 0, .int .u8 0, .int .u8 0, .int .u8 0, .int .i64 0, .int .i64 0, .int .u8 0, .int .u8 0, .int .u8 0, .int .u8 0, .int .u8 0, .int .u8 0, .int .u8 0, .int .u8 0, .int .u8 0, .int .u8 0, .int .u8 0, .int .u8 0, .int .u8 0, .int .u8 0, .int .u8 0, .int .u8 0, .int .i64 0, .int .u8 0, .int .u8 0, .int .u8 0, .int .u8 0, .int .u8 0, .int .u8 0, .int .u8 0, .int .u8 0, .int .u8 0, .int .u8 0, .int .u8 0, .int .u8 0, .int .u8 0, .int .u8 0, .int .u8 0, .int .u8 0, .int .i64 0, .int .u8 0, .int .u8 0, .int .u8 0, .int .u8 0, .int .u8 0, .int .u8 0, .int .u8 0, .int .u8 0, .int .u8 0, .int .u8 0, .int .u8 0, .int .u8 0, .int .u8 0, .int .u8 0, .int .u8 0, .int .u8 0, .string ⟨#[]⟩] 28))
  have hn := h.len
  have hh0 : hi ≤ (w.alloc (.cells #[.int .i64 0, .int .u8 0, .int .u8 0, .int .u8 0, .int .u8 0, .int .u8 0, .int .u8 0, .int .u8 0, .int .u8 0, .int .i64 0, .int .i64 0, .int .u8 0, .int .u8 0, .int .u8 0, .int .u8 0, .int .u8 0, .int .u8 0, .int .u8 0, .int .u8 0, .int .u8 0, .int .u8 0, .int .u8 0, .int .u8 0, .int .u8 0, .int .u8 0, .int .u8 0, .int .u8 0, .int .i64 0, .int .u8 0, .int .u8 0, .int .u8 0, .int .u8 0, .int .u8 0, .int .u8 0, .int .u8 0, .int .u8 0, .int .u8 0, .int .u8 0, .int .u8 0, .int .u8 0, .int .u8 0, .int .u8 0, .int .u8 0, .int .u8 0, .int .i64 0, .int .u8 0, .int .u8 0, .int .u8 0, .int .u8 0, .int .u8 0, .int .u8 0, .int .u8 0, .int .u8 0, .int .u8 0, .int .u8 0, .int .u8 0, .int .u8 0, .int .u8 0, .int .u8 0, .int .u8 0, .int .u8 0, .string ⟨#[]⟩] 28)).heap.size := Nat.le_trans hh W0.out.size
  have X := hide (takeR_W b k)
  have HR : Hid (parsR b k = if takeE b k = 0 ∧ takeN b k < b.length then bareM 0 else takeR b k) := hide rfl
  have HE : Hid (parsE b k = if takeE b k = 0 ∧ takeN b k < b.length then 4 else takeE b k) := hide rfl
  rw [hn] at HR HE
  clear h hN
  go_enter Tryd.func8, Tryd.ntmps8
  go_wp2_with fail
  generalize hw0 : w.alloc (.cells #[.int .i64 0, .int .u8 0, .int .u8 0, .int .u8 0, .int .u8 0, .int .u8 0, .int .u8 0, .int .u8 0, .int .u8 0, .int .i64 0, .int .i64 0, .int .u8 0, .int .u8 0, .int .u8 0, .int .u8 0, .int .u8 0, .int .u8 0, .int .u8 0, .int .u8 0, .int .u8 0, .int .u8 0, .int .u8 0, .int .u8 0, .int .u8 0, .int .u8 0, .int .u8 0, .int .u8 0, .int .i64 0, .int .u8 0, .int .u8 0, .int .u8 0, .int .u8 0, .int .u8 0, .int .u8 0, .int .u8 0, .int .u8 0, .int .u8 0, .int .u8 0, .int .u8 0, .int .u8 0, .int .u8 0, .int .u8 0, .int .u8 0, .int .u8 0, .int .i64 0, .int .u8 0, .int .u8 0, .int .u8 0, .int .u8 0, .int .u8 0, .int .u8 0, .int .u8 0, .int .u8 0, .int .u8 0, .int .u8 0, .int .u8 0, .int .u8 0, .int .u8 0, .int .u8 0, .int .u8 0, .int .u8 0, .string ⟨#[]⟩] 28) = w0 at RES W0 HA HN hh0 ⊢
  clear hw0
  refine (mtake_any w0 lo hi A n c b k HA.out hh0 hc hnn HN.out).mono ?_
  generalize hr : takeR b k = r at *
  generalize hu : takeN b k = u at *
  generalize he : takeE b k = er at *
  have HR1 := hide hr
  have HU1 := hide hu
  have HE1 := hide he
  clear hr hu he
  rintro e w1 ⟨h1, hb1⟩
  rw [HR1.out, HU1.out, HE1.out] at h1
  subst h1
  have RES1 := hide (RES.out.over hb1)
  have W1 := hide (below_step W0.out hb1 (Nat.le_refl _))
  have NEW := hide (Blk.new w1 28 #[.int .i64 0, .int .u8 0, .int .u8 0, .int .u8 0, .int .u8 0, .int .u8 0, .int .u8 0, .int .u8 0, .int .u8 0, .int .i64 0, .int .i64 0, .int .u8 0, .int .u8 0, .int .u8 0, .int .u8 0, .int .u8 0, .int .u8 0, .int .u8 0, .int .u8 0, .int .u8 0, .int .u8 0, .int .u8 0, .int .u8 0, .int .u8 0, .int .u8 0, .int .u8 0, .int .u8 0, .int .i64 0, .int .u8 0, .int .u8 0, .int .u8 0, .int .u8 0, .int .u8 0, .int .u8 0, .int .u8 0, .int .u8 0, .int .u8 0, .int .u8 0, .int .u8 0, .int .u8 0, .int .u8 0, .int .u8 0, .int .u8 0, .int .u8 0, .int .i64 0, .int .u8 0, .int .u8 0, .int .u8 0, .int .u8 0, .int .u8 0, .int .u8 0, .int .u8 0, .int .u8 0, .int .u8 0, .int .u8 0, .int .u8 0, .int .u8 0, .int .u8 0, .int .u8 0, .int .u8 0, .int .u8 0, .string ⟨#[]⟩])
  clear hb1 RES W0 HN HA
  go_wp2_with (refine wpList_store_mro rfl (.tmp 6) (.tmp 13) rfl w1.heap.size rfl (m := r) rfl X.out NEW.out rfl ?_; intro w3 hb3 hg3; have M3 := hide hb3; have W23 : Hid (Below w1.heap.size w1 w3) := hide (((Below.refl _ _).alloc (Nat.le_refl _) _).grown hg3 (by simp) (by simp)); clear hb3 hg3; refine Hid.out ?_)
  refine hide ?_
  clear NEW
  have RES3 := hide (RES1.out.over W23.out)
  have W3 := hide (below_step W1.out W23.out (Nat.le_refl _))
  generalize w1.heap.size = q at *
  clear RES1 W1 W23
  by_cases hc1 : er = 0 ∧ u < n
  · obtain ⟨e0, hlt⟩ := hc1
    have hp1 : parsR b k = bareM 0 := by rw [HR.out, if_pos ⟨e0, hlt⟩]
    have hp2 : parsE b k = 4 := by rw [HE.out, if_pos ⟨e0, hlt⟩]
    have H1 := hide hp1
    have H2 := hide hp2
    subst e0
    have hlt' : (u : Int) < (n : Int) := by omega
    clear hp1 hp2 HR HE hlt
    go_wp2_with (with_reducible refine wpList_build_zero rfl rfl ?_; refine Hid.out ?_)
    refine hide ?_
    go_wp2_with (refine wpList_store_mro rfl (.tmp 4) (.tmp 24) rfl w.heap.size rfl (m := bareM 0) rfl (bare_W 0) RES3.out (mro_size (bare_W 0)) ?_; intro w9 hb9 hg9; have M9 := hide hb9; have HG9 := hide hg9; clear hb9 hg9; refine Hid.out ?_)
    refine hide ?_
    go_wp2
    refine ret_mro2 (p := 4) (q := 5) (v := .int .i64 4) rfl rfl rfl M9.out (bare_W 0) rfl ?_
    rw [H1.out, H2.out]
    exact ⟨rfl, W3.out.grown HG9.out W3.out.size (by simp)⟩
  · have hp1 : parsR b k = r := by rw [HR.out, if_neg hc1]
    have hp2 : parsE b k = er := by rw [HE.out, if_neg hc1]
    have H1 := hide hp1
    have H2 := hide hp2
    clear hp1 hp2 HR HE
    by_cases e0 : er = 0
    · have hge : ¬ ((u : Int) < (n : Int)) := fun h => hc1 ⟨e0, by omega⟩
      subst e0
      clear hc1
      go_wp2_with (with_reducible refine wpList_load_mro rfl (.tmp 6) rfl q rfl M3.out X.out ?_; refine Hid.out ?_)
      refine hide ?_
      go_wp2_with (refine wpList_store_mro rfl (.tmp 4) (.tmp 25) rfl w.heap.size rfl (m := r) rfl X.out RES3.out (mro_size (bare_W 0)) ?_; intro w9 hb9 hg9; have M9 := hide hb9; have HG9 := hide hg9; clear hb9 hg9; refine Hid.out ?_)
      refine hide ?_
      go_wp2
      refine ret_mro2 (p := 4) (q := 5) (v := .int .i64 0) rfl rfl rfl M9.out X.out rfl ?_
      rw [H1.out, H2.out]
      exact ⟨rfl, W3.out.grown HG9.out W3.out.size (by simp)⟩
    · have e0b : (er == 0) = false := beq_eq_false_iff_ne.2 e0
      clear hc1
      go_wp2_with (with_reducible refine wpList_load_mro rfl (.tmp 6) rfl q rfl M3.out X.out ?_; refine Hid.out ?_)
      refine hide ?_
      go_wp2_with (refine wpList_store_mro rfl (.tmp 4) (.tmp 25) rfl w.heap.size rfl (m := r) rfl X.out RES3.out (mro_size (bare_W 0)) ?_; intro w9 hb9 hg9; have M9 := hide hb9; have HG9 := hide hg9; clear hb9 hg9; refine Hid.out ?_)
      refine hide ?_
      go_wp2
      refine ret_mro2 (p := 4) (q := 5) (v := .int .i64 er) rfl rfl rfl M9.out X.out rfl ?_
      rw [H1.out, H2.out]
      exact ⟨rfl, W3.out.grown HG9.out W3.out.size (by simp)⟩
theorem few_any (w : World) (m : Mr) (hm : m.W) (hk : m.key.length ≤ 281474976710656) : Calls Tryd.prog 6 #[.agg (mroC m)] w fun e w' => e = .returned (.bool (decide (m.key.length ≤ 4096))) ∧ Below w.heap.size w w' := by
  have W0 := hide ((Below.refl w.heap.size w).alloc (Nat.le_refl _) (.cells (mroC m) 28))
  have k61 := mroC_61 hm
  have hz : (ByteArray.size ⟨m.key.toArray⟩ : Int) = (m.key.length : Int) := by simp [ByteArray.size]
  have he : decide (m.key.length ≤ 4096) = decide ((m.key.length : Int) ≤ 4096) := by rw [decide_eq_decide]; omega
  rw [he]
  clear hm he
  go_enter Tryd.func6, Tryd.ntmps6
  go_wp2
  go_ret
  exact ⟨rfl, W0.out⟩
/-- an address of IPv4, as bytes -/
def v4B (a b c d : UInt8) : List UInt8 := [a, b, c, d, 0, 0, 0, 0, 0, 0, 0, 0, 0, 0, 0, 0]
theorem v4_any (w : World) (a b c d : UInt8) : Calls Tryd.prog 14 #[.int .u8 (a.toNat : Int), .int .u8 (b.toNat : Int), .int .u8 (c.toNat : Int), .int .u8 (d.toNat : Int)] w fun e w' => e = .returned (.agg (addrC 4 (v4B a b c d))) ∧ Below w.heap.size w w' := by
  have W0 := hide ((Below.refl w.heap.size w).alloc (Nat.le_refl _) (.cells (addrC 4 (v4B a b c d)) 26))
  have HB := hide (Blk.new w 26 (addrC 4 (v4B a b c d)))
  go_enter Tryd.func14, Tryd.ntmps14
  go_wp2
  refine ret_addr1 (p := 8) (g := w.heap.size) (t := 26) rfl rfl HB.out rfl rfl ?_
  exact ⟨rfl, W0.out⟩
end Go.Proofs.YthhmplmkdakmgaaDoor
