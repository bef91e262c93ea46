/-
  What Parse of package mroute does, and few, V4 and small of the statements, in whatever memory. The one condition beyond sizes that fit memory: the tables hold what their texts lay.
  The small case of layer 7's statements comes out right. The one condition: the tables hold what their texts lay.
-/
import Derived.Test.YtipgbmajhnkfbaaGreatDoorMrTake
import Derived.Test.YtipgbmajhnkfbaaGreatDoorMrTxt
set_option maxRecDepth 20000
namespace Go.Proofs.YtipgbmajhnkfbaaGreatDoor
open Go.RowKit
set_option linter.unusedVariables false
set_option linter.unusedSimpArgs false
def parsR (b : List UInt8) (k : Int) : Mr := if takeE b k = 0 ∧ takeN b k < b.length then bareM 0 else takeR b k
def parsE (b : List UInt8) (k : Int) : Int := if takeE b k = 0 ∧ takeN b k < b.length then 4 else takeE b k
theorem takeR_W (b : List UInt8) (k : Int) : (takeR b k).W := by
  by_cases h : takeE b k = 0
  · have hz : k = 4 ∨ k = 16 := by
      refine Decidable.byContradiction fun hn => ?_
      unfold takeE at h
      rw [if_pos hn] at h
      cases h
    obtain ⟨_, hw, _⟩ := (take_iff hz (m := takeR b k)).1 ⟨h, rfl⟩
    exact hw
  · unfold takeR
    rw [if_neg h]
    exact bare_W 0
set_option maxHeartbeats 1000000 in
theorem mparse_any (w : World) (lo hi : Nat) (A : Option Addr) (n c : Nat) (b : List UInt8) (k : Int) (h : At w lo hi A n b) (hh : hi ≤ w.heap.size) (hc : n ≤ c) (hnn : n ≤ 10000000000000) (hN : Named w) :
    Calls Tryz.prog 16 #[.slice A n c, .int .i64 k] w fun e w' => e = .returned (.tuple #[.agg (mroC (parsR b k)), .int .i64 (parsE b k)]) ∧ Below w.heap.size w w' := by
  have RES : Hid (Blk (w.alloc (.cells #[.int .i64 0, .int .u8 0, .int .u8 0, .int .u8 0, .int .u8 0, .int .u8 0, .int .u8 0, .int .u8 0, .int .u8 0, .int .i64 0, .int .i64 0, .int .u8 0, .int .u8 0, .int .u8 0, .int .u8 0, .int .u8 0, .int .u8 0, .int .u8 0, .int .u8 0, .int .u8 0, .int .u8 0, .int .u8 0, .int .u8 0, .int .u8 0, .int .u8 0, .int .u8 0, .int .u8 0, .int .i64 0, .int .u8 0, .int .u8 0, .int .u8 0, .int .u8 0, .int .u8 0, .int .u8 0, .int .u8 0, .int .u8 0, .int .u8 0, .int .u8 0, .int .u8 0, .int .u8 0, .int .u8 0, .int .u8 0, .int .u8 0, .int .u8 0, .int .i64 0, .int .u8 0, .int .u8 0, .int .u8 0, .int .u8 0, .int .u8 0, .int .u8 0, .int .u8 0, .int .u8 0, .int .u8 0, .int .u8 0, .int .u8 0, .int .u8 0, .int .u8 0, .int .u8 0, .int .u8 0, .int .u8 0, .string ⟨#[]⟩] 28)) w.heap.size 28 (mroC (bareM 0))) := hide (by rw [bareC0]; exact Blk.new w _ _)
  have W0 := hide ((Below.refl w.heap.size w).alloc (Nat.le_refl _) (.cells #[.int .i64 0, .int .u8 0, .int .u8 0, .int .u8 0, .int .u8 0, .int .u8 0, .int .u8 0, .int .u8 0, .int .u8 0, .int .i64 0, .int .i64 0, .int .u8 0, .int .u8 0, .int .u8 0, .int .u8 0, .int .u8 0, .int .u8 0, .int .u8 0, .int .u8 0, .int .u8 0, .int .u8 0, .int .u8 0, .int .u8 0, .int .u8 0, .int .u8 0, .int .u8 0, .int .u8 0, .int .i64 0, .int .u8 0, .int .u8 0, .int .u8 0, .int .u8 0, .int .u8 0, .int .u8 0, .int .u8 0, .int .u8 0, .int .u8 0, .int .u8 0, .int .u8 0, .int .u8 0, .int .u8 0, .int .u8 0, .int .u8 0, .int .u8 0, .int .i64 0, .int .u8 0, .int .u8 0, .int .u8 0, .int .u8 0, .int .u8 0, .int .u8 0, .int .u8 0, .int .u8 0, .int .u8 0, .int .u8 0, .int .u8 0, .int .u8 0, .int .u8 0, .int .u8 0, .int .u8 0, .int .u8 0, .string ⟨#[]⟩] 28))
  have HN := hide (hN.below W0.out)
  have HA := hide (h.alloc hh (.cells #[.int .i64 0, .int .u8 0, .int .u8 0, .int .u8 0, .int .u8 0, .int .u8 0, .int .u8 0, .int .u8 0, .int .u8 0, .int .i64 0, .int .i64 0, .int .u8 0, .int .u8 0, .int .u8 0, .int .u8 0, .int .u8 0, .int .u8 0, .int .u8 0, .int .u8 0, .int .u8 0, .int .u8 0, .int .u8 0, .int .u8 0, .int .u8 0, .int .u8 0, .int .u8 0, .int .u8 0, .int .i64 0, .int .u8 0, .int .u8 0, .int .u8 0, .int .u8 0, .int .u8 0, .int .u8 0, .int .u8 0, .int .u8 0, .int .u8 0, .int .u8 0, .int .u8 0, .int .u8 0, .int .u8 0, .int .u8 0, .int .u8 0, .int .u8 0, .int .i64 0, .int .u8 0, .int .u8 0, .int .u8 0, .int .u8 0, .int .u8 0, .int .u8 0, .int .u8 0, .int .u8 0, .int .u8 0, .int .u8 0, .int .u8 0, .int .u8 0, .int .u8 0, .int .u8 0, .int .u8 0, .int .u8 0, .string ⟨#[]⟩] 28))
  have hn := h.len
  have hh0 : hi ≤ (w.alloc (.cells #[.int .i64 0, .int .u8 0, .int .u8 0, .int .u8 0, .int .u8 0, .int .u8 0, .int .u8 0, .int .u8 0, .int .u8 0, .int .i64 0, .int .i64 0, .int .u8 0, .int .u8 0, .int .u8 0, .int .u8 0, .int .u8 0, .int .u8 0, .int .u8 0, .int .u8 0, .int .u8 0, .int .u8 0, .int .u8 0, .int .u8 0, .int .u8 0, .int .u8 0, .int .u8 0, .int .u8 0, .int .i64 0, .int .u8 0, .int .u8 0, .int .u8 0, .int .u8 0, .int .u8 0, .int .u8 0, .int .u8 0, .int .u8 0, .int .u8 0, .int .u8 0, .int .u8 0, .int .u8 0, .int .u8 0, .int .u8 0, .int .u8 0, .int .u8 0, .int .i64 0, .int .u8 0, .int .u8 0, .int .u8 0, .int .u8 0, .int .u8 0, .int .u8 0, .int .u8 0, .int .u8 0, .int .u8 0, .int .u8 0, .int .u8 0, .int .u8 0, .int .u8 0, .int .u8 0, .int .u8 0, .int .u8 0, .string ⟨#[]⟩] 28)).heap.size := Nat.le_trans hh W0.out.size
  have X := hide (takeR_W b k)
  have HR : Hid (parsR b k = if takeE b k = 0 ∧ takeN b k < b.length then bareM 0 else takeR b k) := hide rfl
  have HE : Hid (parsE b k = if takeE b k = 0 ∧ takeN b k < b.length then 4 else takeE b k) := hide rfl
  rw [hn] at HR HE
  clear h hN
  go_enter Tryz.func16, Tryz.ntmps16
  go_wp2_with fail
  generalize hw0 : w.alloc (.cells #[.int .i64 0, .int .u8 0, .int .u8 0, .int .u8 0, .int .u8 0, .int .u8 0, .int .u8 0, .int .u8 0, .int .u8 0, .int .i64 0, .int .i64 0, .int .u8 0, .int .u8 0, .int .u8 0, .int .u8 0, .int .u8 0, .int .u8 0, .int .u8 0, .int .u8 0, .int .u8 0, .int .u8 0, .int .u8 0, .int .u8 0, .int .u8 0, .int .u8 0, .int .u8 0, .int .u8 0, .int .i64 0, .int .u8 0, .int .u8 0, .int .u8 0, .int .u8 0, .int .u8 0, .int .u8 0, .int .u8 0, .int .u8 0, .int .u8 0, .int .u8 0, .int .u8 0, .int .u8 0, .int .u8 0, .int .u8 0, .int .u8 0, .int .u8 0, .int .i64 0, .int .u8 0, .int .u8 0, .int .u8 0, .int .u8 0, .int .u8 0, .int .u8 0, .int .u8 0, .int .u8 0, .int .u8 0, .int .u8 0, .int .u8 0, .int .u8 0, .int .u8 0, .int .u8 0, .int .u8 0, .int .u8 0, .string ⟨#[]⟩] 28) = w0 at RES W0 HA HN hh0 ⊢
  clear hw0
  refine (mtake_any w0 lo hi A n c b k HA.out hh0 hc hnn HN.out).mono ?_
  generalize hr : takeR b k = r at *
  generalize hu : takeN b k = u at *
  generalize he : takeE b k = er at *
  have HR1 := hide hr
  have HU1 := hide hu
  have HE1 := hide he
  clear hr hu he
  rintro e w1 ⟨h1, hb1⟩
  rw [HR1.out, HU1.out, HE1.out] at h1
  subst h1
  have RES1 := hide (RES.out.over hb1)
  have W1 := hide (below_step W0.out hb1 (Nat.le_refl _))
  have NEW := hide (Blk.new w1 28 #[.int .i64 0, .int .u8 0, .int .u8 0, .int .u8 0, .int .u8 0, .int .u8 0, .int .u8 0, .int .u8 0, .int .u8 0, .int .i64 0, .int .i64 0, .int .u8 0, .int .u8 0, .int .u8 0, .int .u8 0, .int .u8 0, .int .u8 0, .int .u8 0, .int .u8 0, .int .u8 0, .int .u8 0, .int .u8 0, .int .u8 0, .int .u8 0, .int .u8 0, .int .u8 0, .int .u8 0, .int .i64 0, .int .u8 0, .int .u8 0, .int .u8 0, .int .u8 0, .int .u8 0, .int .u8 0, .int .u8 0, .int .u8 0, .int .u8 0, .int .u8 0, .int .u8 0, .int .u8 0, .int .u8 0, .int .u8 0, .int .u8 0, .int .u8 0, .int .i64 0, .int .u8 0, .int .u8 0, .int .u8 0, .int .u8 0, .int .u8 0, .int .u8 0, .int .u8 0, .int .u8 0, .int .u8 0, .int .u8 0, .int .u8 0, .int .u8 0, .int .u8 0, .int .u8 0, .int .u8 0, .int .u8 0, .string ⟨#[]⟩])
  clear hb1 RES W0 HN HA
  go_wp2_with (refine wpList_store_mro rfl (.tmp 6) (.tmp 13) rfl w1.heap.size rfl (m := r) rfl X.out NEW.out rfl ?_; intro w3 hb3 hg3; have M3 := hide hb3; have W23 : Hid (Below w1.heap.size w1 w3) := hide (((Below.refl _ _).alloc (Nat.le_refl _) _).grown hg3 (by simp) (by simp)); clear hb3 hg3; refine Hid.out ?_)
  refine hide ?_
  clear NEW
  have RES3 := hide (RES1.out.over W23.out)
  have W3 := hide (below_step W1.out W23.out (Nat.le_refl _))
  generalize w1.heap.size = q at *
  clear RES1 W1 W23
  by_cases hc1 : er = 0 ∧ u < n
  · obtain ⟨e0, hlt⟩ := hc1
    have hp1 : parsR b k = bareM 0 := by rw [HR.out, if_pos ⟨e0, hlt⟩]
    have hp2 : parsE b k = 4 := by rw [HE.out, if_pos ⟨e0, hlt⟩]
    have H1 := hide hp1
    have H2 := hide hp2
    subst e0
    have hlt' : (u : Int) < (n : Int) := by omega
    clear hp1 hp2 HR HE hlt
    go_wp2_with (with_reducible refine wpList_build_zero rfl rfl ?_; refine Hid.out ?_)
    refine hide ?_
    go_wp2_with (refine wpList_store_mro rfl (.tmp 4) (.tmp 24) rfl w.heap.size rfl (m := bareM 0) rfl (bare_W 0) RES3.out (mro_size (bare_W 0)) ?_; intro w9 hb9 hg9; have M9 := hide hb9; have HG9 := hide hg9; clear hb9 hg9; refine Hid.out ?_)
    refine hide ?_
    go_wp2
    refine ret_mro2 (p := 4) (q := 5) (v := .int .i64 4) rfl rfl rfl M9.out (bare_W 0) rfl ?_
    rw [H1.out, H2.out]
    exact ⟨rfl, W3.out.grown HG9.out W3.out.size (by simp)⟩
  · have hp1 : parsR b k = r := by rw [HR.out, if_neg hc1]
    have hp2 : parsE b k = er := by rw [HE.out, if_neg hc1]
    have H1 := hide hp1
    have H2 := hide hp2
    clear hp1 hp2 HR HE
    by_cases e0 : er = 0
    · have hge : ¬ ((u : Int) < (n : Int)) := fun h => hc1 ⟨e0, by omega⟩
      subst e0
      clear hc1
      go_wp2_with (with_reducible refine wpList_load_mro rfl (.tmp 6) rfl q rfl M3.out X.out ?_; refine Hid.out ?_)
      refine hide ?_
      go_wp2_with (refine wpList_store_mro rfl (.tmp 4) (.tmp 25) rfl w.heap.size rfl (m := r) rfl X.out RES3.out (mro_size (bare_W 0)) ?_; intro w9 hb9 hg9; have M9 := hide hb9; have HG9 := hide hg9; clear hb9 hg9; refine Hid.out ?_)
      refine hide ?_
      go_wp2
      refine ret_mro2 (p := 4) (q := 5) (v := .int .i64 0) rfl rfl rfl M9.out X.out rfl ?_
      rw [H1.out, H2.out]
      exact ⟨rfl, W3.out.grown HG9.out W3.out.size (by simp)⟩
    · have e0b : (er == 0) = false := beq_eq_false_iff_ne.2 e0
      clear hc1
      go_wp2_with (with_reducible refine wpList_load_mro rfl (.tmp 6) rfl q rfl M3.out X.out ?_; refine Hid.out ?_)
      refine hide ?_
      go_wp2_with (refine wpList_store_mro rfl (.tmp 4) (.tmp 25) rfl w.heap.size rfl (m := r) rfl X.out RES3.out (mro_size (bare_W 0)) ?_; intro w9 hb9 hg9; have M9 := hide hb9; have HG9 := hide hg9; clear hb9 hg9; refine Hid.out ?_)
      refine hide ?_
      go_wp2
      refine ret_mro2 (p := 4) (q := 5) (v := .int .i64 er) rfl rfl rfl M9.out X.out rfl ?_
      rw [H1.out, H2.out]
      exact ⟨rfl, W3.out.grown HG9.out W3.out.size (by simp)⟩
theorem few_any (w : World) (m : Mr) (hm : m.W) (hk : m.key.length ≤ 281474976710656) : Calls Tryz.prog 5 #[.agg (mroC m)] w fun e w' => e = .returned (.bool (decide (m.key.length ≤ 4096))) ∧ Below w.heap.size w w' := by
  have W0 := hide ((Below.refl w.heap.size w).alloc (Nat.le_refl _) (.cells (mroC m) 28))
  have k61 := mroC_61 hm
  have hz : (ByteArray.size ⟨m.key.toArray⟩ : Int) = (m.key.length : Int) := by simp [ByteArray.size]
  have he : decide (m.key.length ≤ 4096) = decide ((m.key.length : Int) ≤ 4096) := by rw [decide_eq_decide]; omega
  rw [he]
  clear hm he
  go_enter Tryz.func5, Tryz.ntmps5
  go_wp2
  go_ret
  exact ⟨rfl, W0.out⟩
end Go.Proofs.YtipgbmajhnkfbaaGreatDoor
namespace Go.Proofs.YtipgbmajhnkfbaaGreatDoor
open Go.RowKit
set_option linter.unusedVariables false
set_option linter.unusedSimpArgs false
def smD : List UInt8 := [0, 0, 0, 1, 0, 0, 0, 1]
def smM : Mr := ⟨3, smD, 0, 0, zero16, 4, v4B 224 0 0 1, 4, v4B 10 0 0 1, []⟩
def smL : Mr := leafM (bytesM smM) 4 (v4B 10 0 0 2)
theorem smM_W : smM.W := ⟨rfl, rfl, rfl, rfl⟩
theorem smL_W : smL.W := ⟨rfl, rfl, rfl, rfl⟩
theorem sm_right : rightM smM = true := by decide +kernel
theorem sm_rightL : rightM smL = true := by decide +kernel
theorem sm_out : outB smM = bytesM smM ∧ errB smM = 0 := by unfold outB errB; rw [sm_right]; exact ⟨rfl, rfl⟩
theorem sm_outL : outB smL = bytesM smL ∧ errB smL = 0 := by unfold outB errB; rw [sm_rightL]; exact ⟨rfl, rfl⟩
theorem sm_len : (bytesM smM).length = 20 := by decide +kernel
theorem sm_lenL : (bytesM smL).length = 26 := by decide +kernel
theorem sm_take : takeE (bytesM smM) 4 = 0 ∧ takeN (bytesM smM) 4 = 20 := by decide +kernel
theorem sm_takeR : takeR (bytesM smM) 4 = smM := by
  have h := take_bytes smM_W ((rightM_iff smM).1 sm_right) (size := 4) (by decide +kernel) []
  rw [List.append_nil] at h
  unfold takeR
  rw [if_pos sm_take.1, h.1]
  rfl
theorem sm_pars : parsR (bytesM smM) 4 = smM ∧ parsE (bytesM smM) 4 = 0 := by
  unfold parsR parsE
  rw [sm_take.1, sm_take.2, sm_len, sm_takeR]
  exact ⟨rfl, rfl⟩
theorem sm_leaf : leafR smM 4 (v4B 10 0 0 2) = smL ∧ leafE smM 4 (v4B 10 0 0 2) = 0 := by
  unfold leafR leafE
  rw [sm_out.1, show leafM (bytesM smM) 4 (v4B 10 0 0 2) = smL from rfl, sm_rightL]
  exact ⟨rfl, rfl⟩
theorem sm_text : textM smM = [51, 32, 48, 58, 49, 58, 49, 32, 42, 32, 50, 50, 52, 46, 48, 46, 48, 46, 49, 32, 49, 48, 46, 48, 46, 48, 46, 49] := by decide +kernel
theorem sm_textL : textM smL = [52, 32, 91, 51, 32, 48, 58, 49, 58, 49, 32, 42, 32, 50, 50, 52, 46, 48, 46, 48, 46, 49, 32, 49, 48, 46, 48, 46, 48, 46, 49, 93, 32, 49, 48, 46, 48, 46, 48, 46, 50] := by decide +kernel
theorem v4a (w : World) : Calls Tryz.prog 14 #[.int .u8 224, .int .u8 0, .int .u8 0, .int .u8 1] w fun e w' => e = .returned (.agg (addrC 4 (v4B 224 0 0 1))) ∧ Below w.heap.size w w' := v4_any w 224 0 0 1
theorem v4b (w : World) : Calls Tryz.prog 14 #[.int .u8 10, .int .u8 0, .int .u8 0, .int .u8 1] w fun e w' => e = .returned (.agg (addrC 4 (v4B 10 0 0 1))) ∧ Below w.heap.size w w' := v4_any w 10 0 0 1
theorem v4c (w : World) : Calls Tryz.prog 14 #[.int .u8 10, .int .u8 0, .int .u8 0, .int .u8 2] w fun e w' => e = .returned (.agg (addrC 4 (v4B 10 0 0 2))) ∧ Below w.heap.size w w' := v4_any w 10 0 0 2
theorem built_sm : Tryz.prog.built 28 [(0, .int .i64 3), (1, .agg (rdC smD)), (4, .agg (addrC 4 (v4B 224 0 0 1))), (5, .agg (addrC 4 (v4B 10 0 0 1)))] = some (mroC smM) := by kernel_rfl
theorem rdC_sm : rdC smD = #[.int .u8 0, .int .u8 0, .int .u8 0, .int .u8 1, .int .u8 0, .int .u8 0, .int .u8 0, .int .u8 1] := by kernel_rfl
theorem wpList_build_sm {ops : Array Oper} {rest : List Oper} {o : Oper} {a : Act} {w : World} {Q : Exit → Act → World → Prop} (hgd : o.guard = none) (z x y u : Operand) (ho : o.op = .build 28 #[(0, z), (1, x), (4, y), (5, u)]) (hz : a.eval z = .int .i64 3) (hx : a.eval x = .agg #[.int .u8 0, .int .u8 0, .int .u8 0, .int .u8 1, .int .u8 0, .int .u8 0, .int .u8 0, .int .u8 1]) (hy : a.eval y = .agg (addrC 4 (v4B 224 0 0 1))) (hu : a.eval u = .agg (addrC 4 (v4B 10 0 0 1)))
    (hk : wpList Tryz.prog ops Q rest (a.put o.dst (.agg (mroC smM))) w) : wpList Tryz.prog ops Q (o :: rest) a w := by
  refine wpList_plain hgd fun K hK' => ?_
  have hb := built_sm
  rw [rdC_sm] at hb
  unfold Oper.wp execOp
  simp only [ho, List.map_toArray, List.map_cons, List.map_nil, hz, hx, hy, hu, Sem.run_bind, run_build w _ _ _ hb, Result.andThen_ok, Sem.run_pure]
  exact hK' _ _ hk
section
variable {P : Program} {ops : Array Oper} {Q : Exit → Act → World → Prop} {md : Region.Mode} {S : World → Prop} {fuel : Nat} {listed : Array Bool} {a : Act} {w : World} {i : Nat} {o : Oper}
theorem region_call_run3 {f : FuncId} {args : Array Value} {R : Ending → World → Prop} {j : Nat} {o' : Oper} {v : Value} {w1 : World} (hi : ops.toList[i]? = some o) (hj : ops.toList[j]? = some o') (hr : Region.ready md ops listed = [i, j])
    (hw : Region.wanted o (yielded ops a.tmps) = true) (hw' : Region.wanted o' (yielded ops a.tmps) = true) (hc : Calls P f args w R) (hrun : ∀ w, (execOp a.eval o).run P w = .ok (.enter f args) w)
    (hrun' : (execOp a.eval o').run P w = .ok (.value v) w1) (hS : S w1)
    (h : ∀ e w', R e w' → ∃ v, e = .returned v ∧ S w' ∧ (S w' → wpAnyH P md ops Q S fuel (listed.setIfInBounds i true) (a.put o.dst v) w'))
    (h' : S w1 → wpAnyH P md ops Q S fuel (listed.setIfInBounds j true) (a.put o'.dst v) w1) : wpAnyH P md ops Q S (fuel + 1) listed a w := by
  refine wpAnyH_ready hr (by simp) (AllReadyH.cons (toList_get hi) (fun K hK => ?_) (AllReadyH.cons (toList_get hj) (fun K hK => ?_) AllReadyH.nil))
  · refine step_call hc hw hrun (fun e w' hr => ?_)
    obtain ⟨v, he, hS, hk⟩ := h e w' hr
    exact ⟨v, he, hK.out _ _ hS hk⟩
  · rw [if_pos hw']
    unfold Oper.wp
    rw [hrun']
    exact hK.out _ _ hS h'
end
theorem exec_store_mro {o : Oper} {a : Act} {w : World} (x y : Operand) (ho : o.op = .store 28 x y)
    (g : Nat) (hx : a.eval x = .pointer (some ⟨g, 0, none⟩)) {m : Mr} (hy : a.eval y = .agg (mroC m)) (hm : m.W) {t : TypeId} {old : Array Value} (h : Blk w g t old) (hold : old.size = 62) :
    (execOp a.eval o).run Tryz.prog w = .ok .skip (w.setRow g (mroC m)) := by
  have hi : (Tryz.prog.info? 28).map (·.size) = some (mroC m).size := by rw [mro_size hm]; kernel_rfl
  unfold execOp
  simp only [ho, hx, hy, Instr.storeAt, Instr.sureAddr, Sem.run_bind, Sem.run_pure, Result.andThen_ok, run_storeVar_row w g t 28 old (mroC m) h hi (by rw [mro_size hm, hold]) mro_one]
set_option maxHeartbeats 8000000 in
theorem small_any (w : World) (hg : GlobM w) : Calls Tryz.prog 4 #[] w fun e w' => e = .returned (.bool true) ∧ Below w.heap.size w w' := by
  have HG := hide hg
  clear hg
  go_enter Tryz.func4, Tryz.ntmps4
  go_wp2_with fail
  refine (v4a w).mono ?_
  rintro e w1 ⟨rfl, hb1⟩
  have W1 := hide hb1
  clear hb1
  go_wp2_with fail
  refine (v4b w1).mono ?_
  rintro e w2 ⟨rfl, hb2⟩
  have W2 := hide (W1.out.trans (hb2.mono W1.out.size))
  have NEW := hide (Blk.new w2 28 #[.int .i64 0, .int .u8 0, .int .u8 0, .int .u8 0, .int .u8 0, .int .u8 0, .int .u8 0, .int .u8 0, .int .u8 0, .int .i64 0, .int .i64 0, .int .u8 0, .int .u8 0, .int .u8 0, .int .u8 0, .int .u8 0, .int .u8 0, .int .u8 0, .int .u8 0, .int .u8 0, .int .u8 0, .int .u8 0, .int .u8 0, .int .u8 0, .int .u8 0, .int .u8 0, .int .u8 0, .int .i64 0, .int .u8 0, .int .u8 0, .int .u8 0, .int .u8 0, .int .u8 0, .int .u8 0, .int .u8 0, .int .u8 0, .int .u8 0, .int .u8 0, .int .u8 0, .int .u8 0, .int .u8 0, .int .u8 0, .int .u8 0, .int .u8 0, .int .i64 0, .int .u8 0, .int .u8 0, .int .u8 0, .int .u8 0, .int .u8 0, .int .u8 0, .int .u8 0, .int .u8 0, .int .u8 0, .int .u8 0, .int .u8 0, .int .u8 0, .int .u8 0, .int .u8 0, .int .u8 0, .int .u8 0, .string ⟨#[]⟩])
  have hq0 : w.heap.size ≤ w2.heap.size := W2.out.size
  clear hb2
  go_wp2_with (first
    | (with_reducible refine wpList_build_sm rfl (.const (.int .i64 3)) (.tmp 10) (.tmp 11) (.tmp 12) rfl rfl rfl rfl rfl ?_; refine Hid.out ?_))
  refine hide ?_
  go_wp2_with (refine wpList_store_mro rfl (.tmp 1) (.tmp 13) rfl w2.heap.size rfl (m := smM) rfl smM_W NEW.out rfl ?_; intro w3 hb3 hg3; have M3 := hide hb3; have W23 : Hid (Below w2.heap.size w2 w3) := hide (((Below.refl _ _).alloc (Nat.le_refl _) _).grown hg3 (by simp) (by simp)); clear hb3 hg3; refine Hid.out ?_)
  refine hide ?_
  clear NEW
  have W3 := hide (W2.out.trans (W23.out.mono W2.out.size))
  have G3 := hide (HG.out.below W3.out)
  generalize w2.heap.size = q at *
  go_wp2_with (with_reducible refine wpList_load_mro rfl (.tmp 1) rfl q rfl M3.out smM_W ?_)
  refine (mbytes_any w3 smM smM_W (by decide) G3.out.2).mono ?_
  rw [sm_out.1, sm_out.2]
  rintro e w4 ⟨v4, rfl, ho4, hb4⟩
  rw [sm_len] at ho4
  obtain ⟨A4, c4, rfl, hc4, _⟩ := own_shape ho4
  have M4 := hide (M3.out.over hb4)
  have G4 := hide (G3.out.below hb4)
  have W4 := hide (W3.out.trans (hb4.mono W3.out.size))
  have A4' := hide (At.own ho4)
  clear ho4 hb4
  go_wp2_with fail
  refine (mparse_any w4 _ _ A4 _ c4 (bytesM smM) 4 A4'.out (Nat.le_refl _) hc4 (by decide) G4.out.2).mono ?_
  rw [sm_pars.1, sm_pars.2]
  rintro e w5 ⟨rfl, hb5⟩
  have M5 := hide (M4.out.over hb5)
  have G5 := hide (G4.out.below hb5)
  have W5 := hide (W4.out.trans (hb5.mono W4.out.size))
  have NEW := hide (Blk.new w5 28 #[.int .i64 0, .int .u8 0, .int .u8 0, .int .u8 0, .int .u8 0, .int .u8 0, .int .u8 0, .int .u8 0, .int .u8 0, .int .i64 0, .int .i64 0, .int .u8 0, .int .u8 0, .int .u8 0, .int .u8 0, .int .u8 0, .int .u8 0, .int .u8 0, .int .u8 0, .int .u8 0, .int .u8 0, .int .u8 0, .int .u8 0, .int .u8 0, .int .u8 0, .int .u8 0, .int .u8 0, .int .i64 0, .int .u8 0, .int .u8 0, .int .u8 0, .int .u8 0, .int .u8 0, .int .u8 0, .int .u8 0, .int .u8 0, .int .u8 0, .int .u8 0, .int .u8 0, .int .u8 0, .int .u8 0, .int .u8 0, .int .u8 0, .int .u8 0, .int .i64 0, .int .u8 0, .int .u8 0, .int .u8 0, .int .u8 0, .int .u8 0, .int .u8 0, .int .u8 0, .int .u8 0, .int .u8 0, .int .u8 0, .int .u8 0, .int .u8 0, .int .u8 0, .int .u8 0, .int .u8 0, .int .u8 0, .string ⟨#[]⟩])
  have hp0 : w.heap.size ≤ w5.heap.size := W5.out.size
  clear hb5
  go_wp2_with (refine wpList_store_mro rfl (.tmp 4) (.tmp 22) rfl w5.heap.size rfl (m := smM) rfl smM_W NEW.out rfl ?_; intro w6 hb6 hg6; have P6 := hide hb6; have W56 : Hid (Below w5.heap.size w5 w6) := hide (((Below.refl _ _).alloc (Nat.le_refl _) _).grown hg6 (by simp) (by simp)); clear hb6 hg6; refine Hid.out ?_)
  refine hide ?_
  clear NEW
  have M6 := hide (M5.out.over W56.out)
  have W6 := hide (W5.out.trans (W56.out.mono W5.out.size))
  have G6 := hide (HG.out.below W6.out)
  generalize w5.heap.size = p at *
  go_wp2_with fail
  refine wp_region_held_drew (S := fun x => (Blk x q 28 (mroC smM) ∧ Blk x p 28 (mroC smM)) ∧ GlobM x ∧ Below w.heap.size w x) (by kernel_rfl) ⟨⟨M6.out, P6.out⟩, G6.out, below_drew W6.out⟩ (fun hHeld => ?_)
  refine region_take (i := 0) (v := (.agg (mroC smM))) rfl (by kernel_rfl) (by kernel_rfl) (by kernel_rfl) (fun _ _ _ h => h) (Or.inl ⟨by rfl, ?_⟩) (by assumption) ?_
  · (intro w' hSw; exact exec_load_mro (.tmp 1) rfl q rfl hSw.1.1 smM_W)
  simp only [Act.put, List.setIfInBounds_toArray, List.set_cons_zero, List.set_cons_succ]
  have FA := hide hHeld
  refine region_call_run3 (i := 1) (j := 6) (w1 := (w6.drew).alloc (.cells #[.int .i64 0, .int .u8 0, .int .u8 0, .int .u8 0, .int .u8 0, .int .u8 0, .int .u8 0, .int .u8 0, .int .u8 0, .int .i64 0, .int .i64 0, .int .u8 0, .int .u8 0, .int .u8 0, .int .u8 0, .int .u8 0, .int .u8 0, .int .u8 0, .int .u8 0, .int .u8 0, .int .u8 0, .int .u8 0, .int .u8 0, .int .u8 0, .int .u8 0, .int .u8 0, .int .u8 0, .int .i64 0, .int .u8 0, .int .u8 0, .int .u8 0, .int .u8 0, .int .u8 0, .int .u8 0, .int .u8 0, .int .u8 0, .int .u8 0, .int .u8 0, .int .u8 0, .int .u8 0, .int .u8 0, .int .u8 0, .int .u8 0, .int .u8 0, .int .i64 0, .int .u8 0, .int .u8 0, .int .u8 0, .int .u8 0, .int .u8 0, .int .u8 0, .int .u8 0, .int .u8 0, .int .u8 0, .int .u8 0, .int .u8 0, .int .u8 0, .int .u8 0, .int .u8 0, .int .u8 0, .int .u8 0, .string ⟨#[]⟩] 28)) (v := (.pointer (some ⟨w6.heap.size, 0, none⟩))) rfl rfl (by kernel_rfl) (by rfl) (by rfl) (v4c _) (fun w => by kernel_rfl) ?_ ⟨⟨hHeld.1.1.alloc _, hHeld.1.2.alloc _⟩, hHeld.2.1.below ((Below.refl _ _).alloc (Nat.le_refl _) _), hHeld.2.2.alloc hHeld.2.2.size _⟩ ?_ (fun hHeld => ?_)
  · (go_simp <;> with_reducible rfl)
  · skip
    clear FA
    rintro e w7 ⟨rfl, hb7⟩
    refine ⟨_, rfl, ⟨⟨hHeld.1.1.over hb7, hHeld.1.2.over hb7⟩, hHeld.2.1.below hb7, hHeld.2.2.trans (hb7.mono hHeld.2.2.size)⟩, fun hHeld => ?_⟩
    simp only [Act.put, List.setIfInBounds_toArray, List.set_cons_zero, List.set_cons_succ]
    clear hb7
    have FA := hide hHeld
    refine region_call_run3 (i := 2) (j := 6) (w1 := w7.alloc (.cells #[.int .i64 0, .int .u8 0, .int .u8 0, .int .u8 0, .int .u8 0, .int .u8 0, .int .u8 0, .int .u8 0, .int .u8 0, .int .i64 0, .int .i64 0, .int .u8 0, .int .u8 0, .int .u8 0, .int .u8 0, .int .u8 0, .int .u8 0, .int .u8 0, .int .u8 0, .int .u8 0, .int .u8 0, .int .u8 0, .int .u8 0, .int .u8 0, .int .u8 0, .int .u8 0, .int .u8 0, .int .i64 0, .int .u8 0, .int .u8 0, .int .u8 0, .int .u8 0, .int .u8 0, .int .u8 0, .int .u8 0, .int .u8 0, .int .u8 0, .int .u8 0, .int .u8 0, .int .u8 0, .int .u8 0, .int .u8 0, .int .u8 0, .int .u8 0, .int .i64 0, .int .u8 0, .int .u8 0, .int .u8 0, .int .u8 0, .int .u8 0, .int .u8 0, .int .u8 0, .int .u8 0, .int .u8 0, .int .u8 0, .int .u8 0, .int .u8 0, .int .u8 0, .int .u8 0, .int .u8 0, .int .u8 0, .string ⟨#[]⟩] 28)) (v := (.pointer (some ⟨w7.heap.size, 0, none⟩))) rfl rfl (by kernel_rfl) (by rfl) (by rfl) (leaf_any _ smM 4 (v4B 10 0 0 2) smM_W rfl (by decide) hHeld.2.1.2) (fun w => by kernel_rfl) ?_ ⟨⟨hHeld.1.1.alloc _, hHeld.1.2.alloc _⟩, hHeld.2.1.below ((Below.refl _ _).alloc (Nat.le_refl _) _), hHeld.2.2.alloc hHeld.2.2.size _⟩ ?_ (fun hHeld => ?_)
    · (go_simp <;> with_reducible rfl)
    · skip
      rw [sm_leaf.1, sm_leaf.2]
      rintro e w8 ⟨rfl, hb8⟩
      refine ⟨_, rfl, ⟨⟨hHeld.1.1.over hb8, hHeld.1.2.over hb8⟩, hHeld.2.1.below hb8, hHeld.2.2.trans (hb8.mono hHeld.2.2.size)⟩, fun hHeld => ?_⟩
      simp only [Act.put, List.setIfInBounds_toArray, List.set_cons_zero, List.set_cons_succ]
      clear hb8
      refine region_take (i := 3) (v := ?_) rfl (by kernel_rfl) (by kernel_rfl) (by kernel_rfl) (fun _ _ _ h => h) (Or.inl ⟨by rfl, ?_⟩) (by assumption) ?_
      rotate_left
      · (intro w' hSw; (try dsimp only at hSw); go_simp <;> with_reducible rfl)
      simp only [Act.put, List.setIfInBounds_toArray, List.set_cons_zero, List.set_cons_succ]
      refine region_take (i := 4) (v := ?_) rfl (by kernel_rfl) (by kernel_rfl) (by kernel_rfl) (fun _ _ _ h => h) (Or.inl ⟨by rfl, ?_⟩) (by assumption) ?_
      rotate_left
      · (intro w' hSw; (try dsimp only at hSw); go_simp <;> with_reducible rfl)
      simp only [Act.put, List.setIfInBounds_toArray, List.set_cons_zero, List.set_cons_succ]
      refine region_take (i := 5) (v := ?_) rfl (by kernel_rfl) (by kernel_rfl) (by kernel_rfl) (fun _ _ _ h => h) (Or.inl ⟨by rfl, ?_⟩) (by assumption) ?_
      rotate_left
      · (intro w' hSw; (try dsimp only at hSw); go_simp <;> with_reducible rfl)
      simp only [Act.put, List.setIfInBounds_toArray, List.set_cons_zero, List.set_cons_succ]
      have FA := hide hHeld
      refine region_run (w' := w8.alloc (.cells #[.int .i64 0, .int .u8 0, .int .u8 0, .int .u8 0, .int .u8 0, .int .u8 0, .int .u8 0, .int .u8 0, .int .u8 0, .int .i64 0, .int .i64 0, .int .u8 0, .int .u8 0, .int .u8 0, .int .u8 0, .int .u8 0, .int .u8 0, .int .u8 0, .int .u8 0, .int .u8 0, .int .u8 0, .int .u8 0, .int .u8 0, .int .u8 0, .int .u8 0, .int .u8 0, .int .u8 0, .int .i64 0, .int .u8 0, .int .u8 0, .int .u8 0, .int .u8 0, .int .u8 0, .int .u8 0, .int .u8 0, .int .u8 0, .int .u8 0, .int .u8 0, .int .u8 0, .int .u8 0, .int .u8 0, .int .u8 0, .int .u8 0, .int .u8 0, .int .i64 0, .int .u8 0, .int .u8 0, .int .u8 0, .int .u8 0, .int .u8 0, .int .u8 0, .int .u8 0, .int .u8 0, .int .u8 0, .int .u8 0, .int .u8 0, .int .u8 0, .int .u8 0, .int .u8 0, .int .u8 0, .int .u8 0, .string ⟨#[]⟩] 28)) (i := 6) (v := (.pointer (some ⟨w8.heap.size, 0, none⟩))) rfl (by kernel_rfl) (by rfl) ?_ ⟨⟨hHeld.1.1.alloc _, hHeld.1.2.alloc _⟩, hHeld.2.1.below ((Below.refl _ _).alloc (Nat.le_refl _) _), hHeld.2.2.alloc hHeld.2.2.size _⟩ (fun hHeld => ?_)
      · (go_simp <;> with_reducible rfl)
      simp only [Act.put, List.setIfInBounds_toArray, List.set_cons_zero, List.set_cons_succ]
      have hqr : q < w8.heap.size := FA.out.1.1.lt
      have hpr : p < w8.heap.size := FA.out.1.2.lt
      have hwr : w.heap.size ≤ w8.heap.size := FA.out.2.2.size
      have NB : Hid (Blk ((w8).alloc (.cells #[.int .i64 0, .int .u8 0, .int .u8 0, .int .u8 0, .int .u8 0, .int .u8 0, .int .u8 0, .int .u8 0, .int .u8 0, .int .i64 0, .int .i64 0, .int .u8 0, .int .u8 0, .int .u8 0, .int .u8 0, .int .u8 0, .int .u8 0, .int .u8 0, .int .u8 0, .int .u8 0, .int .u8 0, .int .u8 0, .int .u8 0, .int .u8 0, .int .u8 0, .int .u8 0, .int .u8 0, .int .i64 0, .int .u8 0, .int .u8 0, .int .u8 0, .int .u8 0, .int .u8 0, .int .u8 0, .int .u8 0, .int .u8 0, .int .u8 0, .int .u8 0, .int .u8 0, .int .u8 0, .int .u8 0, .int .u8 0, .int .u8 0, .int .u8 0, .int .i64 0, .int .u8 0, .int .u8 0, .int .u8 0, .int .u8 0, .int .u8 0, .int .u8 0, .int .u8 0, .int .u8 0, .int .u8 0, .int .u8 0, .int .u8 0, .int .u8 0, .int .u8 0, .int .u8 0, .int .u8 0, .int .u8 0, .string ⟨#[]⟩] 28)) w8.heap.size 28 #[.int .i64 0, .int .u8 0, .int .u8 0, .int .u8 0, .int .u8 0, .int .u8 0, .int .u8 0, .int .u8 0, .int .u8 0, .int .i64 0, .int .i64 0, .int .u8 0, .int .u8 0, .int .u8 0, .int .u8 0, .int .u8 0, .int .u8 0, .int .u8 0, .int .u8 0, .int .u8 0, .int .u8 0, .int .u8 0, .int .u8 0, .int .u8 0, .int .u8 0, .int .u8 0, .int .u8 0, .int .i64 0, .int .u8 0, .int .u8 0, .int .u8 0, .int .u8 0, .int .u8 0, .int .u8 0, .int .u8 0, .int .u8 0, .int .u8 0, .int .u8 0, .int .u8 0, .int .u8 0, .int .u8 0, .int .u8 0, .int .u8 0, .int .u8 0, .int .i64 0, .int .u8 0, .int .u8 0, .int .u8 0, .int .u8 0, .int .u8 0, .int .u8 0, .int .u8 0, .int .u8 0, .int .u8 0, .int .u8 0, .int .u8 0, .int .u8 0, .int .u8 0, .int .u8 0, .int .u8 0, .int .u8 0, .string ⟨#[]⟩]) := hide (Blk.new (w8) 28 #[.int .i64 0, .int .u8 0, .int .u8 0, .int .u8 0, .int .u8 0, .int .u8 0, .int .u8 0, .int .u8 0, .int .u8 0, .int .i64 0, .int .i64 0, .int .u8 0, .int .u8 0, .int .u8 0, .int .u8 0, .int .u8 0, .int .u8 0, .int .u8 0, .int .u8 0, .int .u8 0, .int .u8 0, .int .u8 0, .int .u8 0, .int .u8 0, .int .u8 0, .int .u8 0, .int .u8 0, .int .i64 0, .int .u8 0, .int .u8 0, .int .u8 0, .int .u8 0, .int .u8 0, .int .u8 0, .int .u8 0, .int .u8 0, .int .u8 0, .int .u8 0, .int .u8 0, .int .u8 0, .int .u8 0, .int .u8 0, .int .u8 0, .int .u8 0, .int .i64 0, .int .u8 0, .int .u8 0, .int .u8 0, .int .u8 0, .int .u8 0, .int .u8 0, .int .u8 0, .int .u8 0, .int .u8 0, .int .u8 0, .int .u8 0, .int .u8 0, .int .u8 0, .int .u8 0, .int .u8 0, .int .u8 0, .string ⟨#[]⟩])
      generalize (w8).alloc (.cells #[.int .i64 0, .int .u8 0, .int .u8 0, .int .u8 0, .int .u8 0, .int .u8 0, .int .u8 0, .int .u8 0, .int .u8 0, .int .i64 0, .int .i64 0, .int .u8 0, .int .u8 0, .int .u8 0, .int .u8 0, .int .u8 0, .int .u8 0, .int .u8 0, .int .u8 0, .int .u8 0, .int .u8 0, .int .u8 0, .int .u8 0, .int .u8 0, .int .u8 0, .int .u8 0, .int .u8 0, .int .i64 0, .int .u8 0, .int .u8 0, .int .u8 0, .int .u8 0, .int .u8 0, .int .u8 0, .int .u8 0, .int .u8 0, .int .u8 0, .int .u8 0, .int .u8 0, .int .u8 0, .int .u8 0, .int .u8 0, .int .u8 0, .int .u8 0, .int .i64 0, .int .u8 0, .int .u8 0, .int .u8 0, .int .u8 0, .int .u8 0, .int .u8 0, .int .u8 0, .int .u8 0, .int .u8 0, .int .u8 0, .int .u8 0, .int .u8 0, .int .u8 0, .int .u8 0, .int .u8 0, .int .u8 0, .string ⟨#[]⟩] 28) = xa at hHeld NB ⊢
      generalize hrr : w8.heap.size = r at hqr hpr hwr NB ⊢
      have hra : r < xa.heap.size := NB.out.lt
      clear hrr
      have hst : (xa).grownBy ((xa).setRow r (mroC smL)) (some r) := grown_setRow _ _ _
      have LF : Hid (Blk ((xa).setRow r (mroC smL)) r 28 (mroC smL)) := hide (NB.out.setRow _)
      refine region_store (i := 7) rfl (by kernel_rfl) (by rfl) (exec_store_mro (.tmp 6) (.tmp 28) rfl r rfl rfl smL_W NB.out rfl) ⟨⟨hHeld.1.1.grown hst (by intro e; injection e with e; omega), hHeld.1.2.grown hst (by intro e; injection e with e; omega)⟩, HG.out.below (hHeld.2.2.grown hst hHeld.2.2.size (by intro g hg; injection hg with hg; omega)), hHeld.2.2.grown hst hHeld.2.2.size (by intro g hg; injection hg with hg; omega)⟩ (fun hHeld => ?_)
      simp only [Act.put, List.setIfInBounds_toArray, List.set_cons_zero, List.set_cons_succ]
      generalize (xa).setRow r (mroC smL) = xl at hHeld LF ⊢
      refine region_take (i := 8) (v := ?_) rfl (by kernel_rfl) (by kernel_rfl) (by kernel_rfl) (fun _ _ _ h => h) (Or.inl ⟨by rfl, ?_⟩) (by assumption) ?_
      rotate_left
      · (intro w' hSw; (try dsimp only at hSw); go_simp <;> with_reducible rfl)
      simp only [Act.put, List.setIfInBounds_toArray, List.set_cons_zero, List.set_cons_succ]
      have HX := hide hHeld
      refine wpAnyH_done (by kernel_rfl) ?_ _
      go_wp2_with (with_reducible refine wpList_load_mro rfl (.tmp 6) rfl r rfl LF.out smL_W ?_)
      refine (mbytes_any _ smL smL_W (by decide +kernel) HX.out.2.1.2).mono ?_
      rw [sm_outL.1, sm_outL.2]
      rintro e w10 ⟨v10, rfl, ho10, hb10⟩
      rw [sm_lenL] at ho10
      obtain ⟨A10, c10, rfl, _, _⟩ := own_shape ho10
      have M10 := hide (HX.out.1.1.over hb10)
      have P10 := hide (HX.out.1.2.over hb10)
      have L10 := hide (LF.out.over hb10)
      have G10 := hide (HX.out.2.1.below hb10)
      have W10 := hide (HX.out.2.2.trans (hb10.mono HX.out.2.2.size))
      clear ho10 hb10 HX LF hHeld
      go_wp2_with (first
        | ((with_reducible refine wpList_load_mro ?_ (.tmp 4) rfl p rfl P10.out smM_W ?_); · rfl)
        | ((with_reducible refine wpList_load_mro ?_ (.tmp 1) rfl q rfl M10.out smM_W ?_); · rfl)
        | ((with_reducible refine wpList_eql_mro ?_ (.tmp 47) (.tmp 48) rfl smM smM rfl rfl smM_W smM_W true ((sameM_iff _ _).2 rfl) ?_); · rfl))
      refine (textM_any w10 smM smM_W (by decide) G10.out).mono ?_
      rw [sm_text]
      rintro e w11 ⟨rfl, hb11⟩
      have L11 := hide (L10.out.over hb11)
      have G11 := hide (G10.out.below hb11)
      have W11 := hide (W10.out.trans (hb11.mono W10.out.size))
      clear hb11 M10 P10 L10 G10 W10
      go_wp2_with (first
        | ((with_reducible refine wpList_eql_str ?_ (.tmp 53) (.const (.string ⟨#[51, 32, 48, 58, 49, 58, 49, 32, 42, 32, 50, 50, 52, 46, 48, 46, 48, 46, 49, 32, 49, 48, 46, 48, 46, 48, 46, 49]⟩)) rfl [51, 32, 48, 58, 49, 58, 49, 32, 42, 32, 50, 50, 52, 46, 48, 46, 48, 46, 49, 32, 49, 48, 46, 48, 46, 48, 46, 49] [51, 32, 48, 58, 49, 58, 49, 32, 42, 32, 50, 50, 52, 46, 48, 46, 48, 46, 49, 32, 49, 48, 46, 48, 46, 48, 46, 49] rfl rfl true (decide_eq_true rfl) ?_); · rfl)
        | ((with_reducible refine wpList_load_mro ?_ (.tmp 6) rfl r rfl L11.out smL_W ?_); · rfl))
      refine (textM_any w11 smL smL_W (by decide +kernel) G11.out).mono ?_
      rw [sm_textL]
      rintro e w12 ⟨rfl, hb12⟩
      have W12 := hide (W11.out.trans (hb12.mono W11.out.size))
      clear hb12 L11 G11 W11
      go_wp2_with (first
        | ((with_reducible refine wpList_eql_str ?_ (.tmp 71) (.const (.string ⟨#[52, 32, 91, 51, 32, 48, 58, 49, 58, 49, 32, 42, 32, 50, 50, 52, 46, 48, 46, 48, 46, 49, 32, 49, 48, 46, 48, 46, 48, 46, 49, 93, 32, 49, 48, 46, 48, 46, 48, 46, 50]⟩)) rfl [52, 32, 91, 51, 32, 48, 58, 49, 58, 49, 32, 42, 32, 50, 50, 52, 46, 48, 46, 48, 46, 49, 32, 49, 48, 46, 48, 46, 48, 46, 49, 93, 32, 49, 48, 46, 48, 46, 48, 46, 50] [52, 32, 91, 51, 32, 48, 58, 49, 58, 49, 32, 42, 32, 50, 50, 52, 46, 48, 46, 48, 46, 49, 32, 49, 48, 46, 48, 46, 48, 46, 49, 93, 32, 49, 48, 46, 48, 46, 48, 46, 50] rfl rfl true (decide_eq_true rfl) ?_); · rfl))
      go_ret
      exact ⟨rfl, W12.out⟩
    · skip
      simp only [Act.put, List.setIfInBounds_toArray, List.set_cons_zero, List.set_cons_succ]
      have hqr : q < w7.heap.size := FA.out.1.1.lt
      have hpr : p < w7.heap.size := FA.out.1.2.lt
      have hwr : w.heap.size ≤ w7.heap.size := FA.out.2.2.size
      have NB : Hid (Blk ((w7).alloc (.cells #[.int .i64 0, .int .u8 0, .int .u8 0, .int .u8 0, .int .u8 0, .int .u8 0, .int .u8 0, .int .u8 0, .int .u8 0, .int .i64 0, .int .i64 0, .int .u8 0, .int .u8 0, .int .u8 0, .int .u8 0, .int .u8 0, .int .u8 0, .int .u8 0, .int .u8 0, .int .u8 0, .int .u8 0, .int .u8 0, .int .u8 0, .int .u8 0, .int .u8 0, .int .u8 0, .int .u8 0, .int .i64 0, .int .u8 0, .int .u8 0, .int .u8 0, .int .u8 0, .int .u8 0, .int .u8 0, .int .u8 0, .int .u8 0, .int .u8 0, .int .u8 0, .int .u8 0, .int .u8 0, .int .u8 0, .int .u8 0, .int .u8 0, .int .u8 0, .int .i64 0, .int .u8 0, .int .u8 0, .int .u8 0, .int .u8 0, .int .u8 0, .int .u8 0, .int .u8 0, .int .u8 0, .int .u8 0, .int .u8 0, .int .u8 0, .int .u8 0, .int .u8 0, .int .u8 0, .int .u8 0, .int .u8 0, .string ⟨#[]⟩] 28)) w7.heap.size 28 #[.int .i64 0, .int .u8 0, .int .u8 0, .int .u8 0, .int .u8 0, .int .u8 0, .int .u8 0, .int .u8 0, .int .u8 0, .int .i64 0, .int .i64 0, .int .u8 0, .int .u8 0, .int .u8 0, .int .u8 0, .int .u8 0, .int .u8 0, .int .u8 0, .int .u8 0, .int .u8 0, .int .u8 0, .int .u8 0, .int .u8 0, .int .u8 0, .int .u8 0, .int .u8 0, .int .u8 0, .int .i64 0, .int .u8 0, .int .u8 0, .int .u8 0, .int .u8 0, .int .u8 0, .int .u8 0, .int .u8 0, .int .u8 0, .int .u8 0, .int .u8 0, .int .u8 0, .int .u8 0, .int .u8 0, .int .u8 0, .int .u8 0, .int .u8 0, .int .i64 0, .int .u8 0, .int .u8 0, .int .u8 0, .int .u8 0, .int .u8 0, .int .u8 0, .int .u8 0, .int .u8 0, .int .u8 0, .int .u8 0, .int .u8 0, .int .u8 0, .int .u8 0, .int .u8 0, .int .u8 0, .int .u8 0, .string ⟨#[]⟩]) := hide (Blk.new (w7) 28 #[.int .i64 0, .int .u8 0, .int .u8 0, .int .u8 0, .int .u8 0, .int .u8 0, .int .u8 0, .int .u8 0, .int .u8 0, .int .i64 0, .int .i64 0, .int .u8 0, .int .u8 0, .int .u8 0, .int .u8 0, .int .u8 0, .int .u8 0, .int .u8 0, .int .u8 0, .int .u8 0, .int .u8 0, .int .u8 0, .int .u8 0, .int .u8 0, .int .u8 0, .int .u8 0, .int .u8 0, .int .i64 0, .int .u8 0, .int .u8 0, .int .u8 0, .int .u8 0, .int .u8 0, .int .u8 0, .int .u8 0, .int .u8 0, .int .u8 0, .int .u8 0, .int .u8 0, .int .u8 0, .int .u8 0, .int .u8 0, .int .u8 0, .int .u8 0, .int .i64 0, .int .u8 0, .int .u8 0, .int .u8 0, .int .u8 0, .int .u8 0, .int .u8 0, .int .u8 0, .int .u8 0, .int .u8 0, .int .u8 0, .int .u8 0, .int .u8 0, .int .u8 0, .int .u8 0, .int .u8 0, .int .u8 0, .string ⟨#[]⟩])
      generalize (w7).alloc (.cells #[.int .i64 0, .int .u8 0, .int .u8 0, .int .u8 0, .int .u8 0, .int .u8 0, .int .u8 0, .int .u8 0, .int .u8 0, .int .i64 0, .int .i64 0, .int .u8 0, .int .u8 0, .int .u8 0, .int .u8 0, .int .u8 0, .int .u8 0, .int .u8 0, .int .u8 0, .int .u8 0, .int .u8 0, .int .u8 0, .int .u8 0, .int .u8 0, .int .u8 0, .int .u8 0, .int .u8 0, .int .i64 0, .int .u8 0, .int .u8 0, .int .u8 0, .int .u8 0, .int .u8 0, .int .u8 0, .int .u8 0, .int .u8 0, .int .u8 0, .int .u8 0, .int .u8 0, .int .u8 0, .int .u8 0, .int .u8 0, .int .u8 0, .int .u8 0, .int .i64 0, .int .u8 0, .int .u8 0, .int .u8 0, .int .u8 0, .int .u8 0, .int .u8 0, .int .u8 0, .int .u8 0, .int .u8 0, .int .u8 0, .int .u8 0, .int .u8 0, .int .u8 0, .int .u8 0, .int .u8 0, .int .u8 0, .string ⟨#[]⟩] 28) = xa at hHeld NB ⊢
      generalize hrr : w7.heap.size = r at hqr hpr hwr NB ⊢
      have hra : r < xa.heap.size := NB.out.lt
      clear hrr
      refine region_call (i := 2) rfl (by kernel_rfl) (by rfl) (leaf_any _ smM 4 (v4B 10 0 0 2) smM_W rfl (by decide) hHeld.2.1.2) (fun w => by kernel_rfl) ?_
      rw [sm_leaf.1, sm_leaf.2]
      rintro e w8 ⟨rfl, hb8⟩
      have NB := hide (NB.out.over hb8)
      refine ⟨_, rfl, ⟨⟨hHeld.1.1.over hb8, hHeld.1.2.over hb8⟩, hHeld.2.1.below hb8, hHeld.2.2.trans (hb8.mono hHeld.2.2.size)⟩, fun hHeld => ?_⟩
      simp only [Act.put, List.setIfInBounds_toArray, List.set_cons_zero, List.set_cons_succ]
      have hra := NB.out.lt
      clear hb8
      refine region_take (i := 3) (v := ?_) rfl (by kernel_rfl) (by kernel_rfl) (by kernel_rfl) (fun _ _ _ h => h) (Or.inl ⟨by rfl, ?_⟩) (by assumption) ?_
      rotate_left
      · (intro w' hSw; (try dsimp only at hSw); go_simp <;> with_reducible rfl)
      simp only [Act.put, List.setIfInBounds_toArray, List.set_cons_zero, List.set_cons_succ]
      refine region_take (i := 4) (v := ?_) rfl (by kernel_rfl) (by kernel_rfl) (by kernel_rfl) (fun _ _ _ h => h) (Or.inl ⟨by rfl, ?_⟩) (by assumption) ?_
      rotate_left
      · (intro w' hSw; (try dsimp only at hSw); go_simp <;> with_reducible rfl)
      simp only [Act.put, List.setIfInBounds_toArray, List.set_cons_zero, List.set_cons_succ]
      refine region_take (i := 5) (v := ?_) rfl (by kernel_rfl) (by kernel_rfl) (by kernel_rfl) (fun _ _ _ h => h) (Or.inl ⟨by rfl, ?_⟩) (by assumption) ?_
      rotate_left
      · (intro w' hSw; (try dsimp only at hSw); go_simp <;> with_reducible rfl)
      simp only [Act.put, List.setIfInBounds_toArray, List.set_cons_zero, List.set_cons_succ]
      have hst : (w8).grownBy ((w8).setRow r (mroC smL)) (some r) := grown_setRow _ _ _
      have LF : Hid (Blk ((w8).setRow r (mroC smL)) r 28 (mroC smL)) := hide (NB.out.setRow _)
      refine region_store (i := 7) rfl (by kernel_rfl) (by rfl) (exec_store_mro (.tmp 6) (.tmp 28) rfl r rfl rfl smL_W NB.out rfl) ⟨⟨hHeld.1.1.grown hst (by intro e; injection e with e; omega), hHeld.1.2.grown hst (by intro e; injection e with e; omega)⟩, HG.out.below (hHeld.2.2.grown hst hHeld.2.2.size (by intro g hg; injection hg with hg; omega)), hHeld.2.2.grown hst hHeld.2.2.size (by intro g hg; injection hg with hg; omega)⟩ (fun hHeld => ?_)
      simp only [Act.put, List.setIfInBounds_toArray, List.set_cons_zero, List.set_cons_succ]
      generalize (w8).setRow r (mroC smL) = xl at hHeld LF ⊢
      refine region_take (i := 8) (v := ?_) rfl (by kernel_rfl) (by kernel_rfl) (by kernel_rfl) (fun _ _ _ h => h) (Or.inl ⟨by rfl, ?_⟩) (by assumption) ?_
      rotate_left
      · (intro w' hSw; (try dsimp only at hSw); go_simp <;> with_reducible rfl)
      simp only [Act.put, List.setIfInBounds_toArray, List.set_cons_zero, List.set_cons_succ]
      have HX := hide hHeld
      refine wpAnyH_done (by kernel_rfl) ?_ _
      go_wp2_with (with_reducible refine wpList_load_mro rfl (.tmp 6) rfl r rfl LF.out smL_W ?_)
      refine (mbytes_any _ smL smL_W (by decide +kernel) HX.out.2.1.2).mono ?_
      rw [sm_outL.1, sm_outL.2]
      rintro e w10 ⟨v10, rfl, ho10, hb10⟩
      rw [sm_lenL] at ho10
      obtain ⟨A10, c10, rfl, _, _⟩ := own_shape ho10
      have M10 := hide (HX.out.1.1.over hb10)
      have P10 := hide (HX.out.1.2.over hb10)
      have L10 := hide (LF.out.over hb10)
      have G10 := hide (HX.out.2.1.below hb10)
      have W10 := hide (HX.out.2.2.trans (hb10.mono HX.out.2.2.size))
      clear ho10 hb10 HX LF hHeld
      go_wp2_with (first
        | ((with_reducible refine wpList_load_mro ?_ (.tmp 4) rfl p rfl P10.out smM_W ?_); · rfl)
        | ((with_reducible refine wpList_load_mro ?_ (.tmp 1) rfl q rfl M10.out smM_W ?_); · rfl)
        | ((with_reducible refine wpList_eql_mro ?_ (.tmp 47) (.tmp 48) rfl smM smM rfl rfl smM_W smM_W true ((sameM_iff _ _).2 rfl) ?_); · rfl))
      refine (textM_any w10 smM smM_W (by decide) G10.out).mono ?_
      rw [sm_text]
      rintro e w11 ⟨rfl, hb11⟩
      have L11 := hide (L10.out.over hb11)
      have G11 := hide (G10.out.below hb11)
      have W11 := hide (W10.out.trans (hb11.mono W10.out.size))
      clear hb11 M10 P10 L10 G10 W10
      go_wp2_with (first
        | ((with_reducible refine wpList_eql_str ?_ (.tmp 53) (.const (.string ⟨#[51, 32, 48, 58, 49, 58, 49, 32, 42, 32, 50, 50, 52, 46, 48, 46, 48, 46, 49, 32, 49, 48, 46, 48, 46, 48, 46, 49]⟩)) rfl [51, 32, 48, 58, 49, 58, 49, 32, 42, 32, 50, 50, 52, 46, 48, 46, 48, 46, 49, 32, 49, 48, 46, 48, 46, 48, 46, 49] [51, 32, 48, 58, 49, 58, 49, 32, 42, 32, 50, 50, 52, 46, 48, 46, 48, 46, 49, 32, 49, 48, 46, 48, 46, 48, 46, 49] rfl rfl true (decide_eq_true rfl) ?_); · rfl)
        | ((with_reducible refine wpList_load_mro ?_ (.tmp 6) rfl r rfl L11.out smL_W ?_); · rfl))
      refine (textM_any w11 smL smL_W (by decide +kernel) G11.out).mono ?_
      rw [sm_textL]
      rintro e w12 ⟨rfl, hb12⟩
      have W12 := hide (W11.out.trans (hb12.mono W11.out.size))
      clear hb12 L11 G11 W11
      go_wp2_with (first
        | ((with_reducible refine wpList_eql_str ?_ (.tmp 71) (.const (.string ⟨#[52, 32, 91, 51, 32, 48, 58, 49, 58, 49, 32, 42, 32, 50, 50, 52, 46, 48, 46, 48, 46, 49, 32, 49, 48, 46, 48, 46, 48, 46, 49, 93, 32, 49, 48, 46, 48, 46, 48, 46, 50]⟩)) rfl [52, 32, 91, 51, 32, 48, 58, 49, 58, 49, 32, 42, 32, 50, 50, 52, 46, 48, 46, 48, 46, 49, 32, 49, 48, 46, 48, 46, 48, 46, 49, 93, 32, 49, 48, 46, 48, 46, 48, 46, 50] [52, 32, 91, 51, 32, 48, 58, 49, 58, 49, 32, 42, 32, 50, 50, 52, 46, 48, 46, 48, 46, 49, 32, 49, 48, 46, 48, 46, 48, 46, 49, 93, 32, 49, 48, 46, 48, 46, 48, 46, 50] rfl rfl true (decide_eq_true rfl) ?_); · rfl))
      go_ret
      exact ⟨rfl, W12.out⟩
  · skip
    simp only [Act.put, List.setIfInBounds_toArray, List.set_cons_zero, List.set_cons_succ]
    have hqr : q < w6.heap.size := FA.out.1.1.lt
    have hpr : p < w6.heap.size := FA.out.1.2.lt
    have hwr : w.heap.size ≤ w6.heap.size := FA.out.2.2.size
    have NB : Hid (Blk ((w6.drew).alloc (.cells #[.int .i64 0, .int .u8 0, .int .u8 0, .int .u8 0, .int .u8 0, .int .u8 0, .int .u8 0, .int .u8 0, .int .u8 0, .int .i64 0, .int .i64 0, .int .u8 0, .int .u8 0, .int .u8 0, .int .u8 0, .int .u8 0, .int .u8 0, .int .u8 0, .int .u8 0, .int .u8 0, .int .u8 0, .int .u8 0, .int .u8 0, .int .u8 0, .int .u8 0, .int .u8 0, .int .u8 0, .int .i64 0, .int .u8 0, .int .u8 0, .int .u8 0, .int .u8 0, .int .u8 0, .int .u8 0, .int .u8 0, .int .u8 0, .int .u8 0, .int .u8 0, .int .u8 0, .int .u8 0, .int .u8 0, .int .u8 0, .int .u8 0, .int .u8 0, .int .i64 0, .int .u8 0, .int .u8 0, .int .u8 0, .int .u8 0, .int .u8 0, .int .u8 0, .int .u8 0, .int .u8 0, .int .u8 0, .int .u8 0, .int .u8 0, .int .u8 0, .int .u8 0, .int .u8 0, .int .u8 0, .int .u8 0, .string ⟨#[]⟩] 28)) w6.heap.size 28 #[.int .i64 0, .int .u8 0, .int .u8 0, .int .u8 0, .int .u8 0, .int .u8 0, .int .u8 0, .int .u8 0, .int .u8 0, .int .i64 0, .int .i64 0, .int .u8 0, .int .u8 0, .int .u8 0, .int .u8 0, .int .u8 0, .int .u8 0, .int .u8 0, .int .u8 0, .int .u8 0, .int .u8 0, .int .u8 0, .int .u8 0, .int .u8 0, .int .u8 0, .int .u8 0, .int .u8 0, .int .i64 0, .int .u8 0, .int .u8 0, .int .u8 0, .int .u8 0, .int .u8 0, .int .u8 0, .int .u8 0, .int .u8 0, .int .u8 0, .int .u8 0, .int .u8 0, .int .u8 0, .int .u8 0, .int .u8 0, .int .u8 0, .int .u8 0, .int .i64 0, .int .u8 0, .int .u8 0, .int .u8 0, .int .u8 0, .int .u8 0, .int .u8 0, .int .u8 0, .int .u8 0, .int .u8 0, .int .u8 0, .int .u8 0, .int .u8 0, .int .u8 0, .int .u8 0, .int .u8 0, .int .u8 0, .string ⟨#[]⟩]) := hide (Blk.new (w6.drew) 28 #[.int .i64 0, .int .u8 0, .int .u8 0, .int .u8 0, .int .u8 0, .int .u8 0, .int .u8 0, .int .u8 0, .int .u8 0, .int .i64 0, .int .i64 0, .int .u8 0, .int .u8 0, .int .u8 0, .int .u8 0, .int .u8 0, .int .u8 0, .int .u8 0, .int .u8 0, .int .u8 0, .int .u8 0, .int .u8 0, .int .u8 0, .int .u8 0, .int .u8 0, .int .u8 0, .int .u8 0, .int .i64 0, .int .u8 0, .int .u8 0, .int .u8 0, .int .u8 0, .int .u8 0, .int .u8 0, .int .u8 0, .int .u8 0, .int .u8 0, .int .u8 0, .int .u8 0, .int .u8 0, .int .u8 0, .int .u8 0, .int .u8 0, .int .u8 0, .int .i64 0, .int .u8 0, .int .u8 0, .int .u8 0, .int .u8 0, .int .u8 0, .int .u8 0, .int .u8 0, .int .u8 0, .int .u8 0, .int .u8 0, .int .u8 0, .int .u8 0, .int .u8 0, .int .u8 0, .int .u8 0, .int .u8 0, .string ⟨#[]⟩])
    generalize (w6.drew).alloc (.cells #[.int .i64 0, .int .u8 0, .int .u8 0, .int .u8 0, .int .u8 0, .int .u8 0, .int .u8 0, .int .u8 0, .int .u8 0, .int .i64 0, .int .i64 0, .int .u8 0, .int .u8 0, .int .u8 0, .int .u8 0, .int .u8 0, .int .u8 0, .int .u8 0, .int .u8 0, .int .u8 0, .int .u8 0, .int .u8 0, .int .u8 0, .int .u8 0, .int .u8 0, .int .u8 0, .int .u8 0, .int .i64 0, .int .u8 0, .int .u8 0, .int .u8 0, .int .u8 0, .int .u8 0, .int .u8 0, .int .u8 0, .int .u8 0, .int .u8 0, .int .u8 0, .int .u8 0, .int .u8 0, .int .u8 0, .int .u8 0, .int .u8 0, .int .u8 0, .int .i64 0, .int .u8 0, .int .u8 0, .int .u8 0, .int .u8 0, .int .u8 0, .int .u8 0, .int .u8 0, .int .u8 0, .int .u8 0, .int .u8 0, .int .u8 0, .int .u8 0, .int .u8 0, .int .u8 0, .int .u8 0, .int .u8 0, .string ⟨#[]⟩] 28) = xa at hHeld NB ⊢
    generalize hrr : w6.heap.size = r at hqr hpr hwr NB ⊢
    have hra : r < xa.heap.size := NB.out.lt
    clear hrr
    refine region_call (i := 1) rfl (by kernel_rfl) (by rfl) (v4c _) (fun w => by kernel_rfl) ?_
    rintro e w7 ⟨rfl, hb7⟩
    have NB := hide (NB.out.over hb7)
    refine ⟨_, rfl, ⟨⟨hHeld.1.1.over hb7, hHeld.1.2.over hb7⟩, hHeld.2.1.below hb7, hHeld.2.2.trans (hb7.mono hHeld.2.2.size)⟩, fun hHeld => ?_⟩
    simp only [Act.put, List.setIfInBounds_toArray, List.set_cons_zero, List.set_cons_succ]
    have hra := NB.out.lt
    clear hb7
    refine region_call (i := 2) rfl (by kernel_rfl) (by rfl) (leaf_any _ smM 4 (v4B 10 0 0 2) smM_W rfl (by decide) hHeld.2.1.2) (fun w => by kernel_rfl) ?_
    rw [sm_leaf.1, sm_leaf.2]
    rintro e w8 ⟨rfl, hb8⟩
    have NB := hide (NB.out.over hb8)
    refine ⟨_, rfl, ⟨⟨hHeld.1.1.over hb8, hHeld.1.2.over hb8⟩, hHeld.2.1.below hb8, hHeld.2.2.trans (hb8.mono hHeld.2.2.size)⟩, fun hHeld => ?_⟩
    simp only [Act.put, List.setIfInBounds_toArray, List.set_cons_zero, List.set_cons_succ]
    have hra := NB.out.lt
    clear hb8
    refine region_take (i := 3) (v := ?_) rfl (by kernel_rfl) (by kernel_rfl) (by kernel_rfl) (fun _ _ _ h => h) (Or.inl ⟨by rfl, ?_⟩) (by assumption) ?_
    rotate_left
    · (intro w' hSw; (try dsimp only at hSw); go_simp <;> with_reducible rfl)
    simp only [Act.put, List.setIfInBounds_toArray, List.set_cons_zero, List.set_cons_succ]
    refine region_take (i := 4) (v := ?_) rfl (by kernel_rfl) (by kernel_rfl) (by kernel_rfl) (fun _ _ _ h => h) (Or.inl ⟨by rfl, ?_⟩) (by assumption) ?_
    rotate_left
    · (intro w' hSw; (try dsimp only at hSw); go_simp <;> with_reducible rfl)
    simp only [Act.put, List.setIfInBounds_toArray, List.set_cons_zero, List.set_cons_succ]
    refine region_take (i := 5) (v := ?_) rfl (by kernel_rfl) (by kernel_rfl) (by kernel_rfl) (fun _ _ _ h => h) (Or.inl ⟨by rfl, ?_⟩) (by assumption) ?_
    rotate_left
    · (intro w' hSw; (try dsimp only at hSw); go_simp <;> with_reducible rfl)
    simp only [Act.put, List.setIfInBounds_toArray, List.set_cons_zero, List.set_cons_succ]
    have hst : (w8).grownBy ((w8).setRow r (mroC smL)) (some r) := grown_setRow _ _ _
    have LF : Hid (Blk ((w8).setRow r (mroC smL)) r 28 (mroC smL)) := hide (NB.out.setRow _)
    refine region_store (i := 7) rfl (by kernel_rfl) (by rfl) (exec_store_mro (.tmp 6) (.tmp 28) rfl r rfl rfl smL_W NB.out rfl) ⟨⟨hHeld.1.1.grown hst (by intro e; injection e with e; omega), hHeld.1.2.grown hst (by intro e; injection e with e; omega)⟩, HG.out.below (hHeld.2.2.grown hst hHeld.2.2.size (by intro g hg; injection hg with hg; omega)), hHeld.2.2.grown hst hHeld.2.2.size (by intro g hg; injection hg with hg; omega)⟩ (fun hHeld => ?_)
    simp only [Act.put, List.setIfInBounds_toArray, List.set_cons_zero, List.set_cons_succ]
    generalize (w8).setRow r (mroC smL) = xl at hHeld LF ⊢
    refine region_take (i := 8) (v := ?_) rfl (by kernel_rfl) (by kernel_rfl) (by kernel_rfl) (fun _ _ _ h => h) (Or.inl ⟨by rfl, ?_⟩) (by assumption) ?_
    rotate_left
    · (intro w' hSw; (try dsimp only at hSw); go_simp <;> with_reducible rfl)
    simp only [Act.put, List.setIfInBounds_toArray, List.set_cons_zero, List.set_cons_succ]
    have HX := hide hHeld
    refine wpAnyH_done (by kernel_rfl) ?_ _
    go_wp2_with (with_reducible refine wpList_load_mro rfl (.tmp 6) rfl r rfl LF.out smL_W ?_)
    refine (mbytes_any _ smL smL_W (by decide +kernel) HX.out.2.1.2).mono ?_
    rw [sm_outL.1, sm_outL.2]
    rintro e w10 ⟨v10, rfl, ho10, hb10⟩
    rw [sm_lenL] at ho10
    obtain ⟨A10, c10, rfl, _, _⟩ := own_shape ho10
    have M10 := hide (HX.out.1.1.over hb10)
    have P10 := hide (HX.out.1.2.over hb10)
    have L10 := hide (LF.out.over hb10)
    have G10 := hide (HX.out.2.1.below hb10)
    have W10 := hide (HX.out.2.2.trans (hb10.mono HX.out.2.2.size))
    clear ho10 hb10 HX LF hHeld
    go_wp2_with (first
      | ((with_reducible refine wpList_load_mro ?_ (.tmp 4) rfl p rfl P10.out smM_W ?_); · rfl)
      | ((with_reducible refine wpList_load_mro ?_ (.tmp 1) rfl q rfl M10.out smM_W ?_); · rfl)
      | ((with_reducible refine wpList_eql_mro ?_ (.tmp 47) (.tmp 48) rfl smM smM rfl rfl smM_W smM_W true ((sameM_iff _ _).2 rfl) ?_); · rfl))
    refine (textM_any w10 smM smM_W (by decide) G10.out).mono ?_
    rw [sm_text]
    rintro e w11 ⟨rfl, hb11⟩
    have L11 := hide (L10.out.over hb11)
    have G11 := hide (G10.out.below hb11)
    have W11 := hide (W10.out.trans (hb11.mono W10.out.size))
    clear hb11 M10 P10 L10 G10 W10
    go_wp2_with (first
      | ((with_reducible refine wpList_eql_str ?_ (.tmp 53) (.const (.string ⟨#[51, 32, 48, 58, 49, 58, 49, 32, 42, 32, 50, 50, 52, 46, 48, 46, 48, 46, 49, 32, 49, 48, 46, 48, 46, 48, 46, 49]⟩)) rfl [51, 32, 48, 58, 49, 58, 49, 32, 42, 32, 50, 50, 52, 46, 48, 46, 48, 46, 49, 32, 49, 48, 46, 48, 46, 48, 46, 49] [51, 32, 48, 58, 49, 58, 49, 32, 42, 32, 50, 50, 52, 46, 48, 46, 48, 46, 49, 32, 49, 48, 46, 48, 46, 48, 46, 49] rfl rfl true (decide_eq_true rfl) ?_); · rfl)
      | ((with_reducible refine wpList_load_mro ?_ (.tmp 6) rfl r rfl L11.out smL_W ?_); · rfl))
    refine (textM_any w11 smL smL_W (by decide +kernel) G11.out).mono ?_
    rw [sm_textL]
    rintro e w12 ⟨rfl, hb12⟩
    have W12 := hide (W11.out.trans (hb12.mono W11.out.size))
    clear hb12 L11 G11 W11
    go_wp2_with (first
      | ((with_reducible refine wpList_eql_str ?_ (.tmp 71) (.const (.string ⟨#[52, 32, 91, 51, 32, 48, 58, 49, 58, 49, 32, 42, 32, 50, 50, 52, 46, 48, 46, 48, 46, 49, 32, 49, 48, 46, 48, 46, 48, 46, 49, 93, 32, 49, 48, 46, 48, 46, 48, 46, 50]⟩)) rfl [52, 32, 91, 51, 32, 48, 58, 49, 58, 49, 32, 42, 32, 50, 50, 52, 46, 48, 46, 48, 46, 49, 32, 49, 48, 46, 48, 46, 48, 46, 49, 93, 32, 49, 48, 46, 48, 46, 48, 46, 50] [52, 32, 91, 51, 32, 48, 58, 49, 58, 49, 32, 42, 32, 50, 50, 52, 46, 48, 46, 48, 46, 49, 32, 49, 48, 46, 48, 46, 48, 46, 49, 93, 32, 49, 48, 46, 48, 46, 48, 46, 50] rfl rfl true (decide_eq_true rfl) ?_); · rfl))
    go_ret
    exact ⟨rfl, W12.out⟩
end Go.Proofs.YtipgbmajhnkfbaaGreatDoor
