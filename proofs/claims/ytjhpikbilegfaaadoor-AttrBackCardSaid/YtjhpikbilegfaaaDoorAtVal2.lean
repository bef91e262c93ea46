/-
  What value of package attr does, kind by kind, in whatever memory. No condition.
-/
import Derived.Test.YtjhpikbilegfaaaDoorAtValue
namespace Go.Proofs.YtjhpikbilegfaaaDoor
open Go.RowKit
set_option linter.unusedVariables false
set_option linter.unusedSimpArgs false

theorem told_yes (w : World) (A : Option Addr) (n c : Nat) (hn : 0 < n) : Calls Tryd.prog 58 #[.slice A n c, .int .i64 0] w fun e w' => e = .returned (.tuple #[.slice A n c, .bool true]) ∧ w = w' := by
  have hnI : (0 : Int) < (n : Int) := by omega
  go_enter Tryd.func58, Tryd.ntmps58
  go_wp2
  go_ret2
  exact ⟨rfl, rfl⟩
theorem told_nil (w : World) (A : Option Addr) (c : Nat) : Calls Tryd.prog 58 #[.slice A 0 c, .int .i64 0] w fun e w' => e = .returned (.tuple #[.slice A 0 c, .bool false]) ∧ w = w' := by
  go_enter Tryd.func58, Tryd.ntmps58
  go_wp2
  go_ret2
  exact ⟨rfl, rfl⟩
theorem told_no (w : World) (A : Option Addr) (n c : Nat) : Calls Tryd.prog 58 #[.slice A n c, .int .i64 5] w fun e w' => e = .returned (.tuple #[.slice A n c, .bool false]) ∧ w = w' := by
  go_enter Tryd.func58, Tryd.ntmps58
  go_wp2
  go_ret2
  exact ⟨rfl, rfl⟩
def ValPost (w : World) (b : List UInt8) (there : Bool) (e : Ending) (w' : World) : Prop :=
  ∃ v, e = .returned (.tuple #[v, .bool there]) ∧ (there = true → w'.ownsRow w.heap.size 5 1 v b.length (bvs b)) ∧ Below w.heap.size w w'
theorem ValPost.no {w w' : World} {b : List UInt8} {v : Value} (hb : Below w.heap.size w w') : ValPost w b false (.returned (.tuple #[v, .bool false])) w' := ⟨v, rfl, (fun h => by cases h), hb⟩
theorem ValPost.yes {w w' : World} {b : List UInt8} {v : Value} (ho : w'.ownsRow w.heap.size 5 1 v b.length (bvs b)) (hb : Below w.heap.size w w') : ValPost w b true (.returned (.tuple #[v, .bool true])) w' := ⟨v, rfl, fun _ => ho, hb⟩
section
variable (w : World) (lo hi : Nat) (p : AtP) (h : AttrsAt w lo hi p) (hh : hi ≤ w.heap.size)
include h hh
set_option maxRecDepth 20000 in
set_option maxHeartbeats 1000000 in
theorem value_1 (O : Nat) (ho : p.o = O) (hO : O ≤ 255) : Calls Tryd.prog 34 #[.agg (attC p), .int .i64 1] w (ValPost w [UInt8.ofNat O] true) := by
  have S0 := hide (AtS.start h hh)
  have HOB := h.ob
  have k0_0 := S0.out.c0
  have k0_1 := S0.out.c1
  have k0_2 := S0.out.c2
  have k0_3 := S0.out.c3
  have k0_21 := S0.out.c21
  have k0_22 := S0.out.c22
  have k0_23 := S0.out.c23
  have hsz0 : (w.alloc (.cells (attC p) 48)).heap.size = w.heap.size + 1 := by simp
  rw [ho] at k0_0
  clear h
  go_enter Tryd.func34, Tryd.ntmps34
  go_wp2
  go_ret2
  have B1 := S0.out.bl.alloc (by rw [hsz0]; omega) (.cells #[.int .u8 (O : Int)] 5)
  refine ValPost.yes (own_of_blk (cs := #[.int .u8 (O : Int)]) (by have hB := Blk.new (w.alloc (.cells (attC p) 48)) 5 #[.int .u8 (O : Int)]; rw [hsz0] at hB; exact hB) (Nat.le_succ _) (Nat.le_refl _) (by unfold maxLen; decide) rfl (by rw [cell_u8 hO]; rfl)) B1
set_option maxRecDepth 20000 in
set_option maxHeartbeats 1000000 in
theorem value_2 (hn : p.path.length ≤ 16) (hok : p.path.all okS = true) : Calls Tryd.prog 34 #[.agg (attC p), .int .i64 2] w (ValPost w (pathB (p.path.map SgP.sg)) true) := by
  have S0 := hide (AtS.start h hh)
  have HOB := h.ob
  have k0_0 := S0.out.c0
  have k0_1 := S0.out.c1
  have k0_2 := S0.out.c2
  have k0_3 := S0.out.c3
  have k0_21 := S0.out.c21
  have k0_22 := S0.out.c22
  have k0_23 := S0.out.c23
  have hsz0 : (w.alloc (.cells (attC p) 48)).heap.size = w.heap.size + 1 := by simp
  have hl := h.path.len
  clear h
  go_enter Tryd.func34, Tryd.ntmps34
  go_wp2_with fail
  refine (rowwS_any _ lo hi p.pA p.pn p.pc p.path S0.out.at_.path S0.out.hx hok (by omega)).mono ?_
  rw [cat_S]
  rintro e w1 ⟨v, rfl, ho, hb⟩
  have S1 := hide (below_step S0.out.bl hb (by simp))
  have HO := hide (own_more ho (show w.heap.size ≤ _ by simp))
  clear ho hb
  go_wp2
  go_ret2
  exact ValPost.yes HO.out S1.out
set_option maxRecDepth 20000 in
set_option maxHeartbeats 1000000 in
theorem value_4 (hm : 0 ≤ p.med ∧ p.med ≤ 4294967295) : Calls Tryd.prog 34 #[.agg (attC p), .int .i64 4] w (ValPost w (be 4 p.med.toNat) true) := by
  have S0 := hide (AtS.start h hh)
  have HOB := h.ob
  have k0_0 := S0.out.c0
  have k0_1 := S0.out.c1
  have k0_2 := S0.out.c2
  have k0_3 := S0.out.c3
  have k0_21 := S0.out.c21
  have k0_22 := S0.out.c22
  have k0_23 := S0.out.c23
  have hsz0 : (w.alloc (.cells (attC p) 48)).heap.size = w.heap.size + 1 := by simp
  clear h
  go_enter Tryd.func34, Tryd.ntmps34
  go_wp2_with fail
  refine (eI_any _ lo hi p.med trivial trivial S0.out.hx (decide_eq_true hm)).mono ?_
  rintro e w1 ⟨v, rfl, ho, hb⟩
  have S1 := hide (below_step S0.out.bl hb (by simp))
  have HO := hide (own_more ho (show w.heap.size ≤ _ by simp))
  obtain ⟨A, c, rfl, _, _⟩ := own_shape ho
  have HPOS : Hid (0 < (fI p.med).length) := hide (by unfold fI; rw [be_len]; decide)
  clear ho hb
  go_wp2_with (go_at_call 58; refine (told_yes _ _ _ _ HPOS.out).mono ?_; rintro e wq ⟨rfl, rfl⟩)
  go_ret2
  exact ValPost.yes HO.out S1.out
set_option maxRecDepth 20000 in
set_option maxHeartbeats 1000000 in
theorem value_4n (hm : p.med < 0) : Calls Tryd.prog 34 #[.agg (attC p), .int .i64 4] w (ValPost w (be 4 p.med.toNat) false) := by
  have S0 := hide (AtS.start h hh)
  have HOB := h.ob
  have k0_0 := S0.out.c0
  have k0_1 := S0.out.c1
  have k0_2 := S0.out.c2
  have k0_3 := S0.out.c3
  have k0_21 := S0.out.c21
  have k0_22 := S0.out.c22
  have k0_23 := S0.out.c23
  have hsz0 : (w.alloc (.cells (attC p) 48)).heap.size = w.heap.size + 1 := by simp
  clear h
  go_enter Tryd.func34, Tryd.ntmps34
  go_wp2_with (first
    | (go_at_call 59; refine (number_no _ _ hm).mono ?_; rintro e wq ⟨rfl, rfl⟩)
    | (go_at_call 58; refine (told_no _ _ _ _).mono ?_; rintro e wq ⟨rfl, rfl⟩))
  go_ret2
  exact ValPost.no S0.out.bl
set_option maxRecDepth 20000 in
set_option maxHeartbeats 1000000 in
theorem value_5 (hm : 0 ≤ p.pref ∧ p.pref ≤ 4294967295) : Calls Tryd.prog 34 #[.agg (attC p), .int .i64 5] w (ValPost w (be 4 p.pref.toNat) true) := by
  have S0 := hide (AtS.start h hh)
  have HOB := h.ob
  have k0_0 := S0.out.c0
  have k0_1 := S0.out.c1
  have k0_2 := S0.out.c2
  have k0_3 := S0.out.c3
  have k0_21 := S0.out.c21
  have k0_22 := S0.out.c22
  have k0_23 := S0.out.c23
  have hsz0 : (w.alloc (.cells (attC p) 48)).heap.size = w.heap.size + 1 := by simp
  clear h
  go_enter Tryd.func34, Tryd.ntmps34
  go_wp2_with fail
  refine (eI_any _ lo hi p.pref trivial trivial S0.out.hx (decide_eq_true hm)).mono ?_
  rintro e w1 ⟨v, rfl, ho, hb⟩
  have S1 := hide (below_step S0.out.bl hb (by simp))
  have HO := hide (own_more ho (show w.heap.size ≤ _ by simp))
  obtain ⟨A, c, rfl, _, _⟩ := own_shape ho
  have HPOS : Hid (0 < (fI p.pref).length) := hide (by unfold fI; rw [be_len]; decide)
  clear ho hb
  go_wp2_with (go_at_call 58; refine (told_yes _ _ _ _ HPOS.out).mono ?_; rintro e wq ⟨rfl, rfl⟩)
  go_ret2
  exact ValPost.yes HO.out S1.out
set_option maxRecDepth 20000 in
set_option maxHeartbeats 1000000 in
theorem value_5n (hm : p.pref < 0) : Calls Tryd.prog 34 #[.agg (attC p), .int .i64 5] w (ValPost w (be 4 p.pref.toNat) false) := by
  have S0 := hide (AtS.start h hh)
  have HOB := h.ob
  have k0_0 := S0.out.c0
  have k0_1 := S0.out.c1
  have k0_2 := S0.out.c2
  have k0_3 := S0.out.c3
  have k0_21 := S0.out.c21
  have k0_22 := S0.out.c22
  have k0_23 := S0.out.c23
  have hsz0 : (w.alloc (.cells (attC p) 48)).heap.size = w.heap.size + 1 := by simp
  clear h
  go_enter Tryd.func34, Tryd.ntmps34
  go_wp2_with (first
    | (go_at_call 59; refine (number_no _ _ hm).mono ?_; rintro e wq ⟨rfl, rfl⟩)
    | (go_at_call 58; refine (told_no _ _ _ _).mono ?_; rintro e wq ⟨rfl, rfl⟩))
  go_ret2
  exact ValPost.no S0.out.bl
set_option maxRecDepth 20000 in
set_option maxHeartbeats 1000000 in
theorem value_9 (hf : four p.os p.ob = true) : Calls Tryd.prog 34 #[.agg (attC p), .int .i64 9] w (ValPost w (bytesA p.os p.ob) true) := by
  have S0 := hide (AtS.start h hh)
  have HOB := h.ob
  have k0_0 := S0.out.c0
  have k0_1 := S0.out.c1
  have k0_2 := S0.out.c2
  have k0_3 := S0.out.c3
  have k0_21 := S0.out.c21
  have k0_22 := S0.out.c22
  have k0_23 := S0.out.c23
  have hsz0 : (w.alloc (.cells (attC p) 48)).heap.size = w.heap.size + 1 := by simp
  clear h
  go_enter Tryd.func34, Tryd.ntmps34
  go_wp2_with (with_reducible refine wpList_load_orig rfl (.tmp 48) rfl w.heap.size rfl S0.out.b HOB ?_)
  refine (bytes_any _ p.os p.ob HOB).mono ?_
  rintro e w1 ⟨v, rfl, ho, hb⟩
  have S1 := hide (below_step S0.out.bl hb (by simp))
  have HO := hide (own_more ho (show w.heap.size ≤ _ by simp))
  obtain ⟨A, c, rfl, _, _⟩ := own_shape ho
  have HPOS : Hid (0 < (bytesA p.os p.ob).length) := hide (by rw [(four_len HOB hf).2.1]; decide)
  clear ho hb
  go_wp2_with (go_at_call 58; refine (told_yes _ _ _ _ HPOS.out).mono ?_; rintro e wq ⟨rfl, rfl⟩)
  go_ret2
  exact ValPost.yes HO.out S1.out
set_option maxRecDepth 20000 in
set_option maxHeartbeats 1000000 in
theorem value_9n (hz : p.os = 0 ∧ p.ob = zero16) : Calls Tryd.prog 34 #[.agg (attC p), .int .i64 9] w (ValPost w (bytesA p.os p.ob) false) := by
  have S0 := hide (AtS.start h hh)
  have HOB := h.ob
  have k0_0 := S0.out.c0
  have k0_1 := S0.out.c1
  have k0_2 := S0.out.c2
  have k0_3 := S0.out.c3
  have k0_21 := S0.out.c21
  have k0_22 := S0.out.c22
  have k0_23 := S0.out.c23
  have hsz0 : (w.alloc (.cells (attC p) 48)).heap.size = w.heap.size + 1 := by simp
  have HZ := hide hz
  clear hz
  clear h
  go_enter Tryd.func34, Tryd.ntmps34
  go_wp2_with (with_reducible refine wpList_load_orig rfl (.tmp 48) rfl w.heap.size rfl S0.out.b HOB ?_)
  refine (bytes_any _ p.os p.ob HOB).mono ?_
  rintro e w1 ⟨v, rfl, ho, hb⟩
  have S1 := hide (below_step S0.out.bl hb (by simp))
  have HO := hide (own_more ho (show w.heap.size ≤ _ by simp))
  obtain ⟨A, c, rfl, _, _⟩ := own_shape ho
  have HPOS : (bytesA p.os p.ob).length = 0 := by rw [HZ.out.1, HZ.out.2]; decide
  rw [HPOS]
  clear ho hb HO HPOS
  go_wp2_with (go_at_call 58; refine (told_nil _ _ _).mono ?_; rintro e wq ⟨rfl, rfl⟩)
  go_ret2
  exact ValPost.no S1.out
set_option maxRecDepth 20000 in
set_option maxHeartbeats 1000000 in
theorem value_10 (hn : p.cl.length ≤ 32) (hok : p.cl.all okD = true) (hp : 0 < (clB p.cl).length) : Calls Tryd.prog 34 #[.agg (attC p), .int .i64 10] w (ValPost w (clB p.cl) true) := by
  have S0 := hide (AtS.start h hh)
  have HOB := h.ob
  have k0_0 := S0.out.c0
  have k0_1 := S0.out.c1
  have k0_2 := S0.out.c2
  have k0_3 := S0.out.c3
  have k0_21 := S0.out.c21
  have k0_22 := S0.out.c22
  have k0_23 := S0.out.c23
  have hsz0 : (w.alloc (.cells (attC p) 48)).heap.size = w.heap.size + 1 := by simp
  have hl := h.cl.len
  clear h
  go_enter Tryd.func34, Tryd.ntmps34
  go_wp2_with fail
  refine (rowwD_any _ lo hi p.cA p.cn p.cc p.cl S0.out.at_.cl S0.out.hx hok (by omega)).mono ?_
  rw [cat_D]
  rintro e w1 ⟨v, rfl, ho, hb⟩
  have S1 := hide (below_step S0.out.bl hb (by simp))
  have HO := hide (own_more ho (show w.heap.size ≤ _ by simp))
  obtain ⟨A, c, rfl, _, _⟩ := own_shape ho
  have HPOS := hide hp
  clear ho hb hp
  go_wp2_with (go_at_call 58; refine (told_yes _ _ _ _ HPOS.out).mono ?_; rintro e wq ⟨rfl, rfl⟩)
  go_ret2
  exact ValPost.yes HO.out S1.out
set_option maxRecDepth 20000 in
set_option maxHeartbeats 1000000 in
theorem value_10n (hn : p.cl.length ≤ 32) (hok : p.cl.all okD = true) (hp : (clB p.cl).length = 0) : Calls Tryd.prog 34 #[.agg (attC p), .int .i64 10] w (ValPost w (clB p.cl) false) := by
  have S0 := hide (AtS.start h hh)
  have HOB := h.ob
  have k0_0 := S0.out.c0
  have k0_1 := S0.out.c1
  have k0_2 := S0.out.c2
  have k0_3 := S0.out.c3
  have k0_21 := S0.out.c21
  have k0_22 := S0.out.c22
  have k0_23 := S0.out.c23
  have hsz0 : (w.alloc (.cells (attC p) 48)).heap.size = w.heap.size + 1 := by simp
  have hl := h.cl.len
  clear h
  go_enter Tryd.func34, Tryd.ntmps34
  go_wp2_with fail
  refine (rowwD_any _ lo hi p.cA p.cn p.cc p.cl S0.out.at_.cl S0.out.hx hok (by omega)).mono ?_
  rw [cat_D]
  rintro e w1 ⟨v, rfl, ho, hb⟩
  have S1 := hide (below_step S0.out.bl hb (by simp))
  have HO := hide (own_more ho (show w.heap.size ≤ _ by simp))
  obtain ⟨A, c, rfl, _, _⟩ := own_shape ho
  rw [hp]
  clear ho hb HO hp
  go_wp2_with (go_at_call 58; refine (told_nil _ _ _).mono ?_; rintro e wq ⟨rfl, rfl⟩)
  go_ret2
  exact ValPost.no S1.out
set_option maxRecDepth 20000 in
set_option maxHeartbeats 1000000 in
theorem value_22 (hn : p.tl.length ≤ 1) (hok : p.tl.all okT = true) (hp : 0 < (catE fT p.tl).length) : Calls Tryd.prog 34 #[.agg (attC p), .int .i64 22] w (ValPost w (catE fT p.tl) true) := by
  have S0 := hide (AtS.start h hh)
  have HOB := h.ob
  have k0_0 := S0.out.c0
  have k0_1 := S0.out.c1
  have k0_2 := S0.out.c2
  have k0_3 := S0.out.c3
  have k0_21 := S0.out.c21
  have k0_22 := S0.out.c22
  have k0_23 := S0.out.c23
  have hsz0 : (w.alloc (.cells (attC p) 48)).heap.size = w.heap.size + 1 := by simp
  have hl := h.tl.len
  clear h
  go_enter Tryd.func34, Tryd.ntmps34
  go_wp2_with fail
  refine (rowwT_any _ lo hi p.tA p.tn p.tc p.tl S0.out.at_.tl S0.out.hx hok (by omega)).mono ?_
  rintro e w1 ⟨v, rfl, ho, hb⟩
  have S1 := hide (below_step S0.out.bl hb (by simp))
  have HO := hide (own_more ho (show w.heap.size ≤ _ by simp))
  obtain ⟨A, c, rfl, _, _⟩ := own_shape ho
  have HPOS := hide hp
  clear ho hb hp
  go_wp2_with (go_at_call 58; refine (told_yes _ _ _ _ HPOS.out).mono ?_; rintro e wq ⟨rfl, rfl⟩)
  go_ret2
  exact ValPost.yes HO.out S1.out
set_option maxRecDepth 20000 in
set_option maxHeartbeats 1000000 in
theorem value_22n (hn : p.tl.length ≤ 1) (hok : p.tl.all okT = true) (hp : (catE fT p.tl).length = 0) : Calls Tryd.prog 34 #[.agg (attC p), .int .i64 22] w (ValPost w (catE fT p.tl) false) := by
  have S0 := hide (AtS.start h hh)
  have HOB := h.ob
  have k0_0 := S0.out.c0
  have k0_1 := S0.out.c1
  have k0_2 := S0.out.c2
  have k0_3 := S0.out.c3
  have k0_21 := S0.out.c21
  have k0_22 := S0.out.c22
  have k0_23 := S0.out.c23
  have hsz0 : (w.alloc (.cells (attC p) 48)).heap.size = w.heap.size + 1 := by simp
  have hl := h.tl.len
  clear h
  go_enter Tryd.func34, Tryd.ntmps34
  go_wp2_with fail
  refine (rowwT_any _ lo hi p.tA p.tn p.tc p.tl S0.out.at_.tl S0.out.hx hok (by omega)).mono ?_
  rintro e w1 ⟨v, rfl, ho, hb⟩
  have S1 := hide (below_step S0.out.bl hb (by simp))
  have HO := hide (own_more ho (show w.heap.size ≤ _ by simp))
  obtain ⟨A, c, rfl, _, _⟩ := own_shape ho
  rw [hp]
  clear ho hb HO hp
  go_wp2_with (go_at_call 58; refine (told_nil _ _ _).mono ?_; rintro e wq ⟨rfl, rfl⟩)
  go_ret2
  exact ValPost.no S1.out
set_option maxRecDepth 20000 in
set_option maxHeartbeats 1000000 in
theorem value_16 (hn : p.ex.length ≤ 64) (hp : 0 < p.ex.length) : Calls Tryd.prog 34 #[.agg (attC p), .int .i64 16] w (ValPost w (flat8 p.ex) true) := by
  have S0 := hide (AtS.start h hh)
  have HOB := h.ob
  have k0_0 := S0.out.c0
  have k0_1 := S0.out.c1
  have k0_2 := S0.out.c2
  have k0_3 := S0.out.c3
  have k0_21 := S0.out.c21
  have k0_22 := S0.out.c22
  have k0_23 := S0.out.c23
  have hsz0 : (w.alloc (.cells (attC p) 48)).heap.size = w.heap.size + 1 := by simp
  have hl := h.ex.1
  clear h
  go_enter Tryd.func34, Tryd.ntmps34
  go_wp2_with fail
  refine (combytes_any _ lo hi p.eA p.en p.ec p.ex S0.out.at_.ex S0.out.hx (by omega)).mono ?_
  rintro e w1 ⟨v, rfl, ho, hb⟩
  have S1 := hide (below_step S0.out.bl hb (by simp))
  have HO := hide (own_more ho (show w.heap.size ≤ _ by simp))
  obtain ⟨A, c, rfl, _, _⟩ := own_shape ho
  have HPOS : Hid (0 < p.en * 8) := hide (by omega)
  have HFL : Hid ((flat8 p.ex).length = p.en * 8) := hide (by rw [flat8_len, hl])
  clear ho hb hp
  go_wp2_with (go_at_call 58; refine (told_yes _ _ _ _ HPOS.out).mono ?_; rintro e wq ⟨rfl, rfl⟩)
  go_ret2
  exact ValPost.yes (by rw [HFL.out]; exact HO.out) S1.out
set_option maxRecDepth 20000 in
set_option maxHeartbeats 1000000 in
theorem value_16n (hp : p.ex.length = 0) : Calls Tryd.prog 34 #[.agg (attC p), .int .i64 16] w (ValPost w (flat8 p.ex) false) := by
  have S0 := hide (AtS.start h hh)
  have HOB := h.ob
  have k0_0 := S0.out.c0
  have k0_1 := S0.out.c1
  have k0_2 := S0.out.c2
  have k0_3 := S0.out.c3
  have k0_21 := S0.out.c21
  have k0_22 := S0.out.c22
  have k0_23 := S0.out.c23
  have hsz0 : (w.alloc (.cells (attC p) 48)).heap.size = w.heap.size + 1 := by simp
  have hl := h.ex.1
  clear h
  go_enter Tryd.func34, Tryd.ntmps34
  go_wp2_with fail
  refine (combytes_any _ lo hi p.eA p.en p.ec p.ex S0.out.at_.ex S0.out.hx (by omega)).mono ?_
  rintro e w1 ⟨v, rfl, ho, hb⟩
  have S1 := hide (below_step S0.out.bl hb (by simp))
  have HO := hide (own_more ho (show w.heap.size ≤ _ by simp))
  obtain ⟨A, c, rfl, _, _⟩ := own_shape ho
  have hz : p.en * 8 = 0 := by omega
  rw [hz]
  clear ho hb HO hp
  go_wp2_with (go_at_call 58; refine (told_nil _ _ _).mono ?_; rintro e wq ⟨rfl, rfl⟩)
  go_ret2
  exact ValPost.no S1.out
end
end Go.Proofs.YtjhpikbilegfaaaDoor
