/-
  What the document's own Right of layer 7 does at routes of kind 2, in whatever memory. No condition.
-/
import Derived.Test.YtipgbmajhnkfbaaGreatDoorMrRef1
set_option maxRecDepth 20000
set_option maxHeartbeats 4000000
namespace Go.Proofs.YtipgbmajhnkfbaaGreatDoor
open Go.RowKit
set_option linter.unusedVariables false
set_option linter.unusedSimpArgs false
theorem refright_2_f0 (w : World) (m : Mr) (hw : m.W) (hk : m.k = 2) (HDs : Hid ((!decide (m.ss = 0 ∧ m.sb = zero16)) = true)) :
    Calls Tryz.prog 9 #[.agg (mroC m)] w fun e w' => e = .returned (.bool false) ∧ Below w.heap.size w w' := by
  have HW := hide hw
  have HZR := hide (congrArg Value.agg rdC_zero).symm
  have HZA := hide (congrArg Value.agg (addrC_zero 0)).symm
  have LS := hide hw.sb
  have LG := hide hw.gb
  have LF := hide hw.fb
  have LR := hide hw.rd
  have S0 := hide (RmB.new w m)
  obtain ⟨a, ha⟩ : ∃ a, m.a = a := ⟨_, rfl⟩
  obtain ⟨ky, hky⟩ : ∃ ky, m.key = ky := ⟨_, rfl⟩
  have C0 : Hid ((mroC m)[0]? = some (.int .i64 2)) := hide (by rw [mroC_0, hk])
  have C9 := hide (mroC_9 hw)
  have C61 := hide (mroC_61 hw)
  rw [ha] at C9
  rw [hky] at C61
  clear hw hk ha hky
  have c0 : (w.alloc (.cells (mroC m) 28)).cell? ⟨w.heap.size, 0, none⟩ = some (.int .i64 2) := by rw [S0.out.1.cell 0]; exact C0.out
  have c9 : (w.alloc (.cells (mroC m) 28)).cell? ⟨w.heap.size, 9, none⟩ = some (.int .i64 a) := by rw [S0.out.1.cell 9]; exact C9.out
  have c61 : (w.alloc (.cells (mroC m) 28)).cell? ⟨w.heap.size, 61, none⟩ = some (.string ⟨ky.toArray⟩) := by rw [S0.out.1.cell 61]; exact C61.out
  go_enter Tryz.func9, Tryz.ntmps9
  go_wp2_with fail
  refine (refwhat_2 _).mono ?_
  rintro e w1 ⟨rfl, hb1⟩
  have S1 := hide (S0.out.on hb1)
  clear hb1 c0 c9 c61
  have S3 := hide (RmS.start S1.out)
  have c0 := S3.out.c C0
  have c9 := S3.out.c C9
  have c61 := S3.out.c C61
  go_wp2_with (first
    | (with_reducible refine wpList_load_rd_at rfl (.tmp 32) rfl w.heap.size 1 rfl (mro_rd HW.out S3.out.q) LR.out ?_)
    | (with_reducible refine wpList_load_rd_g rfl (.tmp 8) rfl (w1.heap.size + 1) rfl S3.out.r zero8_len ?_)
    | (with_reducible refine wpList_neq_rd rfl (.tmp 33) (.tmp 34) rfl rfl rfl LR.out zero8_len ?_; rw [HDr.out])
    | (with_reducible refine wpList_neq_rd rfl (.tmp 33) (.tmp 34) rfl rfl HZR.out LR.out zero8_len ?_; rw [HDr.out])
    | (with_reducible refine wpList_load_addr_at rfl (.tmp 50) rfl w.heap.size 10 rfl (mro_s HW.out S3.out.q) LS.out ?_)
    | (with_reducible refine wpList_load_addr_at rfl (.tmp 55) rfl w.heap.size 27 rfl (mro_g HW.out S3.out.q) LG.out ?_)
    | (with_reducible refine wpList_load_addr_at rfl (.tmp 66) rfl w.heap.size 44 rfl (mro_f HW.out S3.out.q) LF.out ?_)
    | (with_reducible refine wpList_load_addr_at rfl (.tmp 91) rfl w.heap.size 44 rfl (mro_f HW.out S3.out.q) LF.out ?_)
    | (with_reducible refine wpList_load_addr_at rfl (.tmp 97) rfl w.heap.size 10 rfl (mro_s HW.out S3.out.q) LS.out ?_)
    | (with_reducible refine wpList_load_addr_at rfl (.tmp 99) rfl w.heap.size 27 rfl (mro_g HW.out S3.out.q) LG.out ?_)
    | (with_reducible refine wpList_load_addr_g rfl (.tmp 7) rfl w1.heap.size rfl S3.out.n zero16_len ?_)
    | (with_reducible refine wpList_neq_addr rfl (.tmp 51) (.tmp 52) rfl rfl rfl LS.out zero16_len ?_; rw [HDs.out])
    | (with_reducible refine wpList_neq_addr rfl (.tmp 51) (.tmp 52) rfl rfl HZA.out LS.out zero16_len ?_; rw [HDs.out])
    | (with_reducible refine wpList_neq_addr rfl (.tmp 56) (.tmp 57) rfl rfl rfl LG.out zero16_len ?_; rw [HDg.out])
    | (with_reducible refine wpList_neq_addr rfl (.tmp 56) (.tmp 57) rfl rfl HZA.out LG.out zero16_len ?_; rw [HDg.out])
    | (with_reducible refine wpList_neq_addr rfl (.tmp 67) (.tmp 68) rfl rfl rfl LF.out zero16_len ?_; rw [HDf.out])
    | (with_reducible refine wpList_neq_addr rfl (.tmp 67) (.tmp 68) rfl rfl HZA.out LF.out zero16_len ?_; rw [HDf.out]))
  go_ret
  exact ⟨rfl, S3.out.bel⟩
theorem refright_2_f1 (w : World) (m : Mr) (hw : m.W) (hk : m.k = 2) (HDs : Hid ((!decide (m.ss = 0 ∧ m.sb = zero16)) = false)) (HDg : Hid ((!decide (m.gs = 0 ∧ m.gb = zero16)) = true)) :
    Calls Tryz.prog 9 #[.agg (mroC m)] w fun e w' => e = .returned (.bool false) ∧ Below w.heap.size w w' := by
  have HW := hide hw
  have HZR := hide (congrArg Value.agg rdC_zero).symm
  have HZA := hide (congrArg Value.agg (addrC_zero 0)).symm
  have LS := hide hw.sb
  have LG := hide hw.gb
  have LF := hide hw.fb
  have LR := hide hw.rd
  have S0 := hide (RmB.new w m)
  obtain ⟨a, ha⟩ : ∃ a, m.a = a := ⟨_, rfl⟩
  obtain ⟨ky, hky⟩ : ∃ ky, m.key = ky := ⟨_, rfl⟩
  have C0 : Hid ((mroC m)[0]? = some (.int .i64 2)) := hide (by rw [mroC_0, hk])
  have C9 := hide (mroC_9 hw)
  have C61 := hide (mroC_61 hw)
  rw [ha] at C9
  rw [hky] at C61
  clear hw hk ha hky
  have c0 : (w.alloc (.cells (mroC m) 28)).cell? ⟨w.heap.size, 0, none⟩ = some (.int .i64 2) := by rw [S0.out.1.cell 0]; exact C0.out
  have c9 : (w.alloc (.cells (mroC m) 28)).cell? ⟨w.heap.size, 9, none⟩ = some (.int .i64 a) := by rw [S0.out.1.cell 9]; exact C9.out
  have c61 : (w.alloc (.cells (mroC m) 28)).cell? ⟨w.heap.size, 61, none⟩ = some (.string ⟨ky.toArray⟩) := by rw [S0.out.1.cell 61]; exact C61.out
  go_enter Tryz.func9, Tryz.ntmps9
  go_wp2_with fail
  refine (refwhat_2 _).mono ?_
  rintro e w1 ⟨rfl, hb1⟩
  have S1 := hide (S0.out.on hb1)
  clear hb1 c0 c9 c61
  have S3 := hide (RmS.start S1.out)
  have c0 := S3.out.c C0
  have c9 := S3.out.c C9
  have c61 := S3.out.c C61
  go_wp2_with (first
    | (with_reducible refine wpList_load_rd_at rfl (.tmp 32) rfl w.heap.size 1 rfl (mro_rd HW.out S3.out.q) LR.out ?_)
    | (with_reducible refine wpList_load_rd_g rfl (.tmp 8) rfl (w1.heap.size + 1) rfl S3.out.r zero8_len ?_)
    | (with_reducible refine wpList_neq_rd rfl (.tmp 33) (.tmp 34) rfl rfl rfl LR.out zero8_len ?_; rw [HDr.out])
    | (with_reducible refine wpList_neq_rd rfl (.tmp 33) (.tmp 34) rfl rfl HZR.out LR.out zero8_len ?_; rw [HDr.out])
    | (with_reducible refine wpList_load_addr_at rfl (.tmp 50) rfl w.heap.size 10 rfl (mro_s HW.out S3.out.q) LS.out ?_)
    | (with_reducible refine wpList_load_addr_at rfl (.tmp 55) rfl w.heap.size 27 rfl (mro_g HW.out S3.out.q) LG.out ?_)
    | (with_reducible refine wpList_load_addr_at rfl (.tmp 66) rfl w.heap.size 44 rfl (mro_f HW.out S3.out.q) LF.out ?_)
    | (with_reducible refine wpList_load_addr_at rfl (.tmp 91) rfl w.heap.size 44 rfl (mro_f HW.out S3.out.q) LF.out ?_)
    | (with_reducible refine wpList_load_addr_at rfl (.tmp 97) rfl w.heap.size 10 rfl (mro_s HW.out S3.out.q) LS.out ?_)
    | (with_reducible refine wpList_load_addr_at rfl (.tmp 99) rfl w.heap.size 27 rfl (mro_g HW.out S3.out.q) LG.out ?_)
    | (with_reducible refine wpList_load_addr_g rfl (.tmp 7) rfl w1.heap.size rfl S3.out.n zero16_len ?_)
    | (with_reducible refine wpList_neq_addr rfl (.tmp 51) (.tmp 52) rfl rfl rfl LS.out zero16_len ?_; rw [HDs.out])
    | (with_reducible refine wpList_neq_addr rfl (.tmp 51) (.tmp 52) rfl rfl HZA.out LS.out zero16_len ?_; rw [HDs.out])
    | (with_reducible refine wpList_neq_addr rfl (.tmp 56) (.tmp 57) rfl rfl rfl LG.out zero16_len ?_; rw [HDg.out])
    | (with_reducible refine wpList_neq_addr rfl (.tmp 56) (.tmp 57) rfl rfl HZA.out LG.out zero16_len ?_; rw [HDg.out])
    | (with_reducible refine wpList_neq_addr rfl (.tmp 67) (.tmp 68) rfl rfl rfl LF.out zero16_len ?_; rw [HDf.out])
    | (with_reducible refine wpList_neq_addr rfl (.tmp 67) (.tmp 68) rfl rfl HZA.out LF.out zero16_len ?_; rw [HDf.out]))
  go_ret
  exact ⟨rfl, S3.out.bel⟩
theorem refright_2_f2 (w : World) (m : Mr) (hw : m.W) (hk : m.k = 2) (HDs : Hid ((!decide (m.ss = 0 ∧ m.sb = zero16)) = false)) (HDg : Hid ((!decide (m.gs = 0 ∧ m.gb = zero16)) = false)) (HDf : Hid ((!decide (m.fs = 0 ∧ m.fb = zero16)) = true)) :
    Calls Tryz.prog 9 #[.agg (mroC m)] w fun e w' => e = .returned (.bool false) ∧ Below w.heap.size w w' := by
  have HW := hide hw
  have HZR := hide (congrArg Value.agg rdC_zero).symm
  have HZA := hide (congrArg Value.agg (addrC_zero 0)).symm
  have LS := hide hw.sb
  have LG := hide hw.gb
  have LF := hide hw.fb
  have LR := hide hw.rd
  have S0 := hide (RmB.new w m)
  obtain ⟨a, ha⟩ : ∃ a, m.a = a := ⟨_, rfl⟩
  obtain ⟨ky, hky⟩ : ∃ ky, m.key = ky := ⟨_, rfl⟩
  have C0 : Hid ((mroC m)[0]? = some (.int .i64 2)) := hide (by rw [mroC_0, hk])
  have C9 := hide (mroC_9 hw)
  have C61 := hide (mroC_61 hw)
  rw [ha] at C9
  rw [hky] at C61
  clear hw hk ha hky
  have c0 : (w.alloc (.cells (mroC m) 28)).cell? ⟨w.heap.size, 0, none⟩ = some (.int .i64 2) := by rw [S0.out.1.cell 0]; exact C0.out
  have c9 : (w.alloc (.cells (mroC m) 28)).cell? ⟨w.heap.size, 9, none⟩ = some (.int .i64 a) := by rw [S0.out.1.cell 9]; exact C9.out
  have c61 : (w.alloc (.cells (mroC m) 28)).cell? ⟨w.heap.size, 61, none⟩ = some (.string ⟨ky.toArray⟩) := by rw [S0.out.1.cell 61]; exact C61.out
  go_enter Tryz.func9, Tryz.ntmps9
  go_wp2_with fail
  refine (refwhat_2 _).mono ?_
  rintro e w1 ⟨rfl, hb1⟩
  have S1 := hide (S0.out.on hb1)
  clear hb1 c0 c9 c61
  have S3 := hide (RmS.start S1.out)
  have c0 := S3.out.c C0
  have c9 := S3.out.c C9
  have c61 := S3.out.c C61
  go_wp2_with (first
    | (with_reducible refine wpList_load_rd_at rfl (.tmp 32) rfl w.heap.size 1 rfl (mro_rd HW.out S3.out.q) LR.out ?_)
    | (with_reducible refine wpList_load_rd_g rfl (.tmp 8) rfl (w1.heap.size + 1) rfl S3.out.r zero8_len ?_)
    | (with_reducible refine wpList_neq_rd rfl (.tmp 33) (.tmp 34) rfl rfl rfl LR.out zero8_len ?_; rw [HDr.out])
    | (with_reducible refine wpList_neq_rd rfl (.tmp 33) (.tmp 34) rfl rfl HZR.out LR.out zero8_len ?_; rw [HDr.out])
    | (with_reducible refine wpList_load_addr_at rfl (.tmp 50) rfl w.heap.size 10 rfl (mro_s HW.out S3.out.q) LS.out ?_)
    | (with_reducible refine wpList_load_addr_at rfl (.tmp 55) rfl w.heap.size 27 rfl (mro_g HW.out S3.out.q) LG.out ?_)
    | (with_reducible refine wpList_load_addr_at rfl (.tmp 66) rfl w.heap.size 44 rfl (mro_f HW.out S3.out.q) LF.out ?_)
    | (with_reducible refine wpList_load_addr_at rfl (.tmp 91) rfl w.heap.size 44 rfl (mro_f HW.out S3.out.q) LF.out ?_)
    | (with_reducible refine wpList_load_addr_at rfl (.tmp 97) rfl w.heap.size 10 rfl (mro_s HW.out S3.out.q) LS.out ?_)
    | (with_reducible refine wpList_load_addr_at rfl (.tmp 99) rfl w.heap.size 27 rfl (mro_g HW.out S3.out.q) LG.out ?_)
    | (with_reducible refine wpList_load_addr_g rfl (.tmp 7) rfl w1.heap.size rfl S3.out.n zero16_len ?_)
    | (with_reducible refine wpList_neq_addr rfl (.tmp 51) (.tmp 52) rfl rfl rfl LS.out zero16_len ?_; rw [HDs.out])
    | (with_reducible refine wpList_neq_addr rfl (.tmp 51) (.tmp 52) rfl rfl HZA.out LS.out zero16_len ?_; rw [HDs.out])
    | (with_reducible refine wpList_neq_addr rfl (.tmp 56) (.tmp 57) rfl rfl rfl LG.out zero16_len ?_; rw [HDg.out])
    | (with_reducible refine wpList_neq_addr rfl (.tmp 56) (.tmp 57) rfl rfl HZA.out LG.out zero16_len ?_; rw [HDg.out])
    | (with_reducible refine wpList_neq_addr rfl (.tmp 67) (.tmp 68) rfl rfl rfl LF.out zero16_len ?_; rw [HDf.out])
    | (with_reducible refine wpList_neq_addr rfl (.tmp 67) (.tmp 68) rfl rfl HZA.out LF.out zero16_len ?_; rw [HDf.out]))
  go_ret
  exact ⟨rfl, S3.out.bel⟩
theorem refright_2_f3 (w : World) (m : Mr) (hw : m.W) (hk : m.k = 2) (HDs : Hid ((!decide (m.ss = 0 ∧ m.sb = zero16)) = false)) (HDg : Hid ((!decide (m.gs = 0 ∧ m.gb = zero16)) = false)) (HDf : Hid ((!decide (m.fs = 0 ∧ m.fb = zero16)) = false)) (hDk : (!m.key.isEmpty) = true) :
    Calls Tryz.prog 9 #[.agg (mroC m)] w fun e w' => e = .returned (.bool false) ∧ Below w.heap.size w w' := by
  have HW := hide hw
  have HZR := hide (congrArg Value.agg rdC_zero).symm
  have HZA := hide (congrArg Value.agg (addrC_zero 0)).symm
  have LS := hide hw.sb
  have LG := hide hw.gb
  have LF := hide hw.fb
  have LR := hide hw.rd
  have S0 := hide (RmB.new w m)
  obtain ⟨a, ha⟩ : ∃ a, m.a = a := ⟨_, rfl⟩
  obtain ⟨ky, hky⟩ : ∃ ky, m.key = ky := ⟨_, rfl⟩
  rw [hky] at hDk
  have C0 : Hid ((mroC m)[0]? = some (.int .i64 2)) := hide (by rw [mroC_0, hk])
  have C9 := hide (mroC_9 hw)
  have C61 := hide (mroC_61 hw)
  rw [ha] at C9
  rw [hky] at C61
  clear hw hk ha hky
  have c0 : (w.alloc (.cells (mroC m) 28)).cell? ⟨w.heap.size, 0, none⟩ = some (.int .i64 2) := by rw [S0.out.1.cell 0]; exact C0.out
  have c9 : (w.alloc (.cells (mroC m) 28)).cell? ⟨w.heap.size, 9, none⟩ = some (.int .i64 a) := by rw [S0.out.1.cell 9]; exact C9.out
  have c61 : (w.alloc (.cells (mroC m) 28)).cell? ⟨w.heap.size, 61, none⟩ = some (.string ⟨ky.toArray⟩) := by rw [S0.out.1.cell 61]; exact C61.out
  go_enter Tryz.func9, Tryz.ntmps9
  go_wp2_with fail
  refine (refwhat_2 _).mono ?_
  rintro e w1 ⟨rfl, hb1⟩
  have S1 := hide (S0.out.on hb1)
  clear hb1 c0 c9 c61
  have S3 := hide (RmS.start S1.out)
  have c0 := S3.out.c C0
  have c9 := S3.out.c C9
  have c61 := S3.out.c C61
  go_wp2_with (first
    | (with_reducible refine wpList_load_rd_at rfl (.tmp 32) rfl w.heap.size 1 rfl (mro_rd HW.out S3.out.q) LR.out ?_)
    | (with_reducible refine wpList_load_rd_g rfl (.tmp 8) rfl (w1.heap.size + 1) rfl S3.out.r zero8_len ?_)
    | (with_reducible refine wpList_neq_rd rfl (.tmp 33) (.tmp 34) rfl rfl rfl LR.out zero8_len ?_; rw [HDr.out])
    | (with_reducible refine wpList_neq_rd rfl (.tmp 33) (.tmp 34) rfl rfl HZR.out LR.out zero8_len ?_; rw [HDr.out])
    | (with_reducible refine wpList_load_addr_at rfl (.tmp 50) rfl w.heap.size 10 rfl (mro_s HW.out S3.out.q) LS.out ?_)
    | (with_reducible refine wpList_load_addr_at rfl (.tmp 55) rfl w.heap.size 27 rfl (mro_g HW.out S3.out.q) LG.out ?_)
    | (with_reducible refine wpList_load_addr_at rfl (.tmp 66) rfl w.heap.size 44 rfl (mro_f HW.out S3.out.q) LF.out ?_)
    | (with_reducible refine wpList_load_addr_at rfl (.tmp 91) rfl w.heap.size 44 rfl (mro_f HW.out S3.out.q) LF.out ?_)
    | (with_reducible refine wpList_load_addr_at rfl (.tmp 97) rfl w.heap.size 10 rfl (mro_s HW.out S3.out.q) LS.out ?_)
    | (with_reducible refine wpList_load_addr_at rfl (.tmp 99) rfl w.heap.size 27 rfl (mro_g HW.out S3.out.q) LG.out ?_)
    | (with_reducible refine wpList_load_addr_g rfl (.tmp 7) rfl w1.heap.size rfl S3.out.n zero16_len ?_)
    | (with_reducible refine wpList_neq_addr rfl (.tmp 51) (.tmp 52) rfl rfl rfl LS.out zero16_len ?_; rw [HDs.out])
    | (with_reducible refine wpList_neq_addr rfl (.tmp 51) (.tmp 52) rfl rfl HZA.out LS.out zero16_len ?_; rw [HDs.out])
    | (with_reducible refine wpList_neq_addr rfl (.tmp 56) (.tmp 57) rfl rfl rfl LG.out zero16_len ?_; rw [HDg.out])
    | (with_reducible refine wpList_neq_addr rfl (.tmp 56) (.tmp 57) rfl rfl HZA.out LG.out zero16_len ?_; rw [HDg.out])
    | (with_reducible refine wpList_neq_addr rfl (.tmp 67) (.tmp 68) rfl rfl rfl LF.out zero16_len ?_; rw [HDf.out])
    | (with_reducible refine wpList_neq_addr rfl (.tmp 67) (.tmp 68) rfl rfl HZA.out LF.out zero16_len ?_; rw [HDf.out]))
  go_ret
  exact ⟨rfl, S3.out.bel⟩
theorem refright_2_tn1 (w : World) (m : Mr) (hw : m.W) (hk : m.k = 2) (HDs : Hid ((!decide (m.ss = 0 ∧ m.sb = zero16)) = false)) (HDg : Hid ((!decide (m.gs = 0 ∧ m.gb = zero16)) = false)) (HDf : Hid ((!decide (m.fs = 0 ∧ m.fb = zero16)) = false)) (hDk : m.key = []) (hneg : m.a < 0) :
    Calls Tryz.prog 9 #[.agg (mroC m)] w fun e w' => e = .returned (.bool false) ∧ Below w.heap.size w w' := by
  have HW := hide hw
  have HZR := hide (congrArg Value.agg rdC_zero).symm
  have HZA := hide (congrArg Value.agg (addrC_zero 0)).symm
  have LS := hide hw.sb
  have LG := hide hw.gb
  have LF := hide hw.fb
  have LR := hide hw.rd
  have S0 := hide (RmB.new w m)
  obtain ⟨a, ha⟩ : ∃ a, m.a = a := ⟨_, rfl⟩
  obtain ⟨ky, hky⟩ : ∃ ky, m.key = ky := ⟨_, rfl⟩
  rw [ha] at hneg
  rw [hky] at hDk
  subst hDk
  have C0 : Hid ((mroC m)[0]? = some (.int .i64 2)) := hide (by rw [mroC_0, hk])
  have C9 := hide (mroC_9 hw)
  have C61 := hide (mroC_61 hw)
  rw [ha] at C9
  rw [hky] at C61
  clear hw hk ha hky
  have c0 : (w.alloc (.cells (mroC m) 28)).cell? ⟨w.heap.size, 0, none⟩ = some (.int .i64 2) := by rw [S0.out.1.cell 0]; exact C0.out
  have c9 : (w.alloc (.cells (mroC m) 28)).cell? ⟨w.heap.size, 9, none⟩ = some (.int .i64 a) := by rw [S0.out.1.cell 9]; exact C9.out
  have c61 : (w.alloc (.cells (mroC m) 28)).cell? ⟨w.heap.size, 61, none⟩ = some (.string ⟨([] : List UInt8).toArray⟩) := by rw [S0.out.1.cell 61]; exact C61.out
  go_enter Tryz.func9, Tryz.ntmps9
  go_wp2_with fail
  refine (refwhat_2 _).mono ?_
  rintro e w1 ⟨rfl, hb1⟩
  have S1 := hide (S0.out.on hb1)
  clear hb1 c0 c9 c61
  have S3 := hide (RmS.start S1.out)
  have c0 := S3.out.c C0
  have c9 := S3.out.c C9
  have c61 := S3.out.c C61
  go_wp2_with (first
    | (with_reducible refine wpList_load_rd_at rfl (.tmp 32) rfl w.heap.size 1 rfl (mro_rd HW.out S3.out.q) LR.out ?_)
    | (with_reducible refine wpList_load_rd_g rfl (.tmp 8) rfl (w1.heap.size + 1) rfl S3.out.r zero8_len ?_)
    | (with_reducible refine wpList_neq_rd rfl (.tmp 33) (.tmp 34) rfl rfl rfl LR.out zero8_len ?_; rw [HDr.out])
    | (with_reducible refine wpList_neq_rd rfl (.tmp 33) (.tmp 34) rfl rfl HZR.out LR.out zero8_len ?_; rw [HDr.out])
    | (with_reducible refine wpList_load_addr_at rfl (.tmp 50) rfl w.heap.size 10 rfl (mro_s HW.out S3.out.q) LS.out ?_)
    | (with_reducible refine wpList_load_addr_at rfl (.tmp 55) rfl w.heap.size 27 rfl (mro_g HW.out S3.out.q) LG.out ?_)
    | (with_reducible refine wpList_load_addr_at rfl (.tmp 66) rfl w.heap.size 44 rfl (mro_f HW.out S3.out.q) LF.out ?_)
    | (with_reducible refine wpList_load_addr_at rfl (.tmp 91) rfl w.heap.size 44 rfl (mro_f HW.out S3.out.q) LF.out ?_)
    | (with_reducible refine wpList_load_addr_at rfl (.tmp 97) rfl w.heap.size 10 rfl (mro_s HW.out S3.out.q) LS.out ?_)
    | (with_reducible refine wpList_load_addr_at rfl (.tmp 99) rfl w.heap.size 27 rfl (mro_g HW.out S3.out.q) LG.out ?_)
    | (with_reducible refine wpList_load_addr_g rfl (.tmp 7) rfl w1.heap.size rfl S3.out.n zero16_len ?_)
    | (with_reducible refine wpList_neq_addr rfl (.tmp 51) (.tmp 52) rfl rfl rfl LS.out zero16_len ?_; rw [HDs.out])
    | (with_reducible refine wpList_neq_addr rfl (.tmp 51) (.tmp 52) rfl rfl HZA.out LS.out zero16_len ?_; rw [HDs.out])
    | (with_reducible refine wpList_neq_addr rfl (.tmp 56) (.tmp 57) rfl rfl rfl LG.out zero16_len ?_; rw [HDg.out])
    | (with_reducible refine wpList_neq_addr rfl (.tmp 56) (.tmp 57) rfl rfl HZA.out LG.out zero16_len ?_; rw [HDg.out])
    | (with_reducible refine wpList_neq_addr rfl (.tmp 67) (.tmp 68) rfl rfl rfl LF.out zero16_len ?_; rw [HDf.out])
    | (with_reducible refine wpList_neq_addr rfl (.tmp 67) (.tmp 68) rfl rfl HZA.out LF.out zero16_len ?_; rw [HDf.out]))
  go_ret
  exact ⟨rfl, S3.out.bel⟩
theorem refright_2_tn0b1 (w : World) (m : Mr) (hw : m.W) (hk : m.k = 2) (HDs : Hid ((!decide (m.ss = 0 ∧ m.sb = zero16)) = false)) (HDg : Hid ((!decide (m.gs = 0 ∧ m.gb = zero16)) = false)) (HDf : Hid ((!decide (m.fs = 0 ∧ m.fb = zero16)) = false)) (hDk : m.key = []) (hneg : ¬ m.a < 0) (hbig : 4294967295 < m.a) :
    Calls Tryz.prog 9 #[.agg (mroC m)] w fun e w' => e = .returned (.bool false) ∧ Below w.heap.size w w' := by
  have HW := hide hw
  have HZR := hide (congrArg Value.agg rdC_zero).symm
  have HZA := hide (congrArg Value.agg (addrC_zero 0)).symm
  have LS := hide hw.sb
  have LG := hide hw.gb
  have LF := hide hw.fb
  have LR := hide hw.rd
  have S0 := hide (RmB.new w m)
  obtain ⟨a, ha⟩ : ∃ a, m.a = a := ⟨_, rfl⟩
  obtain ⟨ky, hky⟩ : ∃ ky, m.key = ky := ⟨_, rfl⟩
  rw [ha] at hneg
  rw [ha] at hbig
  rw [hky] at hDk
  subst hDk
  have C0 : Hid ((mroC m)[0]? = some (.int .i64 2)) := hide (by rw [mroC_0, hk])
  have C9 := hide (mroC_9 hw)
  have C61 := hide (mroC_61 hw)
  rw [ha] at C9
  rw [hky] at C61
  clear hw hk ha hky
  have c0 : (w.alloc (.cells (mroC m) 28)).cell? ⟨w.heap.size, 0, none⟩ = some (.int .i64 2) := by rw [S0.out.1.cell 0]; exact C0.out
  have c9 : (w.alloc (.cells (mroC m) 28)).cell? ⟨w.heap.size, 9, none⟩ = some (.int .i64 a) := by rw [S0.out.1.cell 9]; exact C9.out
  have c61 : (w.alloc (.cells (mroC m) 28)).cell? ⟨w.heap.size, 61, none⟩ = some (.string ⟨([] : List UInt8).toArray⟩) := by rw [S0.out.1.cell 61]; exact C61.out
  go_enter Tryz.func9, Tryz.ntmps9
  go_wp2_with fail
  refine (refwhat_2 _).mono ?_
  rintro e w1 ⟨rfl, hb1⟩
  have S1 := hide (S0.out.on hb1)
  clear hb1 c0 c9 c61
  have S3 := hide (RmS.start S1.out)
  have c0 := S3.out.c C0
  have c9 := S3.out.c C9
  have c61 := S3.out.c C61
  go_wp2_with (first
    | (with_reducible refine wpList_load_rd_at rfl (.tmp 32) rfl w.heap.size 1 rfl (mro_rd HW.out S3.out.q) LR.out ?_)
    | (with_reducible refine wpList_load_rd_g rfl (.tmp 8) rfl (w1.heap.size + 1) rfl S3.out.r zero8_len ?_)
    | (with_reducible refine wpList_neq_rd rfl (.tmp 33) (.tmp 34) rfl rfl rfl LR.out zero8_len ?_; rw [HDr.out])
    | (with_reducible refine wpList_neq_rd rfl (.tmp 33) (.tmp 34) rfl rfl HZR.out LR.out zero8_len ?_; rw [HDr.out])
    | (with_reducible refine wpList_load_addr_at rfl (.tmp 50) rfl w.heap.size 10 rfl (mro_s HW.out S3.out.q) LS.out ?_)
    | (with_reducible refine wpList_load_addr_at rfl (.tmp 55) rfl w.heap.size 27 rfl (mro_g HW.out S3.out.q) LG.out ?_)
    | (with_reducible refine wpList_load_addr_at rfl (.tmp 66) rfl w.heap.size 44 rfl (mro_f HW.out S3.out.q) LF.out ?_)
    | (with_reducible refine wpList_load_addr_at rfl (.tmp 91) rfl w.heap.size 44 rfl (mro_f HW.out S3.out.q) LF.out ?_)
    | (with_reducible refine wpList_load_addr_at rfl (.tmp 97) rfl w.heap.size 10 rfl (mro_s HW.out S3.out.q) LS.out ?_)
    | (with_reducible refine wpList_load_addr_at rfl (.tmp 99) rfl w.heap.size 27 rfl (mro_g HW.out S3.out.q) LG.out ?_)
    | (with_reducible refine wpList_load_addr_g rfl (.tmp 7) rfl w1.heap.size rfl S3.out.n zero16_len ?_)
    | (with_reducible refine wpList_neq_addr rfl (.tmp 51) (.tmp 52) rfl rfl rfl LS.out zero16_len ?_; rw [HDs.out])
    | (with_reducible refine wpList_neq_addr rfl (.tmp 51) (.tmp 52) rfl rfl HZA.out LS.out zero16_len ?_; rw [HDs.out])
    | (with_reducible refine wpList_neq_addr rfl (.tmp 56) (.tmp 57) rfl rfl rfl LG.out zero16_len ?_; rw [HDg.out])
    | (with_reducible refine wpList_neq_addr rfl (.tmp 56) (.tmp 57) rfl rfl HZA.out LG.out zero16_len ?_; rw [HDg.out])
    | (with_reducible refine wpList_neq_addr rfl (.tmp 67) (.tmp 68) rfl rfl rfl LF.out zero16_len ?_; rw [HDf.out])
    | (with_reducible refine wpList_neq_addr rfl (.tmp 67) (.tmp 68) rfl rfl HZA.out LF.out zero16_len ?_; rw [HDf.out]))
  go_ret
  exact ⟨rfl, S3.out.bel⟩
theorem refright_2_tn0b0 (w : World) (m : Mr) (hw : m.W) (hk : m.k = 2) (HDs : Hid ((!decide (m.ss = 0 ∧ m.sb = zero16)) = false)) (HDg : Hid ((!decide (m.gs = 0 ∧ m.gb = zero16)) = false)) (HDf : Hid ((!decide (m.fs = 0 ∧ m.fb = zero16)) = false)) (hDk : m.key = []) (hneg : ¬ m.a < 0) (hbig : ¬ 4294967295 < m.a) :
    Calls Tryz.prog 9 #[.agg (mroC m)] w fun e w' => e = .returned (.bool true) ∧ Below w.heap.size w w' := by
  have HW := hide hw
  have HZR := hide (congrArg Value.agg rdC_zero).symm
  have HZA := hide (congrArg Value.agg (addrC_zero 0)).symm
  have LS := hide hw.sb
  have LG := hide hw.gb
  have LF := hide hw.fb
  have LR := hide hw.rd
  have S0 := hide (RmB.new w m)
  obtain ⟨a, ha⟩ : ∃ a, m.a = a := ⟨_, rfl⟩
  obtain ⟨ky, hky⟩ : ∃ ky, m.key = ky := ⟨_, rfl⟩
  rw [ha] at hneg
  rw [ha] at hbig
  rw [hky] at hDk
  subst hDk
  have C0 : Hid ((mroC m)[0]? = some (.int .i64 2)) := hide (by rw [mroC_0, hk])
  have C9 := hide (mroC_9 hw)
  have C61 := hide (mroC_61 hw)
  rw [ha] at C9
  rw [hky] at C61
  clear hw hk ha hky
  have c0 : (w.alloc (.cells (mroC m) 28)).cell? ⟨w.heap.size, 0, none⟩ = some (.int .i64 2) := by rw [S0.out.1.cell 0]; exact C0.out
  have c9 : (w.alloc (.cells (mroC m) 28)).cell? ⟨w.heap.size, 9, none⟩ = some (.int .i64 a) := by rw [S0.out.1.cell 9]; exact C9.out
  have c61 : (w.alloc (.cells (mroC m) 28)).cell? ⟨w.heap.size, 61, none⟩ = some (.string ⟨([] : List UInt8).toArray⟩) := by rw [S0.out.1.cell 61]; exact C61.out
  go_enter Tryz.func9, Tryz.ntmps9
  go_wp2_with fail
  refine (refwhat_2 _).mono ?_
  rintro e w1 ⟨rfl, hb1⟩
  have S1 := hide (S0.out.on hb1)
  clear hb1 c0 c9 c61
  have S3 := hide (RmS.start S1.out)
  have c0 := S3.out.c C0
  have c9 := S3.out.c C9
  have c61 := S3.out.c C61
  go_wp2_with (first
    | (with_reducible refine wpList_load_rd_at rfl (.tmp 32) rfl w.heap.size 1 rfl (mro_rd HW.out S3.out.q) LR.out ?_)
    | (with_reducible refine wpList_load_rd_g rfl (.tmp 8) rfl (w1.heap.size + 1) rfl S3.out.r zero8_len ?_)
    | (with_reducible refine wpList_neq_rd rfl (.tmp 33) (.tmp 34) rfl rfl rfl LR.out zero8_len ?_; rw [HDr.out])
    | (with_reducible refine wpList_neq_rd rfl (.tmp 33) (.tmp 34) rfl rfl HZR.out LR.out zero8_len ?_; rw [HDr.out])
    | (with_reducible refine wpList_load_addr_at rfl (.tmp 50) rfl w.heap.size 10 rfl (mro_s HW.out S3.out.q) LS.out ?_)
    | (with_reducible refine wpList_load_addr_at rfl (.tmp 55) rfl w.heap.size 27 rfl (mro_g HW.out S3.out.q) LG.out ?_)
    | (with_reducible refine wpList_load_addr_at rfl (.tmp 66) rfl w.heap.size 44 rfl (mro_f HW.out S3.out.q) LF.out ?_)
    | (with_reducible refine wpList_load_addr_at rfl (.tmp 91) rfl w.heap.size 44 rfl (mro_f HW.out S3.out.q) LF.out ?_)
    | (with_reducible refine wpList_load_addr_at rfl (.tmp 97) rfl w.heap.size 10 rfl (mro_s HW.out S3.out.q) LS.out ?_)
    | (with_reducible refine wpList_load_addr_at rfl (.tmp 99) rfl w.heap.size 27 rfl (mro_g HW.out S3.out.q) LG.out ?_)
    | (with_reducible refine wpList_load_addr_g rfl (.tmp 7) rfl w1.heap.size rfl S3.out.n zero16_len ?_)
    | (with_reducible refine wpList_neq_addr rfl (.tmp 51) (.tmp 52) rfl rfl rfl LS.out zero16_len ?_; rw [HDs.out])
    | (with_reducible refine wpList_neq_addr rfl (.tmp 51) (.tmp 52) rfl rfl HZA.out LS.out zero16_len ?_; rw [HDs.out])
    | (with_reducible refine wpList_neq_addr rfl (.tmp 56) (.tmp 57) rfl rfl rfl LG.out zero16_len ?_; rw [HDg.out])
    | (with_reducible refine wpList_neq_addr rfl (.tmp 56) (.tmp 57) rfl rfl HZA.out LG.out zero16_len ?_; rw [HDg.out])
    | (with_reducible refine wpList_neq_addr rfl (.tmp 67) (.tmp 68) rfl rfl rfl LF.out zero16_len ?_; rw [HDf.out])
    | (with_reducible refine wpList_neq_addr rfl (.tmp 67) (.tmp 68) rfl rfl HZA.out LF.out zero16_len ?_; rw [HDf.out]))
  go_ret
  exact ⟨rfl, S3.out.bel⟩
end Go.Proofs.YtipgbmajhnkfbaaGreatDoor
