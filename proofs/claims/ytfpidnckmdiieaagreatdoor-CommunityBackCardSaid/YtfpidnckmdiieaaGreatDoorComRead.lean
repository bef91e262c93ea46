/-
  What ofBytes, readTarget, readImport, read and Parse of package community do, in whatever memory. The one condition beyond sizes that fit memory: the library's tables hold what its text lays.
-/
import Derived.Test.YtfpidnckmdiieaaGreatDoorComs
namespace Go.Proofs.YtfpidnckmdiieaaGreatDoor
open Go.RowKit
set_option linter.unusedVariables false
set_option linter.unusedSimpArgs false

set_option maxRecDepth 20000 in
set_option maxHeartbeats 1000000 in
theorem comOfBytes_any (w : World) (lo hi : Nat) (A : Option Addr) (n c : Nat) (xs : List UInt8) (h : At w lo hi A n xs) (hh : hi ≤ w.heap.size) :
    Calls Tryz.prog 57 #[.slice A n c] w fun e w' => e = .returned (.agg (rdC (pad8 xs))) ∧ Below w.heap.size w w' := by
  have HZ := hide rdC_zero
  have H2 := hide ((h.alloc hh (.cells #[.int .u8 0, .int .u8 0, .int .u8 0, .int .u8 0, .int .u8 0, .int .u8 0, .int .u8 0, .int .u8 0] 23)).alloc (by simp; omega) (.cells #[.int .u8 0, .int .u8 0, .int .u8 0, .int .u8 0, .int .u8 0, .int .u8 0, .int .u8 0, .int .u8 0] 23))
  have HP := hide (pad8_len xs)
  clear h
  go_enter Tryz.func57, Tryz.ntmps57
  go_wp2_with (first
    | (with_reducible refine wpList_copy_ext rfl (.tmp 4) (.tmp 5) rfl (w.heap.size + 1) n c lo hi A xs _ (by rw [HZ.out]; exact blk_new2 w _ _ _) H2.out rfl rfl ?_; intro w3 hb3 hg3; have HB3 := hide hb3; have HG3 := hide hg3; clear hb3 hg3; have HZ3 := hide (((Blk.new w _ _).alloc _).grown HG3.out (by simp)))
    | (with_reducible refine wpList_load_ext rfl (.tmp 3) rfl (w.heap.size + 1) rfl HB3.out HP.out ?_)
    | (refine wpList_store_ext rfl (.tmp 2) (.tmp 7) rfl w.heap.size rfl (bs := pad8 xs) rfl HP.out HZ3.out rfl ?_; intro w4 hb4 hg4; have HB4 := hide hb4; have HG4 := hide hg4; clear hb4 hg4))
  refine ret_ext1 (p := 2) rfl rfl HB4.out HP.out rfl ?_
  refine ⟨rfl, ?_⟩
  have k2 := ((Below.refl w.heap.size w).alloc (Nat.le_refl _) (.cells #[.int .u8 0, .int .u8 0, .int .u8 0, .int .u8 0, .int .u8 0, .int .u8 0, .int .u8 0, .int .u8 0] 23)).alloc (by simp) (.cells #[.int .u8 0, .int .u8 0, .int .u8 0, .int .u8 0, .int .u8 0, .int .u8 0, .int .u8 0, .int .u8 0] 23)
  have k3 := k2.grown HG3.out k2.size (by simp)
  exact k3.grown HG4.out k3.size (by simp)

set_option maxRecDepth 20000 in
set_option maxHeartbeats 2000000 in
theorem readTarget_any (w : World) (s : List UInt8) (hs : s.length ≤ 140737488355328) (hg : Glob w) :
    Calls Tryz.prog 68 #[.string ⟨s.toArray⟩] w fun e w' => e = .returned (.agg (rdC (rdTgt s))) ∧ Below w.heap.size w w' := by
  have HG := hide hg
  have B0 : Hid (Blk (w.alloc (.cells #[.int .u8 0, .int .u8 0, .int .u8 0, .int .u8 0, .int .u8 0, .int .u8 0, .int .u8 0, .int .u8 0] 23)) w.heap.size 23 #[.int .u8 0, .int .u8 0, .int .u8 0, .int .u8 0, .int .u8 0, .int .u8 0, .int .u8 0, .int .u8 0]) := Blk.new w _ _
  have W0 : Hid (Below w.heap.size w (w.alloc (.cells #[.int .u8 0, .int .u8 0, .int .u8 0, .int .u8 0, .int .u8 0, .int .u8 0, .int .u8 0, .int .u8 0] 23))) := (Below.refl _ _).alloc (Nat.le_refl _) _
  obtain ⟨D, E, hd⟩ : ∃ D E, parseR s = (D, E) := ⟨_, _, rfl⟩
  have hdl := parseR_len s
  rw [hd] at hdl
  have HDL := hide hdl
  have HD := hide hd
  obtain ⟨K, hK⟩ : ∃ K, ptK D = K := ⟨_, rfl⟩
  obtain ⟨H, hH⟩ : ∃ H, ptH D = H := ⟨_, rfl⟩
  obtain ⟨L, hL⟩ : ∃ L, ptL D = L := ⟨_, rfl⟩
  obtain ⟨O, hO⟩ : ∃ O, knownR D = O := ⟨_, rfl⟩
  have HV : Hid (rdTgt s = cmB 2 K H L) := hide (by unfold rdTgt; rw [hd]; simp only; rw [hK, hH, hL])
  have HK := hide hK
  have HH := hide hH
  have HLL := hide hL
  have HO := hide hO
  have HP := hide (cmB_len 2 K H L)
  clear hg hd hdl hK hH hL hO
  go_enter Tryz.func68, Tryz.ntmps68
  go_wp2_with fail
  refine (rdparse_any _ s hs (HG.out.below W0.out)).mono ?_
  rintro e w1 ⟨rfl, hb1⟩
  rw [HD.out]
  simp only
  have W1 := hide (below_step W0.out hb1 (Nat.le_refl _))
  have B1 := hide (B0.out.over hb1)
  clear hb1
  go_wp2_with (first
    | (refine wpList_store_rd rfl (.tmp 3) (.tmp 14) rfl w1.heap.size rfl (bs := D) rfl HDL.out (Blk.new w1 _ _) rfl ?_; intro w2 hb2 hg2; have HB2 := hide hb2; have B2 := hide (B1.out.stays _ hg2 (Nat.le_refl _)); have W2 := hide (below_made W1.out (Nat.le_refl _) _ hg2 (Nat.le_refl _)); clear hb2 hg2)
    | (with_reducible refine wpList_load_rd rfl (.tmp 3) rfl w1.heap.size rfl HB2.out HDL.out ?_))
  refine (parts_any w2 D HDL.out).mono ?_
  rintro e w3 ⟨rfl, hb3⟩
  rw [HK.out, HH.out, HLL.out, HO.out]
  have W3 := hide (below_step W2.out hb3 (Nat.le_refl _))
  have B3 := hide (B2.out.over hb3)
  clear hb3
  go_wp2_with fail
  refine (target_any w3 K H L).mono ?_
  rintro e w4 ⟨rfl, hb4⟩
  have W4 := hide (below_step W3.out hb4 (Nat.le_refl _))
  have B4 := hide (B3.out.over hb4)
  clear hb4
  go_wp2_with (first
    | (refine wpList_store_ext rfl (.tmp 9) (.tmp 28) rfl w4.heap.size rfl (bs := cmB 2 K H L) rfl HP.out (Blk.new w4 _ _) rfl ?_; intro w5 hb5 hg5; have HB5 := hide hb5; have B5 := hide (B4.out.stays _ hg5 (Nat.le_refl _)); have W5 := hide (below_made W4.out (Nat.le_refl _) _ hg5 (Nat.le_refl _)); clear hb5 hg5)
    | (with_reducible refine wpList_load_ext rfl (.tmp 9) rfl w4.heap.size rfl HB5.out HP.out ?_)
    | (refine wpList_store_ext rfl (.tmp 2) (.tmp 30) rfl w.heap.size rfl (bs := cmB 2 K H L) rfl HP.out B5.out rfl ?_; intro w6 hb6 hg6; have HB6 := hide hb6; have HG6 := hide hg6; clear hb6 hg6))
  refine ret_ext1 (p := 2) rfl rfl HB6.out HP.out rfl ?_
  exact ⟨by rw [HV.out], W5.out.grown HG6.out W5.out.size (by simp)⟩

set_option maxRecDepth 20000 in
set_option maxHeartbeats 3000000 in
theorem readImport_any (w : World) (s : List UInt8) (hs : s.length ≤ 140737488355328) (hg : Glob w) :
    Calls Tryz.prog 69 #[.string ⟨s.toArray⟩] w fun e w' => e = .returned (.agg (rdC (rdImp s))) ∧ Below w.heap.size w w' := by
  have HG := hide hg
  have B0 : Hid (Blk (w.alloc (.cells #[.int .u8 0, .int .u8 0, .int .u8 0, .int .u8 0, .int .u8 0, .int .u8 0, .int .u8 0, .int .u8 0] 23)) w.heap.size 23 #[.int .u8 0, .int .u8 0, .int .u8 0, .int .u8 0, .int .u8 0, .int .u8 0, .int .u8 0, .int .u8 0]) := Blk.new w _ _
  have W0 : Hid (Below w.heap.size w (w.alloc (.cells #[.int .u8 0, .int .u8 0, .int .u8 0, .int .u8 0, .int .u8 0, .int .u8 0, .int .u8 0, .int .u8 0] 23))) := (Below.refl _ _).alloc (Nat.le_refl _) _
  obtain ⟨x, y, c, hxyz⟩ : ∃ x y c, Lib.cut s [58] = (x, y, c) := ⟨_, _, _, rfl⟩
  have hcl := cut_len s [58]
  rw [hxyz] at hcl
  have hna := cut_head_no s 58
  rw [hxyz] at hna
  have HNA : Hid ((58 : UInt8) ∉ x) := hna
  have hxl : x.length ≤ 140737488355328 := Nat.le_trans hcl.1 hs
  have hyl : y.length ≤ 140737488355328 := Nat.le_trans hcl.2 hs
  have HXYZ := hide hxyz
  obtain ⟨z, bs, er, hr⟩ : ∃ z bs er, parseA x = (z, bs, er) := ⟨_, _, _, rfl⟩
  have hl := parseA_len x
  rw [hr] at hl
  have HL := hide hl
  have HR := hide hr
  obtain ⟨K, hK⟩ : ∃ K, numV 10 top32 y = K := ⟨_, rfl⟩
  obtain ⟨O, hO⟩ : ∃ O, numO 10 4294967295 y = O := ⟨_, rfl⟩
  have HV : Hid (rdImp s = impB z bs K) := hide (by unfold rdImp; rw [hxyz]; simp only; rw [hr, hK])
  have HK : Hid (numV 10 4294967295 y = K) := hide hK
  have HO := hide hO
  have HP := hide (impB_len z bs K)
  clear hg hcl hxyz hna hr hl hK hO
  go_enter Tryz.func69, Tryz.ntmps69
  go_wp2_with fail
  refine (cut1_any _ s 58 (by omega)).mono ?_
  rintro e w1 ⟨rfl, hb1⟩
  rw [HXYZ.out]
  simp only
  have W1 := hide (below_step W0.out hb1 (Nat.le_refl _))
  have B1 := hide (B0.out.over hb1)
  clear hb1
  go_wp2_with fail
  refine (parse1_any _ x hxl HNA.out (HG.out.below W1.out)).mono ?_
  rintro e w2 ⟨rfl, hb2⟩
  rw [HR.out]
  simp only
  have W2 := hide (below_step W1.out hb2 (Nat.le_refl _))
  have B2 := hide (B1.out.over hb2)
  clear hb2
  go_wp2_with (first
    | (refine wpList_store_addr rfl (.tmp 6) (.tmp 21) rfl w2.heap.size rfl rfl HL.out (Blk.new w2 _ _) rfl ?_; intro w3 hb3 hg3; have HB3 := hide hb3; have B3 := hide (B2.out.stays _ hg3 (Nat.le_refl _)); have W3 := hide (below_made W2.out (Nat.le_refl _) _ hg3 (Nat.le_refl _)); clear hb3 hg3))
  refine (number_wide _ y (by omega) 10 4294967295 (by decide) (by decide)).mono ?_
  rintro e w4 ⟨rfl, hb4⟩
  rw [HK.out, HO.out]
  have W4 := hide (below_step W3.out hb4 (Nat.le_refl _))
  have B4 := hide (B3.out.over hb4)
  have HB4 := hide (HB3.out.over hb4)
  clear hb4
  go_wp2_with (with_reducible refine wpList_load_addr rfl (.tmp 6) rfl w2.heap.size rfl HB4.out HL.out ?_)
  refine (import_any w4 z bs HL.out K).mono ?_
  rintro e w5 ⟨rfl, hb5⟩
  have W5 := hide (below_step W4.out hb5 (Nat.le_refl _))
  have B5 := hide (B4.out.over hb5)
  clear hb5
  go_wp2_with (first
    | (refine wpList_store_ext rfl (.tmp 10) (.tmp 32) rfl w5.heap.size rfl (bs := impB z bs K) rfl HP.out (Blk.new w5 _ _) rfl ?_; intro w6 hb6 hg6; have HB6 := hide hb6; have B6 := hide (B5.out.stays _ hg6 (Nat.le_refl _)); have W6 := hide (below_made W5.out (Nat.le_refl _) _ hg6 (Nat.le_refl _)); clear hb6 hg6)
    | (with_reducible refine wpList_load_ext rfl (.tmp 10) rfl w5.heap.size rfl HB6.out HP.out ?_)
    | (refine wpList_store_ext rfl (.tmp 2) (.tmp 34) rfl w.heap.size rfl (bs := impB z bs K) rfl HP.out B6.out rfl ?_; intro w7 hb7 hg7; have HB7 := hide hb7; have HG7 := hide hg7; clear hb7 hg7))
  refine ret_ext1 (p := 2) rfl rfl HB7.out HP.out rfl ?_
  exact ⟨by rw [HV.out], W6.out.grown HG7.out W6.out.size (by simp)⟩

set_option maxRecDepth 20000 in
set_option maxHeartbeats 2000000 in
theorem comread_tgt (w : World) (s x y : List UInt8) (c : Bool) (hxyz : Lib.cut s [58] = (x, y, c)) (hs : s.length ≤ 140737488355328) (hyl : y.length ≤ 140737488355328) (hg : Glob w) (hx : x = wTarget) :
    Calls Tryz.prog 38 #[.string ⟨s.toArray⟩] w fun e w' => e = .returned (.agg (rdC (readX s))) ∧ Below w.heap.size w w' := by
  have HG := hide hg
  have B0 : Hid (Blk (w.alloc (.cells #[.int .u8 0, .int .u8 0, .int .u8 0, .int .u8 0, .int .u8 0, .int .u8 0, .int .u8 0, .int .u8 0] 23)) w.heap.size 23 #[.int .u8 0, .int .u8 0, .int .u8 0, .int .u8 0, .int .u8 0, .int .u8 0, .int .u8 0, .int .u8 0]) := Blk.new w _ _
  have W0 : Hid (Below w.heap.size w (w.alloc (.cells #[.int .u8 0, .int .u8 0, .int .u8 0, .int .u8 0, .int .u8 0, .int .u8 0, .int .u8 0, .int .u8 0] 23))) := (Below.refl _ _).alloc (Nat.le_refl _) _
  have HP := hide (readX_len s)
  have HXYZ := hide hxyz
  have HV : Hid (readX s = rdTgt y) := hide (by unfold readX; rw [hxyz]; simp only; rw [if_pos hx])
  unfold wTarget at hx
  subst hx
  clear hg hxyz 
  go_enter Tryz.func38, Tryz.ntmps38
  go_wp2_with fail
  refine (cut1_any _ s 58 (by omega)).mono ?_
  rintro e w1 ⟨rfl, hb1⟩
  rw [HXYZ.out]
  simp only
  have W1 := hide (below_step W0.out hb1 (Nat.le_refl _))
  have B1 := hide (B0.out.over hb1)
  clear hb1
  go_wp2_with fail
  refine (readTarget_any w1 y hyl (HG.out.below W1.out)).mono ?_
  rintro e w2 ⟨rfl, hb2⟩
  rw [← HV.out]
  have W2 := hide (below_step W1.out hb2 (Nat.le_refl _))
  have B2 := hide (B1.out.over hb2)
  clear hb2
  go_wp2_with (refine wpList_store_ext rfl (.tmp 2) (.tmp 22) rfl w.heap.size rfl (bs := readX s) rfl HP.out B2.out rfl ?_; intro w3 hb3 hg3; have HB3 := hide hb3; have HG3 := hide hg3; clear hb3 hg3)
  refine ret_ext1 (p := 2) rfl rfl HB3.out HP.out rfl ?_
  exact ⟨rfl, W2.out.grown HG3.out W2.out.size (by simp)⟩

set_option maxRecDepth 20000 in
set_option maxHeartbeats 2000000 in
theorem comread_imp (w : World) (s x y : List UInt8) (c : Bool) (hxyz : Lib.cut s [58] = (x, y, c)) (hs : s.length ≤ 140737488355328) (hyl : y.length ≤ 140737488355328) (hg : Glob w) (hx : x = wImport) :
    Calls Tryz.prog 38 #[.string ⟨s.toArray⟩] w fun e w' => e = .returned (.agg (rdC (readX s))) ∧ Below w.heap.size w w' := by
  have HG := hide hg
  have B0 : Hid (Blk (w.alloc (.cells #[.int .u8 0, .int .u8 0, .int .u8 0, .int .u8 0, .int .u8 0, .int .u8 0, .int .u8 0, .int .u8 0] 23)) w.heap.size 23 #[.int .u8 0, .int .u8 0, .int .u8 0, .int .u8 0, .int .u8 0, .int .u8 0, .int .u8 0, .int .u8 0]) := Blk.new w _ _
  have W0 : Hid (Below w.heap.size w (w.alloc (.cells #[.int .u8 0, .int .u8 0, .int .u8 0, .int .u8 0, .int .u8 0, .int .u8 0, .int .u8 0, .int .u8 0] 23))) := (Below.refl _ _).alloc (Nat.le_refl _) _
  have HP := hide (readX_len s)
  have HXYZ := hide hxyz
  have HV : Hid (readX s = rdImp y) := hide (by unfold readX; rw [hxyz]; simp only; rw [if_neg (by rw [hx]; decide), if_pos hx])
  unfold wImport at hx
  subst hx
  clear hg hxyz 
  go_enter Tryz.func38, Tryz.ntmps38
  go_wp2_with fail
  refine (cut1_any _ s 58 (by omega)).mono ?_
  rintro e w1 ⟨rfl, hb1⟩
  rw [HXYZ.out]
  simp only
  have W1 := hide (below_step W0.out hb1 (Nat.le_refl _))
  have B1 := hide (B0.out.over hb1)
  clear hb1
  go_wp2_with fail
  refine (readImport_any w1 y hyl (HG.out.below W1.out)).mono ?_
  rintro e w2 ⟨rfl, hb2⟩
  rw [← HV.out]
  have W2 := hide (below_step W1.out hb2 (Nat.le_refl _))
  have B2 := hide (B1.out.over hb2)
  clear hb2
  go_wp2_with (refine wpList_store_ext rfl (.tmp 2) (.tmp 26) rfl w.heap.size rfl (bs := readX s) rfl HP.out B2.out rfl ?_; intro w3 hb3 hg3; have HB3 := hide hb3; have HG3 := hide hg3; clear hb3 hg3)
  refine ret_ext1 (p := 2) rfl rfl HB3.out HP.out rfl ?_
  exact ⟨rfl, W2.out.grown HG3.out W2.out.size (by simp)⟩

set_option maxRecDepth 20000 in
set_option maxHeartbeats 2000000 in
theorem comread_src (w : World) (s x y : List UInt8) (c : Bool) (hxyz : Lib.cut s [58] = (x, y, c)) (hs : s.length ≤ 140737488355328) (hyl : y.length ≤ 140737488355328) (hg : Glob w) (hx : x = wSource) :
    Calls Tryz.prog 38 #[.string ⟨s.toArray⟩] w fun e w' => e = .returned (.agg (rdC (readX s))) ∧ Below w.heap.size w w' := by
  have HG := hide hg
  have B0 : Hid (Blk (w.alloc (.cells #[.int .u8 0, .int .u8 0, .int .u8 0, .int .u8 0, .int .u8 0, .int .u8 0, .int .u8 0, .int .u8 0] 23)) w.heap.size 23 #[.int .u8 0, .int .u8 0, .int .u8 0, .int .u8 0, .int .u8 0, .int .u8 0, .int .u8 0, .int .u8 0]) := Blk.new w _ _
  have W0 : Hid (Below w.heap.size w (w.alloc (.cells #[.int .u8 0, .int .u8 0, .int .u8 0, .int .u8 0, .int .u8 0, .int .u8 0, .int .u8 0, .int .u8 0] 23))) := (Below.refl _ _).alloc (Nat.le_refl _) _
  have HP := hide (readX_len s)
  have HXYZ := hide hxyz
  obtain ⟨K, hK⟩ : ∃ K, numV 10 top32 y = K := ⟨_, rfl⟩
  obtain ⟨O, hO⟩ : ∃ O, numO 10 4294967295 y = O := ⟨_, rfl⟩
  have HK : Hid (numV 10 4294967295 y = K) := hide hK
  have HO := hide hO
  have HV : Hid (readX s = cmB 9 2 K 0) := hide (by unfold readX; rw [hxyz]; simp only; rw [if_neg (by rw [hx]; decide), if_neg (by rw [hx]; decide), if_pos hx, hK])
  unfold wSource at hx
  subst hx
  clear hg hxyz hK hO
  go_enter Tryz.func38, Tryz.ntmps38
  go_wp2_with fail
  refine (cut1_any _ s 58 (by omega)).mono ?_
  rintro e w1 ⟨rfl, hb1⟩
  rw [HXYZ.out]
  simp only
  have W1 := hide (below_step W0.out hb1 (Nat.le_refl _))
  have B1 := hide (B0.out.over hb1)
  clear hb1
  go_wp2_with fail
  refine (number_wide _ y (by omega) 10 4294967295 (by decide) (by decide)).mono ?_
  rintro e w2 ⟨rfl, hb2⟩
  rw [HK.out, HO.out]
  have W2 := hide (below_step W1.out hb2 (Nat.le_refl _))
  have B2 := hide (B1.out.over hb2)
  clear hb2
  go_wp2_with fail
  refine (source_any w2 K).mono ?_
  rintro e w3 ⟨rfl, hb3⟩
  rw [← HV.out]
  have W3 := hide (below_step W2.out hb3 (Nat.le_refl _))
  have B3 := hide (B2.out.over hb3)
  clear hb3
  go_wp2_with (first
    | (refine wpList_store_ext rfl (.tmp 8) (.tmp 37) rfl w3.heap.size rfl (bs := readX s) rfl HP.out (Blk.new w3 _ _) rfl ?_; intro w4 hb4 hg4; have HB4 := hide hb4; have B4 := hide (B3.out.stays _ hg4 (Nat.le_refl _)); have W4 := hide (below_made W3.out (Nat.le_refl _) _ hg4 (Nat.le_refl _)); clear hb4 hg4)
    | (with_reducible refine wpList_load_ext rfl (.tmp 8) rfl w3.heap.size rfl HB4.out HP.out ?_)
    | (refine wpList_store_ext rfl (.tmp 2) (.tmp 39) rfl w.heap.size rfl (bs := readX s) rfl HP.out B4.out rfl ?_; intro w5 hb5 hg5; have HB5 := hide hb5; have HG5 := hide hg5; clear hb5 hg5))
  refine ret_ext1 (p := 2) rfl rfl HB5.out HP.out rfl ?_
  exact ⟨rfl, W4.out.grown HG5.out W4.out.size (by simp)⟩

set_option maxRecDepth 20000 in
set_option maxHeartbeats 2000000 in
theorem comread_oth (w : World) (s x y : List UInt8) (c : Bool) (hxyz : Lib.cut s [58] = (x, y, c)) (hs : s.length ≤ 140737488355328) (hyl : y.length ≤ 140737488355328) (hg : Glob w) (h1 : x ≠ wTarget) (h2 : x ≠ wImport) (h3 : x ≠ wSource) :
    Calls Tryz.prog 38 #[.string ⟨s.toArray⟩] w fun e w' => e = .returned (.agg (rdC (readX s))) ∧ Below w.heap.size w w' := by
  have HG := hide hg
  have B0 : Hid (Blk (w.alloc (.cells #[.int .u8 0, .int .u8 0, .int .u8 0, .int .u8 0, .int .u8 0, .int .u8 0, .int .u8 0, .int .u8 0] 23)) w.heap.size 23 #[.int .u8 0, .int .u8 0, .int .u8 0, .int .u8 0, .int .u8 0, .int .u8 0, .int .u8 0, .int .u8 0]) := Blk.new w _ _
  have W0 : Hid (Below w.heap.size w (w.alloc (.cells #[.int .u8 0, .int .u8 0, .int .u8 0, .int .u8 0, .int .u8 0, .int .u8 0, .int .u8 0, .int .u8 0] 23))) := (Below.refl _ _).alloc (Nat.le_refl _) _
  have HP := hide (readX_len s)
  have HXYZ := hide hxyz
  have HV : Hid (readX s = pad8 (hexB y)) := hide (by unfold readX; rw [hxyz]; simp only; rw [if_neg h1, if_neg h2, if_neg h3])
  unfold wTarget at h1
  unfold wImport at h2
  unfold wSource at h3
  have n1 : (x == [114, 116]) = false := by simpa using h1
  have n2 : (x == [105, 109, 112, 111, 114, 116]) = false := by simpa using h2
  have n3 : (x == [115, 111, 117, 114, 99, 101]) = false := by simpa using h3
  clear hg hxyz h1 h2 h3
  go_enter Tryz.func38, Tryz.ntmps38
  go_wp2_with fail
  refine (cut1_any _ s 58 (by omega)).mono ?_
  rintro e w1 ⟨rfl, hb1⟩
  rw [HXYZ.out]
  simp only
  have W1 := hide (below_step W0.out hb1 (Nat.le_refl _))
  have B1 := hide (B0.out.over hb1)
  clear hb1
  go_wp2_with fail
  refine (hexBytes_any w1 ⟨y.toArray⟩ (by show y.toArray.size ≤ _; simpa using hyl)).mono ?_
  rintro e w2 ⟨A2, c2, ok, rfl, hat2, hb2⟩
  have HA2 := hide hat2
  have W2 := hide (below_step W1.out hb2 (Nat.le_refl _))
  have B2 := hide (B1.out.over hb2)
  clear hb2 hat2
  go_wp2_with fail
  refine (comOfBytes_any w2 _ _ A2 _ c2 _ HA2.out (Nat.le_refl _)).mono ?_
  rintro e w3 ⟨rfl, hb3⟩
  have W3 := hide (below_step W2.out hb3 (Nat.le_refl _))
  have B3 := hide (B2.out.over hb3)
  clear hb3
  have HV2 : Hid (pad8 (hexB (⟨y.toArray⟩ : ByteArray).data.toList) = readX s) := hide (by rw [HV.out])
  rw [HV2.out]
  go_wp2_with (refine wpList_store_ext rfl (.tmp 2) (.tmp 46) rfl w.heap.size rfl (bs := readX s) rfl HP.out B3.out rfl ?_; intro w4 hb4 hg4; have HB4 := hide hb4; have HG4 := hide hg4; clear hb4 hg4)
  refine ret_ext1 (p := 2) rfl rfl HB4.out HP.out rfl ?_
  exact ⟨rfl, W3.out.grown HG4.out W3.out.size (by simp)⟩

theorem comread_any (w : World) (s : List UInt8) (hs : s.length ≤ 140737488355328) (hg : Glob w) :
    Calls Tryz.prog 38 #[.string ⟨s.toArray⟩] w fun e w' => e = .returned (.agg (rdC (readX s))) ∧ Below w.heap.size w w' := by
  obtain ⟨x, y, c, hxyz⟩ : ∃ x y c, Lib.cut s [58] = (x, y, c) := ⟨_, _, _, rfl⟩
  have hcl := cut_len s [58]
  rw [hxyz] at hcl
  have hyl : y.length ≤ 140737488355328 := Nat.le_trans hcl.2 hs
  by_cases h1 : x = wTarget
  · exact comread_tgt w s x y c hxyz hs hyl hg h1
  by_cases h2 : x = wImport
  · exact comread_imp w s x y c hxyz hs hyl hg h2
  by_cases h3 : x = wSource
  · exact comread_src w s x y c hxyz hs hyl hg h3
  · exact comread_oth w s x y c hxyz hs hyl hg h1 h2 h3

set_option maxRecDepth 20000 in
set_option maxHeartbeats 2000000 in
theorem comparse_any (w : World) (s : List UInt8) (hs : s.length ≤ 140737488355328) (hg : Glob w) :
    Calls Tryz.prog 11 #[.string ⟨s.toArray⟩] w fun e w' => e = .returned (.tuple #[.agg (rdC (parseX s).1), .int .i64 (parseX s).2]) ∧ Below w.heap.size w w' := by
  have HG := hide hg
  have HZ := hide rdC_zero
  have B0 : Hid (Blk (w.alloc (.cells #[.int .u8 0, .int .u8 0, .int .u8 0, .int .u8 0, .int .u8 0, .int .u8 0, .int .u8 0, .int .u8 0] 23)) w.heap.size 23 #[.int .u8 0, .int .u8 0, .int .u8 0, .int .u8 0, .int .u8 0, .int .u8 0, .int .u8 0, .int .u8 0]) := Blk.new w _ _
  have W0 : Hid (Below w.heap.size w (w.alloc (.cells #[.int .u8 0, .int .u8 0, .int .u8 0, .int .u8 0, .int .u8 0, .int .u8 0, .int .u8 0, .int .u8 0] 23))) := (Below.refl _ _).alloc (Nat.le_refl _) _
  obtain ⟨d, hd⟩ : ∃ d, readX s = d := ⟨_, rfl⟩
  have hdl := readX_len s
  rw [hd] at hdl
  have HDL := hide hdl
  have HD := hide hd
  by_cases ht : textX d = s
  case' pos =>
    have HV : Hid (parseX s = (d, 0)) := hide (by unfold parseX; rw [hd, if_pos ht])
    have HT : Hid (textX d = s) := ht
  case' neg =>
    have HV : Hid (parseX s = (zero8, 4)) := hide (by unfold parseX; rw [hd, if_neg ht])
    have hbe : (textX d == s) = false := by simpa using ht
  all_goals
    clear hg hd hdl ht
    go_enter Tryz.func11, Tryz.ntmps11
    go_wp2_with fail
    refine (comread_any _ s hs (HG.out.below W0.out)).mono ?_
    rintro e w1 ⟨rfl, hb1⟩
    rw [HD.out]
    have W1 := hide (below_step W0.out hb1 (Nat.le_refl _))
    have B1 := hide (B0.out.over hb1)
    clear hb1
    go_wp2_with (first
      | (refine wpList_store_ext rfl (.tmp 4) (.tmp 6) rfl w1.heap.size rfl (bs := d) rfl HDL.out (Blk.new w1 _ _) rfl ?_; intro w2 hb2 hg2; have HB2 := hide hb2; have B2 := hide (B1.out.stays _ hg2 (Nat.le_refl _)); have W2 := hide (below_made W1.out (Nat.le_refl _) _ hg2 (Nat.le_refl _)); clear hb2 hg2)
      | (with_reducible refine wpList_load_ext rfl (.tmp 4) rfl w1.heap.size rfl HB2.out HDL.out ?_))
    refine (comtext_any w2 d HDL.out (HG.out.below W2.out)).mono ?_
    rintro e w3 ⟨rfl, hb3⟩
    (try rw [HT.out])
    have W3 := hide (below_step W2.out hb3 (Nat.le_refl _))
    have B3 := hide (B2.out.over hb3)
    have HB3 := hide (HB2.out.over hb3)
    clear hb3
    go_wp2_with (first
      | (with_reducible refine wpList_load_ext rfl (.tmp 4) rfl w1.heap.size rfl HB3.out HDL.out ?_)
      | (refine wpList_store_ext rfl (.tmp 2) (.tmp 12) rfl w.heap.size rfl (bs := d) rfl HDL.out B3.out rfl ?_; intro w4 hb4 hg4; have HB4 := hide hb4; have HG4 := hide hg4; clear hb4 hg4)
      | (refine wpList_store_ext rfl (.tmp 2) (.tmp 11) rfl w.heap.size rfl (bs := zero8) (congrArg Value.agg HZ.out).symm zero8_len B3.out rfl ?_; intro w4 hb4 hg4; have HB4 := hide hb4; have HG4 := hide hg4; clear hb4 hg4))
    rw [HV.out]
    first
      | (refine ret_ext2 (p := 2) (q := 3) (v := .int .i64 0) rfl rfl rfl HB4.out HDL.out rfl ?_; exact ⟨rfl, W3.out.grown HG4.out W3.out.size (by simp)⟩)
      | (refine ret_ext2 (p := 2) (q := 3) (v := .int .i64 4) rfl rfl rfl HB4.out zero8_len rfl ?_; exact ⟨rfl, W3.out.grown HG4.out W3.out.size (by simp)⟩)
end Go.Proofs.YtfpidnckmdiieaaGreatDoor
