/-
  Plain mathematics of rows of communities in bytes: eight at a time. Nothing here speaks of the program.
  What ofBytes, readTarget, readImport, read and Parse of package community do, in whatever memory. The one condition beyond sizes that fit memory: the library's tables hold what its text lays.
  What Bytes and Read of package community do, in whatever memory: rows of communities, eight bytes each. No condition beyond sizes that fit memory.
-/
import Derived.Test.YtfpidnckmdiieaaGreatDoorRows8
import Derived.Test.YtfpidnckmdiieaaGreatDoorRds
import Derived.Test.YtfpidnckmdiieaaGreatDoorComs
import Derived.Test.YtfpidnckmdiieaaGreatDoorSets
namespace Go.Proofs.YtfpidnckmdiieaaGreatDoor
set_option linter.unusedVariables false
set_option linter.unusedSimpArgs false

/-- eight bytes, filled up with 0 -/
def full8 (l : List UInt8) : B8 := ⟨pad8 l, pad8_len l⟩
/-- k times eight of some -/
def chunks : Nat → List UInt8 → List B8
  | 0, _ => []
  | k + 1, l => full8 (l.take 8) :: chunks k (l.drop 8)
theorem chunks_len : ∀ (k : Nat) (l : List UInt8), (chunks k l).length = k
  | 0, _ => rfl
  | k + 1, l => by simp [chunks, chunks_len k]
theorem chunks_succ : ∀ (k : Nat) (l : List UInt8), chunks (k + 1) l = chunks k l ++ [full8 ((l.drop (k * 8)).take 8)]
  | 0, l => by simp [chunks]
  | k + 1, l => by
    have h := chunks_succ k (l.drop 8)
    rw [List.drop_drop] at h
    have e : 8 + k * 8 = (k + 1) * 8 := by omega
    rw [e] at h
    show full8 (l.take 8) :: chunks (k + 1) (l.drop 8) = full8 (l.take 8) :: chunks k (l.drop 8) ++ _
    rw [h]; rfl
theorem full8_take {x : B8} {l : List UInt8} : full8 ((x.1 ++ l).take 8) = x := by
  apply Subtype.ext
  show pad8 ((x.1 ++ l).take 8) = x.1
  have h : (x.1 ++ l).take 8 = x.1 := by
    have := x.2
    rw [List.take_append_of_le_length (by omega), List.take_of_length_le (by omega)]
  rw [h, pad8_full x.2]
theorem chunks_flat : ∀ xs : List B8, chunks xs.length (flat8 xs) = xs
  | [] => rfl
  | x :: xs => by
    show full8 ((flat8 (x :: xs)).take 8) :: chunks xs.length ((flat8 (x :: xs)).drop 8) = x :: xs
    have e : flat8 (x :: xs) = x.1 ++ flat8 xs := rfl
    have d : (x.1 ++ flat8 xs).drop 8 = flat8 xs := by
      have := x.2
      rw [List.drop_append_of_le_length (by omega), List.drop_of_length_le (by omega)]; rfl
    rw [e, full8_take, d, chunks_flat xs]
/-- the row that bytes are, when they are eight each; what Read says -/
def rowL (l : List UInt8) : List B8 := if l.length % 8 = 0 then chunks (l.length / 8) l else []
def rowE (l : List UInt8) : Int := if l.length % 8 = 0 then 0 else 4
theorem rowL_flat (xs : List B8) : rowL (flat8 xs) = xs ∧ rowE (flat8 xs) = 0 := by
  have h := flat8_len xs
  unfold rowL rowE
  rw [h]
  have h0 : xs.length * 8 % 8 = 0 := by omega
  have h1 : xs.length * 8 / 8 = xs.length := by omega
  rw [if_pos h0, if_pos h0, h1, chunks_flat]
  exact ⟨rfl, rfl⟩
end Go.Proofs.YtfpidnckmdiieaaGreatDoor
namespace Go.Proofs.YtfpidnckmdiieaaGreatDoor
open Go.RowKit
set_option linter.unusedVariables false
set_option linter.unusedSimpArgs false

set_option maxRecDepth 20000 in
set_option maxHeartbeats 1000000 in
theorem comOfBytes_any (w : World) (lo hi : Nat) (A : Option Addr) (n c : Nat) (xs : List UInt8) (h : At w lo hi A n xs) (hh : hi ≤ w.heap.size) :
    Calls Tryz.prog 57 #[.slice A n c] w fun e w' => e = .returned (.agg (rdC (pad8 xs))) ∧ Below w.heap.size w w' := by
  have HZ := hide rdC_zero
  have H2 := hide ((h.alloc hh (.cells #[.int .u8 0, .int .u8 0, .int .u8 0, .int .u8 0, .int .u8 0, .int .u8 0, .int .u8 0, .int .u8 0] 23)).alloc (by simp; omega) (.cells #[.int .u8 0, .int .u8 0, .int .u8 0, .int .u8 0, .int .u8 0, .int .u8 0, .int .u8 0, .int .u8 0] 23))
  have HP := hide (pad8_len xs)
  clear h
  go_enter Tryz.func57, Tryz.ntmps57
  go_wp2_with (first
    | (with_reducible refine wpList_copy_ext rfl (.tmp 4) (.tmp 5) rfl (w.heap.size + 1) n c lo hi A xs _ (by rw [HZ.out]; exact blk_new2 w _ _ _) H2.out rfl rfl ?_; intro w3 hb3 hg3; have HB3 := hide hb3; have HG3 := hide hg3; clear hb3 hg3; have HZ3 := hide (((Blk.new w _ _).alloc _).grown HG3.out (by simp)))
    | (with_reducible refine wpList_load_ext rfl (.tmp 3) rfl (w.heap.size + 1) rfl HB3.out HP.out ?_)
    | (refine wpList_store_ext rfl (.tmp 2) (.tmp 7) rfl w.heap.size rfl (bs := pad8 xs) rfl HP.out HZ3.out rfl ?_; intro w4 hb4 hg4; have HB4 := hide hb4; have HG4 := hide hg4; clear hb4 hg4))
  refine ret_ext1 (p := 2) rfl rfl HB4.out HP.out rfl ?_
  refine ⟨rfl, ?_⟩
  have k2 := ((Below.refl w.heap.size w).alloc (Nat.le_refl _) (.cells #[.int .u8 0, .int .u8 0, .int .u8 0, .int .u8 0, .int .u8 0, .int .u8 0, .int .u8 0, .int .u8 0] 23)).alloc (by simp) (.cells #[.int .u8 0, .int .u8 0, .int .u8 0, .int .u8 0, .int .u8 0, .int .u8 0, .int .u8 0, .int .u8 0] 23)
  have k3 := k2.grown HG3.out k2.size (by simp)
  exact k3.grown HG4.out k3.size (by simp)

set_option maxRecDepth 20000 in
set_option maxHeartbeats 2000000 in
theorem readTarget_any (w : World) (s : List UInt8) (hs : s.length ≤ 140737488355328) (hg : Glob w) :
    Calls Tryz.prog 68 #[.string ⟨s.toArray⟩] w fun e w' => e = .returned (.agg (rdC (rdTgt s))) ∧ Below w.heap.size w w' := by
  have HG := hide hg
  have B0 : Hid (Blk (w.alloc (.cells #[.int .u8 0, .int .u8 0, .int .u8 0, .int .u8 0, .int .u8 0, .int .u8 0, .int .u8 0, .int .u8 0] 23)) w.heap.size 23 #[.int .u8 0, .int .u8 0, .int .u8 0, .int .u8 0, .int .u8 0, .int .u8 0, .int .u8 0, .int .u8 0]) := Blk.new w _ _
  have W0 : Hid (Below w.heap.size w (w.alloc (.cells #[.int .u8 0, .int .u8 0, .int .u8 0, .int .u8 0, .int .u8 0, .int .u8 0, .int .u8 0, .int .u8 0] 23))) := (Below.refl _ _).alloc (Nat.le_refl _) _
  obtain ⟨D, E, hd⟩ : ∃ D E, parseR s = (D, E) := ⟨_, _, rfl⟩
  have hdl := parseR_len s
  rw [hd] at hdl
  have HDL := hide hdl
  have HD := hide hd
  obtain ⟨K, hK⟩ : ∃ K, ptK D = K := ⟨_, rfl⟩
  obtain ⟨H, hH⟩ : ∃ H, ptH D = H := ⟨_, rfl⟩
  obtain ⟨L, hL⟩ : ∃ L, ptL D = L := ⟨_, rfl⟩
  obtain ⟨O, hO⟩ : ∃ O, knownR D = O := ⟨_, rfl⟩
  have HV : Hid (rdTgt s = cmB 2 K H L) := hide (by unfold rdTgt; rw [hd]; simp only; rw [hK, hH, hL])
  have HK := hide hK
  have HH := hide hH
  have HLL := hide hL
  have HO := hide hO
  have HP := hide (cmB_len 2 K H L)
  clear hg hd hdl hK hH hL hO
  go_enter Tryz.func68, Tryz.ntmps68
  go_wp2_with fail
  refine (rdparse_any _ s hs (HG.out.below W0.out)).mono ?_
  rintro e w1 ⟨rfl, hb1⟩
  rw [HD.out]
  simp only
  have W1 := hide (below_step W0.out hb1 (Nat.le_refl _))
  have B1 := hide (B0.out.over hb1)
  clear hb1
  go_wp2_with (first
    | (refine wpList_store_rd rfl (.tmp 3) (.tmp 14) rfl w1.heap.size rfl (bs := D) rfl HDL.out (Blk.new w1 _ _) rfl ?_; intro w2 hb2 hg2; have HB2 := hide hb2; have B2 := hide (B1.out.stays _ hg2 (Nat.le_refl _)); have W2 := hide (below_made W1.out (Nat.le_refl _) _ hg2 (Nat.le_refl _)); clear hb2 hg2)
    | (with_reducible refine wpList_load_rd rfl (.tmp 3) rfl w1.heap.size rfl HB2.out HDL.out ?_))
  refine (parts_any w2 D HDL.out).mono ?_
  rintro e w3 ⟨rfl, hb3⟩
  rw [HK.out, HH.out, HLL.out, HO.out]
  have W3 := hide (below_step W2.out hb3 (Nat.le_refl _))
  have B3 := hide (B2.out.over hb3)
  clear hb3
  go_wp2_with fail
  refine (target_any w3 K H L).mono ?_
  rintro e w4 ⟨rfl, hb4⟩
  have W4 := hide (below_step W3.out hb4 (Nat.le_refl _))
  have B4 := hide (B3.out.over hb4)
  clear hb4
  go_wp2_with (first
    | (refine wpList_store_ext rfl (.tmp 9) (.tmp 28) rfl w4.heap.size rfl (bs := cmB 2 K H L) rfl HP.out (Blk.new w4 _ _) rfl ?_; intro w5 hb5 hg5; have HB5 := hide hb5; have B5 := hide (B4.out.stays _ hg5 (Nat.le_refl _)); have W5 := hide (below_made W4.out (Nat.le_refl _) _ hg5 (Nat.le_refl _)); clear hb5 hg5)
    | (with_reducible refine wpList_load_ext rfl (.tmp 9) rfl w4.heap.size rfl HB5.out HP.out ?_)
    | (refine wpList_store_ext rfl (.tmp 2) (.tmp 30) rfl w.heap.size rfl (bs := cmB 2 K H L) rfl HP.out B5.out rfl ?_; intro w6 hb6 hg6; have HB6 := hide hb6; have HG6 := hide hg6; clear hb6 hg6))
  refine ret_ext1 (p := 2) rfl rfl HB6.out HP.out rfl ?_
  exact ⟨by rw [HV.out], W5.out.grown HG6.out W5.out.size (by simp)⟩

set_option maxRecDepth 20000 in
set_option maxHeartbeats 3000000 in
theorem readImport_any (w : World) (s : List UInt8) (hs : s.length ≤ 140737488355328) (hg : Glob w) :
    Calls Tryz.prog 69 #[.string ⟨s.toArray⟩] w fun e w' => e = .returned (.agg (rdC (rdImp s))) ∧ Below w.heap.size w w' := by
  have HG := hide hg
  have B0 : Hid (Blk (w.alloc (.cells #[.int .u8 0, .int .u8 0, .int .u8 0, .int .u8 0, .int .u8 0, .int .u8 0, .int .u8 0, .int .u8 0] 23)) w.heap.size 23 #[.int .u8 0, .int .u8 0, .int .u8 0, .int .u8 0, .int .u8 0, .int .u8 0, .int .u8 0, .int .u8 0]) := Blk.new w _ _
  have W0 : Hid (Below w.heap.size w (w.alloc (.cells #[.int .u8 0, .int .u8 0, .int .u8 0, .int .u8 0, .int .u8 0, .int .u8 0, .int .u8 0, .int .u8 0] 23))) := (Below.refl _ _).alloc (Nat.le_refl _) _
  obtain ⟨x, y, c, hxyz⟩ : ∃ x y c, Lib.cut s [58] = (x, y, c) := ⟨_, _, _, rfl⟩
  have hcl := cut_len s [58]
  rw [hxyz] at hcl
  have hna := cut_head_no s 58
  rw [hxyz] at hna
  have HNA : Hid ((58 : UInt8) ∉ x) := hna
  have hxl : x.length ≤ 140737488355328 := Nat.le_trans hcl.1 hs
  have hyl : y.length ≤ 140737488355328 := Nat.le_trans hcl.2 hs
  have HXYZ := hide hxyz
  obtain ⟨z, bs, er, hr⟩ : ∃ z bs er, parseA x = (z, bs, er) := ⟨_, _, _, rfl⟩
  have hl := parseA_len x
  rw [hr] at hl
  have HL := hide hl
  have HR := hide hr
  obtain ⟨K, hK⟩ : ∃ K, numV 10 top32 y = K := ⟨_, rfl⟩
  obtain ⟨O, hO⟩ : ∃ O, numO 10 4294967295 y = O := ⟨_, rfl⟩
  have HV : Hid (rdImp s = impB z bs K) := hide (by unfold rdImp; rw [hxyz]; simp only; rw [hr, hK])
  have HK : Hid (numV 10 4294967295 y = K) := hide hK
  have HO := hide hO
  have HP := hide (impB_len z bs K)
  clear hg hcl hxyz hna hr hl hK hO
  go_enter Tryz.func69, Tryz.ntmps69
  go_wp2_with fail
  refine (cut1_any _ s 58 (by omega)).mono ?_
  rintro e w1 ⟨rfl, hb1⟩
  rw [HXYZ.out]
  simp only
  have W1 := hide (below_step W0.out hb1 (Nat.le_refl _))
  have B1 := hide (B0.out.over hb1)
  clear hb1
  go_wp2_with fail
  refine (parse1_any _ x hxl HNA.out (HG.out.below W1.out)).mono ?_
  rintro e w2 ⟨rfl, hb2⟩
  rw [HR.out]
  simp only
  have W2 := hide (below_step W1.out hb2 (Nat.le_refl _))
  have B2 := hide (B1.out.over hb2)
  clear hb2
  go_wp2_with (first
    | (refine wpList_store_addr rfl (.tmp 6) (.tmp 21) rfl w2.heap.size rfl rfl HL.out (Blk.new w2 _ _) rfl ?_; intro w3 hb3 hg3; have HB3 := hide hb3; have B3 := hide (B2.out.stays _ hg3 (Nat.le_refl _)); have W3 := hide (below_made W2.out (Nat.le_refl _) _ hg3 (Nat.le_refl _)); clear hb3 hg3))
  refine (number_wide _ y (by omega) 10 4294967295 (by decide) (by decide)).mono ?_
  rintro e w4 ⟨rfl, hb4⟩
  rw [HK.out, HO.out]
  have W4 := hide (below_step W3.out hb4 (Nat.le_refl _))
  have B4 := hide (B3.out.over hb4)
  have HB4 := hide (HB3.out.over hb4)
  clear hb4
  go_wp2_with (with_reducible refine wpList_load_addr rfl (.tmp 6) rfl w2.heap.size rfl HB4.out HL.out ?_)
  refine (import_any w4 z bs HL.out K).mono ?_
  rintro e w5 ⟨rfl, hb5⟩
  have W5 := hide (below_step W4.out hb5 (Nat.le_refl _))
  have B5 := hide (B4.out.over hb5)
  clear hb5
  go_wp2_with (first
    | (refine wpList_store_ext rfl (.tmp 10) (.tmp 32) rfl w5.heap.size rfl (bs := impB z bs K) rfl HP.out (Blk.new w5 _ _) rfl ?_; intro w6 hb6 hg6; have HB6 := hide hb6; have B6 := hide (B5.out.stays _ hg6 (Nat.le_refl _)); have W6 := hide (below_made W5.out (Nat.le_refl _) _ hg6 (Nat.le_refl _)); clear hb6 hg6)
    | (with_reducible refine wpList_load_ext rfl (.tmp 10) rfl w5.heap.size rfl HB6.out HP.out ?_)
    | (refine wpList_store_ext rfl (.tmp 2) (.tmp 34) rfl w.heap.size rfl (bs := impB z bs K) rfl HP.out B6.out rfl ?_; intro w7 hb7 hg7; have HB7 := hide hb7; have HG7 := hide hg7; clear hb7 hg7))
  refine ret_ext1 (p := 2) rfl rfl HB7.out HP.out rfl ?_
  exact ⟨by rw [HV.out], W6.out.grown HG7.out W6.out.size (by simp)⟩

set_option maxRecDepth 20000 in
set_option maxHeartbeats 2000000 in
theorem comread_tgt (w : World) (s x y : List UInt8) (c : Bool) (hxyz : Lib.cut s [58] = (x, y, c)) (hs : s.length ≤ 140737488355328) (hyl : y.length ≤ 140737488355328) (hg : Glob w) (hx : x = wTarget) :
    Calls Tryz.prog 38 #[.string ⟨s.toArray⟩] w fun e w' => e = .returned (.agg (rdC (readX s))) ∧ Below w.heap.size w w' := by
  have HG := hide hg
  have B0 : Hid (Blk (w.alloc (.cells #[.int .u8 0, .int .u8 0, .int .u8 0, .int .u8 0, .int .u8 0, .int .u8 0, .int .u8 0, .int .u8 0] 23)) w.heap.size 23 #[.int .u8 0, .int .u8 0, .int .u8 0, .int .u8 0, .int .u8 0, .int .u8 0, .int .u8 0, .int .u8 0]) := Blk.new w _ _
  have W0 : Hid (Below w.heap.size w (w.alloc (.cells #[.int .u8 0, .int .u8 0, .int .u8 0, .int .u8 0, .int .u8 0, .int .u8 0, .int .u8 0, .int .u8 0] 23))) := (Below.refl _ _).alloc (Nat.le_refl _) _
  have HP := hide (readX_len s)
  have HXYZ := hide hxyz
  have HV : Hid (readX s = rdTgt y) := hide (by unfold readX; rw [hxyz]; simp only; rw [if_pos hx])
  unfold wTarget at hx
  subst hx
  clear hg hxyz 
  go_enter Tryz.func38, Tryz.ntmps38
  go_wp2_with fail
  refine (cut1_any _ s 58 (by omega)).mono ?_
  rintro e w1 ⟨rfl, hb1⟩
  rw [HXYZ.out]
  simp only
  have W1 := hide (below_step W0.out hb1 (Nat.le_refl _))
  have B1 := hide (B0.out.over hb1)
  clear hb1
  go_wp2_with fail
  refine (readTarget_any w1 y hyl (HG.out.below W1.out)).mono ?_
  rintro e w2 ⟨rfl, hb2⟩
  rw [← HV.out]
  have W2 := hide (below_step W1.out hb2 (Nat.le_refl _))
  have B2 := hide (B1.out.over hb2)
  clear hb2
  go_wp2_with (refine wpList_store_ext rfl (.tmp 2) (.tmp 22) rfl w.heap.size rfl (bs := readX s) rfl HP.out B2.out rfl ?_; intro w3 hb3 hg3; have HB3 := hide hb3; have HG3 := hide hg3; clear hb3 hg3)
  refine ret_ext1 (p := 2) rfl rfl HB3.out HP.out rfl ?_
  exact ⟨rfl, W2.out.grown HG3.out W2.out.size (by simp)⟩

set_option maxRecDepth 20000 in
set_option maxHeartbeats 2000000 in
theorem comread_imp (w : World) (s x y : List UInt8) (c : Bool) (hxyz : Lib.cut s [58] = (x, y, c)) (hs : s.length ≤ 140737488355328) (hyl : y.length ≤ 140737488355328) (hg : Glob w) (hx : x = wImport) :
    Calls Tryz.prog 38 #[.string ⟨s.toArray⟩] w fun e w' => e = .returned (.agg (rdC (readX s))) ∧ Below w.heap.size w w' := by
  have HG := hide hg
  have B0 : Hid (Blk (w.alloc (.cells #[.int .u8 0, .int .u8 0, .int .u8 0, .int .u8 0, .int .u8 0, .int .u8 0, .int .u8 0, .int .u8 0] 23)) w.heap.size 23 #[.int .u8 0, .int .u8 0, .int .u8 0, .int .u8 0, .int .u8 0, .int .u8 0, .int .u8 0, .int .u8 0]) := Blk.new w _ _
  have W0 : Hid (Below w.heap.size w (w.alloc (.cells #[.int .u8 0, .int .u8 0, .int .u8 0, .int .u8 0, .int .u8 0, .int .u8 0, .int .u8 0, .int .u8 0] 23))) := (Below.refl _ _).alloc (Nat.le_refl _) _
  have HP := hide (readX_len s)
  have HXYZ := hide hxyz
  have HV : Hid (readX s = rdImp y) := hide (by unfold readX; rw [hxyz]; simp only; rw [if_neg (by rw [hx]; decide), if_pos hx])
  unfold wImport at hx
  subst hx
  clear hg hxyz 
  go_enter Tryz.func38, Tryz.ntmps38
  go_wp2_with fail
  refine (cut1_any _ s 58 (by omega)).mono ?_
  rintro e w1 ⟨rfl, hb1⟩
  rw [HXYZ.out]
  simp only
  have W1 := hide (below_step W0.out hb1 (Nat.le_refl _))
  have B1 := hide (B0.out.over hb1)
  clear hb1
  go_wp2_with fail
  refine (readImport_any w1 y hyl (HG.out.below W1.out)).mono ?_
  rintro e w2 ⟨rfl, hb2⟩
  rw [← HV.out]
  have W2 := hide (below_step W1.out hb2 (Nat.le_refl _))
  have B2 := hide (B1.out.over hb2)
  clear hb2
  go_wp2_with (refine wpList_store_ext rfl (.tmp 2) (.tmp 26) rfl w.heap.size rfl (bs := readX s) rfl HP.out B2.out rfl ?_; intro w3 hb3 hg3; have HB3 := hide hb3; have HG3 := hide hg3; clear hb3 hg3)
  refine ret_ext1 (p := 2) rfl rfl HB3.out HP.out rfl ?_
  exact ⟨rfl, W2.out.grown HG3.out W2.out.size (by simp)⟩

set_option maxRecDepth 20000 in
set_option maxHeartbeats 2000000 in
theorem comread_src (w : World) (s x y : List UInt8) (c : Bool) (hxyz : Lib.cut s [58] = (x, y, c)) (hs : s.length ≤ 140737488355328) (hyl : y.length ≤ 140737488355328) (hg : Glob w) (hx : x = wSource) :
    Calls Tryz.prog 38 #[.string ⟨s.toArray⟩] w fun e w' => e = .returned (.agg (rdC (readX s))) ∧ Below w.heap.size w w' := by
  have HG := hide hg
  have B0 : Hid (Blk (w.alloc (.cells #[.int .u8 0, .int .u8 0, .int .u8 0, .int .u8 0, .int .u8 0, .int .u8 0, .int .u8 0, .int .u8 0] 23)) w.heap.size 23 #[.int .u8 0, .int .u8 0, .int .u8 0, .int .u8 0, .int .u8 0, .int .u8 0, .int .u8 0, .int .u8 0]) := Blk.new w _ _
  have W0 : Hid (Below w.heap.size w (w.alloc (.cells #[.int .u8 0, .int .u8 0, .int .u8 0, .int .u8 0, .int .u8 0, .int .u8 0, .int .u8 0, .int .u8 0] 23))) := (Below.refl _ _).alloc (Nat.le_refl _) _
  have HP := hide (readX_len s)
  have HXYZ := hide hxyz
  obtain ⟨K, hK⟩ : ∃ K, numV 10 top32 y = K := ⟨_, rfl⟩
  obtain ⟨O, hO⟩ : ∃ O, numO 10 4294967295 y = O := ⟨_, rfl⟩
  have HK : Hid (numV 10 4294967295 y = K) := hide hK
  have HO := hide hO
  have HV : Hid (readX s = cmB 9 2 K 0) := hide (by unfold readX; rw [hxyz]; simp only; rw [if_neg (by rw [hx]; decide), if_neg (by rw [hx]; decide), if_pos hx, hK])
  unfold wSource at hx
  subst hx
  clear hg hxyz hK hO
  go_enter Tryz.func38, Tryz.ntmps38
  go_wp2_with fail
  refine (cut1_any _ s 58 (by omega)).mono ?_
  rintro e w1 ⟨rfl, hb1⟩
  rw [HXYZ.out]
  simp only
  have W1 := hide (below_step W0.out hb1 (Nat.le_refl _))
  have B1 := hide (B0.out.over hb1)
  clear hb1
  go_wp2_with fail
  refine (number_wide _ y (by omega) 10 4294967295 (by decide) (by decide)).mono ?_
  rintro e w2 ⟨rfl, hb2⟩
  rw [HK.out, HO.out]
  have W2 := hide (below_step W1.out hb2 (Nat.le_refl _))
  have B2 := hide (B1.out.over hb2)
  clear hb2
  go_wp2_with fail
  refine (source_any w2 K).mono ?_
  rintro e w3 ⟨rfl, hb3⟩
  rw [← HV.out]
  have W3 := hide (below_step W2.out hb3 (Nat.le_refl _))
  have B3 := hide (B2.out.over hb3)
  clear hb3
  go_wp2_with (first
    | (refine wpList_store_ext rfl (.tmp 8) (.tmp 37) rfl w3.heap.size rfl (bs := readX s) rfl HP.out (Blk.new w3 _ _) rfl ?_; intro w4 hb4 hg4; have HB4 := hide hb4; have B4 := hide (B3.out.stays _ hg4 (Nat.le_refl _)); have W4 := hide (below_made W3.out (Nat.le_refl _) _ hg4 (Nat.le_refl _)); clear hb4 hg4)
    | (with_reducible refine wpList_load_ext rfl (.tmp 8) rfl w3.heap.size rfl HB4.out HP.out ?_)
    | (refine wpList_store_ext rfl (.tmp 2) (.tmp 39) rfl w.heap.size rfl (bs := readX s) rfl HP.out B4.out rfl ?_; intro w5 hb5 hg5; have HB5 := hide hb5; have HG5 := hide hg5; clear hb5 hg5))
  refine ret_ext1 (p := 2) rfl rfl HB5.out HP.out rfl ?_
  exact ⟨rfl, W4.out.grown HG5.out W4.out.size (by simp)⟩

set_option maxRecDepth 20000 in
set_option maxHeartbeats 2000000 in
theorem comread_oth (w : World) (s x y : List UInt8) (c : Bool) (hxyz : Lib.cut s [58] = (x, y, c)) (hs : s.length ≤ 140737488355328) (hyl : y.length ≤ 140737488355328) (hg : Glob w) (h1 : x ≠ wTarget) (h2 : x ≠ wImport) (h3 : x ≠ wSource) :
    Calls Tryz.prog 38 #[.string ⟨s.toArray⟩] w fun e w' => e = .returned (.agg (rdC (readX s))) ∧ Below w.heap.size w w' := by
  have HG := hide hg
  have B0 : Hid (Blk (w.alloc (.cells #[.int .u8 0, .int .u8 0, .int .u8 0, .int .u8 0, .int .u8 0, .int .u8 0, .int .u8 0, .int .u8 0] 23)) w.heap.size 23 #[.int .u8 0, .int .u8 0, .int .u8 0, .int .u8 0, .int .u8 0, .int .u8 0, .int .u8 0, .int .u8 0]) := Blk.new w _ _
  have W0 : Hid (Below w.heap.size w (w.alloc (.cells #[.int .u8 0, .int .u8 0, .int .u8 0, .int .u8 0, .int .u8 0, .int .u8 0, .int .u8 0, .int .u8 0] 23))) := (Below.refl _ _).alloc (Nat.le_refl _) _
  have HP := hide (readX_len s)
  have HXYZ := hide hxyz
  have HV : Hid (readX s = pad8 (hexB y)) := hide (by unfold readX; rw [hxyz]; simp only; rw [if_neg h1, if_neg h2, if_neg h3])
  unfold wTarget at h1
  unfold wImport at h2
  unfold wSource at h3
  have n1 : (x == [114, 116]) = false := by simpa using h1
  have n2 : (x == [105, 109, 112, 111, 114, 116]) = false := by simpa using h2
  have n3 : (x == [115, 111, 117, 114, 99, 101]) = false := by simpa using h3
  clear hg hxyz h1 h2 h3
  go_enter Tryz.func38, Tryz.ntmps38
  go_wp2_with fail
  refine (cut1_any _ s 58 (by omega)).mono ?_
  rintro e w1 ⟨rfl, hb1⟩
  rw [HXYZ.out]
  simp only
  have W1 := hide (below_step W0.out hb1 (Nat.le_refl _))
  have B1 := hide (B0.out.over hb1)
  clear hb1
  go_wp2_with fail
  refine (hexBytes_any w1 ⟨y.toArray⟩ (by show y.toArray.size ≤ _; simpa using hyl)).mono ?_
  rintro e w2 ⟨A2, c2, ok, rfl, hat2, hb2⟩
  have HA2 := hide hat2
  have W2 := hide (below_step W1.out hb2 (Nat.le_refl _))
  have B2 := hide (B1.out.over hb2)
  clear hb2 hat2
  go_wp2_with fail
  refine (comOfBytes_any w2 _ _ A2 _ c2 _ HA2.out (Nat.le_refl _)).mono ?_
  rintro e w3 ⟨rfl, hb3⟩
  have W3 := hide (below_step W2.out hb3 (Nat.le_refl _))
  have B3 := hide (B2.out.over hb3)
  clear hb3
  have HV2 : Hid (pad8 (hexB (⟨y.toArray⟩ : ByteArray).data.toList) = readX s) := hide (by rw [HV.out])
  rw [HV2.out]
  go_wp2_with (refine wpList_store_ext rfl (.tmp 2) (.tmp 46) rfl w.heap.size rfl (bs := readX s) rfl HP.out B3.out rfl ?_; intro w4 hb4 hg4; have HB4 := hide hb4; have HG4 := hide hg4; clear hb4 hg4)
  refine ret_ext1 (p := 2) rfl rfl HB4.out HP.out rfl ?_
  exact ⟨rfl, W3.out.grown HG4.out W3.out.size (by simp)⟩

theorem comread_any (w : World) (s : List UInt8) (hs : s.length ≤ 140737488355328) (hg : Glob w) :
    Calls Tryz.prog 38 #[.string ⟨s.toArray⟩] w fun e w' => e = .returned (.agg (rdC (readX s))) ∧ Below w.heap.size w w' := by
  obtain ⟨x, y, c, hxyz⟩ : ∃ x y c, Lib.cut s [58] = (x, y, c) := ⟨_, _, _, rfl⟩
  have hcl := cut_len s [58]
  rw [hxyz] at hcl
  have hyl : y.length ≤ 140737488355328 := Nat.le_trans hcl.2 hs
  by_cases h1 : x = wTarget
  · exact comread_tgt w s x y c hxyz hs hyl hg h1
  by_cases h2 : x = wImport
  · exact comread_imp w s x y c hxyz hs hyl hg h2
  by_cases h3 : x = wSource
  · exact comread_src w s x y c hxyz hs hyl hg h3
  · exact comread_oth w s x y c hxyz hs hyl hg h1 h2 h3

set_option maxRecDepth 20000 in
set_option maxHeartbeats 2000000 in
theorem comparse_any (w : World) (s : List UInt8) (hs : s.length ≤ 140737488355328) (hg : Glob w) :
    Calls Tryz.prog 11 #[.string ⟨s.toArray⟩] w fun e w' => e = .returned (.tuple #[.agg (rdC (parseX s).1), .int .i64 (parseX s).2]) ∧ Below w.heap.size w w' := by
  have HG := hide hg
  have HZ := hide rdC_zero
  have B0 : Hid (Blk (w.alloc (.cells #[.int .u8 0, .int .u8 0, .int .u8 0, .int .u8 0, .int .u8 0, .int .u8 0, .int .u8 0, .int .u8 0] 23)) w.heap.size 23 #[.int .u8 0, .int .u8 0, .int .u8 0, .int .u8 0, .int .u8 0, .int .u8 0, .int .u8 0, .int .u8 0]) := Blk.new w _ _
  have W0 : Hid (Below w.heap.size w (w.alloc (.cells #[.int .u8 0, .int .u8 0, .int .u8 0, .int .u8 0, .int .u8 0, .int .u8 0, .int .u8 0, .int .u8 0] 23))) := (Below.refl _ _).alloc (Nat.le_refl _) _
  obtain ⟨d, hd⟩ : ∃ d, readX s = d := ⟨_, rfl⟩
  have hdl := readX_len s
  rw [hd] at hdl
  have HDL := hide hdl
  have HD := hide hd
  by_cases ht : textX d = s
  case' pos =>
    have HV : Hid (parseX s = (d, 0)) := hide (by unfold parseX; rw [hd, if_pos ht])
    have HT : Hid (textX d = s) := ht
  case' neg =>
    have HV : Hid (parseX s = (zero8, 4)) := hide (by unfold parseX; rw [hd, if_neg ht])
    have hbe : (textX d == s) = false := by simpa using ht
  all_goals
    clear hg hd hdl ht
    go_enter Tryz.func11, Tryz.ntmps11
    go_wp2_with fail
    refine (comread_any _ s hs (HG.out.below W0.out)).mono ?_
    rintro e w1 ⟨rfl, hb1⟩
    rw [HD.out]
    have W1 := hide (below_step W0.out hb1 (Nat.le_refl _))
    have B1 := hide (B0.out.over hb1)
    clear hb1
    go_wp2_with (first
      | (refine wpList_store_ext rfl (.tmp 4) (.tmp 6) rfl w1.heap.size rfl (bs := d) rfl HDL.out (Blk.new w1 _ _) rfl ?_; intro w2 hb2 hg2; have HB2 := hide hb2; have B2 := hide (B1.out.stays _ hg2 (Nat.le_refl _)); have W2 := hide (below_made W1.out (Nat.le_refl _) _ hg2 (Nat.le_refl _)); clear hb2 hg2)
      | (with_reducible refine wpList_load_ext rfl (.tmp 4) rfl w1.heap.size rfl HB2.out HDL.out ?_))
    refine (comtext_any w2 d HDL.out (HG.out.below W2.out)).mono ?_
    rintro e w3 ⟨rfl, hb3⟩
    (try rw [HT.out])
    have W3 := hide (below_step W2.out hb3 (Nat.le_refl _))
    have B3 := hide (B2.out.over hb3)
    have HB3 := hide (HB2.out.over hb3)
    clear hb3
    go_wp2_with (first
      | (with_reducible refine wpList_load_ext rfl (.tmp 4) rfl w1.heap.size rfl HB3.out HDL.out ?_)
      | (refine wpList_store_ext rfl (.tmp 2) (.tmp 12) rfl w.heap.size rfl (bs := d) rfl HDL.out B3.out rfl ?_; intro w4 hb4 hg4; have HB4 := hide hb4; have HG4 := hide hg4; clear hb4 hg4)
      | (refine wpList_store_ext rfl (.tmp 2) (.tmp 11) rfl w.heap.size rfl (bs := zero8) (congrArg Value.agg HZ.out).symm zero8_len B3.out rfl ?_; intro w4 hb4 hg4; have HB4 := hide hb4; have HG4 := hide hg4; clear hb4 hg4))
    rw [HV.out]
    first
      | (refine ret_ext2 (p := 2) (q := 3) (v := .int .i64 0) rfl rfl rfl HB4.out HDL.out rfl ?_; exact ⟨rfl, W3.out.grown HG4.out W3.out.size (by simp)⟩)
      | (refine ret_ext2 (p := 2) (q := 3) (v := .int .i64 4) rfl rfl rfl HB4.out zero8_len rfl ?_; exact ⟨rfl, W3.out.grown HG4.out W3.out.size (by simp)⟩)
end Go.Proofs.YtfpidnckmdiieaaGreatDoor
namespace Go.Proofs.YtfpidnckmdiieaaGreatDoor
open Go.RowKit
set_option linter.unusedVariables false
set_option linter.unusedSimpArgs false

theorem ownN_over {x y : World} {B n sz : Nat} {e : TypeId} {v : Value} {l : List Value} (h : x.ownsRow B e sz v n l) (hb : Below x.heap.size x y) : y.ownsRow B e sz v n l := by
  refine ⟨h.1, ?_⟩
  rcases h.2 with h | ⟨g, cap, cur, h1, h2, h3, h4⟩
  · exact .inl h
  · have hlt : g < x.heap.size := Blk.lt (t := e) (cs := cur) h3
    exact .inr ⟨g, cap, cur, h1, h2, (hb.block g hlt).trans h3, h4⟩
theorem ownN_row {x y : World} {B n sz : Nat} {e : TypeId} {v : Value} {l : List Value} {row : Option Nat} (h : x.ownsRow B e sz v n l) (hg : x.grownBy y row) (hne : v.ownBlock = none ∨ v.ownBlock ≠ row) : y.ownsRow B e sz v n l := by
  refine ⟨h.1, ?_⟩
  rcases h.2 with h | ⟨g, cap, cur, h1, h2, h3, h4⟩
  · exact .inl h
  · have hlt : g < x.heap.size := Blk.lt (t := e) (cs := cur) h3
    refine .inr ⟨g, cap, cur, h1, h2, (hg.block g hlt ?_).trans h3, h4⟩
    subst h1
    rcases hne with h | h
    · simp [Value.ownBlock] at h
    · intro he; exact h (by simp [Value.ownBlock, he])
theorem flat8_one (x : B8) : flat8 [x] = x.1 := by show x.1 ++ [] = x.1; simp
theorem flat8_next {xs : List B8} {k : Nat} {x : B8} (h : xs[k]? = some x) : flat8 (xs.take k) ++ x.1 = flat8 (xs.take (k + 1)) := by
  rw [List.take_add_one, h, flat8_append]
  show _ = _ ++ flat8 [x]
  rw [flat8_one]

set_option maxRecDepth 20000 in
set_option maxHeartbeats 2000000 in
theorem combytes_any (w : World) (lo hi : Nat) (A : Option Addr) (n c : Nat) (xs : List B8) (h : AtE w lo hi A n xs) (hh : hi ≤ w.heap.size) (hn : n * 8 ≤ 140737488355328) :
    Calls Tryz.prog 20 #[.slice A n c] w fun e w' => ∃ v, e = .returned v ∧ w'.ownsRow w.heap.size 5 1 v (n * 8) (bvs (flat8 xs)) ∧ Below w.heap.size w w' := by
  obtain ⟨i0, hi0, hz0, hz1, hz2⟩ := info_parts u8_info
  have H := hide h
  have HXL := hide h.len
  clear h
  go_enter Tryz.func20, Tryz.ntmps20
  go_wp2_with (at_make; go_must (refine wpList_make_bytes rfl _ (.tmp 8) _ rfl 5 i0 Tryz.underlying39 hi0 hz0 hz1 hz2 0 (n * 8) _ rfl rfl (by first | rfl | (push_cast; omega)) (Nat.zero_le _) (by omega) ?_))
  go_loopw [3, 12] (fun v i wr => ∃ (k c3 : Nat) (B : Option Addr), k ≤ n ∧ v = .slice B (k * 8) c3 ∧ i = .int .i64 k ∧ wr.ownsRow w.heap.size 5 1 (.slice B (k * 8) c3) (k * 8) (bvs (flat8 (xs.take k))) ∧ Below w.heap.size w wr) (fun _ i _ => n - (intOf i).toNat)
  case atStart => exact ⟨0, n * 8, _, Nat.zero_le _, by rw [Nat.zero_mul], rfl, by rw [Nat.zero_mul]; exact own_of_blk (Blk.new w _ _) (Nat.le_refl _) (Nat.zero_le _) (by unfold maxLen; omega) (madeCells_size _ _) rfl, (Below.refl _ _).alloc (Nat.le_refl _) _⟩
  case round =>
    obtain ⟨k, c3, B, hk, rfl, rfl, hown, hbel⟩ := hrel
    have HO := hide hown
    have WB := hide hbel
    clear hown hbel
    by_cases hlt : k < n
    · have Yr := hide (H.out.keep (w' := wr) fun p _ hp => WB.out.cell (p := p) (by omega))
      obtain ⟨b, o, x, rfl, hb1, hb2, hx, hat⟩ := Yr.out.at_ hlt
      have HX := hide hx
      have HE2 : Hid (x.1.length = 8) := hide x.2
      have HAT := hide hat
      clear hx hat
      have hsz := WB.out.size
      go_wp2_with (first
        | ((with_reducible refine wpList_load_elem ?_ (.tmp 14) rfl rfl HAT.out ?_); · rfl)
        | (refine wpList_store_ext rfl (.tmp 5) (.tmp 15) rfl wr.heap.size rfl (bs := x.1) rfl HE2.out (Blk.new wr _ _) rfl ?_; intro w2 hb2 hg2; have B2 := hide hb2; have W2 : Hid (Below wr.heap.size wr w2) := ((Below.refl _ _).alloc (Nat.le_refl _) _).grown hg2 (by simp) (fun q hq => by injection hq with hq; omega); have HO2 := hide (own_over HO.out W2.out); clear hb2 hg2)
        | (at_builtin; go_must (refine wpList_append_bytes _ rfl (.tmp 16) (.tmp 17) 39 rfl w.heap.size 5 i0 Tryz.underlying39 hi0 hz0 hz1 hz2 (.slice B (k * 8) c3) (k * 8) (flat8 (xs.take k)) rfl HO2.out _ _ (some ⟨wr.heap.size, 0, none⟩) 8 8 x.1 rfl (At.rd B2.out HE2.out) (by omega) (by have := W2.out.size; omega) ?_); intro v1 w3 hown1 hg3 hat3; rw [flat8_next HX.out, show k * 8 + 8 = (k + 1) * 8 by omega] at hown1; have HO1 := hide hown1; have HG3 := hide hg3; clear hown1 hg3 hat3))
      obtain ⟨A3, c4, rfl, _, _⟩ := own_shape HO1.out
      go_roundw
      case rel => exact ⟨k + 1, c4, A3, by omega, rfl, by go_num, HO1.out, (below_step WB.out W2.out (by omega)).grown HG3.out (by have := W2.out.size; omega) (fun g hg => (HO2.out.lt g hg).1)⟩
      case measure => simp [intOf]; omega
    · have hkn : k = n := by omega
      subst hkn
      go_wp2
      go_ret
      exact ⟨_, rfl, by have h := HO.out; rw [List.take_of_length_le (by rw [HXL.out]; exact Nat.le_refl _)] at h; exact h, WB.out⟩
theorem ext_zero_cells : (Value.agg #[.int .u8 0, .int .u8 0, .int .u8 0, .int .u8 0, .int .u8 0, .int .u8 0, .int .u8 0, .int .u8 0]).cells = #[.int .u8 0, .int .u8 0, .int .u8 0, .int .u8 0, .int .u8 0, .int .u8 0, .int .u8 0, .int .u8 0] := rfl
theorem run_make_exts (m : Nat) (C : Int) (hC : C = (m : Int)) (hm : m * 8 ≤ 281474976710656) (W : World) :
    (Instr.makeSlice 38 (.int .i64 0) (.int .i64 C)).run Tryz.prog W = .ok (.slice (some ⟨W.heap.size, 0, none⟩) 0 m) (W.alloc (.cells (madeCells #[.int .u8 0, .int .u8 0, .int .u8 0, .int .u8 0, .int .u8 0, .int .u8 0, .int .u8 0, .int .u8 0] (m * 8)) 23)) := by
  subst hC
  obtain ⟨i, hi, hz, hsize, hby⟩ := ext_parts
  have := run_make (P := Tryz.prog) W 38 23 i _ Tryz.underlying38 hi hz .i64 .i64 0 (m : Int) (by omega) (by omega) (by rw [hby]; omega) (by omega)
  rw [ext_zero_cells, hsize] at this
  simpa using this
theorem wpList_make_exts {w : World} {ops : Array Oper} {rest : List Oper} {o : Oper} {a : Act} {Q : Exit → Act → World → Prop} (hg : o.guard = none) (l c : Operand) (hop : o.op = Op.makeSlice 38 l c)
    (m : Nat) (C : Int) (hl : a.eval l = .int .i64 0) (hc : a.eval c = .int .i64 C) (hC : C = (m : Int)) (hm : m * 8 ≤ 281474976710656)
    (hK : wpList Tryz.prog ops Q rest (a.put o.dst (.slice (some ⟨w.heap.size, 0, none⟩) 0 m)) (w.alloc (.cells (madeCells #[.int .u8 0, .int .u8 0, .int .u8 0, .int .u8 0, .int .u8 0, .int .u8 0, .int .u8 0, .int .u8 0] (m * 8)) 23))) : wpList Tryz.prog ops Q (o :: rest) a w := by
  refine wpList_plain hg fun K hK' => ?_
  have hrun := run_make_exts m C hC hm w
  unfold Oper.wp
  simp [execOp, hop, hl, hc, hrun, Result.andThen]
  exact hK' _ _ hK
theorem at_one8 (w : World) (t : TypeId) (x : B8) : AtE (w.alloc (.cells (bvs x.1).toArray t)) w.heap.size (w.heap.size + 1) (some ⟨w.heap.size, 0, none⟩) 1 [x] := by
  have h := at_new8 w t [x]
  rw [flat8_one] at h
  exact h

/-- what stands of a row behind some of Read's rounds -/
def Rows8 (bs l8 : List UInt8) (l : List B8) (k : Nat) (bad : Bool) : Prop :=
  l.length = k ∧ ((bad = false ∧ k * 8 ≤ bs.length ∧ l = chunks k bs ∧ l8 = bs.drop (k * 8)) ∨ (bad = true ∧ l8 = [] ∧ bs.length % 8 ≠ 0 ∧ k ≤ bs.length / 8 + 1))
theorem Rows8.start (bs : List UInt8) : Rows8 bs bs [] 0 false := ⟨rfl, .inl ⟨rfl, Nat.zero_le _, rfl, rfl⟩⟩
theorem Rows8.next {bs l8 : List UInt8} {l : List B8} {k : Nat} {bad : Bool} (h : Rows8 bs l8 l k bad) (hne : 0 < l8.length) :
    Rows8 bs (stepRest l8 8) (l ++ [full8 (stepTaken l8 8)]) (k + 1) (bad || !stepB l8 8) ∧ (stepRest l8 8).length < l8.length ∧ k ≤ bs.length / 8 := by
  obtain ⟨hl, ⟨rfl, hk, rfl, rfl⟩ | ⟨rfl, rfl, h2⟩⟩ := h
  · rw [List.length_drop] at hne
    by_cases h8 : 8 ≤ (bs.drop (k * 8)).length
    · have hs : stepB (bs.drop (k * 8)) 8 = true := decide_eq_true ⟨by decide, by omega⟩
      have ht : stepTaken (bs.drop (k * 8)) 8 = (bs.drop (k * 8)).take 8 := by unfold stepTaken; rw [hs]; rfl
      have hr : stepRest (bs.drop (k * 8)) 8 = (bs.drop (k * 8)).drop 8 := by unfold stepRest; rw [hs]; rfl
      rw [hs, ht, hr, ← chunks_succ]
      rw [List.length_drop] at h8
      refine ⟨⟨chunks_len _ _, .inl ⟨rfl, by omega, rfl, ?_⟩⟩, ?_, by omega⟩
      · rw [List.drop_drop]; congr 1; omega
      · rw [List.length_drop, List.length_drop]; omega
    · have hs : stepB (bs.drop (k * 8)) 8 = false := decide_eq_false (by rintro ⟨_, h⟩; omega)
      have hr : stepRest (bs.drop (k * 8)) 8 = [] := by unfold stepRest; rw [hs]; rfl
      rw [hs, hr]
      rw [List.length_drop] at h8
      refine ⟨⟨by rw [List.length_append, hl]; rfl, .inr ⟨rfl, rfl, by omega, by omega⟩⟩, by rw [List.length_drop]; show 0 < _; omega, by omega⟩
  · cases hne
theorem Rows8.end_ {bs : List UInt8} {l : List B8} {k : Nat} {bad : Bool} (h : Rows8 bs [] l k bad) : (bad = false ∧ rowL bs = l ∧ rowE bs = 0) ∨ (bad = true ∧ rowL bs = [] ∧ rowE bs = 4) := by
  obtain ⟨hl, ⟨rfl, hk, rfl, hd⟩ | ⟨rfl, _, h2, _⟩⟩ := h
  · have hb : bs.length = k * 8 := by
      have := congrArg List.length hd
      rw [List.length_drop] at this
      simp at this
      omega
    have h0 : bs.length % 8 = 0 := by omega
    have h1 : bs.length / 8 = k := by omega
    refine .inl ⟨rfl, ?_, ?_⟩
    · unfold rowL; rw [if_pos h0, h1]
    · unfold rowE; rw [if_pos h0]
  · refine .inr ⟨rfl, ?_, ?_⟩
    · unfold rowL; rw [if_neg h2]
    · unfold rowE; rw [if_neg h2]

set_option maxRecDepth 20000 in
set_option maxHeartbeats 3000000 in
theorem comreadrow_any (w : World) (lo hi : Nat) (A : Option Addr) (n c : Nat) (bs : List UInt8) (h : At w lo hi A n bs) (hh : hi ≤ w.heap.size) (hn : n ≤ 140737488355312) :
    Calls Tryz.prog 21 #[.slice A n c] w fun e w' => ∃ v, e = .returned (.tuple #[v, .int .i64 (rowE bs)]) ∧ w'.ownsRow w.heap.size 23 8 v (rowL bs).length (bvs (flat8 (rowL bs))) ∧ Below w.heap.size w w' := by
  have H := hide h
  have HNL := hide h.len
  have hq : (n : Int).tdiv 8 = ((n / 8 : Nat) : Int) := by rw [Int.tdiv_eq_ediv_of_nonneg (by omega)]; omega
  clear h
  go_enter Tryz.func21, Tryz.ntmps21
  go_wp2_with (at_make; go_must (refine wpList_make_exts rfl _ (.tmp 8) rfl (n / 8) _ rfl rfl (by first | rfl | omega) (by omega) ?_))
  have HA1 := hide (H.out.alloc hh (.cells (madeCells #[.int .u8 0, .int .u8 0, .int .u8 0, .int .u8 0, .int .u8 0, .int .u8 0, .int .u8 0, .int .u8 0] (n / 8 * 8)) 23))
  refine (open_any _ lo hi A n c bs HA1.out (by simp; omega) (by omega)).mono ?_
  rintro e w1 ⟨g, rfl, hgl, hrd, hb1⟩
  have HO1 : Hid (w1.ownsRow w.heap.size 23 8 (.slice (some ⟨w.heap.size, 0, none⟩) 0 (n / 8)) 0 (bvs (flat8 []))) :=
    ownN_over (own8_of_blk (Blk.new w _ _) (Nat.le_refl _) (Nat.zero_le _) (by unfold maxLen; omega) (size_madeCells _ _) rfl) (hb1.mono (Nat.le_refl _))
  have W1 : Hid (Below w.heap.size w w1) := hide (below_step ((Below.refl _ _).alloc (Nat.le_refl _) _) hb1 (Nat.le_refl _))
  have hgl2 : w.heap.size + 1 ≤ g := by simpa using hgl
  have hrd2 : Rd w1 (w.heap.size + 1) g bs false := by simpa using hrd
  have HR1 := hide hrd2
  clear hrd hb1 hgl hrd2
  go_wp2_with fail
  go_loopg [4] n (fun gg v wr => ∃ (k cc : Nat) (B : Option Addr) (l : List B8) (l8 : List UInt8) (bad : Bool), v = .slice B k cc ∧ wr.ownsRow w.heap.size 23 8 (.slice B k cc) k (bvs (flat8 l)) ∧ Rd wr (w.heap.size + 1) g l8 bad ∧ Rows8 bs l8 l k bad ∧ l8.length ≤ gg ∧ (∀ q, (Value.slice B k cc).ownBlock = some q → q < w.heap.size + 1 ∨ g < q) ∧ Below w.heap.size w wr)
  case atStart => exact ⟨0, n / 8, _, [], bs, false, rfl, HO1.out, HR1.out, Rows8.start bs, by rw [HNL.out]; exact Nat.le_refl _, fun q hq => by (simp [Value.ownBlock] at hq; omega), W1.out⟩
  case round =>
    obtain ⟨k, cc, B, l, l8, bad, rfl, hown, hrd, hrows, hgg, hblk, hbel⟩ := hrel
    have HO := hide hown
    have HR := hide hrd
    have HRW := hide hrows
    have HBK := hide hblk
    have WB := hide hbel
    have hgs := hrd.lt
    obtain ⟨_, _, _, k0⟩ := hrd.open0
    clear hown hrd hrows hblk hbel
    by_cases hne : 0 < l8.length
    · obtain ⟨hnx, hlt, hkm⟩ := HRW.out.next hne
      have HNX := hide hnx
      have HT8 : Hid ((pad8 (stepTaken l8 8)).length = 8) := hide (pad8_len _)
      clear hnx
      go_wp2_with (go_at_call 56; refine (Rd.left HR.out).mono ?_; rintro x wq ⟨rfl, rfl⟩)
      refine (take_any wr (w.heap.size + 1) g l8 bad HR.out 8 (WalkArith.wf_i64 (by decide))).mono ?_
      rintro x w2 ⟨v2, rfl, hown2, hrd2, hg2⟩
      obtain ⟨A2, c2, rfl, _, _⟩ := own_shape hown2
      have HA2 := hide (At.own hown2)
      have HO2 := hide (ownN_row HO.out hg2 (.inr (fun e => by rcases HBK.out g e with h | h <;> omega)))
      have HR2 := hide hrd2
      have WB2 := hide (WB.out.grown hg2 WB.out.size (fun q hq => by injection hq with hq; omega))
      have hgs2 := hrd2.lt
      clear hown2 hrd2 hg2
      go_wp2_with fail
      refine (comOfBytes_any w2 _ _ A2 _ c2 _ HA2.out (Nat.le_refl _)).mono ?_
      rintro x w3 ⟨rfl, hb3⟩
      have hgs3 : g < w3.heap.size := Nat.lt_of_lt_of_le hgs2 hb3.size
      have hb4 := hb3.alloc hb3.size (.cells (bvs (pad8 (stepTaken l8 8))).toArray 23)
      have HO4 := hide (ownN_over HO2.out hb4)
      have HR4 := hide (HR2.out.below hb4 hgs2)
      have WB4 := hide (below_step WB2.out hb4 (Nat.le_refl _))
      have hsz := WB4.out.size
      clear hb3 hb4
      go_wp2_with (first
        | ((refine wpList_build1 ?_ (.tmp 20) rfl (xs := pad8 (stepTaken l8 8)) rfl HT8.out ?_); · rfl)
        | (at_builtin; go_must (refine wpList_append_exts _ rfl (.tmp 17) (.tmp 21) rfl w.heap.size (.slice B k cc) k l rfl HO4.out _ _ (some ⟨w3.heap.size, 0, none⟩) 1 1 [full8 (stepTaken l8 8)] rfl (at_one8 _ _ (full8 (stepTaken l8 8))) (by have := HNL.out; omega) hsz ?_); intro v5 w5 hown5 hg5 hat5; have HO5 := hide hown5; have HG5 := hide hg5; have HT5 := hide hat5; clear hown5 hg5 hat5))
      obtain ⟨A5, c5, rfl, _, _⟩ := own8_shape HO5.out
      go_roundg (stepRest l8 8).length
      case measure => omega
      case rel =>
        exact ⟨k + 1, c5, A5, _, _, _, rfl, HO5.out, HR4.out.keep HG5.out (fun q hq => by rcases HBK.out q hq with h | h <;> omega), HNX.out, Nat.le_refl _, fun q hq => HT5.out.elim (fun h => HBK.out q (h ▸ hq)) (fun h => .inr (by rw [h] at hq; have h7 := Option.some.inj hq; simp at h7; omega)), WB4.out.grown HG5.out hsz (fun q hq => (HO4.out.lt q hq).1)⟩
    · have hl0 : l8 = [] := List.eq_nil_of_length_eq_zero (by omega)
      subst hl0
      obtain ⟨A', n', c', hb', _⟩ := HR.out
      have HB' := hide hb'
      rcases HRW.out.end_ with ⟨rfl, h1, h2⟩ | ⟨rfl, h1, h2⟩
      all_goals
        have HH1 := hide h1
        have HH2 := hide h2
        clear h1 h2 hb'
        go_wp2_with (first
          | (go_at_call 56; refine (Rd.left HR.out).mono ?_; rintro x wq ⟨rfl, rfl⟩)
          | (go_at_call 58; refine (bad_any _ _ _ _ _ _ HB'.out).mono ?_; rintro x wq ⟨rfl, rfl⟩))
        go_ret2
      · exact ⟨.slice B k cc, by rw [HH2.out]; rfl, by rw [HH1.out, HRW.out.1]; exact HO.out, WB.out⟩
      · exact ⟨.slice none 0 0, by rw [HH2.out]; rfl, by rw [HH1.out]; exact World.ownsRow_nil _ _ _ _, WB.out⟩
end Go.Proofs.YtfpidnckmdiieaaGreatDoor
