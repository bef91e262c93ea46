/-
  What highSize, ofBytes, Make, Parts and Compare of package rd do, in whatever memory. No condition beyond sizes that fit memory.
-/
import Derived.Test.YtdeapmeionpabaaDoorRdV
import Derived.Test.YtdeapmeionpabaaDoorPut
import Derived.Test.YtdeapmeionpabaaDoorBelowMore
namespace Go.Proofs.YtdeapmeionpabaaDoor
open Go.RowKit
set_option linter.unusedVariables false
set_option linter.unusedSimpArgs false

theorem Blk.over {w x : World} {g : Nat} {t : TypeId} {cs : Array Value} (h : Blk w g t cs) (hb : Below w.heap.size w x) : Blk x g t cs := h.below hb h.lt
theorem Blk.stays {w x : World} {g q : Nat} {t : TypeId} {cs : Array Value} (h : Blk w g t cs) (o : Obj) (hg : (w.alloc o).grownBy x (some q)) (hq : w.heap.size ≤ q) : Blk x g t cs :=
  (h.alloc o).grown hg (by intro e; injection e with e; have := h.lt; omega)
theorem below_made {B : Nat} {a w x : World} (h : Below B a w) (hB : B ≤ a.heap.size) (o : Obj) {q : Nat} (hg : (w.alloc o).grownBy x (some q)) (hq : w.heap.size ≤ q) : Below B a x :=
  (h.alloc (Nat.le_trans hB h.size) o).grown hg (by have := h.size; simp; omega) (by intro e he; injection he with he; subst he; exact Nat.le_trans (Nat.le_trans hB h.size) hq)
theorem Rd.left {w : World} {lo g : Nat} {bs : List UInt8} {bad : Bool} (h : Rd w lo g bs bad) :
    Calls Tryd.prog 96 #[.pointer (some ⟨g, 0, none⟩)] w fun e w' => e = .returned (.int .i64 bs.length) ∧ w = w' := by
  obtain ⟨A, n, c, hb, ha, _⟩ := h
  rw [ha.len]
  exact left_any w g A n c bad hb
theorem Rd.open0 {w : World} {lo g : Nat} {bs : List UInt8} {bad : Bool} (h : Rd w lo g bs bad) : ∃ A n c, w.cell? ⟨g, 0, none⟩ = some (.slice A n c) := by
  obtain ⟨A, n, c, hb, _⟩ := h
  exact ⟨A, n, c, hb.cell 0⟩

theorem res4 {fn : Func} {t u v x : Tmp} (h : fn.results = #[.tmp t, .tmp u, .tmp v, .tmp x]) (tmps : Array Value) (P : Program) (w : World) :
    (results fn tmps).run P w = .ok (.tuple #[tmps.getD t undef, tmps.getD u undef, tmps.getD v undef, tmps.getD x undef]) w := by
  simp [results, h]
theorem highSize_any (w : World) (k : Int) :
    Calls Tryd.prog 88 #[.int .i64 k] w fun e w' => e = .returned (.int .i64 (hsN k : Nat)) ∧ w = w' := by
  rcases hsN_cases k with ⟨rfl, h⟩ | ⟨rfl, h⟩ | ⟨rfl, h⟩ | ⟨hk, h⟩
  case' inr.inr.inr =>
    have e0 : (k == 0) = false := by simp; omega
    have e1 : (k == 1) = false := by simp; omega
    have e2 : (k == 2) = false := by simp; omega
    clear hk
  all_goals
    rw [h]
    clear h
    go_enter Tryd.func88, Tryd.ntmps88
    go_wp2
    go_ret
    exact ⟨rfl, rfl⟩

set_option maxRecDepth 20000 in
set_option maxHeartbeats 1000000 in
theorem ofBytes_any (w : World) (lo hi : Nat) (A : Option Addr) (n c : Nat) (xs : List UInt8) (h : At w lo hi A n xs) (hh : hi ≤ w.heap.size) :
    Calls Tryd.prog 90 #[.slice A n c] w fun e w' => e = .returned (.agg (rdC (pad8 xs))) ∧ Below w.heap.size w w' := by
  have HZ := hide rdC_zero
  have H2 := hide ((h.alloc hh (.cells #[.int .u8 0, .int .u8 0, .int .u8 0, .int .u8 0, .int .u8 0, .int .u8 0, .int .u8 0, .int .u8 0] 39)).alloc (by simp; omega) (.cells #[.int .u8 0, .int .u8 0, .int .u8 0, .int .u8 0, .int .u8 0, .int .u8 0, .int .u8 0, .int .u8 0] 39))
  have HP := hide (pad8_len xs)
  clear h
  go_enter Tryd.func90, Tryd.ntmps90
  go_wp2_with (first
    | (with_reducible refine wpList_copy_rd rfl (.tmp 4) (.tmp 5) rfl (w.heap.size + 1) n c lo hi A xs _ (by rw [HZ.out]; exact blk_new2 w _ _ _) H2.out rfl rfl ?_; intro w3 hb3 hg3; have HB3 := hide hb3; have HG3 := hide hg3; clear hb3 hg3; have HZ3 := hide (((Blk.new w _ _).alloc _).grown HG3.out (by simp)))
    | (with_reducible refine wpList_load_rd rfl (.tmp 3) rfl (w.heap.size + 1) rfl HB3.out HP.out ?_)
    | (refine wpList_store_rd rfl (.tmp 2) (.tmp 7) rfl w.heap.size rfl (bs := pad8 xs) rfl HP.out HZ3.out rfl ?_; intro w4 hb4 hg4; have HB4 := hide hb4; have HG4 := hide hg4; clear hb4 hg4))
  refine ret_rd1 (p := 2) rfl rfl HB4.out HP.out rfl ?_
  refine ⟨rfl, ?_⟩
  have k2 := ((Below.refl w.heap.size w).alloc (Nat.le_refl _) (.cells #[.int .u8 0, .int .u8 0, .int .u8 0, .int .u8 0, .int .u8 0, .int .u8 0, .int .u8 0, .int .u8 0] 39)).alloc (by simp) (.cells #[.int .u8 0, .int .u8 0, .int .u8 0, .int .u8 0, .int .u8 0, .int .u8 0, .int .u8 0, .int .u8 0] 39)
  have k3 := k2.grown HG3.out k2.size (by simp)
  exact k3.grown HG4.out k3.size (by simp)

theorem mk_known {k h l : Int} {m : Nat} (hm : hsN k = m) (h0 : m ≠ 0) (hh : numB h (m : Int) = true) :
    mkB k h l = pad8 (putOut (be 2 k.toNat ++ be m h.toNat) l ((6 - m : Nat) : Int)) ∧ mkE k h l = putErr l ((6 - m : Nat) : Int) := by
  have hm' : m = 2 ∨ m = 4 := by rcases hsN_cases k with h | h | h | h <;> omega
  have hs : sizeB ((6 - m : Nat) : Int) = true := by unfold sizeB; simp; omega
  have hf : fitR k h l = numB l ((6 - m : Nat) : Int) := by
    unfold fitR
    rw [hm, hh]
    simp [h0]
  unfold mkB mkE putOut putErr
  rw [hf, hm, if_neg h0, hs]
  by_cases hl : numB l ((6 - m : Nat) : Int) = true
  · rw [hl]
    simp only [if_true, Bool.and_self, Int.toNat_natCast]
    refine ⟨(pad8_full ?_).symm, trivial⟩
    simp only [List.length_append, be_len]
    omega
  · have hl' : numB l ((6 - m : Nat) : Int) = false := by simpa using hl
    rw [hl']
    simp only [Bool.and_false, Bool.false_eq_true, if_false, if_true]
    exact ⟨rfl, trivial⟩
theorem mk_high {k h l : Int} {m : Nat} (hm : hsN k = m) (h0 : m ≠ 0) (hh : numB h (m : Int) = false) : mkB k h l = zero8 ∧ mkE k h l = 5 := by
  have hf : fitR k h l = false := by
    unfold fitR
    rw [hm, hh]
    simp
  unfold mkB mkE
  rw [hf, hm, if_neg h0]
  exact ⟨rfl, rfl⟩
theorem mk_kind {k h l : Int} (hm : hsN k = 0) : mkB k h l = zero8 ∧ mkE k h l = 1 := by
  have hf : fitR k h l = false := by
    unfold fitR
    rw [hm]
    simp
  unfold mkB mkE
  rw [hf, hm]
  exact ⟨rfl, rfl⟩
theorem put_head {k : Int} (hk : k = 0 ∨ k = 1 ∨ k = 2) : putErr k 2 = 0 ∧ putOut [] k 2 = be 2 k.toNat := by
  rcases hk with rfl | rfl | rfl <;> decide +kernel

set_option maxRecDepth 20000 in
set_option maxHeartbeats 2000000 in
theorem make_kind (w : World) (k h l : Int) (h0 : hsN k = 0) :
    Calls Tryd.prog 53 #[.int .i64 k, .int .i64 h, .int .i64 l] w fun e w' => e = .returned (.tuple #[.agg (rdC (mkB k h l)), .int .i64 (mkE k h l)]) ∧ Below w.heap.size w w' := by
  have HZ := hide rdC_zero
  have B0 : Hid (Blk (w.alloc (.cells #[.int .u8 0, .int .u8 0, .int .u8 0, .int .u8 0, .int .u8 0, .int .u8 0, .int .u8 0, .int .u8 0] 39)) w.heap.size 39 #[.int .u8 0, .int .u8 0, .int .u8 0, .int .u8 0, .int .u8 0, .int .u8 0, .int .u8 0, .int .u8 0]) := Blk.new w _ _
  have W0 : Hid (Below w.heap.size w (w.alloc (.cells #[.int .u8 0, .int .u8 0, .int .u8 0, .int .u8 0, .int .u8 0, .int .u8 0, .int .u8 0, .int .u8 0] 39))) := (Below.refl _ _).alloc (Nat.le_refl _) _
  have HH := hide h0
  have HM := hide (mk_kind (h := h) (l := l) h0)
  clear h0
  go_enter Tryd.func53, Tryd.ntmps53
  go_wp2_with (first
    | (go_at_call 88; refine (highSize_any _ k).mono ?_; rintro e w1 ⟨rfl, rfl⟩; rw [HH.out])
    | (refine wpList_store_rd rfl (.tmp 6) (.tmp 16) rfl w.heap.size rfl (bs := zero8) (congrArg Value.agg HZ.out).symm zero8_len B0.out rfl ?_; intro w4 hb4 hg4; have HB4 := hide hb4; have HG4 := hide hg4; clear hb4 hg4))
  refine ret_rd2 (p := 6) (q := 7) (v := .int .i64 1) rfl rfl rfl HB4.out zero8_len rfl ?_
  exact ⟨by rw [HM.out.1, HM.out.2], W0.out.grown HG4.out W0.out.size (by simp)⟩

set_option maxRecDepth 20000 in
set_option maxHeartbeats 3000000 in
theorem make_yes (w : World) (k h l : Int) (m : Nat) (hk : k = 0 ∨ k = 1 ∨ k = 2) (hm : hsN k = m) (hm' : m = 2 ∨ m = 4) (hh : numB h (m : Int) = true) :
    Calls Tryd.prog 53 #[.int .i64 k, .int .i64 h, .int .i64 l] w fun e w' => e = .returned (.tuple #[.agg (rdC (mkB k h l)), .int .i64 (mkE k h l)]) ∧ Below w.heap.size w w' := by
  have HZ := hide rdC_zero
  have B0 : Hid (Blk (w.alloc (.cells #[.int .u8 0, .int .u8 0, .int .u8 0, .int .u8 0, .int .u8 0, .int .u8 0, .int .u8 0, .int .u8 0] 39)) w.heap.size 39 #[.int .u8 0, .int .u8 0, .int .u8 0, .int .u8 0, .int .u8 0, .int .u8 0, .int .u8 0, .int .u8 0]) := Blk.new w _ _
  have W0 : Hid (Below w.heap.size w (w.alloc (.cells #[.int .u8 0, .int .u8 0, .int .u8 0, .int .u8 0, .int .u8 0, .int .u8 0, .int .u8 0, .int .u8 0] 39))) := (Below.refl _ _).alloc (Nat.le_refl _) _
  have HPU := hide (put_head hk)
  have HH := hide hm
  have h0' : m ≠ 0 := by omega
  have hs : Hid (sizeB (m : Int) = true) := hide (by unfold sizeB; simp; omega)
  have HM := hide (mk_known (l := l) hm h0' hh)
  have HP2 : Hid (putErr h m = 0 ∧ putOut (be 2 k.toNat) h m = be 2 k.toNat ++ be m h.toNat) := hide (by unfold putErr putOut; simp [hs.out, hh])
  have hsub : (6 : Int) - m = ((6 - m : Nat) : Int) := by omega
  have HS := hide hsub
  have hmne : ((m : Int) == 0) = false := by simp; omega
  have HL1 : Hid ((be 2 k.toNat).length ≤ 6) := hide (by rw [be_len]; decide)
  obtain ⟨l1, hl1⟩ : ∃ l1, be 2 k.toNat = l1 := ⟨_, rfl⟩
  have hL2 : (be 2 k.toNat ++ be m h.toNat).length ≤ 6 := by simp only [List.length_append, be_len]; omega
  obtain ⟨l2, hl2⟩ : ∃ l2, be 2 k.toNat ++ be m h.toNat = l2 := ⟨_, rfl⟩
  rw [hl2] at HP2 HM hL2
  rw [hl1] at HP2 HPU HL1
  have HL2 := hide hL2
  obtain ⟨r, hr⟩ : ∃ r : Nat, 6 - m = r := ⟨_, rfl⟩
  rw [hr] at HM HS
  have HPL := hide (pad8_len (putOut l2 l (r : Int)))
  have hm4 : m ≤ 4 := by omega
  clear hm hh hk hm' h0' hsub hl1 hl2 hL2 hr hs
  go_enter Tryd.func53, Tryd.ntmps53
  go_wp2_with fail
  refine (highSize_any _ k).mono ?_
  rintro e w1 ⟨rfl, rfl⟩
  rw [HH.out]
  go_wp2_with fail
  refine (put_any _ 0 0 none 0 0 [] (At.nil _ _ _ _) (Nat.zero_le _) (by omega) k 2).mono ?_
  rintro e w1 ⟨v1, rfl, hown1, hb1⟩
  rw [HPU.out.2] at hown1
  rw [HPU.out.1]
  obtain ⟨A1, c1, rfl, _, _⟩ := own_shape hown1
  have HA1 := hide (At.own hown1)
  have B1 := hide (B0.out.over hb1)
  have W1 := hide (below_step W0.out hb1 (Nat.le_refl _))
  clear hown1 hb1
  go_wp2_with fail
  refine (put_any w1 _ _ A1 _ c1 l1 HA1.out (Nat.le_refl _) (by have := HL1.out; omega) h m).mono ?_
  rintro e w2 ⟨v2, rfl, hown2, hb2⟩
  rw [HP2.out.2] at hown2
  rw [HP2.out.1]
  obtain ⟨A2, c2, rfl, _, _⟩ := own_shape hown2
  have HA2 := hide (At.own hown2)
  have B2 := hide (B1.out.over hb2)
  have W2 := hide (below_step W1.out hb2 (Nat.le_refl _))
  clear hown2 hb2
  go_wp2_with fail
  rw [HS.out]
  refine (put_any w2 _ _ A2 _ c2 l2 HA2.out (Nat.le_refl _) (by have := HL2.out; omega) l (r : Int)).mono ?_
  rintro e w3 ⟨v3, rfl, hown3, hb3⟩
  obtain ⟨A3, c3, rfl, _, _⟩ := own_shape hown3
  have HA3 := hide (At.own hown3)
  have B3 := hide (B2.out.over hb3)
  have W3 := hide (below_step W2.out hb3 (Nat.le_refl _))
  clear hown3 hb3
  go_wp2_with fail
  refine (ofBytes_any w3 _ _ A3 _ c3 _ HA3.out (Nat.le_refl _)).mono ?_
  rintro e w5 ⟨rfl, hb5⟩
  have B5 := hide (B3.out.over hb5)
  have W5 := hide (below_step W3.out hb5 (Nat.le_refl _))
  clear hb5
  go_wp2_with (refine wpList_store_rd rfl (.tmp 6) (.tmp 42) rfl w.heap.size rfl rfl HPL.out B5.out rfl ?_; intro w4 hb4 hg4; have HB4 := hide hb4; have HG4 := hide hg4; clear hb4 hg4)
  refine ret_rd2 (p := 6) (q := 7) rfl rfl rfl HB4.out HPL.out rfl ?_
  exact ⟨by rw [HM.out.1, HM.out.2]; rfl, W5.out.grown HG4.out W5.out.size (by simp)⟩

set_option maxRecDepth 20000 in
set_option maxHeartbeats 2000000 in
theorem make_high (w : World) (k h l : Int) (m : Nat) (hk : k = 0 ∨ k = 1 ∨ k = 2) (hm : hsN k = m) (hm' : m = 2 ∨ m = 4) (hh : numB h (m : Int) = false) :
    Calls Tryd.prog 53 #[.int .i64 k, .int .i64 h, .int .i64 l] w fun e w' => e = .returned (.tuple #[.agg (rdC (mkB k h l)), .int .i64 (mkE k h l)]) ∧ Below w.heap.size w w' := by
  have HZ := hide rdC_zero
  have B0 : Hid (Blk (w.alloc (.cells #[.int .u8 0, .int .u8 0, .int .u8 0, .int .u8 0, .int .u8 0, .int .u8 0, .int .u8 0, .int .u8 0] 39)) w.heap.size 39 #[.int .u8 0, .int .u8 0, .int .u8 0, .int .u8 0, .int .u8 0, .int .u8 0, .int .u8 0, .int .u8 0]) := Blk.new w _ _
  have W0 : Hid (Below w.heap.size w (w.alloc (.cells #[.int .u8 0, .int .u8 0, .int .u8 0, .int .u8 0, .int .u8 0, .int .u8 0, .int .u8 0, .int .u8 0] 39))) := (Below.refl _ _).alloc (Nat.le_refl _) _
  have HPU := hide (put_head hk)
  have HH := hide hm
  have h0' : m ≠ 0 := by omega
  have hs : Hid (sizeB (m : Int) = true) := hide (by unfold sizeB; simp; omega)
  have HM := hide (mk_high (l := l) hm h0' hh)
  have HP2 : Hid (putErr h m = 5 ∧ putOut (be 2 k.toNat) h m = []) := hide (by unfold putErr putOut; simp [hs.out, hh])
  have hmne : ((m : Int) == 0) = false := by simp; omega
  have HL1 : Hid ((be 2 k.toNat).length ≤ 6) := hide (by rw [be_len]; decide)
  obtain ⟨l1, hl1⟩ : ∃ l1, be 2 k.toNat = l1 := ⟨_, rfl⟩
  rw [hl1] at HP2 HPU HL1
  clear hm hh hk hm' h0' hl1 hs
  go_enter Tryd.func53, Tryd.ntmps53
  go_wp2_with fail
  refine (highSize_any _ k).mono ?_
  rintro e w1 ⟨rfl, rfl⟩
  rw [HH.out]
  go_wp2_with fail
  refine (put_any _ 0 0 none 0 0 [] (At.nil _ _ _ _) (Nat.zero_le _) (by omega) k 2).mono ?_
  rintro e w1 ⟨v1, rfl, hown1, hb1⟩
  rw [HPU.out.2] at hown1
  rw [HPU.out.1]
  obtain ⟨A1, c1, rfl, _, _⟩ := own_shape hown1
  have HA1 := hide (At.own hown1)
  have B1 := hide (B0.out.over hb1)
  have W1 := hide (below_step W0.out hb1 (Nat.le_refl _))
  clear hown1 hb1
  go_wp2_with fail
  refine (put_any w1 _ _ A1 _ c1 l1 HA1.out (Nat.le_refl _) (by have := HL1.out; omega) h m).mono ?_
  rintro e w2 ⟨v2, rfl, hown2, hb2⟩
  rw [HP2.out.2] at hown2
  rw [HP2.out.1]
  obtain ⟨A2, c2, rfl, _, _⟩ := own_shape hown2
  have B2 := hide (B1.out.over hb2)
  have W2 := hide (below_step W1.out hb2 (Nat.le_refl _))
  clear hown2 hb2
  go_wp2_with (refine wpList_store_rd rfl (.tmp 6) (.tmp 31) rfl w.heap.size rfl (bs := zero8) (congrArg Value.agg HZ.out).symm zero8_len B2.out rfl ?_; intro w4 hb4 hg4; have HB4 := hide hb4; have HG4 := hide hg4; clear hb4 hg4)
  refine ret_rd2 (p := 6) (q := 7) (v := .int .i64 5) rfl rfl rfl HB4.out zero8_len rfl ?_
  exact ⟨by rw [HM.out.1, HM.out.2], W2.out.grown HG4.out W2.out.size (by simp)⟩

theorem make_any (w : World) (k h l : Int) :
    Calls Tryd.prog 53 #[.int .i64 k, .int .i64 h, .int .i64 l] w fun e w' => e = .returned (.tuple #[.agg (rdC (mkB k h l)), .int .i64 (mkE k h l)]) ∧ Below w.heap.size w w' := by
  have hc := hsN_cases k
  by_cases h0 : hsN k = 0
  · exact make_kind w k h l h0
  · by_cases hh : numB h (hsN k : Int) = true
    · exact make_yes w k h l _ (by omega) rfl (by omega) hh
    · exact make_high w k h l _ (by omega) rfl (by omega) (by simpa using hh)

/-- what the reader's numbers are -/
theorem knd_num {d : List UInt8} (hl : d.length = 8) : numVal d 2 = knd d ∧ numRest d 2 = d.drop 2 ∧ numOk d 2 = true := by
  have h := big_put (bs := d) (k := 2) (by decide) (by omega)
  have hs : sizeB (2 : Int) = true := rfl
  have hb : stepB d (2 : Int) = true := by unfold stepB; simp; omega
  refine ⟨h.1, ?_, h.2.1⟩
  unfold numRest stepRest
  rw [if_pos hs, if_pos hb]
  rfl
theorem hi_num {d : List UInt8} (hl : d.length = 8) (hk : knownR d = true) : numVal (d.drop 2) (hsN (knd d) : Nat) = hiR d ∧ numRest (d.drop 2) (hsN (knd d) : Nat) = (d.drop 2).drop (hsN (knd d)) ∧ numOk (d.drop 2) (hsN (knd d) : Nat) = true := by
  have hs := hsN_known hk
  obtain ⟨m, hm⟩ : ∃ m, hsN (knd d : Int) = m := ⟨_, rfl⟩
  have hm' : m = 2 ∨ m = 4 := by omega
  unfold hiR
  rw [hm]
  have h := big_put (bs := d.drop 2) (k := m) (by omega) (by simp; omega)
  have hs : sizeB (m : Int) = true := by unfold sizeB; simp; omega
  have hb : stepB (d.drop 2) (m : Int) = true := by unfold stepB; simp; omega
  refine ⟨h.1, ?_, h.2.1⟩
  unfold numRest stepRest
  rw [if_pos hs, if_pos hb]
  rfl
theorem lo_num {d : List UInt8} (hl : d.length = 8) (hk : knownR d = true) : numVal ((d.drop 2).drop (hsN (knd d))) (((d.drop 2).drop (hsN (knd d))).length : Nat) = loR d := by
  have hs := hsN_known hk
  obtain ⟨m, hm⟩ : ∃ m, hsN (knd d : Int) = m := ⟨_, rfl⟩
  have hm' : m = 2 ∨ m = 4 := by omega
  unfold loR
  rw [hm]
  have hlen : ((d.drop 2).drop m).length = 6 - m := by simp; omega
  have h := big_put (bs := (d.drop 2).drop m) (k := ((d.drop 2).drop m).length) (by omega) (Nat.le_refl _)
  rw [h.1, List.take_of_length_le (Nat.le_refl _)]
theorem knd_lt {d : List UInt8} (hl : d.length = 8) : knd d < 65536 := by
  unfold knd
  have := big_small (l := d.take 2) (k := 2) (by simp; omega)
  omega
theorem zero_num (l : List UInt8) : numVal l 0 = 0 ∧ numRest l 0 = [] := ⟨rfl, rfl⟩

set_option maxRecDepth 20000 in
set_option maxHeartbeats 2000000 in
theorem parts_any (w : World) (d : List UInt8) (hl : d.length = 8) :
    Calls Tryd.prog 60 #[.agg (rdC d)] w fun e w' => e = .returned (.tuple #[.int .i64 (ptK d : Nat), .int .i64 (ptH d : Nat), .int .i64 (ptL d : Nat), .bool (knownR d)]) ∧ Below w.heap.size w w' := by
  have B0 : Hid (Blk (w.alloc (.cells (rdC d) 39)) w.heap.size 39 (rdC d)) := Blk.new w _ _
  have W0 : Hid (Below w.heap.size w (w.alloc (.cells (rdC d) 39))) := (Below.refl _ _).alloc (Nat.le_refl _) _
  have HA0 := hide (At.rd B0.out hl)
  have HL := hide hl
  have HK := hide (knd_num hl)
  have hkl := knd_lt hl
  -- what HIGH and LOW are read as
  obtain ⟨H, L, hH, hL, hrest, hmk, hpt⟩ : ∃ (H L : Nat) , numVal (d.drop 2) (hsN (knd d) : Nat) = H ∧ numVal (numRest (d.drop 2) (hsN (knd d) : Nat)) ((numRest (d.drop 2) (hsN (knd d) : Nat)).length : Nat) = L ∧ (numRest (d.drop 2) (hsN (knd d) : Nat)).length ≤ 6 ∧
      (mkB (knd d) H L == d) = knownR d ∧ (knownR d = true → ptK d = knd d ∧ ptH d = H ∧ ptL d = L) := by
    by_cases hk : knownR d = true
    · refine ⟨hiR d, loR d, (hi_num hl hk).1, by rw [(hi_num hl hk).2.1]; exact lo_num hl hk, by rw [(hi_num hl hk).2.1]; simp; omega, ?_, fun _ => parts_known hk⟩
      rw [hk, (made_parts hl hk).1]
      simp
    · have hk' : knownR d = false := by simpa using hk
      have h0 := hsN_unknown hk'
      refine ⟨0, 0, by rw [h0]; rfl, by rw [h0]; rfl, by rw [h0]; exact Nat.zero_le _, ?_, fun h => absurd h hk⟩
      rw [hk', (mk_kind h0).1]
      have : zero8 ≠ d := by rintro rfl; rw [known_zero] at hk'; cases hk'
      simpa using this
  have HH := hide hH
  have HLL := hide hL
  have HR := hide hrest
  have HMK := hide hmk
  have HPT := hide hpt
  have HML := hide (mkB_len (knd d) H L)
  have hs4 : hsN (knd d) ≤ 4 := by rcases hsN_cases (knd d : Int) with h | h | h | h <;> omega
  have HS4 := hide hs4
  obtain ⟨K, hK⟩ : ∃ K, knd d = K := ⟨_, rfl⟩
  rw [hK] at HK hkl HH HLL HR HMK HML HS4 hs4
  obtain ⟨m, hm⟩ : ∃ m, hsN (K : Int) = m := ⟨_, rfl⟩
  rw [hm] at HH HLL HR HS4 hs4
  have HM := hide hm
  have HKK := hide hK
  have HV : Hid (∀ q : Bool, knownR d = q → (q = true → ptK d = K ∧ ptH d = H ∧ ptL d = L) ∧ (q = false → ptK d = 0 ∧ ptH d = 0 ∧ ptL d = 0)) :=
    fun q hq => ⟨fun h => by have := HPT.out (hq.trans h); rw [← HKK.out]; exact this, fun h => parts_unknown (hq.trans h)⟩
  clear hl hH hL hrest hmk hpt hK hm
  go_enter Tryd.func60, Tryd.ntmps60
  go_wp2_with fail
  refine (open_any _ _ _ _ 8 8 d HA0.out (by simp) (by decide)).mono ?_
  rintro e w1 ⟨g, rfl, hg, hrd1, hb1⟩
  have R1 := hide hrd1
  have B1 := hide (B0.out.over hb1)
  have W1 := hide (below_step W0.out hb1 (Nat.le_refl _))
  have hgl : w.heap.size < g := by have : (w.alloc (.cells (rdC d) 39)).heap.size = w.heap.size + 1 := by simp
                                   omega
  obtain ⟨_, _, _, k1⟩ := hrd1.open0
  clear hrd1 hb1 hg
  go_wp2_with fail
  refine (num_any _ _ g d false R1.out 2 (WalkArith.wf_i64 (by decide))).mono ?_
  rintro e w2 ⟨rfl, hrd2, hg2⟩
  rw [HK.out.2.1] at hrd2
  rw [HK.out.1]
  have R2 := hide hrd2
  have B2 := hide (B1.out.grown hg2 (by intro e; injection e with e; omega))
  have W2 := hide (W1.out.grown hg2 W1.out.size (by intro q hq; injection hq with hq; omega))
  obtain ⟨_, _, _, k2⟩ := hrd2.open0
  clear hrd2 hg2 k1
  go_wp2_with fail
  refine (highSize_any _ K).mono ?_
  rintro e w2' ⟨rfl, rfl⟩
  rw [HM.out]
  go_wp2_with fail
  refine (num_any _ _ g _ _ R2.out m (WalkArith.wf_i64 (by omega))).mono ?_
  rintro e w3 ⟨rfl, hrd3, hg3⟩
  rw [HH.out]
  have R3 := hide hrd3
  have B3 := hide (B2.out.grown hg3 (by intro e; injection e with e; omega))
  have W3 := hide (W2.out.grown hg3 W2.out.size (by intro q hq; injection hq with hq; omega))
  obtain ⟨_, _, _, k3⟩ := hrd3.open0
  clear hrd3 hg3 k2
  go_wp2_with fail
  refine R3.out.left.mono ?_
  rintro e w3' ⟨rfl, rfl⟩
  go_wp2_with fail
  refine (num_any _ _ g _ _ R3.out _ (WalkArith.wf_i64 (by have := HR.out; omega))).mono ?_
  rintro e w4 ⟨rfl, hrd4, hg4⟩
  rw [HLL.out]
  have B4 := hide (B3.out.grown hg4 (by intro e; injection e with e; omega))
  have W4 := hide (W3.out.grown hg4 W3.out.size (by intro q hq; injection hq with hq; omega))
  clear hrd4 hg4 k3
  go_wp2_with fail
  refine (make_any _ K H L).mono ?_
  rintro e w5 ⟨rfl, hb5⟩
  have B5 := hide (B4.out.over hb5)
  have W5 := hide (below_step W4.out hb5 (Nat.le_refl _))
  clear hb5
  obtain ⟨q, hq⟩ : ∃ q, knownR d = q := ⟨_, rfl⟩
  rw [hq] at HMK
  have HQ := hide hq
  clear hq
  cases q
  all_goals
    go_wp2_with (first
      | (refine wpList_store_rd rfl (.tmp 10) (.tmp 31) rfl w5.heap.size rfl rfl HML.out (Blk.new w5 _ _) rfl ?_; intro w6 hb6 hg6; have HB6 := hide hb6; have B6 := hide (B5.out.stays _ hg6 (Nat.le_refl _)); have W6 := hide (below_made W5.out (Nat.le_refl _) _ hg6 (Nat.le_refl _)); clear hb6 hg6)
      | (with_reducible refine wpList_load_rd rfl (.tmp 10) rfl w5.heap.size rfl HB6.out HML.out ?_)
      | (with_reducible refine wpList_load_rd rfl (.tmp 1) rfl w.heap.size rfl B6.out HL.out ?_)
      | ((refine wpList_neq_rd ?_ (.tmp 33) (.tmp 34) rfl rfl rfl HML.out HL.out ?_); (· rfl); rw [HMK.out]))
    (try simp only [Exit.inBlock, Exit.then])
    refine bodyPost_ret (res4 rfl _ _ _) rfl ?_
    rw [HQ.out]
    have hv := HV.out _ HQ.out
    first
      | (rw [(hv.2 rfl).1, (hv.2 rfl).2.1, (hv.2 rfl).2.2]; exact ⟨rfl, W6.out⟩)
      | (rw [(hv.1 rfl).1, (hv.1 rfl).2.1, (hv.1 rfl).2.2]; exact ⟨rfl, W6.out⟩)

end Go.Proofs.YtdeapmeionpabaaDoor
