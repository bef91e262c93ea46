/-
  What a value says where it says an address or communities, in whatever memory. No condition.
-/
import Derived.Test.YtjhpikbilegfaaaDoorAtStep
namespace Go.Proofs.YtjhpikbilegfaaaDoor
open Go.RowKit
set_option linter.unusedVariables false
set_option linter.unusedSimpArgs false

set_option maxRecDepth 20000 in
set_option maxHeartbeats 2000000 in
theorem four_any (w : World) (lo g : Nat) (bs : List UInt8) (bad : Bool) (h : Rd w lo g bs bad) :
    Calls Tryd.prog 103 #[.pointer (some ⟨g, 0, none⟩)] w fun e w' => e = .returned (.agg (addrC (ofS (stepTaken bs 4)) (ofB (stepTaken bs 4)))) ∧ Rd w' lo g (stepRest bs 4) (bad || !stepB bs 4) ∧ w.grownBy w' (some g) := by
  have hgl := h.lt
  have RES := hide (Blk.new w 43 #[.int .i64 0, .int .u8 0, .int .u8 0, .int .u8 0, .int .u8 0, .int .u8 0, .int .u8 0, .int .u8 0, .int .u8 0, .int .u8 0, .int .u8 0, .int .u8 0, .int .u8 0, .int .u8 0, .int .u8 0, .int .u8 0, .int .u8 0])
  have R0 : Hid (Rd (w.alloc (.cells #[.int .i64 0, .int .u8 0, .int .u8 0, .int .u8 0, .int .u8 0, .int .u8 0, .int .u8 0, .int .u8 0, .int .u8 0, .int .u8 0, .int .u8 0, .int .u8 0, .int .u8 0, .int .u8 0, .int .u8 0, .int .u8 0, .int .u8 0] 43)) lo g bs bad) := hide (h.keep (grown_alloc (grown_refl w none) _) (by simp))
  have G0 : Hid (w.grownBy (w.alloc (.cells #[.int .i64 0, .int .u8 0, .int .u8 0, .int .u8 0, .int .u8 0, .int .u8 0, .int .u8 0, .int .u8 0, .int .u8 0, .int .u8 0, .int .u8 0, .int .u8 0, .int .u8 0, .int .u8 0, .int .u8 0, .int .u8 0, .int .u8 0] 43)) (some g)) := hide (grown_alloc (grown_refl w _) _)
  have hq : w.heap.size + 1 ≤ (w.alloc (.cells #[.int .i64 0, .int .u8 0, .int .u8 0, .int .u8 0, .int .u8 0, .int .u8 0, .int .u8 0, .int .u8 0, .int .u8 0, .int .u8 0, .int .u8 0, .int .u8 0, .int .u8 0, .int .u8 0, .int .u8 0, .int .u8 0, .int .u8 0] 43)).heap.size := by simp
  clear h
  go_enter Tryd.func103, Tryd.ntmps103
  go_wp2_with fail
  generalize hw0 : w.alloc (.cells #[.int .i64 0, .int .u8 0, .int .u8 0, .int .u8 0, .int .u8 0, .int .u8 0, .int .u8 0, .int .u8 0, .int .u8 0, .int .u8 0, .int .u8 0, .int .u8 0, .int .u8 0, .int .u8 0, .int .u8 0, .int .u8 0, .int .u8 0] 43) = w0 at *
  clear hw0
  refine (take_any w0 lo g bs bad R0.out 4 (by decide)).mono ?_
  rintro e w1 ⟨v1, rfl, ho1, hr1, hg1⟩
  obtain ⟨A1, c1, rfl, _, _⟩ := own_shape ho1
  have O1 := hide ho1
  have R1 := hide hr1
  have B1 := hide (RES.out.grown hg1 (fun e => by injection e; omega))
  have G1 := hide (grown_trans G0.out hg1)
  have hq1 := Nat.le_trans hq hg1.size
  clear ho1 hr1 hg1 R0 RES G0 hq
  go_wp2_with fail
  refine (of_any w1 _ _ A1 _ c1 _ (At.own O1.out) (Nat.le_refl _)).mono ?_
  obtain ⟨S, hS⟩ : ∃ S, ofS (stepTaken bs 4) = S := ⟨_, rfl⟩
  obtain ⟨BB, hB⟩ : ∃ BB, ofB (stepTaken bs 4) = BB := ⟨_, rfl⟩
  have hbl : BB.length = 16 := by rw [← hB]; exact ofB_len _
  rw [hS, hB]
  rintro e w2 ⟨rfl, hb2⟩
  have R2 := hide (R1.out.keep (grown_of_below hb2 none) (by simp))
  have B2 := hide (B1.out.over hb2)
  have G2 := hide (grown_trans G1.out (grown_of_below hb2 _))
  have hq2 := Nat.le_trans hq1 hb2.size
  have NEW := hide (Blk.new w2 43 #[.int .i64 0, .int .u8 0, .int .u8 0, .int .u8 0, .int .u8 0, .int .u8 0, .int .u8 0, .int .u8 0, .int .u8 0, .int .u8 0, .int .u8 0, .int .u8 0, .int .u8 0, .int .u8 0, .int .u8 0, .int .u8 0, .int .u8 0])
  have HSS := hide hS
  have HBB := hide hB
  clear hb2 R1 B1 G1 O1 hS hB
  go_wp2_with (refine wpList_store_addr rfl (.tmp 3) (.tmp 9) rfl w2.heap.size rfl rfl hbl NEW.out rfl ?_; intro w3 hb3 hg3; have B3 := hide hb3; have G3 := hide hg3; clear hb3 hg3; refine Hid.out ?_)
  refine hide ?_
  have hg23 : w2.grownBy w3 none := ⟨G3.out.os, G3.out.tape, G3.out.output, Nat.le_trans (by simp) G3.out.size, fun k hk _ => (G3.out.block k (by simp; omega) (fun e => by injection e; omega)).trans (Below.heap_alloc w2 _ k hk)⟩
  have R3 := hide (R2.out.keep hg23 (by simp))
  have C3 := hide (B2.out.grown hg23 (by simp))
  have G23 := hide (grown_trans G2.out (show w2.grownBy w3 (some g) from ⟨hg23.os, hg23.tape, hg23.output, hg23.size, fun k hk _ => hg23.block k hk (by simp)⟩))
  clear hg23 G3 NEW R2 B2 G2
  go_wp2_with (first
    | (with_reducible refine wpList_load_addr rfl (.tmp 3) rfl w2.heap.size rfl B3.out hbl ?_)
    | (refine wpList_store_addr rfl (.tmp 2) (.tmp 11) rfl w.heap.size rfl rfl hbl C3.out rfl ?_; intro w4 hb4 hg4; have B4 := hide hb4; have G4 := hide hg4; clear hb4 hg4; refine Hid.out ?_))
  refine hide ?_
  go_wp2
  refine ret_addr1 (p := 2) rfl rfl B4.out hbl rfl ?_
  refine ⟨by rw [HSS.out, HBB.out], R3.out.keep G4.out (fun k hk => by injection hk; exact .inr (by omega)), grown_own G23.out G4.out (Nat.le_refl _)⟩
set_option maxRecDepth 20000 in
set_option maxHeartbeats 1000000 in
theorem said_9 (w : World) (lo hi : Nat) (A : Option Addr) (n c : Nat) (s : Int) (b : List UInt8) (hl : b.length = 16) (hf : four s b = true) (h : At w lo hi A n (bytesA s b)) (hh : hi ≤ w.heap.size) :
    Calls Tryd.prog 96 #[.int .i64 9, .slice A n c] w (SaidPost w 9 (.orig s b)) := by
  obtain ⟨h4, hlen, hs, hb⟩ := four_len hl hf
  have hn : n ≤ 4 := by have h1 := h.len; omega
  have H := hide h
  have htk : stepTaken (bytesA s b) 4 = bytesA s b := by
    have hst : stepB (bytesA s b) 4 = true := by unfold stepB; rw [decide_eq_true_eq, hlen]; decide
    unfold stepTaken
    rw [if_pos hst]
    exact List.take_of_length_le (by rw [hlen]; decide)
  have HTK := hide htk
  have HS := hide hs
  have HB := hide hb
  clear h hf hlen htk hs hb h4
  go_enter Tryd.func96, Tryd.ntmps96
  go_wp2_with fail
  refine (open_any w lo hi A n c (bytesA s b) H.out hh (by omega)).mono ?_
  rintro e w1 ⟨g, rfl, hgl, hr1, hb1⟩
  have R1 := hide hr1
  have W1 := hide hb1
  clear hr1 hb1
  go_wp2_with fail
  refine (four_any w1 w.heap.size g (bytesA s b) false R1.out).mono ?_
  rw [HTK.out, HS.out, HB.out]
  rintro e w2 ⟨rfl, hr2, hg2⟩
  have W2 := hide (W1.out.grown hg2 W1.out.size (fun k hk => by injection hk; omega))
  clear hr2 hg2
  go_wp2
  go_ret
  refine ⟨_, _, rfl, W2.out, fun p lo' hi' hhi hp => ⟨{ p with os := s, ob := b }, ?_, rfl, fun y => with_9 y p hp.ob s b hl⟩⟩
  have hq := hp.below (W2.out.mono hhi)
  exact ⟨hl, ⟨_, _, .inl ⟨rfl, rfl⟩, hq.path⟩, ⟨_, _, .inl ⟨rfl, rfl⟩, hq.cl⟩, ⟨_, _, .inl ⟨rfl, rfl⟩, hq.ex⟩, ⟨_, _, .inl ⟨rfl, rfl⟩, hq.tl⟩, hq.pc, hq.cc, hq.ec, hq.tc⟩
theorem atE_own {w : World} {base n c : Nat} {A : Option Addr} {l : List B8} (hl : l.length = n) (h : w.ownsRow base 99 8 (.slice A n c) n (bvs (flat8 l))) : AtE w base w.heap.size A n l := by
  refine ⟨hl, by rw [flat8_len, hl], fun hn => ?_⟩
  rcases h.2 with ⟨_, h2⟩ | ⟨g, cap, cur, h1, h2, h3, h4, h5, h6, h7⟩
  · omega
  · injection h1 with e1 e2 e3
    have hb : Blk w g 99 cur := h3
    refine ⟨g, 0, e1, h2, hb.lt, fun k u hu => ?_⟩
    rw [Nat.zero_add, hb.cell]
    have h8 : (bvs (flat8 l))[k]? = some (bv u) := by unfold bvs; rw [List.getElem?_map, hu]; rfl
    rw [← h7, List.getElem?_take] at h8
    split at h8
    · simpa using h8
    · cases h8
set_option maxRecDepth 20000 in
set_option maxHeartbeats 1000000 in
theorem said_16 (w : World) (lo hi : Nat) (A : Option Addr) (n c : Nat) (l : List B8) (hll : l.length ≤ 64) (h : At w lo hi A n (flat8 l)) (hh : hi ≤ w.heap.size) :
    Calls Tryd.prog 96 #[.int .i64 16, .slice A n c] w (SaidPost w 16 (.exts l)) := by
  have hn : n ≤ 512 := by have h1 := h.len; rw [flat8_len] at h1; omega
  have H := hide h
  obtain ⟨hr, he⟩ := rowL_flat l
  have HR := hide hr
  have HE := hide he
  clear h hr he
  go_enter Tryd.func96, Tryd.ntmps96
  go_wp2_with fail
  refine (open_any w lo hi A n c (flat8 l) H.out hh (by omega)).mono ?_
  rintro e w1 ⟨g, rfl, hgl, hr1, hb1⟩
  have W1 := hide hb1
  have H1 := hide (H.out.below (hb1.mono hh))
  clear hr1 hb1 H
  go_wp2_with fail
  refine (comreadrow_any w1 lo hi A n c (flat8 l) H1.out (Nat.le_trans hh W1.out.size) (by omega)).mono ?_
  rw [HR.out, HE.out]
  rintro e w2 ⟨v2, rfl, ho2, hb2⟩
  obtain ⟨A2, c2, rfl, hc2, _⟩ := ownG_shape ho2
  have W2 := hide (below_step W1.out hb2 (Nat.le_refl _))
  have E2 := hide (atE_own rfl ho2)
  clear ho2 hb2
  obtain ⟨m, hm⟩ : ∃ m, l.length = m := ⟨_, rfl⟩
  rw [hm] at E2 hc2 ⊢
  clear hm
  go_wp2
  go_ret
  refine ⟨_, _, rfl, W2.out, fun p lo' hi' hhi hp => ⟨{ p with eA := A2, en := m, ec := c2, ex := l }, ?_, rfl, fun y => with_16 y p hp.ob A2 m c2 l⟩⟩
  have hq := hp.below (W2.out.mono hhi)
  exact ⟨hq.ob, ⟨_, _, .inl ⟨rfl, rfl⟩, hq.path⟩, ⟨_, _, .inl ⟨rfl, rfl⟩, hq.cl⟩, ⟨_, _, .inr ⟨rfl, rfl⟩, E2.out.more W1.out.size (Nat.le_refl _)⟩, ⟨_, _, .inl ⟨rfl, rfl⟩, hq.tl⟩, hq.pc, hq.cc, hc2, hq.tc⟩
theorem say_orig (s : Int) (b : List UInt8) (hl : b.length = 16) (hf : four s b = true) (a0 : Ats) : Sayable (.orig s b) a0 where
  said := fun x lo hi A n c h hh _ => said_9 x lo hi A n c s b hl hf h hh
  value := fun x p' lo h he => by
    have h1 : p'.os = s := congrArg Ats.os he
    have h2 : p'.ob = b := congrArg Ats.ob he
    have h3 := value_9 x lo x.heap.size p' h (Nat.le_refl _) (by rw [h1, h2]; exact hf)
    rw [h1, h2] at h3
    exact h3
theorem say_exts (l : List B8) (hll : l.length ≤ 64) (hne : l ≠ []) (a0 : Ats) : Sayable (.exts l) a0 where
  said := fun x lo hi A n c h hh _ => said_16 x lo hi A n c l hll h hh
  value := fun x p' lo h he => by
    have h1 : p'.ex = l := congrArg Ats.ex he
    have h2 := value_16 x lo x.heap.size p' h (Nat.le_refl _) (by rw [h1]; exact hll) (by rw [h1]; exact List.length_pos_iff.2 hne)
    rw [h1] at h2
    exact h2
end Go.Proofs.YtjhpikbilegfaaaDoor
