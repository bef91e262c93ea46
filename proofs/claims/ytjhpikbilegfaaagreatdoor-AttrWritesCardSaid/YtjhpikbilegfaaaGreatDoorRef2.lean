/-
  What the document's own answers of layer 2 do, in whatever memory: Right, Multicast, Compare, bit. No condition beyond sizes that fit memory.
  What the document's own Of and Bytes of layer 2 do. No condition beyond sizes that fit memory.
-/
import Derived.Test.YtjhpikbilegfaaaGreatDoorAddrV
import Derived.Test.YtjhpikbilegfaaaGreatDoorRefs
import Derived.Test.YtjhpikbilegfaaaGreatDoorMath
import Derived.Test.YtjhpikbilegfaaaGreatDoorBase
namespace Go.Proofs.YtjhpikbilegfaaaGreatDoor
open Go.RowKit
set_option linter.unusedVariables false
set_option linter.unusedSimpArgs false

set_option maxRecDepth 20000 in
set_option maxHeartbeats 1000000 in
theorem refright_any (w : World) (s : Int) (bs : List UInt8) (hl : bs.length = 16) :
    Calls Tryz.prog 60 #[.agg (addrC s bs)] w fun e w' => e = .returned (.bool (rightA s bs)) ∧ Below w.heap.size w w' := by
  have c0 := addrC_0 s bs
  have HL := hide hl
  have HA : Hid (At (w.alloc (.cells (addrC s bs) 25)) w.heap.size (w.heap.size + 1) (some ⟨w.heap.size, 1, none⟩) 16 bs) := At.addr (Blk.new w _ _) hl
  have c0' := ((Blk.new w 25 (addrC s bs)).cell 0).trans c0
  clear hl
  by_cases hs : sizeA s = true
  · have : s = 0 ∨ s = 4 ∨ s = 16 := of_decide_eq_true hs
    have HS := hide hs
    clear hs
    obtain ⟨n, hn, hn16⟩ : ∃ n : Nat, s = n ∧ n ≤ 16 := ⟨s.toNat, by omega, by omega⟩
    have HR : Hid (rightA s bs = (bs.drop n).all (· == 0)) := by unfold rightA; rw [HS.out, hn]; rfl
    have HN : Hid (s = n) := hn
    have HD : Hid ((bs.drop n).length = 16 - n) := hide (by rw [List.length_drop, HL.out])
    have HN16 := hide hn16
    clear hn hn16
    rcases this with rfl | rfl | rfl
    all_goals
      go_enter Tryz.func60, Tryz.ntmps60
      go_wp2
      go_loop [3] (fun i => ∃ k : Nat, n ≤ k ∧ k ≤ 16 ∧ i = .int .i64 k ∧ ((bs.drop n).take (k - n)).all (· == 0) = true) (fun i => 16 - (intOf i).toNat)
      case atStart => exact ⟨n, Nat.le_refl _, HN16.out, by rw [← HN.out], by simp⟩
      case round =>
        obtain ⟨k, hnk, hk, rfl, hall⟩ := hrel
        have HALL := hide hall
        clear hall
        by_cases hlt : k < 16
        · obtain ⟨b, o, u, hA, hu, hc⟩ := HA.out.at_ hlt
          simp only [Option.some.injEq, Addr.mk.injEq, and_true] at hA
          obtain ⟨rfl, rfl⟩ := hA
          have HU : Hid ((bs.drop n)[k - n]? = some u) := hide (by rw [List.getElem?_drop, show n + (k - n) = k by omega]; exact hu)
          clear hu
          by_cases hb : u = 0
          · subst hb
            go_wp2
            go_round
            case rel => exact ⟨k + 1, by omega, by omega, by go_num, by rw [show k + 1 - n = (k - n) + 1 by omega, all_take_succ HU.out, HALL.out]; rfl⟩
            case measure => simp [intOf]; omega
          · have hb' : ((u.toNat : Int) != 0) = true := by
              have : u.toNat ≠ 0 := fun e => hb (UInt8.toNat_inj.1 e)
              simp; omega
            have HB := hide hb
            clear hb
            go_wp2
            go_ret
            exact ⟨by rw [HR.out, all_false HU.out (by simpa using HB.out)]; rfl, (Below.refl _ _).alloc (Nat.le_refl _) _⟩
        · obtain rfl : k = 16 := by omega
          rw [← HD.out, List.take_length] at HALL
          clear hlt hk
          go_wp2
          go_ret
          exact ⟨by rw [HR.out, HALL.out]; rfl, (Below.refl _ _).alloc (Nat.le_refl _) _⟩
  · have hs' : sizeA s = false := by simpa using hs
    have hr : rightA s bs = false := by unfold rightA; rw [hs']; rfl
    rw [hr]
    have h0 : ¬ (s = 0 ∨ s = 4 ∨ s = 16) := of_decide_eq_false hs'
    have e0 : (s != 0) = true := by simp; omega
    have e4 : (s != 4) = true := by simp; omega
    have e6 : (s != 16) = true := by simp; omega
    clear hs hs' hr h0
    go_enter Tryz.func60, Tryz.ntmps60
    go_wp2
    go_ret
    exact ⟨rfl, (Below.refl _ _).alloc (Nat.le_refl _) _⟩

set_option maxRecDepth 20000 in
set_option maxHeartbeats 1000000 in
theorem refmulti_any (w : World) (s : Int) (bs : List UInt8) (hl : bs.length = 16) :
    Calls Tryz.prog 73 #[.agg (addrC s bs)] w fun e w' => e = .returned (.bool (multiA s bs)) ∧ Below w.heap.size w w' := by
  obtain ⟨b, hb⟩ : ∃ b, bs[0]? = some b := ⟨bs[0]'(by omega), List.getElem?_eq_getElem _⟩
  have c0 := addrC_0 s bs
  have c1 : (addrC s bs)[1]? = some (.int .u8 (b.toNat : Int)) := addrC_byte s hb
  have HB := hide (Blk.new w 25 (addrC s bs))
  have hm := multiA_eq s bs hb
  have HL := hide hl
  clear hl hb
  have hbl := b.toNat_lt
  obtain ⟨r, HR⟩ : ∃ r : Bool, Hid (rightA s bs = r) := ⟨_, hide rfl⟩
  rw [HR.out] at hm
  have HM := hide hm
  clear hm
  cases r
  · rw [HM.out]
    go_enter Tryz.func73, Tryz.ntmps73
    go_wp2_with (with_reducible refine wpList_load_addr rfl (.tmp 1) rfl w.heap.size rfl HB.out HL.out ?_)
    refine (refright_any _ _ bs HL.out).mono ?_
    rintro e w1 ⟨rfl, hb1⟩
    rw [HR.out]
    go_wp2_with fail
    go_ret
    exact ⟨rfl, (Below.refl _ _).alloc (Nat.le_refl _) _ |>.trans (hb1.mono (by simp))⟩
  · have hkind : (s = 4 ∧ ((b.toNat : Int) < 224 ∨ 240 ≤ (b.toNat : Int)) ∧ multiA s bs = false) ∨ (s = 4 ∧ (224 ≤ (b.toNat : Int) ∧ (b.toNat : Int) < 240) ∧ multiA s bs = true) ∨
        (s = 16 ∧ (b.toNat : Int) = 255 ∧ multiA s bs = true) ∨ (s = 16 ∧ (b.toNat : Int) ≠ 255 ∧ multiA s bs = false) ∨ (s ≠ 4 ∧ s ≠ 16 ∧ multiA s bs = false) := by
      rw [HM.out]
      simp
      omega
    clear HM
    rcases hkind with ⟨rfl, h1 | h1, hv⟩ | ⟨rfl, ⟨h1, h2⟩, hv⟩ | ⟨rfl, h1, hv⟩ | ⟨rfl, h1, hv⟩ | ⟨h1, h2, hv⟩
    case' inr.inr.inr.inl => have h1' : ((b.toNat : Int) == 255) = false := by simpa using h1
    case' inr.inr.inr.inr =>
      have e4 : (s == 4) = false := by simpa using h1
      have e6 : (s == 16) = false := by simpa using h2
    all_goals
      rw [hv]
      clear hv
      go_enter Tryz.func73, Tryz.ntmps73
      go_wp2_with (with_reducible refine wpList_load_addr rfl (.tmp 1) rfl w.heap.size rfl HB.out HL.out ?_)
      refine (refright_any _ _ bs HL.out).mono ?_
      rintro e w1 ⟨rfl, hb1⟩
      rw [HR.out]
      have B1 := HB.out.below hb1 (by simp)
      have c0' := (B1.cell 0).trans c0
      have c1' := (B1.cell 1).trans c1
      go_wp2_with fail
      go_ret
      exact ⟨by first | rfl | (congr 2; simpa using by omega) | (simp [Act.put]; omega), (Below.refl _ _).alloc (Nat.le_refl _) _ |>.trans (hb1.mono (by simp))⟩
end Go.Proofs.YtjhpikbilegfaaaGreatDoor
namespace Go.Proofs.YtjhpikbilegfaaaGreatDoor
open Go.RowKit
set_option linter.unusedVariables false
set_option linter.unusedSimpArgs false

theorem pad_set {xs : List UInt8} {j : Nat} {u : UInt8} (hj : j < 16) (h : xs[j]? = some u) : (pad (xs.take j)).set j u = pad (xs.take (j + 1)) := by
  have hl : j < xs.length := by
    rcases Nat.lt_or_ge j xs.length with h' | h'
    · exact h'
    · rw [List.getElem?_eq_none h'] at h; cases h
  have ht : (xs.take j).length = j := by rw [List.length_take]; omega
  unfold pad
  rw [take_snoc xs j u h, List.set_append_right _ _ (by omega), ht, Nat.sub_self, List.length_append, ht]
  have h4 : 16 - j = (16 - (j + [u].length)) + 1 := by simp; omega
  rw [h4, List.replicate_succ, List.set_cons_zero, List.append_assoc]
  rfl
theorem pad_0 (xs : List UInt8) : pad (xs.take 0) = zero16 := by
  rw [List.take_zero]
  rfl
set_option maxRecDepth 20000 in
set_option maxHeartbeats 2000000 in
theorem refaof_no (w : World) (A : Option Addr) (n c : Nat) (hs : sizeA n = false) :
    Calls Tryz.prog 72 #[.slice A n c] w fun e w' => e = .returned (.tuple #[.agg (addrC 0 zero16), .int .i64 1]) ∧ Below w.heap.size w w' := by
  have HZ := hide (addrC_zero 0)
  have h' : ¬ ((n : Int) = 0 ∨ (n : Int) = 4 ∨ (n : Int) = 16) := of_decide_eq_false hs
  have e0 : ((n : Int) != 0) = true := by simp; omega
  have e4 : ((n : Int) != 4) = true := by simp; omega
  have e6 : ((n : Int) != 16) = true := by simp; omega
  have Z0 : Hid (Blk ((w.alloc (.cells #[.int .i64 0, .int .u8 0, .int .u8 0, .int .u8 0, .int .u8 0, .int .u8 0, .int .u8 0, .int .u8 0, .int .u8 0, .int .u8 0, .int .u8 0, .int .u8 0, .int .u8 0, .int .u8 0, .int .u8 0, .int .u8 0, .int .u8 0] 25)).alloc (.cells #[.int .i64 0, .int .u8 0, .int .u8 0, .int .u8 0, .int .u8 0, .int .u8 0, .int .u8 0, .int .u8 0, .int .u8 0, .int .u8 0, .int .u8 0, .int .u8 0, .int .u8 0, .int .u8 0, .int .u8 0, .int .u8 0, .int .u8 0] 25)) (w.heap.size + 1) 25 (addrC 0 zero16)) := by
    rw [HZ.out]
    exact blk_new2 w _ _ _
  clear hs h'
  go_enter Tryz.func72, Tryz.ntmps72
  go_wp2_with (first
    | (with_reducible refine wpList_load_addr rfl (.tmp 4) rfl (w.heap.size + 1) rfl Z0.out zero16_len ?_)
    | (refine wpList_store_addr rfl (.tmp 2) (.tmp 19) rfl w.heap.size rfl rfl zero16_len ((Blk.new w _ _).alloc _) rfl ?_; intro w4 hb4 hg4; have HB4 := hide hb4; have HG4 := hide hg4; clear hb4 hg4))
  refine ret_addr2 (p := 2) (q := 3) (v := .int .i64 1) rfl rfl rfl HB4.out zero16_len rfl ?_
  refine ⟨rfl, ?_⟩
  have k1 := ((Below.refl w.heap.size w).alloc (Nat.le_refl _) (.cells #[.int .i64 0, .int .u8 0, .int .u8 0, .int .u8 0, .int .u8 0, .int .u8 0, .int .u8 0, .int .u8 0, .int .u8 0, .int .u8 0, .int .u8 0, .int .u8 0, .int .u8 0, .int .u8 0, .int .u8 0, .int .u8 0, .int .u8 0] 25)).alloc (by simp) (.cells #[.int .i64 0, .int .u8 0, .int .u8 0, .int .u8 0, .int .u8 0, .int .u8 0, .int .u8 0, .int .u8 0, .int .u8 0, .int .u8 0, .int .u8 0, .int .u8 0, .int .u8 0, .int .u8 0, .int .u8 0, .int .u8 0, .int .u8 0] 25)
  exact k1.grown HG4.out k1.size (by simp)
set_option maxRecDepth 20000 in
set_option maxHeartbeats 4000000 in
theorem refaof_yes (w : World) (lo hi : Nat) (A : Option Addr) (n c : Nat) (xs : List UInt8) (h : At w lo hi A n xs) (hh : hi ≤ w.heap.size) (hs : n = 0 ∨ n = 4 ∨ n = 16) :
    Calls Tryz.prog 72 #[.slice A n c] w fun e w' => e = .returned (.tuple #[.agg (addrC n (pad xs)), .int .i64 0]) ∧ Below w.heap.size w w' := by
  have HZ := hide (addrC_zero 0)
  have H := hide h
  have HPL := hide (pad_len (xs := xs) (by rw [h.len]; omega))
  have Z2 : Hid (Blk ((w.alloc (.cells #[.int .i64 0, .int .u8 0, .int .u8 0, .int .u8 0, .int .u8 0, .int .u8 0, .int .u8 0, .int .u8 0, .int .u8 0, .int .u8 0, .int .u8 0, .int .u8 0, .int .u8 0, .int .u8 0, .int .u8 0, .int .u8 0, .int .u8 0] 25)).alloc (.cells #[.int .i64 0, .int .u8 0, .int .u8 0, .int .u8 0, .int .u8 0, .int .u8 0, .int .u8 0, .int .u8 0, .int .u8 0, .int .u8 0, .int .u8 0, .int .u8 0, .int .u8 0, .int .u8 0, .int .u8 0, .int .u8 0, .int .u8 0] 25)) w.heap.size 25 #[.int .i64 0, .int .u8 0, .int .u8 0, .int .u8 0, .int .u8 0, .int .u8 0, .int .u8 0, .int .u8 0, .int .u8 0, .int .u8 0, .int .u8 0, .int .u8 0, .int .u8 0, .int .u8 0, .int .u8 0, .int .u8 0, .int .u8 0]) := (Blk.new w _ _).alloc _
  have Z4 : Hid (Blk ((w.alloc (.cells #[.int .i64 0, .int .u8 0, .int .u8 0, .int .u8 0, .int .u8 0, .int .u8 0, .int .u8 0, .int .u8 0, .int .u8 0, .int .u8 0, .int .u8 0, .int .u8 0, .int .u8 0, .int .u8 0, .int .u8 0, .int .u8 0, .int .u8 0] 25)).alloc (.cells #[.int .i64 0, .int .u8 0, .int .u8 0, .int .u8 0, .int .u8 0, .int .u8 0, .int .u8 0, .int .u8 0, .int .u8 0, .int .u8 0, .int .u8 0, .int .u8 0, .int .u8 0, .int .u8 0, .int .u8 0, .int .u8 0, .int .u8 0] 25)) (w.heap.size + 1) 25 (addrC 0 (pad (xs.take 0)))) := by
    rw [pad_0, HZ.out]
    exact blk_new2 w _ _ _
  have W2 : Hid (Below w.heap.size w ((w.alloc (.cells #[.int .i64 0, .int .u8 0, .int .u8 0, .int .u8 0, .int .u8 0, .int .u8 0, .int .u8 0, .int .u8 0, .int .u8 0, .int .u8 0, .int .u8 0, .int .u8 0, .int .u8 0, .int .u8 0, .int .u8 0, .int .u8 0, .int .u8 0] 25)).alloc (.cells #[.int .i64 0, .int .u8 0, .int .u8 0, .int .u8 0, .int .u8 0, .int .u8 0, .int .u8 0, .int .u8 0, .int .u8 0, .int .u8 0, .int .u8 0, .int .u8 0, .int .u8 0, .int .u8 0, .int .u8 0, .int .u8 0, .int .u8 0] 25))) := ((Below.refl _ _).alloc (Nat.le_refl _) _).alloc (by simp) _
  have c0 := Z4.out.cell 0
  rw [addrC_0] at c0
  have f0 := Z4.out.frozen 0
  obtain ⟨N, HN⟩ : ∃ N, Hid (N = n) := ⟨n, rfl⟩
  obtain ⟨z, HZI⟩ : ∃ z, Hid (z = (n : Int)) := ⟨_, rfl⟩
  have hN16 : N ≤ 16 := by have := HN.out; omega
  have HS0 : Hid (∀ q l, (addrC 0 l).setIfInBounds 0 (.int .i64 q) = addrC q l) := by intro q l; unfold addrC; simp
  rw [← HZI.out]
  clear h
  rcases hs with rfl | rfl | rfl
  all_goals
    go_enter Tryz.func72, Tryz.ntmps72
    go_wp2
    go_loopw [5] (fun i wr => ∃ j : Nat, j ≤ N ∧ i = .int .i64 j ∧ Blk wr w.heap.size 25 #[.int .i64 0, .int .u8 0, .int .u8 0, .int .u8 0, .int .u8 0, .int .u8 0, .int .u8 0, .int .u8 0, .int .u8 0, .int .u8 0, .int .u8 0, .int .u8 0, .int .u8 0, .int .u8 0, .int .u8 0, .int .u8 0, .int .u8 0] ∧ Blk wr (w.heap.size + 1) 25 (addrC z (pad (xs.take j))) ∧ Below w.heap.size w wr) (fun i _ => N - (intOf i).toNat)
    case atStart => exact ⟨0, Nat.zero_le _, rfl, (Blk.new w _ _).alloc _, by rw [pad_0, HZI.out, addrC_zero]; exact blk_new2 w _ _ _, ((Below.refl _ _).alloc (Nat.le_refl _) _).alloc (by simp) _⟩
    case round =>
      obtain ⟨j, hj, rfl, hb2, hb4, hbel⟩ := hrel
      have C2 := hide hb2
      have C4 := hide hb4
      have HBE := hide hbel
      clear hb2 hb4 hbel c0 f0
      by_cases hlt : j < N
      · have hN := HN.out
        obtain ⟨b, o, u, rfl, hu, hcell⟩ := (H.out.below (HBE.out.mono hh)).at_ (k := j) (by omega)
        have hj16 : j < 16 := by omega
        have HS := hide (pad_set hj16 hu)
        obtain ⟨y, hy⟩ : ∃ y, (pad (xs.take j))[j]? = some y := ⟨_, List.getElem?_eq_getElem (by rw [pad_len (by rw [List.length_take]; omega)]; exact hj16)⟩
        have hcur := (C4.out.cell (1 + j)).trans (addrC_byte z hy)
        have hfz := C4.out.frozen (1 + j)
        clear hu hy
        first
          | (go_wp2; done)
          | (go_wp2
             go_roundw
             case rel =>
               refine ⟨j + 1, by omega, by go_num, C2.out.far (by simp) _, ?_, below_setCell HBE.out (by simp) _⟩
               have h := C4.out.set_ (1 + j) (.int .u8 (u.toNat : Int))
               rw [addrC_set, HS.out] at h
               exact h
             case measure => first | (simp [intOf]; done) | (simp [intOf]; omega))
      · obtain rfl : j = N := by omega
        have hN := HN.out
        have HF : Hid (xs.take j = xs) := hide (List.take_of_length_le (by rw [H.out.len]; omega))
        go_wp2_with (first
          | (with_reducible refine wpList_load_addr rfl (.tmp 4) rfl (w.heap.size + 1) rfl C4.out (by rw [HF.out]; exact HPL.out) ?_)
          | (refine wpList_store_addr rfl (.tmp 2) (.tmp 36) rfl w.heap.size rfl rfl (by rw [HF.out]; exact HPL.out) C2.out rfl ?_; intro w4 hb4 hg4; have HB4 := hide hb4; have HG4 := hide hg4; clear hb4 hg4))
        refine ret_addr2 (p := 2) (q := 3) (v := .int .i64 0) rfl rfl rfl HB4.out (by rw [HF.out]; exact HPL.out) rfl ?_
        exact ⟨by rw [HF.out], HBE.out.grown HG4.out HBE.out.size (by simp)⟩
theorem refaof_any (w : World) (lo hi : Nat) (A : Option Addr) (n c : Nat) (xs : List UInt8) (h : At w lo hi A n xs) (hh : hi ≤ w.heap.size) :
    Calls Tryz.prog 72 #[.slice A n c] w fun e w' => e = .returned (.tuple #[.agg (addrC (ofS xs) (ofB xs)), .int .i64 (ofE xs)]) ∧ Below w.heap.size w w' := by
  unfold ofS ofB ofE
  rw [h.len]
  by_cases hs : sizeA n = true
  · rw [if_pos hs, if_pos hs, if_pos hs]
    exact refaof_yes w lo hi A n c xs h hh (sizeA_nat hs)
  · rw [if_neg hs, if_neg hs, if_neg hs]
    exact refaof_no w A n c (by simpa using hs)

set_option maxRecDepth 20000 in
set_option maxHeartbeats 2000000 in
theorem refabytes_any (w : World) (s : Int) (bs : List UInt8) (hl : bs.length = 16) :
    Calls Tryz.prog 21 #[.agg (addrC s bs)] w fun e w' => ∃ v, e = .returned v ∧ w'.ownsRow w.heap.size 5 1 v (bytesA s bs).length (bvs (bytesA s bs)) ∧ Below w.heap.size w w' := by
  obtain ⟨i0, hi0, hz0, hz1, hz2⟩ := info_parts u8_info
  have HB := hide (Blk.new w 25 (addrC s bs))
  have HW := hide ((Below.refl w.heap.size w).alloc (Nat.le_refl _) (.cells (addrC s bs) 25))
  have HL := hide hl
  by_cases hr : rightA s bs = true
  · have hb : bytesA s bs = bs.take s.toNat := by unfold bytesA; rw [if_pos hr]
    have HR := hide hr
    have hs := right_size hr
    rw [hb]
    clear hr hb hl
    rcases hs with rfl | rfl | rfl
    case' inl =>
      have hlen : (bs.take (Int.toNat 0)).length = 0 := by simp
      have hkt : bs.take (Int.toNat 0) = bs.take 0 := rfl
    case' inr.inl =>
      have hlen : (bs.take (Int.toNat 4)).length = 4 := by rw [List.length_take, HL.out]; rfl
      have hkt : bs.take (Int.toNat 4) = bs.take 4 := rfl
    case' inr.inr =>
      have hlen : (bs.take (Int.toNat 16)).length = 16 := by rw [List.length_take, HL.out]; rfl
      have hkt : bs.take (Int.toNat 16) = bs.take 16 := rfl
    all_goals
      rw [hlen, hkt]
      clear hlen hkt
      go_enter Tryz.func21, Tryz.ntmps21
      go_wp2_with (with_reducible refine wpList_load_addr rfl (.tmp 1) rfl w.heap.size rfl HB.out HL.out ?_)
      refine (refright_any _ _ bs HL.out).mono ?_
      rintro e w1 ⟨rfl, hb1⟩
      rw [HR.out]
      have B1 := hide (HB.out.on hb1)
      have W1 := hide (below_step HW.out hb1 (Nat.le_refl _))
      have c0 := (B1.out.cell 0).trans (addrC_0 _ bs)
      have HA := hide (At.addr B1.out HL.out)
      have hlt := B1.out.lt
      have hsz := W1.out.size
      clear hb1
      go_wp2_with (at_builtin; go_must (first
        | refine wpList_append_bytes _ rfl (.tmp 8) (.tmp 12) 42 rfl w.heap.size 5 i0 Tryz.underlying42 hi0 hz0 hz1 hz2 (.slice (some ⟨w1.heap.size, 0, none⟩) 0 0) 0 [] rfl (World.ownsRow_made w1 #[] 0 hsz (Nat.zero_le _) rfl) w.heap.size (w.heap.size + 1) (some ⟨w.heap.size, 1, none⟩) 16 16 (bs.take 16) rfl ((HA.out.head (by decide)).alloc (by omega) _) (by decide) (by simp; omega) ?_
        | refine wpList_append_bytes _ rfl (.tmp 8) (.tmp 12) 42 rfl w.heap.size 5 i0 Tryz.underlying42 hi0 hz0 hz1 hz2 (.slice (some ⟨w1.heap.size, 0, none⟩) 0 0) 0 [] rfl (World.ownsRow_made w1 #[] 0 hsz (Nat.zero_le _) rfl) w.heap.size (w.heap.size + 1) (some ⟨w.heap.size, 1, none⟩) 4 16 (bs.take 4) rfl ((HA.out.head (by decide)).alloc (by omega) _) (by decide) (by simp; omega) ?_
        | refine wpList_append_bytes _ rfl (.tmp 8) (.tmp 12) 42 rfl w.heap.size 5 i0 Tryz.underlying42 hi0 hz0 hz1 hz2 (.slice (some ⟨w1.heap.size, 0, none⟩) 0 0) 0 [] rfl (World.ownsRow_made w1 #[] 0 hsz (Nat.zero_le _) rfl) w.heap.size (w.heap.size + 1) (some ⟨w.heap.size, 1, none⟩) 0 16 (bs.take 0) rfl ((HA.out.head (by decide)).alloc (by omega) _) (by decide) (by simp; omega) ?_); intro v4 w4 hown4 hg4 hat4; have HO4 := hide hown4; have HG4 := hide hg4; clear hown4 hg4 hat4)
      go_ret
      refine ⟨_, rfl, by simpa using HO4.out, ?_⟩
      exact (W1.out.alloc hsz _).grown HG4.out (by simp; omega) (by intro q hq; simp [Value.ownBlock] at hq; omega)
  · have hr' : rightA s bs = false := by simpa using hr
    have hb : bytesA s bs = [] := by unfold bytesA; rw [if_neg hr]
    have HR := hide hr'
    rw [hb]
    clear hr hb hr' hl
    go_enter Tryz.func21, Tryz.ntmps21
    go_wp2_with (with_reducible refine wpList_load_addr rfl (.tmp 1) rfl w.heap.size rfl HB.out HL.out ?_)
    refine (refright_any _ _ bs HL.out).mono ?_
    rintro e w1 ⟨rfl, hb1⟩
    rw [HR.out]
    have W1 := hide (below_step HW.out hb1 (Nat.le_refl _))
    clear hb1
    go_wp2_with fail
    go_ret
    exact ⟨_, rfl, World.ownsRow_nil _ _ _ _, W1.out⟩
end Go.Proofs.YtjhpikbilegfaaaGreatDoor
