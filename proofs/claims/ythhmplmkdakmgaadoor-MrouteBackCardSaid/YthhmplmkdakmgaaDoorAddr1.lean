/-
  What Right, Bytes, Of, Compare and Multicast of package addr do, in whatever memory. No condition beyond sizes that fit memory.
-/
import Derived.Test.YthhmplmkdakmgaaDoorAddrV
import Derived.Test.YthhmplmkdakmgaaDoorMath
import Derived.Test.YthhmplmkdakmgaaDoorBase
namespace Go.Proofs.YthhmplmkdakmgaaDoor
open Go.RowKit
set_option linter.unusedVariables false
set_option linter.unusedSimpArgs false

theorem rightSize_any (w : World) (s : Int) :
    Calls Tryd.prog 81 #[.int .i64 s] w fun e w' => e = .returned (.bool (sizeA s)) ∧ w = w' := by
  have h : sizeA s = decide (s = 0 ∨ s = 4 ∨ s = 16) := rfl
  by_cases h0 : s = 0
  · subst h0
    have h' : sizeA 0 = true := rfl
    rw [h']
    clear h h'
    go_enter Tryd.func81, Tryd.ntmps81
    go_wp2
    go_ret
    exact ⟨rfl, rfl⟩
  · by_cases h4 : s = 4
    · subst h4
      have h' : sizeA 4 = true := rfl
      rw [h']
      clear h h' h0
      go_enter Tryd.func81, Tryd.ntmps81
      go_wp2
      go_ret
      exact ⟨rfl, rfl⟩
    · by_cases h6 : s = 16
      · subst h6
        have h' : sizeA 16 = true := rfl
        rw [h']
        clear h h' h0 h4
        go_enter Tryd.func81, Tryd.ntmps81
        go_wp2
        go_ret
        exact ⟨rfl, rfl⟩
      · have h' : sizeA s = false := by rw [h]; simp [h0, h4, h6]
        rw [h']
        clear h h'
        have e0 : (s == 0) = false := by simpa using h0
        have e4 : (s == 4) = false := by simpa using h4
        have e6 : (s == 16) = false := by simpa using h6
        clear h0 h4 h6
        go_enter Tryd.func81, Tryd.ntmps81
        go_wp2
        go_ret
        exact ⟨rfl, rfl⟩

set_option maxHeartbeats 800000 in
theorem right_any (w : World) (s : Int) (bs : List UInt8) (hl : bs.length = 16) :
    Calls Tryd.prog 58 #[.agg (addrC s bs)] w fun e w' => e = .returned (.bool (rightA s bs)) ∧ Below w.heap.size w w' := by
  have c0 := addrC_0 s bs
  have HL := hide hl
  have HA : Hid (At (w.alloc (.cells (addrC s bs) 26)) w.heap.size (w.heap.size + 1) (some ⟨w.heap.size, 1, none⟩) 16 bs) := At.addr (Blk.new w _ _) hl
  clear hl
  by_cases hs : sizeA s = true
  · have : s = 0 ∨ s = 4 ∨ s = 16 := of_decide_eq_true hs
    have HS := hide hs
    clear hs
    rcases this with rfl | rfl | rfl
    case' inl =>
      have HAT : Hid (At (w.alloc (.cells (addrC 0 bs) 26)) w.heap.size (w.heap.size + 1) (some ⟨w.heap.size, 1, none⟩) 16 (bs.drop 0)) := HA
      have HR : Hid (rightA 0 bs = (bs.drop 0).all (· == 0)) := by unfold rightA; rw [HS.out]; rfl
    case' inr.inl =>
      have HAT : Hid (At (w.alloc (.cells (addrC 4 bs) 26)) w.heap.size (w.heap.size + 1) (some ⟨w.heap.size, 5, none⟩) 12 (bs.drop 4)) := HA.out.tail (k := 4) (c := 16) (by omega) (by omega)
      have HR : Hid (rightA 4 bs = (bs.drop 4).all (· == 0)) := by unfold rightA; rw [HS.out]; rfl
    case inr.inr =>
      have hr : rightA 16 bs = true := by
        unfold rightA
        rw [HS.out, List.drop_of_length_le (by rw [HL.out]; decide)]
        rfl
      rw [hr]
      clear hr
      go_enter Tryd.func58, Tryd.ntmps58
      go_wp2_with (go_at_call 81; refine (rightSize_any _ _).mono ?_; rintro e w1 ⟨rfl, rfl⟩; rw [HS.out])
      refine wp_loop_rounds 1 ?_
      rw [rounds_succ]
      go_wp2
      go_ret
      exact ⟨rfl, (Below.refl _ _).alloc (Nat.le_refl _) _⟩
    all_goals
      generalize bs.drop _ = zs at HAT HR
      have HLEN := hide HAT.out.len
      go_enter Tryd.func58, Tryd.ntmps58
      go_wp2_with (go_at_call 81; refine (rightSize_any _ _).mono ?_; rintro e w1 ⟨rfl, rfl⟩; rw [HS.out])
      go_loop [14] (fun i => ∃ k : Nat, k ≤ zs.length ∧ i = .int .i64 k ∧ (zs.take k).all (· == 0) = true) (fun i => zs.length - (intOf i).toNat)
      case atStart => exact ⟨0, Nat.zero_le _, rfl, rfl⟩
      case round =>
        obtain ⟨k, hk, rfl, hall⟩ := hrel
        have HALL := hide hall
        clear hall
        by_cases hlt : k < zs.length
        · have hlt' := hlt
          rw [HLEN.out] at hlt'
          obtain ⟨b, o, u, hA, hu, hc⟩ := HAT.out.at_ hlt'
          simp only [Option.some.injEq, Addr.mk.injEq, and_true] at hA
          obtain ⟨rfl, rfl⟩ := hA
          have HU := hide hu
          clear hu hlt
          by_cases hb : u = 0
          · subst hb
            go_wp2
            go_round
            case rel => exact ⟨k + 1, by rw [HLEN.out]; omega, by go_num, by rw [all_take_succ HU.out, HALL.out]; rfl⟩
            case measure => rw [HLEN.out]; simp [intOf]; omega
          · have hb' : ((u.toNat : Int) != 0) = true := by
              have : u.toNat ≠ 0 := fun e => hb (UInt8.toNat_inj.1 e)
              simp; omega
            have HB := hide hb
            clear hb
            go_wp2
            go_ret
            exact ⟨by rw [HR.out, all_false HU.out (by simpa using HB.out)]; rfl, (Below.refl _ _).alloc (Nat.le_refl _) _⟩
        · obtain rfl : k = zs.length := by omega
          rw [List.take_length] at HALL
          have hz := HLEN.out
          rw [hz]
          have HZ := hide hz
          clear hz hlt hk
          go_wp2
          go_ret
          exact ⟨by rw [HR.out, HALL.out]; rfl, (Below.refl _ _).alloc (Nat.le_refl _) _⟩
  · have hs' : sizeA s = false := by simpa using hs
    have hr : rightA s bs = false := by unfold rightA; rw [hs']; rfl
    rw [hr]
    have HS := hide hs'
    clear hs hs' hr
    go_enter Tryd.func58, Tryd.ntmps58
    go_wp2_with (go_at_call 81; refine (rightSize_any _ _).mono ?_; rintro e w1 ⟨rfl, rfl⟩; rw [HS.out])
    go_ret
    exact ⟨rfl, (Below.refl _ _).alloc (Nat.le_refl _) _⟩

theorem bytes_any (w : World) (s : Int) (bs : List UInt8) (hl : bs.length = 16) :
    Calls Tryd.prog 57 #[.agg (addrC s bs)] w fun e w' => ∃ v, e = .returned v ∧ w'.ownsRow w.heap.size 5 1 v (bytesA s bs).length (bvs (bytesA s bs)) ∧ Below w.heap.size w w' := by
  have c0 := addrC_0 s bs
  have HB := hide (Blk.new w 26 (addrC s bs))
  have HA : Hid (At (w.alloc (.cells (addrC s bs) 26)) w.heap.size (w.heap.size + 1) (some ⟨w.heap.size, 1, none⟩) 16 bs) := At.addr HB.out hl
  have HL := hide hl
  clear hl
  by_cases hr : rightA s bs = true
  · have hb : bytesA s bs = bs.take s.toNat := by unfold bytesA; rw [if_pos hr]
    have : s = 0 ∨ s = 4 ∨ s = 16 := by
      unfold rightA at hr
      simp only [Bool.and_eq_true] at hr
      exact of_decide_eq_true hr.1
    have HR := hide hr
    rw [hb]
    clear hr hb
    rcases this with rfl | rfl | rfl
    all_goals
      go_enter Tryd.func57, Tryd.ntmps57
      go_wp2_with (first
        | (with_reducible refine wpList_load_addr rfl (.tmp 1) rfl w.heap.size rfl HB.out HL.out ?_)
        | (go_at_call 58; refine (right_any _ _ bs HL.out).mono ?_; rintro e w1 ⟨rfl, hb1⟩; rw [HR.out]; have HB1 := hide (HB.out.below hb1 (by simp)); have k0 := (HB1.out.cell 0).trans (addrC_0 _ bs); have HW1 := hide hb1; have HAT := hide (At.addr HB1.out HL.out); have hz1 := hb1.size; clear hb1)
        | (go_at_call 59; go_must (refine (clone_any _ w.heap.size (w.heap.size + 1) _ _ _ _ (HAT.out.head (by decide)) (by simpa using hz1) (by decide)).mono ?_); rintro e w2 ⟨v, rfl, hown, hbel⟩))
      go_ret
      have hz2 : w.heap.size ≤ w1.heap.size := by simp at hz1; omega
      have hlen : ∀ k, k ≤ 16 → (bs.take k).length = k := fun k hk => by rw [List.length_take, HL.out]; omega
      exact ⟨_, rfl, by rw [hlen _ (by decide)]; exact own_more hown hz2, ((Below.refl _ _).alloc (Nat.le_refl _) _ |>.trans (HW1.out.mono (by simp))).trans (hbel.mono hz2)⟩
  · have hr' : rightA s bs = false := by simpa using hr
    have hb : bytesA s bs = [] := by unfold bytesA; rw [if_neg hr]
    have HR := hide hr'
    rw [hb]
    clear hr hb hr'
    go_enter Tryd.func57, Tryd.ntmps57
    go_wp2_with (first
      | (with_reducible refine wpList_load_addr rfl (.tmp 1) rfl w.heap.size rfl HB.out HL.out ?_)
      | (go_at_call 58; refine (right_any _ _ bs HL.out).mono ?_; rintro e w1 ⟨rfl, hb1⟩; rw [HR.out]))
    go_ret
    exact ⟨_, rfl, World.ownsRow_nil _ _ _ _, (Below.refl _ _).alloc (Nat.le_refl _) _ |>.trans (hb1.mono (by simp))⟩

def cmpI (a b : Int) : Int := if a < b then -1 else if b < a then 1 else 0
/-- a group -/
theorem multicast_any (w : World) (s : Int) (bs : List UInt8) (hl : bs.length = 16) :
    Calls Tryd.prog 30 #[.agg (addrC s bs)] w fun e w' => e = .returned (.bool (multiA s bs)) ∧ Below w.heap.size w w' := by
  obtain ⟨b, hb⟩ : ∃ b, bs[0]? = some b := ⟨bs[0]'(by omega), List.getElem?_eq_getElem _⟩
  have c0 := addrC_0 s bs
  have c1 : (addrC s bs)[1]? = some (.int .u8 (b.toNat : Int)) := addrC_byte s hb
  have HB := hide (Blk.new w 26 (addrC s bs))
  have hm := multiA_eq s bs hb
  have HL := hide hl
  clear hl hb
  have hbl := b.toNat_lt
  obtain ⟨r, HR⟩ : ∃ r : Bool, Hid (rightA s bs = r) := ⟨_, hide rfl⟩
  rw [HR.out] at hm
  have HM := hide hm
  clear hm
  rcases (show s = 4 ∨ s = 16 ∨ (s ≠ 4 ∧ s ≠ 16) by omega) with rfl | rfl | ⟨h4, h6⟩
  case' inl =>
    obtain ⟨q, hq, hqv⟩ : ∃ q : Bool, (((b.toNat : Int) / 16 == 14) = q) ∧ q = decide (224 ≤ b.toNat ∧ b.toNat < 240) := ⟨_, rfl, by rw [Bool.eq_iff_iff]; simp; omega⟩
    have HV : Hid (multiA 4 bs = (r && q)) := hide (by rw [HM.out, hqv]; simp)
  case' inr.inl =>
    obtain ⟨q, hq, hqv⟩ : ∃ q : Bool, (((b.toNat : Int) == 255) = q) ∧ q = decide (b.toNat = 255) := ⟨_, rfl, by rw [Bool.eq_iff_iff]; simp; omega⟩
    have HV : Hid (multiA 16 bs = (r && q)) := hide (by rw [HM.out, hqv]; simp)
  case' inr.inr =>
    have e4 : (s == 4) = false := by simpa using h4
    have e6 : (s == 16) = false := by simpa using h6
    have HV : Hid (multiA s bs = (r && false)) := hide (by rw [HM.out]; simp [h4, h6])
    obtain ⟨q, hqv⟩ : ∃ q : Bool, q = false := ⟨_, rfl⟩
    clear h4 h6
  all_goals
    clear hqv HM
    cases r <;> cases q
  all_goals
    rw [HV.out]
    simp only [Bool.and_false, Bool.and_true]
    go_enter Tryd.func30, Tryd.ntmps30
    go_wp2_with (first
      | (with_reducible refine wpList_load_addr rfl (.tmp 1) rfl w.heap.size rfl HB.out HL.out ?_)
      | (go_at_call 58; refine (right_any _ _ bs HL.out).mono ?_; rintro e w1 ⟨rfl, hb1⟩; rw [HR.out]))
    go_ret
    exact ⟨rfl, (Below.refl _ _).alloc (Nat.le_refl _) _ |>.trans (hb1.mono (by simp))⟩
end Go.Proofs.YthhmplmkdakmgaaDoor
