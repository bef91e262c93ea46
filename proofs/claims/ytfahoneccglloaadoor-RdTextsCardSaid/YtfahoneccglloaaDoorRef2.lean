/-
  What the document's own answers of layer 2 do, in whatever memory: Right, Multicast, Compare, bit. No condition beyond sizes that fit memory.
-/
import Derived.Test.YtfahoneccglloaaDoorAddr1
import Derived.Test.YtfahoneccglloaaDoorRefs
import Derived.Test.YtfahoneccglloaaDoorBitMath
namespace Go.Proofs.YtfahoneccglloaaDoor
open Go.RowKit
set_option linter.unusedVariables false
set_option linter.unusedSimpArgs false

set_option maxRecDepth 20000 in
set_option maxHeartbeats 1000000 in
theorem refright_any (w : World) (s : Int) (bs : List UInt8) (hl : bs.length = 16) :
    Calls Tryd.prog 28 #[.agg (addrC s bs)] w fun e w' => e = .returned (.bool (rightA s bs)) ∧ Below w.heap.size w w' := by
  have c0 := addrC_0 s bs
  have HL := hide hl
  have HA : Hid (At (w.alloc (.cells (addrC s bs) 24)) w.heap.size (w.heap.size + 1) (some ⟨w.heap.size, 1, none⟩) 16 bs) := At.addr (Blk.new w _ _) hl
  have c0' := ((Blk.new w 24 (addrC s bs)).cell 0).trans c0
  clear hl
  by_cases hs : sizeA s = true
  · have : s = 0 ∨ s = 4 ∨ s = 16 := of_decide_eq_true hs
    have HS := hide hs
    clear hs
    obtain ⟨n, hn, hn16⟩ : ∃ n : Nat, s = n ∧ n ≤ 16 := ⟨s.toNat, by omega, by omega⟩
    have HR : Hid (rightA s bs = (bs.drop n).all (· == 0)) := by unfold rightA; rw [HS.out, hn]; rfl
    have HN : Hid (s = n) := hn
    have HD : Hid ((bs.drop n).length = 16 - n) := hide (by rw [List.length_drop, HL.out])
    have HN16 := hide hn16
    clear hn hn16
    rcases this with rfl | rfl | rfl
    all_goals
      go_enter Tryd.func28, Tryd.ntmps28
      go_wp2
      go_loop [3] (fun i => ∃ k : Nat, n ≤ k ∧ k ≤ 16 ∧ i = .int .i64 k ∧ ((bs.drop n).take (k - n)).all (· == 0) = true) (fun i => 16 - (intOf i).toNat)
      case atStart => exact ⟨n, Nat.le_refl _, HN16.out, by rw [← HN.out], by simp⟩
      case round =>
        obtain ⟨k, hnk, hk, rfl, hall⟩ := hrel
        have HALL := hide hall
        clear hall
        by_cases hlt : k < 16
        · obtain ⟨b, o, u, hA, hu, hc⟩ := HA.out.at_ hlt
          simp only [Option.some.injEq, Addr.mk.injEq, and_true] at hA
          obtain ⟨rfl, rfl⟩ := hA
          have HU : Hid ((bs.drop n)[k - n]? = some u) := hide (by rw [List.getElem?_drop, show n + (k - n) = k by omega]; exact hu)
          clear hu
          by_cases hb : u = 0
          · subst hb
            go_wp2
            go_round
            case rel => exact ⟨k + 1, by omega, by omega, by go_num, by rw [show k + 1 - n = (k - n) + 1 by omega, all_take_succ HU.out, HALL.out]; rfl⟩
            case measure => simp [intOf]; omega
          · have hb' : ((u.toNat : Int) != 0) = true := by
              have : u.toNat ≠ 0 := fun e => hb (UInt8.toNat_inj.1 e)
              simp; omega
            have HB := hide hb
            clear hb
            go_wp2
            go_ret
            exact ⟨by rw [HR.out, all_false HU.out (by simpa using HB.out)]; rfl, (Below.refl _ _).alloc (Nat.le_refl _) _⟩
        · obtain rfl : k = 16 := by omega
          rw [← HD.out, List.take_length] at HALL
          clear hlt hk
          go_wp2
          go_ret
          exact ⟨by rw [HR.out, HALL.out]; rfl, (Below.refl _ _).alloc (Nat.le_refl _) _⟩
  · have hs' : sizeA s = false := by simpa using hs
    have hr : rightA s bs = false := by unfold rightA; rw [hs']; rfl
    rw [hr]
    have h0 : ¬ (s = 0 ∨ s = 4 ∨ s = 16) := of_decide_eq_false hs'
    have e0 : (s != 0) = true := by simp; omega
    have e4 : (s != 4) = true := by simp; omega
    have e6 : (s != 16) = true := by simp; omega
    clear hs hs' hr h0
    go_enter Tryd.func28, Tryd.ntmps28
    go_wp2
    go_ret
    exact ⟨rfl, (Below.refl _ _).alloc (Nat.le_refl _) _⟩

set_option maxRecDepth 20000 in
set_option maxHeartbeats 1000000 in
theorem refbit_any (w : World) (s : Int) (bs : List UInt8) (hl : bs.length = 16) (i : Nat) (hi : i < 128) :
    Calls Tryd.prog 32 #[.agg (addrC s bs), .int .i64 i] w fun e w' => e = .returned (.bool (bitA bs i)) ∧ Below w.heap.size w w' := by
  have hq : i / 8 < 16 := by omega
  obtain ⟨b, hb⟩ : ∃ b, bs[i / 8]? = some b := ⟨bs[i / 8]'(by omega), List.getElem?_eq_getElem _⟩
  obtain ⟨t, ht, ht8⟩ : ∃ t, i % 8 = t ∧ t < 8 := ⟨i % 8, rfl, by omega⟩
  have hv : bitA bs i = decide (b.toNat / 2 ^ (7 - t) % 2 = 1) := by
    unfold bitA
    rw [ht, List.getD_eq_getElem?_getD, hb]
    rfl
  rw [hv]
  have HA : Hid (At (w.alloc (.cells (addrC s bs) 24)) w.heap.size (w.heap.size + 1) (some ⟨w.heap.size, 1, none⟩) 16 bs) := At.addr (Blk.new w _ _) hl
  obtain ⟨b', o, u, hA, hu, hc⟩ := HA.out.at_ hq
  simp only [Option.some.injEq, Addr.mk.injEq, and_true] at hA
  obtain ⟨rfl, rfl⟩ := hA
  rw [hb] at hu
  injection hu with hu
  subst hu
  have hbl := b.toNat_lt
  clear hv hb hl
  have hr : ∀ z : Int, z = t → (i : Int) % 8 = z := by rintro _ rfl; omega
  rcases (show t = 0 ∨ t = 1 ∨ t = 2 ∨ t = 3 ∨ t = 4 ∨ t = 5 ∨ t = 6 ∨ t = 7 by omega) with rfl | rfl | rfl | rfl | rfl | rfl | rfl | rfl
  all_goals
    first
      | have HE := hide (hr 0 rfl)
      | have HE := hide (hr 1 rfl)
      | have HE := hide (hr 2 rfl)
      | have HE := hide (hr 3 rfl)
      | have HE := hide (hr 4 rfl)
      | have HE := hide (hr 5 rfl)
      | have HE := hide (hr 6 rfl)
      | have HE := hide (hr 7 rfl)
    clear hr ht
    go_enter Tryd.func32, Tryd.ntmps32
    go_wp2_with (rw [HE.out])
    go_ret
    exact ⟨congrArg (fun x => Ending.returned (Value.bool x)) (by rw [Bool.eq_iff_iff]; simp; omega), (Below.refl _ _).alloc (Nat.le_refl _) _⟩
end Go.Proofs.YtfahoneccglloaaDoor
