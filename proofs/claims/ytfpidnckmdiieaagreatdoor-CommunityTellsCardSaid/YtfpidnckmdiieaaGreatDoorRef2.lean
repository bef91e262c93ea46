/-
  What the document's own answers of layer 2 do, in whatever memory: Right, Multicast, Compare, bit. No condition beyond sizes that fit memory.
-/
import Derived.Test.YtfpidnckmdiieaaGreatDoorAddr1
import Derived.Test.YtfpidnckmdiieaaGreatDoorRefs
import Derived.Test.YtfpidnckmdiieaaGreatDoorMath
namespace Go.Proofs.YtfpidnckmdiieaaGreatDoor
open Go.RowKit
set_option linter.unusedVariables false
set_option linter.unusedSimpArgs false

set_option maxRecDepth 20000 in
set_option maxHeartbeats 1000000 in
theorem refright_any (w : World) (s : Int) (bs : List UInt8) (hl : bs.length = 16) :
    Calls Tryz.prog 90 #[.agg (addrC s bs)] w fun e w' => e = .returned (.bool (rightA s bs)) ∧ Below w.heap.size w w' := by
  have c0 := addrC_0 s bs
  have HL := hide hl
  have HA : Hid (At (w.alloc (.cells (addrC s bs) 27)) w.heap.size (w.heap.size + 1) (some ⟨w.heap.size, 1, none⟩) 16 bs) := At.addr (Blk.new w _ _) hl
  have c0' := ((Blk.new w 27 (addrC s bs)).cell 0).trans c0
  clear hl
  by_cases hs : sizeA s = true
  · have : s = 0 ∨ s = 4 ∨ s = 16 := of_decide_eq_true hs
    have HS := hide hs
    clear hs
    obtain ⟨n, hn, hn16⟩ : ∃ n : Nat, s = n ∧ n ≤ 16 := ⟨s.toNat, by omega, by omega⟩
    have HR : Hid (rightA s bs = (bs.drop n).all (· == 0)) := by unfold rightA; rw [HS.out, hn]; rfl
    have HN : Hid (s = n) := hn
    have HD : Hid ((bs.drop n).length = 16 - n) := hide (by rw [List.length_drop, HL.out])
    have HN16 := hide hn16
    clear hn hn16
    rcases this with rfl | rfl | rfl
    all_goals
      go_enter Tryz.func90, Tryz.ntmps90
      go_wp2
      go_loop [3] (fun i => ∃ k : Nat, n ≤ k ∧ k ≤ 16 ∧ i = .int .i64 k ∧ ((bs.drop n).take (k - n)).all (· == 0) = true) (fun i => 16 - (intOf i).toNat)
      case atStart => exact ⟨n, Nat.le_refl _, HN16.out, by rw [← HN.out], by simp⟩
      case round =>
        obtain ⟨k, hnk, hk, rfl, hall⟩ := hrel
        have HALL := hide hall
        clear hall
        by_cases hlt : k < 16
        · obtain ⟨b, o, u, hA, hu, hc⟩ := HA.out.at_ hlt
          simp only [Option.some.injEq, Addr.mk.injEq, and_true] at hA
          obtain ⟨rfl, rfl⟩ := hA
          have HU : Hid ((bs.drop n)[k - n]? = some u) := hide (by rw [List.getElem?_drop, show n + (k - n) = k by omega]; exact hu)
          clear hu
          by_cases hb : u = 0
          · subst hb
            go_wp2
            go_round
            case rel => exact ⟨k + 1, by omega, by omega, by go_num, by rw [show k + 1 - n = (k - n) + 1 by omega, all_take_succ HU.out, HALL.out]; rfl⟩
            case measure => simp [intOf]; omega
          · have hb' : ((u.toNat : Int) != 0) = true := by
              have : u.toNat ≠ 0 := fun e => hb (UInt8.toNat_inj.1 e)
              simp; omega
            have HB := hide hb
            clear hb
            go_wp2
            go_ret
            exact ⟨by rw [HR.out, all_false HU.out (by simpa using HB.out)]; rfl, (Below.refl _ _).alloc (Nat.le_refl _) _⟩
        · obtain rfl : k = 16 := by omega
          rw [← HD.out, List.take_length] at HALL
          clear hlt hk
          go_wp2
          go_ret
          exact ⟨by rw [HR.out, HALL.out]; rfl, (Below.refl _ _).alloc (Nat.le_refl _) _⟩
  · have hs' : sizeA s = false := by simpa using hs
    have hr : rightA s bs = false := by unfold rightA; rw [hs']; rfl
    rw [hr]
    have h0 : ¬ (s = 0 ∨ s = 4 ∨ s = 16) := of_decide_eq_false hs'
    have e0 : (s != 0) = true := by simp; omega
    have e4 : (s != 4) = true := by simp; omega
    have e6 : (s != 16) = true := by simp; omega
    clear hs hs' hr h0
    go_enter Tryz.func90, Tryz.ntmps90
    go_wp2
    go_ret
    exact ⟨rfl, (Below.refl _ _).alloc (Nat.le_refl _) _⟩

end Go.Proofs.YtfpidnckmdiieaaGreatDoor
