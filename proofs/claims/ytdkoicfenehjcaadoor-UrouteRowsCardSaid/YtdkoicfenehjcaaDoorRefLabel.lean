/-
  The document's Bytes and Read of a label. The one condition: a slice of at most 4096 bytes.
-/
import Derived.Test.YtdkoicfenehjcaaDoorLabRW
import Derived.Test.YtdkoicfenehjcaaDoorRefs
namespace Go.Proofs.YtdkoicfenehjcaaDoor
open Go.RowKit
set_option linter.unusedVariables false
set_option linter.unusedSimpArgs false

theorem labbig_some (w : World) (lo hi : Nat) (A : Option Addr) (n c : Nat) (bs : List UInt8) (h : At w lo hi A n bs) (hn : n ≤ 4096) :
    Calls Tryd.prog 69 #[.slice A n c] w fun e w' => (∃ z : Int, e = .returned (.int .i64 z)) ∧ w = w' := by
  have H := hide h
  clear h
  go_enter Tryd.func69, Tryd.ntmps69
  go_wp2
  go_loop [3, 4] (fun t i => ∃ (j : Nat) (z : Int), j ≤ n ∧ i = .int .i64 j ∧ t = .int .i64 z) (fun _ i => n - (intOf i).toNat)
  case atStart => exact ⟨0, 0, Nat.zero_le _, rfl, rfl⟩
  case round =>
    obtain ⟨j, z, hj, rfl, rfl⟩ := hrel
    by_cases hlt : j < n
    · obtain ⟨b, o, u, rfl, hu, hc⟩ := H.out.at_ hlt
      have hu2 := u.toNat_lt
      clear hu
      go_wp2
      go_round
      case rel => exact ⟨j + 1, _, by omega, by go_num, rfl⟩
      case measure => simp [intOf]; omega
    · obtain rfl : j = n := by omega
      go_wp2
      go_ret
      exact ⟨⟨_, rfl⟩, rfl⟩
theorem reflab_no (w : World) (x : Int) (last : Bool) (h : x < 0 ∨ 1048575 < x) :
    Calls Tryd.prog 37 #[.int .i64 x, .bool last] w fun e w' => e = .returned (.tuple #[.slice none 0 0, .int .i64 5]) ∧ w = w' := by
  by_cases h0 : x < 0
  · clear h
    go_enter Tryd.func37, Tryd.ntmps37
    go_wp2
    go_ret2
    exact ⟨rfl, rfl⟩
  · have h1 : 1048575 < x := by omega
    clear h
    go_enter Tryd.func37, Tryd.ntmps37
    go_wp2
    go_ret2
    exact ⟨rfl, rfl⟩
theorem reflab_yes (w : World) (x : Nat) (last : Bool) (h : x ≤ 1048575) :
    Calls Tryd.prog 37 #[.int .i64 (x : Int), .bool last] w fun e w' => ∃ v, e = .returned (.tuple #[v, .int .i64 0]) ∧ w'.ownsRow w.heap.size 5 1 v 3 (bvs (codeL x last)) ∧ Below w.heap.size w w' := by
  have h0 : ¬ (x : Int) < 0 := by omega
  have h1 : (x : Int) ≤ 1048575 := by omega
  have e0 := hide (show 16 * (x : Int) = ((x * 16 : Nat) : Int) by omega)
  have e1 := hide (show 16 * (x : Int) + 1 = ((x * 16 + 1 : Nat) : Int) by omega)
  cases last
  · go_enter Tryd.func37, Tryd.ntmps37
    go_wp2_with fail
    rw [e0.out]
    refine (refbytes_any w (x * 16) 3 (by omega) (by omega) (by omega)).mono ?_
    rintro e w1 ⟨v, rfl, ho, hb⟩
    go_wp2
    go_ret2
    exact ⟨v, rfl, ho, hb⟩
  · go_enter Tryd.func37, Tryd.ntmps37
    go_wp2_with fail
    rw [e1.out]
    refine (refbytes_any w (x * 16 + 1) 3 (by omega) (by omega) (by omega)).mono ?_
    rintro e w1 ⟨v, rfl, ho, hb⟩
    go_wp2
    go_ret2
    exact ⟨v, rfl, ho, hb⟩
set_option maxHeartbeats 1000000 in
theorem refread_any (w : World) (A : Option Addr) (n c : Nat) (bs : List UInt8) {lo hi : Nat} (h : At w lo hi A n bs) (hn : n ≤ 4096) :
    Calls Tryd.prog 39 #[.slice A n c] w fun e w' => e = .returned (.tuple #[.int .i64 (readN bs), .bool (readLast bs), .int .i64 (readErr bs)]) ∧ w = w' := by
  have HL := hide h.len
  have HA := hide h
  clear h
  by_cases h3 : n = 3
  · subst h3
    have hlt : big bs < 16777216 := by have := big_lt bs; rw [HL.out] at this; exact this
    obtain ⟨m, hm⟩ : ∃ m, big bs = m := ⟨_, rfl⟩
    have HM := hide hm
    rw [hm] at hlt
    clear hm
    go_enter Tryd.func39, Tryd.ntmps39
    go_wp2_with fail
    refine (labbig_any w lo hi A 3 c bs HA.out (by omega)).mono ?_
    rintro e w1 ⟨rfl, rfl⟩
    rw [HM.out]
    by_cases hm1 : m % 16 ≤ 1
    · have h0 : ¬ 1 < (m : Int) % 16 := by omega
      have hr : readOk bs = true := decide_eq_true ⟨HL.out, by rw [HM.out]; exact hm1⟩
      have HRK := hide hr
      clear hr
      go_wp2_with fail
      go_ret3
      obtain ⟨q1, q2, q3⟩ := read_yes HRK.out
      have eb : decide (m % 2 = 1) = ((m : Int) % 16 == 1) := by
        rcases (show m % 16 = 0 ∨ m % 16 = 1 by omega) with h | h
        · have h' : (m : Int) % 16 = 0 := by omega
          rw [h', show m % 2 = 0 by omega]
          rfl
        · have h' : (m : Int) % 16 = 1 := by omega
          rw [h', show m % 2 = 1 by omega]
          rfl
      rw [q1, q2, q3, HM.out, eb, show ((m / 16 : Nat) : Int) = (m : Int) / 16 by omega]
      exact ⟨rfl, rfl⟩
    · have h0 : 1 < (m : Int) % 16 := by omega
      have hr : readOk bs = false := decide_eq_false (fun e => hm1 (by rw [← HM.out]; exact e.2))
      have HRK := hide hr
      clear hr
      go_wp2_with fail
      go_ret3
      obtain ⟨q1, q2, q3⟩ := read_no HRK.out
      rw [q1, q2, q3]
      exact ⟨rfl, rfl⟩
  · have h3' : ¬ (n : Int) = 3 := by omega
    have hr : readOk bs = false := decide_eq_false (fun e => h3 (by rw [← HL.out]; exact e.1))
    have HRK := hide hr
    clear hr
    go_enter Tryd.func39, Tryd.ntmps39
    go_wp2_with fail
    refine (labbig_some w lo hi A n c bs HA.out hn).mono ?_
    rintro e w1 ⟨⟨z, rfl⟩, rfl⟩
    go_wp2
    go_ret3
    obtain ⟨q1, q2, q3⟩ := read_no HRK.out
    rw [q1, q2, q3]
    exact ⟨rfl, rfl⟩
end Go.Proofs.YtdkoicfenehjcaaDoor
