/-
  What ofNumbers of package addr does. The conditions: few numbers, each of which fits its bytes.
-/
import Derived.Test.YtfpidnckmdiieaaGreatDoorNums
import Derived.Test.YtfpidnckmdiieaaGreatDoorPut
import Derived.Test.YtfpidnckmdiieaaGreatDoorMath
namespace Go.Proofs.YtfpidnckmdiieaaGreatDoor
open Go.RowKit
set_option linter.unusedVariables false
set_option linter.unusedSimpArgs false

def OfNumPost (l : List UInt8) (w : World) (e : Ending) (w' : World) : Prop :=
  e = .returned (.tuple #[.agg (addrC (ofS l) (ofB l)), .bool (decide (ofE l = 0))]) ∧ Below w.heap.size w w'
theorem ofE_cases (l : List UInt8) : ofE l = 0 ∨ ofE l = 1 := by unfold ofE; split <;> simp
set_option maxRecDepth 20000 in
set_option maxHeartbeats 2000000 in
theorem ofNumbers_any (w : World) (lo hi : Nat) (A : Option Addr) (n c : Nat) (xs : List Nat) (h : AtI w lo hi A n xs) (hh : hi ≤ w.heap.size) (hn : n ≤ 100) (k : Nat) (hk1 : 1 ≤ k) (hk4 : k ≤ 4) (hx : ∀ x ∈ xs, x < 256 ^ k) :
    Calls Tryz.prog 162 #[.slice A n c, .int .i64 k] w (OfNumPost (flat k xs) w) := by
  have H := hide h
  have HX := hide hx
  have HZ0 := hide (addrC_zero 0)
  clear h hx
  go_enter Tryz.func162, Tryz.ntmps162
  go_wp2
  go_loopw [6, 13] (fun bv i wr => ∃ (j : Nat) (B : Option Addr) (m d : Nat), j ≤ n ∧ i = .int .i64 j ∧ bv = .slice B m d ∧ At wr (w.heap.size + 1) wr.heap.size B m (flat k (xs.take j)) ∧ Blk wr w.heap.size 27 (addrC 0 zero16) ∧ Below w.heap.size w wr) (fun _ i _ => n - (intOf i).toNat)
  case atStart => exact ⟨0, none, 0, 0, Nat.zero_le _, rfl, rfl, At.nil _ _ _ _, by rw [HZ0.out]; exact Blk.new w _ _, (Below.refl _ _).alloc (Nat.le_refl _) _⟩
  case round =>
    obtain ⟨j, B, m, d, hj, rfl, rfl, hat, hbk, hbel⟩ := hrel
    have HAT := hide hat
    have HBK := hide hbk
    have HBL := hide hbel
    have hml : m = j * k := by
      have := hat.len
      rw [flat_len, List.length_take, H.out.len] at this
      rw [← this, Nat.min_eq_left hj]
    have hmb : m ≤ 400 := by rw [hml]; exact Nat.le_trans (Nat.mul_le_mul (Nat.le_trans hj hn) hk4) (by decide)
    clear hat hbk hbel hml
    by_cases hlt : j < n
    · obtain ⟨b, o, x, rfl, hu, hcell⟩ := (H.out.below HBL.out hh).at_ hlt
      have hxk := HX.out x (List.mem_of_getElem? hu)
      have hs : sizeB (k : Int) = true := by unfold sizeB; simp; omega
      have hxn : numB (x : Int) (k : Int) = true := by
        unfold numB
        rw [decide_eq_true_eq]
        refine ⟨by omega, ?_⟩
        rw [Int.toNat_natCast]
        exact_mod_cast hxk
      have hpe : putErr (x : Int) (k : Int) = 0 := by unfold putErr; simp [hs, hxn]
      have hpo : putOut (flat k (xs.take j)) (x : Int) (k : Int) = flat k (xs.take (j + 1)) := by
        unfold putOut
        simp only [hs, hxn]
        rw [List.take_add_one, hu]
        simp [flat_snoc]
      have HPE := hide hpe
      have HPO := hide hpo
      clear hu hs hxn hpe hpo
      go_wp2_with fail
      refine (put_any _ (w.heap.size + 1) _ _ _ _ (flat k (xs.take j)) HAT.out (Nat.le_refl _) (by omega) x k).mono ?_
      rintro e w2 ⟨v, rfl, hown, hb2⟩
      rw [HPO.out] at hown
      obtain ⟨B2, d2, rfl, _, _⟩ := own_shape hown
      have HO2 := hide hown
      have HB2 := hide (below_step HBL.out hb2 (Nat.le_refl _))
      have HBK2 := hide (HBK.out.below hb2 HBK.out.lt)
      have hz := HBK.out.lt
      clear hown hb2
      go_wp2_with fail
      go_roundw
      case rel => exact ⟨j + 1, B2, _, d2, by omega, by go_num, rfl, (At.own HO2.out).more (by omega) (Nat.le_refl _), HBK2.out, HB2.out⟩
      case measure => simp [intOf]; omega
    · obtain rfl : j = n := by omega
      have hxt : xs.take j = xs := List.take_of_length_le (by rw [H.out.len]; exact Nat.le_refl _)
      rw [hxt] at HAT
      have hll : (flat k xs).length ≤ 1000 := by rw [HAT.out.len]; omega
      have HBL16 := hide (ofB_len (flat k xs) hll)
      obtain ⟨er, her⟩ : ∃ er, ofE (flat k xs) = er := ⟨_, rfl⟩
      have hec := ofE_cases (flat k xs)
      rw [her] at hec
      have HER := hide her
      clear hxt hll her
      go_wp2_with fail
      refine (of_any _ (w.heap.size + 1) _ _ _ _ (flat k xs) HAT.out (Nat.le_refl _)).mono ?_
      rintro e w2 ⟨rfl, hb2⟩
      rw [HER.out]
      have HB2 := hide (below_step HBL.out hb2 (Nat.le_refl _))
      have HBK2 := hide (HBK.out.below hb2 HBK.out.lt)
      clear hb2
      go_wp2_with (first
        | (refine wpList_store_addr rfl (.tmp 9) (.tmp 28) rfl w2.heap.size rfl rfl HBL16.out (Blk.new w2 _ _) rfl ?_; intro w4 hb4 hg4; have HB4 := hide hb4; have HG4 := hide hg4; have HK4 := hide ((HBK2.out.alloc _).grown hg4 (by have := HBK2.out.lt; simp; omega)); clear hb4 hg4)
        | (with_reducible refine wpList_load_addr rfl (.tmp 9) rfl w2.heap.size rfl HB4.out HBL16.out ?_)
        | (refine wpList_store_addr rfl (.tmp 4) (.tmp 30) rfl w.heap.size rfl rfl HBL16.out HK4.out (addrC_size 0 zero16_len) ?_; intro w5 hb5 hg5; have HB5 := hide hb5; have HG5 := hide hg5; clear hb5 hg5))
      refine ret_addr2 (p := 4) (q := 5) (v := .bool (decide (ofE (flat k xs) = 0))) rfl rfl ?_ HB5.out HBL16.out rfl ⟨rfl, ?_⟩
      · rw [HER.out]; rfl
      · exact ((HB2.out.alloc HB2.out.size _).grown HG4.out (by have := HB2.out.size; simp; omega) (by intro q hq; injection hq with hq; subst hq; exact HB2.out.size)).grown HG5.out (by have := HB2.out.size; have := HG4.out.size; simp at this; omega) (by simp)
end Go.Proofs.YtfpidnckmdiieaaGreatDoor
