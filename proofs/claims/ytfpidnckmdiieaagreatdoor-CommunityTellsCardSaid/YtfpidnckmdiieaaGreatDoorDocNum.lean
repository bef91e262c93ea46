/-
  What the document's own Number and Digits do. The one condition: a number below 2^32, a text of a few signs.
  What the document's own Digits does. The one condition: at most ten signs are asked for.
  What the document's own split does: the parts of a text between signs. The one condition: a text of at most 2,000,000 bytes.
-/
import Derived.Test.YtfpidnckmdiieaaGreatDoorRds
import Derived.Test.YtfpidnckmdiieaaGreatDoorJoin
import Derived.Test.YtfpidnckmdiieaaGreatDoorMath
import Derived.Test.YtfpidnckmdiieaaGreatDoorBase
namespace Go.Proofs.YtfpidnckmdiieaaGreatDoor
open Go.RowKit
set_option linter.unusedVariables false
set_option linter.unusedSimpArgs false

theorem sub_hex : ∀ j : Nat, j < 16 → (⟨#[48, 49, 50, 51, 52, 53, 54, 55, 56, 57, 97, 98, 99, 100, 101, 102]⟩ : ByteArray).extract j (j + 1) = ⟨[sign j].toArray⟩ := by
  intro j hj
  rcases (show j = 0 ∨ j = 1 ∨ j = 2 ∨ j = 3 ∨ j = 4 ∨ j = 5 ∨ j = 6 ∨ j = 7 ∨ j = 8 ∨ j = 9 ∨ j = 10 ∨ j = 11 ∨ j = 12 ∨ j = 13 ∨ j = 14 ∨ j = 15 by omega) with e | e | e | e | e | e | e | e | e | e | e | e | e | e | e | e <;> subst e <;> rfl
set_option maxRecDepth 20000 in
set_option maxHeartbeats 2000000 in
theorem refnumber_any (b : Nat) (hb : b = 10 ∨ b = 16) : ∀ n : Nat, n < 4294967296 → ∀ w : World,
    Calls Tryz.prog 49 #[.int .i64 n, .int .i64 b] w fun e w' => e = .returned (.string ⟨(numeral b n).toArray⟩) ∧ ∃ q, w' = w.drewN q := by
  intro n
  induction n using Nat.strongRecOn with
  | _ n ih =>
    intro hn w
    by_cases hlt : n < b
    · rw [numeral_small hlt]
      have hs := sub_hex n (by omega)
      have hsI : (n : Int) < b := by omega
      clear ih
      rcases hb with rfl | rfl
      all_goals
        go_enter Tryz.func49, Tryz.ntmps49
        go_wp2
        go_ret
        exact ⟨rfl, 0, rfl⟩
    · have hb2 : 2 ≤ b := by omega
      have HB := hide (numeral_big hb2 (Nat.le_of_not_lt hlt))
      have ih' := ih (n / b) (Nat.div_lt_self (by omega) (by omega)) (Nat.lt_of_le_of_lt (Nat.div_le_self _ _) hn)
      have IH := hide ih'
      have hlen : (numeral b (n / b)).length ≤ 32 := by
        have h1 : n / b < b ^ (31 + 1) := by
          refine Nat.lt_of_le_of_lt (Nat.div_le_self _ _) (Nat.lt_of_lt_of_le hn ?_)
          rcases hb with rfl | rfl <;> decide
        exact numeral_len hb2 31 _ h1
      obtain ⟨P, hP⟩ : ∃ P, numeral b (n / b) = P := ⟨_, rfl⟩
      rw [hP] at IH HB hlen
      obtain ⟨m, hm⟩ : ∃ m, n % b = m := ⟨_, rfl⟩
      have hmb : m < 16 := by have := Nat.mod_lt n (show 0 < b by omega); omega
      have hs := sub_hex m hmb
      rw [hm] at HB
      clear ih ih' hP
      rcases hb with rfl | rfl
      all_goals
        go_enter Tryz.func49, Tryz.ntmps49
        go_wp2
        go_quiet ((go_at_call 49; exact Calls.quiet_of (IH.out _)))
        all_goals
          go_wp2
          go_ret
          exact ⟨by rw [HB.out, ← ByteArray.mk_append_mk]; rfl, _, rfl⟩
end Go.Proofs.YtfpidnckmdiieaaGreatDoor
namespace Go.Proofs.YtfpidnckmdiieaaGreatDoor
open Go.RowKit
set_option linter.unusedVariables false
set_option linter.unusedSimpArgs false

/-- no number of ten signs is greater -/
def vast : Nat := 1152921504606846976
def digI (base most : Nat) (s : List UInt8) : Int := if s.length = 0 ∨ most < s.length then -1 else match numF base vast s 0 with | none => -1 | some n => (n : Int)
theorem numF_lt {base : Nat} (hb : base ≤ 16) : ∀ (l : List UInt8) (n m : Nat), numF base vast l n = some m → m < (n + 1) * 16 ^ l.length
  | [], n, m, h => by
    have : n = m := by simpa [numF] using h
    subst this
    simp
  | c :: l, n, m, h => by
    rw [numF_cons] at h
    split at h
    · cases h
    · rename_i hc
      have ih := numF_lt hb l (n * base + digitN c) m h
      refine Nat.lt_of_lt_of_le ih ?_
      rw [List.length_cons, Nat.pow_succ, Nat.mul_comm (16 ^ l.length) 16, ← Nat.mul_assoc]
      refine Nat.mul_le_mul_right _ ?_
      have h1 : n * base ≤ n * 16 := Nat.mul_le_mul_left _ hb
      omega
theorem numF_ge : ∀ (base top : Nat) (l : List UInt8) (n m : Nat), 1 ≤ base → numF base top l n = some m → n ≤ m
  | base, top, [], n, m, _, h => by
    have : n = m := by simpa [numF] using h
    omega
  | base, top, c :: l, n, m, hb, h => by
    rw [numF_cons] at h
    split at h
    · cases h
    · have ih := numF_ge base top l (n * base + digitN c) m hb h
      have : n * 1 ≤ n * base := Nat.mul_le_mul_left _ hb
      omega
set_option maxRecDepth 20000 in
set_option maxHeartbeats 2000000 in
theorem refdigits_any (w : World) (s : ByteArray) (base most : Nat) (hb : base = 10 ∨ base = 16) (hm : most ≤ 10) :
    Calls Tryz.prog 78 #[.string s, .int .i64 base, .int .i64 most] w fun e w' => e = .returned (.int .i64 (digI base most s.data.toList)) ∧ w = w' := by
  have hsl : s.data.toList.length = s.size := by simp
  by_cases h0 : s.size = 0
  · have hv : digI base most s.data.toList = -1 := by unfold digI; rw [hsl, if_pos (.inl h0)]
    rw [hv]
    clear hv
    have h0I : ((s.size : Int) == 0) = true := beq_iff_eq.2 (by omega)
    go_enter Tryz.func78, Tryz.ntmps78
    go_wp2
    go_ret
    exact ⟨rfl, rfl⟩
  · by_cases h1 : most < s.size
    · have hv : digI base most s.data.toList = -1 := by unfold digI; rw [hsl, if_pos (.inr h1)]
      rw [hv]
      clear hv
      have h0I : ((s.size : Int) == 0) = false := beq_eq_false_iff_ne.2 (by omega)
      have h1I : (most : Int) < s.size := by omega
      go_enter Tryz.func78, Tryz.ntmps78
      go_wp2
      go_ret
      exact ⟨rfl, rfl⟩
    · have hv : digI base most s.data.toList = match numF base vast s.data.toList 0 with | none => -1 | some n => (n : Int) := by unfold digI; rw [hsl, if_neg (fun h => h.elim h0 h1)]
      have HV := hide hv
      have h0I : ((s.size : Int) == 0) = false := beq_eq_false_iff_ne.2 (by omega)
      have h1I : ¬ (most : Int) < s.size := by omega
      have hs10 : s.size ≤ 10 := by omega
      have HSL := hide hsl
      obtain ⟨L, hL⟩ : ∃ L, s.data.toList = L := ⟨_, rfl⟩
      rw [hL] at HV HSL ⊢
      have HLL := hide hL
      have hbl : 1 ≤ base ∧ base ≤ 16 := by omega
      have HBL := hide hbl
      clear hv hsl hL hm
      go_enter Tryz.func78, Tryz.ntmps78
      go_wp2
      go_loop [7, 8] (fun n i => ∃ k v : Nat, k ≤ s.size ∧ i = .int .i64 k ∧ n = .int .i64 v ∧ Hid (numF base vast (L.take k) 0 = some v)) (fun _ i => s.size - (intOf i).toNat)
      case atStart => exact ⟨0, 0, Nat.zero_le _, rfl, rfl, hide rfl⟩
      case round =>
        obtain ⟨k, v, hk, rfl, rfl, HN⟩ := hrel
        by_cases hlt : k < s.size
        · obtain ⟨c, hc⟩ : ∃ c, s[k] = c := ⟨_, rfl⟩
          have hu : L[k]? = some c := by
            rw [← HLL.out, List.getElem?_eq_getElem (by simpa using hlt), ← hc]
            rfl
          have hv40 : v < 1099511627776 := by
            have h := numF_lt HBL.out.2 _ _ _ HN.out
            have h2 : (L.take k).length ≤ 10 := by rw [List.length_take]; omega
            rw [Nat.zero_add, Nat.one_mul] at h
            exact Nat.lt_of_lt_of_le h (Nat.le_trans (Nat.pow_le_pow_right (by omega) h2) (by decide))
          have HT : Hid (numF base vast (L.take (k + 1)) 0 = (if base ≤ digitN c ∨ vast < v * base + digitN c then none else some (v * base + digitN c))) := by
            rw [take_snoc L k c hu, numF_append, HN.out]
            show numF base vast [c] v = _
            rw [numF_cons]
            simp only [numF]
          have HALL : Hid (numF base vast L 0 = (numF base vast (L.take (k + 1)) 0).bind (numF base vast (L.drop (k + 1)))) := by
            show _ = _
            rw [← numF_append, List.take_append_drop]
          have hcl := c.toNat_lt
          obtain ⟨d, hd⟩ : ∃ d, digitN c = d := ⟨_, rfl⟩
          obtain ⟨m, hm⟩ : ∃ m, v * base = m := ⟨_, rfl⟩
          have hmI : (v : Int) * base = m := by rw [← hm]; push_cast; rfl
          have hm44 : m ≤ 17592186044416 := by
            rw [← hm]
            exact Nat.le_trans (Nat.mul_le_mul (Nat.le_of_lt hv40) HBL.out.2) (by decide)
          have hdv : digitN c = if 48 ≤ c.toNat ∧ c.toNat ≤ 57 then c.toNat - 48 else if 97 ≤ c.toNat ∧ c.toNat ≤ 102 then c.toNat - 87 else 16 := rfl
          have hvast : vast = 1152921504606846976 := rfl
          rw [hd] at HT hdv
          rw [hm] at HT
          obtain ⟨z, hz⟩ : ∃ z : Int, (c.toNat : Int) = z := ⟨_, rfl⟩
          have hcz : ((s[k]).toNat : Int) = z := by rw [hc]; exact hz
          have HBE := hide hb
          clear hu hd hm hc
          by_cases hdb : d < base
          · have HS : Hid (numF base vast (L.take (k + 1)) 0 = some (m + d)) := by
              show numF base vast (L.take (k + 1)) 0 = some (m + d)
              rw [HT.out, if_neg (by omega)]
            have hdI3 : ¬ (base : Int) ≤ d := by omega
            clear hvast
            by_cases hcc : 48 ≤ c.toNat ∧ c.toNat ≤ 57
            · rw [if_pos hcc] at hdv
              have e1 : 48 ≤ z := by omega
              have e2 : z ≤ 57 := by omega
              have e4 : ¬ (base : Int) ≤ z - 48 := by omega
              have E5 : Hid (z - 48 = (d : Int)) := by show _ = _; omega
              clear hdv hcc hz hdI3 hdb hcl
              go_wp2
              go_round
              case rel => exact ⟨k + 1, m + d, by omega, by go_num, by rw [E5.out]; exact congrArg (Value.int .i64) (by omega), HS⟩
              case measure => simp [intOf]; omega
            · rw [if_neg hcc] at hdv
              by_cases hc2 : 97 ≤ c.toNat ∧ c.toNat ≤ 102
              · rw [if_pos hc2] at hdv
                have e1 : 97 ≤ z := by omega
                have e2 : z ≤ 102 := by omega
                have e4 : ¬ (base : Int) ≤ z - 97 + 10 := by omega
                have E5 : Hid (z - 97 + 10 = (d : Int)) := by show _ = _; omega
                clear hdv hcc hc2 hz hdI3 hdb hcl
                go_wp2
                go_round
                case rel => exact ⟨k + 1, m + d, by omega, by go_num, by rw [E5.out]; exact congrArg (Value.int .i64) (by omega), HS⟩
                case measure => simp [intOf]; omega
              · rw [if_neg hc2] at hdv
                exfalso
                omega
          · have HNO : Hid (numF base vast L 0 = none) := by
              show numF base vast L 0 = none
              rw [HALL.out, HT.out, if_pos (by omega)]
              rfl
            have HR : Hid (digI base most L = -1) := by
              show digI base most L = -1
              rw [HV.out, HNO.out]
            clear hvast
            have e3 : (base : Int) ≤ d := by omega
            by_cases hcc : 48 ≤ c.toNat ∧ c.toNat ≤ 57
            · rw [if_pos hcc] at hdv
              have e1 : 48 ≤ z := by omega
              have e2 : z ≤ 57 := by omega
              have e4 : (base : Int) ≤ z - 48 := by omega
              clear hdv hcc hz e3 hdb hcl
              first
                | (go_wp2; done)
                | (go_wp2
                   go_ret
                   exact ⟨by rw [HR.out]; rfl, rfl⟩)
            · rw [if_neg hcc] at hdv
              by_cases hc2 : 97 ≤ c.toNat ∧ c.toNat ≤ 102
              · rw [if_pos hc2] at hdv
                have e1 : 97 ≤ z := by omega
                have e2 : z ≤ 102 := by omega
                have e4 : (base : Int) ≤ z - 97 + 10 := by omega
                clear hdv hcc hc2 hz e3 hdb hcl
                go_wp2
                go_ret
                exact ⟨by rw [HR.out]; rfl, rfl⟩
              · rw [if_neg hc2] at hdv
                have h3 : z < 48 ∨ (57 < z ∧ z < 97) ∨ 102 < z := by omega
                clear hdv hcc hc2 e3 hz hdb hcl
                rcases h3 with h3 | ⟨h3, h4⟩ | h3
                all_goals
                  go_wp2
                  go_ret
                  exact ⟨by rw [HR.out]; rfl, rfl⟩
        · obtain rfl : k = s.size := by omega
          have HS : Hid (digI base most L = v) := by
            show digI base most L = v
            have h := HN.out
            rw [List.take_of_length_le (by rw [HSL.out]; exact Nat.le_refl _)] at h
            rw [HV.out, h]
          go_wp2
          go_ret
          exact ⟨by rw [HS.out]; rfl, rfl⟩
end Go.Proofs.YtfpidnckmdiieaaGreatDoor
namespace Go.Proofs.YtfpidnckmdiieaaGreatDoor
open Go.RowKit
set_option linter.unusedVariables false
set_option linter.unusedSimpArgs false

/-- one more sign -/
def stepS (c : UInt8) (out : List (List UInt8)) (b : UInt8) : List (List UInt8) := if b = c then out ++ [[]] else out.set (out.length - 1) (out.getD (out.length - 1) [] ++ [b])
def splitS (c : UInt8) (l : List UInt8) : List (List UInt8) := l.foldl (stepS c) [[]]
theorem splitS_nil (c : UInt8) : splitS c [] = [[]] := rfl
theorem splitS_snoc (c : UInt8) (l : List UInt8) (b : UInt8) : splitS c (l ++ [b]) = stepS c (splitS c l) b := by simp [splitS]
theorem splitS_len (c : UInt8) (l : List UInt8) : 1 ≤ (splitS c l).length ∧ (splitS c l).length ≤ l.length + 1 := by
  have h : ∀ r : List UInt8, 1 ≤ (splitS c r.reverse).length ∧ (splitS c r.reverse).length ≤ r.length + 1 := by
    intro r
    induction r with
    | nil => simp [splitS]
    | cons b r ih =>
      rw [List.reverse_cons, splitS_snoc]
      unfold stepS
      split
      · simp; omega
      · simp; omega
  have := h l.reverse
  simpa using this
theorem svs_set (xs : List (List UInt8)) (j : Nat) (x : List UInt8) : (svs xs).set j (sv x) = svs (xs.set j x) := by
  unfold svs
  rw [List.map_set]
theorem svs_get {xs : List (List UInt8)} {j : Nat} (h : j < xs.length) : (svs xs)[j]? = some (sv (xs.getD j [])) := by
  unfold svs
  rw [List.getElem?_map, List.getD_eq_getElem?_getD, List.getElem?_eq_getElem h]
  rfl
theorem splitS_part (c : UInt8) : ∀ (l x : List UInt8), x ∈ splitS c l → x.length ≤ l.length := by
  have h : ∀ r x : List UInt8, x ∈ splitS c r.reverse → x.length ≤ r.length := by
    intro r
    induction r with
    | nil => intro x hx; simp [splitS] at hx; simp [hx]
    | cons b r ih =>
      intro x hx
      rw [List.reverse_cons, splitS_snoc] at hx
      unfold stepS at hx
      split at hx
      · rcases List.mem_append.1 hx with hx | hx
        · have := ih x hx; simp; omega
        · simp at hx; simp [hx]
      · rcases List.mem_or_eq_of_mem_set hx with hx | hx
        · have := ih x hx; simp; omega
        · subst hx
          have hl := splitS_len c r.reverse
          have hg : (splitS c r.reverse).getD ((splitS c r.reverse).length - 1) [] ∈ splitS c r.reverse := by
            rw [List.getD_eq_getElem?_getD, List.getElem?_eq_getElem (by omega)]
            exact List.getElem_mem _
          have := ih _ hg
          simp only [List.length_append, List.length_cons, List.length_nil]
          omega
  intro l x hx
  have := h l.reverse x (by simpa using hx)
  simpa using this
theorem sub_one (s : ByteArray) (j : Nat) (h : j < s.size) : s.extract j (j + 1) = ⟨[s[j]].toArray⟩ := by
  apply ByteArray.ext
  rw [ByteArray.data_extract]
  apply Array.ext_getElem?
  intro i
  have h' : j < s.data.size := h
  rw [Array.getElem?_extract]
  by_cases hi : i = 0
  · subst hi
    rw [if_pos (by have : s.data.size = s.size := rfl; omega), Nat.add_zero, Array.getElem?_eq_getElem h']
    rfl
  · rw [if_neg (by omega)]
    simp; omega
set_option maxRecDepth 20000 in
set_option maxHeartbeats 3000000 in
theorem refsplit_any (w : World) (s : ByteArray) (hs : s.size ≤ 2000000) (c : UInt8) :
    Calls Tryz.prog 130 #[.string s, .int .u8 (c.toNat : Int)] w fun e w' => ∃ v, e = .returned v ∧ w'.ownsRow w.heap.size 9 1 v (splitS c s.data.toList).length (svs (splitS c s.data.toList)) ∧ Below w.heap.size w w' := by
  obtain ⟨L, hL⟩ : ∃ L, s.data.toList = L := ⟨_, rfl⟩
  have hLs : L.length = s.size := by rw [← hL]; simp
  have HLL := hide hL
  have HSL := hide hLs
  rw [hL]
  have O0 : Hid ((w.alloc (.cells #[.string ⟨#[]⟩] 9)).ownsRow w.heap.size 9 1 (.slice (some ⟨w.heap.size, 0, none⟩) 1 1) 1 (svs (splitS c (L.take 0)))) :=
    own_of_blk (Blk.new w _ _) (Nat.le_refl _) (Nat.le_refl _) (by unfold maxLen; decide) rfl rfl
  obtain ⟨zc, hzc⟩ : ∃ zc : Int, (c.toNat : Int) = zc := ⟨_, rfl⟩
  have HZC := hide hzc
  rw [hzc]
  clear hL hLs hzc
  go_enter Tryz.func130, Tryz.ntmps130
  go_wp2
  go_loopw [5, 6] (fun v i wr => ∃ (j : Nat) (vv : Value), v = vv ∧ j ≤ s.size ∧ i = .int .i64 j ∧ wr.ownsRow w.heap.size 9 1 vv (splitS c (L.take j)).length (svs (splitS c (L.take j))) ∧ Below w.heap.size w wr) (fun _ i _ => s.size - (intOf i).toNat)
  case atStart => exact ⟨0, _, rfl, Nat.zero_le _, rfl, O0.out, (Below.refl _ _).alloc (Nat.le_refl _) _⟩
  case round =>
    obtain ⟨j, vv, rfl, hj, rfl, hown, hbel⟩ := hrel
    obtain ⟨A2, c2, rfl, hc2, hc3⟩ := own_shape hown
    have HBE := hide hbel
    have hln := splitS_len c (L.take j)
    have hlj : (L.take j).length = j := by rw [List.length_take, HSL.out]; omega
    rw [hlj] at hln
    obtain ⟨X, hX⟩ : ∃ X, splitS c (L.take j) = X := ⟨_, rfl⟩
    rw [hX] at hown hln hc2 ⊢
    have HX := hide hX
    obtain ⟨n, hn⟩ : ∃ n, X.length = n := ⟨_, rfl⟩
    rw [hn] at hown hln hc2 ⊢
    have HN := hide hn
    have HO := hide hown
    have hsz := hbel.size
    clear hown hbel hX hn hlj
    by_cases hlt : j < s.size
    · obtain ⟨b, hb⟩ : ∃ b, s[j] = b := ⟨_, rfl⟩
      have hu : L[j]? = some b := by
        rw [← HLL.out, List.getElem?_eq_getElem (by simpa using hlt), ← hb]
        rfl
      have HS : Hid (splitS c (L.take (j + 1)) = stepS c X b) := by
        show _ = _
        rw [take_snoc L j b hu, splitS_snoc, HX.out]
      obtain ⟨zb, hzb⟩ : ∃ zb : Int, (b.toNat : Int) = zb := ⟨_, rfl⟩
      have hcz : ((s[j]).toNat : Int) = zb := by rw [hb]; exact hzb
      have HU := hide hu
      have HB := hide hb
      by_cases hbc : b = c
      · have hzz : (zb == zc) = true := by rw [← hzb, ← HZC.out, hbc]; simp
        have HS2 : Hid (splitS c (L.take (j + 1)) = X ++ [[]]) := by
          show _ = _
          rw [HS.out]; unfold stepS; rw [if_pos hbc]
        clear hu hb hzb hbc
        go_wp2_with (at_builtin; go_must (refine wpList_append_str rfl (.tmp 19) (.tmp 20) rfl w.heap.size _ n X rfl (HO.out.alloc _) wr.heap.size _ [] rfl (Blk.new wr _ _) (by omega) (by simp; omega) ?_); intro v3 w3 hown3 hg3; have HO3 := hide hown3; have HG3 := hide hg3; clear hown3 hg3)
        go_roundw
        case rel =>
          refine ⟨j + 1, _, rfl, by omega, by go_num, ?_, (HBE.out.alloc (by omega) _).grown HG3.out (by simp; omega) (fun g hg => (HO.out.lt g hg).1)⟩
          rw [HS2.out, List.length_append, HN.out]
          exact HO3.out
        case measure => simp [intOf]; omega
      · have hzz : (zb == zc) = false := by
          rw [← hzb, ← HZC.out]
          refine beq_eq_false_iff_ne.2 (fun e => hbc (UInt8.toNat_inj.1 (by omega)))
        have HS2 : Hid (splitS c (L.take (j + 1)) = X.set (n - 1) (X.getD (n - 1) [] ++ [b])) := by
          show _ = _
          rw [HS.out]; unfold stepS; rw [if_neg hbc, HN.out]
        obtain ⟨m, rfl⟩ : ∃ m, n = m + 1 := ⟨n - 1, by omega⟩
        obtain ⟨Y, hY⟩ : ∃ Y, X.getD m [] = Y := ⟨_, rfl⟩
        have hYm : Y ∈ X := by
          rw [← hY, List.getD_eq_getElem?_getD, List.getElem?_eq_getElem (by rw [HN.out]; omega)]
          exact List.getElem_mem _
        have hYl : Y.length ≤ 2000000 := by
          rw [← HX.out] at hYm
          have h1 := splitS_part c _ _ hYm
          rw [List.length_take] at h1
          omega
        obtain ⟨g, rfl⟩ : ∃ g, A2 = some ⟨g, 0, none⟩ := by
          rcases HO.out.2 with ⟨hv, _⟩ | ⟨g, cap, cur, hv, _⟩
          · injection hv with _ h2; omega
          · injection hv with h2; exact ⟨g, h2⟩
        have hcell : wr.cell? ⟨g, m, none⟩ = some (.string ⟨Y.toArray⟩) := by
          rw [HO.out.cellAt m (by omega), svs_get (by rw [HN.out]; omega), hY]
          rfl
        have hfz := HO.out.frozenAt m
        have hsub : s.extract j (j + 1) = ⟨#[b]⟩ := by rw [sub_one s j hlt, hb]
        have HST := hide (HO.out.stored m (sv (Y ++ [b])))
        have hmI : ((m + 1 : Nat) : Int) - 1 = m := by omega
        have HS3 : Hid (splitS c (L.take (j + 1)) = X.set m (Y ++ [b])) := by
          show _ = _
          rw [HS2.out, Nat.add_sub_cancel, hY]
        clear hu hb hzb hbc hYm hY
        go_wp2
        go_region
        go_wp2
        go_roundw
        case rel =>
          have hst := HO.out.stored m (sv (Y ++ [b]))
          have hval : (Value.string (⟨Y.toArray⟩ ++ ⟨#[b]⟩)) = sv (Y ++ [b]) := by
            show _ = Value.string ⟨(Y ++ [b]).toArray⟩
            rw [← ByteArray.mk_append_mk]
          rw [hval]
          refine ⟨j + 1, _, rfl, by omega, by go_num, ?_, below_drew (below_setCell HBE.out (by have := (HO.out.lt g rfl).1; simpa using this) _)⟩
          rw [HS3.out, List.length_set, HN.out, ← svs_set]
          exact hst.1.drew
        case measure => simp [intOf]; omega
    · obtain rfl : j = s.size := by omega
      have HF : Hid (X = splitS c L) := by
        show _ = _
        rw [← HX.out, List.take_of_length_le (by rw [HSL.out]; exact Nat.le_refl _)]
      go_wp2
      go_ret
      refine ⟨_, rfl, ?_, HBE.out⟩
      rw [← HF.out, HN.out]
      exact HO.out
end Go.Proofs.YtfpidnckmdiieaaGreatDoor
