/-
  What the document's own Number and Digits do. The one condition: a number below 2^32, a text of a few signs.
  What the document's own Digits does. The one condition: at most ten signs are asked for.
  What the document's own split does: the parts of a text between signs. The one condition: a text of at most 2,000,000 bytes.
  The small case that stands at the head of each statement of layer 2 comes out true. The one condition: the library's tables hold what its text lays.
  Plain mathematics of the document's text of an IPv6 address: the longest run of zeros, looked for from each place on, is the one that the program finds in one pass; and what is written place by place. Nothing here speaks of the program.
  Plain mathematics of the document's text of an IPv6 address, continued: what is written place by place. Nothing here speaks of the program.
  What the document's own text of an IPv6 address is. The one condition beyond sizes that fit memory: none.
  What the document's own text of an address is. The one condition beyond sizes that fit memory: none.
-/
import Derived.Test.YtdkoicfenehjcaaDoorRds
import Derived.Test.YtdkoicfenehjcaaDoorFmt
import Derived.Test.YtdkoicfenehjcaaDoorMath
import Derived.Test.YtdkoicfenehjcaaDoorBase
import Derived.Test.YtdkoicfenehjcaaDoorParse
import Derived.Test.YtdkoicfenehjcaaDoorNums
import Derived.Test.YtdkoicfenehjcaaDoorRef2
import Derived.Test.YtdkoicfenehjcaaDoorExec
namespace Go.Proofs.YtdkoicfenehjcaaDoor
open Go.RowKit
set_option linter.unusedVariables false
set_option linter.unusedSimpArgs false

theorem sub_hex : ∀ j : Nat, j < 16 → (⟨#[48, 49, 50, 51, 52, 53, 54, 55, 56, 57, 97, 98, 99, 100, 101, 102]⟩ : ByteArray).extract j (j + 1) = ⟨[sign j].toArray⟩ := by
  intro j hj
  rcases (show j = 0 ∨ j = 1 ∨ j = 2 ∨ j = 3 ∨ j = 4 ∨ j = 5 ∨ j = 6 ∨ j = 7 ∨ j = 8 ∨ j = 9 ∨ j = 10 ∨ j = 11 ∨ j = 12 ∨ j = 13 ∨ j = 14 ∨ j = 15 by omega) with e | e | e | e | e | e | e | e | e | e | e | e | e | e | e | e <;> subst e <;> rfl
set_option maxRecDepth 20000 in
set_option maxHeartbeats 2000000 in
theorem refnumber_any (b : Nat) (hb : b = 10 ∨ b = 16) : ∀ n : Nat, n < 4294967296 → ∀ w : World,
    Calls Tryd.prog 57 #[.int .i64 n, .int .i64 b] w fun e w' => e = .returned (.string ⟨(numeral b n).toArray⟩) ∧ ∃ q, w' = w.drewN q := by
  intro n
  induction n using Nat.strongRecOn with
  | _ n ih =>
    intro hn w
    by_cases hlt : n < b
    · rw [numeral_small hlt]
      have hs := sub_hex n (by omega)
      have hsI : (n : Int) < b := by omega
      clear ih
      rcases hb with rfl | rfl
      all_goals
        go_enter Tryd.func57, Tryd.ntmps57
        go_wp2
        go_ret
        exact ⟨rfl, 0, rfl⟩
    · have hb2 : 2 ≤ b := by omega
      have HB := hide (numeral_big hb2 (Nat.le_of_not_lt hlt))
      have ih' := ih (n / b) (Nat.div_lt_self (by omega) (by omega)) (Nat.lt_of_le_of_lt (Nat.div_le_self _ _) hn)
      have IH := hide ih'
      have hlen : (numeral b (n / b)).length ≤ 32 := by
        have h1 : n / b < b ^ (31 + 1) := by
          refine Nat.lt_of_le_of_lt (Nat.div_le_self _ _) (Nat.lt_of_lt_of_le hn ?_)
          rcases hb with rfl | rfl <;> decide
        exact numeral_len hb2 31 _ h1
      obtain ⟨P, hP⟩ : ∃ P, numeral b (n / b) = P := ⟨_, rfl⟩
      rw [hP] at IH HB hlen
      obtain ⟨m, hm⟩ : ∃ m, n % b = m := ⟨_, rfl⟩
      have hmb : m < 16 := by have := Nat.mod_lt n (show 0 < b by omega); omega
      have hs := sub_hex m hmb
      rw [hm] at HB
      clear ih ih' hP
      rcases hb with rfl | rfl
      all_goals
        go_enter Tryd.func57, Tryd.ntmps57
        go_wp2
        go_quiet ((go_at_call 57; exact Calls.quiet_of (IH.out _)))
        all_goals
          go_wp2
          go_ret
          exact ⟨by rw [HB.out, ← ByteArray.mk_append_mk]; rfl, _, rfl⟩
end Go.Proofs.YtdkoicfenehjcaaDoor
namespace Go.Proofs.YtdkoicfenehjcaaDoor
open Go.RowKit
set_option linter.unusedVariables false
set_option linter.unusedSimpArgs false

/-- no number of ten signs is greater -/
def vast : Nat := 1152921504606846976
def digI (base most : Nat) (s : List UInt8) : Int := if s.length = 0 ∨ most < s.length then -1 else match numF base vast s 0 with | none => -1 | some n => (n : Int)
theorem numF_lt {base : Nat} (hb : base ≤ 16) : ∀ (l : List UInt8) (n m : Nat), numF base vast l n = some m → m < (n + 1) * 16 ^ l.length
  | [], n, m, h => by
    have : n = m := by simpa [numF] using h
    subst this
    simp
  | c :: l, n, m, h => by
    rw [numF_cons] at h
    split at h
    · cases h
    · rename_i hc
      have ih := numF_lt hb l (n * base + digitN c) m h
      refine Nat.lt_of_lt_of_le ih ?_
      rw [List.length_cons, Nat.pow_succ, Nat.mul_comm (16 ^ l.length) 16, ← Nat.mul_assoc]
      refine Nat.mul_le_mul_right _ ?_
      have h1 : n * base ≤ n * 16 := Nat.mul_le_mul_left _ hb
      omega
theorem numF_ge : ∀ (base top : Nat) (l : List UInt8) (n m : Nat), 1 ≤ base → numF base top l n = some m → n ≤ m
  | base, top, [], n, m, _, h => by
    have : n = m := by simpa [numF] using h
    omega
  | base, top, c :: l, n, m, hb, h => by
    rw [numF_cons] at h
    split at h
    · cases h
    · have ih := numF_ge base top l (n * base + digitN c) m hb h
      have : n * 1 ≤ n * base := Nat.mul_le_mul_left _ hb
      omega
end Go.Proofs.YtdkoicfenehjcaaDoor
namespace Go.Proofs.YtdkoicfenehjcaaDoor
open Go.RowKit
set_option linter.unusedVariables false
set_option linter.unusedSimpArgs false

/-- one more sign -/
def stepS (c : UInt8) (out : List (List UInt8)) (b : UInt8) : List (List UInt8) := if b = c then out ++ [[]] else out.set (out.length - 1) (out.getD (out.length - 1) [] ++ [b])
def splitS (c : UInt8) (l : List UInt8) : List (List UInt8) := l.foldl (stepS c) [[]]
theorem splitS_nil (c : UInt8) : splitS c [] = [[]] := rfl
theorem splitS_snoc (c : UInt8) (l : List UInt8) (b : UInt8) : splitS c (l ++ [b]) = stepS c (splitS c l) b := by simp [splitS]
theorem splitS_len (c : UInt8) (l : List UInt8) : 1 ≤ (splitS c l).length ∧ (splitS c l).length ≤ l.length + 1 := by
  have h : ∀ r : List UInt8, 1 ≤ (splitS c r.reverse).length ∧ (splitS c r.reverse).length ≤ r.length + 1 := by
    intro r
    induction r with
    | nil => simp [splitS]
    | cons b r ih =>
      rw [List.reverse_cons, splitS_snoc]
      unfold stepS
      split
      · simp; omega
      · simp; omega
  have := h l.reverse
  simpa using this
theorem svs_set (xs : List (List UInt8)) (j : Nat) (x : List UInt8) : (svs xs).set j (sv x) = svs (xs.set j x) := by
  unfold svs
  rw [List.map_set]
theorem svs_get {xs : List (List UInt8)} {j : Nat} (h : j < xs.length) : (svs xs)[j]? = some (sv (xs.getD j [])) := by
  unfold svs
  rw [List.getElem?_map, List.getD_eq_getElem?_getD, List.getElem?_eq_getElem h]
  rfl
theorem splitS_part (c : UInt8) : ∀ (l x : List UInt8), x ∈ splitS c l → x.length ≤ l.length := by
  have h : ∀ r x : List UInt8, x ∈ splitS c r.reverse → x.length ≤ r.length := by
    intro r
    induction r with
    | nil => intro x hx; simp [splitS] at hx; simp [hx]
    | cons b r ih =>
      intro x hx
      rw [List.reverse_cons, splitS_snoc] at hx
      unfold stepS at hx
      split at hx
      · rcases List.mem_append.1 hx with hx | hx
        · have := ih x hx; simp; omega
        · simp at hx; simp [hx]
      · rcases List.mem_or_eq_of_mem_set hx with hx | hx
        · have := ih x hx; simp; omega
        · subst hx
          have hl := splitS_len c r.reverse
          have hg : (splitS c r.reverse).getD ((splitS c r.reverse).length - 1) [] ∈ splitS c r.reverse := by
            rw [List.getD_eq_getElem?_getD, List.getElem?_eq_getElem (by omega)]
            exact List.getElem_mem _
          have := ih _ hg
          simp only [List.length_append, List.length_cons, List.length_nil]
          omega
  intro l x hx
  have := h l.reverse x (by simpa using hx)
  simpa using this
theorem sub_one (s : ByteArray) (j : Nat) (h : j < s.size) : s.extract j (j + 1) = ⟨[s[j]].toArray⟩ := by
  apply ByteArray.ext
  rw [ByteArray.data_extract]
  apply Array.ext_getElem?
  intro i
  have h' : j < s.data.size := h
  rw [Array.getElem?_extract]
  by_cases hi : i = 0
  · subst hi
    rw [if_pos (by have : s.data.size = s.size := rfl; omega), Nat.add_zero, Array.getElem?_eq_getElem h']
    rfl
  · rw [if_neg (by omega)]
    simp; omega
end Go.Proofs.YtdkoicfenehjcaaDoor
namespace Go.Proofs.YtdkoicfenehjcaaDoor
open Go.RowKit
set_option linter.unusedVariables false
set_option linter.unusedSimpArgs false

/-- a boxed address, as the call goes on -/
def Boxed (w x : World) (s : Int) (bs : List UInt8) : Prop := Blk x w.heap.size 26 (addrC s bs) ∧ Below w.heap.size w x
section
variable {w x y : World} {s : Int} {bs : List UInt8}
theorem Boxed.blk (h : Boxed w x s bs) : Blk x w.heap.size 26 (addrC s bs) := h.1
theorem Boxed.bel (h : Boxed w x s bs) : Below w.heap.size w x := h.2
theorem Boxed.on (h : Boxed w x s bs) (hb : Below x.heap.size x y) : Boxed w y s bs := ⟨h.1.on hb, below_step h.2 hb (Nat.le_refl _)⟩
theorem Boxed.kept (h : Boxed w x s bs) (o : Obj) (hg : (x.alloc o).grownBy y (some x.heap.size)) : Boxed w y s bs :=
  ⟨h.1.kept _ hg (Nat.le_refl _), below_new h.2 (Nat.le_refl _) _ hg (Nat.le_refl _)⟩
theorem Boxed.new (w : World) (s : Int) (bs : List UInt8) : Boxed w (w.alloc (.cells (addrC s bs) 26)) s bs :=
  ⟨Blk.new w _ _, (Below.refl _ _).alloc (Nat.le_refl _) _⟩
end
def sm1 : List UInt8 := [192, 0, 2, 1, 0, 0, 0, 0, 0, 0, 0, 0, 0, 0, 0, 0]
def sm2 : List UInt8 := [32, 1, 13, 184, 0, 0, 0, 0, 0, 0, 0, 0, 0, 0, 0, 0]
def sm3 : List UInt8 := [192, 0, 0, 0, 0, 0, 0, 0, 0, 0, 0, 0, 0, 0, 0, 0]
end Go.Proofs.YtdkoicfenehjcaaDoor
namespace Go.Proofs.YtdkoicfenehjcaaDoor

/-- where the run of zeros ends that begins at a place -/
def runE (z : Nat → Bool) : Nat → Nat → Nat
  | 0, k => k
  | n + 1, k => if k < 8 ∧ z k = true then runE z n (k + 1) else k
/-- the longest run that begins at one of the first i places: its beginning, its length -/
def scanR (z : Nat → Bool) : Nat → Nat × Nat
  | 0 => (0, 0)
  | i + 1 => if (scanR z i).2 < runE z 8 i - i then (i, runE z 8 i - i) else scanR z i
def zerosP (z : Nat → Bool) : Nat → Nat × Nat × Nat
  | 0 => (0, 0, 0)
  | k + 1 => match zerosP z k with
    | (f, t, b) => if z k = false then (f, t, k + 1) else if t - f < k + 1 - b then (b, k + 1, b) else (f, t, b)
def zOf (row : List Nat) (k : Nat) : Bool := decide (row.getD k 0 = 0)
theorem zerosK_P (row : List Nat) : ∀ k, zerosK row k = zerosP (zOf row) k
  | 0 => rfl
  | k + 1 => by
    simp only [zerosK, zerosP, zerosK_P row k]
    rcases zerosP (zOf row) k with ⟨f, t, b⟩
    simp only [zOf]
    simp
def pat (bs : List Bool) (k : Nat) : Bool := bs.getD k false
theorem runE_congr {z y : Nat → Bool} (h : ∀ k, k < 8 → z k = y k) : ∀ n k, runE z n k = runE y n k
  | 0, k => rfl
  | n + 1, k => by
    simp only [runE]
    by_cases hk : k < 8
    · rw [h k hk, runE_congr h n (k + 1)]
    · rw [if_neg (fun e => hk e.1), if_neg (fun e => hk e.1)]
theorem scanR_congr {z y : Nat → Bool} (h : ∀ k, k < 8 → z k = y k) : ∀ i, scanR z i = scanR y i
  | 0 => rfl
  | i + 1 => by simp only [scanR, runE_congr h, scanR_congr h i]
theorem zerosP_congr {z y : Nat → Bool} (h : ∀ k, k < 8 → z k = y k) : ∀ i, i ≤ 8 → zerosP z i = zerosP y i
  | 0, _ => rfl
  | i + 1, hi => by simp only [zerosP, zerosP_congr h i (by omega), h i (by omega)]
set_option maxRecDepth 100000 in
theorem scan_pat : ∀ b0 b1 b2 b3 b4 b5 b6 b7 : Bool, scanR (pat [b0, b1, b2, b3, b4, b5, b6, b7]) 8 = ((zerosP (pat [b0, b1, b2, b3, b4, b5, b6, b7]) 8).1, (zerosP (pat [b0, b1, b2, b3, b4, b5, b6, b7]) 8).2.1 - (zerosP (pat [b0, b1, b2, b3, b4, b5, b6, b7]) 8).1) := by decide +kernel
/-- both searches find the same run -/
theorem scan_zeros (row : List Nat) : scanR (zOf row) 8 = ((zerosK row 8).1, (zerosK row 8).2.1 - (zerosK row 8).1) := by
  have h : ∀ k, k < 8 → zOf row k = pat [zOf row 0, zOf row 1, zOf row 2, zOf row 3, zOf row 4, zOf row 5, zOf row 6, zOf row 7] k := by
    intro k hk
    rcases (show k = 0 ∨ k = 1 ∨ k = 2 ∨ k = 3 ∨ k = 4 ∨ k = 5 ∨ k = 6 ∨ k = 7 by omega) with e | e | e | e | e | e | e | e <;> subst e <;> rfl
  rw [scanR_congr h, zerosK_P, zerosP_congr h 8 (Nat.le_refl _)]
  exact scan_pat _ _ _ _ _ _ _ _
end Go.Proofs.YtdkoicfenehjcaaDoor
namespace Go.Proofs.YtdkoicfenehjcaaDoor

theorem joinN_snoc (xs : List Nat) (x : Nat) : joinN (xs ++ [x]) = if xs = [] then numeral 16 x else joinN xs ++ ([58] ++ numeral 16 x) := by
  cases xs with
  | nil => simp [joinN, Lib.join_one]
  | cons y r =>
    rw [if_neg (by simp)]
    unfold joinN
    rw [List.cons_append, List.map_cons, List.map_cons, Lib.join_cons, Lib.join_cons, List.map_append]
    simp [Lib.joinTail]
theorem numeral_end (x : Nat) : ∃ Y c, numeral 16 x = Y ++ [c] ∧ c ≠ 58 := by
  obtain ⟨h0, hd⟩ := numeral_digits (b := 16) (by decide) (by decide) x
  refine ⟨_, _, (List.dropLast_concat_getLast h0).symm, ?_⟩
  exact (digit_ne (hd _ (List.getLast_mem h0))).1
theorem joinN_end {xs : List Nat} (h : xs ≠ []) : ∃ Y c, joinN xs = Y ++ [c] ∧ c ≠ 58 := by
  rw [← List.dropLast_concat_getLast h, joinN_snoc]
  obtain ⟨Y, c, hy, hc⟩ := numeral_end (xs.getLast h)
  rw [hy]
  split
  · exact ⟨Y, c, rfl, hc⟩
  · exact ⟨_, c, by simp only [← List.append_assoc]; rfl, hc⟩
/-- does the text want a colon ahead of the next number -/
def wants (X : List UInt8) : Bool := match X.getLast? with | none => false | some c => c != 58
def stepT (X : List UInt8) (x : Nat) : List UInt8 := (if wants X = true then X ++ [58] else X) ++ numeral 16 x
theorem wants_end (Y : List UInt8) (c : UInt8) : wants (Y ++ [c]) = (c != 58) := by simp [wants]
/-- what stands written behind j places, where the run of zeros goes from f to t -/
def SixAt (row : List Nat) (f t j : Nat) (X : List UInt8) : Prop :=
  if t - f < 2 then X = joinN (row.take j) else (j ≤ f ∧ X = joinN (row.take j)) ∨ (t ≤ j ∧ X = joinN (row.take f) ++ [58, 58] ++ joinN ((row.drop t).take (j - t)))
theorem six_zero (row : List Nat) (f t : Nat) : SixAt row f t 0 [] := by
  unfold SixAt
  split
  · rfl
  · exact .inl ⟨Nat.zero_le _, rfl⟩
theorem stepT_joinN (xs : List Nat) (x : Nat) : stepT (joinN xs) x = joinN (xs ++ [x]) := by
  rw [joinN_snoc]
  unfold stepT
  by_cases h : xs = []
  · subst h
    rw [if_pos rfl]
    rfl
  · obtain ⟨Y, c, hy, hc⟩ := joinN_end h
    rw [if_neg h, hy, wants_end, if_pos (by simpa using hc)]
    simp
theorem stepT_gap (P : List UInt8) (xs : List Nat) (x : Nat) : stepT (P ++ [58, 58] ++ joinN xs) x = P ++ [58, 58] ++ joinN (xs ++ [x]) := by
  rw [joinN_snoc]
  unfold stepT
  by_cases h : xs = []
  · subst h
    have e : P ++ [58, 58] ++ joinN [] = (P ++ [58]) ++ [58] := by simp [joinN, Lib.join_nil]
    rw [e, wants_end, if_neg (by simp), if_pos rfl]
    simp
  · obtain ⟨Y, c, hy, hc⟩ := joinN_end h
    rw [if_neg h, hy, ← List.append_assoc, wants_end, if_pos (by simpa using hc)]
    simp
theorem take_snoc' {row : List Nat} {j x : Nat} (hx : row[j]? = some x) : row.take j ++ [x] = row.take (j + 1) := by rw [List.take_add_one, hx]; rfl
theorem six_step {row : List Nat} {f t j x : Nat} {X : List UInt8} (h : SixAt row f t j X) (hx : row[j]? = some x) (hn : t - f < 2 ∨ j ≠ f) : SixAt row f t (j + 1) (stepT X x) := by
  unfold SixAt at h ⊢
  by_cases ht : t - f < 2
  · rw [if_pos ht] at h ⊢
    rw [h, stepT_joinN, take_snoc' hx]
  · rw [if_neg ht] at h ⊢
    rcases h with ⟨h1, h2⟩ | ⟨h1, h2⟩
    · refine .inl ⟨by omega, ?_⟩
      rw [h2, stepT_joinN, take_snoc' hx]
    · refine .inr ⟨by omega, ?_⟩
      rw [h2, stepT_gap]
      have : (row.drop t)[j - t]? = some x := by rw [List.getElem?_drop, show t + (j - t) = j by omega]; exact hx
      rw [take_snoc' this, show j - t + 1 = j + 1 - t by omega]
theorem six_jump {row : List Nat} {f t : Nat} {X : List UInt8} (ht : ¬ t - f < 2) (h : SixAt row f t f X) : SixAt row f t t (X ++ [58, 58]) := by
  unfold SixAt at h ⊢
  rw [if_neg ht] at h ⊢
  rcases h with ⟨h1, h2⟩ | ⟨h1, h2⟩
  · refine .inr ⟨Nat.le_refl _, ?_⟩
    rw [h2, Nat.sub_self]
    simp [joinN, Lib.join_nil]
  · omega
theorem six_end {row : List Nat} {f t b : Nat} {X : List UInt8} (hl : row.length = 8) (hz : zerosK row 8 = (f, t, b)) (h : SixAt row f t 8 X) : X = text6 row := by
  have hb := zerosK_bounds row 8
  rw [hz] at hb
  simp only at hb
  unfold SixAt at h
  unfold text6
  rw [hz]
  simp only
  split
  · rename_i ht
    rw [if_pos ht] at h
    rw [h, List.take_of_length_le (by omega)]
  · rename_i ht
    rw [if_neg ht] at h
    rcases h with ⟨h1, h2⟩ | ⟨h1, h2⟩
    · omega
    · have e : (row.drop t).take (8 - t) = row.drop t := List.take_of_length_le (by rw [List.length_drop]; omega)
      rw [h2, e]
theorem joinN_len' {xs : List Nat} (h : xs.length ≤ 8) (hx : ∀ x ∈ xs, x < 65536) : (joinN xs).length ≤ 40 := by
  refine Nat.le_trans (join_len [58] 4 _ (fun y hy => ?_)) ?_
  · obtain ⟨x, hx', rfl⟩ := List.mem_map.1 hy
    exact numeral_len (by decide) 3 x (hx x hx')
  · simp; omega
theorem six_len {row : List Nat} {f t j : Nat} {X : List UInt8} (hl : row.length = 8) (hx : ∀ x ∈ row, x < 65536) (h : SixAt row f t j X) : X.length ≤ 90 := by
  have h1 : ∀ k, (joinN (row.take k)).length ≤ 40 := fun k => joinN_len' (by rw [List.length_take]; omega) (fun x hm => hx x (List.mem_of_mem_take hm))
  have h2 : ∀ k, (joinN ((row.drop t).take k)).length ≤ 40 := fun k => joinN_len' (by rw [List.length_take, List.length_drop]; omega) (fun x hm => hx x (List.mem_of_mem_drop (List.mem_of_mem_take hm)))
  unfold SixAt at h
  split at h
  · rw [h]; have := h1 j; omega
  · rcases h with ⟨_, h⟩ | ⟨_, h⟩
    · rw [h]; have := h1 j; omega
    · rw [h]
      simp only [List.length_append, List.length_cons, List.length_nil]
      have := h1 f
      have := h2 (j - t)
      omega
end Go.Proofs.YtdkoicfenehjcaaDoor
namespace Go.Proofs.YtdkoicfenehjcaaDoor
open Go.RowKit
set_option linter.unusedVariables false
set_option linter.unusedSimpArgs false

theorem run_append_int (w : World) (ty : TypeId) (base : Nat) (v : Value) (n : Nat) (xs : List Nat) (hown : w.ownsRow base 3 1 v n (ivs xs)) (g : Nat) (t : TypeId) (y : Nat) (hb : Blk w g t #[.int .i64 (y : Int)]) (hn : n ≤ 8000000000000) (hbase : base ≤ w.heap.size) :
    ∃ v' w', (Builtin.append_ #[101, 101] ty #[v, .slice (some ⟨g, 0, none⟩) 1 1]).run Tryd.prog w = .ok v' w' ∧ w'.ownsRow base 3 1 v' (n + 1) (ivs (xs ++ [y])) ∧ w.grownBy w' v.ownBlock := by
  obtain ⟨i0, hi0, hz0, hz1, hz2⟩ := info_parts int_info
  obtain ⟨v', w', hrun, h2, h3, _, _⟩ := run_append_own_at (P := Tryd.prog) w base 101 ty 3 i0 (.int .i64 0) 1 8 Tryd.underlying101 hi0 hz0 hz1 hz2 rfl (by omega) v n (ivs xs) hown ⟨g, 0, none⟩ 1 1 [.int .i64 (y : Int)]
    rfl (by
      intro j u hu
      match j, hu with
      | 0, hu =>
        simp at hu
        subst hu
        exact hb.cell 0) (by
      intro u hu
      simp at hu
      subst hu
      rfl) (by unfold maxLen; omega) (by omega) hbase
  refine ⟨v', w', hrun, ?_, h3⟩
  unfold ivs at h2 ⊢
  rw [List.map_append]
  exact h2

/-- append, at its operation -/
theorem runE_bounds (z : Nat → Bool) : ∀ n k, k ≤ 8 → k ≤ runE z n k ∧ runE z n k ≤ 8
  | 0, k, h => ⟨Nat.le_refl _, h⟩
  | n + 1, k, h => by
    simp only [runE]
    split
    · have := runE_bounds z n (k + 1) (by omega)
      omega
    · omega
theorem runE_stop (z : Nat → Bool) (n k : Nat) (h : ¬ (k < 8 ∧ z k = true)) : runE z n k = k := by
  cases n with
  | zero => rfl
  | succ n => simp only [runE]; rw [if_neg h]
theorem runE_go (z : Nat → Bool) (n k : Nat) (h : k < 8) (hz : z k = true) : runE z (n + 1) k = runE z n (k + 1) := by
  simp only [runE]
  rw [if_pos ⟨h, hz⟩]
theorem scanR_succ (z : Nat → Bool) (i : Nat) {f n e : Nat} (h : scanR z i = (f, n)) (he : runE z 8 i = e) : scanR z (i + 1) = if n < e - i then (i, e - i) else (f, n) := by
  simp only [scanR, h, he]
theorem ba_loop (S : ByteArray) : ∀ k i r, S.size - i = k → (ByteArray.toList.loop S i r).length = r.length + k
  | 0, i, r, h => by
    rw [ByteArray.toList.loop, if_neg (by omega)]
    simp
  | k + 1, i, r, h => by
    rw [ByteArray.toList.loop, if_pos (by omega), ba_loop S k (i + 1) _ (by omega)]
    simp
    omega
theorem ba_full {S : ByteArray} {m : Nat} (h : S.size = m + 1) : S.toList.isEmpty = false := by
  have h1 := ba_loop S (m + 1) 0 [] (by omega)
  have h2 : S.toList.length = m + 1 := by
    rw [ByteArray.toList, h1]
    simp
  cases hs : S.toList with
  | nil => rw [hs] at h2; simp at h2
  | cons _ _ => rfl
theorem addrC_at {s : Int} {bs : List UInt8} {i : Nat} {b : UInt8} (h : bs[i]? = some b) : (addrC s bs)[1 + i]? = some (.int .u8 (b.toNat : Int)) := by
  unfold addrC bvs
  rw [List.getElem?_toArray, Nat.add_comm, List.getElem?_cons_succ, List.getElem?_map, h]
  rfl
theorem exec_load_u8 {o : Oper} {a : Act} {w : World} {g i : Nat} {v : UInt8} (x : Operand) (ho : o.op = .load 5 x) (hx : a.eval x = .pointer (some ⟨g, i, none⟩)) (h : w.cell? ⟨g, i, none⟩ = some (.int .u8 (v.toNat : Int))) :
    (execOp a.eval o).run Tryd.prog w = .ok (.value (.int .u8 (v.toNat : Int))) w := by
  unfold execOp
  simp only [ho, hx]
  go_simp
theorem conv_byte (v : UInt8) : IntKind.wrap .i64 (v.toNat : Int) = v.toNat := by
  have := v.toNat_lt
  rw [IntKind.wrap_i64]
  omega
set_option maxRecDepth 20000 in
set_option maxHeartbeats 2000000 in
theorem refsix_any (w : World) (s : Int) (bs : List UInt8) (hl : bs.length = 16) :
    Calls Tryd.prog 103 #[.agg (addrC s bs)] w fun e w' => e = .returned (.string ⟨(text6 (rowN bs)).toArray⟩) ∧ Below w.heap.size w w' := by
  have HL := hide hl
  have HRL := hide (rowN_len 8 bs hl)
  have HRX := hide (rowN_lt bs)
  have HB0 := hide (Blk.new w 26 (addrC s bs))
  clear hl
  go_enter Tryd.func103, Tryd.ntmps103
  go_wp2
  go_loopw [3, 4] (fun rv iv wr => ∃ (k c : Nat) (A : Option Addr), k ≤ 8 ∧ rv = .slice A k c ∧ iv = .int .i64 ((2 * k : Nat) : Int) ∧ wr.ownsRow (w.heap.size + 1) 3 1 (.slice A k c) k (ivs ((rowN bs).take k)) ∧ Below w.heap.size w wr ∧ Blk wr w.heap.size 26 (addrC s bs)) (fun _ iv _ => 16 - (intOf iv).toNat)
  case atStart => exact ⟨0, 0, none, Nat.zero_le _, rfl, rfl, by simpa [ivs] using World.ownsRow_nil _ _ _ _, (Below.refl _ _).alloc (Nat.le_refl _) _, HB0.out⟩
  case round =>
    obtain ⟨k, c, A, hk, rfl, rfl, hown, hbel, hblk⟩ := hrel
    have HO := hide hown
    have HBE := hide hbel
    have HBK := hide hblk
    clear hown hbel hblk
    by_cases hlt : k < 8
    · obtain ⟨a, b, r, hdr, hrr, hrow⟩ := drop_two HL.out hlt
      have h1 : bs[2 * k]? = some a := by
        have := List.getElem?_drop (xs := bs) (i := 2 * k) (j := 0)
        rw [hdr] at this
        simpa using this.symm
      have h2 : bs[2 * k + 1]? = some b := by
        have := List.getElem?_drop (xs := bs) (i := 2 * k) (j := 1)
        rw [hdr] at this
        simpa using this.symm
      have HROW := hide hrow
      have c1 : (addrC s bs)[1 + 2 * k]? = some (.int .u8 (a.toNat : Int)) := addrC_at h1
      have c2 : (addrC s bs)[1 + (2 * k + 1)]? = some (.int .u8 (b.toNat : Int)) := addrC_at h2
      have C1 := hide c1
      have C2 := hide c2
      obtain ⟨e, he⟩ : ∃ e, 2 * k = e := ⟨_, rfl⟩
      rw [he] at C1 C2 ⊢
      have hi : (e : Int) < 16 := by omega
      have hi0 : (0 : Int) ≤ (e : Int) := by omega
      have hi2 : (e : Int) + 1 < 16 := by omega
      have hi3 : e < 16 := by omega
      have hi4 : e + 1 < 16 := by omega
      have ha := conv_byte a
      have hb := conv_byte b
      have ha2 := a.toNat_lt
      have hb2 := b.toNat_lt
      have hw1 : IntKind.wrap .i64 ((a.toNat : Int) * 256) = (a.toNat : Int) * 256 := by rw [IntKind.wrap_i64]; omega
      have hw2 : IntKind.wrap .i64 ((e : Int) + 1) = (e : Int) + 1 := by rw [IntKind.wrap_i64]; omega
      have hw3 : IntKind.wrap .i64 ((a.toNat : Int) * 256 + b.toNat) = (a.toNat : Int) * 256 + b.toNat := by rw [IntKind.wrap_i64]; omega
      have HE := hide he
      clear hdr hrr hrow h1 h2 c1 c2 he
      go_wp2_with fail
      refine wp_region_held_drew (S := fun x => Blk x w.heap.size 26 (addrC s bs)) (by kernel_rfl) HBK.out.drew (fun hHeld => ?_)
      refine region_take (i := 0) (v := ?_) rfl (by kernel_rfl) (by kernel_rfl) (by kernel_rfl) (fun _ _ _ h => h) (Or.inl ⟨by rfl, ?_⟩) (by assumption) ?_
      rotate_left
      · (intro w' hSw; (try dsimp only at hSw); go_simp <;> with_reducible rfl)
      simp only [Act.put, List.setIfInBounds_toArray, List.set_cons_zero, List.set_cons_succ]
      refine region_take (i := 1) (v := ?_) rfl (by kernel_rfl) (by kernel_rfl) (by kernel_rfl) (fun _ _ _ h => h) (Or.inl ⟨by rfl, ?_⟩) (by assumption) ?_
      rotate_left
      · (intro w' hSw; (try dsimp only at hSw); go_simp <;> with_reducible rfl)
      simp only [Act.put, List.setIfInBounds_toArray, List.set_cons_zero, List.set_cons_succ]
      refine region_take (i := 2) (v := ?_) rfl (by kernel_rfl) (by kernel_rfl) (by kernel_rfl) (fun _ _ _ h => h) (Or.inl ⟨by rfl, ?_⟩) (by assumption) ?_
      rotate_left
      · (intro w' hSw; (try dsimp only at hSw); go_simp <;> with_reducible rfl)
      simp only [Act.put, List.setIfInBounds_toArray, List.set_cons_zero, List.set_cons_succ]
      refine region_take (i := 3) (v := (.pointer (some ⟨w.heap.size, 1 + e, none⟩))) rfl (by kernel_rfl) (by kernel_rfl) (by kernel_rfl) (fun _ _ _ h => h) (Or.inl ⟨by rfl, ?_⟩) (by assumption) ?_
      · (intro w' hSw; (try dsimp only at hSw); go_simp <;> first | rfl | exact hw1 | exact hw2 | exact hw3 | (intro h; exact absurd h (by omega)))
      simp only [Act.put, List.setIfInBounds_toArray, List.set_cons_zero, List.set_cons_succ]
      refine region_take (i := 4) (v := (.int .u8 (a.toNat : Int))) rfl (by kernel_rfl) (by kernel_rfl) (by kernel_rfl) (fun _ _ _ h => h) (Or.inl ⟨by rfl, ?_⟩) (by assumption) ?_
      · (intro w' hSw; exact exec_load_u8 (.tmp 18) rfl rfl ((hSw.cell _).trans C1.out))
      simp only [Act.put, List.setIfInBounds_toArray, List.set_cons_zero, List.set_cons_succ]
      refine region_take (i := 5) (v := (.int .i64 (a.toNat : Int))) rfl (by kernel_rfl) (by kernel_rfl) (by kernel_rfl) (fun _ _ _ h => h) (Or.inl ⟨by rfl, ?_⟩) (by assumption) ?_
      · (intro w' hSw; (try dsimp only at hSw); go_simp <;> first | rfl | exact hw1 | exact hw2 | exact hw3 | (intro h; exact absurd h (by omega)))
      simp only [Act.put, List.setIfInBounds_toArray, List.set_cons_zero, List.set_cons_succ]
      refine region_take (i := 6) (v := (.int .i64 ((a.toNat : Int) * 256))) rfl (by kernel_rfl) (by kernel_rfl) (by kernel_rfl) (fun _ _ _ h => h) (Or.inl ⟨by rfl, ?_⟩) (by assumption) ?_
      · (intro w' hSw; (try dsimp only at hSw); go_simp <;> first | rfl | exact hw1 | exact hw2 | exact hw3 | (intro h; exact absurd h (by omega)))
      simp only [Act.put, List.setIfInBounds_toArray, List.set_cons_zero, List.set_cons_succ]
      refine region_take (i := 7) (v := ?_) rfl (by kernel_rfl) (by kernel_rfl) (by kernel_rfl) (fun _ _ _ h => h) (Or.inl ⟨by rfl, ?_⟩) (by assumption) ?_
      rotate_left
      · (intro w' hSw; (try dsimp only at hSw); go_simp <;> with_reducible rfl)
      simp only [Act.put, List.setIfInBounds_toArray, List.set_cons_zero, List.set_cons_succ]
      refine region_take (i := 8) (v := (.int .i64 ((e : Int) + 1))) rfl (by kernel_rfl) (by kernel_rfl) (by kernel_rfl) (fun _ _ _ h => h) (Or.inl ⟨by rfl, ?_⟩) (by assumption) ?_
      · (intro w' hSw; (try dsimp only at hSw); go_simp <;> first | rfl | exact hw1 | exact hw2 | exact hw3 | (intro h; exact absurd h (by omega)))
      simp only [Act.put, List.setIfInBounds_toArray, List.set_cons_zero, List.set_cons_succ]
      refine region_take (i := 9) (v := ?_) rfl (by kernel_rfl) (by kernel_rfl) (by kernel_rfl) (fun _ _ _ h => h) (Or.inl ⟨by rfl, ?_⟩) (by assumption) ?_
      rotate_left
      · (intro w' hSw; (try dsimp only at hSw); go_simp <;> with_reducible rfl)
      simp only [Act.put, List.setIfInBounds_toArray, List.set_cons_zero, List.set_cons_succ]
      refine region_take (i := 10) (v := (.pointer (some ⟨w.heap.size, 1 + (e + 1), none⟩))) rfl (by kernel_rfl) (by kernel_rfl) (by kernel_rfl) (fun _ _ _ h => h) (Or.inl ⟨by rfl, ?_⟩) (by assumption) ?_
      · (intro w' hSw; (try dsimp only at hSw); go_simp <;> first | rfl | exact hw1 | exact hw2 | exact hw3 | (intro h; exact absurd h (by omega)))
      simp only [Act.put, List.setIfInBounds_toArray, List.set_cons_zero, List.set_cons_succ]
      refine region_take (i := 11) (v := (.int .u8 (b.toNat : Int))) rfl (by kernel_rfl) (by kernel_rfl) (by kernel_rfl) (fun _ _ _ h => h) (Or.inl ⟨by rfl, ?_⟩) (by assumption) ?_
      · (intro w' hSw; exact exec_load_u8 (.tmp 25) rfl rfl ((hSw.cell _).trans C2.out))
      simp only [Act.put, List.setIfInBounds_toArray, List.set_cons_zero, List.set_cons_succ]
      refine region_take (i := 12) (v := (.int .i64 (b.toNat : Int))) rfl (by kernel_rfl) (by kernel_rfl) (by kernel_rfl) (fun _ _ _ h => h) (Or.inl ⟨by rfl, ?_⟩) (by assumption) ?_
      · (intro w' hSw; (try dsimp only at hSw); go_simp <;> first | rfl | exact hw1 | exact hw2 | exact hw3 | (intro h; exact absurd h (by omega)))
      simp only [Act.put, List.setIfInBounds_toArray, List.set_cons_zero, List.set_cons_succ]
      refine region_take (i := 13) (v := (.int .i64 ((a.toNat * 256 + b.toNat : Nat) : Int))) rfl (by kernel_rfl) (by kernel_rfl) (by kernel_rfl) (fun _ _ _ h => h) (Or.inl ⟨by rfl, ?_⟩) (by assumption) ?_
      · (intro w' hSw; (try dsimp only at hSw); go_simp <;> first | rfl | exact hw1 | exact hw2 | exact hw3 | (intro h; exact absurd h (by omega)))
      simp only [Act.put, List.setIfInBounds_toArray, List.set_cons_zero, List.set_cons_succ]
      obtain ⟨y, hy⟩ : ∃ y, a.toNat * 256 + b.toNat = y := ⟨_, rfl⟩
      rw [hy] at HROW ⊢
      refine region_run (i := 14) (v := .slice (some ⟨wr.heap.size, 0, none⟩) 1 1) (w' := wr.drew.alloc (.cells #[.int .i64 (y : Int)] 3)) rfl (by kernel_rfl) (by rfl) ?_ (hHeld.alloc _) (fun hHeld => ?_)
      · (go_simp <;> first | with_reducible rfl | rfl)
      simp only [Act.put, List.setIfInBounds_toArray, List.set_cons_zero, List.set_cons_succ]
      obtain ⟨v', w', hrun, hown', hg'⟩ := run_append_int (wr.drew.alloc (.cells #[.int .i64 (y : Int)] 3)) 101 (w.heap.size + 1) (.slice A k c) k _ (HO.out.drew.alloc _) wr.heap.size _ y (Blk.new wr.drew _ _) (by omega) (by have := HBK.out.lt; simp; omega)
      have hblk' : Blk w' w.heap.size 26 (addrC s bs) := hHeld.grown hg' (fun h => by have := HO.out.lt _ h.symm; omega)
      have hbel' : Below w.heap.size w w' := (((below_drew HBE.out).alloc (by have := HBK.out.lt; simp; omega) _).grown hg' (by have := HBK.out.lt; simp; omega) (fun g hg => by have := (HO.out.lt g hg).1; omega))
      refine region_run (i := 15) (v := v') (w' := w') rfl (by kernel_rfl) (by rfl) ?_ hblk' (fun hHeld => ?_)
      · exact exec_append (.tmp 15) (.tmp 29) _ _ _ rfl rfl rfl rfl hrun
      simp only [Act.put, List.setIfInBounds_toArray, List.set_cons_zero, List.set_cons_succ]
      refine region_take (i := 16) (v := ?_) rfl (by kernel_rfl) (by kernel_rfl) (by kernel_rfl) (fun _ _ _ h => h) (Or.inl ⟨by rfl, ?_⟩) (by assumption) ?_
      rotate_left
      · (intro w' hSw; (try dsimp only at hSw); go_simp <;> with_reducible rfl)
      simp only [Act.put, List.setIfInBounds_toArray, List.set_cons_zero, List.set_cons_succ]
      refine wpAnyH_done (by kernel_rfl) ?_ _
      obtain ⟨A3, c3, rfl, _, _⟩ := own_shape hown'
      have htk : (rowN bs).take k ++ [y] = (rowN bs).take (k + 1) := by rw [List.take_add_one, HROW.out]; rfl
      rw [htk] at hown'
      have HO3 := hide hown'
      have HBE3 := hide hbel'
      clear hown' hbel' hg' hrun htk
      go_wp2
      go_roundw
      case rel =>
        refine ⟨k + 1, c3, A3, by omega, rfl, ?_, HO3.out, HBE3.out, hHeld⟩
        have := HE.out
        go_num
      case measure => have := HE.out; simp [intOf]; omega
    · obtain rfl : k = 8 := by omega
      obtain ⟨g, rfl⟩ : ∃ g, A = some ⟨g, 0, none⟩ := by
        rcases HO.out.2 with ⟨hv, _⟩ | ⟨g, cap, cur, hv, _⟩
        · injection hv with _ h2; omega
        · injection hv with h2; exact ⟨g, h2⟩
      obtain ⟨row, hrow⟩ : ∃ row, rowN bs = row := ⟨_, rfl⟩
      have hcell : ∀ m x : Nat, row[m]? = some x → wr.cell? ⟨g, m, none⟩ = some (.int .i64 (x : Int)) := by
        intro m x hx
        have h := HO.out.cells (g := g) rfl m (.int .i64 (x : Int)) (by unfold ivs; rw [hrow, List.take_of_length_le (by rw [← hrow, HRL.out]; exact Nat.le_refl _), List.getElem?_map, hx]; rfl)
        rwa [add_plain, Nat.zero_add] at h
      have HC := hide hcell
      rw [hrow] at HRL HRX ⊢
      have HBE8 := hide HBE.out
      clear hcell hlt hk HBK
      go_wp2
      go_loop [5, 6, 7] (fun p q i => ∃ j f n : Nat, j ≤ 8 ∧ n ≤ 8 ∧ i = .int .i64 j ∧ p = .int .i64 f ∧ q = .int .i64 n ∧ Hid (scanR (zOf row) j = (f, n))) (fun _ _ i => 8 - (intOf i).toNat)
      case atStart => exact ⟨0, 0, 0, Nat.zero_le _, Nat.zero_le _, rfl, rfl, rfl, hide rfl⟩
      case round =>
        obtain ⟨j, f, n, hj, hn, rfl, rfl, rfl, hs⟩ := hrel
        by_cases hlt : j < 8
        · have hltI : (j : Int) < 8 := by omega
          go_wp2
          go_loop [8] (fun m => ∃ k : Nat, j ≤ k ∧ k ≤ 8 ∧ m = .int .i64 k ∧ Hid (runE (zOf row) (8 - (k - j)) k = runE (zOf row) 8 j)) (fun m => 8 - (intOf m).toNat)
          case atStart => exact ⟨j, Nat.le_refl _, hj, rfl, hide (by rw [Nat.sub_self])⟩
          case round =>
            obtain ⟨k, hjk, hk, rfl, hr⟩ := hrel
            have hend : ¬ (k < 8 ∧ zOf row k = true) → Hid (runE (zOf row) 8 j = k) := fun h => hide (by rw [← hr.out]; exact runE_stop _ _ _ h)
            have hj0 : (0 : Int) ≤ (j : Int) := by omega
            have hjkI : (j : Int) ≤ (k : Int) := by omega
            have hk0 : (0 : Int) ≤ (k : Int) := by omega
            by_cases hk8 : k < 8
            · obtain ⟨x, hx⟩ : ∃ x, row[k]? = some x := ⟨row[k]'(by rw [HRL.out]; exact hk8), List.getElem?_eq_getElem _⟩
              have hck := HC.out k x hx
              have hkI : (k : Int) < 8 := by omega
              have hzx : zOf row k = decide (x = 0) := by unfold zOf; rw [List.getD_eq_getElem?_getD, hx]; rfl
              clear hx
              by_cases h0 : x = 0
              · subst h0
                have hr' : Hid (runE (zOf row) (8 - (k + 1 - j)) (k + 1) = runE (zOf row) 8 j) := hide (by
                  rw [← hr.out, show 8 - (k - j) = (8 - (k + 1 - j)) + 1 by omega, runE_go _ _ _ hk8 (by rw [hzx]; rfl)])
                clear hend hr hzx
                go_wp2
                go_round
                case rel => exact ⟨k + 1, by omega, by omega, by go_num, hr'⟩
                case measure => simp [intOf]; omega
              · have hx0 : ((x : Int) == 0) = false := beq_eq_false_iff_ne.2 (by omega)
                have HE := hend (fun h => h0 (by have := h.2; rw [hzx] at this; simpa using this))
                clear hend hr
                by_cases hgt : n < k - j
                · have HS : Hid (scanR (zOf row) (j + 1) = (j, k - j)) := hide (by rw [scanR_succ _ _ hs.out HE.out, if_pos hgt])
                  have hgI : (n : Int) < (k : Int) - j := by omega
                  go_wp2
                  go_round
                  case rel => exact ⟨_, _, _, ⟨j + 1, by omega, j, k - j, by omega, by go_num, rfl, by go_num, HS⟩, rfl, rfl, rfl⟩
                  case measure => simp [intOf]; omega
                · have HS : Hid (scanR (zOf row) (j + 1) = (f, n)) := hide (by rw [scanR_succ _ _ hs.out HE.out, if_neg hgt])
                  have hgI : ¬ (n : Int) < (k : Int) - j := by omega
                  go_wp2
                  go_round
                  case rel => exact ⟨_, _, _, ⟨j + 1, by omega, f, n, hn, by go_num, rfl, rfl, HS⟩, rfl, rfl, rfl⟩
                  case measure => simp [intOf]; omega
            · have hkI : ¬ (k : Int) < 8 := by omega
              have HE := hend (fun h => hk8 h.1)
              clear hend hr
              by_cases hgt : n < k - j
              · have HS : Hid (scanR (zOf row) (j + 1) = (j, k - j)) := hide (by rw [scanR_succ _ _ hs.out HE.out, if_pos hgt])
                have hgI : (n : Int) < (k : Int) - j := by omega
                go_wp2
                go_round
                case rel => exact ⟨_, _, _, ⟨j + 1, by omega, j, k - j, by omega, by go_num, rfl, by go_num, HS⟩, rfl, rfl, rfl⟩
                case measure => simp [intOf]; omega
              · have HS : Hid (scanR (zOf row) (j + 1) = (f, n)) := hide (by rw [scanR_succ _ _ hs.out HE.out, if_neg hgt])
                have hgI : ¬ (n : Int) < (k : Int) - j := by omega
                go_wp2
                go_round
                case rel => exact ⟨_, _, _, ⟨j + 1, by omega, f, n, hn, by go_num, rfl, rfl, HS⟩, rfl, rfl, rfl⟩
                case measure => simp [intOf]; omega
        · obtain rfl : j = 8 := by omega
          obtain ⟨a, t, b, hz⟩ : ∃ a t b, zerosK row 8 = (a, t, b) := ⟨_, _, _, rfl⟩
          have hsc := scan_zeros row
          rw [hz, hs.out] at hsc
          injection hsc with e1 e2
          simp only at e1 e2
          subst e1
          have hbd := zerosK_bounds row 8
          rw [hz] at hbd
          simp only at hbd
          obtain ⟨hft, ht8, _⟩ := hbd
          have HN := hide e2
          have HZ := hide hz
          clear hs hz e2
          go_wp2
          go_loopw [9, 10] (fun x i wq => ∃ (S : ByteArray) (j q : Nat), j ≤ 8 ∧ x = .string S ∧ i = .int .i64 j ∧ Hid (wq = wr.drewN q) ∧ Hid (SixAt row f t j S.data.toList)) (fun _ i _ => 8 - (intOf i).toNat)
          case atStart => exact ⟨⟨#[]⟩, 0, 0, Nat.zero_le _, rfl, rfl, hide rfl, hide (six_zero _ _ _)⟩
          case round =>
            obtain ⟨S, j, q, hj, rfl, rfl, hwq, hsix⟩ := hrel
            obtain rfl := hwq.out
            clear hwq
            have hlen := six_len HRL.out HRX.out hsix.out
            have hsz : S.size ≤ 90 := by simpa using hlen
            clear hlen
            by_cases hlt : j < 8
            · have hltI : (j : Int) < 8 := by omega
              by_cases hjump : 1 < n ∧ j = f
              · obtain ⟨hn1, rfl⟩ := hjump
                have hnI : (1 : Int) < n := by omega
                have n1 : ¬ 9223372036854775807 < S.size + 2 := by omega
                have hj0 : (0 : Int) ≤ (j : Int) := by omega
                have HS : Hid (SixAt row j t t (S ++ ⟨#[58, 58]⟩).data.toList) := hide (by
                  have := six_jump (t := t) (by have := HN.out; omega) hsix.out
                  simpa using this)
                clear hsix
                go_wp2
                go_roundw
                case rel =>
                  refine ⟨_, t, q, ht8, rfl, ?_, hide rfl, HS⟩
                  have := HN.out
                  go_num
                case measure => have := HN.out; simp [intOf]; omega
              · obtain ⟨x, hx⟩ : ∃ x, row[j]? = some x := ⟨row[j]'(by rw [HRL.out]; exact hlt), List.getElem?_eq_getElem _⟩
                have hck : (wr.drewN q).cell? ⟨g, j, none⟩ = some (.int .i64 (x : Int)) := HC.out j x hx
                have hx16 := HRX.out x (List.mem_of_getElem? hx)
                have HS := hide (six_step hsix.out hx (by have := HN.out; omega))
                clear hsix hx
                have NUM := hide (refnumber_any 16 (.inr rfl) x (by omega))
                have hnl := numeral_len (b := 16) (by decide) 3 x (by omega)
                obtain ⟨N, hN⟩ : ∃ N : ByteArray, (⟨(numeral 16 x).toArray⟩ : ByteArray) = N := ⟨_, rfl⟩
                have hNl : N.data.toList = numeral 16 x := by rw [← hN]
                have hNs : N.size ≤ 4 := by rw [← hN]; exact hnl
                have n1 : ¬ 9223372036854775807 < S.size + N.size := by omega
                have n2 : ¬ 9223372036854775807 < S.size + 1 := by omega
                have n3 : ¬ 9223372036854775807 < S.size + 1 + N.size := by omega
                have n4 : ¬ 9223372036854775807 < N.size := by omega
                rw [hN] at NUM
                have HNL := hide hNl
                clear hnl hN hNl
                have hcase : (¬ (1 : Int) < n) ∨ ((1 : Int) < n ∧ ((j : Int) == f) = false) := by
                  by_cases h1 : 1 < n
                  · exact .inr ⟨by omega, beq_eq_false_iff_ne.2 (fun e => hjump ⟨h1, by omega⟩)⟩
                  · exact .inl (by omega)
                clear hjump
                by_cases hS : S = ⟨#[]⟩
                · subst hS
                  have HS1 : Hid (SixAt row f t (j + 1) ((⟨#[]⟩ : ByteArray) ++ N).data.toList) := hide (by have := HS.out; simpa [stepT, wants, HNL.out] using this)
                  clear HS
                  rcases hcase with hnI | ⟨hnI, hjf⟩
                  all_goals
                    go_wp2_with fail
                    refine (NUM.out _).mono ?_
                    rintro e w1 ⟨rfl, q1, rfl⟩
                    go_wp2
                    go_roundw
                    case rel => exact ⟨_, j + 1, q + q1, by omega, rfl, by go_num, hide rfl, HS1⟩
                    case measure => simp [intOf]; omega
                · have hne : S.data.toList ≠ [] := fun h => hS (by
                    have h1 : S.data = #[] := by simpa using h
                    cases S
                    simp only at h1
                    rw [h1])
                  obtain ⟨Y, c, hYc⟩ : ∃ Y c, S.data.toList = Y ++ [c] := ⟨_, _, (List.dropLast_concat_getLast hne).symm⟩
                  obtain ⟨m, hm⟩ : ∃ m, Y.length = m := ⟨_, rfl⟩
                  have hsm : S.size = m + 1 := by
                    have : S.data.toList.length = S.size := by simp
                    rw [← this, hYc]
                    simp [hm]
                  have hmlt : m < S.size := by omega
                  have hSc : S[m]'hmlt = c := by
                    have h1 : S.data.toList[m]? = some c := by rw [hYc, ← hm]; simp
                    have h2 : S.data.toList[m]? = some (S[m]'hmlt) := by
                      rw [List.getElem?_eq_getElem (by simpa using hmlt)]
                      rfl
                    rw [h2] at h1
                    injection h1
                  obtain ⟨z, hz⟩ : ∃ z : Int, (c.toNat : Int) = z := ⟨_, rfl⟩
                  have hcz : ((S[m]'hmlt).toNat : Int) = z := by rw [hSc]; exact hz
                  have hte := ba_full hsm
                  have hte' : ¬ S.toList = [] := by
                    intro h
                    rw [h] at hte
                    simp at hte
                  have hmI : ((m + 1 : Nat) : Int) - 1 = m := by omega
                  have hm90 : m ≤ 90 := by omega
                  by_cases hc : c = 58
                  · obtain rfl : z = 58 := by rw [← hz, hc]; rfl
                    have HS1 : Hid (SixAt row f t (j + 1) (S ++ N).data.toList) := hide (by
                      have h := HS.out
                      rw [hYc] at h
                      unfold stepT at h
                      rw [wants_end, if_neg (by simp [hc])] at h
                      rw [ByteArray.data_append, Array.toList_append, HNL.out, hYc]
                      exact h)
                    clear HS hYc hc hSc hz hne hS
                    rcases hcase with hnI | ⟨hnI, hjf⟩
                    all_goals
                      go_wp2_with fail
                      refine (NUM.out _).mono ?_
                      rintro e w1 ⟨rfl, q1, rfl⟩
                      go_wp2
                      go_roundw
                      case rel => exact ⟨_, j + 1, q + q1, by omega, rfl, by go_num, hide rfl, HS1⟩
                      case measure => simp [intOf]; omega
                  · have hz58 : (z != 58) = true := by
                      rw [← hz]
                      refine bne_iff_ne.2 (fun e => hc (UInt8.toNat_inj.1 ?_))
                      show c.toNat = 58
                      omega
                    have HS1 : Hid (SixAt row f t (j + 1) (S ++ ⟨#[58]⟩ ++ N).data.toList) := hide (by
                      have h := HS.out
                      rw [hYc] at h
                      unfold stepT at h
                      rw [wants_end, if_pos (by simpa using hc)] at h
                      rw [ByteArray.data_append, Array.toList_append, HNL.out, ByteArray.data_append, Array.toList_append, hYc]
                      exact h)
                    clear HS hYc hc hSc hz hne hS
                    rcases hcase with hnI | ⟨hnI, hjf⟩
                    all_goals
                      go_wp2_with fail
                      refine (NUM.out _).mono ?_
                      rintro e w1 ⟨rfl, q1, rfl⟩
                      go_wp2
                      go_roundw
                      case rel => exact ⟨_, j + 1, q + q1, by omega, rfl, by go_num, hide rfl, HS1⟩
                      case measure => simp [intOf]; omega
            · obtain rfl : j = 8 := by omega
              have HS := hide (six_end HRL.out HZ.out hsix.out)
              clear hsix
              go_wp2
              go_ret
              refine ⟨?_, below_drewN HBE8.out q⟩
              show Ending.returned (.string S) = _
              rw [hrow, ← HS.out]
end Go.Proofs.YtdkoicfenehjcaaDoor
namespace Go.Proofs.YtdkoicfenehjcaaDoor
open Go.RowKit
set_option linter.unusedVariables false
set_option linter.unusedSimpArgs false

/-- the numbers of the first bytes, with points between them -/
def text4K (bs : List UInt8) (k : Nat) : List UInt8 := Lib.join ((bs.take k).map fun b => numeral 10 b.toNat) [46]
theorem text4K_one {bs : List UInt8} {b : UInt8} (h : bs[0]? = some b) : text4K bs 1 = numeral 10 b.toNat := by
  unfold text4K
  cases bs with
  | nil => simp at h
  | cons c r =>
    simp at h
    subst h
    simp [Lib.join_one]
theorem text4K_succ {bs : List UInt8} {k : Nat} {b : UInt8} (hk : 1 ≤ k) (h : bs[k]? = some b) : text4K bs (k + 1) = text4K bs k ++ [46] ++ numeral 10 b.toNat := by
  unfold text4K
  obtain ⟨k, rfl⟩ : ∃ m, k = m + 1 := ⟨k - 1, by omega⟩
  cases bs with
  | nil => simp at h
  | cons c r =>
    rw [List.getElem?_cons_succ] at h
    rw [List.take_succ_cons, List.take_succ_cons, List.map_cons, List.map_cons, Lib.join_cons, Lib.join_cons, List.map_take, List.map_take, Lib.joinTail_take_succ [46] _ k _ (by rw [List.getElem?_map, h]; rfl)]
    simp
theorem text4K_len (bs : List UInt8) (k : Nat) (hk : k ≤ 4) : (text4K bs k).length ≤ 20 := by
  refine Nat.le_trans (join_len [46] 4 _ (fun y hy => ?_)) ?_
  · obtain ⟨x, hx', rfl⟩ := List.mem_map.1 hy
    exact numeral_len (by decide) 3 x.toNat (by have := x.toNat_lt; omega)
  · simp only [List.length_map, List.length_take, List.length_cons, List.length_nil]
    omega
set_option maxRecDepth 20000 in
set_option maxHeartbeats 2000000 in
theorem reftext_any (w : World) (s : Int) (bs : List UInt8) (hl : bs.length = 16) :
    Calls Tryd.prog 87 #[.agg (addrC s bs)] w fun e w' => e = .returned (.string ⟨(textA s bs).toArray⟩) ∧ Below w.heap.size w w' := by
  have HL := hide hl
  have S0 := hide (Boxed.new w s bs)
  clear hl
  obtain ⟨r, hr⟩ : ∃ r, rightA s bs = r := ⟨_, rfl⟩
  have HR := hide hr
  clear hr
  go_enter Tryd.func87, Tryd.ntmps87
  go_wp2_with (with_reducible refine wpList_load_addr rfl (.tmp 1) rfl w.heap.size rfl S0.out.blk HL.out ?_)
  refine (refright_any _ s bs HL.out).mono ?_
  rintro e w1 ⟨rfl, hb1⟩
  rw [HR.out]
  have S1 := hide (S0.out.on hb1)
  clear hb1
  cases r
  · have hv : Hid (textA s bs = []) := hide (by unfold textA; rw [HR.out]; rfl)
    go_wp2
    go_ret
    exact ⟨by rw [hv.out]; rfl, S1.out.bel⟩
  · have c0 : w1.cell? ⟨w.heap.size, 0, none⟩ = some (.int .i64 s) := by rw [S1.out.blk.cell]; rfl
    by_cases h0 : s = 0
    · subst h0
      have hv : Hid (textA 0 bs = []) := hide (by unfold textA; rw [HR.out]; rfl)
      go_wp2
      go_ret
      exact ⟨by rw [hv.out]; rfl, S1.out.bel⟩
    · have z0 : (s == 0) = false := beq_eq_false_iff_ne.2 h0
      by_cases h16 : s = 16
      · subst h16
        have hv : Hid (textA 16 bs = text6 (rowN bs)) := hide (by unfold textA; rw [HR.out]; rfl)
        go_wp2_with (with_reducible refine wpList_load_addr rfl (.tmp 1) rfl w.heap.size rfl S1.out.blk HL.out ?_)
        refine (refsix_any _ 16 bs HL.out).mono ?_
        rintro e w2 ⟨rfl, hb2⟩
        go_wp2
        go_ret
        exact ⟨by rw [hv.out]; rfl, below_step S1.out.bel hb2 (Nat.le_refl _)⟩
      · have z16 : (s == 16) = false := beq_eq_false_iff_ne.2 h16
        obtain rfl : s = 4 := by
          have h := HR.out
          unfold rightA sizeA at h
          simp only [Bool.and_eq_true, decide_eq_true_eq] at h
          omega
        have hv : Hid (textA 4 bs = text4K bs 4) := hide (by unfold textA; rw [HR.out]; rfl)
        obtain ⟨b, hb⟩ : ∃ b, bs[0]? = some b := ⟨bs[0]'(by rw [HL.out]; decide), List.getElem?_eq_getElem _⟩
        have hc1 : w1.cell? ⟨w.heap.size, 1, none⟩ = some (.int .u8 (b.toNat : Int)) := by rw [S1.out.blk.cell]; exact addrC_at hb
        have hcv := conv_byte b
        have H1 := hide (text4K_one hb)
        have NUM := hide (refnumber_any 10 (.inl rfl) b.toNat (by have := b.toNat_lt; omega))
        clear h0 h16 hb
        go_wp2_with fail
        refine (NUM.out _).mono ?_
        rintro e w2 ⟨rfl, q1, rfl⟩
        rw [← H1.out]
        clear hc1 hcv H1 NUM
        go_wp2
        go_loopw [4, 5] (fun x i wq => ∃ (S : ByteArray) (j q : Nat), 1 ≤ j ∧ j ≤ 4 ∧ x = .string S ∧ i = .int .i64 j ∧ Hid (wq = w1.drewN q) ∧ Hid (S.data.toList = text4K bs j)) (fun _ i _ => 4 - (intOf i).toNat)
        case atStart => exact ⟨_, 1, q1, Nat.le_refl _, by omega, rfl, rfl, hide rfl, hide rfl⟩
        case round =>
          obtain ⟨S, j, q, h1j, hj, rfl, rfl, hwq, hS⟩ := hrel
          obtain rfl := hwq.out
          clear hwq
          have hlen := text4K_len bs j hj
          have hsz : S.size ≤ 20 := by
            have : S.data.toList.length = S.size := by simp
            rw [← this, hS.out]
            exact hlen
          clear hlen
          by_cases hlt : j < 4
          · have hltI : (j : Int) < 4 := by omega
            have hj0 : (0 : Int) ≤ (j : Int) := by omega
            have hj16 : (j : Int) < 16 := by omega
            have hj16' : j < 16 := by omega
            obtain ⟨b, hb⟩ : ∃ b, bs[j]? = some b := ⟨bs[j]'(by rw [HL.out]; omega), List.getElem?_eq_getElem _⟩
            have hc1 : (w1.drewN q).cell? ⟨w.heap.size, 1 + j, none⟩ = some (.int .u8 (b.toNat : Int)) := by
              have h : Blk (w1.drewN q) w.heap.size 26 (addrC 4 bs) := S1.out.blk.drewN q
              rw [h.cell]
              exact addrC_at hb
            have hcv := conv_byte b
            have H1 := hide (text4K_succ h1j hb)
            have NUM := hide (refnumber_any 10 (.inl rfl) b.toNat (by have := b.toNat_lt; omega))
            have hnl := numeral_len (b := 10) (by decide) 3 b.toNat (by have := b.toNat_lt; omega)
            obtain ⟨N, hN⟩ : ∃ N : ByteArray, (⟨(numeral 10 b.toNat).toArray⟩ : ByteArray) = N := ⟨_, rfl⟩
            have hNl : N.data.toList = numeral 10 b.toNat := by rw [← hN]
            have hNs : N.size ≤ 4 := by rw [← hN]; exact hnl
            have n2 : ¬ 9223372036854775807 < S.size + 1 := by omega
            have n3 : ¬ 9223372036854775807 < S.size + 1 + N.size := by omega
            rw [hN] at NUM
            have HS1 : Hid ((S ++ ⟨#[46]⟩ ++ N).data.toList = text4K bs (j + 1)) := hide (by
              rw [ByteArray.data_append, Array.toList_append, hNl, ByteArray.data_append, Array.toList_append, hS.out, H1.out])
            clear hb H1 hnl hN hNl hS
            go_wp2_with fail
            refine (NUM.out _).mono ?_
            rintro e w2 ⟨rfl, q2, rfl⟩
            go_wp2
            go_roundw
            case rel => exact ⟨_, j + 1, q + q2, by omega, by omega, rfl, by go_num, hide rfl, HS1⟩
            case measure => simp [intOf]; omega
          · obtain rfl : j = 4 := by omega
            go_wp2
            go_ret
            refine ⟨?_, below_drewN S1.out.bel q⟩
            show Ending.returned (.string S) = _
            rw [hv.out, ← hS.out]
end Go.Proofs.YtdkoicfenehjcaaDoor
