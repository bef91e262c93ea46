/-
  What Owned does: rows of bytes that lie in blocks of their own are written over, each by its own byte, and none changes another one: true. The rows lie in distinct blocks, from block B on; below B nothing changes.
  What the helpers of the statement CursorPuts do, in whatever memory: Lent, Kept, and the document's own answers Bytes, Put, Order. No condition beyond sizes that fit memory.
-/
import Derived.Test.YtipgbmajhnkfbaaGreatDoorNum
set_option maxHeartbeats 1000000
namespace Go.Proofs.YtipgbmajhnkfbaaGreatDoor
open Go.RowKit
set_option linter.unusedVariables false
set_option linter.unusedSimpArgs false
def OwnRow (w : World) (B : Nat) (v : Value) : Prop :=
  v = .slice none 0 0 ∨ ∃ g n cap cur, v = .slice (some ⟨g, 0, none⟩) n cap ∧ B ≤ g ∧ Blk w g 5 cur ∧ cur.size = cap ∧ n ≤ cap ∧ cap ≤ maxLen
def FullRow (w : World) (v : Value) (q : Int) : Prop := ∀ g n cap, v = .slice (some ⟨g, 0, none⟩) n cap → ∀ k, k < cap → w.cell? ⟨g, k, none⟩ = some (.int .u8 q)
def bytei (j : Nat) : Int := ((j : Int) + 1) % 256
theorem OwnRow.kept {w w' : World} {B : Nat} {v : Value} {row : Option Nat} (h : OwnRow w B v) (hg : w.grownBy w' row) (hne : v.ownBlock = none ∨ v.ownBlock ≠ row) : OwnRow w' B v := by
  rcases h with h | ⟨g, n, cap, cur, rfl, h1, h2, h3⟩
  · exact .inl h
  · refine .inr ⟨g, n, cap, cur, rfl, h1, h2.grown hg (fun e => ?_), h3⟩
    rcases hne with h | h
    · cases h
    · exact h e
theorem FullRow.kept {w w' : World} {v : Value} {q : Int} {row : Option Nat} (h : FullRow w v q) (hg : w.grownBy w' row) (hne : v.ownBlock = none ∨ v.ownBlock ≠ row) : FullRow w' v q := by
  intro g n cap hv k hk
  subst hv
  refine hg.cell (h g n cap rfl k hk) (fun e => ?_)
  rcases hne with h | h
  · cases h
  · exact h e
theorem OwnRow.drewN {w : World} {B : Nat} {v : Value} (h : OwnRow w B v) (k : Nat) : OwnRow (w.drewN k) B v := h
theorem FullRow.drewN {w : World} {v : Value} {q : Int} (h : FullRow w v q) (k : Nat) : FullRow (w.drewN k) v q := h
theorem OwnRow.more {w : World} {B B' : Nat} {v : Value} (h : OwnRow w B v) (hB : B' ≤ B) : OwnRow w B' v := by
  rcases h with h | ⟨g, n, cap, cur, rfl, h1, h2⟩
  · exact .inl h
  · exact .inr ⟨g, n, cap, cur, rfl, by omega, h2⟩
theorem OwnRow.alloc {w : World} {B : Nat} {v : Value} (h : OwnRow w B v) (o : Obj) : OwnRow (w.alloc o) B v := by
  rcases h with h | ⟨g, n, cap, cur, rfl, h1, h2, h3⟩
  · exact .inl h
  · exact .inr ⟨g, n, cap, cur, rfl, h1, h2.alloc o, h3⟩
structure Rows1 (w wr : World) (B rb N j : Nat) (rows : Nat → Value) (arr : Array Value) : Prop where
  blk : Blk wr rb 38 arr
  own : ∀ q, q < N → OwnRow wr B (rows q)
  full : ∀ q, q < j → FullRow wr (rows q) (bytei q)
  below : Below B w wr
  rest : ∀ b, b < w.heap.size → (∀ q, q < N → (rows q).ownBlock ≠ some b) → wr.heap[b]? = w.heap[b]?
theorem Rows1.drewN {w wr : World} {B rb N j : Nat} {rows : Nat → Value} {arr : Array Value} (h : Rows1 w wr B rb N j rows arr) (k : Nat) : Rows1 w (wr.drewN k) B rb N j rows arr :=
  ⟨h.blk, fun q hq => (h.own q hq).drewN k, fun q hq => (h.full q hq).drewN k, below_drewN h.below k, h.rest⟩
theorem Rows1.next {w wr w' : World} {B rb N j : Nat} {rows : Nat → Value} {arr : Array Value} (h : Rows1 w wr B rb N j rows arr) (hj : j < N) (hB : B ≤ wr.heap.size)
    (hd : ∀ p q, p < N → q < N → p ≠ q → (rows p).ownBlock = none ∨ (rows p).ownBlock ≠ (rows q).ownBlock)
    {g n cap : Nat} {cur : Array Value} (hv : rows j = .slice (some ⟨g, 0, none⟩) n cap) (hBg : B ≤ g) (hb : Blk w' g 5 cur) (hs : cur.size = cap) (hn : n ≤ cap) (hm : cap ≤ maxLen)
    (hc : ∀ k, k < cap → cur[k]? = some (.int .u8 (bytei j))) (hg : wr.grownBy w' (some g)) : Rows1 w w' B rb N (j + 1) rows arr := by
  have hown : (rows j).ownBlock = some g := by rw [hv]; rfl
  refine ⟨h.blk.grown hg (fun e => ?_), fun q hq => ?_, fun q hq => ?_, h.below.grown hg hB (by intro k hk; injection hk; omega),
    fun b hb hq => (hg.block b (Nat.lt_of_lt_of_le hb h.below.size) (fun e => hq j hj (by rw [hown]; exact e.symm))).trans (h.rest b hb hq)⟩
  · injection e with e
    subst e
    have h1 := h.blk
    rcases h.own j hj with h2 | ⟨g', n', cap', cur', h2, _, h3, _⟩
    · rw [hv] at h2; cases h2
    · rw [hv] at h2
      injection h2 with h2
      injection h2 with h2
      injection h2 with h2
      subst h2
      unfold Blk at h1 h3
      rw [h1] at h3
      injection h3 with h3
      injection h3 with _ ht
      exact absurd ht (by decide)
  · by_cases hqj : q = j
    · subst hqj
      exact .inr ⟨g, n, cap, cur, hv, hBg, hb, hs, hn, hm⟩
    · refine (h.own q hq).kept hg ?_
      rcases hd q j hq hj hqj with h1 | h1
      · exact .inl h1
      · exact .inr (by rw [hown] at h1; exact h1)
  · by_cases hqj : q = j
    · subst hqj
      intro g' n' cap' h2 k hk
      rw [hv] at h2
      injection h2 with h2 h3 h4
      injection h2 with h2
      injection h2 with h2
      subst h2 h3 h4
      rw [hb.cell k]
      exact hc k hk
    · refine (h.full q (by omega)).kept hg ?_
      rcases hd q j (by omega) hj hqj with h1 | h1
      · exact .inl h1
      · exact .inr (by rw [hown] at h1; exact h1)
end Go.Proofs.YtipgbmajhnkfbaaGreatDoor
namespace Go.Proofs.YtipgbmajhnkfbaaGreatDoor
open Go.RowKit
set_option linter.unusedVariables false
set_option linter.unusedSimpArgs false
theorem cmp_step {xs ys : List UInt8} {j : Nat} {u v : UInt8} (hu : xs[j]? = some u) (hv : ys[j]? = some v) :
    Lib.compareBytes (xs.drop j) (ys.drop j) = if u < v then -1 else if v < u then 1 else Lib.compareBytes (xs.drop (j + 1)) (ys.drop (j + 1)) := by
  have h1 : xs.drop j = u :: xs.drop (j + 1) := by
    obtain ⟨hl, he⟩ := List.getElem?_eq_some_iff.1 hu
    rw [← he]; exact List.drop_eq_getElem_cons hl
  have h2 : ys.drop j = v :: ys.drop (j + 1) := by
    obtain ⟨hl, he⟩ := List.getElem?_eq_some_iff.1 hv
    rw [← he]; exact List.drop_eq_getElem_cons hl
  rw [h1, h2]
  rfl
theorem cmp_end {xs ys : List UInt8} {j : Nat} (h : xs.length ≤ j ∨ ys.length ≤ j) (hj1 : j ≤ xs.length) (hj2 : j ≤ ys.length) :
    Lib.compareBytes (xs.drop j) (ys.drop j) = if xs.length < ys.length then -1 else if ys.length < xs.length then 1 else 0 := by
  rcases Nat.lt_trichotomy xs.length ys.length with h1 | h1 | h1
  · rw [if_pos h1]
    have h2 : xs.drop j = [] := List.drop_of_length_le (by omega)
    rw [h2]
    cases h3 : ys.drop j with
    | nil => have := congrArg List.length h3; rw [List.length_drop] at this; simp at this; omega
    | cons a l => rfl
  · rw [if_neg (by omega), if_neg (by omega)]
    have h2 : xs.drop j = [] := List.drop_of_length_le (by omega)
    have h3 : ys.drop j = [] := List.drop_of_length_le (by omega)
    rw [h2, h3]
    rfl
  · rw [if_neg (by omega), if_pos h1]
    have h2 : ys.drop j = [] := List.drop_of_length_le (by omega)
    rw [h2]
    cases h3 : xs.drop j with
    | nil => have := congrArg List.length h3; rw [List.length_drop] at this; simp at this; omega
    | cons a l => rfl
theorem drew1 {w wo : World} {q : Nat} (h : wo = w.drewN q) (a : Nat) : wo.drewN a = w.drewN (q + a) := by rw [h, World.drewN_drewN]
theorem reforder_any (w : World) (lo hi lo' hi' n m c d : Nat) (A B : Option Addr) (xs ys : List UInt8) (ha : At w lo hi A n xs) (hb : At w lo' hi' B m ys) (hn : n ≤ 140737488355328) (hm : m ≤ 140737488355328) :
    Calls Tryz.prog 38 #[.slice A n c, .slice B m d] w fun e w' => e = .returned (.int .i64 (Lib.compareBytes xs ys)) ∧ ∃ q, w' = w.drewN q := by
  have HLA := hide ha.len
  have HLB := hide hb.len
  have HA := hide ha
  have HB := hide hb
  clear ha hb
  go_enter Tryz.func38, Tryz.ntmps38
  go_wp2
  go_loopw [5] (fun i wr => ∃ j q : Nat, j ≤ n ∧ j ≤ m ∧ i = .int .i64 j ∧ Hid (wr = w.drewN q) ∧ Hid (Lib.compareBytes xs ys = Lib.compareBytes (xs.drop j) (ys.drop j))) (fun i _ => n - (intOf i).toNat)
  case atStart => exact ⟨0, 0, by omega, by omega, rfl, rfl, rfl⟩
  case round =>
    obtain ⟨j, q, hjn, hjm, rfl, HW, HC⟩ := hrel
    obtain ⟨wo, rfl⟩ : ∃ wo : World, wo = wr := ⟨_, rfl⟩
    by_cases hlt : j < n
    · by_cases hlt2 : j < m
      · obtain ⟨b1, o1, u, rfl, hu, hc1⟩ := HA.out.at_ hlt
        obtain ⟨b2, o2, v, rfl, hv, hc2⟩ := HB.out.at_ hlt2
        have hx1 : wo.cell? ⟨b1, o1 + j, none⟩ = some (.int .u8 (u.toNat : Int)) := by rw [HW.out]; exact hc1
        have hx2 : wo.cell? ⟨b2, o2 + j, none⟩ = some (.int .u8 (v.toNat : Int)) := by rw [HW.out]; exact hc2
        have HS := hide (cmp_step hu hv)
        have hu2 := u.toNat_lt
        have hv2 := v.toNat_lt
        clear hu hv hc1 hc2
        rcases u8_tri u v with h | h | h
        · have h' : (u.toNat : Int) < v.toNat := by rw [UInt8.lt_iff_toNat_lt] at h; omega
          have HH := hide h
          clear h
          go_wp2
          go_quiet (fail)
          go_wp2
          go_ret
          refine ⟨?_, _, drew1 HW.out _⟩
          rw [HC.out, HS.out, if_pos HH.out]
          rfl
        · have h' : (v.toNat : Int) < u.toNat := by rw [UInt8.lt_iff_toNat_lt] at h; omega
          have HH := hide h
          clear h
          go_wp2
          go_quiet (fail)
          go_wp2
          go_quiet (fail)
          go_wp2
          go_ret
          refine ⟨?_, _, drew1 (drew1 HW.out _) _⟩
          rw [HC.out, HS.out, if_neg (u8_asym HH.out), if_pos HH.out]
          rfl
        · subst h
          go_wp2
          go_quiet (fail)
          go_wp2
          go_quiet (fail)
          go_wp2
          go_roundw
          case rel =>
            refine ⟨j + 1, _, by omega, by omega, by go_num, drew1 HW.out _, ?_⟩
            have h := HS.out
            rw [if_neg (u8_irr u), if_neg (u8_irr u)] at h
            exact HC.out.trans h
          case measure => simp [intOf]; omega
      · have hl1 := HLA.out
        have hl2 := HLB.out
        have HE := hide (cmp_end (xs := xs) (ys := ys) (j := j) (by omega) (by omega) (by omega))
        have hjm' : j = m := by omega
        rw [hl1, hl2] at HE
        clear hl1 hl2
        obtain rfl := hjm'
        have hnj : ¬ n < j := by omega
        go_wp2
        go_ret
        refine ⟨?_, _, HW.out⟩
        rw [HC.out, HE.out, if_neg hnj, if_pos hlt]
        rfl
    · have hl1 := HLA.out
      have hl2 := HLB.out
      have HE := hide (cmp_end (xs := xs) (ys := ys) (j := j) (by omega) (by omega) (by omega))
      have hjn' : j = n := by omega
      rw [hl1, hl2] at HE
      clear hl1 hl2
      obtain rfl := hjn'
      by_cases h1 : j < m
      · go_wp2
        go_ret
        refine ⟨?_, _, HW.out⟩
        rw [HC.out, HE.out, if_pos h1]
        rfl
      · have h2 : ¬ m < j := by omega
        go_wp2
        go_ret
        refine ⟨?_, _, HW.out⟩
        rw [HC.out, HE.out, if_neg h1, if_neg h2]
        rfl
theorem refbytes_any (w : World) (x k : Nat) (hk1 : 1 ≤ k) (hk4 : k ≤ 4) (hx : x < 256 ^ k) :
    Calls Tryz.prog 40 #[.int .i64 x, .int .i64 k] w fun e w' => ∃ v, e = .returned v ∧ w'.ownsRow w.heap.size 5 1 v k (bvs (be k x)) ∧ Below w.heap.size w w' := by
  obtain ⟨i0, hi0, hz0, hz1, hz2⟩ := info_parts u8_info
  have hx4 : x < 4294967296 := Nat.lt_of_lt_of_le hx (Nat.le_trans (Nat.pow_le_pow_right (by omega) hk4) (by decide))
  obtain ⟨K, HK⟩ : ∃ K, Hid (K = k) := ⟨k, rfl⟩
  rcases (show k = 1 ∨ k = 2 ∨ k = 3 ∨ k = 4 by omega) with rfl | rfl | rfl | rfl
  all_goals
    have hxb := hx
    simp only [Nat.reducePow] at hxb
    clear hx
    simp only [Int.cast_ofNat_Int]
    go_enter Tryz.func40, Tryz.ntmps40
    go_wp2
    go_loopw [5, 6] (fun v i wr => ∃ (j : Nat) (s : Int) (vv : Value), v = vv ∧ j ≤ K ∧ s + j + 1 = K ∧ i = .int .i64 s ∧ wr.ownsRow w.heap.size 5 1 vv j (bvs ((be K x).take j)) ∧ Below w.heap.size w wr) (fun _ i _ => (intOf i + 1).toNat)
    case atStart =>
      have hk := HK.out
      exact ⟨0, _, _, rfl, by omega, by omega, rfl, World.ownsRow_nil _ _ _ _, Below.refl _ _⟩
    case round =>
      obtain ⟨j, s, vv, rfl, hj, hs, rfl, hown, hbel⟩ := hrel
      obtain ⟨A2, c2, rfl, hc2, _⟩ := own_shape hown
      have HO := hide hown
      have HBL := hide hbel
      have hbelr := hbel
      clear hown hbel
      by_cases hlt : j < K
      · have hk := HK.out
        have HT := hide (be_take (n := x) hlt)
        have hsz := hbelr.size
        have hj3 : j ≤ 3 := by omega
        rcases (show (s = 0 ∧ K - 1 - j = 0) ∨ (s = 1 ∧ K - 1 - j = 1) ∨ (s = 2 ∧ K - 1 - j = 2) ∨ (s = 3 ∧ K - 1 - j = 3) by omega) with ⟨rfl, hq⟩ | ⟨rfl, hq⟩ | ⟨rfl, hq⟩ | ⟨rfl, hq⟩
        all_goals first | (exfalso; omega) | skip
        all_goals
          have HQ := hide hq
          clear hk hq
          go_wp2_with (at_builtin; go_must (refine wpList_append_bytes _ rfl (.tmp 13) (.tmp 19) _ rfl w.heap.size 5 i0 Tryz.underlying38 hi0 hz0 hz1 hz2 (.slice A2 j c2) j ((be K x).take j) rfl (HO.out.alloc _) wr.heap.size (wr.heap.size + 1) (some ⟨wr.heap.size, 0, none⟩) 1 1 [UInt8.ofNat (x / 256 ^ (K - 1 - j) % 256)] rfl (at_one wr _ _ _ (by rw [HQ.out, byte_nat]; simp only [Nat.reducePow]; omega)) (by omega) (by simp; omega) ?_); intro v1 w2 hown1 hg2 hat2; have HO1 := hide hown1; have HG2 := hide hg2; clear hown1 hg2 hat2)
          go_roundw
          case rel =>
            have hO : w2.ownsRow w.heap.size 5 1 v1 (j + 1) (bvs ((be K x).take (j + 1))) := by
              rw [HT.out]
              exact HO1.out
            have hB := (HBL.out.alloc (by omega) _).grown HG2.out (by simp; omega) (fun g hg => (HO.out.lt g hg).1)
            first | exact ⟨j + 1, _, _, rfl, by omega, by omega, rfl, hO, hB⟩ | ((repeat apply Exists.intro); exact ⟨⟨rfl, by omega, by omega, rfl, hO, hB⟩, rfl⟩)
          case measure => simp [intOf]
      · obtain rfl : j = K := by omega
        have HF := hide (be_full j x)
        have hs8 : s = -1 := by omega
        subst hs8
        have hk := HK.out
        subst hk
        go_wp2
        go_ret
        refine ⟨_, rfl, ?_, HBL.out⟩
        have h1 := HO.out
        rw [HF.out] at h1
        exact h1
theorem labbig4_any (w : World) (lo hi : Nat) (A : Option Addr) (n c : Nat) (bs : List UInt8) (h : At w lo hi A n bs) (hn : n ≤ 4) :
    Calls Tryz.prog 107 #[.slice A n c] w fun e w' => e = .returned (.int .i64 (big bs : Nat)) ∧ w = w' := by
  have H := hide h
  clear h
  go_enter Tryz.func107, Tryz.ntmps107
  go_wp2
  go_loop [3, 4] (fun t i => ∃ j : Nat, j ≤ n ∧ i = .int .i64 j ∧ t = .int .i64 (big (bs.take j) : Nat)) (fun _ i => n - (intOf i).toNat)
  case atStart => exact ⟨0, Nat.zero_le _, rfl, rfl⟩
  case round =>
    obtain ⟨j, hj, rfl, rfl⟩ := hrel
    by_cases hlt : j < n
    · obtain ⟨b, o, u, rfl, hu, hc⟩ := H.out.at_ hlt
      have hbl := hide (big_take hu)
      have hb6 := big_take_lt (bs := bs) (k := j) (by omega)
      have hu2 := u.toNat_lt
      clear hu
      go_wp2
      go_round
      case rel => exact ⟨j + 1, by omega, by go_num, by rw [hbl.out]; exact congrArg (Value.int .i64) (by omega)⟩
      case measure => simp [intOf]; omega
    · obtain rfl : j = n := by omega
      have HF : Hid (bs.take j = bs) := hide (List.take_of_length_le (by rw [H.out.len]; exact Nat.le_refl _))
      go_wp2
      go_ret
      exact ⟨by rw [HF.out]; rfl, rfl⟩
theorem labbig_any (w : World) (lo hi : Nat) (A : Option Addr) (n c : Nat) (bs : List UInt8) (h : At w lo hi A n bs) (hn : n ≤ 3) :
    Calls Tryz.prog 107 #[.slice A n c] w fun e w' => e = .returned (.int .i64 (big bs : Nat)) ∧ w = w' := labbig4_any w lo hi A n c bs h (by omega)
end Go.Proofs.YtipgbmajhnkfbaaGreatDoor
