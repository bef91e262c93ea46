/-
  What Owned does: rows of bytes that lie in blocks of their own are written over, each by its own byte, and none changes another one: true. The rows lie in distinct blocks, from block B on; below B nothing changes.
  What the helpers of the statement CursorPuts do, in whatever memory: Lent, Kept, and the document's own answers Bytes, Put, Order. No condition beyond sizes that fit memory.
-/
import Derived.Test.YtjhpikbilegfaaaGreatDoorNum
namespace Go.Proofs.YtjhpikbilegfaaaGreatDoor
open Go.RowKit
set_option linter.unusedVariables false
set_option linter.unusedSimpArgs false

/-- a row of bytes that lies at the head of a block of its own, known whole; or nil -/
def OwnRow (w : World) (B : Nat) (v : Value) : Prop :=
  v = .slice none 0 0 ∨ ∃ g n cap cur, v = .slice (some ⟨g, 0, none⟩) n cap ∧ B ≤ g ∧ Blk w g 5 cur ∧ cur.size = cap ∧ n ≤ cap ∧ cap ≤ maxLen
def FullRow (w : World) (v : Value) (q : Int) : Prop := ∀ g n cap, v = .slice (some ⟨g, 0, none⟩) n cap → ∀ k, k < cap → w.cell? ⟨g, k, none⟩ = some (.int .u8 q)
def bytei (j : Nat) : Int := ((j : Int) + 1) % 256

theorem OwnRow.kept {w w' : World} {B : Nat} {v : Value} {row : Option Nat} (h : OwnRow w B v) (hg : w.grownBy w' row) (hne : v.ownBlock = none ∨ v.ownBlock ≠ row) : OwnRow w' B v := by
  rcases h with h | ⟨g, n, cap, cur, rfl, h1, h2, h3⟩
  · exact .inl h
  · refine .inr ⟨g, n, cap, cur, rfl, h1, h2.grown hg (fun e => ?_), h3⟩
    rcases hne with h | h
    · cases h
    · exact h e
theorem FullRow.kept {w w' : World} {v : Value} {q : Int} {row : Option Nat} (h : FullRow w v q) (hg : w.grownBy w' row) (hne : v.ownBlock = none ∨ v.ownBlock ≠ row) : FullRow w' v q := by
  intro g n cap hv k hk
  subst hv
  refine hg.cell (h g n cap rfl k hk) (fun e => ?_)
  rcases hne with h | h
  · cases h
  · exact h e
theorem OwnRow.drewN {w : World} {B : Nat} {v : Value} (h : OwnRow w B v) (k : Nat) : OwnRow (w.drewN k) B v := h
theorem FullRow.drewN {w : World} {v : Value} {q : Int} (h : FullRow w v q) (k : Nat) : FullRow (w.drewN k) v q := h
theorem OwnRow.more {w : World} {B B' : Nat} {v : Value} (h : OwnRow w B v) (hB : B' ≤ B) : OwnRow w B' v := by
  rcases h with h | ⟨g, n, cap, cur, rfl, h1, h2⟩
  · exact .inl h
  · exact .inr ⟨g, n, cap, cur, rfl, by omega, h2⟩
theorem OwnRow.alloc {w : World} {B : Nat} {v : Value} (h : OwnRow w B v) (o : Obj) : OwnRow (w.alloc o) B v := by
  rcases h with h | ⟨g, n, cap, cur, rfl, h1, h2, h3⟩
  · exact .inl h
  · exact .inr ⟨g, n, cap, cur, rfl, h1, h2.alloc o, h3⟩

/-- all that stands while the rows are written: the rows are where they were, those behind are full -/
structure Rows1 (w wr : World) (B rb N j : Nat) (rows : Nat → Value) (arr : Array Value) : Prop where
  blk : Blk wr rb 42 arr
  own : ∀ q, q < N → OwnRow wr B (rows q)
  full : ∀ q, q < j → FullRow wr (rows q) (bytei q)
  below : Below B w wr
  rest : ∀ b, b < w.heap.size → (∀ q, q < N → (rows q).ownBlock ≠ some b) → wr.heap[b]? = w.heap[b]?

theorem Rows1.drewN {w wr : World} {B rb N j : Nat} {rows : Nat → Value} {arr : Array Value} (h : Rows1 w wr B rb N j rows arr) (k : Nat) : Rows1 w (wr.drewN k) B rb N j rows arr :=
  ⟨h.blk, fun q hq => (h.own q hq).drewN k, fun q hq => (h.full q hq).drewN k, below_drewN h.below k, h.rest⟩

theorem Rows1.next {w wr w' : World} {B rb N j : Nat} {rows : Nat → Value} {arr : Array Value} (h : Rows1 w wr B rb N j rows arr) (hj : j < N) (hB : B ≤ wr.heap.size)
    (hd : ∀ p q, p < N → q < N → p ≠ q → (rows p).ownBlock = none ∨ (rows p).ownBlock ≠ (rows q).ownBlock)
    {g n cap : Nat} {cur : Array Value} (hv : rows j = .slice (some ⟨g, 0, none⟩) n cap) (hBg : B ≤ g) (hb : Blk w' g 5 cur) (hs : cur.size = cap) (hn : n ≤ cap) (hm : cap ≤ maxLen)
    (hc : ∀ k, k < cap → cur[k]? = some (.int .u8 (bytei j))) (hg : wr.grownBy w' (some g)) : Rows1 w w' B rb N (j + 1) rows arr := by
  have hown : (rows j).ownBlock = some g := by rw [hv]; rfl
  refine ⟨h.blk.grown hg (fun e => ?_), fun q hq => ?_, fun q hq => ?_, h.below.grown hg hB (by intro k hk; injection hk; omega),
    fun b hb hq => (hg.block b (Nat.lt_of_lt_of_le hb h.below.size) (fun e => hq j hj (by rw [hown]; exact e.symm))).trans (h.rest b hb hq)⟩
  · injection e with e
    subst e
    have h1 := h.blk
    rcases h.own j hj with h2 | ⟨g', n', cap', cur', h2, _, h3, _⟩
    · rw [hv] at h2; cases h2
    · rw [hv] at h2
      injection h2 with h2
      injection h2 with h2
      injection h2 with h2
      subst h2
      unfold Blk at h1 h3
      rw [h1] at h3
      injection h3 with h3
      injection h3 with _ ht
      exact absurd ht (by decide)
  · by_cases hqj : q = j
    · subst hqj
      exact .inr ⟨g, n, cap, cur, hv, hBg, hb, hs, hn, hm⟩
    · refine (h.own q hq).kept hg ?_
      rcases hd q j hq hj hqj with h1 | h1
      · exact .inl h1
      · exact .inr (by rw [hown] at h1; exact h1)
  · by_cases hqj : q = j
    · subst hqj
      intro g' n' cap' h2 k hk
      rw [hv] at h2
      injection h2 with h2 h3 h4
      injection h2 with h2
      injection h2 with h2
      subst h2 h3 h4
      rw [hb.cell k]
      exact hc k hk
    · refine (h.full q (by omega)).kept hg ?_
      rcases hd q j (by omega) hj hqj with h1 | h1
      · exact .inl h1
      · exact .inr (by rw [hown] at h1; exact h1)

set_option maxHeartbeats 4000000 in
theorem owned_all (w : World) (B rb N c : Nat) (rows : Nat → Value) (arr : Array Value) (hN : 0 < N) (hN2 : N ≤ 1000) (hNc : N ≤ c) (ha : ∀ q, q < N → arr[q]? = some (rows q)) (hblk : Blk w rb 42 arr) (hB : B ≤ w.heap.size)
    (hown : ∀ q, q < N → OwnRow w B (rows q)) (hd : ∀ p q, p < N → q < N → p ≠ q → (rows p).ownBlock = none ∨ (rows p).ownBlock ≠ (rows q).ownBlock) :
    Calls Tryz.prog 24 #[.slice (some ⟨rb, 0, none⟩) N c] w fun e w' => e = .returned (.bool true) ∧ Below B w w' ∧ ∀ b, b < w.heap.size → (∀ q, q < N → (rows q).ownBlock ≠ some b) → w'.heap[b]? = w.heap[b]? := by
  have HA := hide ha
  have HD := hide hd
  have HR : Hid (Rows1 w w B rb N 0 rows arr) := ⟨hblk, hown, fun q hq => absurd hq (by omega), Below.refl _ _, fun _ _ _ => rfl⟩
  clear ha hd hblk hown
  go_enter Tryz.func24, Tryz.ntmps24
  go_wp2
  go_loopw [3] (fun i wr => ∃ j : Nat, j ≤ N ∧ i = .int .i64 j ∧ Hid (Rows1 w wr B rb N j rows arr)) (fun i _ => N - (intOf i).toNat)
  case atStart => exact ⟨0, by omega, rfl, HR.out⟩
  case round =>
    obtain ⟨j, hj, rfl, HRj⟩ := hrel
    obtain ⟨wo, rfl⟩ : ∃ wo : World, wo = wr := ⟨_, rfl⟩
    by_cases hlt : j < N
    · have hrow := HA.out j hlt
      have hc0 : wo.cell? ⟨rb, j, none⟩ = some (rows j) := by rw [HRj.out.blk.cell j]; exact hrow
      have hsz := HRj.out.below.size
      have hsz' : B ≤ wo.heap.size := by omega
      rcases HRj.out.own j hlt with hv | ⟨g, n, cap, cur, hv, hBg, hb, hs, hn, hm⟩
      · have HV := hide hv
        rw [hv] at hc0
        clear hv hrow
        go_wp2
        go_quiet (fail)
        go_wp2
        refine wp_loop_rounds 1 ?_
        rw [rounds_succ]
        go_wp2
        go_roundw
        case rel =>
          refine ⟨j + 1, by omega, by go_num, ?_⟩
          have h := HRj.out.drewN nq
          refine ⟨h.blk, h.own, fun q hq => ?_, h.below, h.rest⟩
          by_cases hqj : q = j
          · subst hqj
            intro g' n' cap' h2
            rw [HV.out] at h2
            cases h2
          · exact h.full q (by omega)
        case measure => simp [intOf]; omega
      · have HV := hide hv
        rw [hv] at hc0
        have hm' : cap ≤ 9223372036854775807 := by unfold maxLen at hm; omega
        have HBK := hide hb
        have HS := hide hs
        clear hv hrow hb hs
        go_wp2
        go_quiet (fail)
        go_wp2
        go_loopw [5] (fun k wi => ∃ (t : Nat) (cu : Array Value), t ≤ cap ∧ k = .int .i64 t ∧ Hid (Blk wi g 5 cu ∧ cu.size = cap ∧ (∀ u, u < t → cu[u]? = some (.int .u8 (bytei j))) ∧ (wo.drewN nq).grownBy wi (some g))) (fun k _ => cap - (intOf k).toNat)
        case atStart => exact ⟨0, cur, by omega, rfl, HBK.out, HS.out, fun u hu => absurd hu (by omega), grown_refl _ _⟩
        case round =>
          obtain ⟨t, cu, ht, rfl, HC⟩ := hrel
          by_cases hlt2 : t < cap
          · obtain ⟨q, hq⟩ : ∃ q, cu[t]? = some q := ⟨_, Array.getElem?_eq_getElem (by rw [HC.out.2.1]; exact hlt2)⟩
            have hc1 : wr.cell? ⟨g, t, none⟩ = some q := by rw [HC.out.1.cell t]; exact hq
            have hf1 : wr.frozen? ⟨g, t, none⟩ = false := HC.out.1.frozen t
            clear hq
            go_wp2
            go_roundw
            case rel =>
              refine ⟨t + 1, _, by omega, by go_num, HC.out.1.set_ t _, by simpa using HC.out.2.1, fun u hu => ?_, grown_setCell HC.out.2.2.2 (.inl rfl) _⟩
              · by_cases hut : u = t
                · subst hut
                  rw [Array.getElem?_setIfInBounds]
                  rw [if_pos rfl, if_pos (by rw [HC.out.2.1]; exact hlt2)]
                  rfl
                · rw [Array.getElem?_setIfInBounds_ne (fun e => hut e.symm)]
                  exact HC.out.2.2.1 u (by omega)
            case measure => simp [intOf]; omega
          · go_wp2
            go_roundw
            case rel =>
              have h := HRj.out.drewN nq
              refine ⟨j + 1, by omega, by go_num, ?_⟩
              exact h.next hlt (by simpa using hsz') HD.out HV.out hBg HC.out.1 HC.out.2.1 hn hm (fun u hu => HC.out.2.2.1 u (by omega)) HC.out.2.2.2
            case measure => simp [intOf]; omega
    · obtain rfl : j = N := by omega
      have HRj2 := hide HRj.out
      clear HRj HR hlt
      go_wp2
      go_loopw [6] (fun i wr => ∃ p : Nat, p ≤ j ∧ i = .int .i64 p ∧ Hid (Rows1 w wr B rb j j rows arr)) (fun i _ => j - (intOf i).toNat)
      case atStart => exact ⟨0, by omega, rfl, HRj2.out⟩
      case round =>
        obtain ⟨p, hp, rfl, HRp⟩ := hrel
        obtain ⟨wp, rfl⟩ : ∃ wp : World, wp = wr := ⟨_, rfl⟩
        by_cases hlt : p < j
        · have hrow := HA.out p hlt
          have hc0 : wp.cell? ⟨rb, p, none⟩ = some (rows p) := by rw [HRp.out.blk.cell p]; exact hrow
          rcases HRp.out.own p hlt with hv | ⟨g, n, cap, cur, hv, hBg, hb, hs, hn, hm⟩
          · have HV := hide hv
            rw [hv] at hc0
            clear hv hrow
            go_wp2
            go_quiet (fail)
            go_wp2
            refine wp_loop_rounds 1 ?_
            rw [rounds_succ]
            go_wp2
            go_roundw
            case rel => exact ⟨p + 1, by omega, by go_num, HRp.out.drewN nq⟩
            case measure => simp [intOf]; omega
          · have HV := hide hv
            rw [hv] at hc0
            have hm' : cap ≤ 9223372036854775807 := by unfold maxLen at hm; omega
            have HF := hide (HRp.out.full p hlt g n cap hv)
            clear hv hrow hb hs
            go_wp2
            go_quiet (fail)
            go_wp2
            go_loop [8] (fun k => ∃ t : Nat, t ≤ cap ∧ k = .int .i64 t) (fun k => cap - (intOf k).toNat)
            case atStart => exact ⟨0, by omega, rfl⟩
            case round =>
              obtain ⟨t, ht, rfl⟩ := hrel
              by_cases hlt2 : t < cap
              · have hc1 : (wp.drewN nq).cell? ⟨g, t, none⟩ = some (.int .u8 (((p : Int) + 1) % 256)) := HF.out t hlt2
                go_wp2
                go_round
                case rel => exact ⟨t + 1, by omega, by go_num⟩
                case measure => simp [intOf]; omega
              · go_wp2
                go_roundw
                case rel => exact ⟨p + 1, by omega, by go_num, HRp.out.drewN nq⟩
                case measure => simp [intOf]; omega
        · go_wp2
          go_ret
          exact ⟨rfl, HRp.out.below, HRp.out.rest⟩
theorem owned_any (w : World) (B rb N c : Nat) (rows : Nat → Value) (arr : Array Value) (hN : 0 < N) (hN2 : N ≤ 1000) (hNc : N ≤ c) (ha : ∀ q, q < N → arr[q]? = some (rows q)) (hblk : Blk w rb 42 arr) (hB : B ≤ w.heap.size)
    (hown : ∀ q, q < N → OwnRow w B (rows q)) (hd : ∀ p q, p < N → q < N → p ≠ q → (rows p).ownBlock = none ∨ (rows p).ownBlock ≠ (rows q).ownBlock) :
    Calls Tryz.prog 24 #[.slice (some ⟨rb, 0, none⟩) N c] w fun e w' => e = .returned (.bool true) ∧ Below B w w' :=
  (owned_all w B rb N c rows arr hN hN2 hNc ha hblk hB hown hd).mono fun _ _ h => ⟨h.1, h.2.1⟩
end Go.Proofs.YtjhpikbilegfaaaGreatDoor
namespace Go.Proofs.YtjhpikbilegfaaaGreatDoor
open Go.RowKit
set_option linter.unusedVariables false
set_option linter.unusedSimpArgs false

/-- the document's order -/
theorem cmp_step {xs ys : List UInt8} {j : Nat} {u v : UInt8} (hu : xs[j]? = some u) (hv : ys[j]? = some v) :
    Lib.compareBytes (xs.drop j) (ys.drop j) = if u < v then -1 else if v < u then 1 else Lib.compareBytes (xs.drop (j + 1)) (ys.drop (j + 1)) := by
  have h1 : xs.drop j = u :: xs.drop (j + 1) := by
    obtain ⟨hl, he⟩ := List.getElem?_eq_some_iff.1 hu
    rw [← he]; exact List.drop_eq_getElem_cons hl
  have h2 : ys.drop j = v :: ys.drop (j + 1) := by
    obtain ⟨hl, he⟩ := List.getElem?_eq_some_iff.1 hv
    rw [← he]; exact List.drop_eq_getElem_cons hl
  rw [h1, h2]
  rfl
theorem cmp_end {xs ys : List UInt8} {j : Nat} (h : xs.length ≤ j ∨ ys.length ≤ j) (hj1 : j ≤ xs.length) (hj2 : j ≤ ys.length) :
    Lib.compareBytes (xs.drop j) (ys.drop j) = if xs.length < ys.length then -1 else if ys.length < xs.length then 1 else 0 := by
  rcases Nat.lt_trichotomy xs.length ys.length with h1 | h1 | h1
  · rw [if_pos h1]
    have h2 : xs.drop j = [] := List.drop_of_length_le (by omega)
    rw [h2]
    cases h3 : ys.drop j with
    | nil => have := congrArg List.length h3; rw [List.length_drop] at this; simp at this; omega
    | cons a l => rfl
  · rw [if_neg (by omega), if_neg (by omega)]
    have h2 : xs.drop j = [] := List.drop_of_length_le (by omega)
    have h3 : ys.drop j = [] := List.drop_of_length_le (by omega)
    rw [h2, h3]
    rfl
  · rw [if_neg (by omega), if_pos h1]
    have h2 : ys.drop j = [] := List.drop_of_length_le (by omega)
    rw [h2]
    cases h3 : xs.drop j with
    | nil => have := congrArg List.length h3; rw [List.length_drop] at this; simp at this; omega
    | cons a l => rfl

theorem drew1 {w wo : World} {q : Nat} (h : wo = w.drewN q) (a : Nat) : wo.drewN a = w.drewN (q + a) := by rw [h, World.drewN_drewN]
set_option maxHeartbeats 1000000 in
theorem refbytes_any (w : World) (x k : Nat) (hk1 : 1 ≤ k) (hk4 : k ≤ 4) (hx : x < 256 ^ k) :
    Calls Tryz.prog 20 #[.int .i64 x, .int .i64 k] w fun e w' => ∃ v, e = .returned v ∧ w'.ownsRow w.heap.size 5 1 v k (bvs (be k x)) ∧ Below w.heap.size w w' := by
  obtain ⟨i0, hi0, hz0, hz1, hz2⟩ := info_parts u8_info
  have hx4 : x < 4294967296 := Nat.lt_of_lt_of_le hx (Nat.le_trans (Nat.pow_le_pow_right (by omega) hk4) (by decide))
  obtain ⟨K, HK⟩ : ∃ K, Hid (K = k) := ⟨k, rfl⟩
  rcases (show k = 1 ∨ k = 2 ∨ k = 3 ∨ k = 4 by omega) with rfl | rfl | rfl | rfl
  all_goals
    have hxb := hx
    simp only [Nat.reducePow] at hxb
    clear hx
    simp only [Int.cast_ofNat_Int]
    go_enter Tryz.func20, Tryz.ntmps20
    go_wp2
    go_loopw [5, 6] (fun v i wr => ∃ (j : Nat) (s : Int) (vv : Value), v = vv ∧ j ≤ K ∧ s + j + 1 = K ∧ i = .int .i64 s ∧ wr.ownsRow w.heap.size 5 1 vv j (bvs ((be K x).take j)) ∧ Below w.heap.size w wr) (fun _ i _ => (intOf i + 1).toNat)
    case atStart =>
      have hk := HK.out
      exact ⟨0, _, _, rfl, by omega, by omega, rfl, World.ownsRow_nil _ _ _ _, Below.refl _ _⟩
    case round =>
      obtain ⟨j, s, vv, rfl, hj, hs, rfl, hown, hbel⟩ := hrel
      obtain ⟨A2, c2, rfl, hc2, _⟩ := own_shape hown
      have HO := hide hown
      have HBL := hide hbel
      have hbelr := hbel
      clear hown hbel
      by_cases hlt : j < K
      · have hk := HK.out
        have HT := hide (be_take (n := x) hlt)
        have hsz := hbelr.size
        have hj3 : j ≤ 3 := by omega
        rcases (show (s = 0 ∧ K - 1 - j = 0) ∨ (s = 1 ∧ K - 1 - j = 1) ∨ (s = 2 ∧ K - 1 - j = 2) ∨ (s = 3 ∧ K - 1 - j = 3) by omega) with ⟨rfl, hq⟩ | ⟨rfl, hq⟩ | ⟨rfl, hq⟩ | ⟨rfl, hq⟩
        all_goals first | (exfalso; omega) | skip
        all_goals
          have HQ := hide hq
          clear hk hq
          go_wp2_with (at_builtin; go_must (refine wpList_append_bytes _ rfl (.tmp 13) (.tmp 19) _ rfl w.heap.size 5 i0 Tryz.underlying42 hi0 hz0 hz1 hz2 (.slice A2 j c2) j ((be K x).take j) rfl (HO.out.alloc _) wr.heap.size (wr.heap.size + 1) (some ⟨wr.heap.size, 0, none⟩) 1 1 [UInt8.ofNat (x / 256 ^ (K - 1 - j) % 256)] rfl (at_one wr _ _ _ (by rw [HQ.out, byte_nat]; simp only [Nat.reducePow]; omega)) (by omega) (by simp; omega) ?_); intro v1 w2 hown1 hg2 hat2; have HO1 := hide hown1; have HG2 := hide hg2; clear hown1 hg2 hat2)
          go_roundw
          case rel =>
            have hO : w2.ownsRow w.heap.size 5 1 v1 (j + 1) (bvs ((be K x).take (j + 1))) := by
              rw [HT.out]
              exact HO1.out
            have hB := (HBL.out.alloc (by omega) _).grown HG2.out (by simp; omega) (fun g hg => (HO.out.lt g hg).1)
            first | exact ⟨j + 1, _, _, rfl, by omega, by omega, rfl, hO, hB⟩ | ((repeat apply Exists.intro); exact ⟨⟨rfl, by omega, by omega, rfl, hO, hB⟩, rfl⟩)
          case measure => simp [intOf]
      · obtain rfl : j = K := by omega
        have HF := hide (be_full j x)
        have hs8 : s = -1 := by omega
        subst hs8
        have hk := HK.out
        subst hk
        go_wp2
        go_ret
        refine ⟨_, rfl, ?_, HBL.out⟩
        have h1 := HO.out
        rw [HF.out] at h1
        exact h1

end Go.Proofs.YtjhpikbilegfaaaGreatDoor
