/-
  What Take of package uroute does, in whatever memory. No condition beyond sizes that fit memory.
-/
import Derived.Test.YtdkoicfenehjcaaDoorUr2
namespace Go.Proofs.YtdkoicfenehjcaaDoor
open Go.RowKit
set_option linter.unusedVariables false
set_option linter.unusedSimpArgs false

theorem uread_k (w : World) (lo hi : Nat) (A : Option Addr) (n c : Nat) (b : List UInt8) (k : Int) (h : At w lo hi A n b) (hh : hi ≤ w.heap.size) (hn : n ≤ 1000) (hz : k = 4 ∨ k = 16) :
    Calls Tryd.prog 35 #[.slice A n c, .int .i64 k] w fun e w' => e = .returned (.agg (uroC (rdU b k))) ∧ Below w.heap.size w w' := by
  rcases hz with rfl | rfl
  · exact uread_any w lo hi A n c b 4 h hh hn (.inl rfl)
  · exact uread_any w lo hi A n c b 16 h hh hn (.inr rfl)
def UTakePost (w : World) (b : List UInt8) (k : Int) (e : Ending) (w' : World) : Prop :=
  e = .returned (.tuple #[.agg (uroC (takeRU b k)), .int .i64 (takeNU b k : Nat), .int .i64 (takeEU b k)]) ∧ Below w.heap.size w w'
theorem equal_u (w : World) (lo hi lo' hi' n m c d : Nat) (A B : Option Addr) (xs ys : List UInt8) (ha : At w lo hi A n xs) (hb : At w lo' hi' B m ys) :
    Calls Tryd.prog 36 #[.slice A n c, .slice B m d] w fun e w' => e = .returned (.bool (decide (xs = ys))) ∧ w = w' := bytesEqual_m w lo hi lo' hi' n m c d A B xs ys ha hb
section
variable (w : World) (lo hi : Nat) (A : Option Addr) (n c : Nat) (b : List UInt8) (k : Int)
set_option maxRecDepth 20000 in
set_option maxHeartbeats 1000000 in
theorem utake_size (h : At w lo hi A n b) (hz : ¬ (k = 4 ∨ k = 16)) : Calls Tryd.prog 12 #[.slice A n c, .int .i64 k] w (UTakePost w b k) := by
  obtain ⟨h1, h2, h3⟩ := takeU_size (b := b) hz
  unfold UTakePost
  rw [h1, h2, h3]
  have RES : Hid (Blk (w.alloc (.cells #[.int .u8 0, .int .u8 0, .int .u8 0, .int .u8 0, .int .u8 0, .int .u8 0, .int .u8 0, .int .u8 0, .int .i64 0, .int .u8 0, .int .u8 0, .int .u8 0, .int .u8 0, .int .u8 0, .int .u8 0, .int .u8 0, .int .u8 0, .int .u8 0, .int .u8 0, .int .u8 0, .int .u8 0, .int .u8 0, .int .u8 0, .int .u8 0, .int .u8 0, .int .i64 0, .int .i64 0] 30)) w.heap.size 30 (uroC zeroU)) := hide (by rw [uroC_zero]; exact Blk.new w _ _)
  have W0 := hide ((Below.refl w.heap.size w).alloc (Nat.le_refl _) (.cells #[.int .u8 0, .int .u8 0, .int .u8 0, .int .u8 0, .int .u8 0, .int .u8 0, .int .u8 0, .int .u8 0, .int .i64 0, .int .u8 0, .int .u8 0, .int .u8 0, .int .u8 0, .int .u8 0, .int .u8 0, .int .u8 0, .int .u8 0, .int .u8 0, .int .u8 0, .int .u8 0, .int .u8 0, .int .u8 0, .int .u8 0, .int .u8 0, .int .u8 0, .int .i64 0, .int .i64 0] 30))
  have n4 : (k != 4) = true := bne_iff_ne.2 (fun e => hz (.inl e))
  have n16 : (k != 16) = true := bne_iff_ne.2 (fun e => hz (.inr e))
  clear h hz h1 h2 h3
  go_enter Tryd.func12, Tryd.ntmps12
  go_wp2_with (with_reducible refine wpList_build_uzero rfl rfl ?_; refine Hid.out ?_)
  refine hide ?_
  generalize hw0 : w.alloc (.cells #[.int .u8 0, .int .u8 0, .int .u8 0, .int .u8 0, .int .u8 0, .int .u8 0, .int .u8 0, .int .u8 0, .int .i64 0, .int .u8 0, .int .u8 0, .int .u8 0, .int .u8 0, .int .u8 0, .int .u8 0, .int .u8 0, .int .u8 0, .int .u8 0, .int .u8 0, .int .u8 0, .int .u8 0, .int .u8 0, .int .u8 0, .int .u8 0, .int .u8 0, .int .i64 0, .int .i64 0] 30) = w0 at RES W0 ⊢
  clear hw0
  go_wp2_with ((refine wpList_store_uro rfl (.tmp 4) (.tmp 16) rfl w.heap.size rfl (u := zeroU) rfl zeroU_W RES.out (uro_size zeroU_W) ?_; intro w9 hb9 hg9; have M9 := hide hb9; have HG9 := hide hg9; clear hb9 hg9; refine Hid.out ?_))
  refine hide ?_
  go_wp2
  refine ret_uro3 (p := 4) (q := 5) (r := 6) (v := .int .i64 0) (u := .int .i64 1) rfl rfl rfl rfl M9.out zeroU_W rfl ?_
  exact ⟨rfl, W0.out.grown HG9.out W0.out.size (by simp)⟩
set_option maxRecDepth 20000 in
set_option maxHeartbeats 2000000 in
theorem utake_short (h : At w lo hi A n b) (hh : hi ≤ w.heap.size) (hnn : n ≤ 10000000000000) (hz : k = 4 ∨ k = 16) (hs : b.length < lenU b) : Calls Tryd.prog 12 #[.slice A n c, .int .i64 k] w (UTakePost w b k) := by
  have hz0 := hz
  rcases hz0 with rfl | rfl
  all_goals
    obtain ⟨h1, h2, h3⟩ := takeU_short hz hs
    unfold UTakePost
    rw [h1, h2, h3]
    have RES : Hid (Blk (w.alloc (.cells #[.int .u8 0, .int .u8 0, .int .u8 0, .int .u8 0, .int .u8 0, .int .u8 0, .int .u8 0, .int .u8 0, .int .i64 0, .int .u8 0, .int .u8 0, .int .u8 0, .int .u8 0, .int .u8 0, .int .u8 0, .int .u8 0, .int .u8 0, .int .u8 0, .int .u8 0, .int .u8 0, .int .u8 0, .int .u8 0, .int .u8 0, .int .u8 0, .int .u8 0, .int .i64 0, .int .i64 0] 30)) w.heap.size 30 (uroC zeroU)) := hide (by rw [uroC_zero]; exact Blk.new w _ _)
    have W0 := hide ((Below.refl w.heap.size w).alloc (Nat.le_refl _) (.cells #[.int .u8 0, .int .u8 0, .int .u8 0, .int .u8 0, .int .u8 0, .int .u8 0, .int .u8 0, .int .u8 0, .int .i64 0, .int .u8 0, .int .u8 0, .int .u8 0, .int .u8 0, .int .u8 0, .int .u8 0, .int .u8 0, .int .u8 0, .int .u8 0, .int .u8 0, .int .u8 0, .int .u8 0, .int .u8 0, .int .u8 0, .int .u8 0, .int .u8 0, .int .i64 0, .int .i64 0] 30))
    have HA := hide (h.alloc hh (.cells #[.int .u8 0, .int .u8 0, .int .u8 0, .int .u8 0, .int .u8 0, .int .u8 0, .int .u8 0, .int .u8 0, .int .i64 0, .int .u8 0, .int .u8 0, .int .u8 0, .int .u8 0, .int .u8 0, .int .u8 0, .int .u8 0, .int .u8 0, .int .u8 0, .int .u8 0, .int .u8 0, .int .u8 0, .int .u8 0, .int .u8 0, .int .u8 0, .int .u8 0, .int .i64 0, .int .i64 0] 30))
    have hn := h.len
    clear h hz h1 h2 h3
    rcases Nat.lt_or_ge n 1 with hlt | hge
    · have hlt2 : (n : Int) < 1 := by omega
      clear hs hn HA
      go_enter Tryd.func12, Tryd.ntmps12
      go_wp2_with (with_reducible refine wpList_build_uzero rfl rfl ?_; refine Hid.out ?_)
      refine hide ?_
      generalize hw0 : w.alloc (.cells #[.int .u8 0, .int .u8 0, .int .u8 0, .int .u8 0, .int .u8 0, .int .u8 0, .int .u8 0, .int .u8 0, .int .i64 0, .int .u8 0, .int .u8 0, .int .u8 0, .int .u8 0, .int .u8 0, .int .u8 0, .int .u8 0, .int .u8 0, .int .u8 0, .int .u8 0, .int .u8 0, .int .u8 0, .int .u8 0, .int .u8 0, .int .u8 0, .int .u8 0, .int .i64 0, .int .i64 0] 30) = w0 at RES W0 ⊢
      clear hw0
      go_wp2_with ((refine wpList_store_uro rfl (.tmp 4) (.tmp 31) rfl w.heap.size rfl (u := zeroU) rfl zeroU_W RES.out (uro_size zeroU_W) ?_; intro w9 hb9 hg9; have M9 := hide hb9; have HG9 := hide hg9; clear hb9 hg9; refine Hid.out ?_))
      refine hide ?_
      go_wp2
      refine ret_uro3 (p := 4) (q := 5) (r := 6) (v := .int .i64 0) (u := .int .i64 3) rfl rfl rfl rfl M9.out zeroU_W rfl ?_
      exact ⟨rfl, W0.out.grown HG9.out W0.out.size (by simp)⟩
    · obtain ⟨bb, oo, x, rfl, hx, hcx⟩ := HA.out.at_ (show 0 < n by omega)
      rw [Nat.add_zero] at hcx
      have hgx : lenU b = 1 + (x.toNat + 7) / 8 := by unfold lenU nU; rw [List.getD_eq_getElem?_getD, hx]; rfl
      rw [hgx, hn] at hs
      have hx2 := x.toNat_lt
      obtain ⟨q, hq⟩ : ∃ q, (x.toNat + 7) / 8 = q := ⟨_, rfl⟩
      rw [hq] at hs
      have HQ := hide hq
      have hlt : (n : Int) - 1 < (q : Int) := by omega
      have hge2 : ¬ ((n : Int) < 1) := by omega
      clear hs hn hgx hx HA hq
      go_enter Tryd.func12, Tryd.ntmps12
      go_wp2_with fail
      generalize hw0 : w.alloc (.cells #[.int .u8 0, .int .u8 0, .int .u8 0, .int .u8 0, .int .u8 0, .int .u8 0, .int .u8 0, .int .u8 0, .int .i64 0, .int .u8 0, .int .u8 0, .int .u8 0, .int .u8 0, .int .u8 0, .int .u8 0, .int .u8 0, .int .u8 0, .int .u8 0, .int .u8 0, .int .u8 0, .int .u8 0, .int .u8 0, .int .u8 0, .int .u8 0, .int .u8 0, .int .i64 0, .int .i64 0] 30) = w0 at RES W0 hcx ⊢
      clear hw0
      refine (uhold_any w0 x.toNat (by omega)).mono ?_
      rw [HQ.out]
      rintro e w1 ⟨rfl, rfl⟩
      go_wp2_with (with_reducible refine wpList_build_uzero rfl rfl ?_; refine Hid.out ?_)
      refine hide ?_
      go_wp2_with ((refine wpList_store_uro rfl (.tmp 4) (.tmp 31) rfl w.heap.size rfl (u := zeroU) rfl zeroU_W RES.out (uro_size zeroU_W) ?_; intro w9 hb9 hg9; have M9 := hide hb9; have HG9 := hide hg9; clear hb9 hg9; refine Hid.out ?_))
      refine hide ?_
      go_wp2
      refine ret_uro3 (p := 4) (q := 5) (r := 6) (v := .int .i64 0) (u := .int .i64 3) rfl rfl rfl rfl M9.out zeroU_W rfl ?_
      exact ⟨rfl, W0.out.grown HG9.out W0.out.size (by simp)⟩
set_option maxRecDepth 20000 in
set_option maxHeartbeats 4000000 in
theorem utake_long (h : At w lo hi A n b) (hh : hi ≤ w.heap.size) (hc : n ≤ c) (hnn : n ≤ 10000000000000) (hz : k = 4 ∨ k = 16) (hs : lenU b ≤ b.length) : Calls Tryd.prog 12 #[.slice A n c, .int .i64 k] w (UTakePost w b k) := by
  obtain ⟨p1, p2, p3⟩ := takeU_prog hz hs
  have X := hide (rdU_W (b := b.take (lenU b)) hz)
  have hn := h.len
  obtain ⟨cb, hcb⟩ : ∃ cb, b.take (lenU b) = cb := ⟨_, rfl⟩
  rw [hcb] at p1 p2 p3 X
  obtain ⟨r, hr⟩ : ∃ r, rdU cb k = r := ⟨_, rfl⟩
  have hok : okU cb k = (rightU r && decide (codeU r = cb)) := by unfold okU; rw [hr]
  have HRD : Hid (∀ (x : World) (B : Option Addr) (m : Nat), At x lo hi B m cb → hi ≤ x.heap.size → m ≤ 1000 → Calls Tryd.prog 35 #[.slice B m c, .int .i64 k] x fun e w' => e = .returned (.agg (uroC r)) ∧ Below x.heap.size x w') := hide (fun x B m h1 h2 h3 => by
    rw [← hr]
    exact uread_k x lo hi B m c cb k h1 h2 h3 hz)
  rw [hr] at p2 X
  rw [hok] at p1 p2 p3
  have HP1 := hide p1
  have HP2 := hide p2
  have HP3 := hide p3
  have RES : Hid (Blk (w.alloc (.cells #[.int .u8 0, .int .u8 0, .int .u8 0, .int .u8 0, .int .u8 0, .int .u8 0, .int .u8 0, .int .u8 0, .int .i64 0, .int .u8 0, .int .u8 0, .int .u8 0, .int .u8 0, .int .u8 0, .int .u8 0, .int .u8 0, .int .u8 0, .int .u8 0, .int .u8 0, .int .u8 0, .int .u8 0, .int .u8 0, .int .u8 0, .int .u8 0, .int .u8 0, .int .i64 0, .int .i64 0] 30)) w.heap.size 30 (uroC zeroU)) := hide (by rw [uroC_zero]; exact Blk.new w _ _)
  have W0 := hide ((Below.refl w.heap.size w).alloc (Nat.le_refl _) (.cells #[.int .u8 0, .int .u8 0, .int .u8 0, .int .u8 0, .int .u8 0, .int .u8 0, .int .u8 0, .int .u8 0, .int .i64 0, .int .u8 0, .int .u8 0, .int .u8 0, .int .u8 0, .int .u8 0, .int .u8 0, .int .u8 0, .int .u8 0, .int .u8 0, .int .u8 0, .int .u8 0, .int .u8 0, .int .u8 0, .int .u8 0, .int .u8 0, .int .u8 0, .int .i64 0, .int .i64 0] 30))
  have HA := hide (h.alloc hh (.cells #[.int .u8 0, .int .u8 0, .int .u8 0, .int .u8 0, .int .u8 0, .int .u8 0, .int .u8 0, .int .u8 0, .int .i64 0, .int .u8 0, .int .u8 0, .int .u8 0, .int .u8 0, .int .u8 0, .int .u8 0, .int .u8 0, .int .u8 0, .int .u8 0, .int .u8 0, .int .u8 0, .int .u8 0, .int .u8 0, .int .u8 0, .int .u8 0, .int .u8 0, .int .i64 0, .int .i64 0] 30))
  have hh0 : hi ≤ (w.alloc (.cells #[.int .u8 0, .int .u8 0, .int .u8 0, .int .u8 0, .int .u8 0, .int .u8 0, .int .u8 0, .int .u8 0, .int .i64 0, .int .u8 0, .int .u8 0, .int .u8 0, .int .u8 0, .int .u8 0, .int .u8 0, .int .u8 0, .int .u8 0, .int .u8 0, .int .u8 0, .int .u8 0, .int .u8 0, .int .u8 0, .int .u8 0, .int .u8 0, .int .u8 0, .int .i64 0, .int .i64 0] 30)).heap.size := Nat.le_trans hh W0.out.size
  have hl33 := lenU_le b
  have hl1 : 1 ≤ lenU b := by unfold lenU; omega
  obtain ⟨bb, oo, x, rfl, hx, hcx⟩ := HA.out.at_ (show 0 < n by omega)
  rw [Nat.add_zero] at hcx
  have hgx : lenU b = 1 + (x.toNat + 7) / 8 := by unfold lenU nU; rw [List.getD_eq_getElem?_getD, hx]; rfl
  have hx2 := x.toNat_lt
  obtain ⟨q, hq⟩ : ∃ q, (x.toNat + 7) / 8 = q := ⟨_, rfl⟩
  rw [hq] at hgx
  have HQ := hide hq
  have HL := hide hgx
  have AC := hide (HA.out.head (show lenU b ≤ n by omega))
  rw [hcb, HL.out] at AC
  have hlt : ¬ ((n : Int) - 1 < (q : Int)) := by omega
  have hge2 : ¬ ((n : Int) < 1) := by omega
  have hqc : ((1 : Int) + (q : Int)).toNat = 1 + q := by omega
  have hq1 : q ≤ 32 := by omega
  have hqn : 1 + q ≤ n := by omega
  have HZ := hide hz
  clear h hz hs hn hx HA hq hgx hcb p1 p2 p3 hl1 hl33 hr hok
  rcases HZ.out with rfl | rfl
  all_goals
    clear HZ
    go_enter Tryd.func12, Tryd.ntmps12
    go_wp2_with fail
    generalize hw0 : w.alloc (.cells #[.int .u8 0, .int .u8 0, .int .u8 0, .int .u8 0, .int .u8 0, .int .u8 0, .int .u8 0, .int .u8 0, .int .i64 0, .int .u8 0, .int .u8 0, .int .u8 0, .int .u8 0, .int .u8 0, .int .u8 0, .int .u8 0, .int .u8 0, .int .u8 0, .int .u8 0, .int .u8 0, .int .u8 0, .int .u8 0, .int .u8 0, .int .u8 0, .int .u8 0, .int .i64 0, .int .i64 0] 30) = w0 at RES W0 hcx hh0 AC ⊢
    clear hw0
    refine (uhold_any w0 x.toNat (by omega)).mono ?_
    rw [HQ.out]
    rintro e w1 ⟨rfl, rfl⟩
    go_wp2_with fail
    refine (uhold_any w0 x.toNat (by omega)).mono ?_
    rw [HQ.out]
    rintro e w1 ⟨rfl, rfl⟩
    clear hcx
    go_wp2_with fail
    refine (HRD.out w0 _ _ AC.out hh0 (by omega)).mono ?_
    rintro e w2 ⟨rfl, hb2⟩
    have RES2 := hide (RES.out.over hb2)
    have W2 := hide (below_step W0.out hb2 (Nat.le_refl _))
    have AC2 := hide (AC.out.below (hb2.mono hh0))
    have hh2 := Nat.le_trans hh0 hb2.size
    have NEW := hide (Blk.new w2 30 #[.int .u8 0, .int .u8 0, .int .u8 0, .int .u8 0, .int .u8 0, .int .u8 0, .int .u8 0, .int .u8 0, .int .i64 0, .int .u8 0, .int .u8 0, .int .u8 0, .int .u8 0, .int .u8 0, .int .u8 0, .int .u8 0, .int .u8 0, .int .u8 0, .int .u8 0, .int .u8 0, .int .u8 0, .int .u8 0, .int .u8 0, .int .u8 0, .int .u8 0, .int .i64 0, .int .i64 0])
    clear hb2 RES W0 AC
    go_wp2_with (refine wpList_store_uro rfl (.tmp 7) (.tmp 42) rfl w2.heap.size rfl (u := r) rfl X.out NEW.out rfl ?_; intro w3 hb3 hg3; have M3 := hide hb3; have W23 : Hid (Below w2.heap.size w2 w3) := hide (((Below.refl _ _).alloc (Nat.le_refl _) _).grown hg3 (by simp) (by simp)); clear hb3 hg3; refine Hid.out ?_)
    refine hide ?_
    clear NEW
    have RES3 := hide (RES2.out.over W23.out)
    have W3 := hide (below_step W2.out W23.out (Nat.le_refl _))
    have AC3 := hide (AC2.out.below (W23.out.mono hh2))
    have hh3 := Nat.le_trans hh2 W23.out.size
    clear RES2 W2 AC2 hh2 W23
    generalize w2.heap.size = g7 at *
    go_wp2_with (with_reducible refine wpList_load_uro rfl (.tmp 7) rfl g7 rfl M3.out X.out ?_)
    refine (ubytes_any w3 r X.out).mono ?_
    rintro e w4 ⟨v4, rfl, ho4, hb4⟩
    obtain ⟨A4, c4, rfl, _, _⟩ := own_shape ho4
    have OA := hide (At.own ho4)
    have RES4 := hide (RES3.out.over hb4)
    have W4 := hide (below_step W3.out hb4 (Nat.le_refl _))
    have AC4 := hide (AC3.out.below (hb4.mono hh3))
    have M4 := hide (M3.out.over hb4)
    clear ho4 hb4 RES3 W3 AC3 M3
    have hoE : Hid (errU r = if rightU r = true then 0 else 1) := hide rfl
    have hoB : Hid (bytesU r = if rightU r = true then codeU r else []) := hide rfl
    generalize errU r = er at *
    generalize bytesU r = ob at *
    cases c1 : rightU r
    · have HF : Hid ((rightU r && decide (codeU r = cb)) = false) := hide (by rw [c1]; rfl)
      obtain rfl : er = 1 := by rw [hoE.out, c1]; rfl
      clear c1
      go_wp2_with (with_reducible refine wpList_build_uzero rfl rfl ?_; refine Hid.out ?_)
      refine hide ?_
      go_wp2_with ((refine wpList_store_uro rfl (.tmp 4) (.tmp 56) rfl w.heap.size rfl (u := zeroU) rfl zeroU_W RES4.out (uro_size zeroU_W) ?_; intro w9 hb9 hg9; have M9 := hide hb9; have HG9 := hide hg9; clear hb9 hg9; refine Hid.out ?_))
      refine hide ?_
      go_wp2
      refine ret_uro3 (p := 4) (q := 5) (r := 6) (v := .int .i64 0) (u := .int .i64 4) rfl rfl rfl rfl M9.out zeroU_W rfl ?_
      unfold UTakePost
      rw [HP1.out, HP2.out, HP3.out, HF.out, if_neg (by decide), if_neg (by decide), if_neg (by decide)]
      exact ⟨rfl, W4.out.grown HG9.out W4.out.size (by simp)⟩
    · obtain rfl : er = 0 := by rw [hoE.out, c1]; rfl
      obtain rfl : ob = codeU r := by rw [hoB.out, c1]; rfl
      clear hoE hoB
      go_wp2_with fail
      refine (equal_u w4 _ _ _ _ _ _ c4 c A4 _ _ _ OA.out AC4.out).mono ?_
      rintro e w5 ⟨rfl, rfl⟩
      cases c2 : decide (codeU r = cb)
      · have HF : Hid ((rightU r && decide (codeU r = cb)) = false) := hide (by rw [c2]; simp)
        clear c1 c2
        go_wp2_with (with_reducible refine wpList_build_uzero rfl rfl ?_; refine Hid.out ?_)
        refine hide ?_
        go_wp2_with ((refine wpList_store_uro rfl (.tmp 4) (.tmp 56) rfl w.heap.size rfl (u := zeroU) rfl zeroU_W RES4.out (uro_size zeroU_W) ?_; intro w9 hb9 hg9; have M9 := hide hb9; have HG9 := hide hg9; clear hb9 hg9; refine Hid.out ?_))
        refine hide ?_
        go_wp2
        refine ret_uro3 (p := 4) (q := 5) (r := 6) (v := .int .i64 0) (u := .int .i64 4) rfl rfl rfl rfl M9.out zeroU_W rfl ?_
        unfold UTakePost
        rw [HP1.out, HP2.out, HP3.out, HF.out, if_neg (by decide), if_neg (by decide), if_neg (by decide)]
        exact ⟨rfl, W4.out.grown HG9.out W4.out.size (by simp)⟩
      · have HF : Hid ((rightU r && decide (codeU r = cb)) = true) := hide (by rw [c1, c2]; rfl)
        clear c1 c2
        go_wp2_with (with_reducible refine wpList_load_uro rfl (.tmp 7) rfl g7 rfl M4.out X.out ?_; refine Hid.out ?_)
        refine hide ?_
        go_wp2_with ((refine wpList_store_uro rfl (.tmp 4) (.tmp 57) rfl w.heap.size rfl (u := r) rfl X.out RES4.out (uro_size zeroU_W) ?_; intro w9 hb9 hg9; have M9 := hide hb9; have HG9 := hide hg9; clear hb9 hg9; refine Hid.out ?_))
        refine hide ?_
        go_wp2
        refine ret_uro3 (p := 4) (q := 5) (r := 6) (v := .int .i64 ((1 + q : Nat) : Int)) (u := .int .i64 0) rfl rfl (by first | rfl | simp) rfl M9.out X.out rfl ?_
        unfold UTakePost
        rw [HP1.out, HP2.out, HP3.out, HF.out, if_pos rfl, if_pos rfl, if_pos rfl, HL.out]
        exact ⟨rfl, W4.out.grown HG9.out W4.out.size (by simp)⟩
theorem utake_any (h : At w lo hi A n b) (hh : hi ≤ w.heap.size) (hc : n ≤ c) (hnn : n ≤ 10000000000000) : Calls Tryd.prog 12 #[.slice A n c, .int .i64 k] w (UTakePost w b k) := by
  by_cases hz : k = 4 ∨ k = 16
  · rcases Nat.lt_or_ge b.length (lenU b) with hs | hs
    · exact utake_short w lo hi A n c b k h hh hnn hz hs
    · exact utake_long w lo hi A n c b k h hh hc hnn hz hs
  · exact utake_size w lo hi A n c b k h hz
end
end Go.Proofs.YtdkoicfenehjcaaDoor
