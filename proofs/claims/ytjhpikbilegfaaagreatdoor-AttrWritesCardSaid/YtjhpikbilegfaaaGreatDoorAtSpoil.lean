/-
  lent of the statements: attributes copied, each value a lent one. The one condition: they are few.
  spoil of the statements: each value written over, and the row. No condition beyond the row's own.
-/
import Derived.Test.YtjhpikbilegfaaaGreatDoorAtV
import Derived.Test.YtjhpikbilegfaaaGreatDoorRefs
import Derived.Test.YtjhpikbilegfaaaGreatDoorAggG
namespace Go.Proofs.YtjhpikbilegfaaaGreatDoor
open Go.RowKit
set_option linter.unusedVariables false
set_option linter.unusedSimpArgs false

structure LnS (w x : World) (b o lo hi : Nat) (r : RawP) : Prop where
  c0 : x.cell? ⟨b, o, none⟩ = some (.int .i64 r.f)
  c1 : x.cell? ⟨b, o + 1, none⟩ = some (.int .i64 r.k)
  c2 : x.cell? ⟨b, o + 2, none⟩ = some (.slice r.A r.n r.c)
  v : At x lo hi r.A r.n r.v
  bl : Below w.heap.size w x
  hb : b < hi
  hh : hi ≤ w.heap.size
section
variable {w x y : World} {b o lo hi : Nat} {r : RawP}
theorem LnS.keep (h : LnS w x b o lo hi r) (hk : ∀ p : Addr, p.block < hi → y.cell? p = x.cell? p) (hbl : Below w.heap.size w y) : LnS w y b o lo hi r :=
  ⟨(hk _ h.hb).trans h.c0, (hk _ h.hb).trans h.c1, (hk _ h.hb).trans h.c2, h.v.keep (fun p _ hp => hk p hp), hbl, h.hb, h.hh⟩
theorem LnS.on (h : LnS w x b o lo hi r) (hb : Below x.heap.size x y) : LnS w y b o lo hi r :=
  h.keep (fun p hp => hb.cell (by have := h.bl.size; have := h.hh; omega)) (below_step h.bl hb (Nat.le_refl _))
theorem LnS.drew (h : LnS w x b o lo hi r) : LnS w x.drew b o lo hi r := h.keep (fun _ _ => rfl) (below_drew h.bl)
theorem LnS.grown (h : LnS w x b o lo hi r) {row : Option Nat} (hg : x.grownBy y row) (hr : ∀ g, row = some g → w.heap.size ≤ g) : LnS w y b o lo hi r :=
  h.keep (fun p hp => World.cell?_of_block (hg.block p.block (by have := h.bl.size; have := h.hh; omega) (fun e => by have := hr _ e.symm; have := h.hh; omega))) (h.bl.grown hg h.bl.size hr)
end
def LentPost (w : World) (l : List Rw) (e : Ending) (w' : World) : Prop :=
  ∃ v xs, e = .returned v ∧ OwnRaws w' w.heap.size 46 5 v xs ∧ xs.map RawP.raw = l ∧ Below w.heap.size w w'
end Go.Proofs.YtjhpikbilegfaaaGreatDoor
namespace Go.Proofs.YtjhpikbilegfaaaGreatDoor
open Go.RowKit
set_option linter.unusedVariables false
set_option linter.unusedSimpArgs false

theorem OwnRow.of_own9 {w : World} {base : Nat} {v : Value} {n : Nat} {xs : List Value} (h : w.ownsRow base 5 1 v n xs) : OwnRow w base v := by
  rcases h.2 with ⟨h, _⟩ | ⟨g, cap, cur, h1, h2, h3, h4, h5, h6, _⟩
  · exact .inl h
  · exact .inr ⟨g, n, cap, cur, h1, h2, h3, by omega, h4, h5⟩
theorem blk_over9 {g : Nat} {t : TypeId} : ∀ (vs : List Value) (o : Nat) (w : World) (cur : Array Value), Blk w g t cur → ∃ cur', Blk (w.setCells g o vs) g t cur' ∧ cur'.size = cur.size ∧ ∀ j, j < o ∨ o + vs.length ≤ j → cur'[j]? = cur[j]?
  | [], o, w, cur, h => ⟨cur, h, rfl, fun _ _ => rfl⟩
  | v :: r, o, w, cur, h => by
    obtain ⟨cur', h1, h2, h3⟩ := blk_over9 r (o + 1) (w.setCell ⟨g, o, none⟩ v) _ (h.set_ o v)
    refine ⟨cur', h1, h2.trans (by simp), fun j hj => ?_⟩
    have hj2 : j < o + 1 ∨ o + 1 + r.length ≤ j := by rcases hj with hj | hj; exact .inl (by omega); exact .inr (by simp at hj; omega)
    rw [h3 j hj2, Array.getElem?_setIfInBounds_ne (by rcases hj with hj | hj; omega; simp at hj; omega)]
/-- what stands of the row while it is spoiled: the elements from k on -/
structure SpS (w x : World) (base g c k : Nat) (v : Value) (xs : List RawP) : Prop where
  blk : ∃ cur, Blk x g 46 cur ∧ cur.size = c * 3 ∧ ∀ (j : Nat) (r : RawP), k ≤ j → xs[j]? = some r → ∀ i u, (rawL r)[i]? = some u → cur[j * 3 + i]? = some u
  own : ∀ (j : Nat) (r : RawP), k ≤ j → xs[j]? = some r → OwnRow x base r.val
  bl : Below base w x
  rest : ∀ b, b < w.heap.size → ¬ blocksR v xs b → x.heap[b]? = w.heap[b]?
def SpoilPost (w : World) (base : Nat) (v : Value) (xs : List RawP) (e : Ending) (w' : World) : Prop :=
  e = .returned (.tuple #[]) ∧ Below base w w' ∧ ∀ b, b < w.heap.size → ¬ blocksR v xs b → w'.heap[b]? = w.heap[b]?
set_option maxRecDepth 20000 in
set_option maxHeartbeats 4000000 in
theorem rawspoil_any (w : World) (base n : Nat) (A : Option Addr) (c : Nat) (xs : List RawP) (h : OwnRaws w base 46 5 (.slice A n c) xs) (hnn : xs.length = n) (hb : base ≤ w.heap.size) (hn : n ≤ 1000) :
    Calls Tryz.prog 9 #[.slice A n c] w (SpoilPost w base (.slice A n c) xs) := by
  have HNN := hide hnn
  by_cases h0 : n = 0
  · subst h0
    clear h
    go_enter Tryz.func9, Tryz.ntmps9
    go_wp2_with fail
    go_loopw [2] (fun i wr => i = .int .i64 ((0 : Nat) : Int) ∧ wr = w) (fun _ _ => 0)
    case atStart => exact ⟨rfl, rfl⟩
    case round =>
      obtain ⟨rfl, rfl⟩ := hrel
      go_wp2
      go_end0
      exact ⟨rfl, Below.refl _ _, fun _ _ _ => rfl⟩
  · have hrow := h.row
    rw [hnn] at hrow
    obtain ⟨g, hA, hbg, cur, hcur, hnc, hcs, htake⟩ : ∃ g, A = some ⟨g, 0, none⟩ ∧ base ≤ g ∧ ∃ cur, Blk w g 46 cur ∧ n ≤ c ∧ cur.size = c * 3 ∧ cur.toList.take (n * 3) = flatG rawL xs := by
      rcases hrow.2 with ⟨h1, h2⟩ | ⟨g, cap, cur, h1, h2, h3, h4, h5, h6, h7⟩
      · exact absurd h2 h0
      · injection h1 with e1 e2 e3
        subst e3
        exact ⟨g, e1, h2, cur, h3, h4, h6, h7⟩
    subst hA
    have hcell : ∀ (j : Nat) (r : RawP), 0 ≤ j → xs[j]? = some r → ∀ i u, (rawL r)[i]? = some u → cur[j * 3 + i]? = some u := fun j r _ hj i u hu => by
      have h1 := flatG_get (enc := rawL) (sz := 3) (fun x _ => rawL_len x) hj hu
      rw [← htake, List.getElem?_take] at h1
      split at h1
      · simpa using h1
      · cases h1
    have ST : Hid (SpS w w base g c 0 (.slice (some ⟨g, 0, none⟩) n c) xs) := hide ⟨⟨cur, hcur, hcs, hcell⟩, fun j r _ hj => OwnRow.of_own9 (h.val r (List.mem_of_getElem? hj)), Below.refl _ _, fun _ _ _ => rfl⟩
    have HAP := hide (List.pairwise_iff_getElem.1 h.ap)
    have HVR := hide h.vr
    have HLT := hide h.lt
    clear h hrow hcur hcs htake hcell hnn
    go_enter Tryz.func9, Tryz.ntmps9
    go_wp2_with fail
    go_loopw [2] (fun i wr => ∃ k : Nat, k ≤ n ∧ i = .int .i64 k ∧ SpS w wr base g c k (.slice (some ⟨g, 0, none⟩) n c) xs) (fun i _ => n - (intOf i).toNat)
    case atStart => exact ⟨0, Nat.zero_le _, rfl, ST.out⟩
    case round =>
      obtain ⟨k, hk, rfl, hsp⟩ := hrel
      have SP := hide hsp
      clear hsp ST
      by_cases hlt : k < n
      · have hkl : ((k : Nat) : Int) < (n : Int) := by omega
        obtain ⟨r, hr⟩ : ∃ r, xs[k]? = some r := ⟨_, List.getElem?_eq_getElem (by rw [HNN.out]; exact hlt)⟩
        obtain ⟨cur, hcur, hcs, hcell⟩ := SP.out.blk
        have hc2 := hcell k r (Nat.le_refl _) hr 2 _ rfl
        have c2 : wr.cell? ⟨g, k * 3 + 2, none⟩ = some (.slice r.A r.n r.c) := by rw [hcur.cell]; exact hc2
        have c2' : wr.cell? ⟨g, 0 + k * 3 + 2, none⟩ = some (.slice r.A r.n r.c) := by rw [Nat.zero_add]; exact c2
        have HC := hide hcell
        have HB := hide hcur
        have HCS := hide hcs
        have HR := hide hr
        have hmem := List.mem_of_getElem? hr
        have OW := hide (SP.out.own k r (Nat.le_refl _) hr)
        have hz := SP.out.bl.size
        clear hcell hcur hcs hr hc2
        go_wp2_with fail
        refine (owned_all (wr.alloc (.cells #[.slice r.A r.n r.c] 42)) base wr.heap.size 1 1 (fun _ => r.val) #[.slice r.A r.n r.c] (by decide) (by decide) (by decide) (fun q hq => by obtain rfl : q = 0 := (by omega); rfl) (Blk.new wr _ _) (by simp; omega) (fun q hq => OW.out.alloc _) (fun p q hp hq hpq => absurd (by omega) hpq)).mono ?_
        rintro e w3 ⟨rfl, hb3, hrest3⟩
        have hg3 : (wr.alloc (.cells #[.slice r.A r.n r.c] 42)).grownBy w3 r.val.ownBlock := ⟨hb3.os, hb3.tape, hb3.output, hb3.size, fun b hb hne => hrest3 b hb (fun q hq e => hne e.symm)⟩
        have hg4 : wr.grownBy w3 r.val.ownBlock := grown_trans (grown_alloc (grown_refl wr _) _) hg3
        have hrb : ∀ b, r.val.ownBlock = some b → base ≤ b ∧ b ≠ g ∧ blocksR (.slice (some ⟨g, 0, none⟩) n c) xs b := fun b hb => by
          refine ⟨(HLT.out b (.inr ⟨r, hmem, hb⟩)).1, fun e => ?_, .inr ⟨r, hmem, hb⟩⟩
          rcases HVR.out r hmem with h1 | h1
          · rw [h1] at hb; cases hb
          · exact h1 (by rw [hb, e]; rfl)
        have B3 := hide (HB.out.grown hg4 (fun e => (hrb g e.symm).2.1 rfl))
        have OW3 : Hid (∀ (j : Nat) (s : RawP), k + 1 ≤ j → xs[j]? = some s → OwnRow w3 base s.val) := hide (fun j s hj hs => (SP.out.own j s (by omega) hs).kept hg4 (by
          obtain ⟨h1, h2⟩ := List.getElem?_eq_some_iff.1 HR.out
          obtain ⟨h3, h4⟩ := List.getElem?_eq_some_iff.1 hs
          have h5 := HAP.out k j h1 h3 (by omega)
          rw [h2, h4] at h5
          cases h6 : s.val.ownBlock with
          | none => exact .inl rfl
          | some b =>
            refine .inr (fun e => ?_)
            rcases h5 with h5 | h5
            · rw [h5] at e; cases e
            · exact h5 (by rw [h6]; exact e.symm)))
        have BL3 := hide (SP.out.bl.grown hg4 (by omega) (fun b hb => (hrb b hb).1))
        have RS3 : Hid (∀ b, b < w.heap.size → ¬ blocksR (.slice (some ⟨g, 0, none⟩) n c) xs b → w3.heap[b]? = w.heap[b]?) := hide (fun b hb hnb => (hg4.block b (by omega) (fun e => hnb (hrb b e.symm).2.2)).trans (SP.out.rest b hb hnb))
        have hz3 := Nat.le_trans hz hg4.size
        clear hb3 hrest3 hg3 hg4 hrb SP HB OW c2 c2'
        have hth : w3.there g (k * 3) 3 := fun j hj => ⟨by
          rw [B3.out.cell, Array.getElem?_eq_getElem (by rw [HCS.out]; omega)]
          rfl, B3.out.frozen _⟩
        have hth' : w3.there g (0 + k * 3) 3 := by rw [Nat.zero_add]; exact hth
        go_wp2_with (first
          | (refine wpList_store_mid rfl 46 (.tmp 19) (.tmp 18) rfl g (k * 3) (rawC ⟨0, -7, none, 0, 0, []⟩) rfl rfl hth (by kernel_rfl) (rawC_one _) ?_; refine Hid.out ?_)
          | (refine wpList_store_mid rfl 46 (.tmp 19) (.tmp 18) rfl g (0 + k * 3) (rawC ⟨0, -7, none, 0, 0, []⟩) rfl rfl hth' (by kernel_rfl) (rawC_one _) ?_; refine Hid.out ?_))
        try rw [Nat.zero_add]
        refine hide ?_
        obtain ⟨cur', hb5, hs5, hk5⟩ := blk_over9 (rawC ⟨0, -7, none, 0, 0, []⟩).toList (k * 3) w3 cur B3.out
        have hg5 := grown_setCells (rawC ⟨0, -7, none, 0, 0, []⟩).toList (k * 3) w3 w3 (grown_refl w3 (some g))
        have hgb : blocksR (.slice (some ⟨g, 0, none⟩) n c) xs g := .inl rfl
        generalize w3.setCells g (k * 3) (rawC ⟨0, -7, none, 0, 0, []⟩).toList = w5 at *
        have S5 : Hid (SpS w w5 base g c (k + 1) (.slice (some ⟨g, 0, none⟩) n c) xs) := hide ⟨⟨cur', hb5, hs5.trans HCS.out, fun j s hj hs i u hu => by
            have hi : i < 3 := (List.getElem?_eq_some_iff.1 hu).1
            rw [hk5 _ (.inr (by show k * 3 + 3 ≤ j * 3 + i; omega))]
            exact HC.out j s (by omega) hs i u hu⟩,
          fun j s hj hs => (OW3.out j s hj hs).kept hg5 (by
            rcases HVR.out s (List.mem_of_getElem? hs) with h1 | h1
            · exact .inl h1
            · exact .inr h1),
          BL3.out.grown hg5 (by omega) (fun b e => by injection e with e; omega),
          fun b hb hnb => (hg5.block b (by omega) (fun e => by injection e with e; subst e; exact hnb hgb)).trans (RS3.out b hb hnb)⟩
        clear hb5 hs5 hk5 hg5 hth hth' B3 OW3 BL3 RS3
        go_wp2_with fail
        go_roundw
        case rel => exact ⟨k + 1, by omega, by go_num, S5.out⟩
        case measure => simp [intOf]; omega
      · obtain rfl : k = n := by omega
        go_wp2
        go_end0
        exact ⟨rfl, SP.out.bl, SP.out.rest⟩
end Go.Proofs.YtjhpikbilegfaaaGreatDoor
