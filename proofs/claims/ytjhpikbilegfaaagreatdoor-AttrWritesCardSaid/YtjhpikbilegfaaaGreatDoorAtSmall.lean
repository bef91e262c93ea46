/-
  The small case that stands at the head of each statement of layer 9 comes out true, in whatever memory. The one condition: the table of kinds holds what its text lays.
-/
import Derived.Test.YtjhpikbilegfaaaGreatDoorAtStep
namespace Go.Proofs.YtjhpikbilegfaaaGreatDoor
open Go.RowKit
set_option linter.unusedVariables false
set_option linter.unusedSimpArgs false

def smB9 : List UInt8 := [64, 1, 1, 0, 128, 4, 4, 0, 0, 0, 9]
theorem sm_split : splitA smB9 = ([⟨64, 1, [0]⟩, ⟨128, 4, [0, 0, 0, 9]⟩], 0) := by kernel_rfl
def smA1 : Ats := (Item.origin ((0 : Nat) : Int)).say noneAt
def smA2 : Ats := (Item.med ((9 : Nat) : Int)).say smA1
theorem smA1_right : rightAt smA1 = true := by kernel_rfl
theorem smA2_right : rightAt smA2 = true := by kernel_rfl
theorem smA3_wrong : rightAt ((Item.origin ((3 : Nat) : Int)).say noneAt) = false := by kernel_rfl
theorem sm_rw1 : (Item.origin ((0 : Nat) : Int)).rw = ⟨64, 1, [0]⟩ := rfl
theorem sm_rw2 : (Item.med ((9 : Nat) : Int)).rw = ⟨128, 4, [0, 0, 0, 9]⟩ := by kernel_rfl
theorem sm_rw3 : (Item.origin ((3 : Nat) : Int)).rw = ⟨64, 1, [3]⟩ := rfl
def smSt (j : Nat) : Ats × Int := if j = 0 then (noneAt, 0) else if j = 1 then (smA1, 0) else (smA2, 0)
theorem smread1 (w : World) (lo hi : Nat) (A : Option Addr) (c : Nat) (x0 x1 : RawP) (h : RawsAt w lo hi A 2 [x0, x1]) (hh : hi ≤ w.heap.size) (hkn : Known w) (h0 : x0.raw = ⟨64, 1, [0]⟩) (h1 : x1.raw = ⟨128, 4, [0, 0, 0, 9]⟩) :
    Calls Tryz.prog 17 #[.slice A 2 c] w (ReadPost w smA2 0) := by
  have k0 : x0.k = 1 := congrArg Rw.k h0
  have k1 : x1.k = 4 := congrArg Rw.k h1
  refine readat_any w lo hi A 2 c [x0, x1] h hh (by decide) smSt rfl (List.pairwise_cons.2 ⟨fun y hy => by rw [List.mem_singleton.1 hy, k0, k1]; decide, List.pairwise_singleton _ _⟩) (fun y hy => ?_) (fun j x hx wr r m lo2 cnt D p hb hrd hmp hab hat hlo hr hats => ?_)
  · rcases List.mem_cons.1 hy with rfl | hy
    · rw [k0]; decide
    · rw [List.mem_singleton.1 hy, k1]; decide
  · match j, hx with
    | 0, hx =>
      injection hx with hx
      subst hx
      exact ⟨0, rfl, nstep_yes w lo hi A 2 _ h hh x0 (by simp) _ (h0.trans sm_rw1.symm) hkn noneAt smA1_right (say_origin 0 (by decide) _) wr r m lo2 cnt D p hb hrd hmp hab hat hlo hr hats⟩
    | 1, hx =>
      injection hx with hx
      subst hx
      exact ⟨0, rfl, nstep_yes w lo hi A 2 _ h hh x1 (by simp) _ (h1.trans sm_rw2.symm) hkn smA1 smA2_right (say_med 9 (by decide) _) wr r m lo2 cnt D p hb hrd hmp hab hat hlo hr hats⟩
theorem smread2 (w : World) (lo hi : Nat) (A : Option Addr) (c : Nat) (x0 : RawP) (h : RawsAt w lo hi A 1 [x0]) (hh : hi ≤ w.heap.size) (hkn : Known w) (h0 : x0.raw = ⟨64, 1, [3]⟩) :
    Calls Tryz.prog 17 #[.slice A 1 c] w (ReadPost w noneAt 2) := by
  have k0 : x0.k = 1 := congrArg Rw.k h0
  refine readat_any w lo hi A 1 c [x0] h hh (by decide) (fun j => if j = 0 then (noneAt, 0) else (noneAt, 2)) rfl (List.pairwise_singleton _ _) (fun y hy => ?_) (fun j x hx wr r m lo2 cnt D p hb hrd hmp hab hat hlo hr hats => ?_)
  · rw [List.mem_singleton.1 hy, k0]; decide
  · match j, hx with
    | 0, hx =>
      injection hx with hx
      subst hx
      exact ⟨2, rfl, nstep_no w lo hi A 1 _ h hh x0 (by simp) _ (h0.trans sm_rw3.symm) hkn noneAt smA3_wrong (say_origin 3 (by decide) _) wr r m lo2 cnt D p hb hrd hmp hab hat hlo hr hats⟩
theorem smread3 (w : World) (lo hi : Nat) (A B : Option Addr) (n c d : Nat) (v : List UInt8) (h : RawsAt w lo hi A 1 [⟨64, 77, B, n, d, v⟩]) (hh : hi ≤ w.heap.size) (hkn : Known w) :
    Calls Tryz.prog 17 #[.slice A 1 c] w (ReadPost w noneAt 3) := by
  refine readat_any w lo hi A 1 c [⟨64, 77, B, n, d, v⟩] h hh (by decide) (fun j => if j = 0 then (noneAt, 0) else (noneAt, 3)) rfl (List.pairwise_singleton _ _) (fun y hy => ?_) (fun j x hx wr r m lo2 cnt D p hb hrd hmp hab hat hlo hr hats => ?_)
  · rw [List.mem_singleton.1 hy]
    exact ⟨(by decide : (Lit.int .i64 77).wf = true), (by decide : (77 : Int) ≠ 14)⟩
  · match j, hx with
    | 0, hx =>
      injection hx with hx
      subst hx
      exact ⟨3, rfl, nstep_77 w lo hi hh B n d v hkn noneAt wr r m lo2 cnt D p hb hrd hmp hab hat hlo hr hats⟩
set_option maxRecDepth 20000 in
set_option maxHeartbeats 4000000 in
theorem atsmall_any (w : World) (hg : Known w) : Calls Tryz.prog 4 #[] w fun e w' => e = .returned (.bool true) ∧ Below w.heap.size w w' := by
  have HG := hide hg
  have AT0 : Hid (At (w.alloc (.cells (bvs smB9).toArray 5)) w.heap.size (w.heap.size + 1) (some ⟨w.heap.size, 0, none⟩) 11 smB9) := hide (by
    have hB := Blk.new w 5 (bvs smB9).toArray
    exact ⟨rfl, fun _ => ⟨_, 0, rfl, Nat.le_refl _, by omega, fun j u hu => by rw [Nat.zero_add, hB.cell]; simp [bvs, hu]⟩⟩)
  have B0 : Hid (Below w.heap.size w (w.alloc (.cells (bvs smB9).toArray 5))) := hide ((Below.refl _ _).alloc (Nat.le_refl _) _)
  have hb9 : (bvs smB9).toArray = #[.int .u8 64, .int .u8 1, .int .u8 1, .int .u8 0, .int .u8 128, .int .u8 4, .int .u8 4, .int .u8 0, .int .u8 0, .int .u8 0, .int .u8 9] := by kernel_rfl
  rw [hb9] at AT0 B0
  clear hg hb9
  go_enter Tryz.func4, Tryz.ntmps4
  go_wp2_with fail
  refine (split_any _ _ _ _ 11 11 smB9 AT0.out (by simp) (by decide)).mono ?_
  rintro e w1 ⟨v, xs, rfl, hown, hraws, hb1⟩
  rw [sm_split] at hraws ⊢
  have W1 := hide (below_step B0.out hb1 (by simp))
  obtain ⟨x0, x1, rfl⟩ : ∃ x0 x1, xs = [x0, x1] := by
    have hl := congrArg List.length hraws
    rw [List.length_map] at hl
    match xs, hl with
    | [a, b], _ => exact ⟨a, b, rfl⟩
  injection hraws with r0 hraws
  injection hraws with r1 hraws
  obtain ⟨A1, c1, rfl, _, _⟩ := hown.shape
  have RA := hide (hown.at_ (n := 2) rfl)
  have R0 := hide r0
  have R1 := hide r1
  have KN1 := hide (HG.out.below W1.out)
  obtain ⟨bb, oo, y, rfl, _, _, hy, hcell, _, _⟩ := RA.out.at_ (k := 1) (by decide)
  have hyk : y.k = 4 := by
    injection hy with hy
    rw [← hy]
    exact congrArg Rw.k r1
  have CK : Hid (w1.cell? ⟨bb, oo + 1 * 3 + 1, none⟩ = some (.int .i64 4)) := hide (by rw [← hyk]; exact hcell 1 _ rfl)
  clear hraws r0 r1 hown hb1 AT0 B0 hy hcell hyk
  go_wp2_with fail
  refine (smread1 w1 _ _ _ c1 x0 x1 RA.out (Nat.le_refl _) KN1.out R0.out R1.out).mono ?_
  rintro e w2 ⟨p1, rfl, hp1, hat1, hb2⟩
  have W2 := hide (below_step W1.out hb2 (Nat.le_refl _))
  have CK2 := hide ((hb2.cell (World.block_lt_of_cell? _ _ CK.out)).trans CK.out)
  have KN2 := hide (KN1.out.below hb2)
  have HOB1 := hat1.ob
  have HP1 := hide hp1
  have NEW := hide (Blk.new w2 30 #[.int .i64 0, .slice none 0 0, .int .i64 0, .int .i64 0, .int .i64 0, .int .u8 0, .int .u8 0, .int .u8 0, .int .u8 0, .int .u8 0, .int .u8 0, .int .u8 0, .int .u8 0, .int .u8 0, .int .u8 0, .int .u8 0, .int .u8 0, .int .u8 0, .int .u8 0, .int .u8 0, .int .u8 0, .slice none 0 0, .slice none 0 0, .slice none 0 0])
  clear hp1 hat1 hb2 CK KN1 W1 RA
  go_wp2_with (refine wpList_store_att rfl (.tmp 3) (.tmp 20) rfl w2.heap.size rfl p1 rfl HOB1 NEW.out rfl ?_; intro w3 hb3 hg3; have P3 := hide hb3; have W23 : Hid (Below w2.heap.size w2 w3) := hide (((Below.refl _ _).alloc (Nat.le_refl _) _).grown hg3 (by simp) (by simp)); clear hb3 hg3; refine Hid.out ?_)
  refine hide ?_
  have W3 := hide (below_step W2.out W23.out (Nat.le_refl _))
  have CK3 := hide ((W23.out.cell (World.block_lt_of_cell? _ _ CK2.out)).trans CK2.out)
  have KN3 := hide (KN2.out.below W23.out)
  clear NEW W23 W2 CK2 KN2
  generalize w2.heap.size = q3 at *
  go_wp2_with fail
  have hz4 : (w3.alloc (.cells #[.int .u8 3] 5)).heap.size = w3.heap.size + 1 := by simp
  have RB : Hid (RawsAt ((w3.alloc (.cells #[.int .u8 3] 5)).alloc (.cells #[.int .i64 64, .int .i64 1, .slice (some ⟨w3.heap.size, 0, none⟩) 1 1] 46)) w3.heap.size (w3.heap.size + 2) (some ⟨w3.heap.size + 1, 0, none⟩) 1 [⟨64, 1, some ⟨w3.heap.size, 0, none⟩, 1, 1, [3]⟩]) := hide (by
    have hB := Blk.new (w3.alloc (.cells #[.int .u8 3] 5)) 46 (rawL ⟨64, 1, some ⟨w3.heap.size, 0, none⟩, 1, 1, [3]⟩).toArray
    rw [hz4] at hB
    have hA := (at_one w3 3 5 3 rfl).alloc (by simp) (.cells (rawL ⟨64, 1, some ⟨w3.heap.size, 0, none⟩, 1, 1, [3]⟩).toArray 46)
    exact ⟨(AtG.one hB).more (by omega) (by omega), fun y hy => by rw [List.mem_singleton.1 hy]; exact ⟨hA.more (Nat.le_refl _) (by omega), Nat.le_refl _⟩⟩)
  have W4 : Hid (Below w.heap.size w ((w3.alloc (.cells #[.int .u8 3] 5)).alloc (.cells #[.int .i64 64, .int .i64 1, .slice (some ⟨w3.heap.size, 0, none⟩) 1 1] 46))) := hide ((W3.out.alloc W3.out.size _).alloc (by rw [hz4]; have := W3.out.size; omega) _)
  have B34 : Hid (Below w3.heap.size w3 ((w3.alloc (.cells #[.int .u8 3] 5)).alloc (.cells #[.int .i64 64, .int .i64 1, .slice (some ⟨w3.heap.size, 0, none⟩) 1 1] 46))) := hide (((Below.refl _ _).alloc (Nat.le_refl _) _).alloc (by rw [hz4]; omega) _)
  have hz5 : w3.heap.size + 2 ≤ ((w3.alloc (.cells #[.int .u8 3] 5)).alloc (.cells #[.int .i64 64, .int .i64 1, .slice (some ⟨w3.heap.size, 0, none⟩) 1 1] 46)).heap.size := by simp
  generalize (w3.alloc (.cells #[.int .u8 3] 5)).alloc (.cells #[.int .i64 64, .int .i64 1, .slice (some ⟨w3.heap.size, 0, none⟩) 1 1] 46) = w4 at *
  refine (smread2 w4 _ _ _ 1 _ RB.out hz5 (KN3.out.below B34.out) rfl).mono ?_
  rintro e w5 ⟨p2, rfl, hp2, hat2, hb5⟩
  have HOB2 := hat2.ob
  have B35 := hide (below_step B34.out hb5 (by omega))
  have W5 := hide (below_step W4.out hb5 (Nat.le_refl _))
  have NEW := hide (Blk.new w5 30 #[.int .i64 0, .slice none 0 0, .int .i64 0, .int .i64 0, .int .i64 0, .int .u8 0, .int .u8 0, .int .u8 0, .int .u8 0, .int .u8 0, .int .u8 0, .int .u8 0, .int .u8 0, .int .u8 0, .int .u8 0, .int .u8 0, .int .u8 0, .int .u8 0, .int .u8 0, .int .u8 0, .int .u8 0, .slice none 0 0, .slice none 0 0, .slice none 0 0])
  clear hp2 hat2 hb5 RB W4 B34 hz4 hz5
  go_wp2_with (refine wpList_store_att rfl (.tmp 6) (.tmp 28) rfl w5.heap.size rfl p2 rfl HOB2 NEW.out rfl ?_; intro w6 hb6 hg6; have W56 : Hid (Below w5.heap.size w5 w6) := hide (((Below.refl _ _).alloc (Nat.le_refl _) _).grown hg6 (by simp) (by simp)); clear hb6 hg6; refine Hid.out ?_)
  refine hide ?_
  have B36 := hide (below_step B35.out W56.out (Nat.le_refl _))
  have W6 := hide (below_step W5.out W56.out (Nat.le_refl _))
  clear NEW W56 B35 W5
  go_wp2_with fail
  have RC : Hid (RawsAt (w6.alloc (.cells #[.int .i64 64, .int .i64 77, .slice none 0 0] 46)) w6.heap.size (w6.heap.size + 1) (some ⟨w6.heap.size, 0, none⟩) 1 [⟨64, 77, none, 0, 0, []⟩]) := hide (by
    have hB := Blk.new w6 46 (rawL ⟨64, 77, none, 0, 0, []⟩).toArray
    exact ⟨AtG.one hB, fun y hy => by rw [List.mem_singleton.1 hy]; exact ⟨At.nil _ _ _ _, Nat.le_refl _⟩⟩)
  have W7 : Hid (Below w.heap.size w (w6.alloc (.cells #[.int .i64 64, .int .i64 77, .slice none 0 0] 46))) := hide (W6.out.alloc W6.out.size _)
  have B37 : Hid (Below w3.heap.size w3 (w6.alloc (.cells #[.int .i64 64, .int .i64 77, .slice none 0 0] 46))) := hide (B36.out.alloc B36.out.size _)
  have hz7 : w6.heap.size + 1 ≤ (w6.alloc (.cells #[.int .i64 64, .int .i64 77, .slice none 0 0] 46)).heap.size := by simp
  generalize w6.alloc (.cells #[.int .i64 64, .int .i64 77, .slice none 0 0] 46) = w7 at *
  refine (smread3 w7 _ _ _ none 0 1 0 [] RC.out hz7 (KN3.out.below B37.out)).mono ?_
  rintro e w8 ⟨p3, rfl, hp3, hat3, hb8⟩
  have HOB3 := hat3.ob
  have B38 := hide (below_step B37.out hb8 (Nat.le_refl _))
  have W8 := hide (below_step W7.out hb8 (Nat.le_refl _))
  have NEW := hide (Blk.new w8 30 #[.int .i64 0, .slice none 0 0, .int .i64 0, .int .i64 0, .int .i64 0, .int .u8 0, .int .u8 0, .int .u8 0, .int .u8 0, .int .u8 0, .int .u8 0, .int .u8 0, .int .u8 0, .int .u8 0, .int .u8 0, .int .u8 0, .int .u8 0, .int .u8 0, .int .u8 0, .int .u8 0, .int .u8 0, .slice none 0 0, .slice none 0 0, .slice none 0 0])
  clear hp3 hat3 hb8 RC W7 B37 hz7 B36 W6
  go_wp2_with (refine wpList_store_att rfl (.tmp 9) (.tmp 35) rfl w8.heap.size rfl p3 rfl HOB3 NEW.out rfl ?_; intro w9 hb9 hg9; have W89 : Hid (Below w8.heap.size w8 w9) := hide (((Below.refl _ _).alloc (Nat.le_refl _) _).grown hg9 (by simp) (by simp)); clear hb9 hg9; refine Hid.out ?_)
  refine hide ?_
  have B39 := hide (below_step B38.out W89.out (Nat.le_refl _))
  have W9 := hide (below_step W8.out W89.out (Nat.le_refl _))
  have P9 := hide (blk_range (l := attL p1) (P3.out.over B39.out))
  have e0 : p1.o = 0 := congrArg Ats.o HP1.out
  have e2 : p1.med = 9 := congrArg Ats.med HP1.out
  have e3 : p1.pref = -1 := congrArg Ats.pref HP1.out
  have c0 : w9.cell? ⟨q3, 0, none⟩ = some (.int .i64 0) := by rw [← e0]; exact P9.out 0 _ (attL_0 p1)
  have c2 : w9.cell? ⟨q3, 2, none⟩ = some (.int .i64 9) := by rw [← e2]; exact P9.out 2 _ (attL_2 p1)
  have c3 : w9.cell? ⟨q3, 3, none⟩ = some (.int .i64 (-1)) := by rw [← e3]; exact P9.out 3 _ (attL_3 p1)
  have ck : w9.cell? ⟨bb, oo + 3 + 1, none⟩ = some (.int .i64 4) := (B39.out.cell (World.block_lt_of_cell? _ _ CK3.out)).trans CK3.out
  clear NEW W89 B38 W8 P9 e0 e2 e3 HP1 HOB1 HOB2 HOB3 P3 CK3 KN3 W3
  go_wp2_with fail
  go_ret
  exact ⟨rfl, W9.out⟩
end Go.Proofs.YtjhpikbilegfaaaGreatDoor
