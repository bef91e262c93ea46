/-
  AttrSplits, walked: it returns true, whatever comes in.
-/
import Derived.Test.YtjhpikbilegfaaaDoorAtSmall
import Derived.Test.YtjhpikbilegfaaaDoorAtLaw
import Derived.Test.YtjhpikbilegfaaaDoorAtSpoil
import Derived.Test.YtjhpikbilegfaaaDoorRefSplit9
import Derived.Test.YtjhpikbilegfaaaDoorRefJoin9
namespace Go.Proofs.YtjhpikbilegfaaaDoor
open Go.RowKit
set_option linter.unusedVariables false
set_option linter.unusedSimpArgs false

theorem few_opens9 {l : List RawP} (h : fewR l = true) : l.length < 100 ∧ ∀ x ∈ l, x.n ≤ 8192 := by
  unfold fewR at h
  rw [Bool.and_eq_true, decide_eq_true_eq, List.all_eq_true] at h
  exact ⟨h.2, fun x hx => of_decide_eq_true (h.1 x hx)⟩
theorem at_lent9 {w : World} {g n : Nat} {t : TypeId} {bs : List UInt8} {l : List Value} (hb : Blk w g t (bvs bs ++ l).toArray) (hl : bs.length = n) : At w g (g + 1) (some ⟨g, 0, none⟩) n bs :=
  ⟨hl, fun _ => ⟨g, 0, rfl, Nat.le_refl _, by omega, fun j u hu => by
    have hj : j < bs.length := (List.getElem?_eq_some_iff.1 hu).1
    rw [Nat.zero_add, hb.cell j]
    simp [bvs, List.getElem?_append, hj]
    rw [(List.getElem?_eq_some_iff.1 hu).2]⟩⟩
theorem RawsAt.keep9 {w w' : World} {lo hi n : Nat} {A : Option Addr} {xs : List RawP} (h : RawsAt w lo hi A n xs) (hk : ∀ p : Addr, lo ≤ p.block → p.block < hi → w'.cell? p = w.cell? p) : RawsAt w' lo hi A n xs :=
  ⟨h.row.keep hk, fun x hx => ⟨(h.val x hx).1.keep hk, (h.val x hx).2⟩⟩
set_option maxRecDepth 20000 in
set_option maxHeartbeats 4000000 in
theorem asplits_walk (w : World) (hg : Known w) (A0 : Option Addr) (n0 c0 : Nat) (bs : List UInt8) (hA0 : At w 0 w.heap.size A0 n0 bs) (hn0 : n0 ≤ c0) (hc0 : c0 ≤ 140737488351232) (A1 : Option Addr) (n1 c1 : Nat) (xs : List RawP) (hA1 : RawsAt w 0 w.heap.size A1 n1 xs) (hn1 : n1 ≤ c1) (hz1 : c1 * 40 ≤ 140737488351232) :
    Calls Tryd.prog 3 #[.slice A0 n0 c0, .slice A1 n1 c1] w fun e w' => e = .returned (.bool true) ∧ Below w.heap.size w w' := by
  have HG := hide hg
  have HB := hide hA0
  have HX := hide hA1
  have HBL := hide hA0.len
  have hn2 : n1 ≤ 10000000000000 := by omega
  clear hg hA0 hA1
  go_enter Tryd.func3, Tryd.ntmps3
  go_wp2_with fail
  refine (atsmall_any w HG.out).mono ?_
  rintro e w1 ⟨rfl, hb1⟩
  have W1 := hide hb1
  have HX1 := hide (HX.out.below hb1)
  have HB1 := hide (HB.out.below hb1)
  clear hb1 HX HB
  go_wp2_with fail
  refine (fewraws_any w1 0 w.heap.size A1 n1 c1 xs HX1.out hn2).mono ?_
  cases hf : fewR xs
  · rintro e wq ⟨rfl, rfl⟩
    go_wp2_with fail
    go_ret
    exact ⟨rfl, W1.out⟩
  · rintro e wq ⟨rfl, rfl⟩
    obtain ⟨hl, hv⟩ := few_opens9 hf
    have hn99 : n1 ≤ 1000 := by have := HX1.out.len; omega
    have HV := hide hv
    clear hf hv hl
    by_cases hb : 16384 < n0
    · have hbI : (16384 : Int) < (n0 : Int) := by omega
      go_wp2_with fail
      go_ret
      exact ⟨rfl, W1.out⟩
    · have hbI : ¬ (16384 : Int) < (n0 : Int) := by omega
      go_wp2_with fail
      -- c := Lent(b)
      have hzw1 := W1.out.size
      refine (lent_any w1 0 w.heap.size A0 n0 c0 bs HB1.out W1.out.size (by omega)).mono ?_
      rintro e w2 ⟨rfl, hblk, hb2⟩
      obtain ⟨g, hgg⟩ : ∃ g, w1.heap.size = g := ⟨_, rfl⟩
      rw [hgg] at hblk ⊢
      have C2 := hide hblk
      have W2 := hide (below_step W1.out hb2 (Nat.le_refl _))
      have HX2 := hide (HX1.out.below (hb2.mono hzw1))
      have HB2 := hide (HB1.out.below (hb2.mono hzw1))
      have hg2 := hblk.lt
      have hzg : w.heap.size ≤ g := by omega
      clear hb2 hblk HX1 HB1 hgg hzw1 W1
      go_wp2_with fail
      -- d := lent(l)
      refine (lents_any w2 0 w.heap.size A1 n1 c1 xs HX2.out W2.out.size hn99 HV.out).mono ?_
      obtain ⟨L, hL⟩ : ∃ L, xs.map RawP.raw = L := ⟨_, rfl⟩
      rw [hL]
      have HL := hide hL
      clear hL
      rintro e w3 ⟨vd, ds, rfl, hod, hrd, hb3⟩
      obtain ⟨Ad, cd, rfl, _, _⟩ := hod.shape
      have hdl : ds.length = n1 := by have h1 := congrArg List.length (hrd.trans HL.out.symm); simp only [List.length_map] at h1; rw [h1]; exact HX2.out.len
      rw [hdl] at hod ⊢
      have HND := hide hdl
      have D3 := hide hod
      have DL := hide hod.lt
      have DA3 := hide (hod.at_ hdl)
      have RD := hide hrd
      have W3 := hide (below_step W2.out hb3 (Nat.le_refl _))
      have HX3 := hide (HX2.out.below (hb3.mono W2.out.size))
      have HB3 := hide (HB2.out.below (hb3.mono W2.out.size))
      have C3 := hide (C2.out.over hb3)
      have hz23 := hb3.size
      clear hod hrd hb3 hdl HX2 HB2 C2
      go_wp2_with fail
      -- o, e1 := attr.Split(c)
      refine (split_any w3 g (g + 1) (some ⟨g, 0, none⟩) n0 (n0 + 1) bs (at_lent9 C3.out HBL.out) (by omega) (by omega)).mono ?_
      rintro e w4 ⟨vo, ys, rfl, hoy, hry, hb4⟩
      obtain ⟨Ay, cy, rfl, _, _⟩ := hoy.shape
      have hyl : ys.length ≤ 64 := by
        have h2 := congrArg List.length hry
        rw [List.length_map] at h2
        rw [h2]
        by_cases hs : (splitA bs).2 = 0
        · exact (splitF_good 64 bs hs).1
        · rw [show (splitA bs).1 = [] from splitF_err 64 bs hs]; exact Nat.zero_le _
      have Y4 := hide (hoy.at_ (n := ys.length) rfl)
      have RY := hide hry
      obtain ⟨E1, hE1⟩ : ∃ E1, (splitA bs).2 = E1 := ⟨_, rfl⟩
      rw [hE1]
      have HE1 := hide hE1
      have W4 := hide (below_step W3.out hb4 (Nat.le_refl _))
      have HX4 := hide (HX3.out.below (hb4.mono W3.out.size))
      have HB4 := hide (HB3.out.below (hb4.mono W3.out.size))
      have C4 := hide (C3.out.over hb4)
      have D4 := hide (D3.out.over hb4)
      have DA4 := hide (DA3.out.below hb4)
      have hz34 := hb4.size
      obtain ⟨ny, hny⟩ : ∃ ny, ys.length = ny := ⟨_, rfl⟩
      rw [hny] at Y4 hyl ⊢
      clear hoy hry hb4 hE1 hny HX3 HB3 C3 D3 DA3 W2 W3
      go_wp2_with fail
      -- p, e2 := attr.Join(d)
      refine (join_any w4 _ _ Ad n1 cd ds DA4.out hz34).mono ?_
      rw [RD.out]
      rintro e w5 ⟨vp, rfl, hop, hb5⟩
      obtain ⟨Ap, cp, rfl, _, _⟩ := own_shape hop
      have P5 := hide (At.own hop)
      obtain ⟨E2, hE2⟩ : ∃ E2, joinE L = E2 := ⟨_, rfl⟩
      rw [hE2]
      have HE2 := hide hE2
      have W5 := hide (below_step W4.out hb5 (Nat.le_refl _))
      have HX5 := hide (HX4.out.below (hb5.mono W4.out.size))
      have HB5 := hide (HB4.out.below (hb5.mono W4.out.size))
      have C5 := hide (C4.out.over hb5)
      have D5 := hide (D4.out.over hb5)
      have DA5 := hide (DA4.out.below (hb5.mono hz34))
      have Y5 := hide (Y4.out.below hb5)
      have hz45 := hb5.size
      obtain ⟨PB, hPB⟩ : ∃ PB, joinB L = PB := ⟨_, rfl⟩
      rw [hPB] at P5 ⊢
      have HPB := hide hPB
      obtain ⟨np, hnp⟩ : ∃ np, PB.length = np := ⟨_, rfl⟩
      rw [hnp] at P5 ⊢
      clear hop hb5 hE2 hPB hnp HX4 HB4 C4 D4 DA4 Y4 W4
      go_wp2_with fail
      -- kept
      refine (kept_any w5 g 0 w.heap.size A0 n0 c0 bs C5.out HB5.out (by omega)).mono ?_
      rintro e wq ⟨rfl, rfl⟩
      go_wp2_with fail
      refine (sameraws_eq w5 _ _ _ _ Ad A1 n1 n1 cd c1 ds xs DA5.out HX5.out (RD.out.trans HL.out.symm) (Nat.le_trans hz34 hz45) W5.out.size (by omega)).mono ?_
      rintro e w6 ⟨rfl, hb6⟩
      have W6 := hide (below_step W5.out hb6 (Nat.le_refl _))
      have HX6 := hide (HX5.out.below (hb6.mono W5.out.size))
      have HB6 := hide (HB5.out.below (hb6.mono W5.out.size))
      have C6 := hide (C5.out.over hb6)
      have D6 := hide (D5.out.over hb6)
      have Y6 := hide (Y5.out.below (hb6.mono hz45))
      have P6 := hide (P5.out.below hb6)
      have hz56 := hb6.size
      clear hb6 HX5 HB5 C5 D5 DA5 Y5 P5 W5
      go_wp2_with fail
      -- Owned
      have hCO : OwnRow (w6.alloc (.cells #[.slice (some ⟨g, 0, none⟩) n0 (n0 + 1)] 22)) w.heap.size (.slice (some ⟨g, 0, none⟩) n0 (n0 + 1)) :=
        OwnRow.alloc (.inr ⟨g, n0, n0 + 1, _, rfl, hzg, C6.out, by simp [bvs, HBL.out], by omega, by unfold maxLen; omega⟩) _
      refine (owned_all (w6.alloc (.cells #[.slice (some ⟨g, 0, none⟩) n0 (n0 + 1)] 22)) w.heap.size w6.heap.size 1 1 (fun _ => .slice (some ⟨g, 0, none⟩) n0 (n0 + 1)) #[.slice (some ⟨g, 0, none⟩) n0 (n0 + 1)] (by decide) (by decide) (by decide) (fun q hq => by obtain rfl : q = 0 := (by omega); rfl) (Blk.new w6 _ _) (by simp; have := W6.out.size; omega) (fun q hq => hCO) (fun p q hp hq hpq => absurd (by omega) hpq)).mono ?_
      rintro e w7 ⟨rfl, hb7, hrest7⟩
      have hg7 : (w6.alloc (.cells #[.slice (some ⟨g, 0, none⟩) n0 (n0 + 1)] 22)).grownBy w7 (some g) := ⟨hb7.os, hb7.tape, hb7.output, hb7.size, fun b hb hne => hrest7 b hb (fun q hq e => hne e.symm)⟩
      have hg67 : w6.grownBy w7 (some g) := grown_trans (grown_alloc (grown_refl w6 _) _) hg7
      have W7 := hide (W6.out.grown hg67 W6.out.size (fun k e => by injection e with e; omega))
      have HX7 := hide (HX6.out.grown hg67 W6.out.size (fun k e => by injection e with e; exact .inr (by omega)))
      have HB7 := hide (HB6.out.grown hg67 W6.out.size (fun k e => by injection e with e; exact .inr (by omega)))
      have D7 := hide (D6.out.grown hg67 (fun b hb e => by injection e with e; have := (DL.out b hb).1; omega))
      have Y7 := hide (Y6.out.grown hg67 (by omega) (fun k e => by injection e with e; exact .inl (by omega)))
      have P7 := hide (P6.out.grown hg67 (by omega) (fun k e => by injection e with e; exact .inl (by omega)))
      have hz67 := hg67.size
      clear hb7 hrest7 hg7 hg67 hCO HX6 HB6 C6 D6 Y6 P6 W6
      go_wp2_with fail
      -- spoil
      refine (rawspoil_any w7 w2.heap.size n1 Ad cd ds D7.out HND.out (by omega) (by omega)).mono ?_
      rintro e w8 ⟨rfl, hb8, hrest8⟩
      have hcell8 : ∀ p : Addr, w3.heap.size ≤ p.block → p.block < w7.heap.size → w8.cell? p = w7.cell? p := fun p h1 h2 => World.cell?_of_block (hrest8 p.block h2 (fun e => by have := (DL.out _ e).2; omega))
      have W8 := hide (W7.out.trans (hb8.mono (by omega)))
      have HX8 := hide (HX7.out.below (hb8.mono (by omega)))
      have HB8 := hide (HB7.out.below (hb8.mono (by omega)))
      have Y8 := hide (Y7.out.keep9 (w' := w8) (fun p h1 h2 => hcell8 p h1 (by omega)))
      have P8 := hide (P7.out.keep (w' := w8) (fun p h1 h2 => hcell8 p (by omega) (by omega)))
      have hz78 := hb8.size
      clear hb8 hrest8 hcell8 HX7 HB7 D7 Y7 P7 W7
      go_wp2_with fail
      -- the document's Split
      refine (refsplit_any w8 0 w.heap.size A0 n0 c0 bs HB8.out W8.out.size (by omega)).mono ?_
      rintro e w9 ⟨vz, zs, rfl, hoz, hrz, hb9⟩
      rw [HE1.out]
      obtain ⟨Az, cz, rfl, _, _⟩ := hoz.shape
      have Z9 := hide (hoz.at_ (n := zs.length) rfl)
      have EQ := hide (RY.out.trans hrz.symm)
      have W9 := hide (below_step W8.out hb9 (Nat.le_refl _))
      have HX9 := hide (HX8.out.below (hb9.mono W8.out.size))
      have Y9 := hide (Y8.out.below (hb9.mono (by omega)))
      have P9 := hide (P8.out.below (hb9.mono (by omega)))
      have hz89 := hb9.size
      obtain ⟨nz, hnz⟩ : ∃ nz, zs.length = nz := ⟨_, rfl⟩
      rw [hnz] at Z9 ⊢
      clear hoz hrz hb9 hnz HX8 HB8 Y8 P8 W8
      go_wp2_with fail
      -- the document's Join
      refine (refjoin_any w9 0 w.heap.size A1 n1 c1 xs HX9.out W9.out.size).mono ?_
      rw [HL.out]
      rintro e w10 ⟨vq, rfl, hoq, hb10⟩
      rw [HE2.out]
      obtain ⟨Aq, cq, rfl, _, _⟩ := own_shape hoq
      have Q10 := hide (At.own hoq)
      rw [HPB.out] at Q10 ⊢
      have W10 := hide (below_step W9.out hb10 (Nat.le_refl _))
      have Y10 := hide (Y9.out.below (hb10.mono (by omega)))
      have P10 := hide (P9.out.below (hb10.mono (by omega)))
      have Z10 := hide (Z9.out.below hb10)
      have hz910 := hb10.size
      obtain ⟨nq, hnq⟩ : ∃ nq, PB.length = nq := ⟨_, rfl⟩
      rw [hnq] at Q10 ⊢
      clear hoq hb10 hnq HX9 Y9 P9 Z9 W9
      go_wp2_with fail
      refine (sameraws_eq w10 _ _ _ _ Ay Az ny nz cy cz ys zs Y10.out Z10.out EQ.out (by omega) hz910 (by omega)).mono ?_
      rintro e w11 ⟨rfl, hb11⟩
      have W11 := hide (below_step W10.out hb11 (Nat.le_refl _))
      have P11 := hide (P10.out.below (hb11.mono (by omega)))
      have Q11 := hide (Q10.out.below hb11)
      clear hb11 Y10 Z10 P10 Q10 W10
      have tX := P11.out.text (P := Tryd.prog) 22 5 Tryd.underlying22 Tryd.underlying5 cp 9 Tryd.underlying9
      have tY := Q11.out.text (P := Tryd.prog) 22 5 Tryd.underlying22 Tryd.underlying5 cq 9 Tryd.underlying9
      go_wp2_with fail
      go_ret
      exact ⟨rfl, W11.out⟩
end Go.Proofs.YtjhpikbilegfaaaDoor
