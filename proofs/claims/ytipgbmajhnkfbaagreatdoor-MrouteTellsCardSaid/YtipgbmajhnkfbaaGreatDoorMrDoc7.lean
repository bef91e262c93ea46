/-
  What the document's Bytes of layer 7 does, in whatever memory. No condition beyond sizes that fit memory.
-/
import Derived.Test.YtipgbmajhnkfbaaGreatDoorMrDoc6
set_option maxRecDepth 20000
set_option maxHeartbeats 4000000
namespace Go.Proofs.YtipgbmajhnkfbaaGreatDoor
open Go.RowKit
set_option linter.unusedVariables false
set_option linter.unusedSimpArgs false
def DbPost (w : World) (m : Mr) (e : Ending) (w' : World) : Prop :=
  ∃ v, e = .returned (.tuple #[v, .int .i64 (errB m)]) ∧ w'.ownsRow w.heap.size 5 1 v (outB m).length (bvs (outB m)) ∧ Below w.heap.size w w'
structure DbS (w x : World) (m : Mr) (v : Value) (L : List UInt8) : Prop where
  b : Blk x w.heap.size 28 (mroC m)
  bel : Below w.heap.size w x
  o : OwnX x (w.heap.size + 1) 5 v L.length (bvs L)
theorem DbS.over {w x y : World} {m : Mr} {v : Value} {L : List UInt8} (h : DbS w x m v L) (hb : Below x.heap.size x y) : DbS w y m v L := ⟨h.b.over hb, below_step h.bel hb (Nat.le_refl _), h.o.over hb⟩
theorem DbS.next {w x y : World} {m : Mr} {v v' : Value} {L M : List UInt8} {k : Nat} (h : DbS w x m v L) (hg : x.grownBy y v.ownBlock) (ho : OwnX y (w.heap.size + 1) 5 v' (L.length + k) (bvs (L ++ M))) (hk : k = M.length) : DbS w y m v' (L ++ M) := by
  have hlt := h.o.lt
  refine ⟨h.b.grown hg (fun e => ?_), h.bel.grown hg h.bel.size (fun g hg => ?_), ?_⟩
  · have := (hlt _ e.symm).1; omega
  · have := (hlt g hg).1; omega
  · rw [List.length_append, ← hk]; exact ho
theorem At.range {w : World} {g o n : Nat} {bs : List UInt8} (h : w.rangeAt g o (bvs bs)) (hl : bs.length = n) (hg : g < w.heap.size) : At w g (g + 1) (some ⟨g, o, none⟩) n bs :=
  ⟨hl, fun _ => ⟨g, o, rfl, Nat.le_refl _, Nat.lt_succ_self _, fun j u hu => h j (bv u) (by unfold bvs; rw [List.getElem?_map, hu]; rfl)⟩⟩
theorem with_len (s : Int) {bs : List UInt8} (hl : bs.length = 16) : (withA s bs).length ≤ 17 := by
  have := bytesA_16 s hl
  unfold withA
  rw [List.length_cons]
  omega
set_option maxHeartbeats 2000000 in
theorem dbytes_no (w : World) (m : Mr) (hm : m.W) (hkey : m.key.length ≤ 10000000000000) (hr : rightM m = false) :
    Calls Tryz.prog 17 #[.agg (mroC m)] w (DbPost w m) := by
  have h1 : outB m = [] := by unfold outB; rw [hr]; rfl
  have h2 : errB m = 1 := by unfold errB; rw [hr]; rfl
  have H1 := hide h1
  have H2 := hide h2
  have W0 := hide ((Below.refl w.heap.size w).alloc (Nat.le_refl _) (.cells (mroC m) 28))
  have HB := hide (Blk.new w 28 (mroC m))
  have HM := hide hm
  have HR := hide hr
  clear hm hr h1 h2
  go_enter Tryz.func17, Tryz.ntmps17
  go_wp2_with (with_reducible refine wpList_load_mro rfl (.tmp 1) rfl w.heap.size rfl HB.out HM.out ?_)
  refine (refright7_any _ m HM.out hkey).mono ?_
  rw [HR.out]
  rintro e w1 ⟨rfl, hb1⟩
  have W1 := hide (below_step W0.out hb1 (Nat.le_refl _))
  clear hb1
  go_wp2
  go_ret2
  refine ⟨.slice none 0 0, ?_, ?_, W1.out⟩
  · rw [H2.out]; rfl
  · rw [H1.out]; exact World.ownsRow_nil _ _ _ _
theorem dbytes_1 (w : World) (m : Mr) (hm : m.W) (hk : m.k = 1) (hr : rightM m = true) :
    Calls Tryz.prog 17 #[.agg (mroC m)] w (DbPost w m) := by
  obtain ⟨i0, hi0, hz0, hz1, hz2⟩ := info_parts u8_info
  have hR := (rightM_iff m).1 hr
  have KY := right_key hR
  have hbl := bytes_len hm hR
  have hbody : bodyM m = ((m.key ++ m.rd) ++ bytesA m.fs m.fb) := by
    unfold bodyM
    rw [hk]
    simp [nRd, nAs, nAd, nFr]
  have HB : Hid (outB m = 1 :: UInt8.ofNat (((m.key ++ m.rd) ++ bytesA m.fs m.fb)).length :: ((m.key ++ m.rd) ++ bytesA m.fs m.fb) ∧ errB m = 0) := hide (by
    unfold outB errB
    rw [if_pos hr, if_pos hr]
    unfold bytesM
    rw [hbody, hk]
    exact ⟨rfl, rfl⟩)
  have LS := hide hm.sb
  have LG := hide hm.gb
  have LF := hide hm.fb
  have LR := hide hm.rd
  have HM := hide hm
  have HR := hide hr
  have C0 : Hid ((mroC m)[0]? = some (.int .i64 1)) := hide (by rw [mroC_0, hk])
  have C61 := hide (mroC_61 hm)
  have B0 := hide (Blk.new w 28 (mroC m))
  have W0 := hide ((Below.refl w.heap.size w).alloc (Nat.le_refl _) (.cells (mroC m) 28))
  clear hm hk hr hR hbl hbody
  go_enter Tryz.func17, Tryz.ntmps17
  go_wp2_with (with_reducible refine wpList_load_mro rfl (.tmp 1) rfl w.heap.size rfl B0.out HM.out ?_)
  refine (refright7_any _ m HM.out (by omega)).mono ?_
  rw [HR.out]
  rintro e w1 ⟨rfl, hb1⟩
  have B1 := hide (B0.out.over hb1)
  have W1 := hide (below_step W0.out hb1 (Nat.le_refl _))
  have k0 := (B1.out.cell 0).trans C0.out
  clear hb1 B0 W0
  go_wp2_with fail
  refine (refwhat_1 w1).mono ?_
  rintro e w2 ⟨rfl, hb2⟩
  have B2 := hide (B1.out.over hb2)
  have W2 := hide (below_step W1.out hb2 (Nat.le_refl _))
  have k61 := (B2.out.cell 61).trans C61.out
  clear hb2 B1 W1 k0
  go_wp2_with ((with_reducible refine wpList_text_X rfl (.tmp 23) 9 38 5 rfl Tryz.underlying9 Tryz.underlying38 Tryz.underlying5 m.key rfl (by omega) ?_); intro cq w3 ho3 hb3; have S3 : Hid (DbS w w3 m (.slice (some ⟨w2.heap.size, 0, none⟩) m.key.length cq) m.key) := hide ⟨B2.out.over hb3, below_step W2.out hb3 (Nat.le_refl _), (by have := B2.out.lt; obtain ⟨q0, g, cap, cur, fz, qv, qb, qr⟩ := ho3; exact ⟨q0, g, cap, cur, fz, qv, by omega, qr⟩)⟩; clear ho3 hb3; refine Hid.out ?_)
  refine hide ?_
  generalize (some ⟨w2.heap.size, 0, none⟩ : Option Addr) = A3 at *
  clear B2 W2 k61
  have KL3 : Hid (m.key.length ≤ 64) := hide KY
  go_wp2_with (at_builtin; go_must (refine wpList_append_X _ rfl (.tmp 26) (.tmp 28) 38 rfl (w.heap.size + 1) 5 i0 Tryz.underlying38 hi0 hz0 hz1 hz2 (.slice A3 m.key.length cq) m.key.length m.key rfl S3.out.o _ _ _ _ 8 (m.rd) rfl (At.range (mro_rd HM.out S3.out.b) LR.out S3.out.b.lt) (by have := KL3.out; have := LR.out; omega) (by have := S3.out.b.lt; omega) ?_); intro vn wn hon hgn _hat; have S4 := hide (S3.out.next hgn hon (LR.out.symm)); clear hon hgn _hat; refine Hid.out ?_)
  refine hide ?_
  obtain ⟨L4, hL⟩ : ∃ L4, m.key ++ m.rd = L4 := ⟨_, rfl⟩
  have KL4 : Hid (L4.length ≤ 84) := hide (by have h1 := KL3.out; have h2 := LR.out; have h3 := congrArg List.length hL; rw [List.length_append] at h3; omega)
  rw [hL] at S4
  have HL4 := hide hL
  obtain ⟨A4, c4, rfl, _, _⟩ := S4.out.o.shape
  clear S3 hL
  go_wp2_with (with_reducible refine wpList_load_addr_at rfl (.tmp 49) rfl w.heap.size 44 rfl (mro_f HM.out S4.out.b) LF.out ?_)
  refine (refabytes_any _ m.fs m.fb LF.out).mono ?_
  rintro e wb ⟨vb, rfl, hob, hbb⟩
  obtain ⟨Ab, cb, rfl, _, _⟩ := own_shape hob
  have ATb := hide (At.own hob)
  have T4 := hide (S4.out.over hbb)
  clear hob hbb S4
  go_wp2_with (at_builtin; go_must (refine wpList_append_X _ rfl (.tmp 48) (.tmp 51) 38 rfl (w.heap.size + 1) 5 i0 Tryz.underlying38 hi0 hz0 hz1 hz2 (.slice A4 L4.length c4) L4.length L4 rfl T4.out.o _ _ Ab _ cb (bytesA m.fs m.fb) rfl ATb.out (by have := KL4.out; have := bytesA_16 m.fs LF.out; omega) (by have := T4.out.b.lt; omega) ?_); intro vn wn hon hgn _hat; have S5 := hide (T4.out.next hgn hon (rfl)); clear hon hgn _hat; refine Hid.out ?_)
  refine hide ?_
  obtain ⟨L5, hL⟩ : ∃ L5, L4 ++ bytesA m.fs m.fb = L5 := ⟨_, rfl⟩
  have KL5 : Hid (L5.length ≤ 104) := hide (by have h1 := KL4.out; have h2 := bytesA_16 m.fs LF.out; have h3 := congrArg List.length hL; rw [List.length_append] at h3; omega)
  rw [hL] at S5
  have HL5 := hide hL
  obtain ⟨A5, c5, rfl, _, _⟩ := S5.out.o.shape
  clear T4 hL
  have k0 := (S5.out.b.cell 0).trans C0.out
  have ATF := hide S5.out.o.at_
  have BEL := hide S5.out.bel
  have hlt := S5.out.b.lt
  rw [HL4.out, HL5.out] at HB
  clear S5
  generalize L5 = L at *
  obtain ⟨N, hN⟩ : ∃ N, L.length = N := ⟨_, rfl⟩
  have KN : N ≤ 1000 := by have := KL5.out; omega
  rw [hN] at ATF ⊢
  have HN := hide hN
  clear hN
  have HW8 : Hid (((N : Nat) : Int) % 256 = ((UInt8.ofNat N).toNat : Int)) := hide (by simp)
  go_wp2_with (at_builtin; go_must (refine wpList_append_bytes _ rfl (.tmp 59) (.tmp 60) 38 rfl w.heap.size 5 i0 Tryz.underlying38 hi0 hz0 hz1 hz2 _ 2 [1, UInt8.ofNat N] rfl (by rw [HW8.out]; exact own_of_blk (Blk.new _ _ _) (by have := BEL.out.size; omega) (Nat.le_refl _) (by decide) rfl rfl) _ _ A5 _ _ L rfl (ATF.out.alloc (Nat.le_refl _) _) (by omega) (by simp; have := BEL.out.size; omega) ?_); intro vF wF hon hgn _hat; have HO := hide hon; have HG := hide hgn; clear hon hgn _hat; refine Hid.out ?_)
  refine hide ?_
  go_wp2
  go_ret2
  refine ⟨vF, ?_, ?_, ?_⟩
  · rw [HB.out.2]; rfl
  · rw [HB.out.1, HN.out]
    have h := HO.out
    rw [show (1 :: UInt8.ofNat N :: L : List UInt8).length = 2 + N by simp [HN.out]; omega]
    exact h
  · exact (BEL.out.alloc BEL.out.size _).grown HG.out (by simp; have := BEL.out.size; omega) (fun g hg => by have h2 : some wn.heap.size = some g := hg; injection h2 with h2; have := BEL.out.size; omega)
theorem dbytes_2 (w : World) (m : Mr) (hm : m.W) (hk : m.k = 2) (hr : rightM m = true) :
    Calls Tryz.prog 17 #[.agg (mroC m)] w (DbPost w m) := by
  obtain ⟨i0, hi0, hz0, hz1, hz2⟩ := info_parts u8_info
  have hR := (rightM_iff m).1 hr
  have KY := right_key hR
  have hbl := bytes_len hm hR
  have hbody : bodyM m = ((m.key ++ m.rd) ++ be 4 m.a.toNat) := by
    unfold bodyM
    rw [hk]
    simp [nRd, nAs, nAd, nFr]
  have HB : Hid (outB m = 2 :: UInt8.ofNat (((m.key ++ m.rd) ++ be 4 m.a.toNat)).length :: ((m.key ++ m.rd) ++ be 4 m.a.toNat) ∧ errB m = 0) := hide (by
    unfold outB errB
    rw [if_pos hr, if_pos hr]
    unfold bytesM
    rw [hbody, hk]
    exact ⟨rfl, rfl⟩)
  have LS := hide hm.sb
  have LG := hide hm.gb
  have LF := hide hm.fb
  have LR := hide hm.rd
  obtain ⟨aN, haN⟩ : ∃ aN : Nat, m.a = (aN : Int) := ⟨m.a.toNat, by have := hR.core.a0; omega⟩
  have hal : aN < 4294967296 := by have := hR.core.a32; omega
  have HAN : Hid (m.a.toNat = aN) := hide (by omega)
  have HM := hide hm
  have HR := hide hr
  have C0 : Hid ((mroC m)[0]? = some (.int .i64 2)) := hide (by rw [mroC_0, hk])
  have C61 := hide (mroC_61 hm)
  have C9 : Hid ((mroC m)[9]? = some (.int .i64 (aN : Int))) := hide (by rw [mroC_9 hm, haN])
  have B0 := hide (Blk.new w 28 (mroC m))
  have W0 := hide ((Below.refl w.heap.size w).alloc (Nat.le_refl _) (.cells (mroC m) 28))
  clear hm hk hr hR hbl hbody haN
  go_enter Tryz.func17, Tryz.ntmps17
  go_wp2_with (with_reducible refine wpList_load_mro rfl (.tmp 1) rfl w.heap.size rfl B0.out HM.out ?_)
  refine (refright7_any _ m HM.out (by omega)).mono ?_
  rw [HR.out]
  rintro e w1 ⟨rfl, hb1⟩
  have B1 := hide (B0.out.over hb1)
  have W1 := hide (below_step W0.out hb1 (Nat.le_refl _))
  have k0 := (B1.out.cell 0).trans C0.out
  clear hb1 B0 W0
  go_wp2_with fail
  refine (refwhat_2 w1).mono ?_
  rintro e w2 ⟨rfl, hb2⟩
  have B2 := hide (B1.out.over hb2)
  have W2 := hide (below_step W1.out hb2 (Nat.le_refl _))
  have k61 := (B2.out.cell 61).trans C61.out
  clear hb2 B1 W1 k0
  go_wp2_with ((with_reducible refine wpList_text_X rfl (.tmp 23) 9 38 5 rfl Tryz.underlying9 Tryz.underlying38 Tryz.underlying5 m.key rfl (by omega) ?_); intro cq w3 ho3 hb3; have S3 : Hid (DbS w w3 m (.slice (some ⟨w2.heap.size, 0, none⟩) m.key.length cq) m.key) := hide ⟨B2.out.over hb3, below_step W2.out hb3 (Nat.le_refl _), (by have := B2.out.lt; obtain ⟨q0, g, cap, cur, fz, qv, qb, qr⟩ := ho3; exact ⟨q0, g, cap, cur, fz, qv, by omega, qr⟩)⟩; clear ho3 hb3; refine Hid.out ?_)
  refine hide ?_
  generalize (some ⟨w2.heap.size, 0, none⟩ : Option Addr) = A3 at *
  clear B2 W2 k61
  have KL3 : Hid (m.key.length ≤ 64) := hide KY
  go_wp2_with (at_builtin; go_must (refine wpList_append_X _ rfl (.tmp 26) (.tmp 28) 38 rfl (w.heap.size + 1) 5 i0 Tryz.underlying38 hi0 hz0 hz1 hz2 (.slice A3 m.key.length cq) m.key.length m.key rfl S3.out.o _ _ _ _ 8 (m.rd) rfl (At.range (mro_rd HM.out S3.out.b) LR.out S3.out.b.lt) (by have := KL3.out; have := LR.out; omega) (by have := S3.out.b.lt; omega) ?_); intro vn wn hon hgn _hat; have S4 := hide (S3.out.next hgn hon (LR.out.symm)); clear hon hgn _hat; refine Hid.out ?_)
  refine hide ?_
  obtain ⟨L4, hL⟩ : ∃ L4, m.key ++ m.rd = L4 := ⟨_, rfl⟩
  have KL4 : Hid (L4.length ≤ 84) := hide (by have h1 := KL3.out; have h2 := LR.out; have h3 := congrArg List.length hL; rw [List.length_append] at h3; omega)
  rw [hL] at S4
  have HL4 := hide hL
  obtain ⟨A4, c4, rfl, _, _⟩ := S4.out.o.shape
  clear S3 hL
  have k9 := (S4.out.b.cell 9).trans C9.out
  go_wp2_with fail
  refine (refbytes_any _ aN 4 (by decide) (by decide) hal).mono ?_
  rintro e wb ⟨vb, rfl, hob, hbb⟩
  obtain ⟨Ab, cb, rfl, _, _⟩ := own_shape hob
  have ATb := hide (At.own hob)
  have T4 := hide (S4.out.over hbb)
  clear hob hbb S4 k9
  rw [← HAN.out] at ATb
  go_wp2_with (at_builtin; go_must (refine wpList_append_X _ rfl (.tmp 31) (.tmp 34) 38 rfl (w.heap.size + 1) 5 i0 Tryz.underlying38 hi0 hz0 hz1 hz2 (.slice A4 L4.length c4) L4.length L4 rfl T4.out.o _ _ Ab _ cb (be 4 m.a.toNat) rfl ATb.out (by have := KL4.out; have := be_len 4 m.a.toNat; omega) (by have := T4.out.b.lt; omega) ?_); intro vn wn hon hgn _hat; have S5 := hide (T4.out.next hgn hon ((be_len 4 _).symm)); clear hon hgn _hat; refine Hid.out ?_)
  refine hide ?_
  obtain ⟨L5, hL⟩ : ∃ L5, L4 ++ be 4 m.a.toNat = L5 := ⟨_, rfl⟩
  have KL5 : Hid (L5.length ≤ 104) := hide (by have h1 := KL4.out; have h2 := be_len 4 m.a.toNat; have h3 := congrArg List.length hL; rw [List.length_append] at h3; omega)
  rw [hL] at S5
  have HL5 := hide hL
  obtain ⟨A5, c5, rfl, _, _⟩ := S5.out.o.shape
  clear T4 hL
  have k0 := (S5.out.b.cell 0).trans C0.out
  have ATF := hide S5.out.o.at_
  have BEL := hide S5.out.bel
  have hlt := S5.out.b.lt
  rw [HL4.out, HL5.out] at HB
  clear S5
  generalize L5 = L at *
  obtain ⟨N, hN⟩ : ∃ N, L.length = N := ⟨_, rfl⟩
  have KN : N ≤ 1000 := by have := KL5.out; omega
  rw [hN] at ATF ⊢
  have HN := hide hN
  clear hN
  have HW8 : Hid (((N : Nat) : Int) % 256 = ((UInt8.ofNat N).toNat : Int)) := hide (by simp)
  go_wp2_with (at_builtin; go_must (refine wpList_append_bytes _ rfl (.tmp 59) (.tmp 60) 38 rfl w.heap.size 5 i0 Tryz.underlying38 hi0 hz0 hz1 hz2 _ 2 [2, UInt8.ofNat N] rfl (by rw [HW8.out]; exact own_of_blk (Blk.new _ _ _) (by have := BEL.out.size; omega) (Nat.le_refl _) (by decide) rfl rfl) _ _ A5 _ _ L rfl (ATF.out.alloc (Nat.le_refl _) _) (by omega) (by simp; have := BEL.out.size; omega) ?_); intro vF wF hon hgn _hat; have HO := hide hon; have HG := hide hgn; clear hon hgn _hat; refine Hid.out ?_)
  refine hide ?_
  go_wp2
  go_ret2
  refine ⟨vF, ?_, ?_, ?_⟩
  · rw [HB.out.2]; rfl
  · rw [HB.out.1, HN.out]
    have h := HO.out
    rw [show (2 :: UInt8.ofNat N :: L : List UInt8).length = 2 + N by simp [HN.out]; omega]
    exact h
  · exact (BEL.out.alloc BEL.out.size _).grown HG.out (by simp; have := BEL.out.size; omega) (fun g hg => by have h2 : some wn.heap.size = some g := hg; injection h2 with h2; have := BEL.out.size; omega)
theorem dbytes_3 (w : World) (m : Mr) (hm : m.W) (hk : m.k = 3) (hr : rightM m = true) :
    Calls Tryz.prog 17 #[.agg (mroC m)] w (DbPost w m) := by
  obtain ⟨i0, hi0, hz0, hz1, hz2⟩ := info_parts u8_info
  have hR := (rightM_iff m).1 hr
  have KY := right_key hR
  have hbl := bytes_len hm hR
  have hbody : bodyM m = ((((m.key ++ m.rd) ++ withA m.ss m.sb) ++ withA m.gs m.gb) ++ bytesA m.fs m.fb) := by
    unfold bodyM
    rw [hk]
    simp [nRd, nAs, nAd, nFr]
  have HB : Hid (outB m = 3 :: UInt8.ofNat (((((m.key ++ m.rd) ++ withA m.ss m.sb) ++ withA m.gs m.gb) ++ bytesA m.fs m.fb)).length :: ((((m.key ++ m.rd) ++ withA m.ss m.sb) ++ withA m.gs m.gb) ++ bytesA m.fs m.fb) ∧ errB m = 0) := hide (by
    unfold outB errB
    rw [if_pos hr, if_pos hr]
    unfold bytesM
    rw [hbody, hk]
    exact ⟨rfl, rfl⟩)
  have LS := hide hm.sb
  have LG := hide hm.gb
  have LF := hide hm.fb
  have LR := hide hm.rd
  obtain ⟨rs, rg⟩ := flow_right (hR.core.fl (by rw [hk]; rfl))
  have RS := hide rs
  have RG := hide rg
  have HM := hide hm
  have HR := hide hr
  have C0 : Hid ((mroC m)[0]? = some (.int .i64 3)) := hide (by rw [mroC_0, hk])
  have C61 := hide (mroC_61 hm)
  have B0 := hide (Blk.new w 28 (mroC m))
  have W0 := hide ((Below.refl w.heap.size w).alloc (Nat.le_refl _) (.cells (mroC m) 28))
  clear hm hk hr hR hbl hbody rs rg
  go_enter Tryz.func17, Tryz.ntmps17
  go_wp2_with (with_reducible refine wpList_load_mro rfl (.tmp 1) rfl w.heap.size rfl B0.out HM.out ?_)
  refine (refright7_any _ m HM.out (by omega)).mono ?_
  rw [HR.out]
  rintro e w1 ⟨rfl, hb1⟩
  have B1 := hide (B0.out.over hb1)
  have W1 := hide (below_step W0.out hb1 (Nat.le_refl _))
  have k0 := (B1.out.cell 0).trans C0.out
  clear hb1 B0 W0
  go_wp2_with fail
  refine (refwhat_3 w1).mono ?_
  rintro e w2 ⟨rfl, hb2⟩
  have B2 := hide (B1.out.over hb2)
  have W2 := hide (below_step W1.out hb2 (Nat.le_refl _))
  have k61 := (B2.out.cell 61).trans C61.out
  clear hb2 B1 W1 k0
  go_wp2_with ((with_reducible refine wpList_text_X rfl (.tmp 23) 9 38 5 rfl Tryz.underlying9 Tryz.underlying38 Tryz.underlying5 m.key rfl (by omega) ?_); intro cq w3 ho3 hb3; have S3 : Hid (DbS w w3 m (.slice (some ⟨w2.heap.size, 0, none⟩) m.key.length cq) m.key) := hide ⟨B2.out.over hb3, below_step W2.out hb3 (Nat.le_refl _), (by have := B2.out.lt; obtain ⟨q0, g, cap, cur, fz, qv, qb, qr⟩ := ho3; exact ⟨q0, g, cap, cur, fz, qv, by omega, qr⟩)⟩; clear ho3 hb3; refine Hid.out ?_)
  refine hide ?_
  generalize (some ⟨w2.heap.size, 0, none⟩ : Option Addr) = A3 at *
  clear B2 W2 k61
  have KL3 : Hid (m.key.length ≤ 64) := hide KY
  go_wp2_with (at_builtin; go_must (refine wpList_append_X _ rfl (.tmp 26) (.tmp 28) 38 rfl (w.heap.size + 1) 5 i0 Tryz.underlying38 hi0 hz0 hz1 hz2 (.slice A3 m.key.length cq) m.key.length m.key rfl S3.out.o _ _ _ _ 8 (m.rd) rfl (At.range (mro_rd HM.out S3.out.b) LR.out S3.out.b.lt) (by have := KL3.out; have := LR.out; omega) (by have := S3.out.b.lt; omega) ?_); intro vn wn hon hgn _hat; have S4 := hide (S3.out.next hgn hon (LR.out.symm)); clear hon hgn _hat; refine Hid.out ?_)
  refine hide ?_
  obtain ⟨L4, hL⟩ : ∃ L4, m.key ++ m.rd = L4 := ⟨_, rfl⟩
  have KL4 : Hid (L4.length ≤ 84) := hide (by have h1 := KL3.out; have h2 := LR.out; have h3 := congrArg List.length hL; rw [List.length_append] at h3; omega)
  rw [hL] at S4
  have HL4 := hide hL
  obtain ⟨A4, c4, rfl, _, _⟩ := S4.out.o.shape
  clear S3 hL
  go_wp2_with (with_reducible refine wpList_load_addr_at rfl (.tmp 38) rfl w.heap.size 10 rfl (mro_s HM.out S4.out.b) LS.out ?_)
  refine (refwith_any _ m.ss m.sb LS.out RS.out).mono ?_
  rintro e wb ⟨vb, rfl, hob, hbb⟩
  obtain ⟨Ab, cb, rfl, _, _⟩ := own_shape hob
  have ATb := hide (At.own hob)
  have T4 := hide (S4.out.over hbb)
  clear hob hbb S4
  go_wp2_with (at_builtin; go_must (refine wpList_append_X _ rfl (.tmp 37) (.tmp 40) 38 rfl (w.heap.size + 1) 5 i0 Tryz.underlying38 hi0 hz0 hz1 hz2 (.slice A4 L4.length c4) L4.length L4 rfl T4.out.o _ _ Ab _ cb (withA m.ss m.sb) rfl ATb.out (by have := KL4.out; have := with_len m.ss LS.out; omega) (by have := T4.out.b.lt; omega) ?_); intro vn wn hon hgn _hat; have S5 := hide (T4.out.next hgn hon (rfl)); clear hon hgn _hat; refine Hid.out ?_)
  refine hide ?_
  obtain ⟨L5, hL⟩ : ∃ L5, L4 ++ withA m.ss m.sb = L5 := ⟨_, rfl⟩
  have KL5 : Hid (L5.length ≤ 104) := hide (by have h1 := KL4.out; have h2 := with_len m.ss LS.out; have h3 := congrArg List.length hL; rw [List.length_append] at h3; omega)
  rw [hL] at S5
  have HL5 := hide hL
  obtain ⟨A5, c5, rfl, _, _⟩ := S5.out.o.shape
  clear T4 hL
  go_wp2_with (with_reducible refine wpList_load_addr_at rfl (.tmp 43) rfl w.heap.size 27 rfl (mro_g HM.out S5.out.b) LG.out ?_)
  refine (refwith_any _ m.gs m.gb LG.out RG.out).mono ?_
  rintro e wb ⟨vb, rfl, hob, hbb⟩
  obtain ⟨Ab, cb, rfl, _, _⟩ := own_shape hob
  have ATb := hide (At.own hob)
  have T5 := hide (S5.out.over hbb)
  clear hob hbb S5
  go_wp2_with (at_builtin; go_must (refine wpList_append_X _ rfl (.tmp 42) (.tmp 45) 38 rfl (w.heap.size + 1) 5 i0 Tryz.underlying38 hi0 hz0 hz1 hz2 (.slice A5 L5.length c5) L5.length L5 rfl T5.out.o _ _ Ab _ cb (withA m.gs m.gb) rfl ATb.out (by have := KL5.out; have := with_len m.gs LG.out; omega) (by have := T5.out.b.lt; omega) ?_); intro vn wn hon hgn _hat; have S6 := hide (T5.out.next hgn hon (rfl)); clear hon hgn _hat; refine Hid.out ?_)
  refine hide ?_
  obtain ⟨L6, hL⟩ : ∃ L6, L5 ++ withA m.gs m.gb = L6 := ⟨_, rfl⟩
  have KL6 : Hid (L6.length ≤ 124) := hide (by have h1 := KL5.out; have h2 := with_len m.gs LG.out; have h3 := congrArg List.length hL; rw [List.length_append] at h3; omega)
  rw [hL] at S6
  have HL6 := hide hL
  obtain ⟨A6, c6, rfl, _, _⟩ := S6.out.o.shape
  clear T5 hL
  go_wp2_with (with_reducible refine wpList_load_addr_at rfl (.tmp 49) rfl w.heap.size 44 rfl (mro_f HM.out S6.out.b) LF.out ?_)
  refine (refabytes_any _ m.fs m.fb LF.out).mono ?_
  rintro e wb ⟨vb, rfl, hob, hbb⟩
  obtain ⟨Ab, cb, rfl, _, _⟩ := own_shape hob
  have ATb := hide (At.own hob)
  have T6 := hide (S6.out.over hbb)
  clear hob hbb S6
  go_wp2_with (at_builtin; go_must (refine wpList_append_X _ rfl (.tmp 48) (.tmp 51) 38 rfl (w.heap.size + 1) 5 i0 Tryz.underlying38 hi0 hz0 hz1 hz2 (.slice A6 L6.length c6) L6.length L6 rfl T6.out.o _ _ Ab _ cb (bytesA m.fs m.fb) rfl ATb.out (by have := KL6.out; have := bytesA_16 m.fs LF.out; omega) (by have := T6.out.b.lt; omega) ?_); intro vn wn hon hgn _hat; have S7 := hide (T6.out.next hgn hon (rfl)); clear hon hgn _hat; refine Hid.out ?_)
  refine hide ?_
  obtain ⟨L7, hL⟩ : ∃ L7, L6 ++ bytesA m.fs m.fb = L7 := ⟨_, rfl⟩
  have KL7 : Hid (L7.length ≤ 144) := hide (by have h1 := KL6.out; have h2 := bytesA_16 m.fs LF.out; have h3 := congrArg List.length hL; rw [List.length_append] at h3; omega)
  rw [hL] at S7
  have HL7 := hide hL
  obtain ⟨A7, c7, rfl, _, _⟩ := S7.out.o.shape
  clear T6 hL
  have k0 := (S7.out.b.cell 0).trans C0.out
  have ATF := hide S7.out.o.at_
  have BEL := hide S7.out.bel
  have hlt := S7.out.b.lt
  rw [HL4.out, HL5.out, HL6.out, HL7.out] at HB
  clear S7
  generalize L7 = L at *
  obtain ⟨N, hN⟩ : ∃ N, L.length = N := ⟨_, rfl⟩
  have KN : N ≤ 1000 := by have := KL7.out; omega
  rw [hN] at ATF ⊢
  have HN := hide hN
  clear hN
  have HW8 : Hid (((N : Nat) : Int) % 256 = ((UInt8.ofNat N).toNat : Int)) := hide (by simp)
  go_wp2_with (at_builtin; go_must (refine wpList_append_bytes _ rfl (.tmp 59) (.tmp 60) 38 rfl w.heap.size 5 i0 Tryz.underlying38 hi0 hz0 hz1 hz2 _ 2 [3, UInt8.ofNat N] rfl (by rw [HW8.out]; exact own_of_blk (Blk.new _ _ _) (by have := BEL.out.size; omega) (Nat.le_refl _) (by decide) rfl rfl) _ _ A7 _ _ L rfl (ATF.out.alloc (Nat.le_refl _) _) (by omega) (by simp; have := BEL.out.size; omega) ?_); intro vF wF hon hgn _hat; have HO := hide hon; have HG := hide hgn; clear hon hgn _hat; refine Hid.out ?_)
  refine hide ?_
  go_wp2
  go_ret2
  refine ⟨vF, ?_, ?_, ?_⟩
  · rw [HB.out.2]; rfl
  · rw [HB.out.1, HN.out]
    have h := HO.out
    rw [show (3 :: UInt8.ofNat N :: L : List UInt8).length = 2 + N by simp [HN.out]; omega]
    exact h
  · exact (BEL.out.alloc BEL.out.size _).grown HG.out (by simp; have := BEL.out.size; omega) (fun g hg => by have h2 : some wn.heap.size = some g := hg; injection h2 with h2; have := BEL.out.size; omega)
theorem dbytes_4 (w : World) (m : Mr) (hm : m.W) (hk : m.k = 4) (hr : rightM m = true) :
    Calls Tryz.prog 17 #[.agg (mroC m)] w (DbPost w m) := by
  obtain ⟨i0, hi0, hz0, hz1, hz2⟩ := info_parts u8_info
  have hR := (rightM_iff m).1 hr
  have KY := right_key hR
  have hbl := bytes_len hm hR
  have hbody : bodyM m = (m.key ++ bytesA m.fs m.fb) := by
    unfold bodyM
    rw [hk]
    simp [nRd, nAs, nAd, nFr]
  have HB : Hid (outB m = 4 :: UInt8.ofNat ((m.key ++ bytesA m.fs m.fb)).length :: (m.key ++ bytesA m.fs m.fb) ∧ errB m = 0) := hide (by
    unfold outB errB
    rw [if_pos hr, if_pos hr]
    unfold bytesM
    rw [hbody, hk]
    exact ⟨rfl, rfl⟩)
  have LS := hide hm.sb
  have LG := hide hm.gb
  have LF := hide hm.fb
  have LR := hide hm.rd
  have HM := hide hm
  have HR := hide hr
  have C0 : Hid ((mroC m)[0]? = some (.int .i64 4)) := hide (by rw [mroC_0, hk])
  have C61 := hide (mroC_61 hm)
  have B0 := hide (Blk.new w 28 (mroC m))
  have W0 := hide ((Below.refl w.heap.size w).alloc (Nat.le_refl _) (.cells (mroC m) 28))
  clear hm hk hr hR hbl hbody
  go_enter Tryz.func17, Tryz.ntmps17
  go_wp2_with (with_reducible refine wpList_load_mro rfl (.tmp 1) rfl w.heap.size rfl B0.out HM.out ?_)
  refine (refright7_any _ m HM.out (by omega)).mono ?_
  rw [HR.out]
  rintro e w1 ⟨rfl, hb1⟩
  have B1 := hide (B0.out.over hb1)
  have W1 := hide (below_step W0.out hb1 (Nat.le_refl _))
  have k0 := (B1.out.cell 0).trans C0.out
  clear hb1 B0 W0
  go_wp2_with fail
  refine (refwhat_4 w1).mono ?_
  rintro e w2 ⟨rfl, hb2⟩
  have B2 := hide (B1.out.over hb2)
  have W2 := hide (below_step W1.out hb2 (Nat.le_refl _))
  have k61 := (B2.out.cell 61).trans C61.out
  clear hb2 B1 W1 k0
  go_wp2_with ((with_reducible refine wpList_text_X rfl (.tmp 23) 9 38 5 rfl Tryz.underlying9 Tryz.underlying38 Tryz.underlying5 m.key rfl (by omega) ?_); intro cq w3 ho3 hb3; have S3 : Hid (DbS w w3 m (.slice (some ⟨w2.heap.size, 0, none⟩) m.key.length cq) m.key) := hide ⟨B2.out.over hb3, below_step W2.out hb3 (Nat.le_refl _), (by have := B2.out.lt; obtain ⟨q0, g, cap, cur, fz, qv, qb, qr⟩ := ho3; exact ⟨q0, g, cap, cur, fz, qv, by omega, qr⟩)⟩; clear ho3 hb3; refine Hid.out ?_)
  refine hide ?_
  generalize (some ⟨w2.heap.size, 0, none⟩ : Option Addr) = A3 at *
  clear B2 W2 k61
  have KL3 : Hid (m.key.length ≤ 64) := hide KY
  go_wp2_with (with_reducible refine wpList_load_addr_at rfl (.tmp 49) rfl w.heap.size 44 rfl (mro_f HM.out S3.out.b) LF.out ?_)
  refine (refabytes_any _ m.fs m.fb LF.out).mono ?_
  rintro e wb ⟨vb, rfl, hob, hbb⟩
  obtain ⟨Ab, cb, rfl, _, _⟩ := own_shape hob
  have ATb := hide (At.own hob)
  have T3 := hide (S3.out.over hbb)
  clear hob hbb S3
  go_wp2_with (at_builtin; go_must (refine wpList_append_X _ rfl (.tmp 48) (.tmp 51) 38 rfl (w.heap.size + 1) 5 i0 Tryz.underlying38 hi0 hz0 hz1 hz2 (.slice A3 m.key.length cq) m.key.length m.key rfl T3.out.o _ _ Ab _ cb (bytesA m.fs m.fb) rfl ATb.out (by have := KL3.out; have := bytesA_16 m.fs LF.out; omega) (by have := T3.out.b.lt; omega) ?_); intro vn wn hon hgn _hat; have S4 := hide (T3.out.next hgn hon (rfl)); clear hon hgn _hat; refine Hid.out ?_)
  refine hide ?_
  obtain ⟨L4, hL⟩ : ∃ L4, m.key ++ bytesA m.fs m.fb = L4 := ⟨_, rfl⟩
  have KL4 : Hid (L4.length ≤ 84) := hide (by have h1 := KL3.out; have h2 := bytesA_16 m.fs LF.out; have h3 := congrArg List.length hL; rw [List.length_append] at h3; omega)
  rw [hL] at S4
  have HL4 := hide hL
  obtain ⟨A4, c4, rfl, _, _⟩ := S4.out.o.shape
  clear T3 hL
  have k0 := (S4.out.b.cell 0).trans C0.out
  have ATF := hide S4.out.o.at_
  have BEL := hide S4.out.bel
  have hlt := S4.out.b.lt
  rw [HL4.out] at HB
  clear S4
  generalize L4 = L at *
  obtain ⟨N, hN⟩ : ∃ N, L.length = N := ⟨_, rfl⟩
  have KN : N ≤ 1000 := by have := KL4.out; omega
  rw [hN] at ATF ⊢
  have HN := hide hN
  clear hN
  have HW8 : Hid (((N : Nat) : Int) % 256 = ((UInt8.ofNat N).toNat : Int)) := hide (by simp)
  go_wp2_with (at_builtin; go_must (refine wpList_append_bytes _ rfl (.tmp 59) (.tmp 60) 38 rfl w.heap.size 5 i0 Tryz.underlying38 hi0 hz0 hz1 hz2 _ 2 [4, UInt8.ofNat N] rfl (by rw [HW8.out]; exact own_of_blk (Blk.new _ _ _) (by have := BEL.out.size; omega) (Nat.le_refl _) (by decide) rfl rfl) _ _ A4 _ _ L rfl (ATF.out.alloc (Nat.le_refl _) _) (by omega) (by simp; have := BEL.out.size; omega) ?_); intro vF wF hon hgn _hat; have HO := hide hon; have HG := hide hgn; clear hon hgn _hat; refine Hid.out ?_)
  refine hide ?_
  go_wp2
  go_ret2
  refine ⟨vF, ?_, ?_, ?_⟩
  · rw [HB.out.2]; rfl
  · rw [HB.out.1, HN.out]
    have h := HO.out
    rw [show (4 :: UInt8.ofNat N :: L : List UInt8).length = 2 + N by simp [HN.out]; omega]
    exact h
  · exact (BEL.out.alloc BEL.out.size _).grown HG.out (by simp; have := BEL.out.size; omega) (fun g hg => by have h2 : some wn.heap.size = some g := hg; injection h2 with h2; have := BEL.out.size; omega)
theorem dbytes_5 (w : World) (m : Mr) (hm : m.W) (hk : m.k = 5) (hr : rightM m = true) :
    Calls Tryz.prog 17 #[.agg (mroC m)] w (DbPost w m) := by
  obtain ⟨i0, hi0, hz0, hz1, hz2⟩ := info_parts u8_info
  have hR := (rightM_iff m).1 hr
  have KY := right_key hR
  have hbl := bytes_len hm hR
  have hbody : bodyM m = (((m.key ++ m.rd) ++ withA m.ss m.sb) ++ withA m.gs m.gb) := by
    unfold bodyM
    rw [hk]
    simp [nRd, nAs, nAd, nFr]
  have HB : Hid (outB m = 5 :: UInt8.ofNat ((((m.key ++ m.rd) ++ withA m.ss m.sb) ++ withA m.gs m.gb)).length :: (((m.key ++ m.rd) ++ withA m.ss m.sb) ++ withA m.gs m.gb) ∧ errB m = 0) := hide (by
    unfold outB errB
    rw [if_pos hr, if_pos hr]
    unfold bytesM
    rw [hbody, hk]
    exact ⟨rfl, rfl⟩)
  have LS := hide hm.sb
  have LG := hide hm.gb
  have LF := hide hm.fb
  have LR := hide hm.rd
  obtain ⟨rs, rg⟩ := flow_right (hR.core.fl (by rw [hk]; rfl))
  have RS := hide rs
  have RG := hide rg
  have HM := hide hm
  have HR := hide hr
  have C0 : Hid ((mroC m)[0]? = some (.int .i64 5)) := hide (by rw [mroC_0, hk])
  have C61 := hide (mroC_61 hm)
  have B0 := hide (Blk.new w 28 (mroC m))
  have W0 := hide ((Below.refl w.heap.size w).alloc (Nat.le_refl _) (.cells (mroC m) 28))
  clear hm hk hr hR hbl hbody rs rg
  go_enter Tryz.func17, Tryz.ntmps17
  go_wp2_with (with_reducible refine wpList_load_mro rfl (.tmp 1) rfl w.heap.size rfl B0.out HM.out ?_)
  refine (refright7_any _ m HM.out (by omega)).mono ?_
  rw [HR.out]
  rintro e w1 ⟨rfl, hb1⟩
  have B1 := hide (B0.out.over hb1)
  have W1 := hide (below_step W0.out hb1 (Nat.le_refl _))
  have k0 := (B1.out.cell 0).trans C0.out
  clear hb1 B0 W0
  go_wp2_with fail
  refine (refwhat_5 w1).mono ?_
  rintro e w2 ⟨rfl, hb2⟩
  have B2 := hide (B1.out.over hb2)
  have W2 := hide (below_step W1.out hb2 (Nat.le_refl _))
  have k61 := (B2.out.cell 61).trans C61.out
  clear hb2 B1 W1 k0
  go_wp2_with ((with_reducible refine wpList_text_X rfl (.tmp 23) 9 38 5 rfl Tryz.underlying9 Tryz.underlying38 Tryz.underlying5 m.key rfl (by omega) ?_); intro cq w3 ho3 hb3; have S3 : Hid (DbS w w3 m (.slice (some ⟨w2.heap.size, 0, none⟩) m.key.length cq) m.key) := hide ⟨B2.out.over hb3, below_step W2.out hb3 (Nat.le_refl _), (by have := B2.out.lt; obtain ⟨q0, g, cap, cur, fz, qv, qb, qr⟩ := ho3; exact ⟨q0, g, cap, cur, fz, qv, by omega, qr⟩)⟩; clear ho3 hb3; refine Hid.out ?_)
  refine hide ?_
  generalize (some ⟨w2.heap.size, 0, none⟩ : Option Addr) = A3 at *
  clear B2 W2 k61
  have KL3 : Hid (m.key.length ≤ 64) := hide KY
  go_wp2_with (at_builtin; go_must (refine wpList_append_X _ rfl (.tmp 26) (.tmp 28) 38 rfl (w.heap.size + 1) 5 i0 Tryz.underlying38 hi0 hz0 hz1 hz2 (.slice A3 m.key.length cq) m.key.length m.key rfl S3.out.o _ _ _ _ 8 (m.rd) rfl (At.range (mro_rd HM.out S3.out.b) LR.out S3.out.b.lt) (by have := KL3.out; have := LR.out; omega) (by have := S3.out.b.lt; omega) ?_); intro vn wn hon hgn _hat; have S4 := hide (S3.out.next hgn hon (LR.out.symm)); clear hon hgn _hat; refine Hid.out ?_)
  refine hide ?_
  obtain ⟨L4, hL⟩ : ∃ L4, m.key ++ m.rd = L4 := ⟨_, rfl⟩
  have KL4 : Hid (L4.length ≤ 84) := hide (by have h1 := KL3.out; have h2 := LR.out; have h3 := congrArg List.length hL; rw [List.length_append] at h3; omega)
  rw [hL] at S4
  have HL4 := hide hL
  obtain ⟨A4, c4, rfl, _, _⟩ := S4.out.o.shape
  clear S3 hL
  go_wp2_with (with_reducible refine wpList_load_addr_at rfl (.tmp 38) rfl w.heap.size 10 rfl (mro_s HM.out S4.out.b) LS.out ?_)
  refine (refwith_any _ m.ss m.sb LS.out RS.out).mono ?_
  rintro e wb ⟨vb, rfl, hob, hbb⟩
  obtain ⟨Ab, cb, rfl, _, _⟩ := own_shape hob
  have ATb := hide (At.own hob)
  have T4 := hide (S4.out.over hbb)
  clear hob hbb S4
  go_wp2_with (at_builtin; go_must (refine wpList_append_X _ rfl (.tmp 37) (.tmp 40) 38 rfl (w.heap.size + 1) 5 i0 Tryz.underlying38 hi0 hz0 hz1 hz2 (.slice A4 L4.length c4) L4.length L4 rfl T4.out.o _ _ Ab _ cb (withA m.ss m.sb) rfl ATb.out (by have := KL4.out; have := with_len m.ss LS.out; omega) (by have := T4.out.b.lt; omega) ?_); intro vn wn hon hgn _hat; have S5 := hide (T4.out.next hgn hon (rfl)); clear hon hgn _hat; refine Hid.out ?_)
  refine hide ?_
  obtain ⟨L5, hL⟩ : ∃ L5, L4 ++ withA m.ss m.sb = L5 := ⟨_, rfl⟩
  have KL5 : Hid (L5.length ≤ 104) := hide (by have h1 := KL4.out; have h2 := with_len m.ss LS.out; have h3 := congrArg List.length hL; rw [List.length_append] at h3; omega)
  rw [hL] at S5
  have HL5 := hide hL
  obtain ⟨A5, c5, rfl, _, _⟩ := S5.out.o.shape
  clear T4 hL
  go_wp2_with (with_reducible refine wpList_load_addr_at rfl (.tmp 43) rfl w.heap.size 27 rfl (mro_g HM.out S5.out.b) LG.out ?_)
  refine (refwith_any _ m.gs m.gb LG.out RG.out).mono ?_
  rintro e wb ⟨vb, rfl, hob, hbb⟩
  obtain ⟨Ab, cb, rfl, _, _⟩ := own_shape hob
  have ATb := hide (At.own hob)
  have T5 := hide (S5.out.over hbb)
  clear hob hbb S5
  go_wp2_with (at_builtin; go_must (refine wpList_append_X _ rfl (.tmp 42) (.tmp 45) 38 rfl (w.heap.size + 1) 5 i0 Tryz.underlying38 hi0 hz0 hz1 hz2 (.slice A5 L5.length c5) L5.length L5 rfl T5.out.o _ _ Ab _ cb (withA m.gs m.gb) rfl ATb.out (by have := KL5.out; have := with_len m.gs LG.out; omega) (by have := T5.out.b.lt; omega) ?_); intro vn wn hon hgn _hat; have S6 := hide (T5.out.next hgn hon (rfl)); clear hon hgn _hat; refine Hid.out ?_)
  refine hide ?_
  obtain ⟨L6, hL⟩ : ∃ L6, L5 ++ withA m.gs m.gb = L6 := ⟨_, rfl⟩
  have KL6 : Hid (L6.length ≤ 124) := hide (by have h1 := KL5.out; have h2 := with_len m.gs LG.out; have h3 := congrArg List.length hL; rw [List.length_append] at h3; omega)
  rw [hL] at S6
  have HL6 := hide hL
  obtain ⟨A6, c6, rfl, _, _⟩ := S6.out.o.shape
  clear T5 hL
  have k0 := (S6.out.b.cell 0).trans C0.out
  have ATF := hide S6.out.o.at_
  have BEL := hide S6.out.bel
  have hlt := S6.out.b.lt
  rw [HL4.out, HL5.out, HL6.out] at HB
  clear S6
  generalize L6 = L at *
  obtain ⟨N, hN⟩ : ∃ N, L.length = N := ⟨_, rfl⟩
  have KN : N ≤ 1000 := by have := KL6.out; omega
  rw [hN] at ATF ⊢
  have HN := hide hN
  clear hN
  have HW8 : Hid (((N : Nat) : Int) % 256 = ((UInt8.ofNat N).toNat : Int)) := hide (by simp)
  go_wp2_with (at_builtin; go_must (refine wpList_append_bytes _ rfl (.tmp 59) (.tmp 60) 38 rfl w.heap.size 5 i0 Tryz.underlying38 hi0 hz0 hz1 hz2 _ 2 [5, UInt8.ofNat N] rfl (by rw [HW8.out]; exact own_of_blk (Blk.new _ _ _) (by have := BEL.out.size; omega) (Nat.le_refl _) (by decide) rfl rfl) _ _ A6 _ _ L rfl (ATF.out.alloc (Nat.le_refl _) _) (by omega) (by simp; have := BEL.out.size; omega) ?_); intro vF wF hon hgn _hat; have HO := hide hon; have HG := hide hgn; clear hon hgn _hat; refine Hid.out ?_)
  refine hide ?_
  go_wp2
  go_ret2
  refine ⟨vF, ?_, ?_, ?_⟩
  · rw [HB.out.2]; rfl
  · rw [HB.out.1, HN.out]
    have h := HO.out
    rw [show (5 :: UInt8.ofNat N :: L : List UInt8).length = 2 + N by simp [HN.out]; omega]
    exact h
  · exact (BEL.out.alloc BEL.out.size _).grown HG.out (by simp; have := BEL.out.size; omega) (fun g hg => by have h2 : some wn.heap.size = some g := hg; injection h2 with h2; have := BEL.out.size; omega)
theorem dbytes_6 (w : World) (m : Mr) (hm : m.W) (hk : m.k = 6) (hr : rightM m = true) :
    Calls Tryz.prog 17 #[.agg (mroC m)] w (DbPost w m) := by
  obtain ⟨i0, hi0, hz0, hz1, hz2⟩ := info_parts u8_info
  have hR := (rightM_iff m).1 hr
  have KY := right_key hR
  have hbl := bytes_len hm hR
  have hbody : bodyM m = ((((m.key ++ m.rd) ++ be 4 m.a.toNat) ++ withA m.ss m.sb) ++ withA m.gs m.gb) := by
    unfold bodyM
    rw [hk]
    simp [nRd, nAs, nAd, nFr]
  have HB : Hid (outB m = 6 :: UInt8.ofNat (((((m.key ++ m.rd) ++ be 4 m.a.toNat) ++ withA m.ss m.sb) ++ withA m.gs m.gb)).length :: ((((m.key ++ m.rd) ++ be 4 m.a.toNat) ++ withA m.ss m.sb) ++ withA m.gs m.gb) ∧ errB m = 0) := hide (by
    unfold outB errB
    rw [if_pos hr, if_pos hr]
    unfold bytesM
    rw [hbody, hk]
    exact ⟨rfl, rfl⟩)
  have LS := hide hm.sb
  have LG := hide hm.gb
  have LF := hide hm.fb
  have LR := hide hm.rd
  obtain ⟨aN, haN⟩ : ∃ aN : Nat, m.a = (aN : Int) := ⟨m.a.toNat, by have := hR.core.a0; omega⟩
  have hal : aN < 4294967296 := by have := hR.core.a32; omega
  have HAN : Hid (m.a.toNat = aN) := hide (by omega)
  obtain ⟨rs, rg⟩ := flow_right (hR.core.fl (by rw [hk]; rfl))
  have RS := hide rs
  have RG := hide rg
  have HM := hide hm
  have HR := hide hr
  have C0 : Hid ((mroC m)[0]? = some (.int .i64 6)) := hide (by rw [mroC_0, hk])
  have C61 := hide (mroC_61 hm)
  have C9 : Hid ((mroC m)[9]? = some (.int .i64 (aN : Int))) := hide (by rw [mroC_9 hm, haN])
  have B0 := hide (Blk.new w 28 (mroC m))
  have W0 := hide ((Below.refl w.heap.size w).alloc (Nat.le_refl _) (.cells (mroC m) 28))
  clear hm hk hr hR hbl hbody haN rs rg
  go_enter Tryz.func17, Tryz.ntmps17
  go_wp2_with (with_reducible refine wpList_load_mro rfl (.tmp 1) rfl w.heap.size rfl B0.out HM.out ?_)
  refine (refright7_any _ m HM.out (by omega)).mono ?_
  rw [HR.out]
  rintro e w1 ⟨rfl, hb1⟩
  have B1 := hide (B0.out.over hb1)
  have W1 := hide (below_step W0.out hb1 (Nat.le_refl _))
  have k0 := (B1.out.cell 0).trans C0.out
  clear hb1 B0 W0
  go_wp2_with fail
  refine (refwhat_6 w1).mono ?_
  rintro e w2 ⟨rfl, hb2⟩
  have B2 := hide (B1.out.over hb2)
  have W2 := hide (below_step W1.out hb2 (Nat.le_refl _))
  have k61 := (B2.out.cell 61).trans C61.out
  clear hb2 B1 W1 k0
  go_wp2_with ((with_reducible refine wpList_text_X rfl (.tmp 23) 9 38 5 rfl Tryz.underlying9 Tryz.underlying38 Tryz.underlying5 m.key rfl (by omega) ?_); intro cq w3 ho3 hb3; have S3 : Hid (DbS w w3 m (.slice (some ⟨w2.heap.size, 0, none⟩) m.key.length cq) m.key) := hide ⟨B2.out.over hb3, below_step W2.out hb3 (Nat.le_refl _), (by have := B2.out.lt; obtain ⟨q0, g, cap, cur, fz, qv, qb, qr⟩ := ho3; exact ⟨q0, g, cap, cur, fz, qv, by omega, qr⟩)⟩; clear ho3 hb3; refine Hid.out ?_)
  refine hide ?_
  generalize (some ⟨w2.heap.size, 0, none⟩ : Option Addr) = A3 at *
  clear B2 W2 k61
  have KL3 : Hid (m.key.length ≤ 64) := hide KY
  go_wp2_with (at_builtin; go_must (refine wpList_append_X _ rfl (.tmp 26) (.tmp 28) 38 rfl (w.heap.size + 1) 5 i0 Tryz.underlying38 hi0 hz0 hz1 hz2 (.slice A3 m.key.length cq) m.key.length m.key rfl S3.out.o _ _ _ _ 8 (m.rd) rfl (At.range (mro_rd HM.out S3.out.b) LR.out S3.out.b.lt) (by have := KL3.out; have := LR.out; omega) (by have := S3.out.b.lt; omega) ?_); intro vn wn hon hgn _hat; have S4 := hide (S3.out.next hgn hon (LR.out.symm)); clear hon hgn _hat; refine Hid.out ?_)
  refine hide ?_
  obtain ⟨L4, hL⟩ : ∃ L4, m.key ++ m.rd = L4 := ⟨_, rfl⟩
  have KL4 : Hid (L4.length ≤ 84) := hide (by have h1 := KL3.out; have h2 := LR.out; have h3 := congrArg List.length hL; rw [List.length_append] at h3; omega)
  rw [hL] at S4
  have HL4 := hide hL
  obtain ⟨A4, c4, rfl, _, _⟩ := S4.out.o.shape
  clear S3 hL
  have k9 := (S4.out.b.cell 9).trans C9.out
  go_wp2_with fail
  refine (refbytes_any _ aN 4 (by decide) (by decide) hal).mono ?_
  rintro e wb ⟨vb, rfl, hob, hbb⟩
  obtain ⟨Ab, cb, rfl, _, _⟩ := own_shape hob
  have ATb := hide (At.own hob)
  have T4 := hide (S4.out.over hbb)
  clear hob hbb S4 k9
  rw [← HAN.out] at ATb
  go_wp2_with (at_builtin; go_must (refine wpList_append_X _ rfl (.tmp 31) (.tmp 34) 38 rfl (w.heap.size + 1) 5 i0 Tryz.underlying38 hi0 hz0 hz1 hz2 (.slice A4 L4.length c4) L4.length L4 rfl T4.out.o _ _ Ab _ cb (be 4 m.a.toNat) rfl ATb.out (by have := KL4.out; have := be_len 4 m.a.toNat; omega) (by have := T4.out.b.lt; omega) ?_); intro vn wn hon hgn _hat; have S5 := hide (T4.out.next hgn hon ((be_len 4 _).symm)); clear hon hgn _hat; refine Hid.out ?_)
  refine hide ?_
  obtain ⟨L5, hL⟩ : ∃ L5, L4 ++ be 4 m.a.toNat = L5 := ⟨_, rfl⟩
  have KL5 : Hid (L5.length ≤ 104) := hide (by have h1 := KL4.out; have h2 := be_len 4 m.a.toNat; have h3 := congrArg List.length hL; rw [List.length_append] at h3; omega)
  rw [hL] at S5
  have HL5 := hide hL
  obtain ⟨A5, c5, rfl, _, _⟩ := S5.out.o.shape
  clear T4 hL
  go_wp2_with (with_reducible refine wpList_load_addr_at rfl (.tmp 38) rfl w.heap.size 10 rfl (mro_s HM.out S5.out.b) LS.out ?_)
  refine (refwith_any _ m.ss m.sb LS.out RS.out).mono ?_
  rintro e wb ⟨vb, rfl, hob, hbb⟩
  obtain ⟨Ab, cb, rfl, _, _⟩ := own_shape hob
  have ATb := hide (At.own hob)
  have T5 := hide (S5.out.over hbb)
  clear hob hbb S5
  go_wp2_with (at_builtin; go_must (refine wpList_append_X _ rfl (.tmp 37) (.tmp 40) 38 rfl (w.heap.size + 1) 5 i0 Tryz.underlying38 hi0 hz0 hz1 hz2 (.slice A5 L5.length c5) L5.length L5 rfl T5.out.o _ _ Ab _ cb (withA m.ss m.sb) rfl ATb.out (by have := KL5.out; have := with_len m.ss LS.out; omega) (by have := T5.out.b.lt; omega) ?_); intro vn wn hon hgn _hat; have S6 := hide (T5.out.next hgn hon (rfl)); clear hon hgn _hat; refine Hid.out ?_)
  refine hide ?_
  obtain ⟨L6, hL⟩ : ∃ L6, L5 ++ withA m.ss m.sb = L6 := ⟨_, rfl⟩
  have KL6 : Hid (L6.length ≤ 124) := hide (by have h1 := KL5.out; have h2 := with_len m.ss LS.out; have h3 := congrArg List.length hL; rw [List.length_append] at h3; omega)
  rw [hL] at S6
  have HL6 := hide hL
  obtain ⟨A6, c6, rfl, _, _⟩ := S6.out.o.shape
  clear T5 hL
  go_wp2_with (with_reducible refine wpList_load_addr_at rfl (.tmp 43) rfl w.heap.size 27 rfl (mro_g HM.out S6.out.b) LG.out ?_)
  refine (refwith_any _ m.gs m.gb LG.out RG.out).mono ?_
  rintro e wb ⟨vb, rfl, hob, hbb⟩
  obtain ⟨Ab, cb, rfl, _, _⟩ := own_shape hob
  have ATb := hide (At.own hob)
  have T6 := hide (S6.out.over hbb)
  clear hob hbb S6
  go_wp2_with (at_builtin; go_must (refine wpList_append_X _ rfl (.tmp 42) (.tmp 45) 38 rfl (w.heap.size + 1) 5 i0 Tryz.underlying38 hi0 hz0 hz1 hz2 (.slice A6 L6.length c6) L6.length L6 rfl T6.out.o _ _ Ab _ cb (withA m.gs m.gb) rfl ATb.out (by have := KL6.out; have := with_len m.gs LG.out; omega) (by have := T6.out.b.lt; omega) ?_); intro vn wn hon hgn _hat; have S7 := hide (T6.out.next hgn hon (rfl)); clear hon hgn _hat; refine Hid.out ?_)
  refine hide ?_
  obtain ⟨L7, hL⟩ : ∃ L7, L6 ++ withA m.gs m.gb = L7 := ⟨_, rfl⟩
  have KL7 : Hid (L7.length ≤ 144) := hide (by have h1 := KL6.out; have h2 := with_len m.gs LG.out; have h3 := congrArg List.length hL; rw [List.length_append] at h3; omega)
  rw [hL] at S7
  have HL7 := hide hL
  obtain ⟨A7, c7, rfl, _, _⟩ := S7.out.o.shape
  clear T6 hL
  have k0 := (S7.out.b.cell 0).trans C0.out
  have ATF := hide S7.out.o.at_
  have BEL := hide S7.out.bel
  have hlt := S7.out.b.lt
  rw [HL4.out, HL5.out, HL6.out, HL7.out] at HB
  clear S7
  generalize L7 = L at *
  obtain ⟨N, hN⟩ : ∃ N, L.length = N := ⟨_, rfl⟩
  have KN : N ≤ 1000 := by have := KL7.out; omega
  rw [hN] at ATF ⊢
  have HN := hide hN
  clear hN
  have HW8 : Hid (((N : Nat) : Int) % 256 = ((UInt8.ofNat N).toNat : Int)) := hide (by simp)
  go_wp2_with (at_builtin; go_must (refine wpList_append_bytes _ rfl (.tmp 59) (.tmp 60) 38 rfl w.heap.size 5 i0 Tryz.underlying38 hi0 hz0 hz1 hz2 _ 2 [6, UInt8.ofNat N] rfl (by rw [HW8.out]; exact own_of_blk (Blk.new _ _ _) (by have := BEL.out.size; omega) (Nat.le_refl _) (by decide) rfl rfl) _ _ A7 _ _ L rfl (ATF.out.alloc (Nat.le_refl _) _) (by omega) (by simp; have := BEL.out.size; omega) ?_); intro vF wF hon hgn _hat; have HO := hide hon; have HG := hide hgn; clear hon hgn _hat; refine Hid.out ?_)
  refine hide ?_
  go_wp2
  go_ret2
  refine ⟨vF, ?_, ?_, ?_⟩
  · rw [HB.out.2]; rfl
  · rw [HB.out.1, HN.out]
    have h := HO.out
    rw [show (6 :: UInt8.ofNat N :: L : List UInt8).length = 2 + N by simp [HN.out]; omega]
    exact h
  · exact (BEL.out.alloc BEL.out.size _).grown HG.out (by simp; have := BEL.out.size; omega) (fun g hg => by have h2 : some wn.heap.size = some g := hg; injection h2 with h2; have := BEL.out.size; omega)
theorem dbytes_7 (w : World) (m : Mr) (hm : m.W) (hk : m.k = 7) (hr : rightM m = true) :
    Calls Tryz.prog 17 #[.agg (mroC m)] w (DbPost w m) := by
  obtain ⟨i0, hi0, hz0, hz1, hz2⟩ := info_parts u8_info
  have hR := (rightM_iff m).1 hr
  have KY := right_key hR
  have hbl := bytes_len hm hR
  have hbody : bodyM m = ((((m.key ++ m.rd) ++ be 4 m.a.toNat) ++ withA m.ss m.sb) ++ withA m.gs m.gb) := by
    unfold bodyM
    rw [hk]
    simp [nRd, nAs, nAd, nFr]
  have HB : Hid (outB m = 7 :: UInt8.ofNat (((((m.key ++ m.rd) ++ be 4 m.a.toNat) ++ withA m.ss m.sb) ++ withA m.gs m.gb)).length :: ((((m.key ++ m.rd) ++ be 4 m.a.toNat) ++ withA m.ss m.sb) ++ withA m.gs m.gb) ∧ errB m = 0) := hide (by
    unfold outB errB
    rw [if_pos hr, if_pos hr]
    unfold bytesM
    rw [hbody, hk]
    exact ⟨rfl, rfl⟩)
  have LS := hide hm.sb
  have LG := hide hm.gb
  have LF := hide hm.fb
  have LR := hide hm.rd
  obtain ⟨aN, haN⟩ : ∃ aN : Nat, m.a = (aN : Int) := ⟨m.a.toNat, by have := hR.core.a0; omega⟩
  have hal : aN < 4294967296 := by have := hR.core.a32; omega
  have HAN : Hid (m.a.toNat = aN) := hide (by omega)
  obtain ⟨rs, rg⟩ := flow_right (hR.core.fl (by rw [hk]; rfl))
  have RS := hide rs
  have RG := hide rg
  have HM := hide hm
  have HR := hide hr
  have C0 : Hid ((mroC m)[0]? = some (.int .i64 7)) := hide (by rw [mroC_0, hk])
  have C61 := hide (mroC_61 hm)
  have C9 : Hid ((mroC m)[9]? = some (.int .i64 (aN : Int))) := hide (by rw [mroC_9 hm, haN])
  have B0 := hide (Blk.new w 28 (mroC m))
  have W0 := hide ((Below.refl w.heap.size w).alloc (Nat.le_refl _) (.cells (mroC m) 28))
  clear hm hk hr hR hbl hbody haN rs rg
  go_enter Tryz.func17, Tryz.ntmps17
  go_wp2_with (with_reducible refine wpList_load_mro rfl (.tmp 1) rfl w.heap.size rfl B0.out HM.out ?_)
  refine (refright7_any _ m HM.out (by omega)).mono ?_
  rw [HR.out]
  rintro e w1 ⟨rfl, hb1⟩
  have B1 := hide (B0.out.over hb1)
  have W1 := hide (below_step W0.out hb1 (Nat.le_refl _))
  have k0 := (B1.out.cell 0).trans C0.out
  clear hb1 B0 W0
  go_wp2_with fail
  refine (refwhat_7 w1).mono ?_
  rintro e w2 ⟨rfl, hb2⟩
  have B2 := hide (B1.out.over hb2)
  have W2 := hide (below_step W1.out hb2 (Nat.le_refl _))
  have k61 := (B2.out.cell 61).trans C61.out
  clear hb2 B1 W1 k0
  go_wp2_with ((with_reducible refine wpList_text_X rfl (.tmp 23) 9 38 5 rfl Tryz.underlying9 Tryz.underlying38 Tryz.underlying5 m.key rfl (by omega) ?_); intro cq w3 ho3 hb3; have S3 : Hid (DbS w w3 m (.slice (some ⟨w2.heap.size, 0, none⟩) m.key.length cq) m.key) := hide ⟨B2.out.over hb3, below_step W2.out hb3 (Nat.le_refl _), (by have := B2.out.lt; obtain ⟨q0, g, cap, cur, fz, qv, qb, qr⟩ := ho3; exact ⟨q0, g, cap, cur, fz, qv, by omega, qr⟩)⟩; clear ho3 hb3; refine Hid.out ?_)
  refine hide ?_
  generalize (some ⟨w2.heap.size, 0, none⟩ : Option Addr) = A3 at *
  clear B2 W2 k61
  have KL3 : Hid (m.key.length ≤ 64) := hide KY
  go_wp2_with (at_builtin; go_must (refine wpList_append_X _ rfl (.tmp 26) (.tmp 28) 38 rfl (w.heap.size + 1) 5 i0 Tryz.underlying38 hi0 hz0 hz1 hz2 (.slice A3 m.key.length cq) m.key.length m.key rfl S3.out.o _ _ _ _ 8 (m.rd) rfl (At.range (mro_rd HM.out S3.out.b) LR.out S3.out.b.lt) (by have := KL3.out; have := LR.out; omega) (by have := S3.out.b.lt; omega) ?_); intro vn wn hon hgn _hat; have S4 := hide (S3.out.next hgn hon (LR.out.symm)); clear hon hgn _hat; refine Hid.out ?_)
  refine hide ?_
  obtain ⟨L4, hL⟩ : ∃ L4, m.key ++ m.rd = L4 := ⟨_, rfl⟩
  have KL4 : Hid (L4.length ≤ 84) := hide (by have h1 := KL3.out; have h2 := LR.out; have h3 := congrArg List.length hL; rw [List.length_append] at h3; omega)
  rw [hL] at S4
  have HL4 := hide hL
  obtain ⟨A4, c4, rfl, _, _⟩ := S4.out.o.shape
  clear S3 hL
  have k9 := (S4.out.b.cell 9).trans C9.out
  go_wp2_with fail
  refine (refbytes_any _ aN 4 (by decide) (by decide) hal).mono ?_
  rintro e wb ⟨vb, rfl, hob, hbb⟩
  obtain ⟨Ab, cb, rfl, _, _⟩ := own_shape hob
  have ATb := hide (At.own hob)
  have T4 := hide (S4.out.over hbb)
  clear hob hbb S4 k9
  rw [← HAN.out] at ATb
  go_wp2_with (at_builtin; go_must (refine wpList_append_X _ rfl (.tmp 31) (.tmp 34) 38 rfl (w.heap.size + 1) 5 i0 Tryz.underlying38 hi0 hz0 hz1 hz2 (.slice A4 L4.length c4) L4.length L4 rfl T4.out.o _ _ Ab _ cb (be 4 m.a.toNat) rfl ATb.out (by have := KL4.out; have := be_len 4 m.a.toNat; omega) (by have := T4.out.b.lt; omega) ?_); intro vn wn hon hgn _hat; have S5 := hide (T4.out.next hgn hon ((be_len 4 _).symm)); clear hon hgn _hat; refine Hid.out ?_)
  refine hide ?_
  obtain ⟨L5, hL⟩ : ∃ L5, L4 ++ be 4 m.a.toNat = L5 := ⟨_, rfl⟩
  have KL5 : Hid (L5.length ≤ 104) := hide (by have h1 := KL4.out; have h2 := be_len 4 m.a.toNat; have h3 := congrArg List.length hL; rw [List.length_append] at h3; omega)
  rw [hL] at S5
  have HL5 := hide hL
  obtain ⟨A5, c5, rfl, _, _⟩ := S5.out.o.shape
  clear T4 hL
  go_wp2_with (with_reducible refine wpList_load_addr_at rfl (.tmp 38) rfl w.heap.size 10 rfl (mro_s HM.out S5.out.b) LS.out ?_)
  refine (refwith_any _ m.ss m.sb LS.out RS.out).mono ?_
  rintro e wb ⟨vb, rfl, hob, hbb⟩
  obtain ⟨Ab, cb, rfl, _, _⟩ := own_shape hob
  have ATb := hide (At.own hob)
  have T5 := hide (S5.out.over hbb)
  clear hob hbb S5
  go_wp2_with (at_builtin; go_must (refine wpList_append_X _ rfl (.tmp 37) (.tmp 40) 38 rfl (w.heap.size + 1) 5 i0 Tryz.underlying38 hi0 hz0 hz1 hz2 (.slice A5 L5.length c5) L5.length L5 rfl T5.out.o _ _ Ab _ cb (withA m.ss m.sb) rfl ATb.out (by have := KL5.out; have := with_len m.ss LS.out; omega) (by have := T5.out.b.lt; omega) ?_); intro vn wn hon hgn _hat; have S6 := hide (T5.out.next hgn hon (rfl)); clear hon hgn _hat; refine Hid.out ?_)
  refine hide ?_
  obtain ⟨L6, hL⟩ : ∃ L6, L5 ++ withA m.ss m.sb = L6 := ⟨_, rfl⟩
  have KL6 : Hid (L6.length ≤ 124) := hide (by have h1 := KL5.out; have h2 := with_len m.ss LS.out; have h3 := congrArg List.length hL; rw [List.length_append] at h3; omega)
  rw [hL] at S6
  have HL6 := hide hL
  obtain ⟨A6, c6, rfl, _, _⟩ := S6.out.o.shape
  clear T5 hL
  go_wp2_with (with_reducible refine wpList_load_addr_at rfl (.tmp 43) rfl w.heap.size 27 rfl (mro_g HM.out S6.out.b) LG.out ?_)
  refine (refwith_any _ m.gs m.gb LG.out RG.out).mono ?_
  rintro e wb ⟨vb, rfl, hob, hbb⟩
  obtain ⟨Ab, cb, rfl, _, _⟩ := own_shape hob
  have ATb := hide (At.own hob)
  have T6 := hide (S6.out.over hbb)
  clear hob hbb S6
  go_wp2_with (at_builtin; go_must (refine wpList_append_X _ rfl (.tmp 42) (.tmp 45) 38 rfl (w.heap.size + 1) 5 i0 Tryz.underlying38 hi0 hz0 hz1 hz2 (.slice A6 L6.length c6) L6.length L6 rfl T6.out.o _ _ Ab _ cb (withA m.gs m.gb) rfl ATb.out (by have := KL6.out; have := with_len m.gs LG.out; omega) (by have := T6.out.b.lt; omega) ?_); intro vn wn hon hgn _hat; have S7 := hide (T6.out.next hgn hon (rfl)); clear hon hgn _hat; refine Hid.out ?_)
  refine hide ?_
  obtain ⟨L7, hL⟩ : ∃ L7, L6 ++ withA m.gs m.gb = L7 := ⟨_, rfl⟩
  have KL7 : Hid (L7.length ≤ 144) := hide (by have h1 := KL6.out; have h2 := with_len m.gs LG.out; have h3 := congrArg List.length hL; rw [List.length_append] at h3; omega)
  rw [hL] at S7
  have HL7 := hide hL
  obtain ⟨A7, c7, rfl, _, _⟩ := S7.out.o.shape
  clear T6 hL
  have k0 := (S7.out.b.cell 0).trans C0.out
  have ATF := hide S7.out.o.at_
  have BEL := hide S7.out.bel
  have hlt := S7.out.b.lt
  rw [HL4.out, HL5.out, HL6.out, HL7.out] at HB
  clear S7
  generalize L7 = L at *
  obtain ⟨N, hN⟩ : ∃ N, L.length = N := ⟨_, rfl⟩
  have KN : N ≤ 1000 := by have := KL7.out; omega
  rw [hN] at ATF ⊢
  have HN := hide hN
  clear hN
  have HW8 : Hid (((N : Nat) : Int) % 256 = ((UInt8.ofNat N).toNat : Int)) := hide (by simp)
  go_wp2_with (at_builtin; go_must (refine wpList_append_bytes _ rfl (.tmp 59) (.tmp 60) 38 rfl w.heap.size 5 i0 Tryz.underlying38 hi0 hz0 hz1 hz2 _ 2 [7, UInt8.ofNat N] rfl (by rw [HW8.out]; exact own_of_blk (Blk.new _ _ _) (by have := BEL.out.size; omega) (Nat.le_refl _) (by decide) rfl rfl) _ _ A7 _ _ L rfl (ATF.out.alloc (Nat.le_refl _) _) (by omega) (by simp; have := BEL.out.size; omega) ?_); intro vF wF hon hgn _hat; have HO := hide hon; have HG := hide hgn; clear hon hgn _hat; refine Hid.out ?_)
  refine hide ?_
  go_wp2
  go_ret2
  refine ⟨vF, ?_, ?_, ?_⟩
  · rw [HB.out.2]; rfl
  · rw [HB.out.1, HN.out]
    have h := HO.out
    rw [show (7 :: UInt8.ofNat N :: L : List UInt8).length = 2 + N by simp [HN.out]; omega]
    exact h
  · exact (BEL.out.alloc BEL.out.size _).grown HG.out (by simp; have := BEL.out.size; omega) (fun g hg => by have h2 : some wn.heap.size = some g := hg; injection h2 with h2; have := BEL.out.size; omega)
theorem dbytes_any (w : World) (m : Mr) (hm : m.W) (hkey : m.key.length ≤ 10000000000000) :
    Calls Tryz.prog 17 #[.agg (mroC m)] w (DbPost w m) := by
  cases hr : rightM m
  · exact dbytes_no w m hm hkey hr
  · have h1 := ((rightM_iff m).1 hr).core.k1
    have h7 := ((rightM_iff m).1 hr).core.k7
    rcases (show m.k = 1 ∨ m.k = 2 ∨ m.k = 3 ∨ m.k = 4 ∨ m.k = 5 ∨ m.k = 6 ∨ m.k = 7 by omega) with hk | hk | hk | hk | hk | hk | hk
    · exact dbytes_1 w m hm hk hr
    · exact dbytes_2 w m hm hk hr
    · exact dbytes_3 w m hm hk hr
    · exact dbytes_4 w m hm hk hr
    · exact dbytes_5 w m hm hk hr
    · exact dbytes_6 w m hm hk hr
    · exact dbytes_7 w m hm hk hr
end Go.Proofs.YtipgbmajhnkfbaaGreatDoor
