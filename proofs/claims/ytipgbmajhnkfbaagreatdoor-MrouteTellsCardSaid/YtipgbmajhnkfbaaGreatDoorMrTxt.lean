/-
  What flowText, textsOf, its closures and Text of package mroute do, in whatever memory. The one condition beyond sizes that fit memory: the tables hold what their texts lay.
-/
import Derived.Test.YtipgbmajhnkfbaaGreatDoorMrRight3
set_option maxRecDepth 20000
namespace Go.Proofs.YtipgbmajhnkfbaaGreatDoor
open Go.RowKit
set_option linter.unusedVariables false
set_option linter.unusedSimpArgs false
def GlobM (w : World) : Prop := Glob w ∧ Named w
theorem GlobM.below {w w' : World} (h : GlobM w) (hb : Below w.heap.size w w') : GlobM w' := ⟨h.1.below hb, h.2.below hb⟩
theorem textA_100 (s : Int) {bs : List UInt8} (hl : bs.length = 16) : (textA s bs).length ≤ 100 := by
  unfold textA
  split
  · split
    · have := text4_len bs; omega
    · split
      · exact text6_len (by have := rowN_len 8 bs (by omega); omega) (rowN_lt bs)
      · simp
  · simp
theorem nameA_100 (s : Int) {bs : List UInt8} (hl : bs.length = 16) : (nameA s bs).length ≤ 100 := by
  unfold nameA
  split
  · simp
  · exact textA_100 s hl
def txP (m : Mr) : Nat → List UInt8
  | 0 => textR m.rd
  | 1 => numeral 10 m.a.toNat
  | 2 => nameA m.ss m.sb
  | 3 => nameA m.gs m.gb
  | 4 => 91 :: (textM (readP m.key) ++ [93])
  | 5 => textA m.fs m.fb
  | _ => []
def wdK (m : Mr) : Nat → List (List UInt8)
  | 0 => [numeral 10 m.k.toNat]
  | j + 1 => wdK m j ++ (if (partsK m.k).getD j false then [txP m j] else [])
theorem wdK_no {m : Mr} {j : Nat} (h : (partsK m.k).getD j false = false) : wdK m (j + 1) = wdK m j := by rw [wdK, h]; simp
theorem wdK_yes {m : Mr} {j : Nat} (h : (partsK m.k).getD j false = true) : wdK m (j + 1) = wdK m j ++ [txP m j] := by rw [wdK, h]; simp
theorem wdK_len (m : Mr) : ∀ j, (wdK m j).length ≤ j + 1
  | 0 => by simp [wdK]
  | j + 1 => by
    have := wdK_len m j
    rw [wdK]
    split <;> simp <;> omega
theorem num_len {n : Nat} (h : n ≤ 4294967295) : (numeral 10 n).length ≤ 10 := numeral_len (b := 10) (by decide) 9 n (by omega)
theorem tailT_len {m : Mr} (w : m.W) (h0 : m.a ≤ 4294967295) : (tailT m).length ≤ 420 := by
  have h1 := textR_len w.rd
  have h2 := num_len (n := m.a.toNat) (by omega)
  have h3 := nameA_100 m.ss w.sb
  have h4 := nameA_100 m.gs w.gb
  have h5 := textA_100 m.fs w.fb
  unfold tailT
  cases nRd m.k <;> cases nAs m.k <;> cases nAd m.k <;> cases nFr m.k <;> simp <;> omega
theorem textM_plain {m : Mr} (hr : rightM m = true) (hk : m.k ≠ 4) : textM m = textC m := by
  unfold textM textC
  rw [if_pos hr, if_neg hk, List.nil_append]
theorem textC_len {m : Mr} (w : m.W) (h : RightC m) : (textC m).length ≤ 430 := by
  have h1 := tailT_len w h.a32
  have h2 := num_len (n := m.k.toNat) (by have := h.k7; omega)
  unfold textC
  simp
  omega
theorem key_read {m : Mr} (h : RightM m) (hk : m.k = 4) : ∃ x : Mr, readP m.key = x ∧ ansM m.key = x ∧ x.W ∧ RightC x ∧ (x.k = 2 ∨ x.k = 3) ∧ rightM x = true := by
  obtain ⟨x, xw, xr, xk, hx⟩ := (keyM_iff _).1 (h.key hk)
  have xm : RightM x := ⟨xr, fun q => by omega⟩
  refine ⟨x, ?_, ?_, xw, xr, xk, (rightM_iff x).2 xm⟩
  · rw [← hx, read_right xw xm]
  · rw [← hx, ans_bytes xw xr xk]
theorem txP_len {m : Mr} (w : m.W) (h : RightM m) {j : Nat} (hj : j < 6) (hp : (partsK m.k).getD j false = true) : (txP m j).length ≤ 440 := by
  have h1 := textR_len w.rd
  have h2 := num_len (n := m.a.toNat) (by have := h.core.a32; omega)
  have h3 := nameA_100 m.ss w.sb
  have h4 := nameA_100 m.gs w.gb
  have h5 := textA_100 m.fs w.fb
  rcases (show j = 0 ∨ j = 1 ∨ j = 2 ∨ j = 3 ∨ j = 4 ∨ j = 5 by omega) with rfl | rfl | rfl | rfl | rfl | rfl
  · show (textR m.rd).length ≤ 440; omega
  · show (numeral 10 m.a.toNat).length ≤ 440; omega
  · show (nameA m.ss m.sb).length ≤ 440; omega
  · show (nameA m.gs m.gb).length ≤ 440; omega
  · have hk : m.k = 4 := of_decide_eq_true hp
    obtain ⟨x, e1, _, xw, xr, xk, xm⟩ := key_read h hk
    have := textC_len xw xr
    show (91 :: (textM (readP m.key) ++ [93])).length ≤ 440
    rw [e1, textM_plain xm (by omega)]
    simp
    omega
  · show (textA m.fs m.fb).length ≤ 440; omega
theorem wdK_all {m : Mr} (w : m.W) (h : RightM m) : ∀ j, j ≤ 6 → ∀ x ∈ wdK m j, x.length ≤ 440
  | 0, _ => by
    intro x hx
    simp only [wdK, List.mem_singleton] at hx
    subst hx
    have := num_len (n := m.k.toNat) (by have := h.core.k7; omega)
    omega
  | j + 1, hj => by
    have ih := wdK_all w h j (by omega)
    cases e : (partsK m.k).getD j false
    · rw [wdK_no e]; exact ih
    · rw [wdK_yes e]
      intro x hx
      rw [List.mem_append, List.mem_singleton] at hx
      rcases hx with hx | rfl
      · exact ih x hx
      · exact txP_len w h (by omega) e
theorem join_text {m : Mr} (h : RightM m) : Lib.join (wdK m 6) [32] = textM m := by
  have hr := (rightM_iff m).2 h
  have hkey := key_read h
  unfold textM
  rw [if_pos hr]
  obtain ⟨k, rd, a, ss, sb, gs, gb, fs, fb, key⟩ := m
  simp only at hkey
  rcases kinds7 (kwn_of h.core) with q | q | q | q | q | q | q <;> simp only at q <;> subst q
  · simp [wdK, txP, partsK, pRd, kwn, nRd, nAs, nAd, nFr, tailT, Lib.join_cons, Lib.joinTail]
  · simp [wdK, txP, partsK, pRd, kwn, nRd, nAs, nAd, nFr, tailT, Lib.join_cons, Lib.joinTail]
  · simp [wdK, txP, partsK, pRd, kwn, nRd, nAs, nAd, nFr, tailT, Lib.join_cons, Lib.joinTail]
  · obtain ⟨x, e1, e2, xw, xr, xk, xm⟩ := hkey rfl
    simp [wdK, txP, partsK, pRd, kwn, nRd, nAs, nAd, nFr, tailT, Lib.join_cons, Lib.joinTail, e1, e2, textM_plain xm (show x.k ≠ 4 by omega)]
  all_goals simp [wdK, txP, partsK, pRd, kwn, nRd, nAs, nAd, nFr, tailT, Lib.join_cons, Lib.joinTail]
theorem flowText_any (w : World) (s : Int) (bs : List UInt8) (hl : bs.length = 16) (hg : GlobM w) :
    Calls Tryz.prog 58 #[.agg (addrC s bs)] w fun e w' => e = .returned (.string ⟨(nameA s bs).toArray⟩) ∧ Below w.heap.size w w' := by
  have W0 := hide ((Below.refl w.heap.size w).alloc (Nat.le_refl _) (.cells (addrC s bs) 26))
  have HB := hide (Blk.new w 26 (addrC s bs))
  have HG := hide (hg.below W0.out)
  have HL := hide hl
  have c0 := addrC_0 s bs
  clear hl hg
  by_cases hs : s = 0
  · have he : nameA s bs = [42] := by unfold nameA; rw [if_pos hs]
    rw [he]
    subst hs
    go_enter Tryz.func58, Tryz.ntmps58
    go_wp2
    go_ret
    exact ⟨rfl, W0.out⟩
  · have he : nameA s bs = textA s bs := by unfold nameA; rw [if_neg hs]
    rw [he]
    have hsb : (s == 0) = false := beq_eq_false_iff_ne.2 hs
    clear he
    go_enter Tryz.func58, Tryz.ntmps58
    go_wp2_with (with_reducible refine wpList_load_addr rfl (.tmp 1) rfl w.heap.size rfl HB.out HL.out ?_)
    refine (text_any _ s bs HL.out HG.out.1).mono ?_
    rintro e w1 ⟨rfl, hb⟩
    have W1 := hide (below_step W0.out hb (Nat.le_refl _))
    clear hb
    go_wp2
    go_ret
    exact ⟨rfl, W1.out⟩
def TxOk (w : World) (m : Mr) (j : Nat) (e : Ending) (w' : World) : Prop := e = .returned (.string ⟨(txP m j).toArray⟩) ∧ Below w.heap.size w w'
theorem tx1_any (w : World) (g : Nat) (m : Mr) (h : McapAt w g m) (hg : GlobM w) : Calls Tryz.prog 54 #[.pointer (some ⟨g, 0, none⟩)] w (TxOk w m 0) := by
  have HG := hide hg
  have HS := hide (mro_rd h.2 h.1)
  have HL := hide h.2.rd
  clear h hg
  go_enter Tryz.func54, Tryz.ntmps54
  go_wp2_with (with_reducible refine wpList_load_rd_at rfl (.tmp 2) rfl g 1 rfl HS.out HL.out ?_)
  refine (rdtext_any w m.rd HL.out HG.out.1).mono ?_
  rintro e w1 ⟨rfl, hb⟩
  have HB := hide hb
  clear hb
  go_wp2
  go_ret
  exact ⟨rfl, HB.out⟩
theorem tx2_any (w : World) (g : Nat) (m : Mr) (h : McapAt w g m) (hg : GlobM w) (n : Nat) (ha : m.a = (n : Int)) (hn : n ≤ 4294967295) : Calls Tryz.prog 56 #[.pointer (some ⟨g, 0, none⟩)] w (TxOk w m 1) := by
  have HG := hide hg
  have c9 := (h.1.cell 9).trans (mroC_9 h.2)
  rw [ha] at c9
  have HT : Hid (txP m 1 = numeral 10 n) := hide (by show numeral 10 m.a.toNat = _; rw [ha, Int.toNat_natCast])
  clear h hg
  go_enter Tryz.func56, Tryz.ntmps56
  go_wp2_with fail
  refine (itoa_any w n (by omega) HG.out.1).mono ?_
  rintro e w1 ⟨rfl, hb⟩
  have HB := hide hb
  clear hb
  go_wp2
  go_ret
  exact ⟨by rw [HT.out]; rfl, HB.out⟩
theorem tx3_any (w : World) (g : Nat) (m : Mr) (h : McapAt w g m) (hg : GlobM w) : Calls Tryz.prog 57 #[.pointer (some ⟨g, 0, none⟩)] w (TxOk w m 2) := by
  have HG := hide hg
  have HS := hide (mro_s h.2 h.1)
  have HL := hide h.2.sb
  clear h hg
  go_enter Tryz.func57, Tryz.ntmps57
  go_wp2_with (with_reducible refine wpList_load_addr_at rfl (.tmp 2) rfl g 10 rfl HS.out HL.out ?_)
  refine (flowText_any w m.ss m.sb HL.out HG.out).mono ?_
  rintro e w1 ⟨rfl, hb⟩
  have HB := hide hb
  clear hb
  go_wp2
  go_ret
  exact ⟨rfl, HB.out⟩
theorem tx4_any (w : World) (g : Nat) (m : Mr) (h : McapAt w g m) (hg : GlobM w) : Calls Tryz.prog 59 #[.pointer (some ⟨g, 0, none⟩)] w (TxOk w m 3) := by
  have HG := hide hg
  have HS := hide (mro_g h.2 h.1)
  have HL := hide h.2.gb
  clear h hg
  go_enter Tryz.func59, Tryz.ntmps59
  go_wp2_with (with_reducible refine wpList_load_addr_at rfl (.tmp 2) rfl g 27 rfl HS.out HL.out ?_)
  refine (flowText_any w m.gs m.gb HL.out HG.out).mono ?_
  rintro e w1 ⟨rfl, hb⟩
  have HB := hide hb
  clear hb
  go_wp2
  go_ret
  exact ⟨rfl, HB.out⟩
theorem tx6_any (w : World) (g : Nat) (m : Mr) (h : McapAt w g m) (hg : GlobM w) : Calls Tryz.prog 61 #[.pointer (some ⟨g, 0, none⟩)] w (TxOk w m 5) := by
  have HG := hide hg
  have HS := hide (mro_f h.2 h.1)
  have HL := hide h.2.fb
  clear h hg
  go_enter Tryz.func61, Tryz.ntmps61
  go_wp2_with (with_reducible refine wpList_load_addr_at rfl (.tmp 2) rfl g 44 rfl HS.out HL.out ?_)
  refine (text_any w m.fs m.fb HL.out HG.out.1).mono ?_
  rintro e w1 ⟨rfl, hb⟩
  have HB := hide hb
  clear hb
  go_wp2
  go_ret
  exact ⟨rfl, HB.out⟩
theorem add_str {ops : Array Oper} {rest : List Oper} {o : Oper} {a : Act} {w : World} {Q : Exit → Act → World → Prop} (hw : Region.wanted o (yielded ops a.tmps) = true) (x y : Operand) (ho : o.op = .binOp .add 9 x y 9) {s r : List UInt8} (hx : a.eval x = .string ⟨s.toArray⟩) (hy : a.eval y = .string ⟨r.toArray⟩)
    (hl : s.length + r.length ≤ 9223372036854775807) (hk : wpList Tryz.prog ops Q rest (a.put o.dst (.string ⟨(s ++ r).toArray⟩)) w) : wpList Tryz.prog ops Q (o :: rest) a w :=
  wpList_of_exec hw (exec_add_str x y ho hx hy hl) hk
theorem tx5_any (w : World) (g : Nat) (m : Mr) (h : McapAt w g m) (hg : GlobM w) (hkey : m.key.length ≤ 10000000000000) (ht : (textM (readP m.key)).length ≤ 1000)
    (HT : ∀ x, GlobM x → Calls Tryz.prog 10 #[.agg (mroC (readP m.key))] x fun e w' => e = .returned (.string ⟨(textM (readP m.key)).toArray⟩) ∧ Below x.heap.size x w') :
    Calls Tryz.prog 60 #[.pointer (some ⟨g, 0, none⟩)] w (TxOk w m 4) := by
  have HG := hide hg
  have HM := hide h.1
  have HW := hide h.2
  have HL := hide ht
  clear h hg
  go_enter Tryz.func60, Tryz.ntmps60
  go_wp2_with (with_reducible refine wpList_load_mro rfl (.tmp 0) rfl g rfl HM.out HW.out ?_)
  refine (keyed_any w m HW.out hkey HG.out.2).mono ?_
  rintro e w1 ⟨rfl, hb1⟩
  have W1 := hide hb1
  have G1 := hide (HG.out.below hb1)
  clear hb1
  go_wp2_with fail
  refine (HT w1 G1.out).mono ?_
  rintro e w2 ⟨rfl, hb2⟩
  have W2 := hide (W1.out.trans (hb2.mono W1.out.size))
  clear hb2
  have HX : Hid (txP m 4 = [91] ++ textM (readP m.key) ++ [93]) := hide (by show 91 :: (textM (readP m.key) ++ [93]) = _; simp)
  generalize textM (readP m.key) = t at *
  go_wp2_with (first
    | (with_reducible refine add_str rfl (.const (.string ⟨#[91]⟩)) (.tmp 4) rfl (s := [91]) rfl rfl ?_ ?_; (· have := HL.out; simp; omega))
    | (with_reducible refine add_str rfl (.tmp 5) (.const (.string ⟨#[93]⟩)) rfl (r := [93]) rfl rfl ?_ ?_; (· have := HL.out; simp; omega)))
  go_ret
  exact ⟨by rw [HX.out]; rfl, W2.out⟩
def tfC (g : Nat) : Array Value := #[.func (.func 54) #[] #[.pointer (some ⟨g, 0, none⟩)], .func (.func 56) #[] #[.pointer (some ⟨g, 0, none⟩)], .func (.func 57) #[] #[.pointer (some ⟨g, 0, none⟩)], .func (.func 59) #[] #[.pointer (some ⟨g, 0, none⟩)], .func (.func 60) #[] #[.pointer (some ⟨g, 0, none⟩)], .func (.func 61) #[] #[.pointer (some ⟨g, 0, none⟩)]]
theorem tf_one (k : Nat) : (tfC k).all (·.oneCell') = true := by simp [tfC, Value.oneCell']
theorem ret_tf1 {fn : Func} {R : Ending → World → Prop} {a : Act} {w : World} {p : Tmp} {g g' : Nat} {t : TypeId} (hf : fn.results = #[.cell p 53])
    (hp : a.tmps.getD p undef = .pointer (some ⟨g, 0, none⟩)) (h : Blk w g t (tfC g')) (hd : a.defers = []) (hR : R (.returned (.agg (tfC g'))) w) :
    bodyPost Tryz.prog fn R .ret a w := by
  refine bodyPost_ret (v := .agg (tfC g')) ?_ hd hR
  have hp' : a.tmps[p]?.getD undef = .pointer (some ⟨g, 0, none⟩) := by simpa using hp
  have hl := run_loadVar_row (P := Tryz.prog) w g t 53 (tfC g') (0, 0) _ h Tryz.underlying53 rfl (by rw [show (tfC g').size = 6 from rfl]; kernel_rfl)
  simp [results, hf, hp', asAddr, hl]
theorem wpList_store_tf {ops : Array Oper} {rest : List Oper} {o : Oper} {a : Act} {w : World} {Q : Exit → Act → World → Prop} (hgd : o.guard = none) (x y : Operand) (ho : o.op = .store 53 x y)
    (g : Nat) (hx : a.eval x = .pointer (some ⟨g, 0, none⟩)) {k : Nat} (hy : a.eval y = .agg (tfC k)) {t : TypeId} {old : Array Value} (h : Blk w g t old) (hold : old.size = 6)
    (hk : ∀ w', Blk w' g t (tfC k) → w.grownBy w' (some g) → wpList Tryz.prog ops Q rest (a.put o.dst undef) w') : wpList Tryz.prog ops Q (o :: rest) a w :=
  wpList_store_row hgd 53 x y ho g (tfC k) hx hy t old h (by rw [show (tfC k).size = 6 from rfl]; kernel_rfl) (by rw [show (tfC k).size = 6 from rfl, hold]) (tf_one k) (hk _ (h.setRow _) (grown_setRow _ _ _))
theorem textsOf_any (w : World) (m : Mr) (hm : m.W) : Calls Tryz.prog 29 #[.agg (mroC m)] w fun e w' => ∃ g, e = .returned (.agg (tfC g)) ∧ McapAt w' g m ∧ Below w.heap.size w w' := by
  have HM := hide hm
  have HB := hide ((Blk.new w 28 (mroC m)).alloc (.cells #[.nilFunc, .nilFunc, .nilFunc, .nilFunc, .nilFunc, .nilFunc] 53))
  have HN := hide (blk_new2 w (.cells (mroC m) 28) 53 #[.nilFunc, .nilFunc, .nilFunc, .nilFunc, .nilFunc, .nilFunc])
  have W0 := hide (((Below.refl w.heap.size w).alloc (Nat.le_refl _) (.cells (mroC m) 28)).alloc (by simp) (.cells #[.nilFunc, .nilFunc, .nilFunc, .nilFunc, .nilFunc, .nilFunc] 53))
  clear hm
  go_enter Tryz.func29, Tryz.ntmps29
  go_wp2_with (refine wpList_store_tf rfl (.tmp 2) (.tmp 9) rfl (w.heap.size + 1) rfl (k := w.heap.size) rfl HN.out rfl ?_; intro w2 hb2 hg2; have HB2 := hide hb2; have HG2 := hide hg2; clear hb2 hg2; refine Hid.out ?_)
  refine hide ?_
  go_wp2
  refine ret_tf1 (p := 2) (g := w.heap.size + 1) (t := 53) (g' := w.heap.size) rfl rfl HB2.out rfl ⟨_, rfl, ⟨HB.out.grown HG2.out (by simp), HM.out⟩, ?_⟩
  exact W0.out.grown HG2.out (by simp; omega) (by simp)
theorem own_word (w : World) (y : List UInt8) : (w.alloc (.cells #[sv y] 9)).ownsRow w.heap.size 9 1 (.slice (some ⟨w.heap.size, 0, none⟩) 1 1) 1 (svs [y]) :=
  own_of_blk (Blk.new w _ _) (Nat.le_refl _) (Nat.le_refl _) (by decide) rfl rfl
theorem wpList_append_word {w : World} {ops : Array Oper} {rest : List Oper} {o : Oper} {a : Act} {Q : Exit → Act → World → Prop} (hgd : o.guard = none) (s x : Operand)
    (ho : o.op = .call { callee := .builtin .append, args := #[s, x], argTypes := #[51, 51] })
    (base : Nat) (v : Value) (n : Nat) (xs : List (List UInt8)) (hs : a.eval s = v) (hown : w.ownsRow base 9 1 v n (svs xs))
    (g : Nat) (t : TypeId) (y : List UInt8) (hx : a.eval x = .slice (some ⟨g, 0, none⟩) 1 1) (hb : Blk w g t #[sv y]) (hn : n ≤ 8000000000000) (hbase : base ≤ w.heap.size)
    (h : ∀ v' w', w'.ownsRow base 9 1 v' (n + 1) (svs (xs ++ [y])) → w.grownBy w' v.ownBlock → (v'.ownBlock = v.ownBlock ∨ v'.ownBlock = some w.heap.size) → wpList Tryz.prog ops Q rest (a.put o.dst v') w') : wpList Tryz.prog ops Q (o :: rest) a w := by
  obtain ⟨i0, hi0, hz0, hz1, hz2⟩ := info_parts str_info
  obtain ⟨v', w', hrun, h2, h3, _, h5⟩ := run_append_own_at (P := Tryz.prog) w base 51 o.type 9 i0 (.string ⟨#[]⟩) 1 16 Tryz.underlying51 hi0 hz0 hz1 hz2 rfl (by decide) v n (svs xs) hown ⟨g, 0, none⟩ 1 1 [sv y] rfl (fun j u hu => by
      match j, hu with
      | 0, hu =>
        simp at hu
        subst hu
        exact hb.cell 0) (fun u hu => by
      simp at hu
      subst hu
      rfl) (by unfold maxLen; omega) (by omega) hbase
  refine wpList_plain hgd fun K hK => ?_
  unfold Oper.wp execOp
  simp only [ho, resolve, invoke, builtin, Sem.run_bind, Sem.run_pure, Result.andThen_ok, List.map_toArray, List.map_cons, List.map_nil, hs, hx, hrun]
  exact hK _ _ (h v' w' (by unfold svs at h2 ⊢; rw [List.map_append]; exact h2) h3 h5)
theorem text_no (w : World) (m : Mr) (hm : m.W) (hkey : m.key.length ≤ 10000000000000) (hg : GlobM w) (hr : rightM m = false) :
    Calls Tryz.prog 10 #[.agg (mroC m)] w fun e w' => e = .returned (.string ⟨(textM m).toArray⟩) ∧ Below w.heap.size w w' := by
  have he : textM m = [] := by unfold textM; rw [hr]; rfl
  rw [he]
  have W0 := hide ((Below.refl w.heap.size w).alloc (Nat.le_refl _) (.cells (mroC m) 28))
  have HB := hide (Blk.new w 28 (mroC m))
  have HG := hide (hg.below W0.out)
  have HM := hide hm
  have HR := hide hr
  clear hm hg hr he
  go_enter Tryz.func10, Tryz.ntmps10
  go_wp2_with (with_reducible refine wpList_load_mro rfl (.tmp 1) rfl w.heap.size rfl HB.out HM.out ?_)
  refine (rightM_any _ m HM.out hkey HG.out.2).mono ?_
  rw [HR.out]
  rintro e w1 ⟨rfl, hb⟩
  have W1 := hide (below_step W0.out hb (Nat.le_refl _))
  clear hb
  go_wp2
  go_ret
  exact ⟨rfl, W1.out⟩
set_option maxHeartbeats 4000000 in
theorem text_yes (w : World) (m : Mr) (hm : m.W) (hkey : m.key.length ≤ 10000000000000) (hg : GlobM w) (hr : rightM m = true)
    (HT : m.k = 4 → ∀ x, GlobM x → Calls Tryz.prog 10 #[.agg (mroC (readP m.key))] x fun e w' => e = .returned (.string ⟨(textM (readP m.key)).toArray⟩) ∧ Below x.heap.size x w') :
    Calls Tryz.prog 10 #[.agg (mroC m)] w fun e w' => e = .returned (.string ⟨(textM m).toArray⟩) ∧ Below w.heap.size w w' := by
  have hR := (rightM_iff m).1 hr
  have he := join_text hR
  rw [← he]
  have W0 := hide ((Below.refl w.heap.size w).alloc (Nat.le_refl _) (.cells (mroC m) 28))
  have HB := hide (Blk.new w 28 (mroC m))
  have HG0 := hide hg
  have HG := hide (hg.below W0.out)
  have HM := hide hm
  have HR := hide hr
  have HRM := hide hR
  have HTT := hide HT
  have HALL := hide (wdK_all hm hR 6 (by omega))
  have HLT : Hid (m.k = 4 → (textM (readP m.key)).length ≤ 1000) := hide (fun hk => by
    obtain ⟨x, e1, _, xw, xr, xk, xm⟩ := key_read hR hk
    have := textC_len xw xr
    rw [e1, textM_plain xm (by omega)]
    omega)
  have hK1 := hR.core.k1
  have hK7 := hR.core.k7
  have hA0 := hR.core.a0
  have hA1 := hR.core.a32
  obtain ⟨K, hKK⟩ : ∃ K : Nat, m.k = (K : Int) := ⟨m.k.toNat, by omega⟩
  obtain ⟨an, hAN⟩ : ∃ an : Nat, m.a = (an : Int) := ⟨m.a.toNat, by omega⟩
  have HK := hide hKK
  have HAN := hide hAN
  have han : an ≤ 4294967295 := by omega
  have hK8 : K ≤ 7 := by omega
  have HW0 : Hid (wdK m 0 = [numeral 10 K]) := hide (by show [numeral 10 m.k.toNat] = _; rw [hKK, Int.toNat_natCast])
  clear hm hg hr he HT hR hKK hAN hK1 hK7 hA0 hA1
  go_enter Tryz.func10, Tryz.ntmps10
  go_wp2_with (with_reducible refine wpList_load_mro rfl (.tmp 1) rfl w.heap.size rfl HB.out HM.out ?_)
  refine (rightM_any _ m HM.out hkey HG.out.2).mono ?_
  rw [HR.out]
  rintro e w1 ⟨rfl, hb⟩
  have B1 := hide (HB.out.over hb)
  have G1 := hide (HG.out.below hb)
  have W1 := hide (below_step W0.out hb (Nat.le_refl _))
  have k0 := mro_cell_k B1.out
  rw [HK.out] at k0
  clear hb
  go_wp2_with fail
  refine (itoa_any w1 K (by omega) G1.out.1).mono ?_
  rintro e w2 ⟨rfl, hb⟩
  have hwp : w.heap.size < w2.heap.size := (B1.out.over hb).lt
  have B2 := hide ((B1.out.over hb).alloc (.cells #[.string ⟨(numeral 10 K).toArray⟩] 9))
  have W2 := hide (below_step W1.out hb (Nat.le_refl _))
  have W2' := hide (W2.out.alloc W2.out.size (.cells #[.string ⟨(numeral 10 K).toArray⟩] 9))
  have G2 := hide ((G1.out.below hb).below ((Below.refl _ _).alloc (Nat.le_refl _) (.cells #[.string ⟨(numeral 10 K).toArray⟩] 9)))
  have O2 : Hid ((w2.alloc (.cells #[.string ⟨(numeral 10 K).toArray⟩] 9)).ownsRow w2.heap.size 9 1 (.slice (some ⟨w2.heap.size, 0, none⟩) 1 1) 1 (svs [numeral 10 K])) := hide (own_word w2 (numeral 10 K))
  have hs2 := W2.out.size
  have hs2' : (w2.alloc (.cells #[.string ⟨(numeral 10 K).toArray⟩] 9)).heap.size = w2.heap.size + 1 := by simp
  clear hb k0
  go_wp2_with (with_reducible refine wpList_load_mro rfl (.tmp 1) rfl w.heap.size rfl B2.out HM.out ?_)
  generalize hwx : w2.alloc (.cells #[.string ⟨(numeral 10 K).toArray⟩] 9) = wx at B2 W2' G2 O2 hs2' ⊢
  clear hwx
  generalize w2.heap.size = p at *
  refine (textsOf_any wx m HM.out).mono ?_
  rintro e w4 ⟨gc, rfl, hc4, hb4⟩
  have B4 := hide (B2.out.over hb4)
  have C4 := hide hc4
  have G4 := hide (G2.out.below hb4)
  have O4 := hide (own_over O2.out hb4)
  have W4 := hide (below_step W2'.out hb4 (Nat.le_refl _))
  have hs4 := hb4.size
  have hgc := hc4.1.lt
  have hgp : gc ≠ p := by
    intro e
    have h1 := (O2.out.lt p rfl)
    have hc0 := hc4.1
    rw [e] at hc0
    have h2 := (O4.out.cells (g := p) rfl 0 (sv (numeral 10 K)) rfl)
    have h3 := hc0.cell 0
    rw [add_plain] at h2
    rw [h2] at h3
    cases h3
  have NEW := hide (Blk.new w4 53 #[.nilFunc, .nilFunc, .nilFunc, .nilFunc, .nilFunc, .nilFunc])
  clear hc4 hb4
  go_wp2_with (refine wpList_store_tf rfl (.tmp 4) (.tmp 15) rfl w4.heap.size rfl (k := gc) rfl NEW.out rfl ?_; intro w5 hb5 hg5; have F5 := hide hb5; have W45 : Hid (Below w4.heap.size w4 w5) := hide (((Below.refl _ _).alloc (Nat.le_refl _) _).grown hg5 (by simp) (by simp)); clear hb5 hg5; refine Hid.out ?_)
  refine hide ?_
  clear NEW
  have B5 := hide (B4.out.over W45.out)
  have C5 := hide (C4.out.over W45.out C4.out.1.lt)
  have G5 := hide (G4.out.below W45.out)
  have O5 := hide (own_over O4.out W45.out)
  have W5 := hide (below_step W4.out W45.out (Nat.le_refl _))
  have k0 := mro_cell_k B5.out
  have hf5 := F5.out.lt
  go_wp2_with fail
  refine (names_any w5 m.k G5.out.2).mono ?_
  rintro e w6 ⟨rfl, hb6⟩
  have B6 := hide (B5.out.over hb6)
  have C6 := hide (C5.out.over hb6 C5.out.1.lt)
  have G6 := hide (G5.out.below hb6)
  have O6 := hide (own_over O5.out hb6)
  have F6 := hide (F5.out.over hb6)
  have W6 := hide (below_step W5.out hb6 (Nat.le_refl _))
  have hs6 := hb6.size
  have hgt : w4.heap.size ≠ p := by omega
  have hga : w4.heap.size < w5.heap.size := hf5
  generalize w4.heap.size = ga at *
  clear hb6 k0 B2 W2' G2 O2 B4 C4 G4 O4 W4 W45 B5 C5 G5 O5 F5 W5 W2 B1 G1 W1
  go_wp2_with fail
  go_loopw [3, 19] (fun v i wr => ∃ (j c3 : Nat) (B : Option Addr), j ≤ 6 ∧ v = .slice B (wdK m j).length c3 ∧ i = .int .i64 j ∧ wr.ownsRow p 9 1 (.slice B (wdK m j).length c3) (wdK m j).length (svs (wdK m j)) ∧ (∀ g, (Value.slice B (wdK m j).length c3).ownBlock = some g → g = p ∨ w6.heap.size ≤ g) ∧ Turned (fun i => i = p) w6 wr) (fun _ i _ => 6 - (intOf i).toNat)
  case atStart =>
    have h1 : wdK m 0 = [numeral 10 K] := HW0.out
    refine ⟨0, 1, some ⟨p, 0, none⟩, by omega, by rw [h1]; rfl, rfl, by rw [h1]; exact O6.out, ?_, Turned.refl _ _⟩
    intro g hg
    exact .inl (by injection hg with hg; exact hg.symm)
  case round =>
    obtain ⟨j, c3, B, hj, rfl, rfl, hown, hob, htu⟩ := hrel
    have HO := hide hown
    have HOB := hide hob
    have HT := hide htu
    have hsr := htu.size
    have Br := hide (htu.blk B6.out (by omega))
    have Cr : Hid (McapAt wr gc m) := hide ⟨htu.blk C6.out.1 hgp, C6.out.2⟩
    have Fr := hide (htu.blk F6.out hgt)
    have Wr := hide (W6.out.trans (htu.to_below W6.out.size (fun i hi => by omega)))
    have Gr := hide (HG0.out.below Wr.out)
    have HL := hide (wdK_len m j)
    clear hown hob htu
    rcases (show j = 0 ∨ j = 1 ∨ j = 2 ∨ j = 3 ∨ j = 4 ∨ j = 5 ∨ j = 6 by omega) with rfl | rfl | rfl | rfl | rfl | rfl | rfl
    · cases hp : (partsK m.k).getD 0 false
      · have HP := hide hp
        clear hp
        go_wp2_with (with_reducible refine wpList_index_nm rfl (.tmp 18) (.tmp 19) rfl m.k 0 (by omega) rfl rfl _ HP.out ?_)
        go_roundw
        case rel => exact ⟨1, c3, B, by omega, by rw [wdK_no HP.out], rfl, by rw [wdK_no HP.out]; exact HO.out, by rw [wdK_no HP.out]; exact HOB.out, HT.out⟩
        case measure => simp [intOf]
      · have HP := hide hp
        have hf := (Fr.out.cell 0).trans (show (tfC gc)[0]? = some (.func (.func 54) #[] #[.pointer (some ⟨gc, 0, none⟩)]) from rfl)
        clear hp
        go_wp2_with (with_reducible refine wpList_index_nm rfl (.tmp 18) (.tmp 19) rfl m.k 0 (by omega) rfl rfl _ HP.out ?_)
        refine (tx1_any wr gc m Cr.out Gr.out).mono ?_
        rintro e w7 ⟨rfl, hb7⟩
        have HO7 := hide (own_over HO.out hb7)
        have T7 := hide (HT.out.below hb7)
        have hs7 := hb7.size
        have NB := hide (Blk.new w7 9 #[.string ⟨(txP m 0).toArray⟩])
        clear hb7 hf
        go_wp2_with (at_builtin; go_must (refine wpList_append_word rfl (.tmp 24) (.tmp 29) rfl p (.slice B (wdK m 0).length c3) (wdK m 0).length (wdK m 0) rfl (HO7.out.alloc (.cells #[.string ⟨(txP m 0).toArray⟩] 9)) w7.heap.size 9 (txP m 0) rfl NB.out (by have h1 := HL.out; omega) (by simp; omega) ?_); intro v8 w8 ho8 hg8 hob8; rw [← wdK_yes HP.out] at ho8; have hln : (wdK m 0).length + 1 = (wdK m (0 + 1)).length := (by rw [wdK_yes HP.out]; simp); rw [hln] at ho8; have HO8 := hide ho8; have HG8 := hide hg8; have HB8 := hide hob8; clear ho8 hg8 hob8 hln)
        obtain ⟨A8, c8, rfl, _, _⟩ := own_shape HO8.out
        go_roundw
        case rel =>
          refine ⟨1, c8, A8, by omega, rfl, rfl, HO8.out, fun g hg => ?_, (T7.out.alloc _).grown HG8.out (fun g hg => HOB.out g hg)⟩
          rcases HB8.out with h1 | h1
          · rw [h1] at hg; exact HOB.out g hg
          · rw [h1] at hg; injection hg with hg; simp at hg; exact .inr (by omega)
        case measure => simp [intOf]
    · cases hp : (partsK m.k).getD 1 false
      · have HP := hide hp
        clear hp
        go_wp2_with (with_reducible refine wpList_index_nm rfl (.tmp 18) (.tmp 19) rfl m.k 1 (by omega) rfl rfl _ HP.out ?_)
        go_roundw
        case rel => exact ⟨2, c3, B, by omega, by rw [wdK_no HP.out], rfl, by rw [wdK_no HP.out]; exact HO.out, by rw [wdK_no HP.out]; exact HOB.out, HT.out⟩
        case measure => simp [intOf]
      · have HP := hide hp
        have hf := (Fr.out.cell 1).trans (show (tfC gc)[1]? = some (.func (.func 56) #[] #[.pointer (some ⟨gc, 0, none⟩)]) from rfl)
        clear hp
        go_wp2_with (with_reducible refine wpList_index_nm rfl (.tmp 18) (.tmp 19) rfl m.k 1 (by omega) rfl rfl _ HP.out ?_)
        refine (tx2_any wr gc m Cr.out Gr.out an HAN.out han).mono ?_
        rintro e w7 ⟨rfl, hb7⟩
        have HO7 := hide (own_over HO.out hb7)
        have T7 := hide (HT.out.below hb7)
        have hs7 := hb7.size
        have NB := hide (Blk.new w7 9 #[.string ⟨(txP m 1).toArray⟩])
        clear hb7 hf
        go_wp2_with (at_builtin; go_must (refine wpList_append_word rfl (.tmp 24) (.tmp 29) rfl p (.slice B (wdK m 1).length c3) (wdK m 1).length (wdK m 1) rfl (HO7.out.alloc (.cells #[.string ⟨(txP m 1).toArray⟩] 9)) w7.heap.size 9 (txP m 1) rfl NB.out (by have h1 := HL.out; omega) (by simp; omega) ?_); intro v8 w8 ho8 hg8 hob8; rw [← wdK_yes HP.out] at ho8; have hln : (wdK m 1).length + 1 = (wdK m (1 + 1)).length := (by rw [wdK_yes HP.out]; simp); rw [hln] at ho8; have HO8 := hide ho8; have HG8 := hide hg8; have HB8 := hide hob8; clear ho8 hg8 hob8 hln)
        obtain ⟨A8, c8, rfl, _, _⟩ := own_shape HO8.out
        go_roundw
        case rel =>
          refine ⟨2, c8, A8, by omega, rfl, rfl, HO8.out, fun g hg => ?_, (T7.out.alloc _).grown HG8.out (fun g hg => HOB.out g hg)⟩
          rcases HB8.out with h1 | h1
          · rw [h1] at hg; exact HOB.out g hg
          · rw [h1] at hg; injection hg with hg; simp at hg; exact .inr (by omega)
        case measure => simp [intOf]
    · cases hp : (partsK m.k).getD 2 false
      · have HP := hide hp
        clear hp
        go_wp2_with (with_reducible refine wpList_index_nm rfl (.tmp 18) (.tmp 19) rfl m.k 2 (by omega) rfl rfl _ HP.out ?_)
        go_roundw
        case rel => exact ⟨3, c3, B, by omega, by rw [wdK_no HP.out], rfl, by rw [wdK_no HP.out]; exact HO.out, by rw [wdK_no HP.out]; exact HOB.out, HT.out⟩
        case measure => simp [intOf]
      · have HP := hide hp
        have hf := (Fr.out.cell 2).trans (show (tfC gc)[2]? = some (.func (.func 57) #[] #[.pointer (some ⟨gc, 0, none⟩)]) from rfl)
        clear hp
        go_wp2_with (with_reducible refine wpList_index_nm rfl (.tmp 18) (.tmp 19) rfl m.k 2 (by omega) rfl rfl _ HP.out ?_)
        refine (tx3_any wr gc m Cr.out Gr.out).mono ?_
        rintro e w7 ⟨rfl, hb7⟩
        have HO7 := hide (own_over HO.out hb7)
        have T7 := hide (HT.out.below hb7)
        have hs7 := hb7.size
        have NB := hide (Blk.new w7 9 #[.string ⟨(txP m 2).toArray⟩])
        clear hb7 hf
        go_wp2_with (at_builtin; go_must (refine wpList_append_word rfl (.tmp 24) (.tmp 29) rfl p (.slice B (wdK m 2).length c3) (wdK m 2).length (wdK m 2) rfl (HO7.out.alloc (.cells #[.string ⟨(txP m 2).toArray⟩] 9)) w7.heap.size 9 (txP m 2) rfl NB.out (by have h1 := HL.out; omega) (by simp; omega) ?_); intro v8 w8 ho8 hg8 hob8; rw [← wdK_yes HP.out] at ho8; have hln : (wdK m 2).length + 1 = (wdK m (2 + 1)).length := (by rw [wdK_yes HP.out]; simp); rw [hln] at ho8; have HO8 := hide ho8; have HG8 := hide hg8; have HB8 := hide hob8; clear ho8 hg8 hob8 hln)
        obtain ⟨A8, c8, rfl, _, _⟩ := own_shape HO8.out
        go_roundw
        case rel =>
          refine ⟨3, c8, A8, by omega, rfl, rfl, HO8.out, fun g hg => ?_, (T7.out.alloc _).grown HG8.out (fun g hg => HOB.out g hg)⟩
          rcases HB8.out with h1 | h1
          · rw [h1] at hg; exact HOB.out g hg
          · rw [h1] at hg; injection hg with hg; simp at hg; exact .inr (by omega)
        case measure => simp [intOf]
    · cases hp : (partsK m.k).getD 3 false
      · have HP := hide hp
        clear hp
        go_wp2_with (with_reducible refine wpList_index_nm rfl (.tmp 18) (.tmp 19) rfl m.k 3 (by omega) rfl rfl _ HP.out ?_)
        go_roundw
        case rel => exact ⟨4, c3, B, by omega, by rw [wdK_no HP.out], rfl, by rw [wdK_no HP.out]; exact HO.out, by rw [wdK_no HP.out]; exact HOB.out, HT.out⟩
        case measure => simp [intOf]
      · have HP := hide hp
        have hf := (Fr.out.cell 3).trans (show (tfC gc)[3]? = some (.func (.func 59) #[] #[.pointer (some ⟨gc, 0, none⟩)]) from rfl)
        clear hp
        go_wp2_with (with_reducible refine wpList_index_nm rfl (.tmp 18) (.tmp 19) rfl m.k 3 (by omega) rfl rfl _ HP.out ?_)
        refine (tx4_any wr gc m Cr.out Gr.out).mono ?_
        rintro e w7 ⟨rfl, hb7⟩
        have HO7 := hide (own_over HO.out hb7)
        have T7 := hide (HT.out.below hb7)
        have hs7 := hb7.size
        have NB := hide (Blk.new w7 9 #[.string ⟨(txP m 3).toArray⟩])
        clear hb7 hf
        go_wp2_with (at_builtin; go_must (refine wpList_append_word rfl (.tmp 24) (.tmp 29) rfl p (.slice B (wdK m 3).length c3) (wdK m 3).length (wdK m 3) rfl (HO7.out.alloc (.cells #[.string ⟨(txP m 3).toArray⟩] 9)) w7.heap.size 9 (txP m 3) rfl NB.out (by have h1 := HL.out; omega) (by simp; omega) ?_); intro v8 w8 ho8 hg8 hob8; rw [← wdK_yes HP.out] at ho8; have hln : (wdK m 3).length + 1 = (wdK m (3 + 1)).length := (by rw [wdK_yes HP.out]; simp); rw [hln] at ho8; have HO8 := hide ho8; have HG8 := hide hg8; have HB8 := hide hob8; clear ho8 hg8 hob8 hln)
        obtain ⟨A8, c8, rfl, _, _⟩ := own_shape HO8.out
        go_roundw
        case rel =>
          refine ⟨4, c8, A8, by omega, rfl, rfl, HO8.out, fun g hg => ?_, (T7.out.alloc _).grown HG8.out (fun g hg => HOB.out g hg)⟩
          rcases HB8.out with h1 | h1
          · rw [h1] at hg; exact HOB.out g hg
          · rw [h1] at hg; injection hg with hg; simp at hg; exact .inr (by omega)
        case measure => simp [intOf]
    · cases hp : (partsK m.k).getD 4 false
      · have HP := hide hp
        clear hp
        go_wp2_with (with_reducible refine wpList_index_nm rfl (.tmp 18) (.tmp 19) rfl m.k 4 (by omega) rfl rfl _ HP.out ?_)
        go_roundw
        case rel => exact ⟨5, c3, B, by omega, by rw [wdK_no HP.out], rfl, by rw [wdK_no HP.out]; exact HO.out, by rw [wdK_no HP.out]; exact HOB.out, HT.out⟩
        case measure => simp [intOf]
      · have HP := hide hp
        have hf := (Fr.out.cell 4).trans (show (tfC gc)[4]? = some (.func (.func 60) #[] #[.pointer (some ⟨gc, 0, none⟩)]) from rfl)
        have hk4 : m.k = 4 := of_decide_eq_true hp
        have HK4 := hide hk4
        clear hk4
        clear hp
        go_wp2_with (with_reducible refine wpList_index_nm rfl (.tmp 18) (.tmp 19) rfl m.k 4 (by omega) rfl rfl _ HP.out ?_)
        refine (tx5_any wr gc m Cr.out Gr.out hkey (HLT.out HK4.out) (HTT.out HK4.out)).mono ?_
        rintro e w7 ⟨rfl, hb7⟩
        have HO7 := hide (own_over HO.out hb7)
        have T7 := hide (HT.out.below hb7)
        have hs7 := hb7.size
        have NB := hide (Blk.new w7 9 #[.string ⟨(txP m 4).toArray⟩])
        clear hb7 hf
        go_wp2_with (at_builtin; go_must (refine wpList_append_word rfl (.tmp 24) (.tmp 29) rfl p (.slice B (wdK m 4).length c3) (wdK m 4).length (wdK m 4) rfl (HO7.out.alloc (.cells #[.string ⟨(txP m 4).toArray⟩] 9)) w7.heap.size 9 (txP m 4) rfl NB.out (by have h1 := HL.out; omega) (by simp; omega) ?_); intro v8 w8 ho8 hg8 hob8; rw [← wdK_yes HP.out] at ho8; have hln : (wdK m 4).length + 1 = (wdK m (4 + 1)).length := (by rw [wdK_yes HP.out]; simp); rw [hln] at ho8; have HO8 := hide ho8; have HG8 := hide hg8; have HB8 := hide hob8; clear ho8 hg8 hob8 hln)
        obtain ⟨A8, c8, rfl, _, _⟩ := own_shape HO8.out
        go_roundw
        case rel =>
          refine ⟨5, c8, A8, by omega, rfl, rfl, HO8.out, fun g hg => ?_, (T7.out.alloc _).grown HG8.out (fun g hg => HOB.out g hg)⟩
          rcases HB8.out with h1 | h1
          · rw [h1] at hg; exact HOB.out g hg
          · rw [h1] at hg; injection hg with hg; simp at hg; exact .inr (by omega)
        case measure => simp [intOf]
    · cases hp : (partsK m.k).getD 5 false
      · have HP := hide hp
        clear hp
        go_wp2_with (with_reducible refine wpList_index_nm rfl (.tmp 18) (.tmp 19) rfl m.k 5 (by omega) rfl rfl _ HP.out ?_)
        go_roundw
        case rel => exact ⟨6, c3, B, by omega, by rw [wdK_no HP.out], rfl, by rw [wdK_no HP.out]; exact HO.out, by rw [wdK_no HP.out]; exact HOB.out, HT.out⟩
        case measure => simp [intOf]
      · have HP := hide hp
        have hf := (Fr.out.cell 5).trans (show (tfC gc)[5]? = some (.func (.func 61) #[] #[.pointer (some ⟨gc, 0, none⟩)]) from rfl)
        clear hp
        go_wp2_with (with_reducible refine wpList_index_nm rfl (.tmp 18) (.tmp 19) rfl m.k 5 (by omega) rfl rfl _ HP.out ?_)
        refine (tx6_any wr gc m Cr.out Gr.out).mono ?_
        rintro e w7 ⟨rfl, hb7⟩
        have HO7 := hide (own_over HO.out hb7)
        have T7 := hide (HT.out.below hb7)
        have hs7 := hb7.size
        have NB := hide (Blk.new w7 9 #[.string ⟨(txP m 5).toArray⟩])
        clear hb7 hf
        go_wp2_with (at_builtin; go_must (refine wpList_append_word rfl (.tmp 24) (.tmp 29) rfl p (.slice B (wdK m 5).length c3) (wdK m 5).length (wdK m 5) rfl (HO7.out.alloc (.cells #[.string ⟨(txP m 5).toArray⟩] 9)) w7.heap.size 9 (txP m 5) rfl NB.out (by have h1 := HL.out; omega) (by simp; omega) ?_); intro v8 w8 ho8 hg8 hob8; rw [← wdK_yes HP.out] at ho8; have hln : (wdK m 5).length + 1 = (wdK m (5 + 1)).length := (by rw [wdK_yes HP.out]; simp); rw [hln] at ho8; have HO8 := hide ho8; have HG8 := hide hg8; have HB8 := hide hob8; clear ho8 hg8 hob8 hln)
        obtain ⟨A8, c8, rfl, _, _⟩ := own_shape HO8.out
        go_roundw
        case rel =>
          refine ⟨6, c8, A8, by omega, rfl, rfl, HO8.out, fun g hg => ?_, (T7.out.alloc _).grown HG8.out (fun g hg => HOB.out g hg)⟩
          rcases HB8.out with h1 | h1
          · rw [h1] at hg; exact HOB.out g hg
          · rw [h1] at hg; injection hg with hg; simp at hg; exact .inr (by omega)
        case measure => simp [intOf]
    · go_wp2_with fail
      refine (joined_any wr p B _ c3 (wdK m 6) [32] HO.out (by have h1 := HL.out; omega) 440 (by decide) HALL.out).mono ?_
      rintro e w9 ⟨rfl, hb9⟩
      have W9 := hide (Wr.out.trans (hb9.mono (by have := W6.out.size; omega)))
      clear hb9
      go_wp2
      go_ret
      exact ⟨rfl, W9.out⟩
theorem text_plain (w : World) (m : Mr) (hm : m.W) (hkey : m.key.length ≤ 10000000000000) (hg : GlobM w) (hk : m.k ≠ 4) :
    Calls Tryz.prog 10 #[.agg (mroC m)] w fun e w' => e = .returned (.string ⟨(textM m).toArray⟩) ∧ Below w.heap.size w w' := by
  cases hr : rightM m
  · exact text_no w m hm hkey hg hr
  · exact text_yes w m hm hkey hg hr (fun e => absurd e hk)
theorem textM_any (w : World) (m : Mr) (hm : m.W) (hkey : m.key.length ≤ 10000000000000) (hg : GlobM w) :
    Calls Tryz.prog 10 #[.agg (mroC m)] w fun e w' => e = .returned (.string ⟨(textM m).toArray⟩) ∧ Below w.heap.size w w' := by
  cases hr : rightM m
  · exact text_no w m hm hkey hg hr
  · refine text_yes w m hm hkey hg hr (fun hk x hx => ?_)
    obtain ⟨y, e1, _, yw, yr, yk, ym⟩ := key_read ((rightM_iff m).1 hr) hk
    rw [e1]
    exact text_plain x y yw (by rw [yr.key (by omega)]; simp) hx (by omega)
end Go.Proofs.YtipgbmajhnkfbaaGreatDoor
