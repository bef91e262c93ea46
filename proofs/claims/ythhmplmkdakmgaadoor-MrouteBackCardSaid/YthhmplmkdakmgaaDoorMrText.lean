/-
  Plain mathematics of layer 7's texts: unlike routes have unlike texts. Nothing here speaks of the program.
-/
import Derived.Test.YthhmplmkdakmgaaDoorMrMath2
namespace Go.Proofs.YthhmplmkdakmgaaDoor
set_option linter.unusedVariables false
set_option linter.unusedSimpArgs false

/-- a sign that is in no text of an address or a distinguisher -/
def Odd (c : UInt8) : Prop := ¬ isDigit c ∧ c ≠ 46 ∧ c ≠ 58 ∧ c ≠ 63
theorem odd32 : Odd 32 := by refine ⟨?_, by decide, by decide, by decide⟩; unfold isDigit; decide
theorem odd93 : Odd 93 := by refine ⟨?_, by decide, by decide, by decide⟩; unfold isDigit; decide
theorem odd42 : Odd 42 := by refine ⟨?_, by decide, by decide, by decide⟩; unfold isDigit; decide
theorem text_odd {c : UInt8} (h : Odd c) (s : Int) (bs : List UInt8) : c ∉ textA s bs := by
  obtain ⟨hd, h46, h58, _⟩ := h
  unfold textA
  split
  · split
    · have ht : text4 bs = Lib.join (((bs.take 4).map (·.toNat)).map (numeral 10)) [46] := by
        unfold text4
        rw [List.map_map]
        rfl
      rw [ht]
      exact join_not (by decide) (by decide) hd h46 _
    · split
      · have h : ∀ xs : List Nat, c ∉ joinN xs := fun xs => join_not (by decide) (by decide) hd h58 xs
        unfold text6
        split
        · exact h _
        · simp only [List.mem_append, not_or]
          exact ⟨⟨h _, by simp [h58]⟩, h _⟩
      · simp
  · simp
theorem num_odd {c : UInt8} (h : Odd c) (n : Nat) : c ∉ numeral 10 n := numeral_not (by decide) (by decide) n h.1
theorem textR_odd {c : UInt8} (h : Odd c) (d : List UInt8) : c ∉ textR d := by
  unfold textR
  split
  · simp only [List.mem_append, List.mem_cons, not_or]
    refine ⟨num_odd h _, h.2.2.1, ?_, h.2.2.1, num_odd h _⟩
    unfold hiT
    split
    · exact text_odd h _ _
    · exact num_odd h _
  · simp only [List.mem_cons, not_or]
    exact ⟨h.2.2.2, h.2.2.1, fun hm => h.1 (hexs_dig d c hm)⟩
theorem sep_inj {c : UInt8} : ∀ {x x' y y' : List UInt8}, c ∉ x → c ∉ x' → x ++ c :: y = x' ++ c :: y' → x = x' ∧ y = y'
  | [], [], y, y', _, _, h => by simp at h; exact ⟨rfl, h⟩
  | [], b :: x', y, y', _, h', h => by simp at h; exact absurd h.1 (fun e => h' (by simp [e]))
  | a :: x, [], y, y', hx, _, h => by simp at h; exact absurd h.1 (fun e => hx (by simp [e]))
  | a :: x, b :: x', y, y', hx, hx', h => by
    simp only [List.cons_append, List.cons.injEq] at h
    obtain ⟨rfl, h⟩ := h
    obtain ⟨rfl, rfl⟩ := sep_inj (fun e => hx (by simp [e])) (fun e => hx' (by simp [e])) h
    exact ⟨rfl, rfl⟩
theorem textA_inj {s t : Int} {xs ys : List UInt8} (hx : xs.length = 16) (hy : ys.length = 16) (rx : rightA s xs = true) (ry : rightA t ys = true) (h : textA s xs = textA t ys) : s = t ∧ xs = ys := by
  have h1 := parse_text hx rx
  have h2 := parse_text hy ry
  rw [h, h2] at h1
  simp only [Prod.mk.injEq, and_true] at h1
  exact ⟨h1.1.symm, h1.2.symm⟩
theorem num_inj {n m : Nat} (hn : n ≤ 4294967295) (hm : m ≤ 4294967295) (h : numeral 10 n = numeral 10 m) : n = m := by
  have h1 := (numeral_num (b := 10) (top := 4294967295) (by decide) (by decide) hn).2
  have h2 := (numeral_num (b := 10) (top := 4294967295) (by decide) (by decide) hm).2
  rw [h, h2] at h1
  exact h1.symm
def nameA (s : Int) (bs : List UInt8) : List UInt8 := if s = 0 then [42] else textA s bs
theorem name_odd {c : UInt8} (h : Odd c) (h42 : c ≠ 42) (s : Int) (bs : List UInt8) : c ∉ nameA s bs := by
  unfold nameA
  split
  · simp [h42]
  · exact text_odd h s bs
theorem right_none {bs : List UInt8} (hl : bs.length = 16) (h : rightA 0 bs = true) : bs = zero16 := by
  unfold rightA at h
  rw [Bool.and_eq_true] at h
  have h2 : ∀ x ∈ bs, x = 0 := by simpa using h.2
  exact List.eq_replicate_iff.2 ⟨hl, h2⟩
theorem nameA_inj {s t : Int} {xs ys : List UInt8} (hx : xs.length = 16) (hy : ys.length = 16) (rx : rightA s xs = true) (ry : rightA t ys = true) (h : nameA s xs = nameA t ys) : s = t ∧ xs = ys := by
  unfold nameA at h
  by_cases hs : s = 0
  · by_cases ht : t = 0
    · subst hs ht
      exact ⟨rfl, by rw [right_none hx rx, right_none hy ry]⟩
    · rw [if_pos hs, if_neg ht] at h
      exact absurd (show (42 : UInt8) ∈ textA t ys by rw [← h]; simp) (text_odd odd42 t ys)
  · by_cases ht : t = 0
    · rw [if_neg hs, if_pos ht] at h
      exact absurd (show (42 : UInt8) ∈ textA s xs by rw [h]; simp) (text_odd odd42 s xs)
    · rw [if_neg hs, if_neg ht] at h
      exact textA_inj hx hy rx ry h
/-- the text of a route that is no leaf; of a leaf, what stands behind its kind but for the bracket -/
def tailT (m : Mr) : List UInt8 :=
  (if nRd m.k then 32 :: textR m.rd else []) ++ ((if nAs m.k then 32 :: numeral 10 m.a.toNat else []) ++ ((if nAd m.k then 32 :: (nameA m.ss m.sb ++ 32 :: nameA m.gs m.gb) else []) ++ (if nFr m.k then 32 :: textA m.fs m.fb else [])))
def ansM (key : List UInt8) : Mr := match key with | x :: _ :: b => (decM (x.toNat : Nat) b).getD mr0 | _ => mr0
def textC (m : Mr) : List UInt8 := numeral 10 m.k.toNat ++ tailT m
def textM (m : Mr) : List UInt8 :=
  if rightM m then numeral 10 m.k.toNat ++ ((if m.k = 4 then 32 :: 91 :: (textC (ansM m.key) ++ [93]) else []) ++ tailT m) else []
theorem ans_bytes {m : Mr} (w : m.W) (h : RightC m) (hk : m.k = 2 ∨ m.k = 3) : ansM (bytesM m) = m := by
  have hc : ((m.k.toNat : Nat) : Int) = m.k := by omega
  unfold bytesM
  rw [ansM, ofNat_toNat (by omega), hc, dec_body w h (by omega)]
  rfl
theorem tail_odd93 (m : Mr) : (93 : UInt8) ∉ tailT m := by
  unfold tailT
  have h1 := textR_odd odd93 m.rd
  have h2 := num_odd odd93 m.a.toNat
  have h3 := name_odd odd93 (by decide) m.ss m.sb
  have h4 := name_odd odd93 (by decide) m.gs m.gb
  have h5 := text_odd odd93 m.fs m.fb
  cases nRd m.k <;> cases nAs m.k <;> cases nAd m.k <;> cases nFr m.k <;> simp [h1, h2, h3, h4, h5]
/-- of routes of one kind what stands behind tells all but the key -/
theorem tail_inj {m o : Mr} (w : m.W) (w' : o.W) (h : RightC m) (h' : RightC o) (hk : m.k = o.k) (e : tailT m = tailT o) :
    m.rd = o.rd ∧ m.a = o.a ∧ m.ss = o.ss ∧ m.sb = o.sb ∧ m.gs = o.gs ∧ m.gb = o.gb ∧ m.fs = o.fs ∧ m.fb = o.fb := by
  have rdI : textR m.rd = textR o.rd → m.rd = o.rd := (textR_inj w.rd w'.rd).1
  have aI : numeral 10 m.a.toNat = numeral 10 o.a.toNat → m.a = o.a := fun q => by
    have h1 := h.a0
    have h2 := h.a32
    have h3 := h'.a0
    have h4 := h'.a32
    have := num_inj (by omega) (by omega) q
    omega
  have k1 := h.k1
  have k7 := h.k7
  unfold tailT at e
  rw [← hk] at e
  have as0 := h.as0
  have as0' := h'.as0
  have rd0 := h.rd
  have rd0' := h'.rd
  have src := h.src
  have src' := h'.src
  have grp := h.grp
  have grp' := h'.grp
  have fr0 := h.fr0
  have fr0' := h'.fr0
  have fr := h.fr
  have fr' := h'.fr
  have fl := h.fl
  have fl' := h'.fl
  rw [← hk] at as0' rd0' src' grp' fr0' fr' fl'
  have n1 := textR_odd odd32 m.rd
  have n1' := textR_odd odd32 o.rd
  have n2 := num_odd odd32 m.a.toNat
  have n2' := num_odd odd32 o.a.toNat
  have n3 := name_odd odd32 (by decide) m.ss m.sb
  have n3' := name_odd odd32 (by decide) o.ss o.sb
  have n4 := name_odd odd32 (by decide) m.gs m.gb
  have n4' := name_odd odd32 (by decide) o.gs o.gb
  rcases (show m.k = 1 ∨ m.k = 2 ∨ m.k = 3 ∨ m.k = 4 ∨ m.k = 5 ∨ m.k = 6 ∨ m.k = 7 by omega) with q | q | q | q | q | q | q
  · rw [q] at e as0 as0' src src' grp grp' fr fr'
    simp only [nRd, nAs, nAd, nFr] at e as0 as0' src src' grp grp' fr fr'
    simp at e as0 as0' src src' grp grp' fr fr'
    obtain ⟨e1, e2⟩ := sep_inj n1 n1' e
    obtain ⟨f1, f2⟩ := textA_inj w.fb w'.fb fr.1 fr'.1 e2
    exact ⟨rdI e1, by rw [as0, as0'], by rw [src.1, src'.1], by rw [src.2, src'.2], by rw [grp.1, grp'.1], by rw [grp.2, grp'.2], f1, f2⟩
  · rw [q] at e fr0 fr0' src src' grp grp'
    simp only [nRd, nAs, nAd, nFr] at e fr0 fr0' src src' grp grp'
    simp at e fr0 fr0' src src' grp grp'
    obtain ⟨e1, e2⟩ := sep_inj n1 n1' e
    exact ⟨rdI e1, aI e2, by rw [src.1, src'.1], by rw [src.2, src'.2], by rw [grp.1, grp'.1], by rw [grp.2, grp'.2], by rw [fr0.1, fr0'.1], by rw [fr0.2, fr0'.2]⟩
  · rw [q] at e as0 as0' fl fl' fr fr'
    simp only [nRd, nAs, nAd, nFr] at e as0 as0' fl fl' fr fr'
    simp at e as0 as0' fl fl' fr fr'
    obtain ⟨r1, r2⟩ := flow_right fl
    obtain ⟨r1', r2'⟩ := flow_right fl'
    obtain ⟨e1, e2⟩ := sep_inj n1 n1' e
    obtain ⟨e3, e4⟩ := sep_inj n3 n3' e2
    obtain ⟨e5, e6⟩ := sep_inj n4 n4' e4
    obtain ⟨f1, f2⟩ := textA_inj w.fb w'.fb fr.1 fr'.1 e6
    obtain ⟨g1, g2⟩ := nameA_inj w.sb w'.sb r1 r1' e3
    obtain ⟨g3, g4⟩ := nameA_inj w.gb w'.gb r2 r2' e5
    exact ⟨rdI e1, by rw [as0, as0'], g1, g2, g3, g4, f1, f2⟩
  · rw [q] at e as0 as0' src src' grp grp' fr fr' rd0 rd0'
    simp only [nRd, nAs, nAd, nFr] at e as0 as0' src src' grp grp' fr fr' rd0 rd0'
    simp at e as0 as0' src src' grp grp' fr fr' rd0 rd0'
    obtain ⟨f1, f2⟩ := textA_inj w.fb w'.fb fr.1 fr'.1 e
    exact ⟨by rw [rd0, rd0'], by rw [as0, as0'], by rw [src.1, src'.1], by rw [src.2, src'.2], by rw [grp.1, grp'.1], by rw [grp.2, grp'.2], f1, f2⟩
  · rw [q] at e as0 as0' fl fl' fr0 fr0'
    simp only [nRd, nAs, nAd, nFr] at e as0 as0' fl fl' fr0 fr0'
    simp at e as0 as0' fl fl' fr0 fr0'
    obtain ⟨r1, r2⟩ := flow_right fl
    obtain ⟨r1', r2'⟩ := flow_right fl'
    obtain ⟨e1, e2⟩ := sep_inj n1 n1' e
    obtain ⟨e3, e4⟩ := sep_inj n3 n3' e2
    obtain ⟨g1, g2⟩ := nameA_inj w.sb w'.sb r1 r1' e3
    obtain ⟨g3, g4⟩ := nameA_inj w.gb w'.gb r2 r2' e4
    exact ⟨rdI e1, by rw [as0, as0'], g1, g2, g3, g4, by rw [fr0.1, fr0'.1], by rw [fr0.2, fr0'.2]⟩
  all_goals
    rw [q] at e fl fl' fr0 fr0'
    simp only [nRd, nAs, nAd, nFr] at e fl fl' fr0 fr0'
    simp at e fl fl' fr0 fr0'
    obtain ⟨r1, r2⟩ := flow_right fl
    obtain ⟨r1', r2'⟩ := flow_right fl'
    obtain ⟨e1, e0⟩ := sep_inj n1 n1' e
    obtain ⟨e9, e2⟩ := sep_inj n2 n2' e0
    obtain ⟨e3, e4⟩ := sep_inj n3 n3' e2
    obtain ⟨g1, g2⟩ := nameA_inj w.sb w'.sb r1 r1' e3
    obtain ⟨g3, g4⟩ := nameA_inj w.gb w'.gb r2 r2' e4
    exact ⟨rdI e1, aI e9, g1, g2, g3, g4, by rw [fr0.1, fr0'.1], by rw [fr0.2, fr0'.2]⟩
theorem kind_digit {k : Int} (h1 : 1 ≤ k) (h7 : k ≤ 7) : numeral 10 k.toNat = [UInt8.ofNat (48 + k.toNat)] := by
  rw [numeral_small (by omega)]
  unfold sign
  rw [if_pos (by omega)]
theorem kind_eq {k k' : Int} (h1 : 1 ≤ k) (h7 : k ≤ 7) (h1' : 1 ≤ k') (h7' : k' ≤ 7) {x y : List UInt8} (h : numeral 10 k.toNat ++ x = numeral 10 k'.toNat ++ y) : k = k' ∧ x = y := by
  rw [kind_digit h1 h7, kind_digit h1' h7'] at h
  simp only [List.cons_append, List.nil_append, List.cons.injEq] at h
  have h2 := congrArg UInt8.toNat h.1
  rw [ofNat_toNat (by omega), ofNat_toNat (by omega)] at h2
  exact ⟨by omega, h.2⟩
theorem textC_inj {m o : Mr} (w : m.W) (w' : o.W) (h : RightC m) (h' : RightC o) (hk : m.k ≠ 4) (hk' : o.k ≠ 4) (e : textC m = textC o) : m = o := by
  obtain ⟨e1, e2⟩ := kind_eq h.k1 h.k7 h'.k1 h'.k7 e
  have e3 := tail_inj w w' h h' e1 e2
  have e4 := h.key hk
  have e5 := h'.key hk'
  obtain ⟨k, rd, a, ss, sb, gs, gb, fs, fb, key⟩ := m
  obtain ⟨k', rd', a', ss', sb', gs', gb', fs', fb', key'⟩ := o
  simp only at e1 e3 e4 e5
  obtain ⟨x1, x2, x3, x4, x5, x6, x7, x8⟩ := e3
  subst e1 e4 e5 x1 x2 x3 x4 x5 x6 x7 x8
  rfl
/-- unlike routes have unlike texts -/
theorem textM_inj {m o : Mr} (w : m.W) (w' : o.W) (h : RightM m) (h' : RightM o) (e : textM m = textM o) : m = o := by
  unfold textM at e
  rw [if_pos ((rightM_iff m).2 h), if_pos ((rightM_iff o).2 h')] at e
  obtain ⟨e1, e2⟩ := kind_eq h.core.k1 h.core.k7 h'.core.k1 h'.core.k7 e
  by_cases hk : m.k = 4
  · have hk' : o.k = 4 := by rw [← e1]; exact hk
    rw [if_pos hk, if_pos hk'] at e2
    obtain ⟨x, xw, xr, xk, hx⟩ := (keyM_iff _).1 (h.key hk)
    obtain ⟨y, yw, yr, yk, hy⟩ := (keyM_iff _).1 (h'.key hk')
    rw [← hx, ← hy, ans_bytes xw xr xk, ans_bytes yw yr yk] at e2
    simp only [List.cons_append, List.append_assoc, List.cons.injEq, true_and, List.singleton_append] at e2
    have nx : (93 : UInt8) ∉ textC x := by
      unfold textC
      simp only [List.mem_append, not_or]
      exact ⟨num_odd odd93 _, tail_odd93 x⟩
    have ny : (93 : UInt8) ∉ textC y := by
      unfold textC
      simp only [List.mem_append, not_or]
      exact ⟨num_odd odd93 _, tail_odd93 y⟩
    obtain ⟨e3, e4⟩ := sep_inj nx ny e2
    have e5 := textC_inj xw yw xr yr (by omega) (by omega) e3
    have e6 := tail_inj w w' h.core h'.core e1 e4
    have hkey : m.key = o.key := by rw [← hx, ← hy, e5]
    obtain ⟨k, rd, a, ss, sb, gs, gb, fs, fb, key⟩ := m
    obtain ⟨k', rd', a', ss', sb', gs', gb', fs', fb', key'⟩ := o
    simp only at e1 e6 hkey
    obtain ⟨x1, x2, x3, x4, x5, x6, x7, x8⟩ := e6
    subst e1 hkey x1 x2 x3 x4 x5 x6 x7 x8
    rfl
  · have hk' : o.k ≠ 4 := by rw [← e1]; exact hk
    rw [if_neg hk, if_neg hk'] at e2
    exact textC_inj w w' h.core h'.core hk hk' (by unfold textC; rw [e1]; exact congrArg _ (by simpa using e2))
end Go.Proofs.YthhmplmkdakmgaaDoor
