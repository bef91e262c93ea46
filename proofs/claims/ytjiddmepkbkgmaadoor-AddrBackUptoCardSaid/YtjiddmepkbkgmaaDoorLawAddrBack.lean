/-
  AddrBack returns true, whatever comes in (a text of at most 1,048,576 bytes). The one condition: the library's tables hold what its text lays.
-/
import Derived.Test.YtjiddmepkbkgmaaDoorLawCuts
import Derived.Test.YtjiddmepkbkgmaaDoorBackMath
namespace Go.Proofs.YtjiddmepkbkgmaaDoor
open Go.RowKit
set_option linter.unusedVariables false
set_option linter.unusedSimpArgs false

theorem not47 : ¬ isDigit 47 := by unfold isDigit; decide
theorem text_no47 (s : Int) (bs : List UInt8) : (47 : UInt8) ∉ textA s bs := by
  unfold textA
  split
  · split
    · have ht : text4 bs = Lib.join (((bs.take 4).map (·.toNat)).map (numeral 10)) [46] := by
        unfold text4
        rw [List.map_map]
        rfl
      rw [ht]
      exact join_not (by decide) (by decide) not47 (by decide) _
    · split
      · have h : ∀ xs : List Nat, (47 : UInt8) ∉ joinN xs := fun xs => join_not (by decide) (by decide) not47 (by decide) xs
        unfold text6
        split
        · exact h _
        · simp only [List.mem_append, not_or]
          exact ⟨⟨h _, by decide⟩, h _⟩
      · simp
  · simp
/-- a prefix's text is read as that prefix -/
theorem parseP_text {s k : Int} {bs : List UInt8} (hl : bs.length = 16) (h : hasB s bs k s bs = true) : parseP (ptextB s bs k) = (s, bs, k, 0) := by
  have hb := has_bits h
  have hr := (cutOk_parts.1 hb.2.2).1
  have e : ptextB s bs k = textA s bs ++ 47 :: numeral 10 k.toNat := by
    unfold ptextB
    rw [if_pos h]
    simp
  have hc : Lib.cut (ptextB s bs k) [47] = (textA s bs, numeral 10 k.toNat, true) := by rw [e, cut_one_hit (text_no47 s bs)]
  have hn := numeral_num (b := 10) (top := 128) (by decide) (by decide) (n := k.toNat) (by omega)
  unfold parseP
  rw [hc]
  simp only
  rw [parse_text hl hr, hn.1, hn.2]
  simp only
  have hk : ((k.toNat : Nat) : Int) = k := by omega
  rw [hk]
  simp
theorem parseP_back {x : List UInt8} (h : (parseP x).2.2.2 = 0) : ptextB (parseP x).1 (parseP x).2.1 (parseP x).2.2.1 = x := by
  unfold parseP at h ⊢
  split at h
  · rename_i hc
    rw [if_pos hc]
    exact hc.2.2
  · cases h
theorem parseP_err (x : List UInt8) : (parseP x).2.2.2 = 0 ∨ (parseP x).2.2.2 = 4 := by
  unfold parseP
  split
  · exact .inl rfl
  · exact .inr rfl
theorem parseP_len (x : List UInt8) : (parseP x).2.1.length = 16 := by
  unfold parseP
  split
  · exact parseA_len _
  · rfl
theorem parseP_size (x : List UInt8) : (parseP x).1 = 0 ∨ (parseP x).1 = 4 ∨ (parseP x).1 = 16 := by
  unfold parseP
  split
  · exact parseA_size _
  · exact .inl rfl
theorem ptextB_len (s k : Int) {bs : List UInt8} (hl : bs.length = 16) : (ptextB s bs k).length ≤ 2000000 := by
  unfold ptextB
  split
  · rename_i h
    have hb := has_bits h
    have h1 := textA_len s hl
    have h2 := numeral_len (b := 10) (by decide) 2 k.toNat (by omega)
    simp
    omega
  · simp
theorem size_ok {s : Int} (h : s = 0 ∨ s = 4 ∨ s = 16) : -9223372036854775808 ≤ s ∧ s ≤ 9223372036854775807 := by omega

theorem calls_stop {P : Program} {f : FuncId} {v : Array Value} {w : World} {R : Ending → World → Prop} (h : Calls P f v w R) : Calls P f v w R := h
theorem wpList_neq_same {ops : Array Oper} {rest : List Oper} {o : Oper} {a : Act} {w : World} {Q : Exit → Act → World → Prop} (hw : Region.wanted o (yielded ops a.tmps) = true) (x y : Operand) (ho : o.op = .binOp .neq 24 x y 24)
    {s : Int} {xs : List UInt8} (hx : a.eval x = .agg (addrC s xs)) (hy : a.eval y = .agg (addrC s xs)) (lx : xs.length = 16)
    (hk : wpList Tryd.prog ops Q rest (a.put o.dst (.bool false)) w) : wpList Tryd.prog ops Q (o :: rest) a w :=
  wpList_neq_addr hw x y ho hx hy lx lx (by rw [show decide (s = s ∧ xs = xs) = true from by simp]; exact hk)
theorem wpList_neq_same_pref {ops : Array Oper} {rest : List Oper} {o : Oper} {a : Act} {w : World} {Q : Exit → Act → World → Prop} (hw : Region.wanted o (yielded ops a.tmps) = true) (x y : Operand) (ho : o.op = .binOp .neq 41 x y 41)
    {s k : Int} {xs : List UInt8} (hx : a.eval x = .agg (prefC s xs k)) (hy : a.eval y = .agg (prefC s xs k)) (lx : xs.length = 16)
    (hk : wpList Tryd.prog ops Q rest (a.put o.dst (.bool false)) w) : wpList Tryd.prog ops Q (o :: rest) a w :=
  wpList_neq_pref hw x y ho hx hy lx lx (by rw [show decide (s = s ∧ xs = xs ∧ k = k) = true from by simp]; exact hk)

set_option maxRecDepth 20000 in
set_option maxHeartbeats 8000000 in
theorem back_tt (w : World) (hg : Glob w) (s : Int) (bs : List UInt8) (hl : bs.length = 16) (hs : -9223372036854775808 ≤ s ∧ s ≤ 9223372036854775807) (k : Int) (l : List UInt8) (hr : l.length ≤ 1048576)
    (h1 : rightA s bs = true) (h2 : cutOk s bs k = true) :
    Calls Tryd.prog 7 #[.agg (addrC s bs), .int .i64 k, .string ⟨l.toArray⟩] w fun e w' => e = .returned (.bool true) ∧ Below w.heap.size w w' := by
  have HG := hide hg
  have HL := hide hl
  have HS := hide hs
  have S0 := hide (Boxed.new w s bs)
  have HR := hide h1
  have HLL := hide (Nat.le_trans hr (show 1048576 ≤ 2000000 by decide))
  have HTL := hide (Nat.le_trans (textA_len s hl) (show 100 ≤ 2000000 by decide))
  obtain ⟨y, ys, ye, hy⟩ : ∃ y ys ye, parseA l = (y, ys, ye) := ⟨_, _, _, rfl⟩
  have HY := hide hy
  have HYL : Hid (ys.length = 16) := by have := parseA_len l; rw [hy] at this; exact this
  have hye : ye = 0 ∨ ye = 4 := by have := parseA_err l; rw [hy] at this; exact this
  have HYT : Hid (ye = 0 → textA y ys = l ∧ rightA y ys = true) := fun h => by have := text_parse (x := l); rw [hy] at this; exact this h
  obtain ⟨z, zs, zk, ze, hz⟩ : ∃ z zs zk ze, parseP l = (z, zs, zk, ze) := ⟨_, _, _, _, rfl⟩
  have HZ := hide hz
  have HZL : Hid (zs.length = 16) := by have := parseP_len l; rw [hz] at this; exact this
  have HZS : Hid (-9223372036854775808 ≤ z ∧ z ≤ 9223372036854775807) := by have := parseP_size l; rw [hz] at this; exact size_ok this
  have hze : ze = 0 ∨ ze = 4 := by have := parseP_err l; rw [hz] at this; exact this
  have HZT : Hid (ze = 0 → ptextB z zs zk = l) := fun h => by have := parseP_back (x := l); rw [hz] at this; exact this h
  have HPT := hide (parse_text hl h1)
  have HC := hide (cutT h2)
  have HCL := hide (cutB_len k hl)
  have HPL := hide (ptextB_len s k (cutB_len k hl))
  have HPP := hide (parseP_text (cutB_len k hl) (has_cut hl h2))
  have HH := hide (has_self h2)
  clear hg hl hs h1 h2 hr hy hz
  go_enter Tryd.func7, Tryd.ntmps7
  go_wp2_with fail
  refine (small_any _ (HG.out.below S0.out.bel)).mono ?_
  rintro e w1 ⟨rfl, hb1⟩
  have S1 := hide (S0.out.on hb1)
  clear hb1
  go_wp2_with (with_reducible refine wpList_load_addr rfl (.tmp 3) rfl w.heap.size rfl S1.out.blk HL.out ?_)
  refine (right_any _ s bs HL.out).mono ?_
  rintro e w2 ⟨rfl, hb2⟩
  rw [HR.out]
  have S2 := hide (S1.out.on hb2)
  clear hb2
  go_wp2_with (with_reducible refine wpList_load_addr rfl (.tmp 3) rfl w.heap.size rfl S2.out.blk HL.out ?_)
  refine (text_any _ s bs HL.out (HG.out.below S2.out.bel)).mono ?_
  rintro e w3 ⟨rfl, hb3⟩
  have S3 := hide (S2.out.on hb3)
  clear hb3
  go_wp2_with fail
  refine (parse_any _ (textA s bs) HTL.out (HG.out.below S3.out.bel)).mono ?_
  rintro e w4 ⟨rfl, hb4⟩
  rw [HPT.out]
  simp only
  have S4 := hide (S3.out.on hb4)
  clear hb4
  go_wp2_with (first
    | (refine wpList_store_addr rfl (.tmp 9) (.tmp 26) rfl w4.heap.size rfl rfl HL.out (Blk.new w4 _ _) rfl ?_; intro w5 hb5 hg5; have X5 := hide hb5; have S5 := hide (S4.out.kept _ hg5); clear hb5 hg5)
    | ((with_reducible refine wpList_load_addr_g ?_ (.tmp 9) rfl w4.heap.size rfl X5.out HL.out ?_); · rfl)
    | ((with_reducible refine wpList_load_addr_g ?_ (.tmp 3) rfl w.heap.size rfl S5.out.blk HL.out ?_); · rfl)
    | ((with_reducible refine wpList_neq_same ?_ (.tmp 33) (.tmp 34) rfl rfl rfl HL.out ?_); · rfl))
  refine (cut_any _ s k bs HL.out HS.out).mono ?_
  rintro e w6 ⟨rfl, hb6⟩
  rw [HC.out.1, HC.out.2.1, HC.out.2.2.1, HC.out.2.2.2]
  have S6 := hide (S5.out.on hb6)
  clear hb6
  go_wp2_with (first
    | (refine wpList_store_pref rfl (.tmp 11) (.tmp 42) rfl w6.heap.size rfl rfl HCL.out (Blk.new w6 _ _) rfl ?_; intro w7 hb7 hg7; have P7 := hide hb7; have S7 := hide (S6.out.kept _ hg7); clear hb7 hg7)
    | (with_reducible refine wpList_load_pref rfl (.tmp 11) rfl w6.heap.size rfl P7.out HCL.out ?_))
  refine (ptext_any _ s k _ HCL.out HS.out (HG.out.below S7.out.bel)).mono ?_
  rintro e w8 ⟨rfl, hb8⟩
  have S8 := hide (S7.out.on hb8)
  have P8 := hide (P7.out.on hb8)
  clear hb8
  go_wp2_with fail
  refine (parsePrefix_any _ _ HPL.out (HG.out.below S8.out.bel)).mono ?_
  rintro e w9 ⟨rfl, hb9⟩
  rw [HPP.out]
  simp only
  have S9 := hide (S8.out.on hb9)
  have P9 := hide (P8.out.on hb9)
  clear hb9
  go_wp2_with (first
    | (refine wpList_store_pref rfl (.tmp 13) (.tmp 50) rfl w9.heap.size rfl rfl HCL.out (Blk.new w9 _ _) rfl ?_; intro w10 hb10 hg10; have Q10 := hide hb10; have P10 := hide (P9.out.kept _ hg10 (Nat.le_refl _)); have S10 := hide (S9.out.kept _ hg10); clear hb10 hg10)
    | ((with_reducible refine wpList_load_pref_g ?_ (.tmp 13) rfl w9.heap.size rfl Q10.out HCL.out ?_); · rfl)
    | ((with_reducible refine wpList_load_pref_g ?_ (.tmp 11) rfl w6.heap.size rfl P10.out HCL.out ?_); · rfl)
    | ((with_reducible refine wpList_neq_same_pref ?_ (.tmp 55) (.tmp 56) rfl rfl rfl HCL.out ?_); · rfl)
    | ((with_reducible refine wpList_load_addr_g ?_ (.tmp 3) rfl w.heap.size rfl S10.out.blk HL.out ?_); · rfl))
  refine (has_any _ _ _ _ HCL.out _ _ HL.out HS.out).mono ?_
  rintro e w11 ⟨rfl, hb11⟩
  rw [HH.out]
  have S11 := hide (S10.out.on hb11)
  clear hb11
  go_wp2_with fail
  refine (parse_any _ l HLL.out (HG.out.below S11.out.bel)).mono ?_
  rintro e w12 ⟨rfl, hb12⟩
  rw [HY.out]
  simp only
  have S12 := hide (S11.out.on hb12)
  clear hb12
  rcases hye with rfl | rfl
  · have HYT1 := hide (HYT.out rfl).1
    have HYT2 := hide (HYT.out rfl).2
    go_wp2_with (first
      | (refine wpList_store_addr rfl (.tmp 15) (.tmp 68) rfl w12.heap.size rfl rfl HYL.out (Blk.new w12 _ _) rfl ?_; intro w13 hb13 hg13; have Y13 := hide hb13; have S13 := hide (S12.out.kept _ hg13); clear hb13 hg13)
      | ((with_reducible refine wpList_load_addr_g ?_ (.tmp 15) rfl w12.heap.size rfl Y13.out HYL.out ?_); · rfl))
    refine (text_any _ y ys HYL.out (HG.out.below S13.out.bel)).mono ?_
    rintro e w14 ⟨rfl, hb14⟩
    rw [HYT1.out]
    have S14 := hide (S13.out.on hb14)
    have Y14 := hide (Y13.out.on hb14)
    clear hb14
    go_wp2_with ((with_reducible refine wpList_load_addr_g ?_ (.tmp 15) rfl w12.heap.size rfl Y14.out HYL.out ?_); · rfl)
    refine (right_any _ y ys HYL.out).mono ?_
    rintro e w15 ⟨rfl, hb15⟩
    rw [HYT2.out]
    have S15 := hide (S14.out.on hb15)
    clear hb15
    go_wp2_with fail
    refine (parsePrefix_any _ l HLL.out (HG.out.below S15.out.bel)).mono ?_
    rintro e w16 ⟨rfl, hb16⟩
    rw [HZ.out]
    simp only
    have S16 := hide (S15.out.on hb16)
    clear hb16
    rcases hze with rfl | rfl
    · have HZT1 := hide (HZT.out rfl)
      go_wp2_with (first
        | (refine wpList_store_pref rfl (.tmp 17) (.tmp 86) rfl w16.heap.size rfl rfl HZL.out (Blk.new w16 _ _) rfl ?_; intro w17 hb17 hg17; have Z17 := hide hb17; have S17 := hide (S16.out.kept _ hg17); clear hb17 hg17)
        | ((with_reducible refine wpList_load_pref_g ?_ (.tmp 17) rfl w16.heap.size rfl Z17.out HZL.out ?_); · rfl))
      refine (ptext_any _ z zk zs HZL.out HZS.out (HG.out.below S17.out.bel)).mono ?_
      rintro e w18 ⟨rfl, hb18⟩
      rw [HZT1.out]
      have S18 := hide (S17.out.on hb18)
      clear hb18
      go_wp2_with fail
      go_ret
      exact ⟨by first | rfl | (simp; done), S18.out.bel⟩
    · go_wp2_with (refine wpList_store_pref rfl (.tmp 17) (.tmp 86) rfl w16.heap.size rfl rfl HZL.out (Blk.new w16 _ _) rfl ?_; intro w17 hb17 hg17; have S17 := hide (S16.out.kept _ hg17); clear hb17 hg17)
      go_ret
      exact ⟨rfl, S17.out.bel⟩
  · go_wp2_with ((with_reducible refine wpList_store_addr (s := y) (bs := ys) (t := 24) (old := ?old) ?c1 (.tmp 15) (.tmp 68) ?c2 w12.heap.size ?c3 ?c4 HYL.out ?c5 ?c6 ?c7); (case c1 => rfl); (case c2 => rfl); (case c3 => rfl); (case c4 => rfl); (case c5 => exact Blk.new w12 _ _); (case c6 => rfl); intro w15 hb15 hg15; have S15 := hide (S12.out.kept _ hg15); clear hb15 hg15)
    refine (parsePrefix_any _ l HLL.out (HG.out.below S15.out.bel)).mono ?_
    rintro e w16 ⟨rfl, hb16⟩
    rw [HZ.out]
    simp only
    have S16 := hide (S15.out.on hb16)
    clear hb16
    rcases hze with rfl | rfl
    · have HZT1 := hide (HZT.out rfl)
      go_wp2_with (first
        | (refine wpList_store_pref rfl (.tmp 17) (.tmp 86) rfl w16.heap.size rfl rfl HZL.out (Blk.new w16 _ _) rfl ?_; intro w17 hb17 hg17; have Z17 := hide hb17; have S17 := hide (S16.out.kept _ hg17); clear hb17 hg17)
        | ((with_reducible refine wpList_load_pref_g ?_ (.tmp 17) rfl w16.heap.size rfl Z17.out HZL.out ?_); · rfl))
      refine (ptext_any _ z zk zs HZL.out HZS.out (HG.out.below S17.out.bel)).mono ?_
      rintro e w18 ⟨rfl, hb18⟩
      rw [HZT1.out]
      have S18 := hide (S17.out.on hb18)
      clear hb18
      go_wp2_with fail
      go_ret
      exact ⟨by first | rfl | (simp; done), S18.out.bel⟩
    · go_wp2_with (refine wpList_store_pref rfl (.tmp 17) (.tmp 86) rfl w16.heap.size rfl rfl HZL.out (Blk.new w16 _ _) rfl ?_; intro w17 hb17 hg17; have S17 := hide (S16.out.kept _ hg17); clear hb17 hg17)
      go_ret
      exact ⟨rfl, S17.out.bel⟩
set_option maxRecDepth 20000 in
set_option maxHeartbeats 8000000 in
theorem back_tf (w : World) (hg : Glob w) (s : Int) (bs : List UInt8) (hl : bs.length = 16) (hs : -9223372036854775808 ≤ s ∧ s ≤ 9223372036854775807) (k : Int) (l : List UInt8) (hr : l.length ≤ 1048576)
    (h1 : rightA s bs = true) (h2 : cutOk s bs k = false) :
    Calls Tryd.prog 7 #[.agg (addrC s bs), .int .i64 k, .string ⟨l.toArray⟩] w fun e w' => e = .returned (.bool true) ∧ Below w.heap.size w w' := by
  have HG := hide hg
  have HL := hide hl
  have HS := hide hs
  have S0 := hide (Boxed.new w s bs)
  have HR := hide h1
  have HLL := hide (Nat.le_trans hr (show 1048576 ≤ 2000000 by decide))
  have HTL := hide (Nat.le_trans (textA_len s hl) (show 100 ≤ 2000000 by decide))
  obtain ⟨y, ys, ye, hy⟩ : ∃ y ys ye, parseA l = (y, ys, ye) := ⟨_, _, _, rfl⟩
  have HY := hide hy
  have HYL : Hid (ys.length = 16) := by have := parseA_len l; rw [hy] at this; exact this
  have hye : ye = 0 ∨ ye = 4 := by have := parseA_err l; rw [hy] at this; exact this
  have HYT : Hid (ye = 0 → textA y ys = l ∧ rightA y ys = true) := fun h => by have := text_parse (x := l); rw [hy] at this; exact this h
  obtain ⟨z, zs, zk, ze, hz⟩ : ∃ z zs zk ze, parseP l = (z, zs, zk, ze) := ⟨_, _, _, _, rfl⟩
  have HZ := hide hz
  have HZL : Hid (zs.length = 16) := by have := parseP_len l; rw [hz] at this; exact this
  have HZS : Hid (-9223372036854775808 ≤ z ∧ z ≤ 9223372036854775807) := by have := parseP_size l; rw [hz] at this; exact size_ok this
  have hze : ze = 0 ∨ ze = 4 := by have := parseP_err l; rw [hz] at this; exact this
  have HZT : Hid (ze = 0 → ptextB z zs zk = l) := fun h => by have := parseP_back (x := l); rw [hz] at this; exact this h
  have HPT := hide (parse_text hl h1)
  have HC := hide (cutF h2)
  clear hg hl hs h1 h2 hr hy hz
  go_enter Tryd.func7, Tryd.ntmps7
  go_wp2_with fail
  refine (small_any _ (HG.out.below S0.out.bel)).mono ?_
  rintro e w1 ⟨rfl, hb1⟩
  have S1 := hide (S0.out.on hb1)
  clear hb1
  go_wp2_with (with_reducible refine wpList_load_addr rfl (.tmp 3) rfl w.heap.size rfl S1.out.blk HL.out ?_)
  refine (right_any _ s bs HL.out).mono ?_
  rintro e w2 ⟨rfl, hb2⟩
  rw [HR.out]
  have S2 := hide (S1.out.on hb2)
  clear hb2
  go_wp2_with (with_reducible refine wpList_load_addr rfl (.tmp 3) rfl w.heap.size rfl S2.out.blk HL.out ?_)
  refine (text_any _ s bs HL.out (HG.out.below S2.out.bel)).mono ?_
  rintro e w3 ⟨rfl, hb3⟩
  have S3 := hide (S2.out.on hb3)
  clear hb3
  go_wp2_with fail
  refine (parse_any _ (textA s bs) HTL.out (HG.out.below S3.out.bel)).mono ?_
  rintro e w4 ⟨rfl, hb4⟩
  rw [HPT.out]
  simp only
  have S4 := hide (S3.out.on hb4)
  clear hb4
  go_wp2_with (first
    | (refine wpList_store_addr rfl (.tmp 9) (.tmp 26) rfl w4.heap.size rfl rfl HL.out (Blk.new w4 _ _) rfl ?_; intro w5 hb5 hg5; have X5 := hide hb5; have S5 := hide (S4.out.kept _ hg5); clear hb5 hg5)
    | ((with_reducible refine wpList_load_addr_g ?_ (.tmp 9) rfl w4.heap.size rfl X5.out HL.out ?_); · rfl)
    | ((with_reducible refine wpList_load_addr_g ?_ (.tmp 3) rfl w.heap.size rfl S5.out.blk HL.out ?_); · rfl)
    | ((with_reducible refine wpList_neq_same ?_ (.tmp 33) (.tmp 34) rfl rfl rfl HL.out ?_); · rfl))
  refine (cut_any _ s k bs HL.out HS.out).mono ?_
  rintro e w6 ⟨rfl, hb6⟩
  rw [HC.out.1, HC.out.2.1, HC.out.2.2.1, HC.out.2.2.2]
  have S6 := hide (S5.out.on hb6)
  clear hb6
  go_wp2_with (refine wpList_store_pref rfl (.tmp 11) (.tmp 42) rfl w6.heap.size rfl rfl zero16_len (Blk.new w6 _ _) rfl ?_; intro w11 hb11 hg11; have S11 := hide (S6.out.kept _ hg11); clear hb11 hg11)
  refine (parse_any _ l HLL.out (HG.out.below S11.out.bel)).mono ?_
  rintro e w12 ⟨rfl, hb12⟩
  rw [HY.out]
  simp only
  have S12 := hide (S11.out.on hb12)
  clear hb12
  rcases hye with rfl | rfl
  · have HYT1 := hide (HYT.out rfl).1
    have HYT2 := hide (HYT.out rfl).2
    go_wp2_with (first
      | (refine wpList_store_addr rfl (.tmp 15) (.tmp 68) rfl w12.heap.size rfl rfl HYL.out (Blk.new w12 _ _) rfl ?_; intro w13 hb13 hg13; have Y13 := hide hb13; have S13 := hide (S12.out.kept _ hg13); clear hb13 hg13)
      | ((with_reducible refine wpList_load_addr_g ?_ (.tmp 15) rfl w12.heap.size rfl Y13.out HYL.out ?_); · rfl))
    refine (text_any _ y ys HYL.out (HG.out.below S13.out.bel)).mono ?_
    rintro e w14 ⟨rfl, hb14⟩
    rw [HYT1.out]
    have S14 := hide (S13.out.on hb14)
    have Y14 := hide (Y13.out.on hb14)
    clear hb14
    go_wp2_with ((with_reducible refine wpList_load_addr_g ?_ (.tmp 15) rfl w12.heap.size rfl Y14.out HYL.out ?_); · rfl)
    refine (right_any _ y ys HYL.out).mono ?_
    rintro e w15 ⟨rfl, hb15⟩
    rw [HYT2.out]
    have S15 := hide (S14.out.on hb15)
    clear hb15
    go_wp2_with fail
    refine (parsePrefix_any _ l HLL.out (HG.out.below S15.out.bel)).mono ?_
    rintro e w16 ⟨rfl, hb16⟩
    rw [HZ.out]
    simp only
    have S16 := hide (S15.out.on hb16)
    clear hb16
    rcases hze with rfl | rfl
    · have HZT1 := hide (HZT.out rfl)
      go_wp2_with (first
        | (refine wpList_store_pref rfl (.tmp 17) (.tmp 86) rfl w16.heap.size rfl rfl HZL.out (Blk.new w16 _ _) rfl ?_; intro w17 hb17 hg17; have Z17 := hide hb17; have S17 := hide (S16.out.kept _ hg17); clear hb17 hg17)
        | ((with_reducible refine wpList_load_pref_g ?_ (.tmp 17) rfl w16.heap.size rfl Z17.out HZL.out ?_); · rfl))
      refine (ptext_any _ z zk zs HZL.out HZS.out (HG.out.below S17.out.bel)).mono ?_
      rintro e w18 ⟨rfl, hb18⟩
      rw [HZT1.out]
      have S18 := hide (S17.out.on hb18)
      clear hb18
      go_wp2_with fail
      go_ret
      exact ⟨by first | rfl | (simp; done), S18.out.bel⟩
    · go_wp2_with (refine wpList_store_pref rfl (.tmp 17) (.tmp 86) rfl w16.heap.size rfl rfl HZL.out (Blk.new w16 _ _) rfl ?_; intro w17 hb17 hg17; have S17 := hide (S16.out.kept _ hg17); clear hb17 hg17)
      go_ret
      exact ⟨rfl, S17.out.bel⟩
  · go_wp2_with ((with_reducible refine wpList_store_addr (s := y) (bs := ys) (t := 24) (old := ?old) ?c1 (.tmp 15) (.tmp 68) ?c2 w12.heap.size ?c3 ?c4 HYL.out ?c5 ?c6 ?c7); (case c1 => rfl); (case c2 => rfl); (case c3 => rfl); (case c4 => rfl); (case c5 => exact Blk.new w12 _ _); (case c6 => rfl); intro w15 hb15 hg15; have S15 := hide (S12.out.kept _ hg15); clear hb15 hg15)
    refine (parsePrefix_any _ l HLL.out (HG.out.below S15.out.bel)).mono ?_
    rintro e w16 ⟨rfl, hb16⟩
    rw [HZ.out]
    simp only
    have S16 := hide (S15.out.on hb16)
    clear hb16
    rcases hze with rfl | rfl
    · have HZT1 := hide (HZT.out rfl)
      go_wp2_with (first
        | (refine wpList_store_pref rfl (.tmp 17) (.tmp 86) rfl w16.heap.size rfl rfl HZL.out (Blk.new w16 _ _) rfl ?_; intro w17 hb17 hg17; have Z17 := hide hb17; have S17 := hide (S16.out.kept _ hg17); clear hb17 hg17)
        | ((with_reducible refine wpList_load_pref_g ?_ (.tmp 17) rfl w16.heap.size rfl Z17.out HZL.out ?_); · rfl))
      refine (ptext_any _ z zk zs HZL.out HZS.out (HG.out.below S17.out.bel)).mono ?_
      rintro e w18 ⟨rfl, hb18⟩
      rw [HZT1.out]
      have S18 := hide (S17.out.on hb18)
      clear hb18
      go_wp2_with fail
      go_ret
      exact ⟨by first | rfl | (simp; done), S18.out.bel⟩
    · go_wp2_with (refine wpList_store_pref rfl (.tmp 17) (.tmp 86) rfl w16.heap.size rfl rfl HZL.out (Blk.new w16 _ _) rfl ?_; intro w17 hb17 hg17; have S17 := hide (S16.out.kept _ hg17); clear hb17 hg17)
      go_ret
      exact ⟨rfl, S17.out.bel⟩
set_option maxRecDepth 20000 in
set_option maxHeartbeats 8000000 in
theorem back_ff (w : World) (hg : Glob w) (s : Int) (bs : List UInt8) (hl : bs.length = 16) (hs : -9223372036854775808 ≤ s ∧ s ≤ 9223372036854775807) (k : Int) (l : List UInt8) (hr : l.length ≤ 1048576)
    (h1 : rightA s bs = false) (h2 : cutOk s bs k = false) :
    Calls Tryd.prog 7 #[.agg (addrC s bs), .int .i64 k, .string ⟨l.toArray⟩] w fun e w' => e = .returned (.bool true) ∧ Below w.heap.size w w' := by
  have HG := hide hg
  have HL := hide hl
  have HS := hide hs
  have S0 := hide (Boxed.new w s bs)
  have HR := hide h1
  have HLL := hide (Nat.le_trans hr (show 1048576 ≤ 2000000 by decide))
  have HTL := hide (Nat.le_trans (textA_len s hl) (show 100 ≤ 2000000 by decide))
  obtain ⟨y, ys, ye, hy⟩ : ∃ y ys ye, parseA l = (y, ys, ye) := ⟨_, _, _, rfl⟩
  have HY := hide hy
  have HYL : Hid (ys.length = 16) := by have := parseA_len l; rw [hy] at this; exact this
  have hye : ye = 0 ∨ ye = 4 := by have := parseA_err l; rw [hy] at this; exact this
  have HYT : Hid (ye = 0 → textA y ys = l ∧ rightA y ys = true) := fun h => by have := text_parse (x := l); rw [hy] at this; exact this h
  obtain ⟨z, zs, zk, ze, hz⟩ : ∃ z zs zk ze, parseP l = (z, zs, zk, ze) := ⟨_, _, _, _, rfl⟩
  have HZ := hide hz
  have HZL : Hid (zs.length = 16) := by have := parseP_len l; rw [hz] at this; exact this
  have HZS : Hid (-9223372036854775808 ≤ z ∧ z ≤ 9223372036854775807) := by have := parseP_size l; rw [hz] at this; exact size_ok this
  have hze : ze = 0 ∨ ze = 4 := by have := parseP_err l; rw [hz] at this; exact this
  have HZT : Hid (ze = 0 → ptextB z zs zk = l) := fun h => by have := parseP_back (x := l); rw [hz] at this; exact this h
  obtain ⟨x, xs, xe, hx⟩ : ∃ x xs xe, parseA (textA s bs) = (x, xs, xe) := ⟨_, _, _, rfl⟩
  have HPT := hide hx
  have HXL : Hid (xs.length = 16) := by have := parseA_len (textA s bs); rw [hx] at this; exact this
  clear hx
  have HC := hide (cutF h2)
  clear hg hl hs h1 h2 hr hy hz
  go_enter Tryd.func7, Tryd.ntmps7
  go_wp2_with fail
  refine (small_any _ (HG.out.below S0.out.bel)).mono ?_
  rintro e w1 ⟨rfl, hb1⟩
  have S1 := hide (S0.out.on hb1)
  clear hb1
  go_wp2_with (with_reducible refine wpList_load_addr rfl (.tmp 3) rfl w.heap.size rfl S1.out.blk HL.out ?_)
  refine (right_any _ s bs HL.out).mono ?_
  rintro e w2 ⟨rfl, hb2⟩
  rw [HR.out]
  have S2 := hide (S1.out.on hb2)
  clear hb2
  go_wp2_with (with_reducible refine wpList_load_addr rfl (.tmp 3) rfl w.heap.size rfl S2.out.blk HL.out ?_)
  refine (text_any _ s bs HL.out (HG.out.below S2.out.bel)).mono ?_
  rintro e w3 ⟨rfl, hb3⟩
  have S3 := hide (S2.out.on hb3)
  clear hb3
  go_wp2_with fail
  refine (parse_any _ (textA s bs) HTL.out (HG.out.below S3.out.bel)).mono ?_
  rintro e w4 ⟨rfl, hb4⟩
  rw [HPT.out]
  simp only
  have S4 := hide (S3.out.on hb4)
  clear hb4
  go_wp2_with (first
    | (refine wpList_store_addr rfl (.tmp 9) (.tmp 26) rfl w4.heap.size rfl rfl HXL.out (Blk.new w4 _ _) rfl ?_; intro w5 hb5 hg5; have X5 := hide hb5; have S5 := hide (S4.out.kept _ hg5); clear hb5 hg5)
    | ((with_reducible refine wpList_load_addr_g ?_ (.tmp 9) rfl w4.heap.size rfl X5.out HL.out ?_); · rfl)
    | ((with_reducible refine wpList_load_addr_g ?_ (.tmp 3) rfl w.heap.size rfl S5.out.blk HL.out ?_); · rfl)
    | ((with_reducible refine wpList_neq_same ?_ (.tmp 33) (.tmp 34) rfl rfl rfl HL.out ?_); · rfl))
  refine (cut_any _ s k bs HL.out HS.out).mono ?_
  rintro e w6 ⟨rfl, hb6⟩
  rw [HC.out.1, HC.out.2.1, HC.out.2.2.1, HC.out.2.2.2]
  have S6 := hide (S5.out.on hb6)
  clear hb6
  go_wp2_with (refine wpList_store_pref rfl (.tmp 11) (.tmp 42) rfl w6.heap.size rfl rfl zero16_len (Blk.new w6 _ _) rfl ?_; intro w11 hb11 hg11; have S11 := hide (S6.out.kept _ hg11); clear hb11 hg11)
  refine (parse_any _ l HLL.out (HG.out.below S11.out.bel)).mono ?_
  rintro e w12 ⟨rfl, hb12⟩
  rw [HY.out]
  simp only
  have S12 := hide (S11.out.on hb12)
  clear hb12
  rcases hye with rfl | rfl
  · have HYT1 := hide (HYT.out rfl).1
    have HYT2 := hide (HYT.out rfl).2
    go_wp2_with (first
      | (refine wpList_store_addr rfl (.tmp 15) (.tmp 68) rfl w12.heap.size rfl rfl HYL.out (Blk.new w12 _ _) rfl ?_; intro w13 hb13 hg13; have Y13 := hide hb13; have S13 := hide (S12.out.kept _ hg13); clear hb13 hg13)
      | ((with_reducible refine wpList_load_addr_g ?_ (.tmp 15) rfl w12.heap.size rfl Y13.out HYL.out ?_); · rfl))
    refine (text_any _ y ys HYL.out (HG.out.below S13.out.bel)).mono ?_
    rintro e w14 ⟨rfl, hb14⟩
    rw [HYT1.out]
    have S14 := hide (S13.out.on hb14)
    have Y14 := hide (Y13.out.on hb14)
    clear hb14
    go_wp2_with ((with_reducible refine wpList_load_addr_g ?_ (.tmp 15) rfl w12.heap.size rfl Y14.out HYL.out ?_); · rfl)
    refine (right_any _ y ys HYL.out).mono ?_
    rintro e w15 ⟨rfl, hb15⟩
    rw [HYT2.out]
    have S15 := hide (S14.out.on hb15)
    clear hb15
    go_wp2_with fail
    refine (parsePrefix_any _ l HLL.out (HG.out.below S15.out.bel)).mono ?_
    rintro e w16 ⟨rfl, hb16⟩
    rw [HZ.out]
    simp only
    have S16 := hide (S15.out.on hb16)
    clear hb16
    rcases hze with rfl | rfl
    · have HZT1 := hide (HZT.out rfl)
      go_wp2_with (first
        | (refine wpList_store_pref rfl (.tmp 17) (.tmp 86) rfl w16.heap.size rfl rfl HZL.out (Blk.new w16 _ _) rfl ?_; intro w17 hb17 hg17; have Z17 := hide hb17; have S17 := hide (S16.out.kept _ hg17); clear hb17 hg17)
        | ((with_reducible refine wpList_load_pref_g ?_ (.tmp 17) rfl w16.heap.size rfl Z17.out HZL.out ?_); · rfl))
      refine (ptext_any _ z zk zs HZL.out HZS.out (HG.out.below S17.out.bel)).mono ?_
      rintro e w18 ⟨rfl, hb18⟩
      rw [HZT1.out]
      have S18 := hide (S17.out.on hb18)
      clear hb18
      go_wp2_with fail
      go_ret
      exact ⟨by first | rfl | (simp; done), S18.out.bel⟩
    · go_wp2_with (refine wpList_store_pref rfl (.tmp 17) (.tmp 86) rfl w16.heap.size rfl rfl HZL.out (Blk.new w16 _ _) rfl ?_; intro w17 hb17 hg17; have S17 := hide (S16.out.kept _ hg17); clear hb17 hg17)
      go_ret
      exact ⟨rfl, S17.out.bel⟩
  · go_wp2_with ((with_reducible refine wpList_store_addr (s := y) (bs := ys) (t := 24) (old := ?old) ?c1 (.tmp 15) (.tmp 68) ?c2 w12.heap.size ?c3 ?c4 HYL.out ?c5 ?c6 ?c7); (case c1 => rfl); (case c2 => rfl); (case c3 => rfl); (case c4 => rfl); (case c5 => exact Blk.new w12 _ _); (case c6 => rfl); intro w15 hb15 hg15; have S15 := hide (S12.out.kept _ hg15); clear hb15 hg15)
    refine (parsePrefix_any _ l HLL.out (HG.out.below S15.out.bel)).mono ?_
    rintro e w16 ⟨rfl, hb16⟩
    rw [HZ.out]
    simp only
    have S16 := hide (S15.out.on hb16)
    clear hb16
    rcases hze with rfl | rfl
    · have HZT1 := hide (HZT.out rfl)
      go_wp2_with (first
        | (refine wpList_store_pref rfl (.tmp 17) (.tmp 86) rfl w16.heap.size rfl rfl HZL.out (Blk.new w16 _ _) rfl ?_; intro w17 hb17 hg17; have Z17 := hide hb17; have S17 := hide (S16.out.kept _ hg17); clear hb17 hg17)
        | ((with_reducible refine wpList_load_pref_g ?_ (.tmp 17) rfl w16.heap.size rfl Z17.out HZL.out ?_); · rfl))
      refine (ptext_any _ z zk zs HZL.out HZS.out (HG.out.below S17.out.bel)).mono ?_
      rintro e w18 ⟨rfl, hb18⟩
      rw [HZT1.out]
      have S18 := hide (S17.out.on hb18)
      clear hb18
      go_wp2_with fail
      go_ret
      exact ⟨by first | rfl | (simp; done), S18.out.bel⟩
    · go_wp2_with (refine wpList_store_pref rfl (.tmp 17) (.tmp 86) rfl w16.heap.size rfl rfl HZL.out (Blk.new w16 _ _) rfl ?_; intro w17 hb17 hg17; have S17 := hide (S16.out.kept _ hg17); clear hb17 hg17)
      go_ret
      exact ⟨rfl, S17.out.bel⟩
theorem back_walk (w : World) (hg : Glob w) (s : Int) (bs : List UInt8) (hl : bs.length = 16) (hs : -9223372036854775808 ≤ s ∧ s ≤ 9223372036854775807) (k : Int) (_ : -9223372036854775808 ≤ k ∧ k ≤ 9223372036854775807) (l : List UInt8) (hr : l.length ≤ 1048576) :
    Calls Tryd.prog 7 #[.agg (addrC s bs), .int .i64 k, .string ⟨l.toArray⟩] w fun e w' => e = .returned (.bool true) ∧ Below w.heap.size w w' := by
  cases h2 : cutOk s bs k with
  | true => exact back_tt w hg s bs hl hs k l hr (cutOk_parts.1 h2).1 h2
  | false =>
    cases h1 : rightA s bs with
    | true => exact back_tf w hg s bs hl hs k l hr h1 h2
    | false => exact back_ff w hg s bs hl hs k l hr h1 h2
end Go.Proofs.YtjiddmepkbkgmaaDoor
