/-
  AttrBack, walked: it returns true, whatever comes in.
-/
import Derived.Test.YtjhpikbilegfaaaDoorAtSmall
import Derived.Test.YtjhpikbilegfaaaDoorAtLaw
import Derived.Test.YtjhpikbilegfaaaDoorAtFew
import Derived.Test.YtjhpikbilegfaaaDoorAtWrite
import Derived.Test.YtjhpikbilegfaaaDoorAtReadW
import Derived.Test.YtjhpikbilegfaaaDoorAtSaid3
import Derived.Test.YtjhpikbilegfaaaDoorAtSaid4
import Derived.Test.YtjhpikbilegfaaaDoorAtSame
namespace Go.Proofs.YtjhpikbilegfaaaDoor
open Go.RowKit
set_option linter.unusedVariables false
set_option linter.unusedSimpArgs false

theorem tun_in {a : Ats} {t : Tun} (h : Item.tun t ∈ itemsAt a) : t ∈ a.tn := by
  unfold itemsAt at h
  simp only [List.mem_append, List.mem_cons, List.not_mem_nil, or_false] at h
  rcases h with (h | h) | h | h | h | h | h | h
  · cases h
  · cases h
  · split at h
    · rw [List.mem_singleton] at h; cases h
    · cases h
  · split at h
    · rw [List.mem_singleton] at h; cases h
    · cases h
  · split at h
    · rw [List.mem_singleton] at h; cases h
    · cases h
  · split at h
    · cases h
    · rw [List.mem_singleton] at h; cases h
  · split at h
    · cases h
    · rw [List.mem_singleton] at h; cases h
  · cases ht : a.tn with
    | nil => rw [ht] at h; cases h
    | cons x r =>
      rw [ht] at h
      have h1 : Item.tun t = Item.tun x := List.mem_singleton.1 h
      injection h1 with h1
      rw [h1]
      exact List.mem_cons_self
theorem err_value {x : Rw} (h : errRw x = 0) : x.v.length ≤ 4096 := by
  unfold errRw at h
  split at h
  · cases h
  · split at h
    · cases h
    · omega
/-- each item that is there may be said and written -/
theorem says_all {a : Ats} (hw : a.W) (hr : RightAt a) (hid : ∀ t ∈ a.tn, t.id.length ≤ 1024) (hj : joinE (writeAt a) = 0) : ∀ i ∈ itemsAt a, ∀ a0, Sayable i a0 := by
  intro i hi a0
  have hok := items_ok hw hr i hi
  have hv : i.value.length ≤ 4096 := by
    rw [write_join] at hj
    exact err_value (errRws_zero.1 hj i.rw (List.mem_map.2 ⟨i, hi, rfl⟩))
  cases i with
  | origin o =>
    obtain ⟨h1, h2⟩ := hok
    obtain ⟨O, rfl⟩ : ∃ O : Nat, o = (O : Int) := ⟨o.toNat, by omega⟩
    exact say_origin O (by omega) a0
  | path p => exact say_path p hok a0
  | med m =>
    obtain ⟨h1, h2⟩ := hok
    obtain ⟨O, rfl⟩ : ∃ O : Nat, m = (O : Int) := ⟨m.toNat, by omega⟩
    exact say_med O (by omega) a0
  | pref m =>
    obtain ⟨h1, h2⟩ := hok
    obtain ⟨O, rfl⟩ : ∃ O : Nat, m = (O : Int) := ⟨m.toNat, by omega⟩
    exact say_pref O (by omega) a0
  | orig s b => exact say_orig s b hok.1 hok.2 a0
  | clus l => exact say_clus l hok.2.1 hok.2.2.1 hok.2.2.2 hok.1 a0
  | exts l => exact say_exts l hok.2 hok.1 a0
  | tun t =>
    have h1 := hid t (tun_in hi)
    exact say_tun t hok.1 hok.2 (by omega) (Nat.le_trans (show (codeT t).length ≤ 4096 from hv) (by decide)) a0
theorem join_any2 (a : Ats) : joinE (writeAt a) = 0 ∨ joinE (writeAt a) = 2 := by
  rw [write_join]
  have h : ∀ l : List Rw, (∀ x ∈ l, errRw x = 0 ∨ errRw x = 2) → errRws l = 0 ∨ errRws l = 2 := by
    intro l
    induction l with
    | nil => intro _; exact .inl rfl
    | cons x r ih =>
      intro hl
      show (if errRw x = 0 then errRws r else errRw x) = 0 ∨ (if errRw x = 0 then errRws r else errRw x) = 2
      by_cases h0 : errRw x = 0
      · rw [if_pos h0]
        exact ih (fun y hy => hl y (by simp [hy]))
      · rw [if_neg h0]
        rcases hl x (by simp) with h1 | h1
        · exact absurd h1 h0
        · exact .inr h1
  exact h _ (fun x hx => by
    obtain ⟨i, _, rfl⟩ := List.mem_map.1 hx
    exact item_err i)
theorem write_short {a : Ats} (hj : joinE (writeAt a) = 0) : (joinB (writeAt a)).length ≤ 140737488355328 := by
  unfold joinB
  rw [if_pos hj]
  have h1 := codeRws_len (l := writeAt a) (by unfold joinE at hj; split at hj; exact absurd hj (by decide); exact hj)
  have h3 : (writeAt a).length ≤ 64 := by unfold joinE at hj; split at hj; exact absurd hj (by decide); omega
  have h4 : (writeAt a).length * 4100 ≤ 64 * 4100 := Nat.mul_le_mul_right _ h3
  omega
theorem ids_few {w : World} {lo hi : Nat} {p : AtP} (h : AttrsAt w lo hi p) (hf : fewA p = true) : ∀ t ∈ p.ats.tn, t.id.length ≤ 1024 := fun t ht => by
  obtain ⟨x, hx, rfl⟩ := List.mem_map.1 ht
  have h1 := (fewA_opens hf).2.1 x hx
  have h2 : x.id.length = x.n := (h.tl.mem x hx).1.len
  show x.id.length ≤ 1024
  omega
/-- what was read of few is few -/
theorem fit_read {w w' : World} {lo hi lo' hi' : Nat} {p q : AtP} (h : AttrsAt w lo hi p) (hf : fewA p = true) (h' : AttrsAt w' lo' hi' q) (e : q.ats = p.ats) : Fit9 q := by
  obtain ⟨f1, f2, f3, f4, f5, f6⟩ := fewA_opens hf
  have e1 : (q.path.map SgP.sg).length = (p.path.map SgP.sg).length := congrArg (fun a : Ats => a.path.length) e
  have e2 : q.cl.length = p.cl.length := congrArg (fun a : Ats => a.cl.length) e
  have e3 : q.ex.length = p.ex.length := congrArg (fun a : Ats => a.ex.length) e
  have e4 : (q.tl.map TnP.tun).length = (p.tl.map TnP.tun).length := congrArg (fun a : Ats => a.tn.length) e
  rw [List.length_map, List.length_map] at e1 e4
  have a1 := h.path.len
  have a2 := h.cl.len
  have a3 := h.ex.len
  have a4 := h.tl.len
  have b1 := h'.path.len
  have b2 := h'.cl.len
  have b3 := h'.ex.len
  have b4 := h'.tl.len
  refine ⟨by omega, fun x hx => ?_, by omega, by omega, by omega⟩
  have hm : x.sg ∈ p.path.map SgP.sg := by
    have h1 : q.path.map SgP.sg = p.path.map SgP.sg := congrArg Ats.path e
    rw [← h1]
    exact List.mem_map.2 ⟨x, hx, rfl⟩
  obtain ⟨y, hy, hxy⟩ := List.mem_map.1 hm
  have c1 := f1 y hy
  have c2 : y.xs.length = y.n := (h.path.mem y hy).1.len
  have c3 : x.xs.length = x.n := (h'.path.mem x hx).1.len
  have c4 : y.xs = x.xs := congrArg Sg.xs hxy
  rw [c4] at c2
  omega
set_option maxRecDepth 20000 in
set_option maxHeartbeats 8000000 in
theorem aback_walk (w : World) (hg : Known w) (p : AtP) (hA : AttrsAt w 0 w.heap.size p) (hle : p.pc ≤ Go.maxLen ∧ p.tc ≤ Go.maxLen) :
    Calls Tryd.prog 4 #[.agg (attC p)] w fun e w' => e = .returned (.bool true) ∧ Below w.heap.size w w' := by
  have S0 := hide (AtS.start hA (Nat.le_refl _))
  have KN0 := hide (hg.below ((Below.refl w.heap.size w).alloc (Nat.le_refl _) (.cells (attC p) 48)))
  have HOB := hA.ob
  have hpn : p.pn ≤ 9223372036854775807 := Nat.le_trans hA.pc hle.1
  have htn : p.tn ≤ 9223372036854775807 := Nat.le_trans hA.tc hle.2
  have HPN := hide hpn
  have HTN := hide htn
  clear hA hg hle hpn htn
  go_enter Tryd.func4, Tryd.ntmps4
  go_wp2_with fail
  generalize w.alloc (.cells (attC p) 48) = w0 at *
  refine (atsmall_any w0 KN0.out).mono ?_
  rintro e w1 ⟨rfl, hb1⟩
  have S1 := hide (S0.out.on hb1)
  have KN1 := hide (KN0.out.below (hb1.mono (by have := S0.out.bl.size; exact Nat.le_refl _)))
  have RN1 := hide (blk_range (l := attL p) S1.out.b)
  clear hb1 S0 KN0
  go_wp2_with ((with_reducible refine wpList_load_att ?_ (.tmp 1) rfl w.heap.size 0 rfl RN1.out HOB ?_); · rfl)
  refine (few_any w1 0 w.heap.size p S1.out.at_ S1.out.hx HPN.out HTN.out).mono ?_
  cases hf : fewA p
  · rintro e w2 ⟨rfl, hb2⟩
    have S2 := hide (S1.out.on hb2)
    clear hb2
    go_wp2_with fail
    go_ret
    exact ⟨rfl, S2.out.bl⟩
  · rintro e w2 ⟨rfl, hb2⟩
    have HFEW := hide hf
    have S2 := hide (S1.out.on hb2)
    have KN2 := hide (KN1.out.below hb2)
    have RN2 := hide (blk_range (l := attL p) S2.out.b)
    clear hb2 S1 KN1 RN1 hf
    go_wp2_with ((with_reducible refine wpList_load_att ?_ (.tmp 1) rfl w.heap.size 0 rfl RN2.out HOB ?_); · rfl)
    cases hr : rightAt p.ats
    · have HR := hide hr
      refine (write_no w2 0 w.heap.size p S2.out.at_ S2.out.hx HR.out).mono ?_
      rintro e w3 ⟨rfl, hb3⟩
      have S3 := hide (S2.out.on hb3)
      have RN3 := hide (blk_range (l := attL p) S3.out.b)
      clear hb3 S2 KN2 RN2 hr
      go_wp2_with (first
        | ((with_reducible refine wpList_load_att ?_ (.tmp 1) rfl w.heap.size 0 rfl RN3.out HOB ?_); · rfl)
        | (go_at_call 21; refine (rightat_any w3 0 w.heap.size p S3.out.at_ S3.out.hx).mono ?_; rw [HR.out]; rintro e w4 ⟨rfl, hb4⟩; have S4 := hide (S3.out.on hb4); clear hb4))
      go_ret
      exact ⟨rfl, S4.out.bl⟩
    · have HR := hide hr
      refine (write_yes w2 0 w.heap.size p S2.out.at_ S2.out.hx KN2.out HR.out).mono ?_
      rintro e w3 ⟨v3, xs, rfl, ho3, hr3, hb3⟩
      have S3 := hide (S2.out.on hb3)
      have KN3 := hide (KN2.out.below hb3)
      obtain ⟨A3, c3, rfl, _, _⟩ := ho3.shape
      have X3 := hide (ho3.at_ (n := xs.length) rfl)
      have RW := hide hr3
      have HBZ : Hid (w.heap.size ≤ w2.heap.size) := hide S2.out.bl.size
      have hx64 : Hid (xs.length ≤ 1000000000) := hide (by
        have h1 := congrArg List.length hr3
        have h2 : (writeAt p.ats).length ≤ 8 := by rw [← rawsTo_all]; exact rawsTo_len _ 8
        rw [List.length_map] at h1
        omega)
      clear ho3 hr3 hb3 S2 KN2 RN2 hr
      obtain ⟨n, hn⟩ : ∃ n, xs.length = n := ⟨_, rfl⟩
      rw [hn] at X3 hx64 ⊢
      clear hn
      go_wp2_with fail
      refine (join_any w3 _ _ A3 n c3 xs X3.out (Nat.le_refl _)).mono ?_
      rw [RW.out]
      rintro e w4 ⟨v4, rfl, ho4, hb4⟩
      obtain ⟨A4, c4, rfl, _, _⟩ := own_shape ho4
      have S4 := hide (S3.out.on hb4)
      have KN4 := hide (KN3.out.below hb4)
      have X4 := hide (X3.out.below hb4)
      have AT4 := hide (At.own ho4)
      have HZ4 := hide hb4.size
      clear ho4 hb4 S3 KN3 X3
      rcases join_any2 p.ats with hj | hj
      · have HJ := hide hj
        rw [hj]
        clear hj
        go_wp2_with fail
        refine (split_any w4 _ _ A4 _ c4 (joinB (writeAt p.ats)) AT4.out (Nat.le_refl _) (write_short HJ.out)).mono ?_
        rintro e w5 ⟨v5, ys, rfl, ho5, hr5, hb5⟩
        rw [split_join HJ.out] at hr5 ⊢
        obtain ⟨A5, c5, rfl, _, _⟩ := ho5.shape
        have S5 := hide (S4.out.on hb5)
        have KN5 := hide (KN4.out.below hb5)
        have Y5 := hide (ho5.at_ (n := ys.length) rfl)
        have X5 := hide (X4.out.below (hb5.mono HZ4.out))
        have RY := hide hr5
        have HZ5 := hide (Nat.le_trans HZ4.out hb5.size)
        clear ho5 hr5 hb5 S4 KN4 X4 AT4 HZ4
        obtain ⟨m, hm⟩ : ∃ m, ys.length = m := ⟨_, rfl⟩
        rw [hm] at Y5 ⊢
        clear hm
        go_wp2_with fail
        refine (readw_any w5 _ _ A5 m c5 ys Y5.out (Nat.le_refl _) KN5.out p.ats S5.out.at_.W ((rightAt_iff p.ats).1 HR.out) RY.out (says_all S5.out.at_.W ((rightAt_iff p.ats).1 HR.out) (ids_few S5.out.at_ HFEW.out) HJ.out)).mono ?_
        rintro e w6 ⟨p6, rfl, he6, hat6, hb6⟩
        have S6 := hide (S5.out.on hb6)
        have Y6 := hide (Y5.out.below hb6)
        have X6 := hide (X5.out.below (hb6.mono HZ5.out))
        have HAT6 := hide hat6
        have HE6 := hide he6
        have HZ6 := hide (Nat.le_trans HZ5.out hb6.size)
        have HY6 := hide hb6.size
        have HOB6 := hat6.ob
        have NEW := hide (Blk.new w6 48 #[.int .i64 0, .slice none 0 0, .int .i64 0, .int .i64 0, .int .i64 0, .int .u8 0, .int .u8 0, .int .u8 0, .int .u8 0, .int .u8 0, .int .u8 0, .int .u8 0, .int .u8 0, .int .u8 0, .int .u8 0, .int .u8 0, .int .u8 0, .int .u8 0, .int .u8 0, .int .u8 0, .int .u8 0, .slice none 0 0, .slice none 0 0, .slice none 0 0])
        clear he6 hat6 hb6 S5 KN5 X5 Y5 HZ5
        go_wp2_with (refine wpList_store_att rfl (.tmp 11) (.tmp 53) rfl w6.heap.size rfl p6 rfl HOB6 NEW.out rfl ?_; intro w7 hb7 hg7; have B7 := hide hb7; have W7 : Hid (Below w6.heap.size w6 w7) := hide (((Below.refl _ _).alloc (Nat.le_refl _) _).grown hg7 (by simp) (by simp)); clear hb7 hg7; refine Hid.out ?_)
        refine hide ?_
        have S7 := hide (S6.out.on W7.out)
        have Y7 := hide (Y6.out.below (W7.out.mono HY6.out))
        have X7 := hide (X6.out.below (W7.out.mono HZ6.out))
        have HAT7 := hide (HAT6.out.below W7.out)
        have HZ7 := hide (Nat.le_trans HZ6.out W7.out.size)
        have HY7 := hide (Nat.le_trans HY6.out W7.out.size)
        have HX7 := hide W7.out.size
        have FIT := hide (fit_read S7.out.at_ HFEW.out HAT7.out HE6.out)
        have EQ := hide (RW.out.trans RY.out.symm)
        clear NEW W7 S6 Y6 X6 HAT6 HZ6 HY6
        go_wp2_with (first
          | (go_at_call 14; refine (sameraws_eq w7 _ _ _ _ A3 A5 n m c3 c5 xs ys X7.out Y7.out EQ.out HZ7.out HY7.out hx64.out).mono ?_; rintro e w8 ⟨rfl, hb8⟩; have S8 := hide (S7.out.on hb8); have RN8 := hide (blk_range (l := attL p) S8.out.b); have RQ8 := hide (blk_range (l := attL p6) (B7.out.over hb8)); have HAT8 := hide (HAT7.out.below (hb8.mono HX7.out)); have HX8 := hide (Nat.le_trans HX7.out hb8.size); clear hb8)
          | ((with_reducible refine wpList_load_att ?_ (.tmp 11) rfl w6.heap.size 0 rfl RQ8.out HOB6 ?_); · rfl)
          | ((with_reducible refine wpList_load_att ?_ (.tmp 1) rfl w.heap.size 0 rfl RN8.out HOB ?_); · rfl)
          | (go_at_call 23; refine (same_any _ _ _ _ _ p6 p HAT8.out S8.out.at_ HX8.out S8.out.hx FIT.out).mono ?_; rw [HE6.out, sameAts_self]; rintro e w9 ⟨rfl, hb9⟩; have S9 := hide (S8.out.on hb9); clear hb9))
        go_ret
        exact ⟨rfl, S9.out.bl⟩
      · rw [hj]
        clear hj
        go_wp2_with fail
        go_ret
        exact ⟨rfl, S4.out.bl⟩
end Go.Proofs.YtjhpikbilegfaaaDoor
