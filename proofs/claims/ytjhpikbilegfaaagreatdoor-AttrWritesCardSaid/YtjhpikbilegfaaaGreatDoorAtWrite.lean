/-
  What Write of package attr does with attributes, and Few of the statements, in whatever memory. The one condition: the table of kinds holds what its text lays.
-/
import Derived.Test.YtjhpikbilegfaaaGreatDoorAtRead1
namespace Go.Proofs.YtjhpikbilegfaaaGreatDoor
open Go.RowKit
set_option linter.unusedVariables false
set_option linter.unusedSimpArgs false

/-- what stands of the kind that the table has at k -/
def itemK (a : Ats) (k : Nat) : List Item :=
  match k with
  | 0 => [.origin a.o]
  | 1 => [.path a.path]
  | 2 => if 0 ≤ a.med then [.med a.med] else []
  | 3 => if 0 ≤ a.pref then [.pref a.pref] else []
  | 4 => if 0 < a.os then [.orig a.os a.ob] else []
  | 5 => if a.cl = [] then [] else [.clus a.cl]
  | 6 => if a.ex = [] then [] else [.exts a.ex]
  | 7 => tunI a.tn
  | _ => []
def itemsTo (a : Ats) : Nat → List Item
  | 0 => []
  | k + 1 => itemsTo a k ++ itemK a k
theorem itemsTo_all (a : Ats) : itemsTo a 8 = itemsAt a := by
  show ((((((([] ++ itemK a 0) ++ itemK a 1) ++ itemK a 2) ++ itemK a 3) ++ itemK a 4) ++ itemK a 5) ++ itemK a 6) ++ itemK a 7 = _
  unfold itemsAt itemK
  simp only [List.nil_append, List.append_assoc]
  rfl
def rawsTo (a : Ats) (k : Nat) : List Rw := (itemsTo a k).map Item.rw
theorem rawsTo_all (a : Ats) : rawsTo a 8 = writeAt a := by unfold rawsTo writeAt; rw [itemsTo_all]
theorem rawsTo_next (a : Ats) (k : Nat) : rawsTo a (k + 1) = rawsTo a k ++ (itemK a k).map Item.rw := by unfold rawsTo; show ((itemsTo a k ++ itemK a k).map Item.rw) = _; rw [List.map_append]
theorem itemK_len (a : Ats) (k : Nat) : (itemK a k).length ≤ 1 := by
  unfold itemK
  split
  all_goals first | exact Nat.le_refl _ | (split <;> simp) | (unfold tunI; split <;> simp) | simp
theorem rawsTo_len (a : Ats) : ∀ k, (rawsTo a k).length ≤ k
  | 0 => Nat.le_refl _
  | k + 1 => by
    have h1 := rawsTo_len a k
    have h2 := itemK_len a k
    rw [rawsTo_next, List.length_append, List.length_map]
    omega
def knK (k : Nat) : Int := match k with | 0 => 1 | 1 => 2 | 2 => 4 | 3 => 5 | 4 => 9 | 5 => 10 | 6 => 16 | _ => 22
def knF (k : Nat) : Int := match k with | 0 => 64 | 1 => 64 | 2 => 128 | 3 => 64 | 4 => 128 | 5 => 128 | 6 => 192 | _ => 192
theorem index_kn (w : World) {k : Nat} (h : k < 8) : (Instr.index 53 (.agg #[.int .i64 1, .int .i64 64, .int .i64 2, .int .i64 64, .int .i64 4, .int .i64 128, .int .i64 5, .int .i64 64, .int .i64 9, .int .i64 128, .int .i64 10, .int .i64 128, .int .i64 16, .int .i64 192, .int .i64 22, .int .i64 192]) (.int .i64 (k : Int))).run Tryz.prog w = .ok (.agg #[.int .i64 (knK k), .int .i64 (knF k)]) w := by
  match k, h with
  | 0, _ => exact index_kn0 w
  | 1, _ => exact index_kn1 w
  | 2, _ => exact index_kn2 w
  | 3, _ => exact index_kn3 w
  | 4, _ => exact index_kn4 w
  | 5, _ => exact index_kn5 w
  | 6, _ => exact index_kn6 w
  | 7, _ => exact index_kn7 w
/-- the value of the kind at k: is it there, and which one? -/
theorem val_kn (p : AtP) (hr : RightAt p.ats) (k : Nat) (hk : k < 8) : ∃ (b : List UInt8) (there : Bool), (itemK p.ats k).map Item.rw = (if there then [⟨knF k, knK k, b⟩] else []) ∧
    ∀ (x : World) (lo hi : Nat), AttrsAt x lo hi p → hi ≤ x.heap.size → Calls Tryz.prog 18 #[.agg (attC p), .int .i64 (knK k)] x (ValPost x b there) := by
  have hpth : (p.path.length ≤ 16) ∧ p.path.all okS = true := by
    have h1 := hr.path
    unfold pathOk at h1
    rw [Bool.and_eq_true, decide_eq_true_eq] at h1
    obtain ⟨h2, h3⟩ := h1
    have h4 : p.ats.path = p.path.map SgP.sg := rfl
    rw [h4, List.length_map] at h2
    rw [h4, List.all_map] at h3
    exact ⟨h2, h3⟩
  have htun : (p.tl.length ≤ 1) ∧ p.tl.all okT = true := by
    obtain ⟨h2, h3⟩ := hr.tn
    have h4 : p.ats.tn = p.tl.map TnP.tun := rfl
    rw [h4, List.length_map] at h2
    rw [h4, List.all_map] at h3
    exact ⟨h2, h3⟩
  match k, hk with
  | 0, _ =>
    obtain ⟨O, hO⟩ : ∃ O : Nat, p.o = O := ⟨p.o.toNat, by have := hr.o.1; have h : p.ats.o = p.o := rfl; omega⟩
    have hO2 : O ≤ 255 := by have := hr.o.2; have h : p.ats.o = p.o := rfl; omega
    refine ⟨[UInt8.ofNat O], true, ?_, fun x lo hi h hh => value_1 x lo hi p h hh O hO hO2⟩
    show [Item.rw (.origin p.o)] = _
    rw [hO]
    show [(⟨64, 1, [UInt8.ofNat ((O : Nat) : Int).toNat]⟩ : Rw)] = _
    rw [Int.toNat_natCast]
    rfl
  | 1, _ => exact ⟨pathB (p.path.map SgP.sg), true, rfl, fun x lo hi h hh => value_2 x lo hi p h hh hpth.1 hpth.2⟩
  | 2, _ =>
    by_cases hm : 0 ≤ p.med
    · exact ⟨be 4 p.med.toNat, true, by show (if 0 ≤ p.med then [Item.med p.med] else []).map Item.rw = _; rw [if_pos hm]; rfl, fun x lo hi h hh => value_4 x lo hi p h hh ⟨hm, hr.med.2⟩⟩
    · exact ⟨be 4 p.med.toNat, false, by show (if 0 ≤ p.med then [Item.med p.med] else []).map Item.rw = _; rw [if_neg hm]; rfl, fun x lo hi h hh => value_4n x lo hi p h hh (by omega)⟩
  | 3, _ =>
    by_cases hm : 0 ≤ p.pref
    · exact ⟨be 4 p.pref.toNat, true, by show (if 0 ≤ p.pref then [Item.pref p.pref] else []).map Item.rw = _; rw [if_pos hm]; rfl, fun x lo hi h hh => value_5 x lo hi p h hh ⟨hm, hr.pref.2⟩⟩
    · exact ⟨be 4 p.pref.toNat, false, by show (if 0 ≤ p.pref then [Item.pref p.pref] else []).map Item.rw = _; rw [if_neg hm]; rfl, fun x lo hi h hh => value_5n x lo hi p h hh (by omega)⟩
  | 4, _ =>
    rcases hr.orig with hz | hf
    · have hz1 : p.os = 0 := hz.1
      exact ⟨bytesA p.os p.ob, false, by show (if 0 < p.os then [Item.orig p.os p.ob] else []).map Item.rw = _; rw [if_neg (by omega)]; rfl, fun x lo hi h hh => value_9n x lo hi p h hh hz⟩
    · have hf4 : p.os = 4 := by have h1 : four p.os p.ob = true := hf; unfold four at h1; rw [Bool.and_eq_true, decide_eq_true_eq] at h1; exact h1.1
      exact ⟨bytesA p.os p.ob, true, by show (if 0 < p.os then [Item.orig p.os p.ob] else []).map Item.rw = _; rw [if_pos (by omega)]; rfl, fun x lo hi h hh => value_9 x lo hi p h hh hf⟩
  | 5, _ =>
    obtain ⟨h1, h2⟩ := hr.cl
    have e : ∀ l : List (Int × List UInt8), clB l = catE fD l := fun l => (cat_D l).symm
    by_cases hc : p.cl = []
    · exact ⟨clB p.cl, false, by show (if p.cl = [] then [] else [Item.clus p.cl]).map Item.rw = _; rw [if_pos hc]; rfl, fun x lo hi h hh => value_10n x lo hi p h hh h1 h2 (by rw [hc]; rfl)⟩
    · refine ⟨clB p.cl, true, by show (if p.cl = [] then [] else [Item.clus p.cl]).map Item.rw = _; rw [if_neg hc]; rfl, fun x lo hi h hh => value_10 x lo hi p h hh h1 h2 ?_⟩
      have hl : (clB p.cl).length = 4 * p.cl.length := clB_len (fun y hy => h.cl.sz y hy) h2
      have : 0 < p.cl.length := List.length_pos_iff.2 hc
      omega
  | 6, _ =>
    by_cases hc : p.ex = []
    · exact ⟨flat8 p.ex, false, by show (if p.ex = [] then [] else [Item.exts p.ex]).map Item.rw = _; rw [if_pos hc]; rfl, fun x lo hi h hh => value_16n x lo hi p h hh (by rw [hc]; rfl)⟩
    · exact ⟨flat8 p.ex, true, by show (if p.ex = [] then [] else [Item.exts p.ex]).map Item.rw = _; rw [if_neg hc]; rfl, fun x lo hi h hh => value_16 x lo hi p h hh hr.ex (List.length_pos_iff.2 hc)⟩
  | 7, _ =>
    cases ht : p.tl with
    | nil =>
      refine ⟨catE fT p.tl, false, ?_, fun x lo hi h hh => value_22n x lo hi p h hh htun.1 htun.2 (by rw [ht]; rfl)⟩
      show (tunI (p.tl.map TnP.tun)).map Item.rw = _
      rw [ht]
      rfl
    | cons t r =>
      have hr0 : r = [] := by
        have h1 := htun.1
        rw [ht] at h1
        exact List.eq_nil_of_length_eq_zero (by have h2 : r.length + 1 ≤ 1 := h1; omega)
      subst hr0
      refine ⟨catE fT p.tl, true, ?_, fun x lo hi h hh => value_22 x lo hi p h hh htun.1 htun.2 ?_⟩
      · show (tunI (p.tl.map TnP.tun)).map Item.rw = _
        rw [ht]
        show [(⟨192, 22, codeT t.tun⟩ : Rw)] = [⟨192, 22, fT t ++ []⟩]
        rw [List.append_nil]
        rfl
      · rw [ht]
        show 0 < (fT t ++ []).length
        unfold fT codeT headT
        simp
theorem AtS.grown {w x y : World} {lo hi : Nat} {p : AtP} (h : AtS w x lo hi p) {row : Option Nat} (hg : x.grownBy y row) (hr : ∀ g, row = some g → w.heap.size < g) : AtS w y lo hi p :=
  ⟨h.b.grown hg (fun e => by have := hr _ e.symm; omega), h.at_.grown hg h.hx (fun g e => .inr (by have := hr g e; have := h.hh; omega)), h.bl.grown hg h.bl.size (fun g e => by have := hr g e; omega), h.hh⟩
def WritePost (w : World) (a : Ats) (e : Ending) (w' : World) : Prop :=
  ∃ v xs, e = .returned (.tuple #[v, .int .i64 0]) ∧ OwnRaws w' w.heap.size 46 5 v xs ∧ xs.map RawP.raw = writeAt a ∧ Below w.heap.size w w'
set_option maxRecDepth 20000 in
set_option maxHeartbeats 6000000 in
theorem write_yes (w : World) (lo hi : Nat) (p : AtP) (h : AttrsAt w lo hi p) (hh : hi ≤ w.heap.size) (hkn : Known w) (hr : rightAt p.ats = true) :
    Calls Tryz.prog 6 #[.agg (attC p)] w (WritePost w p.ats) := by
  have hra := (rightAt_iff p.ats).1 hr
  have HVAL := hide (val_kn p hra)
  have S0 := hide (AtS.start h hh)
  have HOB := h.ob
  have RN0 := hide (blk_range (l := attL p) S0.out.b)
  have KN0 := hide (hkn.below ((Below.refl w.heap.size w).alloc (Nat.le_refl _) (.cells (attC p) 30)))
  have HR := hide hr
  have hsz0 : (w.alloc (.cells (attC p) 30)).heap.size = w.heap.size + 1 := by simp
  clear h hkn hr hra
  go_enter Tryz.func6, Tryz.ntmps6
  go_wp2_with ((with_reducible refine wpList_load_att ?_ (.tmp 1) rfl w.heap.size 0 rfl RN0.out HOB ?_); · rfl)
  generalize w.alloc (.cells (attC p) 30) = w0 at *
  refine (rightat_any w0 lo hi p S0.out.at_ S0.out.hx).mono ?_
  rw [HR.out]
  rintro e w1 ⟨rfl, hb1⟩
  have S1 := hide (S0.out.on hb1)
  have KN1 := hide (KN0.out.below hb1)
  have hz1 := hb1.size
  clear hb1 S0 RN0 KN0
  obtain ⟨base, hbase⟩ : ∃ base, w1.heap.size = base := ⟨_, rfl⟩
  have hbw : w.heap.size < base := by omega
  have HBS := hide hbase
  clear hbase
  go_wp2_with (with_reducible refine wpList_load_kn rfl (.global 0) rfl rfl KN1.out ?_)
  go_loopw [4, 13] (fun v i wr => ∃ (k q c : Nat) (B : Option Addr) (xs : List RawP), k ≤ 8 ∧ v = .slice B q c ∧ i = .int .i64 k ∧ xs.length = q ∧ OwnRaws wr base 46 5 (.slice B q c) xs ∧ xs.map RawP.raw = rawsTo p.ats k ∧ AtS w wr lo hi p ∧ base ≤ wr.heap.size) (fun _ i _ => 8 - (intOf i).toNat)
  case atStart => exact ⟨0, 0, 0, none, [], by decide, rfl, rfl, rfl, OwnRaws.nil _ _ _ _, rfl, S1.out, by rw [HBS.out]; exact Nat.le_refl _⟩
  case round =>
    obtain ⟨k, q, c, B, xs, hk, rfl, rfl, hql, hown, hraws, hst, hbz⟩ := hrel
    have HO := hide hown
    have HRW := hide hraws
    have ST := hide hst
    have HQL := hide hql
    have hq8 : q ≤ 8 := by have h1 := rawsTo_len p.ats k; rw [← hraws, List.length_map, hql] at h1; omega
    clear hown hraws hst hql
    by_cases hlt : k < 8
    · have hkl : ((k : Nat) : Int) < 8 := by omega
      have qk := fun (x : World) => index_kn x hlt
      obtain ⟨b, there, hit, hval⟩ := HVAL.out k hlt
      obtain ⟨K, hK⟩ : ∃ K, knK k = K := ⟨_, rfl⟩
      obtain ⟨F, hF⟩ : ∃ F, knF k = F := ⟨_, rfl⟩
      rw [hK, hF] at qk hit
      rw [hK] at hval
      have HIT := hide hit
      have HVL := hide hval
      clear hit hval hK hF
      have RNr := hide (blk_range (l := attL p) ST.out.b)
      have B9 : Hid (Below wr.heap.size wr (wr.alloc (.cells #[.int .i64 K, .int .i64 F] 52))) := hide ((Below.refl _ _).alloc (Nat.le_refl _) _)
      have c90 : (wr.alloc (.cells #[.int .i64 K, .int .i64 F] 52)).cell? ⟨wr.heap.size, 0, none⟩ = some (.int .i64 K) := (Blk.new wr _ _).cell 0
      have c91 : (wr.alloc (.cells #[.int .i64 K, .int .i64 F] 52)).cell? ⟨wr.heap.size, 1, none⟩ = some (.int .i64 F) := (Blk.new wr _ _).cell 1
      have RN9 := hide (blk_range (l := attL p) (ST.out.b.over B9.out))
      go_wp2_with ((with_reducible refine wpList_load_att ?_ (.tmp 1) rfl w.heap.size 0 rfl RN9.out HOB ?_); · rfl)
      have S9 := hide (ST.out.on B9.out)
      have HO9 := hide (HO.out.over B9.out)
      have KB9 := hide (Blk.new wr 52 #[.int .i64 K, .int .i64 F])
      have hz9 := B9.out.size
      have HNB : Hid (∀ j, blocksR (.slice B q c) xs j → j < wr.heap.size) := hide (fun j hj => (HO.out.lt j hj).2)
      clear RNr RN9 B9 ST HO c90 c91 qk
      generalize (wr.alloc (.cells #[.int .i64 K, .int .i64 F] 52)) = w9 at *
      refine (HVL.out w9 lo hi S9.out.at_ S9.out.hx).mono ?_
      rintro e w2 ⟨v2, rfl, ho2, hb2⟩
      have S2 := hide (S9.out.on hb2)
      have HO2 := hide (HO9.out.over hb2)
      have KB2 := hide (KB9.out.over hb2)
      have hz2 := hb2.size
      clear hb2 S9 HO9 KB9
      cases there
      · have hnx : xs.map RawP.raw = rawsTo p.ats (k + 1) := by rw [rawsTo_next, HIT.out, HRW.out]; simp
        have HNX := hide hnx
        clear hnx ho2
        go_wp2_with fail
        go_roundw
        case rel => exact ⟨k + 1, q, c, B, xs, by omega, rfl, by go_num, HQL.out, HO2.out, HNX.out, S2.out, by omega⟩
        case measure => simp [intOf]; omega
      · have OX2 := hide (ho2 rfl)
        obtain ⟨A2, c2, rfl, _, _⟩ := own_shape (ho2 rfl)
        have HW4 : Hid (Below w2.heap.size w2 (w2.alloc (.cells (rawC ⟨F, K, A2, b.length, c2, b⟩) 46))) := hide ((Below.refl _ _).alloc (Nat.le_refl _) _)
        obtain ⟨v5, w5, hrun, ho5, hg5, hat5⟩ := push_raws (w2.alloc (.cells (rawC ⟨F, K, A2, b.length, c2, b⟩) 46)) base 33 (.slice B q c) xs (HO2.out.over HW4.out) ⟨F, K, A2, b.length, c2, b⟩ (ownG_more (ownG_over OX2.out HW4.out) (by omega)) (fun j hj hbk => by have h1 := HNB.out j hbk; have h2 := (OX2.out.lt j hj).1; omega) _ _ _ 1 (AtG.one (Blk.new w2 46 (rawC ⟨F, K, A2, b.length, c2, b⟩))) (by rw [HQL.out]; omega) (Nat.le_trans (by omega) HW4.out.size)
        have HRUN := hide hrun
        have HO5 := hide ho5
        have S5 := hide ((S2.out.on HW4.out).grown hg5 (fun g e => by have := (HO2.out.lt g (.inl e)).1; omega))
        have hz5 := Nat.le_trans HW4.out.size hg5.size
        have hnx : (xs ++ [(⟨F, K, A2, b.length, c2, b⟩ : RawP)]).map RawP.raw = rawsTo p.ats (k + 1) := by rw [rawsTo_next, HIT.out, ← HRW.out, List.map_append]; rfl
        have HNX := hide hnx
        have k0 : w2.cell? ⟨wr.heap.size, 0, none⟩ = some (.int .i64 K) := KB2.out.cell 0
        have k1 : w2.cell? ⟨wr.heap.size, 1, none⟩ = some (.int .i64 F) := KB2.out.cell 1
        clear hrun ho5 hg5 hat5 hnx ho2 HO2 OX2 S2 HNB KB2
        go_wp2_with (first
          | (with_reducible refine wpList_build_raw1 rfl (.tmp 30) rfl ⟨F, K, A2, b.length, c2, b⟩ rfl ?_)
          | (at_builtin; refine wpList_append_ran9 rfl (.tmp 24) (.tmp 31) 33 33 33 rfl rfl rfl rfl HRUN.out ?_; refine Hid.out ?_))
        refine hide ?_
        obtain ⟨B5, c5, rfl, _, _⟩ := HO5.out.shape
        go_wp2
        go_roundw
        case rel => exact ⟨k + 1, q + 1, c5, B5, _, by omega, by rw [List.length_append, HQL.out]; rfl, by go_num, by rw [List.length_append, HQL.out]; rfl, by have := HO5.out; rw [List.length_append, HQL.out] at this; exact this, HNX.out, S5.out, by omega⟩
        case measure => simp [intOf]; omega
    · obtain rfl : k = 8 := by omega
      go_wp2
      go_ret2
      exact ⟨.slice B q c, xs, rfl, HO.out.more (by omega), by rw [HRW.out, rawsTo_all], ST.out.bl⟩
theorem write_no (w : World) (lo hi : Nat) (p : AtP) (h : AttrsAt w lo hi p) (hh : hi ≤ w.heap.size) (hr : rightAt p.ats = false) :
    Calls Tryz.prog 6 #[.agg (attC p)] w fun e w' => e = .returned (.tuple #[.slice none 0 0, .int .i64 1]) ∧ Below w.heap.size w w' := by
  have S0 := hide (AtS.start h hh)
  have HOB := h.ob
  have RN0 := hide (blk_range (l := attL p) S0.out.b)
  have HR := hide hr
  clear h hr
  go_enter Tryz.func6, Tryz.ntmps6
  go_wp2_with ((with_reducible refine wpList_load_att ?_ (.tmp 1) rfl w.heap.size 0 rfl RN0.out HOB ?_); · rfl)
  refine (rightat_any _ lo hi p S0.out.at_ S0.out.hx).mono ?_
  rw [HR.out]
  rintro e w1 ⟨rfl, hb1⟩
  have S1 := hide (S0.out.on hb1)
  clear hb1
  go_wp2_with fail
  go_ret2
  exact ⟨rfl, S1.out.bl⟩
end Go.Proofs.YtjhpikbilegfaaaGreatDoor
