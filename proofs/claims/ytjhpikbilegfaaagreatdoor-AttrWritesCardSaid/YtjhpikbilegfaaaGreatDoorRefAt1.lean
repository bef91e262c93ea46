/-
  Which attributes are right by the document's own Right of layer 9, in whatever memory. No condition beyond sizes that fit memory.
-/
import Derived.Test.YtjhpikbilegfaaaGreatDoorAtRight
import Derived.Test.YtjhpikbilegfaaaGreatDoorRefTunR
import Derived.Deep.DeepCutAuto
namespace Go.Proofs.YtjhpikbilegfaaaGreatDoor
open Go.RowKit
set_option linter.unusedVariables false
set_option linter.unusedSimpArgs false

theorem refnumber_any (w : World) (n : Int) : Calls Tryz.prog 34 #[.int .i64 n] w fun e w' => e = .returned (.bool (numOkA n)) ∧ w = w' := by
  unfold numOkA
  by_cases h1 : -1 ≤ n
  · by_cases h2 : n ≤ 4294967295
    · rw [decide_eq_true (show -1 ≤ n ∧ n ≤ 4294967295 from ⟨h1, h2⟩)]
      go_enter Tryz.func34, Tryz.ntmps34
      go_wp2
      go_ret
      exact ⟨rfl, rfl⟩
    · rw [decide_eq_false (show ¬ (-1 ≤ n ∧ n ≤ 4294967295) from fun h => h2 h.2)]
      go_enter Tryz.func34, Tryz.ntmps34
      go_wp2
      go_ret
      exact ⟨rfl, rfl⟩
  · rw [decide_eq_false (show ¬ (-1 ≤ n ∧ n ≤ 4294967295) from fun h => h1 h.1)]
    go_enter Tryz.func34, Tryz.ntmps34
    go_wp2
    go_ret
    exact ⟨rfl, rfl⟩
theorem reffour_any (w : World) (s : Int) (bs : List UInt8) (hl : bs.length = 16) : Calls Tryz.prog 32 #[.agg (addrC s bs)] w fun e w' => e = .returned (.bool (four s bs)) ∧ Below w.heap.size w w' := by
  have NEW : Hid (Blk (w.alloc (.cells (addrC s bs) 25)) w.heap.size 25 (addrC s bs)) := hide (Blk.new w _ _)
  have RNG : Hid ((w.alloc (.cells (addrC s bs) 25)).rangeAt w.heap.size 0 (adL (s, bs))) := hide (blk_range (l := adL (s, bs)) (Blk.new w _ _))
  have c0 : (w.alloc (.cells (addrC s bs) 25)).cell? ⟨w.heap.size, 0, none⟩ = some (.int .i64 s) := NEW.out.cell 0
  have B0 : Hid (Below w.heap.size w (w.alloc (.cells (addrC s bs) 25))) := hide ((Below.refl _ _).alloc (Nat.le_refl _) _)
  by_cases hs : s = 4
  · subst hs
    obtain ⟨r, hr⟩ : ∃ r, rightA 4 bs = r := ⟨_, rfl⟩
    have HR := hide hr
    have HF : Hid (four 4 bs = r) := hide (by unfold four; rw [hr]; rfl)
    clear hr
    go_enter Tryz.func32, Tryz.ntmps32
    go_wp2_with (with_reducible refine wpList_load_ad rfl (.tmp 1) rfl w.heap.size 0 rfl (4, bs) RNG.out hl ?_)
    refine (refright_any _ 4 bs hl).mono ?_
    rw [HR.out]
    rintro e w1 ⟨rfl, hb1⟩
    have W1 := hide (below_step B0.out hb1 (by simp))
    clear hb1
    go_wp2
    go_ret
    exact ⟨by rw [HF.out]; rfl, W1.out⟩
  · have hs2 : (s == 4) = false := beq_eq_false_iff_ne.2 hs
    have HF : Hid (four s bs = false) := hide (by unfold four; rw [decide_eq_false hs]; rfl)
    clear hs
    go_enter Tryz.func32, Tryz.ntmps32
    go_wp2
    go_ret
    exact ⟨by rw [HF.out]; rfl, B0.out⟩
theorem path_no {l : List SgP} {x : SgP} (hm : x ∈ l) (h : sgOk x.sg = false) : pathOk (l.map SgP.sg) = false := by
  unfold pathOk
  rw [Bool.and_eq_false_iff]
  exact .inr (List.all_eq_false.2 ⟨x.sg, List.mem_map.2 ⟨x, hm, rfl⟩, by rw [h]; decide⟩)
theorem seg_len {x : SgP} (hl : x.xs.length = x.n) (h : ¬ (1 ≤ x.n ∧ x.n ≤ 255)) : sgOk x.sg = false := by
  unfold sgOk
  rw [Bool.and_eq_false_iff]
  refine .inl (decide_eq_false (fun e => h ?_))
  rw [← hl]
  exact e
theorem seg_el {x : SgP} {y : Int} (hm : y ∈ x.xs) (h : ¬ (0 ≤ y ∧ y ≤ 4294967295)) : sgOk x.sg = false := by
  unfold sgOk
  rw [Bool.and_eq_false_iff]
  exact .inr (List.all_eq_false.2 ⟨y, hm, by rw [decide_eq_false h]; decide⟩)
theorem seg_yes {x : SgP} (hl : x.xs.length = x.n) (h : 1 ≤ x.n ∧ x.n ≤ 255) (ha : ∀ y ∈ x.xs, 0 ≤ y ∧ y ≤ 4294967295) : sgOk x.sg = true := by
  unfold sgOk
  rw [Bool.and_eq_true]
  refine ⟨decide_eq_true ?_, List.all_eq_true.2 (fun y hy => decide_eq_true (ha y hy))⟩
  rw [← hl] at h
  exact h
theorem path_end {l : List SgP} {n : Nat} (hl : l.length = n) (ha : ∀ x ∈ l, sgOk x.sg = true) : pathOk (l.map SgP.sg) = decide (n ≤ 16) := by
  unfold pathOk
  rw [List.length_map, hl, List.all_eq_true.2 (fun s hs => by obtain ⟨x, hx, rfl⟩ := List.mem_map.1 hs; exact ha x hx), Bool.and_true]
set_option maxRecDepth 20000 in
set_option maxHeartbeats 2000000 in
theorem refpath_any (w : World) (lo hi : Nat) (A : Option Addr) (n c : Nat) (l : List SgP) (h : RowE sgL mS wS w lo hi A n l) (hn : n ≤ 1000000000000) :
    Calls Tryz.prog 35 #[.slice A n c] w fun e w' => e = .returned (.bool (pathOk (l.map SgP.sg))) ∧ w = w' := by
  have H := hide h
  have HL := hide h.len
  clear h
  go_enter Tryz.func35, Tryz.ntmps35
  go_wp2_with fail
  go_loop [3] (fun i => ∃ k : Nat, k ≤ n ∧ i = .int .i64 k ∧ ∀ x ∈ l.take k, sgOk x.sg = true) (fun i => n - (intOf i).toNat)
  case atStart => exact ⟨0, Nat.zero_le _, rfl, fun x hx => by simp at hx⟩
  case round =>
    obtain ⟨k, hk, rfl, hall⟩ := hrel
    have HA := hide hall
    clear hall
    by_cases hlt : k < n
    · obtain ⟨b, o, x, rfl, _, _, hx, hat⟩ := H.out.row.at_ (sz := 2) (fun y _ => sgL_len y) hlt
      have hkl : ((k : Nat) : Int) < (n : Int) := by omega
      have cx : w.cell? ⟨b, o + k * 2 + 1, none⟩ = some (.slice x.A x.n x.c) := hat 1 _ rfl
      have hmem := List.mem_of_getElem? hx
      have XR := hide (H.out.mem x hmem).1
      have XL : Hid (x.xs.length = x.n) := hide (H.out.mem x hmem).1.len
      have HX := hide hx
      have HM := hide hmem
      clear hx hat hmem
      by_cases h1 : 1 ≤ x.n
      · have h1I : ¬ (x.n : Int) < 1 := by omega
        by_cases h2 : x.n ≤ 255
        · have h2I : ¬ (255 : Int) < (x.n : Int) := by omega
          have HR : Hid (1 ≤ x.n ∧ x.n ≤ 255) := hide ⟨h1, h2⟩
          clear h1
          go_wp2_with fail
          go_loop [4] (fun i => ∃ m : Nat, m ≤ x.n ∧ i = .int .i64 m ∧ ∀ y ∈ x.xs.take m, 0 ≤ y ∧ y ≤ 4294967295) (fun i => x.n - (intOf i).toNat)
          case atStart => exact ⟨0, Nat.zero_le _, rfl, fun y hy => by simp at hy⟩
          case round =>
            obtain ⟨m, hm, rfl, hall2⟩ := hrel
            have HA2 := hide hall2
            clear hall2
            by_cases hlm : m < x.n
            · obtain ⟨b2, o2, y, hA2, _, _, hy, hat2⟩ := XR.out.at_ (sz := 1) (fun y _ => inL_len y) hlm
              have hml : ((m : Nat) : Int) < (x.n : Int) := by omega
              have ci : w.cell? ⟨b2, o2 + m * 1, none⟩ = some (.int .i64 y) := hat2 0 _ rfl
              rw [Nat.mul_one] at ci
              rw [hA2] at cx
              have HY := hide hy
              clear hy hat2
              by_cases y1 : 0 ≤ y
              · have y1I : ¬ y < 0 := by omega
                by_cases y2 : y ≤ 4294967295
                · have y2I : ¬ (4294967295 : Int) < y := by omega
                  have HNX : Hid (∀ z ∈ x.xs.take (m + 1), 0 ≤ z ∧ z ≤ 4294967295) := hide (by
                    intro z hz
                    rw [List.take_add_one, HY.out] at hz
                    rcases List.mem_append.1 hz with hz | hz
                    · exact HA2.out z hz
                    · rw [show z = y by simpa using hz]; exact ⟨y1, y2⟩)
                  clear y1 y2
                  go_wp2
                  go_round
                  case rel => exact ⟨m + 1, by omega, by go_num, HNX.out⟩
                  case measure => simp [intOf]; omega
                · have y2I : (4294967295 : Int) < y := by omega
                  have HF := hide (path_no HM.out (seg_el (List.mem_of_getElem? HY.out) (fun e => y2 e.2)))
                  clear y1 y2
                  go_wp2
                  go_ret
                  exact ⟨by rw [HF.out]; rfl, rfl⟩
              · have y1I : y < 0 := by omega
                have HF := hide (path_no HM.out (seg_el (List.mem_of_getElem? HY.out) (fun e => y1 e.1)))
                clear y1
                go_wp2
                go_ret
                exact ⟨by rw [HF.out]; rfl, rfl⟩
            · have hml : ¬ ((m : Nat) : Int) < (x.n : Int) := by omega
              have HNX : Hid (∀ y ∈ l.take (k + 1), sgOk y.sg = true) := hide (by
                intro y hy
                rw [List.take_add_one, HX.out] at hy
                rcases List.mem_append.1 hy with hy | hy
                · exact HA.out y hy
                · rw [show y = x by simpa using hy]
                  refine seg_yes XL.out HR.out (fun z hz => HA2.out z ?_)
                  rw [List.take_of_length_le (by rw [XL.out]; omega)]
                  exact hz)
              go_wp2
              go_round
              case rel => exact ⟨k + 1, by omega, by go_num, HNX.out⟩
              case measure => simp [intOf]; omega
        · have h2I : (255 : Int) < (x.n : Int) := by omega
          have HF := hide (path_no HM.out (seg_len XL.out (fun e => h2 e.2)))
          clear h1 h2
          go_wp2
          go_ret
          exact ⟨by rw [HF.out]; rfl, rfl⟩
      · have h1I : (x.n : Int) < 1 := by omega
        have HF := hide (path_no HM.out (seg_len XL.out (fun e => h1 e.1)))
        clear h1
        go_wp2
        go_ret
        exact ⟨by rw [HF.out]; rfl, rfl⟩
    · obtain rfl : k = n := by omega
      have hkl : ¬ ((k : Nat) : Int) < (k : Int) := by omega
      have HE : Hid (pathOk (l.map SgP.sg) = decide (k ≤ 16)) := hide (path_end HL.out (fun x hx => HA.out x (by rw [List.take_of_length_le (by rw [HL.out]; exact Nat.le_refl _)]; exact hx)))
      by_cases h16 : k ≤ 16
      · have hI : (k : Int) ≤ 16 := by omega
        have HD := hide (decide_eq_true h16)
        clear h16
        go_wp2
        go_ret
        exact ⟨by rw [HE.out, HD.out]; rfl, rfl⟩
      · have hI : ¬ (k : Int) ≤ 16 := by omega
        have HD := hide (decide_eq_false h16)
        clear h16
        go_wp2
        go_ret
        exact ⟨by rw [HE.out, HD.out]; rfl, rfl⟩
/-! ### Right -/
structure RtS (w x : World) (lo hi : Nat) (p : AtP) : Prop where
  s : AtS w x lo hi p
  z : Blk x (w.heap.size + 1) 25 (addrC 0 zero16)
theorem RtS.on {w x y : World} {lo hi : Nat} {p : AtP} (h : RtS w x lo hi p) (hb : Below x.heap.size x y) : RtS w y lo hi p := ⟨h.s.on hb, h.z.over hb⟩
/-- what is asked behind the loops -/
def tailA9 (p : AtP) : Bool := decide (0 ≤ p.o ∧ p.o ≤ 2) && (numOkA p.med && (numOkA p.pref && (pathOk (p.path.map SgP.sg) && (origOk p.os p.ob && (decide (p.cn ≤ 32) && (decide (p.en ≤ 64) && decide (p.tn ≤ 1)))))))
theorem tail_eq9 {w : World} {lo hi : Nat} {p : AtP} (h : AttrsAt w lo hi p) (h1 : ∀ x ∈ p.cl, okD x = true) (h2 : ∀ x ∈ p.tl, okT x = true) : rightAt p.ats = tailA9 p := by
  have e1 : p.cl.all okD = true := List.all_eq_true.2 h1
  have e2 : p.tl.all okT = true := List.all_eq_true.2 h2
  have e3 : clOk p.ats.cl = decide (p.cn ≤ 32) := by
    show (decide (p.cl.length ≤ 32) && p.cl.all okD) = _
    rw [e1, Bool.and_true, h.cl.len]
  have e4 : tnOk p.ats.tn = decide (p.tn ≤ 1) := by
    show (decide ((p.tl.map TnP.tun).length ≤ 1) && (p.tl.map TnP.tun).all rightT) = _
    rw [map_all_tn, e2, Bool.and_true, List.length_map, h.tl.len]
  have e5 : decide (p.ats.ex.length ≤ 64) = decide (p.en ≤ 64) := by rw [show p.ats.ex = p.ex from rfl, h.ex.len]
  unfold rightAt
  rw [e3, e4, e5]
  rfl
theorem right_cl {p : AtP} {x : Int × List UInt8} (hm : x ∈ p.cl) (h : okD x = false) : rightAt p.ats = false := by
  have e : clOk p.ats.cl = false := by
    show (decide (p.cl.length ≤ 32) && p.cl.all okD) = false
    rw [List.all_eq_false.2 ⟨x, hm, by rw [h]; decide⟩, Bool.and_false]
  unfold rightAt
  rw [e]
  simp
theorem right_tn {p : AtP} {x : TnP} (hm : x ∈ p.tl) (h : okT x = false) : rightAt p.ats = false := by
  have e : tnOk p.ats.tn = false := by
    show (decide ((p.tl.map TnP.tun).length ≤ 1) && (p.tl.map TnP.tun).all rightT) = false
    rw [map_all_tn, List.all_eq_false.2 ⟨x, hm, by rw [h]; decide⟩, Bool.and_false]
  unfold rightAt
  rw [e]
  simp
set_option maxRecDepth 20000 in
set_option maxHeartbeats 16000000 in
theorem refright9_any (w : World) (lo hi : Nat) (p : AtP) (h : AttrsAt w lo hi p) (hh : hi ≤ w.heap.size) (hpn : p.pn ≤ 1000000000000) (hcn : p.cn ≤ 1000000000000) (htn : p.tn ≤ 1000000000000) :
    Calls Tryz.prog 11 #[.agg (attC p)] w fun e w' => e = .returned (.bool (rightAt p.ats)) ∧ Below w.heap.size w w' := by
  have S0 : Hid (RtS w ((w.alloc (.cells (attC p) 30)).alloc (.cells #[.int .i64 0, .int .u8 0, .int .u8 0, .int .u8 0, .int .u8 0, .int .u8 0, .int .u8 0, .int .u8 0, .int .u8 0, .int .u8 0, .int .u8 0, .int .u8 0, .int .u8 0, .int .u8 0, .int .u8 0, .int .u8 0, .int .u8 0] 25)) lo hi p) := hide ⟨(AtS.start h hh).on ((Below.refl _ _).alloc (Nat.le_refl _) _), by rw [addrC_zero]; exact blk_new2 w _ _ _⟩
  have HOB := h.ob
  have HPN := hide hpn
  clear h hh hpn
  go_enter Tryz.func11, Tryz.ntmps11
  go_wp2_with fail
  go_loopw [4] (fun i wr => ∃ k : Nat, k ≤ p.cn ∧ i = .int .i64 k ∧ (∀ x ∈ p.cl.take k, okD x = true) ∧ RtS w wr lo hi p) (fun i _ => p.cn - (intOf i).toNat)
  case atStart => exact ⟨0, Nat.zero_le _, rfl, fun x hx => by simp at hx, S0.out⟩
  case round =>
    obtain ⟨k, hk, rfl, hall, hst⟩ := hrel
    have HA := hide hall
    have ST := hide hst
    have c21 := hst.s.c21
    clear hall hst S0
    by_cases hlt : k < p.cn
    · have hkl : ((k : Nat) : Int) < (p.cn : Int) := by omega
      obtain ⟨b, o, x, hcA, _, _, hx, hat⟩ := ST.out.s.at_.cl.row.at_ (sz := 17) (fun y hy => adL_len (ST.out.s.at_.cl.sz y hy)) hlt
      have hmem := List.mem_of_getElem? hx
      have X16 : x.2.length = 16 := ST.out.s.at_.cl.sz x hmem
      have HAT := hide hat
      have HX := hide hx
      have HM := hide hmem
      rw [hcA] at c21
      clear hx hat hmem
      go_wp2_with (with_reducible refine wpList_load_ad rfl (.tmp 20) rfl b (o + k * 17) rfl x HAT.out X16 ?_)
      refine (reffour_any wr x.1 x.2 X16).mono ?_
      obtain ⟨r, hr⟩ : ∃ r, okD x = r := ⟨_, rfl⟩
      have HR := hide hr
      rintro e w1 ⟨he, hb1⟩
      have he2 : e = .returned (.bool r) := by rw [he, ← hr]; rfl
      clear he
      subst he2
      have ST1 := hide (ST.out.on hb1)
      clear hb1 hr ST
      cases r
      · have HF := hide (right_cl HM.out HR.out)
        go_wp2_with fail
        go_ret
        exact ⟨by rw [HF.out]; rfl, ST1.out.s.bl⟩
      · have HNX : Hid (∀ y ∈ p.cl.take (k + 1), okD y = true) := hide (by
          intro y hy
          rw [List.take_add_one, HX.out] at hy
          rcases List.mem_append.1 hy with hy | hy
          · exact HA.out y hy
          · rw [show y = x by simpa using hy]; exact HR.out)
        go_wp2_with fail
        go_roundw
        case rel => exact ⟨k + 1, by omega, by go_num, HNX.out, ST1.out⟩
        case measure => simp [intOf]; omega
    · have hkl : ¬ ((k : Nat) : Int) < (p.cn : Int) := by omega
      have H1 : Hid (∀ x ∈ p.cl, okD x = true) := hide (fun x hx => HA.out x (by rw [List.take_of_length_le (by rw [ST.out.s.at_.cl.len]; omega)]; exact hx))
      clear HA
      go_wp2_with fail
      go_loopw [6] (fun i wr => ∃ k : Nat, k ≤ p.tn ∧ i = .int .i64 k ∧ (∀ x ∈ p.tl.take k, okT x = true) ∧ RtS w wr lo hi p) (fun i _ => p.tn - (intOf i).toNat)
      case atStart => exact ⟨0, Nat.zero_le _, rfl, fun x hx => by simp at hx, ST.out⟩
      case round =>
        clear hlt hkl hk c21
        obtain ⟨j, hj, rfl, hall, hst⟩ := hrel
        have HA := hide hall
        have ST2 := hide hst
        have c23 := hst.s.c23
        clear hall hst ST
        by_cases hlt : j < p.tn
        · have hkl : ((j : Nat) : Int) < (p.tn : Int) := by omega
          obtain ⟨b, o, x, htA, _, _, hx, hat⟩ := ST2.out.s.at_.tl.row.at_ (sz := 21) (fun y hy => tnL_len (ST2.out.s.at_.tl.sz y hy)) hlt
          have hmem := List.mem_of_getElem? hx
          have X16 : x.bs.length = 16 := ST2.out.s.at_.tl.sz x hmem
          have MX := hide (ST2.out.s.at_.tl.mem x hmem).1
          have HAT := hide hat
          have HX := hide hx
          have HM := hide hmem
          rw [htA] at c23
          clear hx hat hmem
          go_wp2_with (with_reducible refine wpList_load_tn rfl (.tmp 35) rfl b (o + j * 21) rfl x HAT.out X16 ?_)
          refine (refrightT_any wr x.lf x.k x.l x.s x.bs x.A x.n x.c lo hi x.id MX.out ST2.out.s.hx X16).mono ?_
          obtain ⟨r, hr⟩ : ∃ r, okT x = r := ⟨_, rfl⟩
          have HR := hide hr
          rintro e w1 ⟨he, hb1⟩
          have he2 : e = .returned (.bool r) := by rw [he, ← hr]; rfl
          clear he
          subst he2
          have ST3 := hide (ST2.out.on hb1)
          clear hb1 hr ST2 MX
          cases r
          · have HF := hide (right_tn HM.out HR.out)
            go_wp2_with fail
            go_ret
            exact ⟨by rw [HF.out]; rfl, ST3.out.s.bl⟩
          · have HNX : Hid (∀ y ∈ p.tl.take (j + 1), okT y = true) := hide (by
              intro y hy
              rw [List.take_add_one, HX.out] at hy
              rcases List.mem_append.1 hy with hy | hy
              · exact HA.out y hy
              · rw [show y = x by simpa using hy]; exact HR.out)
            go_wp2_with fail
            go_roundw
            case rel => exact ⟨j + 1, by omega, by go_num, HNX.out, ST3.out⟩
            case measure => simp [intOf]; omega
        · have hkl : ¬ ((j : Nat) : Int) < (p.tn : Int) := by omega
          have H2 : Hid (∀ x ∈ p.tl, okT x = true) := hide (fun x hx => HA.out x (by rw [List.take_of_length_le (by rw [ST2.out.s.at_.tl.len]; omega)]; exact hx))
          have HT := hide (tail_eq9 ST2.out.s.at_ H1.out H2.out)
          clear HA H1 H2
          obtain ⟨r4, hr4⟩ : ∃ r, pathOk (p.path.map SgP.sg) = r := ⟨_, rfl⟩
          obtain ⟨r2, hr2⟩ : ∃ r, numOkA p.med = r := ⟨_, rfl⟩
          obtain ⟨r3, hr3⟩ : ∃ r, numOkA p.pref = r := ⟨_, rfl⟩
          obtain ⟨z0, hz0⟩ : ∃ r, decide (p.os = 0 ∧ p.ob = zero16) = r := ⟨_, rfl⟩
          obtain ⟨f0, hf0⟩ : ∃ r, four p.os p.ob = r := ⟨_, rfl⟩
          have R2 := hide hr2
          have R3 := hide hr3
          have R4 := hide hr4
          have Z0 := hide hz0
          have F0 := hide hf0
          clear hr2 hr3 hr4 hz0 hf0
          go_upto_region 14 with fail
          go_cut [8] (fun v wx => Hid (v = .bool (z0 || f0) ∧ RtS w wx lo hi p))
          case first =>
            cases z0
            · cases f0
              all_goals
                go_wp2_with (first
                  | (with_reducible refine wpList_load_orig rfl (.tmp 40) rfl w.heap.size rfl ST2.out.s.b HOB ?_)
                  | (with_reducible refine wpList_load_addr rfl (.tmp 3) rfl (w.heap.size + 1) rfl ST2.out.z zero16_len ?_)
                  | (with_reducible refine wpList_eql_addr rfl (.tmp 41) (.tmp 42) rfl rfl rfl HOB zero16_len ?_; rw [Z0.out])
                  | ((with_reducible refine wpList_load_orig ?_ (.tmp 45) rfl w.heap.size rfl ST2.out.s.b HOB ?_); (· rfl))
                  | (go_at_call 32; refine (reffour_any _ p.os p.ob HOB).mono ?_; rintro e w4 ⟨rfl, hb4⟩; rw [F0.out]; have ST4 := hide (ST2.out.on hb4); clear hb4))
                go_meet
                exact ⟨rfl, ST4.out⟩
            · go_wp2_with (first
                  | (with_reducible refine wpList_load_orig rfl (.tmp 40) rfl w.heap.size rfl ST2.out.s.b HOB ?_)
                  | (with_reducible refine wpList_load_addr rfl (.tmp 3) rfl (w.heap.size + 1) rfl ST2.out.z zero16_len ?_)
                  | (with_reducible refine wpList_eql_addr rfl (.tmp 41) (.tmp 42) rfl rfl rfl HOB zero16_len ?_; rw [Z0.out])
                  | ((with_reducible refine wpList_load_orig ?_ (.tmp 45) rfl w.heap.size rfl ST2.out.s.b HOB ?_); (· rfl))
                  | (go_at_call 32; refine (reffour_any _ p.os p.ob HOB).mono ?_; rintro e w4 ⟨rfl, hb4⟩; rw [F0.out]; have ST4 := hide (ST2.out.on hb4); clear hb4))
              go_meet
              exact ⟨rfl, ST2.out⟩
          case rest =>
            obtain ⟨hv, hst4⟩ := hcut.out
            subst hv
            have ST4 := hide hst4
            clear hcut hst4 ST2 c23
            have k0 := ST4.out.s.c0
            have k1 := ST4.out.s.c1
            have k2 := ST4.out.s.c2
            have k3 := ST4.out.s.c3
            have k21 := ST4.out.s.c21
            have k22 := ST4.out.s.c22
            have k23 := ST4.out.s.c23
            have R5 : Hid ((z0 || f0) = (z0 || f0)) := hide rfl
            generalize hq5 : (z0 || f0) = r5 at *
            have Q5 := hide hq5
            clear hq5 R5
            by_cases o1 : 0 ≤ p.o
            · by_cases o2 : p.o ≤ 2
              · have HO := hide (decide_eq_true (show 0 ≤ p.o ∧ p.o ≤ 2 from ⟨o1, o2⟩))
                cases r2
                · skip
                  go_wp2_with (first
                    | (go_at_call 34; refine (refnumber_any _ p.med).mono ?_; rintro e w5 ⟨rfl, rfl⟩; rw [R2.out])
                    | (go_at_call 34; refine (refnumber_any _ p.pref).mono ?_; rintro e w5 ⟨rfl, rfl⟩; rw [R3.out])
                    | (go_at_call 35; refine (refpath_any _ lo hi p.pA p.pn p.pc p.path ST4.out.s.at_.path HPN.out).mono ?_; rintro e w5 ⟨rfl, rfl⟩; rw [R4.out]))
                  go_ret
                  exact ⟨by rw [HT.out]; unfold tailA9 origOk; (try rw [HO.out]); (try rw [R2.out]); (try rw [R3.out]); (try rw [R4.out]); rw [Z0.out, F0.out]; (try rw [Q5.out]); (try rw [HC.out]); (try rw [HE.out]); (try rw [HN.out]); (first | rfl | (show Ending.returned (Value.bool (decide ((p.tn : Int) ≤ 1))) = _; rw [t1D.out]; rfl)), ST4.out.s.bl⟩
                · skip
                  cases r3
                  · skip
                    go_wp2_with (first
                      | (go_at_call 34; refine (refnumber_any _ p.med).mono ?_; rintro e w5 ⟨rfl, rfl⟩; rw [R2.out])
                      | (go_at_call 34; refine (refnumber_any _ p.pref).mono ?_; rintro e w5 ⟨rfl, rfl⟩; rw [R3.out])
                      | (go_at_call 35; refine (refpath_any _ lo hi p.pA p.pn p.pc p.path ST4.out.s.at_.path HPN.out).mono ?_; rintro e w5 ⟨rfl, rfl⟩; rw [R4.out]))
                    go_ret
                    exact ⟨by rw [HT.out]; unfold tailA9 origOk; (try rw [HO.out]); (try rw [R2.out]); (try rw [R3.out]); (try rw [R4.out]); rw [Z0.out, F0.out]; (try rw [Q5.out]); (try rw [HC.out]); (try rw [HE.out]); (try rw [HN.out]); (first | rfl | (show Ending.returned (Value.bool (decide ((p.tn : Int) ≤ 1))) = _; rw [t1D.out]; rfl)), ST4.out.s.bl⟩
                  · skip
                    cases r4
                    · skip
                      go_wp2_with (first
                        | (go_at_call 34; refine (refnumber_any _ p.med).mono ?_; rintro e w5 ⟨rfl, rfl⟩; rw [R2.out])
                        | (go_at_call 34; refine (refnumber_any _ p.pref).mono ?_; rintro e w5 ⟨rfl, rfl⟩; rw [R3.out])
                        | (go_at_call 35; refine (refpath_any _ lo hi p.pA p.pn p.pc p.path ST4.out.s.at_.path HPN.out).mono ?_; rintro e w5 ⟨rfl, rfl⟩; rw [R4.out]))
                      go_ret
                      exact ⟨by rw [HT.out]; unfold tailA9 origOk; (try rw [HO.out]); (try rw [R2.out]); (try rw [R3.out]); (try rw [R4.out]); rw [Z0.out, F0.out]; (try rw [Q5.out]); (try rw [HC.out]); (try rw [HE.out]); (try rw [HN.out]); (first | rfl | (show Ending.returned (Value.bool (decide ((p.tn : Int) ≤ 1))) = _; rw [t1D.out]; rfl)), ST4.out.s.bl⟩
                    · skip
                      cases r5
                      · skip
                        go_wp2_with (first
                          | (go_at_call 34; refine (refnumber_any _ p.med).mono ?_; rintro e w5 ⟨rfl, rfl⟩; rw [R2.out])
                          | (go_at_call 34; refine (refnumber_any _ p.pref).mono ?_; rintro e w5 ⟨rfl, rfl⟩; rw [R3.out])
                          | (go_at_call 35; refine (refpath_any _ lo hi p.pA p.pn p.pc p.path ST4.out.s.at_.path HPN.out).mono ?_; rintro e w5 ⟨rfl, rfl⟩; rw [R4.out]))
                        go_ret
                        exact ⟨by rw [HT.out]; unfold tailA9 origOk; (try rw [HO.out]); (try rw [R2.out]); (try rw [R3.out]); (try rw [R4.out]); rw [Z0.out, F0.out]; (try rw [Q5.out]); (try rw [HC.out]); (try rw [HE.out]); (try rw [HN.out]); (first | rfl | (show Ending.returned (Value.bool (decide ((p.tn : Int) ≤ 1))) = _; rw [t1D.out]; rfl)), ST4.out.s.bl⟩
                      · skip
                        by_cases q1 : p.cn ≤ 32
                        · have q1I : (p.cn : Int) ≤ 32 := by omega
                          have HC := hide (decide_eq_true q1)
                          clear q1
                          by_cases e1 : p.en ≤ 64
                          · have e1I : (p.en : Int) ≤ 64 := by omega
                            have HE := hide (decide_eq_true e1)
                            clear e1
                            by_cases t1 : p.tn ≤ 1
                            · have t1I : (p.tn : Int) ≤ 1 := by omega
                              have HN := hide (decide_eq_true t1)
                              clear t1
                              go_wp2_with (first
                                | (go_at_call 34; refine (refnumber_any _ p.med).mono ?_; rintro e w5 ⟨rfl, rfl⟩; rw [R2.out])
                                | (go_at_call 34; refine (refnumber_any _ p.pref).mono ?_; rintro e w5 ⟨rfl, rfl⟩; rw [R3.out])
                                | (go_at_call 35; refine (refpath_any _ lo hi p.pA p.pn p.pc p.path ST4.out.s.at_.path HPN.out).mono ?_; rintro e w5 ⟨rfl, rfl⟩; rw [R4.out]))
                              go_ret
                              exact ⟨by rw [HT.out]; unfold tailA9 origOk; (try rw [HO.out]); (try rw [R2.out]); (try rw [R3.out]); (try rw [R4.out]); rw [Z0.out, F0.out]; (try rw [Q5.out]); (try rw [HC.out]); (try rw [HE.out]); (try rw [HN.out]); (first | rfl | (show Ending.returned (Value.bool (decide ((p.tn : Int) ≤ 1))) = _; rw [t1D.out]; rfl)), ST4.out.s.bl⟩
                            · have t1I : ¬ (p.tn : Int) ≤ 1 := by omega
                              have t1D := hide (decide_eq_false t1I)
                              have HN := hide (decide_eq_false t1)
                              clear t1
                              go_wp2_with (first
                                | (go_at_call 34; refine (refnumber_any _ p.med).mono ?_; rintro e w5 ⟨rfl, rfl⟩; rw [R2.out])
                                | (go_at_call 34; refine (refnumber_any _ p.pref).mono ?_; rintro e w5 ⟨rfl, rfl⟩; rw [R3.out])
                                | (go_at_call 35; refine (refpath_any _ lo hi p.pA p.pn p.pc p.path ST4.out.s.at_.path HPN.out).mono ?_; rintro e w5 ⟨rfl, rfl⟩; rw [R4.out]))
                              go_ret
                              exact ⟨by rw [HT.out]; unfold tailA9 origOk; (try rw [HO.out]); (try rw [R2.out]); (try rw [R3.out]); (try rw [R4.out]); rw [Z0.out, F0.out]; (try rw [Q5.out]); (try rw [HC.out]); (try rw [HE.out]); (try rw [HN.out]); (first | rfl | (show Ending.returned (Value.bool (decide ((p.tn : Int) ≤ 1))) = _; rw [t1D.out]; rfl)), ST4.out.s.bl⟩
                          · have e1I : ¬ (p.en : Int) ≤ 64 := by omega
                            have e1D := hide (decide_eq_false e1I)
                            have HE := hide (decide_eq_false e1)
                            clear e1
                            go_wp2_with (first
                              | (go_at_call 34; refine (refnumber_any _ p.med).mono ?_; rintro e w5 ⟨rfl, rfl⟩; rw [R2.out])
                              | (go_at_call 34; refine (refnumber_any _ p.pref).mono ?_; rintro e w5 ⟨rfl, rfl⟩; rw [R3.out])
                              | (go_at_call 35; refine (refpath_any _ lo hi p.pA p.pn p.pc p.path ST4.out.s.at_.path HPN.out).mono ?_; rintro e w5 ⟨rfl, rfl⟩; rw [R4.out]))
                            go_ret
                            exact ⟨by rw [HT.out]; unfold tailA9 origOk; (try rw [HO.out]); (try rw [R2.out]); (try rw [R3.out]); (try rw [R4.out]); rw [Z0.out, F0.out]; (try rw [Q5.out]); (try rw [HC.out]); (try rw [HE.out]); (try rw [HN.out]); (first | rfl | (show Ending.returned (Value.bool (decide ((p.tn : Int) ≤ 1))) = _; rw [t1D.out]; rfl)), ST4.out.s.bl⟩
                        · have q1I : ¬ (p.cn : Int) ≤ 32 := by omega
                          have q1D := hide (decide_eq_false q1I)
                          have HC := hide (decide_eq_false q1)
                          clear q1
                          go_wp2_with (first
                            | (go_at_call 34; refine (refnumber_any _ p.med).mono ?_; rintro e w5 ⟨rfl, rfl⟩; rw [R2.out])
                            | (go_at_call 34; refine (refnumber_any _ p.pref).mono ?_; rintro e w5 ⟨rfl, rfl⟩; rw [R3.out])
                            | (go_at_call 35; refine (refpath_any _ lo hi p.pA p.pn p.pc p.path ST4.out.s.at_.path HPN.out).mono ?_; rintro e w5 ⟨rfl, rfl⟩; rw [R4.out]))
                          go_ret
                          exact ⟨by rw [HT.out]; unfold tailA9 origOk; (try rw [HO.out]); (try rw [R2.out]); (try rw [R3.out]); (try rw [R4.out]); rw [Z0.out, F0.out]; (try rw [Q5.out]); (try rw [HC.out]); (try rw [HE.out]); (try rw [HN.out]); (first | rfl | (show Ending.returned (Value.bool (decide ((p.tn : Int) ≤ 1))) = _; rw [t1D.out]; rfl)), ST4.out.s.bl⟩
              · have o2I : ¬ p.o ≤ 2 := o2
                have HO := hide (decide_eq_false (show ¬ (0 ≤ p.o ∧ p.o ≤ 2) from fun e => o2 e.2))
                go_wp2_with (first
                  | (go_at_call 34; refine (refnumber_any _ p.med).mono ?_; rintro e w5 ⟨rfl, rfl⟩; rw [R2.out])
                  | (go_at_call 34; refine (refnumber_any _ p.pref).mono ?_; rintro e w5 ⟨rfl, rfl⟩; rw [R3.out])
                  | (go_at_call 35; refine (refpath_any _ lo hi p.pA p.pn p.pc p.path ST4.out.s.at_.path HPN.out).mono ?_; rintro e w5 ⟨rfl, rfl⟩; rw [R4.out]))
                go_ret
                exact ⟨by rw [HT.out]; unfold tailA9 origOk; (try rw [HO.out]); (try rw [R2.out]); (try rw [R3.out]); (try rw [R4.out]); rw [Z0.out, F0.out]; (try rw [Q5.out]); (try rw [HC.out]); (try rw [HE.out]); (try rw [HN.out]); (first | rfl | (show Ending.returned (Value.bool (decide ((p.tn : Int) ≤ 1))) = _; rw [t1D.out]; rfl)), ST4.out.s.bl⟩
            · have o1I : ¬ 0 ≤ p.o := o1
              have HO := hide (decide_eq_false (show ¬ (0 ≤ p.o ∧ p.o ≤ 2) from fun e => o1 e.1))
              go_wp2_with (first
                | (go_at_call 34; refine (refnumber_any _ p.med).mono ?_; rintro e w5 ⟨rfl, rfl⟩; rw [R2.out])
                | (go_at_call 34; refine (refnumber_any _ p.pref).mono ?_; rintro e w5 ⟨rfl, rfl⟩; rw [R3.out])
                | (go_at_call 35; refine (refpath_any _ lo hi p.pA p.pn p.pc p.path ST4.out.s.at_.path HPN.out).mono ?_; rintro e w5 ⟨rfl, rfl⟩; rw [R4.out]))
              go_ret
              exact ⟨by rw [HT.out]; unfold tailA9 origOk; (try rw [HO.out]); (try rw [R2.out]); (try rw [R3.out]); (try rw [R4.out]); rw [Z0.out, F0.out]; (try rw [Q5.out]); (try rw [HC.out]); (try rw [HE.out]); (try rw [HN.out]); (first | rfl | (show Ending.returned (Value.bool (decide ((p.tn : Int) ≤ 1))) = _; rw [t1D.out]; rfl)), ST4.out.s.bl⟩
end Go.Proofs.YtjhpikbilegfaaaGreatDoor
