/-
  What numbers of package addr does. The conditions: the text is shorter than 2^32 - 15 bytes, and the library's tables hold what its text lays.
-/
import Derived.Test.YtfpidnckmdiieaaGreatDoorNumber
import Derived.Test.YtfpidnckmdiieaaGreatDoorSix
namespace Go.Proofs.YtfpidnckmdiieaaGreatDoor
open Go.RowKit
set_option linter.unusedVariables false
set_option linter.unusedSimpArgs false

/-- the numbers of a text, as many as there is room for -/
def numsL (sep : List UInt8) (base top : Nat) : Nat → Bool → List UInt8 → Option (List Nat)
  | 0, _, _ => some []
  | _ + 1, false, _ => some []
  | r + 1, true, s => if numO base top (Lib.cut s sep).1 = true then (numsL sep base top r (Lib.cut s sep).2.2 (Lib.cut s sep).2.1).map (numV base top (Lib.cut s sep).1 :: ·) else none
def nums (sep : List UInt8) (base top : Nat) (s : List UInt8) : Option (List Nat) := numsL sep base top 9 (!s.isEmpty) s
theorem numsL_stop (sep : List UInt8) (base top r : Nat) (s : List UInt8) : numsL sep base top r false s = some [] := by cases r <;> rfl
theorem numV_le (base top : Nat) (s : List UInt8) : numV base top s ≤ top := by
  unfold numV
  cases h : numF base top s 0 with
  | none => simp
  | some n => simpa using numF_le base top s 0 n (Nat.zero_le _) h
theorem cut_len (s sep : List UInt8) : (Lib.cut s sep).1.length ≤ s.length ∧ (Lib.cut s sep).2.1.length ≤ s.length := by
  unfold Lib.cut
  split
  · simp; omega
  · simp
/-- a row of ints -/
def ivs (xs : List Nat) : List Value := xs.map fun (x : Nat) => Value.int .i64 (x : Int)
theorem int_info : (Tryz.prog.info? 3).map (fun i => (i.zero, i.size, i.bytes)) = some (some (.int .i64 0), 1, 8) := by kernel_rfl
theorem wpList_append_int {w : World} {ops : Array Oper} {rest : List Oper} {o : Oper} {a : Act} {Q : Exit → Act → World → Prop} (hgd : o.guard = none) (s x : Operand)
    (ho : o.op = .call { callee := .builtin .append, args := #[s, x], argTypes := #[132, 132] })
    (base : Nat) (v : Value) (n : Nat) (xs : List Nat) (hs : a.eval s = v) (hown : w.ownsRow base 3 1 v n (ivs xs))
    (g : Nat) (t : TypeId) (y : Nat) (hx : a.eval x = .slice (some ⟨g, 0, none⟩) 1 1) (hb : Blk w g t #[.int .i64 (y : Int)]) (hn : n ≤ 8000000000000) (hbase : base ≤ w.heap.size)
    (h : ∀ v' w', w'.ownsRow base 3 1 v' (n + 1) (ivs (xs ++ [y])) → w.grownBy w' v.ownBlock → wpList Tryz.prog ops Q rest (a.put o.dst v') w') : wpList Tryz.prog ops Q (o :: rest) a w := by
  obtain ⟨i0, hi0, hz0, hz1, hz2⟩ := info_parts int_info
  refine wpList_append_own w hgd s x 132 ho base 3 i0 (.int .i64 0) 1 8 Tryz.underlying132 hi0 hz0 hz1 hz2 rfl (by decide) v n (ivs xs) hs hown ⟨g, 0, none⟩ 1 1 [.int .i64 (y : Int)] hx rfl ?_ ?_ (by unfold maxLen; omega) (by omega) hbase
    (fun v' w' h1 h2 _ => h v' w' (by unfold ivs at h1 ⊢; rw [List.map_append]; exact h1) h2)
  · intro j u hu
    match j, hu with
    | 0, hu =>
      simp at hu
      subst hu
      exact hb.cell 0
  · intro u hu
    simp at hu
    subst hu
    rfl
theorem AtI.own {w : World} {base n c : Nat} {e : TypeId} {A : Option Addr} {xs : List Nat} (h : w.ownsRow base e 1 (.slice A n c) n (ivs xs)) : AtI w base w.heap.size A n xs := by
  have hl : xs.length = n := by have := h.1; simp [ivs] at this; omega
  refine ⟨hl, fun hn => ?_⟩
  rcases h.2 with ⟨_, h0⟩ | ⟨g, cap, cur, hv, hb, _⟩
  · omega
  · injection hv with hA hv2 hv3
    subst hA
    have hlt := h.lt g rfl
    refine ⟨g, 0, rfl, hb, hlt.2, fun j u hu => ?_⟩
    have := h.cells (g := g) rfl j (.int .i64 (u : Int)) (by unfold ivs; rw [List.getElem?_map, hu]; rfl)
    rwa [add_plain] at this
def slen (v : Value) : Nat := match v with | .slice _ n _ => n | _ => 0
/-- strings.Cut -/
theorem cut_list (w : World) (s sep : List UInt8) (hs : s.length < 4294967281) (hg : Glob w) :
    Calls Tryz.prog 67 #[.string ⟨s.toArray⟩, .string ⟨sep.toArray⟩] w fun e w' => e = .returned (.tuple #[.string ⟨(Lib.cut s sep).1.toArray⟩, .string ⟨(Lib.cut s sep).2.1.toArray⟩, .bool (Lib.cut s sep).2.2]) ∧ Below w.heap.size w w' := by
  obtain ⟨m, hm⟩ := hg.2.2
  refine (Tryz.strings_Cut ⟨s.toArray⟩ ⟨sep.toArray⟩ m w hs hm).mono fun e w' ⟨he, n, hw⟩ => ⟨he, ?_⟩
  subst hw
  exact below_drewN (Below.refl _ _) n
/-- what numbers hands back -/
def NumsPost (R : Option (List Nat)) (top : Nat) (w : World) (e : Ending) (w' : World) : Prop :=
  ∃ A n c, e = .returned (.tuple #[.slice A n c, .bool R.isSome]) ∧ AtI w' w.heap.size w'.heap.size A n (R.getD []) ∧ n ≤ 9 ∧ n ≤ c ∧ (∀ x ∈ R.getD [], x ≤ top) ∧ Below w.heap.size w w'
set_option maxHeartbeats 2000000 in
theorem numbers_any (w : World) (s sep : List UInt8) (hs : s.length ≤ 2000000) (base top : Nat) (hb : base ≤ 16) (ht : top ≤ 1000000) (hg : Glob w) :
    Calls Tryz.prog 161 #[.string ⟨s.toArray⟩, .string ⟨sep.toArray⟩, .int .i64 base, .int .i64 top] w (NumsPost (nums sep base top s) top w) := by
  have HG := hide hg
  clear hg
  have key : ∀ m0 : Bool, (!s.isEmpty) = m0 → Hid (nums sep base top s = numsL sep base top 9 m0 s) := fun m0 h => by unfold nums; rw [h]; exact hide rfl
  obtain ⟨m0, hm0⟩ : ∃ m0, (!s.isEmpty) = m0 := ⟨_, rfl⟩
  have HK := key m0 hm0
  clear key
  go_enter Tryz.func161, Tryz.ntmps161
  go_wp2
  go_loopw [0, 10, 11] (fun sv rv mv wr => ∃ (k : Nat) (acc : List Nat) (l : List UInt8) (m : Bool) (vv : Value), sv = .string ⟨l.toArray⟩ ∧ rv = vv ∧ mv = .bool m ∧ k ≤ 9 ∧ l.length ≤ 2000000 ∧ wr.ownsRow w.heap.size 3 1 vv k (ivs acc) ∧ Below w.heap.size w wr ∧
    Hid ((∀ x ∈ acc, x ≤ top) ∧ numsL sep base top 9 m0 s = (numsL sep base top (9 - k) m l).map (acc ++ ·))) (fun _ rv _ _ => 9 - slen rv)
  case atStart => exact ⟨0, [], s, m0, _, rfl, rfl, rfl, by omega, hs, by simpa [ivs] using World.ownsRow_nil _ _ _ _, Below.refl _ _, hide ⟨by simp, by simp⟩⟩
  case round =>
    obtain ⟨k, acc, l, m, vv, rfl, rfl, rfl, hk, hl, hown, hbel, hR⟩ := hrel
    obtain ⟨A2, c2, rfl, hc2, _⟩ := own_shape hown
    have HO := hide hown
    have HBL := hide hbel
    have hsz := hbel.size
    have HC2 := hide hc2
    clear hown hbel hc2
    by_cases hgo : m = true ∧ k ≤ 8
    · obtain ⟨rfl, hk8⟩ := hgo
      have HCL := hide (cut_len l sep)
      have hstep : numsL sep base top (9 - k) true l = if numO base top (Lib.cut l sep).1 = true then (numsL sep base top (9 - (k + 1)) (Lib.cut l sep).2.2 (Lib.cut l sep).2.1).map (numV base top (Lib.cut l sep).1 :: ·) else none := by
        rw [show 9 - k = (9 - (k + 1)) + 1 by omega]
        rfl
      obtain ⟨x, y, z, hxyz⟩ : ∃ x y z, Lib.cut l sep = (x, y, z) := ⟨_, _, _, rfl⟩
      have HX := hide hxyz
      rw [hxyz] at hstep
      have HST := hide hstep
      have hyl : y.length ≤ 2000000 := by have := HCL.out.2; rw [hxyz] at this; simp at this; omega
      have hxl : x.length ≤ 2000000 := by have := HCL.out.1; rw [hxyz] at this; simp at this; omega
      clear hstep hxyz HCL
      go_wp2_with fail
      refine (cut_list _ l sep (by omega) (HG.out.below HBL.out)).mono ?_
      rintro e w1 ⟨rfl, hb1⟩
      rw [HX.out]
      have HB1 := hide (below_step HBL.out hb1 (Nat.le_refl _))
      have HO1 := hide (HO.out.kept (grown_of_below hb1 none) (by rcases A2 with _ | a; exact .inl rfl; exact .inr (by simp [Value.ownBlock])))
      clear hb1
      simp only
      go_wp2_with fail
      refine (number_list _ x (by omega) base top hb (by omega)).mono ?_
      rintro e w2 ⟨rfl, hb2⟩
      have HB2 := hide (below_step HB1.out hb2 (Nat.le_refl _))
      have HO2 := hide (HO1.out.kept (grown_of_below hb2 none) (by rcases A2 with _ | a; exact .inl rfl; exact .inr (by simp [Value.ownBlock])))
      have hz2 := HB2.out.size
      clear hb2
      obtain ⟨o, ho⟩ : ∃ o, numO base top x = o := ⟨_, rfl⟩
      rw [ho]
      have HOO := hide ho
      clear ho
      cases o
      · go_wp2_with fail
        go_ret2
        have hn : nums sep base top s = none := by rw [HK.out, hR.out.2, HST.out]; simp [HOO.out]
        exact ⟨none, 0, 0, by rw [hn]; rfl, by rw [hn]; exact ⟨rfl, fun h => absurd h (by omega)⟩, by omega, by omega, by rw [hn]; simp, HB2.out⟩
      · go_wp2_with (at_builtin; go_must (refine wpList_append_int rfl (.tmp 39) (.tmp 41) rfl w.heap.size _ k acc rfl (HO2.out.alloc _) w2.heap.size _ (numV base top x) rfl (Blk.new w2 _ _) (by omega) (by simp; omega) ?_); intro v3 w3 hown3 hg3; have HO3 := hide hown3; have HG3 := hide hg3; clear hown3 hg3)
        go_roundw
        case rel =>
          refine ⟨k + 1, acc ++ [numV base top x], y, z, _, rfl, rfl, rfl, by omega, hyl, HO3.out, (HB2.out.alloc (by omega) _).grown HG3.out (by simp; omega) (fun g hg => (HO.out.lt g hg).1), hide ⟨?_, ?_⟩⟩
          · intro q hq
            rcases List.mem_append.1 hq with hq | hq
            · exact hR.out.1 q hq
            · simp at hq; subst hq; exact numV_le _ _ _
          · rw [hR.out.2, HST.out, if_pos HOO.out]
            simp [Option.map_map, Function.comp_def, List.append_assoc]
        case measure =>
          obtain ⟨A3, c3, e3, _⟩ := own_shape HO3.out
          rw [e3]
          simp [slen]
          omega
    · have hn : nums sep base top s = some acc := by
        rw [HK.out, hR.out.2]
        by_cases hm : m = true
        · have : 9 - k = 0 := by have : ¬ k ≤ 8 := fun h => hgo ⟨hm, h⟩; omega
          rw [this]; simp [numsL]
        · have : m = false := by simpa using hm
          rw [this, numsL_stop]; simp
      have HN := hide hn
      clear hn
      have hfin : ∀ wr', wr' = wr → NumsPost (nums sep base top s) top w (.returned (.tuple #[.slice A2 k c2, .bool true])) wr' := by
        rintro wr' rfl
        exact ⟨A2, k, c2, by rw [HN.out]; rfl, by rw [HN.out]; exact AtI.own HO.out, hk, HC2.out, by rw [HN.out]; exact hR.out.1, HBL.out⟩
      have HF := hide hfin
      clear hfin
      cases m
      · clear hgo
        go_wp2_with fail
        go_ret2
        exact HF.out _ rfl
      · have hk9 : k = 9 := by have : ¬ k ≤ 8 := fun h => hgo ⟨rfl, h⟩; omega
        subst hk9
        clear hgo
        go_wp2_with fail
        go_ret2
        exact HF.out _ rfl
end Go.Proofs.YtfpidnckmdiieaaGreatDoor
