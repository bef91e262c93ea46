/-
  The document's own timers: words, at, Left, Next, New, Clear. No condition.
-/
import Derived.Test.YtejcgicedjmedaaTmS
import Derived.Test.YtejcgicedjmedaaRowG
import Derived.Sort.Walk0
namespace Go.Proofs.Ytejcgicedjmedaa
open Go.RowKit
set_option linter.unusedVariables false
set_option linter.unusedSimpArgs false

abbrev TL := List (List UInt8 × Nat)
def tmL (p : List UInt8 × Nat) : List Value := [.string ⟨p.1.toArray⟩, .int .i64 p.2]
theorem tmL_len (L : TL) : ∀ x ∈ L, (tmL x).length = 2 := fun _ _ => rfl
theorem tmL_one (L : TL) : ∀ x ∈ L, ∀ u ∈ tmL x, u.oneCell' = true := fun x _ u hu => by
  simp only [tmL, List.mem_cons, List.not_mem_nil, or_false] at hu
  rcases hu with rfl | rfl <;> rfl
/-- by rising names; what a name has left -/
structure Rep (L : TL) (F : List UInt8 → Nat) : Prop where
  srt : L.Pairwise fun p q => p.1 < q.1
  mem : ∀ s n, (s, n) ∈ L ↔ (n ≠ 0 ∧ F s = n)
/-- the first place whose name is not below a name -/
structure AtK (L : TL) (s : List UInt8) (k : Nat) : Prop where
  le : k ≤ L.length
  lo : ∀ q p, q < k → L[q]? = some p → p.1 < s
  hi : ∀ p, L[k]? = some p → ¬ p.1 < s
structure RtAt (w : World) (B rp : Nat) (v : Value) (L : TL) : Prop where
  blk : Blk w rp 48 #[v]
  own : w.ownsRow B 52 2 v L.length (flatG tmL L)
  lo : B ≤ rp
  ne : v.ownBlock ≠ some rp
section
variable {w w' : World} {B rp : Nat} {v : Value} {L : TL}
theorem RtAt.cell (h : RtAt w B rp v L) : w.cell? ⟨rp, 0, none⟩ = some v := by rw [h.blk.cell]; rfl
theorem RtAt.shape (h : RtAt w B rp v L) : ∃ A c, v = .slice A L.length c ∧ L.length ≤ c ∧ c ≤ maxLen := ownG_shape h.own
theorem RtAt.at_ {A : Option Addr} {c : Nat} (h : RtAt w B rp (.slice A L.length c) L) {k : Nat} {p : List UInt8 × Nat} (hp : L[k]? = some p) :
    ∃ g, A = some ⟨g, 0, none⟩ ∧ w.cell? ⟨g, 0 + k * 2, none⟩ = some (.string ⟨p.1.toArray⟩) ∧ w.cell? ⟨g, 0 + k * 2 + 1, none⟩ = some (.int .i64 p.2) := by
  have hk := (List.getElem?_eq_some_iff.1 hp).1
  rcases h.own.2 with ⟨hv, h1⟩ | ⟨g, cap, cur, hv, _⟩
  · omega
  · injection hv with h2
    subst h2
    obtain ⟨b, o, x, he, _, _, hx, hr⟩ := (AtG.own (tmL_len L) rfl h.own).at_ (tmL_len L) hk
    injection he with he
    injection he with e1 e2
    subst e1
    subst e2
    rw [hp] at hx
    injection hx with hx
    subst hx
    exact ⟨g, rfl, hr 0 _ rfl, hr 1 _ rfl⟩
theorem RtAt.grown {row : Option Nat} (h : RtAt w B rp v L) (hg : w.grownBy w' row) (h1 : some rp ≠ row) (h2 : v.ownBlock = none ∨ v.ownBlock ≠ row) : RtAt w' B rp v L :=
  ⟨h.blk.grown hg h1, ownG_row h.own hg h2, h.lo, h.ne⟩
end
set_option maxRecDepth 20000 in
set_option maxHeartbeats 2000000 in
theorem rt_at (w : World) {B rp : Nat} {v : Value} {L : TL} (h : RtAt w B rp v L) (hL : L.length ≤ 32) (s : ByteArray) :
    Calls Try.prog 25 #[.pointer (some ⟨rp, 0, none⟩), .string s] w fun e w' => ∃ k : Nat, e = .returned (.int .i64 k) ∧ AtK L s.data.toList k ∧ w = w' := by
  obtain ⟨A, c, rfl, hc1, hc2⟩ := h.shape
  have H := hide h
  have c0 := h.cell
  clear h
  go_enter Try.func25, Try.ntmps25
  go_wp2_with fail
  go_loop [5] (fun i => ∃ j : Nat, j ≤ L.length ∧ i = .int .i64 j ∧ Hid (∀ q p, q < j → L[q]? = some p → p.1 < s.data.toList)) (fun i => L.length - (intOf i).toNat)
  case atStart => exact ⟨0, Nat.zero_le _, rfl, hide (fun q p hq => absurd hq (by omega))⟩
  case round =>
    obtain ⟨j, hj, rfl, hall⟩ := hrel
    by_cases hlt : j < L.length
    · obtain ⟨x, hx⟩ : ∃ x, L[j]? = some x := ⟨L[j], List.getElem?_eq_getElem hlt⟩
      obtain ⟨g, rfl, k0, _⟩ := H.out.at_ hx
      have k1 := k0
      rw [Nat.zero_add] at k1
      have HX := hide hx
      have HB := hide (bytesLess_eq x.1 s.toList)
      rw [ByteArray.toList_eq] at HB
      clear hx
      by_cases hlt2 : x.1 < s.data.toList
      · have hbl : Op.bytesLess x.1 s.toList = true := by rw [ByteArray.toList_eq, bytesLess_eq]; exact decide_eq_true hlt2
        have HLT := hide hlt2
        clear hlt2
        go_wp2
        go_round
        case rel => exact ⟨j + 1, by omega, by go_num, hide (fun q p hq hp => by
            by_cases e : q = j
            · subst e
              rw [HX.out] at hp
              injection hp with hp
              subst hp
              exact HLT.out
            · exact hall.out q p (by omega) hp)⟩
        case measure => simp [intOf]; omega
      · have hbl : Op.bytesLess x.1 s.toList = false := by rw [ByteArray.toList_eq, bytesLess_eq]; exact decide_eq_false hlt2
        have HLT := hide hlt2
        clear hlt2
        go_wp2
        go_ret
        exact ⟨j, rfl, ⟨hj, hall.out, fun p hp => by
          rw [HX.out] at hp
          injection hp with hp
          subst hp
          exact HLT.out⟩, rfl⟩
    · obtain rfl : j = L.length := by omega
      go_wp2
      go_ret
      exact ⟨L.length, rfl, ⟨Nat.le_refl _, hall.out, fun p hp => by rw [List.getElem?_eq_none (Nat.le_refl _)] at hp; cases hp⟩, rfl⟩
/-! ### what the document's timers say of a name -/
section
variable {L : TL} {F : List UInt8 → Nat} {s : List UInt8} {k n : Nat}
theorem Rep.hit (h : Rep L F) {m : Nat} (hk : L[k]? = some (s, m)) : F s = m ∧ m ≠ 0 := by
  have := (h.mem s m).1 (List.mem_of_getElem? hk)
  exact ⟨this.2, this.1⟩
theorem Rep.get_lt (h : Rep L F) {i j : Nat} {p q : List UInt8 × Nat} (hi : L[i]? = some p) (hj : L[j]? = some q) (hij : i < j) : p.1 < q.1 := by
  obtain ⟨h1, rfl⟩ := List.getElem?_eq_some_iff.1 hi
  obtain ⟨h2, rfl⟩ := List.getElem?_eq_some_iff.1 hj
  exact List.pairwise_iff_getElem.1 h.srt i j h1 h2 hij
theorem Rep.miss (h : Rep L F) (hk : AtK L s k) (hn : ∀ p, L[k]? = some p → p.1 ≠ s) : F s = 0 := by
  by_cases h0 : F s = 0
  · exact h0
  · exfalso
    have hm := (h.mem s (F s)).2 ⟨h0, rfl⟩
    obtain ⟨q, hq⟩ := List.getElem?_of_mem hm
    rcases Nat.lt_trichotomy q k with h1 | h1 | h1
    · exact List.lt_irrefl _ (hk.lo q _ h1 hq)
    · subst h1
      exact hn _ hq rfl
    · have hkl : k < L.length := by have := (List.getElem?_eq_some_iff.1 hq).1; omega
      have hx : L[k]? = some L[k] := List.getElem?_eq_getElem hkl
      exact hk.hi _ hx (h.get_lt hx hq h1)
theorem Rep.one (h : Rep L F) {i j : Nat} {m m' : Nat} (hi : L[i]? = some (s, m)) (hj : L[j]? = some (s, m')) : i = j := by
  rcases Nat.lt_trichotomy i j with h1 | h1 | h1
  · exact absurd (h.get_lt hi hj h1) (List.lt_irrefl _)
  · exact h1
  · exact absurd (h.get_lt hj hi h1) (List.lt_irrefl _)
theorem Rep.stop (h : Rep L F) {m : Nat} (hk : L[k]? = some (s, m)) : Rep (L.take k ++ L.drop (k + 1)) (updF F s 0) := by
  rw [← List.eraseIdx_eq_take_drop_succ]
  refine ⟨h.srt.sublist (List.eraseIdx_sublist _ _), fun t n => ?_⟩
  rw [List.mem_eraseIdx_iff_getElem?]
  constructor
  · rintro ⟨i, hne, hi⟩
    have h1 := (h.mem t n).1 (List.mem_of_getElem? hi)
    refine ⟨h1.1, ?_⟩
    rw [updF_other _ _ (fun e => hne ?_)]
    · exact h1.2
    · subst e
      exact h.one hi hk
  · rintro ⟨h0, hF⟩
    by_cases e : t = s
    · subst e; rw [updF_same] at hF; exact absurd hF.symm h0
    · rw [updF_other _ _ e] at hF
      obtain ⟨i, hi⟩ := List.getElem?_of_mem ((h.mem t n).2 ⟨h0, hF⟩)
      refine ⟨i, fun e2 => ?_, hi⟩
      subst e2
      rw [hi] at hk
      injection hk with hk
      injection hk with hk
      exact e hk
theorem Rep.start (h : Rep L F) (hF : F s = 0) (hk : AtK L s k) {m : Nat} (hm : m ≠ 0) : Rep (L.take k ++ [(s, m)] ++ L.drop k) (updF F s m) := by
  have h1 : ∀ p ∈ L.take k, p.1 < s := fun p hp => by
    obtain ⟨q, hq⟩ := List.getElem?_of_mem hp
    have hlt := (List.getElem?_eq_some_iff.1 hq).1
    rw [List.length_take] at hlt
    rw [List.getElem?_take_of_lt (by omega)] at hq
    exact hk.lo q p (by omega) hq
  have h2 : ∀ p ∈ L.drop k, s < p.1 := fun p hp => by
    obtain ⟨q, hq⟩ := List.getElem?_of_mem hp
    rw [List.getElem?_drop] at hq
    have hne : p.1 ≠ s := fun e => by
      have := (h.mem p.1 p.2).1 (List.mem_of_getElem? hq)
      rw [e, hF] at this
      exact this.1 this.2.symm
    have hnl : ¬ p.1 < s := by
      intro hl
      have hlen := (List.getElem?_eq_some_iff.1 hq).1
      by_cases e : q = 0
      · subst e
        exact hk.hi p hq hl
      · have hx : L[k]? = some L[k] := List.getElem?_eq_getElem (by omega)
        exact hk.hi _ hx (List.lt_trans (h.get_lt hx hq (by omega)) hl)
    by_cases h3 : s < p.1
    · exact h3
    · exact absurd (List.le_antisymm (List.not_lt.1 h3) (List.not_lt.1 hnl)) hne
  refine ⟨?_, fun t n => ?_⟩
  · rw [List.append_assoc]
    refine List.pairwise_append.2 ⟨h.srt.sublist (List.take_sublist _ _), List.pairwise_append.2 ⟨List.pairwise_singleton _ _, h.srt.sublist (List.drop_sublist _ _), fun a ha b hb => ?_⟩, fun a ha b hb => ?_⟩
    · rw [List.mem_singleton] at ha
      subst ha
      exact h2 b hb
    · rcases List.mem_append.1 hb with hb | hb
      · rw [List.mem_singleton] at hb
        subst hb
        exact h1 a ha
      · exact List.lt_trans (h1 a ha) (h2 b hb)
  · have e0 : (t, n) ∈ L.take k ++ [(s, m)] ++ L.drop k ↔ (t, n) = (s, m) ∨ (t, n) ∈ L := by
      conv => rhs; rw [← List.take_append_drop k L]
      simp only [List.mem_append, List.mem_singleton]
      constructor
      · rintro ((h | h) | h)
        · exact .inr (.inl h)
        · exact .inl h
        · exact .inr (.inr h)
      · rintro (h | h | h)
        · exact .inl (.inr h)
        · exact .inl (.inl h)
        · exact .inr h
    rw [e0, h.mem t n]
    by_cases e : t = s
    · subst e
      rw [updF_same, hF]
      constructor
      · rintro (h | ⟨h, h'⟩)
        · injection h with _ h
          subst h
          exact ⟨hm, rfl⟩
        · exact absurd h'.symm h
      · rintro ⟨_, rfl⟩
        exact .inl rfl
    · rw [updF_other _ _ e]
      constructor
      · rintro (h | h)
        · injection h with h
          exact absurd h e
        · exact h
      · exact .inr
theorem Rep.cnt (h : Rep L F) : Cnt F L.length := by
  refine ⟨L.map (·.1), ?_, fun t => ?_, by simp⟩
  · refine List.pairwise_map.2 (h.srt.imp fun {a b} hab e => ?_)
    rw [e] at hab
    exact List.lt_irrefl _ hab
  · rw [List.mem_map]
    constructor
    · rintro ⟨p, hp, rfl⟩
      have := (h.mem p.1 p.2).1 hp
      rw [this.2]
      exact this.1
    · intro h0
      exact ⟨(t, F t), (h.mem t (F t)).2 ⟨h0, rfl⟩, rfl⟩
theorem Rep.nil : Rep [] zeroF := ⟨List.Pairwise.nil, fun s n => ⟨fun h => by simp at h, fun ⟨h, h'⟩ => absurd h'.symm h⟩⟩
end
end Go.Proofs.Ytejcgicedjmedaa
