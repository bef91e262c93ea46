/-
  PmsiCodes returns true, whatever tunnel and whatever bytes come in; what was there stays as it was. The one condition: they fit memory.
-/
import Derived.Test.YteadjgahmlcaiaaRefTunP
import Derived.Test.YteadjgahmlcaiaaTun8
import Derived.Test.YteadjgahmlcaiaaTun7
import Derived.Test.YteadjgahmlcaiaaOwned
import Derived.Test.YteadjgahmlcaiaaRefs
namespace Go.Proofs.Yteadjgahmlcaiaa
open Go.RowKit
set_option linter.unusedVariables false
set_option linter.unusedSimpArgs false

/-- a boxed tunnel, its Id, and bytes -/
structure TunQ (w x : World) (ca : Array Value) (A B : Option Addr) (n m : Nat) (id b : List UInt8) : Prop where
  a : Blk x w.heap.size 47 ca
  p : At x 0 w.heap.size A n id
  q : At x 0 w.heap.size B m b
  bel : Below w.heap.size w x
section
variable {w x y : World} {ca : Array Value} {A B : Option Addr} {n m : Nat} {id b : List UInt8}
theorem TunQ.on (h : TunQ w x ca A B n m id b) (hb : Below x.heap.size x y) : TunQ w y ca A B n m id b :=
  ⟨h.a.over hb, h.p.below (hb.mono h.bel.size), h.q.below (hb.mono h.bel.size), below_step h.bel hb (Nat.le_refl _)⟩
theorem TunQ.drew (h : TunQ w x ca A B n m id b) : TunQ w x.drew ca A B n m id b := ⟨h.a, h.p, h.q, below_drew h.bel⟩
theorem TunQ.new (w : World) (ca : Array Value) (h : At w 0 w.heap.size A n id) (h' : At w 0 w.heap.size B m b) : TunQ w (w.alloc (.cells ca 47)) ca A B n m id b :=
  ⟨Blk.new w _ _, h.alloc (Nat.le_refl _) _, h'.alloc (Nat.le_refl _) _, (Below.refl _ _).alloc (Nat.le_refl _) _⟩
theorem TunQ.made (h : TunQ w x ca A B n m id b) (o : Obj) (hg : (x.alloc o).grownBy y (some x.heap.size)) : TunQ w y ca A B n m id b :=
  h.on (below_made (Below.refl _ _) (Nat.le_refl _) o hg (Nat.le_refl _))
theorem TunQ.row {g : Nat} (h : TunQ w x ca A B n m id b) (hg : x.grownBy y (some g)) (hl : w.heap.size < g) : TunQ w y ca A B n m id b :=
  ⟨h.a.grown hg (by intro e; injection e with e; omega), h.p.grown hg h.bel.size (by intro q hq; injection hq with hq; omega), h.q.grown hg h.bel.size (by intro q hq; injection hq with hq; omega), below_row h.bel (Nat.le_refl _) hg (by omega)⟩
end
theorem own_apart {a b : Option Nat} (h : ∀ x y, a = some x → b = some y → x ≠ y) : a = none ∨ a ≠ b := by
  cases a with
  | none => exact .inl rfl
  | some x => exact .inr (by rintro rfl; exact h x x rfl rfl rfl)
theorem ownRow_is {w : World} {base : Nat} {v : Value} {n : Nat} {xs : List Value} (h : w.ownsRow base 5 1 v n xs) : OwnRow w base v := by
  rcases h.2 with ⟨h, _⟩ | ⟨g, cap, cur, h1, h2, h3, h4, h5, h6, _⟩
  · exact .inl h
  · exact .inr ⟨g, n, cap, cur, h1, h2, h3, by omega, h4, h5⟩
theorem at_lent {w : World} {g n : Nat} {t : TypeId} {bs : List UInt8} {l : List Value} (hb : Blk w g t (bvs bs ++ l).toArray) (hl : bs.length = n) : At w 0 w.heap.size (some ⟨g, 0, none⟩) n bs :=
  ⟨hl, fun _ => ⟨g, 0, rfl, Nat.zero_le _, hb.lt, fun j u hu => by
    have hj : j < bs.length := (List.getElem?_eq_some_iff.1 hu).1
    rw [Nat.zero_add, hb.cell j]
    simp [bvs, List.getElem?_append, hj]
    rw [(List.getElem?_eq_some_iff.1 hu).2]⟩⟩
theorem ownRow_lent {w : World} {B g n : Nat} {bs : List UInt8} (hb : Blk w g 5 (bvs bs ++ [bv 77]).toArray) (hl : bs.length = n) (hB : B ≤ g) (hn : n ≤ 4096) : OwnRow w B (.slice (some ⟨g, 0, none⟩) n (n + 1)) := by
  refine .inr ⟨g, n, n + 1, _, rfl, hB, hb, ?_, by omega, by unfold maxLen; omega⟩
  simp [bvs, hl]
def rowsP (A6 A7 : Option Addr) (n6 c6 n7 c7 g1 m g3 n : Nat) (q : Nat) : Value :=
  match q with
  | 0 => .slice A6 n6 c6
  | 1 => .slice A7 n7 c7
  | 2 => .slice (some ⟨g1, 0, none⟩) m (m + 1)
  | _ => .slice (some ⟨g3, 0, none⟩) n (n + 1)
theorem rowsP_apart (A6 A7 : Option Addr) (n6 c6 n7 c7 g1 m g3 n L5 L6 : Nat) (h13 : g1 < g3) (h35 : g3 < L5) (BX : ∀ a, (Value.slice A6 n6 c6).ownBlock = some a → L5 ≤ a ∧ a < L6) (BU : ∀ a, (Value.slice A7 n7 c7).ownBlock = some a → L6 ≤ a) (h56 : L5 ≤ L6) :
    ∀ p q, p < 4 → q < 4 → p ≠ q → (rowsP A6 A7 n6 c6 n7 c7 g1 m g3 n p).ownBlock = none ∨ (rowsP A6 A7 n6 c6 n7 c7 g1 m g3 n p).ownBlock ≠ (rowsP A6 A7 n6 c6 n7 c7 g1 m g3 n q).ownBlock := by
  have B0 : ∀ a, (rowsP A6 A7 n6 c6 n7 c7 g1 m g3 n 0).ownBlock = some a → L5 ≤ a ∧ a < L6 := BX
  have B1 : ∀ a, (rowsP A6 A7 n6 c6 n7 c7 g1 m g3 n 1).ownBlock = some a → L6 ≤ a := BU
  have B2 : ∀ a, (rowsP A6 A7 n6 c6 n7 c7 g1 m g3 n 2).ownBlock = some a → g1 = a := fun a h => by injection h
  have B3 : ∀ a, (rowsP A6 A7 n6 c6 n7 c7 g1 m g3 n 3).ownBlock = some a → g3 = a := fun a h => by injection h
  intro p q hp hq hpq
  match p, q, hp, hq with
  | 0, 0, _, _ => exact absurd rfl hpq
  | 1, 1, _, _ => exact absurd rfl hpq
  | 2, 2, _, _ => exact absurd rfl hpq
  | 3, 3, _, _ => exact absurd rfl hpq
  | 0, 1, _, _ => exact own_apart (fun x y hx hy => by have h1 := B0 x hx; have h2 := B1 y hy; omega)
  | 0, 2, _, _ => exact own_apart (fun x y hx hy => by have h1 := B0 x hx; have h2 := B2 y hy; omega)
  | 0, 3, _, _ => exact own_apart (fun x y hx hy => by have h1 := B0 x hx; have h2 := B3 y hy; omega)
  | 1, 0, _, _ => exact own_apart (fun x y hx hy => by have h1 := B1 x hx; have h2 := B0 y hy; omega)
  | 1, 2, _, _ => exact own_apart (fun x y hx hy => by have h1 := B1 x hx; have h2 := B2 y hy; omega)
  | 1, 3, _, _ => exact own_apart (fun x y hx hy => by have h1 := B1 x hx; have h2 := B3 y hy; omega)
  | 2, 0, _, _ => exact own_apart (fun x y hx hy => by have h1 := B2 x hx; have h2 := B0 y hy; omega)
  | 2, 1, _, _ => exact own_apart (fun x y hx hy => by have h1 := B2 x hx; have h2 := B1 y hy; omega)
  | 2, 3, _, _ => exact own_apart (fun x y hx hy => by have h1 := B2 x hx; have h2 := B3 y hy; omega)
  | 3, 0, _, _ => exact own_apart (fun x y hx hy => by have h1 := B3 x hx; have h2 := B0 y hy; omega)
  | 3, 1, _, _ => exact own_apart (fun x y hx hy => by have h1 := B3 x hx; have h2 := B1 y hy; omega)
  | 3, 2, _, _ => exact own_apart (fun x y hx hy => by have h1 := B3 x hx; have h2 := B2 y hy; omega)
theorem refbytesT_any (w : World) (lf : Bool) (k l s : Int) (bs : List UInt8) (A : Option Addr) (n c hi : Nat) (id : List UInt8) (hA : At w 0 hi A n id) (hh : hi ≤ w.heap.size) (hl : bs.length = 16) (hc : n ≤ c) :
    Calls Try.prog 29 #[.agg (tunC lf k l s bs (.slice A n c))] w fun e w' => ∃ A' c', e = .returned (.tuple #[.slice A' (outT ⟨lf, k, l, s, bs, id⟩).length c', .int .i64 (outE ⟨lf, k, l, s, bs, id⟩)]) ∧
      w'.ownsRow w.heap.size 5 1 (.slice A' (outT ⟨lf, k, l, s, bs, id⟩).length c') (outT ⟨lf, k, l, s, bs, id⟩).length (bvs (outT ⟨lf, k, l, s, bs, id⟩)) ∧ Below w.heap.size w w' := by
  by_cases hr : rightT ⟨lf, k, l, s, bs, id⟩ = true
  · rw [(out_yes hr).1, (out_yes hr).2]
    refine (refbytesT_yes w lf k l s bs A n c id (hA.more (Nat.le_refl _) hh) hl hc hr).mono ?_
    rintro e w1 ⟨v, rfl, ho, hb⟩
    obtain ⟨A', c', rfl, _, _⟩ := own_shape ho
    exact ⟨A', c', rfl, ho, hb⟩
  · have hr' : rightT ⟨lf, k, l, s, bs, id⟩ = false := by simpa using hr
    rw [(out_no hr').1, (out_no hr').2]
    refine (refbytesT_no w lf k l s bs A n c hi id hA hh hl hr').mono ?_
    rintro e w1 ⟨rfl, hb⟩
    exact ⟨none, 0, rfl, by simpa [bvs] using World.ownsRow_nil _ _ _ _, hb⟩

set_option maxRecDepth 20000 in
set_option maxHeartbeats 8000000 in
theorem pcodes_walk (w : World) (lf : Bool) (k l s : Int) (bs : List UInt8) (A : Option Addr) (n c : Nat) (id : List UInt8) (hl : bs.length = 16) (_ : (Lit.int .i64 k).wf = true) (_ : (Lit.int .i64 l).wf = true) (_ : (Lit.int .i64 s).wf = true)
    (hA : At w 0 w.heap.size A n id) (hn : n ≤ c) (hc : c ≤ 140737488351232)
    (B : Option Addr) (m d : Nat) (b : List UInt8) (hB : At w 0 w.heap.size B m b) (hm : m ≤ d) (hd : d ≤ 140737488351232) :
    Calls Try.prog 4 #[.agg (tunC lf k l s bs (.slice A n c)), .slice B m d] w fun e w' => e = .returned (.bool true) ∧ Below w.heap.size w w' := by
  rename_i wk wl ws
  have TT := hide (TunQ.new w (tunC lf k l s bs (.slice A n c)) hA hB)
  have HL := hide hl
  have HC := hide hn
  have HIL := hide hA.len
  have HBL := hide hB.len
  obtain ⟨ra, hra⟩ : ∃ r, rightT ⟨lf, k, l, s, bs, id⟩ = r := ⟨_, rfl⟩
  have RA := hide hra
  obtain ⟨O, hO⟩ : ∃ O, outT ⟨lf, k, l, s, bs, id⟩ = O := ⟨_, rfl⟩
  have HO := hide hO
  obtain ⟨oe, hoe⟩ : ∃ O, outE ⟨lf, k, l, s, bs, id⟩ = O := ⟨_, rfl⟩
  have HOE := hide hoe
  have HOR : Hid (oe = if ra then 0 else 1) := hide (by rw [← hoe]; unfold outE; rw [hra])
  obtain ⟨U, hU⟩ : ∃ U, parseT b = U := ⟨_, rfl⟩
  have HU := hide hU
  have HUL : Hid (U.bs.length = 16) := hide (by rw [← hU]; exact parseT_bs b)
  obtain ⟨pe, hpe⟩ : ∃ U, parseE b = U := ⟨_, rfl⟩
  have HPE := hide hpe
  have HPR : Hid (pe = 0 ∨ pe = 4) := hide (by rw [← hpe]; unfold parseE; split <;> simp)
  clear hA hB hn hc hm hd hl hra hU hO hoe hpe wk wl ws
  go_enter Try.func4, Try.ntmps4
  go_wp2_with fail
  refine (tunsmall_any _).mono ?_
  rintro e w1 ⟨rfl, hb1⟩
  have T1 := hide (TT.out.on hb1)
  clear hb1 TT
  have m20 := (T1.out.a.cell 20).trans (tunC_20 lf k l s (.slice A n c) HL.out)
  by_cases hbig1 : 4096 < (n : Int)
  · go_wp2
    go_ret
    exact ⟨rfl, T1.out.bel⟩
  by_cases hbig2 : 4096 < (m : Int)
  · go_wp2
    go_ret
    exact ⟨rfl, T1.out.bel⟩
  have hn4 : n ≤ 4096 := by omega
  have hm4 : m ≤ 4096 := by omega
  have s1 := T1.out.a.lt
  go_wp2_with fail
  clear hbig1 hbig2 m20
  refine (lent_any _ 0 w.heap.size B m d b T1.out.q T1.out.bel.size (by omega)).mono ?_
  rintro e w2 ⟨rfl, hblk, hbel⟩
  have T2 := hide (T1.out.on hbel)
  have KI2 := hide hblk
  have s2 := hblk.lt
  clear hbel hblk
  go_wp2_with (first
    | (with_reducible refine wpList_load_tun rfl (.tmp 2) rfl w.heap.size rfl T2.out.a HL.out ?_)
    | (refine wpList_store_tun rfl (.tmp 7) (.tmp 32) rfl w2.heap.size rfl rfl HL.out rfl (Blk.new w2 _ _) rfl ?_; intro w3 hb3 hg3; have KO3 := hide hb3; have T3 := hide (T2.out.made _ hg3); have KI3 := hide (KI2.out.stays _ hg3 (Nat.le_refl _)); have s3 := hb3.lt; have m20 := (T3.out.a.cell 20).trans (tunC_20 lf k l s (.slice A n c) HL.out); clear hb3 hg3))
  clear m20
  refine (lent_any _ 0 w.heap.size A n c id T3.out.p T3.out.bel.size (by omega)).mono ?_
  rintro e w4 ⟨rfl, hblk, hbel⟩
  have T4 := hide (T3.out.on hbel)
  have KO4 := hide (KO3.out.over hbel)
  have KI4 := hide (KI3.out.over hbel)
  have KN4 := hide hblk
  have s4 := hblk.lt
  clear hbel hblk
  go_wp2_with (first
    | (refine wpList_store_cell rfl 45 (.tmp 36) (.tmp 35) rfl w2.heap.size 20 rfl (.slice (some ⟨w3.heap.size, 0, none⟩) n (n + 1)) rfl KO4.out (by rw [tunC_size lf k l s _ HL.out]; decide) slice_size rfl rfl ?_; intro w5 hb5 hg5; rw [tunC_setid lf k l s _ _ HL.out] at hb5; have KO5 := hide hb5; have T5 := hide (T4.out.row hg5 (by omega)); have KI5 := hide (KI4.out.grown hg5 (by intro e; injection e with e; omega)); have KN5 := hide (KN4.out.grown hg5 (by intro e; injection e with e; omega)); have s5 := hb5.lt; have s5' := hg5.size; clear hb5 hg5)
    | (with_reducible refine wpList_load_tun rfl (.tmp 7) rfl w2.heap.size rfl KO5.out HL.out ?_))
  refine (bytesT_any w5 lf k l s bs _ n (n + 1) w5.heap.size id (at_lent KN5.out HIL.out) (Nat.le_refl _) HL.out (by omega)).mono ?_
  rw [HO.out, HOE.out]
  rintro e w6 ⟨A6, c6, rfl, hox, hbel⟩
  have T6 := hide (T5.out.on hbel)
  have KO6 := hide (KO5.out.over hbel)
  have KI6 := hide (KI5.out.over hbel)
  have KN6 := hide (KN5.out.over hbel)
  have OX6 := hide hox
  have BX : ∀ a, (Value.slice A6 O.length c6).ownBlock = some a → w5.heap.size ≤ a ∧ a < w6.heap.size := fun a ha => ⟨(hox.lt a ha).1, (hox.lt a ha).2⟩
  have s6 := hbel.size
  clear hbel hox
  go_wp2_with fail
  refine (parseT_any w6 0 w6.heap.size _ m (m + 1) b (at_lent KI6.out HBL.out) (Nat.le_refl _) (by omega)).mono ?_
  rw [HU.out, HPE.out]
  rintro e w7 ⟨A7, c7, rfl, hou, hbel⟩
  have T7 := hide (T6.out.on hbel)
  have KO7 := hide (KO6.out.over hbel)
  have KI7 := hide (KI6.out.over hbel)
  have KN7 := hide (KN6.out.over hbel)
  have OX7 := hide (own_over OX6.out hbel)
  have OU7 := hide hou
  have s7 := hbel.size
  clear hbel
  obtain ⟨lu, ku, nu, su, bu, iu⟩ := U
  have BU : ∀ a, (Value.slice A7 iu.length c7).ownBlock = some a → w6.heap.size ≤ a := fun a ha => (hou.lt a ha).1
  clear hou
  go_wp2_with (refine wpList_store_tun rfl (.tmp 10) (.tmp 45) rfl w7.heap.size rfl rfl HUL.out rfl (Blk.new w7 _ _) rfl ?_; intro w8 hb8 hg8; have KU8 := hide hb8; have T8 := hide (T7.out.made _ hg8); have KO8 := hide (KO7.out.stays _ hg8 (Nat.le_refl _)); have KI8 := hide (KI7.out.stays _ hg8 (Nat.le_refl _)); have KN8 := hide (KN7.out.stays _ hg8 (Nat.le_refl _)); have OX8 := hide (own_made OX7.out _ hg8); have OU8 := hide (own_made OU7.out _ hg8); have s8 := hb8.lt; clear hb8 hg8)
  refine (kept_any _ _ 0 w.heap.size B m d b KI8.out T8.out.q (by omega)).mono ?_
  rintro e w8' ⟨rfl, rfl⟩
  have m20 := (T8.out.a.cell 20).trans (tunC_20 lf k l s (.slice A n c) HL.out)
  have o20 := (KO8.out.cell 20).trans (tunC_20 lf k l s _ HL.out)
  go_wp2_with fail
  clear m20 o20
  refine (kept_any _ _ 0 w.heap.size A n c id KN8.out T8.out.p (by omega)).mono ?_
  rintro e w8'' ⟨rfl, rfl⟩
  go_wp2_with (with_reducible refine wpList_load_tun rfl (.tmp 2) rfl w.heap.size rfl T8.out.a HL.out ?_)
  refine (refbytesT_any w8 lf k l s bs A n c w.heap.size id T8.out.p T8.out.bel.size HL.out HC.out).mono ?_
  rw [HO.out, HOE.out]
  rintro e w9 ⟨A9, c9, rfl, hoy, hbel⟩
  have T9 := hide (T8.out.on hbel)
  have KO9 := hide (KO8.out.over hbel)
  have KI9 := hide (KI8.out.over hbel)
  have KN9 := hide (KN8.out.over hbel)
  have KU9 := hide (KU8.out.over hbel)
  have OX9 := hide (own_over OX8.out hbel)
  have OU9 := hide (own_over OU8.out hbel)
  have OY9 := hide hoy
  have s9 := hbel.size
  clear hbel hoy
  go_wp2_with fail
  refine (refparseT_any w9 0 w.heap.size B m d b T9.out.q T9.out.bel.size (by omega)).mono ?_
  rw [HU.out, HPE.out]
  rintro e w10 ⟨A10, c10, rfl, hov, hbel⟩
  have T10 := hide (T9.out.on hbel)
  have KO10 := hide (KO9.out.over hbel)
  have KI10 := hide (KI9.out.over hbel)
  have KN10 := hide (KN9.out.over hbel)
  have KU10 := hide (KU9.out.over hbel)
  have OX10 := hide (own_over OX9.out hbel)
  have OU10 := hide (own_over OU9.out hbel)
  have OY10 := hide (own_over OY9.out hbel)
  have OV10 := hide hov
  have s10 := hbel.size
  clear hbel hov
  go_wp2_with (refine wpList_store_tun rfl (.tmp 15) (.tmp 65) rfl w10.heap.size rfl rfl HUL.out rfl (Blk.new w10 _ _) rfl ?_; intro w11 hb11 hg11; have KV11 := hide hb11; have T11 := hide (T10.out.made _ hg11); have KO11 := hide (KO10.out.stays _ hg11 (Nat.le_refl _)); have KI11 := hide (KI10.out.stays _ hg11 (Nat.le_refl _)); have KN11 := hide (KN10.out.stays _ hg11 (Nat.le_refl _)); have KU11 := hide (KU10.out.stays _ hg11 (Nat.le_refl _)); have OX11 := hide (own_made OX10.out _ hg11); have OU11 := hide (own_made OU10.out _ hg11); have OY11 := hide (own_made OY10.out _ hg11); have OV11 := hide (own_made OV10.out _ hg11); have s11 := hb11.lt; clear hb11 hg11; have tX := (At.own OX11.out).text (P := Try.prog) 45 5 Try.underlying45 Try.underlying5 c6 9 Try.underlying9; have tY := (At.own OY11.out).text (P := Try.prog) 45 5 Try.underlying45 Try.underlying5 c9 9 Try.underlying9; refine Hid.out ?_)
  refine hide ?_
  go_wp2_with (first
    | ((with_reducible refine wpList_load_tun_g ?_ (.tmp 10) rfl w7.heap.size rfl KU11.out HUL.out ?_); (· rfl))
    | ((with_reducible refine wpList_load_tun_g ?_ (.tmp 15) rfl w10.heap.size rfl KV11.out HUL.out ?_); (· rfl)))
  clear tX tY
  refine (refequalT_any w11 lu lu ku ku nu nu su su bu bu A7 A10 iu.length iu.length c7 c10 _ _ _ _ iu iu (At.own OU11.out) (At.own OV11.out) (Nat.le_refl _) (Nat.le_refl _) HUL.out HUL.out).mono ?_
  rw [(eqT_iff _ _).2 rfl]
  rintro e w12 ⟨rfl, hbel⟩
  have T12 := hide (T11.out.on hbel)
  have KO12 := hide (KO11.out.over hbel)
  have KI12 := hide (KI11.out.over hbel)
  have KN12 := hide (KN11.out.over hbel)
  have KU12 := hide (KU11.out.over hbel)
  have OX12 := hide (own_over OX11.out hbel)
  have OU12 := hide (own_over OU11.out hbel)
  have s12 := hbel.size
  clear hbel
  have u20 := (KU12.out.cell 20).trans (tunC_20 lu ku nu su (.slice A7 iu.length c7) HUL.out)
  have o20 := (KO12.out.cell 20).trans (tunC_20 lf k l s (.slice (some ⟨w3.heap.size, 0, none⟩) n (n + 1)) HL.out)
  go_wp2_with fail
  clear u20 o20
  have hrow : ∀ q, q < 4 → (#[.slice A6 O.length c6, .slice A7 iu.length c7, .slice (some ⟨w1.heap.size, 0, none⟩) m (m + 1), .slice (some ⟨w3.heap.size, 0, none⟩) n (n + 1)] : Array Value)[q]? = some (rowsP A6 A7 O.length c6 iu.length c7 w1.heap.size m w3.heap.size n q) := by
    intro q hq
    match q, hq with
    | 0, _ => rfl
    | 1, _ => rfl
    | 2, _ => rfl
    | 3, _ => rfl
  have hOW : ∀ q, q < 4 → OwnRow (w12.alloc (.cells #[.slice A6 O.length c6, .slice A7 iu.length c7, .slice (some ⟨w1.heap.size, 0, none⟩) m (m + 1), .slice (some ⟨w3.heap.size, 0, none⟩) n (n + 1)] 45)) w1.heap.size (rowsP A6 A7 O.length c6 iu.length c7 w1.heap.size m w3.heap.size n q) := by
    intro q hq
    match q, hq with
    | 0, _ => exact ((ownRow_is OX12.out).more (by omega)).alloc _
    | 1, _ => exact ((ownRow_is OU12.out).more (by omega)).alloc _
    | 2, _ => exact (ownRow_lent KI12.out HBL.out (by omega) hm4).alloc _
    | 3, _ => exact (ownRow_lent KN12.out HIL.out (by omega) hn4).alloc _
  have hDI : ∀ p q, p < 4 → q < 4 → p ≠ q → (rowsP A6 A7 O.length c6 iu.length c7 w1.heap.size m w3.heap.size n p).ownBlock = none ∨ (rowsP A6 A7 O.length c6 iu.length c7 w1.heap.size m w3.heap.size n p).ownBlock ≠ (rowsP A6 A7 O.length c6 iu.length c7 w1.heap.size m w3.heap.size n q).ownBlock :=
    rowsP_apart A6 A7 O.length c6 iu.length c7 w1.heap.size m w3.heap.size n (w5.heap.size) (w6.heap.size) (by omega) (by omega) BX BU (by omega)
  refine (owned_any _ w1.heap.size w12.heap.size 4 4 (rowsP A6 A7 O.length c6 iu.length c7 w1.heap.size m w3.heap.size n) _ (by omega) (by omega) (by omega) hrow (Blk.new w12 45 _) (by simp; omega) hOW hDI).mono ?_
  rintro e w13 ⟨rfl, hbel⟩
  have T13 := hide (TunQ.mk (w := w) (x := w13) ((T12.out.a.alloc _).below hbel (by omega)) (((T12.out.p.alloc (by omega) _)).below (hbel.mono (by omega))) ((T12.out.q.alloc (by omega) _).below (hbel.mono (by omega))) ((T12.out.bel.alloc (by omega) _).trans (hbel.mono (by omega))))
  clear hbel hrow hOW hDI
  go_wp2_with fail
  have hpe := HPR.out
  refine wp_region_held_drew (S := fun x => TunQ w x (tunC lf k l s bs (.slice A n c)) A B n m id b) (by kernel_rfl) T13.out.drew (fun hHeld => ?_)
  have hoe : oe = 0 ∨ oe = 1 := by rw [HOR.out]; cases ra <;> simp
  clear KO3 KI2
  rcases hoe with rfl | rfl <;> rcases hpe with rfl | rfl <;> cases ra
  all_goals
    refine region_take (i := 0) (v := ?_) rfl (by kernel_rfl) (by kernel_rfl) (by kernel_rfl) (fun _ _ _ h => h) (Or.inl ⟨by rfl, ?_⟩) (by assumption) ?_
    rotate_left
    · (intro w' hSw; (try dsimp only at hSw); go_simp <;> with_reducible rfl)
    simp only [Act.put, List.setIfInBounds_toArray, List.set_cons_zero, List.set_cons_succ]
    refine region_take (i := 1) (v := ?_) rfl (by kernel_rfl) (by kernel_rfl) (by kernel_rfl) (fun _ _ _ h => h) (Or.inl ⟨by rfl, ?_⟩) (by assumption) ?_
    rotate_left
    · (intro w' hSw; (try dsimp only at hSw); go_simp <;> with_reducible rfl)
    simp only [Act.put, List.setIfInBounds_toArray, List.set_cons_zero, List.set_cons_succ]
    refine region_take (i := 2) (v := ?_) rfl (by kernel_rfl) (by kernel_rfl) (by kernel_rfl) (fun _ _ _ h => h) (Or.inl ⟨by rfl, ?_⟩) (by assumption) ?_
    rotate_left
    · (intro w' hSw; (try dsimp only at hSw); go_simp <;> with_reducible rfl)
    simp only [Act.put, List.setIfInBounds_toArray, List.set_cons_zero, List.set_cons_succ]
    refine region_take (i := 3) (v := ?_) rfl (by kernel_rfl) (by kernel_rfl) (by kernel_rfl) (fun _ _ _ h => h) (Or.inl ⟨by rfl, ?_⟩) (by assumption) ?_
    rotate_left
    · (intro w' hSw; (try dsimp only at hSw); go_simp <;> with_reducible rfl)
    simp only [Act.put, List.setIfInBounds_toArray, List.set_cons_zero, List.set_cons_succ]
    refine region_take (i := 4) (v := ?_) rfl (by kernel_rfl) (by kernel_rfl) (by kernel_rfl) (fun _ _ _ h => h) (Or.inl ⟨by rfl, ?_⟩) (by assumption) ?_
    rotate_left
    · (intro w' hSw; (try dsimp only at hSw); go_simp <;> with_reducible rfl)
    simp only [Act.put, List.setIfInBounds_toArray, List.set_cons_zero, List.set_cons_succ]
    refine region_take (i := 5) (v := ?_) rfl (by kernel_rfl) (by kernel_rfl) (by kernel_rfl) (fun _ _ _ h => h) (Or.inl ⟨by rfl, ?_⟩) (by assumption) ?_
    rotate_left
    · (intro w' hSw; (try dsimp only at hSw); go_simp <;> with_reducible rfl)
    simp only [Act.put, List.setIfInBounds_toArray, List.set_cons_zero, List.set_cons_succ]
    refine region_take (i := 6) (v := ?_) rfl (by kernel_rfl) (by kernel_rfl) (by kernel_rfl) (fun _ _ _ h => h) (Or.inl ⟨by rfl, ?_⟩) (by assumption) ?_
    rotate_left
    · (intro w' hSw; (try dsimp only at hSw); go_simp <;> with_reducible rfl)
    simp only [Act.put, List.setIfInBounds_toArray, List.set_cons_zero, List.set_cons_succ]
    refine region_take (i := 7) (v := ?_) rfl (by kernel_rfl) (by kernel_rfl) (by kernel_rfl) (fun _ _ _ h => h) (Or.inl ⟨by rfl, ?_⟩) (by assumption) ?_
    rotate_left
    · (intro w' hSw; (try dsimp only at hSw); go_simp <;> with_reducible rfl)
    simp only [Act.put, List.setIfInBounds_toArray, List.set_cons_zero, List.set_cons_succ]
    refine region_take (i := 8) (v := ?_) rfl (by kernel_rfl) (by kernel_rfl) (by kernel_rfl) (fun _ _ _ h => h) (Or.inl ⟨by rfl, ?_⟩) (by assumption) ?_
    rotate_left
    · (intro w' hSw; (try dsimp only at hSw); go_simp <;> with_reducible rfl)
    simp only [Act.put, List.setIfInBounds_toArray, List.set_cons_zero, List.set_cons_succ]
    refine region_take (i := 9) (v := ?_) rfl (by kernel_rfl) (by kernel_rfl) (by kernel_rfl) (fun _ _ _ h => h) (Or.inl ⟨by rfl, ?_⟩) (by assumption) ?_
    rotate_left
    · (intro w' hSw; (try dsimp only at hSw); go_simp <;> with_reducible rfl)
    simp only [Act.put, List.setIfInBounds_toArray, List.set_cons_zero, List.set_cons_succ]
    refine region_take (i := 10) (v := ?_) rfl (by kernel_rfl) (by kernel_rfl) (by kernel_rfl) (fun _ _ _ h => h) (Or.inl ⟨by rfl, ?_⟩) (by assumption) ?_
    rotate_left
    · (intro w' hSw; (try dsimp only at hSw); go_simp <;> with_reducible rfl)
    simp only [Act.put, List.setIfInBounds_toArray, List.set_cons_zero, List.set_cons_succ]
    refine region_take (i := 11) (v := ?_) rfl (by kernel_rfl) (by kernel_rfl) (by kernel_rfl) (fun _ _ _ h => h) (Or.inl ⟨by rfl, ?_⟩) (by assumption) ?_
    rotate_left
    · (intro w' hSw; (try dsimp only at hSw); go_simp <;> with_reducible rfl)
    simp only [Act.put, List.setIfInBounds_toArray, List.set_cons_zero, List.set_cons_succ]
    refine region_take (i := 12) (v := ?_) rfl (by kernel_rfl) (by kernel_rfl) (by kernel_rfl) (fun _ _ _ h => h) (Or.inl ⟨by rfl, ?_⟩) (by assumption) ?_
    rotate_left
    · (intro w' hSw; (try dsimp only at hSw); go_simp <;> with_reducible rfl)
    simp only [Act.put, List.setIfInBounds_toArray, List.set_cons_zero, List.set_cons_succ]
    refine region_take (i := 13) (v := ?_) rfl (by kernel_rfl) (by kernel_rfl) (by kernel_rfl) (fun _ _ _ h => h) (Or.inl ⟨by rfl, ?_⟩) (by assumption) ?_
    rotate_left
    · (intro w' hSw; (try dsimp only at hSw); go_simp <;> with_reducible rfl)
    simp only [Act.put, List.setIfInBounds_toArray, List.set_cons_zero, List.set_cons_succ]
    refine region_take (i := 14) (v := ?_) rfl (by kernel_rfl) (by kernel_rfl) (by kernel_rfl) (fun _ _ _ h => h) (Or.inl ⟨by rfl, ?_⟩) (by assumption) ?_
    rotate_left
    · (intro w' hSw; (try dsimp only at hSw); go_simp <;> with_reducible rfl)
    simp only [Act.put, List.setIfInBounds_toArray, List.set_cons_zero, List.set_cons_succ]
    refine region_take (i := 15) (v := ?_) rfl (by kernel_rfl) (by kernel_rfl) (by kernel_rfl) (fun _ _ _ h => h) (Or.inl ⟨by rfl, ?_⟩) (by assumption) ?_
    rotate_left
    · (intro w' hSw; (try dsimp only at hSw); go_simp <;> with_reducible rfl)
    simp only [Act.put, List.setIfInBounds_toArray, List.set_cons_zero, List.set_cons_succ]
    refine region_take (i := 16) (v := ?_) rfl (by kernel_rfl) (by kernel_rfl) (by kernel_rfl) (fun _ _ _ h => h) (Or.inl ⟨by rfl, ?_⟩) (by assumption) ?_
    rotate_left
    · (intro w' hSw; (try dsimp only at hSw); go_simp <;> with_reducible rfl)
    simp only [Act.put, List.setIfInBounds_toArray, List.set_cons_zero, List.set_cons_succ]
    refine region_take (i := 17) (v := ?_) rfl (by kernel_rfl) (by kernel_rfl) (by kernel_rfl) (fun _ _ _ h => h) (Or.inl ⟨by rfl, ?_⟩) (by assumption) ?_
    rotate_left
    · (intro w' hSw; (try dsimp only at hSw); go_simp <;> with_reducible rfl)
    simp only [Act.put, List.setIfInBounds_toArray, List.set_cons_zero, List.set_cons_succ]
    refine region_take (i := 18) (v := ?_) rfl (by kernel_rfl) (by kernel_rfl) (by kernel_rfl) (fun _ _ _ h => h) (Or.inl ⟨by rfl, ?_⟩) (by assumption) ?_
    rotate_left
    · (intro w' hSw; (try dsimp only at hSw); go_simp <;> with_reducible rfl)
    simp only [Act.put, List.setIfInBounds_toArray, List.set_cons_zero, List.set_cons_succ]
    refine region_take (i := 19) (v := ?_) rfl (by kernel_rfl) (by kernel_rfl) (by kernel_rfl) (fun _ _ _ h => h) (Or.inl ⟨by rfl, ?_⟩) (by assumption) ?_
    rotate_left
    · (intro w' hSw; (try dsimp only at hSw); go_simp <;> with_reducible rfl)
    simp only [Act.put, List.setIfInBounds_toArray, List.set_cons_zero, List.set_cons_succ]
    refine region_take (i := 20) (v := ?_) rfl (by kernel_rfl) (by kernel_rfl) (by kernel_rfl) (fun _ _ _ h => h) (Or.inl ⟨by rfl, ?_⟩) (by assumption) ?_
    rotate_left
    · (intro w' hSw; (try dsimp only at hSw); go_simp <;> with_reducible rfl)
    simp only [Act.put, List.setIfInBounds_toArray, List.set_cons_zero, List.set_cons_succ]
    refine region_take (i := 21) (v := (.agg (tunC lf k l s bs (.slice A n c)))) rfl (by kernel_rfl) (by kernel_rfl) (by kernel_rfl) (fun _ _ _ h => h) (Or.inl ⟨by rfl, ?_⟩) (by assumption) ?_
    · (intro w' hSw; exact exec_load_tun (.tmp 2) rfl w.heap.size rfl hSw.a HL.out)
    simp only [Act.put, List.setIfInBounds_toArray, List.set_cons_zero, List.set_cons_succ]
    refine region_take (i := 23) (v := (.agg (tunC lf k l s bs (.slice A n c)))) rfl (by kernel_rfl) (by kernel_rfl) (by kernel_rfl) (fun _ _ _ h => h) (Or.inl ⟨by rfl, ?_⟩) (by assumption) ?_
    · (intro w' hSw; exact exec_load_tun (.tmp 2) rfl w.heap.size rfl hSw.a HL.out)
    simp only [Act.put, List.setIfInBounds_toArray, List.set_cons_zero, List.set_cons_succ]
    refine region_call (i := 22) rfl (by kernel_rfl) (by rfl) (rightT_any _ lf k l s bs A n c 0 w.heap.size id hHeld.p hHeld.bel.size HL.out) (fun w => by kernel_rfl) ?_
    rintro e z22 ⟨rfl, hz⟩; rw [RA.out]
    refine ⟨_, rfl, hHeld.on hz, fun hHeld => ?_⟩
    simp only [Act.put, List.setIfInBounds_toArray, List.set_cons_zero, List.set_cons_succ]
    refine region_call (i := 24) rfl (by kernel_rfl) (by rfl) (refrightT_any _ lf k l s bs A n c 0 w.heap.size id hHeld.p hHeld.bel.size HL.out) (fun w => by kernel_rfl) ?_
    rintro e z24 ⟨rfl, hz⟩; rw [RA.out]
    refine ⟨_, rfl, hHeld.on hz, fun hHeld => ?_⟩
    simp only [Act.put, List.setIfInBounds_toArray, List.set_cons_zero, List.set_cons_succ]
    refine region_take (i := 25) (v := ?_) rfl (by kernel_rfl) (by kernel_rfl) (by kernel_rfl) (fun _ _ _ h => h) (Or.inl ⟨by rfl, ?_⟩) (by assumption) ?_
    rotate_left
    · (intro w' hSw; (try dsimp only at hSw); go_simp <;> with_reducible rfl)
    simp only [Act.put, List.setIfInBounds_toArray, List.set_cons_zero, List.set_cons_succ]
    refine region_take (i := 26) (v := ?_) rfl (by kernel_rfl) (by kernel_rfl) (by kernel_rfl) (fun _ _ _ h => h) (Or.inl ⟨by rfl, ?_⟩) (by assumption) ?_
    rotate_left
    · (intro w' hSw; (try dsimp only at hSw); go_simp <;> with_reducible rfl)
    simp only [Act.put, List.setIfInBounds_toArray, List.set_cons_zero, List.set_cons_succ]
    refine region_take (i := 27) (v := ?_) rfl (by kernel_rfl) (by kernel_rfl) (by kernel_rfl) (fun _ _ _ h => h) (Or.inl ⟨by rfl, ?_⟩) (by assumption) ?_
    rotate_left
    · (intro w' hSw; (try dsimp only at hSw); go_simp <;> with_reducible rfl)
    simp only [Act.put, List.setIfInBounds_toArray, List.set_cons_zero, List.set_cons_succ]
    refine wpAnyH_done (by kernel_rfl) ?_ _
    go_wp2
    go_ret
    exact ⟨rfl, hHeld.bel⟩
end Go.Proofs.Yteadjgahmlcaiaa
