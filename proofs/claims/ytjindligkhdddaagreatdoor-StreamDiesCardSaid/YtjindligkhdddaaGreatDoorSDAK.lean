/-
  The table of known kinds; what None, flagsOf, fit and with of package attr do, in whatever memory. The one condition: the table holds what its text lays.
  How rows of attributes that come in are opened, and the table of known kinds as it is laid. No condition.
  Plain mathematics of layer 3: what distinguishers are made of, their parts, their order, their texts. Nothing here speaks of the program.
  Plain mathematics of layer 3's texts: what is written of a distinguisher is read as it. Nothing here speaks of the program.
  Distinguishers as values and as blocks: their cells, and when two are equal. No condition.
  What highSize, ofBytes, Make, Parts and Compare of package rd do, in whatever memory. No condition beyond sizes that fit memory.
  What digits.Text and digits.Bytes do: bytes as signs of base 16, and back. No condition beyond sizes that fit memory.
  What digits.Bytes does: the bytes of signs of base 16. No condition beyond sizes that fit memory.
  Texts of any size that fits memory: strings.Cut at one sign, digits.Number, and addr.Parse of a text without a colon. The one condition beside: the library's tables hold what its text lays.
  What textHigh, Text, readHigh, read and Parse of package rd do. The one condition beyond sizes that fit memory: the library's tables hold what its text lays.
-/
import Derived.Deep.DeepHandedRow
import Derived.ChangeSame
import Derived.Lib.LaidTab
import Derived.Deep.Slices
import Derived.Deep.Strs
import Derived.Lib.SmallJoins
import Derived.Shelf.Vars
import Derived.Laws.RangeAny
import Derived.Lib.AppendIntMem
import Derived.Deep.RegionHeld3
import Derived.Lib.Builder
import Derived.Lib.IndexBytes
import Derived.Test.YtjindligkhdddaaGreatDoorSDAJ
set_option linter.unusedVariables false
set_option linter.unusedSimpArgs false
namespace Go.Proofs.YtjindligkhdddaaGreatDoor
section
set_option maxRecDepth 20000
set_option maxHeartbeats 2000000
open Go.RowKit
def knL:List Value:=[.int .i64 1,.int .i64 64,.int .i64 2,.int .i64 64,.int .i64 4,.int .i64 128,.int .i64 5,.int .i64 64,.int .i64 9,.int .i64 128,.int .i64 10,.int .i64 128,.int .i64 16,.int .i64 192,.int .i64 22,.int .i64 192]
def zcZ (w:World):Prop:=w.rangeAt 1 0 knL
theorem zcZ.below {w w':World} (h:zcZ w) (hb:Below w.heap.size w w'):zcZ w':=fun j u hu=>by
 have h1:=h j u hu
 rw [hb.cell (World.block_lt_of_cell? _ _ h1)]
 exact h1
theorem zxT:(Tryz.prog.info? 208).map (·.size)=some knL.length:=by kernel_rfl
theorem zbm {ops:Array Oper} {rest:List Oper} {o:Oper} {a:Act} {w:World} {Q:Exit→Act→World→Prop} (hgd:o.guard=none) (x:Operand) (ho:o.op = .load 208 x) (hx:a.eval x = .pointer (some ⟨1,0,none⟩)) (h:zcZ w)
  (hk:wpList Tryz.prog ops Q rest (a.put o.dst (.agg #[.int .i64 1,.int .i64 64,.int .i64 2,.int .i64 64,.int .i64 4,.int .i64 128,.int .i64 5,.int .i64 64,.int .i64 9,.int .i64 128,.int .i64 10,.int .i64 128,.int .i64 16,.int .i64 192,.int .i64 22,.int .i64 192])) w):wpList Tryz.prog ops Q (o::rest) a w :=
 wpList_load_mid hgd 208 x ho _ 0 hx knL _ h Tryz.underlying208 rfl zxT hk
theorem zcS (w:World):(Instr.index 208 (.agg #[.int .i64 1,.int .i64 64,.int .i64 2,.int .i64 64,.int .i64 4,.int .i64 128,.int .i64 5,.int .i64 64,.int .i64 9,.int .i64 128,.int .i64 10,.int .i64 128,.int .i64 16,.int .i64 192,.int .i64 22,.int .i64 192]) (.int .i64 0)).run Tryz.prog w = .ok (.agg #[.int .i64 1,.int .i64 64]) w:=by kernel_rfl
theorem zde (w:World):(Instr.index 208 (.agg #[.int .i64 1,.int .i64 64,.int .i64 2,.int .i64 64,.int .i64 4,.int .i64 128,.int .i64 5,.int .i64 64,.int .i64 9,.int .i64 128,.int .i64 10,.int .i64 128,.int .i64 16,.int .i64 192,.int .i64 22,.int .i64 192]) (.int .i64 1)).run Tryz.prog w = .ok (.agg #[.int .i64 2,.int .i64 64]) w:=by kernel_rfl
theorem zdH (w:World):(Instr.index 208 (.agg #[.int .i64 1,.int .i64 64,.int .i64 2,.int .i64 64,.int .i64 4,.int .i64 128,.int .i64 5,.int .i64 64,.int .i64 9,.int .i64 128,.int .i64 10,.int .i64 128,.int .i64 16,.int .i64 192,.int .i64 22,.int .i64 192]) (.int .i64 2)).run Tryz.prog w = .ok (.agg #[.int .i64 4,.int .i64 128]) w:=by kernel_rfl
theorem zea (w:World):(Instr.index 208 (.agg #[.int .i64 1,.int .i64 64,.int .i64 2,.int .i64 64,.int .i64 4,.int .i64 128,.int .i64 5,.int .i64 64,.int .i64 9,.int .i64 128,.int .i64 10,.int .i64 128,.int .i64 16,.int .i64 192,.int .i64 22,.int .i64 192]) (.int .i64 3)).run Tryz.prog w = .ok (.agg #[.int .i64 5,.int .i64 64]) w:=by kernel_rfl
theorem zeY (w:World):(Instr.index 208 (.agg #[.int .i64 1,.int .i64 64,.int .i64 2,.int .i64 64,.int .i64 4,.int .i64 128,.int .i64 5,.int .i64 64,.int .i64 9,.int .i64 128,.int .i64 10,.int .i64 128,.int .i64 16,.int .i64 192,.int .i64 22,.int .i64 192]) (.int .i64 4)).run Tryz.prog w = .ok (.agg #[.int .i64 9,.int .i64 128]) w:=by kernel_rfl
theorem zgr (w:World):(Instr.index 208 (.agg #[.int .i64 1,.int .i64 64,.int .i64 2,.int .i64 64,.int .i64 4,.int .i64 128,.int .i64 5,.int .i64 64,.int .i64 9,.int .i64 128,.int .i64 10,.int .i64 128,.int .i64 16,.int .i64 192,.int .i64 22,.int .i64 192]) (.int .i64 5)).run Tryz.prog w = .ok (.agg #[.int .i64 10,.int .i64 128]) w:=by kernel_rfl
theorem zi2 (w:World):(Instr.index 208 (.agg #[.int .i64 1,.int .i64 64,.int .i64 2,.int .i64 64,.int .i64 4,.int .i64 128,.int .i64 5,.int .i64 64,.int .i64 9,.int .i64 128,.int .i64 10,.int .i64 128,.int .i64 16,.int .i64 192,.int .i64 22,.int .i64 192]) (.int .i64 6)).run Tryz.prog w = .ok (.agg #[.int .i64 16,.int .i64 192]) w:=by kernel_rfl
theorem zmA (w:World):(Instr.index 208 (.agg #[.int .i64 1,.int .i64 64,.int .i64 2,.int .i64 64,.int .i64 4,.int .i64 128,.int .i64 5,.int .i64 64,.int .i64 9,.int .i64 128,.int .i64 10,.int .i64 128,.int .i64 16,.int .i64 192,.int .i64 22,.int .i64 192]) (.int .i64 7)).run Tryz.prog w = .ok (.agg #[.int .i64 22,.int .i64 192]) w:=by kernel_rfl
theorem ztg (w:World) (h:zcZ w):Calls Tryz.prog 139 #[.int .i64 1] w fun e w'=>e = .returned (.tuple #[.int .i64 64,.bool true])∧Below w.heap.size w w':=by
 have H:=hide h
 clear h
 have q0:=zcS
 go_enter Tryz.func139,Tryz.ntmps139
 go_wp2_with (with_reducible refine zbm rfl (.global 1) rfl rfl H.out ?_)
 refine wp_loop_rounds 1 ?_
 rw [rounds_succ]
 go_wp2
 go_ret2
 exact ⟨rfl,(Below.refl _ _).alloc (by first | (simp;done) | (simp;omega)) _⟩
theorem ztf (w:World) (h:zcZ w):Calls Tryz.prog 139 #[.int .i64 2] w fun e w'=>e = .returned (.tuple #[.int .i64 64,.bool true])∧Below w.heap.size w w':=by
 have H:=hide h
 clear h
 have q0:=zcS
 have q1:=zde
 go_enter Tryz.func139,Tryz.ntmps139
 go_wp2_with (with_reducible refine zbm rfl (.global 1) rfl rfl H.out ?_)
 refine wp_loop_rounds 2 ?_
 rw [rounds_succ]
 go_wp2
 rw [rounds_succ]
 go_wp2
 go_ret2
 exact ⟨rfl,((Below.refl _ _).alloc (by first | (simp;done) | (simp;omega)) _).alloc (by first | (simp;done) | (simp;omega)) _⟩
theorem zte (w:World) (h:zcZ w):Calls Tryz.prog 139 #[.int .i64 4] w fun e w'=>e = .returned (.tuple #[.int .i64 128,.bool true])∧Below w.heap.size w w':=by
 have H:=hide h
 clear h
 have q0:=zcS
 have q1:=zde
 have q2:=zdH
 go_enter Tryz.func139,Tryz.ntmps139
 go_wp2_with (with_reducible refine zbm rfl (.global 1) rfl rfl H.out ?_)
 refine wp_loop_rounds 3 ?_
 rw [rounds_succ]
 go_wp2
 rw [rounds_succ]
 go_wp2
 rw [rounds_succ]
 go_wp2
 go_ret2
 exact ⟨rfl,(((Below.refl _ _).alloc (by first | (simp;done) | (simp;omega)) _).alloc (by first | (simp;done) | (simp;omega)) _).alloc (by first | (simp;done) | (simp;omega)) _⟩
theorem ztd (w:World) (h:zcZ w):Calls Tryz.prog 139 #[.int .i64 5] w fun e w'=>e = .returned (.tuple #[.int .i64 64,.bool true])∧Below w.heap.size w w':=by
 have H:=hide h
 clear h
 have q0:=zcS
 have q1:=zde
 have q2:=zdH
 have q3:=zea
 go_enter Tryz.func139,Tryz.ntmps139
 go_wp2_with (with_reducible refine zbm rfl (.global 1) rfl rfl H.out ?_)
 refine wp_loop_rounds 4 ?_
 rw [rounds_succ]
 go_wp2
 rw [rounds_succ]
 go_wp2
 rw [rounds_succ]
 go_wp2
 rw [rounds_succ]
 go_wp2
 go_ret2
 exact ⟨rfl,((((Below.refl _ _).alloc (by first | (simp;done) | (simp;omega)) _).alloc (by first | (simp;done) | (simp;omega)) _).alloc (by first | (simp;done) | (simp;omega)) _).alloc (by first | (simp;done) | (simp;omega)) _⟩
theorem ztc (w:World) (h:zcZ w):Calls Tryz.prog 139 #[.int .i64 9] w fun e w'=>e = .returned (.tuple #[.int .i64 128,.bool true])∧Below w.heap.size w w':=by
 have H:=hide h
 clear h
 have q0:=zcS
 have q1:=zde
 have q2:=zdH
 have q3:=zea
 have q4:=zeY
 go_enter Tryz.func139,Tryz.ntmps139
 go_wp2_with (with_reducible refine zbm rfl (.global 1) rfl rfl H.out ?_)
 refine wp_loop_rounds 5 ?_
 rw [rounds_succ]
 go_wp2
 rw [rounds_succ]
 go_wp2
 rw [rounds_succ]
 go_wp2
 rw [rounds_succ]
 go_wp2
 rw [rounds_succ]
 go_wp2
 go_ret2
 exact ⟨rfl,(((((Below.refl _ _).alloc (by first | (simp;done) | (simp;omega)) _).alloc (by first | (simp;done) | (simp;omega)) _).alloc (by first | (simp;done) | (simp;omega)) _).alloc (by first | (simp;done) | (simp;omega)) _).alloc (by first | (simp;done) | (simp;omega)) _⟩
theorem zqT (w:World) (h:zcZ w):Calls Tryz.prog 139 #[.int .i64 10] w fun e w'=>e = .returned (.tuple #[.int .i64 128,.bool true])∧Below w.heap.size w w':=by
 have H:=hide h
 clear h
 have q0:=zcS
 have q1:=zde
 have q2:=zdH
 have q3:=zea
 have q4:=zeY
 have q5:=zgr
 go_enter Tryz.func139,Tryz.ntmps139
 go_wp2_with (with_reducible refine zbm rfl (.global 1) rfl rfl H.out ?_)
 refine wp_loop_rounds 6 ?_
 rw [rounds_succ]
 go_wp2
 rw [rounds_succ]
 go_wp2
 rw [rounds_succ]
 go_wp2
 rw [rounds_succ]
 go_wp2
 rw [rounds_succ]
 go_wp2
 rw [rounds_succ]
 go_wp2
 go_ret2
 exact ⟨rfl,((((((Below.refl _ _).alloc (by first | (simp;done) | (simp;omega)) _).alloc (by first | (simp;done) | (simp;omega)) _).alloc (by first | (simp;done) | (simp;omega)) _).alloc (by first | (simp;done) | (simp;omega)) _).alloc (by first | (simp;done) | (simp;omega)) _).alloc (by first | (simp;done) | (simp;omega)) _⟩
theorem zqS (w:World) (h:zcZ w):Calls Tryz.prog 139 #[.int .i64 16] w fun e w'=>e = .returned (.tuple #[.int .i64 192,.bool true])∧Below w.heap.size w w':=by
 have H:=hide h
 clear h
 have q0:=zcS
 have q1:=zde
 have q2:=zdH
 have q3:=zea
 have q4:=zeY
 have q5:=zgr
 have q6:=zi2
 go_enter Tryz.func139,Tryz.ntmps139
 go_wp2_with (with_reducible refine zbm rfl (.global 1) rfl rfl H.out ?_)
 refine wp_loop_rounds 7 ?_
 rw [rounds_succ]
 go_wp2
 rw [rounds_succ]
 go_wp2
 rw [rounds_succ]
 go_wp2
 rw [rounds_succ]
 go_wp2
 rw [rounds_succ]
 go_wp2
 rw [rounds_succ]
 go_wp2
 rw [rounds_succ]
 go_wp2
 go_ret2
 exact ⟨rfl,(((((((Below.refl _ _).alloc (by first | (simp;done) | (simp;omega)) _).alloc (by first | (simp;done) | (simp;omega)) _).alloc (by first | (simp;done) | (simp;omega)) _).alloc (by first | (simp;done) | (simp;omega)) _).alloc (by first | (simp;done) | (simp;omega)) _).alloc (by first | (simp;done) | (simp;omega)) _).alloc (by first | (simp;done) | (simp;omega)) _⟩
theorem zqR (w:World) (h:zcZ w):Calls Tryz.prog 139 #[.int .i64 22] w fun e w'=>e = .returned (.tuple #[.int .i64 192,.bool true])∧Below w.heap.size w w':=by
 have H:=hide h
 clear h
 have q0:=zcS
 have q1:=zde
 have q2:=zdH
 have q3:=zea
 have q4:=zeY
 have q5:=zgr
 have q6:=zi2
 have q7:=zmA
 go_enter Tryz.func139,Tryz.ntmps139
 go_wp2_with (with_reducible refine zbm rfl (.global 1) rfl rfl H.out ?_)
 refine wp_loop_rounds 8 ?_
 rw [rounds_succ]
 go_wp2
 rw [rounds_succ]
 go_wp2
 rw [rounds_succ]
 go_wp2
 rw [rounds_succ]
 go_wp2
 rw [rounds_succ]
 go_wp2
 rw [rounds_succ]
 go_wp2
 rw [rounds_succ]
 go_wp2
 rw [rounds_succ]
 go_wp2
 go_ret2
 exact ⟨rfl,((((((((Below.refl _ _).alloc (by first | (simp;done) | (simp;omega)) _).alloc (by first | (simp;done) | (simp;omega)) _).alloc (by first | (simp;done) | (simp;omega)) _).alloc (by first | (simp;done) | (simp;omega)) _).alloc (by first | (simp;done) | (simp;omega)) _).alloc (by first | (simp;done) | (simp;omega)) _).alloc (by first | (simp;done) | (simp;omega)) _).alloc (by first | (simp;done) | (simp;omega)) _⟩
def zf0:AtP:=⟨0,none,0,0,[],-1,-1,0,zat,none,0,0,[],none,0,0,[],none,0,0,[]⟩
def zwB:AtP:=⟨0,none,0,0,[],0,0,0,zat,none,0,0,[],none,0,0,[],none,0,0,[]⟩
theorem ztW:attC zf0=#[.int .i64 0,.slice none 0 0,.int .i64 (-1),.int .i64 (-1),.int .i64 0,.int .u8 0,.int .u8 0,.int .u8 0,.int .u8 0,.int .u8 0,.int .u8 0,.int .u8 0,.int .u8 0,.int .u8 0,.int .u8 0,.int .u8 0,.int .u8 0,.int .u8 0,.int .u8 0,.int .u8 0,.int .u8 0,.slice none 0 0,.slice none 0 0,.slice none 0 0]:=by kernel_rfl
theorem ztV:attC zwB=zAtt:=by kernel_rfl
theorem ziT (w:World) (lo hi:Nat):zaO w lo hi zf0 :=
 ⟨rfl,RowE.nil _ _ _ _,RowE.nil _ _ _ _,AtE.nil _ _ _ _,RowE.nil _ _ _ _,Nat.le_refl _,Nat.le_refl _,Nat.le_refl _,Nat.le_refl _⟩
theorem zdp {fn:Func} {R:Ending→World→Prop} {a:Act} {w:World} {q:Tmp} {g:Nat} {t:TypeId} {p:AtP} (hf:fn.results=#[.cell q 49])
  (hp:a.tmps.getD q undef = .pointer (some ⟨g,0,none⟩)) (h:Blk w g t (attC p)) (hl:p.ob.length=16) (hd:a.defers=[]) (hR:R (.returned (.agg (attC p))) w) :
  bodyPost Tryz.prog fn R .ret a w:=by
 refine bodyPost_ret (v:=.agg (attC p)) ?_ hd hR
 have hp':a.tmps[q]?.getD undef = .pointer (some ⟨g,0,none⟩):=by simpa using hp
 simp [results,hf,hp',asAddr,zk8 (zah (l:=attL p) h) hl]
theorem zf5 {ops:Array Oper} {rest:List Oper} {o:Oper} {a:Act} {w:World} {Q:Exit→Act→World→Prop} (hgd:o.guard=none) (x y:Operand) (ho:o.op = .store 49 x y) (g:Nat) (hx:a.eval x = .pointer (some ⟨g,0,none⟩)) (hy:a.eval y = .agg #[.int .i64 0,.slice none 0 0,.int .i64 (-1),.int .i64 (-1),.int .i64 0,.int .u8 0,.int .u8 0,.int .u8 0,.int .u8 0,.int .u8 0,.int .u8 0,.int .u8 0,.int .u8 0,.int .u8 0,.int .u8 0,.int .u8 0,.int .u8 0,.int .u8 0,.int .u8 0,.int .u8 0,.int .u8 0,.slice none 0 0,.slice none 0 0,.slice none 0 0]) {t:TypeId} {old:Array Value} (h:Blk w g t old) (hold:old.size=24)
  (hk:∀ w',Blk w' g t (attC zf0)→w.grownBy w' (some g)→wpList Tryz.prog ops Q rest (a.put o.dst undef) w'):wpList Tryz.prog ops Q (o::rest) a w :=
 zaT hgd x y ho g hx zf0 (hy.trans (congrArg Value.agg ztW.symm)) rfl h hold hk
theorem zpc (w:World):Calls Tryz.prog 52 #[] w fun e w'=>e = .returned (.agg (attC zf0))∧Below w.heap.size w w':=by
 have B1:Hid (Blk (w.alloc (.cells zAtt 49)) w.heap.size 49 zAtt):=hide (Blk.new w _ _)
 have W1:Hid (Below w.heap.size w (w.alloc (.cells zAtt 49))):=hide ((Below.refl _ _).alloc (Nat.le_refl _) _)
 go_enter Tryz.func52,Tryz.ntmps52
 go_wp2_with (refine zf5 rfl (.tmp 0) (.tmp 1) rfl w.heap.size rfl rfl B1.out rfl ?_;intro w2 hb2 hg2;have N2:=hide hb2;have G2:=hide hg2;clear hb2 hg2;refine Hid.out ?_)
 refine hide ?_
 go_wp2
 refine zdp (q:=0) rfl rfl N2.out rfl rfl ?_
 exact ⟨rfl,W1.out.grown G2.out W1.out.size (fun g hg=>by injection hg;omega)⟩
theorem zbn {ops:Array Oper} {rest:List Oper} {o:Oper} {a:Act} {w:World} {Q:Exit→Act→World→Prop} (hgd:o.guard=none) (ty:TypeId) (x y:Operand) (ho:o.op = .store ty x y) (g i:Nat) (hx:a.eval x = .pointer (some ⟨g,i,none⟩)) (u:Value) (hy:a.eval y=u)
  {t:TypeId} {cs cs':Array Value} (h:Blk w g t cs) (hi:i<cs.size) (hty:(Tryz.prog.info? ty).map (·.size)=some 1) (hc:u.cells=#[u]) (h1:u.oneCell'=true) (hcs:cs.setIfInBounds i u=cs')
  (hk:∀ w',Blk w' g t cs'→w.grownBy w' (some g)→wpList Tryz.prog ops Q rest (a.put o.dst undef) w'):wpList Tryz.prog ops Q (o::rest) a w:=by
 refine wpList_plain hgd fun K hK'=>?_
 have hrun:=za9 (P:=Tryz.prog) ty x y ho hx hy h hi hty hc h1
 unfold Oper.wp
 rw [hrun]
 refine hK' _ _ (hk _ ?_ (zao (zac w _) (.inl rfl) u))
 rw [← hcs]
 exact h.set_ i u
theorem ztP {w:World} {g:Nat} {t:TypeId} {p:AtP} (h:Blk w g t (attC p)) (hl:p.ob.length=16):w.there g 4 17:=fun j hj=>by
 refine ⟨?_,h.frozen _⟩
 rw [h.cell]
 have hs:=zbP (p:=p) hl
 have:4+j<(attC p).size:=by omega
 simp [this]
theorem zgG {ops:Array Oper} {rest:List Oper} {o:Oper} {a:Act} {w:World} {Q:Exit→Act→World→Prop} (hgd:o.guard=none) (x y:Operand) (ho:o.op = .store 40 x y) (g:Nat) (hx:a.eval x = .pointer (some ⟨g,4,none⟩)) (s:Int) (bs:List UInt8) (hy:a.eval y = .agg (zas s bs)) (hl:bs.length=16)
  {t:TypeId} {p:AtP} (h:Blk w g t (attC p)) (hp:p.ob.length=16)
  (hk:∀ w',Blk w' g t (attC { p with os:=s,ob:=bs })→w.grownBy w' (some g)→wpList Tryz.prog ops Q rest (a.put o.dst undef) w'):wpList Tryz.prog ops Q (o::rest) a w:=by
 refine wpList_plain hgd fun K hK'=>?_
 have hrun:=zbu x y ho g 4 hx hy hl (ztP h hp)
 unfold Oper.wp
 rw [hrun]
 refine hK' _ _ (hk _ ?_ (zai _ _ _ _ (zac w _)))
 exact zbD (.int .i64 s::bvs bs) (.int .i64 p.os::bvs p.ob) [.int .i64 p.o,.slice p.pA p.pn p.pc,.int .i64 p.med,.int .i64 p.pref] (r:=[.slice p.cA p.cn p.cc,.slice p.eA p.en p.ec,.slice p.tA p.tn p.tc]) w (by simp [bvs,hl,hp]) h
theorem zjk {p:AtP} (h:p.ob.length=16) (j:Nat) (hj:j<3) (v:Value):(attC p).setIfInBounds (21+j) v=(Value.int .i64 p.o :: .slice p.pA p.pn p.pc :: .int .i64 p.med :: .int .i64 p.pref::((.int .i64 p.os::bvs p.ob)++([Value.slice p.cA p.cn p.cc,.slice p.eA p.en p.ec,.slice p.tA p.tn p.tc].set j v))).toArray:=by
 apply Array.toList_inj.1
 rw [Array.toList_setIfInBounds]
 unfold attC attL
 have e:21+j=(17+j)+1+1+1+1:=by omega
 rw [e]
 simp only [List.set_cons_succ]
 rw [List.set_append_right _ _ (by simp [bvs,h])]
 have e2:17+j-(Value.int .i64 p.os::bvs p.ob).length=j:=by simp [bvs,h]
 rw [e2]
theorem zvY (w:World) (z:Int):(Instr.typeAssert (.iface 3 (.int .i64 z)) 20 3 false).run Tryz.prog w = .ok (.int .i64 z) w:=by kernel_rfl
theorem with_1 (w:World) (p:AtP) (hl:p.ob.length=16) (z:Int):Calls Tryz.prog 175 #[.agg (attC p),.int .i64 1,.iface 3 (.int .i64 z)] w fun e w'=>e = .returned (.agg (attC ({ p with o:=z }:AtP)))∧Below w.heap.size w w':=by
 have qa:=fun (x:World)=>zvY x z
 have N1:Hid (Blk ((w.alloc (.cells (attC p) 49)).alloc (.cells zAtt 49)) w.heap.size 49 (attC p)):=hide ((Blk.new w _ _).alloc _)
 have M1:Hid (Blk ((w.alloc (.cells (attC p) 49)).alloc (.cells zAtt 49)) (w.heap.size+1) 49 zAtt):=hide (by have h:=Blk.new (w.alloc (.cells (attC p) 49)) 49 zAtt;rw [show (w.alloc (.cells (attC p) 49)).heap.size=w.heap.size+1 by simp] at h;exact h)
 have B1:Hid (Below w.heap.size w ((w.alloc (.cells (attC p) 49)).alloc (.cells zAtt 49))):=hide (((Below.refl _ _).alloc (Nat.le_refl _) _).alloc (by simp) _)
 go_enter Tryz.func175,Tryz.ntmps175
 go_wp2_with (refine zbn rfl 3 (.tmp 12) (.tmp 11) rfl w.heap.size 0 rfl (.int .i64 z) rfl (cs':=attC ({ p with o:=z }:AtP)) N1.out (by rw [zbP hl];decide) (by kernel_rfl) rfl rfl rfl ?_;intro w3 hb3 hg3;have N3:=hide hb3;have G3:=hide hg3;clear hb3 hg3;refine Hid.out ?_)
 refine hide ?_
 have M3:=hide (M1.out.grown G3.out (fun e=>by injection e;omega))
 have B3:=hide (B1.out.grown G3.out B1.out.size (fun g hg=>by injection hg;omega))
 have RN:=hide (zah (l:=attL ({ p with o:=z }:AtP)) N3.out)
 clear N1 M1 B1 qa
 go_wp2_with (first
  | ((with_reducible refine zaL ?_ (.tmp 3) rfl w.heap.size 0 rfl RN.out hl ?_);· rfl)
  | (refine zaT rfl (.tmp 6) (.tmp 48) rfl (w.heap.size+1) rfl ({ p with o:=z }:AtP) rfl hl M3.out rfl ?_;intro w4 hb4 hg4;have N4:=hide hb4;have G4:=hide hg4;clear hb4 hg4;refine Hid.out ?_))
 refine hide ?_
 go_wp2
 refine zdp (q:=6) rfl rfl N4.out hl rfl ?_
 exact ⟨rfl,B3.out.grown G4.out B3.out.size (fun g hg=>by injection hg;omega)⟩
theorem zvX (w:World) (A:Option Addr) (n c:Nat):(Instr.typeAssert (.iface 44 (.slice A n c)) 20 44 false).run Tryz.prog w = .ok (.slice A n c) w:=by kernel_rfl
theorem with_2 (w:World) (p:AtP) (hl:p.ob.length=16) (A:Option Addr) (n c:Nat) (l:List SgP):Calls Tryz.prog 175 #[.agg (attC p),.int .i64 2,.iface 44 (.slice A n c)] w fun e w'=>e = .returned (.agg (attC ({ p with pA:=A,pn:=n,pc:=c,path:=l }:AtP)))∧Below w.heap.size w w':=by
 have qa:=fun (x:World)=>zvX x A n c
 have N1:Hid (Blk ((w.alloc (.cells (attC p) 49)).alloc (.cells zAtt 49)) w.heap.size 49 (attC p)):=hide ((Blk.new w _ _).alloc _)
 have M1:Hid (Blk ((w.alloc (.cells (attC p) 49)).alloc (.cells zAtt 49)) (w.heap.size+1) 49 zAtt):=hide (by have h:=Blk.new (w.alloc (.cells (attC p) 49)) 49 zAtt;rw [show (w.alloc (.cells (attC p) 49)).heap.size=w.heap.size+1 by simp] at h;exact h)
 have B1:Hid (Below w.heap.size w ((w.alloc (.cells (attC p) 49)).alloc (.cells zAtt 49))):=hide (((Below.refl _ _).alloc (Nat.le_refl _) _).alloc (by simp) _)
 go_enter Tryz.func175,Tryz.ntmps175
 go_wp2_with (refine zbn rfl 44 (.tmp 17) (.tmp 16) rfl w.heap.size 1 rfl (.slice A n c) rfl (cs':=attC ({ p with pA:=A,pn:=n,pc:=c,path:=l }:AtP)) N1.out (by rw [zbP hl];decide) (by kernel_rfl) rfl rfl rfl ?_;intro w3 hb3 hg3;have N3:=hide hb3;have G3:=hide hg3;clear hb3 hg3;refine Hid.out ?_)
 refine hide ?_
 have M3:=hide (M1.out.grown G3.out (fun e=>by injection e;omega))
 have B3:=hide (B1.out.grown G3.out B1.out.size (fun g hg=>by injection hg;omega))
 have RN:=hide (zah (l:=attL ({ p with pA:=A,pn:=n,pc:=c,path:=l }:AtP)) N3.out)
 clear N1 M1 B1 qa
 go_wp2_with (first
  | ((with_reducible refine zaL ?_ (.tmp 3) rfl w.heap.size 0 rfl RN.out hl ?_);· rfl)
  | (refine zaT rfl (.tmp 6) (.tmp 48) rfl (w.heap.size+1) rfl ({ p with pA:=A,pn:=n,pc:=c,path:=l }:AtP) rfl hl M3.out rfl ?_;intro w4 hb4 hg4;have N4:=hide hb4;have G4:=hide hg4;clear hb4 hg4;refine Hid.out ?_))
 refine hide ?_
 go_wp2
 refine zdp (q:=6) rfl rfl N4.out hl rfl ?_
 exact ⟨rfl,B3.out.grown G4.out B3.out.size (fun g hg=>by injection hg;omega)⟩
theorem zvW (w:World) (z:Int):(Instr.typeAssert (.iface 3 (.int .i64 z)) 20 3 false).run Tryz.prog w = .ok (.int .i64 z) w:=by kernel_rfl
theorem with_4 (w:World) (p:AtP) (hl:p.ob.length=16) (z:Int):Calls Tryz.prog 175 #[.agg (attC p),.int .i64 4,.iface 3 (.int .i64 z)] w fun e w'=>e = .returned (.agg (attC ({ p with med:=z }:AtP)))∧Below w.heap.size w w':=by
 have qa:=fun (x:World)=>zvW x z
 have N1:Hid (Blk ((w.alloc (.cells (attC p) 49)).alloc (.cells zAtt 49)) w.heap.size 49 (attC p)):=hide ((Blk.new w _ _).alloc _)
 have M1:Hid (Blk ((w.alloc (.cells (attC p) 49)).alloc (.cells zAtt 49)) (w.heap.size+1) 49 zAtt):=hide (by have h:=Blk.new (w.alloc (.cells (attC p) 49)) 49 zAtt;rw [show (w.alloc (.cells (attC p) 49)).heap.size=w.heap.size+1 by simp] at h;exact h)
 have B1:Hid (Below w.heap.size w ((w.alloc (.cells (attC p) 49)).alloc (.cells zAtt 49))):=hide (((Below.refl _ _).alloc (Nat.le_refl _) _).alloc (by simp) _)
 go_enter Tryz.func175,Tryz.ntmps175
 go_wp2_with (refine zbn rfl 3 (.tmp 22) (.tmp 21) rfl w.heap.size 2 rfl (.int .i64 z) rfl (cs':=attC ({ p with med:=z }:AtP)) N1.out (by rw [zbP hl];decide) (by kernel_rfl) rfl rfl rfl ?_;intro w3 hb3 hg3;have N3:=hide hb3;have G3:=hide hg3;clear hb3 hg3;refine Hid.out ?_)
 refine hide ?_
 have M3:=hide (M1.out.grown G3.out (fun e=>by injection e;omega))
 have B3:=hide (B1.out.grown G3.out B1.out.size (fun g hg=>by injection hg;omega))
 have RN:=hide (zah (l:=attL ({ p with med:=z }:AtP)) N3.out)
 clear N1 M1 B1 qa
 go_wp2_with (first
  | ((with_reducible refine zaL ?_ (.tmp 3) rfl w.heap.size 0 rfl RN.out hl ?_);· rfl)
  | (refine zaT rfl (.tmp 6) (.tmp 48) rfl (w.heap.size+1) rfl ({ p with med:=z }:AtP) rfl hl M3.out rfl ?_;intro w4 hb4 hg4;have N4:=hide hb4;have G4:=hide hg4;clear hb4 hg4;refine Hid.out ?_))
 refine hide ?_
 go_wp2
 refine zdp (q:=6) rfl rfl N4.out hl rfl ?_
 exact ⟨rfl,B3.out.grown G4.out B3.out.size (fun g hg=>by injection hg;omega)⟩
theorem zvV (w:World) (z:Int):(Instr.typeAssert (.iface 3 (.int .i64 z)) 20 3 false).run Tryz.prog w = .ok (.int .i64 z) w:=by kernel_rfl
theorem with_5 (w:World) (p:AtP) (hl:p.ob.length=16) (z:Int):Calls Tryz.prog 175 #[.agg (attC p),.int .i64 5,.iface 3 (.int .i64 z)] w fun e w'=>e = .returned (.agg (attC ({ p with pref:=z }:AtP)))∧Below w.heap.size w w':=by
 have qa:=fun (x:World)=>zvV x z
 have N1:Hid (Blk ((w.alloc (.cells (attC p) 49)).alloc (.cells zAtt 49)) w.heap.size 49 (attC p)):=hide ((Blk.new w _ _).alloc _)
 have M1:Hid (Blk ((w.alloc (.cells (attC p) 49)).alloc (.cells zAtt 49)) (w.heap.size+1) 49 zAtt):=hide (by have h:=Blk.new (w.alloc (.cells (attC p) 49)) 49 zAtt;rw [show (w.alloc (.cells (attC p) 49)).heap.size=w.heap.size+1 by simp] at h;exact h)
 have B1:Hid (Below w.heap.size w ((w.alloc (.cells (attC p) 49)).alloc (.cells zAtt 49))):=hide (((Below.refl _ _).alloc (Nat.le_refl _) _).alloc (by simp) _)
 go_enter Tryz.func175,Tryz.ntmps175
 go_wp2_with (refine zbn rfl 3 (.tmp 27) (.tmp 26) rfl w.heap.size 3 rfl (.int .i64 z) rfl (cs':=attC ({ p with pref:=z }:AtP)) N1.out (by rw [zbP hl];decide) (by kernel_rfl) rfl rfl rfl ?_;intro w3 hb3 hg3;have N3:=hide hb3;have G3:=hide hg3;clear hb3 hg3;refine Hid.out ?_)
 refine hide ?_
 have M3:=hide (M1.out.grown G3.out (fun e=>by injection e;omega))
 have B3:=hide (B1.out.grown G3.out B1.out.size (fun g hg=>by injection hg;omega))
 have RN:=hide (zah (l:=attL ({ p with pref:=z }:AtP)) N3.out)
 clear N1 M1 B1 qa
 go_wp2_with (first
  | ((with_reducible refine zaL ?_ (.tmp 3) rfl w.heap.size 0 rfl RN.out hl ?_);· rfl)
  | (refine zaT rfl (.tmp 6) (.tmp 48) rfl (w.heap.size+1) rfl ({ p with pref:=z }:AtP) rfl hl M3.out rfl ?_;intro w4 hb4 hg4;have N4:=hide hb4;have G4:=hide hg4;clear hb4 hg4;refine Hid.out ?_))
 refine hide ?_
 go_wp2
 refine zdp (q:=6) rfl rfl N4.out hl rfl ?_
 exact ⟨rfl,B3.out.grown G4.out B3.out.size (fun g hg=>by injection hg;omega)⟩
theorem zvU (w:World) (s:Int) (bs:List UInt8):(Instr.typeAssert (.iface 40 (.agg (zas s bs))) 20 40 false).run Tryz.prog w = .ok (.agg (zas s bs)) w:=by kernel_rfl
theorem with_9 (w:World) (p:AtP) (hl:p.ob.length=16) (s:Int) (bs:List UInt8) (hb:bs.length=16):Calls Tryz.prog 175 #[.agg (attC p),.int .i64 9,.iface 40 (.agg (zas s bs))] w fun e w'=>e = .returned (.agg (attC ({ p with os:=s,ob:=bs }:AtP)))∧Below w.heap.size w w':=by
 have qa:=fun (x:World)=>zvU x s bs
 have N1:Hid (Blk ((w.alloc (.cells (attC p) 49)).alloc (.cells zAtt 49)) w.heap.size 49 (attC p)):=hide ((Blk.new w _ _).alloc _)
 have M1:Hid (Blk ((w.alloc (.cells (attC p) 49)).alloc (.cells zAtt 49)) (w.heap.size+1) 49 zAtt):=hide (by have h:=Blk.new (w.alloc (.cells (attC p) 49)) 49 zAtt;rw [show (w.alloc (.cells (attC p) 49)).heap.size=w.heap.size+1 by simp] at h;exact h)
 have B1:Hid (Below w.heap.size w ((w.alloc (.cells (attC p) 49)).alloc (.cells zAtt 49))):=hide (((Below.refl _ _).alloc (Nat.le_refl _) _).alloc (by simp) _)
 go_enter Tryz.func175,Tryz.ntmps175
 go_wp2_with (refine zgG rfl (.tmp 32) (.tmp 31) rfl w.heap.size rfl s bs rfl hb N1.out hl ?_;intro w3 hb3 hg3;have N3:=hide hb3;have G3:=hide hg3;clear hb3 hg3;refine Hid.out ?_)
 refine hide ?_
 have M3:=hide (M1.out.grown G3.out (fun e=>by injection e;omega))
 have B3:=hide (B1.out.grown G3.out B1.out.size (fun g hg=>by injection hg;omega))
 have RN:=hide (zah (l:=attL ({ p with os:=s,ob:=bs }:AtP)) N3.out)
 clear N1 M1 B1 qa
 go_wp2_with (first
  | ((with_reducible refine zaL ?_ (.tmp 3) rfl w.heap.size 0 rfl RN.out hb ?_);· rfl)
  | (refine zaT rfl (.tmp 6) (.tmp 48) rfl (w.heap.size+1) rfl ({ p with os:=s,ob:=bs }:AtP) rfl hb M3.out rfl ?_;intro w4 hb4 hg4;have N4:=hide hb4;have G4:=hide hg4;clear hb4 hg4;refine Hid.out ?_))
 refine hide ?_
 go_wp2
 refine zdp (q:=6) rfl rfl N4.out hb rfl ?_
 exact ⟨rfl,B3.out.grown G4.out B3.out.size (fun g hg=>by injection hg;omega)⟩
theorem zt1 (w:World) (A:Option Addr) (n c:Nat):(Instr.typeAssert (.iface 45 (.slice A n c)) 20 45 false).run Tryz.prog w = .ok (.slice A n c) w:=by kernel_rfl
theorem zwL (w:World) (p:AtP) (hl:p.ob.length=16) (A:Option Addr) (n c:Nat) (l:List (Int × List UInt8)):Calls Tryz.prog 175 #[.agg (attC p),.int .i64 10,.iface 45 (.slice A n c)] w fun e w'=>e = .returned (.agg (attC ({ p with cA:=A,cn:=n,cc:=c,cl:=l }:AtP)))∧Below w.heap.size w w':=by
 have qa:=fun (x:World)=>zt1 x A n c
 have N1:Hid (Blk ((w.alloc (.cells (attC p) 49)).alloc (.cells zAtt 49)) w.heap.size 49 (attC p)):=hide ((Blk.new w _ _).alloc _)
 have M1:Hid (Blk ((w.alloc (.cells (attC p) 49)).alloc (.cells zAtt 49)) (w.heap.size+1) 49 zAtt):=hide (by have h:=Blk.new (w.alloc (.cells (attC p) 49)) 49 zAtt;rw [show (w.alloc (.cells (attC p) 49)).heap.size=w.heap.size+1 by simp] at h;exact h)
 have B1:Hid (Below w.heap.size w ((w.alloc (.cells (attC p) 49)).alloc (.cells zAtt 49))):=hide (((Below.refl _ _).alloc (Nat.le_refl _) _).alloc (by simp) _)
 go_enter Tryz.func175,Tryz.ntmps175
 go_wp2_with (refine zbn rfl 45 (.tmp 37) (.tmp 36) rfl w.heap.size 21 rfl (.slice A n c) rfl (cs':=attC ({ p with cA:=A,cn:=n,cc:=c,cl:=l }:AtP)) N1.out (by rw [zbP hl];decide) (by kernel_rfl) rfl rfl (zjk hl 0 (by decide) _) ?_;intro w3 hb3 hg3;have N3:=hide hb3;have G3:=hide hg3;clear hb3 hg3;refine Hid.out ?_)
 refine hide ?_
 have M3:=hide (M1.out.grown G3.out (fun e=>by injection e;omega))
 have B3:=hide (B1.out.grown G3.out B1.out.size (fun g hg=>by injection hg;omega))
 have RN:=hide (zah (l:=attL ({ p with cA:=A,cn:=n,cc:=c,cl:=l }:AtP)) N3.out)
 clear N1 M1 B1 qa
 go_wp2_with (first
  | ((with_reducible refine zaL ?_ (.tmp 3) rfl w.heap.size 0 rfl RN.out hl ?_);· rfl)
  | (refine zaT rfl (.tmp 6) (.tmp 48) rfl (w.heap.size+1) rfl ({ p with cA:=A,cn:=n,cc:=c,cl:=l }:AtP) rfl hl M3.out rfl ?_;intro w4 hb4 hg4;have N4:=hide hb4;have G4:=hide hg4;clear hb4 hg4;refine Hid.out ?_))
 refine hide ?_
 go_wp2
 refine zdp (q:=6) rfl rfl N4.out hl rfl ?_
 exact ⟨rfl,B3.out.grown G4.out B3.out.size (fun g hg=>by injection hg;omega)⟩
theorem zt0 (w:World) (A:Option Addr) (n c:Nat):(Instr.typeAssert (.iface 46 (.slice A n c)) 20 46 false).run Tryz.prog w = .ok (.slice A n c) w:=by kernel_rfl
theorem zwK (w:World) (p:AtP) (hl:p.ob.length=16) (A:Option Addr) (n c:Nat) (l:List B8):Calls Tryz.prog 175 #[.agg (attC p),.int .i64 16,.iface 46 (.slice A n c)] w fun e w'=>e = .returned (.agg (attC ({ p with eA:=A,en:=n,ec:=c,ex:=l }:AtP)))∧Below w.heap.size w w':=by
 have qa:=fun (x:World)=>zt0 x A n c
 have N1:Hid (Blk ((w.alloc (.cells (attC p) 49)).alloc (.cells zAtt 49)) w.heap.size 49 (attC p)):=hide ((Blk.new w _ _).alloc _)
 have M1:Hid (Blk ((w.alloc (.cells (attC p) 49)).alloc (.cells zAtt 49)) (w.heap.size+1) 49 zAtt):=hide (by have h:=Blk.new (w.alloc (.cells (attC p) 49)) 49 zAtt;rw [show (w.alloc (.cells (attC p) 49)).heap.size=w.heap.size+1 by simp] at h;exact h)
 have B1:Hid (Below w.heap.size w ((w.alloc (.cells (attC p) 49)).alloc (.cells zAtt 49))):=hide (((Below.refl _ _).alloc (Nat.le_refl _) _).alloc (by simp) _)
 go_enter Tryz.func175,Tryz.ntmps175
 go_wp2_with (refine zbn rfl 46 (.tmp 42) (.tmp 41) rfl w.heap.size 22 rfl (.slice A n c) rfl (cs':=attC ({ p with eA:=A,en:=n,ec:=c,ex:=l }:AtP)) N1.out (by rw [zbP hl];decide) (by kernel_rfl) rfl rfl (zjk hl 1 (by decide) _) ?_;intro w3 hb3 hg3;have N3:=hide hb3;have G3:=hide hg3;clear hb3 hg3;refine Hid.out ?_)
 refine hide ?_
 have M3:=hide (M1.out.grown G3.out (fun e=>by injection e;omega))
 have B3:=hide (B1.out.grown G3.out B1.out.size (fun g hg=>by injection hg;omega))
 have RN:=hide (zah (l:=attL ({ p with eA:=A,en:=n,ec:=c,ex:=l }:AtP)) N3.out)
 clear N1 M1 B1 qa
 go_wp2_with (first
  | ((with_reducible refine zaL ?_ (.tmp 3) rfl w.heap.size 0 rfl RN.out hl ?_);· rfl)
  | (refine zaT rfl (.tmp 6) (.tmp 48) rfl (w.heap.size+1) rfl ({ p with eA:=A,en:=n,ec:=c,ex:=l }:AtP) rfl hl M3.out rfl ?_;intro w4 hb4 hg4;have N4:=hide hb4;have G4:=hide hg4;clear hb4 hg4;refine Hid.out ?_))
 refine hide ?_
 go_wp2
 refine zdp (q:=6) rfl rfl N4.out hl rfl ?_
 exact ⟨rfl,B3.out.grown G4.out B3.out.size (fun g hg=>by injection hg;omega)⟩
theorem ztZ (w:World) (A:Option Addr) (n c:Nat):(Instr.typeAssert (.iface 47 (.slice A n c)) 20 47 false).run Tryz.prog w = .ok (.slice A n c) w:=by kernel_rfl
theorem zwJ (w:World) (p:AtP) (hl:p.ob.length=16) (A:Option Addr) (n c:Nat) (l:List TnP):Calls Tryz.prog 175 #[.agg (attC p),.int .i64 22,.iface 47 (.slice A n c)] w fun e w'=>e = .returned (.agg (attC ({ p with tA:=A,tn:=n,tc:=c,tl:=l }:AtP)))∧Below w.heap.size w w':=by
 have qa:=fun (x:World)=>ztZ x A n c
 have N1:Hid (Blk ((w.alloc (.cells (attC p) 49)).alloc (.cells zAtt 49)) w.heap.size 49 (attC p)):=hide ((Blk.new w _ _).alloc _)
 have M1:Hid (Blk ((w.alloc (.cells (attC p) 49)).alloc (.cells zAtt 49)) (w.heap.size+1) 49 zAtt):=hide (by have h:=Blk.new (w.alloc (.cells (attC p) 49)) 49 zAtt;rw [show (w.alloc (.cells (attC p) 49)).heap.size=w.heap.size+1 by simp] at h;exact h)
 have B1:Hid (Below w.heap.size w ((w.alloc (.cells (attC p) 49)).alloc (.cells zAtt 49))):=hide (((Below.refl _ _).alloc (Nat.le_refl _) _).alloc (by simp) _)
 go_enter Tryz.func175,Tryz.ntmps175
 go_wp2_with (refine zbn rfl 47 (.tmp 47) (.tmp 46) rfl w.heap.size 23 rfl (.slice A n c) rfl (cs':=attC ({ p with tA:=A,tn:=n,tc:=c,tl:=l }:AtP)) N1.out (by rw [zbP hl];decide) (by kernel_rfl) rfl rfl (zjk hl 2 (by decide) _) ?_;intro w3 hb3 hg3;have N3:=hide hb3;have G3:=hide hg3;clear hb3 hg3;refine Hid.out ?_)
 refine hide ?_
 have M3:=hide (M1.out.grown G3.out (fun e=>by injection e;omega))
 have B3:=hide (B1.out.grown G3.out B1.out.size (fun g hg=>by injection hg;omega))
 have RN:=hide (zah (l:=attL ({ p with tA:=A,tn:=n,tc:=c,tl:=l }:AtP)) N3.out)
 clear N1 M1 B1 qa
 go_wp2_with (first
  | ((with_reducible refine zaL ?_ (.tmp 3) rfl w.heap.size 0 rfl RN.out hl ?_);· rfl)
  | (refine zaT rfl (.tmp 6) (.tmp 48) rfl (w.heap.size+1) rfl ({ p with tA:=A,tn:=n,tc:=c,tl:=l }:AtP) rfl hl M3.out rfl ?_;intro w4 hb4 hg4;have N4:=hide hb4;have G4:=hide hg4;clear hb4 hg4;refine Hid.out ?_))
 refine hide ?_
 go_wp2
 refine zdp (q:=6) rfl rfl N4.out hl rfl ?_
 exact ⟨rfl,B3.out.grown G4.out B3.out.size (fun g hg=>by injection hg;omega)⟩
end
section
open Go.RowKit Go.ChangeShapes Go.WideShapes Go.ChangeAt
theorem zjQ {H:Type} {enc:TypeId × Value→H} {P:Program} {w:World} {base:Nat} {sp:Nat→Bool} {held:Bool} {fuel:Nat} {t e:TypeId} {f0 f1:Field} {n:Nat} {cs:List Value} {ls:List (Int × Int)} {p:List MemPlace}
  (ht:P.underlying t=some (.array n e)) (he:P.underlying e=some (.struct #[f0,f1])) (hce:P.cellsOf e=2) (hct:P.cellsOf t=n*2) (o0:f0.offset=0) (o1:f1.offset=1) (c0:P.cellsOf f0.type=1) (c1:P.cellsOf f1.type=1)
  (t0:P.underlying f0.type=some (.int .i64)) (t1:P.underlying f1.type=some (.int .i64))
  (h:DataW.trod enc P w base sp held fuel t cs=some (.agg (ls.map fun x=>.agg [.lit (.int .i64 x.1),.lit (.int .i64 x.2)]),p)):∀ i x,ls[i]?=some x→i<n→(cs.drop (i*2)).take 2=[.int .i64 x.1,.int .i64 x.2]:=by
 cases fuel with
 | zero=>simp [DataW.trod] at h
 | succ fuel =>
  simp only [DataW.trod,ht,hce,hct] at h
  split at h
  ·obtain ⟨xs,hm,hx⟩:=Option.map_eq_some_iff.1 h
   have hxs:xs.map (·.1)=ls.map fun x=>(DataW.agg [.lit (.int .i64 x.1),.lit (.int .i64 x.2)]:DataW H):=by
    have:=congrArg Prod.fst hx
    simpa using this
   intro i x hl hi
   obtain ⟨y,hy,hf⟩:=Lib.mapM_at hm i i (by simp [hi])
   have h2:(xs.map (·.1))[i]?=some y.1:=by simp [hy]
   rw [hxs] at h2
   simp only [List.getElem?_map,hl,Option.map_some,Option.some.injEq] at h2
   obtain ⟨y0,y1,m,hyy,hlen,g0,g1⟩:=trod_struct2 he hf
   rw [hyy] at h2
   simp only [DataW.agg.injEq,List.cons.injEq,and_true] at h2
   rw [hce] at hlen
   match hq:(cs.drop (i*2)).take 2,hlen with
   | [v0,v1],_ =>
    rw [hq] at g0 g1
    simp [o0,o1,c0,c1] at g0 g1
    obtain ⟨q0,e0,x0,_⟩:=DataW.trod_int t0 g0
    obtain ⟨q1,e1,x1,_⟩:=DataW.trod_int t1 g1
    simp at e0 e1
    rw [x0,x1] at h2
    simp at h2
    rw [e0,e1,h2.1,h2.2]
  ·cases h
def zn0:List (Int × Int):=[(1,64),(2,64),(4,128),(5,64),(9,128),(10,128),(16,192),(22,192)]
def knData {H:Type}:DataW H:=.agg (zn0.map fun x=>.agg [.lit (.int .i64 x.1),.lit (.int .i64 x.2)])
noncomputable def zwb (l:List Value):Obj→Obj
 | .cells _ t frozen=>.cells l.toArray t frozen
 | o=>o
instance:Inhabited RawP:=⟨⟨0,0,none,0,0,[]⟩⟩
end
section
theorem ztO {l:List UInt8} {k:Nat} (h:l.length=k):be k (big l)=l:=by subst h;exact be_big l
open Go.RowKit
theorem zjp {ops:Array Oper} {rest:List Oper} {o:Oper} {a:Act} {w:World} {Q:Exit→Act→World→Prop} (hgd:o.guard=none) (x:Operand) (ho:o.op = .load 227 x)
  (g:Nat) (hx:a.eval x = .pointer (some ⟨g,0,none⟩)) {t:TypeId} {bs:List UInt8} (h:Blk w g t (rdC bs)) (hl:bs.length=8)
  (hk:wpList Tryz.prog ops Q rest (a.put o.dst (.agg (rdC bs))) w):wpList Tryz.prog ops Q (o::rest) a w :=
 wpList_load_row hgd 227 x ho g hx t (rdC bs) (0,0) _ h Tryz.underlying227 rfl (by rw [zfn hl];kernel_rfl) hk
section
variable {ops:Array Oper} {rest:List Oper} {o:Oper} {a:Act} {w:World} {Q:Exit→Act→World→Prop}
end
open Go.RowKit
open Go.RowKit
open Go.RowKit
open Go.RowKit
open Go.RowKit
end
end Go.Proofs.YtjindligkhdddaaGreatDoor
