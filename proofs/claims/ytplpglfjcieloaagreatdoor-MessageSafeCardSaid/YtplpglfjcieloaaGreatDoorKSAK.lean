/-
  The table of known kinds; what None, flagsOf, fit and with of package attr do, in whatever memory. The one condition: the table holds what its text lays.
  How rows of attributes that come in are opened, and the table of known kinds as it is laid. No condition.
  What the library's own tables hold while a statement runs, and that they go on so. No condition.
  A number's text: what strconv.Itoa does at a byte, and strconv.FormatInt at base 16 and numbers below 65536. The one condition: the library's tables hold what its text lays.
  What join and zeros of package addr do. The one condition: the numbers are below 65536, and there are few of them.
  What digit and number of package addr do. The one condition: a base of at most 16, a greatest number that is small.
  What zeros and textSix of package addr do. The one condition: the library's tables hold what its text lays.
  What numbers of package addr does. The conditions: the text is shorter than 2^32 - 15 bytes, and the library's tables hold what its text lays.
  What slices.Concat does at three slices of ints, eight in all. No other condition.
  What ofNumbers of package addr does. The conditions: few numbers, each of which fits its bytes.
  What readFour, readSix and read of package addr do. The conditions: the text is no longer than 2,000,000 bytes, and the library's tables hold what its text lays.
  Plain mathematics of layer 3: what distinguishers are made of, their parts, their order, their texts. Nothing here speaks of the program.
  Plain mathematics of layer 3's texts: what is written of a distinguisher is read as it. Nothing here speaks of the program.
  Distinguishers as values and as blocks: their cells, and when two are equal. No condition.
  What highSize, ofBytes, Make, Parts and Compare of package rd do, in whatever memory. No condition beyond sizes that fit memory.
  What digits.Text and digits.Bytes do: bytes as signs of base 16, and back. No condition beyond sizes that fit memory.
  What digits.Bytes does: the bytes of signs of base 16. No condition beyond sizes that fit memory.
  Texts of any size that fits memory: strings.Cut at one sign, digits.Number, and addr.Parse of a text without a colon. The one condition beside: the library's tables hold what its text lays.
  What textHigh, Text, readHigh, read and Parse of package rd do. The one condition beyond sizes that fit memory: the library's tables hold what its text lays.
-/
import Derived.Deep.DeepHandedRow
import Derived.ChangeSame
import Derived.Lib.LaidTab
import Derived.Deep.Slices
import Derived.Deep.Strs
import Derived.Lib.SmallJoins
import Derived.Shelf.Vars
import Derived.Lib.AppendIntMem
import Derived.Laws.RangeAny
import Derived.Deep.RegionHeld3
import Derived.Lib.Builder
import Derived.Lib.IndexBytes
import Derived.Test.YtplpglfjcieloaaGreatDoorKSAJ
set_option linter.unusedVariables false
set_option linter.unusedSimpArgs false
namespace Go.Proofs.YtplpglfjcieloaaGreatDoor
open Tryz
section
set_option maxRecDepth 20000
set_option maxHeartbeats 2000000
open Go.RowKit
def knL:List Value:=[.int .i64 1,.int .i64 64,.int .i64 2,.int .i64 64,.int .i64 4,.int .i64 128,.int .i64 5,.int .i64 64,.int .i64 9,.int .i64 128,.int .i64 10,.int .i64 128,.int .i64 16,.int .i64 192,.int .i64 22,.int .i64 192]
def zdc (w:World):Prop:=w.rangeAt 1 0 knL
theorem zdc.below {w w':World} (h:zdc w) (hb:Below w.heap.size w w'):zdc w':=fun j u hu=>by
 have h1:=h j u hu
 rw [hb.cell (World.block_lt_of_cell? _ _ h1)]
 exact h1
theorem zye:(prog.info? 230).map (·.size)=some knL.length:=by kernel_rfl
theorem zbp {ops:Array Oper} {rest:List Oper} {o:Oper} {a:Act} {w:World} {Q:Exit→Act→World→Prop} (hgd:o.guard=none) (x:Operand) (ho:o.op = .load 230 x) (hx:a.eval x = .pointer (some ⟨1,0,none⟩)) (h:zdc w)
  (hk:wpList prog ops Q rest (a.put o.dst (.agg #[.int .i64 1,.int .i64 64,.int .i64 2,.int .i64 64,.int .i64 4,.int .i64 128,.int .i64 5,.int .i64 64,.int .i64 9,.int .i64 128,.int .i64 10,.int .i64 128,.int .i64 16,.int .i64 192,.int .i64 22,.int .i64 192])) w):wpList prog ops Q (o::rest) a w :=
 wpList_load_mid hgd 230 x ho _ 0 hx knL _ h underlying230 rfl zye hk
theorem zcX (w:World):(Instr.index 230 (.agg #[.int .i64 1,.int .i64 64,.int .i64 2,.int .i64 64,.int .i64 4,.int .i64 128,.int .i64 5,.int .i64 64,.int .i64 9,.int .i64 128,.int .i64 10,.int .i64 128,.int .i64 16,.int .i64 192,.int .i64 22,.int .i64 192]) (.int .i64 0)).run prog w = .ok (.agg #[.int .i64 1,.int .i64 64]) w:=by kernel_rfl
theorem zdl (w:World):(Instr.index 230 (.agg #[.int .i64 1,.int .i64 64,.int .i64 2,.int .i64 64,.int .i64 4,.int .i64 128,.int .i64 5,.int .i64 64,.int .i64 9,.int .i64 128,.int .i64 10,.int .i64 128,.int .i64 16,.int .i64 192,.int .i64 22,.int .i64 192]) (.int .i64 1)).run prog w = .ok (.agg #[.int .i64 2,.int .i64 64]) w:=by kernel_rfl
theorem zdN (w:World):(Instr.index 230 (.agg #[.int .i64 1,.int .i64 64,.int .i64 2,.int .i64 64,.int .i64 4,.int .i64 128,.int .i64 5,.int .i64 64,.int .i64 9,.int .i64 128,.int .i64 10,.int .i64 128,.int .i64 16,.int .i64 192,.int .i64 22,.int .i64 192]) (.int .i64 2)).run prog w = .ok (.agg #[.int .i64 4,.int .i64 128]) w:=by kernel_rfl
theorem zep (w:World):(Instr.index 230 (.agg #[.int .i64 1,.int .i64 64,.int .i64 2,.int .i64 64,.int .i64 4,.int .i64 128,.int .i64 5,.int .i64 64,.int .i64 9,.int .i64 128,.int .i64 10,.int .i64 128,.int .i64 16,.int .i64 192,.int .i64 22,.int .i64 192]) (.int .i64 3)).run prog w = .ok (.agg #[.int .i64 5,.int .i64 64]) w:=by kernel_rfl
theorem zfd (w:World):(Instr.index 230 (.agg #[.int .i64 1,.int .i64 64,.int .i64 2,.int .i64 64,.int .i64 4,.int .i64 128,.int .i64 5,.int .i64 64,.int .i64 9,.int .i64 128,.int .i64 10,.int .i64 128,.int .i64 16,.int .i64 192,.int .i64 22,.int .i64 192]) (.int .i64 4)).run prog w = .ok (.agg #[.int .i64 9,.int .i64 128]) w:=by kernel_rfl
theorem zgL (w:World):(Instr.index 230 (.agg #[.int .i64 1,.int .i64 64,.int .i64 2,.int .i64 64,.int .i64 4,.int .i64 128,.int .i64 5,.int .i64 64,.int .i64 9,.int .i64 128,.int .i64 10,.int .i64 128,.int .i64 16,.int .i64 192,.int .i64 22,.int .i64 192]) (.int .i64 5)).run prog w = .ok (.agg #[.int .i64 10,.int .i64 128]) w:=by kernel_rfl
theorem zjk (w:World):(Instr.index 230 (.agg #[.int .i64 1,.int .i64 64,.int .i64 2,.int .i64 64,.int .i64 4,.int .i64 128,.int .i64 5,.int .i64 64,.int .i64 9,.int .i64 128,.int .i64 10,.int .i64 128,.int .i64 16,.int .i64 192,.int .i64 22,.int .i64 192]) (.int .i64 6)).run prog w = .ok (.agg #[.int .i64 16,.int .i64 192]) w:=by kernel_rfl
theorem zmZ (w:World):(Instr.index 230 (.agg #[.int .i64 1,.int .i64 64,.int .i64 2,.int .i64 64,.int .i64 4,.int .i64 128,.int .i64 5,.int .i64 64,.int .i64 9,.int .i64 128,.int .i64 10,.int .i64 128,.int .i64 16,.int .i64 192,.int .i64 22,.int .i64 192]) (.int .i64 7)).run prog w = .ok (.agg #[.int .i64 22,.int .i64 192]) w:=by kernel_rfl
theorem ztC (w:World) (h:zdc w):Calls prog 144 #[.int .i64 1] w fun e w'=>e = .returned (.tuple #[.int .i64 64,.bool true])∧Below w.heap.size w w':=by
 have H:=hD h
 clear h
 have q0:=zcX
 go_enter func144,ntmps144
 go_wp2_with (with_reducible refine zbp rfl (.global 1) rfl rfl H.o ?_)
 refine wp_loop_rounds 1 ?_
 rw [rounds_succ]
 go_wp2
 go_ret2
 exact ⟨rfl,(Below.refl _ _).alloc (by first | (simp;done) | (simp;omega)) _⟩
theorem ztB (w:World) (h:zdc w):Calls prog 144 #[.int .i64 2] w fun e w'=>e = .returned (.tuple #[.int .i64 64,.bool true])∧Below w.heap.size w w':=by
 have H:=hD h
 clear h
 have q0:=zcX
 have q1:=zdl
 go_enter func144,ntmps144
 go_wp2_with (with_reducible refine zbp rfl (.global 1) rfl rfl H.o ?_)
 refine wp_loop_rounds 2 ?_
 rw [rounds_succ]
 go_wp2
 rw [rounds_succ]
 go_wp2
 go_ret2
 exact ⟨rfl,((Below.refl _ _).alloc (by first | (simp;done) | (simp;omega)) _).alloc (by first | (simp;done) | (simp;omega)) _⟩
theorem ztA (w:World) (h:zdc w):Calls prog 144 #[.int .i64 4] w fun e w'=>e = .returned (.tuple #[.int .i64 128,.bool true])∧Below w.heap.size w w':=by
 have H:=hD h
 clear h
 have q0:=zcX
 have q1:=zdl
 have q2:=zdN
 go_enter func144,ntmps144
 go_wp2_with (with_reducible refine zbp rfl (.global 1) rfl rfl H.o ?_)
 refine wp_loop_rounds 3 ?_
 rw [rounds_succ]
 go_wp2
 rw [rounds_succ]
 go_wp2
 rw [rounds_succ]
 go_wp2
 go_ret2
 exact ⟨rfl,(((Below.refl _ _).alloc (by first | (simp;done) | (simp;omega)) _).alloc (by first | (simp;done) | (simp;omega)) _).alloc (by first | (simp;done) | (simp;omega)) _⟩
theorem ztz (w:World) (h:zdc w):Calls prog 144 #[.int .i64 5] w fun e w'=>e = .returned (.tuple #[.int .i64 64,.bool true])∧Below w.heap.size w w':=by
 have H:=hD h
 clear h
 have q0:=zcX
 have q1:=zdl
 have q2:=zdN
 have q3:=zep
 go_enter func144,ntmps144
 go_wp2_with (with_reducible refine zbp rfl (.global 1) rfl rfl H.o ?_)
 refine wp_loop_rounds 4 ?_
 rw [rounds_succ]
 go_wp2
 rw [rounds_succ]
 go_wp2
 rw [rounds_succ]
 go_wp2
 rw [rounds_succ]
 go_wp2
 go_ret2
 exact ⟨rfl,((((Below.refl _ _).alloc (by first | (simp;done) | (simp;omega)) _).alloc (by first | (simp;done) | (simp;omega)) _).alloc (by first | (simp;done) | (simp;omega)) _).alloc (by first | (simp;done) | (simp;omega)) _⟩
theorem zty (w:World) (h:zdc w):Calls prog 144 #[.int .i64 9] w fun e w'=>e = .returned (.tuple #[.int .i64 128,.bool true])∧Below w.heap.size w w':=by
 have H:=hD h
 clear h
 have q0:=zcX
 have q1:=zdl
 have q2:=zdN
 have q3:=zep
 have q4:=zfd
 go_enter func144,ntmps144
 go_wp2_with (with_reducible refine zbp rfl (.global 1) rfl rfl H.o ?_)
 refine wp_loop_rounds 5 ?_
 rw [rounds_succ]
 go_wp2
 rw [rounds_succ]
 go_wp2
 rw [rounds_succ]
 go_wp2
 rw [rounds_succ]
 go_wp2
 rw [rounds_succ]
 go_wp2
 go_ret2
 exact ⟨rfl,(((((Below.refl _ _).alloc (by first | (simp;done) | (simp;omega)) _).alloc (by first | (simp;done) | (simp;omega)) _).alloc (by first | (simp;done) | (simp;omega)) _).alloc (by first | (simp;done) | (simp;omega)) _).alloc (by first | (simp;done) | (simp;omega)) _⟩
theorem zre (w:World) (h:zdc w):Calls prog 144 #[.int .i64 10] w fun e w'=>e = .returned (.tuple #[.int .i64 128,.bool true])∧Below w.heap.size w w':=by
 have H:=hD h
 clear h
 have q0:=zcX
 have q1:=zdl
 have q2:=zdN
 have q3:=zep
 have q4:=zfd
 have q5:=zgL
 go_enter func144,ntmps144
 go_wp2_with (with_reducible refine zbp rfl (.global 1) rfl rfl H.o ?_)
 refine wp_loop_rounds 6 ?_
 rw [rounds_succ]
 go_wp2
 rw [rounds_succ]
 go_wp2
 rw [rounds_succ]
 go_wp2
 rw [rounds_succ]
 go_wp2
 rw [rounds_succ]
 go_wp2
 rw [rounds_succ]
 go_wp2
 go_ret2
 exact ⟨rfl,((((((Below.refl _ _).alloc (by first | (simp;done) | (simp;omega)) _).alloc (by first | (simp;done) | (simp;omega)) _).alloc (by first | (simp;done) | (simp;omega)) _).alloc (by first | (simp;done) | (simp;omega)) _).alloc (by first | (simp;done) | (simp;omega)) _).alloc (by first | (simp;done) | (simp;omega)) _⟩
theorem zrd (w:World) (h:zdc w):Calls prog 144 #[.int .i64 16] w fun e w'=>e = .returned (.tuple #[.int .i64 192,.bool true])∧Below w.heap.size w w':=by
 have H:=hD h
 clear h
 have q0:=zcX
 have q1:=zdl
 have q2:=zdN
 have q3:=zep
 have q4:=zfd
 have q5:=zgL
 have q6:=zjk
 go_enter func144,ntmps144
 go_wp2_with (with_reducible refine zbp rfl (.global 1) rfl rfl H.o ?_)
 refine wp_loop_rounds 7 ?_
 rw [rounds_succ]
 go_wp2
 rw [rounds_succ]
 go_wp2
 rw [rounds_succ]
 go_wp2
 rw [rounds_succ]
 go_wp2
 rw [rounds_succ]
 go_wp2
 rw [rounds_succ]
 go_wp2
 rw [rounds_succ]
 go_wp2
 go_ret2
 exact ⟨rfl,(((((((Below.refl _ _).alloc (by first | (simp;done) | (simp;omega)) _).alloc (by first | (simp;done) | (simp;omega)) _).alloc (by first | (simp;done) | (simp;omega)) _).alloc (by first | (simp;done) | (simp;omega)) _).alloc (by first | (simp;done) | (simp;omega)) _).alloc (by first | (simp;done) | (simp;omega)) _).alloc (by first | (simp;done) | (simp;omega)) _⟩
theorem zrc (w:World) (h:zdc w):Calls prog 144 #[.int .i64 22] w fun e w'=>e = .returned (.tuple #[.int .i64 192,.bool true])∧Below w.heap.size w w':=by
 have H:=hD h
 clear h
 have q0:=zcX
 have q1:=zdl
 have q2:=zdN
 have q3:=zep
 have q4:=zfd
 have q5:=zgL
 have q6:=zjk
 have q7:=zmZ
 go_enter func144,ntmps144
 go_wp2_with (with_reducible refine zbp rfl (.global 1) rfl rfl H.o ?_)
 refine wp_loop_rounds 8 ?_
 rw [rounds_succ]
 go_wp2
 rw [rounds_succ]
 go_wp2
 rw [rounds_succ]
 go_wp2
 rw [rounds_succ]
 go_wp2
 rw [rounds_succ]
 go_wp2
 rw [rounds_succ]
 go_wp2
 rw [rounds_succ]
 go_wp2
 rw [rounds_succ]
 go_wp2
 go_ret2
 exact ⟨rfl,((((((((Below.refl _ _).alloc (by first | (simp;done) | (simp;omega)) _).alloc (by first | (simp;done) | (simp;omega)) _).alloc (by first | (simp;done) | (simp;omega)) _).alloc (by first | (simp;done) | (simp;omega)) _).alloc (by first | (simp;done) | (simp;omega)) _).alloc (by first | (simp;done) | (simp;omega)) _).alloc (by first | (simp;done) | (simp;omega)) _).alloc (by first | (simp;done) | (simp;omega)) _⟩
def zgg:AtP:=⟨0,none,0,0,[],-1,-1,0,zas,none,0,0,[],none,0,0,[],none,0,0,[]⟩
def zwX:AtP:=⟨0,none,0,0,[],0,0,0,zas,none,0,0,[],none,0,0,[],none,0,0,[]⟩
theorem zuk:attC zgg=#[.int .i64 0,.slice none 0 0,.int .i64 (-1),.int .i64 (-1),.int .i64 0,.int .u8 0,.int .u8 0,.int .u8 0,.int .u8 0,.int .u8 0,.int .u8 0,.int .u8 0,.int .u8 0,.int .u8 0,.int .u8 0,.int .u8 0,.int .u8 0,.int .u8 0,.int .u8 0,.int .u8 0,.int .u8 0,.slice none 0 0,.slice none 0 0,.slice none 0 0]:=by kernel_rfl
theorem zuj:attC zwX=zAtt:=by kernel_rfl
theorem zjc (w:World) (lo hi:Nat):zax w lo hi zgg :=
 ⟨rfl,RowE.nil _ _ _ _,RowE.nil _ _ _ _,AtE.nil _ _ _ _,RowE.nil _ _ _ _,lr,lr,lr,lr⟩
theorem zdx {fn:Func} {R:Ending→World→Prop} {a:Act} {w:World} {q:Tmp} {g:Nat} {t:TypeId} {p:AtP} (hf:fn.results=#[.cell q 35])
  (hp:a.tmps.getD q undef = .pointer (some ⟨g,0,none⟩)) (h:Blk w g t (attC p)) (hl:p.ob.length=16) (hd:a.defers=[]) (hR:R (.returned (.agg (attC p))) w) :
  bodyPost prog fn R .ret a w:=by
 refine bodyPost_ret (v:=.agg (attC p)) ?_ hd hR
 have hp':a.tmps[q]?.getD undef = .pointer (some ⟨g,0,none⟩):=by simpa using hp
 simp [results,hf,hp',asAddr,zlA (zah (l:=attL p) h) hl]
theorem zgn {ops:Array Oper} {rest:List Oper} {o:Oper} {a:Act} {w:World} {Q:Exit→Act→World→Prop} (hgd:o.guard=none) (x y:Operand) (ho:o.op = .store 35 x y) (g:Nat) (hx:a.eval x = .pointer (some ⟨g,0,none⟩)) (hy:a.eval y = .agg #[.int .i64 0,.slice none 0 0,.int .i64 (-1),.int .i64 (-1),.int .i64 0,.int .u8 0,.int .u8 0,.int .u8 0,.int .u8 0,.int .u8 0,.int .u8 0,.int .u8 0,.int .u8 0,.int .u8 0,.int .u8 0,.int .u8 0,.int .u8 0,.int .u8 0,.int .u8 0,.int .u8 0,.int .u8 0,.slice none 0 0,.slice none 0 0,.slice none 0 0]) {t:TypeId} {old:Array Value} (h:Blk w g t old) (hold:old.size=24)
  (hk:∀ w',Blk w' g t (attC zgg)→w.grownBy w' (some g)→wpList prog ops Q rest (a.put o.dst undef) w'):wpList prog ops Q (o::rest) a w :=
 zaT hgd x y ho g hx zgg (hy.trans (congrArg Value.agg zuk.symm)) rfl h hold hk
theorem zpv (w:World):Calls prog 22 #[] w fun e w'=>e = .returned (.agg (attC zgg))∧Below w.heap.size w w':=by
 have B1:Hid (Blk (w.alloc (.cells zAtt 35)) w.heap.size 35 zAtt):=hD (Blk.new w _ _)
 have W1:Hid (Below w.heap.size w (w.alloc (.cells zAtt 35))):=hD ((Below.refl _ _).alloc lr _)
 go_enter func22,ntmps22
 go_wp2_with (refine zgn rfl (.tmp 0) (.tmp 1) rfl w.heap.size rfl rfl B1.o rfl ?_;intro w2 hb2 hg2;have N2:=hD hb2;have G2:=hD hg2;clear hb2 hg2;refine Hid.o ?_)
 refine hD ?_
 go_wp2
 refine zdx (q:=0) rfl rfl N2.o rfl rfl ?_
 exact ⟨rfl,W1.o.grown G2.o W1.o.size (fun g hg=>by injection hg;omega)⟩
theorem zbq {ops:Array Oper} {rest:List Oper} {o:Oper} {a:Act} {w:World} {Q:Exit→Act→World→Prop} (hgd:o.guard=none) (ty:TypeId) (x y:Operand) (ho:o.op = .store ty x y) (g i:Nat) (hx:a.eval x = .pointer (some ⟨g,i,none⟩)) (u:Value) (hy:a.eval y=u)
  {t:TypeId} {cs cs':Array Value} (h:Blk w g t cs) (hi:i<cs.size) (hty:(prog.info? ty).map (·.size)=some 1) (hc:u.cells=#[u]) (h1:u.oneCell'=true) (hcs:cs.setIfInBounds i u=cs')
  (hk:∀ w',Blk w' g t cs'→w.grownBy w' (some g)→wpList prog ops Q rest (a.put o.dst undef) w'):wpList prog ops Q (o::rest) a w:=by
 refine wpList_plain hgd fun K hK'=>?_
 have hrun:=zbb (P:=prog) ty x y ho hx hy h hi hty hc h1
 unfold Oper.wp
 rw [hrun]
 refine hK' _ _ (hk _ ?_ (zat (zad w _) (.inl rfl) u))
 rw [← hcs]
 exact h.set_ i u
theorem zud {w:World} {g:Nat} {t:TypeId} {p:AtP} (h:Blk w g t (attC p)) (hl:p.ob.length=16):w.there g 4 17:=fun j hj=>by
 refine ⟨?_,h.frozen _⟩
 rw [h.cell]
 have hs:=zbT (p:=p) hl
 have:4+j<(attC p).size:=by omega
 simp [this]
theorem zgZ {ops:Array Oper} {rest:List Oper} {o:Oper} {a:Act} {w:World} {Q:Exit→Act→World→Prop} (hgd:o.guard=none) (x y:Operand) (ho:o.op = .store 26 x y) (g:Nat) (hx:a.eval x = .pointer (some ⟨g,4,none⟩)) (s:Int) (bs:List UInt8) (hy:a.eval y = .agg (zaq s bs)) (hl:bs.length=16)
  {t:TypeId} {p:AtP} (h:Blk w g t (attC p)) (hp:p.ob.length=16)
  (hk:∀ w',Blk w' g t (attC { p with os:=s,ob:=bs })→w.grownBy w' (some g)→wpList prog ops Q rest (a.put o.dst undef) w'):wpList prog ops Q (o::rest) a w:=by
 refine wpList_plain hgd fun K hK'=>?_
 have hrun:=zbx x y ho g 4 hx hy hl (zud h hp)
 unfold Oper.wp
 rw [hrun]
 refine hK' _ _ (hk _ ?_ (zai _ _ _ _ (zad w _)))
 exact zbE (.int .i64 s::bvs bs) (.int .i64 p.os::bvs p.ob) [.int .i64 p.o,.slice p.pA p.pn p.pc,.int .i64 p.med,.int .i64 p.pref] (r:=[.slice p.cA p.cn p.cc,.slice p.eA p.en p.ec,.slice p.tA p.tn p.tc]) w (by simp [bvs,hl,hp]) h
theorem zjC {p:AtP} (h:p.ob.length=16) (j:Nat) (hj:j<3) (v:Value):(attC p).setIfInBounds (21+j) v=(Value.int .i64 p.o :: .slice p.pA p.pn p.pc :: .int .i64 p.med :: .int .i64 p.pref::((.int .i64 p.os::bvs p.ob)++([Value.slice p.cA p.cn p.cc,.slice p.eA p.en p.ec,.slice p.tA p.tn p.tc].set j v))).toArray:=by
 apply Array.toList_inj.1
 rw [Array.toList_setIfInBounds]
 unfold attC attL
 have e:21+j=(17+j)+1+1+1+1:=by omega
 rw [e]
 simp only [List.set_cons_succ]
 rw [List.set_append_right _ _ (by simp [bvs,h])]
 have e2:17+j-(Value.int .i64 p.os::bvs p.ob).length=j:=by simp [bvs,h]
 rw [e2]
theorem zwl (w:World) (z:Int):(Instr.typeAssert (.iface 3 (.int .i64 z)) 20 3 false).run prog w = .ok (.int .i64 z) w:=by kernel_rfl
theorem with_1 (w:World) (p:AtP) (hl:p.ob.length=16) (z:Int):Calls prog 163 #[.agg (attC p),.int .i64 1,.iface 3 (.int .i64 z)] w fun e w'=>e = .returned (.agg (attC ({ p with o:=z }:AtP)))∧Below w.heap.size w w':=by
 have qa:=fun (x:World)=>zwl x z
 have N1:Hid (Blk ((w.alloc (.cells (attC p) 35)).alloc (.cells zAtt 35)) w.heap.size 35 (attC p)):=hD ((Blk.new w _ _).alloc _)
 have M1:Hid (Blk ((w.alloc (.cells (attC p) 35)).alloc (.cells zAtt 35)) (w.heap.size+1) 35 zAtt):=hD (by have h:=Blk.new (w.alloc (.cells (attC p) 35)) 35 zAtt;rw [show (w.alloc (.cells (attC p) 35)).heap.size=w.heap.size+1 by simp] at h;exact h)
 have B1:Hid (Below w.heap.size w ((w.alloc (.cells (attC p) 35)).alloc (.cells zAtt 35))):=hD (((Below.refl _ _).alloc lr _).alloc (by simp) _)
 go_enter func163,ntmps163
 go_wp2_with (refine zbq rfl 3 (.tmp 12) (.tmp 11) rfl w.heap.size 0 rfl (.int .i64 z) rfl (cs':=attC ({ p with o:=z }:AtP)) N1.o (by rw [zbT hl];decide) (by kernel_rfl) rfl rfl rfl ?_;intro w3 hb3 hg3;have N3:=hD hb3;have G3:=hD hg3;clear hb3 hg3;refine Hid.o ?_)
 refine hD ?_
 have M3:=hD (M1.o.grown G3.o (fun e=>by injection e;omega))
 have B3:=hD (B1.o.grown G3.o B1.o.size (fun g hg=>by injection hg;omega))
 have RN:=hD (zah (l:=attL ({ p with o:=z }:AtP)) N3.o)
 clear N1 M1 B1 qa
 go_wp2_with (first
  | ((with_reducible refine zaO ?_ (.tmp 3) rfl w.heap.size 0 rfl RN.o hl ?_);· rfl)
  | (refine zaT rfl (.tmp 6) (.tmp 48) rfl (w.heap.size+1) rfl ({ p with o:=z }:AtP) rfl hl M3.o rfl ?_;intro w4 hb4 hg4;have N4:=hD hb4;have G4:=hD hg4;clear hb4 hg4;refine Hid.o ?_))
 refine hD ?_
 go_wp2
 refine zdx (q:=6) rfl rfl N4.o hl rfl ?_
 exact ⟨rfl,B3.o.grown G4.o B3.o.size (fun g hg=>by injection hg;omega)⟩
theorem zwk (w:World) (A:Option Addr) (n c:Nat):(Instr.typeAssert (.iface 30 (.slice A n c)) 20 30 false).run prog w = .ok (.slice A n c) w:=by kernel_rfl
theorem with_2 (w:World) (p:AtP) (hl:p.ob.length=16) (A:Option Addr) (n c:Nat) (l:List SgP):Calls prog 163 #[.agg (attC p),.int .i64 2,.iface 30 (.slice A n c)] w fun e w'=>e = .returned (.agg (attC ({ p with pA:=A,pn:=n,pc:=c,path:=l }:AtP)))∧Below w.heap.size w w':=by
 have qa:=fun (x:World)=>zwk x A n c
 have N1:Hid (Blk ((w.alloc (.cells (attC p) 35)).alloc (.cells zAtt 35)) w.heap.size 35 (attC p)):=hD ((Blk.new w _ _).alloc _)
 have M1:Hid (Blk ((w.alloc (.cells (attC p) 35)).alloc (.cells zAtt 35)) (w.heap.size+1) 35 zAtt):=hD (by have h:=Blk.new (w.alloc (.cells (attC p) 35)) 35 zAtt;rw [show (w.alloc (.cells (attC p) 35)).heap.size=w.heap.size+1 by simp] at h;exact h)
 have B1:Hid (Below w.heap.size w ((w.alloc (.cells (attC p) 35)).alloc (.cells zAtt 35))):=hD (((Below.refl _ _).alloc lr _).alloc (by simp) _)
 go_enter func163,ntmps163
 go_wp2_with (refine zbq rfl 30 (.tmp 17) (.tmp 16) rfl w.heap.size 1 rfl (.slice A n c) rfl (cs':=attC ({ p with pA:=A,pn:=n,pc:=c,path:=l }:AtP)) N1.o (by rw [zbT hl];decide) (by kernel_rfl) rfl rfl rfl ?_;intro w3 hb3 hg3;have N3:=hD hb3;have G3:=hD hg3;clear hb3 hg3;refine Hid.o ?_)
 refine hD ?_
 have M3:=hD (M1.o.grown G3.o (fun e=>by injection e;omega))
 have B3:=hD (B1.o.grown G3.o B1.o.size (fun g hg=>by injection hg;omega))
 have RN:=hD (zah (l:=attL ({ p with pA:=A,pn:=n,pc:=c,path:=l }:AtP)) N3.o)
 clear N1 M1 B1 qa
 go_wp2_with (first
  | ((with_reducible refine zaO ?_ (.tmp 3) rfl w.heap.size 0 rfl RN.o hl ?_);· rfl)
  | (refine zaT rfl (.tmp 6) (.tmp 48) rfl (w.heap.size+1) rfl ({ p with pA:=A,pn:=n,pc:=c,path:=l }:AtP) rfl hl M3.o rfl ?_;intro w4 hb4 hg4;have N4:=hD hb4;have G4:=hD hg4;clear hb4 hg4;refine Hid.o ?_))
 refine hD ?_
 go_wp2
 refine zdx (q:=6) rfl rfl N4.o hl rfl ?_
 exact ⟨rfl,B3.o.grown G4.o B3.o.size (fun g hg=>by injection hg;omega)⟩
theorem zwj (w:World) (z:Int):(Instr.typeAssert (.iface 3 (.int .i64 z)) 20 3 false).run prog w = .ok (.int .i64 z) w:=by kernel_rfl
theorem with_4 (w:World) (p:AtP) (hl:p.ob.length=16) (z:Int):Calls prog 163 #[.agg (attC p),.int .i64 4,.iface 3 (.int .i64 z)] w fun e w'=>e = .returned (.agg (attC ({ p with med:=z }:AtP)))∧Below w.heap.size w w':=by
 have qa:=fun (x:World)=>zwj x z
 have N1:Hid (Blk ((w.alloc (.cells (attC p) 35)).alloc (.cells zAtt 35)) w.heap.size 35 (attC p)):=hD ((Blk.new w _ _).alloc _)
 have M1:Hid (Blk ((w.alloc (.cells (attC p) 35)).alloc (.cells zAtt 35)) (w.heap.size+1) 35 zAtt):=hD (by have h:=Blk.new (w.alloc (.cells (attC p) 35)) 35 zAtt;rw [show (w.alloc (.cells (attC p) 35)).heap.size=w.heap.size+1 by simp] at h;exact h)
 have B1:Hid (Below w.heap.size w ((w.alloc (.cells (attC p) 35)).alloc (.cells zAtt 35))):=hD (((Below.refl _ _).alloc lr _).alloc (by simp) _)
 go_enter func163,ntmps163
 go_wp2_with (refine zbq rfl 3 (.tmp 22) (.tmp 21) rfl w.heap.size 2 rfl (.int .i64 z) rfl (cs':=attC ({ p with med:=z }:AtP)) N1.o (by rw [zbT hl];decide) (by kernel_rfl) rfl rfl rfl ?_;intro w3 hb3 hg3;have N3:=hD hb3;have G3:=hD hg3;clear hb3 hg3;refine Hid.o ?_)
 refine hD ?_
 have M3:=hD (M1.o.grown G3.o (fun e=>by injection e;omega))
 have B3:=hD (B1.o.grown G3.o B1.o.size (fun g hg=>by injection hg;omega))
 have RN:=hD (zah (l:=attL ({ p with med:=z }:AtP)) N3.o)
 clear N1 M1 B1 qa
 go_wp2_with (first
  | ((with_reducible refine zaO ?_ (.tmp 3) rfl w.heap.size 0 rfl RN.o hl ?_);· rfl)
  | (refine zaT rfl (.tmp 6) (.tmp 48) rfl (w.heap.size+1) rfl ({ p with med:=z }:AtP) rfl hl M3.o rfl ?_;intro w4 hb4 hg4;have N4:=hD hb4;have G4:=hD hg4;clear hb4 hg4;refine Hid.o ?_))
 refine hD ?_
 go_wp2
 refine zdx (q:=6) rfl rfl N4.o hl rfl ?_
 exact ⟨rfl,B3.o.grown G4.o B3.o.size (fun g hg=>by injection hg;omega)⟩
theorem zwi (w:World) (z:Int):(Instr.typeAssert (.iface 3 (.int .i64 z)) 20 3 false).run prog w = .ok (.int .i64 z) w:=by kernel_rfl
theorem with_5 (w:World) (p:AtP) (hl:p.ob.length=16) (z:Int):Calls prog 163 #[.agg (attC p),.int .i64 5,.iface 3 (.int .i64 z)] w fun e w'=>e = .returned (.agg (attC ({ p with pref:=z }:AtP)))∧Below w.heap.size w w':=by
 have qa:=fun (x:World)=>zwi x z
 have N1:Hid (Blk ((w.alloc (.cells (attC p) 35)).alloc (.cells zAtt 35)) w.heap.size 35 (attC p)):=hD ((Blk.new w _ _).alloc _)
 have M1:Hid (Blk ((w.alloc (.cells (attC p) 35)).alloc (.cells zAtt 35)) (w.heap.size+1) 35 zAtt):=hD (by have h:=Blk.new (w.alloc (.cells (attC p) 35)) 35 zAtt;rw [show (w.alloc (.cells (attC p) 35)).heap.size=w.heap.size+1 by simp] at h;exact h)
 have B1:Hid (Below w.heap.size w ((w.alloc (.cells (attC p) 35)).alloc (.cells zAtt 35))):=hD (((Below.refl _ _).alloc lr _).alloc (by simp) _)
 go_enter func163,ntmps163
 go_wp2_with (refine zbq rfl 3 (.tmp 27) (.tmp 26) rfl w.heap.size 3 rfl (.int .i64 z) rfl (cs':=attC ({ p with pref:=z }:AtP)) N1.o (by rw [zbT hl];decide) (by kernel_rfl) rfl rfl rfl ?_;intro w3 hb3 hg3;have N3:=hD hb3;have G3:=hD hg3;clear hb3 hg3;refine Hid.o ?_)
 refine hD ?_
 have M3:=hD (M1.o.grown G3.o (fun e=>by injection e;omega))
 have B3:=hD (B1.o.grown G3.o B1.o.size (fun g hg=>by injection hg;omega))
 have RN:=hD (zah (l:=attL ({ p with pref:=z }:AtP)) N3.o)
 clear N1 M1 B1 qa
 go_wp2_with (first
  | ((with_reducible refine zaO ?_ (.tmp 3) rfl w.heap.size 0 rfl RN.o hl ?_);· rfl)
  | (refine zaT rfl (.tmp 6) (.tmp 48) rfl (w.heap.size+1) rfl ({ p with pref:=z }:AtP) rfl hl M3.o rfl ?_;intro w4 hb4 hg4;have N4:=hD hb4;have G4:=hD hg4;clear hb4 hg4;refine Hid.o ?_))
 refine hD ?_
 go_wp2
 refine zdx (q:=6) rfl rfl N4.o hl rfl ?_
 exact ⟨rfl,B3.o.grown G4.o B3.o.size (fun g hg=>by injection hg;omega)⟩
theorem zwh (w:World) (s:Int) (bs:List UInt8):(Instr.typeAssert (.iface 26 (.agg (zaq s bs))) 20 26 false).run prog w = .ok (.agg (zaq s bs)) w:=by kernel_rfl
theorem with_9 (w:World) (p:AtP) (hl:p.ob.length=16) (s:Int) (bs:List UInt8) (hb:bs.length=16):Calls prog 163 #[.agg (attC p),.int .i64 9,.iface 26 (.agg (zaq s bs))] w fun e w'=>e = .returned (.agg (attC ({ p with os:=s,ob:=bs }:AtP)))∧Below w.heap.size w w':=by
 have qa:=fun (x:World)=>zwh x s bs
 have N1:Hid (Blk ((w.alloc (.cells (attC p) 35)).alloc (.cells zAtt 35)) w.heap.size 35 (attC p)):=hD ((Blk.new w _ _).alloc _)
 have M1:Hid (Blk ((w.alloc (.cells (attC p) 35)).alloc (.cells zAtt 35)) (w.heap.size+1) 35 zAtt):=hD (by have h:=Blk.new (w.alloc (.cells (attC p) 35)) 35 zAtt;rw [show (w.alloc (.cells (attC p) 35)).heap.size=w.heap.size+1 by simp] at h;exact h)
 have B1:Hid (Below w.heap.size w ((w.alloc (.cells (attC p) 35)).alloc (.cells zAtt 35))):=hD (((Below.refl _ _).alloc lr _).alloc (by simp) _)
 go_enter func163,ntmps163
 go_wp2_with (refine zgZ rfl (.tmp 32) (.tmp 31) rfl w.heap.size rfl s bs rfl hb N1.o hl ?_;intro w3 hb3 hg3;have N3:=hD hb3;have G3:=hD hg3;clear hb3 hg3;refine Hid.o ?_)
 refine hD ?_
 have M3:=hD (M1.o.grown G3.o (fun e=>by injection e;omega))
 have B3:=hD (B1.o.grown G3.o B1.o.size (fun g hg=>by injection hg;omega))
 have RN:=hD (zah (l:=attL ({ p with os:=s,ob:=bs }:AtP)) N3.o)
 clear N1 M1 B1 qa
 go_wp2_with (first
  | ((with_reducible refine zaO ?_ (.tmp 3) rfl w.heap.size 0 rfl RN.o hb ?_);· rfl)
  | (refine zaT rfl (.tmp 6) (.tmp 48) rfl (w.heap.size+1) rfl ({ p with os:=s,ob:=bs }:AtP) rfl hb M3.o rfl ?_;intro w4 hb4 hg4;have N4:=hD hb4;have G4:=hD hg4;clear hb4 hg4;refine Hid.o ?_))
 refine hD ?_
 go_wp2
 refine zdx (q:=6) rfl rfl N4.o hb rfl ?_
 exact ⟨rfl,B3.o.grown G4.o B3.o.size (fun g hg=>by injection hg;omega)⟩
theorem zuo (w:World) (A:Option Addr) (n c:Nat):(Instr.typeAssert (.iface 31 (.slice A n c)) 20 31 false).run prog w = .ok (.slice A n c) w:=by kernel_rfl
theorem zw7 (w:World) (p:AtP) (hl:p.ob.length=16) (A:Option Addr) (n c:Nat) (l:List (Int × List UInt8)):Calls prog 163 #[.agg (attC p),.int .i64 10,.iface 31 (.slice A n c)] w fun e w'=>e = .returned (.agg (attC ({ p with cA:=A,cn:=n,cc:=c,cl:=l }:AtP)))∧Below w.heap.size w w':=by
 have qa:=fun (x:World)=>zuo x A n c
 have N1:Hid (Blk ((w.alloc (.cells (attC p) 35)).alloc (.cells zAtt 35)) w.heap.size 35 (attC p)):=hD ((Blk.new w _ _).alloc _)
 have M1:Hid (Blk ((w.alloc (.cells (attC p) 35)).alloc (.cells zAtt 35)) (w.heap.size+1) 35 zAtt):=hD (by have h:=Blk.new (w.alloc (.cells (attC p) 35)) 35 zAtt;rw [show (w.alloc (.cells (attC p) 35)).heap.size=w.heap.size+1 by simp] at h;exact h)
 have B1:Hid (Below w.heap.size w ((w.alloc (.cells (attC p) 35)).alloc (.cells zAtt 35))):=hD (((Below.refl _ _).alloc lr _).alloc (by simp) _)
 go_enter func163,ntmps163
 go_wp2_with (refine zbq rfl 31 (.tmp 37) (.tmp 36) rfl w.heap.size 21 rfl (.slice A n c) rfl (cs':=attC ({ p with cA:=A,cn:=n,cc:=c,cl:=l }:AtP)) N1.o (by rw [zbT hl];decide) (by kernel_rfl) rfl rfl (zjC hl 0 (by decide) _) ?_;intro w3 hb3 hg3;have N3:=hD hb3;have G3:=hD hg3;clear hb3 hg3;refine Hid.o ?_)
 refine hD ?_
 have M3:=hD (M1.o.grown G3.o (fun e=>by injection e;omega))
 have B3:=hD (B1.o.grown G3.o B1.o.size (fun g hg=>by injection hg;omega))
 have RN:=hD (zah (l:=attL ({ p with cA:=A,cn:=n,cc:=c,cl:=l }:AtP)) N3.o)
 clear N1 M1 B1 qa
 go_wp2_with (first
  | ((with_reducible refine zaO ?_ (.tmp 3) rfl w.heap.size 0 rfl RN.o hl ?_);· rfl)
  | (refine zaT rfl (.tmp 6) (.tmp 48) rfl (w.heap.size+1) rfl ({ p with cA:=A,cn:=n,cc:=c,cl:=l }:AtP) rfl hl M3.o rfl ?_;intro w4 hb4 hg4;have N4:=hD hb4;have G4:=hD hg4;clear hb4 hg4;refine Hid.o ?_))
 refine hD ?_
 go_wp2
 refine zdx (q:=6) rfl rfl N4.o hl rfl ?_
 exact ⟨rfl,B3.o.grown G4.o B3.o.size (fun g hg=>by injection hg;omega)⟩
theorem zun (w:World) (A:Option Addr) (n c:Nat):(Instr.typeAssert (.iface 32 (.slice A n c)) 20 32 false).run prog w = .ok (.slice A n c) w:=by kernel_rfl
theorem zw6 (w:World) (p:AtP) (hl:p.ob.length=16) (A:Option Addr) (n c:Nat) (l:List B8):Calls prog 163 #[.agg (attC p),.int .i64 16,.iface 32 (.slice A n c)] w fun e w'=>e = .returned (.agg (attC ({ p with eA:=A,en:=n,ec:=c,ex:=l }:AtP)))∧Below w.heap.size w w':=by
 have qa:=fun (x:World)=>zun x A n c
 have N1:Hid (Blk ((w.alloc (.cells (attC p) 35)).alloc (.cells zAtt 35)) w.heap.size 35 (attC p)):=hD ((Blk.new w _ _).alloc _)
 have M1:Hid (Blk ((w.alloc (.cells (attC p) 35)).alloc (.cells zAtt 35)) (w.heap.size+1) 35 zAtt):=hD (by have h:=Blk.new (w.alloc (.cells (attC p) 35)) 35 zAtt;rw [show (w.alloc (.cells (attC p) 35)).heap.size=w.heap.size+1 by simp] at h;exact h)
 have B1:Hid (Below w.heap.size w ((w.alloc (.cells (attC p) 35)).alloc (.cells zAtt 35))):=hD (((Below.refl _ _).alloc lr _).alloc (by simp) _)
 go_enter func163,ntmps163
 go_wp2_with (refine zbq rfl 32 (.tmp 42) (.tmp 41) rfl w.heap.size 22 rfl (.slice A n c) rfl (cs':=attC ({ p with eA:=A,en:=n,ec:=c,ex:=l }:AtP)) N1.o (by rw [zbT hl];decide) (by kernel_rfl) rfl rfl (zjC hl 1 (by decide) _) ?_;intro w3 hb3 hg3;have N3:=hD hb3;have G3:=hD hg3;clear hb3 hg3;refine Hid.o ?_)
 refine hD ?_
 have M3:=hD (M1.o.grown G3.o (fun e=>by injection e;omega))
 have B3:=hD (B1.o.grown G3.o B1.o.size (fun g hg=>by injection hg;omega))
 have RN:=hD (zah (l:=attL ({ p with eA:=A,en:=n,ec:=c,ex:=l }:AtP)) N3.o)
 clear N1 M1 B1 qa
 go_wp2_with (first
  | ((with_reducible refine zaO ?_ (.tmp 3) rfl w.heap.size 0 rfl RN.o hl ?_);· rfl)
  | (refine zaT rfl (.tmp 6) (.tmp 48) rfl (w.heap.size+1) rfl ({ p with eA:=A,en:=n,ec:=c,ex:=l }:AtP) rfl hl M3.o rfl ?_;intro w4 hb4 hg4;have N4:=hD hb4;have G4:=hD hg4;clear hb4 hg4;refine Hid.o ?_))
 refine hD ?_
 go_wp2
 refine zdx (q:=6) rfl rfl N4.o hl rfl ?_
 exact ⟨rfl,B3.o.grown G4.o B3.o.size (fun g hg=>by injection hg;omega)⟩
theorem zum (w:World) (A:Option Addr) (n c:Nat):(Instr.typeAssert (.iface 33 (.slice A n c)) 20 33 false).run prog w = .ok (.slice A n c) w:=by kernel_rfl
theorem zw5 (w:World) (p:AtP) (hl:p.ob.length=16) (A:Option Addr) (n c:Nat) (l:List TnP):Calls prog 163 #[.agg (attC p),.int .i64 22,.iface 33 (.slice A n c)] w fun e w'=>e = .returned (.agg (attC ({ p with tA:=A,tn:=n,tc:=c,tl:=l }:AtP)))∧Below w.heap.size w w':=by
 have qa:=fun (x:World)=>zum x A n c
 have N1:Hid (Blk ((w.alloc (.cells (attC p) 35)).alloc (.cells zAtt 35)) w.heap.size 35 (attC p)):=hD ((Blk.new w _ _).alloc _)
 have M1:Hid (Blk ((w.alloc (.cells (attC p) 35)).alloc (.cells zAtt 35)) (w.heap.size+1) 35 zAtt):=hD (by have h:=Blk.new (w.alloc (.cells (attC p) 35)) 35 zAtt;rw [show (w.alloc (.cells (attC p) 35)).heap.size=w.heap.size+1 by simp] at h;exact h)
 have B1:Hid (Below w.heap.size w ((w.alloc (.cells (attC p) 35)).alloc (.cells zAtt 35))):=hD (((Below.refl _ _).alloc lr _).alloc (by simp) _)
 go_enter func163,ntmps163
 go_wp2_with (refine zbq rfl 33 (.tmp 47) (.tmp 46) rfl w.heap.size 23 rfl (.slice A n c) rfl (cs':=attC ({ p with tA:=A,tn:=n,tc:=c,tl:=l }:AtP)) N1.o (by rw [zbT hl];decide) (by kernel_rfl) rfl rfl (zjC hl 2 (by decide) _) ?_;intro w3 hb3 hg3;have N3:=hD hb3;have G3:=hD hg3;clear hb3 hg3;refine Hid.o ?_)
 refine hD ?_
 have M3:=hD (M1.o.grown G3.o (fun e=>by injection e;omega))
 have B3:=hD (B1.o.grown G3.o B1.o.size (fun g hg=>by injection hg;omega))
 have RN:=hD (zah (l:=attL ({ p with tA:=A,tn:=n,tc:=c,tl:=l }:AtP)) N3.o)
 clear N1 M1 B1 qa
 go_wp2_with (first
  | ((with_reducible refine zaO ?_ (.tmp 3) rfl w.heap.size 0 rfl RN.o hl ?_);· rfl)
  | (refine zaT rfl (.tmp 6) (.tmp 48) rfl (w.heap.size+1) rfl ({ p with tA:=A,tn:=n,tc:=c,tl:=l }:AtP) rfl hl M3.o rfl ?_;intro w4 hb4 hg4;have N4:=hD hb4;have G4:=hD hg4;clear hb4 hg4;refine Hid.o ?_))
 refine hD ?_
 go_wp2
 refine zdx (q:=6) rfl rfl N4.o hl rfl ?_
 exact ⟨rfl,B3.o.grown G4.o B3.o.size (fun g hg=>by injection hg;omega)⟩
end
section
open Go.RowKit Go.ChangeShapes Go.WideShapes Go.ChangeAt
theorem zka {H:Type} {enc:TypeId × Value→H} {P:Program} {w:World} {base:Nat} {sp:Nat→Bool} {held:Bool} {fuel:Nat} {t e:TypeId} {f0 f1:Field} {n:Nat} {cs:List Value} {ls:List (Int × Int)} {p:List MemPlace}
  (ht:P.underlying t=some (.array n e)) (he:P.underlying e=some (.struct #[f0,f1])) (hce:P.cellsOf e=2) (hct:P.cellsOf t=n*2) (o0:f0.offset=0) (o1:f1.offset=1) (c0:P.cellsOf f0.type=1) (c1:P.cellsOf f1.type=1)
  (t0:P.underlying f0.type=some (.int .i64)) (t1:P.underlying f1.type=some (.int .i64))
  (h:DataW.trod enc P w base sp held fuel t cs=some (.agg (ls.map fun x=>.agg [.lit (.int .i64 x.1),.lit (.int .i64 x.2)]),p)):∀ i x,ls[i]?=some x→i<n→(cs.drop (i*2)).take 2=[.int .i64 x.1,.int .i64 x.2]:=by
 cases fuel with
 | zero=>simp [DataW.trod] at h
 | succ fuel =>
  simp only [DataW.trod,ht,hce,hct] at h
  split at h
  ·obtain ⟨xs,hm,hx⟩:=Option.map_eq_some_iff.1 h
   have hxs:xs.map (·.1)=ls.map fun x=>(DataW.agg [.lit (.int .i64 x.1),.lit (.int .i64 x.2)]:DataW H):=by
    have:=congrArg Prod.fst hx
    simpa using this
   intro i x hl hi
   obtain ⟨y,hy,hf⟩:=Lib.mapM_at hm i i (by simp [hi])
   have h2:(xs.map (·.1))[i]?=some y.1:=by simp [hy]
   rw [hxs] at h2
   simp only [List.getElem?_map,hl,Option.map_some,Option.some.injEq] at h2
   obtain ⟨y0,y1,m,hyy,hlen,g0,g1⟩:=trod_struct2 he hf
   rw [hyy] at h2
   simp only [DataW.agg.injEq,List.cons.injEq,and_true] at h2
   rw [hce] at hlen
   match hq:(cs.drop (i*2)).take 2,hlen with
   | [v0,v1],_ =>
    rw [hq] at g0 g1
    simp [o0,o1,c0,c1] at g0 g1
    obtain ⟨q0,e0,x0,_⟩:=DataW.trod_int t0 g0
    obtain ⟨q1,e1,x1,_⟩:=DataW.trod_int t1 g1
    simp at e0 e1
    rw [x0,x1] at h2
    simp at h2
    rw [e0,e1,h2.1,h2.2]
  ·cases h
def zoo:List (Int × Int):=[(1,64),(2,64),(4,128),(5,64),(9,128),(10,128),(16,192),(22,192)]
def knData {H:Type}:DataW H:=.agg (zoo.map fun x=>.agg [.lit (.int .i64 x.1),.lit (.int .i64 x.2)])
noncomputable def zwx (l:List Value):Obj→Obj
 | .cells _ t frozen=>.cells l.toArray t frozen
 | o=>o
instance:Inhabited RawP:=⟨⟨0,0,none,0,0,[]⟩⟩
end
section
open Go.RowKit
def tz64:List Int:=[0,1,56,2,57,49,28,3,61,58,42,50,38,29,17,4,62,47,59,36,45,43,51,22,53,39,33,30,24,18,12,5,63,55,48,27,60,41,37,16,46,35,44,21,52,32,23,11,54,26,40,15,34,20,31,10,25,14,19,9,13,8,7,6]
def Glob (w:World):Prop :=
 Lib.TabIs prog w "internal/strconv.uint64pow10" .u64 Lib.pow10Tab∧Lib.TabIs prog w "math/bits.deBruijn64tab" .u8 tz64∧∃ m,w.cell? ⟨0,0,none⟩=some (.int .i64 m)
theorem Glob.below {w w':World} (h:Glob w) (hb:Below w.heap.size w w'):Glob w':=by
 obtain ⟨h1,h2,m,h3⟩:=h
 refine ⟨Lib.tabBelow_of_tabIs h1 _ hb,Lib.tabBelow_of_tabIs h2 _ hb,m,?_⟩
 rw [hb.cell (p:=⟨0,0,none⟩) (World.block_lt_of_cell? _ _ h3)]
 exact h3
open Go.RowKit
open Go.RowKit
def AtI (w:World) (lo hi:Nat) (A:Option Addr) (n:Nat) (xs:List Nat):Prop :=
 xs.length=n∧(0<n→∃ b o,A=some ⟨b,o,none⟩∧lo≤b∧b<hi∧∀ j (x:Nat),xs[j]?=some x→w.cell? ⟨b,o+j,none⟩=some (.int .i64 (x:Int)))
section
variable {w w':World} {lo hi n:Nat} {A:Option Addr} {xs:List Nat}
theorem AtI.keep (h:AtI w lo hi A n xs) (hk:∀ p:Addr,lo≤p.block→p.block<hi→w'.cell? p=w.cell? p):AtI w' lo hi A n xs :=
 ⟨h.1,fun hn=>by
  obtain ⟨b,o,e,h1,h2,hc⟩:=h.2 hn
  exact ⟨b,o,e,h1,h2,fun j u hu=>(hk _ h1 h2).trans (hc j u hu)⟩⟩
theorem AtI.below {B:Nat} (h:AtI w lo hi A n xs) (hb:Below B w w') (hB:hi≤B):AtI w' lo hi A n xs:=h.keep fun _ _ hp=>hb.cell (by omega)
theorem AtI.at_ {k:Nat} (h:AtI w lo hi A n xs) (hk:k<n):∃ b o x,A=some ⟨b,o,none⟩∧xs[k]?=some x∧w.cell? ⟨b,o+k,none⟩=some (.int .i64 (x:Int)):=by
 obtain ⟨b,o,e,_,_,hc⟩:=h.2 (by omega)
 have hl:k<xs.length:=by rw [h.1];exact hk
 exact ⟨b,o,xs[k],e,List.getElem?_eq_getElem hl,hc k _ (List.getElem?_eq_getElem hl)⟩
end
end
section
open Go.RowKit
open Go.RowKit
def Since (w x:World):Prop:=Below w.heap.size w x
theorem Since.size {w x:World} (h:Since w x):w.heap.size≤x.heap.size:=Below.size h
open Go.RowKit
open Go.RowKit
theorem AtI.grown {w w':World} {lo hi n:Nat} {A:Option Addr} {xs:List Nat} {row:Option Nat} (h:AtI w lo hi A n xs) (hg:w.grownBy w' row) (hB:hi≤w.heap.size) (hr:∀ g,row=some g→hi≤g):AtI w' lo hi A n xs :=
 h.keep fun p h1 h2=>World.cell?_of_block (hg.block p.block (by omega) (fun e=>by have:=hr _ e.symm;omega))
open Go.RowKit
open Go.RowKit
theorem AtI.alloc {w:World} {lo hi n:Nat} {A:Option Addr} {xs:List Nat} (h:AtI w lo hi A n xs) (hB:hi≤w.heap.size) (o:Obj):AtI (w.alloc o) lo hi A n xs:=h.keep fun p _ hp=>World.cell?_alloc_lt w o p (by omega)
end
section
theorem zuc {l:List UInt8} {k:Nat} (h:l.length=k):be k (big l)=l:=by subst h;exact be_big l
open Go.RowKit
theorem zjF {ops:Array Oper} {rest:List Oper} {o:Oper} {a:Act} {w:World} {Q:Exit→Act→World→Prop} (hgd:o.guard=none) (x:Operand) (ho:o.op = .load 184 x)
  (g:Nat) (hx:a.eval x = .pointer (some ⟨g,0,none⟩)) {t:TypeId} {bs:List UInt8} (h:Blk w g t (rdC bs)) (hl:bs.length=8)
  (hk:wpList prog ops Q rest (a.put o.dst (.agg (rdC bs))) w):wpList prog ops Q (o::rest) a w :=
 wpList_load_row hgd 184 x ho g hx t (rdC bs) (0,0) _ h underlying184 rfl (by rw [zfB hl];kernel_rfl) hk
section
variable {ops:Array Oper} {rest:List Oper} {o:Oper} {a:Act} {w:World} {Q:Exit→Act→World→Prop}
end
open Go.RowKit
open Go.RowKit
open Go.RowKit
open Go.RowKit
open Go.RowKit
end
end Go.Proofs.YtplpglfjcieloaaGreatDoor
