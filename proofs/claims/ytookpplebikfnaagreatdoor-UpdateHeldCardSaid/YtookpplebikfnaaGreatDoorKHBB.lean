/-
  What Take of package uroute does, in whatever memory. No condition beyond sizes that fit memory.
  What Row and ReadRow of package uroute do, in whatever memory. No condition beyond sizes that fit memory.
-/
import Derived.Test.YtookpplebikfnaaGreatDoorKHBA
set_option linter.unusedVariables false
set_option linter.unusedSimpArgs false
namespace Go.Proofs.YtookpplebikfnaaGreatDoor
section
set_option maxRecDepth 20000
open Go.RowKit
theorem zvz (w:World) (lo hi:Nat) (A:Option Addr) (n c:Nat) (b:List UInt8) (k:Int) (h:At w lo hi A n b) (hh:hi≤w.heap.size) (hn:n≤1000) (hz:k=4∨k=16) :
  Calls Tryz.prog 179 #[.slice A n c,.int .i64 k] w fun e w'=>e = .returned (.agg (uroC (rdU b k)))∧Below w.heap.size w w':=by
 rcases hz with rfl | rfl
 ·exact zlj w lo hi A n c b 4 h hh hn (.inl rfl)
 ·exact zlj w lo hi A n c b 16 h hh hn (.inr rfl)
def zdc (w:World) (b:List UInt8) (k:Int) (e:Ending) (w':World):Prop :=
 e = .returned (.tuple #[.agg (uroC (zbZ b k)),.int .i64 (zbc b k:Nat),.int .i64 (zbj b k)])∧Below w.heap.size w w'
theorem zwE (w:World) (lo hi lo' hi' n m c d:Nat) (A B:Option Addr) (xs ys:List UInt8) (ha:At w lo hi A n xs) (hb:At w lo' hi' B m ys) :
  Calls Tryz.prog 94 #[.slice A n c,.slice B m d] w fun e w'=>e = .returned (.bool (decide (xs=ys)))∧w=w':=zcS w lo hi lo' hi' n m c d A B xs ys ha hb
section
variable (w:World) (lo hi:Nat) (A:Option Addr) (n c:Nat) (b:List UInt8) (k:Int)
set_option maxHeartbeats 1000000 in
theorem zoD (h:At w lo hi A n b) (hz:¬ (k=4∨k=16)):Calls Tryz.prog 166 #[.slice A n c,.int .i64 k] w (zdc w b k):=by
 obtain ⟨h1,h2,h3⟩:=zoP (b:=b) hz
 unfold zdc
 rw [h1,h2,h3]
 have RES:Hid (Blk (w.alloc (.cells zUro 130)) w.heap.size 130 (uroC zeq)):=hide (by rw [zgi];exact Blk.new w _ _)
 have W0:=hide ((Below.refl w.heap.size w).alloc (Nat.le_refl _) (.cells zUro 130))
 have n4:(k != 4)=true:=bne_iff_ne.2 (fun e=>hz (.inl e))
 have n16:(k != 16)=true:=bne_iff_ne.2 (fun e=>hz (.inr e))
 clear h hz h1 h2 h3
 go_enter Tryz.func166,Tryz.ntmps166
 go_wp2_with (with_reducible refine zbM rfl rfl ?_;refine Hid.out ?_)
 refine hide ?_
 generalize hw0:w.alloc (.cells zUro 130)=w0 at RES W0 ⊢
 clear hw0
 go_wp2_with ((refine zaP rfl (.tmp 4) (.tmp 16) rfl w.heap.size rfl (u:=zeq) rfl zce RES.out (zcG zce) ?_;intro w9 hb9 hg9;have M9:=hide hb9;have HG9:=hide hg9;clear hb9 hg9;refine Hid.out ?_))
 refine hide ?_
 go_wp2
 refine zft (p:=4) (q:=5) (r:=6) (v:=.int .i64 0) (u:=.int .i64 1) rfl rfl rfl rfl M9.out zce rfl ?_
 exact ⟨rfl,W0.out.grown HG9.out W0.out.size (by simp)⟩
set_option maxHeartbeats 2000000 in
theorem zms (h:At w lo hi A n b) (hh:hi≤w.heap.size) (hnn:n≤10000000000000) (hz:k=4∨k=16) (hs:b.length<lenU b):Calls Tryz.prog 166 #[.slice A n c,.int .i64 k] w (zdc w b k):=by
 have hz0:=hz
 rcases hz0 with rfl | rfl
 all_goals
  obtain ⟨h1,h2,h3⟩:=zmB hz hs
  unfold zdc
  rw [h1,h2,h3]
  have RES:Hid (Blk (w.alloc (.cells zUro 130)) w.heap.size 130 (uroC zeq)):=hide (by rw [zgi];exact Blk.new w _ _)
  have W0:=hide ((Below.refl w.heap.size w).alloc (Nat.le_refl _) (.cells zUro 130))
  have HA:=hide (h.alloc hh (.cells zUro 130))
  have hn:=h.len
  clear h hz h1 h2 h3
  rcases Nat.lt_or_ge n 1 with hlt | hge
  ·have hlt2:(n:Int)<1:=by omega
   clear hs hn HA
   go_enter Tryz.func166,Tryz.ntmps166
   go_wp2_with (with_reducible refine zbM rfl rfl ?_;refine Hid.out ?_)
   refine hide ?_
   generalize hw0:w.alloc (.cells zUro 130)=w0 at RES W0 ⊢
   clear hw0
   go_wp2_with ((refine zaP rfl (.tmp 4) (.tmp 31) rfl w.heap.size rfl (u:=zeq) rfl zce RES.out (zcG zce) ?_;intro w9 hb9 hg9;have M9:=hide hb9;have HG9:=hide hg9;clear hb9 hg9;refine Hid.out ?_))
   refine hide ?_
   go_wp2
   refine zft (p:=4) (q:=5) (r:=6) (v:=.int .i64 0) (u:=.int .i64 3) rfl rfl rfl rfl M9.out zce rfl ?_
   exact ⟨rfl,W0.out.grown HG9.out W0.out.size (by simp)⟩
  ·obtain ⟨bb,oo,x,rfl,hx,hcx⟩:=HA.out.at_ (show 0<n by omega)
   rw [Nat.add_zero] at hcx
   have hgx:lenU b=1+(x.toNat+7)/8:=by unfold lenU nU;rw [List.getD_eq_getElem?_getD,hx];rfl
   rw [hgx,hn] at hs
   have hx2:=x.toNat_lt
   obtain ⟨q,hq⟩:∃ q,(x.toNat+7)/8=q:=⟨_,rfl⟩
   rw [hq] at hs
   have HQ:=hide hq
   have hlt:(n:Int)-1<(q:Int):=by omega
   have hge2:¬ ((n:Int)<1):=by omega
   clear hs hn hgx hx HA hq
   go_enter Tryz.func166,Tryz.ntmps166
   go_wp2_with fail
   generalize hw0:w.alloc (.cells zUro 130)=w0 at RES W0 hcx ⊢
   clear hw0
   refine (zgk w0 x.toNat (by omega)).mono ?_
   rw [HQ.out]
   rintro e w1 ⟨rfl,rfl⟩
   go_wp2_with (with_reducible refine zbM rfl rfl ?_;refine Hid.out ?_)
   refine hide ?_
   go_wp2_with ((refine zaP rfl (.tmp 4) (.tmp 31) rfl w.heap.size rfl (u:=zeq) rfl zce RES.out (zcG zce) ?_;intro w9 hb9 hg9;have M9:=hide hb9;have HG9:=hide hg9;clear hb9 hg9;refine Hid.out ?_))
   refine hide ?_
   go_wp2
   refine zft (p:=4) (q:=5) (r:=6) (v:=.int .i64 0) (u:=.int .i64 3) rfl rfl rfl rfl M9.out zce rfl ?_
   exact ⟨rfl,W0.out.grown HG9.out W0.out.size (by simp)⟩
set_option maxHeartbeats 4000000 in
theorem zoE (h:At w lo hi A n b) (hh:hi≤w.heap.size) (hc:n≤c) (hnn:n≤10000000000000) (hz:k=4∨k=16) (hs:lenU b≤b.length):Calls Tryz.prog 166 #[.slice A n c,.int .i64 k] w (zdc w b k):=by
 obtain ⟨p1,p2,p3⟩:=zoQ hz hs
 have X:=hide (rdU_W (b:=b.take (lenU b)) hz)
 have hn:=h.len
 obtain ⟨cb,hcb⟩:∃ cb,b.take (lenU b)=cb:=⟨_,rfl⟩
 rw [hcb] at p1 p2 p3 X
 obtain ⟨r,hr⟩:∃ r,rdU cb k=r:=⟨_,rfl⟩
 have hok:okU cb k=(zbH r&&decide (za9 r=cb)):=by unfold okU;rw [hr]
 have HRD:Hid (∀ (x:World) (B:Option Addr) (m:Nat),At x lo hi B m cb→hi≤x.heap.size→m≤1000→Calls Tryz.prog 179 #[.slice B m c,.int .i64 k] x fun e w'=>e = .returned (.agg (uroC r))∧Below x.heap.size x w'):=hide (fun x B m h1 h2 h3=>by
  rw [← hr]
  exact zvz x lo hi B m c cb k h1 h2 h3 hz)
 rw [hr] at p2 X
 rw [hok] at p1 p2 p3
 have HP1:=hide p1
 have HP2:=hide p2
 have HP3:=hide p3
 have RES:Hid (Blk (w.alloc (.cells zUro 130)) w.heap.size 130 (uroC zeq)):=hide (by rw [zgi];exact Blk.new w _ _)
 have W0:=hide ((Below.refl w.heap.size w).alloc (Nat.le_refl _) (.cells zUro 130))
 have HA:=hide (h.alloc hh (.cells zUro 130))
 have hh0:hi≤(w.alloc (.cells zUro 130)).heap.size:=Nat.le_trans hh W0.out.size
 have hl33:=zwr b
 have hl1:1≤lenU b:=by unfold lenU;omega
 obtain ⟨bb,oo,x,rfl,hx,hcx⟩:=HA.out.at_ (show 0<n by omega)
 rw [Nat.add_zero] at hcx
 have hgx:lenU b=1+(x.toNat+7)/8:=by unfold lenU nU;rw [List.getD_eq_getElem?_getD,hx];rfl
 have hx2:=x.toNat_lt
 obtain ⟨q,hq⟩:∃ q,(x.toNat+7)/8=q:=⟨_,rfl⟩
 rw [hq] at hgx
 have HQ:=hide hq
 have HL:=hide hgx
 have AC:=hide (HA.out.head (show lenU b≤n by omega))
 rw [hcb,HL.out] at AC
 have hlt:¬ ((n:Int)-1<(q:Int)):=by omega
 have hge2:¬ ((n:Int)<1):=by omega
 have hqc:((1:Int)+(q:Int)).toNat=1+q:=by omega
 have hq1:q≤32:=by omega
 have hqn:1+q≤n:=by omega
 have HZ:=hide hz
 clear h hz hs hn hx HA hq hgx hcb p1 p2 p3 hl1 hl33 hr hok
 rcases HZ.out with rfl | rfl
 all_goals
  clear HZ
  go_enter Tryz.func166,Tryz.ntmps166
  go_wp2_with fail
  generalize hw0:w.alloc (.cells zUro 130)=w0 at RES W0 hcx hh0 AC ⊢
  clear hw0
  refine (zgk w0 x.toNat (by omega)).mono ?_
  rw [HQ.out]
  rintro e w1 ⟨rfl,rfl⟩
  go_wp2_with fail
  refine (zgk w0 x.toNat (by omega)).mono ?_
  rw [HQ.out]
  rintro e w1 ⟨rfl,rfl⟩
  clear hcx
  go_wp2_with fail
  refine (HRD.out w0 _ _ AC.out hh0 (by omega)).mono ?_
  rintro e w2 ⟨rfl,hb2⟩
  have RES2:=hide (RES.out.over hb2)
  have W2:=hide (zaa W0.out hb2 (Nat.le_refl _))
  have AC2:=hide (AC.out.below (hb2.mono hh0))
  have hh2:=Nat.le_trans hh0 hb2.size
  have NEW:=hide (Blk.new w2 130 zUro)
  clear hb2 RES W0 AC
  go_wp2_with (refine zaP rfl (.tmp 7) (.tmp 42) rfl w2.heap.size rfl (u:=r) rfl X.out NEW.out rfl ?_;intro w3 hb3 hg3;have M3:=hide hb3;have W23:Hid (Below w2.heap.size w2 w3):=hide (((Below.refl _ _).alloc (Nat.le_refl _) _).grown hg3 (by simp) (by simp));clear hb3 hg3;refine Hid.out ?_)
  refine hide ?_
  clear NEW
  have RES3:=hide (RES2.out.over W23.out)
  have W3:=hide (zaa W2.out W23.out (Nat.le_refl _))
  have AC3:=hide (AC2.out.below (W23.out.mono hh2))
  have hh3:=Nat.le_trans hh2 W23.out.size
  clear RES2 W2 AC2 hh2 W23
  generalize w2.heap.size=g7 at *
  go_wp2_with (with_reducible refine zbE rfl (.tmp 7) rfl g7 rfl M3.out X.out ?_)
  refine (zjK w3 r X.out).mono ?_
  rintro e w4 ⟨v4,rfl,ho4,hb4⟩
  obtain ⟨A4,c4,rfl,_,_⟩:=zac ho4
  have OA:=hide (At.own ho4)
  have RES4:=hide (RES3.out.over hb4)
  have W4:=hide (zaa W3.out hb4 (Nat.le_refl _))
  have AC4:=hide (AC3.out.below (hb4.mono hh3))
  have M4:=hide (M3.out.over hb4)
  clear ho4 hb4 RES3 W3 AC3 M3
  have hoE:Hid (errU r=if zbH r=true then 0 else 1):=hide rfl
  have hoB:Hid (zfP r=if zbH r=true then za9 r else []):=hide rfl
  generalize errU r=er at *
  generalize zfP r=ob at *
  cases c1:zbH r
  ·have HF:Hid ((zbH r&&decide (za9 r=cb))=false):=hide (by rw [c1];rfl)
   obtain rfl:er=1:=by rw [hoE.out,c1];rfl
   clear c1
   go_wp2_with (with_reducible refine zbM rfl rfl ?_;refine Hid.out ?_)
   refine hide ?_
   go_wp2_with ((refine zaP rfl (.tmp 4) (.tmp 56) rfl w.heap.size rfl (u:=zeq) rfl zce RES4.out (zcG zce) ?_;intro w9 hb9 hg9;have M9:=hide hb9;have HG9:=hide hg9;clear hb9 hg9;refine Hid.out ?_))
   refine hide ?_
   go_wp2
   refine zft (p:=4) (q:=5) (r:=6) (v:=.int .i64 0) (u:=.int .i64 4) rfl rfl rfl rfl M9.out zce rfl ?_
   unfold zdc
   rw [HP1.out,HP2.out,HP3.out,HF.out,if_neg (by decide),if_neg (by decide),if_neg (by decide)]
   exact ⟨rfl,W4.out.grown HG9.out W4.out.size (by simp)⟩
  ·obtain rfl:er=0:=by rw [hoE.out,c1];rfl
   obtain rfl:ob=za9 r:=by rw [hoB.out,c1];rfl
   clear hoE hoB
   go_wp2_with fail
   refine (zwE w4 _ _ _ _ _ _ c4 c A4 _ _ _ OA.out AC4.out).mono ?_
   rintro e w5 ⟨rfl,rfl⟩
   cases c2:decide (za9 r=cb)
   ·have HF:Hid ((zbH r&&decide (za9 r=cb))=false):=hide (by rw [c2];simp)
    clear c1 c2
    go_wp2_with (with_reducible refine zbM rfl rfl ?_;refine Hid.out ?_)
    refine hide ?_
    go_wp2_with ((refine zaP rfl (.tmp 4) (.tmp 56) rfl w.heap.size rfl (u:=zeq) rfl zce RES4.out (zcG zce) ?_;intro w9 hb9 hg9;have M9:=hide hb9;have HG9:=hide hg9;clear hb9 hg9;refine Hid.out ?_))
    refine hide ?_
    go_wp2
    refine zft (p:=4) (q:=5) (r:=6) (v:=.int .i64 0) (u:=.int .i64 4) rfl rfl rfl rfl M9.out zce rfl ?_
    unfold zdc
    rw [HP1.out,HP2.out,HP3.out,HF.out,if_neg (by decide),if_neg (by decide),if_neg (by decide)]
    exact ⟨rfl,W4.out.grown HG9.out W4.out.size (by simp)⟩
   ·have HF:Hid ((zbH r&&decide (za9 r=cb))=true):=hide (by rw [c1,c2];rfl)
    clear c1 c2
    go_wp2_with (with_reducible refine zbE rfl (.tmp 7) rfl g7 rfl M4.out X.out ?_;refine Hid.out ?_)
    refine hide ?_
    go_wp2_with ((refine zaP rfl (.tmp 4) (.tmp 57) rfl w.heap.size rfl (u:=r) rfl X.out RES4.out (zcG zce) ?_;intro w9 hb9 hg9;have M9:=hide hb9;have HG9:=hide hg9;clear hb9 hg9;refine Hid.out ?_))
    refine hide ?_
    go_wp2
    refine zft (p:=4) (q:=5) (r:=6) (v:=.int .i64 ((1+q:Nat):Int)) (u:=.int .i64 0) rfl rfl (by first | rfl | simp) rfl M9.out X.out rfl ?_
    unfold zdc
    rw [HP1.out,HP2.out,HP3.out,HF.out,if_pos rfl,if_pos rfl,if_pos rfl,HL.out]
    exact ⟨rfl,W4.out.grown HG9.out W4.out.size (by simp)⟩
theorem zlf (h:At w lo hi A n b) (hh:hi≤w.heap.size) (hc:n≤c) (hnn:n≤10000000000000):Calls Tryz.prog 166 #[.slice A n c,.int .i64 k] w (zdc w b k):=by
 by_cases hz:k=4∨k=16
 ·rcases Nat.lt_or_ge b.length (lenU b) with hs | hs
  ·exact zms w lo hi A n c b k h hh hnn hz hs
  ·exact zoE w lo hi A n c b k h hh hc hnn hz hs
 ·exact zoD w lo hi A n c b k h hz
end
end
section
set_option maxRecDepth 20000
set_option maxHeartbeats 1000000
open Go.RowKit
theorem ztg:(Tryz.prog.info? 130).map (fun i=>(i.zero.map (·.cells.size),i.size,i.bytes))=some (some 27,27,48):=by kernel_rfl
theorem zqr:∃ (i:TypeInfo) (z:Value),Tryz.prog.info? 130=some i∧i.zero=some z∧i.size=27∧i.bytes=48∧z.cells.size=27:=by
 have h:=ztg
 cases hq:Tryz.prog.info? 130 with
 | none=>rw [hq] at h;cases h
 | some i =>
  rw [hq] at h
  simp only [Option.map_some,Option.some.injEq,Prod.mk.injEq] at h
  cases hz:i.zero with
  | none=>rw [hz] at h;simp at h
  | some z =>
   rw [hz] at h
   simp at h
   exact ⟨i,z,rfl,hz,h.2.1,h.2.2,h.1⟩
theorem zs7:∃ z:Value,z.cells.size=27∧∀ w,(zeroValue 130).run Tryz.prog w = .ok z w:=⟨_,by kernel_rfl,Tryz.zeroValue130⟩
theorem zi3 {o:Oper} {a:Act} (w:World) (x:Operand) (ho:o.op = .buildSlice 51 1 #[(0,x)]) {m:Ur} (ex:a.eval x = .agg (uroC m)) (hm:m.W) :
  (execOp a.eval o).run Tryz.prog w = .ok (.value (.slice (some ⟨w.heap.size,0,none⟩) 1 1)) (w.alloc (.cells (uroC m) 130)):=by
 obtain ⟨z,hz,hz2⟩:=zs7
 have h:=zbN (P:=Tryz.prog) w 51 130 (uroC m) z Tryz.underlying51 (fun w=>Tryz.sizeOf130 w) hz2 hz (zcG hm) (by decide) (by decide)
 unfold execOp
 simp only [ho,List.map_toArray,List.map_cons,List.map_nil,ex,Sem.run_bind,h,Result.andThen_ok,Sem.run_pure]
theorem ziu (w:World) (base:Nat) (ty:TypeId) (v:Value) (n:Nat) (xs:List Ur) (hown:w.ownsRow base 130 27 v n (za4 uroL xs)) (lo hi':Nat) (A:Option Addr) (m c:Nat) (news:List Ur) (hr:AtG uroL w lo hi' A m news)
  (hs:∀ y∈news,y.W) (hb:n+m≤1000000000000) (hbase:base≤w.heap.size) :
  ∃ v' w',(Builtin.append_ #[51,51] ty #[v,.slice A m c]).run Tryz.prog w = .ok v' w'∧w'.ownsRow base 130 27 v' (n+m) (za4 uroL (xs++news))∧w.grownBy w' v.ownBlock∧(v'.ownBlock=v.ownBlock∨v'.ownBlock=some w.heap.size):=by
 obtain ⟨i,z,hi,hz,h1,h2,h3⟩:=zqr
 exact zcn (P:=Tryz.prog) w base 51 ty 130 i z 48 Tryz.underlying51 hi hz h1 h2 h3 (by decide) v n xs hown lo hi' A m c news hr (fun y hy=>zdX (hs y hy)) (fun y hy=>znH) (by omega) (by unfold maxLen;omega) hbase
theorem zoS {k:Int} (hz:k=4∨k=16):zbj [] k=3:=by
 unfold zbj
 rw [if_pos hz,if_pos (by decide)]
theorem zlu (b:List UInt8) (k:Int):(zbZ b k).W:=znP
theorem zjg {b:List UInt8} {k:Int} (hz:¬ (k=4∨k=16)):zbj b k=1:=by
 unfold zbj
 rw [if_neg hz]
def zoz (w:World) (l:List Ur) (e:Ending) (w':World):Prop :=
 ∃ v,e = .returned (.tuple #[v,.int .i64 (zlD l)])∧w'.ownsRow w.heap.size 5 1 v (zew l).length (bvs (zew l))∧Below w.heap.size w w'
set_option maxHeartbeats 3000000 in
theorem zoC (w:World) (lo hi:Nat) (A:Option Addr) (n c:Nat) (l:List Ur) (h:AtG uroL w lo hi A n l) (hh:hi≤w.heap.size) (hw:∀ m∈l,m.W)  (hn:n≤3000000000000)  :
  Calls Tryz.prog 121 #[.slice A n c,.func (.func 122) #[] #[]] w (zoz w l):=by
 obtain ⟨i0,hi0,hz0,hz1,hz2⟩:=info_parts zbz
 have H:=hide h
 have HXL:=hide h.len
 have HW:=hide hw
 have HSZ:=hide (fun m hm=>zdX (hw m hm))
 clear h hw
 go_enter Tryz.func121,Tryz.ntmps121
 go_wp2_with fail
 go_loopw [6,13] (fun v i wr=>∃ (k c3:Nat) (B:Option Addr),k≤n∧v = .slice B (rowU (l.take k)).length c3∧i = .int .i64 k∧wr.ownsRow w.heap.size 5 1 (.slice B (rowU (l.take k)).length c3) (rowU (l.take k)).length (bvs (rowU (l.take k)))∧zdR l k∧Below w.heap.size w wr) (fun _ i _=>n-(intOf i).toNat)
 case atStart=>exact ⟨0,0,none,Nat.zero_le _,rfl,rfl,World.ownsRow_nil _ _ _ _,fun m hm=>by simp at hm,Below.refl _ _⟩
 case round =>
  obtain ⟨k,c3,B,hk,rfl,rfl,hown,hrt,hbel⟩:=hrel
  have HO:=hide hown
  have WB:=hide hbel
  have HRT:=hide hrt
  clear hown hbel hrt
  by_cases hlt:k<n
  ·have Yr:=hide (H.out.keep (w':=wr) fun p _ hp=>WB.out.cell (p:=p) (by omega))
   obtain ⟨b,o,x,rfl,hb1,hb2,hx,hat⟩:=Yr.out.at_ HSZ.out hlt
   have hmem:=List.mem_of_getElem? hx
   have XW:=hide (HW.out x hmem)
   have HX:=hide hx
   have HAT:=hide hat
   have HLEN:=hide (zvW HW.out HRT.out (by rw [HXL.out];exact hk))
   have NEW:=hide (Blk.new wr 130 zUro)
   clear hx hat hmem
   generalize hR:rowU (l.take k)=R at *
   have HRR:=hide hR
   clear hR
   go_wp2_with (first
    | ((with_reducible refine zdT ?_ (.tmp 15) rfl b (o+k*27) rfl HAT.out XW.out ?_);· rfl)
    | (refine zaP rfl (.tmp 8) (.tmp 16) rfl wr.heap.size rfl (u:=x) rfl XW.out NEW.out rfl ?_;intro w2 hb2 hg2;have B2:=hide hb2;have W2:Hid (Below wr.heap.size wr w2):=hide (((Below.refl _ _).alloc (Nat.le_refl _) _).grown hg2 (by simp) (by simp));clear hb2 hg2;refine Hid.out ?_))
   refine hide ?_
   have HO2:=hide (zaR HO.out W2.out)
   have WB2:=hide (zaa WB.out W2.out (Nat.le_refl _))
   clear NEW
   go_wp2_with (with_reducible refine zbE rfl (.tmp 8) rfl wr.heap.size rfl B2.out XW.out ?_)
   refine (zjK w2 x XW.out).mono ?_
   rintro e w3 ⟨v3,rfl,ho3,hb3⟩
   obtain ⟨A3,c4,rfl,_,_⟩:=zac ho3
   have AT3:=hide (At.own ho3)
   have HO3:=hide (zaR HO2.out hb3)
   have WB3:=hide (zaa WB2.out hb3 (Nat.le_refl _))
   clear ho3 hb3 HO2 WB2 HO WB
   have hoE:Hid (errU x=if zbH x=true then 0 else 1):=hide rfl
   have hoB:Hid (zfP x=if zbH x=true then za9 x else []):=hide rfl
   generalize errU x=er at *
   generalize zfP x=ob at *
   cases hr:zbH x
   ·have HF:=hide (ztG HX.out hr)
    obtain rfl:er=1:=by rw [hoE.out,hr];rfl
    clear hr hoE hoB
    go_wp2_with fail
    go_ret2
    refine ⟨.slice none 0 0,?_,?_,WB3.out⟩
    ·rw [HF.out.2];rfl
    ·rw [HF.out.1];exact World.ownsRow_nil _ _ _ _
   ·have HS:=hide (zi5 XW.out hr)
    have HNX:=hide (HRT.out.next HX.out hr)
    have HRN:=hide (zqW HX.out)
    obtain rfl:er=0:=by rw [hoE.out,hr];rfl
    obtain rfl:ob=za9 x:=by rw [hoB.out,hr];rfl
    clear hr hoE hoB
    rw [HRR.out] at HRN
    go_wp2_with (at_builtin;go_must (refine zag _ rfl (.tmp 26) (.tmp 27) 36 rfl w.heap.size 5 i0 Tryz.underlying36 hi0 hz0 hz1 hz2 (.slice B R.length c3) R.length R rfl HO3.out _ _ A3 _ c4 (za9 x) rfl AT3.out (by have:=HLEN.out;have:=HS.out;omega) WB3.out.size ?_);intro v5 w5 hown5 hg5 hat5;rw [← List.length_append,HRN.out] at hown5;have HO5:=hide hown5;have HG5:=hide hg5;clear hown5 hg5 hat5)
    obtain ⟨A5,c5,rfl,_,_⟩:=zac HO5.out
    go_roundw
    case rel=>exact ⟨k+1,c5,A5,by omega,rfl,by go_num,HO5.out,HNX.out,WB3.out.grown HG5.out WB3.out.size (fun g hg=>(HO3.out.lt g hg).1)⟩
    case measure=>simp [intOf];omega
  ·have hkn:k=n:=by omega
   subst hkn
   have HG:=hide (ziz (HRT.out.all (by rw [HXL.out];exact Nat.le_refl _)))
   have HTK:Hid (l.take k=l):=hide (List.take_of_length_le (by rw [HXL.out];exact Nat.le_refl _))
   go_wp2
   go_ret2
   have h:=HO.out
   rw [HTK.out] at h
   refine ⟨.slice B (rowU (l.take k)).length c3,?_,?_,WB.out⟩
   ·rw [HG.out.2];rfl
   ·rw [HG.out.1,HTK.out];exact h
theorem znF (w:World) (lo hi:Nat) (A:Option Addr) (n c:Nat) (l:List Ur) (h:AtG uroL w lo hi A n l) (hh:hi≤w.heap.size) (hw:∀ m∈l,m.W)  (hn:n≤3000000000000)  :
  Calls Tryz.prog 78 #[.slice A n c] w (zoz w l):=by
 have HC:=hide (zoC w lo hi A n c l h hh hw hn)
 clear h hw
 go_enter Tryz.func78,Tryz.ntmps78
 go_wp2_with fail
 refine HC.out.mono ?_
 rintro e w1 ⟨v,rfl,ho,hb⟩
 go_wp2
 go_ret2
 exact ⟨v,rfl,ho,hb⟩
def zfn (w:World) (b:List UInt8) (k:Int) (e:Ending) (w':World):Prop :=
 ∃ v,e = .returned (.tuple #[v,.int .i64 (rrPU b k).2])∧w'.ownsRow w.heap.size 130 27 v (rrPU b k).1.length (za4 uroL (rrPU b k).1)∧Below w.heap.size w w'
set_option maxHeartbeats 3000000 in
theorem zoI (w:World) (lo hi:Nat) (A:Option Addr) (n c:Nat) (b:List UInt8) (k:Int) (h:At w lo hi A n b) (hh:hi≤w.heap.size) (hc:n≤c) (hnn:n≤1000000000) (hz:k=4∨k=16)  :
  Calls Tryz.prog 165 #[.slice A n c,.int .i64 k,.func (.func 166) #[] #[]] w (zfn w b k):=by
 have HZ:=hide hz
 have H:=hide h
 have HNL:=hide h.len
 have HP:Hid (rrPU b k=rrU k b.length b):=hide (if_pos hz)
 have HNIL:=hide (zoS hz)
 clear h hz
 go_enter Tryz.func165,Tryz.ntmps165
 go_wp2_with fail
 go_loopg [8,0] n (fun gg v t wr=>∃ (p q cc n' c':Nat) (B A':Option Addr) (l:List Ur),v = .slice B q cc∧t = .slice A' n' c'∧l.length=q∧n'+p=n∧n'≤c'∧n'≤gg∧At w lo hi A' n' (b.drop p)∧zhU k b l p∧wr.ownsRow w.heap.size 130 27 (.slice B q cc) q (za4 uroL l)∧Below w.heap.size w wr)
 case atStart=>exact ⟨0,0,0,n,c,none,A,[],rfl,rfl,rfl,rfl,hc,Nat.le_refl _,by rw [List.drop_zero];exact H.out,zhU.start k b,World.ownsRow_nil _ _ _ _,Below.refl _ _⟩
 case round =>
  obtain ⟨p,q,cc,n',c',B,A',l,rfl,rfl,hql,hnp,hnc,hgg,hat,hrows,hown,hbel⟩:=hrel
  have HO:=hide hown
  have WB:=hide hbel
  have HRW:=hide hrows
  have HAT:=hide hat
  have HQL:=hide hql
  have HNP:=hide hnp
  have hqp:=hrows.hn
  rw [hql] at hqp
  clear hown hbel hrows hat hql
  have AT1:=hide (HAT.out.keep (w':=wr) fun x _ hp=>WB.out.cell (p:=x) (by omega))
  have hh1:=Nat.le_trans hh WB.out.size
  have XW:=hide (zlu (b.drop p) k)
  have XE:Hid (n'=0→zbj (b.drop p) k=3):=hide (fun e=>by
   have h1:b.drop p=[]:=List.drop_of_length_le (by rw [HNL.out];omega)
   rw [h1];exact HNIL.out)
  have XK:Hid (zbj (b.drop p) k=0→0<zbc (b.drop p) k∧zbc (b.drop p) k≤n'∧zhU k b (l++[zbZ (b.drop p) k]) (p+zbc (b.drop p) k)):=hide (fun he=>by
   have hne:0<n':=Nat.pos_of_ne_zero (fun e=>by have:=XE.out e;omega)
   have hlt:p<b.length:=by rw [HNL.out];omega
   have h1:=(zin he).1
   rw [HAT.out.len] at h1
   have h2:=zed he
   exact ⟨by omega,h1,(HRW.out.next HZ.out hlt he).1⟩)
  have XB:=hide (fun (hne:0<n') he=>HRW.out.bad (by rw [HNL.out];omega) he)
  have hn9:n'≤10000000000000:=by omega
  clear hnp
  go_wp2_with fail
  refine (zlf wr lo hi A' n' c' (b.drop p) k AT1.out hh1 hnc hn9).mono ?_
  generalize hr:zbZ (b.drop p) k=r at *
  generalize hu:zbc (b.drop p) k=u at *
  generalize he:zbj (b.drop p) k=er at *
  have HR1:=hide hr
  have HU1:=hide hu
  have HE1:=hide he
  clear hr hu he
  rintro e w2 ⟨h1,hb2⟩
  rw [HR1.out,HU1.out,HE1.out] at h1
  subst h1
  have HO2:=hide (za8 HO.out hb2)
  have WB2:=hide (zaa WB.out hb2 (Nat.le_refl _))
  have NEW:=hide (Blk.new w2 130 zUro)
  clear hb2 HO WB AT1 hn9
  go_wp2_with (refine zaP rfl (.tmp 9) (.tmp 17) rfl w2.heap.size rfl (u:=r) rfl XW.out NEW.out rfl ?_;intro w3 hb3 hg3;have M3:=hide hb3;have W23:Hid (Below w2.heap.size w2 w3):=hide (((Below.refl _ _).alloc (Nat.le_refl _) _).grown hg3 (by simp) (by simp));clear hb3 hg3;refine Hid.out ?_)
  refine hide ?_
  clear NEW
  have HO3:=hide (za8 HO2.out W23.out)
  have WB3:=hide (zaa WB2.out W23.out (Nat.le_refl _))
  have HBK:Hid (∀ g,(Value.slice B q cc).ownBlock=some g→w.heap.size≤g∧g<w2.heap.size):=hide (fun g hg=>HO2.out.lt g hg)
  generalize w2.heap.size=q7 at *
  clear HO2 WB2 W23
  by_cases e0:er=0
  ·subst e0
   obtain ⟨hu0,hun,hnext⟩:=XK.out rfl
   have HNX:=hide hnext
   obtain ⟨A9,hA9⟩:∃ A9,(if c'=u then A' else A'.map (·.add u))=A9:=⟨_,rfl⟩
   have HA9:=hide hA9
   have HTL:Hid (At w lo hi A9 (n'-u) (b.drop (p+u))):=hide (by
    have h3:=HAT.out.tail hun hnc
    rw [List.drop_drop,HA9.out] at h3
    exact h3)
   clear hnext hA9 XK XB XE
   go_wp2_with fail
   refine wp_region_held_drew (S:=fun x=>Blk x q7 130 (uroC r)∧Below w.heap.size w x) (by kernel_rfl) ⟨M3.out.drew,zal WB3.out⟩ (fun hHeld=>?_)
   refine rgT 0 ?_
   refine rgV 1 (.agg (uroC r)) ?_ ?_
   ·(intro w' hSw;exact zgH (.tmp 9) rfl q7 rfl hSw.1 XW.out)
   refine rgT 4 ?_
   refine rgT 5 ?_
   refine rgV 6 (.slice A9 (n'-u) (c'-u)) ?_ ?_
   ·(intro w' hSw;exact (zfe w' (.tmp 35) (.tmp 36) 36 5 rfl Tryz.underlying36 (fun w=>Tryz.sizeOf5 w) (k:=u) rfl rfl hun).trans (by rw [HA9.out]))
   have HW2:Hid (Below w3.heap.size w3 (w3.drew.alloc (.cells (uroC r) 130))):=hide ((zal (Below.refl _ _)).alloc (Nat.le_refl _) _)
   obtain ⟨v5,w5,hrun,ho5,hg5,hat5⟩:=ziu (w3.drew.alloc (.cells (uroC r) 130)) w.heap.size 51 (.slice B q cc) q l (za8 HO3.out HW2.out) _ _ _ 1 1 [r] (AtG.one (Blk.new w3.drew 130 (uroC r))) (fun y hy=>by rw [List.mem_singleton.1 hy];exact XW.out) (by have:=HNP.out;omega) (Nat.le_trans WB3.out.size HW2.out.size)
   refine zaC (i:=2) (w':=w3.drew.alloc (.cells (uroC r) 130)) (v:=.slice (some ⟨w3.drew.heap.size,0,none⟩) 1 1) rfl (by kernel_rfl) (by rfl) (zi3 w3.drew (.tmp 32) rfl rfl XW.out) ⟨hHeld.1.alloc _,hHeld.2.alloc hHeld.2.size _⟩ (fun hHeld=>?_)
   refine rgN ?_
   have hS5:Blk w5 q7 130 (uroC r)∧Below w.heap.size w w5:=⟨hHeld.1.grown hg5 (fun e=>by have:=(HBK.out q7 e.symm).2;omega),hHeld.2.grown hg5 hHeld.2.size (fun g hg=>(HBK.out g hg).1)⟩
   refine zaC (i:=3) (w':=w5) (v:=v5) rfl (by kernel_rfl) (by rfl) (zbx (.tmp 31) (.tmp 33) _ _ _ rfl rfl rfl rfl hrun) hS5 (fun hHeld=>?_)
   refine rgN ?_
   clear hrun hg5 hat5
   refine rgT 7 ?_
   refine rgT 8 ?_
   refine wpAnyH_done (by kernel_rfl) ?_ _
   have HO5:=hide ho5
   have WB5:=hide hS5.2
   clear ho5 hS5 hHeld
   obtain ⟨B5,c5,rfl,_,_⟩:=za0 HO5.out
   go_wp2
   go_roundg (n'-u)
   case measure=>omega
   case rel=>exact ⟨p+u,q+1,c5,n'-u,c'-u,B5,A9,l++[r],rfl,rfl,by rw [List.length_append,HQL.out];rfl,by have:=HNP.out;omega,by omega,Nat.le_refl _,HTL.out,HNX.out,HO5.out,WB5.out⟩
  ·have e0b:(er != 0)=true:=by simpa using e0
   have HE0:=hide e0
   by_cases hn0:n'=0
   ·subst hn0
    obtain rfl:=XE.out rfl
    have HD:=hide (HRW.out.done (by rw [HNL.out];have:=HNP.out;omega))
    clear e0 e0b XK XB XE
    go_wp2
    go_ret2
    refine ⟨.slice B q cc,?_,?_,WB3.out⟩
    ·rw [HP.out,HD.out.1];rfl
    ·rw [HP.out,HD.out.1]
     show w3.ownsRow _ _ 27 _ l.length (za4 uroL l)
     rw [HQL.out];exact HO3.out
   ·have HBD:=hide (XB.out (Nat.pos_of_ne_zero hn0) e0)
    have hn1:((n':Int)==0)=false:=beq_eq_false_iff_ne.2 (by omega)
    clear e0 XK XB XE
    by_cases e3:er=3
    ·subst e3
     clear e0b
     go_wp2_with fail
     go_ret2
     refine ⟨.slice none 0 0,?_,?_,WB3.out⟩
     ·rw [HP.out,HBD.out];rfl
     ·rw [HP.out,HBD.out];exact World.ownsRow_nil _ _ _ _
    ·have e3b:(er==3)=false:=beq_eq_false_iff_ne.2 e3
     clear e3
     go_wp2_with fail
     go_ret2
     refine ⟨.slice none 0 0,?_,?_,WB3.out⟩
     ·rw [HP.out,HBD.out];rfl
     ·rw [HP.out,HBD.out];exact World.ownsRow_nil _ _ _ _
theorem zoH (w:World) (lo hi:Nat) (A:Option Addr) (n c:Nat) (b:List UInt8) (k:Int) (h:At w lo hi A n b) (hh:hi≤w.heap.size) (hc:n≤c) (hnn:n≤1000000000) (hz:¬ (k=4∨k=16))  :
  Calls Tryz.prog 165 #[.slice A n c,.int .i64 k,.func (.func 166) #[] #[]] w (zfn w b k):=by
 have HP:Hid (rrPU b k=([],1)):=hide (if_neg hz)
 have HC:=hide (zlf w lo hi A n c b k h hh hc (by omega))
 have HE:=hide (zjg (b:=b) hz)
 have XW:=hide (zlu b k)
 clear h hz
 go_enter Tryz.func165,Tryz.ntmps165
 go_wp2_with fail
 refine wp_loop_rounds 1 ?_
 rw [rounds_succ]
 go_wp2_with fail
 refine HC.out.mono ?_
 generalize hr:zbZ b k=r at *
 generalize hu:zbc b k=u at *
 generalize he:zbj b k=er at *
 have HR1:=hide hr
 have HU1:=hide hu
 have HE1:=hide he
 clear hr hu he
 obtain rfl:=HE.out
 rintro e w2 ⟨h1,hb2⟩
 rw [HR1.out,HU1.out,HE1.out] at h1
 subst h1
 have NEW:=hide (Blk.new w2 130 zUro)
 have WB2:=hide hb2
 clear hb2
 go_wp2_with (refine zaP rfl (.tmp 9) (.tmp 17) rfl w2.heap.size rfl (u:=r) rfl XW.out NEW.out rfl ?_;intro w3 hb3 hg3;have M3:=hide hb3;have W23:Hid (Below w2.heap.size w2 w3):=hide (((Below.refl _ _).alloc (Nat.le_refl _) _).grown hg3 (by simp) (by simp));clear hb3 hg3;refine Hid.out ?_)
 refine hide ?_
 have WB3:=hide (zaa WB2.out W23.out (Nat.le_refl _))
 go_wp2_with fail
 go_ret2
 refine ⟨.slice none 0 0,?_,?_,WB3.out⟩
 ·rw [HP.out];rfl
 ·rw [HP.out];exact World.ownsRow_nil _ _ _ _
theorem zli (w:World) (lo hi:Nat) (A:Option Addr) (n c:Nat) (b:List UInt8) (k:Int) (h:At w lo hi A n b) (hh:hi≤w.heap.size) (hc:n≤c) (hnn:n≤1000000000)  :
  Calls Tryz.prog 145 #[.slice A n c,.int .i64 k] w (zfn w b k):=by
 have HC:Hid (Calls Tryz.prog 165 #[.slice A n c,.int .i64 k,.func (.func 166) #[] #[]] w (zfn w b k)):=hide (by
  by_cases hz:k=4∨k=16
  ·exact zoI w lo hi A n c b k h hh hc hnn hz
  ·exact zoH w lo hi A n c b k h hh hc hnn hz)
 clear h
 go_enter Tryz.func145,Tryz.ntmps145
 go_wp2_with fail
 refine HC.out.mono ?_
 rintro e w1 ⟨v,rfl,ho,hb⟩
 go_wp2
 go_ret2
 exact ⟨v,rfl,ho,hb⟩
end
end Go.Proofs.YtookpplebikfnaaGreatDoor
