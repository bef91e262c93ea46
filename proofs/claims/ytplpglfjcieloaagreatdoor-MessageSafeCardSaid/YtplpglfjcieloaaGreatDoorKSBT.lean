/-
  MessageSafe, walked: it returns true, whatever kind and whatever bytes come in. The conditions: they fit memory, the library's tables hold what their texts lay.
-/
import Derived.Test.YtplpglfjcieloaaGreatDoorKSBS
namespace Go.Proofs.YtplpglfjcieloaaGreatDoor
open Tryz
open Go.RowKit
set_option linter.unusedVariables false
set_option linter.unusedSimpArgs false
/-- what was read,in its block,with its note behind it -/
structure SmS (w z:World) (lo gb:Nat) (m:MeP) (y:NoP):Prop where
 u:Blk z gb 44 m.C
 n:Blk z (gb+1) 40 (noC y)
 a:MeAt z lo gb m
 bl:Below w.heap.size w z
 nm:za1 z
section
variable {w z y':World} {lo gb:Nat} {m:MeP} {y:NoP}
theorem SmS.on (h:SmS w z lo gb m y) (hb:Below z.heap.size z y'):SmS w y' lo gb m y :=
 ⟨h.u.over hb,h.n.over hb,h.a.below (hb.mono (Nat.le_of_lt h.u.lt)),zaa h.bl hb lr,h.nm.below hb⟩
theorem SmS.drew (h:SmS w z lo gb m y):SmS w z.drew lo gb m y:=h.on (zaj (Below.refl _ _))
theorem SmS.hi (h:SmS w z lo gb m y):gb≤z.heap.size:=Nat.le_of_lt h.u.lt
theorem SmS.k (h:SmS w z lo gb m y):z.cell? ⟨gb,0,none⟩=some (.int .i64 m.k):=(zd0 h.a.ok h.u).1
theorem SmS.upd (h:SmS w z lo gb m y):z.rangeAt gb 22 (updL m.u):=(zd0 h.a.ok h.u).2.2.1
theorem SmS.nn (h:SmS w z lo gb m y):z.cell? ⟨gb,47,none⟩=some (.slice m.u.nA m.u.nn m.u.nc):=by
 have h1:=h.upd 25 _ (zg6 h.a.u.ob)
 exact h1
theorem SmS.c (h:SmS w z lo gb m y):z.cell? ⟨gb+1,0,none⟩=some (.int .i64 y.c):=h.n.cell 0
end
/-- with the first of what is withdrawn alone -/
def oneN (U:UpP):UpP:={ U with nn:=1,ne:=U.ne.take 1 }
theorem oneN_right {n:Nat} {U:UpP} {o nc:Int} (h:znu n U.up o nc):ziT (oneN U).up=true:=by
 have e1:(oneN U).up=⟨U.up.at_,U.up.re,U.up.un.take 1⟩:=by
  show Up.mk _ _ ((U.ne.take 1).map TbP.tb)=_
  rw [List.map_take];rfl
 rw [e1]
 unfold ziT
 have h2:fewT (zbL false) (U.up.un.take 1)=true:=by
  unfold fewT
  rw [Bool.and_eq_true]
  exact ⟨decide_eq_true (List.length_take_le _ _),List.all_eq_true.2 fun t ht=>h.un t (List.mem_of_mem_take ht)⟩
 show (zcm U.up.at_&&(fewT ziU U.up.re&&(fewT (zbL false) (U.up.un.take 1)&&(decide (0<U.up.re.length)||zeD U.up.at_ zeo))))=true
 rw [h.at_,h.re,h2]
 by_cases h0:U.up.re.length=0
 ·rw [h.none h0,ze4];simp
 ·rw [decide_eq_true (show 0<U.up.re.length by omega)];rfl
theorem few_right {n:Nat} {U:UpP} {o nc:Int} (h:znu n U.up o nc) (hl:U.up.un.length≤1):ziT U.up=true:=by
 unfold ziT
 have h2:fewT (zbL false) U.up.un=true:=by
  unfold fewT
  rw [Bool.and_eq_true]
  exact ⟨decide_eq_true hl,List.all_eq_true.2 fun t ht=>h.un t ht⟩
 rw [h.at_,h.re,h2]
 by_cases h0:U.up.re.length=0
 ·rw [h.none h0,ze4];simp
 ·rw [decide_eq_true (show 0<U.up.re.length by omega)];rfl
theorem oneN_fit {U:UpP} (h:FitU U):FitU (oneN U):=⟨h.at_,h.re,fun x hx=>h.ne x (List.mem_of_mem_take hx)⟩
theorem zux {o:Oper} {a:Act} {w:World} (x:Operand) (ho:o.op = .build 44 #[(0,x)]) (k:Int) (hx:a.eval x = .int .i64 k):(execOp a.eval o).run prog w = .ok (.value (.agg (zMe k))) w:=zd7 x ho k hx
theorem same_zero (w:World) (k:Int):Calls prog 6 #[.agg (zMe k),.agg (zMe k)] w fun e w'=>e = .returned (.bool true)∧Below w.heap.size w w':=by
 have h:=znL w w.heap.size w.heap.size w.heap.size w.heap.size k k op0 op0 (zgE _ _ _) (zgE _ _ _) lr lr (Nat.zero_le _)
 rw [zqG,beq_self_eq_true,show zeh op0 op0=true by decide] at h
 exact h
theorem rowE_first {w:World} {lo hi n:Nat} {A:Option Addr} {l:List TbP} (h:RowE tbL mTb wTb w lo hi A n l) (hn:1≤n):RowE tbL mTb wTb w lo hi A 1 (l.take 1) :=
 ⟨⟨by rw [List.length_take,h.len];omega,fun h0=>by
  obtain ⟨b,o,e,h1,h2,hc⟩:=h.row.2 (by omega)
  refine ⟨b,o,e,h1,h2,fun j u hu=>hc j u ?_⟩
  have hs:=zd2 (enc:=tbL) (l.take 1) (l.drop 1)
  rw [List.take_append_drop] at hs
  rw [hs,List.getElem?_append_left (List.getElem?_eq_some_iff.1 hu).1]
  exact hu⟩,fun x hx=>h.mem x (List.mem_of_mem_take hx),fun x hx=>h.sz x (List.mem_of_mem_take hx)⟩
theorem me_set_n {m:MeP} (ho:(opL m.o).length=21) (hu:m.u.at_.ob.length=16) (A:Option Addr) (n c:Nat) (l:List TbP):m.C.setIfInBounds 47 (.slice A n c)=({ m with u:={ m.u with nA:=A,nn:=n,nc:=c,ne:=l } }:MeP).C:=by
 have h1:=congrArg Array.toList (zme (U:=m.u) hu A n c l)
 have h2:(updL m.u).set 25 (.slice A n c)=updL { m.u with nA:=A,nn:=n,nc:=c,ne:=l }:=by
  simpa [updC] using h1
 have h3:=zkX hu
 unfold MeP.C meC meL
 dsimp only
 rw [List.setIfInBounds_toArray,List.set_cons_succ,List.set_append_right 46 (.slice A n c) (show (opL m.o).length≤46 by omega),ho,show 46-21=25 from rfl,List.set_append_left 25 (.slice A n c) (show 25<(updL m.u).length by omega),h2]
set_option maxRecDepth 20000 in
set_option maxHeartbeats 8000000 in
theorem zqP (w:World) (hg:za1 w∧zdc w) (k:Int) (_hk : -9223372036854775808≤k∧k≤9223372036854775807) (A:Option Addr) (n c:Nat) (b:List UInt8) (hAt:At w 0 w.heap.size A n b) (hn:n≤c) (hc:c≤140737488351232) :
  Calls prog 3 #[.int .i64 k,.slice A n c] w fun e w'=>e = .returned (.bool true)∧Below w.heap.size w w':=by
 have H0:=hD hAt
 have HN:=hD hg.1
 have HK:=hD hg.2
 clear hAt hg hn hc _hk
 go_enter func3,ntmps3
 go_wp2_with fail
 refine (zol w).mono ?_
 rintro e w1 ⟨rfl,hb1⟩
 have W1:=hD hb1
 have H1:=hD (H0.o.below hb1)
 clear hb1
 by_cases hl:n≤4077
 rotate_left
 ·have hlI:(4077:Int)<(n:Int):=by omega
  go_wp2
  go_ret
  exact ⟨rfl,W1.o⟩
 have hlI:¬ (4077:Int)<(n:Int):=by omega
 go_wp2_with fail
 refine (zt9 w1 0 w.heap.size A n c b H1.o W1.o.size hl (HN.o.below W1.o) (HK.o.below W1.o) k).mono ?_
 rintro e w2 ⟨m,o,y,rfl,hb2,hm,hf,hcs⟩
 have MA:=hD hm
 have MF:=hD hf
 have CS:=hD hcs
 have OK:=hD hm.ok
 have W2:=hD (zaa W1.o hb2 lr)
 have e1:(w2.alloc (.cells (zMe 0) 44)).heap.size=w2.heap.size+1:=by simp
 have M0:=Blk.new (w2.alloc (.cells (zMe 0) 44)) 40 zNo
 rw [e1] at M0
 have NEWN:=hD M0
 have NEWU:=hD ((Blk.new w2 44 (zMe 0)).alloc (.cells zNo 40))
 have W3:Hid (Below w2.heap.size w2 ((w2.alloc (.cells (zMe 0) 44)).alloc (.cells zNo 40))):=hD (((Below.refl _ _).alloc lr _).alloc (by rw [e1];omega) _)
 clear hb2 hm hf hcs M0 e1
 go_wp2_with (refine zaP rfl (.tmp 6) (.tmp 18) rfl w2.heap.size rfl m.k (opL m.o) (updL m.u) (noL m.n) (famL m.f) OK.o rfl NEWU.o rfl ?_;intro w3 hb3 hg3;have K3:=hD hb3;have HG3:=hD hg3;have N3:=hD (NEWN.o.grown hg3 (by simp));clear hb3 hg3;refine Hid.o ?_)
 refine hD ?_
 go_wp2_with (refine zao rfl (.tmp 8) (.tmp 20) rfl (w2.heap.size+1) rfl y rfl N3.o rfl ?_;intro w4 hb4 hg4;have K4:=hD hb4;have HG4:=hD hg4;have KU4:=hD (K3.o.grown hg4 (by simp));clear hb4 hg4;refine Hid.o ?_)
 refine hD ?_
 have W4:Hid (Below w2.heap.size w2 w4):=hD ((W3.o.grown HG3.o W3.o.size (fun k hk=>by injection hk;omega)).grown HG4.o (Nat.le_trans W3.o.size HG3.o.size) (fun k hk=>by injection hk;omega))
 have S4:Hid (SmS w w4 w1.heap.size w2.heap.size m y):=hD ⟨KU4.o,K4.o,MA.o.below W4.o,zaa W2.o W4.o lr,HN.o.below (zaa W2.o W4.o lr)⟩
 have HGB:=hD W2.o.size
 clear K3 HG3 N3 K4 HG4 KU4 NEWU NEWN W3 W4 MA W2 W1 H1 H0 HK
 generalize w2.heap.size=gb at *
 generalize w1.heap.size=lo at *
 have k26:=S4.o.c
 have k39:=S4.o.k
 have k47:=S4.o.nn
 rcases CS.o with ⟨ho,hy,hmz⟩ | ⟨ho,hy,hk,hcs⟩
 ·have hyI:(0:Int)<y.c:=hy
  subst hmz
  subst ho
  have BZ:Hid (Blk w4 gb 44 (meC 0 zOpL zUpL zNoL zFaL)):=hD (by have:=S4.o.u;rw [zny] at this;exact this)
  clear CS k39 k47
  go_wp2_with (first
   | (with_reducible refine zac rfl (za3 (.tmp 6) rfl gb rfl zdr BZ.o) ?_)
   | (with_reducible refine zac rfl (zj2 rfl) ?_))
  refine (same_zero w4 0).mono ?_
  rintro e w5 ⟨rfl,hb5⟩
  have S5:=hD (S4.o.on hb5)
  clear hb5
  go_wp2
  go_ret
  exact ⟨rfl,S5.o.bl⟩
 have ho3:(o==3)=false:=beq_eq_false_iff_ne.2 ho
 rw [hy] at k26
 rw [hk] at k39
 clear hk
 rcases hcs with ⟨h2,hs⟩ | ⟨h2,hr⟩ | ⟨h2,ho1,hr,hmz⟩
 ·subst h2
  have SF:=hD hs
  have HUL:=hD (zkX S4.o.a.u.ob)
  have hlu:m.u.nn≤2:=by
   have h1:(m.u.ne.map TbP.tb).length≤2:=hs.lu
   rw [List.length_map,S4.o.a.u.ne.len] at h1
   exact h1
  clear CS hs ho hy
  by_cases hnn:m.u.nn=2
  ·obtain ⟨U,hU⟩:∃ U,m.u=U:=⟨_,rfl⟩
   rw [hU] at hnn HUL k47 SF
   have hcc:U.nn≤U.nc:=by rw [← hU];exact S4.o.a.u.nc
   rw [hnn] at k47 hcc
   have f47:=S4.o.u.frozen 47
   have hset:Hid (∃ m':MeP,m'.u=oneN U∧m'.C=m.C.setIfInBounds 47 (.slice U.nA 1 U.nc)∧MeAt (w4.setCell ⟨gb,47,none⟩ (.slice U.nA 1 U.nc)) lo gb m'):=hD (by
    have hb:Below gb w4 (w4.setCell ⟨gb,47,none⟩ (.slice U.nA 1 U.nc)):=zc2 (Below.refl _ _) (p:=⟨gb,47,none⟩) lr _
    have h1:=me_set_n (m:=m) (zi8 S4.o.a.o.ib) S4.o.a.u.ob U.nA 1 U.nc (U.ne.take 1)
    have ha:=S4.o.a.below hb
    have hu:=ha.u
    rw [hU] at hu h1
    exact ⟨{ m with u:=oneN U },rfl,h1.symm,⟨ha.o,⟨hu.at_,hu.re,rowE_first hu.ne (by omega),hu.rc,by show 1≤U.nc;omega⟩,ha.n⟩⟩)
   have KZ:=hD (S4.o.u.set_ 47 (.slice U.nA 1 U.nc))
   have WZ:Hid (Below w.heap.size w (w4.setCell ⟨gb,47,none⟩ (.slice U.nA 1 U.nc))):=hD (zc2 S4.o.bl (p:=⟨gb,47,none⟩) HGB.o _)
   have NZ:=hD (HN.o.below WZ.o)
   obtain ⟨m',hm1,hm2,hm3⟩:=hset.o
   rw [← hm2] at KZ
   have HR:=hD (oneN_right SF.o)
   have HFU:Hid (FitU (oneN U)):=hD (by have:=MF.o.u;rw [hU] at this;exact oneN_fit this)
   have RU:=hD ((zd0 hm3.ok KZ.o).2.2.1)
   have HUL2:=hD (zkX hm3.u.ob)
   have AZ:=hD hm3.u
   have HH:=hD (show gb≤(w4.setCell ⟨gb,47,none⟩ (.slice U.nA 1 U.nc)).heap.size from Nat.le_of_lt KZ.o.lt)
   rw [hm1] at RU HUL2 AZ
   clear hset hm1 hm2 hm3 KZ hU hnn hlu SF HUL S4
   have hcI:(1:Int)≤(U.nc:Int):=by omega
   go_wp2_with (with_reducible refine zac rfl (zcZ (.tmp 58) rfl gb 22 rfl RU.o HUL2.o) ?_)
   refine (rightu_any _ lo gb (oneN U) AZ.o HH.o HFU.o NZ.o).mono ?_
   rw [HR.o]
   rintro e w5 ⟨rfl,hb5⟩
   have W5:=hD (zaa WZ.o hb5 lr)
   clear hb5
   go_wp2
   go_ret
   exact ⟨rfl,W5.o⟩
  ·have hnI:(((m.u.nn:Nat):Int)==2)=false:=beq_eq_false_iff_ne.2 (by omega)
   have RU:=hD S4.o.upd
   have HR:=hD (few_right SF.o (by
    have h1:(m.u.ne.map TbP.tb).length=m.u.nn:=by rw [List.length_map,S4.o.a.u.ne.len]
    show (m.u.ne.map TbP.tb).length≤1
    omega))
   clear hnn hlu SF
   go_wp2_with (with_reducible refine zac rfl (zcZ (.tmp 58) rfl gb 22 rfl RU.o HUL.o) ?_)
   refine (rightu_any w4 lo gb m.u S4.o.a.u S4.o.hi MF.o.u S4.o.nm).mono ?_
   rw [HR.o]
   rintro e w5 ⟨rfl,hb5⟩
   have S5:=hD (S4.o.on hb5)
   clear hb5
   go_wp2
   go_ret
   exact ⟨rfl,S5.o.bl⟩
 ·have h2b:(k==2)=false:=beq_eq_false_iff_ne.2 h2
  have hrt:=mright_any w4 lo gb m S4.o.a S4.o.hi MF.o S4.o.nm
  rw [hr] at hrt
  unfold MeP.C at hrt
  have HRT:=hD hrt
  have BM:=hD S4.o.u
  clear hrt
  clear CS k47 h2 hr ho hy
  go_wp2_with (with_reducible refine zac rfl (za3 (.tmp 6) rfl gb rfl OK.o BM.o) ?_)
  refine HRT.o.mono ?_
  rintro e w5 ⟨rfl,hb5⟩
  have S5:=hD (S4.o.on hb5)
  clear hb5
  go_wp2
  go_ret
  exact ⟨rfl,S5.o.bl⟩
 ·have h2b:(k==2)=false:=beq_eq_false_iff_ne.2 h2
  have hrt:=mright_any w4 lo gb m S4.o.a S4.o.hi MF.o S4.o.nm
  rw [hr] at hrt
  unfold MeP.C at hrt
  have HRT:=hD hrt
  have BM:=hD S4.o.u
  clear hrt
  subst ho1
  have HMZ:=hD hmz
  clear CS k47 h2 hr ho hy hmz
  go_wp2_with (with_reducible refine zac rfl (za3 (.tmp 6) rfl gb rfl OK.o BM.o) ?_)
  refine HRT.o.mono ?_
  rintro e w5 ⟨rfl,hb5⟩
  have S5:=hD (S4.o.on hb5)
  have BZ:Hid (Blk w5 gb 44 (meC k zOpL zUpL zNoL zFaL)):=hD (by have:=S5.o.u;rw [HMZ.o,zny] at this;exact this)
  clear hb5
  go_wp2_with (first
   | (with_reducible refine zac rfl (za3 (.tmp 6) rfl gb rfl zdr BZ.o) ?_)
   | (with_reducible refine zac rfl (zd7 (.tmp 71) rfl k rfl) ?_))
  refine (same_zero w5 k).mono ?_
  rintro e w6 ⟨rfl,hb6⟩
  have S6:=hD (S5.o.on hb6)
  clear hb6
  go_wp2
  go_ret
  exact ⟨rfl,S6.o.bl⟩
end Go.Proofs.YtplpglfjcieloaaGreatDoor
