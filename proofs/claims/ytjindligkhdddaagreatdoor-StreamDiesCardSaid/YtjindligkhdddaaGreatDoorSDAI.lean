/-
  What slices.Grow (of nothing) and slices.Concat do at rows of bytes, in whatever memory. The one condition: sizes that fit memory.
  What which and identifier of package pmsi do, in whatever memory. The one condition of identifier: the tunnel's Root and Id are right.
  What Bytes of package pmsi does, in whatever memory. No condition beyond sizes that fit memory.
-/
import Derived.Lib.AppendZerosOnto
import Derived.Test.YtjindligkhdddaaGreatDoorSDAH
set_option linter.unusedVariables false
set_option linter.unusedSimpArgs false
namespace Go.Proofs.YtjindligkhdddaaGreatDoor
section
set_option maxRecDepth 100000
open Go.RowKit
theorem zgL {P:Program} {w w':World} {ops:Array Oper} {rest:List Oper} {o:Oper} {a:Act} {Q:Exit→Act→World→Prop} (hgd:o.guard=none) (s x:Operand) (t u:TypeId)
  (ho:o.op = .call { callee:=.builtin .append,args:=#[s,x],argTypes:=#[t,u] }) {z:Value} (v y:Value) (hs:a.eval s=v) (hx:a.eval x=y)
  (hrun:∀ ty,(Builtin.append_ #[t,u] ty #[v,y]).run P w = .ok z w') (h:wpList P ops Q rest (a.put o.dst z) w'):wpList P ops Q (o::rest) a w:=by
 refine wpList_plain hgd fun K hK=>?_
 have hrun:=hrun o.type
 unfold Oper.wp execOp
 simp only [ho,resolve,invoke,builtin,Sem.run_bind,Sem.run_pure,Result.andThen_ok,List.map_toArray,List.map_cons,List.map_nil,hs,hx,hrun]
 exact hK _ _ h
theorem zta (w:World) (m:Nat) (hm:m≤140737488351232):Calls Tryz.prog 100 #[.slice none 0 0,.int .i64 (m:Int)] w fun e w'=>∃ v,e = .returned v∧w'.ownsRow w.heap.size 5 1 v 0 []∧Below w.heap.size w w':=by
 rcases Nat.eq_zero_or_pos m with h0 | h0
 ·subst h0
  simp only [Int.cast_ofNat_Int]
  go_enter Tryz.func100,Tryz.ntmps100
  go_wp2
  go_ret
  exact ⟨_,rfl,World.ownsRow_nil _ _ _ _,Below.refl _ _⟩
 ·have hGn:m≤grownCap w m 0 5:=grownCap_ge w m 0 _
  have hG63:grownCap w m 0 5≤maxLen:=grownCap_le_maxLen w m 0 5 (by unfold maxLen;omega)
  have HO:Hid ((w.alloc (.cells (Builtin.zeroCells #[Value.int .u8 0] m++Builtin.zeroCells #[Value.int .u8 0] (grownCap w m 0 5-m)) 5)).ownsRow w.heap.size 5 1 (.slice (some ⟨w.heap.size,0,none⟩) 0 (grownCap w m 0 5)) 0 []) :=
   World.ownsRow_made w _ _ (Nat.le_refl _) hG63 (by rw [Array.size_append,size_zeroCells,size_zeroCells];simp;omega)
  have hp:(m:Int) > 0:=by omega
  obtain ⟨i0,hi0,hz0,hz1,hz2⟩:=info_parts zbQ
  have hcap:Builtin.nextslicecap m 0=m:=by
   unfold Builtin.nextslicecap
   rw [if_pos (by omega)]
  have qa:∀ ty,(Builtin.append_ #[22,3] ty #[.slice none 0 0,.int .i64 (m:Int)]).run Tryz.prog w =
    .ok (.slice (some ⟨w.heap.size,0,none⟩) m (grownCap w m 0 5)) (w.drew.alloc (.cells (Builtin.zeroCells #[Value.int .u8 0] m++Builtin.zeroCells #[Value.int .u8 0] (grownCap w m 0 5-m)) 5)):=by
   intro ty
   have h:=Lib.run_append_grow_zeros (P:=Tryz.prog) w 22 3 ty 5 i0 (.int .u8 0) .i64 .i64 Tryz.underlying22 Tryz.underlying3 hi0 hz0 none 0 0 [] (run_firstCells_none w.drew i0.size 0 0 0) m h0 (by rw [hz1];decide) (by omega) (by omega) (by rw [hz2];omega) (by rw [Nat.zero_add,hcap,hz2];omega)
   rw [Nat.zero_add] at h
   simpa [Value.cells] using h
  obtain ⟨Z1,hZ1⟩:∃ Z1,Value.slice (some ⟨w.heap.size,0,none⟩) m (grownCap w m 0 5)=Z1:=⟨_,rfl⟩
  obtain ⟨W1,hW1⟩:∃ W1,w.drew.alloc (.cells (Builtin.zeroCells #[Value.int .u8 0] m++Builtin.zeroCells #[Value.int .u8 0] (grownCap w m 0 5-m)) 5)=W1:=⟨_,rfl⟩
  rw [hZ1,hW1] at qa
  have QA:=hide qa
  have HW1:=hide hW1
  clear hW1
  subst hZ1
  have hw:wrap64 (m:Int)=m:=by unfold wrap64;omega
  have hn:¬ (m:Int)<0:=by omega
  clear hGn hG63 hcap qa h0 hw
  go_enter Tryz.func100,Tryz.ntmps100
  go_wp2_with (at_builtin;go_must (refine zgL (w':=W1) (z:=.slice (some ⟨w.heap.size,0,none⟩) m (grownCap w m 0 5)) rfl (.tmp 20) (.tmp 21) 22 3 rfl (.slice none 0 0) (.int .i64 (m:Int)) rfl rfl QA.out ?_))
  go_ret
  rw [← HW1.out]
  exact ⟨_,rfl,HO.out,zam ((Below.refl _ _).alloc (Nat.le_refl _) _)⟩
def zgB (w:World) (hi:Nat) (arr:Array Value) (L:List (List UInt8)):Prop:=∀ (j:Nat) (x:List UInt8),L[j]?=some x→∃ A n c,arr[j]?=some (.slice A n c)∧At w 0 hi A n x
theorem zgB.below {w w':World} {hi:Nat} {arr:Array Value} {L:List (List UInt8)} (h:zgB w hi arr L) (hb:Below hi w w'):zgB w' hi arr L:=fun j x hj=>by
 obtain ⟨A,n,c,h1,h2⟩:=h j x hj
 exact ⟨A,n,c,h1,h2.below hb⟩
theorem zrW {w:World} {hi n1 n2 n3 n4 c1 c2 c3 c4:Nat} {A1 A2 A3 A4:Option Addr} {x1 x2 x3 x4:List UInt8} (h1:At w 0 hi A1 n1 x1) (h2:At w 0 hi A2 n2 x2) (h3:At w 0 hi A3 n3 x3) (h4:At w 0 hi A4 n4 x4) :
  zgB w hi #[.slice A1 n1 c1,.slice A2 n2 c2,.slice A3 n3 c3,.slice A4 n4 c4] [x1,x2,x3,x4]:=fun j x h=>by
 match j,h with
 | 0,h=>simp at h;subst h;exact ⟨_,_,_,rfl,h1⟩
 | 1,h=>simp at h;subst h;exact ⟨_,_,_,rfl,h2⟩
 | 2,h=>simp at h;subst h;exact ⟨_,_,_,rfl,h3⟩
 | 3,h=>simp at h;subst h;exact ⟨_,_,_,rfl,h4⟩
 | j+4,h=>simp at h
theorem rows3 {w:World} {hi n1 n2 n3 c1 c2 c3:Nat} {A1 A2 A3:Option Addr} {x1 x2 x3:List UInt8} (h1:At w 0 hi A1 n1 x1) (h2:At w 0 hi A2 n2 x2) (h3:At w 0 hi A3 n3 x3) :
  zgB w hi #[.slice A1 n1 c1,.slice A2 n2 c2,.slice A3 n3 c3] [x1,x2,x3]:=fun j x h=>by
 match j,h with
 | 0,h=>simp at h;subst h;exact ⟨_,_,_,rfl,h1⟩
 | 1,h=>simp at h;subst h;exact ⟨_,_,_,rfl,h2⟩
 | 2,h=>simp at h;subst h;exact ⟨_,_,_,rfl,h3⟩
 | j+3,h=>simp at h
theorem zmH {L:List (List UInt8)} {j:Nat} {x:List UInt8} (h:L[j]?=some x):(L.take (j+1)).flatten=(L.take j).flatten++x:=by
 rw [zim L j x h,List.flatten_append]
 simp
theorem zeZ (L:List (List UInt8)) (j:Nat):(L.take j).flatten.length≤L.flatten.length:=by
 have h:=congrArg List.flatten (List.take_append_drop j L)
 rw [List.flatten_append] at h
 rw [← h,List.length_append]
 omega
set_option maxHeartbeats 2000000 in
theorem zcG (w:World) (rb:Nat) (t:TypeId) (arr:Array Value) (L:List (List UInt8)) (K:Nat) (hK:L.length=K) (hK2:K≤1000) (hb:Blk w rb t arr) (hL:zgB w w.heap.size arr L) (hs:L.flatten.length≤140737488351000) :
  Calls Tryz.prog 59 #[.slice (some ⟨rb,0,none⟩) K K] w fun e w'=>∃ v,e = .returned v∧w'.ownsRow w.heap.size 5 1 v L.flatten.length (bvs L.flatten)∧Below w.heap.size w w':=by
 obtain ⟨i0,hi0,hz0,hz1,hz2⟩:=info_parts zbQ
 have HB:=hide hb
 have HL:=hide hL
 have HK:=hide hK
 have HS:=hide hs
 clear hb hL hK hs
 go_enter Tryz.func59,Tryz.ntmps59
 go_wp2
 go_loop [3,11] (fun z i=>∃ j m:Nat,j≤K∧m=(L.take j).flatten.length∧i = .int .i64 j∧z = .int .i64 m) (fun _ i=>K-(intOf i).toNat)
 case atStart=>exact ⟨0,0,Nat.zero_le _,rfl,rfl,rfl⟩
 case round =>
  obtain ⟨j,m,hj,hm,rfl,rfl⟩:=hrel
  have hml:m≤140737488351000:=by rw [hm];exact Nat.le_trans (zeZ L j) HS.out
  have HM:=hide hm
  clear hm
  by_cases hlt:j<K
  ·have hg:L[j]?=some (L[j]'(by rw [HK.out];exact hlt)):=List.getElem?_eq_getElem _
   obtain ⟨x,hx⟩:∃ x,L[j]?=some x:=⟨_,hg⟩
   clear hg
   obtain ⟨A,n,c,h1,h2⟩:=HL.out j x hx
   have hc:w.cell? ⟨rb,j,none⟩=some (.slice A n c):=(HB.out.cell j).trans h1
   have hn:=h2.len
   have hst:=zmH hx
   have hle:=zeZ L (j+1)
   rw [hst,List.length_append,hn,← HM.out] at hle
   have hle2:m+n≤140737488351000:=Nat.le_trans hle HS.out
   have HST:Hid ((L.take (j+1)).flatten.length=m+n):=hide (by rw [hst,List.length_append,hn,HM.out])
   clear h1 h2 hn hst hle hx
   go_wp2
   go_round
   case rel=>exact ⟨j+1,m+n,by omega,HST.out.symm,by go_num,by go_num⟩
   case measure=>simp [intOf];omega
  ·obtain rfl:j=K:=by omega
   have hfull:L.take j=L:=List.take_of_length_le (by rw [HK.out];exact Nat.le_refl _)
   rw [hfull] at HM
   clear hlt hfull
   go_wp2_with fail
   refine (zta _ m (by omega)).mono ?_
   rintro e w1 ⟨v1,rfl,ho1,hb1⟩
   have HO1:=hide ho1
   have HB1:=hide hb1
   clear ho1 hb1
   go_wp2
   go_loopw [6,27] (fun v i wr=>∃ (q p:Nat) (vv:Value),v=vv∧q≤j∧p=(L.take q).flatten.length∧i = .int .i64 q∧wr.ownsRow w.heap.size 5 1 vv p (bvs (L.take q).flatten)∧Below w.heap.size w wr) (fun _ i _=>j-(intOf i).toNat)
   case atStart=>exact ⟨0,0,_,rfl,Nat.zero_le _,rfl,rfl,HO1.out,HB1.out⟩
   case round =>
    obtain ⟨q,p,vv,rfl,hq,hp,rfl,hown,hbel⟩:=hrel
    obtain ⟨A2,c2,rfl,hc2,_⟩:=zag hown
    have HP:=hide hp
    have HO:=hide hown
    have HBL:=hide hbel
    clear hown hbel hp
    by_cases hlt:q<j
    ·have hg:L[q]?=some (L[q]'(by rw [HK.out];exact hlt)):=List.getElem?_eq_getElem _
     obtain ⟨x,hx⟩:∃ x,L[q]?=some x:=⟨_,hg⟩
     clear hg
     obtain ⟨A,n,c,h1,h2⟩:=HL.out q x hx
     have hc:wr.cell? ⟨rb,q,none⟩=some (.slice A n c):=((HB.out.below HBL.out HB.out.lt).cell q).trans h1
     have HAT:=hide (h2.below HBL.out)
     have hn:=h2.len
     have hst:=zmH hx
     have hle:=zeZ L (q+1)
     rw [hst,List.length_append,hn,← HP.out] at hle
     have hle2:p+n≤140737488351000:=Nat.le_trans hle HS.out
     have HST:=hide hst
     have HST2:Hid ((L.take (q+1)).flatten.length=p+n):=hide (by rw [hst,List.length_append,hn,HP.out])
     clear h1 h2 hn hst hle hx
     go_wp2_with (at_builtin;go_must (refine zap _ rfl (.tmp 31) (.tmp 32) _ rfl w.heap.size 5 i0 Tryz.underlying22 hi0 hz0 hz1 hz2 (.slice A2 p c2) p (L.take q).flatten rfl HO.out 0 w.heap.size A n c x rfl HAT.out (by omega) HBL.out.size ?_);intro v3 w3 ho3 hg3 ha3;have HO3:=hide ho3;have HG3:=hide hg3;clear ho3 hg3 ha3)
     go_roundw
     case rel =>
      refine ⟨q+1,p+n,_,rfl,by omega,HST2.out.symm,by go_num,?_,HBL.out.grown HG3.out HBL.out.size (fun g hg=>(HO.out.lt g hg).1)⟩
      rw [HST.out]
      exact HO3.out
     case measure=>simp [intOf];omega
    ·obtain rfl:q=j:=by omega
     have hfull2:L.take q=L:=List.take_of_length_le (by rw [HK.out];exact Nat.le_refl _)
     have HF:=hide hfull2
     clear hfull2
     go_wp2
     go_ret
     have ho:=HO.out
     rw [HP.out,HF.out] at ho
     refine ⟨_,rfl,?_,HBL.out⟩
     rw [HP.out,HF.out]
     exact ho
end
section
set_option maxRecDepth 20000
open Go.RowKit
theorem zvS (w:World) (n:Nat) (bs:List UInt8) (hb:bs=List.replicate n 0) (hn:0<n):At (w.alloc (.cells (madeCells #[.int .u8 0] n) 5)) w.heap.size (w.heap.size+1) (some ⟨w.heap.size,0,none⟩) n bs:=by
 subst hb
 refine ⟨by simp,fun _=>⟨_,0,rfl,Nat.le_refl _,by omega,fun j u hu=>?_⟩⟩
 have hj:j<n:=by have:=(List.getElem?_eq_some_iff.1 hu).1;simpa using this
 rw [Nat.zero_add,(Blk.new w _ _).cell j]
 have h:(madeCells #[Value.int .u8 0] n)[j]?=(madeCells #[Value.int .u8 0] n).toList[j]?:=by simp
 rw [h,toList_madeCells_one]
 rw [List.getElem?_replicate] at hu ⊢
 rw [if_pos hj] at hu ⊢
 injection hu with hu
 subst hu
 rfl
theorem zrl (w:World) (lf:Bool) (k l s:Int) (bs:List UInt8) (v:Value) (hl:bs.length=16) (hs:s=0∨s=4∨s=16) :
  Calls Tryz.prog 202 #[.agg (tunC lf k l s bs v)] w fun e w'=>∃ x,e = .returned x∧w'.ownsRow w.heap.size 5 1 x 4 (bvs (zd3 k s))∧Below w.heap.size w w':=by
 have c1:=zik lf k l s v bs
 have c3:=zwa lf k l s v bs
 have W0:Hid (Below w.heap.size w (w.alloc (.cells (tunC lf k l s bs v) 157))):=hide ((Below.refl _ _).alloc (Nat.le_refl _) _)
 have OWN:∀ (x:World) (g:Nat) (a b z:UInt8) (cs:Array Value),g=x.heap.size→cs=#[.int .u8 (a.toNat:Int),.int .u8 0,.int .u8 (b.toNat:Int),.int .u8 (z.toNat:Int)]→w.heap.size≤x.heap.size →
   (x.alloc (.cells cs 5)).ownsRow w.heap.size 5 1 (.slice (some ⟨g,0,none⟩) 4 4) 4 (bvs [a,0,b,z]):=by
  rintro x g a b z cs rfl rfl h
  exact zco (Blk.new x _ _) h (Nat.le_refl _) (by unfold maxLen;decide) rfl rfl
 have HO:=hide OWN
 clear OWN hl
 by_cases hk:k=7
 ·subst hk
  rcases hs with rfl | rfl | rfl
  ·go_enter Tryz.func202,Tryz.ntmps202
   go_wp2
   go_ret
   exact ⟨_,rfl,HO.out _ _ 7 1 0 _ (by simp) rfl W0.out.size,W0.out.alloc W0.out.size _⟩
  ·go_enter Tryz.func202,Tryz.ntmps202
   go_wp2
   go_ret
   exact ⟨_,rfl,HO.out _ _ 7 1 4 _ (by simp) rfl W0.out.size,W0.out.alloc W0.out.size _⟩
  ·go_enter Tryz.func202,Tryz.ntmps202
   go_wp2
   go_ret
   exact ⟨_,rfl,HO.out _ _ 7 2 16 _ (by simp) rfl W0.out.size,W0.out.alloc W0.out.size _⟩
 ·have e7:(k==7)=false:=beq_eq_false_iff_ne.2 hk
  have hw:zd3 k s=[6,0,if s=16 then 2 else 1,UInt8.ofNat s.toNat]:=by unfold zd3;rw [if_neg hk]
  rw [hw]
  clear hw hk
  rcases hs with rfl | rfl | rfl
  ·go_enter Tryz.func202,Tryz.ntmps202
   go_wp2
   go_ret
   exact ⟨_,rfl,HO.out _ _ 6 1 0 _ (by simp) rfl W0.out.size,W0.out.alloc W0.out.size _⟩
  ·go_enter Tryz.func202,Tryz.ntmps202
   go_wp2
   go_ret
   exact ⟨_,rfl,HO.out _ _ 6 1 4 _ (by simp) rfl W0.out.size,W0.out.alloc W0.out.size _⟩
  ·go_enter Tryz.func202,Tryz.ntmps202
   go_wp2
   go_ret
   exact ⟨_,rfl,HO.out _ _ 6 2 16 _ (by simp) rfl W0.out.size,W0.out.alloc W0.out.size _⟩
structure IdAt (w x:World) (lf:Bool) (k l s:Int) (bs:List UInt8) (A:Option Addr) (n c hi:Nat) (id:List UInt8) (B:Option Addr) (m d:Nat) (root:List UInt8):Prop where
 blk:Blk x w.heap.size 157 (tunC lf k l s bs (.slice A n c))
 id_:At x 0 hi A n id
 row:x.ownsRow (w.heap.size+1) 5 1 (.slice B m d) m (bvs root)
 bel:Below w.heap.size w x
section
variable {w x y:World} {lf:Bool} {k l s:Int} {bs:List UInt8} {A:Option Addr} {n c hi:Nat} {id:List UInt8} {B:Option Addr} {m d:Nat} {root:List UInt8}
theorem IdAt.on (h:IdAt w x lf k l s bs A n c hi id B m d root) (hh:hi≤w.heap.size) (hb:Below x.heap.size x y):IdAt w y lf k l s bs A n c hi id B m d root :=
 ⟨h.blk.over hb,h.id_.below (hb.mono (Nat.le_trans hh h.bel.size)),za6 h.row hb,zaa h.bel hb (Nat.le_refl _)⟩
theorem IdAt.drew (h:IdAt w x lf k l s bs A n c hi id B m d root):IdAt w x.drew lf k l s bs A n c hi id B m d root:=⟨h.1,h.2,h.3,zam h.4⟩
theorem IdAt.alloc (h:IdAt w x lf k l s bs A n c hi id B m d root) (hh:hi≤w.heap.size) (o:Obj):IdAt w (x.alloc o) lf k l s bs A n c hi id B m d root:=h.on hh ((Below.refl _ _).alloc (Nat.le_refl _) o)
end
set_option maxHeartbeats 4000000 in
theorem zfz (w:World) (lf:Bool) (k l s:Int) (bs:List UInt8) (A:Option Addr) (n c hi:Nat) (id:List UInt8) (hA:At w 0 hi A n id) (hh:hi≤w.heap.size) (hl:bs.length=16) (hc:n≤c)
  (hr:zaz s bs=true) (hi_:zdf k s id=true) :
  Calls Tryz.prog 187 #[.agg (tunC lf k l s bs (.slice A n c))] w fun e w'=>∃ v,e = .returned v∧w'.ownsRow w.heap.size 5 1 v (zbw k s bs id).length (bvs (zbw k s bs id))∧Below w.heap.size w w':=by
 obtain ⟨i0,hi0,hz0,hz1,hz2⟩:=info_parts zbQ
 have c1:=zik lf k l s (.slice A n c) bs
 have c20:=zeN lf k l s (.slice A n c) hl
 have hk:=zki hi_
 have hs:=zdb hr
 have hlen:=hA.len
 have HL:=hide hl
 have HBL:=hide (zev hl hr)
 have HN:=hide (Blk.new w 157 (tunC lf k l s bs (.slice A n c)))
 have HA:=hide hA
 have HID:=hide hi_
 have HS:=hide hs
 have hm16:(zaw s bs).length≤16:=by rw [HBL.out];omega
 have hidn:n≤64:=by
  unfold zdf at hi_
  rw [hlen] at hi_
  rcases hk with rfl | rfl | rfl | rfl | rfl | rfl | rfl | rfl <;> simp at hi_ <;> omega
 obtain ⟨R,hR⟩:∃ R,zaw s bs=R:=⟨_,rfl⟩
 have HR:=hide hR
 have HM:Hid (R.length≤16):=hide (by rw [← hR];exact hm16)
 have HLEN:=hide hlen
 have HIN:=hide hidn
 have HIR:Hid (zbw k s bs id=if k=1 then id.take 4++([0,0]++(id.drop 4++R)) else if k=2∨k=7 then zd3 k s++(R++(be 2 n++id)) else if k=3∨k=4∨k=5 then R++id else R):=by
  unfold zbw
  rw [hR,hlen]
  exact hide rfl
 have W0:Hid (Below w.heap.size w (w.alloc (.cells (tunC lf k l s bs (.slice A n c)) 157))):=hide ((Below.refl _ _).alloc (Nat.le_refl _) _)
 clear hl hA hlen hr hm16 hR hidn
 go_enter Tryz.func187,Tryz.ntmps187
 go_wp2_with (with_reducible refine zhF rfl (.tmp 4) rfl w.heap.size rfl HN.out HL.out ?_)
 refine (zdg _ s bs HL.out).mono ?_
 rw [HR.out]
 rintro e w1 ⟨v1,rfl,ho1,hb1⟩
 obtain ⟨B1,d1,rfl,hd1,_⟩:=zag ho1
 have c1':w1.cell? ⟨w.heap.size,1,none⟩=some (.int .i64 k):=((HN.out.over hb1).cell 1).trans c1
 have c20':w1.cell? ⟨w.heap.size,20,none⟩=some (.slice A n c):=((HN.out.over hb1).cell 20).trans c20
 have ID1:Hid (IdAt w w1 lf k l s bs A n c hi id B1 R.length d1 R):=hide ⟨HN.out.over hb1,HA.out.below ((W0.out.trans (hb1.mono (by simp))).mono hh),zaA ho1 (by simp),zaa W0.out hb1 (Nat.le_refl _)⟩
 have hz1':w.heap.size+1≤w1.heap.size:=by have:=hb1.size;simpa using this
 clear c1 c20 ho1 hb1
 by_cases g2:k=2∨k=7
 ·have hv:zbw k s bs id=zd3 k s++(R++(be 2 n++id)):=by rw [HIR.out];rcases g2 with rfl | rfl <;> rfl
  have HV:=hide hv
  clear hv
  have e1:(k==1)=false:=beq_eq_false_iff_ne.2 (by omega)
  obtain ⟨p,e2⟩:∃ p,(k==2)=p:=⟨_,rfl⟩
  have e7:(k==7)=!p:=by rw [← e2];rcases g2 with rfl | rfl <;> rfl
  clear g2 hk
  cases p
  all_goals
   go_wp2_with fail
   refine wp_region_held_drew (S:=fun x=>IdAt w x lf k l s bs A n c hi id B1 R.length d1 R) (by kernel_rfl) ID1.out.drew (fun hHeld=>?_)
   refine rgV 0 (.agg (tunC lf k l s bs (.slice A n c))) ?_ ?_
   ·(intro w' hSw;exact zlf (.tmp 1) rfl w.heap.size rfl hSw.blk HL.out)
   refine rgT 2 ?_
   refine rgT 4 ?_
   refine rgK 5 (fun w' hSw=>(hSw.blk.cell 20).trans (zeN lf k l s _ HL.out)) ?_
   refine rgT 6 ?_
   have ID2:=hide hHeld
   refine zal (i:=1) rfl (by kernel_rfl) (by rfl) (zrl _ lf k l s bs (.slice A n c) HL.out HS.out) (fun w=>by kernel_rfl) ?_
   rintro e w2 ⟨v2,rfl,ho2,hb2⟩
   refine ⟨_,rfl,hHeld.on hh hb2,fun hHeld=>?_⟩
   refine rgN ?_
   obtain ⟨v3,w3,hrun,ho3,hg3,_⟩:=zeF (P:=Tryz.prog) w2 w1.drew.heap.size 22 22 5 i0 Tryz.underlying22 hi0 hz0 hz1 hz2 v2 4 (zd3 k s) ho2 (w.heap.size+1) w2.heap.size B1 R.length d1 R (At.own hHeld.row) (by have:=HM.out;omega) hb2.size
   have hb3:Below w1.drew.heap.size w1.drew w3:=hb2.grown hg3 hb2.size (fun g hg=>(ho2.lt g hg).1)
   refine zaE (i:=3) (v:=v3) rfl (by kernel_rfl) (by rfl) (zbT (.tmp 30) (.tmp 31) _ _ _ rfl rfl rfl rfl hrun) (ID2.out.on hh hb3) (fun hHeld=>?_)
   refine rgN ?_
   obtain ⟨A3,c3,rfl,_,_⟩:=zag ho3
   have HO3:=hide ho3
   have HB3:=hide hb3
   clear ho2 hb2 ho3 hg3 hb3 hrun
   refine zal (i:=7) rfl (by kernel_rfl) (by rfl) (ziO _ w1.drew.heap.size w3.heap.size A3 (4+R.length) c3 (zd3 k s++R) (At.own HO3.out) (Nat.le_refl _) (by have:=HM.out;omega) n 2 (by decide) (by decide) (by have:=HIN.out;omega)) (fun w=>by kernel_rfl) ?_
   rintro e w4 ⟨v4,rfl,ho4,hb4⟩
   refine ⟨_,rfl,hHeld.on hh hb4,fun hHeld=>?_⟩
   refine rgN ?_
   refine rgT 8 ?_
   refine rgT 9 ?_
   refine rgT 10 ?_
   refine rgT 11 ?_
   refine wpAnyH_done (by kernel_rfl) ?_ _
   obtain ⟨A4,c4,rfl,_,_⟩:=zag ho4
   have HO4:=hide ho4
   have HB4:=hide hb4
   have ID4:=hide hHeld
   have c20':w4.cell? ⟨w.heap.size,20,none⟩=some (.slice A n c):=(hHeld.blk.cell 20).trans (zeN lf k l s _ HL.out)
   have hz3:w.heap.size≤w3.heap.size:=Nat.le_trans (by omega:w.heap.size≤w1.heap.size) HB3.out.size
   clear ho4 hb4 hHeld
   go_wp2_with (at_builtin;go_must (refine zap _ rfl (.tmp 39) (.tmp 41) _ rfl w3.heap.size 5 i0 Tryz.underlying22 hi0 hz0 hz1 hz2 (.slice A4 (4+R.length+2) c4) (4+R.length+2) (zd3 k s++R++be 2 n) rfl HO4.out 0 hi A n c id rfl ID4.out.id_ (by have:=HM.out;have:=HIN.out;omega) HB4.out.size ?_);intro v5 w5 ho5 hg5 ha5;have HO5:=hide ho5;have HG5:=hide hg5;clear ho5 hg5 ha5)
   go_ret
   refine ⟨_,rfl,?_,ID4.out.bel.grown HG5.out ID4.out.bel.size (fun g hg=>Nat.le_trans hz3 (HO4.out.lt g hg).1)⟩
   have hvl:zbw k s bs id=zd3 k s++R++be 2 n++id:=by rw [HV.out];simp
   have hvn:(zd3 k s++R++be 2 n++id).length=4+R.length+2+n:=by rw [List.length_append,List.length_append,List.length_append,zcl,HLEN.out];rfl
   rw [hvl,hvn]
   exact zaA HO5.out hz3
 by_cases g3:k=3∨k=4∨k=5
 ·have hv:zbw k s bs id=R++id:=by rw [HIR.out];rcases g3 with rfl | rfl | rfl <;> rfl
  have HV:=hide hv
  clear hv
  clear g2 hk
  rcases g3 with rfl | rfl | rfl
  all_goals
   go_wp2_with (at_builtin;go_must (refine zap _ rfl (.tmp 39) (.tmp 41) _ rfl (w.heap.size+1) 5 i0 Tryz.underlying22 hi0 hz0 hz1 hz2 (.slice B1 R.length d1) R.length R rfl ID1.out.row 0 hi A n c id rfl ID1.out.id_ (by have:=HM.out;have:=HIN.out;omega) hz1' ?_);intro v3 w3 ho3 hg3 ha3;have HO3:=hide ho3;have HG3:=hide hg3;clear ho3 hg3 ha3)
   go_ret
   refine ⟨_,rfl,?_,ID1.out.bel.grown HG3.out ID1.out.bel.size (fun g hg=>by have:=(ID1.out.row.lt g hg).1;omega)⟩
   rw [HV.out,List.length_append,HLEN.out]
   exact zaA HO3.out (by omega)
 by_cases g1:k=1
 ·subst g1
  have hn6:n=6:=by
   have h:=HID.out
   unfold zdf at h
   rw [if_neg (by decide),if_pos rfl,decide_eq_true_eq] at h
   rw [← HLEN.out]
   exact h.2
  subst hn6
  obtain ⟨ab,ao,rfl,_,_,_⟩:=ID1.out.id_.2 (by decide)
  have hv:zbw 1 s bs id=[id.take 4,[0,0],id.drop 4,R].flatten:=by rw [HIR.out];simp
  have HV:=hide hv
  clear hv
  have hc4:(4:Int)≤(c:Int):=by omega
  have hc5:¬ c=4:=by omega
  have HTL:Hid (∀ x:World,At x 0 hi (some ⟨ab,ao,none⟩) 6 id→At x 0 hi (some ⟨ab,ao+4,none⟩) 2 (id.drop 4)):=hide (fun x h=>by
   have h2:=h.tail (k:=4) (c:=100) (by decide) (by decide)
   rw [if_neg (by decide)] at h2
   simpa [zcy] using h2)
  go_wp2_with fail
  refine wp_region_held_drew (S:=fun x=>IdAt w x lf 1 l s bs (some ⟨ab,ao,none⟩) 6 c hi id B1 R.length d1 R) (by kernel_rfl) ID1.out.drew (fun hHeld=>?_)
  refine rgT 0 ?_
  refine rgK 1 (fun w' hSw=>(hSw.blk.cell 20).trans (zeN lf 1 l s _ HL.out)) ?_
  refine rgT 2 ?_
  refine rgT 4 ?_
  refine rgK 5 (fun w' hSw=>(hSw.blk.cell 20).trans (zeN lf 1 l s _ HL.out)) ?_
  refine rgT 6 ?_
  refine rgT 7 ?_
  refine zaE (i:=3) (v:=(.slice (some ⟨w1.heap.size,0,none⟩) 2 2)) rfl (by kernel_rfl) (by rfl) (ztn (.const (.int .i64 2)) (.const (.int .i64 2)) 22 rfl 5 i0 Tryz.underlying22 hi0 hz0 hz1 hz2 2 2 2 rfl rfl rfl (Nat.le_refl _) (by decide)) (hHeld.alloc hh _) (fun hHeld=>?_)
  refine rgN ?_
  have PZ:Hid (At (w1.drew.alloc (.cells (madeCells #[.int .u8 0] 2) 5)) 0 (w1.drew.alloc (.cells (madeCells #[.int .u8 0] 2) 5)).heap.size (some ⟨w1.heap.size,0,none⟩) 2 [0,0]):=hide ((zvS w1.drew 2 [0,0] rfl (by decide)).more (Nat.zero_le _) (by simp))
  generalize hx2:w1.drew.alloc (.cells (madeCells #[.int .u8 0] 2) 5)=x2 at PZ hHeld ⊢
  clear hx2
  refine zaE (w':=x2.alloc (.cells #[.slice (some ⟨ab,ao,none⟩) 4 c,.slice (some ⟨w1.heap.size,0,none⟩) 2 2,.slice (some ⟨ab,ao+4,none⟩) 2 (c-4),.slice B1 R.length d1] 22)) (i:=8) (v:=.slice (some ⟨x2.heap.size,0,none⟩) 4 4) rfl (by kernel_rfl) (by rfl) ?_ (hHeld.alloc hh _) (fun hHeld=>?_)
  ·(go_simp <;> with_reducible rfl)
  refine rgN ?_
  have hid4:At (x2.alloc (.cells #[.slice (some ⟨ab,ao,none⟩) 4 c,.slice (some ⟨w1.heap.size,0,none⟩) 2 2,.slice (some ⟨ab,ao+4,none⟩) 2 (c-4),.slice B1 R.length d1] 22)) 0 hi (some ⟨ab,ao,none⟩) 6 id:=hHeld.id_
  have hh3:hi≤(x2.alloc (.cells #[.slice (some ⟨ab,ao,none⟩) 4 c,.slice (some ⟨w1.heap.size,0,none⟩) 2 2,.slice (some ⟨ab,ao+4,none⟩) 2 (c-4),.slice B1 R.length d1] 22)).heap.size:=Nat.le_trans hh hHeld.bel.size
  have RW:=zrW (c1:=c) (c2:=2) (c3:=c-4) (c4:=d1) ((hid4.head (k:=4) (by decide)).more (Nat.le_refl _) hh3) ((PZ.out.alloc (Nat.le_refl _) (.cells #[.slice (some ⟨ab,ao,none⟩) 4 c,.slice (some ⟨w1.heap.size,0,none⟩) 2 2,.slice (some ⟨ab,ao+4,none⟩) 2 (c-4),.slice B1 R.length d1] 22)).more (Nat.le_refl _) (by simp)) ((HTL.out _ hid4).more (Nat.le_refl _) hh3) ((At.own hHeld.row).more (Nat.zero_le _) (Nat.le_refl _))
  have hsum:[id.take 4,[0,0],id.drop 4,R].flatten.length≤140737488351000:=by have h1:=HLEN.out;have h2:=HM.out;simp;omega
  have hz4:=hHeld.bel.size
  refine zal (i:=9) rfl (by kernel_rfl) (by rfl) (zcG _ x2.heap.size 22 _ _ 4 rfl (by decide) (Blk.new x2 _ _) RW hsum) (fun w=>by kernel_rfl) ?_
  rintro e w4 ⟨v4,rfl,ho4,hb4⟩
  refine ⟨_,rfl,hHeld.on hh hb4,fun hHeld=>?_⟩
  refine rgN ?_
  have HO4:=hide (zaA ho4 hz4)
  have HB4:=hide hHeld.bel
  clear ho4 hb4 hid4 hh3 RW hsum hz4
  refine rgT 10 ?_
  refine wpAnyH_done (by kernel_rfl) ?_ _
  go_wp2
  go_ret
  exact ⟨_,rfl,by rw [HV.out];exact HO4.out,HB4.out⟩
 have hv:zbw k s bs id=R:=by rw [HIR.out];rcases (show k=0∨k=6 by omega) with rfl | rfl <;> rfl
 have HV:=hide hv
 clear hv
 rcases (show k=0∨k=6 by omega) with rfl | rfl
 all_goals
  go_wp2
  go_ret
  refine ⟨_,rfl,?_,ID1.out.bel⟩
  rw [HV.out]
  exact zaA ID1.out.row (by omega)
end
section
open Go.RowKit
theorem ztB (w:World) (lf:Bool) (k l s:Int) (bs:List UInt8) (A:Option Addr) (n c hi:Nat) (id:List UInt8) (hA:At w 0 hi A n id) (hh:hi≤w.heap.size) (hl:bs.length=16)
  (hr:zcu ⟨lf,k,l,s,bs,id⟩=false) :
  Calls Tryz.prog 169 #[.agg (tunC lf k l s bs (.slice A n c))] w fun e w'=>e = .returned (.tuple #[.slice none 0 0,.int .i64 1])∧Below w.heap.size w w':=by
 have HL:=hide hl
 have HR:=hide hr
 have HN:=hide (Blk.new w 157 (tunC lf k l s bs (.slice A n c)))
 have HA:=hide (hA.alloc hh (.cells (tunC lf k l s bs (.slice A n c)) 157))
 have W0:Hid (Below w.heap.size w (w.alloc (.cells (tunC lf k l s bs (.slice A n c)) 157))):=hide ((Below.refl _ _).alloc (Nat.le_refl _) _)
 have hz:=hide (Nat.le_trans hh W0.out.size)
 clear hA hl hr
 go_enter Tryz.func169,Tryz.ntmps169
 go_wp2_with (with_reducible refine zbF rfl (.tmp 1) rfl w.heap.size rfl HN.out HL.out ?_)
 refine (zfj _ lf k l s bs A n c 0 hi id HA.out hz.out HL.out).mono ?_
 rw [HR.out]
 rintro e w1 ⟨rfl,hb1⟩
 have W1:=hide (zaa W0.out hb1 (Nat.le_refl _))
 clear hb1
 go_wp2
 go_ret2
 exact ⟨rfl,W1.out⟩
theorem zwu {w:World} {g:Nat} {t:TypeId} {cs:Array Value} (a b:UInt8) (h:Blk w g t cs) (hc:cs=#[.int .u8 (a.toNat:Int),.int .u8 (b.toNat:Int)]):At w 0 (g+1) (some ⟨g,0,none⟩) 2 [a,b]:=by
 subst hc
 refine ⟨rfl,fun _=>⟨_,0,rfl,Nat.zero_le _,by omega,fun j u hu=>?_⟩⟩
 rw [Nat.zero_add,h.cell j]
 match j,hu with
 | 0,hu=>simp at hu;subst hu;rfl
 | 1,hu=>simp at hu;subst hu;rfl
set_option maxRecDepth 20000 in
set_option maxHeartbeats 8000000 in
theorem zkm (w:World) (lf:Bool) (k l s:Int) (bs:List UInt8) (A:Option Addr) (n c hi:Nat) (id:List UInt8) (hA:At w 0 hi A n id) (hh:hi≤w.heap.size) (hl:bs.length=16) (hc:n≤c)
  (hr:zcu ⟨lf,k,l,s,bs,id⟩=true) :
  Calls Tryz.prog 169 #[.agg (tunC lf k l s bs (.slice A n c))] w fun e w'=>∃ v,e = .returned (.tuple #[v,.int .i64 0]) ∧
   w'.ownsRow w.heap.size 5 1 v (ze9 ⟨lf,k,l,s,bs,id⟩).length (bvs (ze9 ⟨lf,k,l,s,bs,id⟩))∧Below w.heap.size w w':=by
 have HR:=hide hr
 unfold zcu at hr
 simp only [Bool.and_eq_true,decide_eq_true_eq] at hr
 obtain ⟨⟨hl0,hl1⟩,hra,hid⟩:=hr
 have hk:=zki hid
 obtain ⟨L,rfl⟩:∃ L:Nat,l=(L:Int):=⟨l.toNat,by omega⟩
 have HL:=hide hl
 have HRA:=hide hra
 have HID:=hide hid
 have HC:=hide hc
 have HL1:Hid (L≤1048575):=hide (by omega)
 have HN:=hide (Blk.new w 157 (tunC lf k L s bs (.slice A n c)))
 have HA:=hide (hA.alloc hh (.cells (tunC lf k L s bs (.slice A n c)) 157))
 have W0:Hid (Below w.heap.size w (w.alloc (.cells (tunC lf k L s bs (.slice A n c)) 157))):=hide ((Below.refl _ _).alloc (Nat.le_refl _) _)
 have hz:=hide (Nat.le_trans hh W0.out.size)
 have HID6:Hid (id.length≤64):=hide (by
  unfold zdf at hid
  rcases hk with rfl | rfl | rfl | rfl | rfl | rfl | rfl | rfl <;> simp at hid
  all_goals first | omega | (obtain ⟨h1,h2⟩:=hid;first | (subst h2;simp) | (have:=zdb hra;omega)))
 have HLN:Hid ((zbw k s bs id).length≤1000):=hide (by
  have h1:=zev hl hra
  have h2:=zdb hra
  have h3:=HID6.out
  unfold zbw
  rcases hk with rfl | rfl | rfl | rfl | rfl | rfl | rfl | rfl <;> simp [zd3,zcl] <;> omega)
 clear hA hl hra hid hl0 hl1 hc
 obtain ⟨K,rfl⟩:∃ K:Nat,k=(K:Int):=⟨k.toNat,by omega⟩
 have hkI:(K:Int)<256:=by omega
 have HKB:Hid ((UInt8.ofNat K).toNat=K):=hide (by simp;omega)
 clear hk
 cases lf
 ·have HV:Hid (ze9 ⟨false,(K:Int),L,s,bs,id⟩=[[0,UInt8.ofNat K],zdu L false,zbw (K:Int) s bs id].flatten):=hide (by simp [ze9,zqL])
  have HCL:Hid ((zdu L false).length=3):=hide (by unfold zdu;rw [zcl])
  go_enter Tryz.func169,Tryz.ntmps169
  go_wp2_with (with_reducible refine zbF rfl (.tmp 1) rfl w.heap.size rfl HN.out HL.out ?_)
  refine (zfj _ false (K:Int) L s bs A n c 0 hi id HA.out hz.out HL.out).mono ?_
  rw [HR.out]
  rintro e w1 ⟨rfl,hb1⟩
  have B1:=hide (HN.out.over hb1)
  have k0:=(B1.out.cell 0).trans (zoz false (K:Int) L s (.slice A n c) bs)
  have k1:=(B1.out.cell 1).trans (zik false (K:Int) L s (.slice A n c) bs)
  have k2:=(B1.out.cell 2).trans (zlQ false (K:Int) L s (.slice A n c) bs)
  have W1:=hide (zaa W0.out hb1 (Nat.le_refl _))
  have A1:=hide (HA.out.below (hb1.mono hz.out))
  have hgt:w.heap.size<w1.heap.size:=B1.out.lt
  clear hb1
  go_wp2_with fail
  refine (zgz _ L false HL1.out).mono ?_
  rintro e w2 ⟨v2,rfl,ho2,hb2⟩
  obtain ⟨A2,c2,rfl,_,_⟩:=zag ho2
  have hw1:hi≤w1.heap.size:=Nat.le_trans hh (Nat.le_of_lt hgt)
  have hw2:w1.heap.size+1≤w2.heap.size:=by have:=hb2.size;simpa using this
  have HH:=hide (zwu 0 (UInt8.ofNat K) ((Blk.new w1 5 #[.int .u8 0,.int .u8 (K:Int)]).over hb2) (by rw [HKB.out];rfl))
  have B2:=hide ((B1.out.alloc (.cells #[.int .u8 0,.int .u8 (K:Int)] 5)).over hb2)
  have AI2:=hide ((A1.out.alloc hw1 (.cells #[.int .u8 0,.int .u8 (K:Int)] 5)).below (hb2.mono (Nat.le_trans hw1 (by simp))))
  have W2:=hide (zaa (W1.out.alloc W1.out.size (.cells #[.int .u8 0,.int .u8 (K:Int)] 5)) hb2 (Nat.le_refl _))
  have HO2:=hide ho2
  have hz2:hi≤w2.heap.size:=by omega
  clear hb2 ho2 k0 k1 k2
  go_wp2_with (with_reducible refine zbF rfl (.tmp 1) rfl w.heap.size rfl B2.out HL.out ?_)
  refine (zfz _ false (K:Int) L s bs A n c hi id AI2.out hz2 HL.out HC.out HRA.out HID.out).mono ?_
  rintro e w3 ⟨v3,rfl,ho3,hb3⟩
  obtain ⟨A3,c3,rfl,_,_⟩:=zag ho3
  have hw3:=hb3.size
  have W3:=hide (zaa W2.out hb3 (Nat.le_refl _))
  have RW:=rows3 (c1:=2) (c2:=c2) (c3:=c3) (((HH.out.below (hb3.mono hw2)).alloc (by omega) (.cells #[.slice (some ⟨w1.heap.size,0,none⟩) 2 2,.slice A2 3 c2,.slice A3 (zbw (K:Int) s bs id).length c3] 22)).more (Nat.le_refl _) (show w1.heap.size+1≤(w3.alloc (.cells #[.slice (some ⟨w1.heap.size,0,none⟩) 2 2,.slice A2 3 c2,.slice A3 (zbw (K:Int) s bs id).length c3] 22)).heap.size by simp;omega))
   (((At.own (za6 HO2.out hb3)).alloc (Nat.le_refl _) (.cells #[.slice (some ⟨w1.heap.size,0,none⟩) 2 2,.slice A2 3 c2,.slice A3 (zbw (K:Int) s bs id).length c3] 22)).more (Nat.zero_le _) (by simp)) (((At.own ho3).alloc (Nat.le_refl _) (.cells #[.slice (some ⟨w1.heap.size,0,none⟩) 2 2,.slice A2 3 c2,.slice A3 (zbw (K:Int) s bs id).length c3] 22)).more (Nat.zero_le _) (by simp))
  have hsum:[[0,UInt8.ofNat K],zdu L false,zbw (K:Int) s bs id].flatten.length≤140737488351000:=by have h1:=HCL.out;have h2:=HLN.out;simp;omega
  have HRW:=hide RW
  have HSUM:=hide hsum
  clear ho3 hb3 RW hsum
  go_wp2_with fail
  refine (zcG _ w3.heap.size 22 _ [[0,UInt8.ofNat K],zdu L false,zbw (K:Int) s bs id] 3 rfl (by decide) (Blk.new w3 _ _) HRW.out HSUM.out).mono ?_
  rintro e w4 ⟨v4,rfl,ho4,hb4⟩
  have HO4:=hide ho4
  have W4:=hide (zaa (W3.out.alloc W3.out.size (.cells #[.slice (some ⟨w1.heap.size,0,none⟩) 2 2,.slice A2 3 c2,.slice A3 (zbw (K:Int) s bs id).length c3] 22)) hb4 (Nat.le_refl _))
  have hz4:w.heap.size≤(w3.alloc (.cells #[.slice (some ⟨w1.heap.size,0,none⟩) 2 2,.slice A2 3 c2,.slice A3 (zbw (K:Int) s bs id).length c3] 22)).heap.size:=by simp;omega
  clear ho4 hb4
  go_wp2
  go_ret2
  exact ⟨_,rfl,by rw [HV.out];exact zaA HO4.out hz4,W4.out⟩
 ·have HV:Hid (ze9 ⟨true,(K:Int),L,s,bs,id⟩=[[1,UInt8.ofNat K],zdu L false,zbw (K:Int) s bs id].flatten):=hide (by simp [ze9,zqL])
  have HCL:Hid ((zdu L false).length=3):=hide (by unfold zdu;rw [zcl])
  go_enter Tryz.func169,Tryz.ntmps169
  go_wp2_with (with_reducible refine zbF rfl (.tmp 1) rfl w.heap.size rfl HN.out HL.out ?_)
  refine (zfj _ true (K:Int) L s bs A n c 0 hi id HA.out hz.out HL.out).mono ?_
  rw [HR.out]
  rintro e w1 ⟨rfl,hb1⟩
  have B1:=hide (HN.out.over hb1)
  have k0:=(B1.out.cell 0).trans (zoz true (K:Int) L s (.slice A n c) bs)
  have k1:=(B1.out.cell 1).trans (zik true (K:Int) L s (.slice A n c) bs)
  have k2:=(B1.out.cell 2).trans (zlQ true (K:Int) L s (.slice A n c) bs)
  have W1:=hide (zaa W0.out hb1 (Nat.le_refl _))
  have A1:=hide (HA.out.below (hb1.mono hz.out))
  have hgt:w.heap.size<w1.heap.size:=B1.out.lt
  clear hb1
  go_wp2_with fail
  refine (zgz _ L false HL1.out).mono ?_
  rintro e w2 ⟨v2,rfl,ho2,hb2⟩
  obtain ⟨A2,c2,rfl,_,_⟩:=zag ho2
  have hw1:hi≤w1.heap.size:=Nat.le_trans hh (Nat.le_of_lt hgt)
  have hw2:w1.heap.size+1≤w2.heap.size:=by have:=hb2.size;simpa using this
  have HH:=hide (zwu 1 (UInt8.ofNat K) ((Blk.new w1 5 #[.int .u8 1,.int .u8 (K:Int)]).over hb2) (by rw [HKB.out];rfl))
  have B2:=hide ((B1.out.alloc (.cells #[.int .u8 1,.int .u8 (K:Int)] 5)).over hb2)
  have AI2:=hide ((A1.out.alloc hw1 (.cells #[.int .u8 1,.int .u8 (K:Int)] 5)).below (hb2.mono (Nat.le_trans hw1 (by simp))))
  have W2:=hide (zaa (W1.out.alloc W1.out.size (.cells #[.int .u8 1,.int .u8 (K:Int)] 5)) hb2 (Nat.le_refl _))
  have HO2:=hide ho2
  have hz2:hi≤w2.heap.size:=by omega
  clear hb2 ho2 k0 k1 k2
  go_wp2_with (with_reducible refine zbF rfl (.tmp 1) rfl w.heap.size rfl B2.out HL.out ?_)
  refine (zfz _ true (K:Int) L s bs A n c hi id AI2.out hz2 HL.out HC.out HRA.out HID.out).mono ?_
  rintro e w3 ⟨v3,rfl,ho3,hb3⟩
  obtain ⟨A3,c3,rfl,_,_⟩:=zag ho3
  have hw3:=hb3.size
  have W3:=hide (zaa W2.out hb3 (Nat.le_refl _))
  have RW:=rows3 (c1:=2) (c2:=c2) (c3:=c3) (((HH.out.below (hb3.mono hw2)).alloc (by omega) (.cells #[.slice (some ⟨w1.heap.size,0,none⟩) 2 2,.slice A2 3 c2,.slice A3 (zbw (K:Int) s bs id).length c3] 22)).more (Nat.le_refl _) (show w1.heap.size+1≤(w3.alloc (.cells #[.slice (some ⟨w1.heap.size,0,none⟩) 2 2,.slice A2 3 c2,.slice A3 (zbw (K:Int) s bs id).length c3] 22)).heap.size by simp;omega))
   (((At.own (za6 HO2.out hb3)).alloc (Nat.le_refl _) (.cells #[.slice (some ⟨w1.heap.size,0,none⟩) 2 2,.slice A2 3 c2,.slice A3 (zbw (K:Int) s bs id).length c3] 22)).more (Nat.zero_le _) (by simp)) (((At.own ho3).alloc (Nat.le_refl _) (.cells #[.slice (some ⟨w1.heap.size,0,none⟩) 2 2,.slice A2 3 c2,.slice A3 (zbw (K:Int) s bs id).length c3] 22)).more (Nat.zero_le _) (by simp))
  have hsum:[[1,UInt8.ofNat K],zdu L false,zbw (K:Int) s bs id].flatten.length≤140737488351000:=by have h1:=HCL.out;have h2:=HLN.out;simp;omega
  have HRW:=hide RW
  have HSUM:=hide hsum
  clear ho3 hb3 RW hsum
  go_wp2_with fail
  refine (zcG _ w3.heap.size 22 _ [[1,UInt8.ofNat K],zdu L false,zbw (K:Int) s bs id] 3 rfl (by decide) (Blk.new w3 _ _) HRW.out HSUM.out).mono ?_
  rintro e w4 ⟨v4,rfl,ho4,hb4⟩
  have HO4:=hide ho4
  have W4:=hide (zaa (W3.out.alloc W3.out.size (.cells #[.slice (some ⟨w1.heap.size,0,none⟩) 2 2,.slice A2 3 c2,.slice A3 (zbw (K:Int) s bs id).length c3] 22)) hb4 (Nat.le_refl _))
  have hz4:w.heap.size≤(w3.alloc (.cells #[.slice (some ⟨w1.heap.size,0,none⟩) 2 2,.slice A2 3 c2,.slice A3 (zbw (K:Int) s bs id).length c3] 22)).heap.size:=by simp;omega
  clear ho4 hb4
  go_wp2
  go_ret2
  exact ⟨_,rfl,by rw [HV.out];exact zaA HO4.out hz4,W4.out⟩
end
end Go.Proofs.YtjindligkhdddaaGreatDoor
