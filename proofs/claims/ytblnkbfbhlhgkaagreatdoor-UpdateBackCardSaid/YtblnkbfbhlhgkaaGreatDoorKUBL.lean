/-
  Read of package attr over what Write wrote of right attributes: all of it comes back. The conditions: the table stands, and each value can be said and written (Sayable).
  What a value says where it says an address or communities, in whatever memory. No condition.
  What a value says where it says a row of addresses, in whatever memory. No condition.
  What parts, read and Same of package pmsi do, in whatever memory. No condition beyond sizes that fit memory.
  What read of package pmsi does, in whatever memory. No condition beyond sizes that fit memory.
  What bytes.Equal, and Same and Parse of package pmsi, do, in whatever memory. No condition beyond sizes that fit memory.
-/
import Derived.Test.YtblnkbfbhlhgkaaGreatDoorKUAS
set_option linter.unusedVariables false
set_option linter.unusedSimpArgs false
namespace Go.Proofs.YtblnkbfbhlhgkaaGreatDoor
section
open Go.RowKit
theorem zpY:zeb zcf:=⟨by decide,by decide,by decide,by decide,.inl ⟨rfl,rfl⟩,by decide,by decide,by decide⟩
theorem zlW {i:Item} {x:Ats} (hx:zeb x) (hi:i.Ok):zeb (i.say x):=by
 obtain ⟨h1,h2,h3,h4,h5,h6,h7,h8⟩:=hx
 cases i with
 | origin o=>exact ⟨hi,h2,h3,h4,h5,h6,h7,h8⟩
 | path p=>exact ⟨h1,h2,h3,hi,h5,h6,h7,h8⟩
 | med m=>exact ⟨h1,⟨by have:=hi.1;show -1≤m;omega,hi.2⟩,h3,h4,h5,h6,h7,h8⟩
 | pref m=>exact ⟨h1,h2,⟨by have:=hi.1;show -1≤m;omega,hi.2⟩,h4,h5,h6,h7,h8⟩
 | orig s b=>exact ⟨h1,h2,h3,h4,.inr hi.2,h6,h7,h8⟩
 | clus l=>exact ⟨h1,h2,h3,h4,h5,⟨hi.2.1,hi.2.2.2⟩,h7,h8⟩
 | exts l=>exact ⟨h1,h2,h3,h4,h5,h6,hi.2,h8⟩
 | tun t=>exact ⟨h1,h2,h3,h4,h5,h6,h7,⟨Nat.le_refl 1,by show (zbZ t&&true)=true;rw [hi.2];rfl⟩⟩
theorem zj6:∀ {l:List Item} {x:Ats},zeb x→(∀ i∈l,i.Ok)→zeb (zdH l x)
 | [],x,hx,_=>hx
 | i::r,x,hx,h=>zj6 (l:=r) (zlW hx (h i (by simp))) (fun j hj=>h j (by simp [hj]))
end
section
open Go.RowKit
set_option maxRecDepth 20000 in
set_option maxHeartbeats 2000000 in
theorem zip (w:World) (lo g:Nat) (bs:List UInt8) (bad:Bool) (h:Rd w lo g bs bad) :
  Calls Tryz.prog 203 #[.pointer (some ⟨g,0,none⟩)] w fun e w'=>e = .returned (.agg (zau (ofS (zab bs 4)) (ofB (zab bs 4))))∧Rd w' lo g (zae bs 4) (bad||!zbo bs 4)∧w.grownBy w' (some g):=by
 have hgl:=h.lt
 have RES:=hide (Blk.new w 25 zAdr)
 have R0:Hid (Rd (w.alloc (.cells zAdr 25)) lo g bs bad):=hide (h.keep (zaJ (zad w none) _) (by simp))
 have G0:Hid (w.grownBy (w.alloc (.cells zAdr 25)) (some g)):=hide (zaJ (zad w _) _)
 have hq:w.heap.size+1≤(w.alloc (.cells zAdr 25)).heap.size:=by simp
 clear h
 go_enter Tryz.func203,Tryz.ntmps203
 go_wp2_with fail
 generalize hw0:w.alloc (.cells zAdr 25)=w0 at *
 clear hw0
 refine (zaZ w0 lo g bs bad R0.out 4 (by decide)).mono ?_
 rintro e w1 ⟨v1,rfl,ho1,hr1,hg1⟩
 obtain ⟨A1,c1,rfl,_,_⟩:=zac ho1
 have O1:=hide ho1
 have R1:=hide hr1
 have B1:=hide (RES.out.grown hg1 (fun e=>by injection e;omega))
 have G1:=hide (zaj G0.out hg1)
 have hq1:=Nat.le_trans hq hg1.size
 clear ho1 hr1 hg1 R0 RES G0 hq
 go_wp2_with fail
 refine (ze4 w1 _ _ A1 _ c1 _ (At.own O1.out) (Nat.le_refl _)).mono ?_
 obtain ⟨S,hS⟩:∃ S,ofS (zab bs 4)=S:=⟨_,rfl⟩
 obtain ⟨BB,hB⟩:∃ BB,ofB (zab bs 4)=BB:=⟨_,rfl⟩
 have hbl:BB.length=16:=by rw [← hB];exact zbi _
 rw [hS,hB]
 rintro e w2 ⟨rfl,hb2⟩
 have R2:=hide (R1.out.keep (za0 hb2 none) (by simp))
 have B2:=hide (B1.out.over hb2)
 have G2:=hide (zaj G1.out (za0 hb2 _))
 have hq2:=Nat.le_trans hq1 hb2.size
 have NEW:=hide (Blk.new w2 25 zAdr)
 have HSS:=hide hS
 have HBB:=hide hB
 clear hb2 R1 B1 G1 O1 hS hB
 go_wp2_with (refine zaw rfl (.tmp 3) (.tmp 9) rfl w2.heap.size rfl rfl hbl NEW.out rfl ?_;intro w3 hb3 hg3;have B3:=hide hb3;have G3:=hide hg3;clear hb3 hg3;refine Hid.out ?_)
 refine hide ?_
 have hg23:w2.grownBy w3 none:=⟨G3.out.os,G3.out.tape,G3.out.output,Nat.le_trans (by simp) G3.out.size,fun k hk _=>(G3.out.block k (by simp;omega) (fun e=>by injection e;omega)).trans (Below.heap_alloc w2 _ k hk)⟩
 have R3:=hide (R2.out.keep hg23 (by simp))
 have C3:=hide (B2.out.grown hg23 (by simp))
 have G23:=hide (zaj G2.out (show w2.grownBy w3 (some g) from ⟨hg23.os,hg23.tape,hg23.output,hg23.size,fun k hk _=>hg23.block k hk (by simp)⟩))
 clear hg23 G3 NEW R2 B2 G2
 go_wp2_with (first
  | (with_reducible refine zaL rfl (.tmp 3) rfl w2.heap.size rfl B3.out hbl ?_)
  | (refine zaw rfl (.tmp 2) (.tmp 11) rfl w.heap.size rfl rfl hbl C3.out rfl ?_;intro w4 hb4 hg4;have B4:=hide hb4;have G4:=hide hg4;clear hb4 hg4;refine Hid.out ?_))
 refine hide ?_
 go_wp2
 refine zl6 (p:=2) rfl rfl B4.out hbl rfl ?_
 refine ⟨by rw [HSS.out,HBB.out],R3.out.keep G4.out (fun k hk=>by injection hk;exact .inr (by omega)),zml G23.out G4.out (Nat.le_refl _)⟩
theorem ztp {w:World} {base n c:Nat} {A:Option Addr} {l:List B8} (hl:l.length=n) (h:w.ownsRow base 116 8 (.slice A n c) n (bvs (za8 l))):AtE w base w.heap.size A n l:=by
 refine ⟨hl,by rw [zdm,hl],fun hn=>?_⟩
 rcases h.2 with ⟨_,h2⟩ | ⟨g,cap,cur,h1,h2,h3,h4,h5,h6,h7⟩
 ·omega
 ·injection h1 with e1 e2 e3
  have hb:Blk w g 116 cur:=h3
  refine ⟨g,0,e1,h2,hb.lt,fun k u hu=>?_⟩
  rw [Nat.zero_add,hb.cell]
  have h8:(bvs (za8 l))[k]?=some (bv u):=by unfold bvs;rw [List.getElem?_map,hu];rfl
  rw [← h7,List.getElem?_take] at h8
  split at h8
  ·simpa using h8
  ·cases h8
end
section
open Go.RowKit
theorem zxm:(Tryz.prog.info? 25).map (fun i=>(i.zero.map (·.cells.size),i.size,i.bytes))=some (some 17,17,24):=by kernel_rfl
theorem zvj:∃ (i:TypeInfo) (z:Value),Tryz.prog.info? 25=some i∧i.zero=some z∧i.size=17∧i.bytes=24∧z.cells.size=17:=by
 have h:=zxm
 cases hq:Tryz.prog.info? 25 with
 | none=>rw [hq] at h;cases h
 | some i =>
  rw [hq] at h
  simp only [Option.map_some,Option.some.injEq,Prod.mk.injEq] at h
  cases hz:i.zero with
  | none=>rw [hz] at h;simp at h
  | some z =>
   rw [hz] at h
   simp at h
   exact ⟨i,z,rfl,hz,h.2.1,h.2.2,h.1⟩
theorem zvM:∃ z:Value,z.cells.size=17∧∀ w,(zeroValue 25).run Tryz.prog w = .ok z w:=⟨_,by kernel_rfl,Tryz.zeroValue25⟩
theorem zfZ {o:Oper} {a:Act} (w:World) (x:Operand) (ho:o.op = .buildSlice 26 1 #[(0,x)]) {s:Int} {b:List UInt8} (hl:b.length=16) (ex:a.eval x = .agg (zau s b)) :
  (execOp a.eval o).run Tryz.prog w = .ok (.value (.slice (some ⟨w.heap.size,0,none⟩) 1 1)) (w.alloc (.cells (zau s b) 25)):=by
 obtain ⟨z,hz,hz2⟩:=zvM
 have h:=zcl (P:=Tryz.prog) w 26 25 (zau s b) z Tryz.underlying26 (fun w=>Tryz.sizeOf25 w) hz2 hz (zcM s hl) (by decide) (by decide)
 unfold execOp
 simp only [ho,List.map_toArray,List.map_cons,List.map_nil,ex,Sem.run_bind,h,Result.andThen_ok,Sem.run_pure]
theorem zxn (x:Int × List UInt8):∀ u∈adL x,u.oneCell'=true:=fun u hu=>by
 simp only [adL,List.mem_cons] at hu
 rcases hu with rfl | hu
 ·rfl
 ·exact zcj _ u hu
theorem zfS (w:World) (base:Nat) (ty:TypeId) (v:Value) (n:Nat) (xs:List (Int × List UInt8)) (hown:w.ownsRow base 25 17 v n (zbd adL xs)) (lo hi':Nat) (A:Option Addr) (m c:Nat) (news:List (Int × List UInt8)) (hs:∀ x∈news,x.2.length=16) (hr:AtG adL w lo hi' A m news)
  (hb:n+m≤1000000000000) (hbase:base≤w.heap.size) :
  ∃ v' w',(Builtin.append_ #[26,26] ty #[v,.slice A m c]).run Tryz.prog w = .ok v' w'∧w'.ownsRow base 25 17 v' (n+m) (zbd adL (xs++news))∧w.grownBy w' v.ownBlock∧(v'.ownBlock=v.ownBlock∨v'.ownBlock=some w.heap.size):=by
 obtain ⟨i,z,hi,hz,h1,h2,h3⟩:=zvj
 exact zcB (P:=Tryz.prog) w base 26 ty 25 i z 24 Tryz.underlying26 hi hz h1 h2 h3 (by decide) v n xs hown lo hi' A m c news hr (fun y hy=>zeX (hs y hy)) (fun y hy=>zxn y) (by omega) (by unfold maxLen;omega) hbase
theorem zcs {a b c:World} {g:Nat} {row:Option Nat} (h:a.grownBy b (some g)) (k:b.grownBy c row) (hr:∀ q,row=some q→a.heap.size≤q):a.grownBy c (some g) :=
 ⟨k.os.trans h.os,k.tape.trans h.tape,k.output.trans h.output,Nat.le_trans h.size k.size,fun i hi hne=>(k.block i (Nat.lt_of_lt_of_le hi h.size) (fun e=>by have:=hr _ e.symm;omega)).trans (h.block i hi hne)⟩
theorem zs4 {l:List (Int × List UInt8)} {k:Nat} {x:Int × List UInt8} (h:l[k]?=some x):clB (l.drop k)=zav x.1 x.2++clB (l.drop (k+1)):=by
 obtain ⟨h1,h2⟩:=List.getElem?_eq_some_iff.1 h
 rw [List.drop_eq_getElem_cons h1,h2]
 rfl
theorem step4 {a r:List UInt8} (h:a.length=4):zab (a++r) 4=a∧zae (a++r) 4=r∧zbo (a++r) 4=true:=by
 have hs:zbo (a++r) 4=true:=by unfold zbo;rw [decide_eq_true_eq,List.length_append,h];omega
 refine ⟨?_,?_,hs⟩
 ·unfold zab
  rw [if_pos hs]
  show (a++r).take 4=a
  rw [← h,List.take_left']
  rfl
 ·unfold zae
  rw [if_pos hs]
  show (a++r).drop 4=r
  rw [← h,List.drop_left']
  rfl
set_option maxRecDepth 20000 in
set_option maxHeartbeats 3000000 in
theorem zsB (w:World) (lo g:Nat) (l:List (Int × List UInt8)) (h:Rd w lo g (clB l) false) (hsz:∀ x∈l,x.2.length=16) (hf:l.all (fun x=>four x.1 x.2)=true) (hl:l.length≤32) :
  Calls Tryz.prog 204 #[.pointer (some ⟨g,0,none⟩),.int .i64 32,.func (.func 203) #[] #[]] w fun e w'=>∃ A c,e = .returned (.slice A l.length c)∧w'.ownsRow w.heap.size 25 17 (.slice A l.length c) l.length (zbd adL l)∧w.grownBy w' (some g):=by
 have hgl:=h.lt
 have H:=hide h
 have HF:=hide (List.all_eq_true.1 hf)
 have HSZ:=hide hsz
 have hlen:∀ k,(clB (l.drop k)).length=4*(l.length-k):=fun k=>by
  rw [zjq (fun x hx=>hsz x (List.mem_of_mem_drop hx)) (List.all_eq_true.2 (fun x hx=>List.all_eq_true.1 hf x (List.mem_of_mem_drop hx))),List.length_drop]
 have HLEN:=hide hlen
 clear h hf hsz hlen
 obtain ⟨n,hn⟩:∃ n,l.length=n:=⟨_,rfl⟩
 rw [hn] at HLEN hl ⊢
 have HN:=hide hn
 clear hn
 go_enter Tryz.func204,Tryz.ntmps204
 go_wp2_with fail
 go_loopg [7] n (fun gg v wr=>∃ (k c:Nat) (A:Option Addr),v = .slice A k c∧k≤n∧n-k≤gg∧wr.ownsRow w.heap.size 25 17 (.slice A k c) k (zbd adL (l.take k))∧Rd wr lo g (clB (l.drop k)) false∧w.grownBy wr (some g))
 case atStart=>exact ⟨0,0,none,rfl,Nat.zero_le _,Nat.le_refl _,World.ownsRow_nil _ _ _ _,H.out,zad _ _⟩
 case round =>
  obtain ⟨k,c,A,rfl,hk,hgg,hown,hrd,hgr⟩:=hrel
  have HO:=hide hown
  have HR:=hide hrd
  have HG:=hide hgr
  obtain ⟨Ar,nr,cr,k0⟩:=hrd.open0
  clear hown hrd hgr k0
  have hlk:=HLEN.out k
  have hwz:=HG.out.size
  by_cases hlt:k<n
  ·have h0:(0:Int)<(((clB (l.drop k)).length:Nat):Int):=by omega
   have h32:((k:Nat):Int)<32:=by omega
   obtain ⟨x,hx⟩:∃ x,l[k]?=some x:=⟨_,List.getElem?_eq_getElem (by rw [HN.out];exact hlt)⟩
   have hmem:=List.mem_of_getElem? hx
   have hx16:=HSZ.out x hmem
   obtain ⟨h44,hx4,hxs,hxb⟩:=zgR hx16 (HF.out x hmem)
   obtain ⟨s1,s2,s3⟩:=step4 (r:=clB (l.drop (k+1))) hx4
   rw [← zs4 hx] at s1 s2 s3
   have S1:=hide s1
   have S2:=hide s2
   have S3:=hide s3
   have XS:=hide hxs
   have XB:=hide hxb
   have HX:=hide hx
   obtain ⟨LN,hLN⟩:∃ LN,(clB (l.drop k)).length=LN:=⟨_,rfl⟩
   rw [hLN] at h0
   have HLN:=hide hLN
   clear s1 s2 s3 hxs hxb hx4 hx hlk hLN h44
   go_wp2_with (go_at_call 131;refine (Rd.left HR.out).mono ?_;rw [HLN.out];rintro x wq ⟨rfl,rfl⟩)
   refine (zip wr lo g (clB (l.drop k)) false HR.out).mono ?_
   rw [S1.out,S2.out,S3.out,XS.out,XB.out]
   rintro e w2 ⟨rfl,hr2,hg2⟩
   have hr2':Rd w2 lo g (clB (l.drop (k+1))) false:=hr2
   have R2:=hide hr2'
   have O2:=hide (zb9 HO.out hg2 (by
    cases h9:(Value.slice A k c).ownBlock with
    | none=>exact .inl rfl
    | some q=>exact .inr (fun e=>by injection e with e;have:=(HO.out.lt q h9).1;omega)))
   have G2:=hide (zaj HG.out hg2)
   have hz2:=Nat.le_trans hwz hg2.size
   have HLT:Hid (∀ q,(Value.slice A k c).ownBlock=some q→w.heap.size≤q∧q<wr.heap.size):=hide (fun q hq=>HO.out.lt q hq)
   clear hr2 hr2' hg2 HR HO HG
   have HW4:Hid (Below w2.heap.size w2 (w2.alloc (.cells (zau x.1 x.2) 25))):=hide ((Below.refl _ _).alloc (Nat.le_refl _) _)
   have AN:AtG adL (w2.alloc (.cells (zau x.1 x.2) 25)) w2.heap.size (w2.heap.size+1) (some ⟨w2.heap.size,0,none⟩) 1 [x]:=AtG.one (Blk.new w2 25 (zau x.1 x.2))
   obtain ⟨v5,w5,hrun,ho5,hg5,hat5⟩:=zfS (w2.alloc (.cells (zau x.1 x.2) 25)) w.heap.size 26 (.slice A k c) k (l.take k) (zbe O2.out HW4.out) _ _ _ 1 1 [x] (fun y hy=>by rw [List.mem_singleton.1 hy];exact hx16) AN (by omega) (Nat.le_trans hz2 HW4.out.size)
   have HRUN:=hide hrun
   have ho5':w5.ownsRow w.heap.size 25 17 v5 (k+1) (zbd adL (l.take (k+1))):=by
    rw [List.take_add_one,HX.out]
    exact ho5
   have O5:=hide ho5'
   have R5:=hide ((R2.out.below HW4.out R2.out.lt).keep hg5 (fun q hq=>.inr (by have:=(HLT.out q hq).1;omega)))
   have G5:=hide (zcs (zaj G2.out (za0 HW4.out (some g))) hg5 (fun q hq=>(HLT.out q hq).1))
   clear hrun ho5 ho5' hg5 hat5 AN R2 O2 G2 HW4
   go_wp2_with (first
    | (with_reducible refine zbF rfl (zfZ w2 (.tmp 22) rfl hx16 rfl) ?_)
    | (at_builtin;refine zaY rfl (.tmp 19) (.tmp 23) 26 26 26 rfl rfl rfl rfl HRUN.out ?_;refine Hid.out ?_))
   refine hide ?_
   obtain ⟨A5,c5,rfl,_,_⟩:=zaW O5.out
   go_wp2
   go_roundg (n-(k+1))
   case measure=>omega
   case rel=>exact ⟨k+1,c5,A5,rfl,by omega,Nat.le_refl _,O5.out,R5.out,G5.out⟩
  ·obtain rfl:k=n:=by omega
   have h0:¬ (0:Int)<(((clB (l.drop k)).length:Nat):Int):=by omega
   obtain ⟨LN,hLN⟩:∃ LN,(clB (l.drop k)).length=LN:=⟨_,rfl⟩
   rw [hLN] at h0
   have HLN:=hide hLN
   have HT:Hid (l.take k=l):=hide (List.take_of_length_le (by rw [HN.out];exact Nat.le_refl _))
   clear hlk hLN
   go_wp2_with (go_at_call 131;refine (Rd.left HR.out).mono ?_;rw [HLN.out];rintro x wq ⟨rfl,rfl⟩)
   go_ret
   exact ⟨A,c,rfl,by have:=HO.out;rw [HT.out] at this;exact this,HG.out⟩
end
section
set_option maxRecDepth 20000
set_option maxHeartbeats 4000000
open Go.RowKit
theorem Rd.on {w x:World} {lo g:Nat} {bs:List UInt8} {bad:Bool} (h:Rd w lo g bs bad) (hb:Below w.heap.size w x):Rd x lo g bs bad:=h.below hb h.lt
theorem wf_len {bs:List UInt8} {w:World} {lo g:Nat} {bad:Bool} (h:Rd w lo g bs bad):(Lit.int .i64 ((bs.length:Nat):Int)).wf=true:=WalkArith.wf_i64 (by have:=h.len;omega)
theorem zmU {bs:List UInt8} {w:World} {lo g:Nat} {bad:Bool} (h:Rd w lo g bs bad):(Lit.int .i64 ((bs.length/2:Nat):Int)).wf=true:=WalkArith.wf_i64 (by have:=h.len;omega)
theorem zcA (w:World) (lo g:Nat) (bs:List UInt8) (bad:Bool) (h:Rd w lo g bs bad) :
  Calls Tryz.prog 89 #[.pointer (some ⟨g,0,none⟩),.int .i64 ((bs.length:Nat):Int)] w fun e w'=>∃ v,e = .returned v∧w'.ownsRow w.heap.size 5 1 v bs.length (bvs bs) ∧
   (∃ bad',Rd w' lo g [] bad')∧w.grownBy w' (some g):=by
 refine (zaZ w lo g bs bad h _ (wf_len h)).mono ?_
 rintro e w1 ⟨v,rfl,ho,hr,hg⟩
 obtain ⟨s1,s2⟩:=ztT bs
 rw [s1] at ho
 rw [s2] at hr
 exact ⟨v,rfl,ho,⟨_,hr⟩,hg⟩
theorem zqj {a b c:World} {row row':Option Nat} (h:a.grownBy b row) (k:b.grownBy c row') (hr:∀ q,row'=some q→a.heap.size≤q):a.grownBy c row :=
 ⟨k.os.trans h.os,k.tape.trans h.tape,k.output.trans h.output,Nat.le_trans h.size k.size,fun i hi hne=>(k.block i (Nat.lt_of_lt_of_le hi h.size) (fun e=>by have:=hr i e.symm;omega)).trans (h.block i hi hne)⟩
theorem zlL (w:World) (lo g:Nat) (r:List UInt8) (bad:Bool) (h:Rd w lo g r bad) (hlo:lo≤g) (k:Nat) (hk:k<256) :
  Calls Tryz.prog 249 #[.pointer (some ⟨g,0,none⟩),.int .i64 (k:Int)] w fun e w'=>∃ u v,e = .returned (.tuple #[u,v])∧w'.ownsRow w.heap.size 5 1 u (zcN k r).1.length (bvs (zcN k r).1) ∧
   w'.ownsRow w.heap.size 5 1 v (zcN k r).2.length (bvs (zcN k r).2)∧w.grownBy w' (some g):=by
 obtain ⟨i0,hi0,hz0,hz1,hz2⟩:=info_parts zbM
 have HR:=hide h
 have hgl:=h.lt
 clear h
 by_cases h1:k=1
 ·subst h1
  have hp1:(zcN ((1:Nat):Int) r)=(zae (zae (zae r 4) 2) 2,zab r 4++zab (zae (zae r 4) 2) 2):=rfl
  rw [hp1]
  clear hp1 hk
  go_enter Tryz.func249,Tryz.ntmps249
  go_wp2_with fail
  refine (zaZ w lo g r bad HR.out 4 (by decide)).mono ?_
  rintro e w1 ⟨v1,rfl,ho1,hr1,hg1⟩
  obtain ⟨A1,c1,rfl,_,_⟩:=zac ho1
  have R1:=hide hr1
  have HO1:=hide ho1
  have hs1:=hg1.size
  clear hr1 ho1
  go_wp2_with fail
  refine (zaZ w1 lo g _ _ R1.out 2 (by decide)).mono ?_
  rintro e w2 ⟨v2,rfl,ho2,hr2,hg2⟩
  obtain ⟨A2,c2,rfl,_,_⟩:=zac ho2
  have R2:=hide hr2
  have HO2:=hide ho2
  have hs2:=hg2.size
  clear hr2 ho2
  go_wp2_with fail
  refine (zaZ w2 lo g _ _ R2.out 2 (by decide)).mono ?_
  rintro e w3 ⟨v3,rfl,ho3,hr3,hg3⟩
  obtain ⟨A3,c3,rfl,_,_⟩:=zac ho3
  have R3:=hide hr3
  have HO3:=hide ho3
  have hs3:=hg3.size
  clear hr3 ho3
  have hz12:w.heap.size≤w2.heap.size:=Nat.le_trans hs1 hs2
  have HO13:=hide (zdj (zdj HO1.out hg2 hgl) hg3 hgl)
  go_wp2_with (at_builtin;go_must (refine zaf _ rfl (.tmp 20) (.tmp 22) _ rfl w.heap.size 5 i0 Tryz.underlying36 hi0 hz0 hz1 hz2 (.slice A1 (zab r 4).length c1) (zab r 4).length (zab r 4) rfl HO13.out w2.heap.size w3.heap.size A3 _ c3 _ rfl (At.own HO3.out) (by have h4:=zcI (bs:=r) (n:=4) (k:=4) (by decide);have h2:=zcI (bs:=zae (zae r 4) 2) (n:=2) (k:=2) (by decide);omega) (Nat.le_trans hz12 hs3) ?_);intro v4 w4 ho4 hg4 ha4)
  have hr4:∀ q,(Value.slice A1 (zab r 4).length c1).ownBlock=some q→w.heap.size≤q:=fun q hq=>(HO13.out.lt q hq).1
  have R4:=hide (R3.out.keep hg4 (fun q hq=>.inr (by have:=hr4 q hq;omega)))
  have G4:=hide (zqj (zaj (zaj hg1 hg2) hg3) hg4 hr4)
  have HO4:=hide ho4
  clear ho4 hg4 hr4 ha4
  go_wp2_with fail
  refine (R4.out.left).mono ?_
  rintro e wl ⟨rfl,rfl⟩
  go_wp2_with fail
  refine (zcA w4 lo g _ _ R4.out).mono ?_
  rintro e w5 ⟨v5,rfl,ho5,⟨bd5,hr5⟩,hg5⟩
  have R5:=hide hr5
  have HO5:=hide ho5
  clear hr5 ho5
  go_wp2
  go_ret2
  refine ⟨_,_,rfl,zap HO5.out G4.out.size,?_,zaj G4.out hg5⟩
  rw [List.length_append]
  exact zdj HO4.out hg5 hgl
 by_cases h2:k=2
 ·subst h2
  obtain ⟨m,hm⟩:∃ m:Nat,big (zab (zae r 3) ((1:Nat):Int))=m:=⟨_,rfl⟩
  have hm256:m<256:=by
   have h1:=ze7 (zab (zae r 3) ((1:Nat):Int))
   have h2:=zcI (bs:=zae r 3) (n:=((1:Nat):Int)) (k:=1) (Int.le_refl _)
   have h3:=Nat.pow_le_pow_right (n:=256) (by decide) h2
   omega
  have hp1:(zcN ((2:Nat):Int) r)=(zab (zae (zae r 3) ((1:Nat):Int)) (m:Int),zae (zae (zae (zae r 3) ((1:Nat):Int)) (m:Int)) 2):=by rw [← hm];rfl
  rw [hp1]
  have HM:=hide hm
  have HMW:Hid ((Lit.int .i64 (m:Int)).wf=true):=hide (WalkArith.wf_i64 (by omega))
  clear hp1 hk hm hm256
  go_enter Tryz.func249,Tryz.ntmps249
  go_wp2_with fail
  refine (zaZ w lo g r bad HR.out 3 (by decide)).mono ?_
  rintro e w1 ⟨v1,rfl,ho1,hr1,hg1⟩
  obtain ⟨A1,c1,rfl,_,_⟩:=zac ho1
  have R1:=hide hr1
  have HO1:=hide ho1
  have hs1:=hg1.size
  clear hr1 ho1
  go_wp2_with fail
  refine (zhr w1 lo g (zae r 3) _ R1.out 1 (by decide) (by decide)).mono ?_
  rw [HM.out]
  rintro e w2 ⟨rfl,hr2,hg2⟩
  have R2:=hide hr2
  have hs2:=hg2.size
  clear hr2
  go_wp2_with fail
  refine (zaZ w2 lo g _ _ R2.out (m:Int) HMW.out).mono ?_
  rintro e w3 ⟨v3,rfl,ho3,hr3,hg3⟩
  obtain ⟨A3,c3,rfl,_,_⟩:=zac ho3
  have R3:=hide hr3
  have HO3:=hide ho3
  have hs3:=hg3.size
  clear hr3 ho3
  go_wp2_with fail
  refine (zaZ w3 lo g _ _ R3.out 2 (by decide)).mono ?_
  rintro e w4 ⟨v4,rfl,ho4,hr4,hg4⟩
  obtain ⟨A4,c4,rfl,_,_⟩:=zac ho4
  have R4:=hide hr4
  have HO4:=hide ho4
  have hs4:=hg4.size
  clear hr4 ho4
  go_wp2_with fail
  refine (R4.out.left).mono ?_
  rintro e wl ⟨rfl,rfl⟩
  go_wp2_with fail
  refine (zcA w4 lo g _ _ R4.out).mono ?_
  rintro e w5 ⟨v5,rfl,ho5,⟨bd5,hr5⟩,hg5⟩
  have R5:=hide hr5
  have HO5:=hide ho5
  clear hr5 ho5
  have hz2:w.heap.size≤w2.heap.size:=Nat.le_trans hs1 hs2
  go_wp2
  go_ret2
  exact ⟨_,_,rfl,zdj (zdj (zap HO3.out hz2) hg4 hgl) hg5 hgl,zap HO5.out (Nat.le_trans hz2 (Nat.le_trans hs3 hs4)),zaj (zaj (zaj (zaj hg1 hg2) hg3) hg4) hg5⟩
 by_cases h7:k=7
 ·subst h7
  obtain ⟨m,hm⟩:∃ m:Nat,big (zab (zae r 3) ((1:Nat):Int))=m:=⟨_,rfl⟩
  have hm256:m<256:=by
   have h1:=ze7 (zab (zae r 3) ((1:Nat):Int))
   have h2:=zcI (bs:=zae r 3) (n:=((1:Nat):Int)) (k:=1) (Int.le_refl _)
   have h3:=Nat.pow_le_pow_right (n:=256) (by decide) h2
   omega
  have hp1:(zcN ((7:Nat):Int) r)=(zab (zae (zae r 3) ((1:Nat):Int)) (m:Int),zae (zae (zae (zae r 3) ((1:Nat):Int)) (m:Int)) 2):=by rw [← hm];rfl
  rw [hp1]
  have HM:=hide hm
  have HMW:Hid ((Lit.int .i64 (m:Int)).wf=true):=hide (WalkArith.wf_i64 (by omega))
  clear hp1 hk hm hm256
  go_enter Tryz.func249,Tryz.ntmps249
  go_wp2_with fail
  refine (zaZ w lo g r bad HR.out 3 (by decide)).mono ?_
  rintro e w1 ⟨v1,rfl,ho1,hr1,hg1⟩
  obtain ⟨A1,c1,rfl,_,_⟩:=zac ho1
  have R1:=hide hr1
  have HO1:=hide ho1
  have hs1:=hg1.size
  clear hr1 ho1
  go_wp2_with fail
  refine (zhr w1 lo g (zae r 3) _ R1.out 1 (by decide) (by decide)).mono ?_
  rw [HM.out]
  rintro e w2 ⟨rfl,hr2,hg2⟩
  have R2:=hide hr2
  have hs2:=hg2.size
  clear hr2
  go_wp2_with fail
  refine (zaZ w2 lo g _ _ R2.out (m:Int) HMW.out).mono ?_
  rintro e w3 ⟨v3,rfl,ho3,hr3,hg3⟩
  obtain ⟨A3,c3,rfl,_,_⟩:=zac ho3
  have R3:=hide hr3
  have HO3:=hide ho3
  have hs3:=hg3.size
  clear hr3 ho3
  go_wp2_with fail
  refine (zaZ w3 lo g _ _ R3.out 2 (by decide)).mono ?_
  rintro e w4 ⟨v4,rfl,ho4,hr4,hg4⟩
  obtain ⟨A4,c4,rfl,_,_⟩:=zac ho4
  have R4:=hide hr4
  have HO4:=hide ho4
  have hs4:=hg4.size
  clear hr4 ho4
  go_wp2_with fail
  refine (R4.out.left).mono ?_
  rintro e wl ⟨rfl,rfl⟩
  go_wp2_with fail
  refine (zcA w4 lo g _ _ R4.out).mono ?_
  rintro e w5 ⟨v5,rfl,ho5,⟨bd5,hr5⟩,hg5⟩
  have R5:=hide hr5
  have HO5:=hide ho5
  clear hr5 ho5
  have hz2:w.heap.size≤w2.heap.size:=Nat.le_trans hs1 hs2
  go_wp2
  go_ret2
  exact ⟨_,_,rfl,zdj (zdj (zap HO3.out hz2) hg4 hgl) hg5 hgl,zap HO5.out (Nat.le_trans hz2 (Nat.le_trans hs3 hs4)),zaj (zaj (zaj (zaj hg1 hg2) hg3) hg4) hg5⟩
 by_cases h3:k=3
 ·subst h3
  have hp1:(zcN ((3:Nat):Int) r)=(zab r ((r.length/2:Nat):Int),zae r ((r.length/2:Nat):Int)):=rfl
  rw [hp1]
  have HW:=hide (zmU HR.out)
  clear hp1 hk
  go_enter Tryz.func249,Tryz.ntmps249
  go_wp2_with fail
  refine (HR.out.left).mono ?_
  rintro e wl ⟨rfl,rfl⟩
  have hle:=HR.out.len
  have hq:wrap64 ((r.length:Int)/2)=((r.length/2:Nat):Int):=by unfold wrap64;omega
  have HQ:=hide hq
  clear hq hle
  go_wp2_with fail
  rw [HQ.out]
  refine (zaZ w lo g r bad HR.out _ HW.out).mono ?_
  rintro e w1 ⟨v1,rfl,ho1,hr1,hg1⟩
  have R1:=hide hr1
  have HO1:=hide ho1
  clear hr1 ho1
  go_wp2_with fail
  refine (R1.out.left).mono ?_
  rintro e wl ⟨rfl,rfl⟩
  go_wp2_with fail
  refine (zcA w1 lo g _ _ R1.out).mono ?_
  rintro e w2 ⟨v2,rfl,ho2,⟨bd2,hr2⟩,hg2⟩
  have R2:=hide hr2
  have HO2:=hide ho2
  clear hr2 ho2
  go_wp2
  go_ret2
  exact ⟨_,_,rfl,zdj HO1.out hg2 hgl,zap HO2.out hg1.size,zaj hg1 hg2⟩
 by_cases h4:k=4
 ·subst h4
  have hp1:(zcN ((4:Nat):Int) r)=(zab r ((r.length/2:Nat):Int),zae r ((r.length/2:Nat):Int)):=rfl
  rw [hp1]
  have HW:=hide (zmU HR.out)
  clear hp1 hk
  go_enter Tryz.func249,Tryz.ntmps249
  go_wp2_with fail
  refine (HR.out.left).mono ?_
  rintro e wl ⟨rfl,rfl⟩
  have hle:=HR.out.len
  have hq:wrap64 ((r.length:Int)/2)=((r.length/2:Nat):Int):=by unfold wrap64;omega
  have HQ:=hide hq
  clear hq hle
  go_wp2_with fail
  rw [HQ.out]
  refine (zaZ w lo g r bad HR.out _ HW.out).mono ?_
  rintro e w1 ⟨v1,rfl,ho1,hr1,hg1⟩
  have R1:=hide hr1
  have HO1:=hide ho1
  clear hr1 ho1
  go_wp2_with fail
  refine (R1.out.left).mono ?_
  rintro e wl ⟨rfl,rfl⟩
  go_wp2_with fail
  refine (zcA w1 lo g _ _ R1.out).mono ?_
  rintro e w2 ⟨v2,rfl,ho2,⟨bd2,hr2⟩,hg2⟩
  have R2:=hide hr2
  have HO2:=hide ho2
  clear hr2 ho2
  go_wp2
  go_ret2
  exact ⟨_,_,rfl,zdj HO1.out hg2 hgl,zap HO2.out hg1.size,zaj hg1 hg2⟩
 by_cases h5:k=5
 ·subst h5
  have hp1:(zcN ((5:Nat):Int) r)=(zab r ((r.length/2:Nat):Int),zae r ((r.length/2:Nat):Int)):=rfl
  rw [hp1]
  have HW:=hide (zmU HR.out)
  clear hp1 hk
  go_enter Tryz.func249,Tryz.ntmps249
  go_wp2_with fail
  refine (HR.out.left).mono ?_
  rintro e wl ⟨rfl,rfl⟩
  have hle:=HR.out.len
  have hq:wrap64 ((r.length:Int)/2)=((r.length/2:Nat):Int):=by unfold wrap64;omega
  have HQ:=hide hq
  clear hq hle
  go_wp2_with fail
  rw [HQ.out]
  refine (zaZ w lo g r bad HR.out _ HW.out).mono ?_
  rintro e w1 ⟨v1,rfl,ho1,hr1,hg1⟩
  have R1:=hide hr1
  have HO1:=hide ho1
  clear hr1 ho1
  go_wp2_with fail
  refine (R1.out.left).mono ?_
  rintro e wl ⟨rfl,rfl⟩
  go_wp2_with fail
  refine (zcA w1 lo g _ _ R1.out).mono ?_
  rintro e w2 ⟨v2,rfl,ho2,⟨bd2,hr2⟩,hg2⟩
  have R2:=hide hr2
  have HO2:=hide ho2
  clear hr2 ho2
  go_wp2
  go_ret2
  exact ⟨_,_,rfl,zdj HO1.out hg2 hgl,zap HO2.out hg1.size,zaj hg1 hg2⟩
 have hp1:zcN (k:Int) r=(r,[]):=by
  unfold zcN
  rw [if_neg (by omega),if_neg (by omega),if_neg (by omega)]
 rw [hp1]
 clear hp1 hk
 have e1:((k:Int)==1)=false:=beq_eq_false_iff_ne.2 (by omega)
 have e2:((k:Int)==2)=false:=beq_eq_false_iff_ne.2 (by omega)
 have e7:((k:Int)==7)=false:=beq_eq_false_iff_ne.2 (by omega)
 have e3:((k:Int)==3)=false:=beq_eq_false_iff_ne.2 (by omega)
 have e4:((k:Int)==4)=false:=beq_eq_false_iff_ne.2 (by omega)
 have e5:((k:Int)==5)=false:=beq_eq_false_iff_ne.2 (by omega)
 clear h1 h2 h7 h3 h4 h5
 ·go_enter Tryz.func249,Tryz.ntmps249
  go_wp2_with fail
  refine (HR.out.left).mono ?_
  rintro e wl ⟨rfl,rfl⟩
  go_wp2_with fail
  refine (zcA w lo g _ _ HR.out).mono ?_
  rintro e w1 ⟨v1,rfl,ho1,⟨bd1,hr1⟩,hg1⟩
  have R1:=hide hr1
  have HO1:=hide ho1
  clear hr1 ho1
  go_wp2_with fail
  refine (R1.out.left).mono ?_
  rintro e wl ⟨rfl,rfl⟩
  go_wp2_with fail
  refine (zcA w1 lo g _ _ R1.out).mono ?_
  rintro e w2 ⟨v2,rfl,ho2,⟨bd2,hr2⟩,hg2⟩
  have R2:=hide hr2
  have HO2:=hide ho2
  clear hr2 ho2
  go_wp2
  go_ret2
  exact ⟨_,_,rfl,zdj HO1.out hg2 hgl,zap HO2.out hg1.size,zaj hg1 hg2⟩
open Go.RowKit
theorem ze2 {ops:Array Oper} {rest:List Oper} {o:Oper} {a:Act} {w:World} {Q:Exit→Act→World→Prop} (hgd:o.guard=none) (x0 x1 x2 x3 x4:Operand)
  (ho:o.op = .build 88 #[(0,x0),(1,x1),(2,x2),(3,x3),(4,x4)]) {lf:Bool} {k l s:Int} {bs:List UInt8} {A:Option Addr} {n c:Nat} (hl:bs.length=16)
  (h0:a.eval x0 = .bool lf) (h1:a.eval x1 = .int .i64 k) (h2:a.eval x2 = .int .i64 l) (h3:a.eval x3 = .agg (zau s bs)) (h4:a.eval x4 = .slice A n c)
  (hk:wpList Tryz.prog ops Q rest (a.put o.dst (.agg (tunC lf k l s bs (.slice A n c)))) w):wpList Tryz.prog ops Q (o::rest) a w :=
 wpList_buildTo hgd 88 #[(0,x0),(1,x1),(2,x2),(3,x3),(4,x4)] ho o.dst rfl _ (by simp only [List.map_toArray,List.map_cons,List.map_nil,h0,h1,h2,h3,h4];exact zs9 A n c hl) hk
theorem zoI {fn:Func} {R:Ending→World→Prop} {a:Act} {w:World} {p:Tmp} {g:Nat} {t:TypeId} {lf:Bool} {k l s:Int} {bs:List UInt8} {v:Value} (hf:fn.results=#[.cell p 88])
  (hp:a.tmps.getD p undef = .pointer (some ⟨g,0,none⟩)) (h:Blk w g t (tunC lf k l s bs v)) (hl:bs.length=16) (hd:a.defers=[]) (hR:R (.returned (.agg (tunC lf k l s bs v))) w) :
  bodyPost Tryz.prog fn R .ret a w:=by
 refine bodyPost_ret (v:=.agg (tunC lf k l s bs v)) ?_ hd hR
 have hp':a.tmps[p]?.getD undef = .pointer (some ⟨g,0,none⟩):=by simpa using hp
 simp [results,hf,hp',asAddr,zk9 h hl]
theorem zkS {fn:Func} {R:Ending→World→Prop} {a:Act} {w:World} {p q:Tmp} {g:Nat} {t:TypeId} {lf:Bool} {k l s:Int} {bs:List UInt8} {v u:Value} (hf:fn.results=#[.cell p 88,.tmp q])
  (hp:a.tmps.getD p undef = .pointer (some ⟨g,0,none⟩)) (hq:a.tmps.getD q undef=u) (h:Blk w g t (tunC lf k l s bs v)) (hl:bs.length=16) (hd:a.defers=[]) (hR:R (.returned (.tuple #[.agg (tunC lf k l s bs v),u])) w) :
  bodyPost Tryz.prog fn R .ret a w:=by
 refine bodyPost_ret (v:=.tuple #[.agg (tunC lf k l s bs v),u]) ?_ hd hR
 have hp':a.tmps[p]?.getD undef = .pointer (some ⟨g,0,none⟩):=by simpa using hp
 have hq':a.tmps[q]?.getD undef=u:=by simpa using hq
 simp [results,hf,hp',hq',asAddr,zk9 h hl]
theorem zk1 {w x:World} {B n:Nat} {e:TypeId} {v:Value} {l:List Value} (h:w.ownsRow B e 1 v n l) (o:Obj) (hg:(w.alloc o).grownBy x (some w.heap.size)):x.ownsRow B e 1 v n l:=by
 refine znw (zay h ((Below.refl _ _).alloc (Nat.le_refl _) o)) hg ?_
 cases hv:v.ownBlock with
 | none=>exact .inl rfl
 | some b =>
  refine .inr (fun e=>?_)
  injection e with e
  have:=(h.lt b hv).2
  omega
def zkB:Array Value:=tunC false 0 0 0 zaz (.slice none 0 0)
theorem zsd (bs:List UInt8):big (zab bs ((1:Nat):Int))<256:=by
 have h1:=ze7 (zab bs ((1:Nat):Int))
 have h2:=zcI (bs:=bs) (n:=((1:Nat):Int)) (k:=1) (Int.le_refl _)
 have h3:=Nat.pow_le_pow_right (n:=256) (by decide) h2
 omega
theorem zrP (w:World) (lo hi:Nat) (A:Option Addr) (n c:Nat) (b:List UInt8) (hA:At w lo hi A n b) (hh:hi≤w.heap.size) (hn:n≤140737488355328) :
  Calls Tryz.prog 232 #[.slice A n c] w fun e w'=>∃ A' c',e = .returned (.agg (tunC (ze9 b).leaf (ze9 b).k (ze9 b).l (ze9 b).s (ze9 b).bs (.slice A' (ze9 b).id.length c'))) ∧
   w'.ownsRow w.heap.size 5 1 (.slice A' (ze9 b).id.length c') (ze9 b).id.length (bvs (ze9 b).id)∧Below w.heap.size w w':=by
 have HT:Hid (ze9 b=⟨zkm b,zia b,numR b,ofS (zcN (zia b) (zkK b)).1,ofB (zcN (zia b) (zkK b)).1,(zcN (zia b) (zkK b)).2⟩):=hide rfl
 obtain ⟨T,hT⟩:∃ T,ze9 b=T:=⟨_,rfl⟩
 rw [hT] at HT ⊢
 clear hT
 have HA:=hide (hA.alloc hh (.cells zkB 88))
 have HN:=hide (Blk.new w 88 zkB)
 have HZ:=hide ziD
 have W0:Hid (Below w.heap.size w (w.alloc (.cells zkB 88))):=hide ((Below.refl _ _).alloc (Nat.le_refl _) _)
 obtain ⟨m,hm⟩:∃ m:Nat,big (zab b ((1:Nat):Int))=m:=⟨_,rfl⟩
 obtain ⟨k,hk⟩:∃ k:Nat,big (zab (zae b ((1:Nat):Int)) ((1:Nat):Int))=k:=⟨_,rfl⟩
 have hk2:k<256:=by rw [← hk];exact zsd _
 have HM:=hide hm
 have HK:=hide hk
 have HK2:=hide hk2
 have HLF:Hid (zkm b=decide (m=1)):=hide (by unfold zkm;rw [← hm];rfl)
 have HKR:Hid (zia b=k):=hide (by unfold zia;exact hk)
 have hz:hi≤(w.alloc (.cells zkB 88)).heap.size:=Nat.le_trans hh W0.out.size
 clear hm hk hk2 hA
 go_enter Tryz.func232,Tryz.ntmps232
 go_wp2_with fail
 refine (zbl _ lo hi A n c b HA.out hz hn).mono ?_
 rintro e w1 ⟨g,rfl,hg,hr1,hb1⟩
 have hgs:w.heap.size+1≤g:=by simpa using hg
 have R1:=hide hr1
 have B1:=hide hb1
 have hgl:=hr1.lt
 clear hr1 hb1 hg
 go_wp2_with fail
 refine (zhr w1 _ g b false R1.out 1 (by decide) (by decide)).mono ?_
 rw [HM.out]
 rintro e w2 ⟨rfl,hr2,hg2⟩
 have R2:=hide hr2
 have HB2:=hide (B1.out.grown hg2 B1.out.size (fun q hq=>by injection hq with hq;subst hq;simpa using hgs))
 clear hr2 hg2
 go_wp2_with fail
 refine (zhr w2 _ g _ _ R2.out 1 (by decide) (by decide)).mono ?_
 rw [HK.out]
 rintro e w3 ⟨rfl,hr3,hg3⟩
 have R3:=hide hr3
 have HB3:=hide (HB2.out.grown hg3 HB2.out.size (fun q hq=>by injection hq with hq;subst hq;simpa using hgs))
 clear hr3 hg3
 go_wp2_with fail
 refine (zaZ w3 _ g _ _ R3.out 3 (by decide)).mono ?_
 rintro e w4 ⟨v4,rfl,ho4,hr4,hg4⟩
 obtain ⟨A4,c4,rfl,_,_⟩:=zac ho4
 have R4:=hide hr4
 have HO4:=hide ho4
 have HB4:=hide (HB3.out.grown hg4 HB3.out.size (fun q hq=>by injection hq with hq;subst hq;simpa using hgs))
 clear hr4 hg4 ho4
 go_wp2_with fail
 refine (zoL w4 A4 _ c4 _ (At.own HO4.out) (Nat.le_refl _) (Nat.le_trans (zcI (k:=3) (by decide)) (by decide))).mono ?_
 rintro e w5 ⟨rfl,hb5⟩
 have R5:=hide (R4.out.on hb5)
 have HB5:=hide (zaa HB4.out hb5 (Nat.le_refl _))
 clear hb5
 go_wp2_with fail
 obtain ⟨P,hP⟩:∃ P,zcN (k:Int) (zkK b)=P:=⟨_,rfl⟩
 have HP:Hid (zcN (k:Int) (zae (zae (zae b ((1:Nat):Int)) ((1:Nat):Int)) 3)=P):=hide hP
 have HT2:Hid (T=⟨decide (m=1),k,zdV (zab (zae (zae b ((1:Nat):Int)) ((1:Nat):Int)) 3),ofS P.1,ofB P.1,P.2⟩):=hide (by rw [HT.out,HKR.out,HLF.out,hP];rfl)
 clear hP HT
 refine (zlL w5 _ g _ _ R5.out (by simpa using (show w.heap.size+1≤g from hgs)) k HK2.out).mono ?_
 rw [HP.out]
 rintro e w6 ⟨u6,v6,rfl,hu6,hv6,hg6⟩
 obtain ⟨A6,c6,rfl,_,_⟩:=zac hu6
 obtain ⟨D6,d6,rfl,_,_⟩:=zac hv6
 have HU6:=hide hu6
 have HV6:=hide hv6
 have HB6:=hide (HB5.out.grown hg6 HB5.out.size (fun q hq=>by injection hq with hq;subst hq;simpa using hgs))
 have hz6:=hide (Nat.le_trans W0.out.size HB5.out.size)
 clear hu6 hv6 hg6
 go_wp2_with fail
 refine (ze4 w6 _ _ A6 P.1.length c6 P.1 (At.own HU6.out) (Nat.le_refl _)).mono ?_
 rintro e w7 ⟨rfl,hb7⟩
 have HB7:=hide (zaa HB6.out hb7 (Nat.le_refl _))
 have HV7:=hide (zay HV6.out hb7)
 clear hb7
 have hs5:w.heap.size<w5.heap.size:=by have h:=HB5.out.size;simp at h;omega
 by_cases hm1:m=1
 ·skip
  have hT3:T=⟨true,k,zdV (zab (zae (zae b ((1:Nat):Int)) ((1:Nat):Int)) 3),ofS P.1,ofB P.1,P.2⟩:=by rw [HT2.out,decide_eq_true hm1]
  have e1:((m:Int)==1)=true:=by rw [hm1];rfl
  subst hT3
  clear HT2 hm1
  go_wp2_with (first
   | (refine zaw rfl (.tmp 11) (.tmp 35) rfl w7.heap.size rfl rfl (zbi _) (Blk.new w7 _ _) rfl ?_;intro w8 hb8 hg8;have K8:=hide hb8;have HB8:=hide (zcL HB7.out (Nat.le_refl _) _ hg8 (Nat.le_refl _));have HV8:=hide (zk1 HV7.out _ hg8);clear hb8 hg8)
   | (with_reducible refine zaL rfl (.tmp 11) rfl w7.heap.size rfl K8.out (zbi _) ?_)
   | (refine ze2 rfl (.tmp 38) (.tmp 39) (.tmp 40) (.tmp 41) (.tmp 42) rfl (zbi P.1) rfl rfl rfl rfl rfl ?_)
   | (refine zbK rfl (.tmp 2) (.tmp 43) rfl w.heap.size rfl rfl (zbi _) rfl (HN.out.over HB8.out) (zcy false 0 0 0 _ zbt) ?_;intro w9 hb9 hg9;have K9:=hide hb9;have HV9:=hide (zdj HV8.out hg9 hs5);have HB9:=hide ((zaa W0.out HB8.out (Nat.le_refl _)).grown hg9 (Nat.le_trans W0.out.size HB8.out.size) (fun q hq=>by injection hq with hq;omega));clear hb9 hg9))
  refine zoI (p:=2) rfl rfl K9.out (zbi _) rfl ?_
  exact ⟨_,_,rfl,zap HV9.out hz6.out,HB9.out⟩
 ·skip
  have hT3:T=⟨false,k,zdV (zab (zae (zae b ((1:Nat):Int)) ((1:Nat):Int)) 3),ofS P.1,ofB P.1,P.2⟩:=by rw [HT2.out,decide_eq_false hm1]
  have e1:((m:Int)==1)=false:=beq_eq_false_iff_ne.2 (by omega)
  subst hT3
  clear HT2 hm1
  go_wp2_with (first
   | (refine zaw rfl (.tmp 11) (.tmp 35) rfl w7.heap.size rfl rfl (zbi _) (Blk.new w7 _ _) rfl ?_;intro w8 hb8 hg8;have K8:=hide hb8;have HB8:=hide (zcL HB7.out (Nat.le_refl _) _ hg8 (Nat.le_refl _));have HV8:=hide (zk1 HV7.out _ hg8);clear hb8 hg8)
   | (with_reducible refine zaL rfl (.tmp 11) rfl w7.heap.size rfl K8.out (zbi _) ?_)
   | (refine ze2 rfl (.tmp 38) (.tmp 39) (.tmp 40) (.tmp 41) (.tmp 42) rfl (zbi P.1) rfl rfl rfl rfl rfl ?_)
   | (refine zbK rfl (.tmp 2) (.tmp 43) rfl w.heap.size rfl rfl (zbi _) rfl (HN.out.over HB8.out) (zcy false 0 0 0 _ zbt) ?_;intro w9 hb9 hg9;have K9:=hide hb9;have HV9:=hide (zdj HV8.out hg9 hs5);have HB9:=hide ((zaa W0.out HB8.out (Nat.le_refl _)).grown hg9 (Nat.le_trans W0.out.size HB8.out.size) (fun q hq=>by injection hq with hq;omega));clear hb9 hg9))
  refine zoI (p:=2) rfl rfl K9.out (zbi _) rfl ?_
  exact ⟨_,_,rfl,zap HV9.out hz6.out,HB9.out⟩
open Go.RowKit
theorem zsR (w:World) (lo hi lo' hi' n m c d:Nat) (A B:Option Addr) (xs ys:List UInt8) (hA:At w lo hi A n xs) (hB:At w lo' hi' B m ys) :
  Calls Tryz.prog 125 #[.slice A n c,.slice B m d] w fun e w'=>e = .returned (.bool (decide (xs=ys)))∧w=w':=by
 have tX:=hA.text (P:=Tryz.prog) 36 5 Tryz.underlying36 Tryz.underlying5 c 9 Tryz.underlying9
 have tY:=hB.text (P:=Tryz.prog) 36 5 Tryz.underlying36 Tryz.underlying5 d 9 Tryz.underlying9
 clear hA hB
 have hb:(xs==ys)=decide (xs=ys):=by rw [Bool.eq_iff_iff];simp
 have HB:=hide hb
 clear hb
 go_enter Tryz.func125,Tryz.ntmps125
 go_wp2
 go_ret
 rw [← HB.out]
 exact ⟨rfl,rfl⟩
theorem zkg (w:World) (lo hi:Nat) (A:Option Addr) (n c:Nat) (b:List UInt8) (hA:At w lo hi A n b) (hh:hi≤w.heap.size) (hn:n≤140737488351232) :
  Calls Tryz.prog 206 #[.slice A n c] w fun e w'=>∃ A' c',e = .returned (.tuple #[.agg (tunC (zco b).leaf (zco b).k (zco b).l (zco b).s (zco b).bs (.slice A' (zco b).id.length c')),.int .i64 (zkh b)]) ∧
   w'.ownsRow w.heap.size 5 1 (.slice A' (zco b).id.length c') (zco b).id.length (bvs (zco b).id)∧Below w.heap.size w w':=by
 have HN:=hide (Blk.new w 88 zkB)
 have W0:Hid (Below w.heap.size w (w.alloc (.cells zkB 88))):=hide ((Below.refl _ _).alloc (Nat.le_refl _) _)
 have hz:=hide (Nat.le_trans hh W0.out.size)
 have HA:=hide (hA.alloc hh (.cells zkB 88))
 obtain ⟨T,hT⟩:∃ T,ze9 b=T:=⟨_,rfl⟩
 have HTB:Hid (T.bs.length=16):=hide (by rw [← hT];exact zoM b)
 have HPB:Hid (zgJ b=(zbZ T&&decide (zbf T=b))):=hide (by unfold zgJ;rw [hT])
 have HPT:Hid (∀ q,zgJ b=q→zco b=(if q then T else zuB)∧zkh b=if q then 0 else 4):=hide (by rintro q rfl;unfold zco zkh;rw [hT];exact ⟨rfl,rfl⟩)
 have HT:=hide hT
 clear hT hA
 go_enter Tryz.func206,Tryz.ntmps206
 go_wp2_with fail
 refine (zrP _ lo hi A n c b HA.out hz.out (Nat.le_trans hn (by decide))).mono ?_
 rw [HT.out]
 rintro e w1 ⟨A1,c1,rfl,ho1,hb1⟩
 obtain ⟨lf,k,l,s,bs,id⟩:=T
 have HO1:=hide ho1
 have HB1:=hide hb1
 have hc1:id.length≤c1:=by
  obtain ⟨_,_,hs,h,_⟩:=zac ho1
  injection hs with _ _ h3
  rw [h3]
  exact h
 clear ho1 hb1
 go_wp2_with (first
  | (refine zbK rfl (.tmp 4) (.tmp 8) rfl w1.heap.size rfl rfl HTB.out rfl (Blk.new w1 _ _) rfl ?_;intro w2 hb2 hg2;have K2:=hide hb2;have HB2:=hide (zcL HB1.out (Nat.le_refl _) _ hg2 (Nat.le_refl _));have HO2:=hide (zk1 HO1.out _ hg2);clear hb2 hg2)
  | (with_reducible refine zak rfl (.tmp 4) rfl w1.heap.size rfl K2.out HTB.out ?_))
 have AO2:=hide ((At.own HO2.out).more (Nat.zero_le _) (Nat.le_refl _))
 by_cases hr:zbZ ⟨lf,k,l,s,bs,id⟩=true
 ·refine (zkw w2 lf k l s bs A1 id.length c1 w2.heap.size id AO2.out (Nat.le_refl _) HTB.out hc1 hr).mono ?_
  rintro e w3 ⟨v3,rfl,ho3,hb3⟩
  obtain ⟨A3,c3,rfl,_,_⟩:=zac ho3
  have HO3:=hide ho3
  have K3:=hide (K2.out.over hb3)
  have HB3:=hide (zaa HB2.out hb3 (Nat.le_refl _))
  have HX3:=hide (zay HO2.out hb3)
  have HA3:=hide (HA.out.below (HB3.out.mono hz.out))
  obtain ⟨r,hrr⟩:∃ r,decide (zbf ⟨lf,k,l,s,bs,id⟩=b)=r:=⟨_,rfl⟩
  have HQ:=hide (HPT.out r (by rw [HPB.out,hr,hrr];cases r <;> rfl))
  have HRR:=hide hrr
  clear ho3 hb3 hrr hr hc1
  go_wp2_with fail
  refine (zsR w3 _ _ lo hi _ n c3 c A3 A _ b (At.own HO3.out) HA3.out).mono ?_
  rw [HRR.out]
  rintro e w4 ⟨rfl,rfl⟩
  cases r
  ·go_wp2_with (refine zbK rfl (.tmp 2) (.tmp 22) rfl w.heap.size rfl (congrArg Value.agg ziD).symm zbt rfl (HN.out.over HB3.out) (zcy false 0 0 0 _ zbt) ?_;intro w5 hb5 hg5;have K5:=hide hb5;have HB5:=hide ((zaa W0.out HB3.out (Nat.le_refl _)).grown hg5 (Nat.le_trans W0.out.size HB3.out.size) (fun q hq=>by injection hq with hq;omega));clear hb5 hg5)
   refine zkS (p:=2) (q:=3) (u:=.int .i64 4) rfl rfl rfl K5.out zbt rfl ?_
   rw [HQ.out.1,HQ.out.2]
   exact ⟨none,0,rfl,by simpa [zuB,bvs] using World.ownsRow_nil _ _ _ _,HB5.out⟩
  ·go_wp2_with (first
    | (with_reducible refine zak rfl (.tmp 4) rfl w1.heap.size rfl K3.out HTB.out ?_)
    | (refine zbK rfl (.tmp 2) (.tmp 23) rfl w.heap.size rfl rfl HTB.out rfl (HN.out.over HB3.out) (zcy false 0 0 0 _ zbt) ?_;intro w5 hb5 hg5;have K5:=hide hb5;have HX5:=hide (zdj HX3.out hg5 (by simp));have HB5:=hide ((zaa W0.out HB3.out (Nat.le_refl _)).grown hg5 (Nat.le_trans W0.out.size HB3.out.size) (fun q hq=>by injection hq with hq;omega));clear hb5 hg5))
   refine zkS (p:=2) (q:=3) (u:=.int .i64 0) rfl rfl rfl K5.out HTB.out rfl ?_
   rw [HQ.out.1,HQ.out.2]
   exact ⟨_,_,rfl,zap HX5.out W0.out.size,HB5.out⟩
 ·have hr':zbZ ⟨lf,k,l,s,bs,id⟩=false:=by simpa using hr
  refine (zs6 w2 lf k l s bs A1 id.length c1 w2.heap.size id AO2.out (Nat.le_refl _) HTB.out hr').mono ?_
  rintro e w3 ⟨rfl,hb3⟩
  have HB3:=hide (zaa HB2.out hb3 (Nat.le_refl _))
  have HQ:=hide (HPT.out false (by rw [HPB.out,hr'];rfl))
  clear hb3 hr hr' hc1
  go_wp2_with (refine zbK rfl (.tmp 2) (.tmp 22) rfl w.heap.size rfl (congrArg Value.agg ziD).symm zbt rfl (HN.out.over HB3.out) (zcy false 0 0 0 _ zbt) ?_;intro w5 hb5 hg5;have K5:=hide hb5;have HB5:=hide ((zaa W0.out HB3.out (Nat.le_refl _)).grown hg5 (Nat.le_trans W0.out.size HB3.out.size) (fun q hq=>by injection hq with hq;omega));clear hb5 hg5)
  refine zkS (p:=2) (q:=3) (u:=.int .i64 4) rfl rfl rfl K5.out zbt rfl ?_
  rw [HQ.out.1,HQ.out.2]
  exact ⟨none,0,rfl,by simpa [zuB,bvs] using World.ownsRow_nil _ _ _ _,HB5.out⟩
end
end Go.Proofs.YtblnkbfbhlhgkaaGreatDoor
