/-
  What the document says of any head: its Head of package vineryref11, in whatever memory; it answers what the program's does. No condition.
  What Owned does: rows of bytes that lie in blocks of their own are written over, each by its own byte, and none changes another one: true. The rows lie in distinct blocks, from block B on; below B nothing changes.
  What the helpers of the statement CursorPuts do, in whatever memory: Lent, Kept, and the document's own answers Bytes, Put, Order. No condition beyond sizes that fit memory.
-/
import Derived.Test.YthgainmcnjldaaaGreatDoorKMAM
set_option linter.unusedVariables false
set_option linter.unusedSimpArgs false
namespace Go.Proofs.YthgainmcnjldaaaGreatDoor
section
open Go.RowKit
set_option maxHeartbeats 1000000 in
theorem zfg (w:World) (lo hi:Nat) (A:Option Addr) (n c:Nat) (bs:List UInt8) (h:At w lo hi A n bs) (hn:n≤7) :
  Calls Tryz.prog 24 #[.slice A n c] w fun e w'=>e = .returned (.int .i64 (big bs:Nat))∧w=w':=by
 have H:=hide h
 clear h
 go_enter Tryz.func24,Tryz.ntmps24
 go_wp2
 go_loop [3,4] (fun t i=>∃ j:Nat,j≤n∧i = .int .i64 j∧t = .int .i64 (big (bs.take j):Nat)) (fun _ i=>n-(intOf i).toNat)
 case atStart=>exact ⟨0,Nat.zero_le _,rfl,rfl⟩
 case round =>
  obtain ⟨j,hj,rfl,rfl⟩:=hrel
  by_cases hlt:j<n
  ·obtain ⟨b,o,u,rfl,hu,hc⟩:=H.out.at_ hlt
   have hbl:=hide (zfW hu)
   have hb6:big (bs.take j)<281474976710656:=by
    have h1:=zhw (bs.take j)
    have h2:(bs.take j).length≤j:=List.length_take_le _ _
    exact Nat.lt_of_lt_of_le h1 (Nat.le_trans (Nat.pow_le_pow_right (by omega) (Nat.le_trans h2 (show j≤6 by omega))) (by decide))
   have hu2:=u.toNat_lt
   clear hu
   go_wp2
   go_round
   case rel=>exact ⟨j+1,by omega,by go_num,by rw [hbl.out];exact congrArg (Value.int .i64) (by omega)⟩
   case measure=>simp [intOf];omega
  ·obtain rfl:j=n:=by omega
   have HF:Hid (bs.take j=bs):=hide (List.take_of_length_le (by rw [H.out.len];exact Nat.le_refl _))
   go_wp2
   go_ret
   exact ⟨by rw [HF.out];rfl,rfl⟩
theorem zhq (c s:Int) (A:Option Addr) (n d:Nat):Tryz.prog.built 26 [(0,.int .i64 c),(1,.int .i64 s),(2,.slice A n d)]=some #[.int .i64 c,.int .i64 s,.slice A n d]:=by kernel_rfl
theorem zau {o:Oper} {a:Act} {w:World} (x y z:Operand) (ho:o.op = .build 26 #[(0,x),(1,y),(2,z)]) (X:NoP) (hx:a.eval x = .int .i64 X.c) (hy:a.eval y = .int .i64 X.s) (hz:a.eval z = .slice X.dA X.dn X.dc):(execOp a.eval o).run Tryz.prog w = .ok (.value (.agg (noC X))) w:=by
 unfold execOp
 simp only [ho,List.map_toArray,List.map_cons,List.map_nil,hx,hy,hz,Sem.run_bind,run_build w _ _ _ (zhq _ _ _ _ _),Result.andThen_ok,Sem.run_pure]
 rfl
def zjj (b:List UInt8) (s:Int) (L K:Nat):Prop:=hdK b=(if s=0 then ((K:Nat):Int) else 0)∧hdN b=(if s=0 then ((L:Nat):Int)-19 else 0)∧hdE b=0∧hdC b=(if s=0 then 0 else 1)∧hdS b=s∧hdD b=if s=2 then be 2 L else if s=3 then [UInt8.ofNat K] else []
theorem head_f {b:List UInt8} {s:Int} {L K:Nat} (hb:¬ b.length<19) (hsw:zdx b=s) (hlen:lenH b=L) (hkd:zgf b=K):zjj b s L K:=by
 have hS:hdS b=s:=(if_neg hb).trans hsw
 refine ⟨?_,?_,if_neg hb,by unfold hdC;rw [hS],hS,by unfold hdD zi5;rw [hS,hlen,hkd]⟩
 ·unfold hdK
  rw [hsw,hkd]
  by_cases h0:s=0
  ·rw [if_neg (by simp [h0,hb]),if_pos h0]
  ·rw [if_pos (.inr h0),if_neg h0]
 ·unfold hdN
  rw [hsw,hlen]
  by_cases h0:s=0
  ·rw [if_neg (by simp [h0,hb]),if_pos h0]
  ·rw [if_pos (.inr h0),if_neg h0]
theorem zaA {w w':World} {b:List UInt8} {s:Int} {L K:Nat} {x:NoP} (hf:zjj b s L K) (hc:x.c=if s=0 then 0 else 1) (hs:x.s=s) (hd:x.dl=if s=2 then be 2 L else if s=3 then [UInt8.ofNat K] else []) (hx:zei w' w.heap.size x) (hb:Below w.heap.size w w') :
  zcg w b (.returned (.tuple #[.int .i64 (if s=0 then ((K:Nat):Int) else 0),.int .i64 (if s=0 then ((L:Nat):Int)-19 else 0),.agg (noC x),.int .i64 0])) w':=by
 obtain ⟨f1,f2,f3,f4,f5,f6⟩:=hf
 exact ⟨x,by rw [f1,f2,f3],hc.trans f4.symm,hs.trans f5.symm,hd.trans f6.symm,hx,hb⟩
theorem zbk {x k l m:Int} (h1:zcF k=l) (h2:zcN k=m) (h3:m≠0) (hr:¬ ¬ (19≤x∧x≤4096)) (h:¬ (l≤x∧x≤m)):zaQ true x k=2:=by
 unfold zaQ
 rw [if_neg (by decide),if_neg hr,h1,h2,if_neg h3,if_pos h]
theorem zbB {x k l m:Int} (h1:zcF k=l) (h2:zcN k=m) (h3:m≠0) (hr:¬ ¬ (19≤x∧x≤4096)) (h:l≤x∧x≤m):zaQ true x k=0:=by
 unfold zaQ
 rw [if_neg (by decide),if_neg hr,h1,h2,if_neg h3,if_neg (not_not_intro h)]
theorem zgc {k:Int} (h:¬ (k=1∨k=2∨k=3∨k=4∨k=5)):zcN k=0:=by
 unfold zcN
 rw [if_neg (by omega),if_neg (by omega),if_neg (by omega)]
theorem be2_of (p q:UInt8):be 2 (p.toNat*256+q.toNat)=[p,q]:=by
 have hp:=p.toNat_lt
 have hq:=q.toNat_lt
 have h:=be_big [p,q]
 have e:big [p,q]=p.toNat*256+q.toNat:=by simp [big]
 rw [e] at h
 exact h
set_option maxRecDepth 20000 in
set_option maxHeartbeats 4000000 in
theorem zff (w:World) (lo hi:Nat) (A:Option Addr) (n c:Nat) (b:List UInt8) (h:At w lo hi A n b) (hh:hi≤w.heap.size) (hc:n≤c) :
  Calls Tryz.prog 8 #[.slice A n c] w (zcg w b):=by
 obtain ⟨i0,hi0,hz0,hz1,hz2⟩:=info_parts zby
 have W0:=hide ((Below.refl w.heap.size w).alloc (Nat.le_refl _) (.cells zNo 26))
 have N0:=hide (Blk.new w 26 zNo)
 by_cases hn:n<19
 ·have hb:b.length<19:=by rw [h.len];exact hn
  have HF:Hid (hdK b=0∧hdN b=0∧hdE b=3∧hdC b=0∧hdS b=0∧hdD b=[]):=hide (by
   have hs:hdS b=0:=if_pos hb
   refine ⟨if_pos (.inl hb),if_pos (.inl hb),if_pos hb,by unfold hdC;rw [if_pos hs],hs,by unfold hdD;rw [hs];rfl⟩)
  have hnI:(n:Int)<19:=by omega
  unfold zcg
  rw [HF.out.1,HF.out.2.1,HF.out.2.2.1,HF.out.2.2.2.1,HF.out.2.2.2.2.1,HF.out.2.2.2.2.2]
  clear h hb
  go_enter Tryz.func8,Tryz.ntmps8
  go_wp2_with (first
   | (with_reducible refine zaa rfl (zaF rfl) ?_)
   | (refine zac rfl (.tmp 4) (.tmp 14) rfl w.heap.size rfl (no0 0 0) rfl N0.out rfl ?_;intro w8 hb8 hg8;have K8:=hide hb8;have B8:Hid (Below w.heap.size w w8):=hide (W0.out.grown hg8 W0.out.size (fun k hk=>by injection hk with hk;omega));clear hb8 hg8;refine Hid.out ?_))
  refine hide ?_
  go_wp2_with fail
  (try simp only [Exit.inBlock,Exit.then])
  exact zax rfl rfl rfl rfl rfl K8.out rfl ⟨_,rfl,rfl,rfl,rfl,zbz _ _ _ _,B8.out⟩
 ·have HL:=hide h.len
  have H:=hide (h.below (W0.out.mono hh))
  obtain ⟨ba,oa,rfl,_,_,_⟩:=h.2 (by omega)
  obtain ⟨M,p,q,z,ht,hm,hM,hlen,hkd⟩:=zdP (b:=b) (by rw [h.len];omega)
  have hb:¬ b.length<19:=by rw [h.len];exact hn
  have HBL:=hide hb
  have hz:b[18]?=some z:=by
   have:=congrArg (fun l:List UInt8=>l[18]?) ht
   simpa [List.getElem?_take,List.getElem?_append,hm] using this
  have hpq:(b.drop 16).take 2=[p,q]:=by
   have:=congrArg (fun l:List UInt8=>(l.drop 16).take 2) ht
   have e:((b.take 19).drop 16).take 2=(b.drop 16).take 2:=by rw [List.drop_take,List.take_take];rfl
   rw [e] at this
   rw [this,List.drop_left' hm]
   rfl
  obtain ⟨L,hL⟩:∃ L,p.toNat*256+q.toNat=L:=⟨_,rfl⟩
  obtain ⟨K,hK⟩:∃ K,z.toNat=K:=⟨_,rfl⟩
  have HBG:Hid (big [p,q]=L):=hide (by rw [← hL];simp [big])
  have HBE:Hid (be 2 L=[p,q]):=hide (by rw [← hL];exact be2_of p q)
  have HKB:Hid (z=UInt8.ofNat K):=hide (by rw [← hK];simp)
  have hK5:K<256:=by rw [← hK];exact z.toNat_lt
  have hL5:L<65536:=by have:=p.toNat_lt;have:=q.toNat_lt;omega
  rw [hL] at hlen
  rw [hK] at hkd
  have HF:Hid (∀ s,zdx b=s→zjj b s L K):=hide (fun s hs=>head_f hb hs hlen hkd)
  have HW:Hid (zdx b=zaQ (decide (M=mkH)) (L:Nat) (K:Nat)):=hide (by unfold zdx;rw [hM,hlen,hkd])
  have HM:=hide hm
  have HMT:=hide hM
  obtain ⟨_,_,z',hA',hz',hc18⟩:=H.out.at_ (k:=18) (by omega)
  obtain rfl:z'=z:=by rw [hz] at hz';exact (Option.some.inj hz').symm
  rw [hK] at hc18
  injection hA' with hA'
  injection hA' with e1 e2 e3
  subst e1 e2
  have C18:=hide hc18
  have T2:Hid (At (w.alloc (.cells zNo 26)) lo hi (some ⟨ba,oa+16,none⟩) 2 [p,q]):=hide (by
   have h1:=(H.out.head (k:=18) (by omega)).tail (k:=16) (c:=18) (by decide) (Nat.le_refl _)
   rw [if_neg (by decide),List.drop_take,hpq] at h1
   exact h1)
  have hnI:¬ (n:Int)<19:=by omega
  have hcI:(18:Int)≤(c:Int):=by omega
  have hn18:(18:Int)<(n:Int):=by omega
  have hw0:w.heap.size≤(w.alloc (.cells zNo 26)).heap.size:=W0.out.size
  have hwi:hi≤(w.alloc (.cells zNo 26)).heap.size:=Nat.le_trans hh hw0
  clear h hb hM hlen hkd ht hm hL hK hpq hz hz' hc18
  go_enter Tryz.func8,Tryz.ntmps8
  go_wp2_with fail
  generalize w.alloc (.cells zNo 26)=w0 at *
  go_loop [6] (fun i=>∃ k:Nat,k≤16∧i = .int .i64 k∧M.take k=mkH.take k) (fun i=>16-(intOf i).toNat)
  case atStart=>exact ⟨0,Nat.zero_le _,rfl,rfl⟩
  case round =>
   obtain ⟨k,hk,rfl,hm⟩:=hrel
   have HT:=hide hm
   clear hm
   by_cases hlt:k<16
   ·have hkI:((k:Nat):Int)<(n:Int):=by omega
    obtain ⟨_,_,u,hA',hu,hcu⟩:=H.out.at_ (k:=k) (by omega)
    injection hA' with hA'
    injection hA' with e1 e2 e3
    subst e1 e2
    have hMu:M[k]?=some u:=by rw [← HMT.out,List.getElem?_take,if_pos hlt];exact hu
    by_cases h255:u=255
    ·subst h255
     have HN:Hid (M.take (k+1)=mkH.take (k+1)):=hide (by
      rw [List.take_add_one,List.take_add_one,HT.out,hMu]
      congr 1
      unfold mkH
      rw [List.getElem?_replicate,if_pos hlt])
     clear hu hMu
     go_wp2
     go_round
     case rel=>exact ⟨k+1,by omega,by go_num,HN.out⟩
     case measure=>simp [intOf];omega
    ·have hne:M≠mkH:=by
      intro e
      rw [e] at hMu
      unfold mkH at hMu
      rw [List.getElem?_replicate,if_pos hlt] at hMu
      exact h255 (Option.some.inj hMu).symm
     have hun:¬ (u.toNat:Int)=255:=fun e=>h255 (UInt8.toNat.inj (by show u.toNat=255;omega))
     have hub:((u.toNat:Int) != 255)=true:=bne_iff_ne.2 hun
     have HF1:=hide (HF.out 1 (by rw [HW.out,decide_eq_false hne];rfl))
     clear hu hMu hne h255 hun
     go_wp2_with (first
      | (with_reducible refine zaa rfl (zdE (.const (.int .i64 1)) (.const (.int .i64 1)) rfl 1 1 rfl rfl) ?_)
      | (refine zac rfl (.tmp 4) (.tmp 24) rfl w.heap.size rfl (no0 1 1) rfl N0.out rfl ?_;intro w8 hb8 hg8;have K8:=hide hb8;have B8:Hid (Below w.heap.size w w8):=hide (W0.out.grown hg8 W0.out.size (fun k hk=>by injection hk with hk;omega));clear hb8 hg8;refine Hid.out ?_))
     refine hide ?_
     go_wp2_with fail
     (try simp only [Exit.inBlock,Exit.then])
     exact zax rfl rfl rfl rfl rfl K8.out rfl (zaA (s:=1) HF1.out rfl rfl rfl (zbz _ _ _ _) B8.out)
   ·obtain rfl:k=16:=by omega
    have hME:M=mkH:=by
     have:=HT.out
     rw [List.take_of_length_le (by rw [HM.out];exact Nat.le_refl _),List.take_of_length_le (by unfold mkH;simp)] at this
     exact this
    have HW2:Hid (zdx b=zaQ true (L:Nat) (K:Nat)):=hide (by rw [HW.out,hME,decide_eq_true rfl])
    have TA:=hide (T2.out.alloc hwi (.cells #[] 5))
    have hL0:=hide hlt
    clear hME HW HT HM HMT hlt HL
    go_wp2_with (at_builtin;go_must (refine zam _ rfl (.tmp 25) (.tmp 27) 22 rfl w0.heap.size 5 i0 Tryz.underlying22 hi0 hz0 hz1 hz2 (.slice (some ⟨w0.heap.size,0,none⟩) 0 0) 0 [] rfl (World.ownsRow_made w0 #[] 0 (Nat.le_refl _) (Nat.zero_le _) rfl) lo hi (some ⟨ba,oa+16,none⟩) 2 (c-16) [p,q] rfl TA.out (by omega) (by simp) ?_);intro v1 w1 hown1 hg1 hat1;rw [Nat.zero_add,List.nil_append] at hown1;have HO:=hide hown1;have W01:Hid (Below w0.heap.size w0 w1):=hide (((Below.refl _ _).alloc (Nat.le_refl _) (.cells #[] 5)).grown hg1 (by simp) (by simp [Value.ownBlock]));have W1:Hid (Below w.heap.size w w1):=hide ((W0.out.alloc hw0 (.cells #[] 5)).grown hg1 (by simp;omega) (by simp [Value.ownBlock];omega));have Z1:=hide ((N0.out.alloc (.cells #[] 5)).grown hg1 (by simp [Value.ownBlock];have:=N0.out.lt;omega));(obtain ⟨A1,c1,hv1,hc1,_⟩:=zan hown1);subst hv1;clear hown1 hg1 hat1)
    refine (zfg w1 _ _ A1 2 c1 [p,q] (At.own HO.out) (by decide)).mono ?_
    rintro e w2 ⟨rfl,rfl⟩
    rw [HBG.out]
    have hw00:w.heap.size<w0.heap.size:=N0.out.lt
    have c18:w1.cell? ⟨ba,oa+18,none⟩=some (.int .u8 ((K:Nat):Int)):=(W01.out.cell (p:=⟨ba,oa+18,none⟩) (by show ba<w0.heap.size;omega)).trans C18.out
    have Z2:=hide (Z1.out.alloc (.cells #[.int .i64 0,.int .i64 29,.int .i64 23,.int .i64 21,.int .i64 19,.int .i64 23] 3))
    have W2:=hide (W1.out.alloc W1.out.size (.cells #[.int .i64 0,.int .i64 29,.int .i64 23,.int .i64 21,.int .i64 19,.int .i64 23] 3))
    have O2:=hide (zbu HO.out ((Below.refl _ _).alloc (Nat.le_refl _) (.cells #[.int .i64 0,.int .i64 29,.int .i64 23,.int .i64 21,.int .i64 19,.int .i64 23] 3)))
    have R2:=hide (Blk.new w1 3 #[.int .i64 0,.int .i64 29,.int .i64 23,.int .i64 21,.int .i64 19,.int .i64 23])
    have C2:Hid ((w1.alloc (.cells #[.int .i64 0,.int .i64 29,.int .i64 23,.int .i64 21,.int .i64 19,.int .i64 23] 3)).cell? ⟨ba,oa+18,none⟩=some (.int .u8 ((K:Nat):Int))):=hide ((((Below.refl w1.heap.size w1).alloc (Nat.le_refl _) (.cells #[.int .i64 0,.int .i64 29,.int .i64 23,.int .i64 21,.int .i64 19,.int .i64 23] 3)).cell (p:=⟨ba,oa+18,none⟩) (by have h1:=W01.out.size;show ba<w1.heap.size;omega)).trans c18)
    clear Z1 W1 HO T2 TA H C18 HBG
    by_cases h19:((L:Nat):Int)<19
    ·have hs:=hide (HF.out 2 (by rw [HW2.out];unfold zaQ;rw [if_neg (by decide),if_pos (by omega)]))
     go_wp2_with (first
      | (with_reducible refine zaa rfl (zau (.const (.int .i64 1)) (.const (.int .i64 2)) (.tmp 42) rfl ⟨1,2,A1,2,c1,[p,q]⟩ rfl rfl rfl) ?_)
      | (refine zac rfl (.tmp 4) (.tmp 43) rfl w.heap.size rfl ⟨1,2,A1,2,c1,[p,q]⟩ rfl Z2.out rfl ?_;intro w8 hb8 hg8;have K8:=hide hb8;have G8:=hide hg8;clear hb8 hg8;refine Hid.out ?_))
     refine hide ?_
     go_wp2_with fail
     (try simp only [Exit.inBlock,Exit.then])
     exact zax rfl rfl rfl rfl rfl K8.out rfl (zaA (s:=2) hs.out rfl rfl HBE.out.symm (zaC (zbi O2.out G8.out hw00) hw0) (W2.out.grown G8.out W2.out.size (fun k hk=>by injection hk with hk;omega)))
    by_cases h40:4096<((L:Nat):Int)
    ·have hs:=hide (HF.out 2 (by rw [HW2.out];unfold zaQ;rw [if_neg (by decide),if_pos (by omega)]))
     go_wp2_with (first
      | (with_reducible refine zaa rfl (zau (.const (.int .i64 1)) (.const (.int .i64 2)) (.tmp 42) rfl ⟨1,2,A1,2,c1,[p,q]⟩ rfl rfl rfl) ?_)
      | (refine zac rfl (.tmp 4) (.tmp 43) rfl w.heap.size rfl ⟨1,2,A1,2,c1,[p,q]⟩ rfl Z2.out rfl ?_;intro w8 hb8 hg8;have K8:=hide hb8;have G8:=hide hg8;clear hb8 hg8;refine Hid.out ?_))
     refine hide ?_
     go_wp2_with fail
     (try simp only [Exit.inBlock,Exit.then])
     exact zax rfl rfl rfl rfl rfl K8.out rfl (zaA (s:=2) hs.out rfl rfl HBE.out.symm (zaC (zbi O2.out G8.out hw00) hw0) (W2.out.grown G8.out W2.out.size (fun k hk=>by injection hk with hk;omega)))
    have HR:Hid (¬ ¬ (19≤((L:Nat):Int)∧((L:Nat):Int)≤4096)):=hide (by omega)
    by_cases hk1:((K:Nat):Int)<1∨5<((K:Nat):Int)
    ·have hs:=hide (HF.out 3 (by rw [HW2.out];unfold zaQ;rw [if_neg (by decide),if_neg HR.out,if_pos (zgc (by omega))]))
     have ZD:=hide Z2.out.drew
     have WD:=hide (zai W2.out)
     have CD:Hid ((w1.alloc (.cells #[.int .i64 0,.int .i64 29,.int .i64 23,.int .i64 21,.int .i64 19,.int .i64 23] 3)).drew.cell? ⟨ba,oa+18,none⟩=some (.int .u8 ((K:Nat):Int))):=hide C2.out
     have KF:∀ z:World,z.cell? ⟨ba,oa+18,none⟩=some (.int .u8 ((K:Nat):Int))→z.cell? ⟨ba,oa+18,none⟩=some (.int .u8 ((K:Nat):Int))∧True∧True∧True∧True∧True:=fun z h=>⟨h,trivial,trivial,trivial,trivial,trivial⟩
     clear Z2 W2 O2 C2 R2
     have hk3:((K:Nat):Int)<1∨¬ ((K:Nat):Int)<1∧5<((K:Nat):Int):=by omega
     rcases hk3 with hk1 | ⟨hk1,hk3⟩
     all_goals
      go_wp2_with fail
      refine wp_region_held_drew (S:=fun z=>z.cell? ⟨ba,oa+18,none⟩=some (.int .u8 ((K:Nat):Int))) (by kernel_rfl) CD.out (fun hHeld=>?_)
      generalize (w1.alloc (.cells #[.int .i64 0,.int .i64 29,.int .i64 23,.int .i64 21,.int .i64 19,.int .i64 23] 3)).drew=wd at *
      repeat refine rgA KF ?_
      have hba:ba<wd.heap.size:=by have:=WD.out.size;omega
      have hS1:(wd.alloc (.cells #[.int .u8 ((K:Nat):Int)] 5)).cell? ⟨ba,oa+18,none⟩=some (.int .u8 ((K:Nat):Int)):=(((Below.refl wd.heap.size wd).alloc (Nat.le_refl _) _).cell (p:=⟨ba,oa+18,none⟩) hba).trans hHeld
      refine rgT 5 ?_
      refine rgT 6 ?_
      refine rgM (hS:=hS1) (fun hHeld=>?_)
      have Z3:=hide (ZD.out.alloc (.cells #[.int .u8 ((K:Nat):Int)] 5))
      have W3:=hide (WD.out.alloc WD.out.size (.cells #[.int .u8 ((K:Nat):Int)] 5))
      have O3:Hid (zei (wd.alloc (.cells #[.int .u8 ((K:Nat):Int)] 5)) wd.heap.size ⟨1,3,some ⟨wd.heap.size,0,none⟩,1,1,[UInt8.ofNat K]⟩):=hide (zca (Blk.new wd 5 _) (Nat.le_refl _) (Nat.le_refl _) (show (1:Nat)≤maxLen by decide) rfl (by
       show [Value.int .u8 ((K:Nat):Int)]=[Value.int .u8 ((UInt8.ofNat K).toNat:Int)]
       rw [show (UInt8.ofNat K).toNat=K by simp;omega]))
      have hwd:w.heap.size<wd.heap.size:=ZD.out.lt
      clear ZD WD CD hS1
      refine rgV 4 (.agg (noC ⟨1,3,some ⟨wd.heap.size,0,none⟩,1,1,[UInt8.ofNat K]⟩)) (fun w' hSw=>zau (.const (.int .i64 1)) (.const (.int .i64 3)) (.tmp 53) rfl _ rfl rfl rfl) ?_
      generalize wd.alloc (.cells #[.int .u8 ((K:Nat):Int)] 5)=w3 at *
      have G3:=hide (zag (noC ⟨1,3,some ⟨wd.heap.size,0,none⟩,1,1,[UInt8.ofNat K]⟩).toList 0 _ _ (zaf w3 (some w.heap.size)))
      have hw3:w.heap.size≤w3.heap.size:=W3.out.size
      have hSt:(w3.setCells w.heap.size 0 (noC ⟨1,3,some ⟨wd.heap.size,0,none⟩,1,1,[UInt8.ofNat K]⟩).toList).cell? ⟨ba,oa+18,none⟩=some (.int .u8 ((K:Nat):Int)):=(World.cell?_of_block (G3.out.block ba (by omega) (by intro e;injection e;omega))).trans hHeld
      refine zaB (i:=7) rfl (by kernel_rfl) (by rfl) (zaw 26 (.tmp 4) (.tmp 54) rfl w.heap.size rfl (noC ⟨1,3,some ⟨wd.heap.size,0,none⟩,1,1,[UInt8.ofNat K]⟩) rfl (by show _=some 3;kernel_rfl) (ziU _) Z3.out rfl) hSt (fun hHeld=>?_)
      have V4:=hide (zbQ (C:=noC ⟨1,3,some ⟨wd.heap.size,0,none⟩,1,1,[UInt8.ofNat K]⟩) Z3.out rfl)
      have O4:=hide (zaC (zbi O3.out G3.out hwd) (Nat.le_of_lt hwd))
      have W4:=hide (W3.out.grown G3.out hw3 (fun q hq=>by injection hq with hq;omega))
      clear Z3 W3 O3 G3 hSt
      refine rgN ?_
      repeat refine rgA (F:=fun _=>True) (fun _ _=>trivial) ?_
      refine wpAnyH_done (by kernel_rfl) ?_ _
      go_wp2_with fail
      (try simp only [Exit.inBlock,Exit.then])
      exact zax rfl rfl rfl rfl rfl V4.out rfl (zaA (s:=3) hs.out rfl rfl rfl O4.out W4.out)
    have hk2:K=1∨K=2∨K=3∨K=4∨K=5:=by omega
    clear hk1 HKB C2
    rcases hk2 with rfl | rfl | rfl | rfl | rfl
    ·by_cases hl:((L:Nat):Int)<29
     ·have hs:=hide (HF.out 2 (by rw [HW2.out];exact zbk (k:=1) (l:=29) (m:=4096) rfl rfl (by decide) HR.out (by omega)))
      go_wp2_with (first
       | (with_reducible refine zaa rfl (zau (.const (.int .i64 1)) (.const (.int .i64 2)) (.tmp 73) rfl ⟨1,2,A1,2,c1,[p,q]⟩ rfl rfl rfl) ?_)
       | (refine zac rfl (.tmp 4) (.tmp 74) rfl w.heap.size rfl ⟨1,2,A1,2,c1,[p,q]⟩ rfl Z2.out rfl ?_;intro w8 hb8 hg8;have K8:=hide hb8;have G8:=hide hg8;clear hb8 hg8;refine Hid.out ?_))
      refine hide ?_
      go_wp2_with fail
      (try simp only [Exit.inBlock,Exit.then])
      exact zax rfl rfl rfl rfl rfl K8.out rfl (zaA (s:=2) hs.out rfl rfl HBE.out.symm (zaC (zbi O2.out G8.out hw00) hw0) (W2.out.grown G8.out W2.out.size (fun k hk=>by injection hk with hk;omega)))
     ·have hs:=hide (HF.out 0 (by rw [HW2.out];exact zbB (k:=1) (l:=29) (m:=4096) rfl rfl (by decide) HR.out (by omega)))
      go_wp2_with (first
       | (with_reducible refine zaa rfl (zaF rfl) ?_)
       | (refine zac rfl (.tmp 4) (.tmp 78) rfl w.heap.size rfl (no0 0 0) rfl Z2.out rfl ?_;intro w8 hb8 hg8;have K8:=hide hb8;have G8:=hide hg8;clear hb8 hg8;refine Hid.out ?_))
      refine hide ?_
      go_wp2_with fail
      (try simp only [Exit.inBlock,Exit.then])
      exact zax rfl rfl rfl rfl rfl K8.out rfl (zaA (s:=0) hs.out rfl rfl rfl (zbz _ _ _ _) (W2.out.grown G8.out W2.out.size (fun k hk=>by injection hk with hk;omega)))
    ·by_cases hl:((L:Nat):Int)<23
     ·have hs:=hide (HF.out 2 (by rw [HW2.out];exact zbk (k:=2) (l:=23) (m:=4096) rfl rfl (by decide) HR.out (by omega)))
      go_wp2_with (first
       | (with_reducible refine zaa rfl (zau (.const (.int .i64 1)) (.const (.int .i64 2)) (.tmp 73) rfl ⟨1,2,A1,2,c1,[p,q]⟩ rfl rfl rfl) ?_)
       | (refine zac rfl (.tmp 4) (.tmp 74) rfl w.heap.size rfl ⟨1,2,A1,2,c1,[p,q]⟩ rfl Z2.out rfl ?_;intro w8 hb8 hg8;have K8:=hide hb8;have G8:=hide hg8;clear hb8 hg8;refine Hid.out ?_))
      refine hide ?_
      go_wp2_with fail
      (try simp only [Exit.inBlock,Exit.then])
      exact zax rfl rfl rfl rfl rfl K8.out rfl (zaA (s:=2) hs.out rfl rfl HBE.out.symm (zaC (zbi O2.out G8.out hw00) hw0) (W2.out.grown G8.out W2.out.size (fun k hk=>by injection hk with hk;omega)))
     ·have hs:=hide (HF.out 0 (by rw [HW2.out];exact zbB (k:=2) (l:=23) (m:=4096) rfl rfl (by decide) HR.out (by omega)))
      go_wp2_with (first
       | (with_reducible refine zaa rfl (zaF rfl) ?_)
       | (refine zac rfl (.tmp 4) (.tmp 78) rfl w.heap.size rfl (no0 0 0) rfl Z2.out rfl ?_;intro w8 hb8 hg8;have K8:=hide hb8;have G8:=hide hg8;clear hb8 hg8;refine Hid.out ?_))
      refine hide ?_
      go_wp2_with fail
      (try simp only [Exit.inBlock,Exit.then])
      exact zax rfl rfl rfl rfl rfl K8.out rfl (zaA (s:=0) hs.out rfl rfl rfl (zbz _ _ _ _) (W2.out.grown G8.out W2.out.size (fun k hk=>by injection hk with hk;omega)))
    ·by_cases hl:((L:Nat):Int)<21
     ·have hs:=hide (HF.out 2 (by rw [HW2.out];exact zbk (k:=3) (l:=21) (m:=4096) rfl rfl (by decide) HR.out (by omega)))
      go_wp2_with (first
       | (with_reducible refine zaa rfl (zau (.const (.int .i64 1)) (.const (.int .i64 2)) (.tmp 73) rfl ⟨1,2,A1,2,c1,[p,q]⟩ rfl rfl rfl) ?_)
       | (refine zac rfl (.tmp 4) (.tmp 74) rfl w.heap.size rfl ⟨1,2,A1,2,c1,[p,q]⟩ rfl Z2.out rfl ?_;intro w8 hb8 hg8;have K8:=hide hb8;have G8:=hide hg8;clear hb8 hg8;refine Hid.out ?_))
      refine hide ?_
      go_wp2_with fail
      (try simp only [Exit.inBlock,Exit.then])
      exact zax rfl rfl rfl rfl rfl K8.out rfl (zaA (s:=2) hs.out rfl rfl HBE.out.symm (zaC (zbi O2.out G8.out hw00) hw0) (W2.out.grown G8.out W2.out.size (fun k hk=>by injection hk with hk;omega)))
     ·have hs:=hide (HF.out 0 (by rw [HW2.out];exact zbB (k:=3) (l:=21) (m:=4096) rfl rfl (by decide) HR.out (by omega)))
      go_wp2_with (first
       | (with_reducible refine zaa rfl (zaF rfl) ?_)
       | (refine zac rfl (.tmp 4) (.tmp 78) rfl w.heap.size rfl (no0 0 0) rfl Z2.out rfl ?_;intro w8 hb8 hg8;have K8:=hide hb8;have G8:=hide hg8;clear hb8 hg8;refine Hid.out ?_))
      refine hide ?_
      go_wp2_with fail
      (try simp only [Exit.inBlock,Exit.then])
      exact zax rfl rfl rfl rfl rfl K8.out rfl (zaA (s:=0) hs.out rfl rfl rfl (zbz _ _ _ _) (W2.out.grown G8.out W2.out.size (fun k hk=>by injection hk with hk;omega)))
    ·have hl:¬ ((L:Nat):Int)<19:=h19
     by_cases he:((L:Nat):Int)=19
     ·obtain rfl:L=19:=by omega
      have hs:=hide (HF.out 0 (by rw [HW2.out];exact zbB (k:=4) (l:=19) (m:=19) rfl rfl (by decide) HR.out (by omega)))
      go_wp2_with (first
       | (with_reducible refine zaa rfl (zaF rfl) ?_)
       | (refine zac rfl (.tmp 4) (.tmp 78) rfl w.heap.size rfl (no0 0 0) rfl Z2.out rfl ?_;intro w8 hb8 hg8;have K8:=hide hb8;have G8:=hide hg8;clear hb8 hg8;refine Hid.out ?_))
      refine hide ?_
      go_wp2_with fail
      (try simp only [Exit.inBlock,Exit.then])
      exact zax rfl rfl rfl rfl rfl K8.out rfl (zaA (s:=0) hs.out rfl rfl rfl (zbz _ _ _ _) (W2.out.grown G8.out W2.out.size (fun k hk=>by injection hk with hk;omega)))
     ·have hbne:(((L:Nat):Int) != 19)=true:=bne_iff_ne.2 he
      have hs:=hide (HF.out 2 (by rw [HW2.out];exact zbk (k:=4) (l:=19) (m:=19) rfl rfl (by decide) HR.out (by omega)))
      go_wp2_with (first
       | (with_reducible refine zaa rfl (zau (.const (.int .i64 1)) (.const (.int .i64 2)) (.tmp 73) rfl ⟨1,2,A1,2,c1,[p,q]⟩ rfl rfl rfl) ?_)
       | (refine zac rfl (.tmp 4) (.tmp 74) rfl w.heap.size rfl ⟨1,2,A1,2,c1,[p,q]⟩ rfl Z2.out rfl ?_;intro w8 hb8 hg8;have K8:=hide hb8;have G8:=hide hg8;clear hb8 hg8;refine Hid.out ?_))
      refine hide ?_
      go_wp2_with fail
      (try simp only [Exit.inBlock,Exit.then])
      exact zax rfl rfl rfl rfl rfl K8.out rfl (zaA (s:=2) hs.out rfl rfl HBE.out.symm (zaC (zbi O2.out G8.out hw00) hw0) (W2.out.grown G8.out W2.out.size (fun k hk=>by injection hk with hk;omega)))
    ·by_cases hl:((L:Nat):Int)<23
     ·have hs:=hide (HF.out 2 (by rw [HW2.out];exact zbk (k:=5) (l:=23) (m:=23) rfl rfl (by decide) HR.out (by omega)))
      go_wp2_with (first
       | (with_reducible refine zaa rfl (zau (.const (.int .i64 1)) (.const (.int .i64 2)) (.tmp 73) rfl ⟨1,2,A1,2,c1,[p,q]⟩ rfl rfl rfl) ?_)
       | (refine zac rfl (.tmp 4) (.tmp 74) rfl w.heap.size rfl ⟨1,2,A1,2,c1,[p,q]⟩ rfl Z2.out rfl ?_;intro w8 hb8 hg8;have K8:=hide hb8;have G8:=hide hg8;clear hb8 hg8;refine Hid.out ?_))
      refine hide ?_
      go_wp2_with fail
      (try simp only [Exit.inBlock,Exit.then])
      exact zax rfl rfl rfl rfl rfl K8.out rfl (zaA (s:=2) hs.out rfl rfl HBE.out.symm (zaC (zbi O2.out G8.out hw00) hw0) (W2.out.grown G8.out W2.out.size (fun k hk=>by injection hk with hk;omega)))
     by_cases he:((L:Nat):Int)=23
     ·obtain rfl:L=23:=by omega
      have hs:=hide (HF.out 0 (by rw [HW2.out];exact zbB (k:=5) (l:=23) (m:=23) rfl rfl (by decide) HR.out (by omega)))
      go_wp2_with (first
       | (with_reducible refine zaa rfl (zaF rfl) ?_)
       | (refine zac rfl (.tmp 4) (.tmp 78) rfl w.heap.size rfl (no0 0 0) rfl Z2.out rfl ?_;intro w8 hb8 hg8;have K8:=hide hb8;have G8:=hide hg8;clear hb8 hg8;refine Hid.out ?_))
      refine hide ?_
      go_wp2_with fail
      (try simp only [Exit.inBlock,Exit.then])
      exact zax rfl rfl rfl rfl rfl K8.out rfl (zaA (s:=0) hs.out rfl rfl rfl (zbz _ _ _ _) (W2.out.grown G8.out W2.out.size (fun k hk=>by injection hk with hk;omega)))
     ·have hbne:(((L:Nat):Int) != 23)=true:=bne_iff_ne.2 he
      have hs:=hide (HF.out 2 (by rw [HW2.out];exact zbk (k:=5) (l:=23) (m:=23) rfl rfl (by decide) HR.out (by omega)))
      go_wp2_with (first
       | (with_reducible refine zaa rfl (zau (.const (.int .i64 1)) (.const (.int .i64 2)) (.tmp 73) rfl ⟨1,2,A1,2,c1,[p,q]⟩ rfl rfl rfl) ?_)
       | (refine zac rfl (.tmp 4) (.tmp 74) rfl w.heap.size rfl ⟨1,2,A1,2,c1,[p,q]⟩ rfl Z2.out rfl ?_;intro w8 hb8 hg8;have K8:=hide hb8;have G8:=hide hg8;clear hb8 hg8;refine Hid.out ?_))
      refine hide ?_
      go_wp2_with fail
      (try simp only [Exit.inBlock,Exit.then])
      exact zax rfl rfl rfl rfl rfl K8.out rfl (zaA (s:=2) hs.out rfl rfl HBE.out.symm (zaC (zbi O2.out G8.out hw00) hw0) (W2.out.grown G8.out W2.out.size (fun k hk=>by injection hk with hk;omega)))
end
section
open Go.RowKit
def zbS (w:World) (B:Nat) (v:Value):Prop :=
 v = .slice none 0 0∨∃ g n cap cur,v = .slice (some ⟨g,0,none⟩) n cap∧B≤g∧Blk w g 5 cur∧cur.size=cap∧n≤cap∧cap≤maxLen
def zcA (w:World) (v:Value) (q:Int):Prop:=∀ g n cap,v = .slice (some ⟨g,0,none⟩) n cap→∀ k,k<cap→w.cell? ⟨g,k,none⟩=some (.int .u8 q)
def zi6 (j:Nat):Int:=((j:Int)+1)%256
theorem zbS.kept {w w':World} {B:Nat} {v:Value} {row:Option Nat} (h:zbS w B v) (hg:w.grownBy w' row) (hne:v.ownBlock=none∨v.ownBlock≠row):zbS w' B v:=by
 rcases h with h | ⟨g,n,cap,cur,rfl,h1,h2,h3⟩
 ·exact .inl h
 ·refine .inr ⟨g,n,cap,cur,rfl,h1,h2.grown hg (fun e=>?_),h3⟩
  rcases hne with h | h
  ·cases h
  ·exact h e
theorem zcA.kept {w w':World} {v:Value} {q:Int} {row:Option Nat} (h:zcA w v q) (hg:w.grownBy w' row) (hne:v.ownBlock=none∨v.ownBlock≠row):zcA w' v q:=by
 intro g n cap hv k hk
 subst hv
 refine hg.cell (h g n cap rfl k hk) (fun e=>?_)
 rcases hne with h | h
 ·cases h
 ·exact h e
theorem zbS.drewN {w:World} {B:Nat} {v:Value} (h:zbS w B v) (k:Nat):zbS (w.drewN k) B v:=h
theorem zcA.drewN {w:World} {v:Value} {q:Int} (h:zcA w v q) (k:Nat):zcA (w.drewN k) v q:=h
structure zeg (w wr:World) (B rb N j:Nat) (rows:Nat→Value) (arr:Array Value):Prop where
 blk:Blk wr rb 22 arr
 own:∀ q,q<N→zbS wr B (rows q)
 full:∀ q,q<j→zcA wr (rows q) (zi6 q)
 below:Below B w wr
 rest:∀ b,b<w.heap.size→(∀ q,q<N→(rows q).ownBlock≠some b)→wr.heap[b]?=w.heap[b]?
theorem zeg.drewN {w wr:World} {B rb N j:Nat} {rows:Nat→Value} {arr:Array Value} (h:zeg w wr B rb N j rows arr) (k:Nat):zeg w (wr.drewN k) B rb N j rows arr :=
 ⟨h.blk,fun q hq=>(h.own q hq).drewN k,fun q hq=>(h.full q hq).drewN k,zcz h.below k,h.rest⟩
theorem zeg.next {w wr w':World} {B rb N j:Nat} {rows:Nat→Value} {arr:Array Value} (h:zeg w wr B rb N j rows arr) (hj:j<N) (hB:B≤wr.heap.size)
  (hd:∀ p q,p<N→q<N→p≠q→(rows p).ownBlock=none∨(rows p).ownBlock≠(rows q).ownBlock)
  {g n cap:Nat} {cur:Array Value} (hv:rows j = .slice (some ⟨g,0,none⟩) n cap) (hBg:B≤g) (hb:Blk w' g 5 cur) (hs:cur.size=cap) (hn:n≤cap) (hm:cap≤maxLen)
  (hc:∀ k,k<cap→cur[k]?=some (.int .u8 (zi6 j))) (hg:wr.grownBy w' (some g)):zeg w w' B rb N (j+1) rows arr:=by
 have hown:(rows j).ownBlock=some g:=by rw [hv];rfl
 refine ⟨h.blk.grown hg (fun e=>?_),fun q hq=>?_,fun q hq=>?_,h.below.grown hg hB (by intro k hk;injection hk;omega),
  fun b hb hq=>(hg.block b (Nat.lt_of_lt_of_le hb h.below.size) (fun e=>hq j hj (by rw [hown];exact e.symm))).trans (h.rest b hb hq)⟩
 ·injection e with e
  subst e
  have h1:=h.blk
  rcases h.own j hj with h2 | ⟨g',n',cap',cur',h2,_,h3,_⟩
  ·rw [hv] at h2;cases h2
  ·rw [hv] at h2
   injection h2 with h2
   injection h2 with h2
   injection h2 with h2
   subst h2
   unfold Blk at h1 h3
   rw [h1] at h3
   injection h3 with h3
   injection h3 with _ ht
   exact absurd ht (by decide)
 ·by_cases hqj:q=j
  ·subst hqj
   exact .inr ⟨g,n,cap,cur,hv,hBg,hb,hs,hn,hm⟩
  ·refine (h.own q hq).kept hg ?_
   rcases hd q j hq hj hqj with h1 | h1
   ·exact .inl h1
   ·exact .inr (by rw [hown] at h1;exact h1)
 ·by_cases hqj:q=j
  ·subst hqj
   intro g' n' cap' h2 k hk
   rw [hv] at h2
   injection h2 with h2 h3 h4
   injection h2 with h2
   injection h2 with h2
   subst h2 h3 h4
   rw [hb.cell k]
   exact hc k hk
  ·refine (h.full q (by omega)).kept hg ?_
   rcases hd q j (by omega) hj hqj with h1 | h1
   ·exact .inl h1
   ·exact .inr (by rw [hown] at h1;exact h1)
set_option maxHeartbeats 4000000 in
theorem zgT (w:World) (B rb N c:Nat) (rows:Nat→Value) (arr:Array Value) (hN:0<N) (hN2:N≤1000) (hNc:N≤c) (ha:∀ q,q<N→arr[q]?=some (rows q)) (hblk:Blk w rb 22 arr) (hB:B≤w.heap.size)
  (hown:∀ q,q<N→zbS w B (rows q)) (hd:∀ p q,p<N→q<N→p≠q→(rows p).ownBlock=none∨(rows p).ownBlock≠(rows q).ownBlock) :
  Calls Tryz.prog 11 #[.slice (some ⟨rb,0,none⟩) N c] w fun e w'=>e = .returned (.bool true)∧Below B w w'∧∀ b,b<w.heap.size→(∀ q,q<N→(rows q).ownBlock≠some b)→w'.heap[b]?=w.heap[b]?:=by
 have HA:=hide ha
 have HD:=hide hd
 have HR:Hid (zeg w w B rb N 0 rows arr):=⟨hblk,hown,fun q hq=>absurd hq (by omega),Below.refl _ _,fun _ _ _=>rfl⟩
 clear ha hd hblk hown
 go_enter Tryz.func11,Tryz.ntmps11
 go_wp2
 go_loopw [3] (fun i wr=>∃ j:Nat,j≤N∧i = .int .i64 j∧Hid (zeg w wr B rb N j rows arr)) (fun i _=>N-(intOf i).toNat)
 case atStart=>exact ⟨0,by omega,rfl,HR.out⟩
 case round =>
  obtain ⟨j,hj,rfl,HRj⟩:=hrel
  obtain ⟨wo,rfl⟩:∃ wo:World,wo=wr:=⟨_,rfl⟩
  by_cases hlt:j<N
  ·have hrow:=HA.out j hlt
   have hc0:wo.cell? ⟨rb,j,none⟩=some (rows j):=by rw [HRj.out.blk.cell j];exact hrow
   have hsz:=HRj.out.below.size
   have hsz':B≤wo.heap.size:=by omega
   rcases HRj.out.own j hlt with hv | ⟨g,n,cap,cur,hv,hBg,hb,hs,hn,hm⟩
   ·have HV:=hide hv
    rw [hv] at hc0
    clear hv hrow
    go_wp2
    go_quiet (fail)
    go_wp2
    refine wp_loop_rounds 1 ?_
    rw [rounds_succ]
    go_wp2
    go_roundw
    case rel =>
     refine ⟨j+1,by omega,by go_num,?_⟩
     have h:=HRj.out.drewN nq
     refine ⟨h.blk,h.own,fun q hq=>?_,h.below,h.rest⟩
     by_cases hqj:q=j
     ·subst hqj
      intro g' n' cap' h2
      rw [HV.out] at h2
      cases h2
     ·exact h.full q (by omega)
    case measure=>simp [intOf];omega
   ·have HV:=hide hv
    rw [hv] at hc0
    have hm':cap≤9223372036854775807:=by unfold maxLen at hm;omega
    have HBK:=hide hb
    have HS:=hide hs
    clear hv hrow hb hs
    go_wp2
    go_quiet (fail)
    go_wp2
    go_loopw [5] (fun k wi=>∃ (t:Nat) (cu:Array Value),t≤cap∧k = .int .i64 t∧Hid (Blk wi g 5 cu∧cu.size=cap∧(∀ u,u<t→cu[u]?=some (.int .u8 (zi6 j)))∧(wo.drewN nq).grownBy wi (some g))) (fun k _=>cap-(intOf k).toNat)
    case atStart=>exact ⟨0,cur,by omega,rfl,HBK.out,HS.out,fun u hu=>absurd hu (by omega),zaf _ _⟩
    case round =>
     obtain ⟨t,cu,ht,rfl,HC⟩:=hrel
     by_cases hlt2:t<cap
     ·obtain ⟨q,hq⟩:∃ q,cu[t]?=some q:=⟨_,Array.getElem?_eq_getElem (by rw [HC.out.2.1];exact hlt2)⟩
      have hc1:wr.cell? ⟨g,t,none⟩=some q:=by rw [HC.out.1.cell t];exact hq
      have hf1:wr.frozen? ⟨g,t,none⟩=false:=HC.out.1.frozen t
      clear hq
      go_wp2
      go_roundw
      case rel =>
       refine ⟨t+1,_,by omega,by go_num,HC.out.1.set_ t _,by simpa using HC.out.2.1,fun u hu=>?_,zap HC.out.2.2.2 (.inl rfl) _⟩
       ·by_cases hut:u=t
        ·subst hut
         rw [Array.getElem?_setIfInBounds]
         rw [if_pos rfl,if_pos (by rw [HC.out.2.1];exact hlt2)]
         rfl
        ·rw [Array.getElem?_setIfInBounds_ne (fun e=>hut e.symm)]
         exact HC.out.2.2.1 u (by omega)
      case measure=>simp [intOf];omega
     ·go_wp2
      go_roundw
      case rel =>
       have h:=HRj.out.drewN nq
       refine ⟨j+1,by omega,by go_num,?_⟩
       exact h.next hlt (by simpa using hsz') HD.out HV.out hBg HC.out.1 HC.out.2.1 hn hm (fun u hu=>HC.out.2.2.1 u (by omega)) HC.out.2.2.2
      case measure=>simp [intOf];omega
  ·obtain rfl:j=N:=by omega
   have HRj2:=hide HRj.out
   clear HRj HR hlt
   go_wp2
   go_loopw [6] (fun i wr=>∃ p:Nat,p≤j∧i = .int .i64 p∧Hid (zeg w wr B rb j j rows arr)) (fun i _=>j-(intOf i).toNat)
   case atStart=>exact ⟨0,by omega,rfl,HRj2.out⟩
   case round =>
    obtain ⟨p,hp,rfl,HRp⟩:=hrel
    obtain ⟨wp,rfl⟩:∃ wp:World,wp=wr:=⟨_,rfl⟩
    by_cases hlt:p<j
    ·have hrow:=HA.out p hlt
     have hc0:wp.cell? ⟨rb,p,none⟩=some (rows p):=by rw [HRp.out.blk.cell p];exact hrow
     rcases HRp.out.own p hlt with hv | ⟨g,n,cap,cur,hv,hBg,hb,hs,hn,hm⟩
     ·have HV:=hide hv
      rw [hv] at hc0
      clear hv hrow
      go_wp2
      go_quiet (fail)
      go_wp2
      refine wp_loop_rounds 1 ?_
      rw [rounds_succ]
      go_wp2
      go_roundw
      case rel=>exact ⟨p+1,by omega,by go_num,HRp.out.drewN nq⟩
      case measure=>simp [intOf];omega
     ·have HV:=hide hv
      rw [hv] at hc0
      have hm':cap≤9223372036854775807:=by unfold maxLen at hm;omega
      have HF:=hide (HRp.out.full p hlt g n cap hv)
      clear hv hrow hb hs
      go_wp2
      go_quiet (fail)
      go_wp2
      go_loop [8] (fun k=>∃ t:Nat,t≤cap∧k = .int .i64 t) (fun k=>cap-(intOf k).toNat)
      case atStart=>exact ⟨0,by omega,rfl⟩
      case round =>
       obtain ⟨t,ht,rfl⟩:=hrel
       by_cases hlt2:t<cap
       ·have hc1:(wp.drewN nq).cell? ⟨g,t,none⟩=some (.int .u8 (((p:Int)+1)%256)):=HF.out t hlt2
        go_wp2
        go_round
        case rel=>exact ⟨t+1,by omega,by go_num⟩
        case measure=>simp [intOf];omega
       ·go_wp2
        go_roundw
        case rel=>exact ⟨p+1,by omega,by go_num,HRp.out.drewN nq⟩
        case measure=>simp [intOf];omega
    ·go_wp2
     go_ret
     exact ⟨rfl,HRp.out.below,HRp.out.rest⟩
theorem zgS (w:World) (B rb N c:Nat) (rows:Nat→Value) (arr:Array Value) (hN:0<N) (hN2:N≤1000) (hNc:N≤c) (ha:∀ q,q<N→arr[q]?=some (rows q)) (hblk:Blk w rb 22 arr) (hB:B≤w.heap.size)
  (hown:∀ q,q<N→zbS w B (rows q)) (hd:∀ p q,p<N→q<N→p≠q→(rows p).ownBlock=none∨(rows p).ownBlock≠(rows q).ownBlock) :
  Calls Tryz.prog 11 #[.slice (some ⟨rb,0,none⟩) N c] w fun e w'=>e = .returned (.bool true)∧Below B w w' :=
 (zgT w B rb N c rows arr hN hN2 hNc ha hblk hB hown hd).mono fun _ _ h=>⟨h.1,h.2.1⟩
open Go.RowKit
set_option maxHeartbeats 1000000 in
theorem zh0 (w:World) (lo hi:Nat) (A:Option Addr) (n c:Nat) (bs:List UInt8) (h:At w lo hi A n bs) (hh:hi≤w.heap.size) (hn:n+1≤140737488355328) :
  Calls Tryz.prog 6 #[.slice A n c] w fun e w'=>e = .returned (.slice (some ⟨w.heap.size,0,none⟩) n (n+1))∧Blk w' w.heap.size 5 (bvs bs++[bv 77]).toArray∧Below w.heap.size w w':=by
 obtain ⟨i0,hi0,hz0,hz1,hz2⟩:=info_parts zby
 have HL:=hide h.len
 have H:=hide h
 have HMS:=hide (fun m=>zcm (.int .u8 0) m)
 have e0:(bvs bs++(madeCells #[.int .u8 0] (n+1)).toList.drop n).toArray=(bvs bs++[Value.int .u8 0]).toArray:=by
  rw [toList_madeCells_one,List.drop_replicate]
  have:n+1-n=1:=by omega
  rw [this]
  rfl
 have E0:=hide e0
 clear h e0
 go_enter Tryz.func6,Tryz.ntmps6
 go_wp2_with (first
  | (at_make;go_must (refine zbD rfl (.tmp 5) (.tmp 8) _ rfl 5 i0 Tryz.underlying22 hi0 hz0 hz1 hz2 n (n+1) _ rfl rfl (by omega) (by omega) (by omega) ?_))
  | (with_reducible refine zbE rfl (.tmp 10) (.tmp 11) _ rfl 5 i0 Tryz.underlying22 hi0 hz1 w.heap.size n n (n+1) c lo hi A bs _ (Blk.new w _ _) (H.out.alloc hh _) (by rw [HMS.out];omega) (Nat.le_refl _) rfl rfl ?_;intro w1 hb1 hg1;rw [E0.out] at hb1;have hc1:w1.cell? ⟨w.heap.size,n,none⟩=some (.int .u8 0):=(by rw [hb1.cell n];simp [bvs,HL.out]);have hf1:w1.frozen? ⟨w.heap.size,n,none⟩=false:=hb1.frozen n;have HB1:=hide hb1;have HG1:=hide hg1;clear hb1 hg1))
 go_ret
 refine ⟨rfl,?_,(((Below.refl _ _).alloc (Nat.le_refl _) _).grown HG1.out (by simp) (by simp)).setCell (by simp) _⟩
 have hl:=HL.out
 have hs:=HB1.out.set_ n (.int .u8 77)
 have he:(bvs bs++[Value.int .u8 0]).toArray.setIfInBounds n (.int .u8 77)=(bvs bs++[bv 77]).toArray:=by
  apply Array.toList_inj.1
  have hlen:(bvs bs).length=n:=by rw [zav];exact hl
  rw [Array.toList_setIfInBounds]
  show (bvs bs++[Value.int .u8 0]).set n (.int .u8 77)=_
  rw [List.set_append_right _ _ (by omega)]
  simp [hlen]
  rfl
 rwa [he] at hs
theorem zh2 (w:World) (g lo hi:Nat) (A:Option Addr) (n c:Nat) (bs:List UInt8) (hb:Blk w g 5 (bvs bs++[bv 77]).toArray) (h:At w lo hi A n bs) (hn:n+1≤140737488355328) :
  Calls Tryz.prog 9 #[.slice (some ⟨g,0,none⟩) n (n+1),.slice A n c] w fun e w'=>e = .returned (.bool true)∧w=w':=by
 have hl:=h.len
 have hc:w.cell? ⟨g,n,none⟩=some (.int .u8 77):=by rw [hb.cell n];simp [bvs,hl];rfl
 have hat:At w 0 w.heap.size (some ⟨g,0,none⟩) n bs:=⟨hl,fun _=>⟨g,0,rfl,Nat.zero_le _,hb.lt,fun j u hu=>by
  have hj:j<bs.length:=(List.getElem?_eq_some_iff.1 hu).1
  rw [Nat.zero_add,hb.cell j]
  simp [bvs,List.getElem?_append,hj]
  rw [(List.getElem?_eq_some_iff.1 hu).2]⟩⟩
 have t1:=hat.text (P:=Tryz.prog) 22 5 Tryz.underlying22 Tryz.underlying5 (n+1) 9 Tryz.underlying9
 have t2:=h.text (P:=Tryz.prog) 22 5 Tryz.underlying22 Tryz.underlying5 c 9 Tryz.underlying9
 clear hat h hb hl
 go_enter Tryz.func9,Tryz.ntmps9
 go_wp2
 go_ret
 exact ⟨rfl,rfl⟩
end
end Go.Proofs.YthgainmcnjldaaaGreatDoor
