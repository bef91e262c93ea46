/-
  What the functions of package cursor do, one by one, in whatever memory. No condition beyond sizes that fit memory.
  What Num, Sub and Open do, in whatever memory. No condition beyond sizes that fit memory.
  What Put does, in whatever memory. No condition beyond sizes that fit memory.
-/
import Derived.Test.YtjindligkhdddaaGreatDoorProg
import Derived.Test.YtjindligkhdddaaGreatDoorSDAA
set_option linter.unusedVariables false
set_option linter.unusedSimpArgs false
namespace Go.Proofs.YtjindligkhdddaaGreatDoor
section
set_option maxHeartbeats 400000
open Go.RowKit
theorem zbQ:(Tryz.prog.info? 5).map (fun i=>(i.zero,i.size,i.bytes))=some (some (.int .u8 0),1,1):=by kernel_rfl
theorem zvm (w:World) (g:Nat) (A:Option Addr) (n c:Nat) (bad:Bool) (h:Blk w g 94 #[.slice A n c,.bool bad]) :
  Calls Tryz.prog 68 #[.pointer (some ⟨g,0,none⟩)] w fun e w'=>e = .returned (.int .i64 n)∧w=w':=by
 have h0:w.cell? ⟨g,0,none⟩=some (.slice A n c):=h.cell 0
 clear h
 go_enter Tryz.func68,Tryz.ntmps68
 go_wp2
 go_ret
 exact ⟨rfl,rfl⟩
theorem zji (w:World) (g:Nat) (A:Option Addr) (n c:Nat) (bad:Bool) (h:Blk w g 94 #[.slice A n c,.bool bad]) :
  Calls Tryz.prog 67 #[.pointer (some ⟨g,0,none⟩)] w fun e w'=>e = .returned (.bool bad)∧w=w':=by
 have h0:w.cell? ⟨g,1,none⟩=some (.bool bad):=h.cell 1
 clear h
 go_enter Tryz.func67,Tryz.ntmps67
 go_wp2
 go_ret
 exact ⟨rfl,rfl⟩
theorem ziw (w:World) (g:Nat) (A:Option Addr) (n c:Nat) (bad:Bool) (h:Blk w g 94 #[.slice A n c,.bool bad]) :
  Calls Tryz.prog 37 #[.pointer (some ⟨g,0,none⟩)] w fun e w'=>e = .returned (.tuple #[]) ∧
   Blk w' g 94 #[.slice none 0 0,.bool true]∧w.grownBy w' (some g):=by
 have h0:w.cell? ⟨g,0,none⟩=some (.slice A n c):=h.cell 0
 have h1:w.cell? ⟨g,1,none⟩=some (.bool bad):=h.cell 1
 have f0:w.frozen? ⟨g,0,none⟩=false:=h.frozen 0
 have f1:w.frozen? ⟨g,1,none⟩=false:=h.frozen 1
 have H:=hide h
 clear h
 go_enter Tryz.func37,Tryz.ntmps37
 go_wp2
 go_end0
 have hb:=(H.out.set_ 0 (.slice none 0 0)).set_ 1 (.bool true)
 have hg:=zao (p:=⟨g,1,none⟩) (zao (p:=⟨g,0,none⟩) (zac w (some g)) (.inl rfl) (.slice none 0 0)) (.inl rfl) (.bool true)
 exact ⟨rfl,by simpa using hb,hg⟩
theorem zee (w:World) (lo hi:Nat) (A:Option Addr) (n c:Nat) (bs:List UInt8) (h:At w lo hi A n bs) (hh:hi≤w.heap.size) (hn:n≤140737488355328) :
  Calls Tryz.prog 13 #[.slice A n c] w fun e w'=>∃ v,e = .returned v∧w'.ownsRow w.heap.size 5 1 v n (bvs bs)∧Below w.heap.size w w':=by
 have qn:=fun w=>Lib.run_eql_slice_nil (P:=Tryz.prog) w 22 5 A n c 0 0 Tryz.underlying22
 obtain ⟨i0,hi0,hz0,hz1,hz2⟩:=info_parts zbQ
 rcases A with _ | ad
 ·have hn0:n=0:=by
   rcases Nat.eq_zero_or_pos n with h0 | h0
   ·exact h0
   ·obtain ⟨b,o,h,_⟩:=h.2 h0
    cases h
  subst hn0
  have:bs=[]:=List.eq_nil_of_length_eq_zero h.1
  subst this
  clear h
  go_enter Tryz.func13,Tryz.ntmps13
  go_wp2
  go_ret
  exact ⟨_,rfl,World.ownsRow_nil _ _ _ _,Below.refl _ _⟩
 ·have H:=hide h
  clear h
  go_enter Tryz.func13,Tryz.ntmps13
  go_wp2_with (at_builtin;refine zap _ rfl _ _ 22 rfl w.heap.size 5 i0 Tryz.underlying22 hi0 hz0 hz1 hz2 (.slice (some ⟨w.heap.size,0,none⟩) 0 0) 0 [] rfl (World.ownsRow_made w #[] 0 (Nat.le_refl _) (Nat.zero_le _) rfl) lo hi (some ad) n c bs rfl (H.out.alloc hh _) (by omega) (by simp) ?_;intro v1 w1 hown1 hg1 hat1)
  go_ret
  refine ⟨_,rfl,by simpa using hown1,?_⟩
  exact ((Below.refl _ _).alloc (Nat.le_refl _) _).grown hg1 (by simp) (by simp [Value.ownBlock])
def Rd (w:World) (lo g:Nat) (bs:List UInt8) (bad:Bool):Prop :=
 ∃ A n c,Blk w g 94 #[.slice A n c,.bool bad]∧At w lo g A n bs∧n≤c∧n≤140737488355328
theorem Rd.lt {w:World} {lo g:Nat} {bs:List UInt8} {bad:Bool} (h:Rd w lo g bs bad):g<w.heap.size:=by
 obtain ⟨A,n,c,hb,_⟩:=h
 exact hb.lt
theorem Rd.len {w:World} {lo g:Nat} {bs:List UInt8} {bad:Bool} (h:Rd w lo g bs bad):bs.length≤140737488355328:=by
 obtain ⟨A,n,c,_,ha,_,hn⟩:=h
 rw [ha.1];exact hn
theorem Rd.keep {w w':World} {lo g:Nat} {bs:List UInt8} {bad:Bool} (h:Rd w lo g bs bad) {row:Option Nat} (hg:w.grownBy w' row) (hr:∀ k,row=some k→k<lo∧k≠g∨g<k):Rd w' lo g bs bad:=by
 obtain ⟨A,n,c,hb,ha,hc,hn⟩:=h
 have hl:=hb.lt
 refine ⟨A,n,c,hb.grown hg (fun e=>?_),ha.grown hg (by omega) (fun k hk=>?_),hc,hn⟩
 ·have:=hr g e.symm;omega
 ·have:=hr k hk;omega
theorem Rd.below {w w':World} {lo g B:Nat} {bs:List UInt8} {bad:Bool} (h:Rd w lo g bs bad) (hb:Below B w w') (hB:g<B):Rd w' lo g bs bad:=by
 obtain ⟨A,n,c,hk,ha,hc,hn⟩:=h
 exact ⟨A,n,c,hk.below hb hB,ha.below (hb.mono (by omega)),hc,hn⟩
theorem zoE {w:World} {lo g:Nat} {bs:List UInt8} {bad:Bool} {A:Option Addr} {n c m:Nat} (hb:Blk w g 94 #[.slice A n c,.bool bad]) (ha:At w lo g A n bs) (hc:n≤c) (hn:n≤140737488355328) (hm:m≤n)
  (A':Option Addr) (hA:A'=if c=m then A else A.map (·.add m)) (c':Nat) (hcc:c'=c-m) :
  At (w.setCell ⟨g,0,none⟩ (.slice A' (n-m) c')) lo g A m (zab bs m)∧Rd (w.setCell ⟨g,0,none⟩ (.slice A' (n-m) c')) lo g (zae bs m) (bad||!zaY bs m) ∧
   w.grownBy (w.setCell ⟨g,0,none⟩ (.slice A' (n-m) c')) (some g):=by
 have hl:=ha.len
 have hs:zaY bs (m:Int)=true:=by unfold zaY;simp;omega
 have h1:zab bs (m:Int)=bs.take m:=by unfold zab;rw [if_pos hs];rfl
 have h2:zae bs (m:Int)=bs.drop m:=by unfold zae;rw [if_pos hs];rfl
 rw [h1,h2,hs]
 subst hA hcc
 refine ⟨(ha.head hm).far (.inr (Nat.le_refl _)) _,⟨_,n-m,c-m,?_,((ha.tail hm hc).far (.inr (Nat.le_refl _)) _),by omega,by omega⟩,zao (zac w _) (.inl rfl) _⟩
 have:=hb.set_ 0 (.slice (if c=m then A else A.map (·.add m)) (n-m) (c-m))
 simpa using this
theorem zwZ {w:World} {lo g:Nat} {bs:List UInt8} {bad:Bool} {k:Int} (hs:zaY bs k=false) (hb:Blk w g 94 #[.slice none 0 0,.bool true]) :
  At w lo g none 0 (zab bs k)∧Rd w lo g (zae bs k) (bad||!zaY bs k):=by
 have h1:zab bs k=[]:=by unfold zab;rw [hs];rfl
 have h2:zae bs k=[]:=by unfold zae;rw [hs];rfl
 rw [h1,h2,hs]
 exact ⟨At.nil _ _ _ _,none,0,0,by simpa using hb,At.nil _ _ _ _,by omega,by omega⟩
theorem zkE (w:World) (lo g:Nat) (bs:List UInt8) (bad:Bool) (h:Rd w lo g bs bad) (k:Int) (wk:(Lit.int .i64 k).wf=true) :
  Calls Tryz.prog 35 #[.pointer (some ⟨g,0,none⟩),.int .i64 k] w fun e w'=>∃ A m c,e = .returned (.slice A m c)∧m≤c∧At w' lo g A m (zab bs k) ∧
   Rd w' lo g (zae bs k) (bad||!zaY bs k)∧w.grownBy w' (some g):=by
 obtain ⟨A,n,c,hb,ha,hc,hn⟩:=h
 have h0:w.cell? ⟨g,0,none⟩=some (.slice A n c):=hb.cell 0
 have h1:w.cell? ⟨g,1,none⟩=some (.bool bad):=hb.cell 1
 have f0:w.frozen? ⟨g,0,none⟩=false:=hb.frozen 0
 have f1:w.frozen? ⟨g,1,none⟩=false:=hb.frozen 1
 have hl:=ha.len
 by_cases hk:0≤k∧k≤n
 ·obtain ⟨hk0,hkn⟩:=hk
  obtain ⟨m,rfl⟩:∃ m:Nat,k=(m:Int):=⟨k.toNat,by omega⟩
  by_cases hcm:c=m
  ·have hnm:n=m:=by omega
   subst hnm
   subst hcm
   have F:=hide (zoE hb ha hc hn (Nat.le_refl _) A (by simp) 0 (by omega))
   clear hl ha hb wk
   go_enter Tryz.func35,Tryz.ntmps35
   go_wp2
   go_ret
   have F':=F.out
   rw [Nat.sub_self] at F'
   exact ⟨_,_,_,rfl,hc,by simpa using F'⟩
  ·have F:=hide (zoE hb ha hc hn (show m≤n by omega) (A.map (·.add m)) (by rw [if_neg hcm]) (c-m) rfl)
   have hcm':¬ c=m:=hcm
   clear hl ha hb wk
   go_enter Tryz.func35,Tryz.ntmps35
   go_wp2
   go_ret
   exact ⟨_,_,_,rfl,by omega,F.out⟩
 ·have hsb:zaY bs k=false:=by unfold zaY;simp;omega
  have F:=hide (fun w'=>@zwZ w' lo g bs bad k hsb)
  have HB:=hide hb
  have hk':k<0∨n<k:=by omega
  clear hl ha hb hsb hk
  by_cases hk0:k<0
  ·clear hk'
   go_enter Tryz.func35,Tryz.ntmps35
   go_wp2_with (go_at_call 37;refine (ziw _ _ _ _ _ _ HB.out).mono ?_;rintro e w1 ⟨rfl,hb1,hg1⟩;have HB1:=hide hb1;clear hb1)
   go_ret
   exact ⟨_,_,_,rfl,Nat.le_refl _,(F.out _ HB1.out).1,(F.out _ HB1.out).2,hg1⟩
  ·have hk2:(n:Int)<k:=by omega
   clear hk'
   go_enter Tryz.func35,Tryz.ntmps35
   go_wp2_with (go_at_call 37;refine (ziw _ _ _ _ _ _ HB.out).mono ?_;rintro e w1 ⟨rfl,hb1,hg1⟩;have HB1:=hide hb1;clear hb1)
   go_ret
   exact ⟨_,_,_,rfl,Nat.le_refl _,(F.out _ HB1.out).1,(F.out _ HB1.out).2,hg1⟩
theorem zaA {w:World} {base base':Nat} {e:TypeId} {v:Value} {n:Nat} {xs:List Value} (h:w.ownsRow base e 1 v n xs) (hb:base'≤base):w.ownsRow base' e 1 v n xs:=by
 refine ⟨h.1,?_⟩
 rcases h.2 with h | ⟨g,cap,cur,h1,h2,h3⟩
 ·exact .inl h
 ·exact .inr ⟨g,cap,cur,h1,by omega,h3⟩
theorem zaR (w:World) (lo g:Nat) (bs:List UInt8) (bad:Bool) (h:Rd w lo g bs bad) (k:Int) (wk:(Lit.int .i64 k).wf=true) :
  Calls Tryz.prog 19 #[.pointer (some ⟨g,0,none⟩),.int .i64 k] w fun e w'=>∃ v,e = .returned v∧w'.ownsRow w.heap.size 5 1 v (zab bs k).length (bvs (zab bs k)) ∧
   Rd w' lo g (zae bs k) (bad||!zaY bs k)∧w.grownBy w' (some g):=by
 have hl:=h.lt
 have hn:=h.len
 have ht:(zab bs k).length≤140737488355328:=by
  unfold zab;split
  ·rw [List.length_take];omega
  ·simp
 obtain ⟨A,n,c,hb,_⟩:=id h
 have h0:w.cell? ⟨g,0,none⟩=some (.slice A n c):=hb.cell 0
 have HR:=hide h
 clear hb h hn
 go_enter Tryz.func19,Tryz.ntmps19
 go_wp2_with (first
  | (go_at_call 35;refine (zkE _ lo g bs bad HR.out k wk).mono ?_;rintro e w1 ⟨A1,m1,c1,rfl,hmc,hat,hrd,hg⟩;have HRD:=hide hrd;have hsz:=hg.size;clear hrd)
  | (go_at_call 13;refine (zee _ lo g _ _ _ _ hat (by omega) (by rw [← hat.len];exact ht)).mono ?_;rintro e w2 ⟨v,rfl,hown,hbel⟩))
 go_ret
 exact ⟨_,rfl,by rw [hat.len];exact zaA hown hsz,HRD.out.below hbel (by omega),zes hg hbel⟩
theorem Rd.left {w:World} {lo g:Nat} {bs:List UInt8} {bad:Bool} (h:Rd w lo g bs bad) :
  Calls Tryz.prog 68 #[.pointer (some ⟨g,0,none⟩)] w fun e w'=>e = .returned (.int .i64 bs.length)∧w=w':=by
 obtain ⟨A,n,c,hb,ha,_⟩:=h
 rw [ha.len]
 exact zvm w g A n c bad hb
theorem Rd.open0 {w:World} {lo g:Nat} {bs:List UInt8} {bad:Bool} (h:Rd w lo g bs bad):∃ A n c,w.cell? ⟨g,0,none⟩=some (.slice A n c):=by
 obtain ⟨A,n,c,hb,_⟩:=h
 exact ⟨A,n,c,hb.cell 0⟩
open Go.RowKit
theorem zbt (w:World) (lo hi:Nat) (A:Option Addr) (n c:Nat) (bs:List UInt8) (h:At w lo hi A n bs) (hh:hi≤w.heap.size) (hn:n≤140737488355328) :
  Calls Tryz.prog 17 #[.slice A n c] w fun e w'=>∃ g,e = .returned (.pointer (some ⟨g,0,none⟩))∧w.heap.size≤g∧Rd w' w.heap.size g bs false∧Below w.heap.size w w':=by
 have hl:=hide h.len
 have H:=hide h
 clear h
 go_enter Tryz.func17,Tryz.ntmps17
 go_wp2_with (go_at_call 13;refine (zee _ lo hi _ _ _ _ H.out hh hn).mono ?_;rintro e w1 ⟨v,rfl,hown,hbel⟩;have hsh:=zag hown;obtain ⟨A1,c1,rfl,hc1,_⟩:=hsh;have hsz:=hbel.size)
 go_ret
 have hB:=Blk.new w1 94 #[.slice A1 n c1,.bool false]
 have hA:=(At.own hown).alloc (Nat.le_refl _) (.cells #[.slice A1 n c1,.bool false] 94)
 exact ⟨_,rfl,hsz,⟨_,_,_,hB,hA,hc1,hn⟩,hbel.alloc hsz _⟩
theorem ziR (w:World) (lo g:Nat) (bs:List UInt8) (bad:Bool) (h:Rd w lo g bs bad) (k:Nat) (h1:1≤k) (h2:k≤4) :
  Calls Tryz.prog 21 #[.pointer (some ⟨g,0,none⟩),.int .i64 k] w fun e w'=>e = .returned (.int .i64 (big (zab bs k):Nat)) ∧
   Rd w' lo g (zae bs k) (bad||!zaY bs k)∧w.grownBy w' (some g):=by
 have wk:(Lit.int .i64 (k:Int)).wf=true:=WalkArith.wf_i64 (by omega)
 have ht:(zab bs k).length≤4:=by
  unfold zab;split
  ·rw [List.length_take];omega
  ·simp
 obtain ⟨A,n,c,hb,_⟩:=id h
 have h0:w.cell? ⟨g,0,none⟩=some (.slice A n c):=hb.cell 0
 have HR:=hide h
 have HT:=hide ht
 clear hb h ht
 go_enter Tryz.func21,Tryz.ntmps21
 go_wp2_with (go_at_call 35;refine (zkE _ lo g bs bad HR.out k wk).mono ?_;rintro e w1 ⟨A1,m1,c1,rfl,hmc,hat,hrd,hg⟩;have HRD:=hide hrd;have HG:=hide hg;have HAT:=hide hat;have hm4:m1≤4:=(by rw [← hat.len];exact HT.out);clear hrd hg hat)
 go_loop [5,24] (fun t i=>∃ j:Nat,j≤m1∧i = .int .i64 j∧t = .int .i64 (big ((zab bs k).take j):Nat)) (fun _ i=>m1-(intOf i).toNat)
 case atStart=>exact ⟨0,Nat.zero_le _,rfl,rfl⟩
 case round =>
  obtain ⟨j,hj,rfl,rfl⟩:=hrel
  by_cases hlt:j<m1
  ·obtain ⟨b,o,u,rfl,hu,hc⟩:=HAT.out.at_ hlt
   have hbl:=hide (zvQ hu)
   have hb3:=zm2 (bs:=zab bs k) (k:=j) (by omega)
   have hu2:=u.toNat_lt
   have HU:=hide hu
   clear hu
   go_wp2
   go_round
   case rel =>
    refine ⟨j+1,by omega,by go_num,?_⟩
    rw [zsy _ _ (by omega) hu2,hbl.out]
   case measure=>simp [intOf];omega
  ·obtain rfl:j=m1:=by omega
   have hfull:(zab bs k).take j=zab bs k:=List.take_of_length_le (by rw [HAT.out.len];exact Nat.le_refl _)
   have HF:=hide hfull
   clear hfull
   go_wp2
   go_ret
   exact ⟨by rw [HF.out];rfl,HRD.out,HG.out⟩
theorem num_no (w:World) (lo g:Nat) (bs:List UInt8) (bad:Bool) (h:Rd w lo g bs bad) (k:Int) (wk:(Lit.int .i64 k).wf=true) (hk:k<1∨4<k) :
  Calls Tryz.prog 21 #[.pointer (some ⟨g,0,none⟩),.int .i64 k] w fun e w'=>e = .returned (.int .i64 0) ∧
   Rd w' lo g [] true∧w.grownBy w' (some g):=by
 obtain ⟨A,n,c,hb,_⟩:=id h
 have h0:w.cell? ⟨g,0,none⟩=some (.slice A n c):=hb.cell 0
 have ht:zab [] k=[]:=by unfold zab;split <;> simp
 have hr:zae [] k=[]:=by unfold zae;split <;> simp
 have HR:=hide h
 have HB:=hide hb
 have HT:=hide ht
 have HRR:=hide hr
 clear hb h ht hr
 rcases hk with hk | hk
 all_goals
  go_enter Tryz.func21,Tryz.ntmps21
  go_wp2_with (first
   | (go_at_call 37;refine (ziw _ _ _ _ _ _ HB.out).mono ?_;rintro e w1 ⟨rfl,hb1,hg1⟩;have hb10:=hb1.cell 0;have HB1:=hide hb1;have HG1:=hide hg1;clear hb1 hg1)
   | (go_at_call 35;refine (zkE _ lo g [] true ⟨_,_,_,HB1.out,At.nil _ _ _ _,by omega,by omega⟩ k wk).mono ?_;rintro e w2 ⟨A1,m1,c1,rfl,hmc,hat,hrd,hg⟩;rw [HT.out] at hat;rw [HRR.out,Bool.true_or] at hrd;obtain rfl:=hat.len;have HRD:=hide hrd;have HG:=hide hg;clear hrd hg hat))
  refine wp_loop_rounds 1 ?_
  rw [rounds_succ]
  go_wp2
  go_ret
  exact ⟨rfl,HRD.out,zak HG1.out HG.out⟩
theorem zaW (w:World) (lo g:Nat) (bs:List UInt8) (bad:Bool) (h:Rd w lo g bs bad) (k:Int) (wk:(Lit.int .i64 k).wf=true) :
  Calls Tryz.prog 21 #[.pointer (some ⟨g,0,none⟩),.int .i64 k] w fun e w'=>e = .returned (.int .i64 (zan bs k:Nat)) ∧
   Rd w' lo g (zaf bs k) (bad||!za7 bs k)∧w.grownBy w' (some g):=by
 by_cases hk:1≤k∧k≤4
 ·obtain ⟨m,rfl⟩:∃ m:Nat,k=(m:Int):=⟨k.toNat,by omega⟩
  have hs:zdm (m:Int)=true:=by unfold zdm;simpa using hk
  refine (ziR w lo g bs bad h m (by omega) (by omega)).mono ?_
  rintro e w' ⟨rfl,h2,h3⟩
  unfold zan zaf za7
  rw [if_pos hs,if_pos hs,hs,Bool.true_and]
  exact ⟨rfl,h2,h3⟩
 ·have hs:zdm k=false:=by unfold zdm;simpa using hk
  refine (num_no w lo g bs bad h k wk (by omega)).mono ?_
  rintro e w' ⟨rfl,h2,h3⟩
  unfold zan zaf za7
  rw [hs]
  exact ⟨rfl,by simpa using h2,h3⟩
theorem zkC (w:World) (lo g:Nat) (bs:List UInt8) (bad:Bool) (h:Rd w lo g bs bad) (k:Int) (wk:(Lit.int .i64 k).wf=true) :
  Calls Tryz.prog 66 #[.pointer (some ⟨g,0,none⟩),.int .i64 k] w fun e w'=>∃ g2,e = .returned (.pointer (some ⟨g2,0,none⟩))∧w.heap.size≤g2 ∧
   Rd w' w.heap.size g2 (zab bs k) (bad||!zaY bs k)∧Rd w' lo g (zae bs k) (bad||!zaY bs k)∧w.grownBy w' (some g):=by
 have hl:=h.lt
 have hn:=h.len
 have ht:(zab bs k).length≤140737488355328:=by
  unfold zab;split
  ·rw [List.length_take];omega
  ·simp
 have HR:=hide h
 have HT:=hide ht
 clear h hn ht
 go_enter Tryz.func66,Tryz.ntmps66
 go_wp2_with (go_at_call 19;refine (zaR _ lo g bs bad HR.out k wk).mono ?_;rintro e w1 ⟨v,rfl,hown,hrd,hg⟩;have hsh:=zag hown;obtain ⟨A1,c1,rfl,hc1,_⟩:=hsh;have hsz:=hg.size;obtain ⟨A0,n0,c0,hb0,hrest⟩:=id hrd;have hcell:w1.cell? ⟨g,1,none⟩=some (.bool (bad||!zaY bs k)):=hb0.cell 1;clear hb0 hrest;have HRD:=hide hrd;have HG:=hide hg;have HO:=hide hown;have HC:=hide hc1;clear hrd hg hown hc1)
 go_ret
 have hB:=Blk.new w1 94 #[.slice A1 (zab bs k).length c1,.bool (bad||!zaY bs k)]
 have hA:=(At.own HO.out).alloc (Nat.le_refl _) (.cells #[.slice A1 (zab bs k).length c1,.bool (bad||!zaY bs k)] 94)
 exact ⟨_,rfl,hsz,⟨_,_,_,hB,hA,HC.out,HT.out⟩,HRD.out.keep (zaP (zac w1 none) _) (by simp),zaP HG.out _⟩
open Go.RowKit
theorem zuZ (w:World) (A:Option Addr) (n c:Nat) (x k:Int) (hk:k<1∨4<k) :
  Calls Tryz.prog 34 #[.slice A n c,.int .i64 x,.int .i64 k] w fun e w'=>e = .returned (.tuple #[.slice none 0 0,.int .i64 1])∧w=w':=by
 rcases hk with hk | hk
 all_goals
  go_enter Tryz.func34,Tryz.ntmps34
  go_wp2
  go_ret2
  exact ⟨rfl,rfl⟩
theorem zxy (w:World) (A:Option Addr) (n c:Nat) (x:Int) (k:Nat) (hk1:1≤k) (hk4:k≤4) (hx:x<0∨256^k≤x) :
  Calls Tryz.prog 34 #[.slice A n c,.int .i64 x,.int .i64 k] w fun e w'=>e = .returned (.tuple #[.slice none 0 0,.int .i64 5])∧w=w':=by
 rcases hx with hx | hx
 ·go_enter Tryz.func34,Tryz.ntmps34
  go_wp2
  go_ret2
  exact ⟨rfl,rfl⟩
 ·rcases (show k=1∨k=2∨k=3∨k=4 by omega) with rfl | rfl | rfl | rfl
  all_goals
   simp only [Int.reducePow] at hx
   have hx0:¬ x<0:=by omega
   go_enter Tryz.func34,Tryz.ntmps34
   go_wp2
   go_ret2
   exact ⟨rfl,rfl⟩
set_option maxRecDepth 20000 in
set_option maxHeartbeats 1000000 in
theorem ziO (w:World) (lo hi:Nat) (A:Option Addr) (n c:Nat) (bs:List UInt8) (h:At w lo hi A n bs) (hh:hi≤w.heap.size) (hn:n+4≤140737488355328) (x k:Nat) (hk1:1≤k) (hk4:k≤4) (hx:x<256^k) :
  Calls Tryz.prog 34 #[.slice A n c,.int .i64 x,.int .i64 k] w fun e w'=>∃ v,e = .returned (.tuple #[v,.int .i64 0])∧w'.ownsRow w.heap.size 5 1 v (n+k) (bvs (bs++be k x))∧Below w.heap.size w w':=by
 obtain ⟨i0,hi0,hz0,hz1,hz2⟩:=info_parts zbQ
 have hx4:x<4294967296:=Nat.lt_of_lt_of_le hx (Nat.le_trans (Nat.pow_le_pow_right (by omega) hk4) (by decide))
 have hl:=hide h.len
 have H:=hide h
 clear h
 have own0:∀ (w1:World) (k:Nat),k≤4→Blk w1 w.heap.size 5 (bvs bs++(madeCells #[.int .u8 0] (n+k)).toList.drop n).toArray →
   w1.ownsRow w.heap.size 5 1 (.slice (some ⟨w.heap.size,0,none⟩) n (n+k)) n (bvs bs):=fun w1 k hk hb =>
  zco hb (Nat.le_refl _) (by omega) (by unfold maxLen;omega) (by simp [toList_madeCells_one,za1,hl.out]) (by simp [za1,hl.out,List.take_append_of_le_length])
 have OWN0:=hide own0
 have HMS:=hide (fun m=>zfy (.int .u8 0) m)
 obtain ⟨K,HK⟩:∃ K,Hid (K=k):=⟨k,rfl⟩
 clear own0
 rcases (show k=1∨k=2∨k=3∨k=4 by omega) with rfl | rfl | rfl | rfl
 all_goals
  have hxb:=hx
  simp only [Nat.reducePow] at hxb
  have HXX:=hide hx
  clear hx
  go_enter Tryz.func34,Tryz.ntmps34
  go_wp2_with (first
   | (at_make;refine zcn rfl (.tmp 26) (.tmp 30) _ rfl 5 i0 Tryz.underlying22 hi0 hz0 hz1 hz2 n (n+K) _ rfl rfl (by have:=HK.out;omega) (by omega) (by have:=HK.out;omega) ?_)
   | (with_reducible refine zgJ rfl (.tmp 32) (.tmp 33) _ rfl 5 i0 Tryz.underlying22 hi0 hz1 w.heap.size n n (n+K) c lo hi A bs _ (Blk.new w _ _) (H.out.alloc hh _) (by rw [HMS.out];omega) (Nat.le_refl _) rfl rfl ?_;intro w1 hb1 hg1;have HB1:=hide hb1;have HG1:=hide hg1;clear hb1 hg1))
  go_loopw [8,9] (fun v i wr=>∃ (j:Nat) (s:Int) (vv:Value),v=vv∧j≤K∧s+8*j+8=8*K∧i = .int .i64 s∧wr.ownsRow w.heap.size 5 1 vv (n+j) (bvs (bs++(be K x).take j))∧Below w.heap.size w wr) (fun _ i _=>(intOf i+8).toNat)
  case atStart =>
   have hk:=HK.out
   exact ⟨0,_,_,rfl,by omega,by omega,rfl,by simpa using OWN0.out _ K (by omega) HB1.out,((Below.refl _ _).alloc (Nat.le_refl _) _).grown HG1.out (by simp) (by simp)⟩
  case round =>
   obtain ⟨j,s,vv,rfl,hj,hs,rfl,hown,hbel⟩:=hrel
   obtain ⟨A2,c2,rfl,hc2,_⟩:=zag hown
   have HO:=hide hown
   have HBL:=hide hbel
   have hbelr:=hbel
   clear hown hbel
   by_cases hlt:j<K
   ·have hk:=HK.out
    have HT:=hide (zyk (n:=x) hlt)
    have hsz:=hbelr.size
    have hj3:j≤3:=by omega
    rcases (show (s=0∧K-1-j=0)∨(s=8∧K-1-j=1)∨(s=16∧K-1-j=2)∨(s=24∧K-1-j=3) by omega) with ⟨rfl,hq⟩ | ⟨rfl,hq⟩ | ⟨rfl,hq⟩ | ⟨rfl,hq⟩
    all_goals first | (exfalso;omega) | skip
    all_goals
     have HQ:=hide hq
     clear hk hq
     go_wp2_with (at_builtin;go_must (refine zap _ rfl (.tmp 42) (.tmp 47) _ rfl w.heap.size 5 i0 Tryz.underlying22 hi0 hz0 hz1 hz2 (.slice A2 (n+j) c2) (n+j) (bs++(be K x).take j) rfl (HO.out.alloc _) wr.heap.size (wr.heap.size+1) (some ⟨wr.heap.size,0,none⟩) 1 1 [UInt8.ofNat (x/256^(K-1-j)%256)] rfl (zkq wr _ _ _ (by rw [HQ.out,zvL];simp only [Nat.reducePow];omega)) (by omega) (by simp;omega) ?_);intro v1 w2 hown1 hg2 hat2;have HO1:=hide hown1;have HG2:=hide hg2;clear hown1 hg2 hat2)
     go_roundw
     case rel =>
      refine ⟨j+1,_,_,rfl,by omega,by omega,rfl,?_,(HBL.out.alloc (by omega) _).grown HG2.out (by simp;omega) (fun g hg=>(HO.out.lt g hg).1)⟩
      rw [HT.out,← List.append_assoc,← Nat.add_assoc]
      exact HO1.out
     case measure=>simp [intOf]
   ·obtain rfl:j=K:=by omega
    have HF:=hide (zym j x)
    have hs8:s = -8:=by omega
    subst hs8
    have hk:=HK.out
    subst hk
    go_wp2
    go_ret2
    refine ⟨_,rfl,?_,HBL.out⟩
    have h1:=HO.out
    rw [HF.out] at h1
    exact h1
theorem znF (w:World) (lo hi:Nat) (A:Option Addr) (n c:Nat) (bs:List UInt8) (h:At w lo hi A n bs) (hh:hi≤w.heap.size) (hn:n+4≤140737488355328) (x k:Int) :
  Calls Tryz.prog 34 #[.slice A n c,.int .i64 x,.int .i64 k] w fun e w'=>∃ v,e = .returned (.tuple #[v,.int .i64 (zkb x k)]) ∧
   w'.ownsRow w.heap.size 5 1 v (zeH bs x k).length (bvs (zeH bs x k))∧Below w.heap.size w w':=by
 unfold zkb zeH
 by_cases hk:1≤k∧k≤4
 ·have hs:zdm k=true:=by unfold zdm;simpa using hk
  obtain ⟨m,rfl⟩:∃ m:Nat,k=(m:Int):=⟨k.toNat,by omega⟩
  by_cases hx:0≤x∧x<256^m
  ·have hx':numB x m=true:=decide_eq_true hx
   rw [if_pos hs,if_pos hx',hs,hx']
   obtain ⟨y,rfl⟩:∃ y:Nat,x=(y:Int):=⟨x.toNat,by omega⟩
   refine (ziO w lo hi A n c bs h hh hn y m (by omega) (by omega) (by have h2:=hx.2;have e:((256^m:Nat):Int)=(256:Int)^m:=Int.natCast_pow 256 m;rw [← e] at h2;exact Int.ofNat_lt.1 h2)).mono ?_
   rintro e w' ⟨v,rfl,h2,h3⟩
   refine ⟨v,rfl,?_,h3⟩
   simpa [zcl,h.len] using h2
  ·have hx':numB x m=false:=decide_eq_false hx
   rw [if_pos hs,hs,hx']
   refine (zxy w A n c x m (by omega) (by omega) (by by_cases h0:x<0;exact .inl h0;exact .inr (Int.not_lt.1 fun hlt=>hx ⟨by omega,hlt⟩))).mono ?_
   rintro e w' ⟨rfl,rfl⟩
   exact ⟨_,rfl,by simpa [bvs] using World.ownsRow_nil _ _ _ _,Below.refl _ _⟩
 ·have hs:zdm k=false:=by unfold zdm;simpa using hk
  rw [hs]
  refine (zuZ w A n c x k (by omega)).mono ?_
  rintro e w' ⟨rfl,rfl⟩
  exact ⟨_,rfl,by simpa [bvs] using World.ownsRow_nil _ _ _ _,Below.refl _ _⟩
end
end Go.Proofs.YtjindligkhdddaaGreatDoor
