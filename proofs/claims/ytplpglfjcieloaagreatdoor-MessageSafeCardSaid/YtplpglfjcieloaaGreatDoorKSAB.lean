/-
  What the functions of package cursor do, one by one, in whatever memory. No condition beyond sizes that fit memory.
  What Num, Sub and Open do, in whatever memory. No condition beyond sizes that fit memory.
  What Put does, in whatever memory. No condition beyond sizes that fit memory.
-/
import Derived.Test.YtplpglfjcieloaaGreatDoorProg
import Derived.Test.YtplpglfjcieloaaGreatDoorKSAA
set_option linter.unusedVariables false
set_option linter.unusedSimpArgs false
namespace Go.Proofs.YtplpglfjcieloaaGreatDoor
open Tryz
section
set_option maxHeartbeats 400000
open Go.RowKit
theorem zbK:(prog.info? 5).map (fun i=>(i.zero,i.size,i.bytes))=some (some (.int .u8 0),1,1):=by kernel_rfl
theorem zvK (w:World) (g:Nat) (A:Option Addr) (n c:Nat) (bad:Bool) (h:Blk w g 125 #[.slice A n c,.bool bad]) :
  Calls prog 76 #[.pointer (some ⟨g,0,none⟩)] w fun e w'=>e = .returned (.int .i64 n)∧w=w':=by
 have h0:w.cell? ⟨g,0,none⟩=some (.slice A n c):=h.cell 0
 clear h
 go_enter func76,ntmps76
 go_wp2
 go_ret
 exact ⟨rfl,rfl⟩
theorem zjA (w:World) (g:Nat) (A:Option Addr) (n c:Nat) (bad:Bool) (h:Blk w g 125 #[.slice A n c,.bool bad]) :
  Calls prog 75 #[.pointer (some ⟨g,0,none⟩)] w fun e w'=>e = .returned (.bool bad)∧w=w':=by
 have h0:w.cell? ⟨g,1,none⟩=some (.bool bad):=h.cell 1
 clear h
 go_enter func75,ntmps75
 go_wp2
 go_ret
 exact ⟨rfl,rfl⟩
theorem ziI (w:World) (g:Nat) (A:Option Addr) (n c:Nat) (bad:Bool) (h:Blk w g 125 #[.slice A n c,.bool bad]) :
  Calls prog 71 #[.pointer (some ⟨g,0,none⟩)] w fun e w'=>e = .returned (.tuple #[]) ∧
   Blk w' g 125 #[.slice none 0 0,.bool true]∧w.grownBy w' (some g):=by
 have h0:w.cell? ⟨g,0,none⟩=some (.slice A n c):=h.cell 0
 have h1:w.cell? ⟨g,1,none⟩=some (.bool bad):=h.cell 1
 have f0:w.frozen? ⟨g,0,none⟩=false:=h.frozen 0
 have f1:w.frozen? ⟨g,1,none⟩=false:=h.frozen 1
 have H:=hD h
 clear h
 go_enter func71,ntmps71
 go_wp2
 go_end0
 have hb:=(H.o.set_ 0 (.slice none 0 0)).set_ 1 (.bool true)
 have hg:=zat (p:=⟨g,1,none⟩) (zat (p:=⟨g,0,none⟩) (zad w (some g)) (.inl rfl) (.slice none 0 0)) (.inl rfl) (.bool true)
 exact ⟨rfl,by simpa using hb,hg⟩
theorem zgT (w:World) (lo hi:Nat) (A:Option Addr) (n c:Nat) (bs:List UInt8) (h:At w lo hi A n bs) (hh:hi≤w.heap.size) (hn:n≤140737488355328) :
  Calls prog 68 #[.slice A n c] w fun e w'=>∃ v,e = .returned v∧w'.ownsRow w.heap.size 5 1 v n (bvs bs)∧Below w.heap.size w w':=by
 have qn:=fun w=>Lib.run_eql_slice_nil (P:=prog) w 22 5 A n c 0 0 underlying22
 obtain ⟨i0,hi0,hz0,hz1,hz2⟩:=info_parts zbK
 rcases A with _ | ad
 ·have hn0:n=0:=by
   rcases Nat.eq_zero_or_pos n with h0 | h0
   ·exact h0
   ·obtain ⟨b,o,h,_⟩:=h.2 h0
    cases h
  subst hn0
  have:bs=[]:=List.eq_nil_of_length_eq_zero h.1
  subst this
  clear h
  go_enter func68,ntmps68
  go_wp2
  go_ret
  exact ⟨_,rfl,World.ownsRow_nil _ _ _ _,Below.refl _ _⟩
 ·have H:=hD h
  clear h
  go_enter func68,ntmps68
  go_wp2_with (at_builtin;refine zam _ rfl _ _ 22 rfl w.heap.size 5 i0 underlying22 hi0 hz0 hz1 hz2 (.slice (some ⟨w.heap.size,0,none⟩) 0 0) 0 [] rfl (World.ownsRow_made w #[] 0 lr (Nat.zero_le _) rfl) lo hi (some ad) n c bs rfl (H.o.alloc hh _) (by omega) (by simp) ?_;intro v1 w1 hown1 hg1 hat1)
  go_ret
  refine ⟨_,rfl,by simpa using hown1,?_⟩
  exact ((Below.refl _ _).alloc lr _).grown hg1 (by simp) (by simp [Value.ownBlock])
def Rd (w:World) (lo g:Nat) (bs:List UInt8) (bad:Bool):Prop :=
 ∃ A n c,Blk w g 125 #[.slice A n c,.bool bad]∧At w lo g A n bs∧n≤c∧n≤140737488355328
theorem Rd.lt {w:World} {lo g:Nat} {bs:List UInt8} {bad:Bool} (h:Rd w lo g bs bad):g<w.heap.size:=by
 obtain ⟨A,n,c,hb,_⟩:=h
 exact hb.lt
theorem Rd.len {w:World} {lo g:Nat} {bs:List UInt8} {bad:Bool} (h:Rd w lo g bs bad):bs.length≤140737488355328:=by
 obtain ⟨A,n,c,_,ha,_,hn⟩:=h
 rw [ha.1];exact hn
theorem Rd.keep {w w':World} {lo g:Nat} {bs:List UInt8} {bad:Bool} (h:Rd w lo g bs bad) {row:Option Nat} (hg:w.grownBy w' row) (hr:∀ k,row=some k→k<lo∧k≠g∨g<k):Rd w' lo g bs bad:=by
 obtain ⟨A,n,c,hb,ha,hc,hn⟩:=h
 have hl:=hb.lt
 refine ⟨A,n,c,hb.grown hg (fun e=>?_),ha.grown hg (by omega) (fun k hk=>?_),hc,hn⟩
 ·have:=hr g e.symm;omega
 ·have:=hr k hk;omega
theorem Rd.below {w w':World} {lo g B:Nat} {bs:List UInt8} {bad:Bool} (h:Rd w lo g bs bad) (hb:Below B w w') (hB:g<B):Rd w' lo g bs bad:=by
 obtain ⟨A,n,c,hk,ha,hc,hn⟩:=h
 exact ⟨A,n,c,hk.below hb hB,ha.below (hb.mono (by omega)),hc,hn⟩
theorem zoZ {w:World} {lo g:Nat} {bs:List UInt8} {bad:Bool} {A:Option Addr} {n c m:Nat} (hb:Blk w g 125 #[.slice A n c,.bool bad]) (ha:At w lo g A n bs) (hc:n≤c) (hn:n≤140737488355328) (hm:m≤n)
  (A':Option Addr) (hA:A'=if c=m then A else A.map (·.add m)) (c':Nat) (hcc:c'=c-m) :
  At (w.setCell ⟨g,0,none⟩ (.slice A' (n-m) c')) lo g A m (zab bs m)∧Rd (w.setCell ⟨g,0,none⟩ (.slice A' (n-m) c')) lo g (zae bs m) (bad||!zaY bs m) ∧
   w.grownBy (w.setCell ⟨g,0,none⟩ (.slice A' (n-m) c')) (some g):=by
 have hl:=ha.len
 have hs:zaY bs (m:Int)=true:=by unfold zaY;simp;omega
 have h1:zab bs (m:Int)=bs.take m:=by unfold zab;rw [if_pos hs];rfl
 have h2:zae bs (m:Int)=bs.drop m:=by unfold zae;rw [if_pos hs];rfl
 rw [h1,h2,hs]
 subst hA hcc
 refine ⟨(ha.head hm).far (.inr lr) _,⟨_,n-m,c-m,?_,((ha.tail hm hc).far (.inr lr) _),by omega,by omega⟩,zat (zad w _) (.inl rfl) _⟩
 have:=hb.set_ 0 (.slice (if c=m then A else A.map (·.add m)) (n-m) (c-m))
 simpa using this
theorem zxl {w:World} {lo g:Nat} {bs:List UInt8} {bad:Bool} {k:Int} (hs:zaY bs k=false) (hb:Blk w g 125 #[.slice none 0 0,.bool true]) :
  At w lo g none 0 (zab bs k)∧Rd w lo g (zae bs k) (bad||!zaY bs k):=by
 have h1:zab bs k=[]:=by unfold zab;rw [hs];rfl
 have h2:zae bs k=[]:=by unfold zae;rw [hs];rfl
 rw [h1,h2,hs]
 exact ⟨At.nil _ _ _ _,none,0,0,by simpa using hb,At.nil _ _ _ _,by omega,by omega⟩
theorem zk4 (w:World) (lo g:Nat) (bs:List UInt8) (bad:Bool) (h:Rd w lo g bs bad) (k:Int) (wk:(Lit.int .i64 k).wf=true) :
  Calls prog 69 #[.pointer (some ⟨g,0,none⟩),.int .i64 k] w fun e w'=>∃ A m c,e = .returned (.slice A m c)∧m≤c∧At w' lo g A m (zab bs k) ∧
   Rd w' lo g (zae bs k) (bad||!zaY bs k)∧w.grownBy w' (some g):=by
 obtain ⟨A,n,c,hb,ha,hc,hn⟩:=h
 have h0:w.cell? ⟨g,0,none⟩=some (.slice A n c):=hb.cell 0
 have h1:w.cell? ⟨g,1,none⟩=some (.bool bad):=hb.cell 1
 have f0:w.frozen? ⟨g,0,none⟩=false:=hb.frozen 0
 have f1:w.frozen? ⟨g,1,none⟩=false:=hb.frozen 1
 have hl:=ha.len
 by_cases hk:0≤k∧k≤n
 ·obtain ⟨hk0,hkn⟩:=hk
  obtain ⟨m,rfl⟩:∃ m:Nat,k=(m:Int):=⟨k.toNat,by omega⟩
  by_cases hcm:c=m
  ·have hnm:n=m:=by omega
   subst hnm
   subst hcm
   have F:=hD (zoZ hb ha hc hn lr A (by simp) 0 (by omega))
   clear hl ha hb wk
   go_enter func69,ntmps69
   go_wp2
   go_ret
   have F':=F.o
   rw [Nat.sub_self] at F'
   exact ⟨_,_,_,rfl,hc,by simpa using F'⟩
  ·have F:=hD (zoZ hb ha hc hn (show m≤n by omega) (A.map (·.add m)) (by rw [if_neg hcm]) (c-m) rfl)
   have hcm':¬ c=m:=hcm
   clear hl ha hb wk
   go_enter func69,ntmps69
   go_wp2
   go_ret
   exact ⟨_,_,_,rfl,by omega,F.o⟩
 ·have hsb:zaY bs k=false:=by unfold zaY;simp;omega
  have F:=hD (fun w'=>@zxl w' lo g bs bad k hsb)
  have HB:=hD hb
  have hk':k<0∨n<k:=by omega
  clear hl ha hb hsb hk
  by_cases hk0:k<0
  ·clear hk'
   go_enter func69,ntmps69
   go_wp2_with (go_at_call 71;refine (ziI _ _ _ _ _ _ HB.o).mono ?_;rintro e w1 ⟨rfl,hb1,hg1⟩;have HB1:=hD hb1;clear hb1)
   go_ret
   exact ⟨_,_,_,rfl,lr,(F.o _ HB1.o).1,(F.o _ HB1.o).2,hg1⟩
  ·have hk2:(n:Int)<k:=by omega
   clear hk'
   go_enter func69,ntmps69
   go_wp2_with (go_at_call 71;refine (ziI _ _ _ _ _ _ HB.o).mono ?_;rintro e w1 ⟨rfl,hb1,hg1⟩;have HB1:=hD hb1;clear hb1)
   go_ret
   exact ⟨_,_,_,rfl,lr,(F.o _ HB1.o).1,(F.o _ HB1.o).2,hg1⟩
theorem zaC {w:World} {base base':Nat} {e:TypeId} {v:Value} {n:Nat} {xs:List Value} (h:w.ownsRow base e 1 v n xs) (hb:base'≤base):w.ownsRow base' e 1 v n xs:=by
 refine ⟨h.1,?_⟩
 rcases h.2 with h | ⟨g,cap,cur,h1,h2,h3⟩
 ·exact .inl h
 ·exact .inr ⟨g,cap,cur,h1,by omega,h3⟩
theorem zaR (w:World) (lo g:Nat) (bs:List UInt8) (bad:Bool) (h:Rd w lo g bs bad) (k:Int) (wk:(Lit.int .i64 k).wf=true) :
  Calls prog 30 #[.pointer (some ⟨g,0,none⟩),.int .i64 k] w fun e w'=>∃ v,e = .returned v∧w'.ownsRow w.heap.size 5 1 v (zab bs k).length (bvs (zab bs k)) ∧
   Rd w' lo g (zae bs k) (bad||!zaY bs k)∧w.grownBy w' (some g):=by
 have hl:=h.lt
 have hn:=h.len
 have ht:(zab bs k).length≤140737488355328:=by
  unfold zab;split
  ·rw [List.length_take];omega
  ·simp
 obtain ⟨A,n,c,hb,_⟩:=id h
 have h0:w.cell? ⟨g,0,none⟩=some (.slice A n c):=hb.cell 0
 have HR:=hD h
 clear hb h hn
 go_enter func30,ntmps30
 go_wp2_with (first
  | (go_at_call 69;refine (zk4 _ lo g bs bad HR.o k wk).mono ?_;rintro e w1 ⟨A1,m1,c1,rfl,hmc,hat,hrd,hg⟩;have HRD:=hD hrd;have hsz:=hg.size;clear hrd)
  | (go_at_call 68;refine (zgT _ lo g _ _ _ _ hat (by omega) (by rw [← hat.len];exact ht)).mono ?_;rintro e w2 ⟨v,rfl,hown,hbel⟩))
 go_ret
 exact ⟨_,rfl,by rw [hat.len];exact zaC hown hsz,HRD.o.below hbel (by omega),zeI hg hbel⟩
theorem Rd.left {w:World} {lo g:Nat} {bs:List UInt8} {bad:Bool} (h:Rd w lo g bs bad) :
  Calls prog 76 #[.pointer (some ⟨g,0,none⟩)] w fun e w'=>e = .returned (.int .i64 bs.length)∧w=w':=by
 obtain ⟨A,n,c,hb,ha,_⟩:=h
 rw [ha.len]
 exact zvK w g A n c bad hb
theorem Rd.open0 {w:World} {lo g:Nat} {bs:List UInt8} {bad:Bool} (h:Rd w lo g bs bad):∃ A n c,w.cell? ⟨g,0,none⟩=some (.slice A n c):=by
 obtain ⟨A,n,c,hb,_⟩:=h
 exact ⟨A,n,c,hb.cell 0⟩
open Go.RowKit
theorem zbw (w:World) (lo hi:Nat) (A:Option Addr) (n c:Nat) (bs:List UInt8) (h:At w lo hi A n bs) (hh:hi≤w.heap.size) (hn:n≤140737488355328) :
  Calls prog 28 #[.slice A n c] w fun e w'=>∃ g,e = .returned (.pointer (some ⟨g,0,none⟩))∧w.heap.size≤g∧Rd w' w.heap.size g bs false∧Below w.heap.size w w':=by
 have hl:=hD h.len
 have H:=hD h
 clear h
 go_enter func28,ntmps28
 go_wp2_with (go_at_call 68;refine (zgT _ lo hi _ _ _ _ H.o hh hn).mono ?_;rintro e w1 ⟨v,rfl,hown,hbel⟩;have hsh:=zag hown;obtain ⟨A1,c1,rfl,hc1,_⟩:=hsh;have hsz:=hbel.size)
 go_ret
 have hB:=Blk.new w1 125 #[.slice A1 n c1,.bool false]
 have hA:=(At.own hown).alloc lr (.cells #[.slice A1 n c1,.bool false] 125)
 exact ⟨_,rfl,hsz,⟨_,_,_,hB,hA,hc1,hn⟩,hbel.alloc hsz _⟩
theorem zja (w:World) (lo g:Nat) (bs:List UInt8) (bad:Bool) (h:Rd w lo g bs bad) (k:Nat) (h1:1≤k) (h2:k≤4) :
  Calls prog 32 #[.pointer (some ⟨g,0,none⟩),.int .i64 k] w fun e w'=>e = .returned (.int .i64 (big (zab bs k):Nat)) ∧
   Rd w' lo g (zae bs k) (bad||!zaY bs k)∧w.grownBy w' (some g):=by
 have wk:(Lit.int .i64 (k:Int)).wf=true:=WalkArith.wf_i64 (by omega)
 have ht:(zab bs k).length≤4:=by
  unfold zab;split
  ·rw [List.length_take];omega
  ·simp
 obtain ⟨A,n,c,hb,_⟩:=id h
 have h0:w.cell? ⟨g,0,none⟩=some (.slice A n c):=hb.cell 0
 have HR:=hD h
 have HT:=hD ht
 clear hb h ht
 go_enter func32,ntmps32
 go_wp2_with (go_at_call 69;refine (zk4 _ lo g bs bad HR.o k wk).mono ?_;rintro e w1 ⟨A1,m1,c1,rfl,hmc,hat,hrd,hg⟩;have HRD:=hD hrd;have HG:=hD hg;have HAT:=hD hat;have hm4:m1≤4:=(by rw [← hat.len];exact HT.o);clear hrd hg hat)
 go_loop [5,24] (fun t i=>∃ j:Nat,j≤m1∧i = .int .i64 j∧t = .int .i64 (big ((zab bs k).take j):Nat)) (fun _ i=>m1-(intOf i).toNat)
 case atStart=>exact ⟨0,Nat.zero_le _,rfl,rfl⟩
 case round =>
  obtain ⟨j,hj,rfl,rfl⟩:=hrel
  by_cases hlt:j<m1
  ·obtain ⟨b,o,u,rfl,hu,hc⟩:=HAT.o.at_ hlt
   have hbl:=hD (zwd hu)
   have hb3:=znr (bs:=zab bs k) (k:=j) (by omega)
   have hu2:=u.toNat_lt
   have HU:=hD hu
   clear hu
   go_wp2
   go_round
   case rel =>
    refine ⟨j+1,by omega,by go_num,?_⟩
    rw [zsS _ _ (by omega) hu2,hbl.o]
   case measure=>simp [intOf];omega
  ·obtain rfl:j=m1:=by omega
   have hfull:(zab bs k).take j=zab bs k:=List.take_of_length_le (by rw [HAT.o.len];exact lr)
   have HF:=hD hfull
   clear hfull
   go_wp2
   go_ret
   exact ⟨by rw [HF.o];rfl,HRD.o,HG.o⟩
theorem num_no (w:World) (lo g:Nat) (bs:List UInt8) (bad:Bool) (h:Rd w lo g bs bad) (k:Int) (wk:(Lit.int .i64 k).wf=true) (hk:k<1∨4<k) :
  Calls prog 32 #[.pointer (some ⟨g,0,none⟩),.int .i64 k] w fun e w'=>e = .returned (.int .i64 0) ∧
   Rd w' lo g [] true∧w.grownBy w' (some g):=by
 obtain ⟨A,n,c,hb,_⟩:=id h
 have h0:w.cell? ⟨g,0,none⟩=some (.slice A n c):=hb.cell 0
 have ht:zab [] k=[]:=by unfold zab;split <;> simp
 have hr:zae [] k=[]:=by unfold zae;split <;> simp
 have HR:=hD h
 have HB:=hD hb
 have HT:=hD ht
 have HRR:=hD hr
 clear hb h ht hr
 rcases hk with hk | hk
 all_goals
  go_enter func32,ntmps32
  go_wp2_with (first
   | (go_at_call 71;refine (ziI _ _ _ _ _ _ HB.o).mono ?_;rintro e w1 ⟨rfl,hb1,hg1⟩;have hb10:=hb1.cell 0;have HB1:=hD hb1;have HG1:=hD hg1;clear hb1 hg1)
   | (go_at_call 69;refine (zk4 _ lo g [] true ⟨_,_,_,HB1.o,At.nil _ _ _ _,by omega,by omega⟩ k wk).mono ?_;rintro e w2 ⟨A1,m1,c1,rfl,hmc,hat,hrd,hg⟩;rw [HT.o] at hat;rw [HRR.o,Bool.true_or] at hrd;obtain rfl:=hat.len;have HRD:=hD hrd;have HG:=hD hg;clear hrd hg hat))
  refine wp_loop_rounds 1 ?_
  rw [rounds_succ]
  go_wp2
  go_ret
  exact ⟨rfl,HRD.o,zan HG1.o HG.o⟩
theorem zaW (w:World) (lo g:Nat) (bs:List UInt8) (bad:Bool) (h:Rd w lo g bs bad) (k:Int) (wk:(Lit.int .i64 k).wf=true) :
  Calls prog 32 #[.pointer (some ⟨g,0,none⟩),.int .i64 k] w fun e w'=>e = .returned (.int .i64 (zap bs k:Nat)) ∧
   Rd w' lo g (zaf bs k) (bad||!za9 bs k)∧w.grownBy w' (some g):=by
 by_cases hk:1≤k∧k≤4
 ·obtain ⟨m,rfl⟩:∃ m:Nat,k=(m:Int):=⟨k.toNat,by omega⟩
  have hs:zdu (m:Int)=true:=by unfold zdu;simpa using hk
  refine (zja w lo g bs bad h m (by omega) (by omega)).mono ?_
  rintro e w' ⟨rfl,h2,h3⟩
  unfold zap zaf za9
  rw [if_pos hs,if_pos hs,hs,Bool.true_and]
  exact ⟨rfl,h2,h3⟩
 ·have hs:zdu k=false:=by unfold zdu;simpa using hk
  refine (num_no w lo g bs bad h k wk (by omega)).mono ?_
  rintro e w' ⟨rfl,h2,h3⟩
  unfold zap zaf za9
  rw [hs]
  exact ⟨rfl,by simpa using h2,h3⟩
theorem zk2 (w:World) (lo g:Nat) (bs:List UInt8) (bad:Bool) (h:Rd w lo g bs bad) (k:Int) (wk:(Lit.int .i64 k).wf=true) :
  Calls prog 74 #[.pointer (some ⟨g,0,none⟩),.int .i64 k] w fun e w'=>∃ g2,e = .returned (.pointer (some ⟨g2,0,none⟩))∧w.heap.size≤g2 ∧
   Rd w' w.heap.size g2 (zab bs k) (bad||!zaY bs k)∧Rd w' lo g (zae bs k) (bad||!zaY bs k)∧w.grownBy w' (some g):=by
 have hl:=h.lt
 have hn:=h.len
 have ht:(zab bs k).length≤140737488355328:=by
  unfold zab;split
  ·rw [List.length_take];omega
  ·simp
 have HR:=hD h
 have HT:=hD ht
 clear h hn ht
 go_enter func74,ntmps74
 go_wp2_with (go_at_call 30;refine (zaR _ lo g bs bad HR.o k wk).mono ?_;rintro e w1 ⟨v,rfl,hown,hrd,hg⟩;have hsh:=zag hown;obtain ⟨A1,c1,rfl,hc1,_⟩:=hsh;have hsz:=hg.size;obtain ⟨A0,n0,c0,hb0,hrest⟩:=id hrd;have hcell:w1.cell? ⟨g,1,none⟩=some (.bool (bad||!zaY bs k)):=hb0.cell 1;clear hb0 hrest;have HRD:=hD hrd;have HG:=hD hg;have HO:=hD hown;have HC:=hD hc1;clear hrd hg hown hc1)
 go_ret
 have hB:=Blk.new w1 125 #[.slice A1 (zab bs k).length c1,.bool (bad||!zaY bs k)]
 have hA:=(At.own HO.o).alloc lr (.cells #[.slice A1 (zab bs k).length c1,.bool (bad||!zaY bs k)] 125)
 exact ⟨_,rfl,hsz,⟨_,_,_,hB,hA,HC.o,HT.o⟩,HRD.o.keep (zaN (zad w1 none) _) (by simp),zaN HG.o _⟩
open Go.RowKit
theorem zvo (w:World) (A:Option Addr) (n c:Nat) (x k:Int) (hk:k<1∨4<k) :
  Calls prog 67 #[.slice A n c,.int .i64 x,.int .i64 k] w fun e w'=>e = .returned (.tuple #[.slice none 0 0,.int .i64 1])∧w=w':=by
 rcases hk with hk | hk
 all_goals
  go_enter func67,ntmps67
  go_wp2
  go_ret2
  exact ⟨rfl,rfl⟩
theorem zxV (w:World) (A:Option Addr) (n c:Nat) (x:Int) (k:Nat) (hk1:1≤k) (hk4:k≤4) (hx:x<0∨256^k≤x) :
  Calls prog 67 #[.slice A n c,.int .i64 x,.int .i64 k] w fun e w'=>e = .returned (.tuple #[.slice none 0 0,.int .i64 5])∧w=w':=by
 rcases hx with hx | hx
 ·go_enter func67,ntmps67
  go_wp2
  go_ret2
  exact ⟨rfl,rfl⟩
 ·rcases (show k=1∨k=2∨k=3∨k=4 by omega) with rfl | rfl | rfl | rfl
  all_goals
   simp only [Int.reducePow] at hx
   have hx0:¬ x<0:=by omega
   go_enter func67,ntmps67
   go_wp2
   go_ret2
   exact ⟨rfl,rfl⟩
set_option maxRecDepth 20000 in
set_option maxHeartbeats 1000000 in
theorem zi4 (w:World) (lo hi:Nat) (A:Option Addr) (n c:Nat) (bs:List UInt8) (h:At w lo hi A n bs) (hh:hi≤w.heap.size) (hn:n+4≤140737488355328) (x k:Nat) (hk1:1≤k) (hk4:k≤4) (hx:x<256^k) :
  Calls prog 67 #[.slice A n c,.int .i64 x,.int .i64 k] w fun e w'=>∃ v,e = .returned (.tuple #[v,.int .i64 0])∧w'.ownsRow w.heap.size 5 1 v (n+k) (bvs (bs++be k x))∧Below w.heap.size w w':=by
 obtain ⟨i0,hi0,hz0,hz1,hz2⟩:=info_parts zbK
 have hx4:x<4294967296:=Nat.lt_of_lt_of_le hx (Nat.le_trans (Nat.pow_le_pow_right (by omega) hk4) (by decide))
 have hl:=hD h.len
 have H:=hD h
 clear h
 have own0:∀ (w1:World) (k:Nat),k≤4→Blk w1 w.heap.size 5 (bvs bs++(madeCells #[.int .u8 0] (n+k)).toList.drop n).toArray →
   w1.ownsRow w.heap.size 5 1 (.slice (some ⟨w.heap.size,0,none⟩) n (n+k)) n (bvs bs):=fun w1 k hk hb =>
  zce hb lr (by omega) (by unfold maxLen;omega) (by simp [toList_madeCells_one,zaX,hl.o]) (by simp [zaX,hl.o,List.take_append_of_le_length])
 have OWN0:=hD own0
 have HMS:=hD (fun m=>zfU (.int .u8 0) m)
 obtain ⟨K,HK⟩:∃ K,Hid (K=k):=⟨k,rfl⟩
 clear own0
 rcases (show k=1∨k=2∨k=3∨k=4 by omega) with rfl | rfl | rfl | rfl
 all_goals
  have hxb:=hx
  simp only [Nat.reducePow] at hxb
  have HXX:=hD hx
  clear hx
  go_enter func67,ntmps67
  go_wp2_with (first
   | (at_make;refine zcr rfl (.tmp 26) (.tmp 30) _ rfl 5 i0 underlying22 hi0 hz0 hz1 hz2 n (n+K) _ rfl rfl (by have:=HK.o;omega) (by omega) (by have:=HK.o;omega) ?_)
   | (with_reducible refine zg2 rfl (.tmp 32) (.tmp 33) _ rfl 5 i0 underlying22 hi0 hz1 w.heap.size n n (n+K) c lo hi A bs _ (Blk.new w _ _) (H.o.alloc hh _) (by rw [HMS.o];omega) lr rfl rfl ?_;intro w1 hb1 hg1;have HB1:=hD hb1;have HG1:=hD hg1;clear hb1 hg1))
  go_loopw [8,9] (fun v i wr=>∃ (j:Nat) (s:Int) (vv:Value),v=vv∧j≤K∧s+8*j+8=8*K∧i = .int .i64 s∧wr.ownsRow w.heap.size 5 1 vv (n+j) (bvs (bs++(be K x).take j))∧Below w.heap.size w wr) (fun _ i _=>(intOf i+8).toNat)
  case atStart =>
   have hk:=HK.o
   exact ⟨0,_,_,rfl,by omega,by omega,rfl,by simpa using OWN0.o _ K (by omega) HB1.o,((Below.refl _ _).alloc lr _).grown HG1.o (by simp) (by simp)⟩
  case round =>
   obtain ⟨j,s,vv,rfl,hj,hs,rfl,hown,hbel⟩:=hrel
   obtain ⟨A2,c2,rfl,hc2,_⟩:=zag hown
   have HO:=hD hown
   have HBL:=hD hbel
   have hbelr:=hbel
   clear hown hbel
   by_cases hlt:j<K
   ·have hk:=HK.o
    have HT:=hD (zyB (n:=x) hlt)
    have hsz:=hbelr.size
    have hj3:j≤3:=by omega
    rcases (show (s=0∧K-1-j=0)∨(s=8∧K-1-j=1)∨(s=16∧K-1-j=2)∨(s=24∧K-1-j=3) by omega) with ⟨rfl,hq⟩ | ⟨rfl,hq⟩ | ⟨rfl,hq⟩ | ⟨rfl,hq⟩
    all_goals first | (exfalso;omega) | skip
    all_goals
     have HQ:=hD hq
     clear hk hq
     go_wp2_with (at_builtin;go_must (refine zam _ rfl (.tmp 42) (.tmp 47) _ rfl w.heap.size 5 i0 underlying22 hi0 hz0 hz1 hz2 (.slice A2 (n+j) c2) (n+j) (bs++(be K x).take j) rfl (HO.o.alloc _) wr.heap.size (wr.heap.size+1) (some ⟨wr.heap.size,0,none⟩) 1 1 [UInt8.ofNat (x/256^(K-1-j)%256)] rfl (zhP wr _ _ _ (by rw [HQ.o,zwb];simp only [Nat.reducePow];omega)) (by omega) (by simp;omega) ?_);intro v1 w2 hown1 hg2 hat2;have HO1:=hD hown1;have HG2:=hD hg2;clear hown1 hg2 hat2)
     go_roundw
     case rel =>
      refine ⟨j+1,_,_,rfl,by omega,by omega,rfl,?_,(HBL.o.alloc (by omega) _).grown HG2.o (by simp;omega) (fun g hg=>(HO.o.lt g hg).1)⟩
      rw [HT.o,← List.append_assoc,← Nat.add_assoc]
      exact HO1.o
     case measure=>simp [intOf]
   ·obtain rfl:j=K:=by omega
    have HF:=hD (zyD j x)
    have hs8:s = -8:=by omega
    subst hs8
    have hk:=HK.o
    subst hk
    go_wp2
    go_ret2
    refine ⟨_,rfl,?_,HBL.o⟩
    have h1:=HO.o
    rw [HF.o] at h1
    exact h1
theorem zhg (w:World) (lo hi:Nat) (A:Option Addr) (n c:Nat) (bs:List UInt8) (h:At w lo hi A n bs) (hh:hi≤w.heap.size) (hn:n+4≤140737488355328) (x k:Int) :
  Calls prog 67 #[.slice A n c,.int .i64 x,.int .i64 k] w fun e w'=>∃ v,e = .returned (.tuple #[v,.int .i64 (zgD x k)]) ∧
   w'.ownsRow w.heap.size 5 1 v (zdJ bs x k).length (bvs (zdJ bs x k))∧Below w.heap.size w w':=by
 unfold zgD zdJ
 by_cases hk:1≤k∧k≤4
 ·have hs:zdu k=true:=by unfold zdu;simpa using hk
  obtain ⟨m,rfl⟩:∃ m:Nat,k=(m:Int):=⟨k.toNat,by omega⟩
  by_cases hx:0≤x∧x<256^m
  ·have hx':numB x m=true:=decide_eq_true hx
   rw [if_pos hs,if_pos hx',hs,hx']
   obtain ⟨y,rfl⟩:∃ y:Nat,x=(y:Int):=⟨x.toNat,by omega⟩
   refine (zi4 w lo hi A n c bs h hh hn y m (by omega) (by omega) (by have h2:=hx.2;have e:((256^m:Nat):Int)=(256:Int)^m:=Int.natCast_pow 256 m;rw [← e] at h2;exact Int.ofNat_lt.1 h2)).mono ?_
   rintro e w' ⟨v,rfl,h2,h3⟩
   refine ⟨v,rfl,?_,h3⟩
   simpa [zbJ,h.len] using h2
  ·have hx':numB x m=false:=decide_eq_false hx
   rw [if_pos hs,hs,hx']
   refine (zxV w A n c x m (by omega) (by omega) (by by_cases h0:x<0;exact .inl h0;exact .inr (Int.not_lt.1 fun hlt=>hx ⟨by omega,hlt⟩))).mono ?_
   rintro e w' ⟨rfl,rfl⟩
   exact ⟨_,rfl,by simpa [bvs] using World.ownsRow_nil _ _ _ _,Below.refl _ _⟩
 ·have hs:zdu k=false:=by unfold zdu;simpa using hk
  rw [hs]
  refine (zvo w A n c x k (by omega)).mono ?_
  rintro e w' ⟨rfl,rfl⟩
  exact ⟨_,rfl,by simpa [bvs] using World.ownsRow_nil _ _ _ _,Below.refl _ _⟩
end
end Go.Proofs.YtplpglfjcieloaaGreatDoor
