/-
  Few of the statements, in whatever memory: what it says of attributes. No condition.
-/
import Derived.Test.YthgainmcnjldaaaGreatDoorKLAH
set_option linter.unusedVariables false
set_option linter.unusedSimpArgs false
namespace Go.Proofs.YthgainmcnjldaaaGreatDoor
section
open Go.RowKit
def fewA (p:AtP):Bool:=p.path.all (fun x=>decide (x.n≤300))&&(p.tl.all (fun x=>decide (x.n≤1024))&&(decide (p.pn<20)&&(decide (p.cn<100)&&(decide (p.en<200)&&decide (p.tn<10)))))
theorem fewA_1 {p:AtP} {x:SgP} (hm:x∈p.path) (h:¬ x.n≤300):fewA p=false:=by
 have h1:p.path.all (fun x=>decide (x.n≤300))=false:=List.all_eq_false.2 ⟨x,hm,by simpa using h⟩
 unfold fewA
 rw [h1,Bool.false_and]
theorem fewA_2 {p:AtP} {x:TnP} (hm:x∈p.tl) (h:¬ x.n≤1024):fewA p=false:=by
 have h1:p.tl.all (fun x=>decide (x.n≤1024))=false:=List.all_eq_false.2 ⟨x,hm,by simpa using h⟩
 unfold fewA
 rw [h1,Bool.false_and,Bool.and_false]
theorem fewA_3 {p:AtP} (h1:∀ x∈p.path,x.n≤300) (h2:∀ x∈p.tl,x.n≤1024):fewA p=(decide (p.pn<20)&&(decide (p.cn<100)&&(decide (p.en<200)&&decide (p.tn<10)))):=by
 unfold fewA
 rw [List.all_eq_true.2 (fun x hx=>decide_eq_true (h1 x hx)),List.all_eq_true.2 (fun x hx=>decide_eq_true (h2 x hx)),Bool.true_and,Bool.true_and]
theorem znU {p:AtP} (h:fewA p=true):(∀ x∈p.path,x.n≤300)∧(∀ x∈p.tl,x.n≤1024)∧p.pn<20∧p.cn<100∧p.en<200∧p.tn<10:=by
 unfold fewA at h
 simp only [Bool.and_eq_true,decide_eq_true_eq,List.all_eq_true] at h
 exact ⟨h.1,h.2.1,h.2.2.1,h.2.2.2.1,h.2.2.2.2.1,h.2.2.2.2.2⟩
set_option maxRecDepth 20000 in
set_option maxHeartbeats 4000000 in
theorem ztG (w:World) (lo hi:Nat) (p:AtP) (h:zaG w lo hi p) (hh:hi≤w.heap.size) (hpn:p.pn≤9223372036854775807) (htn:p.tn≤9223372036854775807) :
  Calls Tryz.prog 41 #[.agg (attC p)] w fun e w'=>e = .returned (.bool (fewA p))∧Below w.heap.size w w':=by
 have S0:=hide (AtS.start h hh)
 clear h hh
 go_enter Tryz.func41,Tryz.ntmps41
 go_wp2_with fail
 generalize w.alloc (.cells (attC p) 46)=w0 at *
 have c1:=S0.out.c1
 have c21:=S0.out.c21
 have c22:=S0.out.c22
 have c23:=S0.out.c23
 go_loop [3] (fun i=>∃ k:Nat,k≤p.pn∧i = .int .i64 k∧∀ x∈p.path.take k,x.n≤300) (fun i=>p.pn-(intOf i).toNat)
 case atStart=>exact ⟨0,Nat.zero_le _,rfl,fun x hx=>by simp at hx⟩
 case round =>
  obtain ⟨k,hk,rfl,hall⟩:=hrel
  have HA:=hide hall
  clear hall
  by_cases hlt:k<p.pn
  ·obtain ⟨b,o,x,hA,_,_,hx,hat⟩:=S0.out.at_.path.row.at_ (sz:=2) (fun y _=>zeW y) hlt
   have hkl:((k:Nat):Int)<(p.pn:Int):=by omega
   have cx:w0.cell? ⟨b,o+k*2+1,none⟩=some (.slice x.A x.n x.c):=hat 1 _ rfl
   have HX:=hide hx
   rw [hA] at c1
   clear hx hat
   by_cases hn:x.n≤300
   ·have hnI:¬ (300:Int)<(x.n:Int):=by omega
    have HNX:Hid (∀ y∈p.path.take (k+1),y.n≤300):=hide (by
     intro y hy
     rw [List.take_add_one,HX.out] at hy
     rcases List.mem_append.1 hy with hy | hy
     ·exact HA.out y hy
     ·rw [show y=x by simpa using hy];exact hn)
    clear hn
    go_wp2
    go_round
    case rel=>exact ⟨k+1,by omega,by go_num,HNX.out⟩
    case measure=>simp [intOf];omega
   ·have hnI:(300:Int)<(x.n:Int):=by omega
    have HF:=hide (fewA_1 (List.mem_of_getElem? HX.out) hn)
    clear hn
    go_wp2
    go_ret
    exact ⟨by rw [HF.out];rfl,S0.out.bl⟩
  ·obtain rfl:k=p.pn:=by omega
   have H1:Hid (∀ x∈p.path,x.n≤300):=hide (by
    intro x hx
    exact HA.out x (by rw [List.take_of_length_le (by rw [S0.out.at_.path.len];exact Nat.le_refl _)];exact hx))
   clear HA
   go_wp2
   go_loop [4] (fun i=>∃ k:Nat,k≤p.tn∧i = .int .i64 k∧∀ x∈p.tl.take k,x.n≤1024) (fun i=>p.tn-(intOf i).toNat)
   case atStart=>exact ⟨0,Nat.zero_le _,rfl,fun x hx=>by simp at hx⟩
   case round =>
    obtain ⟨k,hk,rfl,hall⟩:=hrel
    have HA:=hide hall
    clear hall
    by_cases hlt:k<p.tn
    ·obtain ⟨b,o,x,hA,_,_,hx,hat⟩:=S0.out.at_.tl.row.at_ (sz:=21) (fun y hy=>zeU (S0.out.at_.tl.sz y hy)) hlt
     have hkl:((k:Nat):Int)<(p.tn:Int):=by omega
     have cx:w0.cell? ⟨b,o+k*21+20,none⟩=some (.slice x.A x.n x.c):=hat 20 _ (by
      have hw:=S0.out.at_.tl.sz x (List.mem_of_getElem? hx)
      show ((Value.int .i64 x.s::bvs x.bs)++[Value.slice x.A x.n x.c])[17]?=_
      rw [List.getElem?_append_right (by simp [bvs];have hw16:x.bs.length=16:=hw;omega)]
      have hw16:x.bs.length=16:=hw
      simp [bvs,hw16])
     have HX:=hide hx
     rw [hA] at c23
     clear hx hat
     by_cases hn:x.n≤1024
     ·have hnI:¬ (1024:Int)<(x.n:Int):=by omega
      have HNX:Hid (∀ y∈p.tl.take (k+1),y.n≤1024):=hide (by
       intro y hy
       rw [List.take_add_one,HX.out] at hy
       rcases List.mem_append.1 hy with hy | hy
       ·exact HA.out y hy
       ·rw [show y=x by simpa using hy];exact hn)
      clear hn
      go_wp2
      go_round
      case rel=>exact ⟨k+1,by omega,by go_num,HNX.out⟩
      case measure=>simp [intOf];omega
     ·have hnI:(1024:Int)<(x.n:Int):=by omega
      have HF:=hide (fewA_2 (List.mem_of_getElem? HX.out) hn)
      clear hn
      go_wp2
      go_ret
      exact ⟨by rw [HF.out];rfl,S0.out.bl⟩
    ·obtain rfl:k=p.tn:=by omega
     have H2:Hid (∀ x∈p.tl,x.n≤1024):=hide (by
      intro x hx
      exact HA.out x (by rw [List.take_of_length_le (by rw [S0.out.at_.tl.len];exact Nat.le_refl _)];exact hx))
     have HF:=hide (fewA_3 H1.out H2.out)
     clear HA H1 H2
     by_cases d0:p.pn<20
     ·have i0:(p.pn:Int)<20:=by omega
      by_cases d1:p.cn<100
      ·have i1:(p.cn:Int)<100:=by omega
       by_cases d2:p.en<200
       ·have i2:(p.en:Int)<200:=by omega
        by_cases d3:p.tn<10
        ·have i3:(p.tn:Int)<10:=by omega
         have e0:=decide_eq_true d0
         have e1:=decide_eq_true d1
         have e2:=decide_eq_true d2
         have e3:=decide_eq_true d3
         have HV:Hid (fewA p=true):=hide (by rw [HF.out,e0,e1,e2,e3] <;> rfl)
         clear HF d0 e0 d1 e1 d2 e2 d3 e3
         go_wp2
         go_ret
         exact ⟨by rw [HV.out];rfl,S0.out.bl⟩
        ·have i3:¬ (p.tn:Int)<10:=by omega
         have e0:=decide_eq_true d0
         have e1:=decide_eq_true d1
         have e2:=decide_eq_true d2
         have e3:=decide_eq_false d3
         have HV:Hid (fewA p=false):=hide (by rw [HF.out,e0,e1,e2,e3] <;> rfl)
         clear HF d0 e0 d1 e1 d2 e2 d3 e3
         go_wp2
         go_ret
         exact ⟨by rw [HV.out];rfl,S0.out.bl⟩
       ·have i2:¬ (p.en:Int)<200:=by omega
        have e0:=decide_eq_true d0
        have e1:=decide_eq_true d1
        have e2:=decide_eq_false d2
        have HV:Hid (fewA p=false):=hide (by rw [HF.out,e0,e1,e2] <;> rfl)
        clear HF d0 e0 d1 e1 d2 e2
        go_wp2
        go_ret
        exact ⟨by rw [HV.out];rfl,S0.out.bl⟩
      ·have i1:¬ (p.cn:Int)<100:=by omega
       have e0:=decide_eq_true d0
       have e1:=decide_eq_false d1
       have HV:Hid (fewA p=false):=hide (by rw [HF.out,e0,e1] <;> rfl)
       clear HF d0 e0 d1 e1
       go_wp2
       go_ret
       exact ⟨by rw [HV.out];rfl,S0.out.bl⟩
     ·have i0:¬ (p.pn:Int)<20:=by omega
      have e0:=decide_eq_false d0
      have HV:Hid (fewA p=false):=hide (by rw [HF.out,e0] <;> rfl)
      clear HF d0 e0
      go_wp2
      go_ret
      exact ⟨by rw [HV.out];rfl,S0.out.bl⟩
end
end Go.Proofs.YthgainmcnjldaaaGreatDoor
