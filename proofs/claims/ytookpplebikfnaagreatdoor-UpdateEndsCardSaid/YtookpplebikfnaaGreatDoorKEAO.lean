/-
  Plain mathematics of layer 3: what distinguishers are made of, their parts, their order, their texts. Nothing here speaks of the program.
  Plain mathematics of layer 3's texts: what is written of a distinguisher is read as it. Nothing here speaks of the program.
  Distinguishers as values and as blocks: their cells, and when two are equal. No condition.
  What highSize, ofBytes, Make, Parts and Compare of package rd do, in whatever memory. No condition beyond sizes that fit memory.
  What digits.Text and digits.Bytes do: bytes as signs of base 16, and back. No condition beyond sizes that fit memory.
  What digits.Bytes does: the bytes of signs of base 16. No condition beyond sizes that fit memory.
  Texts of any size that fits memory: strings.Cut at one sign, digits.Number, and addr.Parse of a text without a colon. The one condition beside: the library's tables hold what its text lays.
  What textHigh, Text, readHigh, read and Parse of package rd do. The one condition beyond sizes that fit memory: the library's tables hold what its text lays.
  Plain mathematics of layer 7: multicast routes as plain data, which are right, their bytes, and what bytes are one. Nothing here speaks of the program.
  Plain mathematics of layer 7: the keys of leaves, which routes are right, what bytes begin with. Nothing here speaks of the program.
  Plain mathematics of layer 7's texts: unlike routes have unlike texts. Nothing here speaks of the program.
  Parts of aggregates in the midst of a block: those of distinguishers. No condition.
  Multicast routes as values and as blocks: their cells, loads of a whole one and of its parts, and when two are equal. No condition.
  '==' at routes. No condition.
-/
import Derived.Lib.Builder
import Derived.Lib.IndexBytes
import Derived.Test.YtookpplebikfnaaGreatDoorKEAN
set_option linter.unusedVariables false
set_option linter.unusedSimpArgs false
namespace Go.Proofs.YtookpplebikfnaaGreatDoor
section
theorem zsH {l:List UInt8} {k:Nat} (h:l.length=k):be k (big l)=l:=by subst h;exact be_big l
open Go.RowKit
theorem zjg {ops:Array Oper} {rest:List Oper} {o:Oper} {a:Act} {w:World} {Q:Exit→Act→World→Prop} (hgd:o.guard=none) (x:Operand) (ho:o.op = .load 84 x)
  (g:Nat) (hx:a.eval x = .pointer (some ⟨g,0,none⟩)) {t:TypeId} {bs:List UInt8} (h:Blk w g t (rdC bs)) (hl:bs.length=8)
  (hk:wpList Tryz.prog ops Q rest (a.put o.dst (.agg (rdC bs))) w):wpList Tryz.prog ops Q (o::rest) a w :=
 wpList_load_row hgd 84 x ho g hx t (rdC bs) (0,0) _ h Tryz.underlying84 rfl (by rw [zfy hl];kernel_rfl) hk
section
variable {ops:Array Oper} {rest:List Oper} {o:Oper} {a:Act} {w:World} {Q:Exit→Act→World→Prop}
end
open Go.RowKit
open Go.RowKit
open Go.RowKit
open Go.RowKit
open Go.RowKit
end
section
structure Mr where
 k:Int
 rd:List UInt8
 a:Int
 ss:Int
 sb:List UInt8
 gs:Int
 gb:List UInt8
 fs:Int
 fb:List UInt8
 key:List UInt8
structure Mr.W (m:Mr):Prop where
 rd:m.rd.length=8
 sb:m.sb.length=16
 gb:m.gb.length=16
 fb:m.fb.length=16
def nRd (k:Int):Bool:=decide (k≠4)
def nAs (k:Int):Bool:=decide (k=2∨k=6∨k=7)
def nAd (k:Int):Bool:=decide (k=3∨k=5∨k=6∨k=7)
def nFr (k:Int):Bool:=decide (k=1∨k=3∨k=4)
def someA (s:Int) (bs:List UInt8):Bool:=zaC s bs&&decide (0<s)
def zt5 (s:Int) (bs:List UInt8):Bool:=decide (s=0∧bs=zav)
def zl1 (ss:Int) (sb:List UInt8) (gs:Int) (gb:List UInt8) (wild:Bool):Bool :=
 zaC ss sb&&zaC gs gb&&!zcG ss sb&&(decide (gs≤0)||zcG gs gb)&&((wild&&decide (ss=0∨gs=0))||decide (0<ss∧ss=gs))
def zof (m:Mr):Bool :=
 decide (1≤m.k∧m.k≤7)&&(nRd m.k||decide (m.rd=zds))&&(nAs m.k||decide (m.a=0))&&(nAd m.k||(zt5 m.ss m.sb&&zt5 m.gs m.gb))&&(nFr m.k||zt5 m.fs m.fb) &&
  (decide (m.k=4)||decide (m.key=[]))&&decide (0≤m.a∧m.a≤4294967295)&&(!nFr m.k||someA m.fs m.fb)&&(!nAd m.k||zl1 m.ss m.sb m.gs m.gb (decide (m.k=3)))
def zf0 (s:Int) (bs:List UInt8):List UInt8:=UInt8.ofNat (8*s.toNat)::zar s bs
def zdJ (m:Mr):List UInt8 :=
 m.key++((if nRd m.k then m.rd else [])++((if nAs m.k then be 4 m.a.toNat else [])++((if nAd m.k then zf0 m.ss m.sb++zf0 m.gs m.gb else [])++(if nFr m.k then zar m.fs m.fb else []))))
def zaE (m:Mr):List UInt8:=UInt8.ofNat m.k.toNat::UInt8.ofNat (zdJ m).length::zdJ m
def decA:List UInt8→Option ((Int × List UInt8) × List UInt8)
 | []=>none
 | x::r=>if x.toNat%8=0∧zdh ((x.toNat/8:Nat):Int)=true∧x.toNat/8≤r.length then some ((ofS (r.take (x.toNat/8)),ofB (r.take (x.toNat/8))),r.drop (x.toNat/8)) else none
def keyN (b:List UInt8):Nat:=2+(b.getD 1 0).toNat
def zi2 (k:Int) (b:List UInt8):Option (List UInt8 × List UInt8) :=
 if k=4 then (if 2≤b.length∧keyN b≤b.length then some (b.take (keyN b),b.drop (keyN b)) else none) else some ([],b)
def znv (k:Int) (b:List UInt8):Option (List UInt8 × List UInt8):=if nRd k then (if 8≤b.length then some (b.take 8,b.drop 8) else none) else some (zds,b)
def znx (k:Int) (b:List UInt8):Option (Int × List UInt8):=if nAs k then (if 4≤b.length then some ((big (b.take 4):Nat),b.drop 4) else none) else some (0,b)
def zny (k:Int) (b:List UInt8):Option (((Int × List UInt8) × (Int × List UInt8)) × List UInt8) :=
 if nAd k then (decA b).bind fun p=>(decA p.2).map fun q=>((p.1,q.1),q.2) else some (((0,zav),(0,zav)),b)
def znw (k:Int) (b:List UInt8):Option (Int × List UInt8):=if nFr k then (if zdh (b.length:Nat)=true then some (ofS b,ofB b) else none) else if b=[] then some (0,zav) else none
def decM (k:Int) (b:List UInt8):Option Mr :=
 (zi2 k b).bind fun p=>(znv k p.2).bind fun q=>(znx k q.2).bind fun s=>(zny k s.2).bind fun t=>(znw k t.2).map fun f =>
  ⟨k,q.1,s.1,t.1.1.1,t.1.1.2,t.1.2.1,t.1.2.2,f.1,f.2,p.1⟩
theorem zby {s:Int} {bs:List UInt8} (h:zaC s bs=true):s=0∨s=4∨s=16:=by
 unfold zaC at h
 rw [Bool.and_eq_true] at h
 exact of_decide_eq_true h.1
theorem zdm {s:Int} {bs:List UInt8} (hl:bs.length=16) (h:zaC s bs=true):(zar s bs).length=s.toNat:=by
 unfold zar
 rw [if_pos h,List.length_take,hl]
 rcases zby h with h | h | h <;> subst h <;> rfl
theorem zkJ {s:Int} {bs:List UInt8} (hl:bs.length=16) (h:zaC s bs=true):ofS (zar s bs)=s∧ofB (zar s bs)=bs:=by
 have hn:=zdm hl h
 have hs:=zby h
 have hz:zdh (((zar s bs).length:Nat):Int)=true:=by rw [hn];rcases hs with h | h | h <;> subst h <;> rfl
 have hd:∀ x∈bs.drop s.toNat,x=0:=by
  unfold zaC at h
  rw [Bool.and_eq_true] at h
  simpa using h.2
 refine ⟨?_,?_⟩
 ·unfold ofS
  rw [if_pos hz,hn]
  rcases hs with h | h | h <;> subst h <;> rfl
 ·unfold ofB
  rw [if_pos hz]
  unfold pad
  rw [hn]
  have e:zar s bs=bs.take s.toNat:=by unfold zar;rw [if_pos h]
  have e2:bs.drop s.toNat=List.replicate (16-s.toNat) 0:=List.eq_replicate_iff.2 ⟨by rw [List.length_drop,hl],hd⟩
  rw [e,← e2,List.take_append_drop]
theorem zml {s:Int} {bs:List UInt8} (hl:bs.length=16) (h:zaC s bs=true) (r:List UInt8):decA (zf0 s bs++r)=some ((s,bs),r):=by
 have hn:=zdm hl h
 obtain ⟨o1,o2⟩:=zkJ hl h
 have hs:=zby h
 have hx:(UInt8.ofNat (8*s.toNat)).toNat=8*s.toNat:=by rcases hs with h | h | h <;> subst h <;> rfl
 have h8:8*s.toNat/8=s.toNat:=by omega
 have e:zf0 s bs++r=UInt8.ofNat (8*s.toNat)::(zar s bs++r):=rfl
 rw [e,decA,hx,h8]
 have ht:(zar s bs++r).take s.toNat=zar s bs:=by rw [← hn,List.take_append_of_le_length (Nat.le_refl _),List.take_length]
 have hd:(zar s bs++r).drop s.toNat=r:=by rw [← hn,List.drop_append_of_le_length (Nat.le_refl _),List.drop_length];rfl
 rw [ht,hd,o1,o2,if_pos ⟨by omega,by rcases hs with h | h | h <;> subst h <;> rfl,by rw [List.length_append,hn];omega⟩]
structure zgQ (m:Mr):Prop where
 k1:1≤m.k
 k7:m.k≤7
 rd:nRd m.k=false→m.rd=zds
 as0:nAs m.k=false→m.a=0
 src:nAd m.k=false→m.ss=0∧m.sb=zav
 grp:nAd m.k=false→m.gs=0∧m.gb=zav
 fr0:nFr m.k=false→m.fs=0∧m.fb=zav
 key:m.k≠4→m.key=[]
 a0:0≤m.a
 a32:m.a≤4294967295
 fr:nFr m.k=true→zaC m.fs m.fb=true∧0<m.fs
 fl:nAd m.k=true→zl1 m.ss m.sb m.gs m.gb (decide (m.k=3))=true
theorem zg3 (m:Mr):zof m=true↔zgQ m:=by
 unfold zof someA zt5
 simp only [Bool.and_eq_true,Bool.or_eq_true,decide_eq_true_eq,Bool.not_eq_true']
 constructor
 ·rintro ⟨⟨⟨⟨⟨⟨⟨⟨h1,h2⟩,h3⟩,h4⟩,h5⟩,h6⟩,h7⟩,h8⟩,h9⟩
  exact ⟨h1.1,h1.2,fun e=>h2.resolve_left (by rw [e];decide),fun e=>h3.resolve_left (by rw [e];decide),fun e=>(h4.resolve_left (by rw [e];decide)).1,fun e=>(h4.resolve_left (by rw [e];decide)).2,
   fun e=>h5.resolve_left (by rw [e];decide),fun e=>h6.resolve_left e,h7.1,h7.2,fun e=>h8.resolve_left (by rw [e];decide),fun e=>h9.resolve_left (by rw [e];decide)⟩
 ·rintro ⟨k1,k7,rd,as0,src,grp,fr0,key,a0,a32,fr,fl⟩
  refine ⟨⟨⟨⟨⟨⟨⟨⟨⟨k1,k7⟩,?_⟩,?_⟩,?_⟩,?_⟩,?_⟩,⟨a0,a32⟩⟩,?_⟩,?_⟩
  ·cases h:nRd m.k with
   | true=>exact .inl rfl
   | false=>exact .inr (rd h)
  ·cases h:nAs m.k with
   | true=>exact .inl rfl
   | false=>exact .inr (as0 h)
  ·cases h:nAd m.k with
   | true=>exact .inl rfl
   | false=>exact .inr ⟨src h,grp h⟩
  ·cases h:nFr m.k with
   | true=>exact .inl rfl
   | false=>exact .inr (fr0 h)
  ·by_cases h:m.k=4
   ·exact .inl h
   ·exact .inr (key h)
  ·cases h:nFr m.k with
   | true=>exact .inr (fr h)
   | false=>exact .inl rfl
  ·cases h:nAd m.k with
   | true=>exact .inr (fl h)
   | false=>exact .inl rfl
theorem zen {ss gs:Int} {sb gb:List UInt8} {wild:Bool} (h:zl1 ss sb gs gb wild=true):zaC ss sb=true∧zaC gs gb=true:=by
 unfold zl1 at h
 simp only [Bool.and_eq_true] at h
 exact ⟨h.1.1.1.1,h.1.1.1.2⟩
theorem zoA {m:Mr} (w:m.W) (h:zgQ m) (hk:m.k=4→2≤m.key.length∧m.key.length=keyN m.key):decM m.k (zdJ m)=some m:=by
 obtain ⟨k,rd,a,ss,sb,gs,gb,fs,fb,key⟩:=m
 obtain ⟨w1,w2,w3,w4⟩:=w
 simp only at w1 w2 w3 w4 hk
 have e1:∀ r,zi2 k (key++r)=some (key,r):=fun r=>by
  unfold zi2
  by_cases h4:k=4
  ·obtain ⟨g1,g2⟩:=hk h4
   have hkn:keyN (key++r)=key.length:=by
    unfold keyN at g2 ⊢
    rw [List.getD_eq_getElem?_getD,List.getElem?_append_left (by omega),← List.getD_eq_getElem?_getD,← g2]
   rw [if_pos h4,hkn,if_pos ⟨by simp;omega,by simp⟩,List.take_append_of_le_length (Nat.le_refl _),List.take_length,List.drop_append_of_le_length (Nat.le_refl _),List.drop_length]
   rfl
  ·have:=h.key h4
   simp only at this
   subst this
   rw [if_neg h4];rfl
 have e2:∀ r,znv k ((if nRd k then rd else [])++r)=some (rd,r):=fun r=>by
  unfold znv
  cases hn:nRd k with
  | true =>
   simp only [if_true]
   rw [if_pos (by simp [w1]),List.take_append_of_le_length (by omega),List.take_of_length_le (by omega),List.drop_append_of_le_length (by omega),List.drop_of_length_le (by omega)]
   rfl
  | false =>
   have:=h.rd hn
   simp only at this
   subst this
   rfl
 have e3:∀ r,znx k ((if nAs k then be 4 a.toNat else [])++r)=some (a,r):=fun r=>by
  unfold znx
  cases hn:nAs k with
  | true =>
   have a0:=h.a0
   have a32:=h.a32
   simp only at a0 a32
   have hb:(be 4 a.toNat).length=4:=zbw 4 _
   have hv:=zka 4 a.toNat (by have:(256:Nat)^4=4294967296:=(by decide);omega)
   simp only [if_true]
   rw [if_pos (by simp [hb]),List.take_append_of_le_length (by omega),List.take_of_length_le (by omega),List.drop_append_of_le_length (by omega),List.drop_of_length_le (by omega),hv,Int.toNat_of_nonneg a0]
   rfl
  | false =>
   have:=h.as0 hn
   simp only at this
   subst this
   rfl
 have e4:∀ r,zny k ((if nAd k then zf0 ss sb++zf0 gs gb else [])++r)=some (((ss,sb),(gs,gb)),r):=fun r=>by
  unfold zny
  cases hn:nAd k with
  | true =>
   obtain ⟨r1,r2⟩:=zen (h.fl hn)
   simp only at r1 r2
   simp only [if_true]
   rw [List.append_assoc,zml w2 r1,Option.bind_some,zml w3 r2]
   rfl
  | false =>
   obtain ⟨s1,s2⟩:=h.src hn
   obtain ⟨g1,g2⟩:=h.grp hn
   simp only at s1 s2 g1 g2
   subst s1 s2 g1 g2
   rfl
 have e5:znw k (if nFr k then zar fs fb else [])=some (fs,fb):=by
  unfold znw
  cases hn:nFr k with
  | true =>
   obtain ⟨r1,r2⟩:=h.fr hn
   simp only at r1 r2
   obtain ⟨o1,o2⟩:=zkJ w4 r1
   have hz:=zdm w4 r1
   simp only [if_true]
   rw [if_pos (by rw [hz];rcases zby r1 with h | h | h <;> subst h <;> rfl),o1,o2]
  | false =>
   obtain ⟨s1,s2⟩:=h.fr0 hn
   simp only at s1 s2
   subst s1 s2
   rfl
 unfold decM zdJ
 simp only
 rw [e1,Option.bind_some,e2,Option.bind_some,e3,Option.bind_some,e4,Option.bind_some,e5]
 rfl
theorem zkI (x:List UInt8) (h:zdh ((x.length:Nat):Int)=true):zaC (ofS x) (ofB x)=true∧(ofB x).length=16∧zar (ofS x) (ofB x)=x:=by
 have hs:ofS x=(x.length:Nat)∧ofB x=pad x:=by unfold ofS ofB;rw [if_pos h,if_pos h];exact ⟨rfl,rfl⟩
 have hn:x.length=0∨x.length=4∨x.length=16:=by
  have:=of_decide_eq_true h
  omega
 have hp:(pad x).length=16:=by unfold pad;simp;omega
 have hr:zaC (x.length:Nat) (pad x)=true:=by
  unfold zaC
  rw [h,Bool.true_and]
  simp only [Int.toNat_natCast,List.all_eq_true,beq_iff_eq]
  intro y hy
  unfold pad at hy
  rw [List.drop_append_of_le_length (Nat.le_refl _),List.drop_length,List.nil_append] at hy
  exact (List.mem_replicate.1 hy).2
 rw [hs.1,hs.2]
 refine ⟨hr,hp,?_⟩
 unfold zar
 rw [if_pos hr,Int.toNat_natCast]
 unfold pad
 rw [List.take_append_of_le_length (Nat.le_refl _),List.take_length]
theorem zj6 {b r:List UInt8} {p:Int × List UInt8} (h:decA b=some (p,r)):zaC p.1 p.2=true∧p.2.length=16∧zf0 p.1 p.2++r=b:=by
 cases b with
 | nil=>cases h
 | cons x y =>
  rw [decA] at h
  split at h
  ·rename_i hc
   obtain ⟨h1,h2,h3⟩:=hc
   have hl:(y.take (x.toNat/8)).length=x.toNat/8:=by rw [List.length_take];omega
   obtain ⟨o1,o2,o3⟩:=zkI (y.take (x.toNat/8)) (by rw [hl];exact h2)
   injection h with h
   obtain ⟨rfl,rfl⟩:=Prod.mk.inj h
   refine ⟨o1,o2,?_⟩
   unfold zf0
   rw [o3]
   have hs:ofS (y.take (x.toNat/8))=((x.toNat/8:Nat):Int):=by unfold ofS;rw [hl,if_pos h2]
   rw [hs,Int.toNat_natCast]
   have hx:UInt8.ofNat (8*(x.toNat/8))=x:=by
    apply UInt8.toNat_inj.1
    have:=x.toNat_lt
    simp;omega
   rw [hx,List.cons_append,List.take_append_drop]
  ·cases h
theorem zoC {k:Int} {b:List UInt8} {m:Mr} (h:decM k b=some m):m.k=k∧zdJ m=b∧m.W:=by
 unfold decM at h
 cases e1:zi2 k b with
 | none=>rw [e1] at h;cases h
 | some p =>
  obtain ⟨key,b1⟩:=p
  rw [e1,Option.bind_some] at h
  simp only at h
  cases e2:znv k b1 with
  | none=>rw [e2] at h;cases h
  | some q =>
   obtain ⟨rd,b2⟩:=q
   rw [e2,Option.bind_some] at h
   simp only at h
   cases e3:znx k b2 with
   | none=>rw [e3] at h;cases h
   | some q =>
    obtain ⟨a,b3⟩:=q
    rw [e3,Option.bind_some] at h
    simp only at h
    cases e4:zny k b3 with
    | none=>rw [e4] at h;cases h
    | some q =>
     obtain ⟨⟨⟨ss,sb⟩,gs,gb⟩,b4⟩:=q
     rw [e4,Option.bind_some] at h
     simp only at h
     cases e5:znw k b4 with
     | none=>rw [e5] at h;cases h
     | some q =>
      obtain ⟨fs,fb⟩:=q
      rw [e5,Option.map_some] at h
      injection h with h
      subst h
      have f1:key++b1=b:=by
       unfold zi2 at e1
       split at e1
       ·split at e1
        ·injection e1 with e1
         obtain ⟨rfl,rfl⟩:=Prod.mk.inj e1
         exact List.take_append_drop _ _
        ·cases e1
       ·injection e1 with e1
        obtain ⟨rfl,rfl⟩:=Prod.mk.inj e1
        rfl
      have f2:(if nRd k then rd else [])++b2=b1∧rd.length=8:=by
       unfold znv at e2
       cases hn:nRd k with
       | true =>
        rw [hn] at e2
        simp only [if_true] at e2
        split at e2
        ·injection e2 with e2
         obtain ⟨rfl,rfl⟩:=Prod.mk.inj e2
         exact ⟨List.take_append_drop _ _,by rw [List.length_take];omega⟩
        ·cases e2
       | false =>
        rw [hn] at e2
        simp only [Bool.false_eq_true,if_false] at e2
        injection e2 with e2
        obtain ⟨rfl,rfl⟩:=Prod.mk.inj e2
        exact ⟨rfl,rfl⟩
      have f3:(if nAs k then be 4 a.toNat else [])++b3=b2:=by
       unfold znx at e3
       cases hn:nAs k with
       | true =>
        rw [hn] at e3
        simp only [if_true] at e3
        split at e3
        ·injection e3 with e3
         obtain ⟨rfl,rfl⟩:=Prod.mk.inj e3
         simp only [if_true,Int.toNat_natCast]
         rw [zsH (by rw [List.length_take];omega),List.take_append_drop]
        ·cases e3
       | false =>
        rw [hn] at e3
        simp only [Bool.false_eq_true,if_false] at e3
        injection e3 with e3
        obtain ⟨rfl,rfl⟩:=Prod.mk.inj e3
        rfl
      have f4:(if nAd k then zf0 ss sb++zf0 gs gb else [])++b4=b3∧sb.length=16∧gb.length=16:=by
       unfold zny at e4
       cases hn:nAd k with
       | true =>
        rw [hn] at e4
        simp only [if_true] at e4
        cases g1:decA b3 with
        | none=>rw [g1] at e4;cases e4
        | some p =>
         obtain ⟨p1,r1⟩:=p
         rw [g1,Option.bind_some] at e4
         simp only at e4
         cases g2:decA r1 with
         | none=>rw [g2] at e4;cases e4
         | some q =>
          obtain ⟨q1,r2⟩:=q
          rw [g2,Option.map_some] at e4
          injection e4 with e4
          simp only [Prod.mk.injEq] at e4
          obtain ⟨⟨rfl,rfl⟩,rfl⟩:=e4
          obtain ⟨_,l1,w1⟩:=zj6 g1
          obtain ⟨_,l2,w2⟩:=zj6 g2
          simp only [if_true]
          exact ⟨by rw [List.append_assoc,w2,w1],l1,l2⟩
       | false =>
        rw [hn] at e4
        simp only [Bool.false_eq_true,if_false] at e4
        injection e4 with e4
        simp only [Prod.mk.injEq] at e4
        obtain ⟨⟨⟨rfl,rfl⟩,rfl,rfl⟩,rfl⟩:=e4
        exact ⟨rfl,rfl,rfl⟩
      have f5:(if nFr k then zar fs fb else [])=b4∧fb.length=16:=by
       unfold znw at e5
       cases hn:nFr k with
       | true =>
        rw [hn] at e5
        simp only [if_true] at e5
        split at e5
        ·rename_i hz
         injection e5 with e5
         obtain ⟨rfl,rfl⟩:=Prod.mk.inj e5
         obtain ⟨_,o2,o3⟩:=zkI b4 hz
         simp only [if_true]
         exact ⟨o3,o2⟩
        ·cases e5
       | false =>
        rw [hn] at e5
        simp only [Bool.false_eq_true,if_false] at e5
        split at e5
        ·rename_i hz
         injection e5 with e5
         obtain ⟨rfl,rfl⟩:=Prod.mk.inj e5
         exact ⟨by rw [hz];rfl,rfl⟩
        ·cases e5
      refine ⟨rfl,?_,f2.2,f4.2.1,f4.2.2,f5.2⟩
      unfold zdJ
      simp only
      rw [f5.1,f4.1,f3,f2.1,f1]
def zhm (m:Mr) (size:Int):Bool:=decide ((m.ss=0∨m.ss=size)∧(m.gs=0∨m.gs=size))
def keyR (size:Int):List UInt8→Bool
 | x::y::b=>decide (x.toNat=2∨x.toNat=3)&&decide (b.length=y.toNat)&&(match decM (x.toNat:Nat) b with | some m=>zof m&&zhm m size | none=>false)
 | _=>false
def keyM (key:List UInt8):Bool:=keyR 4 key||keyR 16 key
def zbr (m:Mr):Bool:=zof m&&(!decide (m.k=4)||keyM m.key)
def zhl (m:Mr) (size:Int):Bool:=if m.k=4 then keyR size m.key else zhm m size
theorem zdd (s:Int) {bs:List UInt8} (hl:bs.length=16):(zar s bs).length≤16:=by
 unfold zar
 split
 ·rw [List.length_take];omega
 ·simp
theorem zk9 {m:Mr} (w:m.W):(zdJ m).length≤m.key.length+62:=by
 have h1:=zdd m.ss w.sb
 have h2:=zdd m.gs w.gb
 have h3:=zdd m.fs w.fb
 have h4:=w.rd
 unfold zdJ
 cases nRd m.k <;> cases nAs m.k <;> cases nAd m.k <;> cases nFr m.k <;> simp [zf0,zbw] <;> omega
theorem zbp {n:Nat} (h:n<256):(UInt8.ofNat n).toNat=n:=by simp;omega
theorem zcj (x:UInt8):UInt8.ofNat x.toNat=x:=by
 apply UInt8.toNat_inj.1
 have:=x.toNat_lt
 simp
theorem zkS (size:Int) (key:List UInt8):keyR size key=true↔∃ m:Mr,m.W∧zgQ m∧(m.k=2∨m.k=3)∧zhm m size=true∧zaE m=key:=by
 constructor
 ·intro h
  match key,h with
  | x::y::b,h =>
   unfold keyR at h
   simp only [Bool.and_eq_true,decide_eq_true_eq] at h
   obtain ⟨⟨hx,hy⟩,h⟩:=h
   cases hd:decM (x.toNat:Nat) b with
   | none=>rw [hd] at h;cases h
   | some m =>
    rw [hd] at h
    simp only [Bool.and_eq_true] at h
    obtain ⟨hk,hb,hw⟩:=zoC hd
    refine ⟨m,hw,(zg3 m).1 h.1,by rw [hk];omega,h.2,?_⟩
    unfold zaE
    rw [hk,hb,hy,Int.toNat_natCast,zcj,zcj]
 ·rintro ⟨m,hw,hr,hk,hs,rfl⟩
  have hkey:=hr.key (by omega)
  have hl:=zk9 hw
  rw [hkey] at hl
  simp only [List.length_nil,Nat.zero_add] at hl
  have hkn:(UInt8.ofNat m.k.toNat).toNat=m.k.toNat:=zbp (by omega)
  unfold zaE
  rw [keyR,hkn,zbp (by omega)]
  have hc:((m.k.toNat:Nat):Int)=m.k:=by omega
  rw [hc,zoA hw hr (by omega)]
  simp only [(zg3 m).2 hr,hs,Bool.and_true,Bool.and_eq_true,decide_eq_true_eq]
  exact ⟨by omega,trivial⟩
theorem zmY {m:Mr} (hr:zgQ m) (hk:m.k=2∨m.k=3):zhm m 4=true∨zhm m 16=true:=by
 unfold zhm
 simp only [decide_eq_true_eq]
 rcases hk with hk | hk
 ·have h1:=(hr.src (by rw [hk];rfl)).1
  have h2:=(hr.grp (by rw [hk];rfl)).1
  exact .inl ⟨.inl h1,.inl h2⟩
 ·have hf:=hr.fl (by rw [hk];rfl)
  obtain ⟨r1,r2⟩:=zen hf
  unfold zl1 at hf
  simp only [Bool.and_eq_true,Bool.or_eq_true,decide_eq_true_eq] at hf
  have h3:=hf.2
  rcases zby r1 with a | a | a <;> rcases zby r2 with b | b | b <;> rw [a,b] at h3 ⊢ <;> simp at h3 ⊢
theorem zh2 (key:List UInt8):keyM key=true↔∃ m:Mr,m.W∧zgQ m∧(m.k=2∨m.k=3)∧zaE m=key:=by
 unfold keyM
 rw [Bool.or_eq_true,zkS,zkS]
 constructor
 ·rintro (⟨m,h1,h2,h3,_,h5⟩ | ⟨m,h1,h2,h3,_,h5⟩) <;> exact ⟨m,h1,h2,h3,h5⟩
 ·rintro ⟨m,h1,h2,h3,h5⟩
  rcases zmY h2 h3 with h | h
  ·exact .inl ⟨m,h1,h2,h3,h,h5⟩
  ·exact .inr ⟨m,h1,h2,h3,h,h5⟩
structure zcK (m:Mr):Prop where
 core:zgQ m
 key:m.k=4→keyM m.key=true
theorem zbF (m:Mr):zbr m=true↔zcK m:=by
 unfold zbr
 rw [Bool.and_eq_true,Bool.or_eq_true,zg3,Bool.not_eq_true',decide_eq_false_iff_not]
 exact ⟨fun h=>⟨h.1,fun e=>h.2.resolve_left (fun n=>n e)⟩,fun h=>⟨h.core,(Decidable.em (m.k=4)).symm.imp id h.key⟩⟩
theorem zni {key:List UInt8} (h:keyM key=true):2≤key.length∧key.length=keyN key∧key.length≤64:=by
 obtain ⟨m,hw,hr,hk,rfl⟩:=(zh2 key).1 h
 have hl:=zk9 hw
 rw [hr.key (by omega)] at hl
 simp only [List.length_nil,Nat.zero_add] at hl
 unfold zaE keyN
 simp only [List.length_cons,List.getD_cons_succ,List.getD_cons_zero]
 rw [zbp (by omega)]
 omega
theorem zgM {m:Mr} (w:m.W) (h:zcK m):decM m.k (zdJ m)=some m :=
 zoA w h.core (fun e=>by have:=zni (h.key e);exact ⟨this.1,this.2.1⟩)
theorem zi9 {m:Mr} (w:m.W) (h:zcK m):(zdJ m).length≤108:=by
 have hl:=zk9 w
 by_cases e:m.k=4
 ·have h1:=zni (h.key e)
  have h2:=zdd m.fs w.fb
  unfold zdJ
  rw [e,show nRd 4=false from rfl,show nAs 4=false from rfl,show nAd 4=false from rfl,show nFr 4=true from rfl]
  simp
  omega
 ·rw [h.core.key e] at hl;simp at hl;omega
theorem zp3 {m o:Mr} (w:m.W) (w':o.W) (h:zcK m) (h':zcK o) (e:zaE m=zaE o):m=o:=by
 unfold zaE at e
 injection e with e1 e2
 injection e2 with _ e2
 have hk:m.k=o.k:=by
  have h1:=congrArg UInt8.toNat e1
  have a1:=h.core.k1
  have a7:=h.core.k7
  have b1:=h'.core.k1
  have b7:=h'.core.k7
  rw [zbp (by omega),zbp (by omega)] at h1
  omega
 have d1:=zgM w h
 have d2:=zgM w' h'
 rw [e2,hk,d2] at d1
 injection d1 with d1
 exact d1.symm
def zlw (size:Int):List UInt8→Option Mr
 | x::y::r=>(decM (x.toNat:Nat) (r.take y.toNat)).filter (fun m=>zbr m&&zhl m size)
 | _=>none
def zfH (b:List UInt8):Prop:=b.length<2∨b.length-2<(b.getD 1 0).toNat
instance (b:List UInt8):Decidable (zfH b):=inferInstanceAs (Decidable (_∨_))
def zbI (b:List UInt8) (size:Int):Int:=if ¬ (size=4∨size=16) then 1 else if zfH b then 3 else if (zlw size b).isSome then 0 else 4
def mr0:Mr:=⟨0,zds,0,0,zav,0,zav,0,zav,[]⟩
def zc1 (b:List UInt8) (size:Int):Mr:=if zbI b size=0 then (zlw size b).getD mr0 else mr0
def zbE (b:List UInt8) (size:Int):Nat:=if zbI b size=0 then keyN b else 0
theorem zqy {b:List UInt8} {size:Int} {m:Mr} (h:zlw size b=some m) (hs:¬ zfH b):m.W∧zcK m∧zhl m size=true∧zaE m=b.take (keyN b):=by
 match b,h with
 | x::y::r,h =>
  unfold zlw at h
  rw [Option.filter_eq_some_iff] at h
  obtain ⟨hd,hp⟩:=h
  rw [Bool.and_eq_true] at hp
  obtain ⟨hk,hb,hw⟩:=zoC hd
  refine ⟨hw,(zbF m).1 hp.1,hp.2,?_⟩
  have hl:(r.take y.toNat).length=y.toNat:=by
   unfold zfH at hs
   simp only [List.length_cons,List.getD_cons_succ,List.getD_cons_zero,not_or] at hs
   rw [List.length_take];omega
  unfold zaE keyN
  rw [hb,hk,hl,Int.toNat_natCast,zcj,zcj]
  simp only [List.getD_cons_succ,List.getD_cons_zero]
  rw [Nat.add_comm];rfl
theorem zg0 {m:Mr} (w:m.W) (h:zcK m) {size:Int} (hs:zhl m size=true) (r:List UInt8):zlw size (zaE m++r)=some m∧¬ zfH (zaE m++r)∧keyN (zaE m++r)=(zaE m).length:=by
 have hl:=zi9 w h
 have e:zaE m++r=UInt8.ofNat m.k.toNat::UInt8.ofNat (zdJ m).length::(zdJ m++r):=rfl
 have a1:=h.core.k1
 have a7:=h.core.k7
 have hc:((m.k.toNat:Nat):Int)=m.k:=by omega
 rw [e]
 refine ⟨?_,?_,?_⟩
 ·rw [zlw,zbp (n:=m.k.toNat) (by omega),zbp (n:=(zdJ m).length) (by omega),hc,List.take_append_of_le_length (Nat.le_refl _),List.take_length,zgM w h,Option.filter_some,(zbF m).2 h,hs]
  rfl
 ·unfold zfH
  simp only [List.length_cons,List.getD_cons_succ,List.getD_cons_zero,List.length_append]
  rw [zbp (by omega)]
  omega
 ·unfold keyN zaE
  simp only [List.length_cons,List.getD_cons_succ,List.getD_cons_zero]
  rw [zbp (by omega)]
  omega
theorem zew {b:List UInt8} {size:Int} (hz:size=4∨size=16) {m:Mr}:(zbI b size=0∧zc1 b size=m)↔(¬ zfH b∧m.W∧zcK m∧zhl m size=true∧zaE m=b.take (keyN b)):=by
 constructor
 ·rintro ⟨h1,h2⟩
  unfold zc1 at h2
  rw [if_pos h1] at h2
  unfold zbI at h1
  rw [if_neg (fun n=>n hz)] at h1
  split at h1
  ·cases h1
  ·rename_i hs
   split at h1
   ·rename_i hg
    cases ht:zlw size b with
    | none=>rw [ht] at hg;cases hg
    | some x =>
     rw [ht] at h2
     simp only [Option.getD_some] at h2
     subst h2
     exact ⟨hs,zqy ht hs⟩
   ·cases h1
 ·rintro ⟨hs,hw,hr,hz2,hb⟩
  have hg:zlw size b=some m:=by
   have h1:=(zg0 hw hr hz2 (b.drop (keyN b))).1
   rwa [hb,List.take_append_drop] at h1
  have he:zbI b size=0:=by
   unfold zbI
   rw [if_neg (fun n=>n hz),if_neg hs,hg]
   rfl
  exact ⟨he,by unfold zc1;rw [if_pos he,hg];rfl⟩
end
section
open Go.RowKit
section
variable {ops:Array Oper} {rest:List Oper} {o:Oper} {a:Act} {w:World} {Q:Exit→Act→World→Prop}
end
theorem zhr (bs:List UInt8):(bvs bs).toArray=rdC bs:=rfl
end
section
open Go.RowKit
def mroL (m:Mr):List Value :=
 [.int .i64 m.k]++(bvs m.rd++([.int .i64 m.a]++((.int .i64 m.ss::bvs m.sb)++((.int .i64 m.gs::bvs m.gb)++((.int .i64 m.fs::bvs m.fb)++[.string ⟨m.key.toArray⟩])))))
def mroC (m:Mr):Array Value:=(mroL m).toArray
section
variable {m:Mr}
theorem zbm (w:m.W):(mroC m).size=62:=by simp [mroC,mroL,bvs,w.rd,w.sb,w.gb,w.fb]
theorem zhu:∃ p r,mroL m=p++(bvs m.rd++r)∧p.length=1:=⟨[.int .i64 m.k],_,rfl,rfl⟩
theorem zne (w:m.W):∃ p r,mroL m=p++([.int .i64 m.a]++r)∧p.length=9:=⟨[.int .i64 m.k]++bvs m.rd,_,by simp only [mroL,List.append_assoc];rfl,by simp [bvs,w.rd]⟩
theorem ziS (w:m.W):∃ p r,mroL m=p++((.int .i64 m.ss::bvs m.sb)++r)∧p.length=10 :=
 ⟨[.int .i64 m.k]++(bvs m.rd++[.int .i64 m.a]),_,by simp only [mroL,List.append_assoc];rfl,by simp [bvs,w.rd]⟩
theorem ziT (w:m.W):∃ p r,mroL m=p++((.int .i64 m.gs::bvs m.gb)++r)∧p.length=27 :=
 ⟨[.int .i64 m.k]++(bvs m.rd++([.int .i64 m.a]++(.int .i64 m.ss::bvs m.sb))),_,by simp only [mroL,List.append_assoc];rfl,by simp [bvs,w.rd,w.sb]⟩
theorem ziU (w:m.W):∃ p r,mroL m=p++((.int .i64 m.fs::bvs m.fb)++r)∧p.length=44 :=
 ⟨[.int .i64 m.k]++(bvs m.rd++([.int .i64 m.a]++((.int .i64 m.ss::bvs m.sb)++(.int .i64 m.gs::bvs m.gb)))),_,by simp only [mroL,List.append_assoc];rfl,by simp [bvs,w.rd,w.sb,w.gb]⟩
theorem znd (w:m.W):∃ p r,mroL m=p++([.string ⟨m.key.toArray⟩]++r)∧p.length=61 :=
 ⟨[.int .i64 m.k]++(bvs m.rd++([.int .i64 m.a]++((.int .i64 m.ss::bvs m.sb)++((.int .i64 m.gs::bvs m.gb)++(.int .i64 m.fs::bvs m.fb))))),[],by simp only [mroL,List.append_assoc,List.append_nil],by simp [bvs,w.rd,w.sb,w.gb,w.fb]⟩
theorem zfb:(mroC m)[0]?=some (.int .i64 m.k):=rfl
theorem zva (w:m.W):(mroC m)[9]?=some (.int .i64 m.a):=by
 obtain ⟨p,r,h,hp⟩:=zne w
 exact (List.getElem?_toArray).trans (zhv (j:=0) h hp rfl)
theorem zkM (w:m.W):(mroC m)[61]?=some (.string ⟨m.key.toArray⟩):=by
 obtain ⟨p,r,h,hp⟩:=znd w
 exact (List.getElem?_toArray).trans (zhv (j:=0) h hp rfl)
theorem zrY:(mroC m).all (·.oneCell')=true:=by
 rw [Array.all_eq_true_iff_forall_mem]
 intro u hu
 simp only [mroC,mroL,List.mem_toArray,List.mem_cons,List.mem_append,List.not_mem_nil,or_false] at hu
 rcases hu with rfl | hu | rfl | (rfl | hu) | (rfl | hu) | (rfl | hu) | rfl
 ·rfl
 ·exact zb6 _ u hu
 ·rfl
 ·rfl
 ·exact zb6 _ u hu
 ·rfl
 ·exact zb6 _ u hu
 ·rfl
 ·exact zb6 _ u hu
 ·rfl
theorem zgD {p q r:List Value} {n:Nat} {x:World} {g:Nat} {t:TypeId} (h:Blk x g t (mroC m)) (hs:mroL m=p++(q++r)) (hp:p.length=n):x.rangeAt g n q :=
 fun j u hu=>by
  rw [h.cell]
  exact (List.getElem?_toArray).trans (zhv hs hp hu)
theorem mro_rd (w:m.W) {x:World} {g:Nat} {t:TypeId} (h:Blk x g t (mroC m)):x.rangeAt g 1 (bvs m.rd):=by
 obtain ⟨p,r,hs,hp⟩:=zhu (m:=m)
 exact zgD h hs hp
theorem zwo (w:m.W) {x:World} {g:Nat} {t:TypeId} (h:Blk x g t (mroC m)):x.rangeAt g 10 (.int .i64 m.ss::bvs m.sb):=by
 obtain ⟨p,r,hs,hp⟩:=ziS w
 exact zgD h hs hp
theorem zwp (w:m.W) {x:World} {g:Nat} {t:TypeId} (h:Blk x g t (mroC m)):x.rangeAt g 27 (.int .i64 m.gs::bvs m.gb):=by
 obtain ⟨p,r,hs,hp⟩:=ziT w
 exact zgD h hs hp
theorem mro_f (w:m.W) {x:World} {g:Nat} {t:TypeId} (h:Blk x g t (mroC m)):x.rangeAt g 44 (.int .i64 m.fs::bvs m.fb):=by
 obtain ⟨p,r,hs,hp⟩:=ziU w
 exact zgD h hs hp
end
section
variable {ops:Array Oper} {rest:List Oper} {o:Oper} {a:Act} {w:World} {Q:Exit→Act→World→Prop} {m:Mr}
theorem zh1 {g:Nat} {t:TypeId} (h:Blk w g t (mroC m)) (hm:m.W):(loadVar 86 ⟨g,0,none⟩).run Tryz.prog w = .ok (.agg (mroC m)) w :=
 run_loadVar_row w g t 86 (mroC m) (0,0) _ h Tryz.underlying86 rfl (by rw [zbm hm];kernel_rfl)
theorem zaA (hw:Region.wanted o (yielded ops a.tmps)=true) (x:Operand) (ho:o.op = .load 86 x)
  (g:Nat) (hx:a.eval x = .pointer (some ⟨g,0,none⟩)) {t:TypeId} (h:Blk w g t (mroC m)) (hm:m.W)
  (hk:wpList Tryz.prog ops Q rest (a.put o.dst (.agg (mroC m))) w):wpList Tryz.prog ops Q (o::rest) a w:=by
 unfold wpList
 rw [if_pos hw]
 exact .inl (wp_load_row 86 x ho g hx t (mroC m) (0,0) _ h Tryz.underlying86 rfl (by rw [zbm hm];kernel_rfl) hk)
theorem zeH (x:Operand) (ho:o.op = .load 86 x)
  (g:Nat) (hx:a.eval x = .pointer (some ⟨g,0,none⟩)) {t:TypeId} (h:Blk w g t (mroC m)) (hm:m.W) :
  (execOp a.eval o).run Tryz.prog w = .ok (.value (.agg (mroC m))) w:=by
 unfold execOp
 simp only [ho,hx,Instr.loadAt,Instr.sureAddr,Sem.run_bind,Sem.run_pure,Result.andThen_ok,zh1 h hm]
theorem zan (hgd:o.guard=none) (x y:Operand) (ho:o.op = .store 86 x y)
  (g:Nat) (hx:a.eval x = .pointer (some ⟨g,0,none⟩)) (hy:a.eval y = .agg (mroC m)) (hm:m.W) {t:TypeId} {old:Array Value} (h:Blk w g t old) (hold:old.size=62)
  (hk:∀ w',Blk w' g t (mroC m)→w.grownBy w' (some g)→wpList Tryz.prog ops Q rest (a.put o.dst undef) w'):wpList Tryz.prog ops Q (o::rest) a w :=
 wpList_store_row hgd 86 x y ho g (mroC m) hx hy t old h (by rw [zbm hm];kernel_rfl) (by rw [zbm hm,hold]) zrY (hk _ (h.setRow _) (zaO _ _ _))
end
def zgs (m o:Mr):Bool :=
 decide (m.k=o.k)&&(decide (m.rd=o.rd)&&(decide (m.a=o.a)&&(decide (m.ss=o.ss∧m.sb=o.sb)&&(decide (m.gs=o.gs∧m.gb=o.gb)&&(decide (m.fs=o.fs∧m.fb=o.fb)&&(decide (m.key=o.key)&&true))))))
theorem zej (m o:Mr):zgs m o=true↔m=o:=by
 unfold zgs
 simp only [Bool.and_eq_true,decide_eq_true_eq,and_true]
 constructor
 ·rintro ⟨h1,h2,h3,⟨h4,h5⟩,⟨h6,h7⟩,⟨h8,h9⟩,h10⟩
  cases m;cases o
  simp_all
 ·rintro rfl
  simp
open Go.RowKit
theorem zh0 {m:Mr} {p q r:List Value} {n k:Nat} (h:mroL m=p++(q++r)) (hp:p.length=n) (hq:q.length=k):(mroC m).extract n (n+k)=q.toArray:=by
 unfold mroC
 rw [List.extract_toArray,List.extract_eq_take_drop,show n+k-n=k by omega,zrZ h hp hq]
set_option maxRecDepth 100000 in
set_option maxHeartbeats 400000 in
theorem zu9 (w:World) (d:Nat) {m o:Mr} (hm:m.W) (ho:o.W) :
  (Op.equalIn (d+4) 86 (.agg (mroC m)) (.agg (mroC o))).run Tryz.prog w = .ok (zgs m o) w:=by
 have hS:Tryz.prog.underlying 86=some (.struct (Tryz.prog.fieldsOf 86)):=by kernel_rfl
 have hp:Tryz.prog.stoodInHeld 86=false:=by kernel_rfl
 have a3:=Tryz.isAgg3
 have a9:=Tryz.isAgg9
 have a23:=Tryz.isAgg84
 have s23:=Tryz.sizeOf84
 have a26:=Tryz.isAgg25
 have s26:=Tryz.sizeOf25
 have p0:∀ {m:Mr},m.W→(part 3 (mroC m) 0).run Tryz.prog w = .ok (.int .i64 m.k) w:=fun {m} hm=>by
  have:=zfb (m:=m)
  simp [part,a3,this]
 have p1:∀ {m:Mr},m.W→(part 84 (mroC m) 1).run Tryz.prog w = .ok (.agg (rdC m.rd)) w:=fun {m} hm=>by
  obtain ⟨p,r,hs,hl⟩:=zhu (m:=m)
  have:=zh0 (k:=8) hs hl (by rw [zbb,hm.rd])
  simp [part,a23,s23,this,zhr]
 have p2:∀ {m:Mr},m.W→(part 3 (mroC m) 9).run Tryz.prog w = .ok (.int .i64 m.a) w:=fun {m} hm=>by
  have:=zva hm
  simp [part,a3,this]
 have p3:∀ {m:Mr},m.W→(part 25 (mroC m) 10).run Tryz.prog w = .ok (.agg (zaq m.ss m.sb)) w:=fun {m} hm=>by
  obtain ⟨p,r,hs,hl⟩:=ziS hm
  have:=zh0 (k:=17) hs hl (by simp [bvs,hm.sb])
  simp [part,a26,s26,this,zed]
 have p4:∀ {m:Mr},m.W→(part 25 (mroC m) 27).run Tryz.prog w = .ok (.agg (zaq m.gs m.gb)) w:=fun {m} hm=>by
  obtain ⟨p,r,hs,hl⟩:=ziT hm
  have:=zh0 (k:=17) hs hl (by simp [bvs,hm.gb])
  simp [part,a26,s26,this,zed]
 have p5:∀ {m:Mr},m.W→(part 25 (mroC m) 44).run Tryz.prog w = .ok (.agg (zaq m.fs m.fb)) w:=fun {m} hm=>by
  obtain ⟨p,r,hs,hl⟩:=ziU hm
  have:=zh0 (k:=17) hs hl (by simp [bvs,hm.fb])
  simp [part,a26,s26,this,zed]
 have p6:∀ {m:Mr},m.W→(part 9 (mroC m) 61).run Tryz.prog w = .ok (.string ⟨m.key.toArray⟩) w:=fun {m} hm=>by
  have:=zkM hm
  simp [part,a9,this]
 have e0:=(run_equalIn_int (P:=Tryz.prog) w (d+2) 3 .i64 .i64 m.k o.k Tryz.underlying3)
 have e1:=run_equalIn_bytes (P:=Tryz.prog) w (d+1) 84 5 8 Tryz.underlying84 Tryz.underlying5 Tryz.sizeOf5 m.rd o.rd hm.rd ho.rd
 have e2:=(run_equalIn_int (P:=Tryz.prog) w (d+2) 3 .i64 .i64 m.a o.a Tryz.underlying3)
 have e3:=zhg w d m.ss o.ss m.sb o.sb hm.sb ho.sb
 have e4:=zhg w d m.gs o.gs m.gb o.gb hm.gb ho.gb
 have e5:=zhg w d m.fs o.fs m.fb o.fb hm.fb ho.fb
 have e6:=run_equalIn_string (P:=Tryz.prog) w (d+2) 9 ⟨m.key.toArray⟩ ⟨o.key.toArray⟩ Tryz.underlying9
 rw [zmp] at e6
 rw [run_equalIn_agg w (d+3) 86 _ _ hS hp]
 simp only [Program.fieldsOf,Tryz.underlying86]
 have hq:((m.k==o.k)&&((m.rd==o.rd)&&((m.a==o.a)&&(decide (m.ss=o.ss∧m.sb=o.sb)&&(decide (m.gs=o.gs∧m.gb=o.gb)&&(decide (m.fs=o.fs∧m.fb=o.fb)&&(decide (m.key=o.key)&&true)))))))=zgs m o:=by
  unfold zgs
  by_cases h1:m.k=o.k <;> by_cases h2:m.rd=o.rd <;> by_cases h3:m.a=o.a <;> simp [h1,h2,h3]
 rw [← hq]
 refine zbu w (d+3) (of_decide_eq_true (by kernel_rfl)) (p0 hm) (p0 ho) e0 ?_
 refine zbu w (d+3) (of_decide_eq_true (by kernel_rfl)) (p1 hm) (p1 ho) e1 ?_
 refine zbu w (d+3) (of_decide_eq_true (by kernel_rfl)) (p2 hm) (p2 ho) e2 ?_
 refine zbu w (d+3) (of_decide_eq_true (by kernel_rfl)) (p3 hm) (p3 ho) e3 ?_
 refine zbu w (d+3) (of_decide_eq_true (by kernel_rfl)) (p4 hm) (p4 ho) e4 ?_
 refine zbu w (d+3) (of_decide_eq_true (by kernel_rfl)) (p5 hm) (p5 ho) e5 ?_
 refine zbu w (d+3) (of_decide_eq_true (by kernel_rfl)) (p6 hm) (p6 ho) e6 ?_
 exact zhB w (d+3)
theorem zwz {m o:Mr} (hm:m.W) (ho:o.W) (w:World):(binOp .eql 86 (.agg (mroC m)) (.agg (mroC o))).run Tryz.prog w = .ok (.bool (zgs m o)) w:=by
 rw [run_eql_struct,zu9 w 9996 hm ho]
 rfl
theorem zwm {m o:Mr} (hm:m.W) (ho:o.W) (w:World):(binOp .neq 86 (.agg (mroC m)) (.agg (mroC o))).run Tryz.prog w = .ok (.bool (!zgs m o)) w:=by
 rw [run_neq_struct,zu9 w 9996 hm ho]
 rfl
theorem zmh {o:Oper} {a:Act} {w:World} (x y:Operand) (ho:o.op = .binOp .eql 86 x y 86) {m n:Mr} (hx:a.eval x = .agg (mroC m)) (hy:a.eval y = .agg (mroC n)) (hm:m.W) (hn:n.W) :
  (execOp a.eval o).run Tryz.prog w = .ok (.value (.bool (zgs m n))) w:=by
 have hg:Tryz.prog.eqGuardType Tryz.prog.depth 86=false:=by kernel_rfl
 have hg':=run_eqGuard_agg (P:=Tryz.prog) w .eql 86 x y (mroC m) (mroC n) hg
 unfold execOp
 simp only [ho,hx,hy,Sem.run_bind,hg',Result.andThen_ok,zwz hm hn,Sem.run_pure]
theorem zhy {o:Oper} {a:Act} {w:World} (x y:Operand) (ho:o.op = .binOp .neq 86 x y 86) {m n:Mr} (hx:a.eval x = .agg (mroC m)) (hy:a.eval y = .agg (mroC n)) (hm:m.W) (hn:n.W) :
  (execOp a.eval o).run Tryz.prog w = .ok (.value (.bool (!zgs m n))) w:=by
 have hg:Tryz.prog.eqGuardType Tryz.prog.depth 86=false:=by kernel_rfl
 have hg':=run_eqGuard_agg (P:=Tryz.prog) w .neq 86 x y (mroC m) (mroC n) hg
 unfold execOp
 simp only [ho,hx,hy,Sem.run_bind,hg',Result.andThen_ok,zwm hm hn,Sem.run_pure]
end
end Go.Proofs.YtookpplebikfnaaGreatDoor
