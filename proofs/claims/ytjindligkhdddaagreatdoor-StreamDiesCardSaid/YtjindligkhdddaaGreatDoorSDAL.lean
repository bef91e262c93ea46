/-
  Plain mathematics of layer 7: multicast routes as plain data, which are right, their bytes, and what bytes are one. Nothing here speaks of the program.
  Plain mathematics of layer 7: the keys of leaves, which routes are right, what bytes begin with. Nothing here speaks of the program.
  Plain mathematics of layer 7's texts: unlike routes have unlike texts. Nothing here speaks of the program.
  Parts of aggregates in the midst of a block: those of distinguishers. No condition.
  Multicast routes as values and as blocks: their cells, loads of a whole one and of its parts, and when two are equal. No condition.
  '==' at routes. No condition.
-/
import Derived.Test.YtjindligkhdddaaGreatDoorSDAK
set_option linter.unusedVariables false
set_option linter.unusedSimpArgs false
namespace Go.Proofs.YtjindligkhdddaaGreatDoor
section
structure Mr where
 k:Int
 rd:List UInt8
 a:Int
 ss:Int
 sb:List UInt8
 gs:Int
 gb:List UInt8
 fs:Int
 fb:List UInt8
 key:List UInt8
structure Mr.W (m:Mr):Prop where
 rd:m.rd.length=8
 sb:m.sb.length=16
 gb:m.gb.length=16
 fb:m.fb.length=16
def nRd (k:Int):Bool:=decide (k≠4)
def nAs (k:Int):Bool:=decide (k=2∨k=6∨k=7)
def nAd (k:Int):Bool:=decide (k=3∨k=5∨k=6∨k=7)
def nFr (k:Int):Bool:=decide (k=1∨k=3∨k=4)
def someA (s:Int) (bs:List UInt8):Bool:=zaz s bs&&decide (0<s)
def zvb (s:Int) (bs:List UInt8):Bool:=decide (s=0∧bs=zat)
def zmG (ss:Int) (sb:List UInt8) (gs:Int) (gb:List UInt8) (wild:Bool):Bool :=
 zaz ss sb&&zaz gs gb&&!zct ss sb&&(decide (gs≤0)||zct gs gb)&&((wild&&decide (ss=0∨gs=0))||decide (0<ss∧ss=gs))
def zoS (m:Mr):Bool :=
 decide (1≤m.k∧m.k≤7)&&(nRd m.k||decide (m.rd=zda))&&(nAs m.k||decide (m.a=0))&&(nAd m.k||(zvb m.ss m.sb&&zvb m.gs m.gb))&&(nFr m.k||zvb m.fs m.fb) &&
  (decide (m.k=4)||decide (m.key=[]))&&decide (0≤m.a∧m.a≤4294967295)&&(!nFr m.k||someA m.fs m.fb)&&(!nAd m.k||zmG m.ss m.sb m.gs m.gb (decide (m.k=3)))
def zfM (s:Int) (bs:List UInt8):List UInt8:=UInt8.ofNat (8*s.toNat)::zaw s bs
def zdv (m:Mr):List UInt8 :=
 m.key++((if nRd m.k then m.rd else [])++((if nAs m.k then be 4 m.a.toNat else [])++((if nAd m.k then zfM m.ss m.sb++zfM m.gs m.gb else [])++(if nFr m.k then zaw m.fs m.fb else []))))
def zaC (m:Mr):List UInt8:=UInt8.ofNat m.k.toNat::UInt8.ofNat (zdv m).length::zdv m
def decA:List UInt8→Option ((Int × List UInt8) × List UInt8)
 | []=>none
 | x::r=>if x.toNat%8=0∧zc0 ((x.toNat/8:Nat):Int)=true∧x.toNat/8≤r.length then some ((ofS (r.take (x.toNat/8)),ofB (r.take (x.toNat/8))),r.drop (x.toNat/8)) else none
def keyN (b:List UInt8):Nat:=2+(b.getD 1 0).toNat
def zjc (k:Int) (b:List UInt8):Option (List UInt8 × List UInt8) :=
 if k=4 then (if 2≤b.length∧keyN b≤b.length then some (b.take (keyN b),b.drop (keyN b)) else none) else some ([],b)
def zob (k:Int) (b:List UInt8):Option (List UInt8 × List UInt8):=if nRd k then (if 8≤b.length then some (b.take 8,b.drop 8) else none) else some (zda,b)
def zod (k:Int) (b:List UInt8):Option (Int × List UInt8):=if nAs k then (if 4≤b.length then some ((big (b.take 4):Nat),b.drop 4) else none) else some (0,b)
def zoe (k:Int) (b:List UInt8):Option (((Int × List UInt8) × (Int × List UInt8)) × List UInt8) :=
 if nAd k then (decA b).bind fun p=>(decA p.2).map fun q=>((p.1,q.1),q.2) else some (((0,zat),(0,zat)),b)
def zoc (k:Int) (b:List UInt8):Option (Int × List UInt8):=if nFr k then (if zc0 (b.length:Nat)=true then some (ofS b,ofB b) else none) else if b=[] then some (0,zat) else none
def decM (k:Int) (b:List UInt8):Option Mr :=
 (zjc k b).bind fun p=>(zob k p.2).bind fun q=>(zod k q.2).bind fun s=>(zoe k s.2).bind fun t=>(zoc k t.2).map fun f =>
  ⟨k,q.1,s.1,t.1.1.1,t.1.1.2,t.1.2.1,t.1.2.2,f.1,f.2,p.1⟩
theorem zbS {s:Int} {bs:List UInt8} (h:zaz s bs=true):s=0∨s=4∨s=16:=by
 unfold zaz at h
 rw [Bool.and_eq_true] at h
 exact of_decide_eq_true h.1
theorem zdK {s:Int} {bs:List UInt8} (hl:bs.length=16) (h:zaz s bs=true):(zaw s bs).length=s.toNat:=by
 unfold zaw
 rw [if_pos h,List.length_take,hl]
 rcases zbS h with h | h | h <;> subst h <;> rfl
theorem zo9 {s:Int} {bs:List UInt8} (hl:bs.length=16) (h:zaz s bs=true):ofS (zaw s bs)=s∧ofB (zaw s bs)=bs:=by
 have hn:=zdK hl h
 have hs:=zbS h
 have hz:zc0 (((zaw s bs).length:Nat):Int)=true:=by rw [hn];rcases hs with h | h | h <;> subst h <;> rfl
 have hd:∀ x∈bs.drop s.toNat,x=0:=by
  unfold zaz at h
  rw [Bool.and_eq_true] at h
  simpa using h.2
 refine ⟨?_,?_⟩
 ·unfold ofS
  rw [if_pos hz,hn]
  rcases hs with h | h | h <;> subst h <;> rfl
 ·unfold ofB
  rw [if_pos hz]
  unfold pad
  rw [hn]
  have e:zaw s bs=bs.take s.toNat:=by unfold zaw;rw [if_pos h]
  have e2:bs.drop s.toNat=List.replicate (16-s.toNat) 0:=List.eq_replicate_iff.2 ⟨by rw [List.length_drop,hl],hd⟩
  rw [e,← e2,List.take_append_drop]
theorem zmX {s:Int} {bs:List UInt8} (hl:bs.length=16) (h:zaz s bs=true) (r:List UInt8):decA (zfM s bs++r)=some ((s,bs),r):=by
 have hn:=zdK hl h
 obtain ⟨o1,o2⟩:=zo9 hl h
 have hs:=zbS h
 have hx:(UInt8.ofNat (8*s.toNat)).toNat=8*s.toNat:=by rcases hs with h | h | h <;> subst h <;> rfl
 have h8:8*s.toNat/8=s.toNat:=by omega
 have e:zfM s bs++r=UInt8.ofNat (8*s.toNat)::(zaw s bs++r):=rfl
 rw [e,decA,hx,h8]
 have ht:(zaw s bs++r).take s.toNat=zaw s bs:=by rw [← hn,List.take_append_of_le_length (Nat.le_refl _),List.take_length]
 have hd:(zaw s bs++r).drop s.toNat=r:=by rw [← hn,List.drop_append_of_le_length (Nat.le_refl _),List.drop_length];rfl
 rw [ht,hd,o1,o2,if_pos ⟨by omega,by rcases hs with h | h | h <;> subst h <;> rfl,by rw [List.length_append,hn];omega⟩]
structure zgC (m:Mr):Prop where
 k1:1≤m.k
 k7:m.k≤7
 rd:nRd m.k=false→m.rd=zda
 as0:nAs m.k=false→m.a=0
 src:nAd m.k=false→m.ss=0∧m.sb=zat
 grp:nAd m.k=false→m.gs=0∧m.gb=zat
 fr0:nFr m.k=false→m.fs=0∧m.fb=zat
 key:m.k≠4→m.key=[]
 a0:0≤m.a
 a32:m.a≤4294967295
 fr:nFr m.k=true→zaz m.fs m.fb=true∧0<m.fs
 fl:nAd m.k=true→zmG m.ss m.sb m.gs m.gb (decide (m.k=3))=true
theorem zgU (m:Mr):zoS m=true↔zgC m:=by
 unfold zoS someA zvb
 simp only [Bool.and_eq_true,Bool.or_eq_true,decide_eq_true_eq,Bool.not_eq_true']
 constructor
 ·rintro ⟨⟨⟨⟨⟨⟨⟨⟨h1,h2⟩,h3⟩,h4⟩,h5⟩,h6⟩,h7⟩,h8⟩,h9⟩
  exact ⟨h1.1,h1.2,fun e=>h2.resolve_left (by rw [e];decide),fun e=>h3.resolve_left (by rw [e];decide),fun e=>(h4.resolve_left (by rw [e];decide)).1,fun e=>(h4.resolve_left (by rw [e];decide)).2,
   fun e=>h5.resolve_left (by rw [e];decide),fun e=>h6.resolve_left e,h7.1,h7.2,fun e=>h8.resolve_left (by rw [e];decide),fun e=>h9.resolve_left (by rw [e];decide)⟩
 ·rintro ⟨k1,k7,rd,as0,src,grp,fr0,key,a0,a32,fr,fl⟩
  refine ⟨⟨⟨⟨⟨⟨⟨⟨⟨k1,k7⟩,?_⟩,?_⟩,?_⟩,?_⟩,?_⟩,⟨a0,a32⟩⟩,?_⟩,?_⟩
  ·cases h:nRd m.k with
   | true=>exact .inl rfl
   | false=>exact .inr (rd h)
  ·cases h:nAs m.k with
   | true=>exact .inl rfl
   | false=>exact .inr (as0 h)
  ·cases h:nAd m.k with
   | true=>exact .inl rfl
   | false=>exact .inr ⟨src h,grp h⟩
  ·cases h:nFr m.k with
   | true=>exact .inl rfl
   | false=>exact .inr (fr0 h)
  ·by_cases h:m.k=4
   ·exact .inl h
   ·exact .inr (key h)
  ·cases h:nFr m.k with
   | true=>exact .inr (fr h)
   | false=>exact .inl rfl
  ·cases h:nAd m.k with
   | true=>exact .inr (fl h)
   | false=>exact .inl rfl
theorem zec {ss gs:Int} {sb gb:List UInt8} {wild:Bool} (h:zmG ss sb gs gb wild=true):zaz ss sb=true∧zaz gs gb=true:=by
 unfold zmG at h
 simp only [Bool.and_eq_true] at h
 exact ⟨h.1.1.1.1,h.1.1.1.2⟩
theorem zpl {m:Mr} (w:m.W) (h:zgC m) (hk:m.k=4→2≤m.key.length∧m.key.length=keyN m.key):decM m.k (zdv m)=some m:=by
 obtain ⟨k,rd,a,ss,sb,gs,gb,fs,fb,key⟩:=m
 obtain ⟨w1,w2,w3,w4⟩:=w
 simp only at w1 w2 w3 w4 hk
 have e1:∀ r,zjc k (key++r)=some (key,r):=fun r=>by
  unfold zjc
  by_cases h4:k=4
  ·obtain ⟨g1,g2⟩:=hk h4
   have hkn:keyN (key++r)=key.length:=by
    unfold keyN at g2 ⊢
    rw [List.getD_eq_getElem?_getD,List.getElem?_append_left (by omega),← List.getD_eq_getElem?_getD,← g2]
   rw [if_pos h4,hkn,if_pos ⟨by simp;omega,by simp⟩,List.take_append_of_le_length (Nat.le_refl _),List.take_length,List.drop_append_of_le_length (Nat.le_refl _),List.drop_length]
   rfl
  ·have:=h.key h4
   simp only at this
   subst this
   rw [if_neg h4];rfl
 have e2:∀ r,zob k ((if nRd k then rd else [])++r)=some (rd,r):=fun r=>by
  unfold zob
  cases hn:nRd k with
  | true =>
   simp only [if_true]
   rw [if_pos (by simp [w1]),List.take_append_of_le_length (by omega),List.take_of_length_le (by omega),List.drop_append_of_le_length (by omega),List.drop_of_length_le (by omega)]
   rfl
  | false =>
   have:=h.rd hn
   simp only at this
   subst this
   rfl
 have e3:∀ r,zod k ((if nAs k then be 4 a.toNat else [])++r)=some (a,r):=fun r=>by
  unfold zod
  cases hn:nAs k with
  | true =>
   have a0:=h.a0
   have a32:=h.a32
   simp only at a0 a32
   have hb:(be 4 a.toNat).length=4:=zcl 4 _
   have hv:=zwt 4 a.toNat (by have:(256:Nat)^4=4294967296:=(by decide);omega)
   simp only [if_true]
   rw [if_pos (by simp [hb]),List.take_append_of_le_length (by omega),List.take_of_length_le (by omega),List.drop_append_of_le_length (by omega),List.drop_of_length_le (by omega),hv,Int.toNat_of_nonneg a0]
   rfl
  | false =>
   have:=h.as0 hn
   simp only at this
   subst this
   rfl
 have e4:∀ r,zoe k ((if nAd k then zfM ss sb++zfM gs gb else [])++r)=some (((ss,sb),(gs,gb)),r):=fun r=>by
  unfold zoe
  cases hn:nAd k with
  | true =>
   obtain ⟨r1,r2⟩:=zec (h.fl hn)
   simp only at r1 r2
   simp only [if_true]
   rw [List.append_assoc,zmX w2 r1,Option.bind_some,zmX w3 r2]
   rfl
  | false =>
   obtain ⟨s1,s2⟩:=h.src hn
   obtain ⟨g1,g2⟩:=h.grp hn
   simp only at s1 s2 g1 g2
   subst s1 s2 g1 g2
   rfl
 have e5:zoc k (if nFr k then zaw fs fb else [])=some (fs,fb):=by
  unfold zoc
  cases hn:nFr k with
  | true =>
   obtain ⟨r1,r2⟩:=h.fr hn
   simp only at r1 r2
   obtain ⟨o1,o2⟩:=zo9 w4 r1
   have hz:=zdK w4 r1
   simp only [if_true]
   rw [if_pos (by rw [hz];rcases zbS r1 with h | h | h <;> subst h <;> rfl),o1,o2]
  | false =>
   obtain ⟨s1,s2⟩:=h.fr0 hn
   simp only at s1 s2
   subst s1 s2
   rfl
 unfold decM zdv
 simp only
 rw [e1,Option.bind_some,e2,Option.bind_some,e3,Option.bind_some,e4,Option.bind_some,e5]
 rfl
theorem zkY (x:List UInt8) (h:zc0 ((x.length:Nat):Int)=true):zaz (ofS x) (ofB x)=true∧(ofB x).length=16∧zaw (ofS x) (ofB x)=x:=by
 have hs:ofS x=(x.length:Nat)∧ofB x=pad x:=by unfold ofS ofB;rw [if_pos h,if_pos h];exact ⟨rfl,rfl⟩
 have hn:x.length=0∨x.length=4∨x.length=16:=by
  have:=of_decide_eq_true h
  omega
 have hp:(pad x).length=16:=by unfold pad;simp;omega
 have hr:zaz (x.length:Nat) (pad x)=true:=by
  unfold zaz
  rw [h,Bool.true_and]
  simp only [Int.toNat_natCast,List.all_eq_true,beq_iff_eq]
  intro y hy
  unfold pad at hy
  rw [List.drop_append_of_le_length (Nat.le_refl _),List.drop_length,List.nil_append] at hy
  exact (List.mem_replicate.1 hy).2
 rw [hs.1,hs.2]
 refine ⟨hr,hp,?_⟩
 unfold zaw
 rw [if_pos hr,Int.toNat_natCast]
 unfold pad
 rw [List.take_append_of_le_length (Nat.le_refl _),List.take_length]
theorem zkl {b r:List UInt8} {p:Int × List UInt8} (h:decA b=some (p,r)):zaz p.1 p.2=true∧p.2.length=16∧zfM p.1 p.2++r=b:=by
 cases b with
 | nil=>cases h
 | cons x y =>
  rw [decA] at h
  split at h
  ·rename_i hc
   obtain ⟨h1,h2,h3⟩:=hc
   have hl:(y.take (x.toNat/8)).length=x.toNat/8:=by rw [List.length_take];omega
   obtain ⟨o1,o2,o3⟩:=zkY (y.take (x.toNat/8)) (by rw [hl];exact h2)
   injection h with h
   obtain ⟨rfl,rfl⟩:=Prod.mk.inj h
   refine ⟨o1,o2,?_⟩
   unfold zfM
   rw [o3]
   have hs:ofS (y.take (x.toNat/8))=((x.toNat/8:Nat):Int):=by unfold ofS;rw [hl,if_pos h2]
   rw [hs,Int.toNat_natCast]
   have hx:UInt8.ofNat (8*(x.toNat/8))=x:=by
    apply UInt8.toNat_inj.1
    have:=x.toNat_lt
    simp;omega
   rw [hx,List.cons_append,List.take_append_drop]
  ·cases h
theorem zpo {k:Int} {b:List UInt8} {m:Mr} (h:decM k b=some m):m.k=k∧zdv m=b∧m.W:=by
 unfold decM at h
 cases e1:zjc k b with
 | none=>rw [e1] at h;cases h
 | some p =>
  obtain ⟨key,b1⟩:=p
  rw [e1,Option.bind_some] at h
  simp only at h
  cases e2:zob k b1 with
  | none=>rw [e2] at h;cases h
  | some q =>
   obtain ⟨rd,b2⟩:=q
   rw [e2,Option.bind_some] at h
   simp only at h
   cases e3:zod k b2 with
   | none=>rw [e3] at h;cases h
   | some q =>
    obtain ⟨a,b3⟩:=q
    rw [e3,Option.bind_some] at h
    simp only at h
    cases e4:zoe k b3 with
    | none=>rw [e4] at h;cases h
    | some q =>
     obtain ⟨⟨⟨ss,sb⟩,gs,gb⟩,b4⟩:=q
     rw [e4,Option.bind_some] at h
     simp only at h
     cases e5:zoc k b4 with
     | none=>rw [e5] at h;cases h
     | some q =>
      obtain ⟨fs,fb⟩:=q
      rw [e5,Option.map_some] at h
      injection h with h
      subst h
      have f1:key++b1=b:=by
       unfold zjc at e1
       split at e1
       ·split at e1
        ·injection e1 with e1
         obtain ⟨rfl,rfl⟩:=Prod.mk.inj e1
         exact List.take_append_drop _ _
        ·cases e1
       ·injection e1 with e1
        obtain ⟨rfl,rfl⟩:=Prod.mk.inj e1
        rfl
      have f2:(if nRd k then rd else [])++b2=b1∧rd.length=8:=by
       unfold zob at e2
       cases hn:nRd k with
       | true =>
        rw [hn] at e2
        simp only [if_true] at e2
        split at e2
        ·injection e2 with e2
         obtain ⟨rfl,rfl⟩:=Prod.mk.inj e2
         exact ⟨List.take_append_drop _ _,by rw [List.length_take];omega⟩
        ·cases e2
       | false =>
        rw [hn] at e2
        simp only [Bool.false_eq_true,if_false] at e2
        injection e2 with e2
        obtain ⟨rfl,rfl⟩:=Prod.mk.inj e2
        exact ⟨rfl,rfl⟩
      have f3:(if nAs k then be 4 a.toNat else [])++b3=b2:=by
       unfold zod at e3
       cases hn:nAs k with
       | true =>
        rw [hn] at e3
        simp only [if_true] at e3
        split at e3
        ·injection e3 with e3
         obtain ⟨rfl,rfl⟩:=Prod.mk.inj e3
         simp only [if_true,Int.toNat_natCast]
         rw [ztO (by rw [List.length_take];omega),List.take_append_drop]
        ·cases e3
       | false =>
        rw [hn] at e3
        simp only [Bool.false_eq_true,if_false] at e3
        injection e3 with e3
        obtain ⟨rfl,rfl⟩:=Prod.mk.inj e3
        rfl
      have f4:(if nAd k then zfM ss sb++zfM gs gb else [])++b4=b3∧sb.length=16∧gb.length=16:=by
       unfold zoe at e4
       cases hn:nAd k with
       | true =>
        rw [hn] at e4
        simp only [if_true] at e4
        cases g1:decA b3 with
        | none=>rw [g1] at e4;cases e4
        | some p =>
         obtain ⟨p1,r1⟩:=p
         rw [g1,Option.bind_some] at e4
         simp only at e4
         cases g2:decA r1 with
         | none=>rw [g2] at e4;cases e4
         | some q =>
          obtain ⟨q1,r2⟩:=q
          rw [g2,Option.map_some] at e4
          injection e4 with e4
          simp only [Prod.mk.injEq] at e4
          obtain ⟨⟨rfl,rfl⟩,rfl⟩:=e4
          obtain ⟨_,l1,w1⟩:=zkl g1
          obtain ⟨_,l2,w2⟩:=zkl g2
          simp only [if_true]
          exact ⟨by rw [List.append_assoc,w2,w1],l1,l2⟩
       | false =>
        rw [hn] at e4
        simp only [Bool.false_eq_true,if_false] at e4
        injection e4 with e4
        simp only [Prod.mk.injEq] at e4
        obtain ⟨⟨⟨rfl,rfl⟩,rfl,rfl⟩,rfl⟩:=e4
        exact ⟨rfl,rfl,rfl⟩
      have f5:(if nFr k then zaw fs fb else [])=b4∧fb.length=16:=by
       unfold zoc at e5
       cases hn:nFr k with
       | true =>
        rw [hn] at e5
        simp only [if_true] at e5
        split at e5
        ·rename_i hz
         injection e5 with e5
         obtain ⟨rfl,rfl⟩:=Prod.mk.inj e5
         obtain ⟨_,o2,o3⟩:=zkY b4 hz
         simp only [if_true]
         exact ⟨o3,o2⟩
        ·cases e5
       | false =>
        rw [hn] at e5
        simp only [Bool.false_eq_true,if_false] at e5
        split at e5
        ·rename_i hz
         injection e5 with e5
         obtain ⟨rfl,rfl⟩:=Prod.mk.inj e5
         exact ⟨by rw [hz];rfl,rfl⟩
        ·cases e5
      refine ⟨rfl,?_,f2.2,f4.2.1,f4.2.2,f5.2⟩
      unfold zdv
      simp only
      rw [f5.1,f4.1,f3,f2.1,f1]
def zhl (m:Mr) (size:Int):Bool:=decide ((m.ss=0∨m.ss=size)∧(m.gs=0∨m.gs=size))
def keyR (size:Int):List UInt8→Bool
 | x::y::b=>decide (x.toNat=2∨x.toNat=3)&&decide (b.length=y.toNat)&&(match decM (x.toNat:Nat) b with | some m=>zoS m&&zhl m size | none=>false)
 | _=>false
def keyM (key:List UInt8):Bool:=keyR 4 key||keyR 16 key
def zbf (m:Mr):Bool:=zoS m&&(!decide (m.k=4)||keyM m.key)
def zhk (m:Mr) (size:Int):Bool:=if m.k=4 then keyR size m.key else zhl m size
theorem zcU (s:Int) {bs:List UInt8} (hl:bs.length=16):(zaw s bs).length≤16:=by
 unfold zaw
 split
 ·rw [List.length_take];omega
 ·simp
theorem zlu {m:Mr} (w:m.W):(zdv m).length≤m.key.length+62:=by
 have h1:=zcU m.ss w.sb
 have h2:=zcU m.gs w.gb
 have h3:=zcU m.fs w.fb
 have h4:=w.rd
 unfold zdv
 cases nRd m.k <;> cases nAs m.k <;> cases nAd m.k <;> cases nFr m.k <;> simp [zfM,zcl] <;> omega
theorem zbj {n:Nat} (h:n<256):(UInt8.ofNat n).toNat=n:=by simp;omega
theorem zb9 (x:UInt8):UInt8.ofNat x.toNat=x:=by
 apply UInt8.toNat_inj.1
 have:=x.toNat_lt
 simp
theorem zla (size:Int) (key:List UInt8):keyR size key=true↔∃ m:Mr,m.W∧zgC m∧(m.k=2∨m.k=3)∧zhl m size=true∧zaC m=key:=by
 constructor
 ·intro h
  match key,h with
  | x::y::b,h =>
   unfold keyR at h
   simp only [Bool.and_eq_true,decide_eq_true_eq] at h
   obtain ⟨⟨hx,hy⟩,h⟩:=h
   cases hd:decM (x.toNat:Nat) b with
   | none=>rw [hd] at h;cases h
   | some m =>
    rw [hd] at h
    simp only [Bool.and_eq_true] at h
    obtain ⟨hk,hb,hw⟩:=zpo hd
    refine ⟨m,hw,(zgU m).1 h.1,by rw [hk];omega,h.2,?_⟩
    unfold zaC
    rw [hk,hb,hy,Int.toNat_natCast,zb9,zb9]
 ·rintro ⟨m,hw,hr,hk,hs,rfl⟩
  have hkey:=hr.key (by omega)
  have hl:=zlu hw
  rw [hkey] at hl
  simp only [List.length_nil,Nat.zero_add] at hl
  have hkn:(UInt8.ofNat m.k.toNat).toNat=m.k.toNat:=zbj (by omega)
  unfold zaC
  rw [keyR,hkn,zbj (by omega)]
  have hc:((m.k.toNat:Nat):Int)=m.k:=by omega
  rw [hc,zpl hw hr (by omega)]
  simp only [(zgU m).2 hr,hs,Bool.and_true,Bool.and_eq_true,decide_eq_true_eq]
  exact ⟨by omega,trivial⟩
theorem znt {m:Mr} (hr:zgC m) (hk:m.k=2∨m.k=3):zhl m 4=true∨zhl m 16=true:=by
 unfold zhl
 simp only [decide_eq_true_eq]
 rcases hk with hk | hk
 ·have h1:=(hr.src (by rw [hk];rfl)).1
  have h2:=(hr.grp (by rw [hk];rfl)).1
  exact .inl ⟨.inl h1,.inl h2⟩
 ·have hf:=hr.fl (by rw [hk];rfl)
  obtain ⟨r1,r2⟩:=zec hf
  unfold zmG at hf
  simp only [Bool.and_eq_true,Bool.or_eq_true,decide_eq_true_eq] at hf
  have h3:=hf.2
  rcases zbS r1 with a | a | a <;> rcases zbS r2 with b | b | b <;> rw [a,b] at h3 ⊢ <;> simp at h3 ⊢
theorem zh1 (key:List UInt8):keyM key=true↔∃ m:Mr,m.W∧zgC m∧(m.k=2∨m.k=3)∧zaC m=key:=by
 unfold keyM
 rw [Bool.or_eq_true,zla,zla]
 constructor
 ·rintro (⟨m,h1,h2,h3,_,h5⟩ | ⟨m,h1,h2,h3,_,h5⟩) <;> exact ⟨m,h1,h2,h3,h5⟩
 ·rintro ⟨m,h1,h2,h3,h5⟩
  rcases znt h2 h3 with h | h
  ·exact .inl ⟨m,h1,h2,h3,h,h5⟩
  ·exact .inr ⟨m,h1,h2,h3,h,h5⟩
structure zcz (m:Mr):Prop where
 core:zgC m
 key:m.k=4→keyM m.key=true
theorem zbs (m:Mr):zbf m=true↔zcz m:=by
 unfold zbf
 rw [Bool.and_eq_true,Bool.or_eq_true,zgU,Bool.not_eq_true',decide_eq_false_iff_not]
 exact ⟨fun h=>⟨h.1,fun e=>h.2.resolve_left (fun n=>n e)⟩,fun h=>⟨h.core,(Decidable.em (m.k=4)).symm.imp id h.key⟩⟩
theorem zk9 {key:List UInt8} (h:keyM key=true):2≤key.length∧key.length=keyN key∧key.length≤64:=by
 obtain ⟨m,hw,hr,hk,rfl⟩:=(zh1 key).1 h
 have hl:=zlu hw
 rw [hr.key (by omega)] at hl
 simp only [List.length_nil,Nat.zero_add] at hl
 unfold zaC keyN
 simp only [List.length_cons,List.getD_cons_succ,List.getD_cons_zero]
 rw [zbj (by omega)]
 omega
theorem zgw {m:Mr} (w:m.W) (h:zcz m):decM m.k (zdv m)=some m :=
 zpl w h.core (fun e=>by have:=zk9 (h.key e);exact ⟨this.1,this.2.1⟩)
theorem zjg {m:Mr} (w:m.W) (h:zcz m):(zdv m).length≤108:=by
 have hl:=zlu w
 by_cases e:m.k=4
 ·have h1:=zk9 (h.key e)
  have h2:=zcU m.fs w.fb
  unfold zdv
  rw [e,show nRd 4=false from rfl,show nAs 4=false from rfl,show nAd 4=false from rfl,show nFr 4=true from rfl]
  simp
  omega
 ·rw [h.core.key e] at hl;simp at hl;omega
theorem zqY {m o:Mr} (w:m.W) (w':o.W) (h:zcz m) (h':zcz o) (e:zaC m=zaC o):m=o:=by
 unfold zaC at e
 injection e with e1 e2
 injection e2 with _ e2
 have hk:m.k=o.k:=by
  have h1:=congrArg UInt8.toNat e1
  have a1:=h.core.k1
  have a7:=h.core.k7
  have b1:=h'.core.k1
  have b7:=h'.core.k7
  rw [zbj (by omega),zbj (by omega)] at h1
  omega
 have d1:=zgw w h
 have d2:=zgw w' h'
 rw [e2,hk,d2] at d1
 injection d1 with d1
 exact d1.symm
def zlU (size:Int):List UInt8→Option Mr
 | x::y::r=>(decM (x.toNat:Nat) (r.take y.toNat)).filter (fun m=>zbf m&&zhk m size)
 | _=>none
def zfw (b:List UInt8):Prop:=b.length<2∨b.length-2<(b.getD 1 0).toNat
instance (b:List UInt8):Decidable (zfw b):=inferInstanceAs (Decidable (_∨_))
def zbG (b:List UInt8) (size:Int):Int:=if ¬ (size=4∨size=16) then 1 else if zfw b then 3 else if (zlU size b).isSome then 0 else 4
def mr0:Mr:=⟨0,zda,0,0,zat,0,zat,0,zat,[]⟩
def zcL (b:List UInt8) (size:Int):Mr:=if zbG b size=0 then (zlU size b).getD mr0 else mr0
def zbB (b:List UInt8) (size:Int):Nat:=if zbG b size=0 then keyN b else 0
theorem zrA {b:List UInt8} {size:Int} {m:Mr} (h:zlU size b=some m) (hs:¬ zfw b):m.W∧zcz m∧zhk m size=true∧zaC m=b.take (keyN b):=by
 match b,h with
 | x::y::r,h =>
  unfold zlU at h
  rw [Option.filter_eq_some_iff] at h
  obtain ⟨hd,hp⟩:=h
  rw [Bool.and_eq_true] at hp
  obtain ⟨hk,hb,hw⟩:=zpo hd
  refine ⟨hw,(zbs m).1 hp.1,hp.2,?_⟩
  have hl:(r.take y.toNat).length=y.toNat:=by
   unfold zfw at hs
   simp only [List.length_cons,List.getD_cons_succ,List.getD_cons_zero,not_or] at hs
   rw [List.length_take];omega
  unfold zaC keyN
  rw [hb,hk,hl,Int.toNat_natCast,zb9,zb9]
  simp only [List.getD_cons_succ,List.getD_cons_zero]
  rw [Nat.add_comm];rfl
theorem zgP {m:Mr} (w:m.W) (h:zcz m) {size:Int} (hs:zhk m size=true) (r:List UInt8):zlU size (zaC m++r)=some m∧¬ zfw (zaC m++r)∧keyN (zaC m++r)=(zaC m).length:=by
 have hl:=zjg w h
 have e:zaC m++r=UInt8.ofNat m.k.toNat::UInt8.ofNat (zdv m).length::(zdv m++r):=rfl
 have a1:=h.core.k1
 have a7:=h.core.k7
 have hc:((m.k.toNat:Nat):Int)=m.k:=by omega
 rw [e]
 refine ⟨?_,?_,?_⟩
 ·rw [zlU,zbj (n:=m.k.toNat) (by omega),zbj (n:=(zdv m).length) (by omega),hc,List.take_append_of_le_length (Nat.le_refl _),List.take_length,zgw w h,Option.filter_some,(zbs m).2 h,hs]
  rfl
 ·unfold zfw
  simp only [List.length_cons,List.getD_cons_succ,List.getD_cons_zero,List.length_append]
  rw [zbj (by omega)]
  omega
 ·unfold keyN zaC
  simp only [List.length_cons,List.getD_cons_succ,List.getD_cons_zero]
  rw [zbj (by omega)]
  omega
theorem zek {b:List UInt8} {size:Int} (hz:size=4∨size=16) {m:Mr}:(zbG b size=0∧zcL b size=m)↔(¬ zfw b∧m.W∧zcz m∧zhk m size=true∧zaC m=b.take (keyN b)):=by
 constructor
 ·rintro ⟨h1,h2⟩
  unfold zcL at h2
  rw [if_pos h1] at h2
  unfold zbG at h1
  rw [if_neg (fun n=>n hz)] at h1
  split at h1
  ·cases h1
  ·rename_i hs
   split at h1
   ·rename_i hg
    cases ht:zlU size b with
    | none=>rw [ht] at hg;cases hg
    | some x =>
     rw [ht] at h2
     simp only [Option.getD_some] at h2
     subst h2
     exact ⟨hs,zrA ht hs⟩
   ·cases h1
 ·rintro ⟨hs,hw,hr,hz2,hb⟩
  have hg:zlU size b=some m:=by
   have h1:=(zgP hw hr hz2 (b.drop (keyN b))).1
   rwa [hb,List.take_append_drop] at h1
  have he:zbG b size=0:=by
   unfold zbG
   rw [if_neg (fun n=>n hz),if_neg hs,hg]
   rfl
  exact ⟨he,by unfold zcL;rw [if_pos he,hg];rfl⟩
end
section
open Go.RowKit
section
variable {ops:Array Oper} {rest:List Oper} {o:Oper} {a:Act} {w:World} {Q:Exit→Act→World→Prop}
end
theorem zht (bs:List UInt8):(bvs bs).toArray=rdC bs:=rfl
end
section
open Go.RowKit
def mroL (m:Mr):List Value :=
 [.int .i64 m.k]++(bvs m.rd++([.int .i64 m.a]++((.int .i64 m.ss::bvs m.sb)++((.int .i64 m.gs::bvs m.gb)++((.int .i64 m.fs::bvs m.fb)++[.string ⟨m.key.toArray⟩])))))
def mroC (m:Mr):Array Value:=(mroL m).toArray
section
variable {m:Mr}
theorem zbe (w:m.W):(mroC m).size=62:=by simp [mroC,mroL,bvs,w.rd,w.sb,w.gb,w.fb]
theorem zhu:∃ p r,mroL m=p++(bvs m.rd++r)∧p.length=1:=⟨[.int .i64 m.k],_,rfl,rfl⟩
theorem znW (w:m.W):∃ p r,mroL m=p++([.int .i64 m.a]++r)∧p.length=9:=⟨[.int .i64 m.k]++bvs m.rd,_,by simp only [mroL,List.append_assoc];rfl,by simp [bvs,w.rd]⟩
theorem ziW (w:m.W):∃ p r,mroL m=p++((.int .i64 m.ss::bvs m.sb)++r)∧p.length=10 :=
 ⟨[.int .i64 m.k]++(bvs m.rd++[.int .i64 m.a]),_,by simp only [mroL,List.append_assoc];rfl,by simp [bvs,w.rd]⟩
theorem ziX (w:m.W):∃ p r,mroL m=p++((.int .i64 m.gs::bvs m.gb)++r)∧p.length=27 :=
 ⟨[.int .i64 m.k]++(bvs m.rd++([.int .i64 m.a]++(.int .i64 m.ss::bvs m.sb))),_,by simp only [mroL,List.append_assoc];rfl,by simp [bvs,w.rd,w.sb]⟩
theorem ziY (w:m.W):∃ p r,mroL m=p++((.int .i64 m.fs::bvs m.fb)++r)∧p.length=44 :=
 ⟨[.int .i64 m.k]++(bvs m.rd++([.int .i64 m.a]++((.int .i64 m.ss::bvs m.sb)++(.int .i64 m.gs::bvs m.gb)))),_,by simp only [mroL,List.append_assoc];rfl,by simp [bvs,w.rd,w.sb,w.gb]⟩
theorem znV (w:m.W):∃ p r,mroL m=p++([.string ⟨m.key.toArray⟩]++r)∧p.length=61 :=
 ⟨[.int .i64 m.k]++(bvs m.rd++([.int .i64 m.a]++((.int .i64 m.ss::bvs m.sb)++((.int .i64 m.gs::bvs m.gb)++(.int .i64 m.fs::bvs m.fb))))),[],by simp only [mroL,List.append_assoc,List.append_nil],by simp [bvs,w.rd,w.sb,w.gb,w.fb]⟩
theorem zeW:(mroC m)[0]?=some (.int .i64 m.k):=rfl
theorem zwo (w:m.W):(mroC m)[9]?=some (.int .i64 m.a):=by
 obtain ⟨p,r,h,hp⟩:=znW w
 exact (List.getElem?_toArray).trans (zhv (j:=0) h hp rfl)
theorem zk1 (w:m.W):(mroC m)[61]?=some (.string ⟨m.key.toArray⟩):=by
 obtain ⟨p,r,h,hp⟩:=znV w
 exact (List.getElem?_toArray).trans (zhv (j:=0) h hp rfl)
theorem zsX:(mroC m).all (·.oneCell')=true:=by
 rw [Array.all_eq_true_iff_forall_mem]
 intro u hu
 simp only [mroC,mroL,List.mem_toArray,List.mem_cons,List.mem_append,List.not_mem_nil,or_false] at hu
 rcases hu with rfl | hu | rfl | (rfl | hu) | (rfl | hu) | (rfl | hu) | rfl
 ·rfl
 ·exact zbI _ u hu
 ·rfl
 ·rfl
 ·exact zbI _ u hu
 ·rfl
 ·exact zbI _ u hu
 ·rfl
 ·exact zbI _ u hu
 ·rfl
theorem zgn {p q r:List Value} {n:Nat} {x:World} {g:Nat} {t:TypeId} (h:Blk x g t (mroC m)) (hs:mroL m=p++(q++r)) (hp:p.length=n):x.rangeAt g n q :=
 fun j u hu=>by
  rw [h.cell]
  exact (List.getElem?_toArray).trans (zhv hs hp hu)
theorem mro_rd (w:m.W) {x:World} {g:Nat} {t:TypeId} (h:Blk x g t (mroC m)):x.rangeAt g 1 (bvs m.rd):=by
 obtain ⟨p,r,hs,hp⟩:=zhu (m:=m)
 exact zgn h hs hp
theorem zxQ (w:m.W) {x:World} {g:Nat} {t:TypeId} (h:Blk x g t (mroC m)):x.rangeAt g 10 (.int .i64 m.ss::bvs m.sb):=by
 obtain ⟨p,r,hs,hp⟩:=ziW w
 exact zgn h hs hp
theorem zxR (w:m.W) {x:World} {g:Nat} {t:TypeId} (h:Blk x g t (mroC m)):x.rangeAt g 27 (.int .i64 m.gs::bvs m.gb):=by
 obtain ⟨p,r,hs,hp⟩:=ziX w
 exact zgn h hs hp
theorem mro_f (w:m.W) {x:World} {g:Nat} {t:TypeId} (h:Blk x g t (mroC m)):x.rangeAt g 44 (.int .i64 m.fs::bvs m.fb):=by
 obtain ⟨p,r,hs,hp⟩:=ziY w
 exact zgn h hs hp
end
section
variable {ops:Array Oper} {rest:List Oper} {o:Oper} {a:Act} {w:World} {Q:Exit→Act→World→Prop} {m:Mr}
theorem zh0 {g:Nat} {t:TypeId} (h:Blk w g t (mroC m)) (hm:m.W):(loadVar 229 ⟨g,0,none⟩).run Tryz.prog w = .ok (.agg (mroC m)) w :=
 run_loadVar_row w g t 229 (mroC m) (0,0) _ h Tryz.underlying229 rfl (by rw [zbe hm];kernel_rfl)
theorem zay (hw:Region.wanted o (yielded ops a.tmps)=true) (x:Operand) (ho:o.op = .load 229 x)
  (g:Nat) (hx:a.eval x = .pointer (some ⟨g,0,none⟩)) {t:TypeId} (h:Blk w g t (mroC m)) (hm:m.W)
  (hk:wpList Tryz.prog ops Q rest (a.put o.dst (.agg (mroC m))) w):wpList Tryz.prog ops Q (o::rest) a w:=by
 unfold wpList
 rw [if_pos hw]
 exact .inl (wp_load_row 229 x ho g hx t (mroC m) (0,0) _ h Tryz.underlying229 rfl (by rw [zbe hm];kernel_rfl) hk)
theorem zet (x:Operand) (ho:o.op = .load 229 x)
  (g:Nat) (hx:a.eval x = .pointer (some ⟨g,0,none⟩)) {t:TypeId} (h:Blk w g t (mroC m)) (hm:m.W) :
  (execOp a.eval o).run Tryz.prog w = .ok (.value (.agg (mroC m))) w:=by
 unfold execOp
 simp only [ho,hx,Instr.loadAt,Instr.sureAddr,Sem.run_bind,Sem.run_pure,Result.andThen_ok,zh0 h hm]
theorem zar (hgd:o.guard=none) (x y:Operand) (ho:o.op = .store 229 x y)
  (g:Nat) (hx:a.eval x = .pointer (some ⟨g,0,none⟩)) (hy:a.eval y = .agg (mroC m)) (hm:m.W) {t:TypeId} {old:Array Value} (h:Blk w g t old) (hold:old.size=62)
  (hk:∀ w',Blk w' g t (mroC m)→w.grownBy w' (some g)→wpList Tryz.prog ops Q rest (a.put o.dst undef) w'):wpList Tryz.prog ops Q (o::rest) a w :=
 wpList_store_row hgd 229 x y ho g (mroC m) hx hy t old h (by rw [zbe hm];kernel_rfl) (by rw [zbe hm,hold]) zsX (hk _ (h.setRow _) (zav _ _ _))
end
def zgf (m o:Mr):Bool :=
 decide (m.k=o.k)&&(decide (m.rd=o.rd)&&(decide (m.a=o.a)&&(decide (m.ss=o.ss∧m.sb=o.sb)&&(decide (m.gs=o.gs∧m.gb=o.gb)&&(decide (m.fs=o.fs∧m.fb=o.fb)&&(decide (m.key=o.key)&&true))))))
theorem zd5 (m o:Mr):zgf m o=true↔m=o:=by
 unfold zgf
 simp only [Bool.and_eq_true,decide_eq_true_eq,and_true]
 constructor
 ·rintro ⟨h1,h2,h3,⟨h4,h5⟩,⟨h6,h7⟩,⟨h8,h9⟩,h10⟩
  cases m;cases o
  simp_all
 ·rintro rfl
  simp
open Go.RowKit
theorem zhZ {m:Mr} {p q r:List Value} {n k:Nat} (h:mroL m=p++(q++r)) (hp:p.length=n) (hq:q.length=k):(mroC m).extract n (n+k)=q.toArray:=by
 unfold mroC
 rw [List.extract_toArray,List.extract_eq_take_drop,show n+k-n=k by omega,zsY h hp hq]
set_option maxRecDepth 100000 in
set_option maxHeartbeats 400000 in
theorem zwn (w:World) (d:Nat) {m o:Mr} (hm:m.W) (ho:o.W) :
  (Op.equalIn (d+4) 229 (.agg (mroC m)) (.agg (mroC o))).run Tryz.prog w = .ok (zgf m o) w:=by
 have hS:Tryz.prog.underlying 229=some (.struct (Tryz.prog.fieldsOf 229)):=by kernel_rfl
 have hp:Tryz.prog.stoodInHeld 229=false:=by kernel_rfl
 have a3:=Tryz.isAgg3
 have a9:=Tryz.isAgg9
 have a23:=Tryz.isAgg227
 have s23:=Tryz.sizeOf227
 have a26:=Tryz.isAgg40
 have s26:=Tryz.sizeOf40
 have p0:∀ {m:Mr},m.W→(part 3 (mroC m) 0).run Tryz.prog w = .ok (.int .i64 m.k) w:=fun {m} hm=>by
  have:=zeW (m:=m)
  simp [part,a3,this]
 have p1:∀ {m:Mr},m.W→(part 227 (mroC m) 1).run Tryz.prog w = .ok (.agg (rdC m.rd)) w:=fun {m} hm=>by
  obtain ⟨p,r,hs,hl⟩:=zhu (m:=m)
  have:=zhZ (k:=8) hs hl (by rw [za1,hm.rd])
  simp [part,a23,s23,this,zht]
 have p2:∀ {m:Mr},m.W→(part 3 (mroC m) 9).run Tryz.prog w = .ok (.int .i64 m.a) w:=fun {m} hm=>by
  have:=zwo hm
  simp [part,a3,this]
 have p3:∀ {m:Mr},m.W→(part 40 (mroC m) 10).run Tryz.prog w = .ok (.agg (zas m.ss m.sb)) w:=fun {m} hm=>by
  obtain ⟨p,r,hs,hl⟩:=ziW hm
  have:=zhZ (k:=17) hs hl (by simp [bvs,hm.sb])
  simp [part,a26,s26,this,zdY]
 have p4:∀ {m:Mr},m.W→(part 40 (mroC m) 27).run Tryz.prog w = .ok (.agg (zas m.gs m.gb)) w:=fun {m} hm=>by
  obtain ⟨p,r,hs,hl⟩:=ziX hm
  have:=zhZ (k:=17) hs hl (by simp [bvs,hm.gb])
  simp [part,a26,s26,this,zdY]
 have p5:∀ {m:Mr},m.W→(part 40 (mroC m) 44).run Tryz.prog w = .ok (.agg (zas m.fs m.fb)) w:=fun {m} hm=>by
  obtain ⟨p,r,hs,hl⟩:=ziY hm
  have:=zhZ (k:=17) hs hl (by simp [bvs,hm.fb])
  simp [part,a26,s26,this,zdY]
 have p6:∀ {m:Mr},m.W→(part 9 (mroC m) 61).run Tryz.prog w = .ok (.string ⟨m.key.toArray⟩) w:=fun {m} hm=>by
  have:=zk1 hm
  simp [part,a9,this]
 have e0:=(run_equalIn_int (P:=Tryz.prog) w (d+2) 3 .i64 .i64 m.k o.k Tryz.underlying3)
 have e1:=run_equalIn_bytes (P:=Tryz.prog) w (d+1) 227 5 8 Tryz.underlying227 Tryz.underlying5 Tryz.sizeOf5 m.rd o.rd hm.rd ho.rd
 have e2:=(run_equalIn_int (P:=Tryz.prog) w (d+2) 3 .i64 .i64 m.a o.a Tryz.underlying3)
 have e3:=zhc w d m.ss o.ss m.sb o.sb hm.sb ho.sb
 have e4:=zhc w d m.gs o.gs m.gb o.gb hm.gb ho.gb
 have e5:=zhc w d m.fs o.fs m.fb o.fb hm.fb ho.fb
 have e6:=run_equalIn_string (P:=Tryz.prog) w (d+2) 9 ⟨m.key.toArray⟩ ⟨o.key.toArray⟩ Tryz.underlying9
 rw [zjh] at e6
 rw [run_equalIn_agg w (d+3) 229 _ _ hS hp]
 simp only [Program.fieldsOf,Tryz.underlying229]
 have hq:((m.k==o.k)&&((m.rd==o.rd)&&((m.a==o.a)&&(decide (m.ss=o.ss∧m.sb=o.sb)&&(decide (m.gs=o.gs∧m.gb=o.gb)&&(decide (m.fs=o.fs∧m.fb=o.fb)&&(decide (m.key=o.key)&&true)))))))=zgf m o:=by
  unfold zgf
  by_cases h1:m.k=o.k <;> by_cases h2:m.rd=o.rd <;> by_cases h3:m.a=o.a <;> simp [h1,h2,h3]
 rw [← hq]
 refine za4 w (d+3) (of_decide_eq_true (by kernel_rfl)) (p0 hm) (p0 ho) e0 ?_
 refine za4 w (d+3) (of_decide_eq_true (by kernel_rfl)) (p1 hm) (p1 ho) e1 ?_
 refine za4 w (d+3) (of_decide_eq_true (by kernel_rfl)) (p2 hm) (p2 ho) e2 ?_
 refine za4 w (d+3) (of_decide_eq_true (by kernel_rfl)) (p3 hm) (p3 ho) e3 ?_
 refine za4 w (d+3) (of_decide_eq_true (by kernel_rfl)) (p4 hm) (p4 ho) e4 ?_
 refine za4 w (d+3) (of_decide_eq_true (by kernel_rfl)) (p5 hm) (p5 ho) e5 ?_
 refine za4 w (d+3) (of_decide_eq_true (by kernel_rfl)) (p6 hm) (p6 ho) e6 ?_
 exact ze8 w (d+3)
theorem zx5 {m o:Mr} (hm:m.W) (ho:o.W) (w:World):(binOp .eql 229 (.agg (mroC m)) (.agg (mroC o))).run Tryz.prog w = .ok (.bool (zgf m o)) w:=by
 rw [run_eql_struct,zwn w 9996 hm ho]
 rfl
theorem zxK {m o:Mr} (hm:m.W) (ho:o.W) (w:World):(binOp .neq 229 (.agg (mroC m)) (.agg (mroC o))).run Tryz.prog w = .ok (.bool (!zgf m o)) w:=by
 rw [run_neq_struct,zwn w 9996 hm ho]
 rfl
theorem zmU {o:Oper} {a:Act} {w:World} (x y:Operand) (ho:o.op = .binOp .eql 229 x y 229) {m n:Mr} (hx:a.eval x = .agg (mroC m)) (hy:a.eval y = .agg (mroC n)) (hm:m.W) (hn:n.W) :
  (execOp a.eval o).run Tryz.prog w = .ok (.value (.bool (zgf m n))) w:=by
 have hg:Tryz.prog.eqGuardType Tryz.prog.depth 229=false:=by kernel_rfl
 have hg':=run_eqGuard_agg (P:=Tryz.prog) w .eql 229 x y (mroC m) (mroC n) hg
 unfold execOp
 simp only [ho,hx,hy,Sem.run_bind,hg',Result.andThen_ok,zx5 hm hn,Sem.run_pure]
theorem zhx {o:Oper} {a:Act} {w:World} (x y:Operand) (ho:o.op = .binOp .neq 229 x y 229) {m n:Mr} (hx:a.eval x = .agg (mroC m)) (hy:a.eval y = .agg (mroC n)) (hm:m.W) (hn:n.W) :
  (execOp a.eval o).run Tryz.prog w = .ok (.value (.bool (!zgf m n))) w:=by
 have hg:Tryz.prog.eqGuardType Tryz.prog.depth 229=false:=by kernel_rfl
 have hg':=run_eqGuard_agg (P:=Tryz.prog) w .neq 229 x y (mroC m) (mroC n) hg
 unfold execOp
 simp only [ho,hx,hy,Sem.run_bind,hg',Result.andThen_ok,zxK hm hn,Sem.run_pure]
end
end Go.Proofs.YtjindligkhdddaaGreatDoor
