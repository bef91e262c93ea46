/-
  Words for memory and their plain laws: a slice that reads as bytes, a block that is known whole, append of bytes onto a row of the call's own. No condition. Nothing here speaks of the program.
  Small words on what stays below a block. No condition.
  Plain mathematics of layer 1: the number that bytes are, the bytes of a number, the order of rows of bytes. No condition.
  Plain mathematics: the number of the bytes of a number is that number, and the other way round. No condition.
  Plain mathematics of addresses and prefixes: which are right, cutting, and what follows. Nothing here speaks of the program.
  Plain mathematics of prefixes: who has whom. Nothing here speaks of the program.
  Plain mathematics of numbers as texts, and of cutting texts. Nothing here speaks of the program.
  Plain mathematics of addresses as texts: what the program's text is. Nothing here speaks of the program.
  Plain mathematics of cutting prefixes: cut twice is cut once; who has whom. Nothing here speaks of the program.
  Plain mathematics of bits: a list of 16 bytes is its 128 bits; what cutting leaves of them. Nothing here speaks of the program.
  Plain mathematics of reading addresses: what the program makes of a text. Nothing here speaks of the program.
  Plain mathematics: the order of addresses is an order. Nothing here speaks of the program.
-/
import Derived.Below
import Derived.Laws.OwnMore
import Derived.Maps.AppendAt
import Derived.Deep.Draws
import Derived.Deep.QuietTactic
import Derived.Deep.RegionHeld
import Derived.BigQuiet
import Derived.Laws.Rows
import Derived.Laws.BytesArg
import Derived.Laws.CopyOwn
import Derived.WalkKit
import Derived.WalkSpells
import Derived.WalkLawsBesides
import Derived.Handy
import Derived.Lib.Bytealg
import Derived.Lib.Hide
import Derived.Lib.ItoaNum
import Derived.Lib.IndexMore
import Derived.Lib.IndexLaws
import Derived.Lib.Join
set_option linter.unusedVariables false
set_option linter.unusedSimpArgs false
namespace Go.Proofs.YtjindligkhdddaaGreatDoor
section
open Go.RowKit
theorem hide {p:Prop} (h:p):Hid p:=h
abbrev zAtt:Array Value:=#[.int .i64 0,.slice none 0 0,.int .i64 0,.int .i64 0,.int .i64 0,.int .u8 0,.int .u8 0,.int .u8 0,.int .u8 0,.int .u8 0,.int .u8 0,.int .u8 0,.int .u8 0,.int .u8 0,.int .u8 0,.int .u8 0,.int .u8 0,.int .u8 0,.int .u8 0,.int .u8 0,.int .u8 0,.slice none 0 0,.slice none 0 0,.slice none 0 0]
abbrev zMro:Array Value:=#[.int .i64 0,.int .u8 0,.int .u8 0,.int .u8 0,.int .u8 0,.int .u8 0,.int .u8 0,.int .u8 0,.int .u8 0,.int .i64 0,.int .i64 0,.int .u8 0,.int .u8 0,.int .u8 0,.int .u8 0,.int .u8 0,.int .u8 0,.int .u8 0,.int .u8 0,.int .u8 0,.int .u8 0,.int .u8 0,.int .u8 0,.int .u8 0,.int .u8 0,.int .u8 0,.int .u8 0,.int .i64 0,.int .u8 0,.int .u8 0,.int .u8 0,.int .u8 0,.int .u8 0,.int .u8 0,.int .u8 0,.int .u8 0,.int .u8 0,.int .u8 0,.int .u8 0,.int .u8 0,.int .u8 0,.int .u8 0,.int .u8 0,.int .u8 0,.int .i64 0,.int .u8 0,.int .u8 0,.int .u8 0,.int .u8 0,.int .u8 0,.int .u8 0,.int .u8 0,.int .u8 0,.int .u8 0,.int .u8 0,.int .u8 0,.int .u8 0,.int .u8 0,.int .u8 0,.int .u8 0,.int .u8 0,.string ⟨#[]⟩]
abbrev zUro:Array Value:=#[.int .u8 0,.int .u8 0,.int .u8 0,.int .u8 0,.int .u8 0,.int .u8 0,.int .u8 0,.int .u8 0,.int .i64 0,.int .u8 0,.int .u8 0,.int .u8 0,.int .u8 0,.int .u8 0,.int .u8 0,.int .u8 0,.int .u8 0,.int .u8 0,.int .u8 0,.int .u8 0,.int .u8 0,.int .u8 0,.int .u8 0,.int .u8 0,.int .u8 0,.int .i64 0,.int .i64 0]
abbrev zAdr:Array Value:=#[.int .i64 0,.int .u8 0,.int .u8 0,.int .u8 0,.int .u8 0,.int .u8 0,.int .u8 0,.int .u8 0,.int .u8 0,.int .u8 0,.int .u8 0,.int .u8 0,.int .u8 0,.int .u8 0,.int .u8 0,.int .u8 0,.int .u8 0]
abbrev zPre:Array Value:=#[.int .i64 0,.int .u8 0,.int .u8 0,.int .u8 0,.int .u8 0,.int .u8 0,.int .u8 0,.int .u8 0,.int .u8 0,.int .u8 0,.int .u8 0,.int .u8 0,.int .u8 0,.int .u8 0,.int .u8 0,.int .u8 0,.int .u8 0,.int .i64 0]
abbrev zRdg:Array Value:=#[.int .i64 0,.slice none 0 0,.int .i64 0,.int .i64 0,.int .i64 0,.int .u8 0,.int .u8 0,.int .u8 0,.int .u8 0,.int .u8 0,.int .u8 0,.int .u8 0,.int .u8 0,.int .u8 0,.int .u8 0,.int .u8 0,.int .u8 0,.int .u8 0,.int .u8 0,.int .u8 0,.int .u8 0,.slice none 0 0,.slice none 0 0,.slice none 0 0,.slice none 0 0,.map none]
abbrev zTun:Array Value:=#[.bool false,.int .i64 0,.int .i64 0,.int .i64 0,.int .u8 0,.int .u8 0,.int .u8 0,.int .u8 0,.int .u8 0,.int .u8 0,.int .u8 0,.int .u8 0,.int .u8 0,.int .u8 0,.int .u8 0,.int .u8 0,.int .u8 0,.int .u8 0,.int .u8 0,.int .u8 0,.slice none 0 0]
def bv (b:UInt8):Value:=.int .u8 (b.toNat:Int)
def bvs (bs:List UInt8):List Value:=bs.map bv
theorem za1 (bs:List UInt8):(bvs bs).length=bs.length:=by simp [bvs]
theorem zdx (a b:List UInt8):bvs (a++b)=bvs a++bvs b:=by simp [bvs]
theorem zyi {bs:List UInt8} {j:Nat} {u:Value} (h:(bvs bs)[j]?=some u):∃ b,bs[j]?=some b∧u=bv b:=by
 unfold bvs at h
 rw [List.getElem?_map] at h
 cases hb:bs[j]? with
 | none=>rw [hb] at h;cases h
 | some b=>rw [hb] at h;exact ⟨b,rfl,by injection h with h;exact h.symm⟩
theorem zbI (bs:List UInt8):∀ u∈bvs bs,u.oneCell'=true:=by
 intro u hu
 simp only [bvs,List.mem_map] at hu
 obtain ⟨b,_,rfl⟩:=hu
 rfl
theorem zcy (b o j:Nat):(⟨b,o,none⟩:Addr).add j=⟨b,o+j,none⟩:=by
 unfold Addr.add
 split <;> simp_all
def At (w:World) (lo hi:Nat) (A:Option Addr) (n:Nat) (bs:List UInt8):Prop :=
 bs.length=n∧(0<n→∃ b o,A=some ⟨b,o,none⟩∧lo≤b∧b<hi∧∀ j u,bs[j]?=some u→w.cell? ⟨b,o+j,none⟩=some (bv u))
section
variable {w w':World} {lo hi lo' hi' n:Nat} {A:Option Addr} {bs:List UInt8}
theorem At.len (h:At w lo hi A n bs):bs.length=n:=h.1
theorem At.nil (w:World) (lo hi:Nat) (A:Option Addr):At w lo hi A 0 []:=⟨rfl,fun h=>absurd h (by omega)⟩
theorem At.keep (h:At w lo hi A n bs) (hk:∀ p:Addr,lo≤p.block→p.block<hi→w'.cell? p=w.cell? p):At w' lo hi A n bs :=
 ⟨h.1,fun hn=>by
  obtain ⟨b,o,e,h1,h2,hc⟩:=h.2 hn
  exact ⟨b,o,e,h1,h2,fun j u hu=>(hk _ h1 h2).trans (hc j u hu)⟩⟩
theorem At.more (h:At w lo hi A n bs) (hl:lo'≤lo) (hh:hi≤hi'):At w lo' hi' A n bs :=
 ⟨h.1,fun hn=>by
  obtain ⟨b,o,e,h1,h2,hc⟩:=h.2 hn
  exact ⟨b,o,e,by omega,by omega,hc⟩⟩
theorem At.lt (h:At w lo hi A n bs):At w lo w.heap.size A n bs :=
 ⟨h.1,fun hn=>by
  obtain ⟨b,o,e,h1,h2,hc⟩:=h.2 hn
  have hl:bs[0]?=some (bs[0]'(by rw [h.1];exact hn)):=List.getElem?_eq_getElem _
  exact ⟨b,o,e,h1,World.block_lt_of_cell? _ _ (hc 0 _ hl),hc⟩⟩
theorem At.below (h:At w lo hi A n bs) (hb:Below hi w w'):At w' lo hi A n bs:=h.keep fun _ _ hp=>hb.cell hp
theorem At.drew (h:At w lo hi A n bs):At w.drew lo hi A n bs:=h
theorem At.drewN (h:At w lo hi A n bs) (k:Nat):At (w.drewN k) lo hi A n bs:=h
theorem At.alloc (h:At w lo hi A n bs) (hB:hi≤w.heap.size) (o:Obj):At (w.alloc o) lo hi A n bs:=h.keep fun p _ hp=>World.cell?_alloc_lt w o p (by omega)
theorem At.far (h:At w lo hi A n bs) {p:Addr} (hp:p.block<lo∨hi≤p.block) (u:Value):At (w.setCell p u) lo hi A n bs :=
 h.keep fun q h1 h2=>World.cell?_setCell_other w p q u (fun e=>by subst e;omega)
theorem At.grown (h:At w lo hi A n bs) {row:Option Nat} (hg:w.grownBy w' row) (hB:hi≤w.heap.size) (hr:∀ g,row=some g→g<lo∨hi≤g):At w' lo hi A n bs :=
 h.keep fun p h1 h2=>World.cell?_of_block (hg.block p.block (by omega) (fun e=>by have:=hr _ e.symm;omega))
theorem At.own {base:Nat} {e:TypeId} {c:Nat} (h:w.ownsRow base e 1 (.slice A n c) n (bvs bs)):At w base w.heap.size A n bs:=by
 have hl:bs.length=n:=by have:=h.1;rw [za1] at this;omega
 refine ⟨hl,fun hn=>?_⟩
 rcases h.2 with ⟨_,h0⟩ | ⟨g,cap,cur,hv,hb,_⟩
 ·omega
 ·injection hv with hA hv2 hv3
  subst hA
  have hlt:=h.lt g rfl
  refine ⟨g,0,rfl,hb,hlt.2,fun j u hu=>?_⟩
  have:=h.cells (g:=g) rfl j (bv u) (by unfold bvs;rw [List.getElem?_map,hu];rfl)
  rwa [zcy] at this
theorem At.cells (h:At w lo hi A n bs) (hn:0<n):∃ ad,A=some ad∧∀ j u,(bvs bs)[j]?=some u→w.cell? (ad.add j)=some u:=by
 obtain ⟨b,o,e,_,_,hc⟩:=h.2 hn
 refine ⟨_,e,fun j u hu=>?_⟩
 obtain ⟨x,hx,rfl⟩:=zyi hu
 rw [zcy]
 exact hc j x hx
theorem At.at_ {k:Nat} (h:At w lo hi A n bs) (hk:k<n):∃ b o u,A=some ⟨b,o,none⟩∧bs[k]?=some u∧w.cell? ⟨b,o+k,none⟩=some (.int .u8 (u.toNat:Int)):=by
 obtain ⟨b,o,e,_,_,hc⟩:=h.2 (by omega)
 have hl:k<bs.length:=by rw [h.1];exact hk
 exact ⟨b,o,bs[k],e,List.getElem?_eq_getElem hl,hc k _ (List.getElem?_eq_getElem hl)⟩
theorem At.head {k:Nat} (h:At w lo hi A n bs) (hk:k≤n):At w lo hi A k (bs.take k) :=
 ⟨by rw [List.length_take,h.1];omega,fun h0=>by
  obtain ⟨b,o,e,h1,h2,hc⟩:=h.2 (by omega)
  refine ⟨b,o,e,h1,h2,fun j u hu=>hc j u ?_⟩
  rw [List.getElem?_take] at hu
  split at hu
  ·exact hu
  ·cases hu⟩
theorem At.tail {k c:Nat} (h:At w lo hi A n bs) (hk:k≤n) (hc:n≤c):At w lo hi (if c=k then A else A.map (·.add k)) (n-k) (bs.drop k) :=
 ⟨by rw [List.length_drop,h.1],fun h0=>by
  obtain ⟨b,o,rfl,h1,h2,hcell⟩:=h.2 (by omega)
  rw [if_neg (by omega)]
  refine ⟨b,o+k,by simp [zcy],h1,h2,fun j u hu=>?_⟩
  rw [List.getElem?_drop] at hu
  have:=hcell (k+j) u hu
  rwa [← Nat.add_assoc] at this⟩
theorem At.text {P:Program} (h:At w lo hi A n bs) (src e:TypeId) (hs:P.underlying src=some (.slice e)) (he:P.underlying e=some (.int .u8)) (c:Nat) (dst:TypeId) (hd:P.underlying dst=some .string) :
  (convert src dst (.slice A n c)).run P w = .ok (.string ⟨bs.toArray⟩) w:=by
 rcases Nat.eq_zero_or_pos n with h0 | h0
 ·subst h0
  have:bs=[]:=List.eq_nil_of_length_eq_zero h.1
  subst this
  rw [run_convert_bytes_string w src dst e _ 0 c hs he hd]
  cases A <;> simp [Conv.bytesToString,loadCells] <;> rfl
 ·obtain ⟨b,o,rfl,_,_,hc⟩:=h.2 h0
  have hx:=run_convert_bytes_arg (P:=P) w src e hs he b o n c (bs.map fun b=>(b.toNat:Int)) (by rw [List.length_map,h.1]) (fun i hi=>by
   have hl:i<bs.length:=by rw [h.1];exact hi
   rw [hc i _ (List.getElem?_eq_getElem hl)]
   simp [bv,List.getD,List.getElem?_eq_getElem hl]) dst hd
  have he:(bs.map fun b=>(b.toNat:Int)).map (fun n=>UInt8.ofNat n.toNat)=bs:=by
   rw [List.map_map]
   exact (List.map_congr_left (fun b _=>by simp)).trans (List.map_id bs)
  rw [hx]
  unfold strOfNums
  rw [he]
end
def Blk (w:World) (g:Nat) (t:TypeId) (cs:Array Value):Prop:=w.heap[g]?=some (.cells cs t (0,0))
section
variable {w w':World} {g:Nat} {t:TypeId} {cs:Array Value}
theorem Blk.lt (h:Blk w g t cs):g<w.heap.size:=by
 rcases Nat.lt_or_ge g w.heap.size with hlt | hge
 ·exact hlt
 ·unfold Blk at h;rw [Array.getElem?_eq_none hge] at h;cases h
theorem Blk.cell (h:Blk w g t cs) (i:Nat):w.cell? ⟨g,i,none⟩=cs[i]?:=cell_of_row w g i cs t (0,0) h
theorem Blk.frozen (h:Blk w g t cs) (i:Nat):w.frozen? ⟨g,i,none⟩=false:=by
 unfold Blk at h
 simp [World.frozen?,h]
theorem Blk.new (w:World) (t:TypeId) (cs:Array Value):Blk (w.alloc (.cells cs t)) w.heap.size t cs:=heap_alloc_new w _
theorem Blk.drew (h:Blk w g t cs):Blk w.drew g t cs:=h
theorem Blk.drewN (h:Blk w g t cs) (n:Nat):Blk (w.drewN n) g t cs:=h
theorem Blk.alloc (h:Blk w g t cs) (o:Obj):Blk (w.alloc o) g t cs:=(Below.heap_alloc w o g h.lt).trans h
theorem Blk.set_ (h:Blk w g t cs) (i:Nat) (u:Value):Blk (w.setCell ⟨g,i,none⟩ u) g t (cs.setIfInBounds i u):=by
 unfold Blk at h ⊢
 simp [World.setCell,Array.getElem?_modify,h]
theorem Blk.far (h:Blk w g t cs) {p:Addr} (hp:g≠p.block) (u:Value):Blk (w.setCell p u) g t cs:=(Below.heap_setCell w p u g hp).trans h
theorem Blk.below {B:Nat} (h:Blk w g t cs) (hb:Below B w w') (hg:g<B):Blk w' g t cs:=(hb.block g hg).trans h
theorem Blk.grown {row:Option Nat} (h:Blk w g t cs) (hb:w.grownBy w' row) (hg:some g≠row):Blk w' g t cs:=(hb.block g h.lt hg).trans h
end
theorem zac (w:World) (row:Option Nat):w.grownBy w row:=⟨rfl,rfl,rfl,Nat.le_refl _,fun _ _ _=>rfl⟩
theorem zak {a b c:World} {row:Option Nat} (h:a.grownBy b row) (k:b.grownBy c row):a.grownBy c row :=
 ⟨k.os.trans h.os,k.tape.trans h.tape,k.output.trans h.output,Nat.le_trans h.size k.size,fun i hi hne=>(k.block i (Nat.lt_of_lt_of_le hi h.size) hne).trans (h.block i hi hne)⟩
theorem zes {a b c:World} {row:Option Nat} (h:a.grownBy b row) (k:Below b.heap.size b c):a.grownBy c row :=
 ⟨k.os.trans h.os,k.tape.trans h.tape,k.output.trans h.output,Nat.le_trans h.size k.size,fun i hi hne=>(k.block i (Nat.lt_of_lt_of_le hi h.size)).trans (h.block i hi hne)⟩
theorem zaK {a b:World} (k:Below a.heap.size a b) (row:Option Nat):a.grownBy b row :=
 ⟨k.os,k.tape,k.output,k.size,fun i hi _=>k.block i hi⟩
theorem zax {a w:World} {row:Option Nat} (h:a.grownBy w row):a.grownBy w.drew row:=⟨h.os,h.tape,h.output,h.size,h.block⟩
theorem zaP {a w:World} {row:Option Nat} (h:a.grownBy w row) (o:Obj):a.grownBy (w.alloc o) row :=
 ⟨h.os,h.tape,h.output,Nat.le_trans h.size (by simp),fun i hi hne=>(Below.heap_alloc w o i (Nat.lt_of_lt_of_le hi h.size)).trans (h.block i hi hne)⟩
theorem zao {a w:World} {g:Nat} (h:a.grownBy w (some g)) {p:Addr} (hp:p.block=g∨a.heap.size≤p.block) (u:Value):a.grownBy (w.setCell p u) (some g) :=
 ⟨h.os,h.tape,h.output,by simpa [World.setCell] using h.size,fun i hi hne=>(Below.heap_setCell w p u i (by
  rintro rfl
  rcases hp with hp | hp
  ·exact hne (by rw [hp])
  ·omega)).trans (h.block i hi hne)⟩
theorem zaa {B:Nat} {a b c:World} (h:Below B a b) (k:Below b.heap.size b c) (hB:B≤a.heap.size):Below B a c :=
 h.trans (k.mono (Nat.le_trans hB h.size))
section
variable {P:Program} (w:World)
theorem zeF (base:Nat) (t ty e:TypeId) (i:TypeInfo) (ht:P.underlying t=some (.slice e)) (hi:P.info? e=some i) (hz:i.zero=some (.int .u8 0))
  (hsize:i.size=1) (hby:i.bytes=1)
  (v:Value) (n:Nat) (xs:List UInt8) (hown:w.ownsRow base e 1 v n (bvs xs))
  (lo hi':Nat) (A:Option Addr) (m c:Nat) (news:List UInt8) (hr:At w lo hi' A m news)
  (hbytes:n+m≤140737488355328) (hbase:base≤w.heap.size) :
  ∃ v' w',(Builtin.append_ #[t,t] ty #[v,.slice A m c]).run P w = .ok v' w'∧w'.ownsRow base e 1 v' (n+m) (bvs (xs++news))∧w.grownBy w' v.ownBlock ∧
   (v'.ownBlock=v.ownBlock∨v'.ownBlock=some w.heap.size):=by
 rcases A with _ | ad
 ·have hm:m=0:=by
   rcases Nat.eq_zero_or_pos m with h0 | h0
   ·exact h0
   ·obtain ⟨b,o,h,_⟩:=hr.2 h0
    cases h
  subst hm
  have hn:news=[]:=List.eq_nil_of_length_eq_zero hr.1
  subst hn
  refine ⟨v,w,?_,by simpa using hown,zac w _,.inl rfl⟩
  rcases hown.2 with ⟨rfl,rfl⟩ | ⟨g,cap,cur,rfl,_,_,hnc,_⟩
  ·simp [Builtin.append_,run_underlying ht,sizeOf,typeInfo,hi,Builtin.lenOf,Builtin.firstCells]
  ·simp [Builtin.append_,run_underlying ht,sizeOf,typeInfo,hi,Builtin.lenOf,Builtin.firstCells,hnc,storeCells]
 ·have hcells:∀ j u,(bvs news)[j]?=some u→w.cell? (ad.add j)=some u:=by
   rcases Nat.eq_zero_or_pos m with h0 | h0
   ·subst h0
    have hn:news=[]:=List.eq_nil_of_length_eq_zero hr.1
    subst hn
    intro j u hu
    simp [bvs] at hu
   ·obtain ⟨ad',h,hc⟩:=hr.cells h0
    injection h with h
    subst h
    exact hc
  obtain ⟨v',w',hrun,h2,h3,_,h5⟩:=run_append_own_at (P:=P) w base t ty e i (.int .u8 0) 1 1 ht hi hz hsize hby rfl (by omega) v n (bvs xs) hown ad m c (bvs news)
   (by rw [za1,hr.1,Nat.mul_one]) hcells (zbI _) (by unfold maxLen;omega) (by omega) hbase
  exact ⟨v',w',hrun,by rw [zdx];exact h2,h3,h5⟩
theorem zh7 {o:Oper} {a:Act} {K:Act→World→Prop} {Q:Exit→Act→World→Prop} (s x:Operand) (t:TypeId)
  (ho:o.op = .call { callee:=.builtin .append,args:=#[s,x],argTypes:=#[t,t] })
  (base:Nat) (e:TypeId) (i:TypeInfo) (ht:P.underlying t=some (.slice e)) (hi:P.info? e=some i) (hz:i.zero=some (.int .u8 0))
  (hsize:i.size=1) (hby:i.bytes=1)
  (v:Value) (n:Nat) (xs:List UInt8) (hs:a.eval s=v) (hown:w.ownsRow base e 1 v n (bvs xs))
  (lo hi':Nat) (A:Option Addr) (m c:Nat) (news:List UInt8) (hx:a.eval x = .slice A m c) (hr:At w lo hi' A m news)
  (hbytes:n+m≤140737488355328) (hbase:base≤w.heap.size)
  (h:∀ v' w',w'.ownsRow base e 1 v' (n+m) (bvs (xs++news))→w.grownBy w' v.ownBlock→(v'.ownBlock=v.ownBlock∨v'.ownBlock=some w.heap.size)→K (a.put o.dst v') w'):o.wp P a w K Q:=by
 obtain ⟨v',w',hrun,h2,h3,h4⟩:=zeF (P:=P) w base t o.type e i ht hi hz hsize hby v n xs hown lo hi' A m c news hr hbytes hbase
 unfold Oper.wp execOp
 simp only [ho,resolve,invoke,builtin,Sem.run_bind,Sem.run_pure,Result.andThen_ok,List.map_toArray,List.map_cons,List.map_nil,hs,hx,hrun]
 exact h v' w' h2 h3 h4
theorem zap {ops:Array Oper} {rest:List Oper} {o:Oper} {a:Act} {Q:Exit→Act→World→Prop} (hgd:o.guard=none) (s x:Operand) (t:TypeId)
  (ho:o.op = .call { callee:=.builtin .append,args:=#[s,x],argTypes:=#[t,t] })
  (base:Nat) (e:TypeId) (i:TypeInfo) (ht:P.underlying t=some (.slice e)) (hi:P.info? e=some i) (hz:i.zero=some (.int .u8 0))
  (hsize:i.size=1) (hby:i.bytes=1)
  (v:Value) (n:Nat) (xs:List UInt8) (hs:a.eval s=v) (hown:w.ownsRow base e 1 v n (bvs xs))
  (lo hi':Nat) (A:Option Addr) (m c:Nat) (news:List UInt8) (hx:a.eval x = .slice A m c) (hr:At w lo hi' A m news)
  (hbytes:n+m≤140737488355328) (hbase:base≤w.heap.size)
  (h:∀ v' w',w'.ownsRow base e 1 v' (n+m) (bvs (xs++news))→w.grownBy w' v.ownBlock→(v'.ownBlock=v.ownBlock∨v'.ownBlock=some w.heap.size)→wpList P ops Q rest (a.put o.dst v') w'):wpList P ops Q (o::rest) a w :=
 wpList_plain hgd fun _ hK=>zh7 w s x t ho base e i ht hi hz hsize hby v n xs hs hown lo hi' A m c news hx hr hbytes hbase fun v' w' h2 h3 h4=>hK _ _ (h v' w' h2 h3 h4)
end
theorem zsy (a b:Nat) (ha:a<281474976710656) (hb:b<256):bits .or .i64 ((a:Int)*256) (b:Int)=((a*256+b:Nat):Int):=by
 have e:(a:Int)*256=((a*256:Nat):Int):=by omega
 have h1:∀ x:Nat,x<9223372036854775808→(BitVec.ofInt 64 (x:Int)).toNat=x:=fun x hx=>by
  rw [BitVec.ofInt_natCast,BitVec.toNat_ofNat];exact Nat.mod_eq_of_lt (by omega)
 rw [e]
 show IntKind.i64.wrap ((BitVec.ofInt 64 ((a*256:Nat):Int) ||| BitVec.ofInt 64 (b:Int)).toNat:Int)=_
 rw [BitVec.toNat_or,h1 _ (by omega),h1 _ (by omega)]
 have h2:=Nat.two_pow_add_eq_or_of_lt (i:=8) (show b<2^8 from hb) a
 have h3:a*256 ||| b=a*256+b:=by
  rw [show a*256=2^8*a by omega];exact h2.symm
 rw [h3,IntKind.wrap_i64]
 omega
theorem zvL (q:Nat):(UInt8.ofNat (q%256)).toNat=q%256:=by simp
theorem zkq (w:World) (V:Int) (t:TypeId) (b:UInt8) (h:V=(b.toNat:Int)):At (w.alloc (.cells #[.int .u8 V] t)) w.heap.size (w.heap.size+1) (some ⟨w.heap.size,0,none⟩) 1 [b]:=by
 subst h
 refine ⟨rfl,fun _=>⟨_,0,rfl,Nat.le_refl _,by omega,fun j u hu=>?_⟩⟩
 match j,hu with
 | 0,hu =>
  have hb:=(Blk.new w t #[.int .u8 (b.toNat:Int)]).cell 0
  simp at hu
  subst hu
  exact hb
theorem zit {P:Program} {ops:Array Oper} {o:Oper} {a:Act} {w:World} {K:Act→World→Prop} {Q:Exit→Act→World→Prop} {E:Prop} {f:FuncId} {args:Array Value} {R:Ending→World→Prop}
  (hc:Calls P f args w R) (hw:Region.wanted o (yielded ops a.tmps)=true) (hrun:∀ w,(execOp a.eval o).run P w = .ok (.enter f args) w)
  (h:∀ e w',R e w'→∃ v,e = .returned v∧K (a.put o.dst v) w'):if Region.wanted o (yielded ops a.tmps)=true then Oper.wp P o a w K Q else E:=by
 rw [if_pos hw]
 unfold Oper.wp
 rw [hrun,Oper.upon_enter]
 exact hc.mono fun e w' hr=>by
  obtain ⟨v,rfl,hk⟩:=h e w' hr
  exact hk
section
variable {P:Program} {ops:Array Oper} {Q:Exit→Act→World→Prop} {md:Region.Mode} {S:World→Prop} {fuel:Nat} {listed:Array Bool} {a:Act} {w:World} {i:Nat} {o:Oper}
theorem zbq (h:ops.toList[i]?=some o):ops[i]?=some o:=by rw [← h];simp
theorem zc2 {v:Value} (hi:ops.toList[i]?=some o) (hs:Region.noSelect ops=true) (hf:Region.free md ops listed i=true) (hr:(Region.ready md ops listed).contains i=true)
  (hQ:∀ c a w,Q (.panic c) (a.put o.dst v) w→Q (.panic c) a w) (hy:YieldsIf P ops S o v a) (hS:S w)
  (h:wpAnyH P md ops Q S fuel (listed.setIfInBounds i true) (a.put o.dst v) w):wpAnyH P md ops Q S (fuel+1) listed a w :=
 wpAnyH_take (zbq hi) hs hf hr hQ hy hS h
theorem zaE {v:Value} {w':World} (hi:ops.toList[i]?=some o) (hr:Region.ready md ops listed=[i]) (hw:Region.wanted o (yielded ops a.tmps)=true)
  (hrun:(execOp a.eval o).run P w = .ok (.value v) w') (hS:S w') (h:S w'→wpAnyH P md ops Q S fuel (listed.setIfInBounds i true) (a.put o.dst v) w'):wpAnyH P md ops Q S (fuel+1) listed a w:=by
 refine wpAnyH_ready hr (by simp) (AllReadyH.cons (zbq hi) (fun K hK=>?_) AllReadyH.nil)
 rw [if_pos hw]
 unfold Oper.wp
 rw [hrun]
 exact hK.out _ _ hS h
theorem zal {f:FuncId} {args:Array Value} {R:Ending→World→Prop} (hi:ops.toList[i]?=some o) (hr:Region.ready md ops listed=[i]) (hw:Region.wanted o (yielded ops a.tmps)=true)
  (hc:Calls P f args w R) (hrun:∀ w,(execOp a.eval o).run P w = .ok (.enter f args) w)
  (h:∀ e w',R e w'→∃ v,e = .returned v∧S w'∧(S w'→wpAnyH P md ops Q S fuel (listed.setIfInBounds i true) (a.put o.dst v) w')):wpAnyH P md ops Q S (fuel+1) listed a w:=by
 refine wpAnyH_ready hr (by simp) (AllReadyH.cons (zbq hi) (fun K hK=>?_) AllReadyH.nil)
 refine zit hc hw hrun (fun e w' hr=>?_)
 obtain ⟨v,he,hS,hk⟩:=h e w' hr
 exact ⟨v,he,hK.out _ _ hS hk⟩
theorem rgN {l l':Array Bool} {a':Act} (h:wpAnyH P md ops Q S fuel l' a' w) (hl:l=l':=by first | (simp only [List.setIfInBounds_toArray,List.set_cons_zero,List.set_cons_succ];exact rfl) | exact rfl) (ha:a=a':=by first | (simp only [Act.put,List.setIfInBounds_toArray,List.set_cons_zero,List.set_cons_succ];exact rfl) | exact rfl):wpAnyH P md ops Q S fuel l a w:=by
 subst hl ha;exact h
theorem rgT {v:Value} {a':Act} {l':Array Bool} (i:Nat) (h:wpAnyH P md ops Q S fuel l' a' w) (hi:ops.toList[i]?=some o:=by exact rfl) (hs:Region.noSelect ops=true:=by kernel_rfl) (hf:Region.free md ops listed i=true:=by kernel_rfl) (hr:(Region.ready md ops listed).contains i=true:=by kernel_rfl)
  (hQ:∀ c a w,Q (.panic c) (a.put o.dst v) w→Q (.panic c) a w:=by exact fun _ _ _ h=>h) (hg:Region.wanted o (yielded ops a.tmps)=true:=by rfl) (hy:∀ w,S w→(execOp a.eval o).run P w = .ok (.value v) w:=by (intro w' hSw;(try dsimp only at hSw);go_simp <;> with_reducible rfl)) (hS:S w:=by assumption)
  (hl:listed.setIfInBounds i true=l':=by first | (simp only [List.setIfInBounds_toArray,List.set_cons_zero,List.set_cons_succ];exact rfl) | exact rfl) (ha:a.put o.dst v=a':=by first | (simp only [Act.put,List.setIfInBounds_toArray,List.set_cons_zero,List.set_cons_succ];exact rfl) | exact rfl):wpAnyH P md ops Q S (fuel+1) listed a w:=by
 subst hl ha;exact zc2 hi hs hf hr hQ (Or.inl ⟨hg,hy⟩) hS h
theorem rgK {F:World→Prop} {v:Value} {a':Act} {l':Array Bool} (i:Nat) (K:∀ w,S w→F w) (h:wpAnyH P md ops Q S fuel l' a' w) (hi:ops.toList[i]?=some o:=by exact rfl) (hs:Region.noSelect ops=true:=by kernel_rfl) (hf:Region.free md ops listed i=true:=by kernel_rfl) (hr:(Region.ready md ops listed).contains i=true:=by kernel_rfl)
  (hQ:∀ c a w,Q (.panic c) (a.put o.dst v) w→Q (.panic c) a w:=by exact fun _ _ _ h=>h) (hg:Region.wanted o (yielded ops a.tmps)=true:=by rfl) (hy:∀ w,S w→F w→(execOp a.eval o).run P w = .ok (.value v) w:=by (intro w' hSw kc;go_simp <;> with_reducible rfl)) (hS:S w:=by assumption)
  (hl:listed.setIfInBounds i true=l':=by first | (simp only [List.setIfInBounds_toArray,List.set_cons_zero,List.set_cons_succ];exact rfl) | exact rfl) (ha:a.put o.dst v=a':=by first | (simp only [Act.put,List.setIfInBounds_toArray,List.set_cons_zero,List.set_cons_succ];exact rfl) | exact rfl):wpAnyH P md ops Q S (fuel+1) listed a w:=by
 subst hl ha;exact zc2 hi hs hf hr hQ (Or.inl ⟨hg,fun w hw=>hy w hw (K w hw)⟩) hS h
theorem rgV {a':Act} {l':Array Bool} (i:Nat) (v:Value) (hy:∀ w,S w→(execOp a.eval o).run P w = .ok (.value v) w) (h:wpAnyH P md ops Q S fuel l' a' w) (hi:ops.toList[i]?=some o:=by exact rfl) (hs:Region.noSelect ops=true:=by kernel_rfl) (hf:Region.free md ops listed i=true:=by kernel_rfl) (hr:(Region.ready md ops listed).contains i=true:=by kernel_rfl)
  (hQ:∀ c a w,Q (.panic c) (a.put o.dst v) w→Q (.panic c) a w:=by exact fun _ _ _ h=>h) (hg:Region.wanted o (yielded ops a.tmps)=true:=by rfl) (hS:S w:=by assumption)
  (hl:listed.setIfInBounds i true=l':=by first | (simp only [List.setIfInBounds_toArray,List.set_cons_zero,List.set_cons_succ];exact rfl) | exact rfl) (ha:a.put o.dst v=a':=by first | (simp only [Act.put,List.setIfInBounds_toArray,List.set_cons_zero,List.set_cons_succ];exact rfl) | exact rfl):wpAnyH P md ops Q S (fuel+1) listed a w:=by
 subst hl ha;exact zc2 hi hs hf hr hQ (Or.inl ⟨hg,hy⟩) hS h
theorem rgS {a':Act} {l':Array Bool} (i:Nat) (h:wpAnyH P md ops Q S fuel l' a' w) (hi:ops.toList[i]?=some o:=by exact rfl) (hs:Region.noSelect ops=true:=by kernel_rfl) (hf:Region.free md ops listed i=true:=by kernel_rfl) (hr:(Region.ready md ops listed).contains i=true:=by kernel_rfl)
  (hQ:∀ c a w,Q (.panic c) (a.put o.dst undef) w→Q (.panic c) a w:=by exact fun _ _ _ h=>h) (hg:Region.wanted o (yielded ops a.tmps)=false:=by rfl) (hS:S w:=by assumption)
  (hl:listed.setIfInBounds i true=l':=by first | (simp only [List.setIfInBounds_toArray,List.set_cons_zero,List.set_cons_succ];exact rfl) | exact rfl) (ha:a.put o.dst undef=a':=by first | (simp only [Act.put,List.setIfInBounds_toArray,List.set_cons_zero,List.set_cons_succ];exact rfl) | exact rfl):wpAnyH P md ops Q S (fuel+1) listed a w:=by
 subst hl ha;exact zc2 hi hs hf hr hQ (Or.inr ⟨hg,rfl⟩) hS h
end
theorem zag {w:World} {base:Nat} {e:TypeId} {v:Value} {n:Nat} {xs:List Value} (h:w.ownsRow base e 1 v n xs):∃ A c,v = .slice A n c∧n≤c∧c≤maxLen:=by
 rcases h.2 with ⟨rfl,rfl⟩ | ⟨g,cap,cur,rfl,_,_,h1,h2,_⟩
 ·exact ⟨_,_,rfl,Nat.le_refl _,Nat.zero_le _⟩
 ·exact ⟨_,_,rfl,h1,h2⟩
theorem zco {w:World} {g base n cap:Nat} {e:TypeId} {cs:Array Value} {xs:List Value} (h:Blk w g e cs) (hb:base≤g) (hn:n≤cap) (hc:cap≤maxLen) (hs:cs.size=cap) (ht:cs.toList.take n=xs):w.ownsRow base e 1 (.slice (some ⟨g,0,none⟩) n cap) n xs:=by
 refine ⟨?_,.inr ⟨g,cap,cs,rfl,hb,h,hn,hc,by omega,by rw [Nat.mul_one];exact ht⟩⟩
 rw [← ht,List.length_take,Array.length_toList];omega
section
variable {P:Program}
theorem zfx (t e:TypeId) (i:TypeInfo) (ht:P.underlying t=some (.slice e)) (hi:P.info? e=some i) (hz:i.zero=some (.int .u8 0)) (hsize:i.size=1) (hby:i.bytes=1)
  (n m:Nat) (C:Int) (hC:C=(m:Int)) (hnm:n≤m) (hm:m≤281474976710656) (W:World) :
  (Instr.makeSlice t (.int .i64 n) (.int .i64 C)).run P W = .ok (.slice (some ⟨W.heap.size,0,none⟩) n m) (W.alloc (.cells (madeCells #[.int .u8 0] m) e)):=by
 subst hC
 have:=run_make (P:=P) W t e i (.int .u8 0) ht hi hz .i64 .i64 (n:Int) (m:Int) (by omega) (by omega) (by rw [hby];omega) (by omega)
 simpa [hsize,Value.cells] using this
theorem zfy (z:Value) (m:Nat):(madeCells #[z] m).size=m:=by
 have:=congrArg List.length (toList_madeCells_one z m)
 simpa using this
theorem zcn {w:World} {ops:Array Oper} {rest:List Oper} {o:Oper} {a:Act} {Q:Exit→Act→World→Prop} (hg:o.guard=none) (l c:Operand) (t:TypeId) (hop:o.op=Op.makeSlice t l c)
  (e:TypeId) (i:TypeInfo) (ht:P.underlying t=some (.slice e)) (hi:P.info? e=some i) (hz:i.zero=some (.int .u8 0)) (hsize:i.size=1) (hby:i.bytes=1)
  (n m:Nat) (C:Int) (hl:a.eval l = .int .i64 n) (hc:a.eval c = .int .i64 C) (hC:C=(m:Int)) (hnm:n≤m) (hm:m≤281474976710656)
  (hK:wpList P ops Q rest (a.put o.dst (.slice (some ⟨w.heap.size,0,none⟩) n m)) (w.alloc (.cells (madeCells #[.int .u8 0] m) e))) :
  wpList P ops Q (o::rest) a w:=by
 refine wpList_plain hg fun K hK'=>?_
 have hrun:=zfx (P:=P) t e i ht hi hz hsize hby n m C hC hnm hm w
 unfold Oper.wp
 simp [execOp,hop,hl,hc,hrun,Result.andThen]
 exact hK' _ _ hK
theorem zgJ {w:World} {ops:Array Oper} {rest:List Oper} {o:Oper} {a:Act} {Q:Exit→Act→World→Prop} (hgd:o.guard=none) (d s:Operand) (t:TypeId)
  (ho:o.op = .call { callee:=.builtin .copy,args:=#[d,s],argTypes:=#[t,t] }) (e:TypeId) (i:TypeInfo) (ht:P.underlying t=some (.slice e)) (hi:P.info? e=some i) (hsize:i.size=1)
  (g n m cap c lo hi':Nat) (A:Option Addr) (bs:List UInt8) (cur:Array Value) (hg:Blk w g e cur) (hr:At w lo hi' A n bs) (hfit:n≤cur.size) (hnm:n≤m)
  (hd:a.eval d = .slice (some ⟨g,0,none⟩) m cap) (hs:a.eval s = .slice A n c)
  (h:∀ w',Blk w' g e (bvs bs++cur.toList.drop n).toArray→w.grownBy w' (some g)→wpList P ops Q rest (a.put o.dst (goInt n)) w'):wpList P ops Q (o::rest) a w:=by
 have hl:=hr.len
 have hsz:(P.info? e).map (·.size)=some 1:=by rw [hi];simp [hsize]
 rcases Nat.eq_zero_or_pos n with h0 | h0
 ·subst h0
  have:bs=[]:=List.eq_nil_of_length_eq_zero hl
  subst this
  refine wpList_copy_nothing hgd d s t t ho e ht hsz _ _ _ _ _ _ hd hs (by simp) ?_
  exact h w (by simpa [bvs] using hg) (zac w _)
 ·obtain ⟨ad,rfl,hc⟩:=hr.cells h0
  have hb:=za1 bs
  refine wpList_copy_own hgd d s t t ho e ht hsz g 0 m cap ad n c hd hs cur e hg (bvs bs) (by rw [hb,hl];exact (Nat.min_eq_left hnm).symm) hc (by omega) (zbI _) ?_
  rw [hb,hl]
  refine h _ ?_ ?_
  ·have:=setRow_heap w g cur (cur.toList.take 0++(bvs bs++cur.toList.drop (0+n))).toArray e (0,0) hg
   simpa [Blk] using this
  ·exact ⟨rfl,rfl,rfl,by simp [World.setRow],fun k _ hk=>setRow_other w g k _ (fun e=>hk (by rw [e]))⟩
end
open Go.RowKit
theorem zbU {B:Nat} {a b:World} (h:Below B a b) (n:Nat):Below B a (b.drewN n):=h.trans ⟨rfl,rfl,rfl,Nat.le_refl _,fun _ _=>rfl⟩
theorem zam {B:Nat} {a b:World} (h:Below B a b):Below B a b.drew:=zbU h 1
theorem zcV {B:Nat} {a b:World} (h:Below B a b) {p:Addr} (hp:B≤p.block) (u:Value):Below B a (b.setCell p u):=h.setCell hp u
theorem zef {B:Nat} {a w x:World} (h:Below B a w) (hB:B≤a.heap.size) (o:Obj) {q:Nat} (hg:(w.alloc o).grownBy x (some q)) (hq:w.heap.size≤q):Below B a x :=
 (h.alloc (Nat.le_trans hB h.size) o).grown hg (by have:=h.size;simp;omega) (by intro e he;injection he with he;subst he;exact Nat.le_trans (Nat.le_trans hB h.size) hq)
theorem Blk.over {w x:World} {g:Nat} {t:TypeId} {cs:Array Value} (h:Blk w g t cs) (hb:Below w.heap.size w x):Blk x g t cs:=h.below hb h.lt
theorem zm3 {B:Nat} {a w x:World} (h:Below B a w) (hB:B≤a.heap.size) (o:Obj) {q:Nat} (hg:(w.alloc o).grownBy x (some q)) (hq:w.heap.size≤q):Below B a x :=
 (h.alloc (Nat.le_trans hB h.size) o).grown hg (by have:=h.size;simp;omega) (by intro e he;injection he with he;subst he;exact Nat.le_trans (Nat.le_trans hB h.size) hq)
end
section
def big (bs:List UInt8):Nat:=bs.foldl (fun n b=>n*256+b.toNat) 0
theorem zlv (bs:List UInt8) (b:UInt8):big (bs++[b])=big bs*256+b.toNat:=by simp [big]
theorem zx1 (bs:List UInt8):∀ a:Nat,bs.foldl (fun n b=>n*256+b.toNat) a<(a+1)*256^bs.length:=by
 induction bs with
 | nil=>intro a;simp
 | cons b bs ih =>
  intro a
  have h:=ih (a*256+b.toNat)
  have hb:=b.toNat_lt
  rw [List.foldl_cons,List.length_cons,Nat.pow_succ]
  refine Nat.lt_of_lt_of_le h ?_
  rw [Nat.mul_comm (256^bs.length) 256,← Nat.mul_assoc]
  exact Nat.mul_le_mul_right _ (by omega)
theorem zfb (bs:List UInt8):big bs<256^bs.length:=by
 have:=zx1 bs 0
 simpa [big] using this
theorem zim {α:Type} (xs:List α) (k:Nat) (x:α) (h:xs[k]?=some x):xs.take (k+1)=xs.take k++[x]:=by
 rw [List.take_add_one,h];rfl
theorem zvQ {bs:List UInt8} {k:Nat} {b:UInt8} (h:bs[k]?=some b):big (bs.take (k+1))=big (bs.take k)*256+b.toNat:=by
 rw [zim bs k b h,zlv]
theorem zol {bs:List UInt8} {k:Nat} (h:k≤4):big (bs.take k)<4294967296:=by
 have h1:=zfb (bs.take k)
 have h2:(bs.take k).length≤k:=List.length_take_le _ _
 exact Nat.lt_of_lt_of_le h1 (Nat.le_trans (Nat.pow_le_pow_right (by omega) (Nat.le_trans h2 h)) (by decide))
theorem zm2 {bs:List UInt8} {k:Nat} (h:k≤3):big (bs.take k)<16777216:=by
 have h1:=zfb (bs.take k)
 have h2:(bs.take k).length≤k:=List.length_take_le _ _
 exact Nat.lt_of_lt_of_le h1 (Nat.le_trans (Nat.pow_le_pow_right (by omega) (Nat.le_trans h2 h)) (by decide))
def zaY (bs:List UInt8) (n:Int):Bool:=decide (0≤n∧n≤bs.length)
def zab (bs:List UInt8) (n:Int):List UInt8:=if zaY bs n then bs.take n.toNat else []
def zae (bs:List UInt8) (n:Int):List UInt8:=if zaY bs n then bs.drop n.toNat else []
def zdm (n:Int):Bool:=decide (1≤n∧n≤4)
def za7 (bs:List UInt8) (n:Int):Bool:=zdm n&&zaY bs n
def zan (bs:List UInt8) (n:Int):Nat:=if zdm n then big (zab bs n) else 0
def zaf (bs:List UInt8) (n:Int):List UInt8:=if zdm n then zae bs n else []
def be:Nat→Nat→List UInt8
 | 0,_=>[]
 | k+1,n=>be k (n/256)++[UInt8.ofNat (n%256)]
theorem zcl (k:Nat):∀ n,(be k n).length=k:=by
 induction k with
 | zero=>intro n;rfl
 | succ k ih=>intro n;simp [be,ih]
theorem be_at (k:Nat):∀ (n j:Nat),j<k→(be k n)[j]?=some (UInt8.ofNat (n/256^(k-1-j)%256)):=by
 induction k with
 | zero=>intro n j h;omega
 | succ k ih =>
  intro n j h
  unfold be
  by_cases hj:j<k
  ·rw [List.getElem?_append_left (by rw [zcl];exact hj),ih _ j hj]
   have e:k+1-1-j=(k-1-j)+1:=by omega
   rw [e,Nat.pow_succ,Nat.mul_comm,Nat.div_div_eq_div_mul]
  ·obtain rfl:j=k:=by omega
   rw [List.getElem?_append_right (by rw [zcl];exact Nat.le_refl _),zcl]
   simp
theorem zyk {k n j:Nat} (h:j<k):(be k n).take (j+1)=(be k n).take j++[UInt8.ofNat (n/256^(k-1-j)%256)]:=zim _ _ _ (be_at k n j h)
theorem zym (k n:Nat):(be k n).take k=be k n:=List.take_of_length_le (by rw [zcl];exact Nat.le_refl _)
def numB (x k:Int):Bool:=decide (0≤x∧x<256^k.toNat)
def zkb (x k:Int):Int:=if zdm k then if numB x k then 0 else 5 else 1
def zeH (bs:List UInt8) (x k:Int):List UInt8:=if zdm k&&numB x k then bs++be k.toNat x.toNat else []
theorem zwt (k:Nat):∀ n:Nat,n<256^k→big (be k n)=n:=by
 induction k with
 | zero=>intro n h;simp at h;subst h;rfl
 | succ k ih =>
  intro n h
  unfold be
  rw [zlv,ih (n/256) (by rw [Nat.pow_succ] at h;exact Nat.div_lt_of_lt_mul (by rw [Nat.mul_comm];exact h))]
  simp
  omega
theorem zyl (k:Nat) (n:Nat) (b:UInt8):be (k+1) (n*256+b.toNat)=be k n++[b]:=by
 have hb:=b.toNat_lt
 have h1:(n*256+b.toNat)/256=n:=by omega
 have h2:(n*256+b.toNat)%256=b.toNat:=by omega
 show be k ((n*256+b.toNat)/256)++[UInt8.ofNat ((n*256+b.toNat)%256)]=_
 rw [h1,h2]
 simp
theorem be_big (bs:List UInt8):be bs.length (big bs)=bs:=by
 have h:∀ l:List UInt8,be l.reverse.length (big l.reverse)=l.reverse:=by
  intro l
  induction l with
  | nil=>rfl
  | cons b l ih =>
   rw [List.reverse_cons,zlv,List.length_append,List.length_singleton,zyl,ih]
 have:=h bs.reverse
 rwa [List.reverse_reverse] at this
theorem zdS (bs ys:List UInt8):zab (bs++ys) (bs.length:Nat)=bs∧zae (bs++ys) (bs.length:Nat)=ys∧zaY (bs++ys) (bs.length:Nat)=true:=by
 have hb:zaY (bs++ys) (bs.length:Nat)=true:=by unfold zaY;simp;omega
 refine ⟨?_,?_,hb⟩
 ·unfold zab;rw [if_pos hb];exact List.take_left
 ·unfold zae;rw [if_pos hb];exact List.drop_left
def zc0 (s:Int):Bool:=decide (s=0∨s=4∨s=16)
def zaz (s:Int) (bs:List UInt8):Bool:=zc0 s&&(bs.drop s.toNat).all (· == 0)
theorem zly {l:List UInt8} {k:Nat} {b:UInt8} (h:l[k]?=some b):(l.take (k+1)).all (· == 0)=((l.take k).all (· == 0)&&b==0):=by
 rw [List.take_add_one,h,List.all_append]
 simp
theorem zt3 {l:List UInt8} {k:Nat} {b:UInt8} (h:l[k]?=some b) (hb:(b==0)=false):l.all (· == 0)=false:=by
 rw [List.all_eq_false]
 exact ⟨b,List.mem_of_getElem? h,by simp [hb]⟩
def zaw (s:Int) (bs:List UInt8):List UInt8:=if zaz s bs=true then bs.take s.toNat else []
def zct (s:Int) (bs:List UInt8):Bool:=zaz s bs&&(decide (s=4∧224≤(bs.getD 0 0).toNat∧(bs.getD 0 0).toNat<240)||decide (s=16∧(bs.getD 0 0).toNat=255))
theorem zsO (s:Int) (bs:List UInt8) {b:UInt8} (h:bs[0]?=some b):zct s bs=(zaz s bs&&(decide (s=4∧224≤b.toNat∧b.toNat<240)||decide (s=16∧b.toNat=255))):=by
 unfold zct
 rw [List.getD_eq_getElem?_getD,h]
 rfl
def pad (xs:List UInt8):List UInt8:=xs++List.replicate (16-xs.length) 0
def zat:List UInt8:=List.replicate 16 0
def ofS (xs:List UInt8):Int:=if zc0 xs.length=true then xs.length else 0
def ofB (xs:List UInt8):List UInt8:=if zc0 xs.length=true then pad xs else zat
def ofE (xs:List UInt8):Int:=if zc0 xs.length=true then 0 else 1
def zvj (k:Int):Nat:=if 8≤k then 255 else if k≤0 then 0 else 256-2^(8-k.toNat)
def znY (k:Int):UInt8:=UInt8.ofNat (zvj k)
theorem zsZ (k:Int):(znY k).toNat=zvj k:=by
 unfold znY zvj
 split
 ·rfl
 ·split
  ·rfl
  ·rcases (show k=1∨k=2∨k=3∨k=4∨k=5∨k=6∨k=7 by omega) with rfl | rfl | rfl | rfl | rfl | rfl | rfl <;> rfl
def cutK (bits:Int) (k:Nat) (bs:List UInt8):List UInt8:=bs.mapIdx fun j b=>if j<k then b &&& znY (bits-8*j) else b
def cutB (bits:Int) (bs:List UInt8):List UInt8:=cutK bits 16 bs
theorem zpn (bits:Int) (k:Nat) (bs:List UInt8):(cutK bits k bs).length=bs.length:=by simp [cutK]
theorem ztt (bits:Int) (bs:List UInt8):cutK bits 0 bs=bs:=by
 apply List.ext_getElem?
 intro j
 simp [cutK]
theorem zvH (bits:Int) (k:Nat) (bs:List UInt8) {b:UInt8} (h:bs[k]?=some b):(cutK bits k bs)[k]?=some b:=by
 simp [cutK,h]
theorem ztu (bits:Int) (k:Nat) (bs:List UInt8) {b:UInt8} (h:bs[k]?=some b):(cutK bits k bs).set k (b &&& znY (bits-8*k))=cutK bits (k+1) bs:=by
 apply List.ext_getElem?
 intro j
 have hl:k<bs.length:=by
  rcases Nat.lt_or_ge k bs.length with h' | h'
  ·exact h'
  ·rw [List.getElem?_eq_none h'] at h;cases h
 rw [List.getElem?_set]
 by_cases hj:k=j
 ·subst hj
  simp [cutK,hl]
  rw [List.getElem?_eq_getElem hl] at h
  injection h with h
  rw [h]
 ·rw [if_neg hj]
  simp only [cutK,List.getElem?_mapIdx]
  cases bs[j]? with
  | none=>rfl
  | some c =>
   simp only [Option.map_some]
   congr 1
   by_cases h1:j<k
   ·rw [if_pos h1,if_pos (by omega)]
   ·rw [if_neg h1,if_neg (by omega)]
def zhR (s:Int) (bs:List UInt8) (bits:Int):Bool:=zaz s bs&&decide (s≠0∧0≤bits∧bits≤8*s)
def cutS (s:Int) (bs:List UInt8) (bits:Int):Int:=if zhR s bs bits=true then s else 0
def zof (s:Int) (bs:List UInt8) (bits:Int):List UInt8:=if zhR s bs bits=true then cutB bits bs else zat
def cutN (s:Int) (bs:List UInt8) (bits:Int):Int:=if zhR s bs bits=true then bits else 0
def cutE (s:Int) (bs:List UInt8) (bits:Int):Int:=if zhR s bs bits=true then 0 else 1
theorem zvI (bits:Int) {bs:List UInt8} (h:bs.length=16):(cutB bits bs).length=16:=by rw [cutB,zpn,h]
theorem ztv (s:Int) {bs:List UInt8} (bits:Int) (h:bs.length=16):(zof s bs bits).length=16:=by
 unfold zof
 split
 ·exact zvI bits h
 ·rfl
def hasB (sp:Int) (bp:List UInt8) (kp:Int) (s:Int) (bs:List UInt8):Bool:=zhR s bs kp&&decide (s=sp∧cutB kp bs=bp)
theorem zx0 (sp:Int) (bp:List UInt8) (kp:Int) (s:Int) (bs:List UInt8) (h:zhR s bs kp=true):decide (cutS s bs kp=sp∧zof s bs kp=bp∧cutN s bs kp=kp)=hasB sp bp kp s bs:=by
 unfold hasB cutS zof cutN
 rw [if_pos h,if_pos h,if_pos h,h]
 simp
open Go
theorem zu5 (xs:List UInt8) (h:xs.length≤1000):(ofB xs).length=16:=by
 unfold ofB
 split
 ·rename_i hs
  have:(xs.length:Int)=0∨(xs.length:Int)=4∨(xs.length:Int)=16:=of_decide_eq_true hs
  unfold pad
  simp;omega
 ·rfl
theorem zut {xs ys:List UInt8} {n:Int} (h:n=(xs.length:Nat)):zab (xs++ys) n=xs∧zae (xs++ys) n=ys:=by
 subst h
 exact ⟨(zdS xs ys).1,(zdS xs ys).2.1⟩
theorem zuu (xs:List UInt8):zab xs (xs.length:Nat)=xs∧zae xs (xs.length:Nat)=[]:=by
 have:=zut (xs:=xs) (ys:=[]) (n:=(xs.length:Nat)) rfl
 simpa using this
theorem zcP {bs:List UInt8} {n:Int} {k:Nat} (h:n≤k):(zab bs n).length≤k:=by
 unfold zab
 split
 ·rw [List.length_take];omega
 ·simp
end
end Go.Proofs.YtjindligkhdddaaGreatDoor
