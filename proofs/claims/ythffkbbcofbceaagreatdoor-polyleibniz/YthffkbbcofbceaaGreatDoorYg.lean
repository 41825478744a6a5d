/- Texts as bytes, numbers as decimal digits. No program. -/
import Derived.Test.YthffkbbcofbceaaGreatDoorYf
import Derived.Test.YthffkbbcofbceaaGreatDoorYa
import Derived.Deep.RegionHeld3
namespace Cin
open Go Go.RowKit
def byts (s:ByteArray):List Nat:=s.data.toList.map UInt8.toNat
theorem byts_length (s:ByteArray):(byts s).length=s.size:=by unfold byts; rw [List.length_map,Array.length_toList]; rfl
theorem byts_at (s:ByteArray) {i:Nat} (h:i < s.size):(s[i]'h).toNat=lim (byts s) i:=by
  rw [lim_eq (by rw [byts_length]; exact h)]
  simp only [byts,List.getElem_map]
  rfl
theorem byts_extract (s:ByteArray) (a b:Nat):byts (s.extract a b)=((byts s).drop a).take (b - a):=by
  simp only [byts,ByteArray.data_extract,Array.toList_extract]
  simp [List.map_take,List.map_drop,List.extract_eq_take_drop]
def decL (l:List Nat):Nat:=l.foldl (fun a c=>a * 10+(c - 48)) 0
def Digs (l:List Nat):Prop:=∀ c∈l,48≤c∧c≤57
theorem decL_foldl (l:List Nat) (x:Nat):l.foldl (fun a c=>a * 10+(c - 48)) x=x * 10 ^ l.length+decL l:=by
  induction l generalizing x with
  | nil=>simp [decL]
  | cons c l ih=>
    unfold decL
    rw [List.foldl_cons,List.foldl_cons,ih,ih (0 * 10+(c - 48)),List.length_cons,Nat.pow_succ]
    have e:(x * 10+(c - 48)) * 10 ^ l.length=x * (10 ^ l.length * 10)+(c - 48) * 10 ^ l.length:=by rw [Nat.add_mul,Nat.mul_assoc,Nat.mul_comm 10]
    rw [e]; simp only [Nat.zero_mul,Nat.zero_add]; omega
theorem decL_append (l m:List Nat):decL (l++m)=decL l * 10 ^ m.length+decL m:=by
  conv=>lhs; unfold decL; rw [List.foldl_append,decL_foldl]
  rfl
theorem decL_snoc (l:List Nat) (c:Nat):decL (l++[c])=decL l * 10+(c - 48):=by
  rw [decL_append,List.length_singleton,Nat.pow_one]; simp [decL]
theorem decL_take_succ {l:List Nat} {i:Nat} (h:i < l.length):decL (l.take (i+1))=decL (l.take i) * 10+(lim l i - 48):=by
  rw [take_succ_lim h,decL_snoc]
theorem Digs.lim {l:List Nat} (h:Digs l) {i:Nat} (hi:i < l.length):48≤Cin.lim l i∧Cin.lim l i≤57:=by
  rw [lim_eq hi]; exact h _ (List.getElem_mem _)
theorem decL_cons (c:Nat) (l:List Nat):decL (c::l)=(c - 48) * 10 ^ l.length+decL l:=by
  have:=decL_append [c] l
  rw [List.singleton_append] at this
  rw [this]
  show (0 * 10+(c - 48)) * _+_=_
  rw [Nat.zero_mul,Nat.zero_add]
theorem decL_lt:∀ {l:List Nat},Digs l→decL l < 10 ^ l.length
  | [],_=>by simp [decL]
  | c::l,h=>by
    have h1:=decL_lt (fun x hx=>h x (by simp [hx]):Digs l)
    have h2:=h c (by simp)
    rw [decL_cons,List.length_cons,Nat.pow_succ]
    have:(c - 48) * 10 ^ l.length≤9 * 10 ^ l.length:=Nat.mul_le_mul_right _ (by omega)
    omega
def IsNum (l:List Nat):Prop:=1≤l.length∧l.length≤4000∧(l.length=1∨lim l 0≠48)∧Digs l
end Cin

namespace Cin
open Go Go.RowKit
def Held (w:World):List (Nat × Array Value × TypeId)→Prop
  | []=>True
  | (b,c,t)::L=>w.heap[b]?=some (.cells c t (0,0))∧Held w L
theorem Held.below {w w':World}:∀ {L:List (Nat × Array Value × TypeId)},Held w L→Below w.heap.size w w'→Held w' L
  | [],_,_=>trivial
  | (_,_,_)::_,h,hb=>⟨(hb.block _ (lt_of_heap h.1)).trans h.1,Held.below h.2 hb⟩
theorem Held.drew {w:World} {L:List (Nat × Array Value × TypeId)} (h:Held w L):Held w.drew L:=h.below (Below.refl _ _).drew
theorem Held.new {w:World} {L:List (Nat × Array Value × TypeId)} (h:Held w L) (c:Array Value) (t:TypeId):Held (w.alloc (.cells c t)) ((w.heap.size,c,t)::L):=
  ⟨new_block _ _,h.below (bel_alloc _ _)⟩
section
variable {w:World} {c0 c1 c2 c3 c4:Array Value} {t0 t1 t2 t3 t4:TypeId}
theorem heldN1:Held (w.alloc (.cells c0 t0)) [(w.heap.size,c0,t0)]:=⟨new_block _ _,trivial⟩
theorem heldN2:Held ((w.alloc (.cells c0 t0)).alloc (.cells c1 t1)) [(w.heap.size,c0,t0),(w.heap.size+1,c1,t1)]:=⟨new_block2 _ _ _,nb21 _ _ _,trivial⟩
theorem heldN3:Held (((w.alloc (.cells c0 t0)).alloc (.cells c1 t1)).alloc (.cells c2 t2)) [(w.heap.size,c0,t0),(w.heap.size+1,c1,t1),(w.heap.size+1+1,c2,t2)]:=⟨new_block3 _ _ _ _,nb31 _ _ _ _,nb32 _ _ _ _,trivial⟩
theorem heldN4:Held ((((w.alloc (.cells c0 t0)).alloc (.cells c1 t1)).alloc (.cells c2 t2)).alloc (.cells c3 t3)) [(w.heap.size,c0,t0),(w.heap.size+1,c1,t1),(w.heap.size+1+1,c2,t2),(w.heap.size+1+1+1,c3,t3)]:=⟨nb40 _ _ _ _ _,nb41 _ _ _ _ _,nb42 _ _ _ _ _,nb43 _ _ _ _ _,trivial⟩
end
theorem cell_drew (w:World) (a:Addr):w.drew.cell? a=w.cell? a:=rfl
theorem frozen_drew (w:World) (a:Addr):w.drew.frozen? a=w.frozen? a:=rfl
theorem cell_lt {w:World} {b o:Nat} {x:Value} (h:w.cell? ⟨b,o,none⟩=some x):b < w.heap.size:=by
  rcases Nat.lt_or_ge b w.heap.size with h' | h'
  · exact h'
  · simp [World.cell?,Array.getElem?_eq_none h'] at h
theorem cell_below {w w':World} {b o:Nat} {x:Value} (h:w.cell? ⟨b,o,none⟩=some x) (hb:Below w.heap.size w w'):w'.cell? ⟨b,o,none⟩=some x:=by rw [hb.cell (cell_lt h)]; exact h
theorem cell_set {w:World} {b o b' o':Nat} {x u:Value} (h:w.cell? ⟨b,o,none⟩=some x) (hb:b≠b'):(w.setCell ⟨b',o',none⟩ u).cell? ⟨b,o,none⟩=some x:=by
  rw [World.cell?_setCell_other _ _ _ _ (by intro e; injection e with e1; exact hb e1.symm)]; exact h
theorem below_drew {B:Nat} {w X:World}:Below B w X.drew↔Below B w X:=⟨fun h=>⟨h.os,h.tape,h.output,h.size,h.block⟩,fun h=>h.drew⟩
theorem bel_set1 {B:Nat} {w X:World} {b o:Nat} {u:Value} (h:Below B w X) (hb:B≤b):Below B w (X.setCell ⟨b,o,none⟩ u):=h.setCell (p:=⟨b,o,none⟩) hb u
theorem bel_set2 {B:Nat} {w X:World} {b o b' o':Nat} {u u':Value} (h:Below B w X) (hb:B≤b) (hb':B≤b'):Below B w ((X.setCell ⟨b,o,none⟩ u).setCell ⟨b',o',none⟩ u'):=bel_set1 (bel_set1 h hb) hb'
theorem cell0 {w:World} {b:Nat} {x:Value} {l:List Value} {t:TypeId} (h:w.heap[b]?=some (.cells (x::l).toArray t (0,0))):w.cell? ⟨b,0,none⟩=some x:=by rw [cell_of h]; simp
theorem cell1 {w:World} {b:Nat} {x y:Value} {l:List Value} {t:TypeId} (h:w.heap[b]?=some (.cells (x::y::l).toArray t (0,0))):w.cell? ⟨b,1,none⟩=some y:=by rw [cell_of h]; simp
def Slot (w:World) (b:Nat) (t:TypeId) (n:Nat):Prop:=∃ c:Array Value,c.size=n∧w.heap[b]?=some (.cells c t (0,0))
section
variable {w w':World} {b n:Nat} {t:TypeId}
theorem Slot.of {c:Array Value} (h:w.heap[b]?=some (.cells c t (0,0))) (hn:c.size=n):Slot w b t n:=⟨c,hn,h⟩
theorem Slot.lt (h:Slot w b t n):b < w.heap.size:=let ⟨_,_,h⟩:=h; lt_of_heap h
theorem Slot.below (h:Slot w b t n) (hb:Below w.heap.size w w'):Slot w' b t n:=let ⟨c,hn,h⟩:=h; ⟨c,hn,(hb.block _ (lt_of_heap h)).trans h⟩
theorem Slot.drew (h:Slot w b t n):Slot w.drew b t n:=h
theorem slot_drew:Slot w.drew b t n↔Slot w b t n:=Iff.rfl
theorem Slot.set (h:Slot w b t n) (b' o:Nat) (u:Value):Slot (w.setCell ⟨b',o,none⟩ u) b t n:=by
  obtain ⟨c,hn,h⟩:=h
  by_cases hb:b'=b
  · subst hb
    have:(w.setCell ⟨b',o,none⟩ u).heap[b']?=some (.cells (c.setIfInBounds o u) t (0,0)):=by simp [World.setCell,Array.getElem?_modify,h]
    exact ⟨_,by simpa using hn,this⟩
  · exact ⟨c,hn,by rw [Below.heap_setCell _ _ _ _ (show b≠b' from Ne.symm hb)]; exact h⟩
theorem Slot.one (h:Slot w b t 1):∃ x,w.cell? ⟨b,0,none⟩=some x∧w.frozen? ⟨b,0,none⟩=false:=by
  obtain ⟨c,hn,h⟩:=h
  exact ⟨c[0]'(by omega),by rw [cell_of h,Array.getElem?_eq_getElem (by omega)],free_of h 0⟩
theorem Slot.two (h:Slot w b t 2):∃ x y,w.cell? ⟨b,0,none⟩=some x∧w.cell? ⟨b,1,none⟩=some y∧w.frozen? ⟨b,0,none⟩=false∧w.frozen? ⟨b,1,none⟩=false:=by
  obtain ⟨c,hn,h⟩:=h
  exact ⟨c[0]'(by omega),c[1]'(by omega),by rw [cell_of h,Array.getElem?_eq_getElem (by omega)],by rw [cell_of h,Array.getElem?_eq_getElem (by omega)],free_of h 0,free_of h 1⟩
theorem Slot.set2 (h:Slot w b t 2) (u u':Value):((w.setCell ⟨b,0,none⟩ u).setCell ⟨b,1,none⟩ u').cell? ⟨b,0,none⟩=some u∧((w.setCell ⟨b,0,none⟩ u).setCell ⟨b,1,none⟩ u').cell? ⟨b,1,none⟩=some u':=by
  obtain ⟨x,y,hx,hy,_⟩:=h.two
  refine ⟨?_,?_⟩
  · rw [World.cell?_setCell_other _ _ _ _ (by intro e; injection e with _ e2; cases e2)]; exact World.cell?_setCell_same _ _ _ hx
  · refine World.cell?_setCell_same _ _ _ (u:=y) ?_
    rw [World.cell?_setCell_other _ _ _ _ (by intro e; injection e with _ e2; cases e2)]; exact hy
theorem Slot.set1 (h:Slot w b t 1) (u:Value):(w.setCell ⟨b,0,none⟩ u).cell? ⟨b,0,none⟩=some u:=by
  obtain ⟨x,hx,_⟩:=h.one
  exact World.cell?_setCell_same _ _ _ hx
theorem RefV.slot {tt:TypeId} {v:Value} {m:Nat} (h:RefV tt w v m) (hs:Slot w b t n) (ht:t≠tt) (o:Nat) (u:Value):RefV tt (w.setCell ⟨b,o,none⟩ u) v m:=
  let ⟨_,_,hk⟩:=hs; h.setOther (a:=⟨b,o,none⟩) hk ht u
end
def NatB (t:TypeId) (w:World) (v:Value) (n k:Nat):Prop:=NatV t w v n∧n < pw k
def IntV (t:TypeId) (w:World) (v:Value) (z:Int):Prop:=∃ s,v=.agg #[.bool (decide (z < 0)),s]∧RefV t w s z.natAbs
def IntB (t:TypeId) (w:World) (v:Value) (z:Int) (k:Nat):Prop:=IntV t w v z∧z.natAbs < pw k
section
variable {t:TypeId} {w w':World} {v:Value} {n k:Nat} {z:Int}
theorem NatB.below (h:NatB t w v n k) (hb:Below w.heap.size w w'):NatB t w' v n k:=⟨h.1.below hb,h.2⟩
theorem IntV.below (h:IntV t w v z) (hb:Below w.heap.size w w'):IntV t w' v z:=let ⟨s,e,r⟩:=h; ⟨s,e,r.below hb⟩
theorem IntB.below (h:IntB t w v z k) (hb:Below w.heap.size w w'):IntB t w' v z k:=⟨h.1.below hb,h.2⟩
theorem NatB.mono {j:Nat} (h:NatB t w v n k) (hj:k≤j):NatB t w v n j:=⟨h.1,lt_pw_mono h.2 hj⟩
theorem IntB.mono {j:Nat} (h:IntB t w v z k) (hj:k≤j):IntB t w v z j:=⟨h.1,lt_pw_mono h.2 hj⟩
theorem IntV.shape (h:IntV t w v z):∃ ad len cap,v=.agg #[.bool (decide (z < 0)),.slice ad len cap]∧RefV t w (.slice ad len cap) z.natAbs:=by
  obtain ⟨s,rfl,hr⟩:=h
  obtain ⟨ad,len,cap,xs,rfl,_⟩:=hr.shape
  exact ⟨ad,len,cap,rfl,hr⟩
theorem IntB.shape (h:IntB t w v z k):∃ ad len cap,v=.agg #[.bool (decide (z < 0)),.slice ad len cap]∧RefV t w (.slice ad len cap) z.natAbs:=h.1.shape
theorem IntB.shape2 (h:IntB t w v z k):∃ bb ad len cap,v=.agg #[.bool bb,.slice ad len cap]∧Hid (bb=decide (z < 0)):=
  let ⟨ad,len,cap,e,_⟩:=h.shape; ⟨_,ad,len,cap,e,Lib.hid rfl⟩
theorem NatB.shape (h:NatB t w v n k):∃ ad len cap,v=.agg #[.slice ad len cap]∧RefV t w (.slice ad len cap) n:=h.1.shape
theorem IntV.zero (t:TypeId) (w:World):IntV t w (.agg #[.bool false,.slice none 0 0]) 0:=⟨_,rfl,RefV.zero _ _⟩
theorem IntB.zero (t:TypeId) (w:World) (k:Nat):IntB t w (.agg #[.bool false,.slice none 0 0]) 0 k:=⟨IntV.zero _ _,pw_pos k⟩
theorem IntB.setOther (h:IntB t w v z k) {t':TypeId} {a:Addr} {c:Array Value} {f:Nat × Nat} (hb:w.heap[a.block]?=some (.cells c t' f)) (ht:t'≠t) (u:Value):IntB t (w.setCell a u) v z k:=
  let ⟨⟨s,e,r⟩,hk⟩:=h; ⟨⟨s,e,r.setOther hb ht u⟩,hk⟩
theorem IntB.part {ad:Option Addr} {len cap:Nat} {b:Bool} (h:IntB t w (.agg #[.bool b,.slice ad len cap]) z k):NatB t w (.agg #[.slice ad len cap]) z.natAbs k∧b=decide (z < 0):=by
  obtain ⟨⟨s,e,r⟩,hk⟩:=h
  injection e with e
  injection e with e
  simp only [List.cons.injEq,Value.bool.injEq,and_true] at e
  obtain ⟨rfl,rfl⟩:=e
  exact ⟨⟨⟨_,rfl,r⟩,hk⟩,rfl⟩
end
def sg (b:Bool) (n:Nat):Int:=if b then -(n:Int) else n
theorem sg_natAbs (b:Bool) (n:Nat):(sg b n).natAbs=n:=by unfold sg; split <;> simp
theorem sg_neg (b:Bool) (n:Nat):decide (sg b n < 0)=(b && !decide (n=0)):=by
  unfold sg
  cases b
  · simp
  · by_cases h:n=0
    · simp [h]
    · simp [h]; omega
theorem sg_of (z:Int):sg (decide (z < 0)) z.natAbs=z:=by unfold sg; split <;> rename_i h <;> simp at h <;> omega
theorem intB_of {t:TypeId} {w:World} {s:Value} {b bb:Bool} {n k:Nat} (h:RefV t w s n) (hk:n < pw k) (e:bb=(b && !decide (n=0))):IntB t w (.agg #[.bool bb,s]) (sg b n) k:=
  ⟨⟨s,by rw [sg_neg,e],by rw [sg_natAbs]; exact h⟩,by rw [sg_natAbs]; exact hk⟩
def cmpZ (x y:Int):Int:=if x < y then -1 else if y < x then 1 else 0
def sgnZ (x:Int):Int:=if x < 0 then -1 else if 0 < x then 1 else 0
theorem pw_big (a b:Nat):pw a+pw b≤pw (a+b+1):=by
  have h1:=pw_le (a:=a) (b:=a+b) (by omega)
  have h2:=pw_le (a:=b) (b:=a+b) (by omega)
  rw [pw_succ]; omega
theorem mul_bound {x y:Int} {a b:Nat} (hx:x.natAbs < pw a) (hy:y.natAbs < pw b):(x * y).natAbs < pw (a+b):=by
  rw [Int.natAbs_mul,pw_add]; exact Nat.mul_lt_mul'' hx hy
theorem fin_int {t ti:TypeId} {w0 w1:World} {b k:Nat} {bb:Bool} {s:Value} {z:Int} (hI:IntB t w1 (.agg #[.bool bb,s]) z k) (hs:Slot w1 b ti 2) (ht:ti≠t) (hB:Below w0.heap.size w0 w1) (hb:w0.heap.size≤b) :
    IntB t ((w1.setCell ⟨b,0,none⟩ (.bool bb)).setCell ⟨b,1,none⟩ s) (.agg #[.bool bb,s]) z k∧Below w0.heap.size w0 ((w1.setCell ⟨b,0,none⟩ (.bool bb)).setCell ⟨b,1,none⟩ s) ∧
      ((w1.setCell ⟨b,0,none⟩ (.bool bb)).setCell ⟨b,1,none⟩ s).cell? ⟨b,0,none⟩=some (.bool bb)∧((w1.setCell ⟨b,0,none⟩ (.bool bb)).setCell ⟨b,1,none⟩ s).cell? ⟨b,1,none⟩=some s:=by
  obtain ⟨⟨s',e,r⟩,hk⟩:=hI
  injection e with e
  injection e with e
  simp only [List.cons.injEq,Value.bool.injEq,and_true] at e
  obtain ⟨rfl,rfl⟩:=e
  exact ⟨⟨⟨_,rfl,(r.slot hs ht 0 _).slot (hs.set b 0 _) ht 1 _⟩,hk⟩,bel_set2 hB hb hb,hs.set2 _ _⟩
theorem IntB.slot {t tt:TypeId} {w:World} {v:Value} {z:Int} {k b n:Nat} (h:IntB tt w v z k) (hs:Slot w b t n) (ht:t≠tt) (o:Nat) (u:Value):IntB tt (w.setCell ⟨b,o,none⟩ u) v z k:=
  let ⟨_,_,hk⟩:=hs; h.setOther (a:=⟨b,o,none⟩) hk ht u
theorem fin_int2 {t t1 t2:TypeId} {w0 w1:World} {b c k j:Nat} {bb cc:Bool} {s r:Value} {z y:Int} (hI:IntB t w1 (.agg #[.bool bb,s]) z k) (hJ:IntB t w1 (.agg #[.bool cc,r]) y j) (hs:Slot w1 b t1 2) (hr:Slot w1 c t2 2) (h1:t1≠t) (h2:t2≠t)
    (hB:Below w0.heap.size w0 w1) (hb:w0.heap.size≤b) (hc:w0.heap.size≤c) (hne:b≠c) {W:World} (hW:W=(((w1.setCell ⟨b,0,none⟩ (.bool bb)).setCell ⟨b,1,none⟩ s).setCell ⟨c,0,none⟩ (.bool cc)).setCell ⟨c,1,none⟩ r) :
    IntB t W (.agg #[.bool bb,s]) z k∧IntB t W (.agg #[.bool cc,r]) y j∧Below w0.heap.size w0 W ∧
      W.cell? ⟨b,0,none⟩=some (.bool bb)∧W.cell? ⟨b,1,none⟩=some s∧W.cell? ⟨c,0,none⟩=some (.bool cc)∧W.cell? ⟨c,1,none⟩=some r:=by
  subst hW
  have hr2:=(hr.set b 0 (.bool bb)).set b 1 s
  have e:=hs.set2 (.bool bb) s
  have e2:=hr2.set2 (.bool cc) r
  refine ⟨(((hI.slot hs h1 0 _).slot (hs.set b 0 _) h1 1 _).slot hr2 h2 0 _).slot (hr2.set c 0 _) h2 1 _,(((hJ.slot hs h1 0 _).slot (hs.set b 0 _) h1 1 _).slot hr2 h2 0 _).slot (hr2.set c 0 _) h2 1 _,bel_set2 (bel_set2 hB hb hb) hc hc,?_,?_,e2.1,e2.2⟩
  · exact cell_set (cell_set e.1 hne) hne
  · exact cell_set (cell_set e.2 hne) hne
theorem NatB.slot {t tt:TypeId} {w:World} {v:Value} {m k b n:Nat} (h:NatB tt w v m k) (hs:Slot w b t n) (ht:t≠tt) (o:Nat) (u:Value):NatB tt (w.setCell ⟨b,o,none⟩ u) v m k:=
  let ⟨_,_,hk⟩:=hs; ⟨h.1.setOther (a:=⟨b,o,none⟩) hk ht u,h.2⟩
theorem fin_nat2 {t t1 t2:TypeId} {w0 w1:World} {b c k j m n:Nat} {s r:Value} (hI:NatB t w1 (.agg #[s]) m k) (hJ:NatB t w1 (.agg #[r]) n j) (hs:Slot w1 b t1 1) (hr:Slot w1 c t2 1) (h1:t1≠t) (h2:t2≠t)
    (hB:Below w0.heap.size w0 w1) (hb:w0.heap.size≤b) (hc:w0.heap.size≤c) (hne:b≠c) {W:World} (hW:W=(w1.setCell ⟨b,0,none⟩ s).setCell ⟨c,0,none⟩ r) :
    NatB t W (.agg #[s]) m k∧NatB t W (.agg #[r]) n j∧Below w0.heap.size w0 W∧W.cell? ⟨b,0,none⟩=some s∧W.cell? ⟨c,0,none⟩=some r:=by
  subst hW
  have hr2:=hr.set b 0 s
  exact ⟨(hI.slot hs h1 0 _).slot hr2 h2 0 _,(hJ.slot hs h1 0 _).slot hr2 h2 0 _,bel_set2 hB hb hc,cell_set (hs.set1 s) hne,hr2.set1 r⟩
theorem NatB.shape2 {t:TypeId} {w:World} {v:Value} {n k:Nat} (h:NatB t w v n k):∃ ad len cap,v=.agg #[.slice ad len cap]:=let ⟨ad,len,cap,e,_⟩:=h.shape; ⟨ad,len,cap,e⟩
end Cin

namespace Cin
open Go Go.RowKit
def Mono (D:TypeId→Bool) (F:World→Prop):Prop:=∀ u w,Ext D u w→F u→F w
section mono
variable {D:TypeId→Bool} {F G:World→Prop} {t:TypeId} {u w:World}
theorem Mono.and (h:Mono D F) (h':Mono D G):Mono D fun w=>F w∧G w:=fun u w e ⟨a,b⟩=>⟨h u w e a,h' u w e b⟩
theorem Mono.true:Mono D fun _=>True:=fun _ _ _ _=>trivial
theorem Sl.ext {k:IntKind} {v:Value} {xs:List Nat} (h:Sl t k u v xs) (e:Ext D u w) (ht:D t=true):Sl t k w v xs:=by
  rcases h with ⟨rfl,rfl⟩ | ⟨b,off,cap,cur,rfl,hB,r⟩
  · exact .inl ⟨rfl,rfl⟩
  · exact .inr ⟨b,off,cap,cur,rfl,e.block b _ _ _ hB ht,r⟩
theorem RefV.ext {v:Value} {n:Nat} (h:RefV t u v n) (e:Ext D u w) (ht:D t=true):RefV t w v n:=let ⟨xs,h1,h2⟩:=h; ⟨xs,h1.ext e ht,h2⟩
theorem NatB.ext {v:Value} {n k:Nat} (h:NatB t u v n k) (e:Ext D u w) (ht:D t=true):NatB t w v n k:=let ⟨⟨s,h1,h2⟩,hk⟩:=h; ⟨⟨s,h1,h2.ext e ht⟩,hk⟩
theorem IntB.ext {v:Value} {z:Int} {k:Nat} (h:IntB t u v z k) (e:Ext D u w) (ht:D t=true):IntB t w v z k:=let ⟨⟨s,h1,h2⟩,hk⟩:=h; ⟨⟨s,h1,h2.ext e ht⟩,hk⟩
theorem monoNat (ht:D t=true) (v:Value) (n k:Nat):Mono D fun w=>NatB t w v n k:=fun _ _ e h=>h.ext e ht
theorem monoInt (ht:D t=true) (v:Value) (z:Int) (k:Nat):Mono D fun w=>IntB t w v z k:=fun _ _ e h=>h.ext e ht
theorem monoRef (ht:D t=true) (v:Value) (n k:Nat):Mono D fun w=>RefV t w v n∧n < pw k:=fun _ _ e h=>⟨h.1.ext e ht,h.2⟩
end mono
def Wk (P:Program) (w0:World) (D Z:TypeId→Bool) (Post:Ending→World→Prop) (L:LC) (F:World→Prop) (tr:Tr) (E:Env):Prop:=
  Mono D F→∀ u:Gh,F u.w→interp P (Bs.of w0) D Z Post tr L E u
section rules
variable {P:Program} {w0:World} {D Z:TypeId→Bool} {Post:Ending→World→Prop} {F:World→Prop} {E:Env} {k:Tr} {L:LC}
theorem wRet {x:SV} (h:∀ w,Below w0.heap.size w0 w→F w→Post (.returned (x.den [] E)) w):Wk P w0 D Z Post L F (.ret x) E:=
  fun hm u hF w e b=>h w b.bel (hm u.w w e.ext hF)
theorem wIf {c:A} {x y:Tr} (b:Bool) (hc:c.den [] E=.bool b) (h1:b=true→Wk P w0 D Z Post L F x E) (h2:b=false→Wk P w0 D Z Post L F y E):Wk P w0 D Z Post L F (.cond c x y) E:=
  fun hm u hF=>⟨b,hc,fun e=>h1 e hm u hF,fun e=>h2 e hm u hF⟩
theorem wTrue {c:A} {x y:Tr} (hc:c.den [] E=.bool true) (h1:Wk P w0 D Z Post L F x E):Wk P w0 D Z Post L F (.cond c x y) E:=wIf true hc (fun _=>h1) (fun h=>by cases h)
theorem wFalse {c:A} {x y:Tr} (hc:c.den [] E=.bool false) (h1:Wk P w0 D Z Post L F y E):Wk P w0 D Z Post L F (.cond c x y) E:=wIf false hc (fun h=>by cases h) (fun _=>h1)
theorem wPr {op:Op} {ty:TypeId} {ar:List V1} {v:Value} (h:PrimOk P op ty (ar.map (V1.den [] E)) v) (hv:v.oneCell'=true) {E':Env} (hk:Wk P w0 D Z Post L F k E') (hE:E++[[v]]=E':=by intros; (simp only [List.cons_append,List.nil_append]) <;> exact rfl):Wk P w0 D Z Post L F (.em (.pr op ty ar) k) E:=
  fun hm u hF=>⟨v,h,hv,hE ▸ hk hm u hF⟩
theorem wMono {G:World→Prop} (hG:Mono D G) (h:∀ w,F w→G w) {tr:Tr} (hk:Wk P w0 D Z Post L G tr E):Wk P w0 D Z Post L F tr E:=fun _ u hF=>hk hG u (h u.w hF)
theorem wCall {f:FuncId} {ar:List V1} {sh:List (Option Nat)} {args:Array Value} (G:List Value→World→Prop) (hG:∀ cs,Mono D (G cs))
    (hc:∀ w,Below w0.heap.size w0 w→F w→Calls P f args w fun e w'=>∃ cs:List Value,e=.returned ((mkSV sh 0).den [] [cs])∧cs.all Value.oneCell'=true∧G cs w'∧Below w.heap.size w w')
    {E':List Value→Env} (hk:∀ cs,Wk P w0 D Z Post L (fun w=>G cs w∧F w) k (E' cs)) (ha:(ar.map (V1.den [] E)).toArray=args:=by rfl) (hE:∀ cs,E++[cs]=E' cs:=by intros; (simp only [List.cons_append,List.nil_append]) <;> exact rfl):Wk P w0 D Z Post L F (.em (.call f ar sh) k) E:=by
  intro hm u hF w e bx
  have b:=bx.bel
  subst ha
  refine (hc w b (hm u.w w e.ext hF)).mono ?_
  rintro e1 w' ⟨cs,h1,h2,h3,h4⟩
  exact ⟨cs,h1,h2,.inl h4,hE cs ▸ hk cs ((hG cs).and hm) (u.more w w') ⟨h3,hm u.w w' (e.below h4).ext hF⟩⟩
theorem wVal {f:FuncId} {ar:List V1} {args:Array Value} {v:Value}
    (hc:∀ w,Below w0.heap.size w0 w→F w→Calls P f args w fun e w'=>e=.returned v∧Below w.heap.size w w') (hv:v.oneCell'=true)
    {E':Env} (hk:Wk P w0 D Z Post L F k E') (ha:(ar.map (V1.den [] E)).toArray=args:=by rfl) (hE:E++[[v]]=E':=by intros; (simp only [List.cons_append,List.nil_append]) <;> exact rfl):Wk P w0 D Z Post L F (.em (.call f ar [none]) k) E:=by
  intro hm u hF w e bx
  have b:=bx.bel
  subst ha
  refine (hc w b (hm u.w w e.ext hF)).mono ?_
  rintro e1 w' ⟨rfl,h4⟩
  exact ⟨[v],rfl,by simp [hv],.inl h4,hE ▸ hk hm (u.more w w') (hm u.w w' (e.below h4).ext hF)⟩
theorem wInt {t:TypeId} (ht:D t=true) {f:FuncId} {ar:List V1} {args:Array Value} {z:Int} {m:Nat}
    (hc:∀ w,Below w0.heap.size w0 w→F w→Calls P f args w fun e w'=>∃ v,e=.returned v∧IntB t w' v z m∧Below w.heap.size w w')
    {E':Value→Value→Env} (hk:∀ x y,Wk P w0 D Z Post L (fun w=>IntB t w (.agg #[x,y]) z m∧F w) k (E' x y)) (ha:(ar.map (V1.den [] E)).toArray=args:=by rfl) (hE:∀ x y,E++[[x,y]]=E' x y:=by intros; (simp only [List.cons_append,List.nil_append]) <;> exact rfl):Wk P w0 D Z Post L F (.em (.call f ar [some 2]) k) E:=by
  intro hm u hF w e bx
  have b:=bx.bel
  subst ha
  refine (hc w b (hm u.w w e.ext hF)).mono ?_
  rintro e1 w' ⟨v,rfl,hv,h4⟩
  obtain ⟨bb,ad,len,cap,rfl,_⟩:=hv.shape2
  exact ⟨[.bool bb,.slice ad len cap],rfl,rfl,.inl h4,hE _ _ ▸ hk _ _ ((monoInt ht _ _ _).and hm) (u.more w w') ⟨hv,hm u.w w' (e.below h4).ext hF⟩⟩
theorem wNat {t:TypeId} (ht:D t=true) {f:FuncId} {ar:List V1} {args:Array Value} {n m:Nat}
    (hc:∀ w,Below w0.heap.size w0 w→F w→Calls P f args w fun e w'=>∃ v,e=.returned v∧NatB t w' v n m∧Below w.heap.size w w')
    {E':Value→Env} (hk:∀ x,Wk P w0 D Z Post L (fun w=>NatB t w (.agg #[x]) n m∧F w) k (E' x)) (ha:(ar.map (V1.den [] E)).toArray=args:=by rfl) (hE:∀ x,E++[[x]]=E' x:=by intros; (simp only [List.cons_append,List.nil_append]) <;> exact rfl):Wk P w0 D Z Post L F (.em (.call f ar [some 1]) k) E:=by
  intro hm u hF w e bx
  have b:=bx.bel
  subst ha
  refine (hc w b (hm u.w w e.ext hF)).mono ?_
  rintro e1 w' ⟨v,rfl,hv,h4⟩
  obtain ⟨ad,len,cap,rfl⟩:=hv.shape2
  exact ⟨[.slice ad len cap],rfl,rfl,.inl h4,hE _ ▸ hk _ ((monoNat ht _ _ _).and hm) (u.more w w') ⟨hv,hm u.w w' (e.below h4).ext hF⟩⟩
theorem wRef {t:TypeId} (ht:D t=true) {f:FuncId} {ar:List V1} {args:Array Value} {n m:Nat}
    (hc:∀ w,Below w0.heap.size w0 w→F w→Calls P f args w fun e w'=>∃ v,e=.returned v∧(RefV t w' v n∧n < pw m)∧Below w.heap.size w w')
    {E':Value→Env} (hk:∀ x,Wk P w0 D Z Post L (fun w=>(RefV t w x n∧n < pw m)∧F w) k (E' x)) (ha:(ar.map (V1.den [] E)).toArray=args:=by rfl) (hE:∀ x,E++[[x]]=E' x:=by intros; (simp only [List.cons_append,List.nil_append]) <;> exact rfl):Wk P w0 D Z Post L F (.em (.call f ar [none]) k) E:=by
  intro hm u hF w e bx
  have b:=bx.bel
  subst ha
  refine (hc w b (hm u.w w e.ext hF)).mono ?_
  rintro e1 w' ⟨v,rfl,hv,h4⟩
  obtain ⟨ad,len,cap,_,rfl,_⟩:=hv.1.shape
  exact ⟨[.slice ad len cap],rfl,rfl,.inl h4,hE _ ▸ hk _ ((monoRef ht _ _ _).and hm) (u.more w w') ⟨hv,hm u.w w' (e.below h4).ext hF⟩⟩
theorem wKnown {f:FuncId} {ar:List V1} {sh:List (Option Nat)} {args:Array Value} {V:Value} (cs:List Value)
    (hc:∀ w,Below w0.heap.size w0 w→F w→Calls P f args w fun e w'=>e=.returned V∧Below w.heap.size w w') (hV:(mkSV sh 0).den [] [cs]=V) (hv:cs.all Value.oneCell'=true)
    {E':Env} (hk:Wk P w0 D Z Post L F k E') (ha:(ar.map (V1.den [] E)).toArray=args:=by rfl) (hE:E++[cs]=E':=by intros; (simp only [List.cons_append,List.nil_append]) <;> exact rfl):Wk P w0 D Z Post L F (.em (.call f ar sh) k) E:=by
  intro hm u hF w e bx
  have b:=bx.bel
  subst ha hV
  refine (hc w b (hm u.w w e.ext hF)).mono ?_
  rintro e1 w' ⟨rfl,h4⟩
  exact ⟨cs,rfl,hv,.inl h4,hE ▸ hk hm (u.more w w') (hm u.w w' (e.below h4).ext hF)⟩
theorem wIntV {t:TypeId} (ht:D t=true) {f:FuncId} {ar:List V1} {args:Array Value} {z:Int} {m:Nat} {c:Value}
    (hc:∀ w,Below w0.heap.size w0 w→F w→Calls P f args w fun e w'=>∃ v,e=.returned (.tuple #[v,c])∧IntB t w' v z m∧Below w.heap.size w w') (hv:c.oneCell'=true)
    {E':Value→Value→Env} (hk:∀ x y,Wk P w0 D Z Post L (fun w=>IntB t w (.agg #[x,y]) z m∧F w) k (E' x y)) (ha:(ar.map (V1.den [] E)).toArray=args:=by rfl) (hE:∀ x y,E++[[x,y,c]]=E' x y:=by intros; (simp only [List.cons_append,List.nil_append]) <;> exact rfl):Wk P w0 D Z Post L F (.em (.call f ar [some 2,none]) k) E:=by
  intro hm u hF w e bx
  have b:=bx.bel
  subst ha
  refine (hc w b (hm u.w w e.ext hF)).mono ?_
  rintro e1 w' ⟨v,rfl,h1,h4⟩
  obtain ⟨bb,ad,len,cap,rfl,_⟩:=h1.shape2
  exact ⟨[.bool bb,.slice ad len cap,c],rfl,by simp only [List.all_cons,List.all_nil,hv,Bool.and_true]; rfl,.inl h4,hE _ _ ▸ hk _ _ ((monoInt ht _ _ _).and hm) (u.more w w') ⟨h1,hm u.w w' (e.below h4).ext hF⟩⟩
theorem wRefV {t:TypeId} (ht:D t=true) {f:FuncId} {ar:List V1} {args:Array Value} {n m:Nat} {c:Value}
    (hc:∀ w,Below w0.heap.size w0 w→F w→Calls P f args w fun e w'=>∃ v,e=.returned (.tuple #[v,c])∧(RefV t w' v n∧n < pw m)∧Below w.heap.size w w') (hv:c.oneCell'=true)
    {E':Value→Env} (hk:∀ x,Wk P w0 D Z Post L (fun w=>(RefV t w x n∧n < pw m)∧F w) k (E' x)) (ha:(ar.map (V1.den [] E)).toArray=args:=by rfl) (hE:∀ x,E++[[x,c]]=E' x:=by intros; (simp only [List.cons_append,List.nil_append]) <;> exact rfl):Wk P w0 D Z Post L F (.em (.call f ar [none,none]) k) E:=by
  intro hm u hF w e bx
  have b:=bx.bel
  subst ha
  refine (hc w b (hm u.w w e.ext hF)).mono ?_
  rintro e1 w' ⟨v,rfl,h1,h4⟩
  obtain ⟨ad,len,cap,_,rfl,_⟩:=h1.1.shape
  exact ⟨[.slice ad len cap,c],rfl,by simp only [List.all_cons,List.all_nil,hv,Bool.and_true]; rfl,.inl h4,hE _ ▸ hk _ ((monoRef ht _ _ _).and hm) (u.more w w') ⟨h1,hm u.w w' (e.below h4).ext hF⟩⟩
theorem mu_eq (I:List Value→Gh→Prop) (μ:List Value→Nat) {n:Nat} {cs:List Value} (hn:μ cs=n):(fun cs' u=>I cs' u∧μ cs' < μ cs)=fun cs' u=>∃ n',n' < n∧(I cs' u∧μ cs'=n'):=by
  funext cs' u
  exact propext ⟨fun h=>⟨μ cs',by omega,h.1,rfl⟩,fun ⟨n',h1,h2,h3⟩=>⟨h2,by omega⟩⟩
theorem wLoop {d:Nat} {init:List A} {body:Tr} (I:List Value→World→Prop) (hI:∀ cs,Mono D (I cs)) (μ:List Value→Nat) (h0:∀ w,F w→I (init.map (A.den [] E)) w)
    {E':List Value→Env} (hk:∀ cs,cs.length=init.length→Wk P w0 D D Post (updL L d fun cs' u=>I cs' u.w∧μ cs' < μ cs) (fun w=>I cs w∧F w) body (E' cs)) (hE:∀ cs,E++[cs]=E' cs:=by intros; (simp only [List.cons_append,List.nil_append]) <;> exact rfl) :
    Wk P w0 D D Post L F (.loop d init body) E:=
  fun hm u hF=>⟨fun n cs u=>I cs u.w∧μ cs=n,_,⟨h0 u.w hF,rfl⟩,fun n cs u' hl _ he ⟨hi,hn⟩=>by
    rw [← mu_eq (fun cs u=>I cs u.w) μ hn]; exact hE cs ▸ hk cs hl ((hI cs).and hm) u' ⟨hi,hm u.w u'.w he hF⟩⟩
theorem wBack {d:Nat} {vals:List A} (h:∀ w:Gh,F w.w→L d (vals.map (A.den [] E)) w):Wk P w0 D Z Post L F (.back d vals) E:=fun _ u hF=>h u hF
end rules
section prims
variable {P:Program} {t t2 ty:TypeId} {vs:List Value} {p q:Operand} {κ:IntKind} {x y:Int} {b c:Bool}
theorem prEq (hp:pe vs p=.int κ x) (hq:pe vs q=.int κ y):PrimOk P (.binOp .eql t p q t2) ty vs (.bool (x == y)):=fun w=>by
  simp only [execOp,hp,hq]
  simp [eqGuard,binOp,Op.intCmp]
theorem prNe (hp:pe vs p=.int κ x) (hq:pe vs q=.int κ y):PrimOk P (.binOp .neq t p q t2) ty vs (.bool (x != y)):=fun w=>by
  simp only [execOp,hp,hq]
  simp [eqGuard,binOp,Op.intCmp]
theorem prLt (hp:pe vs p=.int κ x) (hq:pe vs q=.int κ y):PrimOk P (.binOp .lss t p q t2) ty vs (.bool (decide (x < y))):=fun w=>by
  simp only [execOp,hp,hq]
  simp [eqGuard,binOp,Op.intCmp]
theorem prLe (hp:pe vs p=.int κ x) (hq:pe vs q=.int κ y):PrimOk P (.binOp .leq t p q t2) ty vs (.bool (decide (x≤y))):=fun w=>by
  simp only [execOp,hp,hq]
  simp [eqGuard,binOp,Op.intCmp]
theorem prGt (hp:pe vs p=.int κ x) (hq:pe vs q=.int κ y):PrimOk P (.binOp .gtr t p q t2) ty vs (.bool (decide (y < x))):=fun w=>by
  simp only [execOp,hp,hq]
  simp [eqGuard,binOp,Op.intCmp]
theorem prGe (hp:pe vs p=.int κ x) (hq:pe vs q=.int κ y):PrimOk P (.binOp .geq t p q t2) ty vs (.bool (decide (y≤x))):=fun w=>by
  simp only [execOp,hp,hq]
  simp [eqGuard,binOp,Op.intCmp]
theorem prAdd (hp:pe vs p=.int κ x) (hq:pe vs q=.int κ y):PrimOk P (.binOp .add t p q t2) ty vs (.int κ (κ.wrap (x+y))):=fun w=>by
  simp only [execOp,hp,hq]
  simp [eqGuard,binOp,Op.intArith]
theorem prNot (hp:pe vs p=.bool b):PrimOk P (.unOp .not t p) ty vs (.bool (!b)):=fun w=>by
  simp only [execOp,hp]
  simp [Op.unary]
theorem prLenS {s:ByteArray} {T:TypeId} (hu:P.underlying T=some .string) (hp:pe vs p=.string s):PrimOk P (.call { callee:=.builtin .len,args:=#[p],argTypes:=#[T] }) ty vs (.int .i64 s.size):=fun w=>by
  simp [execOp,resolve,hp,invoke,builtin,Builtin.len_,goInt,run_underlying hu]
theorem prLen {ad:Option Addr} {n m:Nat} {T e:TypeId} (hu:P.underlying T=some (.slice e)) (hp:pe vs p=.slice ad n m):PrimOk P (.call { callee:=.builtin .len,args:=#[p],argTypes:=#[T] }) ty vs (.int .i64 n):=fun w=>by
  simp [execOp,resolve,hp,invoke,builtin,Builtin.len_,goInt,run_underlying hu]
theorem prSAdd {s r:ByteArray} (hp:pe vs p=.string s) (hq:pe vs q=.string r) (h:s.size+r.size≤1000000000000):PrimOk P (.binOp .add t p q t2) ty vs (.string (s++r)):=fun w=>by
  simp only [execOp,hp,hq]
  simp [eqGuard,binOp,Op.stringOp]
  omega
theorem prIdx {s:ByteArray} {T:TypeId} {m:Nat} {b:UInt8} (hu:P.underlying T=some .string) (hp:pe vs p=.string s) (hq:pe vs q=.int κ m) (hm:s.data.toList[m]?=some b):PrimOk P (.index T p q) ty vs (.int .u8 b.toNat):=fun w=>by
  have e:s[m]?=some b:=by
    rw [Array.getElem?_toList] at hm
    obtain ⟨h1,h2⟩:=Array.getElem?_eq_some_iff.1 hm
    rw [getElem?_pos s m h1]
    exact congrArg some h2
  simp only [execOp,hp,hq]
  simp [Instr.index,asIntOf,run_underlying hu,e]
theorem prSlH {s:ByteArray} {T:TypeId} {i:Int} (hu:P.underlying T=some .string) (hp:pe vs p=.string s) (hq:pe vs q=.int κ i) (h0:0≤i) (h1:i≤s.size):PrimOk P (.slice T p none (some q) none) ty vs (.string (s.extract 0 i.toNat)):=fun w=>by
  simp only [execOp,hp,hq,Option.map_none,Option.map_some]
  simp [Instr.sliceAt,Instr.slice,Instr.sliceBounds,Instr.sliceBound,asIntOf,run_underlying hu,h0,h1]
theorem prSlL {s:ByteArray} {T:TypeId} {i:Int} (hu:P.underlying T=some .string) (hp:pe vs p=.string s) (hq:pe vs q=.int κ i) (h0:0≤i) (h1:i≤s.size):PrimOk P (.slice T p (some q) none none) ty vs (.string (s.extract i.toNat s.size)):=fun w=>by
  simp only [execOp,hp,hq,Option.map_none,Option.map_some]
  simp [Instr.sliceAt,Instr.slice,Instr.sliceBounds,Instr.sliceBound,asIntOf,run_underlying hu,h0,h1]
end prims
end Cin

namespace Cin
open Go Go.RowKit
theorem rat_of {q:Rat} {n:Int} {d:Nat} (hd:d≠0) (hc:n.natAbs.Coprime d) (h:mkRat n d=q):q.num=n∧q.den=d:=by
  subst h
  rw [← Rat.mk_eq_mkRat n d hd hc]
  exact ⟨rfl,rfl⟩
theorem add_parts (x y:Rat) {g h:Nat} {b d:Nat} {s:Int} (hg:g=Nat.gcd x.den y.den) (hb:b=x.den / g) (hs:s=x.num * ((y.den / g:Nat):Int)+y.num * (b:Int)) (hh:h=Nat.gcd s.natAbs g) (hd:d=y.den / h) :
    (x+y).num=s / (h:Int)∧(x+y).den=b * d:=by
  subst hb hd
  have hgp:0 < g:=by rw [hg]; exact Nat.gcd_pos_of_pos_left _ x.den_pos
  have hgx:g ∣ x.den:=by rw [hg]; exact Nat.gcd_dvd_left _ _
  have hgy:g ∣ y.den:=by rw [hg]; exact Nat.gcd_dvd_right _ _
  have hhg:h ∣ g:=by rw [hh]; exact Nat.gcd_dvd_right _ _
  have aux:=Rat.add.aux x y hg rfl rfl
  simp only at aux
  rw [← hs,← hh] at aux
  have hbp:x.den / g≠0:=by have:=Nat.div_pos (Nat.le_of_dvd x.den_pos hgx) hgp; omega
  have hne:x.den / g * y.den≠0:=Nat.mul_ne_zero hbp y.den_nz
  have hn:x+y=Rat.normalize s (x.den / g * y.den) hne:=by
    rw [Rat.add_def,← Rat.normalize_mul_left (a:=g) hne (by omega)]
    congr 1
    · rw [hs]
      obtain ⟨p,hp⟩:=hgx
      obtain ⟨r,hr⟩:=hgy
      have e1:x.den / g=p:=by rw [hp,Nat.mul_div_cancel_left _ hgp]
      have e2:y.den / g=r:=by rw [hr,Nat.mul_div_cancel_left _ hgp]
      rw [e1,e2,hp,hr]
      push_cast
      grind
    · obtain ⟨p,hp⟩:=hgx
      rw [hp,Nat.mul_div_cancel_left _ hgp,Nat.mul_assoc]
  rw [hn,Rat.normalize_eq]
  simp only
  rw [← aux]
  refine ⟨rfl,?_⟩
  exact Nat.mul_div_assoc _ (Nat.dvd_trans hhg hgy)
theorem mul_parts (x y:Rat):(x * y).num=x.num / (Nat.gcd x.num.natAbs y.den:Nat) * (y.num / (Nat.gcd y.num.natAbs x.den:Nat))∧(x * y).den=x.den / Nat.gcd y.num.natAbs x.den * (y.den / Nat.gcd x.num.natAbs y.den):=by
  have e:x * y=Rat.mul x y:=rfl
  rw [e]
  unfold Rat.mul
  exact ⟨rfl,rfl⟩
def cmpQ (x y:Rat):Int:=if x < y then -1 else if y < x then 1 else 0
theorem cmpQ_of (x y:Rat):cmpZ (x.num * (y.den:Int)) (y.num * (x.den:Int))=cmpQ x y:=by
  unfold cmpZ cmpQ
  simp only [Rat.lt_iff]
def denZ (q:Rat):Int:=if q.den=1 then 0 else (q.den:Int)
end Cin

namespace Go.Proofs.YthffkbbcofbceaaGreatDoor
open Go.RowKit Cin
theorem info_u32:(Tryz.prog.info? 202).map (fun i=>(i.zero,i.size,i.bytes))=some (some (.int .u32 0),1,4):=by kernel_rfl
end Go.Proofs.YthffkbbcofbceaaGreatDoor

namespace Go.Proofs.YthffkbbcofbceaaGreatDoor
open Go.RowKit Cin
theorem shiftDown_read {t:TypeId} {w:World} {v:Value} {xs ys:List Nat} {b off len cap:Nat} (h:Sl t .u32 w v xs) (hB:Blk w b t .u32 ys)
    (hne:(∀ b' o' n' c',v=.slice (some ⟨b',o',none⟩) n' c'→b'≠b)∨∃ n' c',v=.slice (some ⟨b,off,none⟩) n' c') (hlen:xs.length≤len) (hcl:len≤cap) (hoff:off+cap≤ys.length)
    (k:Nat) (os:List Nat) (wr:World) (hol:os.length=k) (hk:k≤xs.length) (hblk:Blk wr b t .u32 (splice ys off os)) (hkeep:Keep (·=b) w wr) :
    ∃ zs,Sl t .u32 wr v zs∧zs.length=xs.length∧∀ j,k≤j→lim zs j=lim xs j:=by
  rcases hne with hne | ⟨n',c',rfl⟩
  · exact ⟨xs,h.keep hkeep hne,rfl,fun _ _=>rfl⟩
  · rcases h with ⟨e,_⟩ | ⟨b1,o1,c1,cur,e,hb1,hc1,hl1,hx1⟩
    · cases e
    · cases e
      unfold Blk at hB
      rw [hB] at hb1
      simp only [Option.some.injEq,Obj.cells.injEq,and_true] at hb1
      subst hb1
      rw [ints_size] at hc1
      refine ⟨((splice ys off os).drop off).take xs.length,Sl.of_part hblk (by rw [splice_length (by omega)]; exact hc1) hl1,?_,?_⟩
      · rw [List.length_take,List.length_drop,splice_length (by omega)]; omega
      · intro j hj
        rcases Nat.lt_or_ge j xs.length with hjx | hjx
        · have e1:=hx1 j hjx
          rw [ints_get (by omega)] at e1
          simp only [Option.some.injEq,Value.int.injEq,true_and] at e1
          rw [lim_take hjx,lim_drop]
          unfold splice
          rw [lim_append_right (by simp; omega),lim_drop]
          have e2:off+os.length+(off+j - (ys.take off++os).length)=off+j:=by simp; omega
          rw [e2]; omega
        · rw [lim_ge (by rw [List.length_take]; omega),lim_ge hjx]
theorem shiftDown_step {t:TypeId} {w wr:World} {xs ys zs os:List Nat} {b off k s tm:Nat} (ho:Ok xs) (hs:s < 32) (hol:os.length=k) (hok:Ok os) (hv:val os=val xs / 2 ^ s % pw k)
    (hblk:Blk wr b t .u32 (splice ys off os)) (hkeep:Keep (·=b) w wr) (hzs:∀ j,k≤j→lim zs j=lim xs j) (etm:tm=(lim zs k+lim zs (k+1) * 4294967296) / 2 ^ s % 4294967296) (hlt:off+k < ys.length) (nq:Nat) :
    (os++[tm]).length=k+1∧Ok (os++[tm])∧val (os++[tm])=val xs / 2 ^ s % pw (k+1) ∧
          Blk ((wr.drewN nq).setCell ⟨b,off+k,none⟩ (.int .u32 (tm:Nat))) b t .u32 (splice ys off (os++[tm]))∧Keep (·=b) w ((wr.drewN nq).setCell ⟨b,off+k,none⟩ (.int .u32 (tm:Nat))):=by
  have hb:Blk (wr.drewN nq) b t .u32 (splice ys off os):=hblk
  have hkk:Keep (·=b) w (wr.drewN nq):=⟨hkeep.os,hkeep.tape,hkeep.output,hkeep.size,hkeep.block⟩
  have htm:tm < 4294967296:=by rw [etm]; exact Nat.mod_lt _ (by decide)
  have e1:=val_snoc os tm
  have e2:=mod_pw_succ (val xs / 2 ^ s) k
  have e3:=limb_shift ho k s hs
  rw [hol,hv] at e1
  rw [← hzs k (Nat.le_refl _),← hzs (k+1) (Nat.le_succ _),← etm] at e3
  refine ⟨by rw [List.length_append,hol]; rfl,hok.append (Ok.cons htm Ok.nil),by rw [e1,e2,e3],?_,hkk.setCell rfl _⟩
  have:=hb.set (off+k) tm
  rw [← hol,splice_set (by omega),hol] at this
  exact this
set_option maxHeartbeats 1000000 in
theorem shiftDown_any (b off len cap:Nat) (ys:List Nat) (v:Value) (xs:List Nat) (s:Nat) (w:World) (hs:s < 32) (h:Sl 202 .u32 w v xs) (ho:Ok xs) (hB:Blk w b 202 .u32 ys)
    (hne:(∀ b' o' n' c',v=.slice (some ⟨b',o',none⟩) n' c'→b'≠b)∨∃ n' c',v=.slice (some ⟨b,off,none⟩) n' c') (hlen:xs.length≤len) (hcl:len≤cap) (hoff:off+cap≤ys.length) (hn:xs.length≤1000000000000) :
    Calls Tryz.prog 207 #[.slice (some ⟨b,off,none⟩) len cap,v,.int .i64 s] w fun e w'=>e=.returned (.tuple #[]) ∧
      ∃ os,os.length=xs.length∧Ok os∧val os=val xs / 2 ^ s∧Blk w' b 202 .u32 (splice ys off os)∧Keep (·=b) w w':=by
  have hfin:val xs / 2 ^ s % pw xs.length=val xs / 2 ^ s:=Nat.mod_eq_of_lt (Nat.lt_of_le_of_lt (Nat.div_le_self _ _) (val_lt ho))
  have HR:=Lib.hid (shiftDown_read h hB hne hlen hcl hoff)
  have HF:=Lib.hid hfin
  have HB:=Lib.hid hB
  obtain ⟨ad,xcap,rfl,hcap,had⟩:=h.shape
  clear h had hne hB hfin
  generalize hln:xs.length=n at *
  have HLN:=Lib.hid hln
  clear hln
  go_enter Tryz.func207,Tryz.ntmps207
  go_wp2_with fail
  go_loopw [6,7,10] (fun _ _ i wr=>∃ (k:Nat) (os:List Nat),k≤n∧i=.int .i64 k∧os.length=k∧Ok os∧val os=val xs / 2 ^ s % pw k ∧
      Blk wr b 202 .u32 (splice ys off os)∧Keep (·=b) w wr) (fun _ _ i _=>n - (intOf i).toNat)
  case atStart=>exact ⟨0,[],Nat.zero_le _,rfl,rfl,Ok.nil,by rw [pw_zero,Nat.mod_one]; rfl,by rw [splice_nil]; exact HB.out,Keep.refl _ _⟩
  case round=>
    obtain ⟨k,os,hk,rfl,hol,hok,hv,hblk,hkeep⟩:=hrel
    obtain ⟨zs,hsl,hzl,hzs⟩:=HR.out k os wr hol (by have:=HLN.out; omega) hblk hkeep
    have HOL:=Lib.hid hol
    have HV:=Lib.hid hv
    have HBK:=Lib.hid hblk
    have HK:=Lib.hid hkeep
    have HZS:=Lib.hid hzs
    have hzl':zs.length=n:=by have:=HLN.out; omega
    clear hol hv hkeep hzl
    by_cases hlt:k < n
    · have hcell2:=hblk.cell (i:=off+k) (by rw [splice_length (by have:=HOL.out; omega)]; omega)
      have hf:=hblk.free (off+k)
      obtain ⟨bx,offx,rfl,hcell,hblt⟩:=hsl.cell (i:=k) (by omega)
      have l0:lim zs k < 4294967296:=by rw [hzs k (Nat.le_refl _)]; exact lim_lt ho _
      have l1:lim zs (k+1) < 4294967296:=by rw [hzs _ (by omega)]; exact lim_lt ho _
      have hor:bits BinOp.or IntKind.u64 ((lim zs k:Nat):Int) (((lim zs (k+1):Nat):Int) * 4294967296)=((lim zs k+lim zs (k+1) * 4294967296:Nat):Int):=by
        have:=or_u64' (x:=lim zs (k+1)) (y:=lim zs k) (s:=32) (by omega) (by omega) (by omega)
        simpa using this
      obtain ⟨t,ht⟩:∃ t:Nat,t=lim zs k+lim zs (k+1) * 4294967296:=⟨_,rfl⟩
      rw [← ht] at hor
      obtain ⟨tm,htm,etm⟩:∃ tm:Nat,((t:Int) / 2 ^ s % 4294967296)=(tm:Int)∧tm=t / 2 ^ s % 4294967296:=⟨t / 2 ^ s % 4294967296,by simp,rfl⟩
      rw [ht] at etm
      have ETM:=Lib.hid etm
      have w1:IntKind.i64.wrap ((k:Int)+1)=(k:Int)+1:=IntWalk.i64_in _ (by omega)
      clear ht etm hblk hzs
      have hkl:k < len:=by omega
      go_wp2_with fail
      go_quiet ((go_at_call 210; exact limbAt_quiet hsl _ (by omega)))
      go_wp2_with fail
      have R:=shiftDown_step ho hs HOL.out hok HV.out HBK.out HK.out HZS.out ETM.out (by omega) nq
      exact ⟨⟨k+1,os++[tm],by omega,by go_num,R⟩,by simp [intOf]; omega⟩
    · obtain rfl:k=n:=by omega
      clear hblk hzs
      go_wp2
      go_end0
      exact ⟨rfl,os,HOL.out,hok,by rw [HV.out,HF.out],HBK.out,HK.out⟩
end Go.Proofs.YthffkbbcofbceaaGreatDoor

namespace Go.Proofs.YthffkbbcofbceaaGreatDoor
open Go.RowKit Cin
def cmpI (a b:Nat):Int:=if a < b then -1 else if b < a then 1 else 0
theorem order_quiet2 {w:World} {c n:Nat} (b:Bool) :
    Calls Tryz.prog 170 #[.bool b] (w.drewN (c+n)) fun e w''=>e=.returned (.int .i64 (if b then -1 else 1))∧∃ m,w''=w.drewN (c+m):=
  (order_any b (w.drewN (c+n))).mono fun _ _ hh=>⟨hh.1,n,hh.2.symm⟩
set_option maxRecDepth 100000 in
set_option maxHeartbeats 1000000 in
theorem cmp_any (v u:Value) (x y:Nat) (L:Nat) (w:World) (h:NatV 202 w v x) (h':NatV 202 w u y) (hx:x < pw L) (hy:y < pw L) (hL:L≤100000000) :
    Calls Tryz.prog 136 #[v,u] w fun e w'=>e=.returned (.int .i64 (cmpI x y))∧Below w.heap.size w w':=by
  obtain ⟨ad,len,cap,rfl,xs,hs,ho,hnm,rfl⟩:=h.shape
  obtain ⟨ad',len',cap',rfl,ys,hs',ho',hnm',rfl⟩:=h'.shape
  have hlx:=hs.len
  have hly:=hs'.len
  have hl:len≤100000000:=by have:=norm_len hnm hx; omega
  have hl':len'≤100000000:=by have:=norm_len hnm' hy; omega
  clear hx hy h h'
  by_cases hll:len=len'
  · subst hll
    have hcmp:((len:Int) != (len:Int))=false:=by simp
    have hlt:∀ k,k < len→(∀ j,k < j→j < len→lim xs j=lim ys j)→lim xs k < lim ys k→cmpI (val xs) (val ys)=-1:=fun k hk hj hlt=>by
      have:=val_lt_of_top ho (by omega) (i:=k) (by omega) (fun j h1 h2=>hj j h1 (by omega)) hlt
      unfold cmpI; rw [if_pos this]
    have hgt:∀ k,k < len→(∀ j,k < j→j < len→lim xs j=lim ys j)→lim ys k < lim xs k→cmpI (val xs) (val ys)=1:=fun k hk hj hlt=>by
      have:=val_lt_of_top ho' (by omega) (i:=k) (by omega) (fun j h1 h2=>(hj j h1 (by omega)).symm) hlt
      unfold cmpI; rw [if_neg (by omega),if_pos this]
    have heq:(∀ j,j < len→lim xs j=lim ys j)→cmpI (val xs) (val ys)=0:=fun hj=>by
      have:xs=ys:=ext_lim (by omega) (fun i hi=>hj i (by omega))
      rw [this]; unfold cmpI; rw [if_neg (by omega),if_neg (by omega)]
    have HLT:=Lib.hid hlt
    have HGT:=Lib.hid hgt
    have HEQ:=Lib.hid heq
    have H:=Lib.hid hs
    have H':=Lib.hid hs'
    have HLX:=Lib.hid hlx
    have HLY:=Lib.hid hly
    clear hlt hgt heq hs hs' hlx hly hnm hnm'
    go_enter Tryz.func136,Tryz.ntmps136
    go_wp2_with fail
    have hbW:=bel_alloc2 w (Obj.cells #[Value.slice ad len cap] 52) (Obj.cells #[Value.slice ad' len cap'] 52)
    have hca:=cell_of (new_block2 w (Obj.cells #[Value.slice ad len cap] 52) (Obj.cells #[Value.slice ad' len cap'] 52)) 0
    have hcb:=cell_of (nb21 w (Obj.cells #[Value.slice ad len cap] 52) (Obj.cells #[Value.slice ad' len cap'] 52)) 0
    simp only [List.getElem?_toArray,List.getElem?_cons_zero] at hca hcb
    have hsa:=(H.out.alloc (Obj.cells #[Value.slice ad len cap] 52)).alloc (Obj.cells #[Value.slice ad' len cap'] 52)
    have hsb:=(H'.out.alloc (Obj.cells #[Value.slice ad len cap] 52)).alloc (Obj.cells #[Value.slice ad' len cap'] 52)
    generalize (w.alloc (Obj.cells #[Value.slice ad len cap] 52)).alloc (Obj.cells #[Value.slice ad' len cap'] 52)=W at *
    have HBW:=Lib.hid hbW
    have HSA:=Lib.hid hsa
    have HSB:=Lib.hid hsb
    clear hbW hsa hsb
    go_loopw [5] (fun i wr=>∃ nq,wr=W.drewN nq∧((i=.int .i64 (-1)∧∀ j,j < len→lim xs j=lim ys j)∨∃ k:Nat,k < len∧i=.int .i64 k∧∀ j,k < j→j < len→lim xs j=lim ys j)) (fun i _=>(intOf i+1).toNat)
    case atStart=>
      refine ⟨0,rfl,?_⟩
      rcases Nat.eq_zero_or_pos len with h0 | h0
      · subst h0; exact .inl ⟨rfl,fun j hj=>absurd hj (Nat.not_lt_zero _)⟩
      · exact .inr ⟨len - 1,by omega,congrArg (Value.int IntKind.i64) (by omega),fun j h1 h2=>by omega⟩
    case round=>
      obtain ⟨nq,rfl,h | ⟨k,hk,rfl,hj⟩⟩:=hrel
      · obtain ⟨rfl,hj⟩:=h
        have HJ:=Lib.hid hj
        clear hj
        go_wp2
        go_ret
        exact ⟨ret_int (HEQ.out HJ.out).symm,bel_drewN HBW.out _⟩
      · have HJ:=Lib.hid hj
        clear hj
        obtain ⟨b,off,rfl,hcell,hblt⟩:=HSA.out.cell (i:=k) (by have:=HLX.out; omega)
        obtain ⟨b',off',rfl,hcell',hblt'⟩:=HSB.out.cell (i:=k) (by have:=HLY.out; omega)
        by_cases hne:lim xs k=lim ys k
        · have hnb:(((lim xs k:Nat):Int) != ((lim ys k:Nat):Int))=false:=by simp [hne]
          have HNE:=Lib.hid hne
          clear hne
          go_wp2_with fail
          go_quiet (fail)
          go_wp2_with fail
          refine ⟨⟨_,rfl,?_⟩,by simp only [intOf]; omega⟩
          have hstep:∀ j,k≤j→j < len→lim xs j=lim ys j:=fun j h1 h2=>by
            rcases Nat.eq_or_lt_of_le h1 with rfl | h1
            · exact HNE.out
            · exact HJ.out j h1 h2
          rcases Nat.eq_zero_or_pos k with h0 | h0
          · subst h0; exact .inl ⟨rfl,fun j hj=>hstep j (Nat.zero_le _) hj⟩
          · exact .inr ⟨k - 1,by omega,congrArg (Value.int IntKind.i64) (by omega),fun j h1 h2=>hstep j (by omega) h2⟩
        · have hnb:(((lim xs k:Nat):Int) != ((lim ys k:Nat):Int))=true:=by simp; omega
          rcases Nat.lt_or_gt_of_ne hne with hlt | hlt
          · have hdec:decide (lim xs k < lim ys k)=true:=by simpa using hlt
            go_wp2_with fail
            go_quiet (fail)
            go_wp2_with fail
            go_quiet ((go_at_call 170; exact order_quiet2 _))
            go_wp2_with fail
            go_ret
            exact ⟨ret_int (HLT.out k hk HJ.out hlt).symm,by first | exact bel_drewN HBW.out _ | exact bel_drewN (bel_drewN (bel_drewN HBW.out _) _) _⟩
          · have hdec:decide (lim xs k < lim ys k)=false:=by simp; omega
            go_wp2_with fail
            go_quiet (fail)
            go_wp2_with fail
            go_quiet ((go_at_call 170; exact order_quiet2 _))
            go_wp2_with fail
            go_ret
            exact ⟨ret_int (HGT.out k hk HJ.out hlt).symm,by first | exact bel_drewN HBW.out _ | exact bel_drewN (bel_drewN (bel_drewN HBW.out _) _) _⟩
  · have hcmp:((len:Int) != (len':Int))=true:=by simp; omega
    rcases Nat.lt_or_gt_of_ne hll with hlt | hlt
    · have he:cmpI (val xs) (val ys)=-1:=by
        have:=val_lt_of_len ho hnm' (by omega)
        unfold cmpI; rw [if_pos this]
      have HE:=Lib.hid he
      have hdec:decide (len < len')=true:=by simpa using hlt
      clear he hs hs' hlx hly hnm hnm' hll
      go_enter Tryz.func136,Tryz.ntmps136
      go_wp2_with (go_at_call 170; refine (order_any _ _).mono ?_; rintro e w' ⟨rfl,rfl⟩)
      go_ret
      exact ⟨ret_int HE.out.symm,bel_alloc2 _ _ _⟩
    · have he:cmpI (val xs) (val ys)=1:=by
        have:=val_lt_of_len ho' hnm (by omega)
        unfold cmpI; rw [if_neg (by omega),if_pos this]
      have HE:=Lib.hid he
      have hdec:decide (len < len')=false:=by simp; omega
      clear he hs hs' hlx hly hnm hnm' hll
      go_enter Tryz.func136,Tryz.ntmps136
      go_wp2_with (go_at_call 170; refine (order_any _ _).mono ?_; rintro e w' ⟨rfl,rfl⟩)
      go_ret
      exact ⟨ret_int HE.out.symm,bel_alloc2 _ _ _⟩
end Go.Proofs.YthffkbbcofbceaaGreatDoor
