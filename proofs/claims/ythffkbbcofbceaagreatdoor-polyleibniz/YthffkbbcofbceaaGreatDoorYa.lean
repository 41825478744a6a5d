/- Plain facts on numbers written in words of 32 binary digits, the lowest first. No Go, no program. -/
import Derived.WalkKit
import Derived.WalkSpells
import Derived.WalkLawsBesides
import Derived.Lib.Hide
import Derived.Deep.Draws
import Derived.Test.YthffkbbcofbceaaGreatDoorRows
import Derived.Deep.QuietTactic
import Derived.BigQuiet
namespace Cin
def val:List Nat→Nat
  | []=>0
  | x::xs=>x+4294967296 * val xs
def Ok (xs:List Nat):Prop:=∀ x∈xs,x < 4294967296
def lim (xs:List Nat) (i:Nat):Nat:=xs.getD i 0
def Norm (xs:List Nat):Prop:=xs=[]∨lim xs (xs.length - 1)≠0
def pw (k:Nat):Nat:=4294967296 ^ k
theorem pw_zero:pw 0=1:=rfl
theorem pw_succ (k:Nat):pw (k+1)=4294967296 * pw k:=by unfold pw; rw [Nat.pow_succ,Nat.mul_comm]
theorem pw_add (a b:Nat):pw (a+b)=pw a * pw b:=by unfold pw; rw [Nat.pow_add]
theorem pw_pos (k:Nat):0 < pw k:=by unfold pw; exact Nat.pow_pos (by decide)
theorem pw_le {a b:Nat} (h:a≤b):pw a≤pw b:=by unfold pw; exact Nat.pow_le_pow_right (by decide) h
theorem pw_two (k:Nat):pw k=2 ^ (32 * k):=by unfold pw; rw [Nat.pow_mul]
theorem lt_pw_mul {x y a b:Nat} (hx:x < pw a) (hy:y < pw b):x * y < pw (a+b):=by
  rw [pw_add]; exact Nat.mul_lt_mul'' hx hy
theorem lt_pw_add {x y a:Nat} (hx:x < pw a) (hy:y < pw a):x+y < pw (a+1):=by rw [pw_succ]; omega
theorem lt_pw_mono {x a b:Nat} (hx:x < pw a) (h:a≤b):x < pw b:=Nat.lt_of_lt_of_le hx (pw_le h)
theorem val_nil:val []=0:=rfl
theorem val_cons (x:Nat) (xs:List Nat):val (x::xs)=x+4294967296 * val xs:=rfl
theorem Ok.nil:Ok []:=fun _ h=>by cases h
theorem Ok.cons {x:Nat} {xs:List Nat} (hx:x < 4294967296) (h:Ok xs):Ok (x::xs):=fun y hy=>by
  rcases List.mem_cons.1 hy with rfl | hy
  · exact hx
  · exact h y hy
theorem Ok.append {xs ys:List Nat} (h:Ok xs) (k:Ok ys):Ok (xs++ys):=fun y hy=>by
  rcases List.mem_append.1 hy with hy | hy
  · exact h y hy
  · exact k y hy
theorem Ok.take {xs:List Nat} (h:Ok xs) (n:Nat):Ok (xs.take n):=fun x hx=>h x (List.mem_of_mem_take hx)
theorem Ok.drop {xs:List Nat} (h:Ok xs) (n:Nat):Ok (xs.drop n):=fun x hx=>h x (List.mem_of_mem_drop hx)
theorem Ok.set {xs:List Nat} (h:Ok xs) (n v:Nat) (hv:v < 4294967296):Ok (xs.set n v):=fun x hx=>by
  rcases List.mem_or_eq_of_mem_set hx with hx | rfl
  · exact h x hx
  · exact hv
theorem Ok.replicate (n:Nat):Ok (List.replicate n 0):=fun x hx=>by rw [(List.mem_replicate.1 hx).2]; decide
theorem lim_lt {xs:List Nat} (h:Ok xs) (i:Nat):lim xs i < 4294967296:=by
  unfold lim
  rw [List.getD_eq_getElem?_getD]
  cases e:xs[i]? with
  | none=>decide
  | some x=>exact h x (List.mem_of_getElem? e)
theorem lim_eq {xs:List Nat} {i:Nat} (h:i < xs.length):lim xs i=xs[i]:=by
  unfold lim; rw [List.getD_eq_getElem?_getD,List.getElem?_eq_getElem h]; rfl
theorem lim_ge {xs:List Nat} {i:Nat} (h:xs.length≤i):lim xs i=0:=by
  unfold lim; rw [List.getD_eq_getElem?_getD,List.getElem?_eq_none h]; rfl
theorem getElem?_lim {xs:List Nat} {i:Nat} (h:i < xs.length):xs[i]?=some (lim xs i):=by rw [lim_eq h,List.getElem?_eq_getElem h]
theorem lim_take {xs:List Nat} {i n:Nat} (h:i < n):lim (xs.take n) i=lim xs i:=by
  unfold lim; rw [List.getD_eq_getElem?_getD,List.getD_eq_getElem?_getD,List.getElem?_take_of_lt h]
theorem lim_drop {xs:List Nat} {i n:Nat}:lim (xs.drop n) i=lim xs (n+i):=by
  unfold lim; rw [List.getD_eq_getElem?_getD,List.getD_eq_getElem?_getD,List.getElem?_drop]
theorem lim_set_same {xs:List Nat} {i v:Nat} (h:i < xs.length):lim (xs.set i v) i=v:=by
  unfold lim; rw [List.getD_eq_getElem?_getD,List.getElem?_set_self h]; rfl
theorem lim_set_other {xs:List Nat} {i j v:Nat} (h:i≠j):lim (xs.set i v) j=lim xs j:=by
  unfold lim; rw [List.getD_eq_getElem?_getD,List.getD_eq_getElem?_getD,List.getElem?_set_ne h]
theorem lim_append_right {xs ys:List Nat} {i:Nat} (h:xs.length≤i):lim (xs++ys) i=lim ys (i - xs.length):=by
  unfold lim; rw [List.getD_eq_getElem?_getD,List.getD_eq_getElem?_getD,List.getElem?_append_right h]
theorem lim_replicate (n i:Nat):lim (List.replicate n 0) i=0:=by
  unfold lim; rw [List.getD_eq_getElem?_getD,List.getElem?_replicate]; split <;> rfl
theorem ext_lim {xs ys:List Nat} (hl:xs.length=ys.length) (h:∀ i,i < xs.length→lim xs i=lim ys i):xs=ys:=by
  apply List.ext_getElem hl
  intro i h1 h2
  have:=h i h1
  rwa [lim_eq h1,lim_eq h2] at this
theorem take_succ_lim {xs:List Nat} {i:Nat} (h:i < xs.length):xs.take (i+1)=xs.take i++[lim xs i]:=by
  rw [List.take_succ_eq_append_getElem h,lim_eq h]
theorem drop_lim {xs:List Nat} {i:Nat} (h:i < xs.length):xs.drop i=lim xs i::xs.drop (i+1):=by
  rw [List.drop_eq_getElem_cons h,lim_eq h]
theorem val_append (xs ys:List Nat):val (xs++ys)=val xs+pw xs.length * val ys:=by
  induction xs with
  | nil=>simp [val,pw]
  | cons x xs ih=>
    simp only [List.cons_append,val,ih,List.length_cons,pw_succ]
    rw [Nat.mul_add,Nat.add_assoc,Nat.mul_assoc]
theorem val_snoc (os:List Nat) (t:Nat):val (os++[t])=val os+pw os.length * t:=by
  rw [val_append,val_cons,val_nil,Nat.mul_zero,Nat.add_zero]
theorem val_lt {xs:List Nat} (h:Ok xs):val xs < pw xs.length:=by
  induction xs with
  | nil=>simp [val,pw]
  | cons x xs ih=>
    have h1:=h x (by simp)
    have h2:=ih (fun y hy=>h y (by simp [hy]))
    simp only [val,List.length_cons,pw_succ]
    omega
theorem val_take_succ {xs:List Nat} {i:Nat} (h:i < xs.length):val (xs.take (i+1))=val (xs.take i)+pw i * lim xs i:=by
  rw [take_succ_lim h,val_append,List.length_take,Nat.min_eq_left (Nat.le_of_lt h)]
  simp [val]
theorem val_take_step (xs:List Nat) (i:Nat):val (xs.take (i+1))=val (xs.take i)+pw i * lim xs i:=by
  rcases Nat.lt_or_ge i xs.length with h | h
  · exact val_take_succ h
  · rw [List.take_of_length_le (by omega),List.take_of_length_le h,lim_ge h,Nat.mul_zero,Nat.add_zero]
theorem val_split (xs:List Nat) (i:Nat) (h:i≤xs.length):val xs=val (xs.take i)+pw i * val (xs.drop i):=by
  conv=>lhs; rw [← List.take_append_drop i xs]
  rw [val_append,List.length_take,Nat.min_eq_left h]
theorem val_set {xs:List Nat} {i:Nat} (h:i < xs.length) (v:Nat):val (xs.set i v)+pw i * lim xs i=val xs+pw i * v:=by
  have e:xs.set i v=xs.take i++v::xs.drop (i+1):=by rw [List.set_eq_take_append_cons_drop,if_pos h]
  rw [e,val_append,val_cons,List.length_take,Nat.min_eq_left (by omega),val_split xs i (by omega),drop_lim h,val_cons]
  simp only [Nat.mul_add]
  omega
theorem val_replicate (n:Nat):val (List.replicate n 0)=0:=by
  induction n with
  | zero=>rfl
  | succ n ih=>rw [List.replicate_succ,val,ih]
theorem val_ge {xs:List Nat} (hn:Norm xs) (hne:xs≠[]):pw (xs.length - 1)≤val xs:=by
  rcases hn with rfl | h
  · exact absurd rfl hne
  · have hl:0 < xs.length:=List.length_pos_iff.2 hne
    have e:=val_take_succ (xs:=xs) (i:=xs.length - 1) (by omega)
    rw [Nat.sub_add_cancel hl,List.take_length] at e
    rw [e]
    have:1≤lim xs (xs.length - 1):=by omega
    have:=Nat.mul_le_mul_left (pw (xs.length - 1)) this
    omega
theorem norm_val_zero {xs:List Nat} (hn:Norm xs) (h:val xs=0):xs=[]:=by
  by_cases hne:xs=[]
  · exact hne
  · have:=val_ge hn hne
    have:=pw_pos (xs.length - 1)
    omega
theorem len_of_val_le {xs ys:List Nat} (hx:Norm xs) (oy:Ok ys) (h:val xs≤val ys):xs.length≤ys.length:=by
  by_cases hne:xs=[]
  · subst hne; simp
  · have h1:=val_ge hx hne
    have h2:=val_lt oy
    rcases Nat.lt_or_ge ys.length xs.length with hl | hl
    · have:=pw_le (a:=ys.length) (b:=xs.length - 1) (by omega)
      omega
    · exact hl
theorem norm_of_ge {xs:List Nat} (ho:Ok xs) (h:xs=[]∨pw (xs.length - 1)≤val xs):Norm xs:=by
  rcases h with h | h
  · exact .inl h
  · by_cases hne:xs=[]
    · exact .inl hne
    · right
      intro e0
      have hl:0 < xs.length:=List.length_pos_iff.2 hne
      have e:=val_take_succ (xs:=xs) (i:=xs.length - 1) (by omega)
      rw [Nat.sub_add_cancel hl,List.take_length,e0,Nat.mul_zero,Nat.add_zero] at e
      have h1:=val_lt (ho.take (xs.length - 1))
      rw [List.length_take,Nat.min_eq_left (by omega)] at h1
      omega
theorem norm_len {xs:List Nat} {m:Nat} (hn:Norm xs) (h:val xs < pw m):xs.length≤m:=by
  by_cases hne:xs=[]
  · subst hne; simp
  · have:=val_ge hn hne
    rcases Nat.lt_or_ge m xs.length with hl | hl
    · have:=pw_le (a:=m) (b:=xs.length - 1) (by omega)
      omega
    · exact hl
theorem val_lt_of_len {xs ys:List Nat} (ox:Ok xs) (ny:Norm ys) (h:xs.length < ys.length):val xs < val ys:=by
  have h1:=val_lt ox
  have h2:=val_ge ny (by intro e; simp [e] at h)
  have:=pw_le (a:=xs.length) (b:=ys.length - 1) (by omega)
  omega
theorem val_lt_of_top {xs ys:List Nat} (ox:Ok xs) (hl:xs.length=ys.length) {i:Nat} (hi:i < xs.length)
    (heq:∀ j,i < j→j < xs.length→lim xs j=lim ys j) (hlt:lim xs i < lim ys i):val xs < val ys:=by
  rw [val_split xs (i+1) (by omega),val_split ys (i+1) (by omega),val_take_succ hi,val_take_succ (xs:=ys) (by omega)]
  have e:xs.drop (i+1)=ys.drop (i+1):=by
    apply ext_lim (by simp [hl])
    intro j hj
    rw [List.length_drop] at hj
    rw [lim_drop,lim_drop]
    exact heq _ (by omega) (by omega)
  rw [e]
  have h1:=val_lt (ox.take i)
  rw [List.length_take,Nat.min_eq_left (by omega)] at h1
  have h2:pw i * (lim xs i+1)≤pw i * lim ys i:=Nat.mul_le_mul_left _ hlt
  rw [Nat.mul_add] at h2
  omega
def IsBl (n k:Nat):Prop:=n < 2 ^ k∧(k=0∨2 ^ (k - 1)≤n)
def IsTz (n k:Nat):Prop:=(n=0∧k=0)∨∃ m,n=2 ^ k * (2 * m+1)
theorem IsBl.unique {n k j:Nat} (h:IsBl n k) (h':IsBl n j):k=j:=by
  rcases Nat.lt_trichotomy k j with hl | hl | hl
  · rcases h'.2 with rfl | h2
    · omega
    · have:=Nat.pow_le_pow_right (n:=2) (by decide) (show k≤j - 1 by omega)
      have:=h.1; omega
  · exact hl
  · rcases h.2 with rfl | h2
    · omega
    · have:=Nat.pow_le_pow_right (n:=2) (by decide) (show j≤k - 1 by omega)
      have:=h'.1; omega
theorem IsBl.zero:IsBl 0 0:=⟨by decide,.inl rfl⟩
theorem IsTz.unique {n k j:Nat} (h:IsTz n k) (h':IsTz n j):k=j:=by
  have key:∀ a b m l:Nat,a < b→2 ^ a * (2 * m+1)=2 ^ b * (2 * l+1)→False:=fun a b m l hab he=>by
    obtain ⟨d,rfl⟩:∃ d,b=a+(d+1):=⟨b - a - 1,by omega⟩
    rw [Nat.pow_add,Nat.mul_assoc] at he
    have:=Nat.eq_of_mul_eq_mul_left (Nat.pow_pos (by decide)) he
    rw [Nat.pow_succ,Nat.mul_comm (2 ^ d) 2,Nat.mul_assoc] at this
    omega
  have pos:∀ a m:Nat,2 ^ a * (2 * m+1)≠0:=fun a m=>by
    have:=Nat.mul_pos (Nat.pow_pos (n:=a) (show 0 < 2 by decide)) (show 0 < 2 * m+1 by omega)
    omega
  rcases h with ⟨rfl,rfl⟩ | ⟨m,hm⟩
  · rcases h' with ⟨_,rfl⟩ | ⟨l,hl⟩
    · rfl
    · exact absurd hl.symm (pos _ _)
  · rcases h' with ⟨rfl,rfl⟩ | ⟨l,hl⟩
    · exact absurd hm.symm (pos _ _)
    · rcases Nat.lt_trichotomy k j with h1 | h1 | h1
      · exact (key k j m l h1 (hm.symm.trans hl)).elim
      · exact h1
      · exact (key j k l m h1 (hl.symm.trans hm)).elim
theorem IsBl.half {n k:Nat} (h:IsBl (n / 2) k) (h0:n≠0):IsBl n (k+1):=by
  have h1:=h.1
  refine ⟨by rw [Nat.pow_succ]; omega,.inr ?_⟩
  rw [Nat.add_sub_cancel]
  rcases h.2 with e | e
  · subst e; simp; omega
  · rcases Nat.eq_zero_or_pos k with e0 | e0
    · subst e0; simp; omega
    · obtain ⟨q,rfl⟩:∃ q,k=q+1:=⟨k - 1,by omega⟩
      rw [Nat.add_sub_cancel] at e
      rw [Nat.pow_succ]; omega
theorem IsTz.lt {n k m:Nat} (h:IsTz n k) (h0:n≠0) (hm:n < 2 ^ m):k < m:=by
  rcases h with ⟨e,_⟩ | ⟨l,hl⟩
  · exact absurd e h0
  · rcases Nat.lt_or_ge k m with h | h
    · exact h
    · have h1:=Nat.pow_le_pow_right (n:=2) (by decide) h
      have h2:2 ^ k * 1≤2 ^ k * (2 * l+1):=Nat.mul_le_mul_left _ (by omega)
      omega
theorem bl_top {xs:List Nat} {c:Nat} (hne:xs≠[]) (ho:Ok xs) (h:IsBl (lim xs (xs.length - 1)) c) (h0:lim xs (xs.length - 1)≠0):IsBl (val xs) (32 * (xs.length - 1)+c):=by
  have hl:0 < xs.length:=List.length_pos_iff.2 hne
  have e:=val_take_succ (xs:=xs) (i:=xs.length - 1) (by omega)
  rw [Nat.sub_add_cancel hl,List.take_length] at e
  have hlow:=val_lt (ho.take (xs.length - 1))
  rw [List.length_take,Nat.min_eq_left (by omega)] at hlow
  have hp:=pw_two (xs.length - 1)
  generalize xs.length - 1=m at *
  generalize lim xs m=t at *
  have hc:c≠0:=by rintro rfl; have:=h.1; simp at this; omega
  refine ⟨?_,.inr ?_⟩
  · rw [Nat.pow_add,← hp,e]
    have:pw m * (t+1)≤pw m * 2 ^ c:=Nat.mul_le_mul_left _ h.1
    rw [Nat.mul_add] at this
    omega
  · rcases h.2 with h2 | h2
    · exact absurd h2 hc
    · rw [show 32 * m+c - 1=32 * m+(c - 1) by omega,Nat.pow_add,← hp,e]
      have:=Nat.mul_le_mul_left (pw m) h2
      omega
def splice (ys:List Nat) (off:Nat) (os:List Nat):List Nat:=ys.take off++os++ys.drop (off+os.length)
theorem splice_nil (ys:List Nat) (off:Nat):splice ys off []=ys:=by simp [splice]
theorem splice_length {ys:List Nat} {off:Nat} {os:List Nat} (h:off+os.length≤ys.length):(splice ys off os).length=ys.length:=by
  simp [splice]; omega
theorem splice_set {ys:List Nat} {off:Nat} {os:List Nat} (h:off+os.length < ys.length) (v:Nat) :
    (splice ys off os).set (off+os.length) v=splice ys off (os++[v]):=by
  unfold splice
  have e:(ys.take off++os).length=off+os.length:=by simp; omega
  rw [List.set_append_right (h:=by omega),e,Nat.sub_self,drop_lim h]
  simp [Nat.add_assoc]
theorem splice_ok {ys:List Nat} {off:Nat} {os:List Nat} (h:Ok ys) (ho:Ok os):Ok (splice ys off os):=((h.take _).append ho).append (h.drop _)
theorem splice_part {ys:List Nat} {off:Nat} {os:List Nat} (h:off+os.length≤ys.length):((splice ys off os).drop off).take os.length=os:=by
  unfold splice
  rw [List.append_assoc,List.drop_append_of_le_length (by simp; omega),List.drop_take]
  simp
theorem splice_zeros_all {n:Nat} {os:List Nat} (h:os.length=n):splice (List.replicate n 0) 0 os=os:=by
  unfold splice; rw [List.drop_eq_nil_of_le (by simp; omega)]; simp
end Cin

namespace Cin
open Go Go.RowKit
def ints (k:IntKind) (ys:List Nat):Array Value:=(ys.map fun (x:Nat)=>Value.int k (x:Int)).toArray
def Blk (w:World) (b:Nat) (t:TypeId) (k:IntKind) (ys:List Nat):Prop:=w.heap[b]?=some (.cells (ints k ys) t (0,0))
theorem ints_size (k:IntKind) (ys:List Nat):(ints k ys).size=ys.length:=by simp [ints]
theorem ints_get {k:IntKind} {ys:List Nat} {i:Nat} (h:i < ys.length):(ints k ys)[i]?=some (.int k (lim ys i:Nat)):=by
  simp [ints,getElem?_lim h]
theorem ints_set (k:IntKind) (ys:List Nat) (i v:Nat):(ints k ys).setIfInBounds i (.int k (v:Nat))=ints k (ys.set i v):=by
  simp [ints,List.map_set]
section
variable {w w':World} {b b':Nat} {t:TypeId} {k:IntKind} {ys zs:List Nat}
theorem Blk.lt (h:Blk w b t k ys):b < w.heap.size:=by
  rcases Nat.lt_or_ge b w.heap.size with h' | h'
  · exact h'
  · unfold Blk at h; rw [Array.getElem?_eq_none h'] at h; cases h
theorem Blk.cell (h:Blk w b t k ys) {i:Nat} (hi:i < ys.length):w.cell? ⟨b,i,none⟩=some (.int k (lim ys i:Nat)):=by
  unfold Blk at h
  simp [World.cell?,h,ints_get hi]
theorem Blk.free (h:Blk w b t k ys) (i:Nat):w.frozen? ⟨b,i,none⟩=false:=by
  unfold Blk at h
  simp [World.frozen?,h]
theorem Blk.set (h:Blk w b t k ys) (i v:Nat):Blk (w.setCell ⟨b,i,none⟩ (.int k (v:Nat))) b t k (ys.set i v):=by
  unfold Blk at *
  simp [World.setCell,Array.getElem?_modify,h,ints_set]
theorem Blk.other (h:Blk w b t k ys) {a:Addr} (hb:a.block≠b) (u:Value):Blk (w.setCell a u) b t k ys:=by
  unfold Blk at *
  rw [Below.heap_setCell _ _ _ _ (Ne.symm hb)]; exact h
theorem Blk.alloc (h:Blk w b t k ys) (o:Obj):Blk (w.alloc o) b t k ys:=by
  have hl:=h.lt
  unfold Blk at *
  rw [Below.heap_alloc _ _ _ hl]; exact h
theorem Blk.new (w:World) (t:TypeId) (k:IntKind) (ys:List Nat):Blk (w.alloc (.cells (ints k ys) t)) w.heap.size t k ys:=by
  unfold Blk
  show (w.heap.push _)[_]?=_
  simp
theorem Blk.drew (h:Blk w b t k ys):Blk w.drew b t k ys:=h
theorem Blk.of_block (h:Blk w b t k ys) (hb:w'.heap[b]?=w.heap[b]?):Blk w' b t k ys:=by unfold Blk at *; rw [hb]; exact h
theorem Blk.below {B:Nat} (h:Blk w b t k ys) (hw:Below B w w') (hb:b < B):Blk w' b t k ys:=h.of_block (hw.block b hb)
theorem Blk.inj (h:Blk w b t k ys) (h':Blk w b t k zs):ys=zs:=by
  unfold Blk at h h'
  rw [h] at h'
  simp only [Option.some.injEq,Obj.cells.injEq,and_true,ints] at h'
  have:=congrArg Array.toList h'
  simp only at this
  have:=congrArg (List.map (fun v:Value=>(intOf v).toNat)) this
  simpa [List.map_map,Function.comp_def,intOf] using this
end
theorem bel_drewN {B:Nat} {w w':World} (h:Below B w w') (n:Nat):Below B w (w'.drewN n):=⟨h.os,h.tape,h.output,h.size,h.block⟩
theorem bel_alloc (w:World) (o:Obj):Below w.heap.size w (w.alloc o):=(Below.refl _ _).alloc (Nat.le_refl _) o
theorem bel_alloc2 (w:World) (o o':Obj):Below w.heap.size w ((w.alloc o).alloc o'):=(bel_alloc w o).alloc (by simp) o'
theorem bel_alloc3 (w:World) (o o' o'':Obj):Below w.heap.size w (((w.alloc o).alloc o').alloc o''):=(bel_alloc2 w o o').alloc (by simp; omega) o''
theorem bel_on {w w1 w2:World} (h:Below w.heap.size w w1) (h':Below w1.heap.size w1 w2):Below w.heap.size w w2:=h.trans (h'.mono h.size)
structure Keep (S:Nat→Prop) (w w':World):Prop where
  os:w'.os=w.os
  tape:w'.tape=w.tape
  output:w'.output=w.output
  size:w.heap.size≤w'.heap.size
  block:∀ k,k < w.heap.size→¬ S k→w'.heap[k]?=w.heap[k]?
section
variable {S S':Nat→Prop} {w w' w'':World}
theorem Keep.refl (S:Nat→Prop) (w:World):Keep S w w:=⟨rfl,rfl,rfl,Nat.le_refl _,fun _ _ _=>rfl⟩
theorem Keep.trans (h:Keep S w w') (h':Keep S w' w''):Keep S w w'':=
  ⟨h'.os.trans h.os,h'.tape.trans h.tape,h'.output.trans h.output,Nat.le_trans h.size h'.size,fun i hi hs=>(h'.block i (Nat.lt_of_lt_of_le hi h.size) hs).trans (h.block i hi hs)⟩
theorem Keep.mono (h:Keep S w w') (hs:∀ k,k < w.heap.size→S k→S' k):Keep S' w w':=⟨h.os,h.tape,h.output,h.size,fun k hk hn=>h.block k hk (fun h2=>hn (hs k hk h2))⟩
theorem Keep.drew (h:Keep S w w'):Keep S w w'.drew:=⟨h.os,h.tape,h.output,h.size,h.block⟩
theorem Keep.alloc (h:Keep S w w') (o:Obj):Keep S w (w'.alloc o):=
  h.trans ⟨rfl,rfl,rfl,by simp,fun k hk _=>Below.heap_alloc _ _ _ hk⟩
theorem Keep.setCell (h:Keep S w w') {a:Addr} (ha:S a.block) (u:Value):Keep S w (w'.setCell a u):=
  h.trans ⟨rfl,rfl,rfl,by simp,fun k _ hn=>Below.heap_setCell _ _ _ _ (fun e=>hn (e ▸ ha))⟩
theorem Keep.below (h:Keep S w w') {B:Nat} (hB:B≤w.heap.size) (hs:∀ k,S k→B≤k):Below B w w':=
  ⟨h.os,h.tape,h.output,h.size,fun k hk=>h.block k (Nat.lt_of_lt_of_le hk hB) (fun h2=>by have:=hs k h2; omega)⟩
theorem Keep.of_below (h:Below w.heap.size w w'):Keep S w w':=⟨h.os,h.tape,h.output,h.size,fun k hk _=>h.block k hk⟩
end
def Sl (t:TypeId) (k:IntKind) (w:World) (v:Value) (xs:List Nat):Prop:=
  (v=.slice none 0 0∧xs=[]) ∨
  ∃ b off cap cur,v=.slice (some ⟨b,off,none⟩) xs.length cap∧w.heap[b]?=some (.cells cur t (0,0))∧off+cap≤cur.size∧xs.length≤cap∧∀ i,i < xs.length→cur[off+i]?=some (.int k (lim xs i:Nat))
theorem lt_of_heap {w:World} {b:Nat} {o:Obj} (h:w.heap[b]?=some o):b < w.heap.size:=by
  rcases Nat.lt_or_ge b w.heap.size with h' | h'
  · exact h'
  · rw [Array.getElem?_eq_none h'] at h; cases h
section
variable {w w':World} {t:TypeId} {k:IntKind} {v:Value} {xs:List Nat}
theorem Sl.nil (t:TypeId) (k:IntKind) (w:World):Sl t k w (.slice none 0 0) []:=.inl ⟨rfl,rfl⟩
theorem Sl.shape (h:Sl t k w v xs):∃ ad cap,v=.slice ad xs.length cap∧xs.length≤cap∧(ad=none→xs=[]∧cap=0):=by
  rcases h with ⟨rfl,rfl⟩ | ⟨b,off,cap,cur,rfl,_,_,hc,_⟩
  · exact ⟨none,0,rfl,Nat.le_refl _,fun _=>⟨rfl,rfl⟩⟩
  · exact ⟨_,_,rfl,hc,fun e=>by cases e⟩
theorem Sl.cell {ad:Option Addr} {n cap:Nat} (h:Sl t k w (.slice ad n cap) xs) {i:Nat} (hi:i < xs.length) :
    ∃ b off,ad=some ⟨b,off,none⟩∧w.cell? ⟨b,off+i,none⟩=some (.int k (lim xs i:Nat))∧b < w.heap.size:=by
  rcases h with ⟨_,rfl⟩ | ⟨b,off,cap,cur,e,hb,hc,hl,hx⟩
  · simp at hi
  · cases e
    refine ⟨b,off,rfl,?_,lt_of_heap hb⟩
    simp only [World.cell?,hb]
    exact hx i hi
theorem Sl.of_block (h:Sl t k w v xs) (hb:∀ b off n c,v=.slice (some ⟨b,off,none⟩) n c→w'.heap[b]?=w.heap[b]?):Sl t k w' v xs:=by
  rcases h with ⟨rfl,rfl⟩ | ⟨b,off,cap,cur,rfl,hB,hc,hl,hx⟩
  · exact .inl ⟨rfl,rfl⟩
  · exact .inr ⟨b,off,cap,cur,rfl,by rw [hb _ _ _ _ rfl]; exact hB,hc,hl,hx⟩
theorem Sl.lt (h:Sl t k w v xs) {b off n c:Nat} (e:v=.slice (some ⟨b,off,none⟩) n c):b < w.heap.size:=by
  rcases h with ⟨rfl,_⟩ | ⟨b',off',cap,cur,rfl,hb,_⟩
  · cases e
  · cases e; exact lt_of_heap hb
theorem Sl.keep {S:Nat→Prop} (h:Sl t k w v xs) (hw:Keep S w w') (hs:∀ b off n c,v=.slice (some ⟨b,off,none⟩) n c→¬ S b):Sl t k w' v xs:=
  h.of_block fun b off n c e=>hw.block b (h.lt e) (hs b off n c e)
theorem Sl.below (h:Sl t k w v xs) (hw:Below w.heap.size w w'):Sl t k w' v xs:=
  h.of_block fun b _ _ _ e=>hw.block b (h.lt e)
theorem Sl.alloc (h:Sl t k w v xs) (o:Obj):Sl t k (w.alloc o) v xs:=h.below ((Below.refl _ _).alloc (Nat.le_refl _) o)
theorem Sl.drew (h:Sl t k w v xs):Sl t k w.drew v xs:=h
theorem Sl.drewN (h:Sl t k w v xs) (n:Nat):Sl t k (w.drewN n) v xs:=h
theorem Sl.take {ad:Option Addr} {m cap:Nat} (h:Sl t k w (.slice ad m cap) xs) {n:Nat} (hn:n≤xs.length):Sl t k w (.slice ad n cap) (xs.take n):=by
  rcases h with ⟨e,rfl⟩ | ⟨b,off,cap,cur,e,hb,hc,hl,hx⟩
  · cases e; simp at hn; subst hn; exact .inl ⟨rfl,rfl⟩
  · cases e
    have hn':(xs.take n).length=n:=by rw [List.length_take]; omega
    refine .inr ⟨b,off,cap,cur,by rw [hn'],hb,hc,by omega,fun i hi=>?_⟩
    rw [hn'] at hi
    rw [lim_take hi]
    exact hx i (by omega)
theorem Sl.len {ad:Option Addr} {m cap:Nat} (h:Sl t k w (.slice ad m cap) xs):xs.length=m:=by
  obtain ⟨_,_,e,_⟩:=h.shape; cases e; rfl
theorem Sl.of_part {b off n:Nat} {ys:List Nat} (h:Blk w b t k ys) {cap:Nat} (hc:off+cap≤ys.length) (hn:n≤cap):Sl t k w (.slice (some ⟨b,off,none⟩) n cap) ((ys.drop off).take n):=by
  have e:((ys.drop off).take n).length=n:=by rw [List.length_take,List.length_drop]; omega
  refine .inr ⟨b,off,cap,ints k ys,by rw [e],h,by rw [ints_size]; exact hc,by omega,fun i hi=>?_⟩
  rw [e] at hi
  rw [ints_get (by omega),lim_take hi,lim_drop]
theorem Sl.of_blk {b:Nat} (h:Blk w b t k xs):Sl t k w (.slice (some ⟨b,0,none⟩) xs.length xs.length) xs:=by
  have:=Sl.of_part h (off:=0) (n:=xs.length) (cap:=xs.length) (by omega) (Nat.le_refl _)
  rwa [List.drop_zero,List.take_length] at this
end
def RefV (t:TypeId) (w:World) (v:Value) (n:Nat):Prop:=∃ xs,Sl t .u32 w v xs∧Ok xs∧Norm xs∧val xs=n
def NatV (t:TypeId) (w:World) (v:Value) (n:Nat):Prop:=∃ s,v=.agg #[s]∧RefV t w s n
theorem NatV.shape {t:TypeId} {w:World} {v:Value} {n:Nat} (h:NatV t w v n):∃ ad len cap,v=.agg #[.slice ad len cap]∧RefV t w (.slice ad len cap) n:=by
  obtain ⟨s,rfl,xs,hs,r⟩:=h
  obtain ⟨ad,cap,rfl,_⟩:=hs.shape
  exact ⟨ad,_,cap,rfl,xs,hs,r⟩
theorem RefV.shape {t:TypeId} {w:World} {v:Value} {n:Nat} (h:RefV t w v n):∃ ad len cap xs,v=.slice ad len cap∧Sl t .u32 w (.slice ad len cap) xs∧Ok xs∧Norm xs∧val xs=n∧xs.length=len∧len≤cap:=by
  obtain ⟨xs,hs,r⟩:=h
  obtain ⟨ad,cap,rfl,hc,_⟩:=hs.shape
  exact ⟨ad,_,cap,xs,rfl,hs,r.1,r.2.1,r.2.2,rfl,hc⟩
theorem RefV.below {t:TypeId} {w w':World} {v:Value} {n:Nat} (h:RefV t w v n) (hw:Below w.heap.size w w'):RefV t w' v n:=
  let ⟨xs,h1,h2⟩:=h; ⟨xs,h1.below hw,h2⟩
theorem NatV.below {t:TypeId} {w w':World} {v:Value} {n:Nat} (h:NatV t w v n) (hw:Below w.heap.size w w'):NatV t w' v n:=
  let ⟨s,h1,h2⟩:=h; ⟨s,h1,h2.below hw⟩
theorem RefV.zero (t:TypeId) (w:World):RefV t w (.slice none 0 0) 0:=⟨[],Sl.nil _ _ _,Ok.nil,.inl rfl,rfl⟩
theorem NatV.zero (t:TypeId) (w:World):NatV t w (.agg #[.slice none 0 0]) 0:=⟨_,rfl,RefV.zero _ _⟩
theorem Sl.setOther {t t':TypeId} {k:IntKind} {w:World} {v:Value} {xs:List Nat} (h:Sl t k w v xs) {a:Addr} {c:Array Value} {f:Nat × Nat} (hb:w.heap[a.block]?=some (.cells c t' f)) (ht:t'≠t) (u:Value):Sl t k (w.setCell a u) v xs:=by
  rcases h with ⟨rfl,rfl⟩ | ⟨b,off,cap,cur,rfl,hB,hc,hl,hx⟩
  · exact .inl ⟨rfl,rfl⟩
  · refine .inr ⟨b,off,cap,cur,rfl,?_,hc,hl,hx⟩
    rw [Below.heap_setCell _ _ _ _ (fun e=>?_)]
    · exact hB
    · rw [← e,hB] at hb
      simp only [Option.some.injEq,Obj.cells.injEq] at hb
      exact ht hb.2.1.symm
theorem RefV.setOther {t t':TypeId} {w:World} {v:Value} {n:Nat} (h:RefV t w v n) {a:Addr} {c:Array Value} {f:Nat × Nat} (hb:w.heap[a.block]?=some (.cells c t' f)) (ht:t'≠t) (u:Value):RefV t (w.setCell a u) v n:=
  let ⟨xs,h1,h2⟩:=h; ⟨xs,h1.setOther hb ht u,h2⟩
theorem NatV.setOther {t t':TypeId} {w:World} {v:Value} {n:Nat} (h:NatV t w v n) {a:Addr} {c:Array Value} {f:Nat × Nat} (hb:w.heap[a.block]?=some (.cells c t' f)) (ht:t'≠t) (u:Value):NatV t (w.setCell a u) v n:=
  let ⟨s,h1,h2⟩:=h; ⟨s,h1,h2.setOther hb ht u⟩
theorem fin_nat {t tn:TypeId} {w0 w1:World} {b:Nat} {s:Value} {n:Nat} {c:Array Value} {f:Nat × Nat} (hb:Below w0.heap.size w0 w1) (hblk:w1.heap[b]?=some (.cells c tn f)) (ht:tn≠t) (hr:RefV t w1 s n) (hB:w0.heap.size≤b) (o:Nat) :
    NatV t (w1.setCell ⟨b,o,none⟩ s) (.agg #[s]) n∧Below w0.heap.size w0 (w1.setCell ⟨b,o,none⟩ s):=
  ⟨⟨s,rfl,hr.setOther hblk ht s⟩,hb.setCell hB s⟩
theorem new_block (w:World) (o:Obj):(w.alloc o).heap[w.heap.size]?=some o:=by show (w.heap.push _)[_]?=_; simp
theorem new_block2 (w:World) (o o':Obj):((w.alloc o).alloc o').heap[w.heap.size]?=some o:=by rw [Below.heap_alloc _ _ _ (by simp),new_block]
theorem new_block3 (w:World) (o o' o'':Obj):(((w.alloc o).alloc o').alloc o'').heap[w.heap.size]?=some o:=by rw [Below.heap_alloc _ _ _ (by simp; omega),new_block2]
theorem nb21 (w:World) (o o':Obj):((w.alloc o).alloc o').heap[w.heap.size+1]?=some o':=by have:=new_block (w.alloc o) o'; simp only [World.size_alloc] at this; exact this
theorem nb31 (w:World) (o o' o'':Obj):(((w.alloc o).alloc o').alloc o'').heap[w.heap.size+1]?=some o':=by rw [Below.heap_alloc _ _ _ (by simp),nb21]
theorem nb32 (w:World) (o o' o'':Obj):(((w.alloc o).alloc o').alloc o'').heap[w.heap.size+1+1]?=some o'':=by have:=new_block ((w.alloc o).alloc o') o''; simp only [World.size_alloc] at this; exact this
theorem bel_alloc4 (w:World) (a b c d:Obj):Below w.heap.size w ((((w.alloc a).alloc b).alloc c).alloc d):=(bel_alloc3 w a b c).alloc (by simp; omega) d
theorem nb42 (w:World) (a b c d:Obj):((((w.alloc a).alloc b).alloc c).alloc d).heap[w.heap.size+1+1]?=some c:=by rw [Below.heap_alloc _ _ _ (by simp only [World.size_alloc]; omega),nb32]
theorem nb41 (w:World) (a b c d:Obj):((((w.alloc a).alloc b).alloc c).alloc d).heap[w.heap.size+1]?=some b:=by rw [Below.heap_alloc _ _ _ (by simp only [World.size_alloc]; omega),nb31]
theorem nb40 (w:World) (a b c d:Obj):((((w.alloc a).alloc b).alloc c).alloc d).heap[w.heap.size]?=some a:=by rw [Below.heap_alloc _ _ _ (by simp only [World.size_alloc]; omega),new_block3]
theorem nb43 (w:World) (a b c d:Obj):((((w.alloc a).alloc b).alloc c).alloc d).heap[w.heap.size+1+1+1]?=some d:=by have:=new_block (((w.alloc a).alloc b).alloc c) d; simp only [World.size_alloc] at this; exact this
theorem cell_of {w:World} {b:Nat} {c:Array Value} {t:TypeId} {f:Nat × Nat} (h:w.heap[b]?=some (.cells c t f)) (i:Nat):w.cell? ⟨b,i,none⟩=c[i]?:=by simp [World.cell?,h]
theorem free_of {w:World} {b:Nat} {c:Array Value} {t:TypeId} (h:w.heap[b]?=some (.cells c t (0,0))) (i:Nat):w.frozen? ⟨b,i,none⟩=false:=by simp [World.frozen?,h]
def trimN (xs:List Nat):Nat→Nat
  | 0=>0
  | n+1=>if lim xs n=0 then trimN xs n else n+1
theorem trimN_le (xs:List Nat):∀ n,trimN xs n≤n
  | 0=>Nat.le_refl _
  | n+1=>by unfold trimN; split; exact Nat.le_succ_of_le (trimN_le xs n); exact Nat.le_refl _
theorem trimN_val (xs:List Nat):∀ n,n≤xs.length→val (xs.take (trimN xs n))=val (xs.take n)
  | 0,_=>rfl
  | n+1,h=>by
    unfold trimN
    split
    · rename_i h0
      rw [trimN_val xs n (by omega),val_take_succ (by omega),h0]; simp
    · rfl
theorem trimN_norm (xs:List Nat):∀ n,n≤xs.length→Norm (xs.take (trimN xs n))
  | 0,_=>.inl rfl
  | n+1,h=>by
    unfold trimN
    split
    · exact trimN_norm xs n (by omega)
    · rename_i h0
      right
      rw [List.length_take,Nat.min_eq_left h,Nat.add_sub_cancel,lim_take (by omega)]; exact h0
theorem madeCells_int (k:IntKind) (n:Nat):madeCells (Value.cells (.int k 0)) n=ints k (List.replicate n 0):=by
  unfold madeCells ints Value.cells
  apply Array.ext
  · simp
  · intro i h1 h2
    simp [Nat.mod_one]
theorem wpList_make_ints {P:Program} (w:World) {ops:Array Oper} {rest:List Oper} {o:Oper} {a:Act} {Q:Exit→Act→World→Prop}
    (hg:o.guard=none) (l c:Operand) (t:TypeId) (hop:o.op=Op.makeSlice t l c) (e:TypeId) (i:TypeInfo) (k:IntKind)
    (h1:P.underlying t=some (.slice e)) (h2:P.info? e=some i) (h3:i.zero=some (.int k 0)) (h4:i.size=1)
    (kl kc:IntKind) (L C:Int) (m n:Nat) (hl:a.eval l=.int kl L) (hc:a.eval c=.int kc C) (hL:L=(m:Int)) (hC:C=(n:Int)) (hmn:m≤n) (b2:i.bytes * n≤281474976710656) (b3:n≤9223372036854775807)
    (hK:wpList P ops Q rest (a.put o.dst (.slice (some ⟨w.heap.size,0,none⟩) m n)) (w.alloc (.cells (ints k (List.replicate n 0)) e))) :
    wpList P ops Q (o::rest) a w:=by
  refine wpList_plain hg fun K hK'=>?_
  have hb':(i.bytes:Int) * (n:Int)≤281474976710656:=by
    have h:((i.bytes * n:Nat):Int)≤281474976710656:=by omega
    rwa [Int.natCast_mul] at h
  have hrun:=run_make (P:=P) w t e i _ h1 h2 h3 kl kc m n (by omega) (by omega) hb' (by omega)
  subst hL hC
  rw [h4,Nat.mul_one,Int.toNat_natCast,Int.toNat_natCast,madeCells_int] at hrun
  unfold Oper.wp
  simp [execOp,hop,hl,hc,hrun,Result.andThen]
  exact hK' _ _ hK
end Cin

namespace Go.Proofs.YthffkbbcofbceaaGreatDoor
open Go.RowKit Cin
theorem ret_slice {a:Option Addr} {n m c:Nat} (h:n=m):Ending.returned (.slice a n c)=.returned (.slice a m c):=by rw [h]
theorem ret_int {k:IntKind} {a b:Int} (h:a=b):Ending.returned (.int k a)=.returned (.int k b):=by rw [h]
set_option maxHeartbeats 400000 in
theorem trim_at (ad:Option Addr) (len cap:Nat) (xs:List Nat) (w:World) (h:Sl 202 .u32 w (.slice ad len cap) xs) (hl:len=xs.length) (hb:len≤1000000000000) (hc:len≤cap) :
    Calls Tryz.prog 179 #[.slice ad len cap] w fun e w'=>e=.returned (.slice ad (trimN xs len) cap)∧w=w':=by
  have HL:=Lib.hid hl
  clear hl
  have H:=Lib.hid h
  clear h
  go_enter Tryz.func179,Tryz.ntmps179
  go_wp2_with fail
  go_loop [3] (fun i=>∃ k:Nat,k≤len∧i=.int .i64 k∧trimN xs len=trimN xs k) (fun i=>(intOf i).toNat)
  case atStart=>exact ⟨len,Nat.le_refl _,rfl,rfl⟩
  case round=>
    obtain ⟨k,hk,rfl,ht⟩:=hrel
    have HT:=Lib.hid ht
    clear ht
    rcases Nat.eq_zero_or_pos k with h0 | h0
    · subst h0
      go_wp2
      go_ret
      exact ⟨ret_slice (by rw [HT.out]; rfl),rfl⟩
    · obtain ⟨j,rfl⟩:∃ j,k=j+1:=⟨k - 1,by omega⟩
      obtain ⟨b,off,rfl,hcell,hblt⟩:=H.out.cell (i:=j) (by have:=HL.out; omega)
      by_cases hz:lim xs j=0
      · have hzb:(((lim xs j:Nat):Int) == 0)=true:=by simp [hz]
        have HZ:=Lib.hid hz
        clear hz
        go_wp2
        exact ⟨⟨j,by omega,rfl,by rw [HT.out,trimN,if_pos HZ.out]⟩,by simp [intOf]⟩
      · have hzb:(((lim xs j:Nat):Int) == 0)=false:=by simp; omega
        have HZ:=Lib.hid hz
        clear hz
        go_wp2
        go_ret
        exact ⟨ret_slice (by rw [HT.out,trimN,if_neg HZ.out]),rfl⟩
set_option maxHeartbeats 400000 in
theorem wrap_any (v:Value) (xs:List Nat) (w:World) (h:Sl 202 .u32 w v xs) (ho:Ok xs) (hb:xs.length≤1000000000000) :
    Calls Tryz.prog 171 #[v] w fun e w'=>∃ v',e=.returned v'∧NatV 202 w' v' (val xs)∧Below w.heap.size w w':=by
  have hbel:∀ o,Below w.heap.size w (w.alloc o):=fun o=>(Below.refl _ _).alloc (Nat.le_refl _) o
  have HB:=Lib.hid hbel
  clear hbel
  have hn:=trimN_norm xs xs.length (Nat.le_refl _)
  have hv:=trimN_val xs xs.length (Nat.le_refl _)
  rw [List.take_length] at hv
  have HN:=Lib.hid hn
  have HV:=Lib.hid hv
  clear hn hv
  obtain ⟨ad,cap,rfl,hcap,had⟩:=h.shape
  have hle:=trimN_le xs xs.length
  have H:=Lib.hid h
  clear h had
  go_enter Tryz.func171,Tryz.ntmps171
  go_wp2_with fail
  refine (trim_at ad xs.length cap xs _ (H.out.alloc _) rfl hb hcap).mono ?_
  rintro e w1 ⟨rfl,rfl⟩
  generalize hln:trimN xs xs.length=n at *
  have HLN:=Lib.hid hln
  clear hln
  by_cases h0:n=0
  · subst h0
    go_wp2_with fail
    refine bodyPost_ret (v:=.agg #[.slice none 0 0]) (by simp [results,Tryz.results171,go_sem]) rfl ⟨_,rfl,?_,?_⟩
    · rw [← HV.out]
      exact NatV.zero _ _
    · exact HB.out _
  · have hnb:((n:Int) == 0)=false:=by simp; omega
    clear h0
    go_wp2_with fail
    refine bodyPost_ret (v:=.agg #[.slice ad n cap]) (by simp [results,Tryz.results171,go_sem]) rfl ⟨_,rfl,⟨_,rfl,_,(H.out.take hle).alloc _,ho.take _,HN.out,HV.out⟩,?_⟩
    exact HB.out _
set_option maxHeartbeats 400000 in
theorem order_any (b:Bool) (w:World):Calls Tryz.prog 170 #[.bool b] w fun e w'=>e=.returned (.int .i64 (if b then -1 else 1))∧w=w':=by
  cases b <;>
  · go_enter Tryz.func170,Tryz.ntmps170
    go_wp2
    go_ret
    exact ⟨rfl,rfl⟩
set_option maxHeartbeats 400000 in
theorem limbAt_any (v:Value) (xs:List Nat) (i:Int) (w:World) (h:Sl 202 .u32 w v xs) (h0:0≤i) :
    Calls Tryz.prog 210 #[v,.int .i64 i] w fun e w'=>e=.returned (.int .u32 (lim xs i.toNat:Nat))∧w=w':=by
  obtain ⟨n,rfl⟩:=Int.eq_ofNat_of_zero_le h0
  obtain ⟨ad,cap,rfl,hcap,had⟩:=h.shape
  rw [Int.toNat_natCast]
  clear had
  have H:=Lib.hid h
  clear h
  by_cases hn:n < xs.length
  · obtain ⟨b,off,rfl,hcell,hblt⟩:=H.out.cell hn
    generalize hln:xs.length=len at *
    have HLN:=Lib.hid hln
    clear hln
    go_enter Tryz.func210,Tryz.ntmps210
    go_wp2
    go_ret
    exact ⟨rfl,rfl⟩
  · have e:lim xs n=0:=lim_ge (by omega)
    rw [e]
    clear e
    generalize hln:xs.length=len at *
    have HLN:=Lib.hid hln
    clear hln
    go_enter Tryz.func210,Tryz.ntmps210
    go_wp2
    go_ret
    exact ⟨rfl,rfl⟩
def cut (n:Int):Nat:=if n < 0 then 0 else if 1048576 < n then 1048576 else n.toNat
end Go.Proofs.YthffkbbcofbceaaGreatDoor

namespace Go.Proofs.YthffkbbcofbceaaGreatDoor
open Go.RowKit Cin
set_option maxHeartbeats 400000 in
theorem of_any (v:Nat) (w:World) (hv:v < 18446744073709551616) :
    Calls Tryz.prog 144 #[.int .u64 v] w fun e w'=>∃ v',e=.returned v'∧NatV 202 w' v' v∧Below w.heap.size w w':=by
  obtain ⟨lo,hlo⟩:∃ lo:Nat,((v:Int) % 4294967296)=(lo:Int)∧lo < 4294967296∧lo=v % 4294967296:=⟨v % 4294967296,by omega,by omega,rfl⟩
  obtain ⟨hi,hhi⟩:∃ hi:Nat,((v:Int) / 4294967296)=(hi:Int)∧hi < 4294967296∧hi=v / 4294967296:=⟨v / 4294967296,by omega,by omega,rfl⟩
  obtain ⟨e1,b1,r1⟩:=hlo
  obtain ⟨e2,b2,r2⟩:=hhi
  have HV:=Lib.hid (show val [lo,hi]=v by simp [val]; omega)
  have HO:=Lib.hid (show Ok [lo,hi] from Ok.cons b1 (Ok.cons b2 Ok.nil))
  clear r1 r2
  go_enter Tryz.func144,Tryz.ntmps144
  go_wp2_with fail
  have hblk:=Blk.new (w.alloc (Obj.cells #[Value.slice none 0 0] 52)) 202 .u32 [lo,hi]
  simp only [World.size_alloc] at hblk
  refine (wrap_any _ [lo,hi] _ (Sl.of_blk hblk) HO.out (by simp)).mono ?_
  rintro e w1 ⟨v',rfl,hn,hb⟩
  have hk:=(hb.block w.heap.size (by simp; omega)).trans (new_block2 _ _ _)
  have hc:=cell_of hk 0
  have hf:=free_of hk 0
  simp only [List.getElem?_toArray,List.getElem?_cons_zero] at hc
  obtain ⟨ad,len,cap,rfl,hr⟩:=hn.shape
  have HR:=Lib.hid (fin_nat ((((Below.refl _ _).alloc (Nat.le_refl _) _).alloc (by simp) _).trans (hb.mono (by simp; omega))) hk (by decide) hr (Nat.le_refl _) 0)
  clear hr hb hblk hk hn
  go_wp2
  refine bodyPost_ret (v:=.agg #[.slice ad len cap]) (by simp [results,Tryz.results144,go_sem,World.cell?_setCell_same _ _ _ hc]) rfl ⟨_,rfl,?_⟩
  have:=HR.out
  rw [HV.out] at this
  exact this
set_option maxHeartbeats 800000 in
theorem shiftUp_any (b off len cap:Nat) (ys:List Nat) (v:Value) (xs:List Nat) (s:Nat) (w:World) (hs:s < 32) (h:Sl 202 .u32 w v xs) (ho:Ok xs) (hB:Blk w b 202 .u32 ys)
    (hne:∀ b' o' n' c',v=.slice (some ⟨b',o',none⟩) n' c'→b'≠b) (hlen:xs.length < len) (hcl:len≤cap) (hoff:off+cap≤ys.length) (hn:xs.length≤1000000000000) :
    Calls Tryz.prog 203 #[.slice (some ⟨b,off,none⟩) len cap,v,.int .i64 s] w fun e w'=>e=.returned (.tuple #[]) ∧
      ∃ os,os.length=xs.length+1∧Ok os∧val os=val xs * 2 ^ s∧Blk w' b 202 .u32 (splice ys off os)∧Keep (·=b) w w':=by
  obtain ⟨ad,xcap,rfl,hcap,had⟩:=h.shape
  have hp:2 ^ s≤2147483648:=by have:=Nat.pow_le_pow_right (n:=2) (by decide) (show s≤31 by omega); simpa using this
  have HP:=Lib.hid hp
  clear hp
  have H:=Lib.hid h
  have HNE:=Lib.hid hne
  have HB:=Lib.hid hB
  clear h had hne hB
  generalize hln:xs.length=n at *
  have HLN:=Lib.hid hln
  clear hln
  go_enter Tryz.func203,Tryz.ntmps203
  go_wp2_with fail
  go_loopw [6,7,8,11] (fun c _ _ i wr=>∃ (k q:Nat) (os:List Nat),k≤n∧i=.int .i64 k∧c=.int .u64 q∧q < 2 ^ s∧os.length=k∧Ok os∧val os+pw k * q=val (xs.take k) * 2 ^ s ∧
      Blk wr b 202 .u32 (splice ys off os)∧Keep (·=b) w wr) (fun _ _ _ i _=>n - (intOf i).toNat)
  case atStart=>exact ⟨0,0,[],Nat.zero_le _,rfl,rfl,Nat.pow_pos (by decide),rfl,Ok.nil,by simp [val],by rw [splice_nil]; exact HB.out,Keep.refl _ _⟩
  case round=>
    obtain ⟨k,q,os,hk,rfl,rfl,hq,hol,hok,hv,hblk,hkeep⟩:=hrel
    have HQ:=Lib.hid hq
    have HOL:=Lib.hid hol
    have HV:=Lib.hid hv
    have hcell2:=hblk.cell (i:=off+k) (by rw [splice_length (by omega)]; omega)
    have hf:=hblk.free (off+k)
    have HBK:=Lib.hid hblk
    have HK:=Lib.hid hkeep
    clear hq hol hv hblk hkeep
    by_cases hlt:k < n
    · obtain ⟨bx,offx,rfl,hcell,hblt⟩:=(H.out.keep HK.out (fun b' o' n' c' e=>HNE.out b' o' n' c' e)).cell (i:=k) (by have:=HLN.out; omega)
      have hlim:lim xs k < 4294967296:=lim_lt ho _
      obtain ⟨t,ht⟩:∃ t:Nat,t=q+lim xs k * 2 ^ s:=⟨_,rfl⟩
      have ht2:t < 9223372036854775808:=by
        have h1:=HP.out; have h2:=HQ.out
        have h3:lim xs k * 2 ^ s≤4294967295 * 2147483648:=Nat.mul_le_mul (by omega) h1
        omega
      have hor:bits BinOp.or IntKind.u64 (q:Int) (IntKind.u64.wrap (((lim xs k:Nat):Int) * 2 ^ s))=(t:Int):=by
        have h1:=HP.out; have h2:=HQ.out
        have h3:lim xs k * 2 ^ s≤4294967295 * 2147483648:=Nat.mul_le_mul (by omega) h1
        have e1:IntKind.u64.wrap (((lim xs k:Nat):Int) * 2 ^ s)=((lim xs k * 2 ^ s:Nat):Int):=by
          rw [IntKind.wrap_u64,show (((lim xs k:Nat):Int) * 2 ^ s)=((lim xs k * 2 ^ s:Nat):Int) by simp]; omega
        rw [e1,u64_or_nat _ _ (by omega) (by omega),Nat.or_comm,nat_join s _ _ (Nat.mul_mod_left _ _) h2,ht]; simp [Nat.add_comm]
      obtain ⟨td,htd,etd⟩:∃ td:Nat,((t:Int) / 4294967296)=(td:Int)∧td=t / 4294967296:=⟨t / 4294967296,by omega,rfl⟩
      obtain ⟨tm,htm,etm⟩:∃ tm:Nat,((t:Int) % 4294967296)=(tm:Int)∧tm=t % 4294967296:=⟨t % 4294967296,by omega,rfl⟩
      have R:td < 2 ^ s∧(os++[tm]).length=k+1∧Ok (os++[tm])∧val (os++[tm])+pw (k+1) * td=val (xs.take (k+1)) * 2 ^ s ∧
          Blk (wr.setCell ⟨b,off+k,none⟩ (.int .u32 (tm:Nat))) b 202 .u32 (splice ys off (os++[tm]))∧Keep (·=b) w (wr.setCell ⟨b,off+k,none⟩ (.int .u32 (tm:Nat))):=by
        have e0:=HOL.out
        refine ⟨?_,by simp [e0],hok.append (Ok.cons (by omega) Ok.nil),?_,?_,HK.out.setCell rfl _⟩
        · rw [etd,Nat.div_lt_iff_lt_mul (by decide)]
          have h2:=HQ.out
          have h3:(lim xs k+1) * 2 ^ s≤4294967296 * 2 ^ s:=Nat.mul_le_mul_right _ hlim
          rw [Nat.add_mul] at h3
          rw [ht,Nat.mul_comm (2 ^ s)]; omega
        · rw [val_append,val_take_succ (by have:=HLN.out; omega),e0,pw_succ,Nat.add_mul,← HV.out]
          have:t=tm+4294967296 * td:=by omega
          have e3:pw k * lim xs k * 2 ^ s=pw k * (lim xs k * 2 ^ s):=Nat.mul_assoc _ _ _
          have e4:lim xs k * 2 ^ s=tm+4294967296 * td - q:=by omega
          have e5:q+lim xs k * 2 ^ s=tm+4294967296 * td:=by omega
          have e6:pw k * (q+lim xs k * 2 ^ s)=pw k * (tm+4294967296 * td):=by rw [e5]
          rw [Nat.mul_add,Nat.mul_add] at e6
          have e7:4294967296 * pw k * td=pw k * (4294967296 * td):=by rw [Nat.mul_comm 4294967296,Nat.mul_assoc]
          simp only [val,Nat.mul_zero,Nat.add_zero]
          omega
        · have:=HBK.out.set (off+k) tm
          rw [← e0,splice_set (by omega),e0] at this
          exact this
      have HR:=Lib.hid R
      clear R ht etd etm ht2
      go_wp2
      obtain ⟨r1,r2,r3,r4,r5,r6⟩:=HR.out
      exact ⟨⟨k+1,td,os++[tm],by omega,by go_num,rfl,r1,r2,r3,r4,r5,r6⟩,by simp [intOf]; omega⟩
    · obtain rfl:k=n:=by omega
      obtain ⟨qm,hqm,eqm⟩:∃ qm:Nat,((q:Int) % 4294967296)=(qm:Int)∧qm=q:=⟨q,by have:=HP.out; have:=HQ.out; omega,rfl⟩
      have HE:=Lib.hid eqm
      clear eqm
      go_wp2
      go_end0
      refine ⟨rfl,os++[qm],by simp [HOL.out],hok.append (Ok.cons (by have:=HP.out; have:=HQ.out; have:=HE.out; omega) Ok.nil),?_,?_,HK.out.setCell rfl _⟩
      · have h1:=HV.out
        rw [val_append,HE.out,HOL.out]
        rw [← HLN.out,List.take_length,HLN.out] at h1
        simp [val]; exact h1
      · have e0:=HOL.out
        have:=HBK.out.set (off+k) qm
        rw [← e0,splice_set (by omega)] at this
        rw [← e0]; exact this
end Go.Proofs.YthffkbbcofbceaaGreatDoor

namespace Cin
open Go Go.RowKit
theorem or_u64 {x y s:Nat} (hy:y < 2 ^ s) (hx:x * 2 ^ s < 18446744073709551616) (hy2:y < 18446744073709551616):bits .or .u64 ((x * 2 ^ s:Nat):Int) (y:Int)=((x * 2 ^ s+y:Nat):Int):=by
  rw [u64_or_nat _ _ hx hy2,nat_join s _ _ (Nat.mul_mod_left _ _) hy]
theorem or_u64' {x y s:Nat} (hy:y < 2 ^ s) (hx:x * 2 ^ s < 18446744073709551616) (hy2:y < 18446744073709551616):bits .or .u64 (y:Int) ((x * 2 ^ s:Nat):Int)=((y+x * 2 ^ s:Nat):Int):=by
  rw [u64_or_nat _ _ hy2 hx,Nat.or_comm,nat_join s _ _ (Nat.mul_mod_left _ _) hy,Nat.add_comm]
theorem and_mask32 {t:Nat} (h:t < 18446744073709551616):bits .and .u64 (t:Int) 4294967295=((t % 4294967296:Nat):Int):=by
  have:=u64_and_nat t 4294967295 h (by decide)
  rw [show ((4294967295:Nat):Int)=4294967295 from rfl] at this
  rw [this]
  congr 1
  exact Nat.and_two_pow_sub_one_eq_mod t 32
theorem pow2_pos (s:Nat):0 < 2 ^ s:=Nat.pow_pos (by decide)
theorem val_div_pw {xs:List Nat} (ho:Ok xs) (i:Nat):val xs / pw i=val (xs.drop i):=by
  rcases Nat.lt_or_ge xs.length i with h | h
  · rw [List.drop_eq_nil_of_le (by omega),Nat.div_eq_of_lt]
    · rfl
    · exact Nat.lt_of_lt_of_le (val_lt ho) (pw_le (by omega))
  · rw [val_split xs i h,Nat.add_mul_div_left _ _ (pw_pos i),Nat.div_eq_of_lt,Nat.zero_add]
    have:=val_lt (ho.take i)
    rwa [List.length_take,Nat.min_eq_left h] at this
theorem val_drop_step (xs:List Nat) (i:Nat):val (xs.drop i)=lim xs i+4294967296 * val (xs.drop (i+1)):=by
  rcases Nat.lt_or_ge i xs.length with h | h
  · rw [drop_lim h,val]
  · rw [List.drop_eq_nil_of_le h,List.drop_eq_nil_of_le (by omega),lim_ge h]; rfl
theorem two_pow_split {s t:Nat} (h:s≤t):2 ^ t=2 ^ (t - s) * 2 ^ s:=by rw [← Nat.pow_add]; congr 1; omega
theorem pow2_split32 (k:Nat):2 ^ k=pw (k / 32) * 2 ^ (k % 32):=by rw [pw_two,← Nat.pow_add]; congr 1; omega
theorem window_val {xs:List Nat} (ho:Ok xs) (k:Nat) :
    val xs / 2 ^ k % 18446744073709551616=(lim xs (k / 32)+lim xs (k / 32+1) * 4294967296+lim xs (k / 32+2) * 18446744073709551616) / 2 ^ (k % 32) % 18446744073709551616:=by
  have e:2 ^ k=pw (k / 32) * 2 ^ (k % 32):=by rw [pw_two,← Nat.pow_add]; congr 1; omega
  rw [e,← Nat.div_div_eq_div_mul,val_div_pw ho,val_drop_step,val_drop_step xs (k / 32+1),val_drop_step xs (k / 32+2)]
  generalize lim xs (k / 32)=a
  generalize lim xs (k / 32+1)=b
  generalize lim xs (k / 32+2)=c
  generalize val (xs.drop (k / 32+2+1))=r
  have hs:k % 32 < 32:=by omega
  generalize k % 32=s at *
  have h32:(4294967296:Nat)=2 ^ (32 - s) * 2 ^ s:=by rw [← two_pow_split (by omega)]
  generalize hp:2 ^ (32 - s)=p at *
  generalize hq:2 ^ s=q at *
  have hq0:0 < q:=hq ▸ pow2_pos s
  have e2:79228162514264337593543950336 * r=18446744073709551616 * (r * p) * q:=by
    have:18446744073709551616 * (r * p) * q=18446744073709551616 * r * (p * q):=by ac_rfl
    rw [this,← h32]; omega
  have e5:a+4294967296 * (b+4294967296 * (c+4294967296 * r))=(a+b * 4294967296+c * 18446744073709551616)+79228162514264337593543950336 * r:=by omega
  rw [e5,e2,Nat.add_mul_div_right _ _ hq0,Nat.add_mul_mod_self_left]
theorem limb_shift {xs:List Nat} (ho:Ok xs) (k s:Nat) (hs:s < 32) :
    val xs / 2 ^ s / pw k % 4294967296=(lim xs k+lim xs (k+1) * 4294967296) / 2 ^ s % 4294967296:=by
  rw [Nat.div_div_eq_div_mul,Nat.mul_comm,← Nat.div_div_eq_div_mul,val_div_pw ho,val_drop_step,val_drop_step xs (k+1)]
  generalize lim xs k=a
  generalize lim xs (k+1)=b
  generalize val (xs.drop (k+1+1))=r
  have h32:(4294967296:Nat)=2 ^ (32 - s) * 2 ^ s:=by rw [← two_pow_split (by omega)]
  generalize hp:2 ^ (32 - s)=p at *
  generalize hq:2 ^ s=q at *
  have hq0:0 < q:=hq ▸ pow2_pos s
  have e2:18446744073709551616 * r=4294967296 * (r * p) * q:=by
    have:4294967296 * (r * p) * q=4294967296 * r * (p * q):=by ac_rfl
    rw [this,← h32]; omega
  have e5:a+4294967296 * (b+4294967296 * r)=(a+b * 4294967296)+18446744073709551616 * r:=by omega
  rw [e5,e2,Nat.add_mul_div_right _ _ hq0,Nat.add_mul_mod_self_left]
theorem mod_pw_succ (T k:Nat):T % pw (k+1)=T % pw k+pw k * (T / pw k % 4294967296):=by
  rw [pw_succ,Nat.mul_comm 4294967296,Nat.mod_mul]
theorem window_bits {a b c s:Nat} (ha:a < 4294967296) (hb:b < 4294967296) (hs:s < 32) :
    bits .or .u64 (bits .or .u64 (a:Int) ((b:Int) * 4294967296) / 2 ^ s) (IntKind.u64.wrap ((c:Int) * 2 ^ (64 - s))) =
      (((a+b * 4294967296+c * 18446744073709551616) / 2 ^ s % 18446744073709551616:Nat):Int):=by
  have e1:bits .or .u64 (a:Int) ((b:Int) * 4294967296)=((a+b * 4294967296:Nat):Int):=by
    have:=or_u64' (x:=b) (y:=a) (s:=32) (by omega) (by omega) (by omega)
    simpa using this
  have e2:(((a+b * 4294967296:Nat):Int) / 2 ^ s)=(((a+b * 4294967296) / 2 ^ s:Nat):Int):=by simp
  have hl:a+b * 4294967296 < 2 ^ (64 - s) * 2 ^ s:=by rw [← two_pow_split (by omega)]; omega
  have hd:(a+b * 4294967296) / 2 ^ s < 2 ^ (64 - s):=by rw [Nat.div_lt_iff_lt_mul (pow2_pos s)]; exact hl
  have hsp:=two_pow_split (s:=64 - s) (t:=64) (by omega)
  rw [show 64 - (64 - s)=s by omega] at hsp
  have e3:IntKind.u64.wrap ((c:Int) * 2 ^ (64 - s))=((c % 2 ^ s * 2 ^ (64 - s):Nat):Int):=by
    rw [IntKind.wrap_u64,show ((c:Int) * 2 ^ (64 - s))=((c * 2 ^ (64 - s):Nat):Int) by simp,← Nat.mul_mod_mul_right,← hsp]
    omega
  have hm:=Nat.mod_lt c (pow2_pos s)
  have h1:(c % 2 ^ s+1) * 2 ^ (64 - s)≤2 ^ s * 2 ^ (64 - s):=Nat.mul_le_mul_right _ hm
  rw [Nat.add_mul,← hsp] at h1
  have h64:(2:Nat) ^ 64=18446744073709551616:=by decide
  rw [h64] at h1 hsp
  have hp0:=pow2_pos (64 - s)
  rw [e1,e2,e3,or_u64' hd (by omega) (by omega)]
  have e4:a+b * 4294967296+c * 18446744073709551616=a+b * 4294967296+(c * 2 ^ (64 - s)) * 2 ^ s:=by
    rw [Nat.mul_assoc,← two_pow_split (by omega),h64]
  rw [e4,Nat.add_mul_div_right _ _ (pow2_pos s)]
  have e5:c * 2 ^ (64 - s)=c % 2 ^ s * 2 ^ (64 - s)+18446744073709551616 * (c / 2 ^ s):=by
    conv=>lhs; rw [← Nat.div_add_mod c (2 ^ s),Nat.add_mul,Nat.mul_comm (2 ^ s) (c / 2 ^ s),Nat.mul_assoc,← hsp]
    omega
  have e6:((a+b * 4294967296) / 2 ^ s+c * 2 ^ (64 - s)) % 18446744073709551616=(a+b * 4294967296) / 2 ^ s+c % 2 ^ s * 2 ^ (64 - s):=by
    rw [e5,← Nat.add_assoc,Nat.add_mul_mod_self_left]
    exact Nat.mod_eq_of_lt (by omega)
  rw [e6]
end Cin

namespace Go.Proofs.YthffkbbcofbceaaGreatDoor
open Go.RowKit Cin
theorem limbAt_quiet {w:World} {n:Nat} {v:Value} {xs:List Nat} (h:Sl 202 .u32 w v xs) (i:Int) (h0:0≤i) :
    Calls Tryz.prog 210 #[v,.int .i64 i] (w.drewN n) fun e w''=>e=.returned (.int .u32 (lim xs i.toNat:Nat))∧∃ m,w''=w.drewN m:=
  (limbAt_any v xs i (w.drewN n) (h.drewN n) h0).mono fun _ _ hh=>⟨hh.1,n,hh.2.symm⟩
set_option maxHeartbeats 400000 in
theorem window_any (v:Value) (xs:List Nat) (k:Nat) (w:World) (h:Sl 202 .u32 w v xs) (ho:Ok xs) (hb:k≤1000000000000) :
    Calls Tryz.prog 181 #[v,.int .i64 k] w fun e w'=>e=.returned (.int .u64 (val xs / 2 ^ k % 18446744073709551616:Nat))∧∃ n,w'=w.drewN n:=by
  have HW:=Lib.hid (window_val ho k)
  have h0:(0:Int)≤k:=by omega
  have l0:=lim_lt ho (k / 32)
  have l1:=lim_lt ho (k / 32+1)
  have l2:=lim_lt ho (k / 32+2)
  have w1:IntKind.i64.wrap ((k:Int) / 32+2)=(k:Int) / 32+2:=IntWalk.i64_in _ (by omega)
  have HB:=Lib.hid (window_bits (a:=lim xs (k / 32)) (b:=lim xs (k / 32+1)) (c:=lim xs (k / 32+2)) (s:=k % 32) l0 l1 (by omega))
  go_enter Tryz.func181,Tryz.ntmps181
  go_wp2_with (go_at_call 210; refine (limbAt_any _ xs _ _ h (by omega)).mono ?_; rintro e w' ⟨rfl,rfl⟩)
  go_quiet ((go_at_call 210; exact limbAt_quiet h _ (by omega)))
  go_wp2
  go_ret
  exact ⟨ret_int (by rw [HW.out]; exact HB.out),nq,rfl⟩
set_option maxHeartbeats 400000 in
theorem low_any (v:Value) (n:Nat) (w:World) (h:NatV 202 w v n) :
    Calls Tryz.prog 173 #[v] w fun e w'=>e=.returned (.int .u64 (n % 18446744073709551616:Nat))∧Below w.heap.size w w':=by
  obtain ⟨ad,len,cap,rfl,xs,hs,ho,_,rfl⟩:=h.shape
  have H:=Lib.hid hs
  clear h hs
  go_enter Tryz.func173,Tryz.ntmps173
  go_wp2_with fail
  refine (window_any _ xs 0 _ (H.out.alloc _) ho (by decide)).mono ?_
  rintro e w1 ⟨rfl,nq,rfl⟩
  go_wp2
  go_ret
  exact ⟨ret_int (by simp),bel_drewN (bel_alloc _ _) _⟩
end Go.Proofs.YthffkbbcofbceaaGreatDoor
