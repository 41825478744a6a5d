/- Numbers whose denominator is a power of two: plain facts. No program. -/
import Derived.Test.YthffkbbcofbceaaGreatDoorYg
import Derived.Test.YthffkbbcofbceaaGreatDoorYq
import Derived.Test.YthffkbbcofbceaaGreatDoorYj
import Derived.Test.YthffkbbcofbceaaGreatDoorYp
namespace Cin
def tp (e:Int):Rat:=(2:Rat) ^ e
theorem two_pos (e:Int):0 < tp e:=Rat.zpow_pos (by decide)
theorem two_ne (e:Int):tp e≠0:=Rat.ne_of_gt (two_pos e)
theorem two_add (a b:Int):tp (a+b)=tp a * tp b:=Rat.zpow_add (by decide) a b
theorem two_zero:tp 0=1:=Rat.zpow_zero 2
theorem two_nat (n:Nat):tp n=((2 ^ n:Nat):Rat):=by
  unfold tp
  rw [Rat.zpow_natCast,Rat.natCast_pow]; rfl
theorem two_natZ (n:Nat):tp n=((2 ^ n:Int):Rat):=by rw [two_nat,← Rat.intCast_natCast,Int.natCast_pow]; rfl
theorem two_neg (e:Int):tp e * tp (-e)=1:=by rw [← two_add,Int.add_right_neg,two_zero]
def Can (m e:Int):Prop:=(m=0∧e=0)∨m % 2=1
def IsDy (q:Rat) (m e:Int):Prop:=Can m e∧q=(m:Rat) * tp e
theorem IsDy.unique_le {q:Rat} {m e m' e':Int} (h:IsDy q m e) (h':IsDy q m' e') (hle:e≤e') (h0:q≠0):m=m'∧e=e':=by
  obtain ⟨n,rfl⟩:=Int.le.dest hle
  have hq:=h.2.symm.trans h'.2
  rw [two_add,two_natZ] at hq
  have e1:(m:Rat)=((m' * 2 ^ n:Int):Rat):=by
    rw [Rat.intCast_mul]
    have:=two_ne e
    generalize tp e=t at *
    generalize ((2 ^ n:Int):Rat)=s at *
    grind
  have e2:m=m' * 2 ^ n:=Rat.intCast_inj.1 e1
  have hm:m % 2=1:=by
    rcases h.1 with ⟨r,_⟩ | r
    · refine absurd ?_ h0
      rw [h.2,r]; exact Rat.zero_mul _
    · exact r
  cases n with
  | zero=>simp at e2; subst e2; exact ⟨rfl,by simp⟩
  | succ n=>
    rw [Int.pow_succ,← Int.mul_assoc] at e2
    omega
theorem IsDy.unique {q:Rat} {m e m' e':Int} (h:IsDy q m e) (h':IsDy q m' e'):m=m'∧e=e':=by
  by_cases h0:q=0
  · have z:∀ {m e:Int},IsDy q m e→m=0∧e=0:=by
      intro m e h
      rcases h.1 with r | r
      · exact r
      · have h2:=h.2
        rw [h0] at h2
        rcases Rat.mul_eq_zero.1 h2.symm with r1 | r1
        · have:=Rat.intCast_eq_zero_iff.1 r1
          omega
        · exact absurd r1 (two_ne e)
    obtain ⟨rfl,rfl⟩:=z h
    obtain ⟨rfl,rfl⟩:=z h'
    exact ⟨rfl,rfl⟩
  · rcases Int.le_total e e' with hl | hl
    · exact h.unique_le h' hl h0
    · obtain ⟨a,b⟩:=h'.unique_le h hl h0
      exact ⟨a.symm,b.symm⟩
theorem isDy_of {m:Int} {n z:Nat} {e:Int} (hm:m≠0) (hz:IsTz m.natAbs z) (hn:n=m.natAbs / 2 ^ z):IsDy ((m:Rat) * tp e) (if m < 0 then -(n:Int) else n) (e+z):=by
  rcases hz with ⟨h,_⟩ | ⟨c,hc⟩
  · omega
  · have h1:n=2 * c+1:=by rw [hn,hc,Nat.mul_div_cancel_left _ (Nat.two_pow_pos z)]
    have h2:m=(if m < 0 then -(n:Int) else n) * 2 ^ z:=by
      have h3:(m.natAbs:Int)=(n:Int) * 2 ^ z:=by
        rw [hc,h1,Int.natCast_mul,Int.natCast_pow,Int.mul_comm]; rfl
      split
      · rw [Int.neg_mul]; omega
      · omega
    refine ⟨.inr ?_,?_⟩
    · split <;> omega
    · generalize (if m < 0 then -(n:Int) else (n:Int))=r at h2
      rw [h2,two_add,two_natZ,Rat.intCast_mul]
      grind
theorem dy_zero:IsDy 0 0 0:=⟨.inl ⟨rfl,rfl⟩,by rw [two_zero,Rat.mul_one]; rfl⟩
theorem tz_ex (n:Nat) (h:n≠0):∃ z,IsTz n z:=by
  induction n using Nat.strongRecOn with
  | ind n ih=>
    rcases Nat.mod_two_eq_zero_or_one n with r | r
    · obtain ⟨z,hz⟩:=ih (n / 2) (by omega) (by omega)
      rcases hz with ⟨h1,_⟩ | ⟨c,hc⟩
      · omega
      · exact ⟨z+1,.inr ⟨c,by rw [Nat.pow_succ,Nat.mul_right_comm,← hc]; omega⟩⟩
    · exact ⟨0,.inr ⟨n / 2,by omega⟩⟩
def tzG:Nat→Nat→Nat
  | 0,_=>0
  | f+1,n=>if n % 2=0 then tzG f (n / 2)+1 else 0
def tzOf (n:Nat):Nat:=if n=0 then 0 else tzG n n
theorem tzG_ok (f n:Nat) (h:n≠0) (hf:n≤f):IsTz n (tzG f n):=by
  induction f generalizing n with
  | zero=>omega
  | succ f ih=>
    unfold tzG
    split
    · rename_i r
      rcases ih (n / 2) (by omega) (by omega) with ⟨h1,_⟩ | ⟨c,hc⟩
      · omega
      · exact .inr ⟨c,by rw [Nat.pow_succ,Nat.mul_right_comm,← hc]; omega⟩
    · exact .inr ⟨n / 2,by simp; omega⟩
theorem tzOf_ok (n:Nat):IsTz n (tzOf n):=by
  unfold tzOf
  split
  · rename_i h; exact .inl ⟨h,rfl⟩
  · rename_i h; exact tzG_ok n n h (Nat.le_refl _)
def oddOf (q:Rat):Int:=if q.num < 0 then -((q.num.natAbs / 2 ^ tzOf q.num.natAbs:Nat):Int) else (q.num.natAbs / 2 ^ tzOf q.num.natAbs:Nat)
def expOf (q:Rat):Int:=-(tzOf q.den:Int)+tzOf q.num.natAbs
def Dy (q:Rat):Prop:=IsDy q (oddOf q) (expOf q)
theorem dy_iff {q:Rat} {k:Nat} (h:q.den=2 ^ k):Dy q:=by
  have e:q=(q.num:Rat) * tp (-(k:Int)):=by
    have h1:(q.num:Rat)=q * (q.den:Rat):=by
      have e:=Rat.mkRat_self q
      rw [Rat.mkRat_eq_div] at e
      have hd:(q.den:Rat)≠0:=by
        have:=q.den_nz
        intro h; exact this (Rat.natCast_eq_zero_iff.1 h)
      rw [← Rat.div_mul_cancel (a:=(q.num:Rat)) hd,e]
    rw [h1,h,← two_nat,Rat.mul_assoc,two_neg,Rat.mul_one]
  by_cases h0:q.num=0
  · have:q=0:=Rat.num_eq_zero.1 h0
    rw [this]
    exact dy_zero
  · have hk:tzOf q.den=k:=by
      have h1:=tzOf_ok q.den
      rw [h] at h1 ⊢
      rcases h1 with ⟨r,_⟩ | ⟨m,hm⟩
      · have:=Nat.two_pow_pos k; omega
      · generalize tzOf (2 ^ k)=t at *
        have hle:t≤k:=by
          have:2 ^ t≤2 ^ k:=by rw [hm]; exact Nat.le_mul_of_pos_right _ (by omega)
          exact (Nat.pow_le_pow_iff_right (by decide)).1 this
        obtain ⟨d,rfl⟩:=Nat.exists_eq_add_of_le hle
        rw [Nat.pow_add] at hm
        have r2:=Nat.eq_of_mul_eq_mul_left (Nat.two_pow_pos t) hm
        cases d with
        | zero=>rfl
        | succ d=>rw [Nat.pow_succ] at r2; omega
    have r:=isDy_of (m:=q.num) (e:=-(k:Int)) h0 (tzOf_ok q.num.natAbs) rfl
    rw [← e] at r
    unfold Dy oddOf expOf
    rw [hk]
    exact r
theorem IsDy.den {q:Rat} {m e:Int} (h:IsDy q m e):∃ k,q.den=2 ^ k:=by
  obtain ⟨h1,h2⟩:=h
  by_cases he:0≤e
  · obtain ⟨n,rfl⟩:=Int.eq_ofNat_of_zero_le he
    refine ⟨0,?_⟩
    rw [h2,two_natZ,← Rat.intCast_mul]; rfl
  · rcases h1 with ⟨rfl,rfl⟩ | h1
    · omega
    · obtain ⟨n,hn⟩:=Int.eq_ofNat_of_zero_le (show 0≤-e by omega)
      have hc:m.natAbs.Coprime (2 ^ n):=Nat.Coprime.pow_right n (by
        rw [Nat.Coprime,Nat.gcd_comm,Nat.gcd_rec,show m.natAbs % 2=1 by omega,Nat.gcd_one_left])
      refine ⟨n,(rat_of (q:=q) (Nat.pos_iff_ne_zero.1 (Nat.two_pow_pos n)) hc ?_).2⟩
      have h3:tp e * ((2 ^ n:Nat):Rat)=1:=by rw [← two_nat,← two_add,show e+(n:Int)=0 by omega,two_zero]
      rw [Rat.mkRat_eq_div,h2,Rat.div_def]
      congr 1
      exact Rat.inv_eq_of_mul_eq_one (by rw [Rat.mul_comm]; exact h3)
theorem IsDy.dy {q:Rat} {m e:Int} (h:IsDy q m e):Dy q:=let ⟨_,hk⟩:=h.den; dy_iff hk
theorem IsDy.odd {q:Rat} {m e:Int} (h:IsDy q m e):oddOf q=m:=(h.dy.unique h).1
theorem IsDy.exp {q:Rat} {m e:Int} (h:IsDy q m e):expOf q=e:=(h.dy.unique h).2
theorem Dy.val {q:Rat} (h:Dy q):(oddOf q:Rat) * tp (expOf q)=q:=h.2.symm
def Rep (b:Nat) (q:Rat):Prop:=∃ m e:Int,q=(m:Rat) * tp e∧m.natAbs < 2 ^ b
def IsDown (b:Nat) (a d:Rat):Prop:=Rep b d∧d≤a∧∀ r,Rep b r→r≤a→r≤d
theorem IsDown.unique {b:Nat} {a d d':Rat} (h:IsDown b a d) (h':IsDown b a d'):d=d':=Rat.le_antisymm (h'.2.2 d h.1 h.2.1) (h.2.2 d' h'.1 h'.2.1)
theorem Rep.neg {b:Nat} {q:Rat} (h:Rep b q):Rep b (-q):=by
  obtain ⟨m,e,rfl,hb⟩:=h
  exact ⟨-m,e,by rw [Rat.intCast_neg,Rat.neg_mul],by rw [Int.natAbs_neg]; exact hb⟩
theorem Rep.mono {b c:Nat} {q:Rat} (h:Rep b q) (hc:b≤c):Rep c q:=by
  obtain ⟨m,e,rfl,hb⟩:=h
  exact ⟨m,e,rfl,Nat.lt_of_lt_of_le hb (Nat.pow_le_pow_right (by decide) hc)⟩
theorem Rep.odd {b:Nat} {q:Rat} (h:Rep b q):(oddOf q).natAbs < 2 ^ b:=by
  obtain ⟨m,e,rfl,hm⟩:=h
  by_cases h0:m=0
  · have:IsDy ((m:Rat) * tp e) 0 0:=by
      rw [h0]
      have:((0:Int):Rat) * tp e=0:=Rat.zero_mul _
      rw [this]; exact dy_zero
    rw [this.odd]; exact Nat.two_pow_pos b
  · obtain ⟨z,hz⟩:=tz_ex m.natAbs (by omega)
    rw [(isDy_of (e:=e) h0 hz rfl).odd]
    have:=Nat.div_le_self m.natAbs (2 ^ z)
    generalize m.natAbs / 2 ^ z=t at *
    split <;> omega
theorem num_over (a:Rat):a * (a.den:Rat)=(a.num:Rat):=by
  have e:=Rat.mkRat_self a
  rw [Rat.mkRat_eq_div] at e
  have hd:(a.den:Rat)≠0:=by
    have:=a.den_nz
    intro h; exact this (Rat.natCast_eq_zero_iff.1 h)
  have h:=Rat.div_mul_cancel (a:=(a.num:Rat)) hd
  rwa [e] at h
def blOf (n:Nat):Nat:=if n=0 then 0 else Nat.log2 n+1
theorem blOf_ok (n:Nat):IsBl n (blOf n):=by
  unfold blOf
  split
  · rename_i h; subst h; exact ⟨by decide,.inl rfl⟩
  · rename_i h; exact ⟨Nat.lt_log2_self,.inr (Nat.log2_self_le h)⟩
def DyOk (q:Rat):Prop:=tzOf q.den+1=blOf q.den
theorem DyOk.den {q:Rat} (h:DyOk q):q.den=2 ^ tzOf q.den:=by
  unfold DyOk at h
  have h1:=(blOf_ok q.den).1
  rw [← h] at h1
  rcases tzOf_ok q.den with ⟨r,_⟩ | ⟨m,hm⟩
  · exact absurd r q.den_nz
  · generalize tzOf q.den=t at *
    rw [hm,Nat.pow_succ] at h1
    have:=Nat.lt_of_mul_lt_mul_left h1
    have:m=0:=by omega
    rw [hm,this]; simp
theorem DyOk.val {q:Rat} (h:DyOk q):(q.num:Rat) * tp (-(tzOf q.den:Int))=q:=by
  have h1:=num_over q
  have h2:(q.den:Rat)=tp (tzOf q.den):=by rw [two_nat,← h.den]
  rw [← h1,h2,Rat.mul_assoc,two_neg,Rat.mul_one]
theorem DyOk.dy {q:Rat} (h:DyOk q):Dy q:=dy_iff h.den
theorem IsDy.neg {q:Rat} {m e:Int} (h:IsDy q m e):IsDy (-q) (-m) e:=by
  refine ⟨?_,by rw [h.2,Rat.intCast_neg,Rat.neg_mul]⟩
  rcases h.1 with ⟨rfl,rfl⟩ | r
  · exact .inl ⟨rfl,rfl⟩
  · exact .inr (by omega)
theorem Dy.neg {q:Rat} (h:Dy q):Dy (-q):=(IsDy.neg h).dy
theorem Dy.oddNeg {q:Rat} (h:Dy q):oddOf (-q)=-oddOf q:=(IsDy.neg h).odd
theorem Dy.expNeg {q:Rat} (h:Dy q):expOf (-q)=expOf q:=(IsDy.neg h).exp
end Cin

namespace Go.Proofs.YthffkbbcofbceaaGreatDoor
open Go.RowKit Cin
section prims
variable {P:Program} {t t2 ty:TypeId} {vs:List Value} {p q:Operand} {x y:Int}
end prims
abbrev NB (w:World) (x:Value) (n k:Nat):Prop:=NatB 202 w (.agg #[x]) n k
theorem cut_eq {n:Int} (h0:0≤n) (h1:n≤1048576):cut n=n.toNat:=by unfold cut; rw [if_neg (by omega),if_neg (by omega)]
def Zinv (n:Int) (x y k j:Nat) (cs:List Value) (w:World):Prop:=∃ (m:Int) (a:Value),cs=[.int .i64 m,a]∧(m=n∨(m=n - 1048576∧0 < n))∧NB w a (if m=n then x else y) (if m=n then k else j)
theorem Zinv.mono (n:Int) (x y k j:Nat) (cs:List Value):Mono DD (Zinv n x y k j cs):=fun _ _ e ⟨m,a,h1,h2,h3⟩=>⟨m,a,h1,h2,h3.ext e hU⟩
theorem Zinv.at {n m:Int} {x y k j:Nat} {a:Value} {w:World} (h:Zinv n x y k j [.int .i64 m,a] w):NB w a (if m=n then x else y) (if m=n then k else j):=by
  obtain ⟨m',a',e,_,h⟩:=h
  injection e with e1 e2
  injection e2 with e2 _
  injection e1 with _ e1
  subst e1 e2
  exact h
def DyQ (w:World) (x y:Value) (q:Rat) (k K:Nat):Prop:=IB w x y (oddOf q) k∧Dy q∧-(K:Int)≤expOf q∧expOf q≤K
theorem DyQ.neg {w:World} {x y x' y':Value} {q:Rat} {k K:Nat} (h:DyQ w x y q k K) (h':IB w x' y' (-oddOf q) k):DyQ w x' y' (-q) k K:=⟨by rw [h.2.1.oddNeg]; exact h',h.2.1.neg,by rw [h.2.1.expNeg]; exact h.2.2.1,by rw [h.2.1.expNeg]; exact h.2.2.2⟩
end Go.Proofs.YthffkbbcofbceaaGreatDoor

namespace Go.Proofs.YthffkbbcofbceaaGreatDoor
open Go.RowKit Cin
theorem zeroQ (w:World) (k:Nat) (hk:1≤k):RatB w (.agg #[.bool false,.slice none 0 0,.bool false,.slice none 0 0]) 0 k:=⟨_,_,_,_,rfl,IntB.zero _ _ _,IntB.zero _ _ _,one_lt k hk⟩
end Go.Proofs.YthffkbbcofbceaaGreatDoor
