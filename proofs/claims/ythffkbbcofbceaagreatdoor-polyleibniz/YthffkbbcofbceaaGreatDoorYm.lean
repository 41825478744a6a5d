/- Division downwards, and back: plain. -/
import Derived.Test.YthffkbbcofbceaaGreatDoorYj
import Derived.Test.YthffkbbcofbceaaGreatDoorYa
import Derived.Test.YthffkbbcofbceaaGreatDoorYb
import Derived.Test.YthffkbbcofbceaaGreatDoorYh
import Derived.Deep.LoopGhost
import Derived.BigGuard
import Derived.Test.YthffkbbcofbceaaGreatDoorYk
namespace Go.Proofs.YthffkbbcofbceaaGreatDoor
open Go.RowKit Cin
theorem div_back_nat (X Y:Nat) (hY:0 < Y):∃ q r:Nat,X / Y=q∧X % Y=r∧r < Y∧(X:Int)=(q:Int) * (Y:Int)+(r:Int):=by
  refine ⟨_,_,rfl,rfl,Nat.mod_lt _ hY,?_⟩
  have h:=Nat.div_add_mod X Y
  rw [Nat.mul_comm] at h
  rw [← Int.natCast_mul,← Int.natCast_add,h]
theorem div_back (x y:Int) (hy:y≠0):divQ x y * y+divR x y=x∧(divR x y).natAbs < y.natAbs∧(divR x y=0∨sgnZ (divR x y)=sgnZ y):=by
  obtain ⟨q,r,eq,er,hr,e⟩:=div_back_nat x.natAbs y.natAbs (by omega)
  unfold divQ divR qF rF
  rw [eq,er]
  obtain ⟨Y,hYe⟩:∃ Y:Nat,y.natAbs=Y:=⟨_,rfl⟩
  obtain ⟨X,hXe⟩:∃ X:Nat,x.natAbs=X:=⟨_,rfl⟩
  rw [hYe] at hr e ⊢
  rw [hXe] at e
  clear eq er
  by_cases hx0:x < 0 <;> by_cases hy0:y < 0
  · obtain rfl:x=-(X:Int):=by omega
    obtain rfl:y=-(Y:Int):=by omega
    simp only [hx0,hy0,decide_true,BEq.rfl,Bool.not_true,Bool.false_and,Bool.false_eq_true,if_false,sg,if_true]
    refine ⟨by rw [Int.mul_neg]; omega,by omega,?_⟩
    unfold sgnZ
    rw [if_pos hy0]
    rcases Nat.eq_zero_or_pos r with h0 | h0
    · left; omega
    · right; rw [if_pos (by omega)]
  · rw [decide_eq_true hx0,decide_eq_false hy0]
    obtain rfl:x=-(X:Int):=by omega
    obtain rfl:y=(Y:Int):=by omega
    rcases Nat.eq_zero_or_pos r with h0 | h0
    · subst h0
      simp only [show (!(true == false))=true from rfl,Bool.true_and,decide_true,Bool.not_true,Bool.false_eq_true,if_false,sg,if_true]
      exact ⟨by rw [Int.neg_mul]; omega,by omega,.inl rfl⟩
    · simp only [show (!(true == false))=true from rfl,Bool.true_and,show decide (r=0)=false from decide_eq_false (by omega),Bool.not_false,Bool.false_eq_true,if_false,sg,if_true]
      refine ⟨?_,by omega,.inr ?_⟩
      · rw [Int.neg_mul,Int.natCast_add,Int.add_mul,Int.natCast_one,Int.one_mul]; omega
      · unfold sgnZ; rw [if_neg (by omega),if_pos (by omega),if_neg (by omega),if_pos (by omega)]
  · rw [decide_eq_false hx0,decide_eq_true hy0]
    obtain rfl:x=(X:Int):=by omega
    obtain rfl:y=-(Y:Int):=by omega
    rcases Nat.eq_zero_or_pos r with h0 | h0
    · subst h0
      simp only [show (!(false == true))=true from rfl,Bool.true_and,decide_true,Bool.not_true,Bool.false_eq_true,if_false,sg,if_true]
      exact ⟨by rw [Int.neg_mul_neg]; omega,by omega,.inl rfl⟩
    · simp only [show (!(false == true))=true from rfl,Bool.true_and,show decide (r=0)=false from decide_eq_false (by omega),Bool.not_false,if_true,sg]
      refine ⟨?_,by omega,.inr ?_⟩
      · rw [Int.neg_mul_neg,Int.natCast_add,Int.add_mul,Int.natCast_one,Int.one_mul]; omega
      · unfold sgnZ; rw [if_pos (by omega),if_pos (by omega)]
  · obtain rfl:x=(X:Int):=by omega
    obtain rfl:y=(Y:Int):=by omega
    simp only [hx0,hy0,decide_false,BEq.rfl,Bool.not_true,Bool.false_and,Bool.false_eq_true,if_false,sg]
    refine ⟨by omega,by omega,?_⟩
    unfold sgnZ
    rcases Nat.eq_zero_or_pos r with h0 | h0
    · left; omega
    · right; rw [if_neg (by omega),if_pos (by omega),if_neg hy0,if_pos (by omega)]
end Go.Proofs.YthffkbbcofbceaaGreatDoor

namespace Cin
theorem near_off {s C D x1 y1 P:Int} (hs:s=1∨s=-1) (hC:0≤C) (hCD:C≤D) (hD:1≤D) (hx0:0≤x1) (hx1:x1 < P) (hy0:0≤y1) (hy1:y1 < P) :
    -(D * P) < s * (D * y1 - C * x1)∧s * (D * y1 - C * x1) < D * P:=by
  have h1:D * y1 < D * P:=Int.mul_lt_mul_of_pos_left hy1 (by omega)
  have h2:0≤D * y1:=Int.mul_nonneg (by omega) hy0
  have h3:C * x1≤D * x1:=Int.mul_le_mul_of_nonneg_right hCD hx0
  have h4:D * x1 < D * P:=Int.mul_lt_mul_of_pos_left hx1 (by omega)
  have h5:0≤C * x1:=Int.mul_nonneg hC hx0
  rcases hs with rfl | rfl
  · rw [Int.one_mul]; omega
  · rw [Int.neg_mul,Int.one_mul]; omega
theorem gcd_step {U V W q:Int} (hU:0≤U) (hV:0≤V) (hW:0≤W) (hq:0≤q) (e:W=U - q * V):Nat.gcd V.natAbs W.natAbs=Nat.gcd U.natAbs V.natAbs:=by
  have h:U.natAbs=q.natAbs * V.natAbs+W.natAbs:=by
    have h1:((q.natAbs * V.natAbs+W.natAbs:Nat):Int)=U:=by
      rw [Int.natCast_add,Int.natCast_mul,Int.natAbs_of_nonneg hq,Int.natAbs_of_nonneg hV,Int.natAbs_of_nonneg hW]; omega
    omega
  rw [h,Nat.gcd_comm (q.natAbs * V.natAbs+W.natAbs),Nat.gcd_mul_right_add_right]
theorem abs_s {s z:Int} (hs:s=1∨s=-1) (hz:0≤z):((s * z).natAbs:Int)=z∧((-(s * z)).natAbs:Int)=z:=by
  rcases hs with rfl | rfl
  · rw [Int.one_mul]; omega
  · rw [Int.neg_mul,Int.one_mul]; omega
def EuSteps (X Y u0 v0 a b c d u v:Int):Prop:=
  ∃ s A B C D:Int,(s=1∨s=-1)∧a=s * A∧b=-(s * B)∧c=-(s * C)∧d=s * D∧(0≤A∧0≤B∧0≤C∧1≤D∧C≤D∧A+C≤B+D) ∧
    (A < 2147483648∧B < 2147483648∧C < 2147483648∧D < 2147483648) ∧
    (0≤v∧v≤u∧D * u+B * v=u0∧C * u+A * v=v0∧u=a * u0+b * v0∧v=c * u0+d * v0) ∧
    (0≤c * X+d * Y∧c * X+d * Y≤a * X+b * Y∧c * X+d * Y≤Y∧(b≠0→a * X+b * Y≤Y∧c * X+d * Y < Y)) ∧
    Nat.gcd (a * X+b * Y).natAbs (c * X+d * Y).natAbs=Nat.gcd X.natAbs Y.natAbs
theorem EuSteps.start {X Y u0 v0:Int} (hY:0≤Y) (hXY:Y≤X) (hv:0≤v0) (huv:v0≤u0):EuSteps X Y u0 v0 1 0 0 1 u0 v0:=by
  refine ⟨1,1,0,0,1,.inl rfl,rfl,rfl,rfl,rfl,by omega,by omega,by omega,?_,?_⟩
  · refine ⟨by omega,by omega,by omega,fun h=>absurd rfl h⟩
  · rw [Int.one_mul,Int.zero_mul,Int.one_mul,Int.zero_mul,Int.add_zero,Int.zero_add]
set_option maxHeartbeats 2000000 in
theorem EuSteps.next {X Y u0 v0 a b c d u v q w P x1 y1:Int} (h:EuSteps X Y u0 v0 a b c d u v) (hu0:u0 < 4611686018427387904) (hv0:v0≤u0) (hv:1≤v) (hq:1≤q) (hw0:0≤w) (hwv:w < v) (hu:u=q * v+w)
    (hX:X=u0 * P+x1) (hY:Y=v0 * P+y1) (hx0:0≤x1) (hx1:x1 < P) (hy0:0≤y1) (hy1:y1 < P) :
    ∃ F D:Nat,(b - q * d).natAbs=F∧d.natAbs=D∧F < 4611686018427387904∧D < 2147483648 ∧
      (-4611686018427387904 < q * c∧q * c < 4611686018427387904)∧(-4611686018427387904 < q * d∧q * d < 4611686018427387904) ∧
      (-4611686018427387904 < a - q * c∧a - q * c < 4611686018427387904)∧(-4611686018427387904 < b - q * d∧b - q * d < 4611686018427387904) ∧
      ((F:Int)≤w→(F:Int)+D≤v - w→EuSteps X Y u0 v0 c d (a - q * c) (b - q * d) v w):=by
  obtain ⟨s,A,B,C,D,hs,ha,hb,hc,hd,⟨hA0,hB0,hC0,hD1,hCD,hAC⟩,⟨hA,hB,hC,hD⟩,⟨hv00,hvu,e1,e2,e3,e4⟩,⟨t1,t2,t3,t4⟩,hg⟩:=h
  have qC0:0≤q * C:=Int.mul_nonneg (by omega) hC0
  have qD0:0≤(q - 1) * D:=Int.mul_nonneg (by omega) (by omega)
  have qDC:0≤(q - 1) * (D - C):=Int.mul_nonneg (by omega) (by omega)
  rw [Int.sub_mul,Int.one_mul] at qD0
  rw [Int.sub_mul,Int.one_mul,Int.mul_sub] at qDC
  have f1:a - q * c=s * (A+q * C):=by rw [ha,hc,Int.mul_neg,Int.sub_neg,Int.mul_add,Int.mul_left_comm q s C]
  have f2:b - q * d=-(s * (B+q * D)):=by rw [hb,hd,Int.mul_add,Int.mul_left_comm q s D]; omega
  have f3:q * c=-(s * (q * C)):=by rw [hc,Int.mul_neg,Int.mul_left_comm q s C]
  have f4:q * d=s * (q * D):=by rw [hd,Int.mul_left_comm q s D]
  have g1:(B+q * D) * v+D * w=u0:=by
    have h1:D * (q * v)=q * D * v:=by rw [← Int.mul_assoc,Int.mul_comm D q]
    rw [hu,Int.mul_add,h1] at e1
    rw [Int.add_mul]; omega
  have g2:(A+q * C) * v+C * w=v0:=by
    have h1:C * (q * v)=q * C * v:=by rw [← Int.mul_assoc,Int.mul_comm C q]
    rw [hu,Int.mul_add,h1] at e2
    rw [Int.add_mul]; omega
  obtain ⟨C',hC'⟩:∃ C',A+q * C=C':=⟨_,rfl⟩
  obtain ⟨D',hD'⟩:∃ D',B+q * D=D':=⟨_,rfl⟩
  rw [hC'] at f1 g2
  rw [hD'] at f2 g1
  have b1:0≤D' * (v - 1):=Int.mul_nonneg (by omega) (by omega)
  have b2:0≤C' * (v - 1):=Int.mul_nonneg (by omega) (by omega)
  have b3:0≤D * w:=Int.mul_nonneg (by omega) hw0
  have b4:0≤C * w:=Int.mul_nonneg (by omega) hw0
  rw [Int.mul_sub,Int.mul_one] at b1 b2
  have k1:=abs_s hs (show 0≤D' by omega)
  have k2:=abs_s hs (show 0≤C' by omega)
  have k3:=abs_s hs (show 0≤q * C by omega)
  have k4:=abs_s hs (show 0≤q * D by omega)
  have k5:=abs_s hs (show 0≤D by omega)
  rw [← f2] at k1
  rw [← f1] at k2
  rw [← f3] at k3
  rw [← f4] at k4
  rw [← hd] at k5
  refine ⟨_,_,rfl,rfl,by omega,by omega,by omega,by omega,by omega,by omega,fun hF hFD=>?_⟩
  rw [k1.2] at hF hFD
  rw [k5.1] at hFD
  have hD'31:D' < 2147483648:=by
    rcases Int.lt_or_le D' 2147483648 with h1 | h1
    · exact h1
    · have h2:2147483648 * 2147483648≤D' * v:=Int.mul_le_mul h1 (by omega) (by decide) (by omega)
      omega
  have hs':-s=1∨-s=-1:=by rcases hs with rfl | rfl <;> simp
  have eW:(a - q * c) * X+(b - q * d) * Y=(a * X+b * Y) - q * (c * X+d * Y):=by
    rw [Int.sub_mul,Int.sub_mul,Int.mul_add,Int.mul_assoc,Int.mul_assoc]; omega
  have ew:(a - q * c) * u0+(b - q * d) * v0=(a * u0+b * v0) - q * (c * u0+d * v0):=by
    rw [Int.sub_mul,Int.sub_mul,Int.mul_add,Int.mul_assoc,Int.mul_assoc]; omega
  have nV:=near_off hs hC0 hCD hD1 hx0 hx1 hy0 hy1
  have nW:=near_off hs' (show 0≤C' by omega) (show C'≤D' by omega) (show 1≤D' by omega) hx0 hx1 hy0 hy1
  have split:∀ m n:Int,m * X+n * Y=(m * u0+n * v0) * P+(m * x1+n * y1):=fun m n=>by
    rw [hX,hY,Int.mul_add,Int.mul_add,Int.add_mul,Int.mul_assoc,Int.mul_assoc]; omega
  have eV2:c * x1+d * y1=s * (D * y1 - C * x1):=by
    rw [hc,hd,Int.neg_mul,Int.mul_sub,Int.mul_assoc,Int.mul_assoc]; omega
  have eW2:(a - q * c) * x1+(b - q * d) * y1=-s * (D' * y1 - C' * x1):=by
    rw [f1,f2,Int.neg_mul,Int.neg_mul,Int.mul_sub,Int.mul_assoc,Int.mul_assoc]; omega
  have sV:=split c d
  have sW:=split (a - q * c) (b - q * d)
  rw [← e4,eV2] at sV
  have ew2:(a - q * c) * u0+(b - q * d) * v0=w:=by rw [ew,← e3,← e4]; omega
  rw [ew2,eW2] at sW
  rw [← eV2] at nV
  have c1:0≤(w - D') * P:=Int.mul_nonneg (by omega) (by omega)
  have c2:0≤(v - w - (D'+D)) * P:=Int.mul_nonneg (by omega) (by omega)
  rw [Int.sub_mul] at c1
  rw [Int.sub_mul,Int.sub_mul,Int.add_mul] at c2
  rw [eV2] at nV
  have hW0:0 < (a - q * c) * X+(b - q * d) * Y:=by omega
  have hVW:(a - q * c) * X+(b - q * d) * Y < c * X+d * Y:=by omega
  refine ⟨-s,C,D,C',D',hs',by rw [hc,Int.neg_mul],by rw [hd,Int.neg_mul,Int.neg_neg],by rw [f1,Int.neg_mul,Int.neg_neg],by rw [f2,Int.neg_mul],by omega,by omega,⟨hw0,by omega,g1,g2,e4,ew2.symm⟩,⟨by omega,by omega,by omega,fun _=>by omega⟩,?_⟩
  rw [← hg]
  exact gcd_step (by omega) t1 (by omega) (by omega) eW
theorem EuSteps.done {X Y u0 v0 a b c d u v:Int} (h:EuSteps X Y u0 v0 a b c d u v) :
    (-2147483648 < a∧a < 2147483648∧-2147483648 < b∧b < 2147483648∧-2147483648 < c∧c < 2147483648∧-2147483648 < d∧d < 2147483648)∧(0≤a∧b≤0∧c≤0∧0≤d∨a≤0∧0≤b∧0≤c∧d≤0):=by
  obtain ⟨s,A,B,C,D,hs,ha,hb,hc,hd,⟨hA0,hB0,hC0,hD1,hCD,hAC⟩,⟨hA,hB,hC,hD⟩,_⟩:=h
  rcases hs with rfl | rfl
  · simp only [Int.one_mul] at ha hb hc hd; omega
  · simp only [Int.neg_mul,Int.one_mul,Int.neg_neg] at ha hb hc hd; omega
end Cin

namespace Cin
open Go Go.RowKit
def Four (w:World) (b:Nat) (t:TypeId) (x0 x1 x2 x3:Value):Prop:=w.heap[b]?=some (.cells #[x0,x1,x2,x3] t (0,0))
section
variable {w w':World} {b:Nat} {t:TypeId} {x0 x1 x2 x3:Value}
theorem Four.below (h:Four w b t x0 x1 x2 x3) (hb:Below w.heap.size w w'):Four w' b t x0 x1 x2 x3:=(hb.block _ (lt_of_heap h)).trans h
theorem Four.lt (h:Four w b t x0 x1 x2 x3):b < w.heap.size:=lt_of_heap h
theorem Four.cells (h:Four w b t x0 x1 x2 x3):w.cell? ⟨b,0,none⟩=some x0∧w.cell? ⟨b,1,none⟩=some x1∧w.cell? ⟨b,2,none⟩=some x2∧w.cell? ⟨b,3,none⟩=some x3:=
  ⟨by rw [cell_of h]; simp,by rw [cell_of h]; simp,by rw [cell_of h]; simp,by rw [cell_of h]; simp⟩
theorem Four.free (h:Four w b t x0 x1 x2 x3):w.frozen? ⟨b,0,none⟩=false∧w.frozen? ⟨b,1,none⟩=false∧w.frozen? ⟨b,2,none⟩=false∧w.frozen? ⟨b,3,none⟩=false:=⟨free_of h 0,free_of h 1,free_of h 2,free_of h 3⟩
theorem Four.set (h:Four w b t x0 x1 x2 x3) (y0 y1 y2 y3:Value):Four ((((w.setCell ⟨b,0,none⟩ y0).setCell ⟨b,1,none⟩ y1).setCell ⟨b,2,none⟩ y2).setCell ⟨b,3,none⟩ y3) b t y0 y1 y2 y3:=by
  unfold Four at h ⊢
  simp [World.setCell,Array.getElem?_modify,h]
theorem Four.other (h:Four w b t x0 x1 x2 x3) {c:Nat} (hc:b≠c) (y0 y1 y2 y3:Value):Four ((((w.setCell ⟨c,0,none⟩ y0).setCell ⟨c,1,none⟩ y1).setCell ⟨c,2,none⟩ y2).setCell ⟨c,3,none⟩ y3) b t x0 x1 x2 x3:=by
  unfold Four at h ⊢
  rw [Below.heap_setCell _ _ _ _ (show b≠_ from hc),Below.heap_setCell _ _ _ _ (show b≠_ from hc),Below.heap_setCell _ _ _ _ (show b≠_ from hc),Below.heap_setCell _ _ _ _ (show b≠_ from hc)]
  exact h
theorem Four.drew (h:Four w b t x0 x1 x2 x3):Four w.drew b t x0 x1 x2 x3:=h
theorem bel_four {B:Nat} {w X:World} {b:Nat} {y0 y1 y2 y3:Value} (h:Below B w X) (hb:B≤b):Below B w ((((X.setCell ⟨b,0,none⟩ y0).setCell ⟨b,1,none⟩ y1).setCell ⟨b,2,none⟩ y2).setCell ⟨b,3,none⟩ y3):=bel_set2 (bel_set2 h hb hb) hb hb
end
end Cin
namespace Go.Proofs.YthffkbbcofbceaaGreatDoor
open Go.RowKit Cin
set_option maxHeartbeats 1000000 in
theorem gcdWords_any (a b:Nat) (w:World) (ha:a < 18446744073709551616) (hb:b < 18446744073709551616) :
    Calls Tryz.prog 172 #[.int .u64 a,.int .u64 b] w fun e w'=>e=.returned (.int .u64 (Nat.gcd a b:Nat))∧Below w.heap.size w w':=by
  go_enter Tryz.func172,Tryz.ntmps172
  go_wp2_with fail
  go_loopg [0,1] b (fun g x y wr=>∃ A:Nat,x=.int .u64 A∧y=.int .u64 g∧A < 18446744073709551616∧g < 18446744073709551616∧Nat.gcd A g=Nat.gcd a b∧Below w.heap.size w wr)
  case atStart=>exact ⟨a,rfl,rfl,ha,hb,rfl,Below.refl _ _⟩
  case round=>
    obtain ⟨A,rfl,rfl,hA,hG,hg,hbel⟩:=hrel
    have HG:=Lib.hid hg
    have HBE:=Lib.hid hbel
    clear hg hbel
    by_cases h0:gk=0
    · subst h0
      rw [Nat.gcd_zero_right] at HG
      go_wp2_with fail
      go_ret
      exact ⟨by rw [← HG.out]; rfl,HBE.out⟩
    · have hne:((gk:Int) == 0)=false:=by simp; exact h0
      obtain ⟨r,hr,er⟩:∃ r:Nat,(A:Int).tmod (gk:Int)=(r:Int)∧r=A % gk:=⟨A % gk,rfl,rfl⟩
      have hrb:=Nat.mod_lt A (Nat.pos_of_ne_zero h0)
      rw [← er] at hrb
      have ER:=Lib.hid er
      clear er
      go_wp2_with fail
      go_big_region
      go_wp2_with fail
      go_roundg r
      case measure=>exact hrb
      case rel=>exact ⟨gk,rfl,rfl,hG,by omega,by rw [← HG.out,ER.out,Nat.gcd_comm A gk,Nat.gcd_rec gk A,Nat.gcd_comm],HBE.out.drew⟩
set_option maxHeartbeats 400000 in
theorem nabs_any (z:Int) (w:World) (h0:-9223372036854775808 < z) (h1:z < 9223372036854775808) :
    Calls Tryz.prog 201 #[.int .i64 z] w fun e w'=>e=.returned (.int .i64 (z.natAbs:Nat))∧Below w.heap.size w w':=by
  by_cases hz:z < 0
  · go_enter Tryz.func201,Tryz.ntmps201
    go_wp2
    go_ret
    exact ⟨ret_int (by omega),Below.refl _ _⟩
  · go_enter Tryz.func201,Tryz.ntmps201
    go_wp2
    go_ret
    exact ⟨ret_int (by omega),Below.refl _ _⟩
set_option maxHeartbeats 400000 in
theorem moves_any (a b c d:Int) (w:World) :
    Calls Tryz.prog 176 #[.agg #[.int .i64 a,.int .i64 b,.int .i64 c,.int .i64 d]] w fun e w'=>e=.returned (.bool (!decide (b=0)))∧Below w.heap.size w w':=by
  by_cases hz:b=0
  · subst hz
    go_enter Tryz.func176,Tryz.ntmps176
    go_wp2
    go_ret
    exact ⟨rfl,bel_alloc _ _⟩
  · have hb0:(b != 0)=true:=by simpa using hz
    rw [decide_eq_false hz]
    go_enter Tryz.func176,Tryz.ntmps176
    go_wp2
    go_ret
    exact ⟨rfl,bel_alloc _ _⟩
end Go.Proofs.YthffkbbcofbceaaGreatDoor

namespace Cin
open Go Go.RowKit
theorem heads {X Y k:Nat} (hX:IsBl X k) (hk:62≤k) (hYX:Y≤X) :
    ∃ u0 v0 x1 y1 P:Nat,X / 2 ^ (k - 62) % 18446744073709551616=u0∧Y / 2 ^ (k - 62) % 18446744073709551616=v0∧u0 < 4611686018427387904∧v0≤u0∧X=u0 * P+x1∧Y=v0 * P+y1∧x1 < P∧y1 < P:=by
  have hP:0 < 2 ^ (k - 62):=Nat.pow_pos (by decide)
  have h1:X / 2 ^ (k - 62) < 4611686018427387904:=by
    rw [Nat.div_lt_iff_lt_mul hP]
    have h2:=hX.1
    rw [show k=62+(k - 62) by omega,Nat.pow_add] at h2
    simpa using h2
  have h2:Y / 2 ^ (k - 62)≤X / 2 ^ (k - 62):=Nat.div_le_div_right hYX
  refine ⟨_,_,X % 2 ^ (k - 62),Y % 2 ^ (k - 62),2 ^ (k - 62),Nat.mod_eq_of_lt (by omega),Nat.mod_eq_of_lt (by omega),h1,h2,?_,?_,Nat.mod_lt _ hP,Nat.mod_lt _ hP⟩
  · rw [Nat.mul_comm,Nat.div_add_mod]
  · rw [Nat.mul_comm,Nat.div_add_mod]
theorem quot_facts {U V:Int} (hV:1≤V) (hVU:V≤U):∃ q r:Int,U / V=q∧U - q * V=r∧1≤q∧q≤U∧0≤r∧r < V∧U=q * V+r∧U.tdiv V=q:=by
  have h1:=Int.emod_nonneg U (show V≠0 by omega)
  have h2:=Int.emod_lt_of_pos U (show 0 < V by omega)
  have h3:=Int.mul_ediv_add_emod U V
  rw [Int.mul_comm] at h3
  have h4:1≤U / V:=Int.le_ediv_of_mul_le (by omega) (by omega)
  have h5:U / V≤U:=Int.ediv_le_self _ (by omega)
  exact ⟨_,_,rfl,rfl,h4,h5,by omega,by omega,by omega,Int.tdiv_eq_ediv_of_nonneg (by omega)⟩
end Cin
namespace Go.Proofs.YthffkbbcofbceaaGreatDoor
open Go.RowKit Cin
def SurePost (X Y:Nat) (w:World) (e:Ending) (w':World):Prop:=
  ∃ a b c d u v u0 v0:Int,e=.returned (.agg #[.int .i64 a,.int .i64 b,.int .i64 c,.int .i64 d])∧EuSteps X Y u0 v0 a b c d u v∧Below w.heap.size w w'
def SureRel (X Y:Nat) (u0 v0:Int) (R F:Nat) (w:World) (g:Nat) (xu xv:Value) (wr:World):Prop:=
  ∃ (U V a b c d:Int) (y0 y1 y2 y3:Value),xu=.int .i64 U∧xv=.int .i64 V∧g=V.toNat∧EuSteps X Y u0 v0 a b c d U V∧U < 4611686018427387904∧Four wr F 224 (.int .i64 a) (.int .i64 b) (.int .i64 c) (.int .i64 d)∧Four wr R 224 y0 y1 y2 y3∧Below w.heap.size w wr
set_option maxRecDepth 100000 in
set_option maxHeartbeats 4000000 in
theorem sure_any (v u:Value) (X Y L:Nat) (w:World) (h:RefV 202 w v X) (h':RefV 202 w u Y) (hXY:Y≤X) (hL:X < pw L) (hLb:L≤10000000) (hbig:18446744073709551616≤Y) :
    Calls Tryz.prog 175 #[v,u] w (SurePost X Y w):=by
  obtain ⟨ad,len,cap,xs,rfl,hs⟩:=h.shape
  have H:=Lib.hid h
  have H':=Lib.hid h'
  clear h h' hs
  go_enter Tryz.func175,Tryz.ntmps175
  go_wp2_with fail
  refine (bits_any _ X L _ ⟨_,rfl,H.out.below (bel_alloc _ _)⟩ hL (by omega)).mono ?_
  rintro e w1 ⟨k,rfl,hk,hb1⟩
  have hk62:65≤k:=by
    rcases Nat.lt_or_ge k 65 with h1 | h1
    · have h2:=Nat.pow_le_pow_right (n:=2) (by decide) (show k≤64 by omega)
      have:=hk.1
      omega
    · exact h1
  have hk32:k≤32 * L:=by
    rcases hk.2 with e | e
    · omega
    · rcases Nat.lt_or_ge (32 * L) k with h1 | h1
      · have:=Nat.pow_le_pow_right (n:=2) (by decide) (show 32 * L≤k - 1 by omega)
        rw [pw_two] at hL
        omega
      · exact h1
  obtain ⟨u0,v0,x1,y1,P,eu,ev,hu0,hvu,eX,eY,hx1,hy1⟩:=heads hk (by omega) hXY
  obtain ⟨cut,hcut,ecut⟩:∃ cut:Nat,(k:Int) - 62=(cut:Int)∧k - 62=cut:=⟨k - 62,by omega,rfl⟩
  rw [ecut] at eu ev
  have hcb:cut≤1000000000000:=by omega
  have HR:=Lib.hid ((heldN1 (w:=w)).below hb1).1
  have HB1:=Lib.hid (bel_on (bel_alloc w (Obj.cells #[Value.int IntKind.i64 0,Value.int IntKind.i64 0,Value.int IntKind.i64 0,Value.int IntKind.i64 0] 224)) hb1)
  obtain ⟨xs,hsx,okx,_,hvx⟩:=H.out.below HB1.out
  obtain ⟨ys,hsy,oky,_,hvy⟩:=H'.out.below HB1.out
  have hs1:=hb1.size
  simp only [World.size_alloc] at hs1
  have HK:=Lib.hid (And.intro eX eY)
  clear hk hb1 eX eY ecut
  go_wp2_with fail
  refine (window_any _ xs cut _ hsx okx hcb).mono ?_
  rintro e w2 ⟨rfl,n2,hw2⟩
  have hb2:Below w1.heap.size w1 w2:=by rw [hw2]; exact bel_drewN (Below.refl _ _) _
  rw [hvx,eu]
  clear hw2
  go_wp2_with fail
  refine (window_any _ ys cut _ (hsy.below hb2) oky hcb).mono ?_
  rintro e w3 ⟨rfl,n3,hw3⟩
  have hb3:Below w2.heap.size w2 w3:=by rw [hw3]; exact bel_drewN (Below.refl _ _) _
  rw [hvy,ev]
  have HR3:=Lib.hid (show Four w3 w.heap.size 224 (.int .i64 0) (.int .i64 0) (.int .i64 0) (.int .i64 0) from (show Four w1 w.heap.size 224 (.int .i64 0) (.int .i64 0) (.int .i64 0) (.int .i64 0) from HR.out).below (bel_on hb2 hb3))
  have HB3:=Lib.hid (bel_on HB1.out (bel_on hb2 hb3))
  have hsz:w1.heap.size≤w3.heap.size:=(bel_on hb2 hb3).size
  clear hsx hsy hvx hvy eu ev okx oky hcut hcb hb2 hb3 hw3
  go_wp2_with fail
  have HF:=Lib.hid (show Four (w3.alloc (Obj.cells #[Value.int IntKind.i64 1,Value.int IntKind.i64 0,Value.int IntKind.i64 0,Value.int IntKind.i64 1] 224)) w3.heap.size 224 (.int .i64 1) (.int .i64 0) (.int .i64 0) (.int .i64 1) from new_block _ _)
  have HR4:=Lib.hid (HR3.out.below (bel_alloc _ (Obj.cells #[Value.int IntKind.i64 1,Value.int IntKind.i64 0,Value.int IntKind.i64 0,Value.int IntKind.i64 1] 224)))
  have HB4:=Lib.hid (bel_on HB3.out (bel_alloc _ (Obj.cells #[Value.int IntKind.i64 1,Value.int IntKind.i64 0,Value.int IntKind.i64 0,Value.int IntKind.i64 1] 224)))
  clear HR HR3 HB3 HB1
  generalize w3.alloc (Obj.cells #[Value.int IntKind.i64 1,Value.int IntKind.i64 0,Value.int IntKind.i64 0,Value.int IntKind.i64 1] 224)=W at *
  go_loopg [6,7,9,10,11,12] v0 (fun g xu xv _ _ _ _ wr=>SureRel X Y u0 v0 w.heap.size w3.heap.size w g xu xv wr)
  case atStart=>exact ⟨u0,v0,1,0,0,1,_,_,_,_,rfl,rfl,by simp,EuSteps.start (by omega) (by omega) (by omega) (by omega),by omega,HF.out,HR4.out,HB4.out⟩
  case round=>
    obtain ⟨U,V,a,b,c,d,z0,z1,z2,z3,rfl,rfl,hg,hst,hU62,hF,hRR,hbel⟩:=hrel
    have HST:=Lib.hid hst
    clear HF HR4 HB4
    have HF:=Lib.hid hF
    have HRR:=Lib.hid hRR
    have HBE:=Lib.hid hbel
    have HG:=Lib.hid hg
    have hVs:0≤V∧V≤U:=let ⟨_,_,_,_,_,_,_,_,_,_,_,_,⟨h1,h2,_⟩,_⟩:=hst; ⟨h1,h2⟩
    have hfs:=hst.done.1
    clear hst hF hRR hbel hg
    by_cases hV:V=0
    · subst hV
      obtain ⟨hf0,hf1,hf2,hf3⟩:=HF.out.cells
      obtain ⟨hr0,hr1,hr2,hr3⟩:=HRR.out.cells
      obtain ⟨hq0,hq1,hq2,hq3⟩:=HRR.out.free
      have HSET:=Lib.hid (HRR.out.set (.int .i64 a) (.int .i64 b) (.int .i64 c) (.int .i64 d)).cells
      have HEND:=Lib.hid (bel_four (b:=w.heap.size) (y0:=.int .i64 a) (y1:=.int .i64 b) (y2:=.int .i64 c) (y3:=.int .i64 d) HBE.out (Nat.le_refl _))
      go_wp2_with fail
      refine bodyPost_ret (v:=.agg #[.int .i64 a,.int .i64 b,.int .i64 c,.int .i64 d]) (by simp [results,Tryz.results175,go_sem,HSET.out.1,HSET.out.2.1,HSET.out.2.2.1,HSET.out.2.2.2]) rfl ⟨a,b,c,d,_,_,_,_,rfl,HST.out,HEND.out⟩
    · have hV0:(V == 0)=false:=by simpa using hV
      obtain ⟨q,r,eq,er,hq1,hqU,hr0,hrV,hU,etd⟩:=quot_facts (show 1≤V by omega) hVs.2
      obtain ⟨M,hM⟩:∃ M,q * V=M:=⟨_,rfl⟩
      rw [hM] at er hU
      have wq:IntKind.i64.wrap (U.tdiv V)=q:=by rw [etd,IntWalk.i64_in _ (by omega)]
      have wq2:IntKind.i64.wrap q=q:=IntWalk.i64_in _ (by omega)
      have wM:IntKind.i64.wrap (q * V)=M:=by rw [hM,IntWalk.i64_in _ (by omega)]
      have wr1:IntKind.i64.wrap (U - M)=r:=by rw [er,IntWalk.i64_in _ (by omega)]
      obtain ⟨Fn,Dn,eF,eD,hF62,hD31,hqc,hqd,hac,hbd,hnext⟩:=HST.out.next (q:=q) (w:=r) (P:=P) (x1:=x1) (y1:=y1) (by omega) (by omega) (by omega) hq1 hr0 hrV (by omega) (by have:=HK.out.1; rw [this]; simp) (by have:=HK.out.2; rw [this]; simp) (by omega) (by omega) (by omega) (by omega)
      have HN:=Lib.hid hnext
      obtain ⟨qc,eqc⟩:∃ z,q * c=z:=⟨_,rfl⟩
      obtain ⟨qd,eqd⟩:∃ z,q * d=z:=⟨_,rfl⟩
      rw [eqc] at hqc hac HN
      rw [eqd] at hqd hbd HN eF
      obtain ⟨wx,ewx⟩:∃ z,a - qc=z:=⟨_,rfl⟩
      obtain ⟨wy,ewy⟩:∃ z,b - qd=z:=⟨_,rfl⟩
      rw [ewx] at hac HN
      rw [ewy] at hbd HN eF
      have w1':IntKind.i64.wrap (q * c)=qc:=by rw [eqc,IntWalk.i64_in _ (by omega)]
      have w2':IntKind.i64.wrap (q * d)=qd:=by rw [eqd,IntWalk.i64_in _ (by omega)]
      have w3':IntKind.i64.wrap (a - qc)=wx:=by rw [ewx,IntWalk.i64_in _ (by omega)]
      have w4':IntKind.i64.wrap (b - qd)=wy:=by rw [ewy,IntWalk.i64_in _ (by omega)]
      obtain ⟨hf0,hf1,hf2,hf3⟩:=HF.out.cells
      clear hnext eq er hU etd hM eqc eqd ewx ewy
      obtain ⟨Z,wZ,eZ⟩:∃ Z,IntKind.i64.wrap (V - r)=Z∧Z=V - r:=⟨_,IntWalk.i64_in _ (by omega),rfl⟩
      obtain ⟨G,wG,eG⟩:∃ G,IntKind.i64.wrap ((Fn:Int)+(Dn:Int))=G∧G=(Fn:Int)+(Dn:Int):=⟨_,IntWalk.i64_in _ (by omega),rfl⟩
      have EZ:=Lib.hid (And.intro eZ eG)
      clear eZ eG
      by_cases c1:r < (Fn:Int)
      · go_wp2_with fail
        go_big_region
        go_wp2_with fail
        refine wp_region_sched (fun w'=>w'.cell? ⟨w3.heap.size,3,none⟩=some (.int .i64 d)∧Below wr.heap.size wr w') [(0,true),(1,true),(2,false),(3,true),(4,true),(5,true),(6,true),(7,true),(8,true),(10,true),(11,true),(9,false),(12,false),(13,true),(14,true),(15,true)] (by kernel_rfl) (by kernel_rfl) ?_ (fun hHeld=>?_)
        · (try dsimp only)
          exact ⟨hf3,(Below.refl _ wr).drew.drew⟩
        try dsimp only at hHeld
        repeat (refine wpSched_at (by simp only [List.getElem?_toArray,List.getElem?_cons_zero,List.getElem?_cons_succ]; rfl) ?_; (first | (apply wpAt_take rfl; (intro wx hSx; (try dsimp only at hSx); go_simp; (try with_reducible rfl)); simp only [Act.put,List.setIfInBounds_toArray,List.set_cons_zero,List.set_cons_succ]) | (refine wpAt_skip rfl ?_; simp only [Act.put,List.setIfInBounds_toArray,List.set_cons_zero,List.set_cons_succ]) | (refine wpAt_pass rfl hHeld ?_; simp only [Act.put,List.setIfInBounds_toArray,List.set_cons_zero,List.set_cons_succ]) | (refine wpAt_eff rfl (fun K hK=>?_); (skip); go_simp; (first | (go_at_call 201; (with_reducible refine (nabs_any wy _ (by omega) (by omega)).mono ?_); rintro e w' ⟨rfl,hb⟩; rw [eF]; have hS:=And.intro trivial (And.intro (cell_below hHeld.1 hb) (bel_on hHeld.2 hb)); clear hb hHeld) | (go_at_call 201; (with_reducible refine (nabs_any d _ (by omega) (by omega)).mono ?_); rintro e w' ⟨rfl,hb⟩; rw [eD]; have hS:=And.intro trivial (And.intro (cell_below hHeld.1 hb) (bel_on hHeld.2 hb)); clear hb hHeld)); (refine hK.out _ _ ?_ (fun hHeld=>?_)); ((try dsimp only); ((try simp only [cell_drew,slot_drew,below_drew]); refine ⟨?_,?_⟩; (first | exact hS.2.1 | with_reducible exact cell_set hHeld.1 (by omega) | with_reducible exact cell_set (cell_set hHeld.1 (by omega)) (by omega)); (first | exact hS.2.2 | with_reducible exact bel_set1 hHeld.2 (by omega) | with_reducible exact bel_set2 hHeld.2 (by omega) (by omega)))); clear hK K; (try clear hS); (try clear hfx0 hx0 x0); (try clear hfy0 hy0 y0); (try clear hfx1 hx1 x1); (try clear hfy1 hy1 y1); (try dsimp only at hHeld))))
        refine wpSched_nil ?_
        rename_i wz _ _
        have HBZ:=Lib.hid hHeld.2
        clear hHeld
        have HFZ:=Lib.hid (HF.out.below HBZ.out)
        have HRZ:=Lib.hid (HRR.out.below HBZ.out)
        have HEZ:=Lib.hid (bel_on HBE.out HBZ.out)
        clear hf0 hf1 hf2 hf3
        obtain ⟨hf0,hf1,hf2,hf3⟩:=HFZ.out.cells
        obtain ⟨hr0,hr1,hr2,hr3⟩:=HRZ.out.cells
        obtain ⟨hq0,hq1,hq2,hq3⟩:=HRZ.out.free
        have HSET:=Lib.hid (HRZ.out.set (.int .i64 a) (.int .i64 b) (.int .i64 c) (.int .i64 d)).cells
        have HEND:=Lib.hid (bel_four (b:=w.heap.size) (y0:=.int .i64 a) (y1:=.int .i64 b) (y2:=.int .i64 c) (y3:=.int .i64 d) HEZ.out (Nat.le_refl _))
        go_wp2_with fail
        refine bodyPost_ret (v:=.agg #[.int .i64 a,.int .i64 b,.int .i64 c,.int .i64 d]) (by simp [results,Tryz.results175,go_sem,HSET.out.1,HSET.out.2.1,HSET.out.2.2.1,HSET.out.2.2.2]) rfl ⟨a,b,c,d,_,_,_,_,rfl,HST.out,HEND.out⟩
      · have hd1:decide (r < (Fn:Int))=false:=decide_eq_false c1
        by_cases c2:Z < G
        · have hd2:decide (Z < G)=true:=decide_eq_true c2
          go_wp2_with fail
          go_big_region
          go_wp2_with fail
          refine wp_region_sched (fun w'=>w'.cell? ⟨w3.heap.size,3,none⟩=some (.int .i64 d)∧Below wr.heap.size wr w') [(0,true),(1,true),(2,false),(3,true),(4,true),(5,true),(6,true),(7,true),(8,true),(10,true),(11,true),(9,false),(12,false),(13,true),(14,true),(15,true)] (by kernel_rfl) (by kernel_rfl) ?_ (fun hHeld=>?_)
          · (try dsimp only)
            exact ⟨hf3,(Below.refl _ wr).drew.drew⟩
          try dsimp only at hHeld
          repeat (refine wpSched_at (by simp only [List.getElem?_toArray,List.getElem?_cons_zero,List.getElem?_cons_succ]; rfl) ?_; (first | (apply wpAt_take rfl; (intro wx hSx; (try dsimp only at hSx); go_simp; (try with_reducible rfl)); simp only [Act.put,List.setIfInBounds_toArray,List.set_cons_zero,List.set_cons_succ]) | (refine wpAt_skip rfl ?_; simp only [Act.put,List.setIfInBounds_toArray,List.set_cons_zero,List.set_cons_succ]) | (refine wpAt_pass rfl hHeld ?_; simp only [Act.put,List.setIfInBounds_toArray,List.set_cons_zero,List.set_cons_succ]) | (refine wpAt_eff rfl (fun K hK=>?_); (skip); go_simp; (first | (go_at_call 201; (with_reducible refine (nabs_any wy _ (by omega) (by omega)).mono ?_); rintro e w' ⟨rfl,hb⟩; rw [eF]; have hS:=And.intro trivial (And.intro (cell_below hHeld.1 hb) (bel_on hHeld.2 hb)); clear hb hHeld) | (go_at_call 201; (with_reducible refine (nabs_any d _ (by omega) (by omega)).mono ?_); rintro e w' ⟨rfl,hb⟩; rw [eD]; have hS:=And.intro trivial (And.intro (cell_below hHeld.1 hb) (bel_on hHeld.2 hb)); clear hb hHeld)); (refine hK.out _ _ ?_ (fun hHeld=>?_)); ((try dsimp only); ((try simp only [cell_drew,slot_drew,below_drew]); refine ⟨?_,?_⟩; (first | exact hS.2.1 | with_reducible exact cell_set hHeld.1 (by omega) | with_reducible exact cell_set (cell_set hHeld.1 (by omega)) (by omega)); (first | exact hS.2.2 | with_reducible exact bel_set1 hHeld.2 (by omega) | with_reducible exact bel_set2 hHeld.2 (by omega) (by omega)))); clear hK K; (try clear hS); (try clear hfx0 hx0 x0); (try clear hfy0 hy0 y0); (try clear hfx1 hx1 x1); (try clear hfy1 hy1 y1); (try dsimp only at hHeld))))
          refine wpSched_nil ?_
          rename_i wz _ _
          have HBZ:=Lib.hid hHeld.2
          clear hHeld
          have HFZ:=Lib.hid (HF.out.below HBZ.out)
          have HRZ:=Lib.hid (HRR.out.below HBZ.out)
          have HEZ:=Lib.hid (bel_on HBE.out HBZ.out)
          clear hf0 hf1 hf2 hf3
          obtain ⟨hf0,hf1,hf2,hf3⟩:=HFZ.out.cells
          obtain ⟨hr0,hr1,hr2,hr3⟩:=HRZ.out.cells
          obtain ⟨hq0,hq1,hq2,hq3⟩:=HRZ.out.free
          have HSET:=Lib.hid (HRZ.out.set (.int .i64 a) (.int .i64 b) (.int .i64 c) (.int .i64 d)).cells
          have HEND:=Lib.hid (bel_four (b:=w.heap.size) (y0:=.int .i64 a) (y1:=.int .i64 b) (y2:=.int .i64 c) (y3:=.int .i64 d) HEZ.out (Nat.le_refl _))
          go_wp2_with fail
          refine bodyPost_ret (v:=.agg #[.int .i64 a,.int .i64 b,.int .i64 c,.int .i64 d]) (by simp [results,Tryz.results175,go_sem,HSET.out.1,HSET.out.2.1,HSET.out.2.2.1,HSET.out.2.2.2]) rfl ⟨a,b,c,d,_,_,_,_,rfl,HST.out,HEND.out⟩
        · have HN2:=Lib.hid (HN.out (by omega) (by have:=EZ.out; omega))
          have hd2:decide (Z < G)=false:=decide_eq_false c2
          clear HN
          go_wp2_with fail
          go_big_region
          go_wp2_with fail
          refine wp_region_sched (fun w'=>w'.cell? ⟨w3.heap.size,3,none⟩=some (.int .i64 d)∧Below wr.heap.size wr w') [(0,true),(1,true),(2,false),(3,true),(4,true),(5,true),(6,true),(7,true),(8,true),(10,true),(11,true),(9,false),(12,false),(13,true),(14,true),(15,true)] (by kernel_rfl) (by kernel_rfl) ?_ (fun hHeld=>?_)
          · (try dsimp only)
            exact ⟨hf3,(Below.refl _ wr).drew.drew⟩
          try dsimp only at hHeld
          repeat (refine wpSched_at (by simp only [List.getElem?_toArray,List.getElem?_cons_zero,List.getElem?_cons_succ]; rfl) ?_; (first | (apply wpAt_take rfl; (intro wx hSx; (try dsimp only at hSx); go_simp; (try with_reducible rfl)); simp only [Act.put,List.setIfInBounds_toArray,List.set_cons_zero,List.set_cons_succ]) | (refine wpAt_skip rfl ?_; simp only [Act.put,List.setIfInBounds_toArray,List.set_cons_zero,List.set_cons_succ]) | (refine wpAt_pass rfl hHeld ?_; simp only [Act.put,List.setIfInBounds_toArray,List.set_cons_zero,List.set_cons_succ]) | (refine wpAt_eff rfl (fun K hK=>?_); (skip); go_simp; (first | (go_at_call 201; (with_reducible refine (nabs_any wy _ (by omega) (by omega)).mono ?_); rintro e w' ⟨rfl,hb⟩; rw [eF]; have hS:=And.intro trivial (And.intro (cell_below hHeld.1 hb) (bel_on hHeld.2 hb)); clear hb hHeld) | (go_at_call 201; (with_reducible refine (nabs_any d _ (by omega) (by omega)).mono ?_); rintro e w' ⟨rfl,hb⟩; rw [eD]; have hS:=And.intro trivial (And.intro (cell_below hHeld.1 hb) (bel_on hHeld.2 hb)); clear hb hHeld)); (refine hK.out _ _ ?_ (fun hHeld=>?_)); ((try dsimp only); ((try simp only [cell_drew,slot_drew,below_drew]); refine ⟨?_,?_⟩; (first | exact hS.2.1 | with_reducible exact cell_set hHeld.1 (by omega) | with_reducible exact cell_set (cell_set hHeld.1 (by omega)) (by omega)); (first | exact hS.2.2 | with_reducible exact bel_set1 hHeld.2 (by omega) | with_reducible exact bel_set2 hHeld.2 (by omega) (by omega)))); clear hK K; (try clear hS); (try clear hfx0 hx0 x0); (try clear hfy0 hy0 y0); (try clear hfx1 hx1 x1); (try clear hfy1 hy1 y1); (try dsimp only at hHeld))))
          refine wpSched_nil ?_
          rename_i wz _ _
          have HBZ:=Lib.hid hHeld.2
          clear hHeld
          have HFZ:=Lib.hid (HF.out.below HBZ.out)
          have HRZ:=Lib.hid (HRR.out.below HBZ.out)
          have HEZ:=Lib.hid (bel_on HBE.out HBZ.out)
          clear hf0 hf1 hf2 hf3
          obtain ⟨hf0,hf1,hf2,hf3⟩:=HFZ.out.cells
          obtain ⟨hq0,hq1',hq2,hq3⟩:=HFZ.out.free
          have HFS:=Lib.hid (HFZ.out.set (.int .i64 c) (.int .i64 d) (.int .i64 wx) (.int .i64 wy))
          have hRF:w.heap.size≠w3.heap.size:=by omega
          have HRS:=Lib.hid (HRZ.out.other hRF (.int .i64 c) (.int .i64 d) (.int .i64 wx) (.int .i64 wy))
          have HES:=Lib.hid (bel_four (b:=w3.heap.size) (y0:=.int .i64 c) (y1:=.int .i64 d) (y2:=.int .i64 wx) (y3:=.int .i64 wy) HEZ.out (by omega))
          go_wp2_with fail
          go_roundg r.toNat
          case measure=>have:=HG.out; omega
          case rel=>exact ⟨V,r,c,d,wx,wy,_,_,_,_,rfl,rfl,rfl,HN2.out,by omega,HFS.out,HRS.out,HES.out⟩
end Go.Proofs.YthffkbbcofbceaaGreatDoor

namespace Cin
open Go Go.RowKit
section
variable {t:TypeId} {k:IntKind} {w w':World} {base:Nat} {v:Value} {xs:List Nat}
theorem Own.other {g n cap g':Nat} (h:Own t k w base (.slice (some ⟨g,0,none⟩) n cap) xs) (hne:g≠g') (i:Nat) (u:Value):Own t k (w.setCell ⟨g',i,none⟩ u) base (.slice (some ⟨g,0,none⟩) n cap) xs:=by
  refine ⟨h.1,?_⟩
  rcases h.2 with ⟨e,_⟩ | ⟨g1,c1,cur,e,hbg,hg,r⟩
  · cases e
  · cases e
    exact .inr ⟨_,_,cur,rfl,hbg,by rw [Below.heap_setCell _ _ _ _ (show g≠g' from hne)]; exact hg,r⟩
theorem Own.base_le {B:Nat} (h:Own t k w base v xs) (hB:B≤base):Own t k w B v xs:=by
  refine ⟨h.1,?_⟩
  rcases h.2 with h2 | ⟨g,cap,cur,rfl,hbg,r⟩
  · exact .inl h2
  · exact .inr ⟨g,cap,cur,rfl,Nat.le_trans hB hbg,r⟩
theorem Own.some_base {g n cap:Nat} (h:Own t k w base (.slice (some ⟨g,0,none⟩) n cap) xs):base≤g∧g < w.heap.size∧n≤cap∧n=xs.length:=by
  rcases h.shape with ⟨e,_⟩ | ⟨g1,c1,e,h1,h2,h3⟩
  · cases e
  · cases e; exact ⟨h1,h2,h3,rfl⟩
end
theorem set_mid {os xs:List Nat} {i:Nat} (ho:os.length=i) (hi:i < xs.length) (o:Nat):(os++xs.drop i).set i o=(os++[o])++xs.drop (i+1):=by
  rw [List.set_append_right _ _ (by omega),ho,Nat.sub_self,List.drop_eq_getElem_cons hi,List.set_cons_zero,List.append_assoc]; rfl
theorem lim_mid {os xs:List Nat} {i:Nat} (ho:os.length=i):lim (os++xs.drop i) i=lim xs i:=by
  rw [lim_append_right (by omega),ho,Nat.sub_self,lim_drop,Nat.add_zero]
theorem apply_step {xs ys os:List Nat} {i o:Nat} {a b S S1 S':Int} (ho:os.length=i) (hv:(val os:Int)+(pw i:Int) * S=a * (val (xs.take i):Int)+b * (val (ys.take i):Int)) (e1:S1=S+(a * (lim xs i:Int)+b * (lim ys i:Int))) (e2:S1=(o:Int)+4294967296 * S') :
    (val (os++[o]):Int)+(pw (i+1):Int) * S'=a * (val (xs.take (i+1)):Int)+b * (val (ys.take (i+1)):Int):=by
  rw [val_snoc,ho,val_take_step,val_take_step,pw_succ]
  simp only [Int.natCast_add,Int.natCast_mul,Int.mul_add]
  have h1:(pw i:Int) * S1=(pw i:Int) * S+((pw i:Int) * (a * (lim xs i:Int))+(pw i:Int) * (b * (lim ys i:Int))):=by rw [e1,Int.mul_add,Int.mul_add]
  have h2:(pw i:Int) * S1=(pw i:Int) * (o:Int)+(pw i:Int) * (4294967296 * S'):=by rw [e2,Int.mul_add]
  rw [Int.mul_left_comm a,Int.mul_left_comm b]
  have h3:((4294967296:Nat):Int) * (pw i:Int) * S'=(pw i:Int) * (4294967296 * S'):=by rw [Int.mul_comm ((4294967296:Nat):Int),Int.mul_assoc]; rfl
  have h4:(pw i:Int) * ((4294967296:Nat):Int) * S'=(pw i:Int) * (4294967296 * S'):=by rw [Int.mul_assoc]; rfl
  omega
theorem word_bound {a b:Int} {x y:Nat} (ha:-2147483648 < a∧a < 2147483648) (hb:-2147483648 < b∧b < 2147483648) (hs:0≤a∧b≤0∨a≤0∧0≤b) (hx:x < 4294967296) (hy:y < 4294967296) :
    ∃ p q:Int,a * (x:Int)=p∧b * (y:Int)=q∧-9223372030412324865≤p∧p≤9223372030412324865∧-9223372030412324865≤q∧q≤9223372030412324865∧-9223372030412324865≤p+q∧p+q≤9223372030412324865:=by
  have k:∀ z:Int,∀ n:Nat,n < 4294967296→0≤z→z < 2147483648→0≤z * (n:Int)∧z * (n:Int)≤9223372030412324865:=fun z n hn h0 h1=>by
    have h2:z * (n:Int)≤2147483647 * 4294967295:=Int.mul_le_mul (by omega) (by omega) (by omega) (by decide)
    exact ⟨Int.mul_nonneg h0 (by omega),by omega⟩
  refine ⟨_,_,rfl,rfl,?_⟩
  rcases hs with ⟨h1,h2⟩ | ⟨h1,h2⟩
  · have:=k a x hx h1 ha.2
    have:=k (-b) y hy (by omega) (by omega)
    rw [Int.neg_mul] at this
    omega
  · have:=k (-a) x hx (by omega) (by omega)
    have:=k b y hy h2 hb.2
    rw [Int.neg_mul] at *
    omega
theorem eq_of_mod {P o U k:Int} (h0:0≤o) (h1:o < P) (h2:0≤U) (h3:U < P) (e:o+P * k=U):o=U:=by
  rcases Int.lt_trichotomy k 0 with h | h | h
  · have:P * k≤P * (-1):=Int.mul_le_mul_of_nonneg_left (by omega) (by omega)
    omega
  · subst h; omega
  · have:P * 1≤P * k:=Int.mul_le_mul_of_nonneg_left (by omega) (by omega)
    omega
theorem apply_end {xs ys os:List Nat} {n:Nat} {a b S:Int} (ho:os.length=n) (hok:Ok os) (hx:n≤xs.length) (hy:ys.length=n) (hv:(val os:Int)+(pw n:Int) * S=a * (val (xs.take n):Int)+b * (val (ys.take n):Int))
    (h0:0≤a * (val xs:Int)+b * (val ys:Int)) (h1:a * (val xs:Int)+b * (val ys:Int) < (pw n:Int)):(val os:Int)=a * (val xs:Int)+b * (val ys:Int):=by
  have h2:=val_lt hok
  rw [ho] at h2
  have h3:=val_split xs n hx
  rw [List.take_of_length_le (l:=ys) (by omega)] at hv
  refine eq_of_mod (P:=(pw n:Int)) (k:=S+a * (val (xs.drop n):Int)) (by omega) (by omega) h0 h1 ?_
  rw [h3,Int.natCast_add,Int.natCast_mul,Int.mul_add,Int.mul_add,Int.mul_left_comm a]
  omega
def ApplyPost (a b c d:Int) (t:TypeId) (gx cx gy cy:Nat) (xs ys:List Nat) (base:Nat) (w:World) (e:Ending) (w':World):Prop:=
  ∃ (n m:Nat) (xs' ys':List Nat),e=.returned (.tuple #[.slice (some ⟨gx,0,none⟩) n cx,.slice (some ⟨gy,0,none⟩) m cy])∧Own t .u32 w' base (.slice (some ⟨gx,0,none⟩) n cx) xs'∧Own t .u32 w' base (.slice (some ⟨gy,0,none⟩) m cy) ys' ∧
    Ok xs'∧Ok ys'∧Norm xs'∧Norm ys'∧(val xs':Int)=a * (val xs:Int)+b * (val ys:Int)∧(val ys':Int)=c * (val xs:Int)+d * (val ys:Int)∧Below base w w'
def ApplyRel (a b c d:Int) (t tf:TypeId) (gx cx gy cy F:Nat) (zs ys:List Nat) (base:Nat) (w:World) (g:Nat) (s1 s2 ix:Value) (wr:World):Prop:=
  ∃ (i:Nat) (S T:Int) (os ps:List Nat),i+g=ys.length∧ix=.int .i64 i∧s1=.int .i64 S∧s2=.int .i64 T∧os.length=i∧ps.length=i∧Ok os∧Ok ps ∧
    (val os:Int)+(pw i:Int) * S=a * (val (zs.take i):Int)+b * (val (ys.take i):Int)∧(val ps:Int)+(pw i:Int) * T=c * (val (zs.take i):Int)+d * (val (ys.take i):Int) ∧
    (-2147483648≤S∧S < 2147483648)∧(-2147483648≤T∧T < 2147483648) ∧
    Own t .u32 wr base (.slice (some ⟨gx,0,none⟩) ys.length cx) (os++zs.drop i)∧Own t .u32 wr base (.slice (some ⟨gy,0,none⟩) ys.length cy) (ps++ys.drop i) ∧
    Four wr F tf (.int .i64 a) (.int .i64 b) (.int .i64 c) (.int .i64 d)∧Below base w wr
end Cin
namespace Go.Proofs.YthffkbbcofbceaaGreatDoor
open Go.RowKit Cin
set_option maxRecDepth 100000 in
set_option maxHeartbeats 4000000 in
theorem apply_any (a b c d:Int) (gx lx cx gy ly cy:Nat) (xs ys:List Nat) (base:Nat) (w:World) (hx:Own 202 .u32 w base (.slice (some ⟨gx,0,none⟩) lx cx) xs) (hy:Own 202 .u32 w base (.slice (some ⟨gy,0,none⟩) ly cy) ys) (hne:gx≠gy) (okx:Ok xs) (oky:Ok ys) (hle:ly≤lx) (hb:ly≤10000000)
    (hf:-2147483648 < a∧a < 2147483648∧-2147483648 < b∧b < 2147483648∧-2147483648 < c∧c < 2147483648∧-2147483648 < d∧d < 2147483648) (hsg:0≤a∧b≤0∧c≤0∧0≤d∨a≤0∧0≤b∧0≤c∧d≤0)
    (hU0:0≤a * (val xs:Int)+b * (val ys:Int)) (hU1:a * (val xs:Int)+b * (val ys:Int) < (pw ly:Int)) (hV0:0≤c * (val xs:Int)+d * (val ys:Int)) (hV1:c * (val xs:Int)+d * (val ys:Int) < (pw ly:Int)) :
    Calls Tryz.prog 177 #[.agg #[.int .i64 a,.int .i64 b,.int .i64 c,.int .i64 d],.slice (some ⟨gx,0,none⟩) lx cx,.slice (some ⟨gy,0,none⟩) ly cy] w (ApplyPost a b c d 202 gx cx gy cy xs ys base w):=by
  obtain ⟨hgx,hgx2,hlc,hlx⟩:=hx.some_base
  obtain ⟨hgy,hgy2,hlcy,hly⟩:=hy.some_base
  have HX:=Lib.hid (hx.take (m:=ly) hle)
  have HY:=Lib.hid hy
  have HU:=Lib.hid (And.intro hU0 hU1)
  have HV:=Lib.hid (And.intro hV0 hV1)
  have HLX:=Lib.hid (show ly≤xs.length by omega)
  obtain ⟨zs,hzs⟩:∃ zs,xs.take ly=zs:=⟨_,rfl⟩
  rw [hzs] at HX
  have hzl:zs.length=ly:=by rw [← hzs,List.length_take]; omega
  have okz:Ok zs:=by rw [← hzs]; exact okx.take _
  have HZ:=Lib.hid hzs
  have hcx:ly≤cx:=by omega
  subst hly
  clear hx hy hU0 hU1 hV0 hV1 hzs hlx
  go_enter Tryz.func177,Tryz.ntmps177
  go_wp2_with fail
  have HF0:=Lib.hid (show Four (w.alloc (Obj.cells #[Value.int IntKind.i64 a,Value.int IntKind.i64 b,Value.int IntKind.i64 c,Value.int IntKind.i64 d] 224)) w.heap.size 224 (.int .i64 a) (.int .i64 b) (.int .i64 c) (.int .i64 d) from new_block _ _)
  have hbA:=bel_alloc w (Obj.cells #[Value.int IntKind.i64 a,Value.int IntKind.i64 b,Value.int IntKind.i64 c,Value.int IntKind.i64 d] 224)
  have HXA:=Lib.hid (HX.out.below hbA)
  have HYA:=Lib.hid (HY.out.below hbA)
  have HBA:=Lib.hid (show Below base w _ from hbA.mono (by omega))
  clear hbA
  generalize w.alloc (Obj.cells #[Value.int IntKind.i64 a,Value.int IntKind.i64 b,Value.int IntKind.i64 c,Value.int IntKind.i64 d] 224)=W at *
  go_loopg [8,9,10,11,12,19] ys.length (fun g s1 s2 _ _ _ ix wr=>ApplyRel a b c d 202 224 gx cx gy cy w.heap.size zs ys base w g s1 s2 ix wr)
  case atStart=>exact ⟨0,0,0,[],[],by omega,rfl,rfl,rfl,rfl,rfl,Ok.nil,Ok.nil,by simp [val_nil],by simp [val_nil],by decide,by decide,by simpa using HXA.out,by simpa using HYA.out,HF0.out,HBA.out⟩
  case round=>
    obtain ⟨i,S,T,os,ps,hi,rfl,rfl,rfl,hol,hpl,hok,hpk,hv1,hv2,hS,hT,hox,hoy,hF,hbel⟩:=hrel
    have HV1:=Lib.hid hv1
    have HV2:=Lib.hid hv2
    have HOX:=Lib.hid hox
    have HOY:=Lib.hid hoy
    have HF:=Lib.hid hF
    have HBE:=Lib.hid hbel
    clear hv1 hv2 hox hoy hF hbel HXA HYA HBA HF0
    by_cases hlt:i < ys.length
    · have hlenx:(os++zs.drop i).length=ys.length:=by rw [List.length_append,List.length_drop]; omega
      have hleny:(ps++ys.drop i).length=ys.length:=by rw [List.length_append,List.length_drop]; omega
      have hcX:=HOX.out.cell hlenx.symm hlt
      have hcY:=HOY.out.cell hleny.symm hlt
      rw [lim_mid hol] at hcX
      rw [lim_mid hpl] at hcY
      have hfX:=HOX.out.free hlenx.symm i
      have hfY:=HOY.out.free hleny.symm i
      have hx32:=lim_lt okz i
      have hy32:=lim_lt oky i
      obtain ⟨p1,q1,ep1,eq1,hp1⟩:=word_bound (a:=a) (b:=b) (x:=lim zs i) (y:=lim ys i) (by omega) (by omega) (by omega) hx32 hy32
      obtain ⟨p2,q2,ep2,eq2,hp2⟩:=word_bound (a:=c) (b:=d) (x:=lim zs i) (y:=lim ys i) (by omega) (by omega) (by omega) hx32 hy32
      obtain ⟨S1,eS1⟩:∃ S1,S+(p1+q1)=S1:=⟨_,rfl⟩
      obtain ⟨T1,eT1⟩:∃ T1,T+(p2+q2)=T1:=⟨_,rfl⟩
      obtain ⟨o1,ho1,ho1b⟩:∃ o:Nat,S1 % 4294967296=(o:Int)∧o < 4294967296:=⟨(S1 % 4294967296).toNat,by omega,by omega⟩
      obtain ⟨o2,ho2,ho2b⟩:∃ o:Nat,T1 % 4294967296=(o:Int)∧o < 4294967296:=⟨(T1 % 4294967296).toNat,by omega,by omega⟩
      obtain ⟨S2,hS2⟩:∃ z,S1 / 4294967296=z:=⟨_,rfl⟩
      obtain ⟨T2,hT2⟩:∃ z,T1 / 4294967296=z:=⟨_,rfl⟩
      have HN1:=Lib.hid (apply_step hol HV1.out (S1:=S1) (by rw [ep1,eq1,eS1]) (o:=o1) (S':=S2) (by omega))
      have HN2:=Lib.hid (apply_step hpl HV2.out (S1:=T1) (by rw [ep2,eq2,eT1]) (o:=o2) (S':=T2) (by omega))
      have w1:IntKind.i64.wrap (a * ((lim zs i:Nat):Int))=p1:=by rw [ep1,IntWalk.i64_in _ (by omega)]
      have w2:IntKind.i64.wrap (b * ((lim ys i:Nat):Int))=q1:=by rw [eq1,IntWalk.i64_in _ (by omega)]
      have w3:IntKind.i64.wrap (c * ((lim zs i:Nat):Int))=p2:=by rw [ep2,IntWalk.i64_in _ (by omega)]
      have w4:IntKind.i64.wrap (d * ((lim ys i:Nat):Int))=q2:=by rw [eq2,IntWalk.i64_in _ (by omega)]
      have w5:IntKind.i64.wrap (p1+q1)=p1+q1:=IntWalk.i64_in _ (by omega)
      have w6:IntKind.i64.wrap (p2+q2)=p2+q2:=IntWalk.i64_in _ (by omega)
      have w7:IntKind.i64.wrap (S+(p1+q1))=S1:=by rw [eS1,IntWalk.i64_in _ (by omega)]
      have w8:IntKind.i64.wrap (T+(p2+q2))=T1:=by rw [eT1,IntWalk.i64_in _ (by omega)]
      have u1:IntKind.u32.wrap S1=(o1:Int):=by rw [IntKind.wrap_u32,ho1]
      have u2:IntKind.u32.wrap T1=(o2:Int):=by rw [IntKind.wrap_u32,ho2]
      have hS2b:-2147483648≤S2∧S2 < 2147483648:=by omega
      have hT2b:-2147483648≤T2∧T2 < 2147483648:=by omega
      have HOX2:=Lib.hid (by have h:=(HOX.out.set hlenx.symm i o1).other hne i (.int .u32 (o2:Nat)); rw [set_mid hol (by omega)] at h; exact h)
      have HOY2:=Lib.hid (by have h:=(HOY.out.other (Ne.symm hne) i (.int .u32 (o1:Nat))).set hleny.symm i o2; rw [set_mid hpl hlt] at h; exact h)
      have hFx:w.heap.size≠gx:=by omega
      have hFy:w.heap.size≠gy:=by omega
      obtain ⟨hf0,hf1,hf2,hf3⟩:=HF.out.cells
      have HF2:=Lib.hid (show Four ((wr.setCell ⟨gx,i,none⟩ (.int .u32 (o1:Nat))).setCell ⟨gy,i,none⟩ (.int .u32 (o2:Nat))) w.heap.size 224 (.int .i64 a) (.int .i64 b) (.int .i64 c) (.int .i64 d) from by
        unfold Four; rw [Below.heap_setCell _ _ _ _ (show w.heap.size≠gy from hFy),Below.heap_setCell _ _ _ _ (show w.heap.size≠gx from hFx)]; exact HF.out)
      have HBE2:=Lib.hid (bel_set2 (b:=gx) (o:=i) (u:=.int .u32 (o1:Nat)) (b':=gy) (o':=i) (u':=.int .u32 (o2:Nat)) HBE.out hgx hgy)
      have HI:=Lib.hid hi
      generalize lim zs i=xi at *
      generalize lim ys i=yi at *
      clear hi ep1 eq1 ep2 eq2 eS1 eT1 ho1 ho2 hlenx hleny hp1 hp2
      go_wp2_with fail
      go_big_region
      go_wp2_with fail
      go_roundg (gk - 1)
      case measure=>have:=HI.out; omega
      case rel=>exact ⟨i+1,S2,T2,os++[o1],ps++[o2],by have:=HI.out; omega,by go_num,rfl,rfl,by simp; exact hol,by simp; exact hpl,hok.append (Ok.cons ho1b Ok.nil),hpk.append (Ok.cons ho2b Ok.nil),HN1.out,HN2.out,hS2b,hT2b,HOX2.out,HOY2.out,HF2.out,HBE2.out.drew⟩
    · obtain rfl:i=ys.length:=by omega
      have hox:=HOX.out
      have hoy:=HOY.out
      rw [List.drop_of_length_le (by omega),List.append_nil] at hox
      rw [List.drop_of_length_le (Nat.le_refl _),List.append_nil] at hoy
      have hv1:=HV1.out
      have hv2:=HV2.out
      rw [show zs.take ys.length=xs.take ys.length by rw [← HZ.out,List.take_take,Nat.min_self]] at hv1 hv2
      have E1:=Lib.hid (apply_end hol hok HLX.out rfl hv1 HU.out.1 HU.out.2)
      have E2:=Lib.hid (apply_end hpl hpk HLX.out rfl hv2 HV.out.1 HV.out.2)
      have HO1:=Lib.hid hox
      have HO2:=Lib.hid hoy
      clear hox hoy hv1 hv2 HV1 HV2 HOX HOY
      go_wp2_with fail
      refine (trim_at _ _ cx os _ HO1.out.sl hol.symm (by omega) (by omega)).mono ?_
      rintro e w2 ⟨rfl,rfl⟩
      go_wp2_with fail
      refine (trim_at _ _ cy ps _ HO2.out.sl hpl.symm (by omega) (by omega)).mono ?_
      rintro e w3 ⟨rfl,rfl⟩
      go_wp2_with fail
      go_ret2
      exact ⟨_,_,os.take (trimN os ys.length),ps.take (trimN ps ys.length),rfl,HO1.out.take (trimN_le _ _),HO2.out.take (trimN_le _ _),hok.take _,hpk.take _,trimN_norm os _ (by omega),trimN_norm ps _ (by omega),
        by rw [trimN_val _ _ (by omega),List.take_of_length_le (by omega)]; exact E1.out,by rw [trimN_val _ _ (by omega),List.take_of_length_le (by omega)]; exact E2.out,HBE.out⟩
end Go.Proofs.YthffkbbcofbceaaGreatDoor
