/- The contract of the reference's SubNat. -/
import Derived.Test.YthffkbbcofbceaaGreatDoorYh
import Derived.Test.YthffkbbcofbceaaGreatDoorYo
import Derived.Test.YthffkbbcofbceaaGreatDoorYi
import Derived.Test.YthffkbbcofbceaaGreatDoorYg
import Derived.Test.YthffkbbcofbceaaGreatDoorYj
import Derived.Deep.LoopGhost
namespace Go.Proofs.YthffkbbcofbceaaGreatDoor
open Go.RowKit Cin
set_option maxRecDepth 100000 in
set_option maxHeartbeats 1000000 in
theorem refSub_any (v u:Value) (x y:Nat) (L:Nat) (w:World) (h:RefV 202 w v x) (h':RefV 202 w u y) (hx:x < pw L) (hL:L≤100000000) (hle:y≤x) :
    Calls Tryz.prog 169 #[v,u] w fun e w'=>∃ v',e=.returned v'∧RefV 202 w' v' (x - y)∧Below w.heap.size w w':=by
  obtain ⟨ad,len,cap,xs,rfl,hs,ho,hnm,rfl,hlx,hcx⟩:=h.shape
  obtain ⟨ad',len',cap',ys,rfl,hs',ho',hnm',rfl,hly,hcy⟩:=h'.shape
  obtain ⟨i0,hi0,hz0,hz1,hz2⟩:=info_parts info_u32
  have hl:len≤100000000:=by have:=norm_len hnm hx; omega
  have hl':len'≤100000000:=by have:=norm_len hnm' (Nat.lt_of_le_of_lt hle hx); omega
  have hll:len'≤len:=by
    rcases Nat.lt_or_ge len len' with h0 | h0
    · have:=val_lt_of_len ho hnm' (by omega); omega
    · exact h0
  have H:=Lib.hid hs
  have H':=Lib.hid hs'
  have HLX:=Lib.hid hlx
  have HLY:=Lib.hid hly
  have HLE:=Lib.hid hle
  have HD:=Lib.hid (show ∀ b' o' n' c',Value.slice ad len cap=.slice (some ⟨b',o',none⟩) n' c'→¬ (b'=w.heap.size) from fun b' o' n' c' e=>by have:=hs.lt e; omega)
  have HD':=Lib.hid (show ∀ b' o' n' c',Value.slice ad' len' cap'=.slice (some ⟨b',o',none⟩) n' c'→¬ (b'=w.heap.size) from fun b' o' n' c' e=>by have:=hs'.lt e; omega)
  clear hx h h' hs hs' hlx hly hnm hnm' hle
  go_enter Tryz.func169,Tryz.ntmps169
  go_wp2_with (at_make; refine wpList_make_ints _ rfl _ _ 57 rfl 202 i0 .u32 Tryz.underlying57 hi0 hz0 hz1 .i64 .i64 _ _ len len rfl rfl (by omega) (by omega) (Nat.le_refl _) (by rw [hz2]; omega) (by omega) ?_)
  have hkW:Blk (w.alloc (Obj.cells (ints IntKind.u32 (List.replicate len 0)) 202)) w.heap.size 202 .u32 (List.replicate len 0):=Blk.new _ _ _ _
  have hbW:=bel_alloc w (Obj.cells (ints IntKind.u32 (List.replicate len 0)) 202)
  generalize w.alloc (Obj.cells (ints IntKind.u32 (List.replicate len 0)) 202)=W at *
  have hszW:=hkW.lt
  have HSW:=Lib.hid (H.out.below hbW)
  have HLW:=Lib.hid (H'.out.below hbW)
  have HBW:=Lib.hid hbW
  have HKW:=Lib.hid hkW
  clear hbW hkW H H'
  go_loopw [6,7] (fun c i wr=>∃ (k q:Nat) (os:List Nat),k≤len∧i=.int .i64 k∧c=.int .u64 q∧q≤1∧os.length=k∧Ok os∧val (xs.take k)+pw k * q=val os+val (ys.take k) ∧
      Blk wr w.heap.size 202 .u32 (splice (List.replicate len 0) 0 os)∧Keep (·=w.heap.size) W wr) (fun _ i _=>len - (intOf i).toNat)
  case atStart=>exact ⟨0,0,[],Nat.zero_le _,rfl,rfl,by omega,rfl,Ok.nil,rfl,by rw [splice_nil]; exact HKW.out,Keep.refl _ _⟩
  case round=>
    obtain ⟨k,q,os,hk,rfl,rfl,hq,hol,hok,hv,hblk,hkeep⟩:=hrel
    have HOL:=Lib.hid hol
    have HV:=Lib.hid hv
    have HBK:=Lib.hid hblk
    have HK:=Lib.hid hkeep
    have HSr:=Lib.hid (HSW.out.keep HK.out HD.out)
    have HLr:=Lib.hid (HLW.out.keep HK.out HD'.out)
    by_cases hlt:k < len
    · have hcell2:=hblk.cell (i:=k) (by rw [splice_length (by simp; omega)]; simp; omega)
      have hf:=hblk.free k
      have hlim:lim xs k < 4294967296:=lim_lt ho _
      have hlim2:lim ys k < 4294967296:=lim_lt ho' _
      clear hol hv hblk hkeep
      obtain ⟨bx,offx,rfl,hcell,hblt⟩:=HSr.out.cell (i:=k) (by have:=HLX.out; omega)
      by_cases h2:k < len'
      · have d2:decide (k < len')=true:=decide_eq_true h2
        obtain ⟨by_,offy,rfl,hcelly,hblty⟩:=HLr.out.cell (i:=k) (by have:=HLY.out; omega)
        obtain ⟨X,eX,eX'⟩:∃ X:Nat,(q:Int)+((lim ys k:Nat):Int)=(X:Int)∧X=q+lim ys k:=⟨_,by omega,rfl⟩
        have hXb:X≤4294967296:=by omega
        by_cases h3:lim xs k < X
        · have d3:decide (lim xs k < X)=true:=decide_eq_true h3
          obtain ⟨Y,eY,eY'⟩:∃ Y:Nat,((lim xs k:Nat):Int)+4294967296=(Y:Int)∧Y=lim xs k+4294967296:=⟨_,by omega,rfl⟩
          obtain ⟨tm,htm,htmb⟩:∃ tm:Nat,(Y:Int) - (X:Int)=(tm:Int)∧tm < 4294967296:=⟨Y - X,by omega,by omega⟩
          have hYb:Y≤8589934591:=by omega
          have R:=step_sub (xs:=xs) (ys:=ys) (ys0:=List.replicate len 0) (t:=-(q:Int)+((lim xs k:Int) - (lim ys k:Int))) (td:=1) (tm:=tm) HOL.out hok HV.out HBK.out HK.out rfl (by omega) (by omega) (by simp; omega) hq hlim hlim2
          have HR:=Lib.hid R
          clear R h3 hi0 hz0 hz1 hz2 eX' eY'
          go_wp2_with fail
          obtain ⟨r1,r2,r3,r4,r5,r6⟩:=HR.out
          exact ⟨⟨k+1,1,os++[tm],by omega,by go_num,rfl,r1,r2,r3,r4,r5,r6⟩,by simp [intOf]; omega⟩
        · have d3:decide (lim xs k < X)=false:=decide_eq_false h3
          obtain ⟨tm,htm,htmb⟩:∃ tm:Nat,((lim xs k:Nat):Int) - (X:Int)=(tm:Int)∧tm < 4294967296:=⟨lim xs k - X,by omega,by omega⟩
          have R:=step_sub (xs:=xs) (ys:=ys) (ys0:=List.replicate len 0) (t:=-(q:Int)+((lim xs k:Int) - (lim ys k:Int))) (td:=0) (tm:=tm) HOL.out hok HV.out HBK.out HK.out rfl (by omega) (by omega) (by simp; omega) hq hlim hlim2
          have HR:=Lib.hid R
          clear R h3 hi0 hz0 hz1 hz2 eX'
          go_wp2_with fail
          obtain ⟨r1,r2,r3,r4,r5,r6⟩:=HR.out
          exact ⟨⟨k+1,0,os++[tm],by omega,by go_num,rfl,r1,r2,r3,r4,r5,r6⟩,by simp [intOf]; omega⟩
      · have d2:decide (k < len')=false:=decide_eq_false h2
        have z2:lim ys k=0:=lim_ge (by have:=HLY.out; omega)
        obtain ⟨X,eX,eX'⟩:∃ X:Nat,X=q∧X=q+lim ys k:=⟨q,rfl,by omega⟩
        subst eX
        have hXb:X≤4294967296:=by omega
        by_cases h3:lim xs k < X
        · have d3:decide (lim xs k < X)=true:=decide_eq_true h3
          obtain ⟨Y,eY,eY'⟩:∃ Y:Nat,((lim xs k:Nat):Int)+4294967296=(Y:Int)∧Y=lim xs k+4294967296:=⟨_,by omega,rfl⟩
          obtain ⟨tm,htm,htmb⟩:∃ tm:Nat,(Y:Int) - (X:Int)=(tm:Int)∧tm < 4294967296:=⟨Y - X,by omega,by omega⟩
          have hYb:Y≤8589934591:=by omega
          have R:=step_sub (xs:=xs) (ys:=ys) (ys0:=List.replicate len 0) (t:=-(X:Int)+((lim xs k:Int) - (lim ys k:Int))) (td:=1) (tm:=tm) HOL.out hok HV.out HBK.out HK.out rfl (by omega) (by omega) (by simp; omega) hq hlim hlim2
          have HR:=Lib.hid R
          clear R h3 hi0 hz0 hz1 hz2 eX' eY' z2 h2
          go_wp2_with fail
          obtain ⟨r1,r2,r3,r4,r5,r6⟩:=HR.out
          exact ⟨⟨k+1,1,os++[tm],by omega,by go_num,rfl,r1,r2,r3,r4,r5,r6⟩,by simp [intOf]; omega⟩
        · have d3:decide (lim xs k < X)=false:=decide_eq_false h3
          obtain ⟨tm,htm,htmb⟩:∃ tm:Nat,((lim xs k:Nat):Int) - (X:Int)=(tm:Int)∧tm < 4294967296:=⟨lim xs k - X,by omega,by omega⟩
          have R:=step_sub (xs:=xs) (ys:=ys) (ys0:=List.replicate len 0) (t:=-(X:Int)+((lim xs k:Int) - (lim ys k:Int))) (td:=0) (tm:=tm) HOL.out hok HV.out HBK.out HK.out rfl (by omega) (by omega) (by simp; omega) hq hlim hlim2
          have HR:=Lib.hid R
          clear R h3 hi0 hz0 hz1 hz2 eX' z2 h2
          go_wp2_with fail
          obtain ⟨r1,r2,r3,r4,r5,r6⟩:=HR.out
          exact ⟨⟨k+1,0,os++[tm],by omega,by go_num,rfl,r1,r2,r3,r4,r5,r6⟩,by simp [intOf]; omega⟩
    · obtain rfl:k=len:=by omega
      have hos:splice (List.replicate k 0) 0 os=os:=splice_zeros_all HOL.out
      have hb2:=HBK.out
      rw [hos] at hb2
      have hsl:=Sl.of_blk hb2
      rw [HOL.out] at hsl
      have hval:val os=val xs - val ys:=end_sub HOL.out hok HV.out HLX.out (by have:=HLY.out; omega) HLE.out
      have HSL:=Lib.hid hsl
      have HV2:=Lib.hid hval
      have HB2:=Lib.hid (HBW.out.trans (HK.out.below (B:=w.heap.size) (by omega) (fun j hj=>by omega)))
      clear hos hb2 hsl hval hblk hkeep hol hv
      go_wp2_with fail
      refine (rtrim_any _ os _ HSL.out hok (by rw [HOL.out]; omega)).mono ?_
      rintro e w2 ⟨v',rfl,hr2,rfl⟩
      have HR2:=Lib.hid hr2
      clear hr2
      go_wp2_with fail
      go_ret
      exact ⟨_,rfl,by have:=HR2.out; rw [HV2.out] at this; exact this,HB2.out⟩
end Go.Proofs.YthffkbbcofbceaaGreatDoor

namespace Go.Proofs.YthffkbbcofbceaaGreatDoor
open Go.RowKit Cin
def RefB (w:World) (v:Value) (n k:Nat):Prop:=RefV 202 w v n∧n < pw k
theorem RefB.below {w w':World} {v:Value} {n k:Nat} (h:RefB w v n k) (hb:Below w.heap.size w w'):RefB w' v n k:=⟨h.1.below hb,h.2⟩
theorem drewN_below (w:World) (n:Nat):Below w.heap.size w (w.drewN n):=bel_drewN (Below.refl _ _) n
theorem raddB (v u:Value) (x y a b:Nat) (w:World) (h:RefB w v x a) (h':RefB w u y b) (ha:a≤10000000) (hb:b≤10000000) :
    Calls Tryz.prog 168 #[v,u] w fun e w'=>∃ v',e=.returned v'∧RefB w' v' (x+y) (a+b+1)∧Below w.heap.size w w':=
  (refAdd_any v u x y (a+b) w h.1 h'.1 (lt_pw_mono h.2 (by omega)) (lt_pw_mono h'.2 (by omega)) (by omega)).mono fun _ _ ⟨v',e,hn,hw⟩=>⟨v',e,⟨hn,by have:=pw_big a b; have:=h.2; have:=h'.2; omega⟩,hw⟩
theorem rsubB (v u:Value) (x y a b:Nat) (w:World) (h:RefB w v x a) (h':RefB w u y b) (ha:a≤10000000) (hb:b≤10000000) (hle:y≤x) :
    Calls Tryz.prog 169 #[v,u] w fun e w'=>∃ v',e=.returned v'∧RefB w' v' (x - y) a∧Below w.heap.size w w':=
  (refSub_any v u x y (a+b) w h.1 h'.1 (lt_pw_mono h.2 (by omega)) (by omega) hle).mono fun _ _ ⟨v',e,hn,hw⟩=>⟨v',e,⟨hn,by have:=h.2; omega⟩,hw⟩
theorem rcmpB (v u:Value) (x y a b:Nat) (w:World) (h:RefB w v x a) (h':RefB w u y b) (ha:a≤10000000) (hb:b≤10000000) :
    Calls Tryz.prog 116 #[v,u] w fun e w'=>e=.returned (.int .i64 (cmpI x y))∧Below w.heap.size w w':=
  (refCmp_any v u x y (a+b) w h.1 h'.1 (lt_pw_mono h.2 (by omega)) (lt_pw_mono h'.2 (by omega)) (by omega)).mono fun _ _ ⟨e,n,hw⟩=>⟨e,by rw [hw]; exact drewN_below _ _⟩
end Go.Proofs.YthffkbbcofbceaaGreatDoor

namespace Go.Proofs.YthffkbbcofbceaaGreatDoor
open Go.RowKit Cin
theorem refB_part {w:World} {ad:Option Addr} {len cap k:Nat} {b:Bool} {z:Int} (h:IntB 202 w (.agg #[.bool b,.slice ad len cap]) z k):RefB w (.slice ad len cap) z.natAbs k:=by
  obtain ⟨⟨s,e,r⟩,hk⟩:=h
  injection e with e
  injection e with e
  simp only [List.cons.injEq,and_true] at e
  obtain ⟨_,rfl⟩:=e
  exact ⟨r,hk⟩
theorem refB_len {w:World} {ad:Option Addr} {len cap n k:Nat} (h:RefB w (.slice ad len cap) n k):len=0↔n=0:=by
  obtain ⟨⟨xs,hs,ho,hnm,rfl⟩,_⟩:=h
  have hl:=hs.len
  constructor
  · intro e
    rw [List.length_eq_zero_iff.1 (hl.trans e)]; rfl
  · intro e
    rw [norm_val_zero hnm e] at hl
    exact hl.symm
set_option maxHeartbeats 800000 in
theorem rsign_any (v:Value) (z:Int) (k:Nat) (w:World) (h:IntB 202 w v z k) :
    Calls Tryz.prog 64 #[v] w fun e w'=>e=.returned (.int .i64 (sgnZ z))∧Below w.heap.size w w':=by
  obtain ⟨ad,len,cap,rfl,hr⟩:=h.shape
  have hl:=refB_len (refB_part h)
  clear h hr
  by_cases h0:z=0
  · have hz:len=0:=hl.2 (by omega)
    subst hz h0
    clear hl
    go_enter Tryz.func64,Tryz.ntmps64
    go_wp2_with fail
    go_ret
    exact ⟨rfl,bel_alloc _ _⟩
  · have hz:((len:Int) == 0)=false:=beq_eq_false_iff_ne.2 (by have:=fun e=>h0 (Int.natAbs_eq_zero.1 (hl.1 e)); omega)
    clear hl
    by_cases hn:z < 0
    · rw [decide_eq_true hn,show sgnZ z=-1 by unfold sgnZ; rw [if_pos hn]]
      go_enter Tryz.func64,Tryz.ntmps64
      go_wp2_with fail
      go_ret
      exact ⟨rfl,bel_alloc _ _⟩
    · rw [decide_eq_false hn,show sgnZ z=1 by unfold sgnZ; rw [if_neg hn,if_pos (by omega)]]
      go_enter Tryz.func64,Tryz.ntmps64
      go_wp2_with fail
      go_ret
      exact ⟨rfl,bel_alloc _ _⟩
set_option maxHeartbeats 800000 in
theorem itext_any (v:Value) (z:Int) (k:Nat) (w:World) (h:IntB 202 w v z k) (hk:k≤1000000) (hT:TabsP w) :
    Calls Tryz.prog 129 #[v] w fun e w'=>e=.returned (.string (intS z))∧Below w.heap.size w w':=by
  obtain ⟨ad,len,cap,rfl,hr⟩:=h.shape
  have H:=Lib.hid h.part.1
  have HT:=Lib.hid hT
  have hlen:(decS z.natAbs).size≤10 * k+1:=dec_len_pw h.2
  clear h hr hT
  by_cases h0:z < 0
  · rw [decide_eq_true h0,intS_neg h0]
    go_enter Tryz.func129,Tryz.ntmps129
    go_wp2_with fail
    refine (text_any _ z.natAbs k _ (H.out.below (bel_alloc _ _)) hk (HT.out.below (bel_alloc _ _))).mono ?_
    rintro e w1 ⟨rfl,hb⟩
    have HB:=Lib.hid (bel_on (bel_alloc _ _) hb)
    clear hb
    go_wp2
    go_ret
    exact ⟨rfl,HB.out⟩
  · rw [decide_eq_false h0,intS_pos h0]
    go_enter Tryz.func129,Tryz.ntmps129
    go_wp2_with fail
    refine (text_any _ z.natAbs k _ (H.out.below (bel_alloc _ _)) hk (HT.out.below (bel_alloc _ _))).mono ?_
    rintro e w1 ⟨rfl,hb⟩
    have HB:=Lib.hid (bel_on (bel_alloc _ _) hb)
    clear hb
    go_wp2
    go_ret
    exact ⟨rfl,HB.out⟩
end Go.Proofs.YthffkbbcofbceaaGreatDoor

namespace Go.Proofs.YthffkbbcofbceaaGreatDoor
open Go.RowKit Cin
def QB (w:World) (a b c d:Value) (q:Rat) (k:Nat):Prop:=IB w a b q.num k∧IB w c d (denZ q) k∧q.den < pw k
def RatB (w:World) (v:Value) (q:Rat) (k:Nat):Prop:=∃ a b c d,v=.agg #[a,b,c,d]∧QB w a b c d q k
theorem mQ {D:TypeId→Bool} (a b c d:Value) (q:Rat) (k:Nat) (hD:D 202=true:=by rfl):Mono D fun w=>QB w a b c d q k:=fun _ _ e ⟨h1,h2,h3⟩=>⟨h1.ext e hD,h2.ext e hD,h3⟩
theorem qpl {w:World} {a b c d:Value} {q:Rat} {k:Nat} (h:QB w a b c d q k):[a,b,c,d].all Value.oneCell'=true:=by
  have p1:=ipl h.1
  have p2:=ipl h.2.1
  simp only [List.all_cons,List.all_nil,Bool.and_true,Bool.and_eq_true] at p1 p2 ⊢
  exact ⟨p1.1,p1.2,p2.1,p2.2⟩
theorem QB.mono {w:World} {a b c d:Value} {q:Rat} {k j:Nat} (h:QB w a b c d q k) (hj:k≤j):QB w a b c d q j:=⟨h.1.mono hj,h.2.1.mono hj,lt_pw_mono h.2.2 hj⟩
theorem wRat {D Z:TypeId→Bool} {w0:World} {Post:Ending→World→Prop} {F:World→Prop} {L:LC} {E:Env} {tr:Tr} {f:FuncId} {ar:List V1} {args:Array Value} {q:Rat} {m:Nat}
    (hc:∀ w,Below w0.heap.size w0 w→F w→Calls Tryz.prog f args w fun e w'=>∃ v,e=.returned v∧RatB w' v q m∧Below w.heap.size w w')
    {E':Value→Value→Value→Value→Env} (hk:∀ a b c d,Wk Tryz.prog w0 D Z Post L (fun w=>QB w a b c d q m∧F w) tr (E' a b c d)) (ha:(ar.map (V1.den [] E)).toArray=args:=by rfl) (hE:∀ a b c d,E++[[a,b,c,d]]=E' a b c d:=by intros; (simp only [List.cons_append,List.nil_append]) <;> exact rfl) (hD:D 202=true:=by rfl):Wk Tryz.prog w0 D Z Post L F (.em (.call f ar [some 4]) tr) E:=by
  intro hm u hF w e bx
  have b:=bx.bel
  subst ha
  refine (hc w b (hm u.w w e.ext hF)).mono ?_
  rintro e1 w' ⟨v,rfl,⟨a,b,c,d,rfl,hv⟩,h4⟩
  exact ⟨[a,b,c,d],rfl,qpl hv,.inl h4,hE _ _ _ _ ▸ hk _ _ _ _ ((mQ _ _ _ _ _ _ hD).and hm) (u.more w w') ⟨hv,hm u.w w' (e.below h4).ext hF⟩⟩
theorem sgn_den (q:Rat):(sgnZ (denZ q) == 0)=decide (q.den=1):=by
  have:=q.den_pos
  unfold sgnZ denZ
  by_cases h:q.den=1
  · simp [h]
  · rw [if_neg h,if_neg (by omega),if_pos (by omega)]; simp [h]
theorem bottom_any (v:Value) (q:Rat) (k:Nat) (w:World) (h:RatB w v q k) (hk:k≤1000000) :
    Calls Tryz.prog 101 #[v] w fun e w'=>∃ v',e=.returned v'∧IntB 202 w' v' (q.den:Int) k∧Below w.heap.size w w':=by
  obtain ⟨a,b,c,d,rfl,h⟩:=h
  refine go (fun w=>QB w a b c d q k) [[a,b,c,d]] [some 4] (tr:=(.em (.call 110 [.g [.c 0 2,.c 0 3]] [none]) (.em (.pr (.binOp .eql 3 (.tmp 0) (.const (.int .i64 0)) 3) 4 [.s (.c 1 0),.s (.k (.int .i64 0))]) (.cond (.c 2 0) (.em (.call 106 [.s (.k (.int .i64 1))] [some 2]) (.ret (.v (.g [.c 3 0,.c 3 1])))) (.ret (.v (.g [.c 0 2,.c 0 3]))))))) (by kernel_rfl) (by kernel_rfl) (by kernel_rfl) (mQ _ _ _ _ _ _) h ⟨qpl h,trivial⟩ ?_
  refine wVal (fun w b h=>sign_any _ (denZ q) k w h.2.1 (by omega)) rfl ?_
  refine wPr (prEq rfl rfl) rfl ?_
  refine wIf _ rfl (fun e=>?_) (fun e=>?_)
  · have e1:q.den=1:=by have:=(sgn_den q).symm.trans e; simpa using this
    refine wInt hU (fun w b h=>iof_any 1 w (by decide) (by decide)) (fun x1 y1=>?_)
    exact wRet fun w b ⟨h1,h⟩=>⟨_,rfl,⟨by rw [e1]; exact h1.1,by have:=h.2.2; omega⟩,b⟩
  · have e1:¬ q.den=1:=by have:=(sgn_den q).symm.trans e; simpa using this
    refine wRet fun w b h=>⟨_,rfl,?_,b⟩
    have h2:=h.2.1
    unfold denZ at h2
    rw [if_neg e1] at h2
    exact h2
theorem lowest_any (v u:Value) (n d:Int) (q:Rat) (k:Nat) (w:World) (h:IntB 202 w v n k) (h':IntB 202 w u d k) (hk:k≤1000000) (hn:q.num=n) (hd:(q.den:Int)=d) :
    Calls Tryz.prog 105 #[v,u] w fun e w'=>∃ v',e=.returned v'∧RatB w' v' q k∧Below w.heap.size w w':=by
  obtain ⟨a,b,rfl,h⟩:=ibc h
  obtain ⟨a',b',rfl,h'⟩:=ibc h'
  subst hn hd
  refine go (fun w=>IB w a b q.num k∧IB w a' b' q.den k) [[a,b],[a',b']] [some 2,some 2] (tr:=(.em (.call 109 [.g [.c 1 0,.c 1 1]] [none]) (.cond (.c 2 0) (.ret (.v (.g [.c 0 0,.c 0 1,.k (.bool false),.k (.slice none 0 0)]))) (.ret (.v (.g [.c 0 0,.c 0 1,.c 1 0,.c 1 1])))))) (by kernel_rfl) (by kernel_rfl) (by kernel_rfl) ((mI _ _ _ _).and (mI _ _ _ _)) ⟨h,h'⟩ ⟨ipl h,ipl h',trivial⟩ ?_
  refine wVal (fun w b ⟨_,h⟩=>isOne_any _ _ k w h (by omega)) rfl ?_
  refine wIf _ rfl (fun e=>?_) (fun e=>?_)
  · have e1 : q.den = 1 := by have : (q.den : Int) = 1 := by simpa using e
                              omega
    refine wRet fun w b ⟨h,h2⟩=>⟨_,rfl,⟨_,_,_,_,rfl,h,?_,by have:=h2.2; omega⟩,b⟩
    show IntB _ _ _ (denZ q) k
    unfold denZ
    rw [if_pos e1]; exact IntB.zero _ _ _
  · have e1 : ¬ q.den = 1 := by have : ¬ (q.den : Int) = 1 := by simpa using e
                                omega
    refine wRet fun w b ⟨h,h2⟩=>⟨_,rfl,⟨_,_,_,_,rfl,h,?_,by have:=h2.2; omega⟩,b⟩
    show IntB _ _ _ (denZ q) k
    unfold denZ
    rw [if_neg e1]; exact h2
theorem qsign_any (v:Value) (q:Rat) (k:Nat) (w:World) (h:RatB w v q k) (hk:k≤1000000) :
    Calls Tryz.prog 60 #[v] w fun e w'=>e=.returned (.int .i64 (sgnZ q.num))∧Below w.heap.size w w':=by
  obtain ⟨a,b,c,d,rfl,h⟩:=h
  refine go (fun w=>QB w a b c d q k) [[a,b,c,d]] [some 4] (tr:=(.em (.call 110 [.g [.c 0 0,.c 0 1]] [none]) (.ret (.v (.s (.c 1 0)))))) (by kernel_rfl) (by kernel_rfl) (by kernel_rfl) (mQ _ _ _ _ _ _) h ⟨qpl h,trivial⟩ ?_
  refine wVal (fun w b h=>sign_any _ _ k w h.1 (by omega)) rfl ?_
  exact wRet fun w b _=>⟨rfl,b⟩
theorem qof_any (z:Int) (w:World) (h0:-9223372036854775808≤z) (h1:z < 9223372036854775808) :
    Calls Tryz.prog 58 #[.int .i64 z] w fun e w'=>∃ v',e=.returned v'∧RatB w' v' (z:Rat) 2∧Below w.heap.size w w':=by
  refine go (fun _=>True) [[.int .i64 z]] [none] (tr:=(.em (.call 106 [.s (.c 0 0)] [some 2]) (.ret (.v (.g [.c 1 0,.c 1 1,.k (.bool false),.k (.slice none 0 0)]))))) (by kernel_rfl) (by kernel_rfl) (by kernel_rfl) Mono.true trivial ⟨rfl,trivial⟩ ?_
  refine wInt hU (fun w b _=>iof_any z w h0 h1) (fun x1 y1=>?_)
  refine wRet fun w b ⟨h1,_⟩=>⟨_,rfl,⟨_,_,_,_,rfl,h1,?_,by show 1 < pw 2; decide⟩,b⟩
  exact IntB.zero _ _ _
theorem qneg_any (v:Value) (q:Rat) (k:Nat) (w:World) (h:RatB w v q k) (hk:k≤1000000) :
    Calls Tryz.prog 80 #[v] w fun e w'=>∃ v',e=.returned v'∧RatB w' v' (-q) k∧Below w.heap.size w w':=by
  obtain ⟨a,b,c,d,rfl,h⟩:=h
  refine go (fun w=>QB w a b c d q k) [[a,b,c,d]] [some 4] (tr:=(.em (.call 120 [.g [.c 0 0,.c 0 1]] [some 2]) (.em (.call 121 [.g [.c 0 2,.c 0 3]] [some 2]) (.ret (.v (.g [.c 1 0,.c 1 1,.c 2 0,.c 2 1])))))) (by kernel_rfl) (by kernel_rfl) (by kernel_rfl) (mQ _ _ _ _ _ _) h ⟨qpl h,trivial⟩ ?_
  refine wInt hU (fun w b h=>neg_any _ _ k w h.1 (by omega)) (fun x1 y1=>?_)
  refine wInt hU (fun w b ⟨_,h⟩=>qfresh_any _ _ k w h.2.1 (by omega)) (fun x2 y2=>?_)
  exact wRet fun w b ⟨h2,h1,h⟩=>⟨_,rfl,⟨_,_,_,_,rfl,h1,h2,h.2.2⟩,b⟩
theorem qcmp_any (v u:Value) (x y:Rat) (k j:Nat) (w:World) (h:RatB w v x k) (h':RatB w u y j) (hk:k≤1000000) (hj:j≤1000000) :
    Calls Tryz.prog 53 #[v,u] w fun e w'=>e=.returned (.int .i64 (cmpQ x y))∧Below w.heap.size w w':=by
  obtain ⟨a,b,c,d,rfl,h⟩:=h
  obtain ⟨a',b',c',d',rfl,h'⟩:=h'
  refine go (fun w=>QB w a b c d x k∧QB w a' b' c' d' y j) [[a,b,c,d],[a',b',c',d']] [some 4,some 4] (tr:=(.em (.call 101 [.g [.c 1 0,.c 1 1,.c 1 2,.c 1 3]] [some 2]) (.em (.call 100 [.g [.c 0 0,.c 0 1],.g [.c 2 0,.c 2 1]] [some 2]) (.em (.call 101 [.g [.c 0 0,.c 0 1,.c 0 2,.c 0 3]] [some 2]) (.em (.call 100 [.g [.c 1 0,.c 1 1],.g [.c 4 0,.c 4 1]] [some 2]) (.em (.call 99 [.g [.c 3 0,.c 3 1],.g [.c 5 0,.c 5 1]] [none]) (.ret (.v (.s (.c 6 0)))))))))) (by kernel_rfl) (by kernel_rfl) (by kernel_rfl) ((mQ _ _ _ _ _ _).and (mQ _ _ _ _ _ _)) ⟨h,h'⟩ ⟨qpl h,qpl h',trivial⟩ ?_
  refine wInt hU (fun w b ⟨_,h'⟩=>bottom_any _ y j w ⟨_,_,_,_,rfl,h'⟩ hj) (fun x1 y1=>?_)
  refine wInt hU (fun w b ⟨h1,h,_⟩=>imul_any _ _ _ _ k j w h.1 h1 (by omega) (by omega)) (fun x2 y2=>?_)
  refine wInt hU (fun w b ⟨_,_,h,_⟩=>bottom_any _ x k w ⟨_,_,_,_,rfl,h⟩ hk) (fun x3 y3=>?_)
  refine wInt hU (fun w b ⟨h3,_,_,_,h'⟩=>imul_any _ _ _ _ j k w h'.1 h3 (by omega) (by omega)) (fun x4 y4=>?_)
  refine wVal (fun w b ⟨h4,_,h2,_⟩=>icmp_any _ _ _ _ (k+j) (j+k) w h2 h4 (by omega) (by omega)) rfl ?_
  exact wRet fun w b _=>⟨by rw [← cmpQ_of]; rfl,b⟩
theorem sum_lt {x y z u:Int} {k j:Nat} (hx:x.natAbs < pw k) (hy:y.natAbs < pw j) (hz:z.natAbs < pw j) (hu:u.natAbs < pw k):(x * y+z * u).natAbs < pw (k+j+1):=by
  have h1:=mul_bound hx hy
  have h2:=mul_bound hz hu
  rw [Nat.add_comm j k] at h2
  have h3:pw (k+j)+pw (k+j)≤pw (k+j+1):=by rw [pw_succ]; omega
  omega
set_option maxHeartbeats 2000000 in
theorem qadd_any (v u:Value) (x y:Rat) (k j:Nat) (w:World) (h:RatB w v x k) (h':RatB w u y j) (hk:k≤200000) (hj:j≤200000) :
    Calls Tryz.prog 54 #[v,u] w fun e w'=>∃ v',e=.returned v'∧RatB w' v' (x+y) (k+j+1)∧Below w.heap.size w w':=by
  obtain ⟨a,b,c,d,rfl,h⟩:=h
  obtain ⟨a',b',c',d',rfl,h'⟩:=h'
  have hkb:x.num.natAbs < pw k:=h.1.2
  have hjb:y.num.natAbs < pw j:=h'.1.2
  have hkd:x.den < pw k:=h.2.2
  have hjd:y.den < pw j:=h'.2.2
  have hxp:=x.den_pos
  have hyp:=y.den_pos
  generalize hg:Nat.gcd x.den y.den=g
  have hgx:g ∣ x.den:=by rw [← hg]; exact Nat.gcd_dvd_left _ _
  have hgy:g ∣ y.den:=by rw [← hg]; exact Nat.gcd_dvd_right _ _
  have hgp:0 < g:=by rw [← hg]; exact Nat.gcd_pos_of_pos_left _ hxp
  generalize hs:x.num * ((y.den / g:Nat):Int)+y.num * ((x.den / g:Nat):Int)=s
  generalize hh:Nat.gcd s.natAbs g=m
  have hmg:m ∣ g:=by rw [← hh]; exact Nat.gcd_dvd_right _ _
  have hms:(m:Int) ∣ s:=by rw [← hh]; exact Int.ofNat_dvd_left.2 (Nat.gcd_dvd_left _ _)
  have hmp:0 < m:=by rw [← hh]; exact Nat.gcd_pos_of_pos_right _ hgp
  obtain ⟨hnum,hden⟩:=add_parts x y hg.symm rfl hs.symm hh.symm rfl
  have hxg:x.den / g≤x.den:=Nat.div_le_self _ _
  have hyg:y.den / g≤y.den:=Nat.div_le_self _ _
  have hsb:s.natAbs < pw (k+j+1):=by rw [← hs]; exact sum_lt hkb (by rw [Int.natAbs_natCast]; omega) hjb (by rw [Int.natAbs_natCast]; omega)
  refine go (fun w=>QB w a b c d x k∧QB w a' b' c' d' y j) [[a,b,c,d],[a',b',c',d']] [some 4,some 4] (tr:=(.em (.call 101 [.g [.c 0 0,.c 0 1,.c 0 2,.c 0 3]] [some 2]) (.em (.call 101 [.g [.c 1 0,.c 1 1,.c 1 2,.c 1 3]] [some 2]) (.em (.call 102 [.g [.c 2 0,.c 2 1],.g [.c 3 0,.c 3 1]] [some 2]) (.em (.call 103 [.g [.c 2 0,.c 2 1],.g [.c 4 0,.c 4 1]] [some 2]) (.em (.call 103 [.g [.c 3 0,.c 3 1],.g [.c 4 0,.c 4 1]] [some 2]) (.em (.call 100 [.g [.c 0 0,.c 0 1],.g [.c 6 0,.c 6 1]] [some 2]) (.em (.call 100 [.g [.c 1 0,.c 1 1],.g [.c 5 0,.c 5 1]] [some 2]) (.em (.call 104 [.g [.c 7 0,.c 7 1],.g [.c 8 0,.c 8 1]] [some 2]) (.em (.call 102 [.g [.c 9 0,.c 9 1],.g [.c 4 0,.c 4 1]] [some 2]) (.em (.call 103 [.g [.c 9 0,.c 9 1],.g [.c 10 0,.c 10 1]] [some 2]) (.em (.call 103 [.g [.c 3 0,.c 3 1],.g [.c 10 0,.c 10 1]] [some 2]) (.em (.call 100 [.g [.c 5 0,.c 5 1],.g [.c 12 0,.c 12 1]] [some 2]) (.em (.call 105 [.g [.c 11 0,.c 11 1],.g [.c 13 0,.c 13 1]] [some 4]) (.ret (.v (.g [.c 14 0,.c 14 1,.c 14 2,.c 14 3]))))))))))))))))) (by kernel_rfl) (by kernel_rfl) (by kernel_rfl) ((mQ _ _ _ _ _ _).and (mQ _ _ _ _ _ _)) ⟨h,h'⟩ ⟨qpl h,qpl h',trivial⟩ ?_
  refine wInt hU (fun w b ⟨h,_⟩=>bottom_any _ x k w ⟨_,_,_,_,rfl,h⟩ (by omega)) (fun x1 y1=>?_)
  refine wInt hU (fun w b ⟨_,_,h'⟩=>bottom_any _ y j w ⟨_,_,_,_,rfl,h'⟩ (by omega)) (fun x2 y2=>?_)
  refine wInt hU (z:=(g:Int)) (fun w b ⟨h2,h1,_⟩=>by rw [← hg]; exact qgcd_any _ _ _ _ k j w h1 h2 (by omega) (by omega)) (fun x3 y3=>?_)
  refine wInt hU (z:=((x.den / g:Nat):Int)) (fun w b ⟨h3,_,h1,_⟩=>part_any _ _ _ _ k (max k j) w h1 h3 (by omega) (by omega) (by omega) (Int.ofNat_dvd.2 hgx)) (fun x4 y4=>?_)
  refine wInt hU (z:=((y.den / g:Nat):Int)) (fun w b ⟨_,h3,h2,_⟩=>part_any _ _ _ _ j (max k j) w h2 h3 (by omega) (by omega) (by omega) (Int.ofNat_dvd.2 hgy)) (fun x5 y5=>?_)
  refine wInt hU (fun w b ⟨h5,_,_,_,_,h,_⟩=>imul_any _ _ _ _ k j w h.1 h5 (by omega) (by omega)) (fun x6 y6=>?_)
  refine wInt hU (fun w b ⟨_,_,h4,_,_,_,_,h'⟩=>imul_any _ _ _ _ j k w h'.1 h4 (by omega) (by omega)) (fun x7 y7=>?_)
  refine wInt hU (z:=s) (fun w b ⟨h7,h6,_⟩=>by rw [← hs]; exact iadd_any _ _ _ _ (k+j) (j+k) w h6 h7 (by omega) (by omega)) (fun x8 y8=>?_)
  refine wInt hU (z:=(m:Int)) (fun w b ⟨h8,_,_,_,_,h3,_⟩=>by rw [← hh]; exact qgcd_any _ _ _ _ _ (max k j) w h8 h3 (by omega) (by omega)) (fun x9 y9=>?_)
  refine wInt hU (z:=s / (m:Int)) (fun w b ⟨h9,h8,_⟩=>part_any _ _ _ _ _ _ w h8 h9 (by omega) (by omega) (by omega) hms) (fun x10 y10=>?_)
  refine wInt hU (z:=((y.den / m:Nat):Int)) (fun w b ⟨_,h9,_,_,_,_,_,_,h2,_⟩=>part_any _ _ _ _ j _ w h2 h9 (by omega) (by omega) (by omega) (Int.ofNat_dvd.2 (Nat.dvd_trans hmg hgy))) (fun x11 y11=>?_)
  refine wInt hU (fun w b ⟨h11,_,_,_,_,_,_,h4,_⟩=>imul_any _ _ _ _ k j w h4 h11 (by omega) (by omega)) (fun x12 y12=>?_)
  refine wRat (q:=x+y) (m:=k+j+1) (fun w b ⟨h12,_,h10,_⟩=>lowest_any _ _ (s / (m:Int)) _ (x+y) (k+j+1) w ⟨h10.1,ediv_lt (by omega) hsb hms⟩ (h12.mono (by omega)) (by omega) hnum (by rw [hden,Int.natCast_mul])) (fun a b c d=>?_)
  exact wRet fun w b ⟨h,_⟩=>⟨_,rfl,⟨_,_,_,_,rfl,h⟩,b⟩
set_option maxHeartbeats 2000000 in
theorem qmul_any (v u:Value) (x y:Rat) (k j:Nat) (w:World) (h:RatB w v x k) (h':RatB w u y j) (hk:k≤200000) (hj:j≤200000) :
    Calls Tryz.prog 55 #[v,u] w fun e w'=>∃ v',e=.returned v'∧RatB w' v' (x * y) (k+j)∧Below w.heap.size w w':=by
  obtain ⟨a,b,c,d,rfl,h⟩:=h
  obtain ⟨a',b',c',d',rfl,h'⟩:=h'
  have hxp:=x.den_pos
  have hyp:=y.den_pos
  obtain ⟨hnum,hden⟩:=mul_parts x y
  generalize hg:Nat.gcd x.num.natAbs y.den=g at *
  generalize hm:Nat.gcd y.num.natAbs x.den=m at *
  have hgx:(g:Int) ∣ x.num:=by rw [← hg]; exact Int.ofNat_dvd_left.2 (Nat.gcd_dvd_left _ _)
  have hgy:g ∣ y.den:=by rw [← hg]; exact Nat.gcd_dvd_right _ _
  have hmy:(m:Int) ∣ y.num:=by rw [← hm]; exact Int.ofNat_dvd_left.2 (Nat.gcd_dvd_left _ _)
  have hmx:m ∣ x.den:=by rw [← hm]; exact Nat.gcd_dvd_right _ _
  have hgp:0 < g:=by rw [← hg]; exact Nat.gcd_pos_of_pos_right _ hyp
  have hmp:0 < m:=by rw [← hm]; exact Nat.gcd_pos_of_pos_right _ hxp
  refine go (fun w=>QB w a b c d x k∧QB w a' b' c' d' y j) [[a,b,c,d],[a',b',c',d']] [some 4,some 4] (tr:=(.em (.call 101 [.g [.c 0 0,.c 0 1,.c 0 2,.c 0 3]] [some 2]) (.em (.call 101 [.g [.c 1 0,.c 1 1,.c 1 2,.c 1 3]] [some 2]) (.em (.call 102 [.g [.c 0 0,.c 0 1],.g [.c 3 0,.c 3 1]] [some 2]) (.em (.call 102 [.g [.c 1 0,.c 1 1],.g [.c 2 0,.c 2 1]] [some 2]) (.em (.call 103 [.g [.c 0 0,.c 0 1],.g [.c 4 0,.c 4 1]] [some 2]) (.em (.call 103 [.g [.c 1 0,.c 1 1],.g [.c 5 0,.c 5 1]] [some 2]) (.em (.call 100 [.g [.c 6 0,.c 6 1],.g [.c 7 0,.c 7 1]] [some 2]) (.em (.call 103 [.g [.c 2 0,.c 2 1],.g [.c 5 0,.c 5 1]] [some 2]) (.em (.call 103 [.g [.c 3 0,.c 3 1],.g [.c 4 0,.c 4 1]] [some 2]) (.em (.call 100 [.g [.c 9 0,.c 9 1],.g [.c 10 0,.c 10 1]] [some 2]) (.em (.call 105 [.g [.c 8 0,.c 8 1],.g [.c 11 0,.c 11 1]] [some 4]) (.ret (.v (.g [.c 12 0,.c 12 1,.c 12 2,.c 12 3]))))))))))))))) (by kernel_rfl) (by kernel_rfl) (by kernel_rfl) ((mQ _ _ _ _ _ _).and (mQ _ _ _ _ _ _)) ⟨h,h'⟩ ⟨qpl h,qpl h',trivial⟩ ?_
  refine wInt hU (fun w b ⟨h,_⟩=>bottom_any _ x k w ⟨_,_,_,_,rfl,h⟩ (by omega)) (fun x1 y1=>?_)
  refine wInt hU (fun w b ⟨_,_,h'⟩=>bottom_any _ y j w ⟨_,_,_,_,rfl,h'⟩ (by omega)) (fun x2 y2=>?_)
  refine wInt hU (z:=(g:Int)) (fun w b ⟨h2,_,h,_⟩=>by rw [← hg]; exact qgcd_any _ _ _ _ k j w h.1 h2 (by omega) (by omega)) (fun x3 y3=>?_)
  refine wInt hU (z:=(m:Int)) (fun w b ⟨_,_,h1,_,h'⟩=>by rw [← hm]; exact qgcd_any _ _ _ _ j k w h'.1 h1 (by omega) (by omega)) (fun x4 y4=>?_)
  refine wInt hU (fun w b ⟨_,h3,_,_,h,_⟩=>part_any _ _ _ _ k _ w h.1 h3 (by omega) (by omega) (by omega) hgx) (fun x5 y5=>?_)
  refine wInt hU (fun w b ⟨_,h4,_,_,_,_,h'⟩=>part_any _ _ _ _ j _ w h'.1 h4 (by omega) (by omega) (by omega) hmy) (fun x6 y6=>?_)
  refine wInt hU (fun w b ⟨h6,h5,_⟩=>imul_any _ _ _ _ k j w h5 h6 (by omega) (by omega)) (fun x7 y7=>?_)
  refine wInt hU (z:=((x.den / m:Nat):Int)) (fun w b ⟨_,_,_,h4,_,_,h1,_⟩=>part_any _ _ _ _ k _ w h1 h4 (by omega) (by omega) (by omega) (Int.ofNat_dvd.2 hmx)) (fun x8 y8=>?_)
  refine wInt hU (z:=((y.den / g:Nat):Int)) (fun w b ⟨_,_,_,_,_,h3,h2,_⟩=>part_any _ _ _ _ j _ w h2 h3 (by omega) (by omega) (by omega) (Int.ofNat_dvd.2 hgy)) (fun x9 y9=>?_)
  refine wInt hU (fun w b ⟨h9,h8,_⟩=>imul_any _ _ _ _ k j w h8 h9 (by omega) (by omega)) (fun x10 y10=>?_)
  refine wRat (q:=x * y) (m:=k+j) (fun w b ⟨h10,_,_,h7,_⟩=>lowest_any _ _ _ _ (x * y) (k+j) w h7 h10 (by omega) hnum (by rw [hden,Int.natCast_mul])) (fun a b c d=>?_)
  exact wRet fun w b ⟨h,_⟩=>⟨_,rfl,⟨_,_,_,_,rfl,h⟩,b⟩
end Go.Proofs.YthffkbbcofbceaaGreatDoor

namespace Cin
open Go Go.RowKit
theorem or_u32 {a lo s:Nat} (ha:a < 2 ^ s) (hl:lo % 2 ^ s=0) (ha2:a < 4294967296) (hl2:lo < 4294967296):bits .or .u32 (a:Int) (lo:Int)=((a+lo:Nat):Int):=by
  rw [u32_or_nat _ _ ha2 hl2,Nat.or_comm,nat_join s _ _ hl ha,Nat.add_comm]
theorem low_mul {x s:Nat} (hs:s < 32):(x * 2 ^ s % 4294967296) % 2 ^ s=0:=by
  have e:4294967296=2 ^ (32 - s) * 2 ^ s:=by rw [← Nat.pow_add,show 32 - s+s=32 by omega]
  rw [e,Nat.mul_mod_mul_right]
  exact Nat.mul_mod_left _ _
theorem shl_step {xs os:List Nat} {i q s S t lo hi:Nat} (hl:os.length=S) (hok:Ok os) (hv:val os=val (xs.take i) * (pw q * 2 ^ s)) (hz:∀ j,i+q < j→lim os j=0) (ht:lim os (i+q) < 2 ^ s) (hs:s < 32) (hi':i+q+1 < S)
    (hx:lim xs i < 4294967296) (et:t=lim xs i * 2 ^ s) (elo:lo=t % 4294967296) (ehi:hi=t / 4294967296) :
    lim os (i+q)+lo < 4294967296∧hi < 2 ^ s∧lo % 2 ^ s=0∧((os.set (i+q) (lim os (i+q)+lo)).set (i+q+1) hi).length=S∧Ok ((os.set (i+q) (lim os (i+q)+lo)).set (i+q+1) hi) ∧
      val ((os.set (i+q) (lim os (i+q)+lo)).set (i+q+1) hi)=val (xs.take (i+1)) * (pw q * 2 ^ s)∧(∀ j,i+1+q < j→lim ((os.set (i+q) (lim os (i+q)+lo)).set (i+q+1) hi) j=0)∧lim ((os.set (i+q) (lim os (i+q)+lo)).set (i+q+1) hi) (i+1+q) < 2 ^ s:=by
  have hp:2 ^ s≤2147483648:=by have:=Nat.pow_le_pow_right (n:=2) (by decide) (show s≤31 by omega); simpa using this
  have hlo0:lo % 2 ^ s=0:=by rw [elo,et]; exact low_mul hs
  have hpos:0 < 2 ^ s:=Nat.pow_pos (by decide)
  have hhi:hi < 2 ^ s:=by
    rw [ehi,Nat.div_lt_iff_lt_mul (by decide),et,Nat.mul_comm (2 ^ s)]
    exact Nat.mul_lt_mul_of_pos_right hx hpos
  have hlo:lim os (i+q)+lo < 4294967296:=by
    have h1:lo < 4294967296:=by omega
    have e:4294967296=2 ^ (32 - s) * 2 ^ s:=by rw [← Nat.pow_add,show 32 - s+s=32 by omega]
    obtain ⟨c,hc⟩:=Nat.dvd_of_mod_eq_zero hlo0
    have h2:c < 2 ^ (32 - s):=by
      rw [hc,e,Nat.mul_comm (2 ^ (32 - s))] at h1
      exact Nat.lt_of_mul_lt_mul_left h1
    have h3:2 ^ s * (c+1)≤2 ^ s * 2 ^ (32 - s):=Nat.mul_le_mul_left _ h2
    rw [Nat.mul_comm (2 ^ s) (2 ^ (32 - s)),← e,Nat.mul_add] at h3
    omega
  refine ⟨hlo,hhi,hlo0,by rw [List.length_set,List.length_set,hl],(hok.set _ _ hlo).set _ _ (by omega),?_,fun j hj=>?_,?_⟩
  · have e1:=val_set (xs:=os) (i:=i+q) (by omega) (lim os (i+q)+lo)
    have e2:=val_set (xs:=os.set (i+q) (lim os (i+q)+lo)) (i:=i+q+1) (by rw [List.length_set]; omega) hi
    rw [lim_set_other (by omega),hz (i+q+1) (by omega),Nat.mul_zero,Nat.add_zero] at e2
    rw [e2]
    have e3:val (os.set (i+q) (lim os (i+q)+lo))=val os+pw (i+q) * lo:=by rw [Nat.mul_add] at e1; omega
    have e4:t=lo+4294967296 * hi:=by omega
    have e5:pw (i+q) * lo+pw (i+q+1) * hi=pw (i+q) * t:=by rw [e4,pw_succ,Nat.mul_add,Nat.mul_comm 4294967296 (pw (i+q)),Nat.mul_assoc]
    have e6:pw (i+q) * t=pw i * lim xs i * (pw q * 2 ^ s):=by
      rw [et,pw_add,Nat.mul_assoc,Nat.mul_assoc,← Nat.mul_assoc (pw q),Nat.mul_comm (pw q) (lim xs i),Nat.mul_assoc (lim xs i)]
    rw [e3,hv,val_take_step,Nat.add_mul,← e6,← e5]
    omega
  · rw [lim_set_other (by omega),lim_set_other (by omega)]; exact hz j (by omega)
  · rw [show i+1+q=i+q+1 by omega,lim_set_same (by rw [List.length_set]; omega)]; exact hhi
end Cin
namespace Go.Proofs.YthffkbbcofbceaaGreatDoor
open Go.RowKit Cin
set_option maxRecDepth 100000 in
set_option maxHeartbeats 2000000 in
theorem refShl_any (v:Value) (x N k:Nat) (w:World) (h:RefB w v x k) (hk:k≤1000000) (hN:N≤1048576) :
    Calls Tryz.prog 191 #[v,.int .i64 N] w fun e w'=>∃ v',e=.returned v'∧RefB w' v' (x * 2 ^ N) (k+N / 32+1)∧Below w.heap.size w w':=by
  obtain ⟨⟨xs,hs,ho,hnm,hval⟩,hx⟩:=h
  obtain ⟨ad,cap,rfl,hc,_⟩:=hs.shape
  obtain ⟨i0,hi0,hz0,hz1,hz2⟩:=info_parts info_u32
  have hl:xs.length≤k:=norm_len hnm (by rw [hval]; exact hx)
  obtain ⟨n,hn⟩:∃ n:Nat,xs.length=n:=⟨_,rfl⟩
  obtain ⟨q,eq,eq'⟩:∃ q:Nat,(N:Int) / 32=(q:Int)∧q=N / 32:=⟨N / 32,by omega,rfl⟩
  obtain ⟨s,es,es'⟩:∃ s:Nat,(N:Int) % 32=(s:Int)∧s=N % 32:=⟨N % 32,by omega,rfl⟩
  have hs32:s < 32:=by omega
  have hpw:2 ^ N=pw q * 2 ^ s:=by rw [eq',es']; exact pow2_split32 N
  obtain ⟨nq,enq,enq'⟩:∃ a:Nat,(n:Int)+(q:Int)=(a:Int)∧a=n+q:=⟨n+q,by omega,rfl⟩
  obtain ⟨S,eS,eS'⟩:∃ a:Nat,(nq:Int)+1=(a:Int)∧a=n+q+1:=⟨n+q+1,by omega,rfl⟩
  rw [hn] at hs hl hc ⊢
  have HS:=Lib.hid hs
  have HVAL:=Lib.hid hval
  have HX:=Lib.hid hx
  have HLN:=Lib.hid hn
  have HPW:=Lib.hid hpw
  have HQ:=Lib.hid eq'
  have HSS:=Lib.hid eS'
  have hSb:S≤3000000:=by omega
  have hqb:q≤100000:=by omega
  have hnqb:nq≤3000000:=by omega
  have HD:=Lib.hid (show ∀ b' o' n' c',Value.slice ad n cap=.slice (some ⟨b',o',none⟩) n' c'→¬ (b'=w.heap.size) from fun b' o' n' c' e=>by have:=hs.lt e; omega)
  clear hs hval hx hn hpw eq' es' enq' eS' hnm hc
  go_enter Tryz.func191,Tryz.ntmps191
  go_wp2_with (at_make; refine wpList_make_ints _ rfl _ _ 57 rfl 202 i0 .u32 Tryz.underlying57 hi0 hz0 hz1 .i64 .i64 _ _ S S rfl rfl (by omega) (by omega) (Nat.le_refl _) (by rw [hz2]; omega) (by omega) ?_)
  have hkW:Blk (w.alloc (Obj.cells (ints IntKind.u32 (List.replicate S 0)) 202)) w.heap.size 202 .u32 (List.replicate S 0):=Blk.new _ _ _ _
  have hbW:=bel_alloc w (Obj.cells (ints IntKind.u32 (List.replicate S 0)) 202)
  generalize w.alloc (Obj.cells (ints IntKind.u32 (List.replicate S 0)) 202)=W at *
  have HL:=Lib.hid (HS.out.below hbW)
  have HBW:=Lib.hid hbW
  have HKW:=Lib.hid hkW
  clear hbW hkW hi0 hz0 hz1 hz2
  go_loopw [6,7] (fun ix _ wr=>∃ (i:Nat) (os:List Nat),i≤n∧ix=.int .i64 i∧os.length=S∧Ok os∧val os=val (xs.take i) * (pw q * 2 ^ s)∧(∀ j,i+q < j→lim os j=0)∧lim os (i+q) < 2 ^ s ∧
      Blk wr w.heap.size 202 .u32 os∧Keep (·=w.heap.size) W wr) (fun ix _ _=>n - (intOf ix).toNat)
  case atStart=>exact ⟨0,List.replicate S 0,Nat.zero_le _,rfl,by simp,Ok.replicate _,by rw [val_replicate,List.take_zero,val_nil,Nat.zero_mul],fun j _=>lim_replicate _ _,by rw [lim_replicate]; exact Nat.pow_pos (by decide),HKW.out,Keep.refl _ _⟩
  case round=>
    obtain ⟨i,os,hi,rfl,hol,hok,hv,hz,ht0,hblk,hkeep⟩:=hrel
    by_cases hlt:i < n
    · have hSq:i+q+1 < S:=by have:=HSS.out; omega
      have hlim:lim xs i < 4294967296:=lim_lt ho _
      have hp:2 ^ s≤2147483648:=by have:=Nat.pow_le_pow_right (n:=2) (by decide) (show s≤31 by omega); simpa using this
      have hxb:lim xs i * 2 ^ s≤4294967295 * 2147483648:=Nat.mul_le_mul (by omega) hp
      obtain ⟨t,hsh,et⟩:∃ t:Nat,IntKind.u64.wrap (((lim xs i:Nat):Int) * 2 ^ s)=(t:Int)∧t=lim xs i * 2 ^ s:=⟨_,by
        rw [IntKind.wrap_u64,show (((lim xs i:Nat):Int) * 2 ^ s)=((lim xs i * 2 ^ s:Nat):Int) by simp]; omega,rfl⟩
      have htb:t < 9223372036854775808:=by omega
      obtain ⟨lo,elo⟩:∃ lo:Nat,lo=t % 4294967296:=⟨_,rfl⟩
      obtain ⟨hh,ehh,ehh'⟩:∃ hh:Nat,((t:Int) / 4294967296)=(hh:Int)∧hh=t / 4294967296:=⟨t / 4294967296,by omega,rfl⟩
      have hand:bits BinOp.and IntKind.u64 (t:Int) 4294967295=(lo:Int):=by rw [and_mask32 (by omega),elo]
      have hlob:lo < 4294967296:=by omega
      have hhb:hh < 4294967296:=by omega
      have R:=shl_step hol hok hv hz ht0 hs32 hSq hlim et elo ehh'
      obtain ⟨iq,eiq,eiq'⟩:∃ a:Nat,(i:Int)+(q:Int)=(a:Int)∧i+q=a:=⟨i+q,by omega,rfl⟩
      have hz1:=hz (i+q+1) (by omega)
      rw [eiq'] at R hSq ht0 hz1
      have hcell2:=hblk.cell (i:=iq) (by rw [hol]; omega)
      have hf:=hblk.free iq
      have hcell3:=hblk.cell (i:=iq+1) (by rw [hol]; omega)
      have hf3:=hblk.free (iq+1)
      rw [hz1] at hcell3
      have hob:=lim_lt hok iq
      have hor1:bits BinOp.or IntKind.u32 ((lim os iq:Nat):Int) (lo:Int)=((lim os iq+lo:Nat):Int):=or_u32 ht0 R.2.2.1 hob hlob
      obtain ⟨o1,eo1⟩:∃ o1:Nat,lim os iq+lo=o1:=⟨_,rfl⟩
      rw [eo1] at hor1 R
      have hor2:bits BinOp.or IntKind.u32 ((0:Nat):Int) (hh:Int)=(hh:Int):=by
        have:=or_u32 (a:=0) (lo:=hh) (s:=0) (by decide) (Nat.mod_one _) (by decide) hhb
        rw [this,Nat.zero_add]
      have hor3:bits BinOp.or IntKind.u32 0 (hh:Int)=(hh:Int):=hor2
      obtain ⟨bx,offx,rfl,hcell,hblt⟩:=(HL.out.keep hkeep HD.out).cell (i:=i) (by have:=HLN.out; omega)
      have hne:w.heap.size≠bx:=fun e=>HD.out _ _ _ _ rfl e.symm
      have HB2:=Lib.hid ((hblk.set iq o1).set (iq+1) hh)
      have HK2:=Lib.hid ((hkeep.setCell (a:=⟨w.heap.size,iq,none⟩) rfl (.int .u32 (o1:Nat))).setCell (a:=⟨w.heap.size,iq+1,none⟩) rfl (.int .u32 (hh:Nat)))
      have hcell4:(wr.setCell ⟨w.heap.size,iq,none⟩ (.int .u32 (o1:Nat))).cell? ⟨w.heap.size,iq+1,none⟩=some (.int .u32 ((0:Nat):Int)):=by
        rw [World.cell?_setCell_other _ _ _ _ (by intro e; injection e; omega)]; exact hcell3
      have HR:=Lib.hid R
      have EIQ:=Lib.hid eiq'
      have wq1:IntKind.i64.wrap ((iq:Int)+1)=(iq:Int)+1:=IntWalk.i64_in _ (by omega)
      have hiqS:(iq:Int) < (S:Int):=by omega
      have hiqS2:(iq:Int)+1 < (S:Int):=by omega
      clear R hol hok hv hz ht0 hblk hkeep et elo ehh' eo1 eiq' hz1 hor2
      go_wp2_with fail
      obtain ⟨r1,r2,r3,r4,r5,r6,r7,r8⟩:=HR.out
      have e0:=EIQ.out
      subst e0
      exact ⟨⟨i+1,_,by omega,by go_num,r4,r5,r6,r7,r8,HB2.out,HK2.out⟩,by simp [intOf]; omega⟩
    · obtain rfl:i=n:=by omega
      rw [List.take_of_length_le (by have:=HLN.out; omega),HVAL.out,← HPW.out] at hv
      have hsl:=Sl.of_blk hblk
      rw [hol] at hsl
      have HV:=Lib.hid hv
      have HSL:=Lib.hid hsl
      have HB3:=Lib.hid (HBW.out.trans (hkeep.below (B:=w.heap.size) HBW.out.size (fun k e=>by omega)))
      have hln:os.length≤1000000000000:=by rw [hol]; omega
      have HLT:=Lib.hid (show x * 2 ^ N < pw (k+N / 32+1) by
        rw [HPW.out,← HQ.out,show k+q+1=k+(q+1) by omega,pw_add]
        refine Nat.mul_lt_mul'' HX.out ?_
        rw [pw_succ,Nat.mul_comm]
        have hp:2 ^ s≤2147483648:=by have:=Nat.pow_le_pow_right (n:=2) (by decide) (show s≤31 by omega); simpa using this
        exact Nat.mul_lt_mul_of_pos_right (by omega) (pw_pos q))
      clear hv hsl hblk hkeep hol hz ht0
      go_wp2_with fail
      refine (rtrim_any _ os _ HSL.out hok hln).mono ?_
      rintro e w2 ⟨v2,rfl,hr2,rfl⟩
      rw [HV.out] at hr2
      have HR2:=Lib.hid hr2
      clear hr2
      go_wp2
      go_ret
      exact ⟨_,rfl,⟨HR2.out,HLT.out⟩,HB3.out⟩
end Go.Proofs.YthffkbbcofbceaaGreatDoor

namespace Cin
open Go
end Cin
namespace Go.Proofs.YthffkbbcofbceaaGreatDoor
open Go.RowKit Cin
set_option maxHeartbeats 800000 in
theorem rnatOf_one (w:World):Calls Tryz.prog 114 #[.int .u64 1] w fun e w'=>∃ v',e=.returned v'∧RefB w' v' 1 1∧Below w.heap.size w w':=by
  have hand:bits BinOp.and IntKind.u64 1 4294967295=1:=and_mask32 (t:=1) (by decide)
  go_enter Tryz.func114,Tryz.ntmps114
  go_wp2_with fail
  have hblk:=Blk.new w 202 .u32 [1,0]
  refine (rtrim_any _ [1,0] _ (Sl.of_blk hblk) (Ok.cons (by decide) (Ok.cons (by decide) Ok.nil)) (by decide)).mono ?_
  rintro e w1 ⟨v1,rfl,hr,rfl⟩
  have HR:=Lib.hid hr
  clear hr hblk hand
  go_wp2
  go_ret
  exact ⟨_,rfl,⟨HR.out,by decide⟩,bel_alloc _ _⟩
end Go.Proofs.YthffkbbcofbceaaGreatDoor

namespace Cin
open Go Go.RowKit
theorem div_start {a b ca cb:Nat} (ha:IsBl a ca) (hb:IsBl b cb) (hb0:b≠0):a < b * 2 ^ (((ca:Int) - (cb:Int)+1).toNat):=by
  have h1:=ha.1
  rcases hb.2 with h2 | h2
  · exfalso
    have:=hb.1
    rw [h2] at this
    omega
  · have hcb:cb≠0:=by
      intro e
      have:=hb.1
      rw [e] at this
      omega
    rcases Nat.lt_or_ge ca cb with h3 | h3
    · rw [show ((ca:Int) - (cb:Int)+1).toNat=0 by omega,Nat.pow_zero,Nat.mul_one]
      have:=Nat.pow_le_pow_right (n:=2) (by decide) (show ca≤cb - 1 by omega)
      omega
    · have e:2 ^ ca=2 ^ (cb - 1) * 2 ^ (((ca:Int) - (cb:Int)+1).toNat):=by rw [← Nat.pow_add]; congr 1; omega
      have:=Nat.mul_le_mul_right (2 ^ (((ca:Int) - (cb:Int)+1).toNat)) h2
      omega
theorem div_yes {a b Q R i:Nat} (h:a=Q * b+R) (hr:R < b * 2 ^ (i+1)) (hl:b * 2 ^ i≤R):a=(Q+2 ^ i) * b+(R - b * 2 ^ i)∧R - b * 2 ^ i < b * 2 ^ i:=by
  rw [Nat.pow_succ,← Nat.mul_assoc] at hr
  refine ⟨?_,by omega⟩
  rw [Nat.add_mul,Nat.mul_comm (2 ^ i) b]
  omega
theorem div_end {a b Q R:Nat} (h:a=Q * b+R) (hr:R < b):Q=a / b∧R=a % b:=by
  subst h
  refine ⟨?_,?_⟩
  · rw [Nat.mul_comm,Nat.mul_add_div (by omega),Nat.div_eq_of_lt hr,Nat.add_zero]
  · rw [Nat.mul_comm,Nat.mul_add_mod,Nat.mod_eq_of_lt hr]
theorem bl_bound {x c k:Nat} (h:IsBl x c) (hx:x < pw k):c≤32 * k:=by
  rcases h.2 with e | e
  · omega
  · rcases Nat.lt_or_ge (32 * k) c with h1 | h1
    · have:=Nat.pow_le_pow_right (n:=2) (by decide) (show 32 * k≤c - 1 by omega)
      rw [pw_two] at hx
      omega
    · exact h1
theorem le_of_mul_add {a b Q R:Nat} (h:a=Q * b+R) (hb:b≠0):Q≤a:=by
  have:=Nat.le_mul_of_pos_right Q (Nat.pos_of_ne_zero hb)
  omega
end Cin
namespace Go.Proofs.YthffkbbcofbceaaGreatDoor
open Go.RowKit Cin
set_option maxRecDepth 100000 in
set_option maxHeartbeats 1000000 in
theorem rbits_any (v:Value) (x k:Nat) (w:World) (h:RefB w v x k) (hk:k≤1000000) :
    Calls Tryz.prog 190 #[v] w fun e w'=>∃ c:Nat,e=.returned (.int .i64 c)∧IsBl x c∧c≤32 * k∧w'=w:=by
  obtain ⟨⟨xs,hs,ho,hnm,hval⟩,hx⟩:=h
  obtain ⟨ad,cap,rfl,hc,_⟩:=hs.shape
  have hl:xs.length≤k:=norm_len hnm (by rw [hval]; exact hx)
  obtain ⟨len,hn⟩:∃ n:Nat,xs.length=n:=⟨_,rfl⟩
  rw [hn] at hs hl hc ⊢
  rcases Nat.eq_zero_or_pos len with h0 | h0
  · subst h0
    have e0:xs=[]:=List.length_eq_zero_iff.1 hn
    subst e0
    rw [val_nil] at hval
    subst hval
    clear hs hn hnm ho hx hc
    go_enter Tryz.func190,Tryz.ntmps190
    go_wp2
    go_ret
    exact ⟨0,rfl,IsBl.zero,Nat.zero_le _,rfl⟩
  · obtain ⟨n,rfl⟩:∃ n,len=n+1:=⟨len - 1,by omega⟩
    obtain ⟨b,off,rfl,hcell,hblt⟩:=hs.cell (i:=n) (by omega)
    have hlim:=lim_lt ho n
    have hne:xs≠[]:=by intro e; subst e; simp at hn
    have htop:∀ c,IsBl (lim xs n) c→IsBl x (32 * n+c):=fun c hcc=>by
      have:=bl_top (c:=c) hne ho (by rw [hn,Nat.add_sub_cancel]; exact hcc) (by rcases hnm with e | e; exact absurd e hne; exact e)
      rwa [hn,Nat.add_sub_cancel,hval] at this
    have HTOP:=Lib.hid htop
    have HX:=Lib.hid hx
    generalize lim xs n=t at *
    have heq:((n:Int)+1 == 0)=false:=by simp; omega
    have e32:IntKind.i64.wrap (32 * (n:Int))=((32 * n:Nat):Int):=by rw [IntWalk.i64_in _ (by omega)]; omega
    clear hs hn hnm ho hval hx hc hne htop
    go_enter Tryz.func190,Tryz.ntmps190
    go_wp2_with fail
    go_loop [3,4] (fun m u=>∃ a b:Nat,m=.int .i64 ((32 * n+a:Nat):Int)∧u=.int .u32 b∧a≤32∧b=t / 2 ^ a∧∀ j,IsBl b j→IsBl t (a+j)) (fun _ u=>(intOf u).toNat)
    case atStart=>exact ⟨0,t,rfl,rfl,by decide,by simp,fun j h=>by simpa using h⟩
    case round=>
      obtain ⟨a,b,rfl,rfl,ha,hb,hbl⟩:=hrel
      have HBL:=Lib.hid hbl
      have HBB:=Lib.hid hb
      clear hb hbl
      rcases Nat.eq_zero_or_pos b with h0 | h0
      · subst h0
        have HK:=Lib.hid (HTOP.out _ (HBL.out 0 IsBl.zero))
        clear HBL HBB HTOP
        go_wp2_with fail
        go_ret
        exact ⟨32 * n+a,rfl,HK.out,bl_bound HK.out HX.out,rfl⟩
      · have ha32:a < 32:=by
          rcases Nat.lt_or_ge a 32 with h | h
          · exact h
          · exfalso
            have h1:=Nat.div_eq_of_lt (Nat.lt_of_lt_of_le hlim (show 4294967296≤2 ^ a from Nat.pow_le_pow_right (n:=2) (by decide) h))
            have:=HBB.out
            omega
        have hblt2:b < 4294967296:=by have:=HBB.out; have:=Nat.div_le_self t (2 ^ a); omega
        obtain ⟨c,hc,ec⟩:∃ c:Nat,(b:Int) / 2=(c:Int)∧c=b / 2:=⟨b / 2,by omega,rfl⟩
        have EC:=Lib.hid ec
        have HN:=Lib.hid (show c=t / 2 ^ (a+1)∧∀ j,IsBl c j→IsBl t (a+1+j) from ⟨by rw [ec,HBB.out,Nat.pow_succ,Nat.div_div_eq_div_mul],fun j hj=>by rw [ec] at hj; have:=HBL.out _ (hj.half (by omega)); rwa [show a+(j+1)=a+1+j by omega] at this⟩)
        clear HBL HBB HTOP ec
        go_wp2_with fail
        have ec:=EC.out
        exact ⟨⟨a+1,c,by go_num,rfl,by omega,HN.out⟩,by simp only [intOf]; omega⟩
set_option maxRecDepth 100000 in
set_option maxHeartbeats 4000000 in
theorem rdiv_any (v u:Value) (x y k j:Nat) (w:World) (h:RefB w v x k) (h':RefB w u y j) (hk:k≤30000) (hj:j≤30000) (hy:y≠0) :
    Calls Tryz.prog 152 #[v,u] w fun e w'=>∃ v' u',e=.returned (.tuple #[v',u'])∧RefB w' v' (x / y) k∧RefB w' u' (x % y) j∧Below w.heap.size w w':=by
  have H:=Lib.hid h
  have H':=Lib.hid h'
  clear h h'
  go_enter Tryz.func152,Tryz.ntmps152
  go_wp2_with fail
  refine (rbits_any v x k w H.out (by omega)).mono ?_
  rintro e w1 ⟨ca,rfl,hca,hcak,rfl⟩
  go_wp2_with fail
  refine (rbits_any u y j w1 H'.out (by omega)).mono ?_
  rintro e w2 ⟨cb,rfl,hcb,hcbk,rfl⟩
  have HST:=Lib.hid (div_start hca hcb hy)
  obtain ⟨z0,hz0⟩:∃ z0:Int,(ca:Int) - (cb:Int)=z0:=⟨_,rfl⟩
  rw [hz0] at HST
  have hzb:-960000≤z0∧z0≤960000:=by omega
  have wz:IntKind.i64.wrap ((ca:Int) - (cb:Int))=z0:=by rw [IntWalk.i64_in _ (by omega),hz0]
  clear hca hcb hcak hcbk hz0
  go_wp2_with fail
  go_loopg [6,7,8,9] (z0+1).toNat (fun g q r i _ wr=>∃ (z:Int) (Q R:Nat),i=.int .i64 z∧z≤960000∧-960000≤z∧g=(z+1).toNat∧x=Q * y+R∧R < y * 2 ^ (z+1).toNat∧RefB wr q Q k∧RefB wr r R k∧Below w2.heap.size w2 wr)
  case atStart=>exact ⟨z0,0,x,rfl,hzb.2,hzb.1,rfl,by omega,HST.out,⟨RefV.zero _ _,pw_pos k⟩,H.out,Below.refl _ _⟩
  case round=>
    obtain ⟨z,Q,R,rfl,hz1,hz2,hg,hx,hR,hq,hr,hbel⟩:=hrel
    have HX:=Lib.hid hx
    have HR:=Lib.hid hR
    have HQ:=Lib.hid hq
    have HRR:=Lib.hid hr
    have HBE:=Lib.hid hbel
    have HG:=Lib.hid hg
    clear hx hR hq hr hbel hg
    by_cases hz:0≤z
    · obtain ⟨i,rfl⟩:∃ i:Nat,z=(i:Int):=⟨z.toNat,by omega⟩
      have ei:((i:Int)+1).toNat=i+1:=by omega
      rw [ei] at HR
      go_wp2_with fail
      refine (refShl_any u y i j _ (H'.out.below HBE.out) (by omega) (by omega)).mono ?_
      rintro e w3 ⟨v3,rfl,hn3,hb3⟩
      have HN3:=Lib.hid hn3
      have HB3:=Lib.hid hb3
      clear hn3 hb3
      go_wp2_with fail
      refine (rcmpB v3 _ (y * 2 ^ i) R (j+i / 32+1) k _ HN3.out (HRR.out.below HB3.out) (by omega) (by omega)).mono ?_
      rintro e w4 ⟨rfl,hb4⟩
      have HB4:=Lib.hid hb4
      clear hb4
      by_cases hle:y * 2 ^ i≤R
      · obtain ⟨c,hc,hc0⟩:∃ c:Int,cmpI (y * 2 ^ i) R=c∧c≤0:=⟨_,rfl,by unfold cmpI; split; decide; rw [if_neg (by omega)]; decide⟩
        rw [hc]
        have hcd:decide (c≤0)=true:=decide_eq_true hc0
        have HY:=Lib.hid (div_yes HX.out HR.out hle)
        have HLE:=Lib.hid hle
        clear hc hle
        go_wp2_with fail
        refine (rsubB _ v3 R (y * 2 ^ i) k (j+i / 32+1) _ ((HRR.out.below HB3.out).below HB4.out) (HN3.out.below HB4.out) (by omega) (by omega) HLE.out).mono ?_
        rintro e w5 ⟨v5,rfl,hn5,hb5⟩
        have HN5:=Lib.hid hn5
        have HB5:=Lib.hid hb5
        clear hn5 hb5
        go_wp2_with fail
        refine (rnatOf_one _).mono ?_
        rintro e w6 ⟨v6,rfl,hn6,hb6⟩
        have HN6:=Lib.hid hn6
        have HB6:=Lib.hid hb6
        clear hn6 hb6
        go_wp2_with fail
        refine (refShl_any v6 1 i 1 _ HN6.out (by omega) (by omega)).mono ?_
        rintro e w7 ⟨v7,rfl,hn7,hb7⟩
        rw [Nat.one_mul] at hn7
        have HN7:=Lib.hid hn7
        have HB7:=Lib.hid hb7
        clear hn7 hb7
        have HB37:=Lib.hid (bel_on (bel_on (bel_on (bel_on HB3.out HB4.out) HB5.out) HB6.out) HB7.out)
        go_wp2_with fail
        refine (raddB _ v7 Q (2 ^ i) k (1+i / 32+1) _ (HQ.out.below HB37.out) HN7.out (by omega) (by omega)).mono ?_
        rintro e w8 ⟨v8,rfl,hn8,hb8⟩
        have HQ2:=Lib.hid (show RefB w8 v8 (Q+2 ^ i) k from ⟨hn8.1,by have:=le_of_mul_add HY.out.1 hy; have:=H.out.2; omega⟩)
        have HR2:=Lib.hid (((HN5.out.below HB6.out).below HB7.out).below hb8)
        have HB8:=Lib.hid (bel_on HBE.out (bel_on HB37.out hb8))
        clear hn8 hb8
        go_wp2_with fail
        go_roundg i
        case measure=>have:=HG.out; omega
        case rel=>exact ⟨(i:Int) - 1,Q+2 ^ i,R - y * 2 ^ i,by go_num,by omega,by omega,by omega,HY.out.1,by rw [show ((i:Int) - 1+1).toNat=i by omega]; exact HY.out.2,HQ2.out,HR2.out,HB8.out⟩
      · obtain ⟨c,hc,hc0⟩:∃ c:Int,cmpI (y * 2 ^ i) R=c∧0 < c:=⟨_,rfl,by unfold cmpI; rw [if_neg (by omega),if_pos (by omega)]; decide⟩
        rw [hc]
        have hcd:decide (c≤0)=false:=decide_eq_false (by omega)
        have HLE:=Lib.hid (Nat.lt_of_not_le hle)
        have HB34:=Lib.hid (bel_on HB3.out HB4.out)
        clear hc hle
        go_wp2_with fail
        go_roundg i
        case measure=>have:=HG.out; omega
        case rel=>exact ⟨(i:Int) - 1,Q,R,by go_num,by omega,by omega,by omega,HX.out,by rw [show ((i:Int) - 1+1).toNat=i by omega]; exact HLE.out,HQ.out.below HB34.out,HRR.out.below HB34.out,bel_on HBE.out HB34.out⟩
    · rw [show (z+1).toNat=0 by omega,Nat.pow_zero,Nat.mul_one] at HR
      have HE:=Lib.hid (div_end HX.out HR.out)
      have HL:=Lib.hid (show R < pw j from Nat.lt_trans HR.out H'.out.2)
      have hzd:decide (0≤z)=false:=decide_eq_false hz
      go_wp2_with fail
      go_ret2
      exact ⟨_,_,rfl,by rw [← HE.out.1]; exact HQ.out,by rw [← HE.out.2]; exact ⟨HRR.out.1,HL.out⟩,HBE.out⟩
set_option maxRecDepth 100000 in
set_option maxHeartbeats 4000000 in
theorem rgcd_any (v u:Value) (x y k j:Nat) (w:World) (h:RefB w v x k) (h':RefB w u y j) (hk:k≤15000) (hj:j≤15000) :
    Calls Tryz.prog 117 #[v,u] w fun e w'=>∃ v',e=.returned v'∧RefB w' v' (Nat.gcd x y) (k+j)∧Below w.heap.size w w':=by
  have H:=Lib.hid (show RefB w v x (k+j) from ⟨h.1,lt_pw_mono h.2 (by omega)⟩)
  have H':=Lib.hid (show RefB w u y (k+j) from ⟨h'.1,lt_pw_mono h'.2 (by omega)⟩)
  obtain ⟨K,hK,hKb⟩:∃ K,k+j=K∧K≤30000:=⟨_,rfl,by omega⟩
  rw [hK] at H H' ⊢
  clear h h' hK hk hj
  go_enter Tryz.func117,Tryz.ntmps117
  go_wp2_with fail
  go_loopg [0,1,5,6] y (fun g a b _ _ wr=>∃ A:Nat,RefB wr a A K∧RefB wr b g K∧Nat.gcd A g=Nat.gcd x y∧Below w.heap.size w wr)
  case atStart=>exact ⟨x,H.out,H'.out,rfl,Below.refl _ _⟩
  case round=>
    obtain ⟨A,ha,hb,hg,hbel⟩:=hrel
    obtain ⟨ad,len,cap,xs,rfl,_⟩:=hb.1.shape
    have hlen:=refB_len hb
    have HA:=Lib.hid ha
    have HB:=Lib.hid hb
    have HG:=Lib.hid hg
    have HBE:=Lib.hid hbel
    clear ha hb hg hbel
    by_cases h0:gk=0
    · obtain rfl:len=0:=hlen.2 h0
      subst h0
      rw [Nat.gcd_zero_right] at HG
      clear hlen HB
      go_wp2_with fail
      go_ret
      exact ⟨_,rfl,by rw [← HG.out]; exact HA.out,HBE.out⟩
    · have hl0:0 < len:=by rcases Nat.eq_zero_or_pos len with e | e; exact absurd (hlen.1 e) h0; exact e
      clear hlen
      go_wp2_with fail
      refine (rdiv_any _ _ A gk K K _ HA.out HB.out hKb hKb h0).mono ?_
      rintro e w2 ⟨vq,vr,rfl,_,hr,hb2⟩
      have HR:=Lib.hid hr
      have HB2:=Lib.hid (HB.out.below hb2)
      have HBE2:=Lib.hid (bel_on HBE.out hb2)
      clear hr hb2
      go_wp2_with fail
      go_roundg (A % gk)
      case measure=>exact Nat.mod_lt _ (Nat.pos_of_ne_zero h0)
      case rel=>exact ⟨gk,HB2.out,HR.out,by rw [← HG.out,Nat.gcd_comm A gk,Nat.gcd_rec gk A,Nat.gcd_comm],HBE2.out⟩
end Go.Proofs.YthffkbbcofbceaaGreatDoor
