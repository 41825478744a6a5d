/- Contracts of rat's small functions. -/
import Derived.Test.YthffkbbcofbceaaGreatDoorYg
import Derived.Test.YthffkbbcofbceaaGreatDoorYi
import Derived.Test.YthffkbbcofbceaaGreatDoorYj
import Derived.Test.YthffkbbcofbceaaGreatDoorYl
import Derived.Test.YthffkbbcofbceaaGreatDoorYm
import Derived.Test.YthffkbbcofbceaaGreatDoorYn
import Derived.Test.YthffkbbcofbceaaGreatDoorYk
import Derived.Lib.AppendStr
import Derived.Lib.SlBytesRow
import Derived.Test.YthffkbbcofbceaaGreatDoorYb
import Derived.Test.YthffkbbcofbceaaGreatDoorYa
import Derived.BigGuard
import Derived.Test.YthffkbbcofbceaaGreatDoorYh
namespace Go.Proofs.YthffkbbcofbceaaGreatDoor
open Go.RowKit Cin
def DD:TypeId→Bool:=fun t=>t == 202
theorem hU:DD 202=true:=rfl
theorem hMix:Tryz.prog.follows .mixedOrders=true:=by kernel_rfl
def AllPl:Env→Prop
  | []=>True
  | c::E=>c.all Value.oneCell'=true∧AllPl E
theorem allPl {E:Env} (h:AllPl E):E.all (fun cs=>cs.all Value.oneCell')=true:=by
  induction E with
  | nil=>rfl
  | cons c E ih=>simp only [List.all_cons,Bool.and_eq_true]; exact ⟨h.1,ih h.2⟩
theorem go {f:FuncId} {tr:Tr} {args:List Value} {w:World} {Post:Ending→World→Prop} (F:World→Prop) (E:Env) (sh:List (Option Nat)) (hr:rowOf Tryz.prog DD f=some tr)
    (hq:(eqsOf Tryz.prog DD f).map (·.1)=(eqsOf Tryz.prog DD f).map (·.2)) (hsh:((Tryz.prog.funcs[f]?).map fun fn=>fn.params.toList.mapM (shapeOf Tryz.prog))=some (some sh))
    (hF:Mono DD F) (h0:F w) (hpl:AllPl E) (hk:Wk Tryz.prog w DD DD Post (fun _ _ _=>False) F tr E) (hE:E.length=sh.length:=by rfl) (hargs:args=sh.zipIdx.map (fun (s,i)=>(v1of i 0 s).den [] E):=by rfl):Calls Tryz.prog f args.toArray w Post:=
  rx (fun _ h=>h) hMix hr hq sh hsh hE hargs (allPl hpl) _ (hk hF ⟨w,fun _=>False⟩ h0)
abbrev IB (w:World) (x y:Value) (z:Int) (k:Nat):Prop:=IntB 202 w (.agg #[x,y]) z k
theorem ipl {w:World} {x y:Value} {z:Int} {k:Nat} (h:IB w x y z k):[x,y].all Value.oneCell'=true:=by
  obtain ⟨bb,ad,len,cap,e,_⟩:=h.shape2
  cases e; rfl
theorem ibc {w:World} {v:Value} {z:Int} {k:Nat} (h:IntB 202 w v z k):∃ x y,v=.agg #[x,y]∧IB w x y z k:=by
  obtain ⟨bb,ad,len,cap,rfl,_⟩:=h.shape2
  exact ⟨_,_,rfl,h⟩
theorem mI {D:TypeId→Bool} (x y:Value) (z:Int) (k:Nat) (hD:D 202=true:=by rfl):Mono D fun w=>IB w x y z k:=monoInt hD _ _ _
theorem divQ_pos {x y:Int} (hy:0 < y):divQ x y=x / y:=by
  obtain ⟨h1,h2,h3⟩:=div_back x y (by omega)
  have hr:0≤divR x y:=by
    rcases h3 with h | h
    · omega
    · unfold sgnZ at h
      rw [if_neg (by omega:¬ y < 0),if_pos hy] at h
      split at h
      · cases h
      · omega
  have:=(Int.ediv_emod_unique hy (a:=x) (r:=divR x y) (q:=divQ x y)).2 ⟨by rw [Int.mul_comm]; omega,hr,by omega⟩
  exact this.1.symm
theorem ediv_lt {x y:Int} {k:Nat} (hy:0 < y) (h:x.natAbs < pw k) (hd:y ∣ x):(x / y).natAbs < pw k:=by
  obtain ⟨c,rfl⟩:=hd
  rw [Int.mul_ediv_cancel_left _ (by omega)]
  rw [Int.natAbs_mul] at h
  have:c.natAbs≤y.natAbs * c.natAbs:=Nat.le_mul_of_pos_left _ (by omega)
  omega
theorem qfresh_any (v:Value) (z:Int) (k:Nat) (w:World) (h:IntB 202 w v z k) (hk:k≤1000000) :
    Calls Tryz.prog 121 #[v] w fun e w'=>∃ v',e=.returned v'∧IntB 202 w' v' z k∧Below w.heap.size w w':=by
  obtain ⟨x,y,rfl,h⟩:=ibc h
  refine go (fun w=>IB w x y z k) [[x,y]] [some 2] (tr:=(.em (.call 104 [.g [.c 0 0,.c 0 1],.g [.k (.bool false),.k (.slice none 0 0)]] [some 2]) (.ret (.v (.g [.c 1 0,.c 1 1]))))) (by kernel_rfl) (by kernel_rfl) (by kernel_rfl) (mI _ _ _ _) h ⟨(ipl h),trivial⟩ ?_
  refine wInt hU (z:=z+0) (m:=k+0+1) (fun w b h=>iadd_any _ _ z 0 k 0 w h (IntB.zero _ _ _) (by omega) (by omega)) (fun x1 y1=>?_)
  exact wRet fun w b ⟨h1,h0⟩=>⟨_,rfl,⟨by have:=h1.1; rwa [Int.add_zero] at this,h0.2⟩,b⟩
theorem one_lt (k:Nat) (h:1≤k):1 < pw k:=by have:=pw_le h; rw [show pw 1=4294967296 by decide] at this; omega
theorem cmpZ_one (z:Int):(cmpZ z 1 == 0)=decide (z=1):=by
  unfold cmpZ
  by_cases h1:z < 1
  · rw [if_pos h1]; simp; omega
  · rw [if_neg h1]
    by_cases h2:1 < z
    · rw [if_pos h2]; simp; omega
    · rw [if_neg h2]; simp; omega
theorem isOne_any (v:Value) (z:Int) (k:Nat) (w:World) (h:IntB 202 w v z k) (hk:k≤1000000) :
    Calls Tryz.prog 109 #[v] w fun e w'=>e=.returned (.bool (decide (z=1)))∧Below w.heap.size w w':=by
  obtain ⟨x,y,rfl,h⟩:=ibc h
  refine go (fun w=>IB w x y z k) [[x,y]] [some 2] (tr:=(.em (.call 106 [.s (.k (.int .i64 1))] [some 2]) (.em (.call 99 [.g [.c 0 0,.c 0 1],.g [.c 1 0,.c 1 1]] [none]) (.em (.pr (.binOp .eql 3 (.tmp 0) (.const (.int .i64 0)) 3) 4 [.s (.c 2 0),.s (.k (.int .i64 0))]) (.ret (.v (.s (.c 3 0)))))))) (by kernel_rfl) (by kernel_rfl) (by kernel_rfl) (mI _ _ _ _) h ⟨(ipl h),trivial⟩ ?_
  refine wInt hU (fun w b h=>iof_any 1 w (by decide) (by decide)) (fun x1 y1=>?_)
  refine wVal (fun w b ⟨h1,h⟩=>icmp_any _ _ z 1 k 2 w h h1 (by omega) (by omega)) rfl ?_
  refine wPr (prEq rfl rfl) rfl ?_
  exact wRet fun w b _=>⟨by rw [← cmpZ_one]; rfl,b⟩
theorem qgcd_any (v u:Value) (x y:Int) (k j:Nat) (w:World) (h:IntB 202 w v x k) (h':IntB 202 w u y j) (hk:k≤1000000) (hj:j≤1000000) :
    Calls Tryz.prog 102 #[v,u] w fun e w'=>∃ v',e=.returned v'∧IntB 202 w' v' (Nat.gcd x.natAbs y.natAbs:Nat) (max k j)∧Below w.heap.size w w':=by
  obtain ⟨a,b,rfl,h⟩:=ibc h
  obtain ⟨c,d,rfl,h'⟩:=ibc h'
  refine go (fun w=>IB w a b x k∧IB w c d y j) [[a,b],[c,d]] [some 2,some 2] (tr:=(.em (.call 141 [.g [.c 0 0,.c 0 1]] [some 1]) (.em (.call 141 [.g [.c 1 0,.c 1 1]] [some 1]) (.em (.call 140 [.g [.c 2 0],.g [.c 3 0]] [some 1]) (.em (.call 139 [.s (.k (.bool false)),.g [.c 4 0]] [some 2]) (.ret (.v (.g [.c 5 0,.c 5 1])))))))) (by kernel_rfl) (by kernel_rfl) (by kernel_rfl) ((mI _ _ _ _).and (mI _ _ _ _)) ⟨h,h'⟩ ⟨(ipl h),(ipl h'),trivial⟩ ?_
  refine wNat hU (fun w b ⟨h,_⟩=>abs_any _ x k w h (by omega)) (fun x1=>?_)
  refine wNat hU (fun w b ⟨_,_,h⟩=>abs_any _ y j w h (by omega)) (fun x2=>?_)
  refine wNat hU (fun w b ⟨h2,h1,_⟩=>gcd_any _ _ x.natAbs y.natAbs (max k j) w (h1.mono (by omega)) (h2.mono (by omega)) (by omega)) (fun x3=>?_)
  refine wInt hU (fun w b ⟨h3,_⟩=>from_any false _ _ (max k j) w h3 (by omega)) (fun x4 y4=>?_)
  exact wRet fun w b ⟨h4,_⟩=>⟨_,rfl,h4,b⟩
theorem part_any (v u:Value) (x g:Int) (k j:Nat) (w:World) (h:IntB 202 w v x k) (h':IntB 202 w u g j) (hk:k≤1000000) (hj:j≤1000000) (hg:0 < g) (hd:g ∣ x) :
    Calls Tryz.prog 103 #[v,u] w fun e w'=>∃ v',e=.returned v'∧IntB 202 w' v' (x / g) k∧Below w.heap.size w w':=by
  obtain ⟨a,b,rfl,h⟩:=ibc h
  obtain ⟨c,d,rfl,h'⟩:=ibc h'
  refine go (fun w=>IB w a b x k∧IB w c d g j) [[a,b],[c,d]] [some 2,some 2] (tr:=(.em (.call 109 [.g [.c 1 0,.c 1 1]] [none]) (.cond (.c 2 0) (.ret (.v (.g [.c 0 0,.c 0 1]))) (.em (.call 142 [.g [.c 0 0,.c 0 1],.g [.c 1 0,.c 1 1]] [some 2,some 2,none]) (.ret (.v (.g [.c 3 0,.c 3 1]))))))) (by kernel_rfl) (by kernel_rfl) (by kernel_rfl) ((mI _ _ _ _).and (mI _ _ _ _)) ⟨h,h'⟩ ⟨(ipl h),(ipl h'),trivial⟩ ?_
  refine wVal (fun w b ⟨_,h⟩=>isOne_any _ g j w h (by omega)) rfl ?_
  refine wIf _ rfl (fun e=>?_) (fun e=>?_)
  · have e1:g=1:=by simpa using e
    exact wRet fun w b ⟨h,_⟩=>⟨_,rfl,by subst e1; rw [Int.ediv_one]; exact h,b⟩
  · refine wCall (fun cs w=>∃ x1 y1 x2 y2,cs=[x1,y1,x2,y2,.bool true]∧IB w x1 y1 (x / g) k) (fun cs u w e ⟨x1,y1,x2,y2,hc,h⟩=>⟨x1,y1,x2,y2,hc,h.ext e hU⟩) (fun w b ⟨h,h'⟩=>(idiv_of _ _ x g k j w h h' (by omega) (by omega) (divTells _ _ k j (by omega) (by omega) (by omega)) (by omega)).mono ?_) (fun cs=>?_)
    · rintro e w' ⟨v1,u1,rfl,h1,h2,hb⟩
      rw [divQ_pos hg] at h1
      obtain ⟨x1,y1,rfl,h1⟩:=ibc h1
      obtain ⟨x2,y2,rfl,h2⟩:=ibc h2
      have p1:=(ipl h1)
      have p2:=(ipl h2)
      refine ⟨[x1,y1,x2,y2,.bool true],rfl,?_,⟨x1,y1,x2,y2,rfl,h1.1,ediv_lt hg h.2 hd⟩,hb⟩
      simp only [List.all_cons,List.all_nil,Bool.and_true,Bool.and_eq_true] at p1 p2 ⊢
      exact ⟨p1.1,p1.2,p2.1,p2.2,rfl⟩
    · refine wRet fun w b ⟨⟨x1,y1,x2,y2,hc,h1⟩,_⟩=>?_
      subst hc
      exact ⟨_,rfl,h1,b⟩
end Go.Proofs.YthffkbbcofbceaaGreatDoor

namespace Go.Proofs.YthffkbbcofbceaaGreatDoor
open Go.RowKit Cin Go.Sort Go.Lib
set_option maxRecDepth 100000 in
set_option maxHeartbeats 4000000 in
theorem formatUintI_big (u:Nat) (w:World) (hu:100≤u) (hu64:u < 18446744073709551616) (hT:TabsP w) :
    Calls Tryz.prog 217 #[.int .u64 u,.int .i64 10] w fun e w'=>e=.returned (.string (decS u))∧Below w.heap.size w w':=by
  have hu1:1≤u:=by omega
  have hnd20:Lib.nDigits u≤20:=by have:=Lib.numDigits_eq u hu1 hu64; split at this <;> omega
  have hal:Tryz.prog.arrayLen 265=24:=by simp [Program.arrayLen,Tryz.underlying265]
  have hsl:∀ W,(Instr.sliceAt 265 (.pointer (some ⟨w.heap.size,0,none⟩)) none (some (.int .i64 (Lib.nDigits u:Int))) none).run Tryz.prog W=.ok (.slice (some ⟨w.heap.size,0,none⟩) (Lib.nDigits u) 24) W:=fun W=>by
    rw [run_sliceAt_array_h W 265 ⟨w.heap.size,0,none⟩ (by simp [Program.arrayLen,Program.elem,Tryz.underlying265]) .i64 (Lib.nDigits u:Int) (by omega) (by rw [hal]; omega)]
    go_simp
  have hH0:=Lib.holds_zero0 w 265 (Lib.nDigits u) (by omega)
  have hfmt:=Tryz.internal_strconv_formatBase10 w.heap.size 0 24 u (Array.replicate (Lib.nDigits u) 0) (w.alloc (.cells Lib.zeros24 265)) hH0 (by rw [Array.size_replicate]; exact Lib.lt_pow_nDigits u) hu64 (by rw [Array.size_replicate]; omega)
  rw [Array.size_replicate] at hfmt
  have HH0:=Lib.hid hH0
  have HP:=Lib.hid hT.p10
  have iu:(100:Int)≤(u:Int):=by omega
  clear hH0 hal hT
  go_enter Tryz.func217,Tryz.ntmps217
  go_wp2_with (go_at_call 224; refine (Tryz.internal_strconv_numDigits u hu1 hu64 _ (Lib.tabIs_alloc HP.out _)).mono ?_; rintro e w' ⟨rfl,rfl⟩)
  refine hfmt.mono ?_
  rintro e w' ⟨rfl,k,v',dk,rfl,hF⟩
  have hcv:(convert 147 9 (.slice (some ⟨w.heap.size,0,none⟩) (Lib.nDigits u) 24)).run Tryz.prog ((putRow (fun (b:UInt8)=>Value.int .u8 (b.toNat:Int)) (w.alloc (.cells Lib.zeros24 265)) w.heap.size 0 dk).drewN k)=.ok (.string (decS u)) ((putRow (fun (b:UInt8)=>Value.int .u8 (b.toNat:Int)) (w.alloc (.cells Lib.zeros24 265)) w.heap.size 0 dk).drewN k):=by
    have h:=run_convert_bytes_back (P:=Tryz.prog) ((putRow (fun (b:UInt8)=>Value.int .u8 (b.toNat:Int)) (w.alloc (.cells Lib.zeros24 265)) w.heap.size 0 dk).drewN k) 147 9 5 ⟨w.heap.size,0,none⟩ 24 (Lib.decDigits u) Tryz.underlying147 Tryz.underlying5 Tryz.underlying9 (fun j hj=>by
      rw [Lib.row_is_numeral hF j hj,Lib.add_plain,World.cell?_drewN]
      exact cell?_putRow (fun (b:UInt8)=>Value.int .u8 (b.toNat:Int)) _ w.heap.size 0 _ dk HH0.out (by rw [hF.size,Array.size_replicate]) j (by rw [hF.size]; rw [Lib.decDigits_length] at hj; exact hj))
    rw [Lib.decDigits_length] at h
    exact h
  obtain ⟨os,eo⟩:=Lib.fin_at w (.cells Lib.zeros24 265) dk k 0
  have HB:=Lib.hid (show Below w.heap.size w ((putRow (fun (b:UInt8)=>Value.int .u8 (b.toNat:Int)) (w.alloc (.cells Lib.zeros24 265)) w.heap.size 0 dk).drewN k) by rw [eo]; exact Lib.below_grow w.heap.size w (Nat.le_refl _) k os)
  clear eo hF hfmt HH0
  go_wp2
  go_ret
  exact ⟨rfl,HB.out⟩
set_option maxHeartbeats 400000 in
theorem formatUint_any (u:Nat) (w:World) (hu64:u < 18446744073709551616) (hT:TabsP w) :
    Calls Tryz.prog 197 #[.int .u64 u,.int .i64 10] w fun e w'=>e=.returned (.string (decS u))∧Below w.heap.size w w':=by
  by_cases h:u < 100
  · exact (formatUint_small u w h).mono fun _ _ ⟨e,hw⟩=>⟨e,by rw [← hw]; exact Below.refl _ _⟩
  · have HT:=Lib.hid hT
    clear hT
    go_enter Tryz.func197,Tryz.ntmps197
    go_wp2_with fail
    refine (formatUintI_big u _ (by omega) hu64 HT.out).mono ?_
    rintro e w' ⟨rfl,hb⟩
    have HB:=Lib.hid hb
    clear hb
    go_wp2
    go_ret
    exact ⟨rfl,HB.out⟩
end Go.Proofs.YthffkbbcofbceaaGreatDoor

namespace Go.Proofs.YthffkbbcofbceaaGreatDoor
open Go.RowKit Cin
theorem info_u8':(Tryz.prog.info? 5).map (fun i=>(i.zero,i.size,i.bytes))=some (some (.int .u8 0),1,1):=by kernel_rfl
def OwnB (w:World) (base:Nat) (v:Value) (l:List UInt8):Prop:=w.ownsRow base 5 1 v l.length (Lib.byteCells l)
theorem strCells_eq (l:List UInt8):Lib.strCells ⟨l.toArray⟩=Lib.byteCells l:=by simp [Lib.strCells,Lib.byteCells]
theorem byteCells_append (l m:List UInt8):Lib.byteCells (l++m)=Lib.byteCells l++Lib.byteCells m:=by simp [Lib.byteCells]
theorem OwnB.appended {w:World} {base:Nat} {v:Value} {l m:List UInt8} {n:Nat} (h:w.ownsRow base 5 1 v (l.length+n) (Lib.byteCells l++Lib.byteCells m)) (hn:n=m.length):OwnB w base v (l++m):=by
  unfold OwnB
  rw [List.length_append,byteCells_append,← hn]
  exact h
theorem ownB_below {w w':World} {base:Nat} {v:Value} {l:List UInt8} (h:OwnB w base v l) (hb:Below w.heap.size w w'):OwnB w' base v l:=by
  refine ⟨h.1,?_⟩
  rcases h.2 with h2 | ⟨g,cap,cur,e,hbg,hg,r⟩
  · exact .inl h2
  · exact .inr ⟨g,cap,cur,e,hbg,by rw [hb.block g (lt_of_heap hg)]; exact hg,r⟩
theorem gval_pos:∀ (gs:List Nat),lim gs (gs.length - 1)≠0→gs.length≠0→gval gs≠0
  | [],_,h=>absurd rfl h
  | [x],h,_=>by show x+1000000000 * 0≠0; have:x≠0:=h; omega
  | x::y::gs,h,_=>by
    have:=gval_pos (y::gs) (by simpa [lim] using h) (by simp)
    show x+1000000000 * gval (y::gs)≠0
    omega
theorem repeat_zero:∀ c:Nat,Lib.repeatL [48] c=List.replicate c 48
  | 0=>rfl
  | c+1=>by rw [Lib.repeatL,repeat_zero c]; rfl
theorem itoa_nat (n:Nat):Lib.itoa (n:Int)=Lib.decDigits n:=by unfold Lib.itoa; rw [if_neg (by omega)]; rfl
set_option maxRecDepth 100000 in
set_option maxHeartbeats 1000000 in
theorem appendGroup_any (v:Value) (l:List UInt8) (r base:Nat) (w:World) (h:OwnB w base v l) (hr:r < 1000000000) (hl:l.length≤1000000000) (hbase:base≤w.heap.size) (hT:TabsP w) :
    Calls Tryz.prog 200 #[v,.int .u32 r] w fun e w'=>∃ v',e=.returned v'∧OwnB w' base v' (l++padk 9 r)∧Below base w w':=by
  obtain ⟨i0,hi0,hz0,hz1,hz2⟩:=info_parts info_u8'
  have hlen:=dec_len 9 r (by decide) hr
  have hpos:1≤(Lib.decDigits r).length:=by rw [Lib.decDigits_length]; exact Lib.nDigits_pos r
  have hIt:=Tryz.strconv_Itoa (r:Int) (by omega) (by omega) w hT.p10
  rw [itoa_nat] at hIt
  have H:=Lib.hid h
  have HPK:=Lib.hid (show padk 9 r=List.replicate (9 - (Lib.decDigits r).length) 48++Lib.decDigits r from rfl)
  clear h hT
  generalize hdd:Lib.decDigits r=dd at *
  clear hdd
  obtain ⟨c,hc⟩:∃ c:Nat,c=9 - dd.length:=⟨_,rfl⟩
  have hci:(9:Int) - (dd.length:Int)=(c:Int):=by omega
  have hc9:c≤9:=by omega
  have HC:=Lib.hid hc
  clear hc
  go_enter Tryz.func200,Tryz.ntmps200
  go_wp2_with fail
  refine hIt.mono ?_
  rintro e w1 ⟨rfl,k,os,ew⟩
  have hb1:Below w.heap.size w w1:=by rw [ew]; exact Lib.below_grow w.heap.size w (Nat.le_refl _) k os
  have HB1:=Lib.hid hb1
  have HO1:=Lib.hid (ownB_below H.out hb1)
  clear ew hb1 hIt H
  go_wp2_with fail
  refine (Tryz.strings_Repeat ⟨#[48]⟩ c _ (by omega) (show 1 * c≤_ by omega)).mono ?_
  rintro e w2 ⟨rfl,hb2⟩
  rw [show Lib.repeatL (⟨#[48]⟩:ByteArray).data.toList c=List.replicate c 48 from repeat_zero c]
  have HB2:=Lib.hid (bel_on HB1.out hb2)
  have HO2:=Lib.hid (ownB_below HO1.out hb2)
  have hbase2:base≤w2.heap.size:=by have:=HB1.out.size; have:=hb2.size; omega
  clear hb2 HO1 HB1
  generalize hpp:List.replicate c (48:UInt8)=pp at *
  have hpl:pp.length≤9:=by rw [← hpp]; simp; exact hc9
  have HPP:=Lib.hid hpp
  clear hpp
  go_wp2_with (at_builtin; go_must (refine Lib.wpList_append_own_string w2 rfl _ _ 147 9 rfl base 5 i0 Tryz.underlying147 Tryz.underlying9 hi0 hz0 hz1 hz2 _ l.length (Lib.byteCells l) (by rfl) (by exact HO2.out) ⟨pp.toArray⟩ (by rfl) (by show l.length+pp.length≤maxLen; unfold maxLen; omega) (by show l.length+pp.length≤_; omega) hbase2 ?_))
  intro v3 w3 h1 h2 _
  have hO3:OwnB w3 base v3 (l++pp):=OwnB.appended (m:=pp) (by rw [← strCells_eq pp]; exact h1) rfl
  have HO3:=Lib.hid hO3
  have HB3:=Lib.hid ((HB2.out.mono (B':=base) hbase).trans ((Below.refl _ w2).grown h2 hbase2 (fun g hg=>(World.ownsRow.lt HO2.out g hg).1)))
  have hbase3:base≤w3.heap.size:=by have:=HB3.out.size; omega
  clear h1 h2 hO3
  go_wp2_with (at_builtin; go_must (refine Lib.wpList_append_own_string w3 rfl _ _ 147 9 rfl base 5 i0 Tryz.underlying147 Tryz.underlying9 hi0 hz0 hz1 hz2 _ (l++pp).length (Lib.byteCells (l++pp)) (by rfl) (by exact HO3.out) ⟨dd.toArray⟩ (by rfl) (by show (l++pp).length+dd.length≤maxLen; unfold maxLen; rw [List.length_append]; omega) (by show (l++pp).length+dd.length≤_; rw [List.length_append]; omega) hbase3 ?_))
  intro v4 w4 h1 h2 _
  have hO4:OwnB w4 base v4 ((l++pp)++dd):=OwnB.appended (m:=dd) (by rw [← strCells_eq dd,List.length_append]; exact h1) rfl
  have HO4:=Lib.hid hO4
  have HB4:=Lib.hid (HB3.out.trans ((Below.refl _ w3).grown h2 hbase3 (fun g hg=>(World.ownsRow.lt HO3.out g hg).1)))
  clear h1 h2 hO4
  go_wp2
  go_ret
  refine ⟨_,rfl,?_,HB4.out⟩
  rw [HPK.out,← HC.out,HPP.out,← List.append_assoc]
  exact HO4.out
set_option maxHeartbeats 400000 in
theorem appendUint_any (v:Value) (l:List UInt8) (u base:Nat) (w:World) (h:OwnB w base v l) (hu:u < 18446744073709551616) (hl:l.length≤1000000000) (hbase:base≤w.heap.size) (hT:TabsP w) :
    Calls Tryz.prog 199 #[v,.int .u64 u,.int .i64 10] w fun e w'=>∃ v',e=.returned v'∧OwnB w' base v' (l++Lib.decDigits u)∧Below base w w':=by
  have hI:Calls Tryz.prog 218 #[v,.int .u64 u,.int .i64 10] w fun e w'=>∃ v',e=.returned v'∧OwnB w' base v' (l++Lib.decDigits u)∧Below base w w':=by
    by_cases h1:u < 100
    · exact (Tryz.internal_strconv_AppendUint_10_small base l.length u h1 v _ w h hbase (by omega)).mono fun _ _ ⟨v',e,ho,hb,_⟩=>⟨v',e,OwnB.appended ho rfl,hb⟩
    · exact (Tryz.internal_strconv_AppendUint_10_big base l.length u (by omega) hu v _ w h hbase (by omega) hT.p10).mono fun _ _ ⟨v',e,ho,hb,_⟩=>⟨v',e,OwnB.appended ho rfl,hb⟩
  have HI:=Lib.hid hI
  clear hI h hT
  go_enter Tryz.func199,Tryz.ntmps199
  go_wp2_with fail
  refine HI.out.mono ?_
  rintro e w' ⟨v',rfl,ho,hb⟩
  have HO:=Lib.hid ho
  have HB:=Lib.hid hb
  clear ho hb
  go_wp2
  go_ret
  exact ⟨_,rfl,HO.out,HB.out⟩
theorem groups_text {n:Nat} {gs:List Nat} (h:Groups n gs) (k:Nat) (hk:k+1 < gs.length):Lib.decDigits (gval (gs.drop (k+1)))++padk 9 (lim gs k)=Lib.decDigits (gval (gs.drop k)):=by
  have e:gval (gs.drop k)=gval (gs.drop (k+1)) * 10 ^ 9+lim gs k:=by
    rw [drop_lim (show k < gs.length by omega),gval]; omega
  have hne:gval (gs.drop (k+1))≠0:=gval_pos (gs.drop (k+1)) (by
    rw [List.length_drop,lim_drop]
    have:=h.2.2
    rcases this with h0 | h0
    · rw [h0] at hk; simp at hk
    · rw [show k+1+(gs.length - (k+1) - 1)=gs.length - 1 by omega]; exact h0) (by rw [List.length_drop]; omega)
  rw [e,dec_group hne 9 (lim gs k) (by decide) (by
    have:=h.2.1 (lim gs k) (by rw [lim_eq (show k < gs.length by omega)]; exact List.getElem_mem _)
    simpa using this)]
end Go.Proofs.YthffkbbcofbceaaGreatDoor

namespace Go.Proofs.YthffkbbcofbceaaGreatDoor
open Go.RowKit Cin
theorem gval_drop (gs:List Nat):∀ j,gval (gs.drop j)≤gval gs:=by
  induction gs with
  | nil=>intro j; simp
  | cons x xs ih=>
    intro j
    cases j with
    | zero=>exact Nat.le_refl _
    | succ j=>
      have:=ih j
      show gval (xs.drop j)≤x+1000000000 * gval xs
      omega
theorem ownB_text {w:World} {base:Nat} {v:Value} {l:List UInt8} (h:OwnB w base v l) (hl:l≠[]):∃ g cap,v=.slice (some ⟨g,0,none⟩) l.length cap ∧
    (convert 147 9 (.slice (some ⟨g,0,none⟩) l.length cap)).run Tryz.prog w=.ok (.string ⟨l.toArray⟩) w:=by
  rcases h.2 with ⟨_,hn⟩ | ⟨g,cap,cur,e,hbg,hg,hn,hm,hs,ht⟩
  · exact absurd (List.length_eq_zero_iff.1 hn) hl
  · refine ⟨g,cap,e,?_⟩
    refine run_convert_bytes_back (P:=Tryz.prog) w 147 9 5 ⟨g,0,none⟩ cap l Tryz.underlying147 Tryz.underlying5 Tryz.underlying9 (fun j hj=>?_)
    rw [Lib.add_plain,Nat.zero_add,cell_of hg]
    have h1:(Lib.byteCells l)[j]?=some (Value.int .u8 (l[j].toNat:Int)):=by simp [Lib.byteCells,hj]
    rw [← ht,Nat.mul_one,List.getElem?_take,if_pos hj,Array.getElem?_toList] at h1
    exact h1
theorem run_make_bytes (i0:TypeInfo) (hi0:Tryz.prog.info? 5=some i0) (hz0:i0.zero=some (.int .u8 0)) (hz1:i0.size=1) (hz2:i0.bytes=1) (M:Nat) (hM:M≤1000000000) (W:World) :
    Sem.run Tryz.prog (Instr.makeSlice 147 (.int .i64 0) (.int .i64 M)) W=.ok (.slice (some ⟨W.heap.size,0,none⟩) 0 M) (W.alloc (.cells (ints .u8 (List.replicate M 0)) 5)):=by
  have h:=run_make (P:=Tryz.prog) W 147 5 i0 _ Tryz.underlying147 hi0 hz0 .i64 .i64 0 M (by omega) (by omega) (by rw [hz2]; omega) (by omega)
  rw [hz1,Nat.mul_one,Int.toNat_natCast,madeCells_int] at h
  exact h
theorem ownB_made (W:World) (M:Nat) (hM:M≤1000000000):OwnB (W.alloc (.cells (ints .u8 (List.replicate M 0)) 5)) W.heap.size (.slice (some ⟨W.heap.size,0,none⟩) 0 M) []:=
  World.ownsRow_made W _ M (Nat.le_refl _) (by unfold maxLen; omega) (by simp [ints])
set_option maxRecDepth 100000 in
set_option maxHeartbeats 2000000 in
theorem text_any (v:Value) (n k:Nat) (w:World) (h:NatB 202 w v n k) (hk:k≤1000000) (hT:TabsP w) :
    Calls Tryz.prog 167 #[v] w fun e w'=>e=.returned (.string (decS n))∧Below w.heap.size w w':=by
  obtain ⟨ad,len,cap,rfl,xs,hs,ho,hnm,hval⟩:=h.shape
  have hlx:=hs.len
  have HT:=Lib.hid hT
  have H:=Lib.hid h
  by_cases hl:len≤2
  · have hn64:n < 18446744073709551616:=by
      have h1:=val_lt ho
      have h2:=pw_le (show xs.length≤2 by omega)
      rw [hval] at h1
      exact Nat.lt_of_lt_of_le h1 h2
    clear h hs hnm hval ho hlx hT
    go_enter Tryz.func167,Tryz.ntmps167
    go_wp2_with fail
    refine (low_any _ n _ (H.out.1.below (bel_alloc _ _))).mono ?_
    rintro e w1 ⟨rfl,hb⟩
    rw [Nat.mod_eq_of_lt hn64]
    have HB:=Lib.hid (bel_on (bel_alloc _ _) hb)
    clear hb
    go_wp2_with fail
    refine (formatUint_any n _ hn64 (HT.out.below HB.out)).mono ?_
    rintro e w2 ⟨rfl,hb2⟩
    have HB2:=Lib.hid (bel_on HB.out hb2)
    clear hb2
    go_wp2
    go_ret
    exact ⟨rfl,HB2.out⟩
  · have hn0:n≠0:=fun e=>by
      rw [norm_val_zero hnm (hval.trans e)] at hlx
      simp at hlx
      omega
    clear h hs hnm hval ho hlx hT
    obtain ⟨i0,hi0,hz0,hz1,hz2⟩:=info_parts info_u8'
    go_enter Tryz.func167,Tryz.ntmps167
    go_wp2_with fail
    refine (groupsOf_any _ n k _ (H.out.1.below (bel_alloc _ _)) H.out.2 (by omega) hn0).mono ?_
    rintro e w1 ⟨v1,gs,rfl,hsl,hgr,hgl,hb⟩
    have hg0:gs.length≠0:=fun e=>hn0 (by rw [← hgr.1,List.length_eq_zero_iff.1 e]; rfl)
    obtain ⟨adg,capg,rfl,hcg,_⟩:=hsl.shape
    obtain ⟨bg,og,rfl,hcl,hbl⟩:=hsl.cell (i:=gs.length - 1) (by omega)
    have HSL:=Lib.hid hsl
    have HGR:=Lib.hid hgr
    have HB1:=Lib.hid (bel_on (bel_alloc _ _) hb)
    clear hsl hgr hb
    obtain ⟨m,hm⟩:∃ m:Nat,gs.length=m+1:=⟨gs.length - 1,by omega⟩
    rw [hm,Nat.add_sub_cancel] at hcl
    rw [hm]
    have HM:=Lib.hid hm
    have hmk:m+1≤2 * k:=by omega
    have hlm:lim gs m < 1000000000:=HGR.out.2.1 _ (by rw [lim_eq (by have:=HM.out; omega)]; exact List.getElem_mem _)
    clear hm hg0 hgl
    have e1:((m+1:Nat):Int) - 1=(m:Int):=by omega
    have e2:(m:Int) < (m:Int)+1:=by omega
    obtain ⟨M,e3,hM⟩:∃ M:Nat,IntKind.i64.wrap (9 * ((m:Int)+1))=(M:Int)∧M≤20000000:=⟨9 * (m+1),by rw [IntWalk.i64_in _ (by omega)]; omega,by omega⟩
    have e4:IntKind.u64.wrap ((lim gs m:Nat):Int)=((lim gs m:Nat):Int):=by rw [IntKind.wrap_u64]; omega
    have hmk2:=run_make_bytes i0 hi0 hz0 hz1 hz2 M (by omega)
    have HMADE:=Lib.hid (fun W=>ownB_made W M (by omega))
    have hszw:w.heap.size≤w1.heap.size:=HB1.out.size
    go_wp2_with fail
    refine wp_region_sched (fun w'=>w'.cell? ⟨bg,og+m,none⟩=some (.int .u32 (lim gs m:Nat))∧Below w.heap.size w w') [(0,true),(1,true),(2,true),(4,true),(5,true),(6,true),(7,true),(8,true),(3,false),(9,false),(10,true)] (by kernel_rfl) (by kernel_rfl) ?_ (fun hHeld=>?_)
    · (try dsimp only)
      exact ⟨hcl,HB1.out.drew⟩
    try dsimp only at hHeld
    repeat (refine wpSched_at (by simp only [List.getElem?_toArray,List.getElem?_cons_zero,List.getElem?_cons_succ]; rfl) ?_; (first | (apply wpAt_take rfl; (intro wx hSx; (try dsimp only at hSx); go_simp; (try with_reducible rfl)); simp only [Act.put,List.setIfInBounds_toArray,List.set_cons_zero,List.set_cons_succ]) | (refine wpAt_skip rfl ?_; simp only [Act.put,List.setIfInBounds_toArray,List.set_cons_zero,List.set_cons_succ]) | (refine wpAt_pass rfl hHeld ?_; simp only [Act.put,List.setIfInBounds_toArray,List.set_cons_zero,List.set_cons_succ]) | (refine wpAt_eff rfl (fun K hK=>?_); (skip); go_simp; (first | (go_at_call 199; (refine (appendUint_any _ [] (lim gs m) w1.heap.size _ (HMADE.out w1.drew) (by omega) (by simp) (by simp) (HT.out.below hHeld.2)).mono ?_); rintro e w' ⟨vA,rfl,hn,hb⟩; have NA:=Lib.hid hn; have hS:=And.intro trivial (And.intro ((hb.cell (p:=⟨bg,og+m,none⟩) hbl).trans hHeld.1) (hHeld.2.trans (hb.mono (B':=w.heap.size) hszw))); have HKB:=Lib.hid hb; clear hb hn hHeld) | skip); (refine hK.out _ _ ?_ (fun hHeld=>?_)); ((try dsimp only); first | exact hS.2 | exact ⟨cell_below hHeld.1 (bel_alloc _ _),bel_on hHeld.2 (bel_alloc _ _)⟩ | exact ⟨cell_below (cell_below hHeld.1 (bel_alloc _ _)) (Below.refl _ _).drew,bel_on (bel_on hHeld.2 (bel_alloc _ _)) (Below.refl _ _).drew⟩); clear hK K; (try clear hS); (try clear hfx0 hx0 x0); (try clear hfy0 hy0 y0); (try clear hfx1 hx1 x1); (try clear hfy1 hy1 y1); (try dsimp only at hHeld))))
    refine wpSched_nil ?_
    have hb2:Below w1.heap.size w1 w':=((Below.refl _ w1).drew.alloc (Nat.le_refl _) _).trans HKB.out
    have hO2:OwnB w' w1.heap.size vA (Lib.decDigits (gval (gs.drop m))):=by
      have h1:=NA.out
      rw [List.nil_append] at h1
      rw [drop_lim (by have:=HM.out; omega),List.drop_of_length_le (by have:=HM.out; omega)]
      show OwnB w' w1.heap.size vA (Lib.decDigits (lim gs m+1000000000 * 0))
      rw [Nat.mul_zero,Nat.add_zero]
      exact h1
    have HB2:=Lib.hid hb2
    have HO2:=Lib.hid hO2
    clear hHeld hb2 hO2 NA HKB hmk2 HMADE e2 e3 e4 hcl
    go_wp2_with fail
    go_loopw [5,6] (fun o i wr=>∃ (j:Nat) (ov:Value),ov=o∧j≤m∧i=.int .i64 ((j:Int) - 1)∧OwnB wr w1.heap.size ov (Lib.decDigits (gval (gs.drop j)))∧Below w1.heap.size w1 wr) (fun _ i _=>(intOf i+1).toNat)
    case atStart=>exact ⟨m,_,rfl,Nat.le_refl _,rfl,HO2.out,HB2.out⟩
    case round=>
      obtain ⟨j,ov,rfl,hj,rfl,hown,hbel⟩:=hrel
      by_cases hj0:j=0
      · subst hj0
        rw [List.drop_zero,HGR.out.1] at hown
        have hne:Lib.decDigits n≠[]:=fun e=>by have:=Lib.nDigits_pos n; rw [← Lib.decDigits_length,e] at this; simp at this
        obtain ⟨g,cap9,rfl,hcv⟩:=ownB_text hown hne
        have HE:=Lib.hid (HB1.out.trans (hbel.mono (B':=w.heap.size) hszw))
        clear hown hbel hne
        go_wp2_with fail
        go_ret
        exact ⟨rfl,HE.out⟩
      · obtain ⟨i,rfl⟩:∃ i,j=i+1:=⟨j - 1,by omega⟩
        obtain ⟨b',o',e',hc',hb'⟩:=(HSL.out.of_block (w':=wr) (fun b off n c e=>hbel.block b (HSL.out.lt e))).cell (i:=i) (by have:=HM.out; omega)
        cases e'
        have hgt:=groups_text HGR.out i (by have:=HM.out; omega)
        have hlr:lim gs i < 1000000000:=HGR.out.2.1 _ (by rw [lim_eq (by have:=HM.out; omega)]; exact List.getElem_mem _)
        have hlen:(Lib.decDigits (gval (gs.drop (i+1)))).length≤1000000000:=by
          have h1:=gval_drop gs (i+1)
          rw [HGR.out.1] at h1
          have h2:=dec_len_pw (Nat.lt_of_le_of_lt h1 H.out.2)
          omega
        have HO3:=Lib.hid hown
        have HB3:=Lib.hid hbel
        have HGT:=Lib.hid hgt
        have HLEN:=Lib.hid hlen
        have ei:((i+1:Nat):Int) - 1=(i:Int):=by omega
        have ei2:(i:Int) < (m:Int)+1:=by omega
        have hsz3:w1.heap.size≤wr.heap.size:=hbel.size
        clear hown hbel hgt hlen
        go_wp2_with fail
        refine (appendGroup_any _ _ (lim gs i) w1.heap.size _ HO3.out hlr HLEN.out hsz3 (HT.out.below (HB1.out.trans (HB3.out.mono (B':=w.heap.size) hszw)))).mono ?_
        rintro e w5 ⟨v5,rfl,ho5,hb5⟩
        rw [HGT.out] at ho5
        have HO5:=Lib.hid ho5
        have HB5:=Lib.hid (HB3.out.trans hb5)
        clear ho5 hb5
        go_wp2_with fail
        exact ⟨⟨i,_,rfl,by omega,by go_num,HO5.out,HB5.out⟩,by simp [intOf]⟩
end Go.Proofs.YthffkbbcofbceaaGreatDoor

namespace Go.Proofs.YthffkbbcofbceaaGreatDoor
open Go.RowKit Cin
set_option maxHeartbeats 400000 in
theorem rtrim_at (ad:Option Addr) (len cap:Nat) (xs:List Nat) (w:World) (h:Sl 202 .u32 w (.slice ad len cap) xs) (hl:len=xs.length) (hb:len≤1000000000000) (hc:len≤cap) :
    Calls Tryz.prog 151 #[.slice ad len cap] w fun e w'=>e=.returned (.slice ad (trimN xs len) cap)∧w=w':=by
  have HL:=Lib.hid hl
  clear hl
  have H:=Lib.hid h
  clear h
  go_enter Tryz.func151,Tryz.ntmps151
  go_wp2_with fail
  go_loop [3] (fun i=>∃ k:Nat,k≤len∧i=.int .i64 k∧trimN xs len=trimN xs k) (fun i=>(intOf i).toNat)
  case atStart=>exact ⟨len,Nat.le_refl _,rfl,rfl⟩
  case round=>
    obtain ⟨k,hk,rfl,ht⟩:=hrel
    have HT:=Lib.hid ht
    clear ht
    rcases Nat.eq_zero_or_pos k with h0 | h0
    · subst h0
      go_wp2
      go_ret
      exact ⟨ret_slice (by rw [HT.out]; rfl),rfl⟩
    · obtain ⟨j,rfl⟩:∃ j,k=j+1:=⟨k - 1,by omega⟩
      obtain ⟨b,off,rfl,hcell,hblt⟩:=H.out.cell (i:=j) (by have:=HL.out; omega)
      by_cases hz:lim xs j=0
      · have hzb:(((lim xs j:Nat):Int) == 0)=true:=by simp [hz]
        have HZ:=Lib.hid hz
        clear hz
        go_wp2
        exact ⟨⟨j,by omega,rfl,by rw [HT.out,trimN,if_pos HZ.out]⟩,by simp [intOf]⟩
      · have hzb:(((lim xs j:Nat):Int) == 0)=false:=by simp; omega
        have HZ:=Lib.hid hz
        clear hz
        go_wp2
        go_ret
        exact ⟨ret_slice (by rw [HT.out,trimN,if_neg HZ.out]),rfl⟩
theorem rtrim_any (v:Value) (xs:List Nat) (w:World) (h:Sl 202 .u32 w v xs) (ho:Ok xs) (hb:xs.length≤1000000000000) :
    Calls Tryz.prog 151 #[v] w fun e w'=>∃ v',e=.returned v'∧RefV 202 w v' (val xs)∧w=w':=by
  obtain ⟨ad,cap,rfl,hc,_⟩:=h.shape
  have hn:=trimN_norm xs xs.length (Nat.le_refl _)
  have hv:=trimN_val xs xs.length (Nat.le_refl _)
  rw [List.take_length] at hv
  exact (rtrim_at ad xs.length cap xs w h rfl hb hc).mono fun e w' ⟨he,hw⟩=>⟨_,he,⟨_,h.take (trimN_le _ _),ho.take _,hn,hv⟩,hw⟩
end Go.Proofs.YthffkbbcofbceaaGreatDoor

namespace Cin
open Go Go.RowKit
end Cin
namespace Go.Proofs.YthffkbbcofbceaaGreatDoor
open Go.RowKit Cin
def Digs10 (n m:Nat) (ds:List Nat):Prop:=dd n=dd m++ds.reverse.map UInt8.ofNat∧∀ x∈ds,x < 256
theorem Digs10.step {n m q r:Nat} {ds:List Nat} (h:Digs10 n m ds) (hm:m≠0) (hq:q=m / 10) (hr:r=48+m % 10):Digs10 n q (ds++[r]):=by
  refine ⟨?_,fun x hx=>?_⟩
  · rw [h.1,dd_step hm,List.reverse_append,List.map_append,← List.append_assoc,hq,hr]; rfl
  · rcases List.mem_append.1 hx with hx | hx
    · exact h.2 x hx
    · rw [List.mem_singleton.1 hx]; omega
end Go.Proofs.YthffkbbcofbceaaGreatDoor

namespace Go.Proofs.YthffkbbcofbceaaGreatDoor
open Go.RowKit Cin
def RefPost (s:ByteArray) (w:World) (e:Ending) (w':World):Prop:=
  (IsNum (byts s)∧∃ v,e=.returned (.tuple #[v,.bool true])∧RefV 202 w' v (decL (byts s))∧Below w.heap.size w w') ∨
  (¬ IsNum (byts s)∧e=.returned (.tuple #[.slice none 0 0,.bool false])∧Below w.heap.size w w')
set_option maxRecDepth 100000 in
set_option maxHeartbeats 2000000 in
theorem refParse_in (s:ByteArray) (w:World) (h1:1≤s.size) (h2:s.size≤4000) (h3:s.size=1∨lim (byts s) 0≠48) :
    Calls Tryz.prog 115 #[.string s] w (RefPost s w):=by
  obtain ⟨i0,hi0,hz0,hz1,hz2⟩:=info_parts info_u32
  have hd:((s.size:Int) == 0)=false:=beq_eq_false_iff_ne.2 (by omega)
  have hd2:decide ((4000:Int) < (s.size:Int))=false:=by rw [decide_eq_false_iff_not]; omega
  have h0:0 < s.size:=by omega
  have hb0:=byts_at s h0
  have H3:=Lib.hid h3
  have hcase:((((s[0].toNat:Nat):Int) == 48)=false)∨((((s[0].toNat:Nat):Int) == 48)=true∧decide ((1:Int) < (s.size:Int))=false):=by
    rw [hb0]
    by_cases hc:lim (byts s) 0=48
    · right
      exact ⟨by rw [hc]; rfl,by rw [decide_eq_false_iff_not]; omega⟩
    · left
      simp; omega
  clear hb0 h3
  rcases hcase with hd3 | ⟨hd3,hd4⟩
  all_goals
    go_enter Tryz.func115,Tryz.ntmps115
    go_wp2_with fail
    go_loopw [4,5,6,7] (fun ox ix _ _ wr=>∃ (k:Nat) (v:Value) (xs:List Nat),k≤s.size∧ix=.int .i64 k∧ox=v∧Own 202 .u32 wr w.heap.size v xs∧Ok xs∧Norm xs∧val xs=decL ((byts s).take k)∧xs.length≤k ∧
        (∀ j,j < k→48≤lim (byts s) j∧lim (byts s) j≤57)∧Below w.heap.size w wr) (fun _ ix _ _ _=>s.size - (intOf ix).toNat)
    case atStart=>exact ⟨0,_,[],Nat.zero_le _,rfl,rfl,Own.nil _ _ _ _,Ok.nil,.inl rfl,rfl,Nat.zero_le _,fun j hj=>absurd hj (Nat.not_lt_zero _),Below.refl _ _⟩
    case round=>
      obtain ⟨k,v,xs,hk,rfl,rfl,hown,hok,hnm,hv,hxl,hj,hbel⟩:=hrel
      have HJ:=Lib.hid hj
      have HB:=Lib.hid hbel
      have HO:=Lib.hid hown
      have HV:=Lib.hid hv
      have HN:=Lib.hid hnm
      obtain ⟨ad,cap,rfl,hcap,had⟩:=hown.sl.shape
      clear hj hbel hown hv hnm had
      by_cases hlt:k < s.size
      · have hb:=byts_at s hlt
        have hcb:((s[k].toNat:Nat):Int)=(lim (byts s) k:Nat):=by rw [hb]
        clear hb
        have hst:=decL_take_succ (l:=byts s) (i:=k) (by rw [byts_length]; exact hlt)
        generalize hcc:lim (byts s) k=c at *
        have HCC:=Lib.hid hcc
        have HST:=Lib.hid hst
        clear hcc hst
        by_cases hlo:c < 48
        · have hdl:decide ((c:Int) < 48)=true:=by rw [decide_eq_true_iff]; omega
          go_wp2_with fail
          go_ret2
          refine .inr ⟨fun h=>?_,rfl,HB.out⟩
          have:=h.2.2.2.lim (i:=k) (by rw [byts_length]; exact hlt)
          rw [HCC.out] at this; omega
        · have hdl:decide ((c:Int) < 48)=false:=by rw [decide_eq_false_iff_not]; omega
          by_cases hhi:57 < c
          · have hdh:decide ((57:Int) < (c:Int))=true:=by rw [decide_eq_true_iff]; omega
            go_wp2_with fail
            go_ret2
            refine .inr ⟨fun h=>?_,rfl,HB.out⟩
            have:=h.2.2.2.lim (i:=k) (by rw [byts_length]; exact hlt)
            rw [HCC.out] at this; omega
          · have hdh:decide ((57:Int) < (c:Int))=false:=by rw [decide_eq_false_iff_not]; omega
            obtain ⟨d,hdd,ed⟩:∃ d:Nat,(c:Int) - 48=(d:Int)∧d=c - 48:=⟨_,by omega,rfl⟩
            have hd9:d≤9:=by omega
            have ED:=Lib.hid ed
            clear ed
            generalize hxn:xs.length=n at *
            have HXN:=Lib.hid hxn
            clear hxn
            go_wp2_with fail
            go_loopw [6,7] (fun cx jx wq=>∃ (j q:Nat) (zs:List Nat),j≤n∧jx=.int .i64 j∧cx=.int .u64 q∧q < 4294967296∧zs.length=xs.length∧Ok zs∧val (zs.take j)+pw j * q=val (xs.take j) * 10+d ∧
                (∀ i,j≤i→lim zs i=lim xs i)∧Own 202 .u32 wq w.heap.size (.slice ad n cap) zs∧Below w.heap.size w wq) (fun _ jx _=>n - (intOf jx).toNat)
            case atStart=>exact ⟨0,d,xs,Nat.zero_le _,rfl,rfl,by omega,rfl,hok,by rw [List.take_zero,val_nil,pw_zero]; omega,fun _ _=>rfl,HO.out,HB.out⟩
            case round=>
              obtain ⟨j,q,zs,hjn,rfl,rfl,hq,hzl,hzok,hzv,hun,hown,hbel⟩:=hrel
              have hzn:n=zs.length:=by have:=HXN.out; omega
              by_cases hjlt:j < n
              · obtain ⟨g,rfl,hbg,hgw⟩:∃ g,ad=some ⟨g,0,none⟩∧w.heap.size≤g∧g < wr.heap.size:=by
                  rcases hown.shape with ⟨_,e⟩ | ⟨g,cap',e,h1,h2,_⟩
                  · subst e; simp at hzn; omega
                  · cases e; exact ⟨g,rfl,h1,h2⟩
                have hcell:=hown.cell hzn (i:=j) hjlt
                have hf:=hown.free hzn j
                rw [hun j (Nat.le_refl _)] at hcell
                have hlim:lim xs j < 4294967296:=lim_lt hok _
                obtain ⟨t,ht,et⟩:∃ t:Nat,(q:Int)+((lim xs j:Nat):Int) * 10=(t:Int)∧t=q+lim xs j * 10:=⟨_,by omega,rfl⟩
                have htb:t < 47244640257:=by omega
                obtain ⟨td,htd,etd⟩:∃ td:Nat,((t:Int) / 4294967296)=(td:Int)∧td=t / 4294967296:=⟨t / 4294967296,by omega,rfl⟩
                obtain ⟨tm,htm,etm⟩:∃ tm:Nat,((t:Int) % 4294967296)=(tm:Int)∧tm=t % 4294967296:=⟨t % 4294967296,by omega,rfl⟩
                have htmb:tm < 4294967296:=by omega
                have hand:bits BinOp.and IntKind.u64 (t:Int) 4294967295=(tm:Int):=by rw [and_mask32 (by omega),etm]
                have R:=step_times hzl hzok hzv hun (by have:=HXN.out; omega) et etd etm hq hlim (by decide)
                have HR:=Lib.hid R
                have HO2:=Lib.hid (hown.set hzn j tm)
                have HB2:=Lib.hid (hbel.setCell (p:=⟨g,j,none⟩) hbg (.int .u32 (tm:Nat)))
                clear R et etd etm hown hbel hzv hun hzl hzn
                go_wp2_with fail
                obtain ⟨r1,r2,r3,r4,r5⟩:=HR.out
                exact ⟨⟨j+1,td,zs.set j tm,by omega,by go_num,rfl,r1,r2,r3,r4,r5,HO2.out,HB2.out⟩,by simp [intOf]; omega⟩
              · obtain rfl:j=n:=by omega
                have hval:=hzv
                rw [List.take_of_length_le (by omega),List.take_of_length_le (by have:=HXN.out; omega),HV.out,ED.out] at hval
                rw [← HST.out] at hval
                have HVAL:=Lib.hid hval
                have HO2:=Lib.hid hown
                have HB2:=Lib.hid hbel
                have HZL:=Lib.hid hzn
                have hbw:w.heap.size≤wr.heap.size:=by have:=hbel.size; omega
                have hge:val xs≤decL ((byts s).take (k+1)):=by rw [HST.out,← HV.out]; omega
                have HGE:=Lib.hid hge
                have hjs:∀ i,i < k+1→48≤lim (byts s) i∧lim (byts s) i≤57:=fun i hi=>by
                  rcases Nat.lt_or_eq_of_le (Nat.le_of_lt_succ hi) with h5 | rfl
                  · exact HJ.out i h5
                  · rw [HCC.out]; omega
                have HJS:=Lib.hid hjs
                clear hown hbel hzv hun hzl hzn hval hge hjs
                by_cases hq0:q=0
                · subst hq0
                  go_wp2_with fail
                  refine ⟨⟨k+1,_,zs,by omega,by go_num,rfl,HO2.out,hzok,?_,by have:=HVAL.out; omega,by have:=HZL.out; omega,HJS.out,HB2.out⟩,by simp [intOf]; omega⟩
                  refine norm_of_ge hzok ?_
                  rcases Nat.eq_zero_or_pos j with e | e
                  · left; exact List.length_eq_zero_iff.1 (by have:=HZL.out; omega)
                  · right
                    have h6:=val_ge HN.out (by intro e2; have:=HXN.out; rw [e2] at this; simp at this; omega)
                    have:=HVAL.out; have:=HGE.out
                    rw [← HZL.out,← HXN.out]; omega
                · have hqb:decide ((0:Int) < (q:Int))=true:=by rw [decide_eq_true_iff]; omega
                  go_wp2_with (at_builtin; refine wpList_append_one wr rfl _ _ 57 rfl w.heap.size 202 i0 .u32 4 Tryz.underlying57 hi0 hz0 hz1 hz2 _ zs (by rfl) (by exact HO2.out) q (by rfl) (by have:=HZL.out; omega) (by have:=HZL.out; omega) hbw ?_)
                  intro v' w' h1 h2
                  have H1:=Lib.hid h1
                  have H2:=Lib.hid h2
                  clear h1 h2
                  go_wp2_with fail
                  refine ⟨⟨k+1,v',zs++[q],by omega,by go_num,rfl,H1.out,hzok.append (Ok.cons hq Ok.nil),?_,by rw [val_snoc,← HZL.out]; exact HVAL.out,by rw [List.length_append,← HZL.out]; simp; omega,HJS.out,HB2.out.trans H2.out⟩,by simp [intOf]; omega⟩
                  right
                  rw [List.length_append,List.length_singleton,Nat.add_sub_cancel,lim_append_right (Nat.le_refl _),Nat.sub_self]
                  exact hq0
      · go_wp2_with fail
        go_ret2
        refine .inl ⟨⟨by rw [byts_length]; omega,by rw [byts_length]; omega,?_,?_⟩,_,rfl,⟨xs,HO.out.sl,hok,HN.out,by rw [HV.out,List.take_of_length_le (by rw [byts_length]; omega)]⟩,HB.out⟩
        · have:=H3.out; rw [byts_length]; omega
        · intro c hc
          obtain ⟨j,hj,rfl⟩:=List.mem_iff_getElem.1 hc
          rw [← lim_eq hj]
          rw [byts_length] at hj
          exact HJ.out j (by omega)
end Go.Proofs.YthffkbbcofbceaaGreatDoor

namespace Go.Proofs.YthffkbbcofbceaaGreatDoor
open Go.RowKit Cin
set_option maxRecDepth 100000 in
set_option maxHeartbeats 1000000 in
theorem refAdd_any (v u:Value) (x y:Nat) (L:Nat) (w:World) (h:RefV 202 w v x) (h':RefV 202 w u y) (hx:x < pw L) (hy:y < pw L) (hL:L≤100000000) :
    Calls Tryz.prog 168 #[v,u] w fun e w'=>∃ v',e=.returned v'∧RefV 202 w' v' (x+y)∧Below w.heap.size w w':=by
  obtain ⟨ad,len,cap,xs,rfl,hs,ho,hnm,rfl,hlx,hcx⟩:=h.shape
  obtain ⟨ad',len',cap',ys,rfl,hs',ho',hnm',rfl,hly,hcy⟩:=h'.shape
  obtain ⟨i0,hi0,hz0,hz1,hz2⟩:=info_parts info_u32
  have hl:len≤100000000:=by have:=norm_len hnm hx; omega
  have hl':len'≤100000000:=by have:=norm_len hnm' hy; omega
  obtain ⟨n1,hn1,en1⟩:∃ n1:Nat,(max (len:Int) (len':Int))+1=(n1:Int)∧n1=max len len'+1:=⟨max len len'+1,by omega,rfl⟩
  have EN:=Lib.hid (show len+1≤n1∧len'+1≤n1 by omega)
  have hnb:n1≤100000001:=by omega
  have H:=Lib.hid hs
  have H':=Lib.hid hs'
  have HLX:=Lib.hid hlx
  have HLY:=Lib.hid hly
  have HD:=Lib.hid (show ∀ b' o' n' c',Value.slice ad len cap=.slice (some ⟨b',o',none⟩) n' c'→¬ (b'=w.heap.size) from fun b' o' n' c' e=>by have:=hs.lt e; omega)
  have HD':=Lib.hid (show ∀ b' o' n' c',Value.slice ad' len' cap'=.slice (some ⟨b',o',none⟩) n' c'→¬ (b'=w.heap.size) from fun b' o' n' c' e=>by have:=hs'.lt e; omega)
  clear hx hy h h' hs hs' hlx hly hnm hnm' en1
  go_enter Tryz.func168,Tryz.ntmps168
  go_wp2_with (at_make; refine wpList_make_ints _ rfl _ _ 57 rfl 202 i0 .u32 Tryz.underlying57 hi0 hz0 hz1 .i64 .i64 _ _ n1 n1 rfl rfl (by omega) (by omega) (Nat.le_refl _) (by rw [hz2]; omega) (by omega) ?_)
  all_goals (
    have hkW:Blk (w.alloc (Obj.cells (ints IntKind.u32 (List.replicate n1 0)) 202)) w.heap.size 202 .u32 (List.replicate n1 0):=Blk.new _ _ _ _
    have hbW:=bel_alloc w (Obj.cells (ints IntKind.u32 (List.replicate n1 0)) 202)
    generalize w.alloc (Obj.cells (ints IntKind.u32 (List.replicate n1 0)) 202)=W at *
    have hszW:=hkW.lt
    have HSW:=Lib.hid (H.out.below hbW)
    have HLW:=Lib.hid (H'.out.below hbW)
    have HBW:=Lib.hid hbW
    have HKW:=Lib.hid hkW
    clear hbW hkW H H'
    go_loopw [6,7] (fun c i wr=>∃ (k q:Nat) (os:List Nat),k≤n1∧i=.int .i64 k∧c=.int .u64 q∧q≤1∧os.length=k∧Ok os∧val os+pw k * q=val (xs.take k)+val (ys.take k) ∧
        Blk wr w.heap.size 202 .u32 (splice (List.replicate n1 0) 0 os)∧Keep (·=w.heap.size) W wr) (fun _ i _=>n1 - (intOf i).toNat)
    case atStart=>exact ⟨0,0,[],Nat.zero_le _,rfl,rfl,by omega,rfl,Ok.nil,rfl,by rw [splice_nil]; exact HKW.out,Keep.refl _ _⟩
    case round=>
      obtain ⟨k,q,os,hk,rfl,rfl,hq,hol,hok,hv,hblk,hkeep⟩:=hrel
      have HOL:=Lib.hid hol
      have HV:=Lib.hid hv
      have HBK:=Lib.hid hblk
      have HK:=Lib.hid hkeep
      have HSr:=Lib.hid (HSW.out.keep HK.out HD.out)
      have HLr:=Lib.hid (HLW.out.keep HK.out HD'.out)
      by_cases hlt:k < n1
      · have hcell2:=hblk.cell (i:=k) (by rw [splice_length (by simp; omega)]; simp; omega)
        have hf:=hblk.free k
        have hlim:lim xs k < 4294967296:=lim_lt ho _
        have hlim2:lim ys k < 4294967296:=lim_lt ho' _
        clear hol hv hblk hkeep
        by_cases h1:k < len
        · by_cases h2:k < len'
          · have d1:decide (k < len)=true:=decide_eq_true h1
            have d2:decide (k < len')=true:=decide_eq_true h2
            obtain ⟨bx,offx,rfl,hcell,hblt⟩:=HSr.out.cell (i:=k) (by have:=HLX.out; omega)
            obtain ⟨by_,offy,rfl,hcelly,hblty⟩:=HLr.out.cell (i:=k) (by have:=HLY.out; omega)
            obtain ⟨t1,e1,e1'⟩:∃ t:Nat,(q:Int)+((lim xs k:Nat):Int)=(t:Int)∧t=q+lim xs k:=⟨_,by omega,rfl⟩
            obtain ⟨t,e2,et⟩:∃ t:Nat,(t1:Int)+((lim ys k:Nat):Int)=(t:Int)∧t=q+(lim xs k+lim ys k):=⟨q+(lim xs k+lim ys k),by omega,rfl⟩
            have ht1:t1≤8589934591:=by omega
            have htb:t≤8589934591:=by omega
            obtain ⟨td,htd,etd⟩:∃ td:Nat,((t:Int) / 4294967296)=(td:Int)∧td=t / 4294967296:=⟨t / 4294967296,by omega,rfl⟩
            obtain ⟨tm,htm,etm⟩:∃ tm:Nat,((t:Int) % 4294967296)=(tm:Int)∧tm=t % 4294967296:=⟨t % 4294967296,by omega,rfl⟩
            have hand:bits BinOp.and IntKind.u64 (t:Int) 4294967295=(tm:Int):=by rw [and_mask32 (by omega),etm]
            have htmb:tm < 4294967296:=by omega
            have R:=step_add (xs:=xs) (ys:=ys) (off:=0) (ys0:=List.replicate n1 0) HOL.out hok HV.out HBK.out HK.out et etd etm (by simp; omega)
            rw [Nat.zero_add] at R
            have HR:=Lib.hid R
            clear R et etd etm e1'
            go_wp2_with fail
            obtain ⟨r1,r2,r3,r4,r5,r6⟩:=HR.out
            exact ⟨⟨k+1,td,os++[tm],by omega,by go_num,rfl,r1,r2,r3,r4,r5,r6⟩,by simp [intOf]; omega⟩
          · have d1:decide (k < len)=true:=decide_eq_true h1
            have d2:decide (k < len')=false:=decide_eq_false h2
            have z2:lim ys k=0:=lim_ge (by have:=HLY.out; omega)
            obtain ⟨bx,offx,rfl,hcell,hblt⟩:=HSr.out.cell (i:=k) (by have:=HLX.out; omega)
            obtain ⟨t,e2,et⟩:∃ t:Nat,(q:Int)+((lim xs k:Nat):Int)=(t:Int)∧t=q+(lim xs k+lim ys k):=⟨q+(lim xs k+lim ys k),by omega,rfl⟩
            have htb:t≤8589934591:=by omega
            obtain ⟨td,htd,etd⟩:∃ td:Nat,((t:Int) / 4294967296)=(td:Int)∧td=t / 4294967296:=⟨t / 4294967296,by omega,rfl⟩
            obtain ⟨tm,htm,etm⟩:∃ tm:Nat,((t:Int) % 4294967296)=(tm:Int)∧tm=t % 4294967296:=⟨t % 4294967296,by omega,rfl⟩
            have hand:bits BinOp.and IntKind.u64 (t:Int) 4294967295=(tm:Int):=by rw [and_mask32 (by omega),etm]
            have htmb:tm < 4294967296:=by omega
            have R:=step_add (xs:=xs) (ys:=ys) (off:=0) (ys0:=List.replicate n1 0) HOL.out hok HV.out HBK.out HK.out et etd etm (by simp; omega)
            rw [Nat.zero_add] at R
            have HR:=Lib.hid R
            clear R et etd etm z2 h2 hi0 hz0 hz1 hz2
            go_wp2_with fail
            obtain ⟨r1,r2,r3,r4,r5,r6⟩:=HR.out
            exact ⟨⟨k+1,td,os++[tm],by omega,by go_num,rfl,r1,r2,r3,r4,r5,r6⟩,by simp [intOf]; omega⟩
        · have z1:lim xs k=0:=lim_ge (by have:=HLX.out; omega)
          have d1:decide (k < len)=false:=decide_eq_false h1
          by_cases h2:k < len'
          · have d2:decide (k < len')=true:=decide_eq_true h2
            obtain ⟨by_,offy,rfl,hcelly,hblty⟩:=HLr.out.cell (i:=k) (by have:=HLY.out; omega)
            obtain ⟨t,e2,et⟩:∃ t:Nat,(q:Int)+((lim ys k:Nat):Int)=(t:Int)∧t=q+(lim xs k+lim ys k):=⟨q+(lim xs k+lim ys k),by omega,rfl⟩
            have htb:t≤8589934591:=by omega
            obtain ⟨td,htd,etd⟩:∃ td:Nat,((t:Int) / 4294967296)=(td:Int)∧td=t / 4294967296:=⟨t / 4294967296,by omega,rfl⟩
            obtain ⟨tm,htm,etm⟩:∃ tm:Nat,((t:Int) % 4294967296)=(tm:Int)∧tm=t % 4294967296:=⟨t % 4294967296,by omega,rfl⟩
            have hand:bits BinOp.and IntKind.u64 (t:Int) 4294967295=(tm:Int):=by rw [and_mask32 (by omega),etm]
            have htmb:tm < 4294967296:=by omega
            have R:=step_add (xs:=xs) (ys:=ys) (off:=0) (ys0:=List.replicate n1 0) HOL.out hok HV.out HBK.out HK.out et etd etm (by simp; omega)
            rw [Nat.zero_add] at R
            have HR:=Lib.hid R
            clear R et etd etm z1 h1 hi0 hz0 hz1 hz2
            go_wp2_with fail
            obtain ⟨r1,r2,r3,r4,r5,r6⟩:=HR.out
            exact ⟨⟨k+1,td,os++[tm],by omega,by go_num,rfl,r1,r2,r3,r4,r5,r6⟩,by simp [intOf]; omega⟩
          · have d2:decide (k < len')=false:=decide_eq_false h2
            have z2:lim ys k=0:=lim_ge (by have:=HLY.out; omega)
            obtain ⟨t,e2,et⟩:∃ t:Nat,t=q∧t=q+(lim xs k+lim ys k):=⟨q,rfl,by omega⟩
            subst e2
            have htb:t≤8589934591:=by omega
            obtain ⟨td,htd,etd⟩:∃ td:Nat,((t:Int) / 4294967296)=(td:Int)∧td=t / 4294967296:=⟨t / 4294967296,by omega,rfl⟩
            obtain ⟨tm,htm,etm⟩:∃ tm:Nat,((t:Int) % 4294967296)=(tm:Int)∧tm=t % 4294967296:=⟨t % 4294967296,by omega,rfl⟩
            have hand:bits BinOp.and IntKind.u64 (t:Int) 4294967295=(tm:Int):=by rw [and_mask32 (by omega),etm]
            have htmb:tm < 4294967296:=by omega
            have R:=step_add (xs:=xs) (ys:=ys) (off:=0) (ys0:=List.replicate n1 0) HOL.out hok HV.out HBK.out HK.out et etd etm (by simp; omega)
            rw [Nat.zero_add] at R
            have HR:=Lib.hid R
            clear R et etd etm z1 z2
            go_wp2_with fail
            obtain ⟨r1,r2,r3,r4,r5,r6⟩:=HR.out
            exact ⟨⟨k+1,td,os++[tm],by omega,by go_num,rfl,r1,r2,r3,r4,r5,r6⟩,by simp [intOf]; omega⟩
      · obtain rfl:k=n1:=by omega
        have hos:splice (List.replicate k 0) 0 os=os:=splice_zeros_all HOL.out
        have hb2:=HBK.out
        rw [hos] at hb2
        have hsl:=Sl.of_blk hb2
        rw [HOL.out] at hsl
        have hle:val xs+val ys < pw k:=by
          have a1:=val_lt ho
          have a2:=val_lt ho'
          rw [HLX.out] at a1
          rw [HLY.out] at a2
          obtain ⟨m,rfl⟩:∃ m,k=m+1:=⟨k - 1,by have:=EN.out; omega⟩
          exact lt_pw_add (lt_pw_mono a1 (by have:=EN.out; omega)) (lt_pw_mono a2 (by have:=EN.out; omega))
        have hval:val os=val xs+val ys:=by
          have e:=HV.out
          rw [List.take_of_length_le (by have:=HLX.out; have:=EN.out; omega),List.take_of_length_le (by have:=HLY.out; have:=EN.out; omega)] at e
          rcases Nat.eq_zero_or_pos q with h0 | h0
          · rw [h0] at e; simpa using e
          · have:pw k * 1≤pw k * q:=Nat.mul_le_mul_left _ h0
            omega
        have HSL:=Lib.hid hsl
        have HV2:=Lib.hid hval
        have HB2:=Lib.hid (HBW.out.trans (HK.out.below (B:=w.heap.size) (by omega) (fun j hj=>by omega)))
        clear hos hb2 hsl hle hval hblk hkeep hol hv
        go_wp2_with fail
        refine (rtrim_any _ os _ HSL.out hok (by rw [HOL.out]; omega)).mono ?_
        rintro e w2 ⟨v',rfl,hr2,rfl⟩
        have HR2:=Lib.hid hr2
        clear hr2
        go_wp2_with fail
        go_ret
        exact ⟨_,rfl,by have:=HR2.out; rw [HV2.out] at this; exact this,HB2.out⟩)
end Go.Proofs.YthffkbbcofbceaaGreatDoor

namespace Go.Proofs.YthffkbbcofbceaaGreatDoor
open Go.RowKit Cin
set_option maxRecDepth 100000 in
set_option maxHeartbeats 1000000 in
theorem refCmp_any (v u:Value) (x y:Nat) (L:Nat) (w:World) (h:RefV 202 w v x) (h':RefV 202 w u y) (hx:x < pw L) (hy:y < pw L) (hL:L≤100000000) :
    Calls Tryz.prog 116 #[v,u] w fun e w'=>e=.returned (.int .i64 (cmpI x y))∧∃ nq,w'=w.drewN nq:=by
  obtain ⟨ad,len,cap,xs,rfl,hs,ho,hnm,rfl,hlx,hcx⟩:=h.shape
  obtain ⟨ad',len',cap',ys,rfl,hs',ho',hnm',rfl,hly,hcy⟩:=h'.shape
  have hl:len≤100000000:=by have:=norm_len hnm hx; omega
  have hl':len'≤100000000:=by have:=norm_len hnm' hy; omega
  clear hx hy h h'
  by_cases hll:len=len'
  · subst hll
    have hcmp:((len:Int) != (len:Int))=false:=by simp
    have hlt:∀ k,k < len→(∀ j,k < j→j < len→lim xs j=lim ys j)→lim xs k < lim ys k→cmpI (val xs) (val ys)=-1:=fun k hk hj hlt=>by
      have:=val_lt_of_top ho (by omega) (i:=k) (by omega) (fun j h1 h2=>hj j h1 (by omega)) hlt
      unfold cmpI; rw [if_pos this]
    have hgt:∀ k,k < len→(∀ j,k < j→j < len→lim xs j=lim ys j)→lim ys k < lim xs k→cmpI (val xs) (val ys)=1:=fun k hk hj hlt=>by
      have:=val_lt_of_top ho' (by omega) (i:=k) (by omega) (fun j h1 h2=>(hj j h1 (by omega)).symm) hlt
      unfold cmpI; rw [if_neg (by omega),if_pos this]
    have heq:(∀ j,j < len→lim xs j=lim ys j)→cmpI (val xs) (val ys)=0:=fun hj=>by
      have:xs=ys:=ext_lim (by omega) (fun i hi=>hj i (by omega))
      rw [this]; unfold cmpI; rw [if_neg (by omega),if_neg (by omega)]
    have HLT:=Lib.hid hlt
    have HGT:=Lib.hid hgt
    have HEQ:=Lib.hid heq
    have H:=Lib.hid hs
    have H':=Lib.hid hs'
    have HLX:=Lib.hid hlx
    have HLY:=Lib.hid hly
    clear hlt hgt heq hs hs' hlx hly hnm hnm'
    go_enter Tryz.func116,Tryz.ntmps116
    go_wp2_with fail
    go_loopw [5] (fun i wr=>∃ nq,wr=w.drewN nq∧((i=.int .i64 (-1)∧∀ j,j < len→lim xs j=lim ys j)∨∃ k:Nat,k < len∧i=.int .i64 k∧∀ j,k < j→j < len→lim xs j=lim ys j)) (fun i _=>(intOf i+1).toNat)
    case atStart=>
      refine ⟨0,rfl,?_⟩
      rcases Nat.eq_zero_or_pos len with h0 | h0
      · subst h0; exact .inl ⟨rfl,fun j hj=>absurd hj (Nat.not_lt_zero _)⟩
      · exact .inr ⟨len - 1,by omega,congrArg (Value.int IntKind.i64) (by omega),fun j h1 h2=>by omega⟩
    case round=>
      obtain ⟨nq,rfl,h | ⟨k,hk,rfl,hj⟩⟩:=hrel
      · obtain ⟨rfl,hj⟩:=h
        have HJ:=Lib.hid hj
        clear hj
        go_wp2
        go_ret
        exact ⟨ret_int (HEQ.out HJ.out).symm,_,rfl⟩
      · have HJ:=Lib.hid hj
        clear hj
        obtain ⟨b,off,rfl,hcell,hblt⟩:=H.out.cell (i:=k) (by have:=HLX.out; omega)
        obtain ⟨b',off',rfl,hcell',hblt'⟩:=H'.out.cell (i:=k) (by have:=HLY.out; omega)
        rcases Nat.lt_trichotomy (lim xs k) (lim ys k) with hlt | hne | hlt
        · have hdec:decide (lim xs k < lim ys k)=true:=by simpa using hlt
          go_wp2_with fail
          go_quiet (fail)
          go_wp2_with fail
          go_ret
          exact ⟨ret_int (HLT.out k hk HJ.out hlt).symm,_,by simp only [World.drewN_drewN]; rfl⟩
        · have hdec:decide (lim xs k < lim ys k)=false:=by simp; omega
          have hdec2:decide (lim ys k < lim xs k)=false:=by simp; omega
          have HNE:=Lib.hid hne
          clear hne
          go_wp2_with fail
          go_quiet (fail)
          go_wp2_with fail
          go_quiet (fail)
          go_wp2_with fail
          refine ⟨⟨_,rfl,?_⟩,by simp only [intOf]; omega⟩
          have hstep:∀ j,k≤j→j < len→lim xs j=lim ys j:=fun j h1 h2=>by
            rcases Nat.eq_or_lt_of_le h1 with rfl | h1
            · exact HNE.out
            · exact HJ.out j h1 h2
          rcases Nat.eq_zero_or_pos k with h0 | h0
          · subst h0; exact .inl ⟨rfl,fun j hj=>hstep j (Nat.zero_le _) hj⟩
          · exact .inr ⟨k - 1,by omega,congrArg (Value.int IntKind.i64) (by omega),fun j h1 h2=>hstep j (by omega) h2⟩
        · have hdec:decide (lim xs k < lim ys k)=false:=by simp; omega
          have hdec2:decide (lim ys k < lim xs k)=true:=by simpa using hlt
          go_wp2_with fail
          go_quiet (fail)
          go_wp2_with fail
          go_quiet (fail)
          go_wp2_with fail
          go_ret
          exact ⟨ret_int (HGT.out k hk HJ.out hlt).symm,_,by simp only [World.drewN_drewN]; rfl⟩
  · have hcmp:((len:Int) != (len':Int))=true:=by simp; omega
    rcases Nat.lt_or_gt_of_ne hll with hlt | hlt
    · have he:cmpI (val xs) (val ys)=-1:=by
        have:=val_lt_of_len ho hnm' (by omega)
        unfold cmpI; rw [if_pos this]
      have HE:=Lib.hid he
      have hdec:decide (len < len')=true:=by simpa using hlt
      clear he hs hs' hlx hly hnm hnm' hll
      go_enter Tryz.func116,Tryz.ntmps116
      go_wp2_with fail
      go_ret
      exact ⟨ret_int HE.out.symm,0,rfl⟩
    · have he:cmpI (val xs) (val ys)=1:=by
        have:=val_lt_of_len ho' hnm (by omega)
        unfold cmpI; rw [if_neg (by omega),if_pos this]
      have HE:=Lib.hid he
      have hdec:decide (len < len')=false:=by simp; omega
      clear he hs hs' hlx hly hnm hnm' hll
      go_enter Tryz.func116,Tryz.ntmps116
      go_wp2_with fail
      go_ret
      exact ⟨ret_int HE.out.symm,0,rfl⟩
end Go.Proofs.YthffkbbcofbceaaGreatDoor
