/- Contracts of rat's New, Div, Text; of the document's quotients. -/
import Derived.Test.YthffkbbcofbceaaGreatDoorYp
import Derived.Test.YthffkbbcofbceaaGreatDoorYj
import Derived.Test.YthffkbbcofbceaaGreatDoorYn
import Derived.Test.YthffkbbcofbceaaGreatDoorYo
import Derived.Test.YthffkbbcofbceaaGreatDoorYb
import Derived.Test.YthffkbbcofbceaaGreatDoorYi
import Derived.Lib.IndexLaws
namespace Go.Proofs.YthffkbbcofbceaaGreatDoor
open Go.RowKit Cin
def nq (n d:Int):Rat:=mkRat (if d < 0 then -n else n) d.natAbs
def ratS (q:Rat):ByteArray:=if q.den=1 then intS q.num else intS q.num++⟨#[47]⟩++intS q.den
theorem intS_size {z:Int} {k:Nat} (h:z.natAbs < pw k):(intS z).size≤10 * k+2:=by
  have:(decS z.natAbs).size≤10 * k+1:=dec_len_pw h
  by_cases h0:z < 0
  · rw [intS_neg h0,ByteArray.size_append]; show 1+_≤_; omega
  · rw [intS_pos h0]; omega
theorem qtext_any (v:Value) (q:Rat) (k:Nat) (w:World) (h:RatB w v q k) (hk:k≤200000) (hT:TabsP w) :
    Calls Tryz.prog 89 #[v] w fun e w'=>e=.returned (.string (ratS q))∧Below w.heap.size w w':=by
  obtain ⟨a,b,c,d,rfl,h⟩:=h
  have s1:=intS_size h.1.2
  have s2:=intS_size (z:=(q.den:Int)) (k:=k) (by rw [Int.natAbs_natCast]; exact h.2.2)
  refine go (fun w=>QB w a b c d q k) [[a,b,c,d]] [some 4] (tr:=(.em (.call 110 [.g [.c 0 2,.c 0 3]] [none]) (.em (.pr (.binOp .eql 3 (.tmp 0) (.const (.int .i64 0)) 3) 4 [.s (.c 1 0),.s (.k (.int .i64 0))]) (.cond (.c 2 0) (.em (.call 129 [.g [.c 0 0,.c 0 1]] [none]) (.ret (.v (.s (.c 3 0))))) (.em (.call 129 [.g [.c 0 0,.c 0 1]] [none]) (.em (.pr (.binOp .add 9 (.tmp 0) (.const (.string ⟨#[47]⟩)) 9) 9 [.s (.c 3 0),.s (.k (.string ⟨#[47]⟩))]) (.em (.call 129 [.g [.c 0 2,.c 0 3]] [none]) (.em (.pr (.binOp .add 9 (.tmp 0) (.tmp 1) 9) 9 [.s (.c 4 0),.s (.c 5 0)]) (.ret (.v (.s (.c 6 0)))))))))))) (by kernel_rfl) (by kernel_rfl) (by kernel_rfl) (mQ _ _ _ _ _ _) h ⟨qpl h,trivial⟩ ?_
  refine wVal (fun w b h=>sign_any _ (denZ q) k w h.2.1 (by omega)) rfl ?_
  refine wPr (prEq rfl rfl) rfl ?_
  refine wIf _ rfl (fun e=>?_) (fun e=>?_)
  · have e1:q.den=1:=by have:=(sgn_den q).symm.trans e; simpa using this
    refine wVal (fun w b h=>itext_any _ q.num k w h.1 (by omega) (hT.below b)) rfl ?_
    exact wRet fun w b _=>⟨by unfold ratS; rw [if_pos e1]; rfl,b⟩
  · have e1:¬ q.den=1:=by have:=(sgn_den q).symm.trans e; simpa using this
    refine wVal (fun w b h=>itext_any _ q.num k w h.1 (by omega) (hT.below b)) rfl ?_
    refine wPr (prSAdd rfl rfl (by show _+1≤_; omega)) rfl ?_
    refine wVal (v:=.string (intS q.den)) (fun w b h=>itext_any _ q.den k w (by have h2:=h.2.1; unfold denZ at h2; rw [if_neg e1] at h2; exact h2) (by omega) (hT.below b)) rfl ?_
    refine wPr (prSAdd rfl rfl (by rw [ByteArray.size_append]; show _+1+_≤_; omega)) rfl ?_
    exact wRet fun w b _=>⟨by unfold ratS; rw [if_neg e1]; rfl,b⟩
end Go.Proofs.YthffkbbcofbceaaGreatDoor

namespace Go.Proofs.YthffkbbcofbceaaGreatDoor
open Go.RowKit Cin
set_option maxRecDepth 100000 in
set_option maxHeartbeats 1000000 in
theorem refParse_any (s:ByteArray) (w:World):Calls Tryz.prog 115 #[.string s] w (RefPost s w):=by
  by_cases hin:1≤s.size∧s.size≤4000∧(s.size=1∨lim (byts s) 0≠48)
  · exact refParse_in s w hin.1 hin.2.1 hin.2.2
  · have hno:¬ IsNum (byts s):=fun h=>by
      obtain ⟨a1,a2,a3,_⟩:=h
      rw [byts_length] at a1 a2 a3
      exact hin ⟨a1,a2,a3⟩
    have HNO:=Lib.hid hno
    clear hno
    by_cases h1:s.size=0
    · have hd:((s.size:Int) == 0)=true:=beq_iff_eq.2 (by omega)
      clear hin h1
      go_enter Tryz.func115,Tryz.ntmps115
      go_wp2_with fail
      go_ret2
      exact .inr ⟨HNO.out,rfl,Below.refl _ _⟩
    · have hd:((s.size:Int) == 0)=false:=beq_eq_false_iff_ne.2 (by omega)
      by_cases h2:4000 < s.size
      · have hd2:decide ((4000:Int) < (s.size:Int))=true:=by rw [decide_eq_true_iff]; omega
        clear hin
        go_enter Tryz.func115,Tryz.ntmps115
        go_wp2_with fail
        go_ret2
        exact .inr ⟨HNO.out,rfl,Below.refl _ _⟩
      · have hd2:decide ((4000:Int) < (s.size:Int))=false:=by rw [decide_eq_false_iff_not]; omega
        have h0:0 < s.size:=by omega
        have hb0:=byts_at s h0
        have h3:lim (byts s) 0=48∧1 < s.size:=by omega
        have hd3:(((s[0].toNat:Nat):Int) == 48)=true:=by rw [hb0,h3.1]; rfl
        have hd4:decide ((1:Int) < (s.size:Int))=true:=by rw [decide_eq_true_iff]; omega
        clear hin hb0 h3
        go_enter Tryz.func115,Tryz.ntmps115
        go_wp2_with fail
        go_ret2
        exact .inr ⟨HNO.out,rfl,Below.refl _ _⟩
end Go.Proofs.YthffkbbcofbceaaGreatDoor

namespace Go.Proofs.YthffkbbcofbceaaGreatDoor
open Go.RowKit Cin
def negT (s:ByteArray):Bool:=decide (0 < s.size) && decide (lim (byts s) 0=45)
def tl (s:ByteArray):ByteArray:=s.extract 1 s.size
theorem byts_tl (s:ByteArray):byts (tl s)=(byts s).drop 1:=by
  unfold tl; rw [byts_extract,List.take_of_length_le (by rw [List.length_drop,byts_length]; omega)]
def digT (s:ByteArray):ByteArray:=if negT s then tl s else s
def IsInt (s:ByteArray):Prop:=IsNum (byts (digT s))∧(negT s=true→decL (byts (digT s))≠0)
def intVal (s:ByteArray):Int:=sg (negT s) (decL (byts (digT s)))
theorem hasPrefix_minus (s:ByteArray):Lib.hasPrefix s.data.toList [45]=negT s:=by
  obtain ⟨⟨l⟩⟩:=s
  cases l with
  | nil=>rfl
  | cons x l=>
    have hx:lim (byts ⟨⟨x::l⟩⟩) 0=x.toNat:=rfl
    have hs:(⟨⟨x::l⟩⟩:ByteArray).size=l.length+1:=rfl
    unfold negT
    rw [hx,hs]
    unfold Lib.hasPrefix
    rw [List.isPrefixOf_cons_cons]
    simp only [List.isPrefixOf_nil_left,Bool.and_true,Nat.zero_lt_succ,decide_true,Bool.true_and]
    by_cases h:x=45
    · subst h; rfl
    · rw [beq_eq_false_iff_ne.2 (Ne.symm h),decide_eq_false]
      intro e
      exact h (UInt8.toNat_inj.1 e)
theorem ten_lt4:10 ^ 4000 < pw 500:=by decide +kernel
theorem decL_lt_pw4 {l:List Nat} (h:Digs l) (hl:l.length≤4000):decL l < pw 500:=
  Nat.lt_of_lt_of_le (decL_lt h) (Nat.le_trans (Nat.pow_le_pow_right (by decide) hl) (Nat.le_of_lt ten_lt4))
theorem isNum_lt {l:List Nat} (h:IsNum l):decL l < pw 500:=decL_lt_pw4 h.2.2.2 h.2.1
set_option maxHeartbeats 400000 in
theorem cutPrefixL_any (s:ByteArray) (w:World) :
    Calls Tryz.prog 185 #[.string s,.string ⟨#[45]⟩] w fun e w'=>e=.returned (.tuple #[.string (digT s),.bool (negT s)])∧w=w':=by
  have hp:=hasPrefix_minus s
  unfold digT
  by_cases hn:negT s=true
  · rw [hn] at hp
    rw [if_pos hn,hn]
    have hsz:1≤s.size:=by unfold negT at hn; simp at hn; omega
    clear hn
    go_enter Tryz.func185,Tryz.ntmps185
    go_wp2_with fail
    refine (Tryz.stringslite_HasPrefix s ⟨#[45]⟩ _).mono ?_
    rintro e w1 ⟨rfl,rfl⟩
    rw [hp]
    go_wp2
    go_ret2
    exact ⟨rfl,rfl⟩
  · have hn':negT s=false:=by simpa using hn
    rw [hn'] at hp
    rw [if_neg hn,hn']
    clear hn hn'
    go_enter Tryz.func185,Tryz.ntmps185
    go_wp2_with fail
    refine (Tryz.stringslite_HasPrefix s ⟨#[45]⟩ _).mono ?_
    rintro e w1 ⟨rfl,rfl⟩
    rw [hp]
    go_wp2
    go_ret2
    exact ⟨rfl,rfl⟩
set_option maxHeartbeats 400000 in
theorem cutPrefix_any (s:ByteArray) (w:World) :
    Calls Tryz.prog 146 #[.string s,.string ⟨#[45]⟩] w fun e w'=>e=.returned (.tuple #[.string (digT s),.bool (negT s)])∧w=w':=by
  go_enter Tryz.func146,Tryz.ntmps146
  go_wp2_with fail
  refine (cutPrefixL_any s _).mono ?_
  rintro e w1 ⟨rfl,rfl⟩
  go_wp2
  go_ret2
  exact ⟨rfl,rfl⟩
def ParsePost (s:ByteArray) (w:World) (e:Ending) (w':World):Prop:=
  (IsInt s∧∃ v,e=.returned (.tuple #[v,.int .i64 0])∧IntB 202 w' v (intVal s) 500∧Below w.heap.size w w') ∨
  (¬ IsInt s∧e=.returned (.tuple #[.agg #[.bool false,.slice none 0 0],.int .i64 2])∧Below w.heap.size w w')
set_option maxRecDepth 100000 in
set_option maxHeartbeats 800000 in
theorem iparse_any (s:ByteArray) (w:World):Calls Tryz.prog 108 #[.string s] w (ParsePost s w):=by
  go_enter Tryz.func108,Tryz.ntmps108
  go_wp2_with fail
  refine (cutPrefix_any s _).mono ?_
  rintro e w1 ⟨rfl,rfl⟩
  generalize hng:negT s=ng
  generalize hdg:digT s=dg
  by_cases hnum:IsNum (byts dg)
  · have hb500:=isNum_lt hnum
    go_wp2_with fail
    refine (parse_yes dg _ hnum).mono ?_
    rintro e w2 ⟨v2,rfl,hn2,hb2⟩
    obtain ⟨ad2,len2,cap2,rfl,hr2⟩:=hn2.shape
    have HN2:=Lib.hid (show NatB 202 (w2.alloc (Obj.cells #[Value.slice ad2 len2 cap2] 52)) (.agg #[.slice ad2 len2 cap2]) (decL (byts dg)) 500 from ⟨hn2.below (bel_alloc _ _),hb500⟩)
    have hh:=((heldN1 (w:=w)).below hb2).new #[Value.slice ad2 len2 cap2] 52
    have hc:=cell0 hh.1
    have hsl:=Slot.of (n:=2) hh.2.1 rfl
    obtain ⟨x0,y0,hx0,hy0,hfx0,hfy0⟩:=hsl.two
    have HH:=Lib.hid hh
    have HB2:=Lib.hid (bel_on (bel_on (bel_alloc _ _) hb2) (bel_alloc w2 (Obj.cells #[Value.slice ad2 len2 cap2] 52)))
    have HNUM:=Lib.hid hnum
    clear hn2 hr2 hb2 hh hsl hnum hb500
    generalize hdec:decL (byts dg)=n at *
    have HDEC:=Lib.hid hdec
    clear hdec
    have HSG:=Lib.hid (show intVal s=sg ng n by unfold intVal; rw [hng,hdg,HDEC.out])
    cases ng
    · have HOK:=Lib.hid (show IsInt s from ⟨by rw [hdg]; exact HNUM.out,by rw [hng]; intro h; cases h⟩)
      clear hng hdg hx0 hy0 hfx0 hfy0
      go_wp2_with fail
      refine (signed_any false _ n 500 _ HN2.out (by decide)).mono ?_
      rintro e w3 ⟨v3,rfl,hn3,hb3⟩
      rw [← HSG.out] at hn3
      clear hc
      obtain ⟨bbR,adR,lenR,capR,rfl,hrR⟩:=hn3.shape2
      have hslR:=(Slot.of (n:=2) (HH.out.below hb3).2.1 rfl)
      obtain ⟨xR,yR,hxR,hyR,hfxR,hfyR⟩:=hslR.two
      have HRR:=Lib.hid (fin_int hn3 hslR (by decide) (bel_on HB2.out hb3) (by omega))
      clear hrR hslR hn3 hb3
      go_wp2
      refine bodyPost_ret (v:=.tuple #[.agg #[.bool bbR,.slice adR lenR capR],.int .i64 0]) (by simp [results,Tryz.results108,go_sem,HRR.out.2.2.1,HRR.out.2.2.2]) rfl (.inl ⟨HOK.out,_,rfl,HRR.out.1,HRR.out.2.1⟩)
    · have HZ:=Lib.hid (show n≠0→IsInt s from fun h=>⟨by rw [hdg]; exact HNUM.out,fun _=>by rw [hdg,HDEC.out]; exact h⟩)
      have HZ0:=Lib.hid (show n=0→¬ IsInt s from fun h h2=>h2.2 hng (by rw [hdg,HDEC.out]; exact h))
      clear hng hdg hx0 hy0 hfx0 hfy0
      go_wp2_with fail
      refine (isZero_any _ n 500 _ HN2.out (by decide)).mono ?_
      rintro e w3 ⟨rfl,hb3⟩
      have HH3:=Lib.hid (HH.out.below hb3)
      have hc3:=cell0 HH3.out.1
      have HB3:=Lib.hid (bel_on HB2.out hb3)
      have HN3:=Lib.hid (HN2.out.below hb3)
      clear hb3 hc
      by_cases h0:n=0
      · rw [decide_eq_true h0]
        clear hc3
        have hslR:=(Slot.of (n:=2) HH3.out.2.1 rfl)
        obtain ⟨xR,yR,hxR,hyR,hfxR,hfyR⟩:=hslR.two
        have HRR:=Lib.hid (fin_int (IntB.zero 202 _ 0) hslR (by decide) HB3.out (by omega))
        clear hslR
        go_wp2
        refine bodyPost_ret (v:=.tuple #[.agg #[.bool false,.slice none 0 0],.int .i64 2]) (by simp [results,Tryz.results108,go_sem,HRR.out.2.2.1,HRR.out.2.2.2]) rfl (.inr ⟨HZ0.out h0,rfl,HRR.out.2.1⟩)
      · rw [decide_eq_false h0]
        go_wp2_with fail
        refine (signed_any true _ n 500 _ HN3.out (by decide)).mono ?_
        rintro e w4 ⟨v4,rfl,hn4,hb4⟩
        rw [← HSG.out] at hn4
        clear hc3
        obtain ⟨bbR,adR,lenR,capR,rfl,hrR⟩:=hn4.shape2
        have hslR:=(Slot.of (n:=2) (HH3.out.below hb4).2.1 rfl)
        obtain ⟨xR,yR,hxR,hyR,hfxR,hfyR⟩:=hslR.two
        have HRR:=Lib.hid (fin_int hn4 hslR (by decide) (bel_on HB3.out hb4) (by omega))
        clear hrR hslR hn4 hb4
        go_wp2
        refine bodyPost_ret (v:=.tuple #[.agg #[.bool bbR,.slice adR lenR capR],.int .i64 0]) (by simp [results,Tryz.results108,go_sem,HRR.out.2.2.1,HRR.out.2.2.2]) rfl (.inl ⟨HZ.out h0,_,rfl,HRR.out.1,HRR.out.2.1⟩)
  · have HNO:=Lib.hid (show ¬ IsInt s from fun h=>hnum (by rw [← hdg]; exact h.1))
    clear hng hdg
    go_wp2_with fail
    refine (parse_no dg _ hnum).mono ?_
    rintro e w2 ⟨rfl,hb2⟩
    have hh:=((heldN1 (w:=w)).below hb2).new #[Value.slice none 0 0] 52
    have HH:=Lib.hid hh
    have HB2:=Lib.hid (bel_on (bel_on (bel_alloc _ _) hb2) (bel_alloc w2 (Obj.cells #[Value.slice none 0 0] 52)))
    clear hh hb2
    have hslR:=(Slot.of (n:=2) HH.out.2.1 rfl)
    obtain ⟨xR,yR,hxR,hyR,hfxR,hfyR⟩:=hslR.two
    have HRR:=Lib.hid (fin_int (IntB.zero 202 _ 0) hslR (by decide) HB2.out (by omega))
    clear hslR
    go_wp2
    refine bodyPost_ret (v:=.tuple #[.agg #[.bool false,.slice none 0 0],.int .i64 2]) (by simp [results,Tryz.results108,go_sem,HRR.out.2.2.1,HRR.out.2.2.2]) rfl (.inr ⟨HNO.out,rfl,HRR.out.2.1⟩)
end Go.Proofs.YthffkbbcofbceaaGreatDoor

namespace Go.Proofs.YthffkbbcofbceaaGreatDoor
open Go.RowKit Cin
def RIntPost (s:ByteArray) (w:World) (e:Ending) (w':World):Prop:=
  (IsInt s∧∃ v,e=.returned (.tuple #[v,.bool true])∧IntB 202 w' v (intVal s) 500∧Below w.heap.size w w') ∨
  (¬ IsInt s∧e=.returned (.tuple #[.agg #[.bool false,.slice none 0 0],.bool false])∧Below w.heap.size w w')
theorem refV_len {t:TypeId} {w:World} {ad:Option Addr} {len cap n:Nat} (h:RefV t w (.slice ad len cap) n):len=0↔n=0:=by
  obtain ⟨xs,hs,ho,hnm,rfl⟩:=h
  have hl:=hs.len
  constructor
  · intro e
    rw [List.length_eq_zero_iff.1 (hl.trans e)]; rfl
  · intro e
    rw [norm_val_zero hnm e] at hl
    exact hl.symm
set_option maxRecDepth 100000 in
set_option maxHeartbeats 800000 in
theorem rparse_any (s:ByteArray) (w:World):Calls Tryz.prog 113 #[.string s] w (RIntPost s w):=by
  by_cases hn:negT s=true
  · have hdg:digT s=tl s:=if_pos hn
    have hn2:=hn
    unfold negT at hn2
    simp only [Bool.and_eq_true,decide_eq_true_eq] at hn2
    have h0:0 < s.size:=hn2.1
    have hb0:=byts_at s h0
    have hd1:decide ((0:Int) < (s.size:Int))=true:=by rw [decide_eq_true_iff]; omega
    have hd2:(((s[0].toNat:Nat):Int) == 45)=true:=by rw [hb0,hn2.2]; rfl
    have HN:=Lib.hid hn
    have HDG:=Lib.hid hdg
    clear hn hn2 hb0 hdg
    go_enter Tryz.func113,Tryz.ntmps113
    go_wp2_with fail
    refine (refParse_any (tl s) _).mono ?_
    rintro e w1 (⟨hnum,v,rfl,hv,hb⟩ | ⟨hnum,rfl,hb⟩)
    · obtain ⟨ad,len,cap,xs,rfl,_⟩:=hv.shape
      have hl:=refV_len hv
      have HNUM:=Lib.hid hnum
      have HV:=Lib.hid hv
      have HH:=Lib.hid ((heldN1 (w:=w)).below hb)
      have HB:=Lib.hid (bel_on (bel_alloc _ _) hb)
      clear hnum hv hb
      by_cases hz:len=0
      · have hz0:=hl.1 hz
        have HNO:=Lib.hid (show ¬ IsInt s from fun h=>h.2 HN.out (by rw [HDG.out]; exact hz0))
        subst hz
        clear hl hz0
        have hslR:=(Slot.of (n:=2) HH.out.1 rfl)
        obtain ⟨xR,yR,hxR,hyR,hfxR,hfyR⟩:=hslR.two
        have HRR:=Lib.hid (fin_int (IntB.zero 202 _ 0) hslR (by decide) HB.out (by omega))
        clear hslR
        go_wp2
        refine bodyPost_ret (v:=.tuple #[.agg #[.bool false,.slice none 0 0],.bool false]) (by simp [results,Tryz.results113,go_sem,HRR.out.2.2.1,HRR.out.2.2.2]) rfl (.inr ⟨HNO.out,rfl,HRR.out.2.1⟩)
      · have hz0:=fun h=>hz (hl.2 h)
        have HOK:=Lib.hid (show IsInt s from ⟨by rw [HDG.out]; exact HNUM.out,fun _=>by rw [HDG.out]; exact hz0⟩)
        have hI:=intB_of (b:=true) (bb:=true) (k:=500) HV.out (isNum_lt HNUM.out) (by rw [decide_eq_false hz0]; rfl)
        rw [show sg true (decL (byts (tl s)))=intVal s by unfold intVal; rw [HN.out,HDG.out]] at hI
        have hzb:((len:Int) == 0)=false:=beq_eq_false_iff_ne.2 (by omega)
        have HI:=Lib.hid hI
        have HSL:=Lib.hid (Slot.of (n:=2) HH.out.1 rfl)
        have HRR:=Lib.hid (fin_int HI.out HSL.out (by decide) HB.out (Nat.le_refl _))
        obtain ⟨xR,yR,hxR,hyR,hfxR,hfyR⟩:=HSL.out.two
        clear hl hz0 hI
        go_wp2
        refine bodyPost_ret (v:=.tuple #[.agg #[.bool true,.slice ad len cap],.bool true]) (by simp [results,Tryz.results113,go_sem,HRR.out.2.2.1,HRR.out.2.2.2]) rfl (.inl ⟨HOK.out,_,rfl,HRR.out.1,HRR.out.2.1⟩)
    · have HNO:=Lib.hid (show ¬ IsInt s from fun h=>hnum (by rw [← HDG.out]; exact h.1))
      have HH:=Lib.hid ((heldN1 (w:=w)).below hb)
      have HB:=Lib.hid (bel_on (bel_alloc _ _) hb)
      clear hb hnum
      have hslR:=(Slot.of (n:=2) HH.out.1 rfl)
      obtain ⟨xR,yR,hxR,hyR,hfxR,hfyR⟩:=hslR.two
      have HRR:=Lib.hid (fin_int (IntB.zero 202 _ 0) hslR (by decide) HB.out (by omega))
      clear hslR
      go_wp2
      refine bodyPost_ret (v:=.tuple #[.agg #[.bool false,.slice none 0 0],.bool false]) (by simp [results,Tryz.results113,go_sem,HRR.out.2.2.1,HRR.out.2.2.2]) rfl (.inr ⟨HNO.out,rfl,HRR.out.2.1⟩)
  · have hdg:digT s=s:=if_neg hn
    have HN:=Lib.hid (show negT s=false by simpa using hn)
    have HDG:=Lib.hid hdg
    have hcase:(s.size=0∧decide ((0:Int) < (s.size:Int))=false)∨(∃ h0:0 < s.size,decide ((0:Int) < (s.size:Int))=true∧(((s[0].toNat:Nat):Int) == 45)=false):=by
      by_cases h0:0 < s.size
      · right
        refine ⟨h0,by rw [decide_eq_true_iff]; omega,?_⟩
        rw [byts_at s h0,beq_eq_false_iff_ne]
        intro e
        apply hn
        unfold negT
        simp only [Bool.and_eq_true,decide_eq_true_eq]
        exact ⟨h0,by omega⟩
      · left
        refine ⟨by omega,?_⟩
        rw [decide_eq_false_iff_not]; omega
    clear hn hdg
    rcases hcase with ⟨hs0,hd⟩ | ⟨h0,hd,hd2⟩
    all_goals
      go_enter Tryz.func113,Tryz.ntmps113
      go_wp2_with fail
      refine (refParse_any s _).mono ?_
      rintro e w1 (⟨hnum,v,rfl,hv,hb⟩ | ⟨hnum,rfl,hb⟩)
      · obtain ⟨ad,len,cap,xs,rfl,_⟩:=hv.shape
        have HOK:=Lib.hid (show IsInt s from ⟨by rw [HDG.out]; exact hnum,by rw [HN.out]; intro h; cases h⟩)
        have hI:=intB_of (b:=false) (bb:=false) (k:=500) hv (isNum_lt hnum) rfl
        rw [show sg false (decL (byts s))=intVal s by unfold intVal; rw [HN.out,HDG.out]] at hI
        have HI:=Lib.hid hI
        have HSL:=Lib.hid (Slot.of (n:=2) ((heldN1 (w:=w)).below hb).1 rfl)
        have HRR:=Lib.hid (fin_int HI.out HSL.out (by decide) (bel_on (bel_alloc _ _) hb) (Nat.le_refl _))
        obtain ⟨xR,yR,hxR,hyR,hfxR,hfyR⟩:=HSL.out.two
        clear hnum hv hb hI
        go_wp2
        refine bodyPost_ret (v:=.tuple #[.agg #[.bool false,.slice ad len cap],.bool true]) (by simp [results,Tryz.results113,go_sem,HRR.out.2.2.1,HRR.out.2.2.2]) rfl (.inl ⟨HOK.out,_,rfl,HRR.out.1,HRR.out.2.1⟩)
      · have HNO:=Lib.hid (show ¬ IsInt s from fun h=>hnum (by rw [← HDG.out]; exact h.1))
        have HH:=Lib.hid ((heldN1 (w:=w)).below hb)
        have HB:=Lib.hid (bel_on (bel_alloc _ _) hb)
        clear hb hnum
        have hslR:=(Slot.of (n:=2) HH.out.1 rfl)
        obtain ⟨xR,yR,hxR,hyR,hfxR,hfyR⟩:=hslR.two
        have HRR:=Lib.hid (fin_int (IntB.zero 202 _ 0) hslR (by decide) HB.out (by omega))
        clear hslR
        go_wp2
        refine bodyPost_ret (v:=.tuple #[.agg #[.bool false,.slice none 0 0],.bool false]) (by simp [results,Tryz.results113,go_sem,HRR.out.2.2.1,HRR.out.2.2.2]) rfl (.inr ⟨HNO.out,rfl,HRR.out.2.1⟩)
end Go.Proofs.YthffkbbcofbceaaGreatDoor

namespace Go.Proofs.YthffkbbcofbceaaGreatDoor
open Go.RowKit Cin
theorem hStrT:Tryz.prog.underlying 9=some .string:=by kernel_rfl
def DenV (w:World) (d:Value) (q:Rat):Prop:=∃ n,RefV 202 w d n∧(n=q.den∨(n=0∧q.den=1))
def DQ (w:World) (a b d:Value) (q:Rat) (k:Nat):Prop:=IB w a b q.num k∧DenV w d q∧q.den < pw k
def DRatB (w:World) (v:Value) (q:Rat) (k:Nat):Prop:=∃ a b d,v=.agg #[a,b,d]∧DQ w a b d q k
theorem mD {D:TypeId→Bool} (a b d:Value) (q:Rat) (k:Nat) (hD:D 202=true:=by rfl):Mono D fun w=>DQ w a b d q k:=fun _ _ e ⟨h1,⟨n,h2,hn⟩,h3⟩=>⟨h1.ext e hD,⟨n,h2.ext e hD,hn⟩,h3⟩
theorem dpl {w:World} {a b d:Value} {q:Rat} {k:Nat} (h:DQ w a b d q k):[a,b,d].all Value.oneCell'=true:=by
  have p1:=ipl h.1
  obtain ⟨n,h2,_⟩:=h.2.1
  obtain ⟨ad,len,cap,_,rfl,_⟩:=h2.shape
  simp only [List.all_cons,List.all_nil,Bool.and_true,Bool.and_eq_true] at p1 ⊢
  exact ⟨p1.1,p1.2,rfl⟩
theorem ibr {w:World} {x y:Value} {z:Int} {k:Nat} (h:IB w x y z k):RefB w y z.natAbs k:=by
  obtain ⟨⟨s,e,r⟩,hk⟩:=h
  cases e
  exact ⟨r,hk⟩
theorem cmpI_one (n:Nat):(cmpI n 1 == 0)=decide (n=1):=by
  unfold cmpI
  by_cases h1:n < 1
  · rw [if_pos h1]; simp; omega
  · rw [if_neg h1]
    by_cases h2:1 < n
    · rw [if_pos h2]; simp; omega
    · rw [if_neg h2]; simp; omega
theorem cmpI_one' (n:Nat):(cmpI n 1 != 0)=decide (n≠1):=by
  have:=cmpI_one n
  simp only [bne,this,decide_not]
end Go.Proofs.YthffkbbcofbceaaGreatDoor

namespace Go.Proofs.YthffkbbcofbceaaGreatDoor
open Go.RowKit Cin
def slashAt (s:ByteArray):Int:=Lib.indexByte s.data.toList 47
def nPart (s:ByteArray):ByteArray:=s.extract 0 (slashAt s).toNat
def dPart (s:ByteArray):ByteArray:=s.extract ((slashAt s).toNat+1) s.size
def RatOk (s:ByteArray):Prop:=(slashAt s < 0∧IsInt s)∨(0≤slashAt s∧IsInt (nPart s)∧IsNum (byts (dPart s))∧1 < decL (byts (dPart s))∧Nat.gcd (decL (byts (dPart s))) (intVal (nPart s)).natAbs=1)
def ratVal (s:ByteArray):Rat:=if slashAt s < 0 then mkRat (intVal s) 1 else mkRat (intVal (nPart s)) (decL (byts (dPart s)))
theorem slash_lt (s:ByteArray):slashAt s < s.size:=by
  unfold slashAt
  by_cases h:Lib.indexByte s.data.toList 47 < 0
  · omega
  · obtain ⟨o,ho⟩:=Int.eq_ofNat_of_zero_le (Int.not_lt.1 h)
    have:=(Lib.indexByte_some ho).1
    have h2:=(List.getElem?_eq_some_iff.1 this).1
    have e:s.data.toList.length=s.size:=by rw [Array.length_toList]; rfl
    omega
theorem ratVal_int {s:ByteArray} (h:slashAt s < 0):(ratVal s).num=intVal s∧(ratVal s).den=1:=by
  unfold ratVal
  rw [if_pos h]
  exact rat_of (by decide) (Nat.coprime_one_right _) rfl
theorem ratVal_quo {s:ByteArray} (h:0≤slashAt s) (h1:1 < decL (byts (dPart s))) (h2:Nat.gcd (decL (byts (dPart s))) (intVal (nPart s)).natAbs=1):(ratVal s).num=intVal (nPart s)∧(ratVal s).den=decL (byts (dPart s)):=by
  unfold ratVal
  rw [if_neg (by omega)]
  exact rat_of (by omega) (by rw [Nat.coprime_comm]; exact h2) rfl
theorem rparseY (s:ByteArray) (w:World) (h:IsInt s):Calls Tryz.prog 113 #[.string s] w fun e w'=>∃ v,e=.returned (.tuple #[v,.bool true])∧IntB 202 w' v (intVal s) 500∧Below w.heap.size w w':=
  (rparse_any s w).mono fun e w' hp=>by
    rcases hp with ⟨_,h⟩ | ⟨hn,_⟩
    · exact h
    · exact absurd h hn
theorem rparseN (s:ByteArray) (w:World) (h:¬ IsInt s):Calls Tryz.prog 113 #[.string s] w fun e w'=>e=.returned (.tuple #[.agg #[.bool false,.slice none 0 0],.bool false])∧Below w.heap.size w w':=
  (rparse_any s w).mono fun e w' hp=>by
    rcases hp with ⟨hn,_⟩ | ⟨_,h⟩
    · exact absurd hn h
    · exact h
theorem nparseY (s:ByteArray) (w:World) (h:IsNum (byts s)):Calls Tryz.prog 115 #[.string s] w fun e w'=>∃ v,e=.returned (.tuple #[v,.bool true])∧(RefV 202 w' v (decL (byts s))∧decL (byts s) < pw 500)∧Below w.heap.size w w':=
  (refParse_any s w).mono fun e w' hp=>by
    rcases hp with ⟨hn,v,e1,h1,h2⟩ | ⟨hn,_⟩
    · exact ⟨v,e1,⟨h1,isNum_lt hn⟩,h2⟩
    · exact absurd h hn
theorem nparseN (s:ByteArray) (w:World) (h:¬ IsNum (byts s)):Calls Tryz.prog 115 #[.string s] w fun e w'=>e=.returned (.tuple #[.slice none 0 0,.bool false])∧Below w.heap.size w w':=
  (refParse_any s w).mono fun e w' hp=>by
    rcases hp with ⟨hn,_⟩ | ⟨_,h⟩
    · exact absurd hn h
    · exact h
def Srch (s:ByteArray) (cs:List Value):Prop:=∃ (p:Int) (i:Nat),cs=[.int .i64 p,.int .i64 i]∧i≤s.size ∧
  ((p=-1∧∀ k,k < i→s.data.toList[k]?≠some 47)∨(∃ o:Nat,p=o∧o < i∧s.data.toList[o]?=some 47∧∀ k,k < o→s.data.toList[k]?≠some 47))
theorem index_of {l:List UInt8} {c:UInt8} {o:Nat} (h:l[o]?=some c) (hn:∀ k,k < o→l[k]?≠some c):Lib.indexByte l c=o:=by
  by_cases h0:Lib.indexByte l c < 0
  · have:=Lib.indexByte_ge l c
    exact absurd h (Lib.indexByte_none (show Lib.indexByte l c=-1 by omega) o)
  · obtain ⟨m,hm⟩:=Int.eq_ofNat_of_zero_le (Int.not_lt.1 h0)
    obtain ⟨h1,h2⟩:=Lib.indexByte_some hm
    rcases Nat.lt_trichotomy m o with h3 | h3 | h3
    · exact absurd h1 (hn m h3)
    · omega
    · exact absurd h (h2 o h3)
theorem index_no {l:List UInt8} {c:UInt8} (hn:∀ k,k < l.length→l[k]?≠some c):Lib.indexByte l c=-1:=by
  by_cases h0:Lib.indexByte l c < 0
  · have:=Lib.indexByte_ge l c; omega
  · obtain ⟨m,hm⟩:=Int.eq_ofNat_of_zero_le (Int.not_lt.1 h0)
    obtain ⟨h1,_⟩:=Lib.indexByte_some hm
    exact absurd h1 (hn m (List.getElem?_eq_some_iff.1 h1).1)
theorem bytes_len (s:ByteArray):s.data.toList.length=s.size:=by rw [Array.length_toList]; rfl
def Smu (s:ByteArray):List Value→Nat
  | [_,.int _ i]=>s.size - i.toNat
  | _=>0
theorem wrap_small {z:Int} (h0:0≤z) (h1:z≤9223372036854775807):IntKind.i64.wrap z=z:=by
  unfold IntKind.wrap
  simp [IntKind.signed,IntKind.bits]
  omega
end Go.Proofs.YthffkbbcofbceaaGreatDoor

namespace Go.Proofs.YthffkbbcofbceaaGreatDoor
open Go.RowKit Cin
theorem cmpI_le (n:Nat):decide (cmpI n 1≤0)=decide (¬ 1 < n):=by
  unfold cmpI
  by_cases h1:n < 1
  · rw [if_pos h1]; simp; omega
  · rw [if_neg h1]
    by_cases h2:1 < n
    · rw [if_pos h2]; simp; omega
    · rw [if_neg h2]; simp; omega
def RQPost (s:ByteArray) (w:World) (e:Ending) (w':World):Prop:=
  (RatOk s∧∃ v,e=.returned (.tuple #[v,.bool true])∧DRatB w' v (ratVal s) 500∧Below w.heap.size w w') ∨
  (¬ RatOk s∧∃ a b d,e=.returned (.tuple #[.agg #[a,b,d],.bool false])∧[a,b,d].all Value.oneCell'=true∧Below w.heap.size w w')
set_option maxHeartbeats 4000000 in
theorem dparse_any (s:ByteArray) (w:World) (hs:s.size≤9223372036854775807):Calls Tryz.prog 63 #[.string s] w (RQPost s w):=by
  have hlt:=slash_lt s
  refine go (fun _=>True) [[.string s]] [none] (tr:=(.loop 0 [.k (.int .i64 (Int.negSucc 0)),.k (.int .i64 0)] (.em (.pr (.call (.mk (.builtin .len) #[.tmp 0] #[9])) 3 [.s (.c 0 0)]) (.em (.pr (.binOp .lss 3 (.tmp 0) (.tmp 1) 3) 4 [.s (.c 1 1),.s (.c 2 0)]) (.cond (.c 3 0) (.em (.pr (.binOp .lss 3 (.tmp 0) (.const (.int .i64 0)) 3) 4 [.s (.c 1 0),.s (.k (.int .i64 0))]) (.cond (.c 4 0) (.em (.pr (.index 9 (.tmp 0) (.tmp 1)) 5 [.s (.c 0 0),.s (.c 1 1)]) (.em (.pr (.binOp .eql 5 (.tmp 0) (.const (.int .u8 47)) 5) 4 [.s (.c 5 0),.s (.k (.int .u8 47))]) (.cond (.c 6 0) (.em (.pr (.binOp .add 3 (.tmp 0) (.const (.int .i64 1)) 3) 3 [.s (.c 1 1),.s (.k (.int .i64 1))]) (.back 0 [.c 1 1,.c 7 0])) (.em (.pr (.binOp .add 3 (.tmp 0) (.const (.int .i64 1)) 3) 3 [.s (.c 1 1),.s (.k (.int .i64 1))]) (.back 0 [.c 1 0,.c 7 0]))))) (.em (.pr (.binOp .lss 3 (.tmp 0) (.const (.int .i64 0)) 3) 4 [.s (.c 1 0),.s (.k (.int .i64 0))]) (.cond (.c 5 0) (.em (.call 113 [.s (.c 0 0)] [some 2,none]) (.em (.call 114 [.s (.k (.int .u64 1))] [none]) (.ret (.t [.g [.c 6 0,.c 6 1,.c 7 0],.s (.c 6 2)])))) (.em (.pr (.slice 9 (.tmp 0) none (some (.tmp 1)) none) 9 [.s (.c 0 0),.s (.c 1 0)]) (.em (.call 113 [.s (.c 6 0)] [some 2,none]) (.em (.pr (.binOp .add 3 (.tmp 0) (.const (.int .i64 1)) 3) 3 [.s (.c 1 0),.s (.k (.int .i64 1))]) (.em (.pr (.slice 9 (.tmp 0) (some (.tmp 1)) none none) 9 [.s (.c 0 0),.s (.c 8 0)]) (.em (.call 115 [.s (.c 9 0)] [none,none]) (.em (.pr (.unOp .not 4 (.tmp 0)) 4 [.s (.c 7 2)]) (.cond (.c 11 0) (.ret (.t [.g [.k (.bool false),.k (.slice none 0 0),.k (.slice none 0 0)],.s (.k (.bool false))])) (.em (.pr (.unOp .not 4 (.tmp 0)) 4 [.s (.c 10 1)]) (.cond (.c 12 0) (.ret (.t [.g [.k (.bool false),.k (.slice none 0 0),.k (.slice none 0 0)],.s (.k (.bool false))])) (.em (.call 114 [.s (.k (.int .u64 1))] [none]) (.em (.call 116 [.s (.c 10 0),.s (.c 13 0)] [none]) (.em (.pr (.binOp .leq 3 (.tmp 0) (.const (.int .i64 0)) 3) 4 [.s (.c 14 0),.s (.k (.int .i64 0))]) (.cond (.c 15 0) (.ret (.t [.g [.k (.bool false),.k (.slice none 0 0),.k (.slice none 0 0)],.s (.k (.bool false))])) (.em (.call 117 [.s (.c 10 0),.s (.c 7 1)] [none]) (.em (.call 114 [.s (.k (.int .u64 1))] [none]) (.em (.call 116 [.s (.c 16 0),.s (.c 17 0)] [none]) (.em (.pr (.binOp .neq 3 (.tmp 0) (.const (.int .i64 0)) 3) 4 [.s (.c 18 0),.s (.k (.int .i64 0))]) (.cond (.c 19 0) (.ret (.t [.g [.k (.bool false),.k (.slice none 0 0),.k (.slice none 0 0)],.s (.k (.bool false))])) (.ret (.t [.g [.c 7 0,.c 7 1,.c 10 0],.s (.k (.bool true))])))))))))))))))))))))))) (.em (.pr (.binOp .lss 3 (.tmp 0) (.const (.int .i64 0)) 3) 4 [.s (.c 1 0),.s (.k (.int .i64 0))]) (.cond (.c 4 0) (.em (.call 113 [.s (.c 0 0)] [some 2,none]) (.em (.call 114 [.s (.k (.int .u64 1))] [none]) (.ret (.t [.g [.c 5 0,.c 5 1,.c 6 0],.s (.c 5 2)])))) (.em (.pr (.slice 9 (.tmp 0) none (some (.tmp 1)) none) 9 [.s (.c 0 0),.s (.c 1 0)]) (.em (.call 113 [.s (.c 5 0)] [some 2,none]) (.em (.pr (.binOp .add 3 (.tmp 0) (.const (.int .i64 1)) 3) 3 [.s (.c 1 0),.s (.k (.int .i64 1))]) (.em (.pr (.slice 9 (.tmp 0) (some (.tmp 1)) none none) 9 [.s (.c 0 0),.s (.c 7 0)]) (.em (.call 115 [.s (.c 8 0)] [none,none]) (.em (.pr (.unOp .not 4 (.tmp 0)) 4 [.s (.c 6 2)]) (.cond (.c 10 0) (.ret (.t [.g [.k (.bool false),.k (.slice none 0 0),.k (.slice none 0 0)],.s (.k (.bool false))])) (.em (.pr (.unOp .not 4 (.tmp 0)) 4 [.s (.c 9 1)]) (.cond (.c 11 0) (.ret (.t [.g [.k (.bool false),.k (.slice none 0 0),.k (.slice none 0 0)],.s (.k (.bool false))])) (.em (.call 114 [.s (.k (.int .u64 1))] [none]) (.em (.call 116 [.s (.c 9 0),.s (.c 12 0)] [none]) (.em (.pr (.binOp .leq 3 (.tmp 0) (.const (.int .i64 0)) 3) 4 [.s (.c 13 0),.s (.k (.int .i64 0))]) (.cond (.c 14 0) (.ret (.t [.g [.k (.bool false),.k (.slice none 0 0),.k (.slice none 0 0)],.s (.k (.bool false))])) (.em (.call 117 [.s (.c 9 0),.s (.c 6 1)] [none]) (.em (.call 114 [.s (.k (.int .u64 1))] [none]) (.em (.call 116 [.s (.c 15 0),.s (.c 16 0)] [none]) (.em (.pr (.binOp .neq 3 (.tmp 0) (.const (.int .i64 0)) 3) 4 [.s (.c 17 0),.s (.k (.int .i64 0))]) (.cond (.c 18 0) (.ret (.t [.g [.k (.bool false),.k (.slice none 0 0),.k (.slice none 0 0)],.s (.k (.bool false))])) (.ret (.t [.g [.c 6 0,.c 6 1,.c 9 0],.s (.k (.bool true))]))))))))))))))))))))))))))) (by kernel_rfl) (by kernel_rfl) (by kernel_rfl) Mono.true trivial ⟨rfl,trivial⟩ ?_
  refine wLoop (fun cs _=>Srch s cs) (fun _ _ _ _ h=>h) (Smu s) (fun w _=>⟨-1,0,rfl,by omega,.inl ⟨rfl,fun k hk=>by omega⟩⟩) (fun cs _=>?_)
  intro hm u hF
  obtain ⟨⟨p,i,rfl,hi,hcase⟩,_⟩:=id hF
  refine wMono Mono.true (fun _ _=>trivial) ?_ hm u hF
  clear hm hF
  refine wPr (prLenS hStrT rfl) rfl ?_
  refine wPr (prLt rfl rfl) rfl ?_
  refine wIf _ rfl (fun e=>?_) (fun e=>?_)
  · have hil : i < s.size := by have : (i : Int) < s.size := by simpa using e
                                omega
    refine wPr (prLt rfl rfl) rfl ?_
    refine wIf _ rfl (fun e=>?_) (fun e=>?_)
    · have hp0:p < 0:=by simpa using e
      have hno:p=-1∧∀ k,k < i→s.data.toList[k]?≠some 47:=by
        rcases hcase with h | ⟨o,h,_⟩
        · exact h
        · omega
      obtain ⟨b,hb⟩:∃ b,s.data.toList[i]?=some b:=⟨_,List.getElem?_eq_getElem (by rw [bytes_len]; exact hil)⟩
      refine wPr (prIdx hStrT rfl rfl hb) rfl ?_
      refine wPr (prEq rfl rfl) rfl ?_
      refine wIf _ rfl (fun e=>?_) (fun e=>?_)
      · have e1:b=47:=by
          have:(b.toNat:Int)=47:=by simpa using e
          have h47:(47:UInt8).toNat=47:=rfl
          exact UInt8.toNat_inj.1 (by omega)
        subst e1
        refine wPr (prAdd rfl rfl) rfl ?_
        rw [wrap_small (by omega) (by omega)]
        refine wBack fun w _=>⟨⟨i,i+1,rfl,by omega,.inr ⟨i,rfl,by omega,hb,hno.2⟩⟩,?_⟩
        show s.size - ((i:Int)+1).toNat < s.size - (i:Int).toNat
        omega
      · have e1:b≠47:=by
          intro h
          subst h
          simp at e
        refine wPr (prAdd rfl rfl) rfl ?_
        rw [wrap_small (by omega) (by omega)]
        refine wBack fun w _=>⟨⟨p,i+1,rfl,by omega,.inl ⟨hno.1,fun k hk=>?_⟩⟩,?_⟩
        · by_cases hki:k=i
          · subst hki; rw [hb]; intro h; cases h; exact e1 rfl
          · exact hno.2 k (by omega)
        · show s.size - ((i:Int)+1).toNat < s.size - (i:Int).toNat
          omega
    · have hp1:¬ p < 0:=by simpa using e
      have hsl:slashAt s=p:=by
        rcases hcase with h | ⟨o,h,h2,h3,h4⟩
        · omega
        · rw [h]; exact index_of h3 h4
      refine wPr (prLt rfl rfl) rfl ?_
      refine wIf _ rfl (fun e=>?_) (fun e=>?_)
      · have hp0:p < 0:=by simpa using e
        have hneg:slashAt s < 0:=by omega
        by_cases hi:IsInt s
        · refine wIntV hU (fun w b _=>rparseY s w hi) rfl (fun x1 y1=>?_)
          refine wRef hU (fun w b _=>rnatOf_one w) (fun x2=>?_)
          refine wRet fun w b ⟨h2,h1,_⟩=>.inl ⟨.inl ⟨hneg,hi⟩,_,rfl,⟨_,_,_,rfl,?_,⟨_,h2.1,.inl ?_⟩,?_⟩,b⟩
          · rw [(ratVal_int hneg).1]; exact h1
          · rw [(ratVal_int hneg).2]
          · rw [(ratVal_int hneg).2]; exact one_lt 500 (by decide)
        · refine wKnown [.bool false,.slice none 0 0,.bool false] (fun w b _=>rparseN s w hi) rfl rfl ?_
          refine wCall (fun cs w=>∃ x,cs=[x]∧x.oneCell'=true) (fun cs u w e h=>h) (fun w b _=>(rnatOf_one w).mono ?_) (fun cs=>?_)
          · rintro e w' ⟨v,rfl,h1,hb⟩
            obtain ⟨_,_,_,_,rfl,_⟩:=h1.1.shape
            exact ⟨[_],rfl,rfl,⟨_,rfl,rfl⟩,hb⟩
          · refine wRet fun w b ⟨⟨x,hc,hx⟩,_⟩=>?_
            subst hc
            refine .inr ⟨fun h=>?_,_,_,_,rfl,by simp only [List.all_cons,List.all_nil,Bool.and_true,Bool.and_eq_true]; exact ⟨rfl,rfl,hx⟩,b⟩
            rcases h with h | h
            · exact hi h.2
            · omega
      · have hp0:¬ p < 0:=by simpa using e
        refine wPr (prSlH hStrT rfl rfl (by omega) (by omega)) rfl ?_
        rw [show s.extract 0 p.toNat=nPart s by unfold nPart; rw [hsl]]
        by_cases hi:IsInt (nPart s)
        · refine wIntV hU (fun w b _=>rparseY (nPart s) w hi) rfl (fun x1 y1=>?_)
          refine wPr (prAdd rfl rfl) rfl ?_
          rw [wrap_small (by omega) (by omega)]
          refine wPr (prSlL hStrT rfl rfl (by omega) (by omega)) rfl ?_
          rw [show s.extract (p+1).toNat s.size=dPart s by unfold dPart; rw [hsl,show (p+1).toNat=p.toNat+1 by omega]]
          by_cases hj:IsNum (byts (dPart s))
          · refine wRefV hU (fun w b _=>nparseY (dPart s) w hj) rfl (fun x2=>?_)
            refine wPr (prNot rfl) rfl ?_
            refine wFalse rfl ?_
            refine wPr (prNot rfl) rfl ?_
            refine wFalse rfl ?_
            refine wRef hU (fun w b _=>rnatOf_one w) (fun x3=>?_)
            refine wVal (fun w b ⟨h3,h2,_⟩=>rcmpB _ _ _ 1 500 1 w h2 h3 (by decide) (by decide)) rfl ?_
            refine wPr (prLe rfl rfl) rfl ?_
            refine wIf _ rfl (fun e=>?_) (fun e=>?_)
            · have e1:¬ 1 < decL (byts (dPart s)):=by have:=(cmpI_le _).symm.trans e; simpa using this
              exact wRet fun w b _=>.inr ⟨fun h=>h.elim (fun h=>by omega) (fun h=>e1 h.2.2.2.1),_,_,_,rfl,rfl,b⟩
            · have e1:1 < decL (byts (dPart s)):=by have:=(cmpI_le _).symm.trans e; simpa using this
              refine wRef hU (fun w b ⟨_,h2,h1,_⟩=>rgcd_any _ _ _ _ 500 500 w h2 (ibr h1) (by decide) (by decide)) (fun x4=>?_)
              refine wRef hU (fun w b _=>rnatOf_one w) (fun x5=>?_)
              refine wVal (fun w b ⟨h5,h4,_⟩=>rcmpB _ _ _ 1 (500+500) 1 w h4 h5 (by decide) (by decide)) rfl ?_
              refine wPr (prNe rfl rfl) rfl ?_
              refine wIf _ rfl (fun e=>?_) (fun e=>?_)
              · have e2:Nat.gcd (decL (byts (dPart s))) (intVal (nPart s)).natAbs≠1:=by have:=(cmpI_one' _).symm.trans e; simpa using this
                exact wRet fun w b _=>.inr ⟨fun h=>h.elim (fun h=>by omega) (fun h=>e2 h.2.2.2.2),_,_,_,rfl,rfl,b⟩
              · have e2:Nat.gcd (decL (byts (dPart s))) (intVal (nPart s)).natAbs=1:=by have:=(cmpI_one' _).symm.trans e; simpa using this
                obtain ⟨q1,q2⟩:=ratVal_quo (by omega) e1 e2
                refine wRet fun w b ⟨_,_,_,h2,h1,_⟩=>.inl ⟨.inr ⟨by omega,hi,hj,e1,e2⟩,_,rfl,⟨_,_,_,rfl,?_,⟨_,h2.1,.inl ?_⟩,?_⟩,b⟩
                · rw [q1]; exact h1
                · rw [q2]
                · rw [q2]; exact h2.2
          · refine wKnown [.slice none 0 0,.bool false] (fun w b _=>nparseN (dPart s) w hj) rfl rfl ?_
            refine wPr (prNot rfl) rfl ?_
            refine wFalse rfl ?_
            refine wPr (prNot rfl) rfl ?_
            refine wTrue rfl ?_
            exact wRet fun w b _=>.inr ⟨fun h=>h.elim (fun h=>by omega) (fun h=>hj h.2.2.1),_,_,_,rfl,rfl,b⟩
        · refine wKnown [.bool false,.slice none 0 0,.bool false] (fun w b _=>rparseN (nPart s) w hi) rfl rfl ?_
          refine wPr (prAdd rfl rfl) rfl ?_
          rw [wrap_small (by omega) (by omega)]
          refine wPr (prSlL hStrT rfl rfl (by omega) (by omega)) rfl ?_
          rw [show s.extract (p+1).toNat s.size=dPart s by unfold dPart; rw [hsl,show (p+1).toNat=p.toNat+1 by omega]]
          by_cases hj:IsNum (byts (dPart s))
          · refine wRefV hU (fun w b _=>nparseY (dPart s) w hj) rfl (fun x2=>?_)
            refine wPr (prNot rfl) rfl ?_
            refine wTrue rfl ?_
            exact wRet fun w b _=>.inr ⟨fun h=>h.elim (fun h=>by omega) (fun h=>hi h.2.1),_,_,_,rfl,rfl,b⟩
          · refine wKnown [.slice none 0 0,.bool false] (fun w b _=>nparseN (dPart s) w hj) rfl rfl ?_
            refine wPr (prNot rfl) rfl ?_
            refine wTrue rfl ?_
            exact wRet fun w b _=>.inr ⟨fun h=>h.elim (fun h=>by omega) (fun h=>hi h.2.1),_,_,_,rfl,rfl,b⟩
  · have hil : ¬ i < s.size := by have : ¬ (i : Int) < s.size := by simpa using e
                                  omega
    have hsl:slashAt s=p:=by
      rcases hcase with h | ⟨o,h,h2,h3,h4⟩
      · rw [h.1]; exact index_no (fun k hk=>h.2 k (by rw [bytes_len] at hk; omega))
      · rw [h]; exact index_of h3 h4
    refine wPr (prLt rfl rfl) rfl ?_
    refine wIf _ rfl (fun e=>?_) (fun e=>?_)
    · have hp0:p < 0:=by simpa using e
      have hneg:slashAt s < 0:=by omega
      by_cases hi:IsInt s
      · refine wIntV hU (fun w b _=>rparseY s w hi) rfl (fun x1 y1=>?_)
        refine wRef hU (fun w b _=>rnatOf_one w) (fun x2=>?_)
        refine wRet fun w b ⟨h2,h1,_⟩=>.inl ⟨.inl ⟨hneg,hi⟩,_,rfl,⟨_,_,_,rfl,?_,⟨_,h2.1,.inl ?_⟩,?_⟩,b⟩
        · rw [(ratVal_int hneg).1]; exact h1
        · rw [(ratVal_int hneg).2]
        · rw [(ratVal_int hneg).2]; exact one_lt 500 (by decide)
      · refine wKnown [.bool false,.slice none 0 0,.bool false] (fun w b _=>rparseN s w hi) rfl rfl ?_
        refine wCall (fun cs w=>∃ x,cs=[x]∧x.oneCell'=true) (fun cs u w e h=>h) (fun w b _=>(rnatOf_one w).mono ?_) (fun cs=>?_)
        · rintro e w' ⟨v,rfl,h1,hb⟩
          obtain ⟨_,_,_,_,rfl,_⟩:=h1.1.shape
          exact ⟨[_],rfl,rfl,⟨_,rfl,rfl⟩,hb⟩
        · refine wRet fun w b ⟨⟨x,hc,hx⟩,_⟩=>?_
          subst hc
          refine .inr ⟨fun h=>?_,_,_,_,rfl,by simp only [List.all_cons,List.all_nil,Bool.and_true,Bool.and_eq_true]; exact ⟨rfl,rfl,hx⟩,b⟩
          rcases h with h | h
          · exact hi h.2
          · omega
    · have hp0:¬ p < 0:=by simpa using e
      refine wPr (prSlH hStrT rfl rfl (by omega) (by omega)) rfl ?_
      rw [show s.extract 0 p.toNat=nPart s by unfold nPart; rw [hsl]]
      by_cases hi:IsInt (nPart s)
      · refine wIntV hU (fun w b _=>rparseY (nPart s) w hi) rfl (fun x1 y1=>?_)
        refine wPr (prAdd rfl rfl) rfl ?_
        rw [wrap_small (by omega) (by omega)]
        refine wPr (prSlL hStrT rfl rfl (by omega) (by omega)) rfl ?_
        rw [show s.extract (p+1).toNat s.size=dPart s by unfold dPart; rw [hsl,show (p+1).toNat=p.toNat+1 by omega]]
        by_cases hj:IsNum (byts (dPart s))
        · refine wRefV hU (fun w b _=>nparseY (dPart s) w hj) rfl (fun x2=>?_)
          refine wPr (prNot rfl) rfl ?_
          refine wFalse rfl ?_
          refine wPr (prNot rfl) rfl ?_
          refine wFalse rfl ?_
          refine wRef hU (fun w b _=>rnatOf_one w) (fun x3=>?_)
          refine wVal (fun w b ⟨h3,h2,_⟩=>rcmpB _ _ _ 1 500 1 w h2 h3 (by decide) (by decide)) rfl ?_
          refine wPr (prLe rfl rfl) rfl ?_
          refine wIf _ rfl (fun e=>?_) (fun e=>?_)
          · have e1:¬ 1 < decL (byts (dPart s)):=by have:=(cmpI_le _).symm.trans e; simpa using this
            exact wRet fun w b _=>.inr ⟨fun h=>h.elim (fun h=>by omega) (fun h=>e1 h.2.2.2.1),_,_,_,rfl,rfl,b⟩
          · have e1:1 < decL (byts (dPart s)):=by have:=(cmpI_le _).symm.trans e; simpa using this
            refine wRef hU (fun w b ⟨_,h2,h1,_⟩=>rgcd_any _ _ _ _ 500 500 w h2 (ibr h1) (by decide) (by decide)) (fun x4=>?_)
            refine wRef hU (fun w b _=>rnatOf_one w) (fun x5=>?_)
            refine wVal (fun w b ⟨h5,h4,_⟩=>rcmpB _ _ _ 1 (500+500) 1 w h4 h5 (by decide) (by decide)) rfl ?_
            refine wPr (prNe rfl rfl) rfl ?_
            refine wIf _ rfl (fun e=>?_) (fun e=>?_)
            · have e2:Nat.gcd (decL (byts (dPart s))) (intVal (nPart s)).natAbs≠1:=by have:=(cmpI_one' _).symm.trans e; simpa using this
              exact wRet fun w b _=>.inr ⟨fun h=>h.elim (fun h=>by omega) (fun h=>e2 h.2.2.2.2),_,_,_,rfl,rfl,b⟩
            · have e2:Nat.gcd (decL (byts (dPart s))) (intVal (nPart s)).natAbs=1:=by have:=(cmpI_one' _).symm.trans e; simpa using this
              obtain ⟨q1,q2⟩:=ratVal_quo (by omega) e1 e2
              refine wRet fun w b ⟨_,_,_,h2,h1,_⟩=>.inl ⟨.inr ⟨by omega,hi,hj,e1,e2⟩,_,rfl,⟨_,_,_,rfl,?_,⟨_,h2.1,.inl ?_⟩,?_⟩,b⟩
              · rw [q1]; exact h1
              · rw [q2]
              · rw [q2]; exact h2.2
        · refine wKnown [.slice none 0 0,.bool false] (fun w b _=>nparseN (dPart s) w hj) rfl rfl ?_
          refine wPr (prNot rfl) rfl ?_
          refine wFalse rfl ?_
          refine wPr (prNot rfl) rfl ?_
          refine wTrue rfl ?_
          exact wRet fun w b _=>.inr ⟨fun h=>h.elim (fun h=>by omega) (fun h=>hj h.2.2.1),_,_,_,rfl,rfl,b⟩
      · refine wKnown [.bool false,.slice none 0 0,.bool false] (fun w b _=>rparseN (nPart s) w hi) rfl rfl ?_
        refine wPr (prAdd rfl rfl) rfl ?_
        rw [wrap_small (by omega) (by omega)]
        refine wPr (prSlL hStrT rfl rfl (by omega) (by omega)) rfl ?_
        rw [show s.extract (p+1).toNat s.size=dPart s by unfold dPart; rw [hsl,show (p+1).toNat=p.toNat+1 by omega]]
        by_cases hj:IsNum (byts (dPart s))
        · refine wRefV hU (fun w b _=>nparseY (dPart s) w hj) rfl (fun x2=>?_)
          refine wPr (prNot rfl) rfl ?_
          refine wTrue rfl ?_
          exact wRet fun w b _=>.inr ⟨fun h=>h.elim (fun h=>by omega) (fun h=>hi h.2.1),_,_,_,rfl,rfl,b⟩
        · refine wKnown [.slice none 0 0,.bool false] (fun w b _=>nparseN (dPart s) w hj) rfl rfl ?_
          refine wPr (prNot rfl) rfl ?_
          refine wTrue rfl ?_
          exact wRet fun w b _=>.inr ⟨fun h=>h.elim (fun h=>by omega) (fun h=>hi h.2.1),_,_,_,rfl,rfl,b⟩
end Go.Proofs.YthffkbbcofbceaaGreatDoor

namespace Go.Proofs.YthffkbbcofbceaaGreatDoor
open Go.RowKit Cin
theorem cutL_any (s:ByteArray) (w:World) (hs:s.size≤9223372036854775807) :
    Calls Tryz.prog 145 #[.string s,.string ⟨#[47]⟩] w fun e w'=>e=.returned (if 0≤slashAt s then .tuple #[.string (nPart s),.string (dPart s),.bool true] else .tuple #[.string s,.string ⟨#[]⟩,.bool false])∧Below w.heap.size w w':=by
  have hlt:=slash_lt s
  refine go (fun _=>True) [[.string s],[.string ⟨#[47]⟩]] [none,none] (tr:=(.em (.call 184 [.s (.c 0 0),.s (.c 1 0)] [none]) (.em (.pr (.binOp .geq 3 (.tmp 0) (.const (.int .i64 0)) 3) 4 [.s (.c 2 0),.s (.k (.int .i64 0))]) (.cond (.c 3 0) (.em (.pr (.slice 9 (.tmp 0) none (some (.tmp 1)) none) 9 [.s (.c 0 0),.s (.c 2 0)]) (.em (.pr (.call (.mk (.builtin .len) #[.tmp 0] #[9])) 3 [.s (.c 1 0)]) (.em (.pr (.binOp .add 3 (.tmp 0) (.tmp 1) 3) 3 [.s (.c 2 0),.s (.c 5 0)]) (.em (.pr (.slice 9 (.tmp 0) (some (.tmp 1)) none none) 9 [.s (.c 0 0),.s (.c 6 0)]) (.ret (.t [.s (.c 4 0),.s (.c 7 0),.s (.k (.bool true))])))))) (.ret (.t [.s (.c 0 0),.s (.k (.string ⟨#[]⟩)),.s (.k (.bool false))])))))) (by kernel_rfl) (by kernel_rfl) (by kernel_rfl) Mono.true trivial ⟨rfl,rfl,trivial⟩ ?_
  refine wVal (v:=.int .i64 (slashAt s)) (fun w b _=>(Tryz.stringslite_Index_one s 47 w).mono fun e w' ⟨h1,h2⟩=>⟨h1,by rw [h2]; exact Below.refl _ _⟩) rfl ?_
  refine wPr (prGe rfl rfl) rfl ?_
  refine wIf _ rfl (fun e=>?_) (fun e=>?_)
  · have h0:0≤slashAt s:=by simpa using e
    refine wPr (prSlH hStrT rfl rfl (by omega) (by omega)) rfl ?_
    refine wPr (prLenS hStrT rfl) rfl ?_
    refine wPr (prAdd rfl rfl) rfl ?_
    rw [show ((ByteArray.size ⟨#[47]⟩:Nat):Int)=1 from rfl,wrap_small (by omega) (by omega)]
    refine wPr (prSlL hStrT rfl rfl (by omega) (by omega)) rfl ?_
    refine wRet fun w b _=>⟨?_,b⟩
    rw [if_pos h0]
    unfold nPart dPart
    rw [show (slashAt s).toNat+1=(slashAt s+1).toNat by omega]
    rfl
  · have h0:¬ 0≤slashAt s:=by simpa using e
    exact wRet fun w b _=>⟨by rw [if_neg h0]; rfl,b⟩
theorem cut_any (s:ByteArray) (w:World) (hs:s.size≤9223372036854775807) :
    Calls Tryz.prog 107 #[.string s,.string ⟨#[47]⟩] w fun e w'=>e=.returned (if 0≤slashAt s then .tuple #[.string (nPart s),.string (dPart s),.bool true] else .tuple #[.string s,.string ⟨#[]⟩,.bool false])∧Below w.heap.size w w':=by
  refine go (fun _=>True) [[.string s],[.string ⟨#[47]⟩]] [none,none] (tr:=(.em (.call 145 [.s (.c 0 0),.s (.c 1 0)] [none,none,none]) (.ret (.t [.s (.c 2 0),.s (.c 2 1),.s (.c 2 2)])))) (by kernel_rfl) (by kernel_rfl) (by kernel_rfl) Mono.true trivial ⟨rfl,rfl,trivial⟩ ?_
  by_cases h0:0≤slashAt s
  · refine wKnown [.string (nPart s),.string (dPart s),.bool true] (fun w b _=>cutL_any s w hs) (by rw [if_pos h0]; rfl) rfl ?_
    exact wRet fun w b _=>⟨by rw [if_pos h0]; rfl,b⟩
  · refine wKnown [.string s,.string ⟨#[]⟩,.bool false] (fun w b _=>cutL_any s w hs) (by rw [if_neg h0]; rfl) rfl ?_
    exact wRet fun w b _=>⟨by rw [if_neg h0]; rfl,b⟩
theorem iparseY (s:ByteArray) (w:World) (h:IsInt s):Calls Tryz.prog 108 #[.string s] w fun e w'=>∃ v,e=.returned (.tuple #[v,.int .i64 0])∧IntB 202 w' v (intVal s) 500∧Below w.heap.size w w':=
  (iparse_any s w).mono fun e w' hp=>by
    rcases hp with ⟨_,h⟩ | ⟨hn,_⟩
    · exact h
    · exact absurd h hn
theorem num_int {s:ByteArray} (h:IsNum (byts s)):IsInt s∧intVal s=(decL (byts s):Nat):=by
  have hn:negT s=false:=by
    cases hneg:negT s with
    | false=>rfl
    | true=>
      unfold negT at hneg
      simp only [Bool.and_eq_true,decide_eq_true_eq] at hneg
      have h1:=h.1
      have:=h.2.2.2 (lim (byts s) 0) (by
        have hl:0 < (byts s).length:=by omega
        have:=getElem?_lim (xs:=byts s) hl
        exact List.mem_of_getElem? this)
      omega
  have hd:digT s=s:=by unfold digT; rw [hn]; rfl
  refine ⟨⟨by rw [hd]; exact h,by rw [hn]; intro h; cases h⟩,?_⟩
  unfold intVal
  rw [hn,hd]; rfl
theorem qparse_ok (s:ByteArray) (w:World) (hs:s.size≤9223372036854775807) (h:RatOk s) :
    Calls Tryz.prog 59 #[.string s] w fun e w'=>∃ v',e=.returned (.tuple #[v',.int .i64 0])∧RatB w' v' (ratVal s) 500∧Below w.heap.size w w':=by
  refine go (fun _=>True) [[.string s]] [none] (tr:=(.em (.call 107 [.s (.c 0 0),.s (.k (.string ⟨#[47]⟩))] [none,none,none]) (.em (.call 108 [.s (.c 1 0)] [some 2,none]) (.em (.pr (.binOp .neq 32 (.tmp 0) (.const (.int .i64 0)) 32) 4 [.s (.c 2 2),.s (.k (.int .i64 0))]) (.cond (.c 3 0) (.ret (.t [.g [.k (.bool false),.k (.slice none 0 0),.k (.bool false),.k (.slice none 0 0)],.s (.k (.int .i64 2))])) (.em (.pr (.unOp .not 4 (.tmp 0)) 4 [.s (.c 1 2)]) (.cond (.c 4 0) (.ret (.t [.g [.c 2 0,.c 2 1,.k (.bool false),.k (.slice none 0 0)],.s (.k (.int .i64 0))])) (.em (.call 108 [.s (.c 1 1)] [some 2,none]) (.em (.pr (.binOp .neq 32 (.tmp 0) (.const (.int .i64 0)) 32) 4 [.s (.c 5 2),.s (.k (.int .i64 0))]) (.cond (.c 6 0) (.ret (.t [.g [.k (.bool false),.k (.slice none 0 0),.k (.bool false),.k (.slice none 0 0)],.s (.k (.int .i64 2))])) (.em (.call 106 [.s (.k (.int .i64 1))] [some 2]) (.em (.call 99 [.g [.c 5 0,.c 5 1],.g [.c 7 0,.c 7 1]] [none]) (.em (.pr (.binOp .leq 3 (.tmp 0) (.const (.int .i64 0)) 3) 4 [.s (.c 8 0),.s (.k (.int .i64 0))]) (.cond (.c 9 0) (.ret (.t [.g [.k (.bool false),.k (.slice none 0 0),.k (.bool false),.k (.slice none 0 0)],.s (.k (.int .i64 2))])) (.em (.call 102 [.g [.c 2 0,.c 2 1],.g [.c 5 0,.c 5 1]] [some 2]) (.em (.call 109 [.g [.c 10 0,.c 10 1]] [none]) (.em (.pr (.unOp .not 4 (.tmp 0)) 4 [.s (.c 11 0)]) (.cond (.c 12 0) (.ret (.t [.g [.k (.bool false),.k (.slice none 0 0),.k (.bool false),.k (.slice none 0 0)],.s (.k (.int .i64 2))])) (.ret (.t [.g [.c 2 0,.c 2 1,.c 5 0,.c 5 1],.s (.k (.int .i64 0))])))))))))))))))))))) (by kernel_rfl) (by kernel_rfl) (by kernel_rfl) Mono.true trivial ⟨rfl,trivial⟩ ?_
  rcases h with ⟨hneg,hi⟩ | ⟨hpos,hi,hj,e1,e2⟩
  · refine wKnown [.string s,.string ⟨#[]⟩,.bool false] (fun w b _=>cut_any s w hs) (by rw [if_neg (by omega)]; rfl) rfl ?_
    refine wIntV hU (fun w b _=>iparseY s w hi) rfl (fun x1 y1=>?_)
    refine wPr (prNe rfl rfl) rfl ?_
    refine wFalse rfl ?_
    refine wPr (prNot rfl) rfl ?_
    refine wTrue rfl ?_
    obtain ⟨q1,q2⟩:=ratVal_int hneg
    refine wRet fun w b ⟨h1,_⟩=>⟨_,rfl,⟨_,_,_,_,rfl,?_,?_,?_⟩,b⟩
    · rw [q1]; exact h1
    · show IntB _ _ _ (denZ _) _
      unfold denZ
      rw [if_pos q2]; exact IntB.zero _ _ _
    · rw [q2]; exact one_lt 500 (by decide)
  · obtain ⟨hj1,hj2⟩:=num_int hj
    obtain ⟨q1,q2⟩:=ratVal_quo hpos e1 e2
    refine wKnown [.string (nPart s),.string (dPart s),.bool true] (fun w b _=>cut_any s w hs) (by rw [if_pos hpos]; rfl) rfl ?_
    refine wIntV hU (fun w b _=>iparseY _ w hi) rfl (fun x1 y1=>?_)
    refine wPr (prNe rfl rfl) rfl ?_
    refine wFalse rfl ?_
    refine wPr (prNot rfl) rfl ?_
    refine wFalse rfl ?_
    refine wIntV hU (z:=(decL (byts (dPart s)):Nat)) (fun w b _=>by rw [← hj2]; exact iparseY _ w hj1) rfl (fun x2 y2=>?_)
    refine wPr (prNe rfl rfl) rfl ?_
    refine wFalse rfl ?_
    refine wInt hU (fun w b _=>iof_any 1 w (by decide) (by decide)) (fun x3 y3=>?_)
    refine wVal (v:=.int .i64 1) (fun w b ⟨h3,h2,_⟩=>by
      have e:cmpZ ((decL (byts (dPart s)):Nat):Int) 1=1:=by unfold cmpZ; rw [if_neg (by omega),if_pos (by omega)]
      rw [← e]
      exact icmp_any _ _ _ 1 500 2 w h2 h3 (by decide) (by decide)) rfl ?_
    refine wPr (prLe rfl rfl) rfl ?_
    refine wFalse rfl ?_
    refine wInt hU (z:=1) (fun w b ⟨_,h2,h1,_⟩=>by
      have e:((Nat.gcd (intVal (nPart s)).natAbs ((decL (byts (dPart s)):Nat):Int).natAbs:Nat):Int)=1:=by rw [Int.natAbs_natCast,Nat.gcd_comm,e2]; rfl
      rw [← e]
      exact qgcd_any _ _ _ _ 500 500 w h1 h2 (by decide) (by decide)) (fun x4 y4=>?_)
    refine wVal (v:=.bool true) (fun w b ⟨h4,_⟩=>isOne_any _ 1 _ w h4 (by decide)) rfl ?_
    refine wPr (prNot rfl) rfl ?_
    refine wFalse rfl ?_
    refine wRet fun w b ⟨_,_,h2,h1,_⟩=>⟨_,rfl,⟨_,_,_,_,rfl,?_,?_,?_⟩,b⟩
    · rw [q1]; exact h1
    · show IntB _ _ _ (denZ _) _
      unfold denZ
      rw [if_neg (by omega),q2]; exact h2
    · rw [q2]; have:=h2.2; rwa [Int.natAbs_natCast] at this
end Go.Proofs.YthffkbbcofbceaaGreatDoor

namespace Go.Proofs.YthffkbbcofbceaaGreatDoor
open Go.RowKit Cin
section rules
variable {w0:World} {Post:Ending→World→Prop} {F:World→Prop} {L:LC} {E:Env} {tr:Tr} {f:FuncId} {ar:List V1} {args:Array Value}
end rules
theorem dparseY (s:ByteArray) (w:World) (hs:s.size≤9223372036854775807) (h:RatOk s):Calls Tryz.prog 63 #[.string s] w fun e w'=>∃ v,e=.returned (.tuple #[v,.bool true])∧DRatB w' v (ratVal s) 500∧Below w.heap.size w w':=
  (dparse_any s w hs).mono fun e w' hp=>by
    rcases hp with ⟨_,h⟩ | ⟨hn,_⟩
    · exact h
    · exact absurd h hn
theorem ext_size (s:ByteArray) (a b:Nat):(s.extract a b).size≤s.size:=by
  rw [← byts_length,byts_extract,List.length_take,List.length_drop,byts_length]; omega
theorem QB.cut {w:World} {a b c d:Value} {q:Rat} {k j:Nat} (h:QB w a b c d q k) (hn:q.num.natAbs < pw j) (hd:q.den < pw j):QB w a b c d q j:=
  ⟨⟨h.1.1,hn⟩,⟨h.2.1.1,by unfold denZ; split <;> (first | exact pw_pos j | (rw [Int.natAbs_natCast]; exact hd))⟩,hd⟩
theorem DQ.mono {w:World} {a b d:Value} {q:Rat} {k j:Nat} (h:DQ w a b d q k) (hj:k≤j):DQ w a b d q j:=⟨h.1.mono hj,h.2.1,lt_pw_mono h.2.2 hj⟩
theorem DQ.cut {w:World} {a b d:Value} {q:Rat} {k j:Nat} (h:DQ w a b d q k) (hn:q.num.natAbs < pw j) (hd:q.den < pw j):DQ w a b d q j:=⟨⟨h.1.1,hn⟩,h.2.1,hd⟩
end Go.Proofs.YthffkbbcofbceaaGreatDoor
