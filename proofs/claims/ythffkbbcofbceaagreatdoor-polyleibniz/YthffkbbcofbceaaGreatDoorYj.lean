/- The contract of whole's Div, over what nat's Div tells. -/
import Derived.Test.YthffkbbcofbceaaGreatDoorYi
import Derived.Test.YthffkbbcofbceaaGreatDoorYa
import Derived.Test.YthffkbbcofbceaaGreatDoorYg
import Derived.BigGuard
namespace Go.Proofs.YthffkbbcofbceaaGreatDoor
open Go.RowKit Cin
def qF (u:Bool) (q r:Nat):Int:=if (u && !decide (r=0))=true then sg u (q+1) else sg u q
def rF (u b:Bool) (r y:Nat):Int:=if (u && !decide (r=0))=true then sg b (y - r) else sg b r
def divQ (x y:Int):Int:=qF (!(decide (x < 0) == decide (y < 0))) (x.natAbs / y.natAbs) (x.natAbs % y.natAbs)
def divR (x y:Int):Int:=rF (!(decide (x < 0) == decide (y < 0))) (decide (y < 0)) (x.natAbs % y.natAbs) y.natAbs
theorem ofB_one (w:World):Calls Tryz.prog 144 #[.int .u64 1] w fun e w'=>∃ v',e=.returned v'∧NatB 202 w' v' 1 2∧Below w.heap.size w w':=ofB 1 w (by decide)
def DivTells (x y k j:Nat):Prop:=∀ (w:World) (v u:Value),NatB 202 w v x k→NatB 202 w u y j →
  Calls Tryz.prog 180 #[v,u] w fun e w'=>∃ v' u',e=.returned (.tuple #[v',u',.bool true])∧NatB 202 w' v' (x / y) k∧NatB 202 w' u' (x % y) j∧Below w.heap.size w w'
set_option maxRecDepth 100000 in
set_option maxHeartbeats 4000000 in
theorem idiv_of (v u:Value) (x y:Int) (k j:Nat) (w:World) (h:IntB 202 w v x k) (h':IntB 202 w u y j) (hk:k≤4000000) (hj:j≤4000000) (hD:DivTells x.natAbs y.natAbs k j) (hy:y≠0) :
    Calls Tryz.prog 142 #[v,u] w fun e w'=>∃ v' u',e=.returned (.tuple #[v',u',.bool true])∧IntB 202 w' v' (divQ x y) (k+3)∧IntB 202 w' u' (divR x y) j∧Below w.heap.size w w':=by
  obtain ⟨ad,len,cap,rfl,hr⟩:=h.shape
  obtain ⟨ad',len',cap',rfl,hr'⟩:=h'.shape
  have H:=Lib.hid h.part.1
  have H':=Lib.hid h'.part.1
  have HD:=Lib.hid hD
  clear h hr h' hr' hD
  have HM:=Lib.hid (Nat.mod_lt x.natAbs (show 0 < y.natAbs by omega))
  have HQV:=Lib.hid (show divQ x y=qF (!(decide (x < 0) == decide (y < 0))) (x.natAbs / y.natAbs) (x.natAbs % y.natAbs) from rfl)
  have HRV:=Lib.hid (show divR x y=rF (!(decide (x < 0) == decide (y < 0))) (decide (y < 0)) (x.natAbs % y.natAbs) y.natAbs from rfl)
  generalize divQ x y=dq at *
  generalize divR x y=dr at *
  generalize decide (x < 0)=bx at *
  generalize decide (y < 0)=bz at *
  generalize hyn:y.natAbs=yn at *
  generalize hxn:x.natAbs=xn at *
  generalize hqn:xn / yn=q at *
  generalize hrn:xn % yn=r at *
  clear hyn hxn
  go_enter Tryz.func142,Tryz.ntmps142
  go_wp2_with fail
  refine (HD.out _ _ _ (H.out.below (bel_alloc4 _ _ _ _ _)) (H'.out.below (bel_alloc4 _ _ _ _ _))).mono ?_
  rintro e w1 ⟨v1,u1,rfl,hn1,hm1,hb1⟩
  rw [hrn] at hm1
  rw [hqn] at hn1
  clear hrn hqn
  obtain ⟨adq,lq,cq,rfl⟩:=hn1.shape2
  obtain ⟨adr,lr,cr,rfl⟩:=hm1.shape2
  have hh:=(((heldN4 (w:=w)).below hb1).new #[Value.slice adq lq cq] 52).new #[Value.slice adr lr cr] 52
  have hbX:=bel_on (bel_on (bel_alloc4 _ _ _ _ _) hb1) (bel_alloc2 w1 (Obj.cells #[Value.slice adq lq cq] 52) (Obj.cells #[Value.slice adr lr cr] 52))
  have hnX:=hn1.below (bel_alloc2 w1 (Obj.cells #[Value.slice adq lq cq] 52) (Obj.cells #[Value.slice adr lr cr] 52))
  have hmX:=hm1.below (bel_alloc2 w1 (Obj.cells #[Value.slice adq lq cq] 52) (Obj.cells #[Value.slice adr lr cr] 52))
  have hs1:=hb1.size
  simp only [World.size_alloc] at hh hs1
  have hcr:=cell0 hh.1
  have hcq:=cell0 hh.2.1
  have hca:=cell0 hh.2.2.1
  have hcb0:=cell0 hh.2.2.2.1
  have hcb1:=cell1 hh.2.2.2.1
  have HS2:=Lib.hid (Slot.of (n:=2) hh.2.2.2.2.1 rfl)
  have HS3:=Lib.hid (Slot.of (n:=2) hh.2.2.2.2.2.1 rfl)
  have HBX:=Lib.hid hbX
  have HNX:=Lib.hid hnX
  have HMX:=Lib.hid hmX
  have HHX:=Lib.hid hh
  clear hn1 hm1 hb1 hh hbX hnX hmX
  by_cases hun:(bx == bz)=true
  · have hun':(!(bx == bz))=false:=by rw [hun]; rfl
    have HQV2:=Lib.hid (show dq=sg false q by have:=HQV.out; rw [hun'] at this; simpa [qF] using this)
    have HRV2:=Lib.hid (show dr=sg bz r by have:=HRV.out; rw [hun'] at this; simpa [rF] using this)
    clear HQV HRV
    go_wp2_with fail
    generalize (w1.alloc (Obj.cells #[Value.slice adq lq cq] 52)).alloc (Obj.cells #[Value.slice adr lr cr] 52)=X at *
    clear hun hun' hca
    have HQX:=Lib.hid (HNX.out.below (Below.refl _ X).drew)
    have HRX:=Lib.hid (HMX.out.below (Below.refl _ X).drew)
    refine wp_region_sched (fun w'=>w'.cell? ⟨w1.heap.size,0,none⟩=some (.slice adq lq cq)∧w'.cell? ⟨w1.heap.size+1,0,none⟩=some (.slice adr lr cr)∧w'.cell? ⟨w.heap.size+1,0,none⟩=some (.bool bz)∧Slot w' (w.heap.size+1+1) 54 2∧Slot w' (w.heap.size+1+1+1) 54 2∧Below w.heap.size w w') [(0,true),(1,true),(3,true),(4,true),(5,true),(2,false),(6,false),(7,false),(8,false),(9,true)] (by kernel_rfl) (by kernel_rfl) ?_ (fun hHeld=>?_)
    · (try dsimp only)
      exact ⟨hcq,hcr,hcb0,HS2.out.drew,HS3.out.drew,HBX.out.drew⟩
    try dsimp only at hHeld
    repeat (refine wpSched_at (by simp only [List.getElem?_toArray,List.getElem?_cons_zero,List.getElem?_cons_succ]; rfl) ?_; (first | (apply wpAt_take rfl; (intro wx hSx; (try dsimp only at hSx); go_simp; (try with_reducible rfl)); simp only [Act.put,List.setIfInBounds_toArray,List.set_cons_zero,List.set_cons_succ]) | (refine wpAt_skip rfl ?_; simp only [Act.put,List.setIfInBounds_toArray,List.set_cons_zero,List.set_cons_succ]) | (refine wpAt_pass rfl hHeld ?_; simp only [Act.put,List.setIfInBounds_toArray,List.set_cons_zero,List.set_cons_succ]) | (refine wpAt_eff rfl (fun K hK=>?_); ((obtain ⟨x0,y0,hx0,hy0,hfx0,hfy0⟩:=hHeld.2.2.2.1.two); (try simp only [cell_drew,frozen_drew] at hx0 hy0 hfx0 hfy0); (obtain ⟨x1,y1,hx1,hy1,hfx1,hfy1⟩:=hHeld.2.2.2.2.1.two); (try simp only [cell_drew,frozen_drew] at hx1 hy1 hfx1 hfy1)); go_simp; (first | (go_at_call 137; (with_reducible refine (signed_any false (.agg #[.slice adq lq cq]) (q) (k) _ ?_ (by omega)).mono ?_); (exact HQX.out); rintro e w' ⟨vq,rfl,hn,hb⟩; (try replace NQ:=Lib.hid (NQ.out.below hb)); (try replace HQX:=Lib.hid (HQX.out.below hb)); (try replace HRX:=Lib.hid (HRX.out.below hb)); have NQ:=Lib.hid hn; obtain ⟨bbQ,adQ,lenQ,capQ,rfl,hrQ⟩:=NQ.out.shape2; have hS:=And.intro trivial (And.intro (cell_below hHeld.1 hb) (And.intro (cell_below hHeld.2.1 hb) (And.intro (cell_below hHeld.2.2.1 hb) (And.intro (hHeld.2.2.2.1.below hb) (And.intro (hHeld.2.2.2.2.1.below hb) (bel_on hHeld.2.2.2.2.2 hb)))))); clear hb hHeld hn) | (go_at_call 137; (with_reducible refine (signed_any bz (.agg #[.slice adr lr cr]) (r) (j) _ ?_ (by omega)).mono ?_); (exact HRX.out); rintro e w' ⟨vr,rfl,hn,hb⟩; (try replace NQ:=Lib.hid (NQ.out.below hb)); (try replace HQX:=Lib.hid (HQX.out.below hb)); (try replace HRX:=Lib.hid (HRX.out.below hb)); have NR:=Lib.hid hn; obtain ⟨bbR,adR,lenR,capR,rfl,hrR⟩:=NR.out.shape2; have hS:=And.intro trivial (And.intro (cell_below hHeld.1 hb) (And.intro (cell_below hHeld.2.1 hb) (And.intro (cell_below hHeld.2.2.1 hb) (And.intro (hHeld.2.2.2.1.below hb) (And.intro (hHeld.2.2.2.2.1.below hb) (bel_on hHeld.2.2.2.2.2 hb)))))); clear hb hHeld hn) | (try simp only [cell_drew,slot_drew,below_drew] at hHeld)); (refine hK.out _ _ ?_ (fun hHeld=>?_)); ((try dsimp only); ((try simp only [cell_drew,slot_drew,below_drew]); refine ⟨?_,?_,?_,?_,?_,?_⟩; (first | exact hS.2.1 | with_reducible exact cell_set hHeld.1 (by omega) | with_reducible exact cell_set (cell_set hHeld.1 (by omega)) (by omega)); (first | exact hS.2.2.1 | with_reducible exact cell_set hHeld.2.1 (by omega) | with_reducible exact cell_set (cell_set hHeld.2.1 (by omega)) (by omega)); (first | exact hS.2.2.2.1 | with_reducible exact cell_set hHeld.2.2.1 (by omega) | with_reducible exact cell_set (cell_set hHeld.2.2.1 (by omega)) (by omega)); (first | exact hS.2.2.2.2.1 | with_reducible exact hHeld.2.2.2.1.set _ _ _ | with_reducible exact (hHeld.2.2.2.1.set _ _ _).set _ _ _); (first | exact hS.2.2.2.2.2.1 | with_reducible exact hHeld.2.2.2.2.1.set _ _ _ | with_reducible exact (hHeld.2.2.2.2.1.set _ _ _).set _ _ _); (first | exact hS.2.2.2.2.2.2 | with_reducible exact bel_set1 hHeld.2.2.2.2.2 (by omega) | with_reducible exact bel_set2 hHeld.2.2.2.2.2 (by omega) (by omega)))); clear hK K; (try clear hS); (try clear hfx0 hx0 x0); (try clear hfy0 hy0 y0); (try clear hfx1 hx1 x1); (try clear hfy1 hy1 y1); (try dsimp only at hHeld))))
    refine wpSched_nil ?_
    rename_i hOld _
    have HF:=Lib.hid (fin_int2 NQ.out NR.out hOld.2.2.2.1 hOld.2.2.2.2.1 (by decide) (by decide) hOld.2.2.2.2.2 (by omega) (by omega) (by omega) rfl)
    clear hHeld hOld
    go_wp2_with fail
    refine bodyPost_ret (v:=.tuple #[.agg #[.bool bbQ,.slice adQ lenQ capQ],.agg #[.bool bbR,.slice adR lenR capR],.bool true]) (by simp [results,Tryz.results142,go_sem,HF.out.2.2.2.1,HF.out.2.2.2.2.1,HF.out.2.2.2.2.2.1,HF.out.2.2.2.2.2.2]) rfl ⟨_,_,rfl,?_,?_,HF.out.2.2.1⟩
    · rw [HQV2.out]; exact HF.out.1.mono (by omega)
    · rw [HRV2.out]; exact HF.out.2.1
  · have hun':(bx == bz)=false:=by simpa using hun
    have hunb:(!(bx == bz))=true:=by rw [hun']; rfl
    go_wp2_with fail
    generalize (w1.alloc (Obj.cells #[Value.slice adq lq cq] 52)).alloc (Obj.cells #[Value.slice adr lr cr] 52)=X at *
    refine (isZero_any _ r j _ HMX.out (by omega)).mono ?_
    rintro e w2 ⟨rfl,hb2⟩
    have hcr2:=cell_below hcr hb2
    have hcq2:=cell_below hcq hb2
    have hca2:=cell_below hca hb2
    have hcb02:=cell_below hcb0 hb2
    have hcb12:=cell_below hcb1 hb2
    have hs2:=hb2.size
    have HB2:=Lib.hid (bel_on HBX.out hb2)
    have HN2:=Lib.hid (HNX.out.below hb2)
    have HM2:=Lib.hid (HMX.out.below hb2)
    have HT2:=Lib.hid (HS2.out.below hb2)
    have HT3:=Lib.hid (HS3.out.below hb2)
    have HQS:=Lib.hid (Slot.of (n:=1) (HHX.out.below hb2).2.1 rfl)
    have HRS:=Lib.hid (Slot.of (n:=1) (HHX.out.below hb2).1 rfl)
    clear hb2 hcr hcq hca hcb0 hcb1 HBX HNX HMX HS2 HS3 HHX hun
    by_cases hr0:r=0
    · have hr0':decide (r=0)=true:=decide_eq_true hr0
      have HQV2:=Lib.hid (show dq=sg true q by have:=HQV.out; unfold qF at this; rw [hunb,hr0'] at this; simpa using this)
      have HRV2:=Lib.hid (show dr=sg bz r by have:=HRV.out; unfold rF at this; rw [hunb,hr0'] at this; simpa using this)
      rw [hr0']
      clear HQV HRV
      go_wp2_with fail
      clear hca2 hunb hr0'
      have HQX:=Lib.hid (HN2.out.below (Below.refl _ w2).drew)
      have HRX:=Lib.hid (HM2.out.below (Below.refl _ w2).drew)
      refine wp_region_sched (fun w'=>w'.cell? ⟨w1.heap.size,0,none⟩=some (.slice adq lq cq)∧w'.cell? ⟨w1.heap.size+1,0,none⟩=some (.slice adr lr cr)∧w'.cell? ⟨w.heap.size+1,0,none⟩=some (.bool bz)∧Slot w' (w.heap.size+1+1) 54 2∧Slot w' (w.heap.size+1+1+1) 54 2∧Below w.heap.size w w') [(0,true),(1,true),(3,true),(4,true),(5,true),(2,false),(6,false),(7,false),(8,false),(9,true)] (by kernel_rfl) (by kernel_rfl) ?_ (fun hHeld=>?_)
      · (try dsimp only)
        exact ⟨hcq2,hcr2,hcb02,HT2.out.drew,HT3.out.drew,HB2.out.drew⟩
      try dsimp only at hHeld
      repeat (refine wpSched_at (by simp only [List.getElem?_toArray,List.getElem?_cons_zero,List.getElem?_cons_succ]; rfl) ?_; (first | (apply wpAt_take rfl; (intro wx hSx; (try dsimp only at hSx); go_simp; (try with_reducible rfl)); simp only [Act.put,List.setIfInBounds_toArray,List.set_cons_zero,List.set_cons_succ]) | (refine wpAt_skip rfl ?_; simp only [Act.put,List.setIfInBounds_toArray,List.set_cons_zero,List.set_cons_succ]) | (refine wpAt_pass rfl hHeld ?_; simp only [Act.put,List.setIfInBounds_toArray,List.set_cons_zero,List.set_cons_succ]) | (refine wpAt_eff rfl (fun K hK=>?_); ((obtain ⟨x0,y0,hx0,hy0,hfx0,hfy0⟩:=hHeld.2.2.2.1.two); (try simp only [cell_drew,frozen_drew] at hx0 hy0 hfx0 hfy0); (obtain ⟨x1,y1,hx1,hy1,hfx1,hfy1⟩:=hHeld.2.2.2.2.1.two); (try simp only [cell_drew,frozen_drew] at hx1 hy1 hfx1 hfy1)); go_simp; (first | (go_at_call 137; (with_reducible refine (signed_any true (.agg #[.slice adq lq cq]) (q) (k) _ ?_ (by omega)).mono ?_); (exact HQX.out); rintro e w' ⟨vq,rfl,hn,hb⟩; (try replace NQ:=Lib.hid (NQ.out.below hb)); (try replace HQX:=Lib.hid (HQX.out.below hb)); (try replace HRX:=Lib.hid (HRX.out.below hb)); have NQ:=Lib.hid hn; obtain ⟨bbQ,adQ,lenQ,capQ,rfl,hrQ⟩:=NQ.out.shape2; have hS:=And.intro trivial (And.intro (cell_below hHeld.1 hb) (And.intro (cell_below hHeld.2.1 hb) (And.intro (cell_below hHeld.2.2.1 hb) (And.intro (hHeld.2.2.2.1.below hb) (And.intro (hHeld.2.2.2.2.1.below hb) (bel_on hHeld.2.2.2.2.2 hb)))))); clear hb hHeld hn) | (go_at_call 137; (with_reducible refine (signed_any bz (.agg #[.slice adr lr cr]) (r) (j) _ ?_ (by omega)).mono ?_); (exact HRX.out); rintro e w' ⟨vr,rfl,hn,hb⟩; (try replace NQ:=Lib.hid (NQ.out.below hb)); (try replace HQX:=Lib.hid (HQX.out.below hb)); (try replace HRX:=Lib.hid (HRX.out.below hb)); have NR:=Lib.hid hn; obtain ⟨bbR,adR,lenR,capR,rfl,hrR⟩:=NR.out.shape2; have hS:=And.intro trivial (And.intro (cell_below hHeld.1 hb) (And.intro (cell_below hHeld.2.1 hb) (And.intro (cell_below hHeld.2.2.1 hb) (And.intro (hHeld.2.2.2.1.below hb) (And.intro (hHeld.2.2.2.2.1.below hb) (bel_on hHeld.2.2.2.2.2 hb)))))); clear hb hHeld hn) | (try simp only [cell_drew,slot_drew,below_drew] at hHeld)); (refine hK.out _ _ ?_ (fun hHeld=>?_)); ((try dsimp only); ((try simp only [cell_drew,slot_drew,below_drew]); refine ⟨?_,?_,?_,?_,?_,?_⟩; (first | exact hS.2.1 | with_reducible exact cell_set hHeld.1 (by omega) | with_reducible exact cell_set (cell_set hHeld.1 (by omega)) (by omega)); (first | exact hS.2.2.1 | with_reducible exact cell_set hHeld.2.1 (by omega) | with_reducible exact cell_set (cell_set hHeld.2.1 (by omega)) (by omega)); (first | exact hS.2.2.2.1 | with_reducible exact cell_set hHeld.2.2.1 (by omega) | with_reducible exact cell_set (cell_set hHeld.2.2.1 (by omega)) (by omega)); (first | exact hS.2.2.2.2.1 | with_reducible exact hHeld.2.2.2.1.set _ _ _ | with_reducible exact (hHeld.2.2.2.1.set _ _ _).set _ _ _); (first | exact hS.2.2.2.2.2.1 | with_reducible exact hHeld.2.2.2.2.1.set _ _ _ | with_reducible exact (hHeld.2.2.2.2.1.set _ _ _).set _ _ _); (first | exact hS.2.2.2.2.2.2 | with_reducible exact bel_set1 hHeld.2.2.2.2.2 (by omega) | with_reducible exact bel_set2 hHeld.2.2.2.2.2 (by omega) (by omega)))); clear hK K; (try clear hS); (try clear hfx0 hx0 x0); (try clear hfy0 hy0 y0); (try clear hfx1 hx1 x1); (try clear hfy1 hy1 y1); (try dsimp only at hHeld))))
      refine wpSched_nil ?_
      rename_i hOld _
      have HF:=Lib.hid (fin_int2 NQ.out NR.out hOld.2.2.2.1 hOld.2.2.2.2.1 (by decide) (by decide) hOld.2.2.2.2.2 (by omega) (by omega) (by omega) rfl)
      clear hHeld hOld
      go_wp2_with fail
      refine bodyPost_ret (v:=.tuple #[.agg #[.bool bbQ,.slice adQ lenQ capQ],.agg #[.bool bbR,.slice adR lenR capR],.bool true]) (by simp [results,Tryz.results142,go_sem,HF.out.2.2.2.1,HF.out.2.2.2.2.1,HF.out.2.2.2.2.2.1,HF.out.2.2.2.2.2.2]) rfl ⟨_,_,rfl,?_,?_,HF.out.2.2.1⟩
      · rw [HQV2.out]; exact HF.out.1.mono (by omega)
      · rw [HRV2.out]; exact HF.out.2.1
    · have hr0':decide (r=0)=false:=decide_eq_false hr0
      have HQV2:=Lib.hid (show dq=sg true (q+1) by have:=HQV.out; unfold qF at this; rw [hunb,hr0'] at this; simpa using this)
      have HRV2:=Lib.hid (show dr=sg bz (yn - r) by have:=HRV.out; unfold rF at this; rw [hunb,hr0'] at this; simpa using this)
      rw [hr0']
      clear HQV HRV
      go_wp2_with fail
      clear hca2 hunb hr0'
      go_region_law (first
        | (go_simp; go_at_call 144; (with_reducible refine (ofB_one w2.drew).mono ?_); rintro e w4 ⟨v4,rfl,hn4,hb4⟩; have HN4:=Lib.hid hn4; have hb4':=bel_on ((Below.refl _ w2).drew) hb4; have hcq4:=cell_below hcq2 hb4'; have HB4:=Lib.hid hb4'; clear hb4 hb4' hn4)
        | (go_simp; go_at_call 182; (with_reducible refine (addB (.agg #[.slice adq lq cq]) v4 q 1 k 2 w4 (HN2.out.below HB4.out) HN4.out (by omega) (by decide)).mono ?_); rintro e w5 ⟨v5,rfl,hn5,hb5⟩; obtain ⟨ad5,l5,c5,rfl⟩:=hn5.shape2; have HN5:=Lib.hid hn5; have hb5':=bel_on HB4.out hb5; obtain ⟨x5,hx5,hf5⟩:=(HQS.out.below hb5').one; have HB5:=Lib.hid hb5'; clear hb5 hb5' hn5))
      all_goals (
        have HQ5:=Lib.hid (HQS.out.below HB5.out)
        have hcr5:=cell_set (b':=w1.heap.size) (o':=0) (u:=.slice ad5 l5 c5) (cell_below hcr2 HB5.out) (by omega)
        have hcb05:=cell_set (b':=w1.heap.size) (o':=0) (u:=.slice ad5 l5 c5) (cell_below hcb02 HB5.out) (by omega)
        have hcb15:=cell_set (b':=w1.heap.size) (o':=0) (u:=.slice ad5 l5 c5) (cell_below hcb12 HB5.out) (by omega)
        have hcq5:=HQ5.out.set1 (.slice ad5 l5 c5)
        have HT25:=Lib.hid ((HT2.out.below HB5.out).set w1.heap.size 0 (.slice ad5 l5 c5))
        have HT35:=Lib.hid ((HT3.out.below HB5.out).set w1.heap.size 0 (.slice ad5 l5 c5))
        have HRS5:=Lib.hid ((HRS.out.below HB5.out).set w1.heap.size 0 (.slice ad5 l5 c5))
        have HNY:=Lib.hid (HN5.out.slot HQ5.out (by decide) 0 (.slice ad5 l5 c5))
        have HMY:=Lib.hid ((HM2.out.below HB5.out).slot HQ5.out (by decide) 0 (.slice ad5 l5 c5))
        have HBY:=Lib.hid (bel_set1 (b:=w1.heap.size) (o:=0) (u:=.slice ad5 l5 c5) (bel_on HB2.out HB5.out) (by omega))
        have hs5:w2.heap.size≤(w5.setCell ⟨w1.heap.size,0,none⟩ (.slice ad5 l5 c5)).heap.size:=by have:=HB5.out.size; simpa using this
        generalize w5.setCell ⟨w1.heap.size,0,none⟩ (.slice ad5 l5 c5)=Y at *
        clear HN5 HB5 HN4 HB4 HQ5 HQS HRS HT2 HT3 HN2 HM2 HB2 hcq2 hcr2 hcb02 hcb12 hx5 hf5 hcq4
        go_wp2_with fail
        refine (subB _ _ yn r j j _ (H'.out.below HBY.out) HMY.out (by omega) (by omega) (Nat.le_of_lt HM.out)).mono ?_
        rintro e w6 ⟨v6,rfl,hn6,hb6⟩
        obtain ⟨ad6,l6,c6,rfl⟩:=hn6.shape2
        have hR6:=HRS5.out.below hb6
        obtain ⟨x6,hx6,hf6⟩:=hR6.one
        have hcq6:=cell_set (b':=w1.heap.size+1) (o':=0) (u:=.slice ad6 l6 c6) (cell_below hcq5 hb6) (by omega)
        have hcb06:=cell_set (b':=w1.heap.size+1) (o':=0) (u:=.slice ad6 l6 c6) (cell_below hcb05 hb6) (by omega)
        have hcr6:=hR6.set1 (.slice ad6 l6 c6)
        have HT26:=Lib.hid ((HT25.out.below hb6).set (w1.heap.size+1) 0 (.slice ad6 l6 c6))
        have HT36:=Lib.hid ((HT35.out.below hb6).set (w1.heap.size+1) 0 (.slice ad6 l6 c6))
        have HNZ:=Lib.hid ((HNY.out.below hb6).slot hR6 (by decide) 0 (.slice ad6 l6 c6))
        have HMZ:=Lib.hid (hn6.slot hR6 (by decide) 0 (.slice ad6 l6 c6))
        have HBZ:=Lib.hid (bel_set1 (b:=w1.heap.size+1) (o:=0) (u:=.slice ad6 l6 c6) (bel_on HBY.out hb6) (by omega))
        clear hn6 hb6 hR6 hcr5 hcb05 hcb15 hcq5 HT25 HT35 HRS5 HNY HMY HBY
        go_wp2_with fail
        generalize w6.setCell ⟨w1.heap.size+1,0,none⟩ (.slice ad6 l6 c6)=Z at *
        clear hx6 hf6
        have HQX:=Lib.hid (HNZ.out.below (Below.refl _ Z).drew)
        have HRX:=Lib.hid (HMZ.out.below (Below.refl _ Z).drew)
        refine wp_region_sched (fun w'=>w'.cell? ⟨w1.heap.size,0,none⟩=some (.slice ad5 l5 c5)∧w'.cell? ⟨w1.heap.size+1,0,none⟩=some (.slice ad6 l6 c6)∧w'.cell? ⟨w.heap.size+1,0,none⟩=some (.bool bz)∧Slot w' (w.heap.size+1+1) 54 2∧Slot w' (w.heap.size+1+1+1) 54 2∧Below w.heap.size w w') [(0,true),(1,true),(3,true),(4,true),(5,true),(2,false),(6,false),(7,false),(8,false),(9,true)] (by kernel_rfl) (by kernel_rfl) ?_ (fun hHeld=>?_)
        · (try dsimp only)
          exact ⟨hcq6,hcr6,hcb06,HT26.out.drew,HT36.out.drew,HBZ.out.drew⟩
        try dsimp only at hHeld
        repeat (refine wpSched_at (by simp only [List.getElem?_toArray,List.getElem?_cons_zero,List.getElem?_cons_succ]; rfl) ?_; (first | (apply wpAt_take rfl; (intro wx hSx; (try dsimp only at hSx); go_simp; (try with_reducible rfl)); simp only [Act.put,List.setIfInBounds_toArray,List.set_cons_zero,List.set_cons_succ]) | (refine wpAt_skip rfl ?_; simp only [Act.put,List.setIfInBounds_toArray,List.set_cons_zero,List.set_cons_succ]) | (refine wpAt_pass rfl hHeld ?_; simp only [Act.put,List.setIfInBounds_toArray,List.set_cons_zero,List.set_cons_succ]) | (refine wpAt_eff rfl (fun K hK=>?_); ((obtain ⟨x0,y0,hx0,hy0,hfx0,hfy0⟩:=hHeld.2.2.2.1.two); (try simp only [cell_drew,frozen_drew] at hx0 hy0 hfx0 hfy0); (obtain ⟨x1,y1,hx1,hy1,hfx1,hfy1⟩:=hHeld.2.2.2.2.1.two); (try simp only [cell_drew,frozen_drew] at hx1 hy1 hfx1 hfy1)); go_simp; (first | (go_at_call 137; (with_reducible refine (signed_any true (.agg #[.slice ad5 l5 c5]) (q+1) (k+2+1) _ ?_ (by omega)).mono ?_); (exact HQX.out); rintro e w' ⟨vq,rfl,hn,hb⟩; (try replace NQ:=Lib.hid (NQ.out.below hb)); (try replace HQX:=Lib.hid (HQX.out.below hb)); (try replace HRX:=Lib.hid (HRX.out.below hb)); have NQ:=Lib.hid hn; obtain ⟨bbQ,adQ,lenQ,capQ,rfl,hrQ⟩:=NQ.out.shape2; have hS:=And.intro trivial (And.intro (cell_below hHeld.1 hb) (And.intro (cell_below hHeld.2.1 hb) (And.intro (cell_below hHeld.2.2.1 hb) (And.intro (hHeld.2.2.2.1.below hb) (And.intro (hHeld.2.2.2.2.1.below hb) (bel_on hHeld.2.2.2.2.2 hb)))))); clear hb hHeld hn) | (go_at_call 137; (with_reducible refine (signed_any bz (.agg #[.slice ad6 l6 c6]) (yn - r) (j) _ ?_ (by omega)).mono ?_); (exact HRX.out); rintro e w' ⟨vr,rfl,hn,hb⟩; (try replace NQ:=Lib.hid (NQ.out.below hb)); (try replace HQX:=Lib.hid (HQX.out.below hb)); (try replace HRX:=Lib.hid (HRX.out.below hb)); have NR:=Lib.hid hn; obtain ⟨bbR,adR,lenR,capR,rfl,hrR⟩:=NR.out.shape2; have hS:=And.intro trivial (And.intro (cell_below hHeld.1 hb) (And.intro (cell_below hHeld.2.1 hb) (And.intro (cell_below hHeld.2.2.1 hb) (And.intro (hHeld.2.2.2.1.below hb) (And.intro (hHeld.2.2.2.2.1.below hb) (bel_on hHeld.2.2.2.2.2 hb)))))); clear hb hHeld hn) | (try simp only [cell_drew,slot_drew,below_drew] at hHeld)); (refine hK.out _ _ ?_ (fun hHeld=>?_)); ((try dsimp only); ((try simp only [cell_drew,slot_drew,below_drew]); refine ⟨?_,?_,?_,?_,?_,?_⟩; (first | exact hS.2.1 | with_reducible exact cell_set hHeld.1 (by omega) | with_reducible exact cell_set (cell_set hHeld.1 (by omega)) (by omega)); (first | exact hS.2.2.1 | with_reducible exact cell_set hHeld.2.1 (by omega) | with_reducible exact cell_set (cell_set hHeld.2.1 (by omega)) (by omega)); (first | exact hS.2.2.2.1 | with_reducible exact cell_set hHeld.2.2.1 (by omega) | with_reducible exact cell_set (cell_set hHeld.2.2.1 (by omega)) (by omega)); (first | exact hS.2.2.2.2.1 | with_reducible exact hHeld.2.2.2.1.set _ _ _ | with_reducible exact (hHeld.2.2.2.1.set _ _ _).set _ _ _); (first | exact hS.2.2.2.2.2.1 | with_reducible exact hHeld.2.2.2.2.1.set _ _ _ | with_reducible exact (hHeld.2.2.2.2.1.set _ _ _).set _ _ _); (first | exact hS.2.2.2.2.2.2 | with_reducible exact bel_set1 hHeld.2.2.2.2.2 (by omega) | with_reducible exact bel_set2 hHeld.2.2.2.2.2 (by omega) (by omega)))); clear hK K; (try clear hS); (try clear hfx0 hx0 x0); (try clear hfy0 hy0 y0); (try clear hfx1 hx1 x1); (try clear hfy1 hy1 y1); (try dsimp only at hHeld))))
        refine wpSched_nil ?_
        rename_i hOld _
        have HF:=Lib.hid (fin_int2 NQ.out NR.out hOld.2.2.2.1 hOld.2.2.2.2.1 (by decide) (by decide) hOld.2.2.2.2.2 (by omega) (by omega) (by omega) rfl)
        clear hHeld hOld
        go_wp2_with fail
        refine bodyPost_ret (v:=.tuple #[.agg #[.bool bbQ,.slice adQ lenQ capQ],.agg #[.bool bbR,.slice adR lenR capR],.bool true]) (by simp [results,Tryz.results142,go_sem,HF.out.2.2.2.1,HF.out.2.2.2.2.1,HF.out.2.2.2.2.2.1,HF.out.2.2.2.2.2.2]) rfl ⟨_,_,rfl,?_,?_,HF.out.2.2.1⟩
        · rw [HQV2.out]; exact HF.out.1
        · rw [HRV2.out]; exact HF.out.2.1)
end Go.Proofs.YthffkbbcofbceaaGreatDoor

namespace Cin
theorem val_top2 {ys:List Nat} {m:Nat} (ho:Ok ys) (hl:ys.length=m+2):∃ r,r < pw m∧val ys=r+pw m * (lim ys m+4294967296 * lim ys (m+1)):=by
  refine ⟨val (ys.take m),?_,?_⟩
  · have:=val_lt (ho.take m)
    rwa [List.length_take,Nat.min_eq_left (by omega)] at this
  · rw [val_split ys m (by omega),val_drop_step,val_drop_step ys (m+1),List.drop_of_length_le (by omega),val_nil,Nat.mul_zero,Nat.add_zero]
theorem val_top3 {ps:List Nat} {m:Nat} (ho:Ok ps) (hl:ps.length=m+3):∃ r,r < pw m∧val ps=r+pw m * (lim ps m+4294967296 * (lim ps (m+1)+4294967296 * lim ps (m+2))):=by
  refine ⟨val (ps.take m),?_,?_⟩
  · have:=val_lt (ho.take m)
    rwa [List.length_take,Nat.min_eq_left (by omega)] at this
  · rw [val_split ps m (by omega),val_drop_step,val_drop_step ps (m+1),val_drop_step ps (m+2),List.drop_of_length_le (show ps.length≤m+2+1 by omega),val_nil]
    simp only [Nat.mul_zero,Nat.add_zero]
section
variable {M Y P ry rp q next high head p2 left y p:Nat}
theorem guess_over (hy:y=ry+M * Y) (hp:p=rp+M * P) (hrp:rp < M) (hY:Y=next+4294967296 * high) (hP:P=p2+4294967296 * head) (hh:q * high+left=head) (ht:left * 4294967296+p2 < q * next):p < q * y:=by
  have h1:P+1≤q * Y:=by
    have e:q * Y=q * next+4294967296 * (q * high):=by rw [hY,Nat.mul_add,Nat.mul_left_comm]
    rw [e,hP,← hh]; omega
  have h2:M * (P+1)≤M * (q * Y):=Nat.mul_le_mul_left _ h1
  have h3:q * y=q * ry+M * (q * Y):=by rw [hy,Nat.mul_add,Nat.mul_left_comm]
  rw [Nat.mul_add] at h2
  omega
theorem guess_under (hy:y=ry+M * Y) (hp:p=rp+M * P) (hry:ry < M) (hY:Y=next+4294967296 * high) (hhi:1≤high) (hq:q < 4294967296) (hle:q * Y≤P):q * y≤p+y:=by
  have h1:M * (q * Y)≤M * P:=Nat.mul_le_mul_left _ hle
  have h3:q * y=q * ry+M * (q * Y):=by rw [hy,Nat.mul_add,Nat.mul_left_comm]
  have h4:q * ry≤4294967296 * M:=Nat.mul_le_mul (by omega) (by omega)
  have h5:M * 4294967296≤M * Y:=Nat.mul_le_mul_left _ (by omega)
  omega
theorem guess_le (hh:q * high+left=head) (hY:Y=next+4294967296 * high) (hP:P=p2+4294967296 * head) (ht:q * next≤left * 4294967296+p2):q * Y≤P:=by
  have e:q * Y=q * next+4294967296 * (q * high):=by rw [hY,Nat.mul_add,Nat.mul_left_comm]
  rw [e,hP,← hh]; omega
theorem guess_first (hy:y=ry+M * Y) (hp:p=rp+M * P) (hrp:rp < M) (hY:Y=next+4294967296 * high) (hP:P=p2+4294967296 * head) (hp2:p2 < 4294967296) (hle:q * y≤p):q * high≤head:=by
  have h3:q * y=q * ry+M * (q * Y):=by rw [hy,Nat.mul_add,Nat.mul_left_comm]
  have h4:M * (q * Y) < M * (P+1):=by rw [Nat.mul_add]; omega
  have h5:q * Y < P+1:=Nat.lt_of_mul_lt_mul_left h4
  have e:q * Y=q * next+4294967296 * (q * high):=by rw [hY,Nat.mul_add,Nat.mul_left_comm]
  omega
theorem guess_head (hy:y=ry+M * Y) (hp:p=rp+M * P) (hry:ry < M) (hY:Y=next+4294967296 * high) (hP:P=p2+4294967296 * head) (hlt:p < 4294967296 * y):head≤next+4294967296 * high:=by
  have h1:M * P < M * (4294967296 * (Y+1)):=by
    have e:M * (4294967296 * (Y+1))=4294967296 * (M * Y)+4294967296 * M:=by rw [Nat.mul_left_comm,Nat.mul_add,Nat.mul_add,Nat.mul_one]
    rw [e]; omega
  have h2:P < 4294967296 * (Y+1):=Nat.lt_of_mul_lt_mul_left h1
  omega
end
def Guess (ps ys:List Nat) (m q left:Nat):Prop:=
  q * lim ys (m+1)+left=lim ps (m+1)+4294967296 * lim ps (m+2)∧val ps / val ys≤q
theorem Guess.first {ps ys:List Nat} {m:Nat} (op:Ok ps) (oy:Ok ys) (hp:ps.length=m+3) (hy:ys.length=m+2) (hhi:1≤lim ys (m+1)) :
    Guess ps ys m ((lim ps (m+1)+4294967296 * lim ps (m+2)) / lim ys (m+1)) ((lim ps (m+1)+4294967296 * lim ps (m+2)) % lim ys (m+1)):=by
  obtain ⟨ry,hry,ey⟩:=val_top2 oy hy
  obtain ⟨rp,hrp,ep⟩:=val_top3 op hp
  refine ⟨by rw [Nat.mul_comm]; exact Nat.div_add_mod _ _,?_⟩
  rw [Nat.le_div_iff_mul_le (by omega)]
  exact guess_first ey ep hrp rfl rfl (lim_lt op m) (Nat.div_mul_le_self _ _)
theorem Guess.step {ps ys:List Nat} {m q left:Nat} (op:Ok ps) (oy:Ok ys) (hp:ps.length=m+3) (hy:ys.length=m+2) (hy0:0 < val ys) (h:Guess ps ys m q left) (hlt:val ps < 4294967296 * val ys)
    (ht:4294967296≤q∨left * 4294967296+lim ps m < q * lim ys m):1≤q∧Guess ps ys m (q - 1) (left+lim ys (m+1)):=by
  obtain ⟨ry,hry,ey⟩:=val_top2 oy hy
  obtain ⟨rp,hrp,ep⟩:=val_top3 op hp
  have hq:val ps / val ys < q:=by
    rcases ht with ht | ht
    · refine Nat.lt_of_lt_of_le ?_ ht
      rw [Nat.div_lt_iff_lt_mul hy0]; exact hlt
    · rw [Nat.div_lt_iff_lt_mul hy0]
      exact guess_over ey ep hrp rfl rfl h.1 ht
  have h1:1≤q:=Nat.lt_of_le_of_lt (Nat.zero_le _) hq
  refine ⟨h1,?_,Nat.le_sub_one_of_lt hq⟩
  have:=h.1
  obtain ⟨c,rfl⟩:∃ c,q=c+1:=⟨q - 1,by omega⟩
  rw [Nat.add_sub_cancel]
  rw [Nat.add_mul] at this
  omega
theorem Guess.done {ps ys:List Nat} {m q left:Nat} (op:Ok ps) (oy:Ok ys) (hp:ps.length=m+3) (hy:ys.length=m+2) (hhi:1≤lim ys (m+1)) (h:Guess ps ys m q left) (hlt:val ps < 4294967296 * val ys)
    (ht:4294967296≤left∨(q < 4294967296∧q * lim ys m≤left * 4294967296+lim ps m)):q < 4294967296∧val ps / val ys≤q∧q * val ys≤val ps+val ys:=by
  obtain ⟨ry,hry,ey⟩:=val_top2 oy hy
  obtain ⟨rp,hrp,ep⟩:=val_top3 op hp
  have hnext:=lim_lt oy m
  have hhead:=guess_head ey ep hry rfl rfl hlt
  have hqb:q < 4294967296:=by
    rcases ht with ht | ht
    · rcases Nat.lt_or_ge q 4294967296 with h1 | h1
      · exact h1
      · have h2:4294967296 * lim ys (m+1)≤q * lim ys (m+1):=Nat.mul_le_mul_right _ h1
        have:=h.1
        omega
    · exact ht.1
  refine ⟨hqb,h.2,guess_under ey ep hry rfl hhi hqb (guess_le h.1 rfl rfl ?_)⟩
  rcases ht with ht | ht
  · have h1:q * lim ys m≤4294967296 * 4294967296:=Nat.mul_le_mul (by omega) (by omega)
    have h2:4294967296 * 4294967296≤left * 4294967296:=Nat.mul_le_mul_right _ ht
    omega
  · exact ht.2
theorem take_step {ps os ys:List Nat} {k q owed t lo d bo:Nat} (hol:os.length=k) (hok:Ok os) (hv:val os+q * val (ys.take k)=val (ps.take k)+pw k * owed) (ho:owed≤q)
    (hx:lim ys k < 4294967296) (et:t=owed+q * lim ys k) (elo:lo=t % 4294967296) (ed:lim ps k+4294967296 * bo=d+lo) (hd:d < 4294967296) (hbo:bo≤1) (hbo2:lo=0→bo=0) :
    (os++[d]).length=k+1∧Ok (os++[d])∧val (os++[d])+q * val (ys.take (k+1))=val (ps.take (k+1))+pw (k+1) * (t / 4294967296+bo)∧t / 4294967296+bo≤q:=by
  have htb:t≤q * 4294967296:=by
    have h1:q * lim ys k≤q * 4294967295:=Nat.mul_le_mul_left _ (by omega)
    omega
  refine ⟨by rw [List.length_append,hol]; rfl,hok.append (Ok.cons hd Ok.nil),?_,?_⟩
  · rw [val_snoc,hol,val_take_step,val_take_step ps,pw_succ,Nat.mul_add]
    have e1:d+t=lim ps k+4294967296 * (t / 4294967296+bo):=by omega
    have e2:=congrArg (pw k * ·) e1
    simp only [Nat.mul_add] at e2
    have e3:pw k * t=pw k * owed+q * (pw k * lim ys k):=by rw [et,Nat.mul_add,Nat.mul_left_comm q]
    have e4:4294967296 * pw k * (t / 4294967296+bo)=pw k * (4294967296 * (t / 4294967296))+pw k * (4294967296 * bo):=by rw [Nat.mul_add,Nat.mul_comm 4294967296 (pw k),Nat.mul_assoc,Nat.mul_assoc]
    rw [e4]
    omega
  · have h1:t / 4294967296≤q:=by omega
    rcases Nat.lt_or_ge (t / 4294967296) q with h2 | h2
    · omega
    · have:lo=0:=by omega
      rw [hbo2 this]; omega
end Cin

namespace Go.Proofs.YthffkbbcofbceaaGreatDoor
open Go.RowKit Cin
set_option maxRecDepth 100000 in
set_option maxHeartbeats 2000000 in
theorem takeTimes_any (b off cap:Nat) (zs ps:List Nat) (v:Value) (ys:List Nat) (q:Nat) (w:World) (h:Sl 202 .u32 w v ys) (oy:Ok ys) (hB:Blk w b 202 .u32 zs) (hps:(zs.drop off).take (ys.length+1)=ps) (oz:Ok zs)
    (hne:∀ b' o' n' c',v=.slice (some ⟨b',o',none⟩) n' c'→b'≠b) (hcap:ys.length+1≤cap) (hoff:off+cap≤zs.length) (hq:q < 4294967296) (hn:ys.length≤100000000) :
    Calls Tryz.prog 205 #[.slice (some ⟨b,off,none⟩) (ys.length+1) cap,v,.int .u32 q] w fun e w'=>∃ (over:Bool) (os:List Nat),e=.returned (.bool over)∧os.length=ys.length+1∧Ok os ∧
      val os+q * val ys=val ps+(if over then pw (ys.length+1) else 0)∧Blk w' b 202 .u32 (splice zs off os)∧Keep (·=b) w w':=by
  obtain ⟨ad,xcap,rfl,hxc,_⟩:=h.shape
  have hpl:ps.length=ys.length+1:=by rw [← hps,List.length_take,List.length_drop]; omega
  have hpz:∀ j,j < ys.length+1→lim ps j=lim zs (off+j):=fun j hj=>by rw [← hps,lim_take hj,lim_drop]
  have op:Ok ps:=by rw [← hps]; exact (oz.drop off).take _
  have H:=Lib.hid h
  have HB:=Lib.hid hB
  have HNE:=Lib.hid hne
  have HPZ:=Lib.hid hpz
  have HPL:=Lib.hid hpl
  clear h hB hne hps hpz hpl
  generalize hln:ys.length=n at *
  have HLN:=Lib.hid hln
  clear hln
  go_enter Tryz.func205,Tryz.ntmps205
  go_wp2_with fail
  go_loopw [7,8,9,10,14] (fun c _ _ _ ix wr=>∃ (k owed:Nat) (os:List Nat),k≤n∧ix=.int .i64 k∧c=.int .u64 owed∧owed≤q∧os.length=k∧Ok os∧val os+q * val (ys.take k)=val (ps.take k)+pw k * owed ∧
      Blk wr b 202 .u32 (splice zs off os)∧Keep (·=b) w wr) (fun _ _ _ _ ix _=>n - (intOf ix).toNat)
  case atStart=>exact ⟨0,0,[],Nat.zero_le _,rfl,rfl,Nat.zero_le _,rfl,Ok.nil,by simp [val],by rw [splice_nil]; exact HB.out,Keep.refl _ _⟩
  case round=>
    obtain ⟨k,owed,os,hk,rfl,rfl,how,hol,hok,hv,hblk,hkeep⟩:=hrel
    have hcell2:=hblk.cell (i:=off+k) (by rw [splice_length (by omega)]; omega)
    have hsp:lim (splice zs off os) (off+k)=lim ps k:=by
      rw [HPZ.out k (by omega)]
      unfold splice
      rw [lim_append_right (by simp; omega),lim_drop]
      congr 1
      simp; omega
    rw [hsp] at hcell2
    have hf:=hblk.free (off+k)
    have hplim:lim ps k < 4294967296:=lim_lt op _
    by_cases hlt:k < n
    · obtain ⟨bx,offx,rfl,hcell,hblt⟩:=(H.out.keep hkeep (fun b' o' n' c' e=>HNE.out b' o' n' c' e)).cell (i:=k) (by have:=HLN.out; omega)
      have hlim:lim ys k < 4294967296:=lim_lt oy _
      have hxb:q * lim ys k≤4294967295 * 4294967295:=Nat.mul_le_mul (by omega) (by omega)
      obtain ⟨p,hpw,ep⟩:∃ p:Nat,IntKind.u64.wrap ((q:Int) * ((lim ys k:Nat):Int))=(p:Int)∧p=q * lim ys k:=⟨q * lim ys k,by
        rw [IntKind.wrap_u64,show ((q:Int) * ((lim ys k:Nat):Int))=((q * lim ys k:Nat):Int) by simp]; omega,rfl⟩
      rw [← ep] at hxb
      obtain ⟨t,ht,et⟩:∃ t:Nat,IntKind.u64.wrap ((owed:Int)+(p:Int))=(t:Int)∧t=owed+p:=⟨_,by rw [IntKind.wrap_u64]; omega,rfl⟩
      obtain ⟨lo,hlo,elo⟩:∃ lo:Nat,((t:Int) % 4294967296)=(lo:Int)∧lo=t % 4294967296:=⟨t % 4294967296,by omega,rfl⟩
      obtain ⟨th,hth,eth⟩:∃ th:Nat,((t:Int) / 4294967296)=(th:Int)∧th=t / 4294967296:=⟨t / 4294967296,by omega,rfl⟩
      obtain ⟨bo,dw,d,hdw,hd1,hd2,hdb,ed,hbo1,hbo2,hdw2⟩:∃ bo dw d:Nat,IntKind.u64.wrap (((lim ps k:Nat):Int) - (lo:Int))=(dw:Int)∧((dw:Int) % 4294967296)=(d:Int)∧((dw:Int) / 9223372036854775808)=(bo:Int)∧d < 4294967296∧lim ps k+4294967296 * bo=d+lo∧bo≤1∧(lo=0→bo=0)∧dw < 18446744073709551616:=by
        rcases Nat.lt_or_ge (lim ps k) lo with h1 | h1
        · exact ⟨1,18446744073709551616+lim ps k - lo,4294967296+lim ps k - lo,by rw [IntKind.wrap_u64]; omega,by omega,by omega,by omega,by omega,by omega,by omega,by omega⟩
        · exact ⟨0,lim ps k - lo,lim ps k - lo,by rw [IntKind.wrap_u64]; omega,by omega,by omega,by omega,by omega,by omega,by omega,by omega⟩
      have R:=take_step hol hok hv how hlim (by rw [et,ep]) elo ed hdb hbo1 hbo2
      rw [← eth] at R
      have hb2:=hblk.set (off+k) d
      rw [← hol,splice_set (by omega),hol] at hb2
      have HR:=Lib.hid R
      have HB2:=Lib.hid hb2
      have HK2:=Lib.hid (hkeep.setCell (a:=⟨b,off+k,none⟩) rfl (.int .u32 (d:Nat)))
      have hthb:th < 4294967296:=by omega
      have htb:t < 18446744073709551616:=by omega
      have hlob:lo < 4294967296:=by omega
      have hkn:(k:Int) < (n:Int)+1:=by omega
      clear R hb2 hv hblk hkeep hol hsp et ep elo eth ed hxb hok
      go_wp2_with fail
      obtain ⟨r1,r2,r3,r4⟩:=HR.out
      exact ⟨⟨k+1,th+bo,os++[d],by omega,by go_num,by simp,r4,r1,r2,r3,HB2.out,HK2.out⟩,by simp [intOf]; omega⟩
    · obtain rfl:k=n:=by omega
      have howb:owed < 4294967296:=by omega
      have hyt:ys.take k=ys:=List.take_of_length_le (by have:=HLN.out; omega)
      rw [hyt] at hv
      have hpt:val ps=val (ps.take k)+pw k * lim ps k:=by
        have h1:=val_take_succ (xs:=ps) (i:=k) (by have:=HPL.out; omega)
        rwa [List.take_of_length_le (by have:=HPL.out; omega)] at h1
      rcases Nat.lt_or_ge (lim ps k) owed with h1 | h1
      · obtain ⟨dw,hdw,hdwb⟩:∃ dw:Nat,IntKind.u64.wrap (((lim ps k:Nat):Int) - (owed:Int))=(dw:Int)∧dw=18446744073709551616+lim ps k - owed:=⟨_,by rw [IntKind.wrap_u64]; omega,rfl⟩
        obtain ⟨d,hd,hdd⟩:∃ d:Nat,((dw:Int) % 4294967296)=(d:Int)∧d=4294967296+lim ps k - owed:=⟨4294967296+lim ps k - owed,by omega,rfl⟩
        have hsh:((dw:Int) / 9223372036854775808)=1:=by omega
        have hb2:=hblk.set (off+k) d
        rw [← hol,splice_set (by omega),hol] at hb2
        have HB2:=Lib.hid hb2
        have HK2:=Lib.hid (hkeep.setCell (a:=⟨b,off+k,none⟩) rfl (.int .u32 (d:Nat)))
        have HR:=Lib.hid (show (os++[d]).length=k+1∧Ok (os++[d])∧val (os++[d])+q * val ys=val ps+pw (k+1) from by
          refine ⟨by rw [List.length_append,hol]; rfl,hok.append (Ok.cons (by omega) Ok.nil),?_⟩
          rw [val_snoc,hol,hpt,pw_succ]
          have e1:pw k * d+pw k * owed=pw k * lim ps k+4294967296 * pw k:=by rw [← Nat.mul_add,show d+owed=lim ps k+4294967296 by omega,Nat.mul_add,Nat.mul_comm (pw k) 4294967296]
          omega)
        have hdwb':dw < 18446744073709551616:=by omega
        have hkn:(k:Int) < (k:Int)+1:=by omega
        clear hb2 hv hblk hkeep hol hsp hok hdwb hdd hpt hyt
        go_wp2_with fail
        go_ret
        obtain ⟨r1,r2,r3⟩:=HR.out
        exact ⟨true,os++[d],rfl,r1,r2,by rw [if_pos rfl]; exact r3,HB2.out,HK2.out⟩
      · obtain ⟨d,hdw,hdd⟩:∃ d:Nat,IntKind.u64.wrap (((lim ps k:Nat):Int) - (owed:Int))=(d:Int)∧d=lim ps k - owed:=⟨_,by rw [IntKind.wrap_u64]; omega,rfl⟩
        have hdb:d < 4294967296:=by omega
        have hsh:((d:Int) / 9223372036854775808)=0:=by omega
        have hb2:=hblk.set (off+k) d
        rw [← hol,splice_set (by omega),hol] at hb2
        have HB2:=Lib.hid hb2
        have HK2:=Lib.hid (hkeep.setCell (a:=⟨b,off+k,none⟩) rfl (.int .u32 (d:Nat)))
        have HR:=Lib.hid (show (os++[d]).length=k+1∧Ok (os++[d])∧val (os++[d])+q * val ys=val ps+0 from by
          refine ⟨by rw [List.length_append,hol]; rfl,hok.append (Ok.cons (by omega) Ok.nil),?_⟩
          rw [val_snoc,hol,hpt]
          have e1:pw k * d+pw k * owed=pw k * lim ps k:=by rw [← Nat.mul_add,show d+owed=lim ps k by omega]
          omega)
        have hkn:(k:Int) < (k:Int)+1:=by omega
        clear hb2 hv hblk hkeep hol hsp hok hdd hpt hyt
        go_wp2_with fail
        go_ret
        obtain ⟨r1,r2,r3⟩:=HR.out
        exact ⟨false,os++[d],rfl,r1,r2,by rw [if_neg (by simp)]; exact r3,HB2.out,HK2.out⟩
theorem give_step {ps os ys:List Nat} {k c t:Nat} (hol:os.length=k) (hok:Ok os) (hv:val os+pw k * c=val (ps.take k)+val (ys.take k)) (et:t=c+(lim ps k+lim ys k)) :
    (os++[t % 4294967296]).length=k+1∧Ok (os++[t % 4294967296])∧val (os++[t % 4294967296])+pw (k+1) * (t / 4294967296)=val (ps.take (k+1))+val (ys.take (k+1)):=by
  refine ⟨by rw [List.length_append,hol]; rfl,hok.append (Ok.cons (Nat.mod_lt _ (by decide)) Ok.nil),?_⟩
  rw [val_snoc,hol,val_take_step,val_take_step ys,pw_succ]
  have e1:pw k * t=pw k * (t % 4294967296)+4294967296 * pw k * (t / 4294967296):=by
    rw [Nat.mul_comm 4294967296 (pw k),Nat.mul_assoc,← Nat.mul_add]; congr 1; omega
  have e2:pw k * t=pw k * c+pw k * lim ps k+pw k * lim ys k:=by rw [et,Nat.mul_add,Nat.mul_add]; omega
  omega
set_option maxRecDepth 100000 in
set_option maxHeartbeats 2000000 in
theorem giveBack_any (b off cap:Nat) (zs ps:List Nat) (v:Value) (ys:List Nat) (w:World) (h:Sl 202 .u32 w v ys) (oy:Ok ys) (hB:Blk w b 202 .u32 zs) (hps:(zs.drop off).take (ys.length+1)=ps) (oz:Ok zs)
    (hne:∀ b' o' n' c',v=.slice (some ⟨b',o',none⟩) n' c'→b'≠b) (hcap:ys.length+1≤cap) (hoff:off+cap≤zs.length) (hn:ys.length≤100000000) :
    Calls Tryz.prog 206 #[.slice (some ⟨b,off,none⟩) (ys.length+1) cap,v] w fun e w'=>e=.returned (.tuple #[])∧∃ (os:List Nat) (c:Nat),os.length=ys.length+1∧Ok os ∧
      val os+pw (ys.length+1) * c=val ps+val ys∧Blk w' b 202 .u32 (splice zs off os)∧Keep (·=b) w w':=by
  obtain ⟨ad,xcap,rfl,hxc,_⟩:=h.shape
  have hpl:ps.length=ys.length+1:=by rw [← hps,List.length_take,List.length_drop]; omega
  have hpz:∀ j,j < ys.length+1→lim ps j=lim zs (off+j):=fun j hj=>by rw [← hps,lim_take hj,lim_drop]
  have op:Ok ps:=by rw [← hps]; exact (oz.drop off).take _
  have H:=Lib.hid h
  have HB:=Lib.hid hB
  have HNE:=Lib.hid hne
  have HPZ:=Lib.hid hpz
  have HPL:=Lib.hid hpl
  clear h hB hne hps hpz hpl
  generalize hln:ys.length=n at *
  have HLN:=Lib.hid hln
  clear hln
  go_enter Tryz.func206,Tryz.ntmps206
  go_wp2_with fail
  go_loopw [4,5,6,9] (fun c _ _ ix wr=>∃ (k q:Nat) (os:List Nat),k≤n∧ix=.int .i64 k∧c=.int .u64 q∧q≤1∧os.length=k∧Ok os∧val os+pw k * q=val (ps.take k)+val (ys.take k) ∧
      Blk wr b 202 .u32 (splice zs off os)∧Keep (·=b) w wr) (fun _ _ _ ix _=>n - (intOf ix).toNat)
  case atStart=>exact ⟨0,0,[],Nat.zero_le _,rfl,rfl,Nat.zero_le _,rfl,Ok.nil,by simp [val],by rw [splice_nil]; exact HB.out,Keep.refl _ _⟩
  case round=>
    obtain ⟨k,q,os,hk,rfl,rfl,hq,hol,hok,hv,hblk,hkeep⟩:=hrel
    have hcell2:=hblk.cell (i:=off+k) (by rw [splice_length (by omega)]; omega)
    have hsp:lim (splice zs off os) (off+k)=lim ps k:=by
      rw [HPZ.out k (by omega)]
      unfold splice
      rw [lim_append_right (by simp; omega),lim_drop]
      congr 1
      simp; omega
    rw [hsp] at hcell2
    have hf:=hblk.free (off+k)
    have hplim:lim ps k < 4294967296:=lim_lt op _
    by_cases hlt:k < n
    · obtain ⟨bx,offx,rfl,hcell,hblt⟩:=(H.out.keep hkeep (fun b' o' n' c' e=>HNE.out b' o' n' c' e)).cell (i:=k) (by have:=HLN.out; omega)
      have hlim:lim ys k < 4294967296:=lim_lt oy _
      obtain ⟨t,ht,et⟩:∃ t:Nat,(q:Int)+(((lim ps k:Nat):Int)+((lim ys k:Nat):Int))=(t:Int)∧t=q+(lim ps k+lim ys k):=⟨_,by omega,rfl⟩
      have R:=give_step hol hok hv et
      obtain ⟨d,hd,edd⟩:∃ d:Nat,((t:Int) % 4294967296)=(d:Int)∧d=t % 4294967296:=⟨t % 4294967296,by omega,rfl⟩
      obtain ⟨th,hth,eth⟩:∃ th:Nat,((t:Int) / 4294967296)=(th:Int)∧th=t / 4294967296:=⟨t / 4294967296,by omega,rfl⟩
      rw [← edd,← eth] at R
      have hb2:=hblk.set (off+k) d
      rw [← hol,splice_set (by omega),hol] at hb2
      have HR:=Lib.hid R
      have HB2:=Lib.hid hb2
      have HK2:=Lib.hid (hkeep.setCell (a:=⟨b,off+k,none⟩) rfl (.int .u32 (d:Nat)))
      have hth1:th≤1:=by omega
      have htb:t < 18446744073709551616:=by omega
      have hkn:(k:Int) < (n:Int)+1:=by omega
      clear R hb2 hv hblk hkeep hol hsp et edd eth hok
      go_wp2_with fail
      obtain ⟨r1,r2,r3⟩:=HR.out
      exact ⟨⟨k+1,th,os++[d],by omega,by go_num,rfl,hth1,r1,r2,r3,HB2.out,HK2.out⟩,by simp [intOf]; omega⟩
    · obtain rfl:k=n:=by omega
      have hyt:ys.take k=ys:=List.take_of_length_le (by have:=HLN.out; omega)
      have hpt:val ps=val (ps.take k)+pw k * lim ps k:=by
        have h1:=val_take_succ (xs:=ps) (i:=k) (by have:=HPL.out; omega)
        rwa [List.take_of_length_le (by have:=HPL.out; omega)] at h1
      rw [hyt] at hv
      obtain ⟨d,hd,edd⟩:∃ d:Nat,IntKind.u32.wrap (((lim ps k:Nat):Int)+(q:Int))=(d:Int)∧d=(lim ps k+q) % 4294967296:=⟨_,by rw [IntKind.wrap_u32]; omega,rfl⟩
      have hb2:=hblk.set (off+k) d
      rw [← hol,splice_set (by omega),hol] at hb2
      have HB2:=Lib.hid hb2
      have HK2:=Lib.hid (hkeep.setCell (a:=⟨b,off+k,none⟩) rfl (.int .u32 (d:Nat)))
      have HR:=Lib.hid (show (os++[d]).length=k+1∧Ok (os++[d])∧val (os++[d])+pw (k+1) * ((lim ps k+q) / 4294967296)=val ps+val ys from by
        refine ⟨by rw [List.length_append,hol]; rfl,hok.append (Ok.cons (by omega) Ok.nil),?_⟩
        rw [val_snoc,hol,hpt,pw_succ]
        have e1:pw k * d+4294967296 * pw k * ((lim ps k+q) / 4294967296)=pw k * (lim ps k+q):=by
          rw [Nat.mul_comm 4294967296 (pw k),Nat.mul_assoc,← Nat.mul_add]; congr 1; omega
        rw [Nat.mul_add] at e1
        omega)
      have hkn:(k:Int) < (k:Int)+1:=by omega
      clear hb2 hv hblk hkeep hol hsp hok edd hpt hyt
      go_wp2_with fail
      go_end0
      obtain ⟨r1,r2,r3⟩:=HR.out
      exact ⟨rfl,os++[d],_,r1,r2,r3,HB2.out,HK2.out⟩
end Go.Proofs.YthffkbbcofbceaaGreatDoor

namespace Go.Proofs.YthffkbbcofbceaaGreatDoor
open Go.RowKit Cin
def GuessPost (ps ys:List Nat) (w:World) (e:Ending) (w':World):Prop:=∃ (q nq:Nat),e=.returned (.int .u32 q)∧q < 4294967296∧val ps / val ys≤q∧q * val ys≤val ps+val ys∧w'=w.drewN nq
def GuessRel (ps ys:List Nat) (m:Nat) (qx lx:Value):Prop:=∃ q left:Nat,qx=.int .u64 q∧lx=.int .u64 left∧q < 18446744073709551616∧left < 4294967296∧Guess ps ys m q left
set_option maxRecDepth 100000 in
set_option maxHeartbeats 4000000 in
theorem guessLimb_any (v u:Value) (ps ys:List Nat) (m:Nat) (w:World) (h:Sl 202 .u32 w v ps) (h':Sl 202 .u32 w u ys) (op:Ok ps) (oy:Ok ys) (hp:ps.length=m+3) (hy:ys.length=m+2) (hm:m≤100000000)
    (hhi:1≤lim ys (m+1)) (hlt:val ps < 4294967296 * val ys) :
    Calls Tryz.prog 204 #[v,u] w (GuessPost ps ys w):=by
  obtain ⟨ad,cap,rfl,hc,_⟩:=h.shape
  obtain ⟨ad',cap',rfl,hc',_⟩:=h'.shape
  have hy0:0 < val ys:=by
    obtain ⟨r,_,e⟩:=val_top2 oy hy
    have h1:=pw_pos m
    have:pw m * 1≤pw m * (lim ys m+4294967296 * lim ys (m+1)):=Nat.mul_le_mul_left _ (by omega)
    omega
  have HF:=Lib.hid (Guess.first op oy hp hy hhi)
  have HST:=Lib.hid (fun q left (hg:Guess ps ys m q left)=>Guess.step op oy hp hy hy0 hg hlt)
  have HDN:=Lib.hid (fun q left (hg:Guess ps ys m q left)=>Guess.done op oy hp hy hhi hg hlt)
  obtain ⟨b,off,rfl,hp0,_⟩:=h.cell (i:=m) (by omega)
  obtain ⟨_,_,e1,hp1,_⟩:=h.cell (i:=m+1) (by omega)
  cases e1
  obtain ⟨_,_,e2,hp2,_⟩:=h.cell (i:=m+2) (by omega)
  cases e2
  obtain ⟨b',off',rfl,hy1,_⟩:=h'.cell (i:=m) (by omega)
  obtain ⟨_,_,e3,hy2,_⟩:=h'.cell (i:=m+1) (by omega)
  cases e3
  have b0:=lim_lt op m
  have b1:=lim_lt op (m+1)
  have b2:=lim_lt op (m+2)
  have c0:=lim_lt oy m
  have c1:=lim_lt oy (m+1)
  rw [hp,hy]
  clear h h' hp hy hlt hy0 hc hc'
  generalize lim ps m=p0 at *
  generalize lim ps (m+1)=p1 at *
  generalize lim ps (m+2)=p2 at *
  generalize lim ys m=next at *
  generalize lim ys (m+1)=high at *
  have i1:((m+2:Nat):Int) - 1=((m+1:Nat):Int):=by omega
  have i2:((m+2:Nat):Int) - 2=(m:Int):=by omega
  obtain ⟨hd,ehd⟩:∃ hd:Nat,hd=p1+4294967296 * p2:=⟨_,rfl⟩
  have hor:bits BinOp.or IntKind.u64 ((p2:Int) * 4294967296) (p1:Int)=(hd:Int):=by
    have:=or_u64 (x:=p2) (y:=p1) (s:=32) (by omega) (by omega) (by omega)
    rw [ehd]; simp at this ⊢; omega
  have hdb:hd < 18446744073709551616:=by omega
  rw [← ehd] at HF
  have hqle:=Nat.div_le_self hd high
  have hlr:=Nat.mod_lt hd hhi
  obtain ⟨q0,hq0,eq0⟩:∃ q0:Nat,IntKind.u64.wrap ((hd:Int) / (high:Int))=(q0:Int)∧q0=hd / high:=⟨hd / high,by
    rw [← Int.natCast_ediv,IntKind.wrap_u64]; generalize hd / high=z at *; omega,rfl⟩
  obtain ⟨l0,hl0,el0⟩:∃ l0:Nat,(hd:Int).tmod (high:Int)=(l0:Int)∧l0=hd % high:=⟨hd % high,rfl,rfl⟩
  rw [← eq0,← el0] at HF
  have hq0b:q0 < 18446744073709551616:=by omega
  have hl0b:l0 < 4294967296:=by omega
  have hhb:((high:Int) == 0)=false:=beq_eq_false_iff_ne.2 (by omega)
  clear ehd eq0 el0 hqle hlr
  go_enter Tryz.func204,Tryz.ntmps204
  go_wp2_with fail
  go_big_region
  go_wp2_with fail
  go_big_region
  go_wp2_with fail
  go_big_region
  go_wp2_with fail
  clear hor hq0 hl0 hp1 hp2 hy1 hy2
  go_loop [9,10] (fun qx lx=>GuessRel ps ys m qx lx) (fun qx _=>(intOf qx).toNat)
  case atStart=>exact ⟨q0,l0,rfl,rfl,hq0b,hl0b,HF.out⟩
  case round=>
    obtain ⟨q,left,rfl,rfl,hqb,hlb,hg⟩:=hrel
    have HG:=Lib.hid hg
    clear hg
    by_cases hge:4294967296≤q
    · have ht1:((q:Int) / 4294967296 == 0)=false:=by rw [beq_eq_false_iff_ne]; omega
      obtain ⟨hq1,hg1⟩:=HST.out q left HG.out (.inl hge)
      obtain ⟨q1,eq1⟩:∃ q1:Nat,q - 1=q1:=⟨_,rfl⟩
      rw [eq1] at hg1
      obtain ⟨l1,el1,hl1⟩:∃ l1:Nat,(left:Int)+(high:Int)=(l1:Int)∧left+high=l1:=⟨_,by omega,rfl⟩
      rw [hl1] at hg1
      have HG1:=Lib.hid hg1
      have eq2:(q:Int) - 1=(q1:Int):=by omega
      have hq1q:q1 < q:=by omega
      have hl1b:l1 < 8589934592:=by omega
      clear hg1 hl1 HG eq1
      by_cases hbr:l1 < 4294967296
      · have hb1:((l1:Int) / 4294967296 == 0)=true:=by rw [beq_iff_eq]; omega
        go_wp2_with fail
        exact ⟨⟨q1,l1,by first | rfl | (congr 1; omega),rfl,by omega,hbr,HG1.out⟩,by simp [intOf]; omega⟩
      · have hb1:((l1:Int) / 4294967296 == 0)=false:=by rw [beq_eq_false_iff_ne]; omega
        obtain ⟨d1,d2,d3⟩:=HDN.out q1 l1 HG1.out (.inl (by omega))
        have HD2:=Lib.hid d2
        have HD3:=Lib.hid d3
        clear d2 d3
        go_wp2_with fail
        go_ret
        exact ⟨q1,3,rfl,d1,HD2.out,HD3.out,rfl⟩
    · have ht1:((q:Int) / 4294967296 == 0)=true:=by rw [beq_iff_eq]; omega
      have hqn:q * next≤4294967295 * 4294967295:=Nat.mul_le_mul (by omega) (by omega)
      obtain ⟨qn,eqn,hqn1⟩:∃ qn:Nat,IntKind.u64.wrap ((q:Int) * (next:Int))=(qn:Int)∧q * next=qn:=⟨_,by
        rw [IntKind.wrap_u64,show ((q:Int) * (next:Int))=((q * next:Nat):Int) by simp]; omega,rfl⟩
      obtain ⟨lp,hlp⟩:∃ lp:Nat,left * 4294967296+p0=lp:=⟨_,rfl⟩
      have hor:bits BinOp.or IntKind.u64 ((left:Int) * 4294967296) (p0:Int)=(lp:Int):=by
        have:=or_u64 (x:=left) (y:=p0) (s:=32) (by omega) (by omega) (by omega)
        rw [← hlp]; simp at this ⊢; omega
      by_cases htt:lp < qn
      · have ht2:decide ((lp:Int) < (qn:Int))=true:=by rw [decide_eq_true_iff]; omega
        have HW:=Lib.hid (show left * 4294967296+p0 < q * next by rw [hlp,hqn1]; exact htt)
        clear hlp hqn1 hqn
        obtain ⟨hq1,hg1⟩:=HST.out q left HG.out (.inr HW.out)
        obtain ⟨q1,eq1⟩:∃ q1:Nat,q - 1=q1:=⟨_,rfl⟩
        rw [eq1] at hg1
        obtain ⟨l1,el1,hl1⟩:∃ l1:Nat,(left:Int)+(high:Int)=(l1:Int)∧left+high=l1:=⟨_,by omega,rfl⟩
        rw [hl1] at hg1
        have HG1:=Lib.hid hg1
        have eq2:(q:Int) - 1=(q1:Int):=by omega
        have hq1q:q1 < q:=by omega
        have hl1b:l1 < 8589934592:=by omega
        clear hg1 hl1 HG eq1
        by_cases hbr:l1 < 4294967296
        · have hb1:((l1:Int) / 4294967296 == 0)=true:=by rw [beq_iff_eq]; omega
          go_wp2_with fail
          exact ⟨⟨q1,l1,by first | rfl | (congr 1; omega),rfl,by omega,hbr,HG1.out⟩,by simp [intOf]; omega⟩
        · have hb1:((l1:Int) / 4294967296 == 0)=false:=by rw [beq_eq_false_iff_ne]; omega
          obtain ⟨d1,d2,d3⟩:=HDN.out q1 l1 HG1.out (.inl (by omega))
          have HD2:=Lib.hid d2
          have HD3:=Lib.hid d3
          clear d2 d3
          go_wp2_with fail
          go_ret
          exact ⟨q1,3,rfl,d1,HD2.out,HD3.out,rfl⟩
      · have ht2:decide ((lp:Int) < (qn:Int))=false:=by rw [decide_eq_false_iff_not]; omega
        obtain ⟨d1,d2,d3⟩:=HDN.out q left HG.out (.inr ⟨by omega,by rw [hlp,hqn1]; omega⟩)
        have HD2:=Lib.hid d2
        have HD3:=Lib.hid d3
        clear d2 d3 hlp hqn1 hqn
        go_wp2_with fail
        go_ret
        exact ⟨q,3,rfl,d1,HD2.out,HD3.out,rfl⟩
end Go.Proofs.YthffkbbcofbceaaGreatDoor
