/- Contracts of whole's From, Abs, Sign, Neg, Cmp, Of. -/
import Derived.Test.YthffkbbcofbceaaGreatDoorYh
import Derived.Test.YthffkbbcofbceaaGreatDoorYg
import Derived.Test.YthffkbbcofbceaaGreatDoorYb
import Derived.Lib.ItoaNum
namespace Go.Proofs.YthffkbbcofbceaaGreatDoor
open Go.RowKit Cin
set_option maxHeartbeats 800000 in
theorem from_any (b:Bool) (v:Value) (n k:Nat) (w:World) (h:NatB 202 w v n k) (hk:k≤10000000) :
    Calls Tryz.prog 139 #[.bool b,v] w fun e w'=>∃ v',e=.returned v'∧IntB 202 w' v' (sg b n) k∧Below w.heap.size w w':=by
  obtain ⟨ad,len,cap,rfl,hr⟩:=h.shape
  have H:=Lib.hid h
  clear h hr
  go_enter Tryz.func139,Tryz.ntmps139
  go_wp2_with fail
  refine (fresh_any _ n k _ (H.out.below (bel_alloc2 _ _ _)) hk).mono ?_
  rintro e w1 ⟨v1,rfl,hn1,hb1⟩
  have HN1:=Lib.hid hn1
  have HB1:=Lib.hid hb1
  clear hn1 hb1
  go_wp2_with fail
  refine (signed_any b v1 n k _ HN1.out hk).mono ?_
  rintro e w2 ⟨v2,rfl,hn2,hb2⟩
  obtain ⟨bbR,adR,lenR,capR,rfl,hrR⟩:=hn2.shape2
  have hslR:=(Slot.of (n:=2) (((heldN2 (w:=w)).below HB1.out).below hb2).2.1 rfl)
  obtain ⟨xR,yR,hxR,hyR,hfxR,hfyR⟩:=hslR.two
  have HRR:=Lib.hid (fin_int hn2 hslR (by decide) (bel_on (bel_on (bel_alloc2 _ _ _) HB1.out) hb2) (by omega))
  clear hrR hslR hn2 hb2
  go_wp2
  refine bodyPost_ret (v:=.agg #[.bool bbR,.slice adR lenR capR]) (by simp [results,Tryz.results139,go_sem,HRR.out.2.2.1,HRR.out.2.2.2]) rfl (⟨_,rfl,HRR.out.1,HRR.out.2.1⟩)
set_option maxHeartbeats 800000 in
theorem abs_any (v:Value) (z:Int) (k:Nat) (w:World) (h:IntB 202 w v z k) (hk:k≤10000000) :
    Calls Tryz.prog 141 #[v] w fun e w'=>∃ v',e=.returned v'∧NatB 202 w' v' z.natAbs k∧Below w.heap.size w w':=by
  obtain ⟨ad,len,cap,rfl,hr⟩:=h.shape
  have H:=Lib.hid h.part.1
  clear h hr
  go_enter Tryz.func141,Tryz.ntmps141
  go_wp2_with fail
  refine (fresh_any _ z.natAbs k _ (H.out.below (bel_alloc2 _ _ _)) hk).mono ?_
  rintro e w1 ⟨v1,rfl,hn1,hb1⟩
  obtain ⟨ad1,len1,cap1,rfl,hr⟩:=hn1.shape
  have hh:=(heldN2 (w:=w)).below hb1
  have hc:=cell0 hh.2.1
  have hf:=free_of hh.2.1 0
  have HR:=Lib.hid (fin_nat (tn:=52) (bel_on (bel_alloc2 _ _ _) hb1) hh.2.1 (by decide) hr (by omega) 0)
  clear hb1 hn1 hr hh
  go_wp2
  refine bodyPost_ret (v:=.agg #[.slice ad1 len1 cap1]) (by simp [results,Tryz.results141,go_sem,World.cell?_setCell_same _ _ _ hc]) rfl ⟨_,rfl,?_⟩
  exact ⟨⟨HR.out.1,H.out.2⟩,HR.out.2⟩
set_option maxHeartbeats 800000 in
theorem sign_any (v:Value) (z:Int) (k:Nat) (w:World) (h:IntB 202 w v z k) (hk:k≤10000000) :
    Calls Tryz.prog 110 #[v] w fun e w'=>e=.returned (.int .i64 (sgnZ z))∧Below w.heap.size w w':=by
  obtain ⟨ad,len,cap,rfl,hr⟩:=h.shape
  have H:=Lib.hid h.part.1
  clear h hr
  by_cases hz:z < 0
  · have hd:decide (z < 0)=true:=decide_eq_true hz
    rw [hd,show sgnZ z=-1 by unfold sgnZ; rw [if_pos hz]]
    clear hd
    go_enter Tryz.func110,Tryz.ntmps110
    go_wp2_with fail
    go_ret
    exact ⟨rfl,bel_alloc _ _⟩
  · have hd:decide (z < 0)=false:=decide_eq_false hz
    rw [hd]
    clear hd
    go_enter Tryz.func110,Tryz.ntmps110
    go_wp2_with fail
    refine (isZero_any _ z.natAbs k _ (H.out.below (bel_alloc _ _)) hk).mono ?_
    rintro e w1 ⟨rfl,hb⟩
    have HB:=Lib.hid (bel_on (bel_alloc _ _) hb)
    clear hb
    by_cases h0:z=0
    · have hd:decide (z.natAbs=0)=true:=decide_eq_true (by omega)
      rw [hd]
      clear hd
      go_wp2_with fail
      go_ret
      exact ⟨ret_int (by unfold sgnZ; rw [if_neg (by omega),if_neg (by omega)]),HB.out⟩
    · have hd:decide (z.natAbs=0)=false:=decide_eq_false (by omega)
      rw [hd]
      clear hd
      go_wp2_with fail
      go_ret
      exact ⟨ret_int (by unfold sgnZ; rw [if_neg (by omega),if_pos (by omega)]),HB.out⟩
theorem sg_not (z:Int):sg (!decide (z < 0)) z.natAbs=-z:=by unfold sg; by_cases h:z < 0 <;> simp [h] <;> omega
set_option maxRecDepth 100000 in
set_option maxHeartbeats 800000 in
theorem neg_any (v:Value) (z:Int) (k:Nat) (w:World) (h:IntB 202 w v z k) (hk:k≤10000000) :
    Calls Tryz.prog 120 #[v] w fun e w'=>∃ v',e=.returned v'∧IntB 202 w' v' (-z) k∧Below w.heap.size w w':=by
  obtain ⟨ad,len,cap,rfl,hr⟩:=h.shape
  have H:=Lib.hid h.part.1
  clear h hr
  generalize hbz:decide (z < 0)=bz
  have HSG:=Lib.hid (show sg (!bz) z.natAbs=-z by rw [← hbz]; exact sg_not z)
  clear hbz
  go_enter Tryz.func120,Tryz.ntmps120
  go_wp2_with fail
  have hh:=heldN2 (w:=w) (c0:=#[Value.bool bz,Value.slice ad len cap]) (t0:=54) (c1:=#[Value.bool false,Value.slice none 0 0]) (t1:=54)
  have hbX:=bel_alloc2 w (Obj.cells #[Value.bool bz,Value.slice ad len cap] 54) (Obj.cells #[Value.bool false,Value.slice none 0 0] 54)
  generalize (w.alloc (Obj.cells #[Value.bool bz,Value.slice ad len cap] 54)).alloc (Obj.cells #[Value.bool false,Value.slice none 0 0] 54)=X at *
  have hc0:=cell0 hh.1
  have hc1:=cell1 hh.1
  have HSL:=Lib.hid (Slot.of (n:=2) hh.2.1 rfl)
  have HBX:=Lib.hid hbX
  clear hh hbX
  refine wp_region_sched (fun w'=>w'.cell? ⟨w.heap.size,0,none⟩=some (.bool bz)∧w'.cell? ⟨w.heap.size,1,none⟩=some (.slice ad len cap)∧Slot w' (w.heap.size+1) 54 2∧Below w.heap.size w w') [(0,true),(1,true),(2,true),(3,true),(4,true),(5,false),(6,false),(7,false)] (by kernel_rfl) (by kernel_rfl) ?_ (fun hHeld=>?_)
  · (try dsimp only)
    exact ⟨hc0,hc1,HSL.out.drew,HBX.out.drew⟩
  try dsimp only at hHeld
  repeat (refine wpSched_at (by simp only [List.getElem?_toArray,List.getElem?_cons_zero,List.getElem?_cons_succ]; rfl) ?_; (first | (apply wpAt_take rfl; (intro wx hSx; (try dsimp only at hSx); go_simp; (try with_reducible rfl)); simp only [Act.put,List.setIfInBounds_toArray,List.set_cons_zero,List.set_cons_succ]) | (refine wpAt_skip rfl ?_; simp only [Act.put,List.setIfInBounds_toArray,List.set_cons_zero,List.set_cons_succ]) | (refine wpAt_pass rfl hHeld ?_; simp only [Act.put,List.setIfInBounds_toArray,List.set_cons_zero,List.set_cons_succ]) | (refine wpAt_eff rfl (fun K hK=>?_); ((obtain ⟨x0,y0,hx0,hy0,hfx0,hfy0⟩:=hHeld.2.2.1.two); (try simp only [cell_drew,frozen_drew] at hx0 hy0 hfx0 hfy0)); go_simp; (first | (go_at_call 163; (with_reducible refine (fresh_any (.agg #[.slice ad len cap]) z.natAbs k _ ?_ hk).mono ?_); (exact H.out.below hHeld.2.2.2); rintro e w' ⟨vf,rfl,hn,hb⟩; (try replace NF:=Lib.hid (NF.out.below hb)); have NF:=Lib.hid hn; have hS:=And.intro trivial (And.intro (cell_below hHeld.1 hb) (And.intro (cell_below hHeld.2.1 hb) (And.intro (hHeld.2.2.1.below hb) (bel_on hHeld.2.2.2 hb)))); clear hb hHeld hn) | (go_at_call 137; (with_reducible refine (signed_any (!bz) vf z.natAbs k _ ?_ hk).mono ?_); (exact NF.out); rintro e w' ⟨vs,rfl,hn,hb⟩; (try replace NF:=Lib.hid (NF.out.below hb)); have NS:=Lib.hid hn; (rw [HSG.out] at NS); obtain ⟨bbR,adR,lenR,capR,rfl,hrR⟩:=NS.out.shape2; have hS:=And.intro trivial (And.intro (cell_below hHeld.1 hb) (And.intro (cell_below hHeld.2.1 hb) (And.intro (hHeld.2.2.1.below hb) (bel_on hHeld.2.2.2 hb)))); clear hb hHeld hn) | (try simp only [cell_drew,slot_drew,below_drew] at hHeld)); (refine hK.out _ _ ?_ (fun hHeld=>?_)); ((try dsimp only); ((try simp only [cell_drew,slot_drew,below_drew]); refine ⟨?_,?_,?_,?_⟩; (first | exact hS.2.1 | with_reducible exact cell_set hHeld.1 (by omega) | with_reducible exact cell_set (cell_set hHeld.1 (by omega)) (by omega)); (first | exact hS.2.2.1 | with_reducible exact cell_set hHeld.2.1 (by omega) | with_reducible exact cell_set (cell_set hHeld.2.1 (by omega)) (by omega)); (first | exact hS.2.2.2.1 | with_reducible exact hHeld.2.2.1.set _ _ _ | with_reducible exact (hHeld.2.2.1.set _ _ _).set _ _ _); (first | exact hS.2.2.2.2 | with_reducible exact bel_set1 hHeld.2.2.2 (by omega) | with_reducible exact bel_set2 hHeld.2.2.2 (by omega) (by omega)))); clear hK K; (try clear hS); (try clear hfx0 hx0 x0); (try clear hfy0 hy0 y0); (try clear hfx1 hx1 x1); (try clear hfy1 hy1 y1); (try dsimp only at hHeld))))
  refine wpSched_nil ?_
  rename_i hOld
  have HRR:=Lib.hid (fin_int NS.out hOld.2.2.1 (by decide) hOld.2.2.2 (by omega))
  clear hOld hHeld
  go_wp2_with fail
  refine bodyPost_ret (v:=.agg #[.bool bbR,.slice adR lenR capR]) (by simp [results,Tryz.results120,go_sem,HRR.out.2.2.1,HRR.out.2.2.2]) rfl (⟨_,rfl,HRR.out.1,HRR.out.2.1⟩)
theorem sg_mul (x y:Int):sg (decide (x < 0) != decide (y < 0)) (x.natAbs * y.natAbs)=x * y:=by
  unfold sg
  rw [← Int.natAbs_mul]
  by_cases hx:x < 0 <;> by_cases hy:y < 0
  · have:=Int.mul_nonneg (show 0≤-x by omega) (show 0≤-y by omega)
    rw [Int.neg_mul_neg] at this
    simp [hx,hy]; omega
  · have:=Int.mul_nonneg (show 0≤-x by omega) (show 0≤y by omega)
    rw [Int.neg_mul] at this
    simp [hx,hy]; omega
  · have:=Int.mul_nonneg (show 0≤x by omega) (show 0≤-y by omega)
    rw [Int.mul_neg] at this
    simp [hx,hy]; omega
  · have:=Int.mul_nonneg (show 0≤x by omega) (show 0≤y by omega)
    simp [hx,hy]; omega
set_option maxRecDepth 100000 in
set_option maxHeartbeats 800000 in
theorem imul_any (v u:Value) (x y:Int) (k j:Nat) (w:World) (h:IntB 202 w v x k) (h':IntB 202 w u y j) (hk:k≤5000000) (hj:j≤5000000) :
    Calls Tryz.prog 100 #[v,u] w fun e w'=>∃ v',e=.returned v'∧IntB 202 w' v' (x * y) (k+j)∧Below w.heap.size w w':=by
  obtain ⟨ad,len,cap,rfl,hr⟩:=h.shape
  obtain ⟨ad',len',cap',rfl,hr'⟩:=h'.shape
  have H:=Lib.hid h.part.1
  have H':=Lib.hid h'.part.1
  clear h hr h' hr'
  generalize hbx:decide (x < 0)=bx
  generalize hby:decide (y < 0)=bz
  have HSG:=Lib.hid (show sg (!(bx == bz)) (x.natAbs * y.natAbs)=x * y by rw [← hbx,← hby]; exact sg_mul x y)
  have hkj:k+j≤10000000:=by omega
  clear hbx hby
  go_enter Tryz.func100,Tryz.ntmps100
  go_wp2_with fail
  have hh:=heldN3 (w:=w) (c0:=#[Value.bool bx,Value.slice ad len cap]) (t0:=54) (c1:=#[Value.bool bz,Value.slice ad' len' cap']) (t1:=54) (c2:=#[Value.bool false,Value.slice none 0 0]) (t2:=54)
  have hbX:=bel_alloc3 w (Obj.cells #[Value.bool bx,Value.slice ad len cap] 54) (Obj.cells #[Value.bool bz,Value.slice ad' len' cap'] 54) (Obj.cells #[Value.bool false,Value.slice none 0 0] 54)
  generalize ((w.alloc (Obj.cells #[Value.bool bx,Value.slice ad len cap] 54)).alloc (Obj.cells #[Value.bool bz,Value.slice ad' len' cap'] 54)).alloc (Obj.cells #[Value.bool false,Value.slice none 0 0] 54)=X at *
  have hc0:=cell0 hh.1
  have hc1:=cell1 hh.1
  have hd0:=cell0 hh.2.1
  have hd1:=cell1 hh.2.1
  have HSL:=Lib.hid (Slot.of (n:=2) hh.2.2.1 rfl)
  have HBX:=Lib.hid hbX
  clear hh hbX
  refine wp_region_sched (fun w'=>w'.cell? ⟨w.heap.size,0,none⟩=some (.bool bx)∧w'.cell? ⟨w.heap.size,1,none⟩=some (.slice ad len cap)∧w'.cell? ⟨w.heap.size+1,0,none⟩=some (.bool bz)∧w'.cell? ⟨w.heap.size+1,1,none⟩=some (.slice ad' len' cap')∧Slot w' (w.heap.size+1+1) 54 2∧Below w.heap.size w w') [(0,true),(1,true),(2,true),(3,true),(4,true),(5,true),(6,true),(7,true),(8,true),(9,false),(10,false),(11,false)] (by kernel_rfl) (by kernel_rfl) ?_ (fun hHeld=>?_)
  · (try dsimp only)
    exact ⟨hc0,hc1,hd0,hd1,HSL.out.drew,HBX.out.drew⟩
  try dsimp only at hHeld
  repeat (refine wpSched_at (by simp only [List.getElem?_toArray,List.getElem?_cons_zero,List.getElem?_cons_succ]; rfl) ?_; (first | (apply wpAt_take rfl; (intro wx hSx; (try dsimp only at hSx); go_simp; (try with_reducible rfl)); simp only [Act.put,List.setIfInBounds_toArray,List.set_cons_zero,List.set_cons_succ]) | (refine wpAt_skip rfl ?_; simp only [Act.put,List.setIfInBounds_toArray,List.set_cons_zero,List.set_cons_succ]) | (refine wpAt_pass rfl hHeld ?_; simp only [Act.put,List.setIfInBounds_toArray,List.set_cons_zero,List.set_cons_succ]) | (refine wpAt_eff rfl (fun K hK=>?_); ((obtain ⟨x0,y0,hx0,hy0,hfx0,hfy0⟩:=hHeld.2.2.2.2.1.two); (try simp only [cell_drew,frozen_drew] at hx0 hy0 hfx0 hfy0)); go_simp; (first | (go_at_call 138; (with_reducible refine (mulB (.agg #[.slice ad len cap]) (.agg #[.slice ad' len' cap']) x.natAbs y.natAbs k j _ ?_ ?_ (by omega) (by omega)).mono ?_); (exact H.out.below hHeld.2.2.2.2.2); (exact H'.out.below hHeld.2.2.2.2.2); rintro e w' ⟨vf,rfl,hn,hb⟩; (try replace NF:=Lib.hid (NF.out.below hb)); have NF:=Lib.hid hn; have hS:=And.intro trivial (And.intro (cell_below hHeld.1 hb) (And.intro (cell_below hHeld.2.1 hb) (And.intro (cell_below hHeld.2.2.1 hb) (And.intro (cell_below hHeld.2.2.2.1 hb) (And.intro (hHeld.2.2.2.2.1.below hb) (bel_on hHeld.2.2.2.2.2 hb)))))); clear hb hHeld hn) | (go_at_call 137; (with_reducible refine (signed_any (!(bx == bz)) vf (x.natAbs * y.natAbs) (k+j) _ ?_ hkj).mono ?_); (exact NF.out); rintro e w' ⟨vs,rfl,hn,hb⟩; (try replace NF:=Lib.hid (NF.out.below hb)); have NS:=Lib.hid hn; (rw [HSG.out] at NS); obtain ⟨bbR,adR,lenR,capR,rfl,hrR⟩:=NS.out.shape2; have hS:=And.intro trivial (And.intro (cell_below hHeld.1 hb) (And.intro (cell_below hHeld.2.1 hb) (And.intro (cell_below hHeld.2.2.1 hb) (And.intro (cell_below hHeld.2.2.2.1 hb) (And.intro (hHeld.2.2.2.2.1.below hb) (bel_on hHeld.2.2.2.2.2 hb)))))); clear hb hHeld hn) | (try simp only [cell_drew,slot_drew,below_drew] at hHeld)); (refine hK.out _ _ ?_ (fun hHeld=>?_)); ((try dsimp only); ((try simp only [cell_drew,slot_drew,below_drew]); refine ⟨?_,?_,?_,?_,?_,?_⟩; (first | exact hS.2.1 | with_reducible exact cell_set hHeld.1 (by omega) | with_reducible exact cell_set (cell_set hHeld.1 (by omega)) (by omega)); (first | exact hS.2.2.1 | with_reducible exact cell_set hHeld.2.1 (by omega) | with_reducible exact cell_set (cell_set hHeld.2.1 (by omega)) (by omega)); (first | exact hS.2.2.2.1 | with_reducible exact cell_set hHeld.2.2.1 (by omega) | with_reducible exact cell_set (cell_set hHeld.2.2.1 (by omega)) (by omega)); (first | exact hS.2.2.2.2.1 | with_reducible exact cell_set hHeld.2.2.2.1 (by omega) | with_reducible exact cell_set (cell_set hHeld.2.2.2.1 (by omega)) (by omega)); (first | exact hS.2.2.2.2.2.1 | with_reducible exact hHeld.2.2.2.2.1.set _ _ _ | with_reducible exact (hHeld.2.2.2.2.1.set _ _ _).set _ _ _); (first | exact hS.2.2.2.2.2.2 | with_reducible exact bel_set1 hHeld.2.2.2.2.2 (by omega) | with_reducible exact bel_set2 hHeld.2.2.2.2.2 (by omega) (by omega)))); clear hK K; (try clear hS); (try clear hfx0 hx0 x0); (try clear hfy0 hy0 y0); (try clear hfx1 hx1 x1); (try clear hfy1 hy1 y1); (try dsimp only at hHeld))))
  refine wpSched_nil ?_
  rename_i hOld
  have HRR:=Lib.hid (fin_int NS.out hOld.2.2.2.2.1 (by decide) hOld.2.2.2.2.2 (by omega))
  clear hOld hHeld
  go_wp2_with fail
  refine bodyPost_ret (v:=.agg #[.bool bbR,.slice adR lenR capR]) (by simp [results,Tryz.results100,go_sem,HRR.out.2.2.1,HRR.out.2.2.2]) rfl (⟨_,rfl,HRR.out.1,HRR.out.2.1⟩)
set_option maxHeartbeats 800000 in
theorem icmp_any (v u:Value) (x y:Int) (k j:Nat) (w:World) (h:IntB 202 w v x k) (h':IntB 202 w u y j) (hk:k≤10000000) (hj:j≤10000000) :
    Calls Tryz.prog 99 #[v,u] w fun e w'=>e=.returned (.int .i64 (cmpZ x y))∧Below w.heap.size w w':=by
  obtain ⟨ad,len,cap,rfl,hr⟩:=h.shape
  obtain ⟨ad',len',cap',rfl,hr'⟩:=h'.shape
  have H:=Lib.hid h.part.1
  have H':=Lib.hid h'.part.1
  clear h hr h' hr'
  by_cases hx:x < 0 <;> by_cases hy:y < 0
  · rw [decide_eq_true hx,decide_eq_true hy]
    go_enter Tryz.func99,Tryz.ntmps99
    go_wp2_with fail
    refine (cmpB _ _ y.natAbs x.natAbs j k _ (H'.out.below (bel_alloc2 _ _ _)) (H.out.below (bel_alloc2 _ _ _)) hj hk).mono ?_
    rintro e w1 ⟨rfl,hb⟩
    have HB:=Lib.hid (bel_on (bel_alloc2 _ _ _) hb)
    clear hb
    go_wp2
    go_ret
    refine ⟨ret_int ?_,HB.out⟩
    unfold cmpI cmpZ
    split <;> split <;> (try split) <;> (try split) <;> omega
  · rw [decide_eq_true hx,decide_eq_false hy,show cmpZ x y=-1 by unfold cmpZ; rw [if_pos (by omega)]]
    go_enter Tryz.func99,Tryz.ntmps99
    go_wp2_with fail
    go_ret
    exact ⟨rfl,bel_alloc2 _ _ _⟩
  · rw [decide_eq_false hx,decide_eq_true hy,show cmpZ x y=1 by unfold cmpZ; rw [if_neg (by omega),if_pos (by omega)]]
    go_enter Tryz.func99,Tryz.ntmps99
    go_wp2_with fail
    go_ret
    exact ⟨rfl,bel_alloc2 _ _ _⟩
  · rw [decide_eq_false hx,decide_eq_false hy]
    go_enter Tryz.func99,Tryz.ntmps99
    go_wp2_with fail
    refine (cmpB _ _ x.natAbs y.natAbs k j _ (H.out.below (bel_alloc2 _ _ _)) (H'.out.below (bel_alloc2 _ _ _)) hk hj).mono ?_
    rintro e w1 ⟨rfl,hb⟩
    have HB:=Lib.hid (bel_on (bel_alloc2 _ _ _) hb)
    clear hb
    go_wp2
    go_ret
    refine ⟨ret_int ?_,HB.out⟩
    unfold cmpI cmpZ
    split <;> split <;> (try split) <;> (try split) <;> omega
theorem sg_same {x:Int} {b:Bool} {n:Nat} (h:decide (x < 0)=b):sg b (x.natAbs+n)=x+sg b n:=by
  subst h; unfold sg; by_cases hx:x < 0 <;> simp [hx] <;> omega
theorem sg_left {x:Int} {b:Bool} {n:Nat} (h:decide (x < 0)=!b) (hl:n≤x.natAbs):sg (!b) (x.natAbs - n)=x+sg b n:=by
  cases b <;> simp [sg] at h ⊢ <;> omega
theorem sg_right {x:Int} {b:Bool} {n:Nat} (h:decide (x < 0)=!b) (hl:x.natAbs < n):sg b (n - x.natAbs)=x+sg b n:=by
  cases b <;> simp [sg] at h ⊢ <;> omega
theorem eq_not_of_ne {a b:Bool} (h:(a == b)=false):a=!b:=by cases a <;> cases b <;> simp at h ⊢
set_option maxRecDepth 100000 in
set_option maxHeartbeats 1600000 in
theorem join_any (v u:Value) (x:Int) (n:Nat) (b:Bool) (k j:Nat) (w:World) (h:IntB 202 w v x k) (h':NatB 202 w u n j) (hk:k≤4000000) (hj:j≤4000000) :
    Calls Tryz.prog 143 #[v,u,.bool b] w fun e w'=>∃ v',e=.returned v'∧IntB 202 w' v' (x+sg b n) (k+j+1)∧Below w.heap.size w w':=by
  obtain ⟨ad,len,cap,rfl,hr⟩:=h.shape
  obtain ⟨ad',len',cap',rfl,hr'⟩:=h'.shape
  have H:=Lib.hid h.part.1
  have H':=Lib.hid h'
  clear h hr h' hr'
  generalize hbx:decide (x < 0)=bx
  by_cases hs:(bx == b)=true
  · have HSG:=Lib.hid (show sg b (x.natAbs+n)=x+sg b n from sg_same (hbx.trans (by simpa using hs)))
    clear hbx
    go_enter Tryz.func143,Tryz.ntmps143
    go_wp2_with fail
    refine (addB _ _ x.natAbs n k j _ (H.out.below (bel_alloc3 _ _ _ _)) (H'.out.below (bel_alloc3 _ _ _ _)) (by omega) (by omega)).mono ?_
    rintro e w1 ⟨v1,rfl,hn1,hb1⟩
    have HN1:=Lib.hid hn1
    have HB1:=Lib.hid hb1
    clear hn1 hb1
    go_wp2_with fail
    refine (signed_any b v1 (x.natAbs+n) (k+j+1) _ HN1.out (by omega)).mono ?_
    rintro e w2 ⟨v2,rfl,hn2,hb2⟩
    rw [HSG.out] at hn2
    obtain ⟨bbR,adR,lenR,capR,rfl,hrR⟩:=hn2.shape2
    have hslR:=(Slot.of (n:=2) (((heldN3 (w:=w)).below HB1.out).below hb2).2.2.1 rfl)
    obtain ⟨xR,yR,hxR,hyR,hfxR,hfyR⟩:=hslR.two
    have HRR:=Lib.hid (fin_int hn2 hslR (by decide) (bel_on (bel_on (bel_alloc3 _ _ _ _) HB1.out) hb2) (by omega))
    clear hrR hslR hn2 hb2
    go_wp2
    refine bodyPost_ret (v:=.agg #[.bool bbR,.slice adR lenR capR]) (by simp [results,Tryz.results143,go_sem,HRR.out.2.2.1,HRR.out.2.2.2]) rfl (⟨_,rfl,HRR.out.1,HRR.out.2.1⟩)
  · have hs':(bx == b)=false:=by simpa using hs
    have hnb:=hbx.trans (eq_not_of_ne hs')
    have hbb:bx=!b:=eq_not_of_ne hs'
    clear hs hs' hbx
    subst hbb
    have hs':((!b) == b)=false:=by cases b <;> rfl
    by_cases hl:n≤x.natAbs
    · have HSG:=Lib.hid (sg_left hnb hl)
      clear hnb
      go_enter Tryz.func143,Tryz.ntmps143
      go_wp2_with fail
      refine (subB _ _ x.natAbs n k j _ (H.out.below (bel_alloc3 _ _ _ _)) (H'.out.below (bel_alloc3 _ _ _ _)) (by omega) (by omega) hl).mono ?_
      rintro e w1 ⟨v1,rfl,hn1,hb1⟩
      obtain ⟨ad1,len1,cap1,rfl,hr1⟩:=hn1.shape
      have hh:=((heldN3 (w:=w)).below hb1).new #[Value.slice ad1 len1 cap1] 52
      have hca:=cell0 hh.2.1
      have hcc:=cell0 hh.1
      have HN1:=Lib.hid (hn1.below (bel_alloc w1 (Obj.cells #[Value.slice ad1 len1 cap1] 52)))
      have HB1:=Lib.hid (bel_on (bel_on (bel_alloc3 _ _ _ _) hb1) (bel_alloc w1 (Obj.cells #[Value.slice ad1 len1 cap1] 52)))
      have HH:=Lib.hid hh
      clear hn1 hb1 hr1 hh
      go_wp2_with fail
      refine (signed_any (!b) _ (x.natAbs - n) k _ HN1.out (by omega)).mono ?_
      rintro e w2 ⟨v2,rfl,hn2,hb2⟩
      rw [HSG.out] at hn2
      replace hn2:=hn2.mono (show k≤k+j+1 by omega)
      clear hca hcc
      obtain ⟨bbR,adR,lenR,capR,rfl,hrR⟩:=hn2.shape2
      have hslR:=(Slot.of (n:=2) (HH.out.below hb2).2.2.2.1 rfl)
      obtain ⟨xR,yR,hxR,hyR,hfxR,hfyR⟩:=hslR.two
      have HRR:=Lib.hid (fin_int hn2 hslR (by decide) (bel_on HB1.out hb2) (by omega))
      clear hrR hslR hn2 hb2
      go_wp2
      refine bodyPost_ret (v:=.agg #[.bool bbR,.slice adR lenR capR]) (by simp [results,Tryz.results143,go_sem,HRR.out.2.2.1,HRR.out.2.2.2]) rfl (⟨_,rfl,HRR.out.1,HRR.out.2.1⟩)
    · have hl':x.natAbs < n:=by omega
      have HSG:=Lib.hid (sg_right hnb hl')
      clear hnb hl
      go_enter Tryz.func143,Tryz.ntmps143
      go_wp2_with fail
      refine (subLessB _ _ x.natAbs n k j _ (H.out.below (bel_alloc3 _ _ _ _)) (H'.out.below (bel_alloc3 _ _ _ _)) (by omega) (by omega) hl').mono ?_
      rintro e w1 ⟨rfl,hb1⟩
      have hh:=((heldN3 (w:=w)).below hb1).new #[Value.slice none 0 0] 52
      have hca:=cell0 hh.2.2.1
      have hcc:=cell1 hh.2.1
      have HB1:=Lib.hid (bel_on (bel_on (bel_alloc3 _ _ _ _) hb1) (bel_alloc w1 (Obj.cells #[Value.slice none 0 0] 52)))
      have HH:=Lib.hid hh
      clear hb1 hh
      go_wp2_with fail
      generalize w1.alloc (Obj.cells #[Value.slice none 0 0] 52)=W1 at *
      refine (subB _ _ n x.natAbs j k _ (H'.out.below HB1.out) (H.out.below HB1.out) (by omega) (by omega) (by omega)).mono ?_
      rintro e w2 ⟨v2,rfl,hn2,hb2⟩
      obtain ⟨ad2,len2,cap2,rfl,hr2⟩:=hn2.shape
      have hh:=(HH.out.below hb2).new #[Value.slice ad2 len2 cap2] 52
      have hcc2:=cell0 hh.1
      have HN2:=Lib.hid (hn2.below (bel_alloc w2 (Obj.cells #[Value.slice ad2 len2 cap2] 52)))
      have HB2:=Lib.hid (bel_on (bel_on HB1.out hb2) (bel_alloc w2 (Obj.cells #[Value.slice ad2 len2 cap2] 52)))
      have HH2:=Lib.hid hh
      clear hn2 hb2 hr2 hh hca hcc
      go_wp2_with fail
      refine (signed_any b _ (n - x.natAbs) j _ HN2.out (by omega)).mono ?_
      rintro e w3 ⟨v3,rfl,hn3,hb3⟩
      rw [HSG.out] at hn3
      replace hn3:=hn3.mono (show j≤k+j+1 by omega)
      clear hcc2
      obtain ⟨bbR,adR,lenR,capR,rfl,hrR⟩:=hn3.shape2
      have hslR:=(Slot.of (n:=2) (HH2.out.below hb3).2.2.2.2.1 rfl)
      obtain ⟨xR,yR,hxR,hyR,hfxR,hfyR⟩:=hslR.two
      have HRR:=Lib.hid (fin_int hn3 hslR (by decide) (bel_on HB2.out hb3) (by omega))
      clear hrR hslR hn3 hb3
      go_wp2
      refine bodyPost_ret (v:=.agg #[.bool bbR,.slice adR lenR capR]) (by simp [results,Tryz.results143,go_sem,HRR.out.2.2.1,HRR.out.2.2.2]) rfl (⟨_,rfl,HRR.out.1,HRR.out.2.1⟩)
set_option maxHeartbeats 800000 in
theorem iadd_any (v u:Value) (x y:Int) (k j:Nat) (w:World) (h:IntB 202 w v x k) (h':IntB 202 w u y j) (hk:k≤4000000) (hj:j≤4000000) :
    Calls Tryz.prog 104 #[v,u] w fun e w'=>∃ v',e=.returned v'∧IntB 202 w' v' (x+y) (k+j+1)∧Below w.heap.size w w':=by
  obtain ⟨bx,ad,len,cap,rfl,hr⟩:=h.shape2
  obtain ⟨by',ad',len',cap',rfl,hr'⟩:=h'.shape2
  have H:=Lib.hid h
  have H':=Lib.hid h'.part.1
  have HY:=Lib.hid (show sg by' y.natAbs=y by rw [hr'.out]; exact sg_of y)
  clear h hr h' hr'
  go_enter Tryz.func104,Tryz.ntmps104
  go_wp2_with fail
  refine (join_any _ _ x y.natAbs by' k j _ (H.out.below (bel_alloc3 _ _ _ _)) (H'.out.below (bel_alloc3 _ _ _ _)) hk hj).mono ?_
  rintro e w1 ⟨v1,rfl,hn1,hb1⟩
  rw [HY.out] at hn1
  obtain ⟨bbR,adR,lenR,capR,rfl,hrR⟩:=hn1.shape2
  have hslR:=(Slot.of (n:=2) ((heldN3 (w:=w)).below hb1).2.2.1 rfl)
  obtain ⟨xR,yR,hxR,hyR,hfxR,hfyR⟩:=hslR.two
  have HRR:=Lib.hid (fin_int hn1 hslR (by decide) (bel_on (bel_alloc3 _ _ _ _) hb1) (by omega))
  clear hrR hslR hn1 hb1
  go_wp2
  refine bodyPost_ret (v:=.agg #[.bool bbR,.slice adR lenR capR]) (by simp [results,Tryz.results104,go_sem,HRR.out.2.2.1,HRR.out.2.2.2]) rfl (⟨_,rfl,HRR.out.1,HRR.out.2.1⟩)
set_option maxHeartbeats 800000 in
theorem iof_any (z:Int) (w:World) (h0:-9223372036854775808≤z) (h1:z < 9223372036854775808) :
    Calls Tryz.prog 106 #[.int .i64 z] w fun e w'=>∃ v',e=.returned v'∧IntB 202 w' v' z 2∧Below w.heap.size w w':=by
  by_cases hz:z < 0
  · have hd:decide (z < 0)=true:=decide_eq_true hz
    obtain ⟨n,hn⟩:∃ n:Nat,z=-(n:Int)∧0 < n∧n≤9223372036854775808:=⟨z.natAbs,by omega,by omega,by omega⟩
    obtain ⟨rfl,hn0,hn1⟩:=hn
    have ew:IntKind.u64.wrap (-IntKind.u64.wrap (-(n:Int)))=(n:Int):=by
      have e1:IntKind.u64.wrap (-(n:Int))=18446744073709551616 - (n:Int):=by rw [IntKind.wrap_u64]; omega
      rw [e1]
      rw [IntKind.wrap_u64]; omega
    have HSG:=Lib.hid (show sg true n=-(n:Int) from rfl)
    clear h0 h1 hz
    go_enter Tryz.func106,Tryz.ntmps106
    go_wp2_with fail
    refine (ofB n _ (by omega)).mono ?_
    rintro e w1 ⟨v1,rfl,hn2,hb1⟩
    have HN1:=Lib.hid hn2
    have HB1:=Lib.hid hb1
    clear hn2 hb1 ew
    go_wp2_with fail
    refine (signed_any true v1 n 2 _ HN1.out (by decide)).mono ?_
    rintro e w2 ⟨v2,rfl,hn2,hb2⟩
    rw [HSG.out] at hn2
    obtain ⟨bbR,adR,lenR,capR,rfl,hrR⟩:=hn2.shape2
    have hslR:=(Slot.of (n:=2) (((heldN1 (w:=w)).below HB1.out).below hb2).1 rfl)
    obtain ⟨xR,yR,hxR,hyR,hfxR,hfyR⟩:=hslR.two
    have HRR:=Lib.hid (fin_int hn2 hslR (by decide) (bel_on (bel_on (bel_alloc _ _) HB1.out) hb2) (by omega))
    clear hrR hslR hn2 hb2 hd hn0
    go_wp2
    refine bodyPost_ret (v:=.agg #[.bool bbR,.slice adR lenR capR]) (by simp [results,Tryz.results106,go_sem,HRR.out.2.2.1,HRR.out.2.2.2]) rfl (⟨_,rfl,HRR.out.1,HRR.out.2.1⟩)
  · have hd:decide (z < 0)=false:=decide_eq_false hz
    obtain ⟨n,rfl⟩:=Int.eq_ofNat_of_zero_le (show 0≤z by omega)
    have HSG:=Lib.hid (show sg false n=(n:Int) from rfl)
    clear h0 hz
    go_enter Tryz.func106,Tryz.ntmps106
    go_wp2_with fail
    refine (ofB n _ (by omega)).mono ?_
    rintro e w1 ⟨v1,rfl,hn2,hb1⟩
    have HN1:=Lib.hid hn2
    have HB1:=Lib.hid hb1
    clear hn2 hb1
    go_wp2_with fail
    refine (signed_any false v1 n 2 _ HN1.out (by decide)).mono ?_
    rintro e w2 ⟨v2,rfl,hn2,hb2⟩
    rw [HSG.out] at hn2
    obtain ⟨bbR,adR,lenR,capR,rfl,hrR⟩:=hn2.shape2
    have hslR:=(Slot.of (n:=2) (((heldN1 (w:=w)).below HB1.out).below hb2).1 rfl)
    obtain ⟨xR,yR,hxR,hyR,hfxR,hfyR⟩:=hslR.two
    have HRR:=Lib.hid (fin_int hn2 hslR (by decide) (bel_on (bel_on (bel_alloc _ _) HB1.out) hb2) (by omega))
    clear hrR hslR hn2 hb2 hd
    go_wp2
    refine bodyPost_ret (v:=.agg #[.bool bbR,.slice adR lenR capR]) (by simp [results,Tryz.results106,go_sem,HRR.out.2.2.1,HRR.out.2.2.2]) rfl (⟨_,rfl,HRR.out.1,HRR.out.2.1⟩)
end Go.Proofs.YthffkbbcofbceaaGreatDoor

namespace Go.Proofs.YthffkbbcofbceaaGreatDoor
open Go.RowKit Cin
set_option maxHeartbeats 400000 in
theorem formatUintI_small (u:Nat) (w:World) (h:u < 100) :
    Calls Tryz.prog 217 #[.int .u64 u,.int .i64 10] w fun e w'=>e=.returned (.string ⟨(Lib.decDigits u).toArray⟩)∧w=w':=by
  go_enter Tryz.func217,Tryz.ntmps217
  go_wp2_with (go_at_call 223; refine (Tryz.internal_strconv_small u h _).mono ?_; rintro e w' ⟨rfl,rfl⟩)
  go_ret
  exact ⟨rfl,rfl⟩
set_option maxHeartbeats 400000 in
theorem formatUint_small (u:Nat) (w:World) (h:u < 100) :
    Calls Tryz.prog 197 #[.int .u64 u,.int .i64 10] w fun e w'=>e=.returned (.string ⟨(Lib.decDigits u).toArray⟩)∧w=w':=by
  go_enter Tryz.func197,Tryz.ntmps197
  go_wp2_with fail
  refine (formatUintI_small u _ h).mono ?_
  rintro e w' ⟨rfl,rfl⟩
  go_wp2
  go_ret
  exact ⟨rfl,rfl⟩
end Go.Proofs.YthffkbbcofbceaaGreatDoor

namespace Cin
open Go
def decS (n:Nat):ByteArray:=⟨(Lib.decDigits n).toArray⟩
def dd (n:Nat):List UInt8:=if n=0 then [] else Lib.decDigits n
theorem dd_zero:dd 0=[]:=if_pos rfl
theorem dd_pos {n:Nat} (h:n≠0):dd n=Lib.decDigits n:=if_neg h
theorem dec_small {n:Nat} (h:n < 10):Lib.decDigits n=[UInt8.ofNat (48+n)]:=by rw [Lib.decDigits,dif_pos h]
theorem dec_big {n:Nat} (h:¬ n < 10):Lib.decDigits n=Lib.decDigits (n / 10)++[UInt8.ofNat (48+n % 10)]:=by rw [Lib.decDigits,dif_neg h]
theorem dd_step {n:Nat} (h:n≠0):dd n=dd (n / 10)++[UInt8.ofNat (48+n % 10)]:=by
  rw [dd_pos h]
  by_cases h1:n < 10
  · rw [dec_small h1,show n / 10=0 by omega,dd_zero,Nat.mod_eq_of_lt h1]; rfl
  · rw [dec_big h1,dd_pos (show n / 10≠0 by omega)]
theorem dec_ten {q r:Nat} (hq:q≠0) (hr:r < 10):Lib.decDigits (q * 10+r)=Lib.decDigits q++[UInt8.ofNat (48+r)]:=by
  rw [dec_big (by omega),show (q * 10+r) / 10=q by omega,show (q * 10+r) % 10=r by omega]
def padk (k r:Nat):List UInt8:=List.replicate (k - (Lib.decDigits r).length) 48++Lib.decDigits r
theorem padk_one {r:Nat} (h:r < 10):padk 1 r=[UInt8.ofNat (48+r)]:=by unfold padk; rw [dec_small h]; rfl
theorem padk_succ {k r:Nat} (hk:1≤k):padk (k+1) r=padk k (r / 10)++[UInt8.ofNat (48+r % 10)]:=by
  unfold padk
  by_cases h:r < 10
  · rw [dec_small h,show r / 10=0 by omega,dec_small (show 0 < 10 by decide),Nat.mod_eq_of_lt h]
    simp only [List.length_singleton,Nat.add_sub_cancel]
    rw [List.append_assoc]
    show _=List.replicate (k - 1) 48++([48]++[_])
    rw [← List.append_assoc,← List.replicate_one (a:=(48:UInt8)),List.replicate_append_replicate,show k - 1+1=k by omega]
  · rw [dec_big h,List.length_append,List.length_singleton,Nat.add_sub_add_right,List.append_assoc]
theorem dec_group {q:Nat} (hq:q≠0):∀ (k r:Nat),1≤k→r < 10 ^ k→Lib.decDigits (q * 10 ^ k+r)=Lib.decDigits q++padk k r
  | 0,_,h,_=>by omega
  | 1,r,_,h=>by rw [padk_one (by simpa using h),Nat.pow_one,dec_ten hq (by simpa using h)]
  | k+2,r,_,h=>by
    have hp:10 ^ (k+2)=10 ^ (k+1) * 10:=Nat.pow_succ ..
    rw [hp] at h ⊢
    have hpos:0 < 10 ^ (k+1):=Nat.pow_pos (by decide)
    have hq10:10≤q * (10 ^ (k+1) * 10):=by
      have:1 * 1≤q * 10 ^ (k+1):=Nat.mul_le_mul (by omega) hpos
      rw [← Nat.mul_assoc]; omega
    rw [dec_big (by omega),padk_succ (by omega),← List.append_assoc,← dec_group hq (k+1) (r / 10) (by omega) (by omega),← Nat.mul_assoc]
    rw [show (q * 10 ^ (k+1) * 10+r) / 10=q * 10 ^ (k+1)+r / 10 by omega,show (q * 10 ^ (k+1) * 10+r) % 10=r % 10 by omega]
theorem dec_len:∀ (m n:Nat),1≤m→n < 10 ^ m→(Lib.decDigits n).length≤m
  | 0,_,h,_=>by omega
  | 1,n,_,h=>by rw [dec_small (by simpa using h)]; simp
  | m+2,n,_,h=>by
    by_cases h1:n < 10
    · rw [dec_small h1]; simp
    · rw [dec_big h1,List.length_append,List.length_singleton]
      have:=dec_len (m+1) (n / 10) (by omega) (by rw [Nat.pow_succ] at h; omega)
      omega
theorem pw_ten (k:Nat):pw k≤10 ^ (10 * k):=by
  unfold pw; rw [Nat.pow_mul]; exact Nat.pow_le_pow_left (by decide) k
theorem dec_len_pw {n k:Nat} (h:n < pw k):(Lib.decDigits n).length≤10 * k+1:=
  dec_len (10 * k+1) n (by omega) (Nat.lt_of_lt_of_le h (Nat.le_trans (pw_ten k) (Nat.pow_le_pow_right (by decide) (by omega))))
theorem minus_append (l:List UInt8):(⟨#[45]⟩:ByteArray)++⟨l.toArray⟩=⟨(45::l).toArray⟩:=by
  apply ByteArray.ext
  simp
def intS (z:Int):ByteArray:=⟨((if z < 0 then [45] else [])++Lib.decDigits z.natAbs).toArray⟩
theorem intS_neg {z:Int} (h:z < 0):intS z=(⟨#[45]⟩:ByteArray)++decS z.natAbs:=by unfold intS decS; rw [if_pos h,minus_append]; rfl
theorem intS_pos {z:Int} (h:¬ z < 0):intS z=decS z.natAbs:=by unfold intS decS; rw [if_neg h]; rfl
end Cin

namespace Go.Proofs.YthffkbbcofbceaaGreatDoor
open Go.RowKit Cin
theorem lowB (v:Value) (n:Nat) (w:World) (h:NatB 202 w v n 2) :
    Calls Tryz.prog 173 #[v] w fun e w'=>e=.returned (.int .u64 (n:Nat))∧Below w.heap.size w w':=
  (low_any v n w h.1).mono fun _ _ ⟨e,hb⟩=>⟨by rw [e,Nat.mod_eq_of_lt (show n < 18446744073709551616 from h.2)],hb⟩
set_option maxRecDepth 100000 in
set_option maxHeartbeats 1600000 in
theorem divSmall_any (v u:Value) (x y:Nat) (w:World) (h:NatB 202 w v x 2) (h':NatB 202 w u y 2) (hy:y≠0) :
    Calls Tryz.prog 180 #[v,u] w fun e w'=>∃ v' u',e=.returned (.tuple #[v',u',.bool true])∧NatB 202 w' v' (x / y) 2∧NatB 202 w' u' (x % y) 2∧Below w.heap.size w w':=by
  obtain ⟨ad,len,cap,rfl,xs,hs,ho,hnm,hx⟩:=h.shape
  obtain ⟨ad',len',cap',rfl,ys,hs',ho',hnm',hy'⟩:=h'.shape
  have hlx:=hs.len
  have hly:=hs'.len
  have hl:len≤2:=by have:=norm_len hnm (m:=2) (by rw [hx]; exact h.2); omega
  have hl':len'≤2:=by have:=norm_len hnm' (m:=2) (by rw [hy']; exact h'.2); omega
  have hl0:len'≠0:=fun e=>hy (by rw [← hy',List.length_eq_zero_iff.1 (hly.trans e)]; rfl)
  have hxl:x < 18446744073709551616:=h.2
  have hyl:y < 18446744073709551616:=h'.2
  have hq:=Nat.div_le_self x y
  have hm:=Nat.mod_lt x (Nat.pos_of_ne_zero hy)
  have hlb:((len':Int) == 0)=false:=beq_eq_false_iff_ne.2 (by omega)
  obtain ⟨q,eq1,hqd⟩:∃ q:Nat,IntKind.u64.wrap ((x:Int) / (y:Int))=(q:Int)∧q=x / y:=⟨x / y,by rw [← Int.natCast_ediv]; generalize x / y=q at *; rw [IntKind.wrap_u64]; omega,rfl⟩
  obtain ⟨r,eq2,hrd⟩:∃ r:Nat,(x:Int).tmod (y:Int)=(r:Int)∧r=x % y:=⟨x % y,rfl,rfl⟩
  have hql:q < 18446744073709551616:=by omega
  have hrl:r < 18446744073709551616:=by omega
  have HQD:=Lib.hid hqd
  have HRD:=Lib.hid hrd
  rw [← hqd,← hrd]
  clear hqd hrd hq hm
  have H:=Lib.hid h
  have H':=Lib.hid h'
  clear h h' hs hs' ho ho' hnm hnm' hx hy' hlx hly
  go_enter Tryz.func180,Tryz.ntmps180
  go_wp2_with fail
  have hh:=heldN4 (w:=w) (c0:=#[Value.slice ad len cap]) (t0:=52) (c1:=#[Value.slice ad' len' cap']) (t1:=52) (c2:=#[Value.slice none 0 0]) (t2:=52) (c3:=#[Value.slice none 0 0]) (t3:=52)
  have hbX:=bel_alloc4 w (Obj.cells #[Value.slice ad len cap] 52) (Obj.cells #[Value.slice ad' len' cap'] 52) (Obj.cells #[Value.slice none 0 0] 52) (Obj.cells #[Value.slice none 0 0] 52)
  generalize (((w.alloc (Obj.cells #[Value.slice ad len cap] 52)).alloc (Obj.cells #[Value.slice ad' len' cap'] 52)).alloc (Obj.cells #[Value.slice none 0 0] 52)).alloc (Obj.cells #[Value.slice none 0 0] 52)=X at *
  have hc0:=cell0 hh.1
  have hd0:=cell0 hh.2.1
  have HS0:=Lib.hid (Slot.of (n:=1) hh.2.2.1 rfl)
  have HS1:=Lib.hid (Slot.of (n:=1) hh.2.2.2.1 rfl)
  have HBX:=Lib.hid hbX
  clear hh hbX
  refine wp_region_sched (fun w'=>w'.cell? ⟨w.heap.size,0,none⟩=some (.slice ad len cap)∧w'.cell? ⟨w.heap.size+1,0,none⟩=some (.slice ad' len' cap')∧Slot w' (w.heap.size+1+1) 52 1∧Slot w' (w.heap.size+1+1+1) 52 1∧Below w.heap.size w w') [(0,true),(2,true),(6,true),(8,true),(1,false),(3,false),(4,true),(5,false),(7,false),(9,false),(10,true),(11,false),(12,false),(13,false),(14,true)] (by kernel_rfl) (by kernel_rfl) ?_ (fun hHeld=>?_)
  · (try dsimp only)
    exact ⟨hc0,hd0,HS0.out.drew,HS1.out.drew,HBX.out.drew⟩
  try dsimp only at hHeld
  repeat (refine wpSched_at (by simp only [List.getElem?_toArray,List.getElem?_cons_zero,List.getElem?_cons_succ]; rfl) ?_; (first | (apply wpAt_take rfl; (intro wx hSx; (try dsimp only at hSx); go_simp; (try with_reducible rfl)); simp only [Act.put,List.setIfInBounds_toArray,List.set_cons_zero,List.set_cons_succ]) | (refine wpAt_skip rfl ?_; simp only [Act.put,List.setIfInBounds_toArray,List.set_cons_zero,List.set_cons_succ]) | (refine wpAt_pass rfl hHeld ?_; simp only [Act.put,List.setIfInBounds_toArray,List.set_cons_zero,List.set_cons_succ]) | (refine wpAt_eff rfl (fun K hK=>?_); ((obtain ⟨x0,hx0,hfx0⟩:=hHeld.2.2.1.one); (try simp only [cell_drew,frozen_drew] at hx0 hfx0); (obtain ⟨x1,hx1,hfx1⟩:=hHeld.2.2.2.1.one); (try simp only [cell_drew,frozen_drew] at hx1 hfx1)); go_simp; (first | (go_at_call 173; (with_reducible refine (lowB (.agg #[.slice ad len cap]) x _ ?_).mono ?_); (exact H.out.below hHeld.2.2.2.2); rintro e w' ⟨rfl,hb⟩; (try replace NQ:=Lib.hid (NQ.out.below hb)); have hS:=And.intro trivial (And.intro (cell_below hHeld.1 hb) (And.intro (cell_below hHeld.2.1 hb) (And.intro (hHeld.2.2.1.below hb) (And.intro (hHeld.2.2.2.1.below hb) (bel_on hHeld.2.2.2.2 hb))))); clear hb hHeld) | (go_at_call 173; (with_reducible refine (lowB (.agg #[.slice ad' len' cap']) y _ ?_).mono ?_); (exact H'.out.below hHeld.2.2.2.2); rintro e w' ⟨rfl,hb⟩; (try replace NQ:=Lib.hid (NQ.out.below hb)); have hS:=And.intro trivial (And.intro (cell_below hHeld.1 hb) (And.intro (cell_below hHeld.2.1 hb) (And.intro (hHeld.2.2.1.below hb) (And.intro (hHeld.2.2.2.1.below hb) (bel_on hHeld.2.2.2.2 hb))))); clear hb hHeld) | (go_at_call 144; (with_reducible refine (ofB q _ hql).mono ?_); rintro e w' ⟨vq,rfl,hn,hb⟩; (try replace NQ:=Lib.hid (NQ.out.below hb)); have NQ:=Lib.hid hn; obtain ⟨adQ,lenQ,capQ,rfl⟩:=NQ.out.shape2; have hS:=And.intro trivial (And.intro (cell_below hHeld.1 hb) (And.intro (cell_below hHeld.2.1 hb) (And.intro (hHeld.2.2.1.below hb) (And.intro (hHeld.2.2.2.1.below hb) (bel_on hHeld.2.2.2.2 hb))))); clear hb hHeld hn) | (go_at_call 144; (with_reducible refine (ofB r _ hrl).mono ?_); rintro e w' ⟨vr,rfl,hn,hb⟩; (try replace NQ:=Lib.hid (NQ.out.below hb)); have NR:=Lib.hid hn; obtain ⟨adR,lenR,capR,rfl⟩:=NR.out.shape2; have hS:=And.intro trivial (And.intro (cell_below hHeld.1 hb) (And.intro (cell_below hHeld.2.1 hb) (And.intro (hHeld.2.2.1.below hb) (And.intro (hHeld.2.2.2.1.below hb) (bel_on hHeld.2.2.2.2 hb))))); clear hb hHeld hn) | (try simp only [cell_drew,slot_drew,below_drew] at hHeld)); (refine hK.out _ _ ?_ (fun hHeld=>?_)); ((try dsimp only); ((try simp only [cell_drew,slot_drew,below_drew]); refine ⟨?_,?_,?_,?_,?_⟩; (first | exact hS.2.1 | with_reducible exact cell_set hHeld.1 (by omega) | with_reducible exact cell_set (cell_set hHeld.1 (by omega)) (by omega)); (first | exact hS.2.2.1 | with_reducible exact cell_set hHeld.2.1 (by omega) | with_reducible exact cell_set (cell_set hHeld.2.1 (by omega)) (by omega)); (first | exact hS.2.2.2.1 | with_reducible exact hHeld.2.2.1.set _ _ _ | with_reducible exact (hHeld.2.2.1.set _ _ _).set _ _ _); (first | exact hS.2.2.2.2.1 | with_reducible exact hHeld.2.2.2.1.set _ _ _ | with_reducible exact (hHeld.2.2.2.1.set _ _ _).set _ _ _); (first | exact hS.2.2.2.2.2 | with_reducible exact bel_set1 hHeld.2.2.2.2 (by omega) | with_reducible exact bel_set2 hHeld.2.2.2.2 (by omega) (by omega)))); clear hK K; (try clear hS); (try clear hfx0 hx0 x0); (try clear hfy0 hy0 y0); (try clear hfx1 hx1 x1); (try clear hfy1 hy1 y1); (try dsimp only at hHeld))))
  refine wpSched_nil ?_
  rename_i hOld _
  have HF:=Lib.hid (fin_nat2 NQ.out NR.out hOld.2.2.1 hOld.2.2.2.1 (by decide) (by decide) hOld.2.2.2.2 (by omega) (by omega) (by omega) rfl)
  clear hHeld hOld
  go_wp2_with fail
  refine bodyPost_ret (v:=.tuple #[.agg #[.slice adQ lenQ capQ],.agg #[.slice adR lenR capR],.bool true]) (by simp [results,Tryz.results180,go_sem,HF.out.2.2.2.1,HF.out.2.2.2.2]) rfl ⟨_,_,rfl,HF.out.1,HF.out.2.1,HF.out.2.2.1⟩
end Go.Proofs.YthffkbbcofbceaaGreatDoor
