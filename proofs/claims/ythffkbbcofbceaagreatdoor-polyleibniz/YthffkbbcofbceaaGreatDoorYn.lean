/- The contract of nat's Gcd. -/
import Derived.Test.YthffkbbcofbceaaGreatDoorYm
import Derived.Test.YthffkbbcofbceaaGreatDoorYl
namespace Cin
open Go Go.RowKit
theorem own_some {t:TypeId} {k:IntKind} {w:World} {base:Nat} {v:Value} {xs:List Nat} (h:Own t k w base v xs) (hne:0 < xs.length):∃ g cap,v=.slice (some ⟨g,0,none⟩) xs.length cap∧base≤g∧g < w.heap.size∧xs.length≤cap:=by
  rcases h.shape with ⟨_,e⟩ | h
  · rw [e] at hne; simp at hne
  · exact h
theorem Slot.on {w w':World} {b n B:Nat} {t:TypeId} (h:Slot w b t n) (hb:Below B w w') (hB:b < B):Slot w' b t n:=let ⟨c,hn,h⟩:=h; ⟨c,hn,(hb.block _ hB).trans h⟩
theorem norm_big {xs:List Nat} {m:Nat} (hn:Norm xs) (h:m < xs.length):pw m≤val xs:=by
  rcases Nat.lt_or_ge (val xs) (pw m) with h1 | h1
  · have:=norm_len hn h1; omega
  · exact h1
theorem EuSteps.vals {X Y u0 v0 a b c d u v:Int} (h:EuSteps X Y u0 v0 a b c d u v):(0≤c * X+d * Y∧c * X+d * Y≤a * X+b * Y∧c * X+d * Y≤Y∧(b≠0→a * X+b * Y≤Y∧c * X+d * Y < Y))∧Nat.gcd (a * X+b * Y).natAbs (c * X+d * Y).natAbs=Nat.gcd X.natAbs Y.natAbs:=
  let ⟨_,_,_,_,_,_,_,_,_,_,_,_,_,h1,h2⟩:=h; ⟨h1,h2⟩
def GcdPost (t:TypeId) (x y k:Nat) (w:World) (e:Ending) (w':World):Prop:=∃ v',e=.returned v'∧NatB t w' v' (Nat.gcd x y) k∧Below w.heap.size w w'
def GcdRel (t tn:TypeId) (x y k R:Nat) (w:World) (g:Nat) (vx vy:Value) (wr:World):Prop:=
  ∃ (gx lx cx:Nat) (xs ys:List Nat),vx=.slice (some ⟨gx,0,none⟩) lx cx∧Own t .u32 wr (R+1) (.slice (some ⟨gx,0,none⟩) lx cx) xs∧Own t .u32 wr (R+1) vy ys∧Ok xs∧Ok ys∧Norm xs∧Norm ys∧val ys=g∧g≤val xs∧val xs < pw k∧Nat.gcd (val xs) g=Nat.gcd x y ∧
    (∀ gy ly cy,vy=.slice (some ⟨gy,0,none⟩) ly cy→gx≠gy)∧Slot wr R tn 1∧Below w.heap.size w wr
theorem gcd_lt {x y k:Nat} (hx:x < pw k) (hy:y < pw k):Nat.gcd x y < pw k:=by
  rcases Nat.eq_zero_or_pos x with e | e
  · rw [e,Nat.gcd_zero_left]; exact hy
  · exact Nat.lt_of_le_of_lt (Nat.gcd_le_left _ e) hx
end Cin
namespace Go.Proofs.YthffkbbcofbceaaGreatDoor
open Go.RowKit Cin
theorem movesN (a b c d:Int) (w:World) (h:b=0):Calls Tryz.prog 176 #[.agg #[.int .i64 a,.int .i64 b,.int .i64 c,.int .i64 d]] w fun e w'=>e=.returned (.bool false)∧Below w.heap.size w w':=
  (moves_any a b c d w).mono fun _ _ ⟨e,hb⟩=>⟨by rw [e,decide_eq_true h]; rfl,hb⟩
theorem movesY (a b c d:Int) (w:World) (h:¬ b=0):Calls Tryz.prog 176 #[.agg #[.int .i64 a,.int .i64 b,.int .i64 c,.int .i64 d]] w fun e w'=>e=.returned (.bool true)∧Below w.heap.size w w':=
  (moves_any a b c d w).mono fun _ _ ⟨e,hb⟩=>⟨by rw [e,decide_eq_false h]; rfl,hb⟩
theorem window0_any (v:Value) (ys:List Nat) (w:World) (h:Sl 202 .u32 w v ys) (ho:Ok ys) (hlt:val ys < 18446744073709551616) :
    Calls Tryz.prog 181 #[v,.int .i64 0] w fun e w'=>e=.returned (.int .u64 (val ys:Nat))∧Below w.heap.size w w':=
  (window_any v ys 0 w h ho (by decide)).mono fun _ _ ⟨e,n,hw⟩=>⟨by rw [e,Nat.pow_zero,Nat.div_one,Nat.mod_eq_of_lt hlt],by rw [hw]; exact bel_drewN (Below.refl _ _) _⟩
theorem lowS_any (v:Value) (n:Nat) (w:World) (h:NatV 202 w v n) (hn:n < 18446744073709551616):Calls Tryz.prog 173 #[v] w fun e w'=>e=.returned (.int .u64 n)∧Below w.heap.size w w':=
  (low_any v n w h).mono fun _ _ ⟨e,hb⟩=>⟨by rw [e,Nat.mod_eq_of_lt hn],hb⟩
set_option maxRecDepth 100000 in
set_option maxHeartbeats 8000000 in
theorem gcd_any (v u:Value) (x y k:Nat) (w:World) (h:NatB 202 w v x k) (h':NatB 202 w u y k) (hk:k≤4000000):Calls Tryz.prog 140 #[v,u] w (GcdPost 202 x y k w):=by
  obtain ⟨ad,len,cap,rfl,xs,hs,ho,hnm,hx⟩:=h.shape
  obtain ⟨ad',len',cap',rfl,ys,hs',ho',hnm',hy⟩:=h'.shape
  have hlx:=hs.len
  have hly:=hs'.len
  have hl:len≤k:=by have:=norm_len hnm (m:=k) (by rw [hx]; exact h.2); omega
  have hl':len'≤k:=by have:=norm_len hnm' (m:=k) (by rw [hy]; exact h'.2); omega
  have HX:=Lib.hid h
  have HY:=Lib.hid h'
  have HSX:=Lib.hid hs
  have HSY:=Lib.hid hs'
  have HNX:=Lib.hid (And.intro hnm (And.intro hx hlx))
  have HNY:=Lib.hid (And.intro hnm' (And.intro hy hly))
  clear h h' hs hs' hnm hnm' hx hy hlx hly
  go_enter Tryz.func140,Tryz.ntmps140
  go_wp2_with fail
  have hh:=heldN3 (w:=w) (c0:=#[Value.slice ad len cap]) (t0:=52) (c1:=#[Value.slice ad' len' cap']) (t1:=52) (c2:=#[Value.slice none 0 0]) (t2:=52)
  have hbX:=bel_alloc3 w (Obj.cells #[Value.slice ad len cap] 52) (Obj.cells #[Value.slice ad' len' cap'] 52) (Obj.cells #[Value.slice none 0 0] 52)
  generalize ((w.alloc (Obj.cells #[Value.slice ad len cap] 52)).alloc (Obj.cells #[Value.slice ad' len' cap'] 52)).alloc (Obj.cells #[Value.slice none 0 0] 52)=X0 at *
  refine (cmpB _ _ x y k k _ (HX.out.below hbX) (HY.out.below hbX) (by omega) (by omega)).mono ?_
  rintro e w1 ⟨rfl,hb1⟩
  have hh1:=hh.below hb1
  have HB1:=Lib.hid (bel_on hbX hb1)
  have hca:=cell0 hh1.1
  have hcb:=cell0 hh1.2.1
  have HSA:=Lib.hid (Slot.of (n:=1) hh1.1 rfl)
  have HSB:=Lib.hid (Slot.of (n:=1) hh1.2.1 rfl)
  have HSR:=Lib.hid (Slot.of (n:=1) hh1.2.2.1 rfl)
  clear hh hh1 hbX hb1
  by_cases hxy:x < y
  · have hc:cmpI x y=-1:=by unfold cmpI; rw [if_pos hxy]
    rw [hc]
    clear hc
    have hxy':x≤y:=Nat.le_of_lt hxy
    obtain ⟨za,hza,hfa⟩:=HSA.out.one
    obtain ⟨zb,hzb,hfb⟩:=HSB.out.one
    obtain ⟨zc,hzc,hfc⟩:=(HSB.out.set w.heap.size 0 (.slice ad' len' cap')).one
    have hcA:=cell_set (b':=w.heap.size+1) (o':=0) (u:=.slice ad len cap) (HSA.out.set1 (.slice ad' len' cap')) (show w.heap.size≠w.heap.size+1 by omega)
    have hcB:=(HSB.out.set w.heap.size 0 (.slice ad' len' cap')).set1 (.slice ad len cap)
    have HSR2:=Lib.hid ((HSR.out.set w.heap.size 0 (.slice ad' len' cap')).set (w.heap.size+1) 0 (.slice ad len cap))
    have HB2:=Lib.hid (bel_set2 (b:=w.heap.size) (o:=0) (u:=.slice ad' len' cap') (b':=w.heap.size+1) (o':=0) (u':=.slice ad len cap) HB1.out (by omega) (by omega))
    by_cases hl2:len'≤2
    · have hX2:y < 18446744073709551616:=by
        have h1:=val_lt ho'
        rw [HNY.out.2.1,HNY.out.2.2] at h1
        have:=pw_le hl2
        rw [show pw 2=18446744073709551616 from rfl] at this
        omega
      have hgb:Nat.gcd y x < 18446744073709551616:=gcd_lt (k:=2) hX2 (Nat.lt_of_le_of_lt hxy' hX2)
      have HGC:=Lib.hid (show Nat.gcd y x=Nat.gcd x y from Nat.gcd_comm _ _)
      have HGL:=Lib.hid (gcd_lt HY.out.2 HX.out.2)
      go_wp2_with fail
      clear hza hfa hzb hfb hzc hfc hca hcb
      generalize (w1.setCell ⟨w.heap.size,0,none⟩ (.slice ad' len' cap')).setCell ⟨w.heap.size+1,0,none⟩ (.slice ad len cap)=X1 at *
      have HA:=Lib.hid (HY.out.below HB2.out.drew)
      have HBB:=Lib.hid (HX.out.below HB2.out.drew)
      refine wp_region_sched (fun w'=>w'.cell? ⟨w.heap.size,0,none⟩=some (.slice ad' len' cap')∧w'.cell? ⟨w.heap.size+1,0,none⟩=some (.slice ad len cap)∧Slot w' (w.heap.size+1+1) 52 1∧Below w.heap.size w w') [(0,true),(2,true),(1,false),(3,false),(4,false),(5,false),(6,false)] (by kernel_rfl) (by kernel_rfl) ?_ (fun hHeld=>?_)
      · (try dsimp only)
        exact ⟨hcA,hcB,HSR2.out.drew,HB2.out.drew⟩
      try dsimp only at hHeld
      repeat (refine wpSched_at (by simp only [List.getElem?_toArray,List.getElem?_cons_zero,List.getElem?_cons_succ]; rfl) ?_; (first | (apply wpAt_take rfl; (intro wx hSx; (try dsimp only at hSx); go_simp; (try with_reducible rfl)); simp only [Act.put,List.setIfInBounds_toArray,List.set_cons_zero,List.set_cons_succ]) | (refine wpAt_skip rfl ?_; simp only [Act.put,List.setIfInBounds_toArray,List.set_cons_zero,List.set_cons_succ]) | (refine wpAt_pass rfl hHeld ?_; simp only [Act.put,List.setIfInBounds_toArray,List.set_cons_zero,List.set_cons_succ]) | (refine wpAt_eff rfl (fun K hK=>?_); ((obtain ⟨x0,hx0,hfx0⟩:=hHeld.2.2.1.one); (try simp only [cell_drew,frozen_drew] at hx0 hfx0)); go_simp; (first | (go_at_call 173; (with_reducible refine (lowS_any (.agg #[.slice ad' len' cap']) y _ ?_ (by omega)).mono ?_); (exact HA.out.1); rintro e w' ⟨rfl,hb⟩; (try replace HA:=Lib.hid (HA.out.below hb)); (try replace HBB:=Lib.hid (HBB.out.below hb)); have hS:=And.intro trivial (And.intro (cell_below hHeld.1 hb) (And.intro (cell_below hHeld.2.1 hb) (And.intro (hHeld.2.2.1.below hb) (bel_on hHeld.2.2.2 hb)))); clear hb hHeld) | (go_at_call 173; (with_reducible refine (lowS_any (.agg #[.slice ad len cap]) x _ ?_ (by omega)).mono ?_); (exact HBB.out.1); rintro e w' ⟨rfl,hb⟩; (try replace HA:=Lib.hid (HA.out.below hb)); (try replace HBB:=Lib.hid (HBB.out.below hb)); have hS:=And.intro trivial (And.intro (cell_below hHeld.1 hb) (And.intro (cell_below hHeld.2.1 hb) (And.intro (hHeld.2.2.1.below hb) (bel_on hHeld.2.2.2 hb)))); clear hb hHeld) | (go_at_call 172; (with_reducible refine (gcdWords_any y x _ (by omega) (by omega)).mono ?_); rintro e w' ⟨rfl,hb⟩; (try replace HA:=Lib.hid (HA.out.below hb)); (try replace HBB:=Lib.hid (HBB.out.below hb)); have hS:=And.intro trivial (And.intro (cell_below hHeld.1 hb) (And.intro (cell_below hHeld.2.1 hb) (And.intro (hHeld.2.2.1.below hb) (bel_on hHeld.2.2.2 hb)))); clear hb hHeld) | (go_at_call 144; (with_reducible refine (ofB (Nat.gcd y x) _ hgb).mono ?_); rintro e w' ⟨vg,rfl,hn,hb⟩; (try replace HA:=Lib.hid (HA.out.below hb)); (try replace HBB:=Lib.hid (HBB.out.below hb)); have NG:=Lib.hid hn; obtain ⟨adG,lG,cG,rfl⟩:=NG.out.shape2; have hS:=And.intro trivial (And.intro (cell_below hHeld.1 hb) (And.intro (cell_below hHeld.2.1 hb) (And.intro (hHeld.2.2.1.below hb) (bel_on hHeld.2.2.2 hb)))); clear hb hHeld hn) | (try simp only [cell_drew,slot_drew,below_drew] at hHeld)); (refine hK.out _ _ ?_ (fun hHeld=>?_)); ((try dsimp only); ((try simp only [cell_drew,slot_drew,below_drew]); refine ⟨?_,?_,?_,?_⟩; (first | exact hS.2.1 | with_reducible exact cell_set hHeld.1 (by omega) | with_reducible exact cell_set (cell_set hHeld.1 (by omega)) (by omega)); (first | exact hS.2.2.1 | with_reducible exact cell_set hHeld.2.1 (by omega) | with_reducible exact cell_set (cell_set hHeld.2.1 (by omega)) (by omega)); (first | exact hS.2.2.2.1 | with_reducible exact hHeld.2.2.1.set _ _ _ | with_reducible exact (hHeld.2.2.1.set _ _ _).set _ _ _); (first | exact hS.2.2.2.2 | with_reducible exact bel_set1 hHeld.2.2.2 (by omega) | with_reducible exact bel_set2 hHeld.2.2.2 (by omega) (by omega)))); clear hK K; (try clear hS); (try clear hfx0 hx0 x0); (try clear hfy0 hy0 y0); (try clear hfx1 hx1 x1); (try clear hfy1 hy1 y1); (try dsimp only at hHeld))))
      refine wpSched_nil ?_
      rename_i hOld
      have HF:=Lib.hid (NG.out.slot hOld.2.2.1 (by decide) 0 (.slice adG lG cG))
      have HC:=Lib.hid (hOld.2.2.1.set1 (.slice adG lG cG))
      have HE:=Lib.hid (bel_set1 (b:=w.heap.size+1+1) (o:=0) (u:=.slice adG lG cG) hOld.2.2.2 (by omega))
      clear hHeld hOld
      go_wp2_with fail
      refine bodyPost_ret (v:=.agg #[.slice adG lG cG]) (by simp [results,Tryz.results140,go_sem,HC.out]) rfl ⟨_,rfl,?_,HE.out⟩
      rw [← HGC.out]
      exact ⟨HF.out.1,HGL.out⟩
    · have hl2':decide (len'≤2)=false:=decide_eq_false hl2
      have HGC:=Lib.hid (show Nat.gcd y x=Nat.gcd x y from Nat.gcd_comm _ _)
      have hlenX:=HNY.out.2.2
      have hlenY:=HNX.out.2.2
      go_wp2_with fail
      clear hza hfa hzb hfb hzc hfc hca hcb
      generalize (w1.setCell ⟨w.heap.size,0,none⟩ (.slice ad' len' cap')).setCell ⟨w.heap.size+1,0,none⟩ (.slice ad len cap)=X1 at *
      have HA:=Lib.hid (HSY.out.below HB2.out.drew)
      have HBB:=Lib.hid (HSX.out.below HB2.out.drew)
      refine wp_region_sched (fun w'=>w'.cell? ⟨w.heap.size,0,none⟩=some (.slice ad' len' cap')∧w'.cell? ⟨w.heap.size+1,0,none⟩=some (.slice ad len cap)∧Slot w' (w.heap.size+1+1) 52 1∧Below w.heap.size w w') [(0,true),(1,true),(3,true),(4,true),(2,false),(5,false),(6,true),(7,true)] (by kernel_rfl) (by kernel_rfl) ?_ (fun hHeld=>?_)
      · (try dsimp only)
        exact ⟨hcA,hcB,HSR2.out.drew,HB2.out.drew⟩
      try dsimp only at hHeld
      repeat (refine wpSched_at (by simp only [List.getElem?_toArray,List.getElem?_cons_zero,List.getElem?_cons_succ]; rfl) ?_; (first | (apply wpAt_take rfl; (intro wx hSx; (try dsimp only at hSx); go_simp; (try with_reducible rfl)); simp only [Act.put,List.setIfInBounds_toArray,List.set_cons_zero,List.set_cons_succ]) | (refine wpAt_skip rfl ?_; simp only [Act.put,List.setIfInBounds_toArray,List.set_cons_zero,List.set_cons_succ]) | (refine wpAt_pass rfl hHeld ?_; simp only [Act.put,List.setIfInBounds_toArray,List.set_cons_zero,List.set_cons_succ]) | (refine wpAt_eff rfl (fun K hK=>?_); ((obtain ⟨x0,hx0,hfx0⟩:=hHeld.2.2.1.one); (try simp only [cell_drew,frozen_drew] at hx0 hfx0)); go_simp; (first | (go_at_call 174; (with_reducible refine (cloneSl_any (.slice ad' len' cap') ys _ ?_ (by omega)).mono ?_); (exact HA.out); rintro e w' ⟨vx,rfl,hn,hb⟩; (try replace HA:=Lib.hid (HA.out.below hb)); (try replace HBB:=Lib.hid (HBB.out.below hb)); (try replace NX:=Lib.hid (NX.out.below hb)); have NX:=Lib.hid hn; (have hlt1:=hHeld.2.2.1.lt); (obtain ⟨gX,cX,rfl,hgX0,hgX1,hcX⟩:=own_some NX.out (by omega)); (rw [hlenX]); (rw [hlenX] at NX); (replace NX:=Lib.hid (NX.out.base_le (B:=w.heap.size+1+1+1) (by omega))); have hS:=And.intro trivial (And.intro (cell_below hHeld.1 hb) (And.intro (cell_below hHeld.2.1 hb) (And.intro (hHeld.2.2.1.below hb) (bel_on hHeld.2.2.2 hb)))); clear hb hHeld hn) | (go_at_call 174; (with_reducible refine (cloneSl_any (.slice ad len cap) xs _ ?_ (by omega)).mono ?_); (exact HBB.out); rintro e w' ⟨vy,rfl,hn,hb⟩; (try replace HA:=Lib.hid (HA.out.below hb)); (try replace HBB:=Lib.hid (HBB.out.below hb)); (try replace NX:=Lib.hid (NX.out.below hb)); have NY:=Lib.hid hn; (have hlt2:=hHeld.2.2.1.lt); (have DIS:=Lib.hid (show ∀ gy ly cy,vy=.slice (some ⟨gy,0,none⟩) ly cy→gX≠gy from fun gy ly cy e=>by have h1:=NY.out; rw [e] at h1; have h2:=h1.some_base.1; omega)); (replace NY:=Lib.hid (NY.out.base_le (B:=w.heap.size+1+1+1) (by omega))); have hS:=And.intro trivial (And.intro (cell_below hHeld.1 hb) (And.intro (cell_below hHeld.2.1 hb) (And.intro (hHeld.2.2.1.below hb) (bel_on hHeld.2.2.2 hb)))); clear hb hHeld hn) | (try simp only [cell_drew,slot_drew,below_drew] at hHeld)); (refine hK.out _ _ ?_ (fun hHeld=>?_)); ((try dsimp only); ((try simp only [cell_drew,slot_drew,below_drew]); refine ⟨?_,?_,?_,?_⟩; (first | exact hS.2.1 | with_reducible exact cell_set hHeld.1 (by omega) | with_reducible exact cell_set (cell_set hHeld.1 (by omega)) (by omega)); (first | exact hS.2.2.1 | with_reducible exact cell_set hHeld.2.1 (by omega) | with_reducible exact cell_set (cell_set hHeld.2.1 (by omega)) (by omega)); (first | exact hS.2.2.2.1 | with_reducible exact hHeld.2.2.1.set _ _ _ | with_reducible exact (hHeld.2.2.1.set _ _ _).set _ _ _); (first | exact hS.2.2.2.2 | with_reducible exact bel_set1 hHeld.2.2.2 (by omega) | with_reducible exact bel_set2 hHeld.2.2.2 (by omega) (by omega)))); clear hK K; (try clear hS); (try clear hfx0 hx0 x0); (try clear hfy0 hy0 y0); (try clear hfx1 hx1 x1); (try clear hfy1 hy1 y1); (try dsimp only at hHeld))))
      refine wpSched_nil ?_
      have HS5:=Lib.hid hHeld.2.2.1
      have HB5:=Lib.hid hHeld.2.2.2
      have HX5:=Lib.hid HNY.out
      have HY5:=Lib.hid HNX.out
      have HP5:=Lib.hid (And.intro HY.out.2 (And.intro ho' ho))
      have HXY5:=Lib.hid hxy'
      clear hHeld
      go_wp2_with fail
      go_loopg [5,6,7,8,9] x (fun g vx vy _ _ _ wr=>GcdRel 202 52 x y k (w.heap.size+1+1) w g vx vy wr)
      case atStart=>exact ⟨gX,len',cX,ys,xs,rfl,NX.out,NY.out,HP5.out.2.1,HP5.out.2.2,HX5.out.1,HY5.out.1,HY5.out.2.1,by rw [HX5.out.2.1]; exact HXY5.out,by rw [HX5.out.2.1]; exact HP5.out.1,by rw [HX5.out.2.1]; exact HGC.out,DIS.out,HS5.out,HB5.out⟩
      case round=>
        clear HX5 HY5 HP5 HXY5 HS5 HB5 DIS NX NY HGC HX HY HSX HSY HNX HNY HA HBB HSA HSB HSR HSR2 HB1 HB2
        obtain ⟨gx,lx,cx,als,bs,rfl,hox,hoy,oka,okb,hna,hnb,hbv,hle,hlt,hgc,hdis,hsl,hbel⟩:=hrel
        have hlxa:=Lib.hid hox.some_base
        obtain ⟨adY,capY,eY,hcY,_⟩:=hoy.sl.shape
        have hbl:bs.length≤k:=norm_len hnb (m:=k) (by omega)
        have hal:als.length≤k:=norm_len hna hlt
        obtain ⟨ly,hly⟩:∃ ly,bs.length=ly:=⟨_,rfl⟩
        rw [hly] at eY hcY hbl
        subst eY
        have HOX:=Lib.hid hox
        have HOY:=Lib.hid hoy
        have HSL:=Lib.hid hsl
        have HBE:=Lib.hid hbel
        have HBV:=Lib.hid hbv
        have HLE:=Lib.hid hle
        have HLT:=Lib.hid hlt
        have HGG:=Lib.hid hgc
        have HDI:=Lib.hid hdis
        have hRl:=hsl.lt
        clear hox hoy hsl hbel hbv hle hlt hgc hdis
        by_cases h0:ly=0
        · subst h0
          have hg0:gk=0:=by rw [← HBV.out,List.length_eq_zero_iff.1 hly,val_nil]
          subst hg0
          rw [Nat.gcd_zero_right] at HGG
          go_wp2_with fail
          refine (wrapB _ als (val als) k _ HOX.out.sl oka (by omega) rfl HLT.out).mono ?_
          rintro e w6 ⟨v6,rfl,hn6,hb6⟩
          obtain ⟨adG,lG,cG,rfl⟩:=hn6.shape2
          have HT:=Lib.hid (HSL.out.below hb6)
          obtain ⟨z0,hz0,hf0⟩:=HT.out.one
          have HF:=Lib.hid (hn6.slot HT.out (by decide) 0 (.slice adG lG cG))
          have HC:=Lib.hid (HT.out.set1 (.slice adG lG cG))
          have HE:=Lib.hid (bel_set1 (b:=w.heap.size+1+1) (o:=0) (u:=.slice adG lG cG) (bel_on HBE.out hb6) (by omega))
          clear hn6 hb6
          go_wp2_with fail
          refine bodyPost_ret (v:=.agg #[.slice adG lG cG]) (by simp [results,Tryz.results140,go_sem,HC.out]) rfl ⟨_,rfl,?_,HE.out⟩
          rw [← HGG.out]
          exact HF.out
        · by_cases h2:ly≤2
          · have hl2n:¬ (2 < ly):=by omega
            have hl0:((ly:Int) == 0)=false:=by simp; exact h0
            have hb64:val bs < 18446744073709551616:=by
              have h1:=val_lt okb
              rw [hly] at h1
              have:=pw_le h2
              rw [show pw 2=18446744073709551616 from rfl] at this
              omega
            have hgk0:gk≠0:=fun e=>by
              have:=norm_val_zero hnb (by rw [HBV.out,e])
              rw [this] at hly
              simp at hly
              omega
            have hgk:gk < 18446744073709551616:=by have:=HBV.out; omega
            have hrm:=Nat.mod_lt (val als) (Nat.pos_of_ne_zero hgk0)
            obtain ⟨r,hr⟩:∃ r,val als % gk=r:=⟨_,rfl⟩
            rw [hr] at hrm
            have hgb:Nat.gcd gk r < 18446744073709551616:=gcd_lt (k:=2) hgk (by rw [show pw 2=18446744073709551616 from rfl]; omega)
            have HGF:=Lib.hid (show Nat.gcd gk r=Nat.gcd x y by rw [← HGG.out,← hr,Nat.gcd_comm (val als) gk,Nat.gcd_rec gk (val als),Nat.gcd_comm])
            have HR:=Lib.hid hr
            clear hr
            go_wp2_with fail
            refine (wrapB _ als (val als) k _ HOX.out.sl oka (by omega) rfl HLT.out).mono ?_
            rintro e w6 ⟨v6,rfl,hn6,hb6⟩
            have HN6:=Lib.hid hn6
            have HB6:=Lib.hid hb6
            clear hn6 hb6
            go_wp2_with fail
            refine (wrapB _ bs gk k _ (HOY.out.below HB6.out).sl okb (by omega) HBV.out (by have:=HLT.out; have:=HLE.out; omega)).mono ?_
            rintro e w7 ⟨v7,rfl,hn7,hb7⟩
            have HN7:=Lib.hid hn7
            have HB7:=Lib.hid hb7
            clear hn7 hb7
            go_wp2_with fail
            refine (divTells (val als) gk k k (by omega) (by omega) hgk0 _ _ _ (HN6.out.below HB7.out) HN7.out).mono ?_
            rintro e w8 ⟨v8,u8,rfl,hn8,hm8,hb8⟩
            rw [HR.out] at hm8
            obtain ⟨ad8,l8,c8,rfl⟩:=hn8.shape2
            obtain ⟨ae8,m8,d8,rfl⟩:=hm8.shape2
            have hbA:=bel_alloc2 w8 (Obj.cells #[Value.slice ad8 l8 c8] 52) (Obj.cells #[Value.slice ae8 m8 d8] 52)
            have hh8:=heldN2 (w:=w8) (c0:=#[Value.slice ad8 l8 c8]) (t0:=52) (c1:=#[Value.slice ae8 m8 d8]) (t1:=52)
            have hcl:=cell0 hh8.2.1
            have hw8:=(HSL.out.below (bel_on (bel_on HB6.out HB7.out) hb8)).lt
            have hb68:=bel_on (bel_on (bel_on HB6.out HB7.out) hb8) hbA
            have HSY9:=Lib.hid ((HOY.out.below hb68).sl.below (Below.refl _ _).drew)
            have HLF:=Lib.hid ((hm8.below hbA).below (Below.refl _ _).drew)
            have HSL9:=Lib.hid (HSL.out.below hb68)
            have HBE9:=Lib.hid (bel_on HBE.out hb68)
            clear hn8 hm8 hb8 hbA hh8 hb68
            go_wp2_with fail
            generalize (w8.alloc (Obj.cells #[Value.slice ad8 l8 c8] 52)).alloc (Obj.cells #[Value.slice ae8 m8 d8] 52)=X9 at *
            have hgv:=HBV.out
            refine wp_region_sched (fun w'=>w'.cell? ⟨w8.heap.size+1,0,none⟩=some (.slice ae8 m8 d8)∧Slot w' (w.heap.size+1+1) 52 1∧Below w.heap.size w w') [(0,true),(2,true),(1,false),(3,false),(4,false),(5,false),(6,false)] (by kernel_rfl) (by kernel_rfl) ?_ (fun hHeld=>?_)
            · (try dsimp only)
              exact ⟨hcl,HSL9.out.drew,HBE9.out.drew⟩
            try dsimp only at hHeld
            repeat (refine wpSched_at (by simp only [List.getElem?_toArray,List.getElem?_cons_zero,List.getElem?_cons_succ]; rfl) ?_; (first | (apply wpAt_take rfl; (intro wx hSx; (try dsimp only at hSx); go_simp; (try with_reducible rfl)); simp only [Act.put,List.setIfInBounds_toArray,List.set_cons_zero,List.set_cons_succ]) | (refine wpAt_skip rfl ?_; simp only [Act.put,List.setIfInBounds_toArray,List.set_cons_zero,List.set_cons_succ]) | (refine wpAt_pass rfl hHeld ?_; simp only [Act.put,List.setIfInBounds_toArray,List.set_cons_zero,List.set_cons_succ]) | (refine wpAt_eff rfl (fun K hK=>?_); ((obtain ⟨x0,hx0,hfx0⟩:=hHeld.2.1.one); (try simp only [cell_drew,frozen_drew] at hx0 hfx0)); go_simp; (first | (go_at_call 181; (with_reducible refine (window0_any (.slice adY ly capY) bs _ ?_ okb hb64).mono ?_); (exact HSY9.out); rintro e w' ⟨rfl,hb⟩; (try replace HSY9:=Lib.hid (HSY9.out.below hb)); (try replace HLF:=Lib.hid (HLF.out.below hb)); rw [HBV.out]; have hS:=And.intro trivial (And.intro (cell_below hHeld.1 hb) (And.intro (hHeld.2.1.below hb) (bel_on hHeld.2.2 hb))); clear hb hHeld) | (go_at_call 173; (with_reducible refine (lowS_any (.agg #[.slice ae8 m8 d8]) r _ ?_ (by omega)).mono ?_); (exact HLF.out.1); rintro e w' ⟨rfl,hb⟩; (try replace HSY9:=Lib.hid (HSY9.out.below hb)); (try replace HLF:=Lib.hid (HLF.out.below hb)); have hS:=And.intro trivial (And.intro (cell_below hHeld.1 hb) (And.intro (hHeld.2.1.below hb) (bel_on hHeld.2.2 hb))); clear hb hHeld) | (go_at_call 172; (with_reducible refine (gcdWords_any gk r _ (by omega) (by omega)).mono ?_); rintro e w' ⟨rfl,hb⟩; (try replace HSY9:=Lib.hid (HSY9.out.below hb)); (try replace HLF:=Lib.hid (HLF.out.below hb)); have hS:=And.intro trivial (And.intro (cell_below hHeld.1 hb) (And.intro (hHeld.2.1.below hb) (bel_on hHeld.2.2 hb))); clear hb hHeld) | (go_at_call 144; (with_reducible refine (ofB (Nat.gcd gk r) _ hgb).mono ?_); rintro e w' ⟨vg,rfl,hn,hb⟩; (try replace HSY9:=Lib.hid (HSY9.out.below hb)); (try replace HLF:=Lib.hid (HLF.out.below hb)); have NG:=Lib.hid hn; obtain ⟨adG,lG,cG,rfl⟩:=NG.out.shape2; have hS:=And.intro trivial (And.intro (cell_below hHeld.1 hb) (And.intro (hHeld.2.1.below hb) (bel_on hHeld.2.2 hb))); clear hb hHeld hn) | (try simp only [cell_drew,slot_drew,below_drew] at hHeld)); (refine hK.out _ _ ?_ (fun hHeld=>?_)); ((try dsimp only); ((try simp only [cell_drew,slot_drew,below_drew]); refine ⟨?_,?_,?_⟩; (first | exact hS.2.1 | with_reducible exact cell_set hHeld.1 (by omega) | with_reducible exact cell_set (cell_set hHeld.1 (by omega)) (by omega)); (first | exact hS.2.2.1 | with_reducible exact hHeld.2.1.set _ _ _ | with_reducible exact (hHeld.2.1.set _ _ _).set _ _ _); (first | exact hS.2.2.2 | with_reducible exact bel_set1 hHeld.2.2 (by omega) | with_reducible exact bel_set2 hHeld.2.2 (by omega) (by omega)))); clear hK K; (try clear hS); (try clear hfx0 hx0 x0); (try clear hfy0 hy0 y0); (try clear hfx1 hx1 x1); (try clear hfy1 hy1 y1); (try dsimp only at hHeld))))
            refine wpSched_nil ?_
            rename_i hOld
            have HF:=Lib.hid (NG.out.slot hOld.2.1 (by decide) 0 (.slice adG lG cG))
            have HC:=Lib.hid (hOld.2.1.set1 (.slice adG lG cG))
            have HE:=Lib.hid (bel_set1 (b:=w.heap.size+1+1) (o:=0) (u:=.slice adG lG cG) hOld.2.2 (by omega))
            clear hHeld hOld
            go_wp2_with fail
            refine bodyPost_ret (v:=.agg #[.slice adG lG cG]) (by simp [results,Tryz.results140,go_sem,HC.out]) rfl ⟨_,rfl,?_,HE.out⟩
            rw [← HGF.out]
            refine ⟨HF.out.1,?_⟩
            rw [HGF.out,← HGG.out]
            exact gcd_lt HLT.out (Nat.lt_of_le_of_lt HLE.out HLT.out)
          · have hl2n:2 < ly:=by omega
            have hbig:18446744073709551616≤gk:=by rw [← HBV.out,← show pw 2=18446744073709551616 from rfl]; exact norm_big hnb (by omega)
            obtain ⟨gy,cy,eY,hgy0,hgy1,hgy2⟩:=own_some HOY.out (by omega)
            rw [hly] at eY hgy2
            cases eY
            have hgxy:gx≠gy:=HDI.out _ _ _ rfl
            go_wp2_with fail
            refine (sure_any _ _ (val als) gk k _ ⟨als,HOX.out.sl,oka,hna,rfl⟩ ⟨bs,HOY.out.sl,okb,hnb,HBV.out⟩ HLE.out HLT.out (by omega) hbig).mono ?_
            rintro e w6 ⟨a,b,c,d,su,sv,u0,v0,rfl,hst,hb6⟩
            have hdone:=hst.done
            obtain ⟨⟨t1,t2,t3,t4⟩,t5⟩:=hst.vals
            clear hst
            have hbA:=bel_alloc w6 (Obj.cells #[Value.int IntKind.i64 a,Value.int IntKind.i64 b,Value.int IntKind.i64 c,Value.int IntKind.i64 d] 224)
            have HF6:=Lib.hid (show Four (w6.alloc (Obj.cells #[Value.int IntKind.i64 a,Value.int IntKind.i64 b,Value.int IntKind.i64 c,Value.int IntKind.i64 d] 224)) w6.heap.size 224 (.int .i64 a) (.int .i64 b) (.int .i64 c) (.int .i64 d) from new_block _ _)
            have hb6A:=bel_on hb6 hbA
            have HOX6:=Lib.hid (HOX.out.below hb6A)
            have HOY6:=Lib.hid (HOY.out.below hb6A)
            have HSL6:=Lib.hid (HSL.out.below hb6A)
            have HBE6:=Lib.hid (bel_on HBE.out hb6A)
            have HT:=Lib.hid (And.intro hdone (And.intro t1 (And.intro t2 (And.intro t3 (And.intro t4 t5)))))
            clear hb6 hbA hb6A hdone t1 t2 t3 t4 t5 HOX HOY HSL HBE
            go_wp2_with fail
            generalize w6.alloc (Obj.cells #[Value.int IntKind.i64 a,Value.int IntKind.i64 b,Value.int IntKind.i64 c,Value.int IntKind.i64 d] 224)=X6 at *
            obtain ⟨hf0,hf1,hf2,hf3⟩:=HF6.out.cells
            go_wp2_with fail
            by_cases hbz:b=0
            · refine (movesN a b c d _ hbz).mono ?_
              rintro e w7 ⟨rfl,hb7⟩
              have HF7:=Lib.hid (HF6.out.below hb7)
              have HOX7:=Lib.hid (HOX6.out.below hb7)
              have HOY7:=Lib.hid (HOY6.out.below hb7)
              have HSL7:=Lib.hid (HSL6.out.below hb7)
              have HBE7:=Lib.hid (bel_on HBE6.out hb7)
              clear hb7 hf0 hf1 hf2 hf3 HF6 HOX6 HOY6 HSL6 HBE6
              obtain ⟨hf0,hf1,hf2,hf3⟩:=HF7.out.cells
              have htop:lim bs (bs.length - 1)≠0:=by rcases hnb with e | e; (rw [e] at hly; simp at hly; omega); exact e
              have HTOP:=Lib.hid htop
              have hlab:bs.length≤als.length:=by
                rcases Nat.lt_or_ge als.length bs.length with h1 | h1
                · have h2:=norm_big hnb h1
                  have h3:=val_lt oka
                  have:=HBV.out
                  have:=HLE.out
                  omega
                · exact h1
              clear htop
              go_wp2_with fail
              refine (divideLong_any _ _ als bs _ HOX7.out.sl HOY7.out.sl oka okb (by omega) hlab (by omega) HTOP.out).mono ?_
              rintro e w8 ⟨v8,u8,os,rs,rfl,_,hrs,_,okr,_,hrv,_,hrl,hb8⟩
              obtain ⟨gr,cr,eR,hgr0,hgr1,hgr2⟩:=own_some hrs (by omega)
              have hrl':rs.length=ly:=by omega
              rw [hrl'] at eR hgr2
              subst eR
              have HRL:=Lib.hid hrl'
              clear hrl hrl'
              have HRS:=Lib.hid (hrs.base_le (B:=w.heap.size+1+1+1) (by have:=HSL7.out.lt; omega))
              have HOY8:=Lib.hid (HOY7.out.below hb8)
              have HSL8:=Lib.hid (HSL7.out.below hb8)
              have HBE8:=Lib.hid (bel_on HBE7.out hb8)
              have HRV:=Lib.hid hrv
              have hgyr:gy≠gr:=by have:=HOY7.out.some_base.2.1; omega
              clear hb8 hrs hrv
              go_wp2_with fail
              refine (trim_at _ _ cr rs _ HRS.out.sl HRL.out.symm (by omega) (by omega)).mono ?_
              rintro e w9 ⟨rfl,rfl⟩
              have hgkp:0 < gk:=by omega
              go_wp2_with fail
              go_roundg (val als % gk)
              case measure=>exact Nat.mod_lt _ hgkp
              case rel=>exact ⟨gy,ly,capY,bs,rs.take (trimN rs ly),rfl,HOY8.out,HRS.out.take (trimN_le _ _),okb,okr.take _,hnb,trimN_norm rs _ (by have:=HRL.out; omega),by rw [trimN_val _ _ (by have:=HRL.out; omega),List.take_of_length_le (by have:=HRL.out; omega),HRV.out,HBV.out],by rw [HBV.out]; exact Nat.le_of_lt (Nat.mod_lt _ hgkp),by rw [HBV.out]; have:=HLT.out; have:=HLE.out; omega,by rw [HBV.out,← HGG.out,Nat.gcd_comm (val als) gk,Nat.gcd_rec gk (val als),Nat.gcd_comm],fun g2 l2 c2 e=>by cases e; exact hgyr,HSL8.out,HBE8.out⟩
            · refine (movesY a b c d _ hbz).mono ?_
              rintro e w7 ⟨rfl,hb7⟩
              have HF7:=Lib.hid (HF6.out.below hb7)
              have HOX7:=Lib.hid (HOX6.out.below hb7)
              have HOY7:=Lib.hid (HOY6.out.below hb7)
              have HSL7:=Lib.hid (HSL6.out.below hb7)
              have HBE7:=Lib.hid (bel_on HBE6.out hb7)
              clear hb7 hf0 hf1 hf2 hf3 HF6 HOX6 HOY6 HSL6 HBE6
              obtain ⟨hf0,hf1,hf2,hf3⟩:=HF7.out.cells
              obtain ⟨hdone,t1,t2,t3,t4,t5⟩:=HT.out
              have t4':=t4 hbz
              have hbv:=HBV.out
              have hgp:(gk:Int) < (pw ly:Int):=by
                have h1:=val_lt okb
                rw [hly] at h1
                omega
              have hlab:ly≤lx:=by
                rcases Nat.lt_or_ge lx ly with h1 | h1
                · have h2:=norm_big hnb (m:=lx) (by omega)
                  have h3:=val_lt oka
                  rw [← hlxa.out.2.2.2] at h3
                  have:=HLE.out
                  omega
                · exact h1
              have HAP:=Lib.hid (apply_any a b c d gx lx cx gy ly capY als bs (w.heap.size+1+1+1) _ HOX7.out HOY7.out hgxy oka okb hlab (by omega) hdone.1 hdone.2 (by rw [hbv]; omega) (by rw [hbv]; omega) (by rw [hbv]; omega) (by rw [hbv]; omega))
              have HT2:=Lib.hid (And.intro t1 (And.intro t2 (And.intro t4' t5)))
              clear hdone t1 t2 t3 t4 t4' t5 hbv hgp
              go_wp2_with fail
              refine HAP.out.mono ?_
              rintro e w8 ⟨n8,m8,xs8,ys8,rfl,h1,h2,h3,h4,h5,h6,h7,h8,h9⟩
              have HR8:=Lib.hid (show GcdRel 202 52 x y k (w.heap.size+1+1) w (val ys8) (.slice (some ⟨gx,0,none⟩) n8 cx) (.slice (some ⟨gy,0,none⟩) m8 capY) w8 from by
                obtain ⟨t1,t2,t4,t5⟩:=HT2.out
                rw [HBV.out] at h7 h8
                rw [← h7,← h8] at t5 t2 t4
                rw [Int.natAbs_natCast,Int.natAbs_natCast,Int.natAbs_natCast,Int.natAbs_natCast] at t5
                exact ⟨gx,n8,cx,xs8,ys8,rfl,h1,h2,h3,h4,h5,h6,rfl,by omega,by have:=HLT.out; have:=HLE.out; omega,by rw [t5]; exact HGG.out,fun g2 l2 c2 e=>by cases e; exact hgxy,HSL7.out.on h9 (by omega),HBE7.out.trans (h9.mono (by omega))⟩)
              have HM:=Lib.hid (show val ys8 < gk from by
                obtain ⟨t1,t2,t4,t5⟩:=HT2.out
                rw [HBV.out] at h8
                omega)
              clear h1 h2 h3 h4 h5 h6 h7 h8 h9
              go_wp2_with fail
              go_roundg (val ys8)
              case measure=>exact HM.out
              case rel=>exact HR8.out
  · have hxy':y≤x:=Nat.le_of_not_lt hxy
    obtain ⟨c,hc,hc0⟩:∃ c:Int,cmpI x y=c∧0≤c:=⟨_,rfl,by unfold cmpI; rw [if_neg hxy]; split <;> decide⟩
    rw [hc]
    clear hc
    have hcn:decide (c < 0)=false:=decide_eq_false (by omega)
    have hcA:=hca
    have hcB:=hcb
    have HSR2:=HSR
    have HB2:=HB1
    by_cases hl2:len≤2
    · have hX2:x < 18446744073709551616:=by
        have h1:=val_lt ho
        rw [HNX.out.2.1,HNX.out.2.2] at h1
        have:=pw_le hl2
        rw [show pw 2=18446744073709551616 from rfl] at this
        omega
      have hgb:Nat.gcd x y < 18446744073709551616:=gcd_lt (k:=2) hX2 (Nat.lt_of_le_of_lt hxy' hX2)
      have HGC:=Lib.hid (show Nat.gcd x y=Nat.gcd x y from rfl)
      have HGL:=Lib.hid (gcd_lt HX.out.2 HY.out.2)
      go_wp2_with fail
      clear hca hcb
      generalize w1=X1 at *
      have HA:=Lib.hid (HX.out.below HB2.out.drew)
      have HBB:=Lib.hid (HY.out.below HB2.out.drew)
      refine wp_region_sched (fun w'=>w'.cell? ⟨w.heap.size,0,none⟩=some (.slice ad len cap)∧w'.cell? ⟨w.heap.size+1,0,none⟩=some (.slice ad' len' cap')∧Slot w' (w.heap.size+1+1) 52 1∧Below w.heap.size w w') [(0,true),(2,true),(1,false),(3,false),(4,false),(5,false),(6,false)] (by kernel_rfl) (by kernel_rfl) ?_ (fun hHeld=>?_)
      · (try dsimp only)
        exact ⟨hcA,hcB,HSR2.out.drew,HB2.out.drew⟩
      try dsimp only at hHeld
      repeat (refine wpSched_at (by simp only [List.getElem?_toArray,List.getElem?_cons_zero,List.getElem?_cons_succ]; rfl) ?_; (first | (apply wpAt_take rfl; (intro wx hSx; (try dsimp only at hSx); go_simp; (try with_reducible rfl)); simp only [Act.put,List.setIfInBounds_toArray,List.set_cons_zero,List.set_cons_succ]) | (refine wpAt_skip rfl ?_; simp only [Act.put,List.setIfInBounds_toArray,List.set_cons_zero,List.set_cons_succ]) | (refine wpAt_pass rfl hHeld ?_; simp only [Act.put,List.setIfInBounds_toArray,List.set_cons_zero,List.set_cons_succ]) | (refine wpAt_eff rfl (fun K hK=>?_); ((obtain ⟨x0,hx0,hfx0⟩:=hHeld.2.2.1.one); (try simp only [cell_drew,frozen_drew] at hx0 hfx0)); go_simp; (first | (go_at_call 173; (with_reducible refine (lowS_any (.agg #[.slice ad len cap]) x _ ?_ (by omega)).mono ?_); (exact HA.out.1); rintro e w' ⟨rfl,hb⟩; (try replace HA:=Lib.hid (HA.out.below hb)); (try replace HBB:=Lib.hid (HBB.out.below hb)); have hS:=And.intro trivial (And.intro (cell_below hHeld.1 hb) (And.intro (cell_below hHeld.2.1 hb) (And.intro (hHeld.2.2.1.below hb) (bel_on hHeld.2.2.2 hb)))); clear hb hHeld) | (go_at_call 173; (with_reducible refine (lowS_any (.agg #[.slice ad' len' cap']) y _ ?_ (by omega)).mono ?_); (exact HBB.out.1); rintro e w' ⟨rfl,hb⟩; (try replace HA:=Lib.hid (HA.out.below hb)); (try replace HBB:=Lib.hid (HBB.out.below hb)); have hS:=And.intro trivial (And.intro (cell_below hHeld.1 hb) (And.intro (cell_below hHeld.2.1 hb) (And.intro (hHeld.2.2.1.below hb) (bel_on hHeld.2.2.2 hb)))); clear hb hHeld) | (go_at_call 172; (with_reducible refine (gcdWords_any x y _ (by omega) (by omega)).mono ?_); rintro e w' ⟨rfl,hb⟩; (try replace HA:=Lib.hid (HA.out.below hb)); (try replace HBB:=Lib.hid (HBB.out.below hb)); have hS:=And.intro trivial (And.intro (cell_below hHeld.1 hb) (And.intro (cell_below hHeld.2.1 hb) (And.intro (hHeld.2.2.1.below hb) (bel_on hHeld.2.2.2 hb)))); clear hb hHeld) | (go_at_call 144; (with_reducible refine (ofB (Nat.gcd x y) _ hgb).mono ?_); rintro e w' ⟨vg,rfl,hn,hb⟩; (try replace HA:=Lib.hid (HA.out.below hb)); (try replace HBB:=Lib.hid (HBB.out.below hb)); have NG:=Lib.hid hn; obtain ⟨adG,lG,cG,rfl⟩:=NG.out.shape2; have hS:=And.intro trivial (And.intro (cell_below hHeld.1 hb) (And.intro (cell_below hHeld.2.1 hb) (And.intro (hHeld.2.2.1.below hb) (bel_on hHeld.2.2.2 hb)))); clear hb hHeld hn) | (try simp only [cell_drew,slot_drew,below_drew] at hHeld)); (refine hK.out _ _ ?_ (fun hHeld=>?_)); ((try dsimp only); ((try simp only [cell_drew,slot_drew,below_drew]); refine ⟨?_,?_,?_,?_⟩; (first | exact hS.2.1 | with_reducible exact cell_set hHeld.1 (by omega) | with_reducible exact cell_set (cell_set hHeld.1 (by omega)) (by omega)); (first | exact hS.2.2.1 | with_reducible exact cell_set hHeld.2.1 (by omega) | with_reducible exact cell_set (cell_set hHeld.2.1 (by omega)) (by omega)); (first | exact hS.2.2.2.1 | with_reducible exact hHeld.2.2.1.set _ _ _ | with_reducible exact (hHeld.2.2.1.set _ _ _).set _ _ _); (first | exact hS.2.2.2.2 | with_reducible exact bel_set1 hHeld.2.2.2 (by omega) | with_reducible exact bel_set2 hHeld.2.2.2 (by omega) (by omega)))); clear hK K; (try clear hS); (try clear hfx0 hx0 x0); (try clear hfy0 hy0 y0); (try clear hfx1 hx1 x1); (try clear hfy1 hy1 y1); (try dsimp only at hHeld))))
      refine wpSched_nil ?_
      rename_i hOld
      have HF:=Lib.hid (NG.out.slot hOld.2.2.1 (by decide) 0 (.slice adG lG cG))
      have HC:=Lib.hid (hOld.2.2.1.set1 (.slice adG lG cG))
      have HE:=Lib.hid (bel_set1 (b:=w.heap.size+1+1) (o:=0) (u:=.slice adG lG cG) hOld.2.2.2 (by omega))
      clear hHeld hOld
      go_wp2_with fail
      refine bodyPost_ret (v:=.agg #[.slice adG lG cG]) (by simp [results,Tryz.results140,go_sem,HC.out]) rfl ⟨_,rfl,?_,HE.out⟩
      skip
      exact ⟨HF.out.1,HGL.out⟩
    · have hl2':decide (len≤2)=false:=decide_eq_false hl2
      have HGC:=Lib.hid (show Nat.gcd x y=Nat.gcd x y from rfl)
      have hlenX:=HNX.out.2.2
      have hlenY:=HNY.out.2.2
      go_wp2_with fail
      clear hca hcb
      generalize w1=X1 at *
      have HA:=Lib.hid (HSX.out.below HB2.out.drew)
      have HBB:=Lib.hid (HSY.out.below HB2.out.drew)
      refine wp_region_sched (fun w'=>w'.cell? ⟨w.heap.size,0,none⟩=some (.slice ad len cap)∧w'.cell? ⟨w.heap.size+1,0,none⟩=some (.slice ad' len' cap')∧Slot w' (w.heap.size+1+1) 52 1∧Below w.heap.size w w') [(0,true),(1,true),(3,true),(4,true),(2,false),(5,false),(6,true),(7,true)] (by kernel_rfl) (by kernel_rfl) ?_ (fun hHeld=>?_)
      · (try dsimp only)
        exact ⟨hcA,hcB,HSR2.out.drew,HB2.out.drew⟩
      try dsimp only at hHeld
      repeat (refine wpSched_at (by simp only [List.getElem?_toArray,List.getElem?_cons_zero,List.getElem?_cons_succ]; rfl) ?_; (first | (apply wpAt_take rfl; (intro wx hSx; (try dsimp only at hSx); go_simp; (try with_reducible rfl)); simp only [Act.put,List.setIfInBounds_toArray,List.set_cons_zero,List.set_cons_succ]) | (refine wpAt_skip rfl ?_; simp only [Act.put,List.setIfInBounds_toArray,List.set_cons_zero,List.set_cons_succ]) | (refine wpAt_pass rfl hHeld ?_; simp only [Act.put,List.setIfInBounds_toArray,List.set_cons_zero,List.set_cons_succ]) | (refine wpAt_eff rfl (fun K hK=>?_); ((obtain ⟨x0,hx0,hfx0⟩:=hHeld.2.2.1.one); (try simp only [cell_drew,frozen_drew] at hx0 hfx0)); go_simp; (first | (go_at_call 174; (with_reducible refine (cloneSl_any (.slice ad len cap) xs _ ?_ (by omega)).mono ?_); (exact HA.out); rintro e w' ⟨vx,rfl,hn,hb⟩; (try replace HA:=Lib.hid (HA.out.below hb)); (try replace HBB:=Lib.hid (HBB.out.below hb)); (try replace NX:=Lib.hid (NX.out.below hb)); have NX:=Lib.hid hn; (have hlt1:=hHeld.2.2.1.lt); (obtain ⟨gX,cX,rfl,hgX0,hgX1,hcX⟩:=own_some NX.out (by omega)); (rw [hlenX]); (rw [hlenX] at NX); (replace NX:=Lib.hid (NX.out.base_le (B:=w.heap.size+1+1+1) (by omega))); have hS:=And.intro trivial (And.intro (cell_below hHeld.1 hb) (And.intro (cell_below hHeld.2.1 hb) (And.intro (hHeld.2.2.1.below hb) (bel_on hHeld.2.2.2 hb)))); clear hb hHeld hn) | (go_at_call 174; (with_reducible refine (cloneSl_any (.slice ad' len' cap') ys _ ?_ (by omega)).mono ?_); (exact HBB.out); rintro e w' ⟨vy,rfl,hn,hb⟩; (try replace HA:=Lib.hid (HA.out.below hb)); (try replace HBB:=Lib.hid (HBB.out.below hb)); (try replace NX:=Lib.hid (NX.out.below hb)); have NY:=Lib.hid hn; (have hlt2:=hHeld.2.2.1.lt); (have DIS:=Lib.hid (show ∀ gy ly cy,vy=.slice (some ⟨gy,0,none⟩) ly cy→gX≠gy from fun gy ly cy e=>by have h1:=NY.out; rw [e] at h1; have h2:=h1.some_base.1; omega)); (replace NY:=Lib.hid (NY.out.base_le (B:=w.heap.size+1+1+1) (by omega))); have hS:=And.intro trivial (And.intro (cell_below hHeld.1 hb) (And.intro (cell_below hHeld.2.1 hb) (And.intro (hHeld.2.2.1.below hb) (bel_on hHeld.2.2.2 hb)))); clear hb hHeld hn) | (try simp only [cell_drew,slot_drew,below_drew] at hHeld)); (refine hK.out _ _ ?_ (fun hHeld=>?_)); ((try dsimp only); ((try simp only [cell_drew,slot_drew,below_drew]); refine ⟨?_,?_,?_,?_⟩; (first | exact hS.2.1 | with_reducible exact cell_set hHeld.1 (by omega) | with_reducible exact cell_set (cell_set hHeld.1 (by omega)) (by omega)); (first | exact hS.2.2.1 | with_reducible exact cell_set hHeld.2.1 (by omega) | with_reducible exact cell_set (cell_set hHeld.2.1 (by omega)) (by omega)); (first | exact hS.2.2.2.1 | with_reducible exact hHeld.2.2.1.set _ _ _ | with_reducible exact (hHeld.2.2.1.set _ _ _).set _ _ _); (first | exact hS.2.2.2.2 | with_reducible exact bel_set1 hHeld.2.2.2 (by omega) | with_reducible exact bel_set2 hHeld.2.2.2 (by omega) (by omega)))); clear hK K; (try clear hS); (try clear hfx0 hx0 x0); (try clear hfy0 hy0 y0); (try clear hfx1 hx1 x1); (try clear hfy1 hy1 y1); (try dsimp only at hHeld))))
      refine wpSched_nil ?_
      have HS5:=Lib.hid hHeld.2.2.1
      have HB5:=Lib.hid hHeld.2.2.2
      have HX5:=Lib.hid HNX.out
      have HY5:=Lib.hid HNY.out
      have HP5:=Lib.hid (And.intro HX.out.2 (And.intro ho ho'))
      have HXY5:=Lib.hid hxy'
      clear hHeld
      go_wp2_with fail
      go_loopg [5,6,7,8,9] y (fun g vx vy _ _ _ wr=>GcdRel 202 52 x y k (w.heap.size+1+1) w g vx vy wr)
      case atStart=>exact ⟨gX,len,cX,xs,ys,rfl,NX.out,NY.out,HP5.out.2.1,HP5.out.2.2,HX5.out.1,HY5.out.1,HY5.out.2.1,by rw [HX5.out.2.1]; exact HXY5.out,by rw [HX5.out.2.1]; exact HP5.out.1,by rw [HX5.out.2.1],DIS.out,HS5.out,HB5.out⟩
      case round=>
        clear HX5 HY5 HP5 HXY5 HS5 HB5 DIS NX NY HGC HX HY HSX HSY HNX HNY HA HBB HSA HSB HSR HSR2 HB1 HB2
        obtain ⟨gx,lx,cx,als,bs,rfl,hox,hoy,oka,okb,hna,hnb,hbv,hle,hlt,hgc,hdis,hsl,hbel⟩:=hrel
        have hlxa:=Lib.hid hox.some_base
        obtain ⟨adY,capY,eY,hcY,_⟩:=hoy.sl.shape
        have hbl:bs.length≤k:=norm_len hnb (m:=k) (by omega)
        have hal:als.length≤k:=norm_len hna hlt
        obtain ⟨ly,hly⟩:∃ ly,bs.length=ly:=⟨_,rfl⟩
        rw [hly] at eY hcY hbl
        subst eY
        have HOX:=Lib.hid hox
        have HOY:=Lib.hid hoy
        have HSL:=Lib.hid hsl
        have HBE:=Lib.hid hbel
        have HBV:=Lib.hid hbv
        have HLE:=Lib.hid hle
        have HLT:=Lib.hid hlt
        have HGG:=Lib.hid hgc
        have HDI:=Lib.hid hdis
        have hRl:=hsl.lt
        clear hox hoy hsl hbel hbv hle hlt hgc hdis
        by_cases h0:ly=0
        · subst h0
          have hg0:gk=0:=by rw [← HBV.out,List.length_eq_zero_iff.1 hly,val_nil]
          subst hg0
          rw [Nat.gcd_zero_right] at HGG
          go_wp2_with fail
          refine (wrapB _ als (val als) k _ HOX.out.sl oka (by omega) rfl HLT.out).mono ?_
          rintro e w6 ⟨v6,rfl,hn6,hb6⟩
          obtain ⟨adG,lG,cG,rfl⟩:=hn6.shape2
          have HT:=Lib.hid (HSL.out.below hb6)
          obtain ⟨z0,hz0,hf0⟩:=HT.out.one
          have HF:=Lib.hid (hn6.slot HT.out (by decide) 0 (.slice adG lG cG))
          have HC:=Lib.hid (HT.out.set1 (.slice adG lG cG))
          have HE:=Lib.hid (bel_set1 (b:=w.heap.size+1+1) (o:=0) (u:=.slice adG lG cG) (bel_on HBE.out hb6) (by omega))
          clear hn6 hb6
          go_wp2_with fail
          refine bodyPost_ret (v:=.agg #[.slice adG lG cG]) (by simp [results,Tryz.results140,go_sem,HC.out]) rfl ⟨_,rfl,?_,HE.out⟩
          rw [← HGG.out]
          exact HF.out
        · by_cases h2:ly≤2
          · have hl2n:¬ (2 < ly):=by omega
            have hl0:((ly:Int) == 0)=false:=by simp; exact h0
            have hb64:val bs < 18446744073709551616:=by
              have h1:=val_lt okb
              rw [hly] at h1
              have:=pw_le h2
              rw [show pw 2=18446744073709551616 from rfl] at this
              omega
            have hgk0:gk≠0:=fun e=>by
              have:=norm_val_zero hnb (by rw [HBV.out,e])
              rw [this] at hly
              simp at hly
              omega
            have hgk:gk < 18446744073709551616:=by have:=HBV.out; omega
            have hrm:=Nat.mod_lt (val als) (Nat.pos_of_ne_zero hgk0)
            obtain ⟨r,hr⟩:∃ r,val als % gk=r:=⟨_,rfl⟩
            rw [hr] at hrm
            have hgb:Nat.gcd gk r < 18446744073709551616:=gcd_lt (k:=2) hgk (by rw [show pw 2=18446744073709551616 from rfl]; omega)
            have HGF:=Lib.hid (show Nat.gcd gk r=Nat.gcd x y by rw [← HGG.out,← hr,Nat.gcd_comm (val als) gk,Nat.gcd_rec gk (val als),Nat.gcd_comm])
            have HR:=Lib.hid hr
            clear hr
            go_wp2_with fail
            refine (wrapB _ als (val als) k _ HOX.out.sl oka (by omega) rfl HLT.out).mono ?_
            rintro e w6 ⟨v6,rfl,hn6,hb6⟩
            have HN6:=Lib.hid hn6
            have HB6:=Lib.hid hb6
            clear hn6 hb6
            go_wp2_with fail
            refine (wrapB _ bs gk k _ (HOY.out.below HB6.out).sl okb (by omega) HBV.out (by have:=HLT.out; have:=HLE.out; omega)).mono ?_
            rintro e w7 ⟨v7,rfl,hn7,hb7⟩
            have HN7:=Lib.hid hn7
            have HB7:=Lib.hid hb7
            clear hn7 hb7
            go_wp2_with fail
            refine (divTells (val als) gk k k (by omega) (by omega) hgk0 _ _ _ (HN6.out.below HB7.out) HN7.out).mono ?_
            rintro e w8 ⟨v8,u8,rfl,hn8,hm8,hb8⟩
            rw [HR.out] at hm8
            obtain ⟨ad8,l8,c8,rfl⟩:=hn8.shape2
            obtain ⟨ae8,m8,d8,rfl⟩:=hm8.shape2
            have hbA:=bel_alloc2 w8 (Obj.cells #[Value.slice ad8 l8 c8] 52) (Obj.cells #[Value.slice ae8 m8 d8] 52)
            have hh8:=heldN2 (w:=w8) (c0:=#[Value.slice ad8 l8 c8]) (t0:=52) (c1:=#[Value.slice ae8 m8 d8]) (t1:=52)
            have hcl:=cell0 hh8.2.1
            have hw8:=(HSL.out.below (bel_on (bel_on HB6.out HB7.out) hb8)).lt
            have hb68:=bel_on (bel_on (bel_on HB6.out HB7.out) hb8) hbA
            have HSY9:=Lib.hid ((HOY.out.below hb68).sl.below (Below.refl _ _).drew)
            have HLF:=Lib.hid ((hm8.below hbA).below (Below.refl _ _).drew)
            have HSL9:=Lib.hid (HSL.out.below hb68)
            have HBE9:=Lib.hid (bel_on HBE.out hb68)
            clear hn8 hm8 hb8 hbA hh8 hb68
            go_wp2_with fail
            generalize (w8.alloc (Obj.cells #[Value.slice ad8 l8 c8] 52)).alloc (Obj.cells #[Value.slice ae8 m8 d8] 52)=X9 at *
            have hgv:=HBV.out
            refine wp_region_sched (fun w'=>w'.cell? ⟨w8.heap.size+1,0,none⟩=some (.slice ae8 m8 d8)∧Slot w' (w.heap.size+1+1) 52 1∧Below w.heap.size w w') [(0,true),(2,true),(1,false),(3,false),(4,false),(5,false),(6,false)] (by kernel_rfl) (by kernel_rfl) ?_ (fun hHeld=>?_)
            · (try dsimp only)
              exact ⟨hcl,HSL9.out.drew,HBE9.out.drew⟩
            try dsimp only at hHeld
            repeat (refine wpSched_at (by simp only [List.getElem?_toArray,List.getElem?_cons_zero,List.getElem?_cons_succ]; rfl) ?_; (first | (apply wpAt_take rfl; (intro wx hSx; (try dsimp only at hSx); go_simp; (try with_reducible rfl)); simp only [Act.put,List.setIfInBounds_toArray,List.set_cons_zero,List.set_cons_succ]) | (refine wpAt_skip rfl ?_; simp only [Act.put,List.setIfInBounds_toArray,List.set_cons_zero,List.set_cons_succ]) | (refine wpAt_pass rfl hHeld ?_; simp only [Act.put,List.setIfInBounds_toArray,List.set_cons_zero,List.set_cons_succ]) | (refine wpAt_eff rfl (fun K hK=>?_); ((obtain ⟨x0,hx0,hfx0⟩:=hHeld.2.1.one); (try simp only [cell_drew,frozen_drew] at hx0 hfx0)); go_simp; (first | (go_at_call 181; (with_reducible refine (window0_any (.slice adY ly capY) bs _ ?_ okb hb64).mono ?_); (exact HSY9.out); rintro e w' ⟨rfl,hb⟩; (try replace HSY9:=Lib.hid (HSY9.out.below hb)); (try replace HLF:=Lib.hid (HLF.out.below hb)); rw [HBV.out]; have hS:=And.intro trivial (And.intro (cell_below hHeld.1 hb) (And.intro (hHeld.2.1.below hb) (bel_on hHeld.2.2 hb))); clear hb hHeld) | (go_at_call 173; (with_reducible refine (lowS_any (.agg #[.slice ae8 m8 d8]) r _ ?_ (by omega)).mono ?_); (exact HLF.out.1); rintro e w' ⟨rfl,hb⟩; (try replace HSY9:=Lib.hid (HSY9.out.below hb)); (try replace HLF:=Lib.hid (HLF.out.below hb)); have hS:=And.intro trivial (And.intro (cell_below hHeld.1 hb) (And.intro (hHeld.2.1.below hb) (bel_on hHeld.2.2 hb))); clear hb hHeld) | (go_at_call 172; (with_reducible refine (gcdWords_any gk r _ (by omega) (by omega)).mono ?_); rintro e w' ⟨rfl,hb⟩; (try replace HSY9:=Lib.hid (HSY9.out.below hb)); (try replace HLF:=Lib.hid (HLF.out.below hb)); have hS:=And.intro trivial (And.intro (cell_below hHeld.1 hb) (And.intro (hHeld.2.1.below hb) (bel_on hHeld.2.2 hb))); clear hb hHeld) | (go_at_call 144; (with_reducible refine (ofB (Nat.gcd gk r) _ hgb).mono ?_); rintro e w' ⟨vg,rfl,hn,hb⟩; (try replace HSY9:=Lib.hid (HSY9.out.below hb)); (try replace HLF:=Lib.hid (HLF.out.below hb)); have NG:=Lib.hid hn; obtain ⟨adG,lG,cG,rfl⟩:=NG.out.shape2; have hS:=And.intro trivial (And.intro (cell_below hHeld.1 hb) (And.intro (hHeld.2.1.below hb) (bel_on hHeld.2.2 hb))); clear hb hHeld hn) | (try simp only [cell_drew,slot_drew,below_drew] at hHeld)); (refine hK.out _ _ ?_ (fun hHeld=>?_)); ((try dsimp only); ((try simp only [cell_drew,slot_drew,below_drew]); refine ⟨?_,?_,?_⟩; (first | exact hS.2.1 | with_reducible exact cell_set hHeld.1 (by omega) | with_reducible exact cell_set (cell_set hHeld.1 (by omega)) (by omega)); (first | exact hS.2.2.1 | with_reducible exact hHeld.2.1.set _ _ _ | with_reducible exact (hHeld.2.1.set _ _ _).set _ _ _); (first | exact hS.2.2.2 | with_reducible exact bel_set1 hHeld.2.2 (by omega) | with_reducible exact bel_set2 hHeld.2.2 (by omega) (by omega)))); clear hK K; (try clear hS); (try clear hfx0 hx0 x0); (try clear hfy0 hy0 y0); (try clear hfx1 hx1 x1); (try clear hfy1 hy1 y1); (try dsimp only at hHeld))))
            refine wpSched_nil ?_
            rename_i hOld
            have HF:=Lib.hid (NG.out.slot hOld.2.1 (by decide) 0 (.slice adG lG cG))
            have HC:=Lib.hid (hOld.2.1.set1 (.slice adG lG cG))
            have HE:=Lib.hid (bel_set1 (b:=w.heap.size+1+1) (o:=0) (u:=.slice adG lG cG) hOld.2.2 (by omega))
            clear hHeld hOld
            go_wp2_with fail
            refine bodyPost_ret (v:=.agg #[.slice adG lG cG]) (by simp [results,Tryz.results140,go_sem,HC.out]) rfl ⟨_,rfl,?_,HE.out⟩
            rw [← HGF.out]
            refine ⟨HF.out.1,?_⟩
            rw [HGF.out,← HGG.out]
            exact gcd_lt HLT.out (Nat.lt_of_le_of_lt HLE.out HLT.out)
          · have hl2n:2 < ly:=by omega
            have hbig:18446744073709551616≤gk:=by rw [← HBV.out,← show pw 2=18446744073709551616 from rfl]; exact norm_big hnb (by omega)
            obtain ⟨gy,cy,eY,hgy0,hgy1,hgy2⟩:=own_some HOY.out (by omega)
            rw [hly] at eY hgy2
            cases eY
            have hgxy:gx≠gy:=HDI.out _ _ _ rfl
            go_wp2_with fail
            refine (sure_any _ _ (val als) gk k _ ⟨als,HOX.out.sl,oka,hna,rfl⟩ ⟨bs,HOY.out.sl,okb,hnb,HBV.out⟩ HLE.out HLT.out (by omega) hbig).mono ?_
            rintro e w6 ⟨a,b,c,d,su,sv,u0,v0,rfl,hst,hb6⟩
            have hdone:=hst.done
            obtain ⟨⟨t1,t2,t3,t4⟩,t5⟩:=hst.vals
            clear hst
            have hbA:=bel_alloc w6 (Obj.cells #[Value.int IntKind.i64 a,Value.int IntKind.i64 b,Value.int IntKind.i64 c,Value.int IntKind.i64 d] 224)
            have HF6:=Lib.hid (show Four (w6.alloc (Obj.cells #[Value.int IntKind.i64 a,Value.int IntKind.i64 b,Value.int IntKind.i64 c,Value.int IntKind.i64 d] 224)) w6.heap.size 224 (.int .i64 a) (.int .i64 b) (.int .i64 c) (.int .i64 d) from new_block _ _)
            have hb6A:=bel_on hb6 hbA
            have HOX6:=Lib.hid (HOX.out.below hb6A)
            have HOY6:=Lib.hid (HOY.out.below hb6A)
            have HSL6:=Lib.hid (HSL.out.below hb6A)
            have HBE6:=Lib.hid (bel_on HBE.out hb6A)
            have HT:=Lib.hid (And.intro hdone (And.intro t1 (And.intro t2 (And.intro t3 (And.intro t4 t5)))))
            clear hb6 hbA hb6A hdone t1 t2 t3 t4 t5 HOX HOY HSL HBE
            go_wp2_with fail
            generalize w6.alloc (Obj.cells #[Value.int IntKind.i64 a,Value.int IntKind.i64 b,Value.int IntKind.i64 c,Value.int IntKind.i64 d] 224)=X6 at *
            obtain ⟨hf0,hf1,hf2,hf3⟩:=HF6.out.cells
            go_wp2_with fail
            by_cases hbz:b=0
            · refine (movesN a b c d _ hbz).mono ?_
              rintro e w7 ⟨rfl,hb7⟩
              have HF7:=Lib.hid (HF6.out.below hb7)
              have HOX7:=Lib.hid (HOX6.out.below hb7)
              have HOY7:=Lib.hid (HOY6.out.below hb7)
              have HSL7:=Lib.hid (HSL6.out.below hb7)
              have HBE7:=Lib.hid (bel_on HBE6.out hb7)
              clear hb7 hf0 hf1 hf2 hf3 HF6 HOX6 HOY6 HSL6 HBE6
              obtain ⟨hf0,hf1,hf2,hf3⟩:=HF7.out.cells
              have htop:lim bs (bs.length - 1)≠0:=by rcases hnb with e | e; (rw [e] at hly; simp at hly; omega); exact e
              have HTOP:=Lib.hid htop
              have hlab:bs.length≤als.length:=by
                rcases Nat.lt_or_ge als.length bs.length with h1 | h1
                · have h2:=norm_big hnb h1
                  have h3:=val_lt oka
                  have:=HBV.out
                  have:=HLE.out
                  omega
                · exact h1
              clear htop
              go_wp2_with fail
              refine (divideLong_any _ _ als bs _ HOX7.out.sl HOY7.out.sl oka okb (by omega) hlab (by omega) HTOP.out).mono ?_
              rintro e w8 ⟨v8,u8,os,rs,rfl,_,hrs,_,okr,_,hrv,_,hrl,hb8⟩
              obtain ⟨gr,cr,eR,hgr0,hgr1,hgr2⟩:=own_some hrs (by omega)
              have hrl':rs.length=ly:=by omega
              rw [hrl'] at eR hgr2
              subst eR
              have HRL:=Lib.hid hrl'
              clear hrl hrl'
              have HRS:=Lib.hid (hrs.base_le (B:=w.heap.size+1+1+1) (by have:=HSL7.out.lt; omega))
              have HOY8:=Lib.hid (HOY7.out.below hb8)
              have HSL8:=Lib.hid (HSL7.out.below hb8)
              have HBE8:=Lib.hid (bel_on HBE7.out hb8)
              have HRV:=Lib.hid hrv
              have hgyr:gy≠gr:=by have:=HOY7.out.some_base.2.1; omega
              clear hb8 hrs hrv
              go_wp2_with fail
              refine (trim_at _ _ cr rs _ HRS.out.sl HRL.out.symm (by omega) (by omega)).mono ?_
              rintro e w9 ⟨rfl,rfl⟩
              have hgkp:0 < gk:=by omega
              go_wp2_with fail
              go_roundg (val als % gk)
              case measure=>exact Nat.mod_lt _ hgkp
              case rel=>exact ⟨gy,ly,capY,bs,rs.take (trimN rs ly),rfl,HOY8.out,HRS.out.take (trimN_le _ _),okb,okr.take _,hnb,trimN_norm rs _ (by have:=HRL.out; omega),by rw [trimN_val _ _ (by have:=HRL.out; omega),List.take_of_length_le (by have:=HRL.out; omega),HRV.out,HBV.out],by rw [HBV.out]; exact Nat.le_of_lt (Nat.mod_lt _ hgkp),by rw [HBV.out]; have:=HLT.out; have:=HLE.out; omega,by rw [HBV.out,← HGG.out,Nat.gcd_comm (val als) gk,Nat.gcd_rec gk (val als),Nat.gcd_comm],fun g2 l2 c2 e=>by cases e; exact hgyr,HSL8.out,HBE8.out⟩
            · refine (movesY a b c d _ hbz).mono ?_
              rintro e w7 ⟨rfl,hb7⟩
              have HF7:=Lib.hid (HF6.out.below hb7)
              have HOX7:=Lib.hid (HOX6.out.below hb7)
              have HOY7:=Lib.hid (HOY6.out.below hb7)
              have HSL7:=Lib.hid (HSL6.out.below hb7)
              have HBE7:=Lib.hid (bel_on HBE6.out hb7)
              clear hb7 hf0 hf1 hf2 hf3 HF6 HOX6 HOY6 HSL6 HBE6
              obtain ⟨hf0,hf1,hf2,hf3⟩:=HF7.out.cells
              obtain ⟨hdone,t1,t2,t3,t4,t5⟩:=HT.out
              have t4':=t4 hbz
              have hbv:=HBV.out
              have hgp:(gk:Int) < (pw ly:Int):=by
                have h1:=val_lt okb
                rw [hly] at h1
                omega
              have hlab:ly≤lx:=by
                rcases Nat.lt_or_ge lx ly with h1 | h1
                · have h2:=norm_big hnb (m:=lx) (by omega)
                  have h3:=val_lt oka
                  rw [← hlxa.out.2.2.2] at h3
                  have:=HLE.out
                  omega
                · exact h1
              have HAP:=Lib.hid (apply_any a b c d gx lx cx gy ly capY als bs (w.heap.size+1+1+1) _ HOX7.out HOY7.out hgxy oka okb hlab (by omega) hdone.1 hdone.2 (by rw [hbv]; omega) (by rw [hbv]; omega) (by rw [hbv]; omega) (by rw [hbv]; omega))
              have HT2:=Lib.hid (And.intro t1 (And.intro t2 (And.intro t4' t5)))
              clear hdone t1 t2 t3 t4 t4' t5 hbv hgp
              go_wp2_with fail
              refine HAP.out.mono ?_
              rintro e w8 ⟨n8,m8,xs8,ys8,rfl,h1,h2,h3,h4,h5,h6,h7,h8,h9⟩
              have HR8:=Lib.hid (show GcdRel 202 52 x y k (w.heap.size+1+1) w (val ys8) (.slice (some ⟨gx,0,none⟩) n8 cx) (.slice (some ⟨gy,0,none⟩) m8 capY) w8 from by
                obtain ⟨t1,t2,t4,t5⟩:=HT2.out
                rw [HBV.out] at h7 h8
                rw [← h7,← h8] at t5 t2 t4
                rw [Int.natAbs_natCast,Int.natAbs_natCast,Int.natAbs_natCast,Int.natAbs_natCast] at t5
                exact ⟨gx,n8,cx,xs8,ys8,rfl,h1,h2,h3,h4,h5,h6,rfl,by omega,by have:=HLT.out; have:=HLE.out; omega,by rw [t5]; exact HGG.out,fun g2 l2 c2 e=>by cases e; exact hgxy,HSL7.out.on h9 (by omega),HBE7.out.trans (h9.mono (by omega))⟩)
              have HM:=Lib.hid (show val ys8 < gk from by
                obtain ⟨t1,t2,t4,t5⟩:=HT2.out
                rw [HBV.out] at h8
                omega)
              clear h1 h2 h3 h4 h5 h6 h7 h8 h9
              go_wp2_with fail
              go_roundg (val ys8)
              case measure=>exact HM.out
              case rel=>exact HR8.out
end Go.Proofs.YthffkbbcofbceaaGreatDoor
