/- The contract of nat's Add. -/
import Derived.Test.YthffkbbcofbceaaGreatDoorYg
import Derived.Test.YthffkbbcofbceaaGreatDoorYb
namespace Go.Proofs.YthffkbbcofbceaaGreatDoor
open Go.RowKit Cin
theorem step_add {t0:TypeId} {w wr:World} {xs ys os ys0:List Nat} {b off k q t td tm:Nat} (hol:os.length=k) (hok:Ok os) (hv:val os+pw k * q=val (xs.take k)+val (ys.take k))
    (hblk:Blk wr b t0 .u32 (splice ys0 off os)) (hkeep:Keep (·=b) w wr) (et:t=q+(lim xs k+lim ys k)) (etd:td=t / 4294967296) (etm:tm=t % 4294967296) (hlt:off+k < ys0.length)
    (hq:q≤1:=by omega) (hx:lim xs k < 4294967296:=by assumption) (hy:lim ys k < 4294967296:=by assumption) :
    td≤1∧(os++[tm]).length=k+1∧Ok (os++[tm])∧val (os++[tm])+pw (k+1) * td=val (xs.take (k+1))+val (ys.take (k+1)) ∧
      Blk (wr.setCell ⟨b,off+k,none⟩ (.int .u32 (tm:Nat))) b t0 .u32 (splice ys0 off (os++[tm]))∧Keep (·=b) w (wr.setCell ⟨b,off+k,none⟩ (.int .u32 (tm:Nat))):=by
  have htm:tm < 4294967296:=by omega
  refine ⟨by omega,by rw [List.length_append,hol]; rfl,hok.append (Ok.cons htm Ok.nil),?_,?_,hkeep.setCell rfl _⟩
  · rw [val_snoc,hol,val_take_step xs,val_take_step ys,pw_succ]
    have e1:t=tm+4294967296 * td:=by omega
    have e2:pw k * t=pw k * tm+4294967296 * pw k * td:=by rw [e1,Nat.mul_add,Nat.mul_comm 4294967296 (pw k),Nat.mul_assoc]
    have e3:pw k * t=pw k * q+(pw k * lim xs k+pw k * lim ys k):=by rw [et,Nat.mul_add,Nat.mul_add]
    omega
  · have:=hblk.set (off+k) tm
    rw [← hol,splice_set (by omega),hol] at this
    exact this
set_option maxRecDepth 100000 in
set_option maxHeartbeats 1000000 in
theorem add_any (v u:Value) (x y:Nat) (L:Nat) (w:World) (h:NatV 202 w v x) (h':NatV 202 w u y) (hx:x < pw L) (hy:y < pw L) (hL:L≤100000000) :
    Calls Tryz.prog 182 #[v,u] w fun e w'=>∃ v',e=.returned v'∧NatV 202 w' v' (x+y)∧Below w.heap.size w w':=by
  obtain ⟨ad,len,cap,rfl,xs,hs,ho,hnm,rfl⟩:=h.shape
  obtain ⟨ad',len',cap',rfl,ys,hs',ho',hnm',rfl⟩:=h'.shape
  obtain ⟨i0,hi0,hz0,hz1,hz2⟩:=info_parts info_u32
  have hlx:=hs.len
  have hly:=hs'.len
  have hl:len≤100000000:=by have:=norm_len hnm hx; omega
  have hl':len'≤100000000:=by have:=norm_len hnm' hy; omega
  have H:=Lib.hid hs
  have H':=Lib.hid hs'
  have HLX:=Lib.hid hlx
  have HLY:=Lib.hid hly
  have HD:=Lib.hid (show ∀ b' o' n' c',Value.slice ad len cap=.slice (some ⟨b',o',none⟩) n' c'→¬ (b'=w.heap.size+1+1+1) from fun b' o' n' c' e=>by have:=hs.lt e; omega)
  have HD':=Lib.hid (show ∀ b' o' n' c',Value.slice ad' len' cap'=.slice (some ⟨b',o',none⟩) n' c'→¬ (b'=w.heap.size+1+1+1) from fun b' o' n' c' e=>by have:=hs'.lt e; omega)
  clear hx hy h h' hs hs' hlx hly hnm hnm'
  by_cases hll:len < len'
  · have hdec:decide (len < len')=true:=by rw [decide_eq_true_iff]; exact hll
    have hln:len'≤100000000:=by omega
    obtain ⟨n1,hn1,en1⟩:∃ n1:Nat,(len':Int)+1=(n1:Int)∧n1=len'+1:=⟨len'+1,by omega,rfl⟩
    have EN:=Lib.hid en1
    have hnb:n1≤100000001:=by omega
    have hle:len≤len':=by omega
    clear en1 hll
    go_enter Tryz.func182,Tryz.ntmps182
    go_wp2_with fail
    go_quiet (fail)
    go_wp2_with (at_make; refine wpList_make_ints _ rfl _ _ 50 rfl 202 i0 .u32 Tryz.underlying50 hi0 hz0 hz1 .i64 .i64 _ _ n1 n1 rfl rfl (by omega) (by omega) (Nat.le_refl _) (by rw [hz2]; omega) (by omega) ?_)
    have hbW:Below w.heap.size w (((((w.alloc (Obj.cells #[Value.slice ad len cap] 52)).alloc (Obj.cells #[Value.slice ad' len' cap'] 52)).alloc (Obj.cells #[Value.slice none 0 0] 52)).drewN nq).alloc (Obj.cells (ints IntKind.u32 (List.replicate n1 0)) 202)):=
      (bel_drewN (bel_alloc3 _ _ _ _) _).alloc (by simp; omega) _
    have hrW:(((((w.alloc (Obj.cells #[Value.slice ad len cap] 52)).alloc (Obj.cells #[Value.slice ad' len' cap'] 52)).alloc (Obj.cells #[Value.slice none 0 0] 52)).drewN nq).alloc (Obj.cells (ints IntKind.u32 (List.replicate n1 0)) 202)).heap[w.heap.size+1+1]?=some (.cells #[.slice none 0 0] 52 (0,0)):=nb42 w _ _ _ _
    have hkW:Blk (((((w.alloc (Obj.cells #[Value.slice ad len cap] 52)).alloc (Obj.cells #[Value.slice ad' len' cap'] 52)).alloc (Obj.cells #[Value.slice none 0 0] 52)).drewN nq).alloc (Obj.cells (ints IntKind.u32 (List.replicate n1 0)) 202)) (w.heap.size+1+1+1) 202 .u32 (List.replicate n1 0):=nb43 w _ _ _ _
    generalize (((((w.alloc (Obj.cells #[Value.slice ad len cap] 52)).alloc (Obj.cells #[Value.slice ad' len' cap'] 52)).alloc (Obj.cells #[Value.slice none 0 0] 52)).drewN nq).alloc (Obj.cells (ints IntKind.u32 (List.replicate n1 0)) 202))=W at *
    have hszW:=hkW.lt
    have HL:=Lib.hid (H'.out.below hbW)
    have HS:=Lib.hid (H.out.below hbW)
    have HBW:=Lib.hid hbW
    have HRW:=Lib.hid hrW
    have HKW:=Lib.hid hkW
    clear hbW hrW hkW H H'
    go_loopw [8,9,10,28] (fun c _ _ i wr=>∃ (k q:Nat) (os:List Nat),k≤len'∧i=.int .i64 k∧c=.int .u64 q∧q≤1∧os.length=k∧Ok os∧val os+pw k * q=val (ys.take k)+val (xs.take k) ∧
        Blk wr (w.heap.size+1+1+1) 202 .u32 (splice (List.replicate n1 0) 0 os)∧Keep (·=w.heap.size+1+1+1) W wr) (fun _ _ _ i _=>len' - (intOf i).toNat)
    case atStart=>exact ⟨0,0,[],Nat.zero_le _,rfl,rfl,by omega,rfl,Ok.nil,rfl,by rw [splice_nil]; exact HKW.out,Keep.refl _ _⟩
    case round=>
      obtain ⟨k,q,os,hk,rfl,rfl,hq,hol,hok,hv,hblk,hkeep⟩:=hrel
      have HOL:=Lib.hid hol
      have HV:=Lib.hid hv
      have hcell2:=hblk.cell (i:=k) (by rw [splice_length (by simp; have:=EN.out; omega)]; simp; have:=EN.out; omega)
      have hf:=hblk.free k
      have HBK:=Lib.hid hblk
      have HK:=Lib.hid hkeep
      have HSr:=Lib.hid (HS.out.keep HK.out (HD.out))
      have HLr:=Lib.hid (HL.out.keep HK.out (HD'.out))
      clear hol hv hblk hkeep
      by_cases hlt:k < len'
      · obtain ⟨bx,offx,rfl,hcell,hblt⟩:=HLr.out.cell (i:=k) (by have:=HLY.out; omega)
        have hlim:lim ys k < 4294967296:=lim_lt ho' _
        have hlim2:lim xs k < 4294967296:=lim_lt ho _
        obtain ⟨t,ht,et⟩:∃ t:Nat,(q:Int)+(((lim ys k:Nat):Int)+((lim xs k:Nat):Int))=(t:Int)∧t=q+(lim ys k+lim xs k):=⟨_,by omega,rfl⟩
        have htb:t≤8589934591:=by omega
        obtain ⟨td,htd,etd⟩:∃ td:Nat,((t:Int) / 4294967296)=(td:Int)∧td=t / 4294967296:=⟨t / 4294967296,by omega,rfl⟩
        obtain ⟨tm,htm,etm⟩:∃ tm:Nat,((t:Int) % 4294967296)=(tm:Int)∧tm=t % 4294967296:=⟨t % 4294967296,by omega,rfl⟩
        have R:=step_add (xs:=ys) (ys:=xs) (off:=0) (ys0:=List.replicate n1 0) HOL.out hok HV.out HBK.out HK.out et etd etm (by simp; have:=EN.out; omega)
        rw [Nat.zero_add] at R
        have HR:=Lib.hid R
        have hkn:k < n1:=by omega
        clear R et etd etm
        go_wp2_with (go_at_call 210; refine (limbAt_any _ xs _ _ HSr.out (by omega)).mono ?_; rintro e w' ⟨rfl,rfl⟩; rw [Int.toNat_natCast])
        obtain ⟨r1,r2,r3,r4,r5,r6⟩:=HR.out
        exact ⟨⟨k+1,td,os++[tm],by omega,by go_num,rfl,r1,r2,r3,r4,r5,r6⟩,by simp [intOf]; omega⟩
      · obtain rfl:k=len':=by omega
        have hos:splice (List.replicate n1 0) 0 (os++[q])=os++[q]:=splice_zeros_all (by rw [List.length_append,HOL.out,EN.out]; rfl)
        have hb2:Blk (wr.setCell ⟨w.heap.size+1+1+1,k,none⟩ (.int .u32 (q:Nat))) (w.heap.size+1+1+1) 202 .u32 (os++[q]):=by
          have:=HBK.out.set (0+os.length) q
          rw [splice_set (by simp; have:=EN.out; have:=HOL.out; omega),hos,HOL.out,Nat.zero_add] at this
          exact this
        have hsl:=Sl.of_blk hb2
        rw [List.length_append,HOL.out,show k+[q].length=n1 from EN.out.symm] at hsl
        have hval:val (os++[q])=val xs+val ys:=by
          rw [val_snoc,HOL.out,HV.out,List.take_of_length_le (by have:=HLY.out; omega),List.take_of_length_le (by have:=HLX.out; omega),Nat.add_comm]
        have hoks:Ok (os++[q]):=hok.append (Ok.cons (by omega) Ok.nil)
        have hlen2:(os++[q]).length≤1000000000000:=by rw [List.length_append,HOL.out]; simp; omega
        have hk3:Keep (·=w.heap.size+1+1+1) W (wr.setCell ⟨w.heap.size+1+1+1,k,none⟩ (.int .u32 (q:Nat))):=HK.out.setCell rfl _
        have hr3:=(hk3.block (w.heap.size+1+1) (by omega) (by omega)).trans HRW.out
        have hb3:=HBW.out.trans (hk3.below (B:=w.heap.size) (by have:=HBW.out.size; omega) (fun k e=>by omega))
        have HV2:=Lib.hid hval
        have HSL:=Lib.hid hsl
        have HR3:=Lib.hid hr3
        have HB3:=Lib.hid hb3
        have hkn:k < n1:=by have:=EN.out; omega
        clear hval hsl hr3 hb3 hk3 hb2 hos
        go_wp2_with fail
        refine (wrap_any _ _ _ HSL.out hoks hlen2).mono ?_
        rintro e w2 ⟨v',rfl,hn2,hb2⟩
        obtain ⟨ad2,len2,cap2,rfl,hr2⟩:=hn2.shape
        have hk2:=(hb2.block (w.heap.size+1+1) (by have:=HSL.out.lt rfl; omega)).trans HR3.out
        have hc:=cell_of hk2 0
        have hf:=free_of hk2 0
        simp only [List.getElem?_toArray,List.getElem?_cons_zero] at hc
        have HR:=Lib.hid (fin_nat (bel_on HB3.out hb2) hk2 (by decide) hr2 (by omega) 0)
        clear hr2 hb2 hk2 hn2
        go_wp2
        refine bodyPost_ret (v:=.agg #[.slice ad2 len2 cap2]) (by simp [results,Tryz.results182,go_sem,World.cell?_setCell_same _ _ _ hc]) rfl ⟨_,rfl,?_⟩
        have:=HR.out
        rw [HV2.out] at this
        exact this
  · have hdec:decide (len < len')=false:=by rw [decide_eq_false_iff_not]; exact hll
    have hln:len≤100000000:=by omega
    obtain ⟨n1,hn1,en1⟩:∃ n1:Nat,(len:Int)+1=(n1:Int)∧n1=len+1:=⟨len+1,by omega,rfl⟩
    have EN:=Lib.hid en1
    have hnb:n1≤100000001:=by omega
    have hle:len'≤len:=by omega
    clear en1 hll
    go_enter Tryz.func182,Tryz.ntmps182
    go_wp2_with fail
    go_quiet (fail)
    go_wp2_with (at_make; refine wpList_make_ints _ rfl _ _ 50 rfl 202 i0 .u32 Tryz.underlying50 hi0 hz0 hz1 .i64 .i64 _ _ n1 n1 rfl rfl (by omega) (by omega) (Nat.le_refl _) (by rw [hz2]; omega) (by omega) ?_)
    have hbW:Below w.heap.size w (((((w.alloc (Obj.cells #[Value.slice ad len cap] 52)).alloc (Obj.cells #[Value.slice ad' len' cap'] 52)).alloc (Obj.cells #[Value.slice none 0 0] 52)).drewN nq).alloc (Obj.cells (ints IntKind.u32 (List.replicate n1 0)) 202)):=
      (bel_drewN (bel_alloc3 _ _ _ _) _).alloc (by simp; omega) _
    have hrW:(((((w.alloc (Obj.cells #[Value.slice ad len cap] 52)).alloc (Obj.cells #[Value.slice ad' len' cap'] 52)).alloc (Obj.cells #[Value.slice none 0 0] 52)).drewN nq).alloc (Obj.cells (ints IntKind.u32 (List.replicate n1 0)) 202)).heap[w.heap.size+1+1]?=some (.cells #[.slice none 0 0] 52 (0,0)):=nb42 w _ _ _ _
    have hkW:Blk (((((w.alloc (Obj.cells #[Value.slice ad len cap] 52)).alloc (Obj.cells #[Value.slice ad' len' cap'] 52)).alloc (Obj.cells #[Value.slice none 0 0] 52)).drewN nq).alloc (Obj.cells (ints IntKind.u32 (List.replicate n1 0)) 202)) (w.heap.size+1+1+1) 202 .u32 (List.replicate n1 0):=nb43 w _ _ _ _
    generalize (((((w.alloc (Obj.cells #[Value.slice ad len cap] 52)).alloc (Obj.cells #[Value.slice ad' len' cap'] 52)).alloc (Obj.cells #[Value.slice none 0 0] 52)).drewN nq).alloc (Obj.cells (ints IntKind.u32 (List.replicate n1 0)) 202))=W at *
    have hszW:=hkW.lt
    have HL:=Lib.hid (H.out.below hbW)
    have HS:=Lib.hid (H'.out.below hbW)
    have HBW:=Lib.hid hbW
    have HRW:=Lib.hid hrW
    have HKW:=Lib.hid hkW
    clear hbW hrW hkW H H'
    go_loopw [8,9,10,28] (fun c _ _ i wr=>∃ (k q:Nat) (os:List Nat),k≤len∧i=.int .i64 k∧c=.int .u64 q∧q≤1∧os.length=k∧Ok os∧val os+pw k * q=val (xs.take k)+val (ys.take k) ∧
        Blk wr (w.heap.size+1+1+1) 202 .u32 (splice (List.replicate n1 0) 0 os)∧Keep (·=w.heap.size+1+1+1) W wr) (fun _ _ _ i _=>len - (intOf i).toNat)
    case atStart=>exact ⟨0,0,[],Nat.zero_le _,rfl,rfl,by omega,rfl,Ok.nil,rfl,by rw [splice_nil]; exact HKW.out,Keep.refl _ _⟩
    case round=>
      obtain ⟨k,q,os,hk,rfl,rfl,hq,hol,hok,hv,hblk,hkeep⟩:=hrel
      have HOL:=Lib.hid hol
      have HV:=Lib.hid hv
      have hcell2:=hblk.cell (i:=k) (by rw [splice_length (by simp; have:=EN.out; omega)]; simp; have:=EN.out; omega)
      have hf:=hblk.free k
      have HBK:=Lib.hid hblk
      have HK:=Lib.hid hkeep
      have HSr:=Lib.hid (HS.out.keep HK.out (HD'.out))
      have HLr:=Lib.hid (HL.out.keep HK.out (HD.out))
      clear hol hv hblk hkeep
      by_cases hlt:k < len
      · obtain ⟨bx,offx,rfl,hcell,hblt⟩:=HLr.out.cell (i:=k) (by have:=HLX.out; omega)
        have hlim:lim xs k < 4294967296:=lim_lt ho _
        have hlim2:lim ys k < 4294967296:=lim_lt ho' _
        obtain ⟨t,ht,et⟩:∃ t:Nat,(q:Int)+(((lim xs k:Nat):Int)+((lim ys k:Nat):Int))=(t:Int)∧t=q+(lim xs k+lim ys k):=⟨_,by omega,rfl⟩
        have htb:t≤8589934591:=by omega
        obtain ⟨td,htd,etd⟩:∃ td:Nat,((t:Int) / 4294967296)=(td:Int)∧td=t / 4294967296:=⟨t / 4294967296,by omega,rfl⟩
        obtain ⟨tm,htm,etm⟩:∃ tm:Nat,((t:Int) % 4294967296)=(tm:Int)∧tm=t % 4294967296:=⟨t % 4294967296,by omega,rfl⟩
        have R:=step_add (xs:=xs) (ys:=ys) (off:=0) (ys0:=List.replicate n1 0) HOL.out hok HV.out HBK.out HK.out et etd etm (by simp; have:=EN.out; omega)
        rw [Nat.zero_add] at R
        have HR:=Lib.hid R
        have hkn:k < n1:=by omega
        clear R et etd etm
        go_wp2_with (go_at_call 210; refine (limbAt_any _ ys _ _ HSr.out (by omega)).mono ?_; rintro e w' ⟨rfl,rfl⟩; rw [Int.toNat_natCast])
        obtain ⟨r1,r2,r3,r4,r5,r6⟩:=HR.out
        exact ⟨⟨k+1,td,os++[tm],by omega,by go_num,rfl,r1,r2,r3,r4,r5,r6⟩,by simp [intOf]; omega⟩
      · obtain rfl:k=len:=by omega
        have hos:splice (List.replicate n1 0) 0 (os++[q])=os++[q]:=splice_zeros_all (by rw [List.length_append,HOL.out,EN.out]; rfl)
        have hb2:Blk (wr.setCell ⟨w.heap.size+1+1+1,k,none⟩ (.int .u32 (q:Nat))) (w.heap.size+1+1+1) 202 .u32 (os++[q]):=by
          have:=HBK.out.set (0+os.length) q
          rw [splice_set (by simp; have:=EN.out; have:=HOL.out; omega),hos,HOL.out,Nat.zero_add] at this
          exact this
        have hsl:=Sl.of_blk hb2
        rw [List.length_append,HOL.out,show k+[q].length=n1 from EN.out.symm] at hsl
        have hval:val (os++[q])=val xs+val ys:=by
          rw [val_snoc,HOL.out,HV.out,List.take_of_length_le (by have:=HLX.out; omega),List.take_of_length_le (by have:=HLY.out; omega)]
        have hoks:Ok (os++[q]):=hok.append (Ok.cons (by omega) Ok.nil)
        have hlen2:(os++[q]).length≤1000000000000:=by rw [List.length_append,HOL.out]; simp; omega
        have hk3:Keep (·=w.heap.size+1+1+1) W (wr.setCell ⟨w.heap.size+1+1+1,k,none⟩ (.int .u32 (q:Nat))):=HK.out.setCell rfl _
        have hr3:=(hk3.block (w.heap.size+1+1) (by omega) (by omega)).trans HRW.out
        have hb3:=HBW.out.trans (hk3.below (B:=w.heap.size) (by have:=HBW.out.size; omega) (fun k e=>by omega))
        have HV2:=Lib.hid hval
        have HSL:=Lib.hid hsl
        have HR3:=Lib.hid hr3
        have HB3:=Lib.hid hb3
        have hkn:k < n1:=by have:=EN.out; omega
        clear hval hsl hr3 hb3 hk3 hb2 hos
        go_wp2_with fail
        refine (wrap_any _ _ _ HSL.out hoks hlen2).mono ?_
        rintro e w2 ⟨v',rfl,hn2,hb2⟩
        obtain ⟨ad2,len2,cap2,rfl,hr2⟩:=hn2.shape
        have hk2:=(hb2.block (w.heap.size+1+1) (by have:=HSL.out.lt rfl; omega)).trans HR3.out
        have hc:=cell_of hk2 0
        have hf:=free_of hk2 0
        simp only [List.getElem?_toArray,List.getElem?_cons_zero] at hc
        have HR:=Lib.hid (fin_nat (bel_on HB3.out hb2) hk2 (by decide) hr2 (by omega) 0)
        clear hr2 hb2 hk2 hn2
        go_wp2
        refine bodyPost_ret (v:=.agg #[.slice ad2 len2 cap2]) (by simp [results,Tryz.results182,go_sem,World.cell?_setCell_same _ _ _ hc]) rfl ⟨_,rfl,?_⟩
        have:=HR.out
        rw [HV2.out] at this
        exact this
end Go.Proofs.YthffkbbcofbceaaGreatDoor

namespace Go.Proofs.YthffkbbcofbceaaGreatDoor
open Go.RowKit Cin
theorem step_mul {t0:TypeId} {w wr:World} {ys ps ps':List Nat} {b i k q x t td tm:Nat} (hlp:ps'.length=ps.length) (hok:Ok ps') (hv:val ps'+pw (i+k) * q=val ps+pw i * (x * val (ys.take k)))
    (hun:∀ j,i+k≤j→lim ps' j=lim ps j) (hblk:Blk wr b t0 .u32 ps') (hkeep:Keep (·=b) w wr)
    (et:t=q+(x * lim ys k+lim ps' (i+k))) (etd:td=t / 4294967296) (etm:tm=t % 4294967296) (hlt:i+k < ps.length)
    (hq:q < 4294967296) (hx:x < 4294967296) (hy:lim ys k < 4294967296) (hp:lim ps' (i+k) < 4294967296) :
    td < 4294967296∧(ps'.set (i+k) tm).length=ps.length∧Ok (ps'.set (i+k) tm)∧val (ps'.set (i+k) tm)+pw (i+(k+1)) * td=val ps+pw i * (x * val (ys.take (k+1))) ∧
      (∀ j,i+(k+1)≤j→lim (ps'.set (i+k) tm) j=lim ps j) ∧
      Blk (wr.setCell ⟨b,i+k,none⟩ (.int .u32 (tm:Nat))) b t0 .u32 (ps'.set (i+k) tm)∧Keep (·=b) w (wr.setCell ⟨b,i+k,none⟩ (.int .u32 (tm:Nat))):=by
  have hxy:x * lim ys k≤4294967295 * 4294967295:=Nat.mul_le_mul (by omega) (by omega)
  have htm:tm < 4294967296:=by omega
  refine ⟨by omega,by rw [List.length_set,hlp],hok.set _ _ htm,?_,?_,hblk.set _ _,hkeep.setCell rfl _⟩
  · have e0:=val_set (xs:=ps') (i:=i+k) (by omega) tm
    rw [val_take_step ys,← Nat.add_assoc,pw_succ]
    have e1:t=tm+4294967296 * td:=by omega
    have e2:pw (i+k) * t=pw (i+k) * tm+4294967296 * pw (i+k) * td:=by rw [e1,Nat.mul_add,Nat.mul_comm 4294967296 (pw (i+k)),Nat.mul_assoc]
    have e3:pw (i+k) * t=pw (i+k) * q+(pw (i+k) * (x * lim ys k)+pw (i+k) * lim ps' (i+k)):=by rw [et,Nat.mul_add,Nat.mul_add]
    have e4:pw i * (x * (val (ys.take k)+pw k * lim ys k))=pw i * (x * val (ys.take k))+pw (i+k) * (x * lim ys k):=by
      rw [Nat.mul_add,Nat.mul_add,pw_add]; congr 1; ac_rfl
    omega
  · intro j hj
    rw [lim_set_other (by omega)]; exact hun j (by omega)
theorem row_mul {xs ys ps ps':List Nat} {i m q:Nat} (hlp:ps'.length=ps.length) (hok:Ok ps') (hv0:val ps=val (xs.take i) * val ys) (hz:∀ j,i+m≤j→lim ps j=0)
    (hv:val ps'+pw (i+m) * q=val ps+pw i * (lim xs i * val (ys.take m))) (hun:∀ j,i+m≤j→lim ps' j=lim ps j) (hym:ys.length=m) (hlt:i+m < ps.length) (hq:q < 4294967296) :
    (ps'.set (i+m) q).length=ps.length∧Ok (ps'.set (i+m) q)∧val (ps'.set (i+m) q)=val (xs.take (i+1)) * val ys∧∀ j,i+1+m≤j→lim (ps'.set (i+m) q) j=0:=by
  refine ⟨by rw [List.length_set,hlp],hok.set _ _ hq,?_,fun j hj=>?_⟩
  · have e0:=val_set (xs:=ps') (i:=i+m) (by omega) q
    rw [hun _ (Nat.le_refl _),hz _ (Nat.le_refl _),Nat.mul_zero,Nat.add_zero] at e0
    rw [List.take_of_length_le (by omega)] at hv
    rw [e0,hv,hv0,val_take_step xs,Nat.add_mul,Nat.mul_assoc]
  · rw [lim_set_other (by omega),hun _ (by omega),hz _ (by omega)]
set_option maxRecDepth 100000 in
set_option maxHeartbeats 2000000 in
theorem mul_any (v u:Value) (x y:Nat) (L:Nat) (w:World) (h:NatV 202 w v x) (h':NatV 202 w u y) (hx:x < pw L) (hy:y < pw L) (hL:L≤100000000) :
    Calls Tryz.prog 138 #[v,u] w fun e w'=>∃ v',e=.returned v'∧NatV 202 w' v' (x * y)∧Below w.heap.size w w':=by
  obtain ⟨ad,n,cap,rfl,xs,hs,ho,hnm,rfl⟩:=h.shape
  obtain ⟨ad',m,cap',rfl,ys,hs',ho',hnm',rfl⟩:=h'.shape
  obtain ⟨i0,hi0,hz0,hz1,hz2⟩:=info_parts info_u32
  have hlx:=hs.len
  have hly:=hs'.len
  have hl:n≤100000000:=by have:=norm_len hnm hx; omega
  have hl':m≤100000000:=by have:=norm_len hnm' hy; omega
  obtain ⟨s,hsn,es⟩:∃ s:Nat,(n:Int)+(m:Int)=(s:Int)∧s=n+m:=⟨n+m,by omega,rfl⟩
  have ES:=Lib.hid es
  have hsb:s≤200000000:=by omega
  have H:=Lib.hid hs
  have H':=Lib.hid hs'
  have HLX:=Lib.hid hlx
  have HLY:=Lib.hid hly
  have HD:=Lib.hid (show ∀ b' o' n' c',Value.slice ad n cap=.slice (some ⟨b',o',none⟩) n' c'→¬ (b'=w.heap.size+1+1+1) from fun b' o' n' c' e=>by have:=hs.lt e; omega)
  have HD':=Lib.hid (show ∀ b' o' n' c',Value.slice ad' m cap'=.slice (some ⟨b',o',none⟩) n' c'→¬ (b'=w.heap.size+1+1+1) from fun b' o' n' c' e=>by have:=hs'.lt e; omega)
  clear hx hy h h' hs hs' hlx hly hnm hnm' es
  go_enter Tryz.func138,Tryz.ntmps138
  go_wp2_with (at_make; refine wpList_make_ints _ rfl _ _ 50 rfl 202 i0 .u32 Tryz.underlying50 hi0 hz0 hz1 .i64 .i64 _ _ s s rfl rfl (by omega) (by omega) (Nat.le_refl _) (by rw [hz2]; omega) (by omega) ?_)
  have hbW:=bel_alloc4 w (Obj.cells #[Value.slice ad n cap] 52) (Obj.cells #[Value.slice ad' m cap'] 52) (Obj.cells #[Value.slice none 0 0] 52) (Obj.cells (ints IntKind.u32 (List.replicate s 0)) 202)
  have hrW:=nb42 w (Obj.cells #[Value.slice ad n cap] 52) (Obj.cells #[Value.slice ad' m cap'] 52) (Obj.cells #[Value.slice none 0 0] 52) (Obj.cells (ints IntKind.u32 (List.replicate s 0)) 202)
  have hbb:=nb41 w (Obj.cells #[Value.slice ad n cap] 52) (Obj.cells #[Value.slice ad' m cap'] 52) (Obj.cells #[Value.slice none 0 0] 52) (Obj.cells (ints IntKind.u32 (List.replicate s 0)) 202)
  have hkW:Blk ((((w.alloc (Obj.cells #[Value.slice ad n cap] 52)).alloc (Obj.cells #[Value.slice ad' m cap'] 52)).alloc (Obj.cells #[Value.slice none 0 0] 52)).alloc (Obj.cells (ints IntKind.u32 (List.replicate s 0)) 202)) (w.heap.size+1+1+1) 202 .u32 (List.replicate s 0):=nb43 w _ _ _ _
  generalize ((((w.alloc (Obj.cells #[Value.slice ad n cap] 52)).alloc (Obj.cells #[Value.slice ad' m cap'] 52)).alloc (Obj.cells #[Value.slice none 0 0] 52)).alloc (Obj.cells (ints IntKind.u32 (List.replicate s 0)) 202))=W at *
  have hszW:=hkW.lt
  have HL:=Lib.hid (H.out.below hbW)
  have HS:=Lib.hid (H'.out.below hbW)
  have HBW:=Lib.hid hbW
  have HRW:=Lib.hid hrW
  have HBB:=Lib.hid hbb
  have HKW:=Lib.hid hkW
  clear hbW hrW hkW hbb H H'
  generalize hB3:w.heap.size+1+1+1=B3 at *
  have HB3:=Lib.hid hB3
  clear hB3
  go_loopw [6,7,8,9,10,11,23] (fun _ _ _ _ _ _ ix wr=>∃ (i:Nat) (ps:List Nat),i≤n∧ix=.int .i64 i∧ps.length=s∧Ok ps∧val ps=val (xs.take i) * val ys∧(∀ j,i+m≤j→lim ps j=0) ∧
      Blk wr B3 202 .u32 ps∧Keep (·=B3) W wr) (fun _ _ _ _ _ _ ix _=>n - (intOf ix).toNat)
  case atStart=>exact ⟨0,List.replicate s 0,Nat.zero_le _,rfl,by simp,Ok.replicate _,by rw [val_replicate,List.take_zero,val_nil,Nat.zero_mul],fun j _=>lim_replicate _ _,HKW.out,Keep.refl _ _⟩
  case round=>
    obtain ⟨i,ps,hi,rfl,hpl,hok,hv,hz,hblk,hkeep⟩:=hrel
    have HPL:=Lib.hid hpl
    have HV:=Lib.hid hv
    have HZ:=Lib.hid hz
    have HBK:=Lib.hid hblk
    have HK:=Lib.hid hkeep
    have hcb:=cell_of ((hkeep.block (w.heap.size+1) (by have:=HB3.out; omega) (by have:=HB3.out; omega)).trans HBB.out) 0
    simp only [List.getElem?_toArray,List.getElem?_cons_zero] at hcb
    clear hpl hv hz hblk hkeep
    by_cases hlt:i < n
    · obtain ⟨bx,offx,rfl,hcell,hblt⟩:=(HL.out.keep HK.out HD.out).cell (i:=i) (by have:=HLX.out; omega)
      have hlim:lim xs i < 4294967296:=lim_lt ho _
      have hsi:¬ (s=i):=by have:=ES.out; omega
      have his:i≤s:=by have:=ES.out; omega
      go_wp2_with fail
      go_loopw [9,10,11,34] (fun c _ _ kx wq=>∃ (k q:Nat) (ps':List Nat),k≤m∧kx=.int .i64 k∧c=.int .u64 q∧q < 4294967296∧ps'.length=ps.length∧Ok ps'∧val ps'+pw (i+k) * q=val ps+pw i * (lim xs i * val (ys.take k)) ∧
          (∀ j,i+k≤j→lim ps' j=lim ps j)∧Blk wq B3 202 .u32 ps'∧Keep (·=B3) W wq) (fun _ _ _ kx _=>m - (intOf kx).toNat)
      case atStart=>exact ⟨0,0,ps,Nat.zero_le _,rfl,rfl,by decide,rfl,hok,by rw [Nat.mul_zero,Nat.add_zero,List.take_zero,val_nil,Nat.mul_zero,Nat.mul_zero,Nat.add_zero],fun _ _=>rfl,HBK.out,HK.out⟩
      case round=>
        obtain ⟨k,q,ps',hk,rfl,rfl,hq,hpl',hok',hv',hun,hblk',hkeep'⟩:=hrel
        have hik:i+k < s:=by have:=ES.out; omega
        have hcell2:=hblk'.cell (i:=i+k) (by rw [hpl',HPL.out]; exact hik)
        have hf:=hblk'.free (i+k)
        have hp:=lim_lt hok' (i+k)
        have HPL':=Lib.hid hpl'
        have HV':=Lib.hid hv'
        have HUN:=Lib.hid hun
        have HBK':=Lib.hid hblk'
        have HK':=Lib.hid hkeep'
        have hcb':=cell_of ((hkeep'.block (w.heap.size+1) (by have:=HB3.out; omega) (by have:=HB3.out; omega)).trans HBB.out) 0
        simp only [List.getElem?_toArray,List.getElem?_cons_zero] at hcb'
        clear hpl' hv' hun hblk' hkeep'
        by_cases hklt:k < m
        · obtain ⟨by_,offy,rfl,hcelly,hblty⟩:=(HS.out.keep HK'.out HD'.out).cell (i:=k) (by have:=HLY.out; omega)
          have hlimy:lim ys k < 4294967296:=lim_lt ho' _
          have hxy:lim xs i * lim ys k≤4294967295 * 4294967295:=Nat.mul_le_mul (by omega) (by omega)
          obtain ⟨p,hpw,ep⟩:∃ p:Nat,IntKind.u64.wrap (((lim xs i:Nat):Int) * ((lim ys k:Nat):Int))=(p:Int)∧p=lim xs i * lim ys k:=⟨lim xs i * lim ys k,by
            rw [IntKind.wrap_u64,show (((lim xs i:Nat):Int) * ((lim ys k:Nat):Int))=((lim xs i * lim ys k:Nat):Int) by simp]; omega,rfl⟩
          rw [← ep] at hxy
          obtain ⟨t1,ht1,et1⟩:∃ t1:Nat,IntKind.u64.wrap ((p:Int)+((lim ps' (i+k):Nat):Int))=(t1:Int)∧t1=p+lim ps' (i+k):=⟨_,by rw [IntKind.wrap_u64]; omega,rfl⟩
          obtain ⟨t,ht,et⟩:∃ t:Nat,IntKind.u64.wrap ((q:Int)+(t1:Int))=(t:Int)∧t=q+t1:=⟨_,by rw [IntKind.wrap_u64]; omega,rfl⟩
          have htb:t < 18446744073709551616:=by omega
          rw [et1,ep] at et
          obtain ⟨td,htd,etd⟩:∃ td:Nat,((t:Int) / 4294967296)=(td:Int)∧td=t / 4294967296:=⟨t / 4294967296,by omega,rfl⟩
          obtain ⟨tm,htm,etm⟩:∃ tm:Nat,((t:Int) % 4294967296)=(tm:Int)∧tm=t % 4294967296:=⟨t % 4294967296,by omega,rfl⟩
          have R:=step_mul (ys:=ys) HPL'.out hok' HV'.out HUN.out HBK'.out HK'.out et etd etm (by rw [HPL.out]; exact hik) hq hlim hlimy hp
          have HR:=Lib.hid R
          have hksi:k < s - i:=by omega
          have HTB:=Lib.hid htb
          clear R et etd etm hxy ep et1 htb
          go_wp2_with fail
          obtain ⟨r1,r2,r3,r4,r5,r6,r7⟩:=HR.out
          exact ⟨⟨k+1,td,ps'.set (i+k) tm,by omega,by go_num,rfl,r1,r2,r3,r4,r5,r6,r7⟩,by simp [intOf]; omega⟩
        · obtain rfl:k=m:=by omega
          have R:=row_mul (xs:=xs) (ys:=ys) HPL'.out hok' HV.out HZ.out HV'.out HUN.out HLY.out (by rw [HPL.out]; exact hik) hq
          have HR:=Lib.hid R
          have hksi:k < s - i:=by omega
          have HB4:=Lib.hid (HBK'.out.set (i+k) q)
          have HK4:=Lib.hid (show Keep (·=B3) W (wr.setCell ⟨B3,i+k,none⟩ (.int .u32 (q:Nat))) from HK'.out.setCell rfl _)
          clear R
          go_wp2_with fail
          obtain ⟨r1,r2,r3,r4⟩:=HR.out
          exact ⟨⟨i+1,ps'.set (i+k) q,by omega,by go_num,by rw [r1,HPL.out],r2,r3,r4,HB4.out,HK4.out⟩,by simp [intOf]; omega⟩
    · obtain rfl:i=n:=by omega
      have hval:val ps=val xs * val ys:=by rw [HV.out,List.take_of_length_le (by have:=HLX.out; omega)]
      have hsl:=Sl.of_blk HBK.out
      rw [HPL.out] at hsl
      have hr3:=(HK.out.block (w.heap.size+1+1) (by have:=HB3.out; omega) (by have:=HB3.out; omega)).trans HRW.out
      have hb3:=HBW.out.trans (HK.out.below (B:=w.heap.size) (by have:=HB3.out; omega) (fun k e=>by have:=HB3.out; omega))
      have hlen2:ps.length≤1000000000000:=by rw [HPL.out]; omega
      have HV2:=Lib.hid hval
      have HSL:=Lib.hid hsl
      have HR3:=Lib.hid hr3
      have HB5:=Lib.hid hb3
      clear hval hsl hr3 hb3
      go_wp2_with fail
      refine (wrap_any _ _ _ HSL.out hok hlen2).mono ?_
      rintro e w2 ⟨v',rfl,hn2,hb2⟩
      obtain ⟨ad2,len2,cap2,rfl,hr2⟩:=hn2.shape
      have hk2:=(hb2.block (w.heap.size+1+1) (by have:=HSL.out.lt rfl; have:=HB3.out; omega)).trans HR3.out
      have hc:=cell_of hk2 0
      have hf:=free_of hk2 0
      simp only [List.getElem?_toArray,List.getElem?_cons_zero] at hc
      have HR:=Lib.hid (fin_nat (bel_on HB5.out hb2) hk2 (by decide) hr2 (by omega) 0)
      clear hr2 hb2 hk2 hn2
      go_wp2
      refine bodyPost_ret (v:=.agg #[.slice ad2 len2 cap2]) (by simp [results,Tryz.results138,go_sem,World.cell?_setCell_same _ _ _ hc]) rfl ⟨_,rfl,?_⟩
      have:=HR.out
      rw [HV2.out] at this
      exact this
end Go.Proofs.YthffkbbcofbceaaGreatDoor

namespace Go.Proofs.YthffkbbcofbceaaGreatDoor
open Go.RowKit Cin
theorem step_sub {t0:TypeId} {w wr:World} {xs ys os ys0:List Nat} {b k q td tm:Nat} {t:Int} (hol:os.length=k) (hok:Ok os) (hv:val (xs.take k)+pw k * q=val os+val (ys.take k))
    (hblk:Blk wr b t0 .u32 (splice ys0 0 os)) (hkeep:Keep (·=b) w wr) (et:t=-(q:Int)+((lim xs k:Int) - (lim ys k:Int))) (etd:t / 4294967296=-(td:Int)) (etm:t % 4294967296=(tm:Int)) (hlt:k < ys0.length)
    (hq:q≤1) (hx:lim xs k < 4294967296) (hy:lim ys k < 4294967296) :
    td≤1∧(os++[tm]).length=k+1∧Ok (os++[tm])∧val (xs.take (k+1))+pw (k+1) * td=val (os++[tm])+val (ys.take (k+1)) ∧
      Blk (wr.setCell ⟨b,k,none⟩ (.int .u32 (tm:Nat))) b t0 .u32 (splice ys0 0 (os++[tm]))∧Keep (·=b) w (wr.setCell ⟨b,k,none⟩ (.int .u32 (tm:Nat))):=by
  have htm:tm < 4294967296:=by omega
  refine ⟨by omega,by rw [List.length_append,hol]; rfl,hok.append (Ok.cons htm Ok.nil),?_,?_,hkeep.setCell rfl _⟩
  · rw [val_snoc,hol,val_take_step xs,val_take_step ys,pw_succ]
    have e1:lim xs k+4294967296 * td=tm+lim ys k+q:=by omega
    have e2:pw k * lim xs k+4294967296 * pw k * td=pw k * tm+pw k * lim ys k+pw k * q:=by
      have:=congrArg (pw k * ·) e1
      simp only [Nat.mul_add] at this
      rw [← this,Nat.mul_comm 4294967296 (pw k),Nat.mul_assoc]
    omega
  · have:=hblk.set (0+k) tm
    rw [← hol,splice_set (by omega),hol,Nat.zero_add] at this
    exact this
theorem end_sub {xs ys os:List Nat} {n q:Nat} (hol:os.length=n) (hok:Ok os) (hv:val (xs.take n)+pw n * q=val os+val (ys.take n)) (hx:xs.length=n) (hy:ys.length≤n) (hle:val ys≤val xs):val os=val xs - val ys:=by
  rw [List.take_of_length_le (by omega),List.take_of_length_le hy] at hv
  have h1:=val_lt hok
  rw [hol] at h1
  rcases Nat.eq_zero_or_pos q with h0 | h0
  · subst h0; omega
  · have:pw n * 1≤pw n * q:=Nat.mul_le_mul_left _ h0
    omega
set_option maxRecDepth 100000 in
set_option maxHeartbeats 2000000 in
theorem sub_less (v u:Value) (x y:Nat) (L:Nat) (w:World) (h:NatV 202 w v x) (h':NatV 202 w u y) (hx:x < pw L) (hy:y < pw L) (hL:L≤100000000) (hlt:x < y) :
    Calls Tryz.prog 183 #[v,u] w fun e w'=>e=.returned (.tuple #[.agg #[.slice none 0 0],.bool false])∧Below w.heap.size w w':=by
  have hn:=h
  have hn':=h'
  obtain ⟨ad,n,cap,rfl,_⟩:=h.shape
  obtain ⟨ad',m,cap',rfl,_⟩:=h'.shape
  have HN:=Lib.hid hn
  have HN':=Lib.hid hn'
  have HX:=Lib.hid hx
  have HY:=Lib.hid hy
  have HC:=Lib.hid (show cmpI x y=-1 by unfold cmpI; rw [if_pos hlt])
  clear h h' hn hn' hx hy hlt
  go_enter Tryz.func183,Tryz.ntmps183
  go_wp2_with fail
  refine (cmp_any _ _ x y L _ (HN.out.below (bel_alloc3 _ _ _ _)) (HN'.out.below (bel_alloc3 _ _ _ _)) HX.out HY.out hL).mono ?_
  rintro e w1 ⟨rfl,hb⟩
  rw [HC.out]
  have hk:=(hb.block (w.heap.size+1+1) (by simp)).trans (nb32 _ _ _ _)
  have hc:=cell_of hk 0
  have hf:=free_of hk 0
  simp only [List.getElem?_toArray,List.getElem?_cons_zero] at hc
  have HB:=Lib.hid ((bel_on (bel_alloc3 _ _ _ _) hb).setCell (p:=⟨w.heap.size+1+1,0,none⟩) (by show w.heap.size≤w.heap.size+1+1; omega) (.slice none 0 0))
  clear hb hk
  go_wp2
  refine bodyPost_ret (v:=.tuple #[.agg #[.slice none 0 0],.bool false]) (by simp [results,Tryz.results183,go_sem,World.cell?_setCell_same _ _ _ hc]) rfl ⟨rfl,HB.out⟩
set_option maxRecDepth 100000 in
set_option maxHeartbeats 2000000 in
theorem sub_any (v u:Value) (x y:Nat) (L:Nat) (w:World) (h:NatV 202 w v x) (h':NatV 202 w u y) (hx:x < pw L) (hy:y < pw L) (hL:L≤100000000) (hle:y≤x) :
    Calls Tryz.prog 183 #[v,u] w fun e w'=>∃ v',e=.returned (.tuple #[v',.bool true])∧NatV 202 w' v' (x - y)∧Below w.heap.size w w':=by
  have hn:=h
  have hn':=h'
  obtain ⟨ad,n,cap,rfl,xs,hs,ho,hnm,rfl⟩:=h.shape
  obtain ⟨ad',m,cap',rfl,ys,hs',ho',hnm',rfl⟩:=h'.shape
  obtain ⟨i0,hi0,hz0,hz1,hz2⟩:=info_parts info_u32
  have hlx:=hs.len
  have hly:=hs'.len
  have hmn:m≤n:=by have:=len_of_val_le hnm' ho hle; omega
  have hl:n≤100000000:=by have:=norm_len hnm hx; omega
  have HN:=Lib.hid hn
  have HN':=Lib.hid hn'
  have HX:=Lib.hid hx
  have HY:=Lib.hid hy
  have HLE:=Lib.hid hle
  have HC:=Lib.hid (show cmpI (val xs) (val ys)=0∨cmpI (val xs) (val ys)=1 by unfold cmpI; rw [if_neg (by omega)]; split; exact .inr rfl; exact .inl rfl)
  have H:=Lib.hid hs
  have H':=Lib.hid hs'
  have HLX:=Lib.hid hlx
  have HLY:=Lib.hid hly
  clear hx hy h h' hn hn' hs hs' hlx hly hnm hnm' hle
  go_enter Tryz.func183,Tryz.ntmps183
  go_wp2_with fail
  refine (cmp_any _ _ (val xs) (val ys) L _ (HN.out.below (bel_alloc3 _ _ _ _)) (HN'.out.below (bel_alloc3 _ _ _ _)) HX.out HY.out hL).mono ?_
  rintro e w1 ⟨rfl,hb⟩
  obtain ⟨c,hc0,hcc⟩:∃ c:Int,0≤c∧cmpI (val xs) (val ys)=c:=by rcases HC.out with e | e <;> exact ⟨_,by rw [e]; decide,rfl⟩
  rw [hcc]
  have hr1:=(hb.block (w.heap.size+1+1) (by simp)).trans (nb32 _ _ _ _)
  have hra:=(hb.block (w.heap.size) (by simp; omega)).trans (new_block3 _ _ _ _)
  have hrb:=(hb.block (w.heap.size+1) (by simp)).trans (nb31 _ _ _ _)
  have hbw:=bel_on (bel_alloc3 _ _ _ _) hb
  have hsz:w.heap.size+1+1+1≤w1.heap.size:=by have:=hb.size; simpa using this
  have hca:=cell_of hra 0
  simp only [List.getElem?_toArray,List.getElem?_cons_zero] at hca
  have hca2:(w1.alloc (Obj.cells (ints IntKind.u32 (List.replicate n 0)) 202)).cell? ⟨w.heap.size,0,none⟩=some (.slice ad n cap):=by rw [(bel_alloc w1 _).cell (by show w.heap.size < _; omega)]; exact hca
  have hcd:decide (c < 0)=false:=by rw [decide_eq_false_iff_not]; omega
  have HCC:=Lib.hid hcc
  have HR1:=Lib.hid hr1
  have HRB:=Lib.hid hrb
  have HBW:=Lib.hid hbw
  clear hcc hr1 hra hrb hbw hb
  go_wp2_with (at_make; refine wpList_make_ints _ rfl _ _ 50 rfl 202 i0 .u32 Tryz.underlying50 hi0 hz0 hz1 .i64 .i64 _ _ n n rfl rfl (by omega) (by omega) (Nat.le_refl _) (by rw [hz2]; omega) (by omega) ?_)
  have hbX:=bel_on HBW.out (bel_alloc w1 (Obj.cells (ints IntKind.u32 (List.replicate n 0)) 202))
  have hrX:=((bel_alloc w1 (Obj.cells (ints IntKind.u32 (List.replicate n 0)) 202)).block (w.heap.size+1+1) (by omega)).trans HR1.out
  have hbbX:=((bel_alloc w1 (Obj.cells (ints IntKind.u32 (List.replicate n 0)) 202)).block (w.heap.size+1) (by omega)).trans HRB.out
  have hkX:Blk (w1.alloc (Obj.cells (ints IntKind.u32 (List.replicate n 0)) 202)) w1.heap.size 202 .u32 (List.replicate n 0):=Blk.new _ _ _ _
  have HD:=Lib.hid (show ∀ b' o' n' c',Value.slice ad n cap=.slice (some ⟨b',o',none⟩) n' c'→¬ (b'=w1.heap.size) from fun b' o' n' c' e=>by have:=H.out.lt e; omega)
  have HD':=Lib.hid (show ∀ b' o' n' c',Value.slice ad' m cap'=.slice (some ⟨b',o',none⟩) n' c'→¬ (b'=w1.heap.size) from fun b' o' n' c' e=>by have:=H'.out.lt e; omega)
  generalize w1.alloc (Obj.cells (ints IntKind.u32 (List.replicate n 0)) 202)=X at *
  have hszX:=hkX.lt
  generalize w1.heap.size=B at *
  have HL:=Lib.hid (H.out.below hbX)
  have HS:=Lib.hid (H'.out.below hbX)
  have HBX:=Lib.hid hbX
  have HRX:=Lib.hid hrX
  have HBBX:=Lib.hid hbbX
  have HKX:=Lib.hid hkX
  clear hbX hrX hbbX hkX H H' HR1 HRB HBW hca hca2
  go_loopw [7,8,9,22] (fun c _ _ i wr=>∃ (k q:Nat) (os:List Nat),k≤n∧i=.int .i64 k∧c=.int .i64 (-(q:Int))∧q≤1∧os.length=k∧Ok os∧val (xs.take k)+pw k * q=val os+val (ys.take k) ∧
      Blk wr B 202 .u32 (splice (List.replicate n 0) 0 os)∧Keep (·=B) X wr) (fun _ _ _ i _=>n - (intOf i).toNat)
  case atStart=>exact ⟨0,0,[],Nat.zero_le _,rfl,rfl,by omega,rfl,Ok.nil,rfl,by rw [splice_nil]; exact HKX.out,Keep.refl _ _⟩
  case round=>
    obtain ⟨k,q,os,hk,rfl,rfl,hq,hol,hok,hv,hblk,hkeep⟩:=hrel
    have HOL:=Lib.hid hol
    have HV:=Lib.hid hv
    have HBK:=Lib.hid hblk
    have HK:=Lib.hid hkeep
    have hcb:=cell_of ((hkeep.block (w.heap.size+1) (by omega) (by omega)).trans HBBX.out) 0
    simp only [List.getElem?_toArray,List.getElem?_cons_zero] at hcb
    by_cases hlt:k < n
    · have hcell2:=hblk.cell (i:=k) (by rw [splice_length (by simp; omega)]; simp; omega)
      have hf:=hblk.free k
      obtain ⟨bx,offx,rfl,hcell,hblt⟩:=(HL.out.keep HK.out HD.out).cell (i:=k) (by have:=HLX.out; omega)
      have HSr:=Lib.hid (HS.out.keep HK.out HD'.out)
      have hlim:lim xs k < 4294967296:=lim_lt ho _
      have hlim2:lim ys k < 4294967296:=lim_lt ho' _
      obtain ⟨t,ht,et⟩:∃ t:Int,-(q:Int)+(((lim xs k:Nat):Int) - ((lim ys k:Nat):Int))=t∧t=-(q:Int)+(((lim xs k:Nat):Int) - ((lim ys k:Nat):Int)):=⟨_,rfl,rfl⟩
      have htb:-4294967296≤t∧t < 4294967296:=by omega
      obtain ⟨htb1,htb2⟩:=htb
      obtain ⟨td,htd⟩:∃ td:Nat,(t / 4294967296)=-(td:Int):=⟨(-(t / 4294967296)).toNat,by omega⟩
      obtain ⟨tm,htm⟩:∃ tm:Nat,(t % 4294967296)=(tm:Int):=⟨(t % 4294967296).toNat,by omega⟩
      have R:=step_sub (xs:=xs) (ys:=ys) (ys0:=List.replicate n 0) HOL.out hok HV.out HBK.out HK.out et htd htm (by simp; omega) hq hlim hlim2
      have HR:=Lib.hid R
      clear R et hblk hkeep hol hv
      go_wp2_with (go_at_call 210; refine (limbAt_any _ ys _ _ HSr.out (by omega)).mono ?_; rintro e w' ⟨rfl,rfl⟩; rw [Int.toNat_natCast])
      obtain ⟨r1,r2,r3,r4,r5,r6⟩:=HR.out
      exact ⟨⟨k+1,td,os++[tm],by omega,by go_num,rfl,r1,r2,r3,r4,r5,r6⟩,by simp [intOf]; omega⟩
    · obtain rfl:k=n:=by omega
      have hval:=end_sub HOL.out hok HV.out HLX.out (by have:=HLY.out; omega) HLE.out
      rw [splice_zeros_all HOL.out] at hblk
      have hsl:=Sl.of_blk hblk
      rw [HOL.out] at hsl
      have hr3:=(HK.out.block (w.heap.size+1+1) (by omega) (by omega)).trans HRX.out
      have hb3:=HBX.out.trans (HK.out.below (B:=w.heap.size) (by omega) (fun k e=>by omega))
      have hlen2:os.length≤1000000000000:=by rw [HOL.out]; omega
      have HV2:=Lib.hid hval
      have HSL:=Lib.hid hsl
      have HR3:=Lib.hid hr3
      have HB5:=Lib.hid hb3
      clear hval hsl hr3 hb3 hblk hkeep hol hv
      go_wp2_with fail
      refine (wrap_any _ _ _ HSL.out hok hlen2).mono ?_
      rintro e w2 ⟨v',rfl,hn2,hb2⟩
      obtain ⟨ad2,len2,cap2,rfl,hr2⟩:=hn2.shape
      have hk2:=(hb2.block (w.heap.size+1+1) (by have:=HSL.out.lt rfl; omega)).trans HR3.out
      have hc:=cell_of hk2 0
      have hf:=free_of hk2 0
      simp only [List.getElem?_toArray,List.getElem?_cons_zero] at hc
      have HR:=Lib.hid (fin_nat (bel_on HB5.out hb2) hk2 (by decide) hr2 (by omega) 0)
      clear hr2 hb2 hk2 hn2
      go_wp2
      refine bodyPost_ret (v:=.tuple #[.agg #[.slice ad2 len2 cap2],.bool true]) (by simp [results,Tryz.results183,go_sem,World.cell?_setCell_same _ _ _ hc]) rfl ⟨_,rfl,?_⟩
      have:=HR.out
      rw [HV2.out] at this
      exact this
end Go.Proofs.YthffkbbcofbceaaGreatDoor

namespace Go.Proofs.YthffkbbcofbceaaGreatDoor
open Go.RowKit Cin
set_option maxHeartbeats 400000 in
theorem isZero_any (v:Value) (n k:Nat) (w:World) (h:NatB 202 w v n k) (hk:k≤10000000) :
    Calls Tryz.prog 148 #[v] w fun e w'=>e=.returned (.bool (decide (n=0)))∧Below w.heap.size w w':=by
  obtain ⟨ad,len,cap,rfl,hr⟩:=h.shape
  have H:=Lib.hid h
  clear h hr
  go_enter Tryz.func148,Tryz.ntmps148
  go_wp2_with fail
  refine (bits_any _ n k _ (H.out.1.below (bel_alloc _ _)) H.out.2 (by omega)).mono ?_
  rintro e w1 ⟨j,rfl,hj,hb⟩
  have he:((j:Int) == 0)=decide (n=0):=by
    by_cases h0:n=0
    · subst h0
      rw [hj.unique IsBl.zero]; rfl
    · rw [decide_eq_false h0,beq_eq_false_iff_ne]
      intro e
      have:=hj.1
      rw [show j=0 by omega] at this
      omega
  have HB:=Lib.hid (bel_on (bel_alloc _ _) hb)
  clear hb hj
  go_wp2
  go_ret
  exact ⟨rfl,HB.out⟩
theorem addB (v u:Value) (x y a b:Nat) (w:World) (h:NatB 202 w v x a) (h':NatB 202 w u y b) (ha:a≤10000000) (hb:b≤10000000) :
    Calls Tryz.prog 182 #[v,u] w fun e w'=>∃ v',e=.returned v'∧NatB 202 w' v' (x+y) (a+b+1)∧Below w.heap.size w w':=
  (add_any v u x y (a+b) w h.1 h'.1 (lt_pw_mono h.2 (by omega)) (lt_pw_mono h'.2 (by omega)) (by omega)).mono fun _ _ ⟨v',e,hn,hw⟩=>⟨v',e,⟨hn,by have:=pw_big a b; have:=h.2; have:=h'.2; omega⟩,hw⟩
theorem mulB (v u:Value) (x y a b:Nat) (w:World) (h:NatB 202 w v x a) (h':NatB 202 w u y b) (ha:a≤10000000) (hb:b≤10000000) :
    Calls Tryz.prog 138 #[v,u] w fun e w'=>∃ v',e=.returned v'∧NatB 202 w' v' (x * y) (a+b)∧Below w.heap.size w w':=
  (mul_any v u x y (a+b) w h.1 h'.1 (lt_pw_mono h.2 (by omega)) (lt_pw_mono h'.2 (by omega)) (by omega)).mono fun _ _ ⟨v',e,hn,hw⟩=>⟨v',e,⟨hn,lt_pw_mul h.2 h'.2⟩,hw⟩
theorem subB (v u:Value) (x y a b:Nat) (w:World) (h:NatB 202 w v x a) (h':NatB 202 w u y b) (ha:a≤10000000) (hb:b≤10000000) (hle:y≤x) :
    Calls Tryz.prog 183 #[v,u] w fun e w'=>∃ v',e=.returned (.tuple #[v',.bool true])∧NatB 202 w' v' (x - y) a∧Below w.heap.size w w':=
  (sub_any v u x y (a+b) w h.1 h'.1 (lt_pw_mono h.2 (by omega)) (lt_pw_mono h'.2 (by omega)) (by omega) hle).mono fun _ _ ⟨v',e,hn,hw⟩=>⟨v',e,⟨hn,by have:=h.2; omega⟩,hw⟩
theorem subLessB (v u:Value) (x y a b:Nat) (w:World) (h:NatB 202 w v x a) (h':NatB 202 w u y b) (ha:a≤10000000) (hb:b≤10000000) (hlt:x < y) :
    Calls Tryz.prog 183 #[v,u] w fun e w'=>e=.returned (.tuple #[.agg #[.slice none 0 0],.bool false])∧Below w.heap.size w w':=
  sub_less v u x y (a+b) w h.1 h'.1 (lt_pw_mono h.2 (by omega)) (lt_pw_mono h'.2 (by omega)) (by omega) hlt
theorem cmpB (v u:Value) (x y a b:Nat) (w:World) (h:NatB 202 w v x a) (h':NatB 202 w u y b) (ha:a≤10000000) (hb:b≤10000000) :
    Calls Tryz.prog 136 #[v,u] w fun e w'=>e=.returned (.int .i64 (cmpI x y))∧Below w.heap.size w w':=
  cmp_any v u x y (a+b) w h.1 h'.1 (lt_pw_mono h.2 (by omega)) (lt_pw_mono h'.2 (by omega)) (by omega)
theorem ofB (v:Nat) (w:World) (hv:v < 18446744073709551616) :
    Calls Tryz.prog 144 #[.int .u64 v] w fun e w'=>∃ v',e=.returned v'∧NatB 202 w' v' v 2∧Below w.heap.size w w':=
  (of_any v w hv).mono fun _ _ ⟨v',e,hn,hw⟩=>⟨v',e,⟨hn,hv⟩,hw⟩
set_option maxHeartbeats 400000 in
theorem fresh_any (v:Value) (n k:Nat) (w:World) (h:NatB 202 w v n k) (hk:k≤10000000) :
    Calls Tryz.prog 163 #[v] w fun e w'=>∃ v',e=.returned v'∧NatB 202 w' v' n k∧Below w.heap.size w w':=by
  obtain ⟨ad,len,cap,rfl,hr⟩:=h.shape
  have H:=Lib.hid h
  clear h hr
  go_enter Tryz.func163,Tryz.ntmps163
  go_wp2_with fail
  refine (addB _ _ n 0 k 0 _ (H.out.below (bel_alloc2 _ _ _)) ⟨NatV.zero _ _,by decide⟩ hk (by decide)).mono ?_
  rintro e w1 ⟨v1,rfl,hn,hb⟩
  obtain ⟨ad1,len1,cap1,rfl,hr⟩:=hn.shape
  have hh:=(heldN2 (w:=w)).below hb
  have hc:=cell0 hh.2.1
  have hf:=free_of hh.2.1 0
  have HR:=Lib.hid (fin_nat (tn:=52) (bel_on (bel_alloc2 _ _ _) hb) hh.2.1 (by decide) hr (by omega) 0)
  clear hb hn hr hh
  go_wp2
  refine bodyPost_ret (v:=.agg #[.slice ad1 len1 cap1]) (by simp [results,Tryz.results163,go_sem,World.cell?_setCell_same _ _ _ hc]) rfl ⟨_,rfl,?_⟩
  exact ⟨⟨HR.out.1,H.out.2⟩,HR.out.2⟩
set_option maxRecDepth 100000 in
set_option maxHeartbeats 800000 in
theorem signed_any (b:Bool) (v:Value) (n k:Nat) (w:World) (h:NatB 202 w v n k) (hk:k≤10000000) :
    Calls Tryz.prog 137 #[.bool b,v] w fun e w'=>∃ v',e=.returned v'∧IntB 202 w' v' (sg b n) k∧Below w.heap.size w w':=by
  obtain ⟨ad,len,cap,rfl,hr⟩:=h.shape
  have H:=Lib.hid h
  clear h hr
  go_enter Tryz.func137,Tryz.ntmps137
  go_wp2_with fail
  have hh:=heldN2 (w:=w) (c0:=#[Value.slice ad len cap]) (t0:=52) (c1:=#[Value.bool false,Value.slice none 0 0]) (t1:=54)
  have hbX:=bel_alloc2 w (Obj.cells #[Value.slice ad len cap] 52) (Obj.cells #[Value.bool false,Value.slice none 0 0] 54)
  have hsX:w.heap.size+1 < ((w.alloc (Obj.cells #[Value.slice ad len cap] 52)).alloc (Obj.cells #[Value.bool false,Value.slice none 0 0] 54)).heap.size:=by simp
  generalize (w.alloc (Obj.cells #[Value.slice ad len cap] 52)).alloc (Obj.cells #[Value.bool false,Value.slice none 0 0] 54)=X at *
  have hc0:=cell0 hh.1
  have HSL:=Lib.hid (Slot.of (n:=2) hh.2.1 rfl)
  have HX:=Lib.hid (H.out.below hbX)
  have HBX:=Lib.hid hbX
  clear hh hbX
  have HR0:=Lib.hid (show RefV 202 w (.slice ad len cap) n from by obtain ⟨s,e,hs⟩:=H.out.1; injection e with e; injection e with e; simp only [List.cons.injEq,and_true] at e; rw [e]; exact hs)
  cases b
  ·
    refine wp_region_sched (fun w'=>w'.cell? ⟨w.heap.size,0,none⟩=some (.slice ad len cap)∧Slot w' (w.heap.size+1) 54 2∧Below w.heap.size w w') [(0,true),(1,true),(2,true),(6,true),(3,false),(4,true),(5,true),(7,true),(8,false)] (by kernel_rfl) (by kernel_rfl) ?_ (fun hHeld=>?_)
    · (try dsimp only)
      exact ⟨hc0,HSL.out.drew,HBX.out.drew⟩
    try dsimp only at hHeld
    repeat (refine wpSched_at (by simp only [List.getElem?_toArray,List.getElem?_cons_zero,List.getElem?_cons_succ]; rfl) ?_; (first | (apply wpAt_take rfl; (intro wx hSx; (try dsimp only at hSx); go_simp; (try with_reducible rfl)); simp only [Act.put,List.setIfInBounds_toArray,List.set_cons_zero,List.set_cons_succ]) | (refine wpAt_skip rfl ?_; simp only [Act.put,List.setIfInBounds_toArray,List.set_cons_zero,List.set_cons_succ]) | (refine wpAt_pass rfl hHeld ?_; simp only [Act.put,List.setIfInBounds_toArray,List.set_cons_zero,List.set_cons_succ]) | (refine wpAt_eff rfl (fun K hK=>?_); ((obtain ⟨x0,y0,hx0,hy0,hfx0,hfy0⟩:=hHeld.2.1.two); (try simp only [cell_drew,frozen_drew] at hx0 hy0 hfx0 hfy0)); go_simp; (first | (try simp only [cell_drew,slot_drew,below_drew] at hHeld)); (refine hK.out _ _ ?_ (fun hHeld=>?_)); ((try dsimp only); ((try simp only [cell_drew,slot_drew,below_drew]); refine ⟨?_,?_,?_⟩; (first | exact hS.2.1 | with_reducible exact cell_set hHeld.1 (by omega) | with_reducible exact cell_set (cell_set hHeld.1 (by omega)) (by omega)); (first | exact hS.2.2.1 | with_reducible exact hHeld.2.1.set _ _ _ | with_reducible exact (hHeld.2.1.set _ _ _).set _ _ _); (first | exact hS.2.2.2 | with_reducible exact bel_set1 hHeld.2.2 (by omega) | with_reducible exact bel_set2 hHeld.2.2 (by omega) (by omega)))); clear hK K; (try clear hS); (try clear hfx0 hx0 x0); (try clear hfy0 hy0 y0); (try clear hfx1 hx1 x1); (try clear hfy1 hy1 y1); (try dsimp only at hHeld))))
    refine wpSched_nil ?_
    go_wp2_with fail
    obtain ⟨hr0,hr1⟩:=HSL.out.set2 (.bool false) (.slice ad len cap)
    have hrf:=((HR0.out.below HBX.out).slot HSL.out (by decide) 0 (.bool false)).slot (HSL.out.set (w.heap.size+1) 0 _) (by decide) 1 (.slice ad len cap)
    refine bodyPost_ret (v:=.agg #[.bool false,.slice ad len cap]) (by simp [results,Tryz.results137,go_sem,hr0,hr1]) rfl ⟨_,rfl,intB_of hrf H.out.2 (by simp),hHeld.2.2⟩
  ·
    refine wp_region_sched (fun w'=>w'.cell? ⟨w.heap.size,0,none⟩=some (.slice ad len cap)∧Slot w' (w.heap.size+1) 54 2∧Below w.heap.size w w') [(0,true),(1,true),(2,true),(6,true),(3,false),(4,true),(5,true),(7,true),(8,false)] (by kernel_rfl) (by kernel_rfl) ?_ (fun hHeld=>?_)
    · (try dsimp only)
      exact ⟨hc0,HSL.out.drew,HBX.out.drew⟩
    try dsimp only at hHeld
    repeat (refine wpSched_at (by simp only [List.getElem?_toArray,List.getElem?_cons_zero,List.getElem?_cons_succ]; rfl) ?_; (first | (apply wpAt_take rfl; (intro wx hSx; (try dsimp only at hSx); go_simp; (try with_reducible rfl)); simp only [Act.put,List.setIfInBounds_toArray,List.set_cons_zero,List.set_cons_succ]) | (refine wpAt_skip rfl ?_; simp only [Act.put,List.setIfInBounds_toArray,List.set_cons_zero,List.set_cons_succ]) | (refine wpAt_pass rfl hHeld ?_; simp only [Act.put,List.setIfInBounds_toArray,List.set_cons_zero,List.set_cons_succ]) | (refine wpAt_eff rfl (fun K hK=>?_); ((obtain ⟨x0,y0,hx0,hy0,hfx0,hfy0⟩:=hHeld.2.1.two); (try simp only [cell_drew,frozen_drew] at hx0 hy0 hfx0 hfy0)); go_simp; (first | (go_at_call 148; (with_reducible refine (isZero_any (.agg #[.slice ad len cap]) n k _ ?_ hk).mono ?_); (exact H.out.below hHeld.2.2); rintro e w' ⟨rfl,hb⟩; have hS:=And.intro trivial (And.intro (cell_below hHeld.1 hb) (And.intro (hHeld.2.1.below hb) (bel_on hHeld.2.2 hb))); clear hb hHeld) | (try simp only [cell_drew,slot_drew,below_drew] at hHeld)); (refine hK.out _ _ ?_ (fun hHeld=>?_)); ((try dsimp only); ((try simp only [cell_drew,slot_drew,below_drew]); refine ⟨?_,?_,?_⟩; (first | exact hS.2.1 | with_reducible exact cell_set hHeld.1 (by omega) | with_reducible exact cell_set (cell_set hHeld.1 (by omega)) (by omega)); (first | exact hS.2.2.1 | with_reducible exact hHeld.2.1.set _ _ _ | with_reducible exact (hHeld.2.1.set _ _ _).set _ _ _); (first | exact hS.2.2.2 | with_reducible exact bel_set1 hHeld.2.2 (by omega) | with_reducible exact bel_set2 hHeld.2.2 (by omega) (by omega)))); clear hK K; (try clear hS); (try clear hfx0 hx0 x0); (try clear hfy0 hy0 y0); (try clear hfx1 hx1 x1); (try clear hfy1 hy1 y1); (try dsimp only at hHeld))))
    refine wpSched_nil ?_
    rename_i hOld
    go_wp2_with fail
    obtain ⟨hr0,hr1⟩:=hOld.2.1.set2 (.bool (!decide (n=0))) (.slice ad len cap)
    have hrf:=((HR0.out.below hOld.2.2).slot hOld.2.1 (by decide) 0 (.bool (!decide (n=0)))).slot (hOld.2.1.set (w.heap.size+1) 0 _) (by decide) 1 (.slice ad len cap)
    refine bodyPost_ret (v:=.agg #[.bool (!decide (n=0)),.slice ad len cap]) (by simp [results,Tryz.results137,go_sem,hr0,hr1]) rfl ⟨_,rfl,intB_of hrf H.out.2 (by simp),hHeld.2.2⟩
end Go.Proofs.YthffkbbcofbceaaGreatDoor
