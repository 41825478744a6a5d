/- The contract of nat's divideLong. -/
import Derived.Test.YthffkbbcofbceaaGreatDoorYj
import Derived.Test.YthffkbbcofbceaaGreatDoorYk
import Derived.Test.YthffkbbcofbceaaGreatDoorYb
import Derived.Test.YthffkbbcofbceaaGreatDoorYi
namespace Go.Proofs.YthffkbbcofbceaaGreatDoor
open Go.RowKit Cin
theorem hkX_lt {w:World} {b:Nat} {t:TypeId} {k:IntKind} {ys:List Nat} (h:Blk w b t k ys):b < w.heap.size:=h.lt
theorem run_make_words (i0:TypeInfo) (hi0:Tryz.prog.info? 202=some i0) (hz0:i0.zero=some (.int .u32 0)) (hz1:i0.size=1) (hz2:i0.bytes=4) (M:Nat) (hM:M≤1000000000) (W:World) :
    Sem.run Tryz.prog (Instr.makeSlice 50 (.int .i64 M) (.int .i64 M)) W=.ok (.slice (some ⟨W.heap.size,0,none⟩) M M) (W.alloc (.cells (ints .u32 (List.replicate M 0)) 202)):=by
  have h:=run_make (P:=Tryz.prog) W 50 202 i0 _ Tryz.underlying50 hi0 hz0 .i64 .i64 M M (by omega) (by omega) (by rw [hz2]; omega) (by omega)
  rw [hz1,Nat.mul_one,Int.toNat_natCast,madeCells_int] at h
  exact h
set_option maxRecDepth 100000 in
set_option maxHeartbeats 8000000 in
theorem divideLong_any (v u:Value) (xs ys:List Nat) (w:World) (h:Sl 202 .u32 w v xs) (h':Sl 202 .u32 w u ys) (ox:Ok xs) (oy:Ok ys) (hn2:2≤ys.length) (hla:ys.length≤xs.length) (hb:xs.length≤10000000) (htop:lim ys (ys.length - 1)≠0) :
    Calls Tryz.prog 178 #[v,u] w fun e w'=>∃ (v' u':Value) (os rs:List Nat),e=.returned (.tuple #[v',u'])∧Sl 202 .u32 w' v' os∧Own 202 .u32 w' w.heap.size u' rs∧Ok os∧Ok rs∧val os=val xs / val ys∧val rs=val xs % val ys∧os.length=xs.length - ys.length+1∧rs.length=ys.length∧Below w.heap.size w w':=by
  obtain ⟨i0,hi0,hz0,hz1,hz2⟩:=info_parts info_u32
  obtain ⟨ad,cap,rfl,hc,_⟩:=h.shape
  obtain ⟨ad',cap',rfl,hc',_⟩:=h'.shape
  have hb31:=lim_lt oy (ys.length - 1)
  have hbl:=isBl_len _ hb31
  obtain ⟨bY,oY,e1,hcy,_⟩:=h'.cell (i:=ys.length - 1) (by omega)
  subst e1
  obtain ⟨bl,ebl⟩:∃ bl:Nat,Lib.bitLen (lim ys (ys.length - 1))=bl:=⟨_,rfl⟩
  rw [ebl] at hbl
  have hbl1:1≤bl:=by
    rcases Nat.eq_zero_or_pos bl with e | e
    · subst e; have:=hbl.1; simp at this; omega
    · exact e
  have hbl32:bl≤32:=by
    rcases hbl.2 with e | e
    · omega
    · rcases Nat.lt_or_ge 32 bl with h3 | h3
      · have:=Nat.pow_le_pow_right (n:=2) (by decide) (show 32≤bl - 1 by omega)
        omega
      · exact h3
  obtain ⟨s,es,es'⟩:∃ s:Nat,(32:Int) - (bl:Int)=(s:Int)∧bl=32 - s:=⟨32 - bl,by omega,by omega⟩
  have hs32:s < 32:=by omega
  have hhi:2 ^ 31≤lim ys (ys.length - 1) * 2 ^ s∧lim ys (ys.length - 1) * 2 ^ s < 2 ^ 32:=by
    have hp:0 < 2 ^ s:=Nat.pow_pos (by decide)
    constructor
    · have h1:2 ^ (bl - 1) * 2 ^ s≤lim ys (ys.length - 1) * 2 ^ s:=Nat.mul_le_mul_right _ (by rcases hbl.2 with e | e; omega; exact e)
      rwa [← Nat.pow_add,show bl - 1+s=31 by omega] at h1
    · have h1:lim ys (ys.length - 1) * 2 ^ s < 2 ^ bl * 2 ^ s:=Nat.mul_lt_mul_of_pos_right hbl.1 hp
      rwa [← Nat.pow_add,show bl+s=32 by omega] at h1
  obtain ⟨n,hn⟩:∃ n:Nat,ys.length=n:=⟨_,rfl⟩
  obtain ⟨la,hlx⟩:∃ la:Nat,xs.length=la:=⟨_,rfl⟩
  rw [hn] at hn2 hla htop hcy hhi ebl hb31 h' hc' ⊢
  rw [hlx] at hla hb h hc ⊢
  obtain ⟨n1,hn1⟩:∃ n1:Nat,n=n1+1:=⟨n - 1,by omega⟩
  have i1:(n:Int) - 1=(n1:Int):=by omega
  rw [show n - 1=n1 by omega] at hcy hhi ebl htop hb31
  have hmk1:=run_make_words i0 hi0 hz0 hz1 hz2 (la+1) (by omega)
  have hmk2:=run_make_words i0 hi0 hz0 hz1 hz2 (n+1) (by omega)
  simp only [Int.natCast_add,Int.natCast_one] at hmk1 hmk2
  have H:=Lib.hid h
  have H':=Lib.hid h'
  have HHI:=Lib.hid hhi
  have HN:=Lib.hid hn
  have HLX:=Lib.hid hlx
  have HN1:=Lib.hid hn1
  clear h h' hhi hbl hn hlx hn1 es' hc hc'
  go_enter Tryz.func178,Tryz.ntmps178
  go_wp2_with (go_at_call 202; refine (Tryz.bits_LeadingZeros32 ((lim ys n1:Nat):Int) _ (by omega) (by omega)).mono ?_; rintro e w1 ⟨rfl,e0⟩; replace e0:=e0.symm; subst e0; rw [Int.toNat_natCast,ebl])
  go_region
  ·
    have hkL:Blk ((w.alloc (Obj.cells (ints IntKind.u32 (List.replicate (la+1) 0)) 202)).alloc (Obj.cells (ints IntKind.u32 (List.replicate (n+1) 0)) 202)).drew (w.heap.size) 202 .u32 (List.replicate (la+1) 0):=(Blk.new w 202 .u32 (List.replicate (la+1) 0)).alloc (Obj.cells (ints IntKind.u32 (List.replicate (n+1) 0)) 202)
    have hkY:Blk ((w.alloc (Obj.cells (ints IntKind.u32 (List.replicate (la+1) 0)) 202)).alloc (Obj.cells (ints IntKind.u32 (List.replicate (n+1) 0)) 202)).drew (w.heap.size+1) 202 .u32 (List.replicate (n+1) 0):=by
      have h1:=Blk.new (w.alloc (Obj.cells (ints IntKind.u32 (List.replicate (la+1) 0)) 202)) 202 .u32 (List.replicate (n+1) 0)
      simp only [World.size_alloc] at h1
      exact h1
    have hbX:Below w.heap.size w ((w.alloc (Obj.cells (ints IntKind.u32 (List.replicate (la+1) 0)) 202)).alloc (Obj.cells (ints IntKind.u32 (List.replicate (n+1) 0)) 202)).drew:=(bel_alloc2 w (Obj.cells (ints IntKind.u32 (List.replicate (la+1) 0)) 202) (Obj.cells (ints IntKind.u32 (List.replicate (n+1) 0)) 202)).drew
    have hsX:w.heap.size+1 < ((w.alloc (Obj.cells (ints IntKind.u32 (List.replicate (la+1) 0)) 202)).alloc (Obj.cells (ints IntKind.u32 (List.replicate (n+1) 0)) 202)).drew.heap.size:=hkX_lt hkY
    generalize ((w.alloc (Obj.cells (ints IntKind.u32 (List.replicate (la+1) 0)) 202)).alloc (Obj.cells (ints IntKind.u32 (List.replicate (n+1) 0)) 202)).drew=X at *
    have HX:=Lib.hid (H.out.below hbX)
    have HY:=Lib.hid (H'.out.below hbX)
    have hneX:∀ b' o' n' c',Value.slice ad la cap=.slice (some ⟨b',o',none⟩) n' c'→b' < w.heap.size:=fun b' o' n' c' e=>H.out.lt e
    have hneY:bY < w.heap.size:=H'.out.lt rfl
    have HNX:=Lib.hid hneX
    clear hneX
    go_wp2_with fail
    refine (shiftUp_any (w.heap.size) 0 (la+1) (la+1) (List.replicate (la+1) 0) _ xs s _ hs32 HX.out ox hkL (fun b' o' n' c' e=>by have:=HNX.out b' o' n' c' e; omega) (by have:=HLX.out; omega) (Nat.le_refl _) (by simp) (by have:=HLX.out; omega)).mono ?_
    rintro e w2 ⟨rfl,ls0,hl0,ok0,hv0,hblk0,hkp0⟩
    rw [splice_zeros_all (by rw [hl0,HLX.out])] at hblk0
    have hkY2:Blk w2 (w.heap.size+1) 202 .u32 (List.replicate (n+1) 0):=hkY.of_block (hkp0.block (w.heap.size+1) (hkY.lt) (by omega))
    have HY2:=Lib.hid (HY.out.keep hkp0 (fun b' o' n' c' e=>by injection e with e1; injection e1 with e1; injection e1 with e1; omega))
    have hs2:=hkp0.size
    have HB2:=Lib.hid (hbX.trans (hkp0.below (B:=w.heap.size) (by omega) (fun k e=>by omega)))
    have HK0:=Lib.hid hblk0
    clear hblk0 hkp0 HY HX hkL hkY hbX
    go_wp2_with fail
    refine (shiftUp_any (w.heap.size+1) 0 (n+1) (n+1) (List.replicate (n+1) 0) _ ys s _ hs32 HY2.out oy hkY2 (fun b' o' n' c' e=>by injection e with e1; injection e1 with e1; injection e1 with e1; omega) (by have:=HN.out; omega) (Nat.le_refl _) (by simp) (by have:=HN.out; omega)).mono ?_
    rintro e w3 ⟨rfl,ds0,hd0,okd0,hvd0,hblkd,hkpd⟩
    rw [splice_zeros_all (by rw [hd0,HN.out])] at hblkd
    have hblkL:Blk w3 (w.heap.size) 202 .u32 ls0:=HK0.out.of_block (hkpd.block (w.heap.size) HK0.out.lt (by omega))
    have hs3:=hkpd.size
    have HB3:=Lib.hid (HB2.out.trans (hkpd.below (B:=w.heap.size) (by omega) (fun k e=>by omega)))
    rw [HLX.out] at hl0
    rw [HN.out] at hd0
    have hfit:=shift_fit (s:=s) (by rw [HN.out]; exact HN1.out) oy HHI.out.2 (by omega)
    have hdl:(ds0.take n).length=n:=by rw [List.length_take]; omega
    have hdv:val (ds0.take n)=val ys * 2 ^ s:=by
      have h1:=val_take_succ (xs:=ds0) (i:=n) (by omega)
      rw [List.take_of_length_le (by omega),hvd0] at h1
      rw [← hvd0]
      have h2:lim ds0 n=0:=lim_top_zero hd0 okd0 (by rw [hvd0,HN1.out]; exact hfit)
      rw [hvd0,h1,h2,Nat.mul_zero,Nat.add_zero]
    have hhd:2 ^ 31≤lim (ds0.take n) n1:=lim_top_big (by rw [hdl]; exact HN1.out) (okd0.take n) (by rw [hdv]; exact shift_big (by rw [HN.out]; exact HN1.out) oy HHI.out.1)
    have HLS:=Lib.hid (Sl.of_part hblkd (off:=0) (n:=n) (cap:=n+1) (by omega) (by omega))
    rw [List.drop_zero] at HLS
    generalize hds:ds0.take n=ds at *
    have okd:Ok ds:=by rw [← hds]; exact okd0.take n
    have hDn:val ds < pw n:=by rw [← hdl]; exact val_lt okd
    have HKL:=Lib.hid hblkL
    have HV0:=Lib.hid hv0
    have HDV:=Lib.hid hdv
    obtain ⟨M,em,eM⟩:∃ M:Nat,(la:Int) - (n:Int)+1=(M:Int)∧M=la - n+1:=⟨_,by omega,rfl⟩
    have hm3:=run_make_words i0 hi0 hz0 hz1 hz2 M (by omega)
    have hbeg:=long_begin (ls:=ls0) (ds:=ds) (x:=val xs) hl0 hdl (by omega) hla ok0 HV0.out (by rw [← HLX.out]; exact val_lt ox) (by rw [show n - 1=n1 by have:=HN1.out; omega]; refine Nat.le_trans ?_ hhd; exact Nat.pow_le_pow_right (by decide) (by omega))
    rw [← eM] at hbeg
    have HBEG:=Lib.hid hbeg
    have HM:=Lib.hid eM
    have hMb:M≤10000001:=by omega
    have hMla:M≤la:=by omega
    have hhd1:1≤lim ds n1:=Nat.le_trans (by decide) hhd
    clear hbeg eM
    clear hblkL hblkd hkpd HK0 HY2 hkY2 hds hv0 hvd0 hd0 okd0 hfit hdv HB2 hmk1 hmk2
    go_wp2_with fail
    have hkO:Blk (w3.alloc (Obj.cells (ints IntKind.u32 (List.replicate M 0)) 202)) w3.heap.size 202 .u32 (List.replicate M 0):=Blk.new _ _ _ _
    have hkL4:=HKL.out.alloc (Obj.cells (ints IntKind.u32 (List.replicate M 0)) 202)
    have hbW:=bel_alloc w3 (Obj.cells (ints IntKind.u32 (List.replicate M 0)) 202)
    have HLS4:=Lib.hid (HLS.out.below hbW)
    have HB4:=Lib.hid (bel_on HB3.out hbW)
    generalize w3.alloc (Obj.cells (ints IntKind.u32 (List.replicate M 0)) 202)=W at *
    have hOs:=hkO.lt
    have hLs:=hkL4.lt
    have HKO:=Lib.hid hkO
    have HKL4:=Lib.hid hkL4
    have hsz3:w.heap.size+1 < w3.heap.size:=by omega
    clear hkO hkL4 hbW hm3
    go_loopw [11,12,13] (fun ix _ _ wr=>∃ (k:Nat) (ls os:List Nat),k≤M∧ix=.int .i64 ((k:Int) - 1)∧ls.length=la+1∧Ok ls∧os.length=M∧Ok os∧val ls+val ds * (pw k * val (os.drop k))=val xs * 2 ^ s∧val (ls.drop k) < val ds ∧
        Blk wr (w.heap.size) 202 .u32 ls∧Blk wr w3.heap.size 202 .u32 os∧Keep (fun b=>b=(w.heap.size)∨b=w3.heap.size) W wr) (fun ix _ _ _=>(intOf ix+1).toNat)
    case atStart=>exact ⟨M,ls0,List.replicate M 0,Nat.le_refl _,rfl,hl0,ok0,by simp,Ok.replicate _,by rw [List.drop_of_length_le (by simp),val_nil,Nat.mul_zero,Nat.mul_zero,Nat.add_zero]; exact HV0.out,HBEG.out,HKL4.out,HKO.out,Keep.refl _ _⟩
    case round=>
      obtain ⟨k,ls,os,hk,rfl,hll,okl,hol,oko,hv,hdlt,hbL,hbO,hkeep⟩:=hrel
      by_cases hk0:k=0
      · subst hk0
        have HSL:=Lib.hid (Sl.of_part hbL (off:=0) (n:=la+1) (cap:=la+1) (by omega) (by omega))
        rw [List.drop_zero,List.take_of_length_le (by omega)] at HSL
        have HBL:=Lib.hid hbL
        have HBO:=Lib.hid hbO
        have HKP:=Lib.hid hkeep
        have HV:=Lib.hid hv
        have HDL:=Lib.hid hdlt
        clear hbL hbO hkeep hv hdlt
        rw [show ((0:Nat):Int) - 1=-1 from rfl]
        go_wp2_with fail
        refine (shiftDown_any (w.heap.size) 0 (la+1) (la+1) ls _ ls s wr hs32 HSL.out okl HBL.out (.inr ⟨_,_,rfl⟩) (by omega) (Nat.le_refl _) (by omega) (by omega)).mono ?_
        rintro e w5 ⟨rfl,rs,hrl,okr,hrv,hbL5,hk5⟩
        rw [splice_whole hrl] at hbL5
        have hO5:Blk w5 w3.heap.size 202 .u32 os:=HBO.out.of_block (hk5.block w3.heap.size HBO.out.lt (by omega))
        have hkp5:=HKP.out.trans (hk5.mono (S':=fun b=>b=(w.heap.size)∨b=w3.heap.size) (fun k _ e=>.inl e))
        have hWs:w3.heap.size < W.heap.size:=hOs
        have HBW:=Lib.hid (HB4.out.trans (hkp5.below (B:=w.heap.size) (by omega) (fun k e=>by omega)))
        have hV:=HV.out
        have hDL:=HDL.out
        rw [pw_zero,Nat.one_mul,List.drop_zero,HDV.out] at hV
        rw [List.drop_zero,HDV.out] at hDL
        have hy0:0 < val ys:=by
          rcases Nat.eq_zero_or_pos (val ys) with e | e
          · rw [e,Nat.zero_mul] at hDL; omega
          · exact e
        have hend:=long_end hy0 hV hDL
        rw [← hrv] at hend
        have hsm:val rs < pw n:=by
          have h1:=Nat.mod_lt (val xs) hy0
          have h2:=val_lt oy
          rw [HN.out] at h2
          omega
        have hvt:=val_take_small (rs:=rs) (n:=n) (by omega) hsm
        rw [hend.2] at hvt
        have HE1:=Lib.hid hend.1
        have HE2:=Lib.hid hvt
        have HS1:=Lib.hid (Sl.of_blk hO5)
        rw [hol] at HS1
        have hrl1:rs.length=la+1:=by omega
        have HS2:=Lib.hid ((Own.of_blk (base:=w.heap.size) hbL5 (by omega) (by omega)).take (m:=n) (by omega))
        rw [hrl1] at HS2
        clear hV hDL hend hsm hvt hrv hbL5 hO5 hk5 hkp5
        go_wp2_with fail
        go_big_region
        go_wp2_with fail
        go_ret2
        exact ⟨_,_,os,rs.take n,rfl,HS1.out.drew,HS2.out.below (Below.refl _ _).drew,oko,okr.take n,HE1.out,HE2.out,by have:=HM.out; omega,by rw [List.length_take]; omega,HBW.out.drew⟩
      · obtain ⟨i,rfl⟩:∃ i,k=i+1:=⟨k - 1,by omega⟩
        obtain ⟨ps,hps⟩:∃ ps,(ls.drop i).take (n+1)=ps:=⟨_,rfl⟩
        have hin:i+n+1≤la+1:=by have:=HM.out; omega
        have hpsl:ps.length=n+1:=by rw [← hps,List.length_take,List.length_drop]; omega
        have okp:Ok ps:=by rw [← hps]; exact (okl.drop i).take _
        have hplt:=(long_step (ros:=[]) (Q:=0) hll hin hps okl hdlt hDn hv (by omega)).1
        have HSP:=Lib.hid (Sl.of_part hbL (off:=i) (n:=n+1) (cap:=la+1 - i) (by omega) (by omega))
        rw [hps] at HSP
        have HSD:=Lib.hid (HLS4.out.keep hkeep (fun b' o' n' c' e=>by injection e with e1; injection e1 with e1; injection e1 with e1; omega))
        have ei:((i+1:Nat):Int) - 1=(i:Int):=by omega
        obtain ⟨j,ej,ej'⟩:∃ j:Nat,(i:Int)+(n:Int)=(j:Int)∧i+n=j:=⟨_,by omega,rfl⟩
        have hjb:j≤la:=by omega
        have hij:i≤j:=by omega
        have EJ:=Lib.hid ej'
        have HBL:=Lib.hid hbL
        have HBO:=Lib.hid hbO
        have HKP:=Lib.hid hkeep
        have HV:=Lib.hid hv
        have HDL:=Lib.hid hdlt
        have HPS:=Lib.hid hps
        have HPL:=Lib.hid hpsl
        have HPT:=Lib.hid hplt
        clear hbL hbO hkeep hv hdlt hps hpsl hplt ej'
        go_wp2_with fail
        rw [show j+1 - i=n+1 by have:=EJ.out; omega]
        refine (guessLimb_any _ _ ps ds (n1 - 1) _ HSP.out HSD.out okp okd (by have:=HPL.out; have:=HN1.out; omega) (by have:=HN1.out; omega) (by omega) (by rw [show n1 - 1+1=n1 by have:=HN1.out; omega]; exact hhd1) HPT.out).mono ?_
        rintro e w5 ⟨q,nq,rfl,hq,hq1,hq2,rfl⟩
        have HSD2:=Lib.hid (HSD.out.drewN nq)
        have HBL2:=Lib.hid (show Blk (wr.drewN nq) (w.heap.size) 202 .u32 ls from HBL.out)
        have HBO2:=Lib.hid (show Blk (wr.drewN nq) w3.heap.size 202 .u32 os from HBO.out)
        have HKP2:=Lib.hid (show Keep (fun b=>b=(w.heap.size)∨b=w3.heap.size) W (wr.drewN nq) from ⟨HKP.out.os,HKP.out.tape,HKP.out.output,HKP.out.size,HKP.out.block⟩)
        have HQ1:=Lib.hid hq1
        have HQ2:=Lib.hid hq2
        have HDL':=Lib.hid hdl
        clear hq1 hq2
        go_wp2_with fail
        generalize wr.drewN nq=w4 at *
        have ht:=takeTimes_any (w.heap.size) i (la+1 - i) ls ps _ ds q w4 HSD2.out okd HBL2.out (by rw [hdl]; exact HPS.out) okl (fun b' o' n' c' e=>by injection e with e1; injection e1 with e1; injection e1 with e1; omega) (by omega) (by omega) hq (by omega)
        rw [hdl] at ht
        refine ht.mono ?_
        clear ht
        rintro e w5 ⟨over,rs,rfl,hrl,okr,hrv,hbL5,hk5⟩
        have hO5:Blk w5 w3.heap.size 202 .u32 os:=HBO2.out.of_block (hk5.block w3.heap.size HBO2.out.lt (by omega))
        have HSD5:=Lib.hid (HSD2.out.keep hk5 (fun b' o' n' c' e=>by injection e with e1; injection e1 with e1; injection e1 with e1; omega))
        have hkp5:=HKP2.out.trans (hk5.mono (S':=fun b=>b=(w.heap.size)∨b=w3.heap.size) (fun k _ e=>.inl e))
        have hD0:0 < val ds:=by have:=HPT.out; omega
        have HD0:=Lib.hid hD0
        cases over
        · have hex:=take_exact hD0 HQ1.out (by simpa using hrv)
          have hst:=(long_step (ros:=rs) (Q:=q) hll hin HPS.out okl HDL.out hDn HV.out (by omega)).2 hrl hex.2 hex.1
          have HST:=Lib.hid hst
          have HEX:=Lib.hid hex
          have hcO:=hO5.cell (i:=i) (by omega)
          have hfO:=hO5.free i
          have HO5:=Lib.hid hO5
          have HL5:=Lib.hid hbL5
          have HK5:=Lib.hid hkp5
          clear hst hex hO5 hbL5 hkp5 hk5 hrv hD0
          go_wp2_with fail
          obtain ⟨s1,s2,s3⟩:=HST.out
          exact ⟨⟨i,splice ls i rs,os.set i q,by omega,rfl,s1,splice_ok okl okr,by rw [List.length_set]; exact hol,oko.set i q hq,s2,s3,HL5.out.other (by show w3.heap.size≠_; omega) _,HO5.out.set i q,HK5.out.setCell (.inr rfl) _⟩,by simp [intOf] <;> omega⟩
        · have hq0:1≤q:=by
            rcases Nat.eq_zero_or_pos q with e | e
            · subst e
              have:=val_lt okr
              rw [hrl] at this
              simp only [Nat.zero_mul,if_true] at hrv
              omega
            · exact e
          have HRV:=Lib.hid hrv
          have HO5:=Lib.hid hO5
          have HL5:=Lib.hid hbL5
          have HK5:=Lib.hid hkp5
          obtain ⟨q1,eq1,eq1'⟩:∃ q1:Nat,(q:Int) - 1=(q1:Int)∧q - 1=q1:=⟨_,by omega,rfl⟩
          have hq1b:q1 < 4294967296:=by omega
          have HEQ:=Lib.hid eq1'
          clear hO5 hbL5 hkp5 hk5 hrv hD0 eq1'
          go_wp2_with fail
          have ht:=giveBack_any (w.heap.size) i (la+1 - i) (splice ls i rs) rs _ ds w5 HSD5.out okd HL5.out (by rw [hdl,← hrl]; exact splice_part (by omega)) (splice_ok okl okr) (fun b' o' n' c' e=>by injection e with e1; injection e1 with e1; injection e1 with e1; omega) (by omega) (by rw [splice_length (by omega)]; omega) (by omega)
          rw [hdl] at ht
          refine ht.mono ?_
          clear ht
          rintro e w6 ⟨rfl,rs2,c,hrl2,okr2,hrv2,hbL6,hk6⟩
          rw [splice_again (by omega) (by omega)] at hbL6
          have hO6:Blk w6 w3.heap.size 202 .u32 os:=HO5.out.of_block (hk6.block w3.heap.size HO5.out.lt (by omega))
          have hkp6:=HK5.out.trans (hk6.mono (S':=fun b=>b=(w.heap.size)∨b=w3.heap.size) (fun k _ e=>.inl e))
          have hex:=take_back HD0.out (show val ds≤pw (n+1) by rw [pw_succ]; omega) HQ2.out (by have:=HRV.out; simpa using this) (by rw [← hrl]; exact val_lt okr) hrv2 (by rw [← hrl2]; exact val_lt okr2)
          rw [HEQ.out] at hex
          have hst:=(long_step (ros:=rs2) (Q:=q1) hll hin HPS.out okl HDL.out hDn HV.out (by omega)).2 hrl2 hex.2.2 hex.2.1
          have HST:=Lib.hid hst
          have hcO:=hO6.cell (i:=i) (by omega)
          have hfO:=hO6.free i
          have HO6:=Lib.hid hO6
          have HL6:=Lib.hid hbL6
          have HK6:=Lib.hid hkp6
          clear hst hex hO6 hbL6 hkp6 hk6 hrv2
          go_wp2_with fail
          obtain ⟨s1,s2,s3⟩:=HST.out
          exact ⟨⟨i,splice ls i rs2,os.set i q1,by omega,rfl,s1,splice_ok okl okr2,by rw [List.length_set]; exact hol,oko.set i q1 hq1b,s2,s3,HL6.out.other (by show w3.heap.size≠_; omega) _,HO6.out.set i q1,HK6.out.setCell (.inr rfl) _⟩,by simp [intOf] <;> omega⟩
  ·
    have hkY:Blk ((w.alloc (Obj.cells (ints IntKind.u32 (List.replicate (n+1) 0)) 202)).alloc (Obj.cells (ints IntKind.u32 (List.replicate (la+1) 0)) 202)).drew (w.heap.size) 202 .u32 (List.replicate (n+1) 0):=(Blk.new w 202 .u32 (List.replicate (n+1) 0)).alloc (Obj.cells (ints IntKind.u32 (List.replicate (la+1) 0)) 202)
    have hkL:Blk ((w.alloc (Obj.cells (ints IntKind.u32 (List.replicate (n+1) 0)) 202)).alloc (Obj.cells (ints IntKind.u32 (List.replicate (la+1) 0)) 202)).drew (w.heap.size+1) 202 .u32 (List.replicate (la+1) 0):=by
      have h1:=Blk.new (w.alloc (Obj.cells (ints IntKind.u32 (List.replicate (n+1) 0)) 202)) 202 .u32 (List.replicate (la+1) 0)
      simp only [World.size_alloc] at h1
      exact h1
    have hbX:Below w.heap.size w ((w.alloc (Obj.cells (ints IntKind.u32 (List.replicate (n+1) 0)) 202)).alloc (Obj.cells (ints IntKind.u32 (List.replicate (la+1) 0)) 202)).drew:=(bel_alloc2 w (Obj.cells (ints IntKind.u32 (List.replicate (n+1) 0)) 202) (Obj.cells (ints IntKind.u32 (List.replicate (la+1) 0)) 202)).drew
    have hsX:w.heap.size+1 < ((w.alloc (Obj.cells (ints IntKind.u32 (List.replicate (n+1) 0)) 202)).alloc (Obj.cells (ints IntKind.u32 (List.replicate (la+1) 0)) 202)).drew.heap.size:=hkX_lt hkL
    generalize ((w.alloc (Obj.cells (ints IntKind.u32 (List.replicate (n+1) 0)) 202)).alloc (Obj.cells (ints IntKind.u32 (List.replicate (la+1) 0)) 202)).drew=X at *
    have HX:=Lib.hid (H.out.below hbX)
    have HY:=Lib.hid (H'.out.below hbX)
    have hneX:∀ b' o' n' c',Value.slice ad la cap=.slice (some ⟨b',o',none⟩) n' c'→b' < w.heap.size:=fun b' o' n' c' e=>H.out.lt e
    have hneY:bY < w.heap.size:=H'.out.lt rfl
    have HNX:=Lib.hid hneX
    clear hneX
    go_wp2_with fail
    refine (shiftUp_any (w.heap.size+1) 0 (la+1) (la+1) (List.replicate (la+1) 0) _ xs s _ hs32 HX.out ox hkL (fun b' o' n' c' e=>by have:=HNX.out b' o' n' c' e; omega) (by have:=HLX.out; omega) (Nat.le_refl _) (by simp) (by have:=HLX.out; omega)).mono ?_
    rintro e w2 ⟨rfl,ls0,hl0,ok0,hv0,hblk0,hkp0⟩
    rw [splice_zeros_all (by rw [hl0,HLX.out])] at hblk0
    have hkY2:Blk w2 (w.heap.size) 202 .u32 (List.replicate (n+1) 0):=hkY.of_block (hkp0.block (w.heap.size) (hkY.lt) (by omega))
    have HY2:=Lib.hid (HY.out.keep hkp0 (fun b' o' n' c' e=>by injection e with e1; injection e1 with e1; injection e1 with e1; omega))
    have hs2:=hkp0.size
    have HB2:=Lib.hid (hbX.trans (hkp0.below (B:=w.heap.size) (by omega) (fun k e=>by omega)))
    have HK0:=Lib.hid hblk0
    clear hblk0 hkp0 HY HX hkL hkY hbX
    go_wp2_with fail
    refine (shiftUp_any (w.heap.size) 0 (n+1) (n+1) (List.replicate (n+1) 0) _ ys s _ hs32 HY2.out oy hkY2 (fun b' o' n' c' e=>by injection e with e1; injection e1 with e1; injection e1 with e1; omega) (by have:=HN.out; omega) (Nat.le_refl _) (by simp) (by have:=HN.out; omega)).mono ?_
    rintro e w3 ⟨rfl,ds0,hd0,okd0,hvd0,hblkd,hkpd⟩
    rw [splice_zeros_all (by rw [hd0,HN.out])] at hblkd
    have hblkL:Blk w3 (w.heap.size+1) 202 .u32 ls0:=HK0.out.of_block (hkpd.block (w.heap.size+1) HK0.out.lt (by omega))
    have hs3:=hkpd.size
    have HB3:=Lib.hid (HB2.out.trans (hkpd.below (B:=w.heap.size) (by omega) (fun k e=>by omega)))
    rw [HLX.out] at hl0
    rw [HN.out] at hd0
    have hfit:=shift_fit (s:=s) (by rw [HN.out]; exact HN1.out) oy HHI.out.2 (by omega)
    have hdl:(ds0.take n).length=n:=by rw [List.length_take]; omega
    have hdv:val (ds0.take n)=val ys * 2 ^ s:=by
      have h1:=val_take_succ (xs:=ds0) (i:=n) (by omega)
      rw [List.take_of_length_le (by omega),hvd0] at h1
      rw [← hvd0]
      have h2:lim ds0 n=0:=lim_top_zero hd0 okd0 (by rw [hvd0,HN1.out]; exact hfit)
      rw [hvd0,h1,h2,Nat.mul_zero,Nat.add_zero]
    have hhd:2 ^ 31≤lim (ds0.take n) n1:=lim_top_big (by rw [hdl]; exact HN1.out) (okd0.take n) (by rw [hdv]; exact shift_big (by rw [HN.out]; exact HN1.out) oy HHI.out.1)
    have HLS:=Lib.hid (Sl.of_part hblkd (off:=0) (n:=n) (cap:=n+1) (by omega) (by omega))
    rw [List.drop_zero] at HLS
    generalize hds:ds0.take n=ds at *
    have okd:Ok ds:=by rw [← hds]; exact okd0.take n
    have hDn:val ds < pw n:=by rw [← hdl]; exact val_lt okd
    have HKL:=Lib.hid hblkL
    have HV0:=Lib.hid hv0
    have HDV:=Lib.hid hdv
    obtain ⟨M,em,eM⟩:∃ M:Nat,(la:Int) - (n:Int)+1=(M:Int)∧M=la - n+1:=⟨_,by omega,rfl⟩
    have hm3:=run_make_words i0 hi0 hz0 hz1 hz2 M (by omega)
    have hbeg:=long_begin (ls:=ls0) (ds:=ds) (x:=val xs) hl0 hdl (by omega) hla ok0 HV0.out (by rw [← HLX.out]; exact val_lt ox) (by rw [show n - 1=n1 by have:=HN1.out; omega]; refine Nat.le_trans ?_ hhd; exact Nat.pow_le_pow_right (by decide) (by omega))
    rw [← eM] at hbeg
    have HBEG:=Lib.hid hbeg
    have HM:=Lib.hid eM
    have hMb:M≤10000001:=by omega
    have hMla:M≤la:=by omega
    have hhd1:1≤lim ds n1:=Nat.le_trans (by decide) hhd
    clear hbeg eM
    clear hblkL hblkd hkpd HK0 HY2 hkY2 hds hv0 hvd0 hd0 okd0 hfit hdv HB2 hmk1 hmk2
    go_wp2_with fail
    have hkO:Blk (w3.alloc (Obj.cells (ints IntKind.u32 (List.replicate M 0)) 202)) w3.heap.size 202 .u32 (List.replicate M 0):=Blk.new _ _ _ _
    have hkL4:=HKL.out.alloc (Obj.cells (ints IntKind.u32 (List.replicate M 0)) 202)
    have hbW:=bel_alloc w3 (Obj.cells (ints IntKind.u32 (List.replicate M 0)) 202)
    have HLS4:=Lib.hid (HLS.out.below hbW)
    have HB4:=Lib.hid (bel_on HB3.out hbW)
    generalize w3.alloc (Obj.cells (ints IntKind.u32 (List.replicate M 0)) 202)=W at *
    have hOs:=hkO.lt
    have hLs:=hkL4.lt
    have HKO:=Lib.hid hkO
    have HKL4:=Lib.hid hkL4
    have hsz3:w.heap.size+1 < w3.heap.size:=by omega
    clear hkO hkL4 hbW hm3
    go_loopw [11,12,13] (fun ix _ _ wr=>∃ (k:Nat) (ls os:List Nat),k≤M∧ix=.int .i64 ((k:Int) - 1)∧ls.length=la+1∧Ok ls∧os.length=M∧Ok os∧val ls+val ds * (pw k * val (os.drop k))=val xs * 2 ^ s∧val (ls.drop k) < val ds ∧
        Blk wr (w.heap.size+1) 202 .u32 ls∧Blk wr w3.heap.size 202 .u32 os∧Keep (fun b=>b=(w.heap.size+1)∨b=w3.heap.size) W wr) (fun ix _ _ _=>(intOf ix+1).toNat)
    case atStart=>exact ⟨M,ls0,List.replicate M 0,Nat.le_refl _,rfl,hl0,ok0,by simp,Ok.replicate _,by rw [List.drop_of_length_le (by simp),val_nil,Nat.mul_zero,Nat.mul_zero,Nat.add_zero]; exact HV0.out,HBEG.out,HKL4.out,HKO.out,Keep.refl _ _⟩
    case round=>
      obtain ⟨k,ls,os,hk,rfl,hll,okl,hol,oko,hv,hdlt,hbL,hbO,hkeep⟩:=hrel
      by_cases hk0:k=0
      · subst hk0
        have HSL:=Lib.hid (Sl.of_part hbL (off:=0) (n:=la+1) (cap:=la+1) (by omega) (by omega))
        rw [List.drop_zero,List.take_of_length_le (by omega)] at HSL
        have HBL:=Lib.hid hbL
        have HBO:=Lib.hid hbO
        have HKP:=Lib.hid hkeep
        have HV:=Lib.hid hv
        have HDL:=Lib.hid hdlt
        clear hbL hbO hkeep hv hdlt
        rw [show ((0:Nat):Int) - 1=-1 from rfl]
        go_wp2_with fail
        refine (shiftDown_any (w.heap.size+1) 0 (la+1) (la+1) ls _ ls s wr hs32 HSL.out okl HBL.out (.inr ⟨_,_,rfl⟩) (by omega) (Nat.le_refl _) (by omega) (by omega)).mono ?_
        rintro e w5 ⟨rfl,rs,hrl,okr,hrv,hbL5,hk5⟩
        rw [splice_whole hrl] at hbL5
        have hO5:Blk w5 w3.heap.size 202 .u32 os:=HBO.out.of_block (hk5.block w3.heap.size HBO.out.lt (by omega))
        have hkp5:=HKP.out.trans (hk5.mono (S':=fun b=>b=(w.heap.size+1)∨b=w3.heap.size) (fun k _ e=>.inl e))
        have hWs:w3.heap.size < W.heap.size:=hOs
        have HBW:=Lib.hid (HB4.out.trans (hkp5.below (B:=w.heap.size) (by omega) (fun k e=>by omega)))
        have hV:=HV.out
        have hDL:=HDL.out
        rw [pw_zero,Nat.one_mul,List.drop_zero,HDV.out] at hV
        rw [List.drop_zero,HDV.out] at hDL
        have hy0:0 < val ys:=by
          rcases Nat.eq_zero_or_pos (val ys) with e | e
          · rw [e,Nat.zero_mul] at hDL; omega
          · exact e
        have hend:=long_end hy0 hV hDL
        rw [← hrv] at hend
        have hsm:val rs < pw n:=by
          have h1:=Nat.mod_lt (val xs) hy0
          have h2:=val_lt oy
          rw [HN.out] at h2
          omega
        have hvt:=val_take_small (rs:=rs) (n:=n) (by omega) hsm
        rw [hend.2] at hvt
        have HE1:=Lib.hid hend.1
        have HE2:=Lib.hid hvt
        have HS1:=Lib.hid (Sl.of_blk hO5)
        rw [hol] at HS1
        have hrl1:rs.length=la+1:=by omega
        have HS2:=Lib.hid ((Own.of_blk (base:=w.heap.size) hbL5 (by omega) (by omega)).take (m:=n) (by omega))
        rw [hrl1] at HS2
        clear hV hDL hend hsm hvt hrv hbL5 hO5 hk5 hkp5
        go_wp2_with fail
        go_big_region
        go_wp2_with fail
        go_ret2
        exact ⟨_,_,os,rs.take n,rfl,HS1.out.drew,HS2.out.below (Below.refl _ _).drew,oko,okr.take n,HE1.out,HE2.out,by have:=HM.out; omega,by rw [List.length_take]; omega,HBW.out.drew⟩
      · obtain ⟨i,rfl⟩:∃ i,k=i+1:=⟨k - 1,by omega⟩
        obtain ⟨ps,hps⟩:∃ ps,(ls.drop i).take (n+1)=ps:=⟨_,rfl⟩
        have hin:i+n+1≤la+1:=by have:=HM.out; omega
        have hpsl:ps.length=n+1:=by rw [← hps,List.length_take,List.length_drop]; omega
        have okp:Ok ps:=by rw [← hps]; exact (okl.drop i).take _
        have hplt:=(long_step (ros:=[]) (Q:=0) hll hin hps okl hdlt hDn hv (by omega)).1
        have HSP:=Lib.hid (Sl.of_part hbL (off:=i) (n:=n+1) (cap:=la+1 - i) (by omega) (by omega))
        rw [hps] at HSP
        have HSD:=Lib.hid (HLS4.out.keep hkeep (fun b' o' n' c' e=>by injection e with e1; injection e1 with e1; injection e1 with e1; omega))
        have ei:((i+1:Nat):Int) - 1=(i:Int):=by omega
        obtain ⟨j,ej,ej'⟩:∃ j:Nat,(i:Int)+(n:Int)=(j:Int)∧i+n=j:=⟨_,by omega,rfl⟩
        have hjb:j≤la:=by omega
        have hij:i≤j:=by omega
        have EJ:=Lib.hid ej'
        have HBL:=Lib.hid hbL
        have HBO:=Lib.hid hbO
        have HKP:=Lib.hid hkeep
        have HV:=Lib.hid hv
        have HDL:=Lib.hid hdlt
        have HPS:=Lib.hid hps
        have HPL:=Lib.hid hpsl
        have HPT:=Lib.hid hplt
        clear hbL hbO hkeep hv hdlt hps hpsl hplt ej'
        go_wp2_with fail
        rw [show j+1 - i=n+1 by have:=EJ.out; omega]
        refine (guessLimb_any _ _ ps ds (n1 - 1) _ HSP.out HSD.out okp okd (by have:=HPL.out; have:=HN1.out; omega) (by have:=HN1.out; omega) (by omega) (by rw [show n1 - 1+1=n1 by have:=HN1.out; omega]; exact hhd1) HPT.out).mono ?_
        rintro e w5 ⟨q,nq,rfl,hq,hq1,hq2,rfl⟩
        have HSD2:=Lib.hid (HSD.out.drewN nq)
        have HBL2:=Lib.hid (show Blk (wr.drewN nq) (w.heap.size+1) 202 .u32 ls from HBL.out)
        have HBO2:=Lib.hid (show Blk (wr.drewN nq) w3.heap.size 202 .u32 os from HBO.out)
        have HKP2:=Lib.hid (show Keep (fun b=>b=(w.heap.size+1)∨b=w3.heap.size) W (wr.drewN nq) from ⟨HKP.out.os,HKP.out.tape,HKP.out.output,HKP.out.size,HKP.out.block⟩)
        have HQ1:=Lib.hid hq1
        have HQ2:=Lib.hid hq2
        have HDL':=Lib.hid hdl
        clear hq1 hq2
        go_wp2_with fail
        generalize wr.drewN nq=w4 at *
        have ht:=takeTimes_any (w.heap.size+1) i (la+1 - i) ls ps _ ds q w4 HSD2.out okd HBL2.out (by rw [hdl]; exact HPS.out) okl (fun b' o' n' c' e=>by injection e with e1; injection e1 with e1; injection e1 with e1; omega) (by omega) (by omega) hq (by omega)
        rw [hdl] at ht
        refine ht.mono ?_
        clear ht
        rintro e w5 ⟨over,rs,rfl,hrl,okr,hrv,hbL5,hk5⟩
        have hO5:Blk w5 w3.heap.size 202 .u32 os:=HBO2.out.of_block (hk5.block w3.heap.size HBO2.out.lt (by omega))
        have HSD5:=Lib.hid (HSD2.out.keep hk5 (fun b' o' n' c' e=>by injection e with e1; injection e1 with e1; injection e1 with e1; omega))
        have hkp5:=HKP2.out.trans (hk5.mono (S':=fun b=>b=(w.heap.size+1)∨b=w3.heap.size) (fun k _ e=>.inl e))
        have hD0:0 < val ds:=by have:=HPT.out; omega
        have HD0:=Lib.hid hD0
        cases over
        · have hex:=take_exact hD0 HQ1.out (by simpa using hrv)
          have hst:=(long_step (ros:=rs) (Q:=q) hll hin HPS.out okl HDL.out hDn HV.out (by omega)).2 hrl hex.2 hex.1
          have HST:=Lib.hid hst
          have HEX:=Lib.hid hex
          have hcO:=hO5.cell (i:=i) (by omega)
          have hfO:=hO5.free i
          have HO5:=Lib.hid hO5
          have HL5:=Lib.hid hbL5
          have HK5:=Lib.hid hkp5
          clear hst hex hO5 hbL5 hkp5 hk5 hrv hD0
          go_wp2_with fail
          obtain ⟨s1,s2,s3⟩:=HST.out
          exact ⟨⟨i,splice ls i rs,os.set i q,by omega,rfl,s1,splice_ok okl okr,by rw [List.length_set]; exact hol,oko.set i q hq,s2,s3,HL5.out.other (by show w3.heap.size≠_; omega) _,HO5.out.set i q,HK5.out.setCell (.inr rfl) _⟩,by simp [intOf] <;> omega⟩
        · have hq0:1≤q:=by
            rcases Nat.eq_zero_or_pos q with e | e
            · subst e
              have:=val_lt okr
              rw [hrl] at this
              simp only [Nat.zero_mul,if_true] at hrv
              omega
            · exact e
          have HRV:=Lib.hid hrv
          have HO5:=Lib.hid hO5
          have HL5:=Lib.hid hbL5
          have HK5:=Lib.hid hkp5
          obtain ⟨q1,eq1,eq1'⟩:∃ q1:Nat,(q:Int) - 1=(q1:Int)∧q - 1=q1:=⟨_,by omega,rfl⟩
          have hq1b:q1 < 4294967296:=by omega
          have HEQ:=Lib.hid eq1'
          clear hO5 hbL5 hkp5 hk5 hrv hD0 eq1'
          go_wp2_with fail
          have ht:=giveBack_any (w.heap.size+1) i (la+1 - i) (splice ls i rs) rs _ ds w5 HSD5.out okd HL5.out (by rw [hdl,← hrl]; exact splice_part (by omega)) (splice_ok okl okr) (fun b' o' n' c' e=>by injection e with e1; injection e1 with e1; injection e1 with e1; omega) (by omega) (by rw [splice_length (by omega)]; omega) (by omega)
          rw [hdl] at ht
          refine ht.mono ?_
          clear ht
          rintro e w6 ⟨rfl,rs2,c,hrl2,okr2,hrv2,hbL6,hk6⟩
          rw [splice_again (by omega) (by omega)] at hbL6
          have hO6:Blk w6 w3.heap.size 202 .u32 os:=HO5.out.of_block (hk6.block w3.heap.size HO5.out.lt (by omega))
          have hkp6:=HK5.out.trans (hk6.mono (S':=fun b=>b=(w.heap.size+1)∨b=w3.heap.size) (fun k _ e=>.inl e))
          have hex:=take_back HD0.out (show val ds≤pw (n+1) by rw [pw_succ]; omega) HQ2.out (by have:=HRV.out; simpa using this) (by rw [← hrl]; exact val_lt okr) hrv2 (by rw [← hrl2]; exact val_lt okr2)
          rw [HEQ.out] at hex
          have hst:=(long_step (ros:=rs2) (Q:=q1) hll hin HPS.out okl HDL.out hDn HV.out (by omega)).2 hrl2 hex.2.2 hex.2.1
          have HST:=Lib.hid hst
          have hcO:=hO6.cell (i:=i) (by omega)
          have hfO:=hO6.free i
          have HO6:=Lib.hid hO6
          have HL6:=Lib.hid hbL6
          have HK6:=Lib.hid hkp6
          clear hst hex hO6 hbL6 hkp6 hk6 hrv2
          go_wp2_with fail
          obtain ⟨s1,s2,s3⟩:=HST.out
          exact ⟨⟨i,splice ls i rs2,os.set i q1,by omega,rfl,s1,splice_ok okl okr2,by rw [List.length_set]; exact hol,oko.set i q1 hq1b,s2,s3,HL6.out.other (by show w3.heap.size≠_; omega) _,HO6.out.set i q1,HK6.out.setCell (.inr rfl) _⟩,by simp [intOf] <;> omega⟩
end Go.Proofs.YthffkbbcofbceaaGreatDoor

namespace Go.Proofs.YthffkbbcofbceaaGreatDoor
open Go.RowKit Cin
theorem wrapB (v:Value) (xs:List Nat) (n k:Nat) (w:World) (h:Sl 202 .u32 w v xs) (ho:Ok xs) (hb:xs.length≤1000000000000) (hn:val xs=n) (hk:n < pw k) :
    Calls Tryz.prog 171 #[v] w fun e w'=>∃ v',e=.returned v'∧NatB 202 w' v' n k∧Below w.heap.size w w':=
  (wrap_any v xs w h ho hb).mono fun _ _ ⟨v',e,h1,h2⟩=>⟨v',e,⟨by rw [← hn]; exact h1,hk⟩,h2⟩
set_option maxRecDepth 100000 in
set_option maxHeartbeats 4000000 in
theorem divBig_any (v u:Value) (x y k j:Nat) (w:World) (h:NatB 202 w v x k) (h':NatB 202 w u y j) (hk:k≤10000000) (hj:j≤10000000) (hxy:y≤x) (hx2:18446744073709551616≤x) (hy2:4294967296≤y) :
    Calls Tryz.prog 180 #[v,u] w fun e w'=>∃ v' u',e=.returned (.tuple #[v',u',.bool true])∧NatB 202 w' v' (x / y) k∧NatB 202 w' u' (x % y) j∧Below w.heap.size w w':=by
  obtain ⟨ad,len,cap,rfl,xs,hs,ho,hnm,hx⟩:=h.shape
  obtain ⟨ad',len',cap',rfl,ys,hs',ho',hnm',hy'⟩:=h'.shape
  have hlx:=hs.len
  have hly:=hs'.len
  have hbx:=val_lt ho
  have hby:=val_lt ho'
  rw [hx,hlx] at hbx
  rw [hy',hly] at hby
  have hl3:2 < len:=by
    rcases Nat.lt_or_ge 2 len with e | e
    · exact e
    · have:=pw_le e; rw [show pw 2=18446744073709551616 from rfl] at this; omega
  have hl2:1 < len':=by
    rcases Nat.lt_or_ge 1 len' with e | e
    · exact e
    · have:=pw_le e; rw [show pw 1=4294967296 from rfl] at this; omega
  have hl:len≤k:=by have:=norm_len hnm (m:=k) (by rw [hx]; exact h.2); omega
  have hl':len'≤j:=by have:=norm_len hnm' (m:=j) (by rw [hy']; exact h'.2); omega
  have hll:len'≤len:=by have:=norm_len hnm' (m:=len) (by rw [hy']; omega); omega
  have htop:lim ys (ys.length - 1)≠0:=(by rcases hnm' with e | e; (rw [e] at hly; simp at hly; omega); exact e)
  have hlb:((len':Int) == 0)=false:=beq_eq_false_iff_ne.2 (by omega)
  have hlb1:((len':Int) == 1)=false:=beq_eq_false_iff_ne.2 (by omega)
  obtain ⟨c,hc,hc0⟩:∃ c:Int,cmpI x y=c∧0≤c∧c≤1:=by
    refine ⟨_,rfl,?_⟩
    unfold cmpI
    repeat' split
    all_goals omega
  have hy0:0 < y:=by omega
  have H:=Lib.hid h
  have H':=Lib.hid h'
  have HS:=Lib.hid hs
  have HS':=Lib.hid hs'
  have HT:=Lib.hid htop
  have HX:=Lib.hid hx
  have HY:=Lib.hid hy'
  have HLX:=Lib.hid hlx
  have HLY:=Lib.hid hly
  clear h h' hs hs' hnm hnm' hx hy' hlx hly htop hbx hby hx2 hy2
  go_enter Tryz.func180,Tryz.ntmps180
  go_wp2_with fail
  have hh:=heldN4 (w:=w) (c0:=#[Value.slice ad len cap]) (t0:=52) (c1:=#[Value.slice ad' len' cap']) (t1:=52) (c2:=#[Value.slice none 0 0]) (t2:=52) (c3:=#[Value.slice none 0 0]) (t3:=52)
  have hbX:=bel_alloc4 w (Obj.cells #[Value.slice ad len cap] 52) (Obj.cells #[Value.slice ad' len' cap'] 52) (Obj.cells #[Value.slice none 0 0] 52) (Obj.cells #[Value.slice none 0 0] 52)
  generalize (((w.alloc (Obj.cells #[Value.slice ad len cap] 52)).alloc (Obj.cells #[Value.slice ad' len' cap'] 52)).alloc (Obj.cells #[Value.slice none 0 0] 52)).alloc (Obj.cells #[Value.slice none 0 0] 52)=X at *
  have hx0:=cell0 hh.1
  have hd0:=cell0 hh.2.1
  have HS0:=Lib.hid (Slot.of (n:=1) hh.2.2.1 rfl)
  have HS1:=Lib.hid (Slot.of (n:=1) hh.2.2.2.1 rfl)
  have HBX:=Lib.hid hbX
  have HX0:=Lib.hid hx0
  have HD0:=Lib.hid hd0
  clear hh hbX hx0 hd0
  refine (cmpB _ _ x y k j _ (H.out.below HBX.out) (H'.out.below HBX.out) hk hj).mono ?_
  rintro e w1 ⟨rfl,hb1⟩
  have hx1:=cell_below HX0.out hb1
  have hd1:=cell_below HD0.out hb1
  have HS0:=Lib.hid (HS0.out.below hb1)
  have HS1:=Lib.hid (HS1.out.below hb1)
  have HB1:=Lib.hid (bel_on HBX.out hb1)
  rw [hc]
  clear hb1
  have hcn:decide (c < 0)=false:=decide_eq_false (by omega)
  go_wp2_with fail
  have HX1:=Lib.hid hx1
  have HD1:=Lib.hid hd1
  clear hx1 hd1
  refine (divideLong_any _ _ xs ys _ (HS.out.below HB1.out) (HS'.out.below HB1.out) ho ho' (by have:=HLY.out; omega) (by have:=HLY.out; have:=HLX.out; omega) (by have:=HLX.out; omega) HT.out).mono ?_
  rintro e w2 ⟨vq,vr,qs,rs,rfl,hq,hr,okq,okr,hqv,hrv,hql,hrl,hb2⟩
  rw [HX.out,HY.out] at hqv hrv
  have HX2:=Lib.hid (cell_below HX1.out hb2)
  have HD2:=Lib.hid (cell_below HD1.out hb2)
  have HS0:=Lib.hid (HS0.out.below hb2)
  have HS1:=Lib.hid (HS1.out.below hb2)
  have HB2:=Lib.hid (bel_on HB1.out hb2)
  have HQ:=Lib.hid hq
  have HR:=Lib.hid hr.sl
  have HQV:=Lib.hid hqv
  have HRV:=Lib.hid hrv
  have hqb:qs.length≤1000000000000:=by have:=HLX.out; omega
  have hrb:rs.length≤1000000000000:=by have:=HLY.out; omega
  have hqk:x / y < pw k:=Nat.lt_of_le_of_lt (Nat.div_le_self _ _) H.out.2
  have hrj:x % y < pw j:=Nat.lt_trans (Nat.mod_lt _ hy0) H'.out.2
  have HQK:=Lib.hid hqk
  have HRJ:=Lib.hid hrj
  clear hb2 hq hr hqv hrv hql hrl hqk hrj
  go_wp2_with fail
  refine (wrapB vq qs (x / y) k _ HQ.out okq hqb HQV.out HQK.out).mono ?_
  rintro e w3 ⟨vq',rfl,hn3,hb3⟩
  obtain ⟨adQ,lenQ,capQ,rfl⟩:=hn3.shape2
  have HR3:=Lib.hid (HR.out.below hb3)
  have HN3:=Lib.hid hn3
  have HS0:=Lib.hid (HS0.out.below hb3)
  have HS1:=Lib.hid (HS1.out.below hb3)
  have HB3:=Lib.hid (bel_on HB2.out hb3)
  clear hn3 hb3
  go_wp2_with fail
  refine (wrapB vr rs (x % y) j _ HR3.out okr hrb HRV.out HRJ.out).mono ?_
  rintro e w4 ⟨vr',rfl,hn4,hb4⟩
  obtain ⟨adR,lenR,capR,rfl⟩:=hn4.shape2
  have HN4:=Lib.hid hn4
  have HNQ:=Lib.hid (HN3.out.below hb4)
  have HT0:=Lib.hid (HS0.out.below hb4)
  have HT1:=Lib.hid (HS1.out.below hb4)
  have HB4:=Lib.hid (bel_on HB3.out hb4)
  obtain ⟨z0,hz0,hf0⟩:=HT0.out.one
  obtain ⟨z1,hz1,hf1⟩:=(HT1.out.set (w.heap.size+1+1) 0 (.slice adQ lenQ capQ)).one
  clear hn4 hb4
  have HF:=Lib.hid (fin_nat2 HNQ.out HN4.out HT0.out HT1.out (by decide) (by decide) HB4.out (by omega) (by omega) (by omega) rfl)
  go_wp2_with fail
  refine bodyPost_ret (v:=.tuple #[.agg #[.slice adQ lenQ capQ],.agg #[.slice adR lenR capR],.bool true]) (by simp [results,Tryz.results180,go_sem,HF.out.2.2.2.1,HF.out.2.2.2.2]) rfl ⟨_,_,rfl,HF.out.1,HF.out.2.1,HF.out.2.2.1⟩
end Go.Proofs.YthffkbbcofbceaaGreatDoor

namespace Go.Proofs.YthffkbbcofbceaaGreatDoor
open Go.RowKit Cin
set_option maxRecDepth 100000 in
set_option maxHeartbeats 2000000 in
theorem cloneB (v:Value) (x k:Nat) (w:World) (h:NatB 202 w v x k) (hk:k≤10000000) :
    Calls Tryz.prog 208 #[v] w fun e w'=>∃ v',e=.returned v'∧NatB 202 w' v' x k∧Below w.heap.size w w':=by
  obtain ⟨ad,len,cap,rfl,xs,hs,ho,hnm,hx⟩:=h.shape
  have hlx:=hs.len
  have hl:len≤k:=by have:=norm_len hnm (m:=k) (by rw [hx]; exact h.2); omega
  have H:=Lib.hid h.2
  have HS:=Lib.hid hs
  have HNM:=Lib.hid hnm
  have HX:=Lib.hid hx
  have HLX:=Lib.hid hlx
  clear h hs hnm hx hlx
  go_enter Tryz.func208,Tryz.ntmps208
  go_wp2_with fail
  have hh:=heldN2 (w:=w) (c0:=#[Value.slice ad len cap]) (t0:=52) (c1:=#[Value.slice none 0 0]) (t1:=52)
  have hbX:=bel_alloc2 w (Obj.cells #[Value.slice ad len cap] 52) (Obj.cells #[Value.slice none 0 0] 52)
  generalize (w.alloc (Obj.cells #[Value.slice ad len cap] 52)).alloc (Obj.cells #[Value.slice none 0 0] 52)=X at *
  have HS0:=Lib.hid (Slot.of (n:=1) hh.2.1 rfl)
  have HBX:=Lib.hid hbX
  clear hh hbX
  refine (cloneSl_any _ xs _ (HS.out.below HBX.out) (by have:=HLX.out; omega)).mono ?_
  rintro e w1 ⟨v',rfl,how,hb1⟩
  obtain ⟨adR,capR,ev,_,_⟩:=how.sl.shape
  rw [HLX.out] at ev
  subst ev
  have HO:=Lib.hid how.sl
  have HT:=Lib.hid (HS0.out.below hb1)
  have HB1:=Lib.hid (bel_on HBX.out hb1)
  obtain ⟨z0,hz0,hf0⟩:=HT.out.one
  have HN:=Lib.hid (show NatB 202 w1 (.agg #[.slice adR len capR]) x k from ⟨⟨_,rfl,xs,HO.out,ho,HNM.out,HX.out⟩,H.out⟩)
  have HF:=Lib.hid (HN.out.slot HT.out (by decide) 0 (.slice adR len capR))
  have HC:=Lib.hid (HT.out.set1 (.slice adR len capR))
  clear how hb1
  go_wp2_with fail
  refine bodyPost_ret (v:=.agg #[.slice adR len capR]) (by simp [results,Tryz.results208,go_sem,HC.out]) rfl ⟨_,rfl,HF.out,bel_set1 HB1.out (by omega)⟩
set_option maxRecDepth 100000 in
set_option maxHeartbeats 4000000 in
theorem divLess_any (v u:Value) (x y k j:Nat) (w:World) (h:NatB 202 w v x k) (h':NatB 202 w u y j) (hk:k≤10000000) (hj:j≤10000000) (hxy:x < y) (hy2:18446744073709551616≤y) :
    Calls Tryz.prog 180 #[v,u] w fun e w'=>∃ v' u',e=.returned (.tuple #[v',u',.bool true])∧NatB 202 w' v' (x / y) k∧NatB 202 w' u' (x % y) j∧Below w.heap.size w w':=by
  rw [Nat.div_eq_of_lt hxy,Nat.mod_eq_of_lt hxy]
  obtain ⟨ad,len,cap,rfl,xs,hs,ho,hnm,hx⟩:=h.shape
  obtain ⟨ad',len',cap',rfl,ys,hs',ho',hnm',hy'⟩:=h'.shape
  have hly:=hs'.len
  have hby:=val_lt ho'
  rw [hy',hly] at hby
  have hl3:2 < len':=by
    rcases Nat.lt_or_ge 2 len' with e | e
    · exact e
    · have:=pw_le e; rw [show pw 2=18446744073709551616 from rfl] at this; omega
  have hl:len≤k:=by have:=hs.len; have:=norm_len hnm (m:=k) (by rw [hx]; exact h.2); omega
  have hl':len'≤j:=by have:=norm_len hnm' (m:=j) (by rw [hy']; exact h'.2); omega
  have hlb:((len':Int) == 0)=false:=beq_eq_false_iff_ne.2 (by omega)
  have hc:cmpI x y=-1:=by unfold cmpI; rw [if_pos hxy]
  have H:=Lib.hid h
  have H':=Lib.hid h'
  have HXJ:=Lib.hid (show NatB 202 w (.agg #[.slice ad len cap]) x j from ⟨h.1,Nat.lt_trans hxy h'.2⟩)
  clear h h' hs hs' hnm hnm' hx hy' hly hby hy2 ho ho'
  by_cases hl2:len≤2
  · go_enter Tryz.func180,Tryz.ntmps180
    go_wp2_with fail
    have hh:=heldN4 (w:=w) (c0:=#[Value.slice ad len cap]) (t0:=52) (c1:=#[Value.slice ad' len' cap']) (t1:=52) (c2:=#[Value.slice none 0 0]) (t2:=52) (c3:=#[Value.slice none 0 0]) (t3:=52)
    have hbX:=bel_alloc4 w (Obj.cells #[Value.slice ad len cap] 52) (Obj.cells #[Value.slice ad' len' cap'] 52) (Obj.cells #[Value.slice none 0 0] 52) (Obj.cells #[Value.slice none 0 0] 52)
    generalize (((w.alloc (Obj.cells #[Value.slice ad len cap] 52)).alloc (Obj.cells #[Value.slice ad' len' cap'] 52)).alloc (Obj.cells #[Value.slice none 0 0] 52)).alloc (Obj.cells #[Value.slice none 0 0] 52)=X at *
    have hx0:=cell0 hh.1
    have hd0:=cell0 hh.2.1
    have HS0:=Lib.hid (Slot.of (n:=1) hh.2.2.1 rfl)
    have HS1:=Lib.hid (Slot.of (n:=1) hh.2.2.2.1 rfl)
    have HBX:=Lib.hid hbX
    have HX0:=Lib.hid hx0
    have HD0:=Lib.hid hd0
    clear hh hbX hx0 hd0
    refine (cmpB _ _ x y k j _ (H.out.below HBX.out) (H'.out.below HBX.out) hk hj).mono ?_
    rintro e w1 ⟨rfl,hb1⟩
    have hx1:=cell_below HX0.out hb1
    have hd1:=cell_below HD0.out hb1
    have HS0:=Lib.hid (HS0.out.below hb1)
    have HS1:=Lib.hid (HS1.out.below hb1)
    have HB1:=Lib.hid (bel_on HBX.out hb1)
    rw [hc]
    clear hb1
    go_wp2_with fail
    refine (cloneB _ x j _ (HXJ.out.below HB1.out) hj).mono ?_
    rintro e w4 ⟨vr',rfl,hn4,hb4⟩
    obtain ⟨adR,lenR,capR,rfl⟩:=hn4.shape2
    have HN4:=Lib.hid hn4
    have HNQ:=Lib.hid (show NatB 202 w4 (.agg #[.slice none 0 0]) 0 k from ⟨⟨_,rfl,[],Sl.nil _ _ _,Ok.nil,.inl rfl,rfl⟩,pw_pos k⟩)
    have HT0:=Lib.hid (HS0.out.below hb4)
    have HT1:=Lib.hid (HS1.out.below hb4)
    have HB4:=Lib.hid (bel_on HB1.out hb4)
    obtain ⟨z0,hz0,hf0⟩:=HT0.out.one
    obtain ⟨z1,hz1,hf1⟩:=(HT1.out.set (w.heap.size+1+1) 0 (.slice none 0 0)).one
    clear hn4 hb4
    have HF:=Lib.hid (fin_nat2 HNQ.out HN4.out HT0.out HT1.out (by decide) (by decide) HB4.out (by omega) (by omega) (by omega) rfl)
    go_wp2_with fail
    refine bodyPost_ret (v:=.tuple #[.agg #[.slice none 0 0],.agg #[.slice adR lenR capR],.bool true]) (by simp [results,Tryz.results180,go_sem,HF.out.2.2.2.1,HF.out.2.2.2.2]) rfl ⟨_,_,rfl,HF.out.1,HF.out.2.1,HF.out.2.2.1⟩
  · go_enter Tryz.func180,Tryz.ntmps180
    go_wp2_with fail
    have hh:=heldN4 (w:=w) (c0:=#[Value.slice ad len cap]) (t0:=52) (c1:=#[Value.slice ad' len' cap']) (t1:=52) (c2:=#[Value.slice none 0 0]) (t2:=52) (c3:=#[Value.slice none 0 0]) (t3:=52)
    have hbX:=bel_alloc4 w (Obj.cells #[Value.slice ad len cap] 52) (Obj.cells #[Value.slice ad' len' cap'] 52) (Obj.cells #[Value.slice none 0 0] 52) (Obj.cells #[Value.slice none 0 0] 52)
    generalize (((w.alloc (Obj.cells #[Value.slice ad len cap] 52)).alloc (Obj.cells #[Value.slice ad' len' cap'] 52)).alloc (Obj.cells #[Value.slice none 0 0] 52)).alloc (Obj.cells #[Value.slice none 0 0] 52)=X at *
    have hx0:=cell0 hh.1
    have hd0:=cell0 hh.2.1
    have HS0:=Lib.hid (Slot.of (n:=1) hh.2.2.1 rfl)
    have HS1:=Lib.hid (Slot.of (n:=1) hh.2.2.2.1 rfl)
    have HBX:=Lib.hid hbX
    have HX0:=Lib.hid hx0
    have HD0:=Lib.hid hd0
    clear hh hbX hx0 hd0
    refine (cmpB _ _ x y k j _ (H.out.below HBX.out) (H'.out.below HBX.out) hk hj).mono ?_
    rintro e w1 ⟨rfl,hb1⟩
    have hx1:=cell_below HX0.out hb1
    have hd1:=cell_below HD0.out hb1
    have HS0:=Lib.hid (HS0.out.below hb1)
    have HS1:=Lib.hid (HS1.out.below hb1)
    have HB1:=Lib.hid (bel_on HBX.out hb1)
    rw [hc]
    clear hb1
    go_wp2_with fail
    refine (cloneB _ x j _ (HXJ.out.below HB1.out) hj).mono ?_
    rintro e w4 ⟨vr',rfl,hn4,hb4⟩
    obtain ⟨adR,lenR,capR,rfl⟩:=hn4.shape2
    have HN4:=Lib.hid hn4
    have HNQ:=Lib.hid (show NatB 202 w4 (.agg #[.slice none 0 0]) 0 k from ⟨⟨_,rfl,[],Sl.nil _ _ _,Ok.nil,.inl rfl,rfl⟩,pw_pos k⟩)
    have HT0:=Lib.hid (HS0.out.below hb4)
    have HT1:=Lib.hid (HS1.out.below hb4)
    have HB4:=Lib.hid (bel_on HB1.out hb4)
    obtain ⟨z0,hz0,hf0⟩:=HT0.out.one
    obtain ⟨z1,hz1,hf1⟩:=(HT1.out.set (w.heap.size+1+1) 0 (.slice none 0 0)).one
    clear hn4 hb4
    have HF:=Lib.hid (fin_nat2 HNQ.out HN4.out HT0.out HT1.out (by decide) (by decide) HB4.out (by omega) (by omega) (by omega) rfl)
    go_wp2_with fail
    refine bodyPost_ret (v:=.tuple #[.agg #[.slice none 0 0],.agg #[.slice adR lenR capR],.bool true]) (by simp [results,Tryz.results180,go_sem,HF.out.2.2.2.1,HF.out.2.2.2.2]) rfl ⟨_,_,rfl,HF.out.1,HF.out.2.1,HF.out.2.2.1⟩
end Go.Proofs.YthffkbbcofbceaaGreatDoor

namespace Go.Proofs.YthffkbbcofbceaaGreatDoor
open Go.RowKit Cin
set_option maxRecDepth 100000 in
set_option maxHeartbeats 4000000 in
theorem divOne_any (v u:Value) (x y k j:Nat) (w:World) (h:NatB 202 w v x k) (h':NatB 202 w u y j) (hk:k≤10000000) (hj:j≤10000000) (hx2:18446744073709551616≤x) (hy0:0 < y) (hy2:y < 4294967296) :
    Calls Tryz.prog 180 #[v,u] w fun e w'=>∃ v' u',e=.returned (.tuple #[v',u',.bool true])∧NatB 202 w' v' (x / y) k∧NatB 202 w' u' (x % y) j∧Below w.heap.size w w':=by
  obtain ⟨ad,len,cap,rfl,xs,hs,ho,hnm,hx⟩:=h.shape
  obtain ⟨ad',len',cap',rfl,ys,hs',ho',hnm',hy'⟩:=h'.shape
  have hlx:=hs.len
  have hly:=hs'.len
  have hbx:=val_lt ho
  rw [hx,hlx] at hbx
  have hl3:2 < len:=by
    rcases Nat.lt_or_ge 2 len with e | e
    · exact e
    · have:=pw_le e; rw [show pw 2=18446744073709551616 from rfl] at this; omega
  have hl1:len'=1:=by
    have h1:=norm_len hnm' (m:=1) (by rw [hy']; exact hy2)
    rcases Nat.eq_zero_or_pos len' with e | e
    · rw [e] at hly; rw [List.length_eq_zero_iff.1 hly] at hy'; rw [val_nil] at hy'; omega
    · omega
  subst hl1
  have hyl:lim ys 0=y:=by
    have h1:=val_take_succ (xs:=ys) (i:=0) (by omega)
    rw [List.take_of_length_le (by omega),List.take_zero,val_nil,pw_zero,hy'] at h1
    omega
  have hl:len≤k:=by have:=norm_len hnm (m:=k) (by rw [hx]; exact h.2); omega
  obtain ⟨c,hc,hc0⟩:∃ c:Int,cmpI x y=c∧0≤c∧c≤1:=by
    refine ⟨_,rfl,?_⟩
    unfold cmpI
    repeat' split
    all_goals omega
  obtain ⟨bY,oY,e1,hcy,_⟩:=hs'.cell (i:=0) (by omega)
  subst e1
  rw [hyl] at hcy
  have hqk:x / y < pw k:=Nat.lt_of_le_of_lt (Nat.div_le_self _ _) h.2
  have hmy:=Nat.mod_lt x hy0
  have hrj:x % y < pw j:=Nat.lt_trans hmy h'.2
  obtain ⟨r,hr⟩:∃ r,x % y=r:=⟨_,rfl⟩
  rw [hr] at hmy hrj ⊢
  have HQK:=Lib.hid hqk
  have HRJ:=Lib.hid hrj
  have HR:=Lib.hid hr
  have H:=Lib.hid h
  have H':=Lib.hid h'
  have HS:=Lib.hid hs
  have HX:=Lib.hid hx
  have HLX:=Lib.hid hlx
  have HCY:=Lib.hid hcy
  clear h h' hs hs' hnm hnm' hx hy' hlx hly hbx hx2 hyl hqk hrj hr hcy ho'
  go_enter Tryz.func180,Tryz.ntmps180
  go_wp2_with fail
  have hh:=heldN4 (w:=w) (c0:=#[Value.slice ad len cap]) (t0:=52) (c1:=#[Value.slice (some ⟨bY,oY,none⟩) 1 cap']) (t1:=52) (c2:=#[Value.slice none 0 0]) (t2:=52) (c3:=#[Value.slice none 0 0]) (t3:=52)
  have hbX:=bel_alloc4 w (Obj.cells #[Value.slice ad len cap] 52) (Obj.cells #[Value.slice (some ⟨bY,oY,none⟩) 1 cap'] 52) (Obj.cells #[Value.slice none 0 0] 52) (Obj.cells #[Value.slice none 0 0] 52)
  generalize (((w.alloc (Obj.cells #[Value.slice ad len cap] 52)).alloc (Obj.cells #[Value.slice (some ⟨bY,oY,none⟩) 1 cap'] 52)).alloc (Obj.cells #[Value.slice none 0 0] 52)).alloc (Obj.cells #[Value.slice none 0 0] 52)=X at *
  have hx0:=cell0 hh.1
  have hd0:=cell0 hh.2.1
  have HS0:=Lib.hid (Slot.of (n:=1) hh.2.2.1 rfl)
  have HS1:=Lib.hid (Slot.of (n:=1) hh.2.2.2.1 rfl)
  have HBX:=Lib.hid hbX
  have HX0:=Lib.hid hx0
  have HD0:=Lib.hid hd0
  clear hh hbX hx0 hd0
  refine (cmpB _ _ x y k j _ (H.out.below HBX.out) (H'.out.below HBX.out) hk hj).mono ?_
  rintro e w1 ⟨rfl,hb1⟩
  have hx1:=cell_below HX0.out hb1
  have hd1:=cell_below HD0.out hb1
  have HS0:=Lib.hid (HS0.out.below hb1)
  have HS1:=Lib.hid (HS1.out.below hb1)
  have HB1:=Lib.hid (bel_on HBX.out hb1)
  rw [hc]
  clear hb1
  have hcn:decide (c < 0)=false:=decide_eq_false (by omega)
  go_wp2_with fail
  have HX1:=Lib.hid hx1
  have HD1:=Lib.hid hd1
  clear hx1 hd1
  refine (cloneSl_any _ xs _ (HS.out.below HB1.out) (by have:=HLX.out; omega)).mono ?_
  rintro e w2 ⟨v2,rfl,how,hb2⟩
  obtain ⟨g,cap2,rfl,hg,hg2⟩:∃ g cap2,v2=.slice (some ⟨g,0,none⟩) len cap2∧w1.heap.size≤g∧g < w2.heap.size:=by
    rcases how.shape with ⟨_,e⟩ | ⟨g,cap2,e,h1,h2,_⟩
    · have:=HLX.out; rw [e] at this; simp at this; omega
    · exact ⟨g,cap2,by rw [← HLX.out]; exact e,h1,h2⟩
  have hd2:=cell_below HD1.out hb2
  have hcy2:=cell_below HCY.out (bel_on HB1.out hb2)
  have HOW:=Lib.hid how
  have HB2:=Lib.hid hb2
  clear how hb2
  have hcy3:w2.cell? ⟨bY,oY,none⟩=some (.int .u32 (y:Nat)):=by simpa using hcy2
  go_wp2_with fail
  refine (divLimb_any g len cap2 xs y _ _ HOW.out HLX.out.symm ho hy0 hy2 (by omega)).mono ?_
  rintro e w3 ⟨zs,rfl,how3,hzl,okz,hzv,hk3⟩
  have hb3:Below w1.heap.size w1 w3:=HB2.out.trans (hk3.below (B:=w1.heap.size) (HB2.out.size) (fun k e=>by omega))
  rw [HX.out] at hzv
  rw [HX.out,HR.out]
  have HZ:=Lib.hid how3.sl
  have HZV:=Lib.hid hzv
  have HT0:=Lib.hid (HS0.out.below hb3)
  have HT1:=Lib.hid (HS1.out.below hb3)
  have HB3:=Lib.hid (bel_on HB1.out hb3)
  clear how3 hzv hk3 hb3 hd2 hcy2 hcy3
  go_wp2_with fail
  refine (wrapB _ zs (x / y) k _ HZ.out okz (by omega) HZV.out HQK.out).mono ?_
  rintro e w4 ⟨vq',rfl,hn3,hb4⟩
  obtain ⟨adQ,lenQ,capQ,rfl⟩:=hn3.shape2
  have HN3:=Lib.hid hn3
  have HT0:=Lib.hid (HT0.out.below hb4)
  have HT1:=Lib.hid (HT1.out.below hb4)
  have HB4:=Lib.hid (bel_on HB3.out hb4)
  clear hn3 hb4
  go_wp2_with fail
  refine (ofB r _ (by omega)).mono ?_
  rintro e w5 ⟨vr',rfl,hn5,hb5⟩
  obtain ⟨adR,lenR,capR,rfl⟩:=hn5.shape2
  have HN5:=Lib.hid (show NatB 202 w5 (.agg #[.slice adR lenR capR]) r j from ⟨hn5.1,HRJ.out⟩)
  have HNQ:=Lib.hid (HN3.out.below hb5)
  have HT0:=Lib.hid (HT0.out.below hb5)
  have HT1:=Lib.hid (HT1.out.below hb5)
  have HB5:=Lib.hid (bel_on HB4.out hb5)
  obtain ⟨z0,hz0,hf0⟩:=HT0.out.one
  obtain ⟨z1,hz1,hf1⟩:=(HT1.out.set (w.heap.size+1+1) 0 (.slice adQ lenQ capQ)).one
  clear hn5 hb5
  have HF:=Lib.hid (fin_nat2 HNQ.out HN5.out HT0.out HT1.out (by decide) (by decide) HB5.out (by omega) (by omega) (by omega) rfl)
  go_wp2_with fail
  refine bodyPost_ret (v:=.tuple #[.agg #[.slice adQ lenQ capQ],.agg #[.slice adR lenR capR],.bool true]) (by simp [results,Tryz.results180,go_sem,HF.out.2.2.2.1,HF.out.2.2.2.2]) rfl ⟨_,_,rfl,HF.out.1,HF.out.2.1,HF.out.2.2.1⟩
theorem divTells (x y k j:Nat) (hk:k≤10000000) (hj:j≤10000000) (hy:y≠0):DivTells x y k j:=by
  intro w v u h h'
  have hq:x / y < pw k:=Nat.lt_of_le_of_lt (Nat.div_le_self _ _) h.2
  have hr:x % y < pw j:=Nat.lt_trans (Nat.mod_lt _ (Nat.pos_of_ne_zero hy)) h'.2
  by_cases hs:x < 18446744073709551616∧y < 18446744073709551616
  · exact (divSmall_any v u x y w ⟨h.1,hs.1⟩ ⟨h'.1,hs.2⟩ hy).mono fun _ _ ⟨v',u',e,h1,h2,h3⟩=>⟨v',u',e,⟨h1.1,hq⟩,⟨h2.1,hr⟩,h3⟩
  · rcases Nat.lt_or_ge x y with h1 | h1
    · exact divLess_any v u x y k j w h h' hk hj h1 (by omega)
    · rcases Nat.lt_or_ge y 4294967296 with h2 | h2
      · exact divOne_any v u x y k j w h h' hk hj (by omega) (by omega) h2
      · exact divBig_any v u x y k j w h h' hk hj h1 (by omega) h2
end Go.Proofs.YthffkbbcofbceaaGreatDoor
