/- Long division: one round, and the end. No program. -/
import Derived.Test.YthffkbbcofbceaaGreatDoorYj
import Derived.Test.YthffkbbcofbceaaGreatDoorYg
import Derived.Test.YthffkbbcofbceaaGreatDoorYf
import Derived.Test.YthffkbbcofbceaaGreatDoorYi
namespace Cin
theorem take_exact {p D q o:Nat} (hD:0 < D) (hQ:p / D≤q) (ho:o+q * D=p):q=p / D∧o=p % D:=by
  have h1:q≤p / D:=by rw [Nat.le_div_iff_mul_le hD]; omega
  have h2:q=p / D:=Nat.le_antisymm h1 hQ
  refine ⟨h2,?_⟩
  have:=Nat.div_add_mod p D
  rw [h2,Nat.mul_comm] at ho
  omega
theorem take_back {p D q o o2 c W:Nat} (hD:0 < D) (hW:D≤W) (hq:q * D≤p+D) (ho:o+q * D=p+W) (hob:o < W) (ho2:o2+W * c=o+D) (ho2b:o2 < W):1≤q∧q - 1=p / D∧o2=p % D:=by
  have h1:p < q * D:=by omega
  have h2:1≤q:=by
    rcases Nat.eq_zero_or_pos q with e | e
    · subst e; omega
    · exact e
  obtain ⟨r,rfl⟩:∃ r,q=r+1:=⟨q - 1,by omega⟩
  rw [Nat.add_mul,Nat.one_mul] at hq ho h1
  have h3:r=p / D:=by
    refine Nat.le_antisymm (by rw [Nat.le_div_iff_mul_le hD]; omega) ?_
    have:p / D < r+1:=by rw [Nat.div_lt_iff_lt_mul hD,Nat.add_mul,Nat.one_mul]; exact h1
    omega
  have hm:=Nat.div_add_mod p D
  have hml:=Nat.mod_lt p hD
  rw [← h3,Nat.mul_comm] at hm
  refine ⟨h2,by rw [Nat.add_sub_cancel]; exact h3,?_⟩
  have hc:c=1:=by
    rcases Nat.lt_or_ge c 1 with h | h
    · obtain rfl:c=0:=by omega
      omega
    · rcases Nat.lt_or_ge 1 c with h' | h'
      · have:W * 2≤W * c:=Nat.mul_le_mul_left _ h'
        omega
      · omega
  subst hc
  omega
theorem drop_drop_take {ls:List Nat} {i n:Nat} (h:i+n≤ls.length):val (ls.drop i)=val ((ls.drop i).take n)+pw n * val (ls.drop (i+n)):=by
  rw [val_split (ls.drop i) n (by rw [List.length_drop]; omega),List.drop_drop]
theorem long_step {ls os ros ps:List Nat} {i n la X D Q:Nat} (hl:ls.length=la+1) (hi:i+n+1≤la+1) (hps:(ls.drop i).take (n+1)=ps) (ok:Ok ls) (hlt:val (ls.drop (i+1)) < D) (hD:D < pw n)
    (hv:val ls+D * (pw (i+1) * val (os.drop (i+1)))=X) (hio:i < os.length) :
    val ps < 4294967296 * D∧(ros.length=n+1→val ros=val ps % D→Q=val ps / D→(splice ls i ros).length=la+1∧val (splice ls i ros)+D * (pw i * val ((os.set i Q).drop i))=X∧val ((splice ls i ros).drop i) < D):=by
  have hz:val (ls.drop (i+(n+1)))=0:=by
    have h1:=drop_drop_take (ls:=ls) (i:=i+1) (n:=n) (by omega)
    rcases Nat.eq_zero_or_pos (val (ls.drop (i+1+n))) with h2 | h2
    · rw [show i+(n+1)=i+1+n by omega]; exact h2
    · have:pw n * 1≤pw n * val (ls.drop (i+1+n)):=Nat.mul_le_mul_left _ h2
      omega
  have hpv:val (ls.drop i)=val ps:=by
    have h1:=drop_drop_take (ls:=ls) (i:=i) (n:=n+1) (by omega)
    rw [hz,Nat.mul_zero,Nat.add_zero,hps] at h1
    exact h1
  have hlim:=lim_lt ok i
  have hstep:=val_drop_step ls i
  refine ⟨by omega,fun hr hrv hQ=>?_⟩
  have hsl:(splice ls i ros).length=la+1:=by rw [splice_length (by omega),hl]
  have hsd:(splice ls i ros).drop i=ros++ls.drop (i+(n+1)):=by
    unfold splice
    rw [List.append_assoc,List.drop_left' (by rw [List.length_take]; omega),hr]
  have hst:(splice ls i ros).take i=ls.take i:=by
    unfold splice
    rw [List.append_assoc,List.take_left' (by rw [List.length_take]; omega)]
  have hsv:val ((splice ls i ros).drop i)=val ros:=by rw [hsd,val_append,hz,Nat.mul_zero,Nat.add_zero]
  have hD0:0 < D:=by omega
  refine ⟨hsl,?_,by rw [hsv,hrv]; exact Nat.mod_lt _ hD0⟩
  have e1:=val_split (splice ls i ros) i (by omega)
  have e2:=val_split ls i (by omega)
  rw [hst,hsv,hrv] at e1
  rw [hpv] at e2
  have e3:val ((os.set i Q).drop i)=Q+4294967296 * val (os.drop (i+1)):=by
    rw [val_drop_step,lim_set_same hio,List.drop_set_of_lt (by omega)]
  have hm:=Nat.div_add_mod (val ps) D
  rw [← hQ] at hm
  have e4:pw i * val ps=D * (pw i * Q)+pw i * (val ps % D):=by
    conv=>lhs; rw [← hm]
    rw [Nat.mul_add,Nat.mul_left_comm]
  have e5:D * (pw i * val ((os.set i Q).drop i))=D * (pw i * Q)+D * (pw (i+1) * val (os.drop (i+1))):=by
    rw [e3,Nat.mul_add,Nat.mul_add,pw_succ,Nat.mul_comm 4294967296 (pw i),Nat.mul_assoc (pw i)]
  omega
theorem long_end {x y s L O:Nat} (hy:0 < y) (h:L+y * 2 ^ s * O=x * 2 ^ s) (hl:L < y * 2 ^ s):O=x / y∧L / 2 ^ s=x % y:=by
  have hp:0 < 2 ^ s:=Nat.pow_pos (by decide)
  have hD:0 < y * 2 ^ s:=Nat.mul_pos hy hp
  have h1:O=x * 2 ^ s / (y * 2 ^ s):=by rw [← h,Nat.add_mul_div_left _ _ hD,Nat.div_eq_of_lt hl,Nat.zero_add]
  have h2:L=x * 2 ^ s % (y * 2 ^ s):=by rw [← h,Nat.add_mul_mod_self_left,Nat.mod_eq_of_lt hl]
  rw [Nat.mul_div_mul_right _ _ hp] at h1
  rw [Nat.mul_mod_mul_right] at h2
  exact ⟨h1,by rw [h2,Nat.mul_div_cancel _ hp]⟩
theorem long_begin {ls ds:List Nat} {n la s x:Nat} (hl:ls.length=la+1) (hd:ds.length=n) (hn:1≤n) (hla:n≤la) (ok:Ok ls) (hv:val ls=x * 2 ^ s) (hx:x < pw la) (hhi:2 ^ s≤lim ds (n - 1)):val (ls.drop (la - n+1)) < val ds:=by
  have h0:0 < 2 ^ s:=Nat.pow_pos (by decide)
  have h1:lim ls la < 2 ^ s:=by
    have e:=val_split ls la (by omega)
    have e2:=val_drop_step ls la
    rw [List.drop_of_length_le (show ls.length≤la+1 by omega),val_nil,Nat.mul_zero,Nat.add_zero] at e2
    rw [e2] at e
    have h2:pw la * lim ls la < pw la * 2 ^ s:=by
      have:x * 2 ^ s < pw la * 2 ^ s:=Nat.mul_lt_mul_of_pos_right hx h0
      omega
    exact Nat.lt_of_mul_lt_mul_left h2
  refine val_lt_of_top (i:=n - 1) (ok.drop _) (by rw [List.length_drop]; omega) (by rw [List.length_drop]; omega) (fun j h2 h3=>?_) ?_
  · rw [List.length_drop] at h3; omega
  · rw [lim_drop,show la - n+1+(n - 1)=la by omega]; omega
theorem shift_fit {ys:List Nat} {m s:Nat} (hl:ys.length=m+1) (oy:Ok ys) (h2:lim ys m * 2 ^ s < 2 ^ 32) (hs:s≤32):val ys * 2 ^ s < pw (m+1):=by
  have h0:0 < 2 ^ s:=Nat.pow_pos (by decide)
  have hr:=val_lt (oy.take m)
  rw [List.length_take,Nat.min_eq_left (by omega)] at hr
  have hv:=val_take_succ (xs:=ys) (i:=m) (by omega)
  rw [List.take_of_length_le (by omega)] at hv
  have e32:(2:Nat) ^ 32=2 ^ (32 - s) * 2 ^ s:=by rw [← Nat.pow_add]; congr 1; omega
  rw [e32] at h2
  have h3:lim ys m+1≤2 ^ (32 - s):=Nat.lt_of_mul_lt_mul_right h2
  have h4:val ys < pw m * (lim ys m+1):=by rw [Nat.mul_add,Nat.mul_one]; omega
  have h5:val ys * 2 ^ s < pw m * (lim ys m+1) * 2 ^ s:=Nat.mul_lt_mul_of_pos_right h4 h0
  have h6:pw m * (lim ys m+1) * 2 ^ s≤pw m * (2 ^ (32 - s) * 2 ^ s):=by
    rw [Nat.mul_assoc]; exact Nat.mul_le_mul_left _ (Nat.mul_le_mul_right _ h3)
  rw [← e32] at h6
  have h7:pw (m+1)=pw m * 2 ^ 32:=by rw [pw,pw,Nat.pow_succ]
  omega
theorem val_top {ys:List Nat} {m:Nat} (hl:ys.length=m+1):val ys=val (ys.take m)+pw m * lim ys m:=by
  have h1:=val_take_succ (xs:=ys) (i:=m) (by omega)
  rwa [List.take_of_length_le (by omega)] at h1
theorem shift_big {ys:List Nat} {m s:Nat} (hl:ys.length=m+1) (_:Ok ys) (h1:2 ^ 31≤lim ys m * 2 ^ s):pw m * 2 ^ 31≤val ys * 2 ^ s:=by
  rw [val_top hl,Nat.add_mul,Nat.mul_assoc]
  have:=Nat.mul_le_mul_left (pw m) h1
  omega
theorem lim_top_zero {ds:List Nat} {n:Nat} (hl:ds.length=n+1) (_:Ok ds) (h:val ds < pw n):lim ds n=0:=by
  rcases Nat.eq_zero_or_pos (lim ds n) with h0 | h0
  · exact h0
  · have h1:=val_top hl
    have:pw n * 1≤pw n * lim ds n:=Nat.mul_le_mul_left _ h0
    omega
theorem lim_top_big {ds:List Nat} {m:Nat} (hl:ds.length=m+1) (od:Ok ds) (h:pw m * 2 ^ 31≤val ds):2 ^ 31≤lim ds m:=by
  have hr:=val_lt (od.take m)
  rw [List.length_take,Nat.min_eq_left (by omega)] at hr
  have h1:=val_top hl
  have h2:pw m * 2 ^ 31 < pw m * (lim ds m+1):=by rw [Nat.mul_add]; omega
  have:=Nat.lt_of_mul_lt_mul_left h2
  omega
theorem splice_again {ls rs rs2:List Nat} {i:Nat} (h:rs2.length=rs.length) (hi:i+rs.length≤ls.length):splice (splice ls i rs) i rs2=splice ls i rs2:=by
  have e1:(splice ls i rs).take i=ls.take i:=by
    unfold splice
    rw [List.append_assoc,List.take_left' (by rw [List.length_take]; omega)]
  have e2:(splice ls i rs).drop (i+rs.length)=ls.drop (i+rs.length):=by
    unfold splice
    rw [List.drop_left' (by rw [List.length_append,List.length_take]; omega)]
  rw [splice,e1,h,e2,splice,h]
theorem splice_whole {ls rs:List Nat} (h:rs.length=ls.length):splice ls 0 rs=rs:=by
  unfold splice
  rw [List.take_zero,List.nil_append,List.drop_of_length_le (by omega),List.append_nil]
theorem val_take_small {rs:List Nat} {n:Nat} (hn:n≤rs.length) (h:val rs < pw n):val (rs.take n)=val rs:=by
  have h1:=val_split rs n hn
  rcases Nat.eq_zero_or_pos (val (rs.drop n)) with h2 | h2
  · rw [h2,Nat.mul_zero,Nat.add_zero] at h1; exact h1.symm
  · have:pw n * 1≤pw n * val (rs.drop n):=Nat.mul_le_mul_left _ h2
    omega
end Cin

namespace Go.Proofs.YthffkbbcofbceaaGreatDoor
open Go.RowKit Cin
theorem step_times {xs zs:List Nat} {k q by_ more t td tm:Nat} (hl:zs.length=xs.length) (hok:Ok zs) (hv:val (zs.take k)+pw k * q=val (xs.take k) * by_+more) (hun:∀ j,k≤j→lim zs j=lim xs j) (hk:k < xs.length)
    (et:t=q+lim xs k * by_) (etd:td=t / 4294967296) (etm:tm=t % 4294967296) (hq:q < 4294967296) (hx:lim xs k < 4294967296) (hb:by_ < 4294967296) :
    td < 4294967296∧(zs.set k tm).length=xs.length∧Ok (zs.set k tm)∧val ((zs.set k tm).take (k+1))+pw (k+1) * td=val (xs.take (k+1)) * by_+more∧∀ j,k+1≤j→lim (zs.set k tm) j=lim xs j:=by
  have hxb:lim xs k * by_≤4294967295 * 4294967295:=Nat.mul_le_mul (by omega) (by omega)
  have htm:tm < 4294967296:=by omega
  refine ⟨by omega,by rw [List.length_set,hl],hok.set _ _ htm,?_,fun j hj=>by rw [lim_set_other (by omega)]; exact hun j (by omega)⟩
  rw [val_take_step,val_take_step xs,lim_set_same (by omega),List.take_set_of_le (Nat.le_refl _),pw_succ]
  have e1:t=tm+4294967296 * td:=by omega
  have e2:pw k * t=pw k * tm+4294967296 * pw k * td:=by rw [e1,Nat.mul_add,Nat.mul_comm 4294967296 (pw k),Nat.mul_assoc]
  have e3:pw k * t=pw k * q+pw k * lim xs k * by_:=by rw [et,Nat.mul_add,Nat.mul_assoc]
  rw [Nat.add_mul]
  omega
set_option maxRecDepth 100000 in
set_option maxHeartbeats 1000000 in
theorem times_any (v:Value) (xs:List Nat) (by_ more base:Nat) (w:World) (h:Own 202 .u32 w base v xs) (ho:Ok xs) (hb:by_ < 4294967296) (hm:more < 4294967296) (hl:xs.length≤100000000) (hbase:base≤w.heap.size) :
    Calls Tryz.prog 187 #[v,.int .u32 by_,.int .u32 more] w fun e w'=>∃ v' zs,e=.returned v'∧Own 202 .u32 w' base v' zs∧Ok zs∧val zs=val xs * by_+more∧zs.length≤xs.length+1∧Below base w w':=by
  obtain ⟨i0,hi0,hz0,hz1,hz2⟩:=info_parts info_u32
  obtain ⟨ad,cap,rfl,hcap,had⟩:=h.sl.shape
  clear had
  have H:=Lib.hid h
  clear h
  generalize hln:xs.length=n at *
  have HLN:=Lib.hid hln
  clear hln
  go_enter Tryz.func187,Tryz.ntmps187
  go_wp2_with fail
  go_loopw [7,8,9,14] (fun c _ _ i wr=>∃ (k q:Nat) (zs:List Nat),k≤n∧i=.int .i64 k∧c=.int .u64 q∧q < 4294967296∧zs.length=xs.length∧Ok zs∧val (zs.take k)+pw k * q=val (xs.take k) * by_+more ∧
      (∀ j,k≤j→lim zs j=lim xs j)∧Own 202 .u32 wr base (.slice ad n cap) zs∧Below base w wr) (fun _ _ _ i _=>n - (intOf i).toNat)
  case atStart=>exact ⟨0,more,xs,Nat.zero_le _,rfl,rfl,hm,rfl,ho,by rw [List.take_zero,val_nil,pw_zero]; omega,fun _ _=>rfl,H.out,Below.refl _ _⟩
  case round=>
    obtain ⟨k,q,zs,hk,rfl,rfl,hq,hzl,hok,hv,hun,hown,hbel⟩:=hrel
    have hzn:n=zs.length:=by have:=HLN.out; omega
    by_cases hlt:k < n
    · obtain ⟨g,rfl,hbg,hgw⟩:∃ g,ad=some ⟨g,0,none⟩∧base≤g∧g < wr.heap.size:=by
        rcases hown.shape with ⟨_,e⟩ | ⟨g,cap',e,h1,h2,_⟩
        · subst e; simp at hzn; omega
        · cases e; exact ⟨g,rfl,h1,h2⟩
      have hcell:=hown.cell hzn (i:=k) hlt
      have hf:=hown.free hzn k
      rw [hun k (Nat.le_refl _)] at hcell
      have hlim:lim xs k < 4294967296:=lim_lt ho _
      have hxb:lim xs k * by_≤4294967295 * 4294967295:=Nat.mul_le_mul (by omega) (by omega)
      obtain ⟨p,hpw,ep⟩:∃ p:Nat,IntKind.u64.wrap (((lim xs k:Nat):Int) * ((by_:Nat):Int))=(p:Int)∧p=lim xs k * by_:=⟨lim xs k * by_,by
        rw [IntKind.wrap_u64,show (((lim xs k:Nat):Int) * ((by_:Nat):Int))=((lim xs k * by_:Nat):Int) by simp]; omega,rfl⟩
      rw [← ep] at hxb
      obtain ⟨t,ht,et⟩:∃ t:Nat,IntKind.u64.wrap ((q:Int)+(p:Int))=(t:Int)∧t=q+p:=⟨_,by rw [IntKind.wrap_u64]; omega,rfl⟩
      rw [ep] at et
      obtain ⟨td,htd,etd⟩:∃ td:Nat,((t:Int) / 4294967296)=(td:Int)∧td=t / 4294967296:=⟨t / 4294967296,by omega,rfl⟩
      obtain ⟨tm,htm,etm⟩:∃ tm:Nat,((t:Int) % 4294967296)=(tm:Int)∧tm=t % 4294967296:=⟨t % 4294967296,by omega,rfl⟩
      have R:=step_times hzl hok hv hun (by have:=HLN.out; omega) et etd etm hq hlim hb
      have HR:=Lib.hid R
      have HO:=Lib.hid (hown.set hzn k tm)
      have HB:=Lib.hid (hbel.setCell (p:=⟨g,k,none⟩) hbg (.int .u32 (tm:Nat)))
      clear R et etd etm hxb ep hown hbel hv hun hzl hzn
      go_wp2_with fail
      obtain ⟨r1,r2,r3,r4,r5⟩:=HR.out
      exact ⟨⟨k+1,td,zs.set k tm,by omega,by go_num,rfl,r1,r2,r3,r4,r5,HO.out,HB.out⟩,by simp [intOf]; omega⟩
    · obtain rfl:k=n:=by omega
      have hval:=hv
      rw [List.take_of_length_le (by omega),List.take_of_length_le (by have:=HLN.out; omega)] at hval
      have HVAL:=Lib.hid hval
      have HO:=Lib.hid hown
      have HB:=Lib.hid hbel
      have HZL:=Lib.hid hzn
      have hbw:base≤wr.heap.size:=by have:=hbel.size; omega
      clear hown hbel hv hun hzl hzn hval
      by_cases h0:q=0
      · subst h0
        go_wp2_with fail
        go_ret
        exact ⟨_,zs,rfl,HO.out,hok,by have:=HVAL.out; omega,by have:=HZL.out; omega,HB.out⟩
      · have hqb:((q:Int) != 0)=true:=by simp; omega
        go_wp2_with (at_builtin; go_must (refine wpList_append_one wr rfl _ _ 50 rfl base 202 i0 .u32 4 Tryz.underlying50 hi0 hz0 hz1 hz2 _ zs (by rfl) (by exact HO.out) q (by rfl) (by have:=HZL.out; omega) (by have:=HZL.out; omega) hbw ?_))
        intro v' w' h1 h2
        have H1:=Lib.hid h1
        have H2:=Lib.hid h2
        clear h1 h2
        go_wp2_with fail
        go_ret
        exact ⟨_,zs++[q],rfl,H1.out,hok.append (Ok.cons hq Ok.nil),by rw [val_snoc,← HZL.out]; exact HVAL.out,by rw [List.length_append,← HZL.out]; exact Nat.le_refl _,HB.out.trans H2.out⟩
end Go.Proofs.YthffkbbcofbceaaGreatDoor

namespace Go.Proofs.YthffkbbcofbceaaGreatDoor
open Go.RowKit Cin
set_option maxRecDepth 100000 in
set_option maxHeartbeats 1000000 in
theorem groupValue_any (s:ByteArray) (w:World) (hs:s.size≤9) (hd:Digs (byts s)) :
    Calls Tryz.prog 188 #[.string s] w fun e w'=>e=.returned (.int .u32 (decL (byts s):Nat))∧w=w':=by
  have HD:=Lib.hid hd
  clear hd
  go_enter Tryz.func188,Tryz.ntmps188
  go_wp2_with fail
  go_loop [3,4,7] (fun c _ i=>∃ k:Nat,k≤s.size∧i=.int .i64 k∧c=.int .u32 (decL ((byts s).take k):Nat)) (fun _ _ i=>s.size - (intOf i).toNat)
  case atStart=>exact ⟨0,Nat.zero_le _,rfl,rfl⟩
  case round=>
    obtain ⟨k,hk,rfl,rfl⟩:=hrel
    by_cases hlt:k < s.size
    · have hb:=byts_at s hlt
      have hdg:=HD.out.lim (i:=k) (by rw [byts_length]; exact hlt)
      have hdl:decL ((byts s).take k) < 10 ^ 8:=by
        have h1:=decL_lt (l:=(byts s).take k) (fun c hc=>HD.out c (List.mem_of_mem_take hc))
        refine Nat.lt_of_lt_of_le h1 (Nat.pow_le_pow_right (by decide) ?_)
        rw [List.length_take]; omega
      have hst:=decL_take_succ (l:=byts s) (i:=k) (by rw [byts_length]; exact hlt)
      generalize decL ((byts s).take k)=d at *
      generalize lim (byts s) k=c at *
      have HST:=Lib.hid hst
      obtain ⟨hc1,hc2⟩:=hdg
      have hcb:((s[k].toNat:Nat):Int)=(c:Int):=by rw [hb]
      have hd8:d < 100000000:=hdl
      clear hst hdl hb
      go_wp2
      exact ⟨⟨k+1,by omega,by go_num,congrArg (Value.int .u32) (by rw [HST.out]; omega)⟩,by simp [intOf]; omega⟩
    · go_wp2
      go_ret
      exact ⟨ret_int (by rw [List.take_of_length_le (by rw [byts_length]; omega)]),rfl⟩
def NumPost (s:ByteArray) (w:World) (e:Ending) (w':World):Prop:=∃ b,e=.returned (.bool b)∧(b=true↔IsNum (byts s))∧w=w'
set_option maxRecDepth 100000 in
set_option maxHeartbeats 1000000 in
theorem isNumber_any (s:ByteArray) (w:World) :
    Calls Tryz.prog 186 #[.string s] w (NumPost s w):=by
  by_cases h1:s.size < 1
  · have hno:¬ IsNum (byts s):=fun h=>by have:=h.1; rw [byts_length] at this; omega
    have HNO:=Lib.hid hno
    have hd:decide ((s.size:Int) < 1)=true:=by rw [decide_eq_true_iff]; omega
    clear hno
    go_enter Tryz.func186,Tryz.ntmps186
    go_wp2_with fail
    go_ret
    exact ⟨false,rfl,⟨(fun h=>by cases h),fun h=>absurd h HNO.out⟩,rfl⟩
  · have hd:decide ((s.size:Int) < 1)=false:=by rw [decide_eq_false_iff_not]; omega
    by_cases h2:4000 < s.size
    · have hno:¬ IsNum (byts s):=fun h=>by have:=h.2.1; rw [byts_length] at this; omega
      have HNO:=Lib.hid hno
      have hd2:decide ((4000:Int) < (s.size:Int))=true:=by rw [decide_eq_true_iff]; omega
      clear hno
      go_enter Tryz.func186,Tryz.ntmps186
      go_wp2_with fail
      go_ret
      exact ⟨false,rfl,⟨(fun h=>by cases h),fun h=>absurd h HNO.out⟩,rfl⟩
    · have hd2:decide ((4000:Int) < (s.size:Int))=false:=by rw [decide_eq_false_iff_not]; omega
      have h0:0 < s.size:=by omega
      have hb0:=byts_at s h0
      by_cases h3:lim (byts s) 0=48∧1 < s.size
      · have hno:¬ IsNum (byts s):=fun h=>by have:=h.2.2.1; rw [byts_length] at this; omega
        have HNO:=Lib.hid hno
        have hd3:(((s[0].toNat:Nat):Int) == 48)=true:=by rw [hb0,h3.1]; rfl
        have hd4:decide ((1:Int) < (s.size:Int))=true:=by rw [decide_eq_true_iff]; omega
        clear hno hb0 h3
        go_enter Tryz.func186,Tryz.ntmps186
        go_wp2_with fail
        go_ret
        exact ⟨false,rfl,⟨(fun h=>by cases h),fun h=>absurd h HNO.out⟩,rfl⟩
      · have H3:=Lib.hid h3
        have hcase:((((s[0].toNat:Nat):Int) == 48)=false)∨((((s[0].toNat:Nat):Int) == 48)=true∧decide ((1:Int) < (s.size:Int))=false):=by
          rw [hb0]
          by_cases hc:lim (byts s) 0=48
          · right
            exact ⟨by rw [hc]; rfl,by rw [decide_eq_false_iff_not]; omega⟩
          · left
            simp; omega
        clear hb0 h3
        rcases hcase with hd3 | ⟨hd3,hd4⟩
        all_goals
          go_enter Tryz.func186,Tryz.ntmps186
          go_wp2_with fail
          go_loop [3,24] (fun _ i=>∃ k:Nat,k≤s.size∧i=.int .i64 k∧∀ j,j < k→48≤lim (byts s) j∧lim (byts s) j≤57) (fun _ i=>s.size - (intOf i).toNat)
          case atStart=>exact ⟨0,Nat.zero_le _,rfl,fun j hj=>absurd hj (Nat.not_lt_zero _)⟩
          case round=>
            obtain ⟨k,hk,rfl,hj⟩:=hrel
            have HJ:=Lib.hid hj
            clear hj
            by_cases hlt:k < s.size
            · have hb:=byts_at s hlt
              have hcb:((s[k].toNat:Nat):Int)=(lim (byts s) k:Nat):=by rw [hb]
              clear hb
              generalize hcc:lim (byts s) k=c at *
              have HCC:=Lib.hid hcc
              clear hcc
              by_cases hlo:c < 48
              · have hdl:decide ((c:Int) < 48)=true:=by rw [decide_eq_true_iff]; omega
                go_wp2_with fail
                go_ret
                refine ⟨false,rfl,⟨(fun h=>by cases h),fun h=>?_⟩,rfl⟩
                have:=h.2.2.2.lim (i:=k) (by rw [byts_length]; exact hlt)
                rw [HCC.out] at this; omega
              · have hdl:decide ((c:Int) < 48)=false:=by rw [decide_eq_false_iff_not]; omega
                by_cases hhi:57 < c
                · have hdh:decide ((57:Int) < (c:Int))=true:=by rw [decide_eq_true_iff]; omega
                  go_wp2_with fail
                  go_ret
                  refine ⟨false,rfl,⟨(fun h=>by cases h),fun h=>?_⟩,rfl⟩
                  have:=h.2.2.2.lim (i:=k) (by rw [byts_length]; exact hlt)
                  rw [HCC.out] at this; omega
                · have hdh:decide ((57:Int) < (c:Int))=false:=by rw [decide_eq_false_iff_not]; omega
                  go_wp2_with fail
                  refine ⟨⟨k+1,by omega,by go_num,fun j hj=>?_⟩,by simp [intOf]; omega⟩
                  rcases Nat.lt_or_eq_of_le (Nat.le_of_lt_succ hj) with h5 | rfl
                  · exact HJ.out j h5
                  · rw [HCC.out]; omega
            · go_wp2_with fail
              go_ret
              refine ⟨true,rfl,⟨fun _=>⟨by rw [byts_length]; omega,by rw [byts_length]; omega,?_,?_⟩,fun _=>rfl⟩,rfl⟩
              · have:=H3.out; rw [byts_length]; omega
              · intro c hc
                obtain ⟨j,hj,rfl⟩:=List.mem_iff_getElem.1 hc
                rw [← lim_eq hj]
                rw [byts_length] at hj
                exact HJ.out j (by omega)
end Go.Proofs.YthffkbbcofbceaaGreatDoor

namespace Go.Proofs.YthffkbbcofbceaaGreatDoor
open Go.RowKit Cin
set_option maxRecDepth 100000 in
set_option maxHeartbeats 1000000 in
theorem parse_no (s:ByteArray) (w:World) (h:¬ IsNum (byts s)) :
    Calls Tryz.prog 147 #[.string s] w fun e w'=>e=.returned (.tuple #[.agg #[.slice none 0 0],.int .i64 2])∧Below w.heap.size w w':=by
  have H:=Lib.hid h
  clear h
  go_enter Tryz.func147,Tryz.ntmps147
  go_wp2_with fail
  refine (isNumber_any s _).mono ?_
  rintro e w1 ⟨b,rfl,hb,rfl⟩
  obtain rfl:b=false:=by cases b with | false=>rfl | true=>exact absurd (hb.1 rfl) H.out
  clear hb
  go_wp2
  refine bodyPost_ret (v:=.tuple #[.agg #[.slice none 0 0],.int .i64 2]) (by simp [results,Tryz.results147,go_sem]) rfl ⟨rfl,bel_alloc _ _⟩
theorem times_group (v:Value) (xs:List Nat) (more base:Nat) (w:World) (h:Own 202 .u32 w base v xs) (ho:Ok xs) (hm:more < 4294967296) (hl:xs.length≤100000000) (hbase:base≤w.heap.size) :
    Calls Tryz.prog 187 #[v,.int .u32 1000000000,.int .u32 more] w fun e w'=>∃ v' zs,e=.returned v'∧Own 202 .u32 w' base v' zs∧Ok zs∧val zs=val xs * 1000000000+more∧zs.length≤xs.length+1∧Below base w w':=by
  obtain ⟨g,hg⟩:∃ g:Nat,g=1000000000:=⟨_,rfl⟩
  have hi:(1000000000:Int)=(g:Int):=by omega
  rw [hi,← hg]
  exact times_any v xs g more base w h ho (by omega) hm hl hbase
def strLen:Value→Nat
  | .string s=>s.size
  | _=>0
theorem group_step {l l':List Nat} {p n:Nat} (hl:l'=l.drop p) (hp:p < l.length) (hn:n=(l'.length - 1) % 9+1) (hdiv:p=0∨(l.length - p) % 9=0) :
    n≤l'.length∧n≤9∧1≤n∧decL (l.take (p+n))=decL (l.take p) * 1000000000+decL (l'.take n)∧l'.drop n=l.drop (p+n)∧(l.length - (p+n)) % 9=0∧p+n≤l.length:=by
  have e0:l'.length=l.length - p:=by rw [hl,List.length_drop]
  refine ⟨by omega,by omega,by omega,?_,by rw [hl,List.drop_drop],by omega,by omega⟩
  have e1:l.take (p+n)=l.take p++l'.take n:=by rw [hl,List.take_add]
  rw [e1,decL_append,List.length_take]
  rcases hdiv with rfl | hd
  · simp [decL]
  · rw [show min n l'.length=9 by omega]
set_option maxRecDepth 100000 in
set_option maxHeartbeats 1000000 in
theorem parse_yes (s:ByteArray) (w:World) (h:IsNum (byts s)) :
    Calls Tryz.prog 147 #[.string s] w fun e w'=>∃ v,e=.returned (.tuple #[v,.int .i64 0])∧NatV 202 w' v (decL (byts s))∧Below w.heap.size w w':=by
  obtain ⟨i0,hi0,hz0,hz1,hz2⟩:=info_parts info_u32
  have hsz:s.size≤4000:=by have:=h.2.1; rwa [byts_length] at this
  obtain ⟨m,hm,em⟩:∃ m:Nat,(s.size:Int) / 9+1=(m:Int)∧m=s.size / 9+1:=⟨_,by omega,rfl⟩
  have hmb:m≤1000:=by omega
  have H:=Lib.hid h
  clear h em
  go_enter Tryz.func147,Tryz.ntmps147
  go_wp2_with fail
  refine (isNumber_any s _).mono ?_
  rintro e w1 ⟨b,rfl,hb,rfl⟩
  obtain rfl:b=true:=hb.2 H.out
  clear hb
  go_wp2_with (at_make; refine wpList_make_ints _ rfl _ _ 50 rfl 202 i0 .u32 Tryz.underlying50 hi0 hz0 hz1 .i64 .i64 _ _ 0 m rfl rfl (by omega) (by omega) (Nat.zero_le _) (by rw [hz2]; omega) (by omega) ?_)
  have hown:Own 202 .u32 ((w.alloc (Obj.cells #[Value.slice none 0 0] 52)).alloc (Obj.cells (ints IntKind.u32 (List.replicate m 0)) 202)) (w.heap.size+1) (.slice (some ⟨w.heap.size+1,0,none⟩) 0 m) []:=by
    have:=Own.made (t:=202) (k:=.u32) (base:=w.heap.size+1) (w.alloc (Obj.cells #[Value.slice none 0 0] 52)) (by simp) m (by omega)
    simp only [World.size_alloc] at this
    exact this
  have hres:=new_block2 w (Obj.cells #[Value.slice none 0 0] 52) (Obj.cells (ints IntKind.u32 (List.replicate m 0)) 202)
  have hbW:=bel_alloc2 w (Obj.cells #[Value.slice none 0 0] 52) (Obj.cells (ints IntKind.u32 (List.replicate m 0)) 202)
  have hsW:w.heap.size+1 < ((w.alloc (Obj.cells #[Value.slice none 0 0] 52)).alloc (Obj.cells (ints IntKind.u32 (List.replicate m 0)) 202)).heap.size:=by simp
  generalize (w.alloc (Obj.cells #[Value.slice none 0 0] 52)).alloc (Obj.cells (ints IntKind.u32 (List.replicate m 0)) 202)=W at *
  have HOW:=Lib.hid hown
  have HRS:=Lib.hid hres
  have HBW:=Lib.hid hbW
  clear hown hres hbW
  go_loopw [0,4,5] (fun sx lx _ wr=>∃ (p:Nat) (s':ByteArray) (v:Value) (xs:List Nat),sx=.string s'∧lx=v∧byts s'=(byts s).drop p∧p≤s.size∧(p=0∨(s.size - p) % 9=0)∧Own 202 .u32 wr (w.heap.size+1) v xs∧Ok xs ∧
      val xs=decL ((byts s).take p)∧xs.length≤p∧Below (w.heap.size+1) W wr) (fun sx _ _ _=>strLen sx)
  case atStart=>exact ⟨0,s,_,[],rfl,rfl,rfl,Nat.zero_le _,.inl rfl,HOW.out,Ok.nil,rfl,Nat.zero_le _,Below.refl _ _⟩
  case round=>
    obtain ⟨p,s',v,xs,rfl,rfl,hsb,hp,hdiv,hown,hok,hv,hxl,hbel⟩:=hrel
    have hsl:s'.size=s.size - p:=by rw [← byts_length,hsb,List.length_drop,byts_length]
    by_cases hlt:p < s.size
    · obtain ⟨n,hn,en⟩:∃ n:Nat,((s'.size:Int) - 1) % 9+1=(n:Int)∧n=(s'.size - 1) % 9+1:=⟨_,by omega,rfl⟩
      have G:=group_step (n:=n) hsb (by rw [byts_length]; exact hlt) (by rw [byts_length]; exact en) (by rw [byts_length]; exact hdiv)
      obtain ⟨g1,g2,g3,g4,g5,g6,g7⟩:=G
      rw [byts_length] at g1 g6 g7
      have hb1:byts (s'.extract 0 n)=(byts s').take n:=by rw [byts_extract,List.drop_zero,Nat.sub_zero]
      have hb2:byts (s'.extract n s'.size)=(byts s).drop (p+n):=by rw [byts_extract,List.take_of_length_le (by rw [List.length_drop,byts_length]; omega),g5]
      have hdg:Digs (byts (s'.extract 0 n)):=by rw [hb1,hsb]; exact fun c hc=>H.out.2.2.2 c (List.mem_of_mem_drop (List.mem_of_mem_take hc))
      have hz1':(s'.extract 0 n).size≤9:=by rw [← byts_length,hb1,List.length_take,byts_length]; omega
      have hz2':(s'.extract n s'.size).size < s'.size:=by rw [← byts_length,hb2,List.length_drop,byts_length]; omega
      have hgl:decL (byts (s'.extract 0 n)) < 1000000000:=by
        refine Nat.lt_of_lt_of_le (decL_lt hdg) ?_
        exact Nat.pow_le_pow_right (n:=10) (by decide) (show _≤9 by rw [byts_length]; exact hz1')
      rw [← hb1,← hv] at g4
      have G4:=Lib.hid g4
      have HB2:=Lib.hid hb2
      have HDG:=Lib.hid hdg
      have HZ1:=Lib.hid hz1'
      have HZ2:=Lib.hid hz2'
      have HGL:=Lib.hid hgl
      have G6:=Lib.hid g6
      have HO:=Lib.hid hown
      have HB:=Lib.hid hbel
      have hbw:w.heap.size+1≤wr.heap.size:=by have:=hbel.size; omega
      have hs0:0 < s'.size:=by omega
      have hs4:s'.size≤4000:=by omega
      clear g4 g5 g6 hb1 hb2 hdg hz1' hz2' hgl hown hbel hv en hsb hdiv hsl
      go_wp2_with fail
      with_reducible refine (groupValue_any _ _ HZ1.out HDG.out).mono ?_
      rintro e w2 ⟨rfl,rfl⟩
      go_wp2_with fail
      with_reducible refine (times_group _ xs (decL (byts (s'.extract 0 n))) (w.heap.size+1) wr HO.out hok (by have:=HGL.out; omega) (by omega) hbw).mono ?_
      rintro e w3 ⟨v3,zs,rfl,ho3,hok3,hv3,hl3,hb3⟩
      have HO3:=Lib.hid ho3
      have HV3:=Lib.hid hv3
      have HB3:=Lib.hid (HB.out.trans hb3)
      clear ho3 hv3 hb3
      go_wp2_with fail
      exact ⟨⟨p+n,_,v3,zs,rfl,rfl,HB2.out,g7,.inr G6.out,HO3.out,hok3,by rw [HV3.out,G4.out],by omega,HB3.out⟩,HZ2.out⟩
    · have hv2:val xs=decL (byts s):=by rw [hv,List.take_of_length_le (by rw [byts_length]; omega)]
      have hs0:s'.size=0:=by omega
      have HV:=Lib.hid hv2
      have HSL:=Lib.hid hown.sl
      have hr:=(hbel.block w.heap.size (by omega)).trans HRS.out
      have hb0:=HBW.out.trans (hbel.mono (B':=w.heap.size) (by omega))
      have HR0:=Lib.hid hr
      have HB0:=Lib.hid hb0
      have hxl2:xs.length≤1000000000000:=by omega
      have hrs:w.heap.size < wr.heap.size:=by have:=hbel.size; omega
      clear hv2 hv hown hbel hr hb0 hsb hdiv hsl
      go_wp2_with fail
      refine (wrap_any _ xs _ HSL.out hok hxl2).mono ?_
      rintro e w2 ⟨v',rfl,hn2,hb2⟩
      obtain ⟨ad2,len2,cap2,rfl,hr2⟩:=hn2.shape
      have hk2:=(hb2.block w.heap.size hrs).trans HR0.out
      have hc:=cell_of hk2 0
      have hf:=free_of hk2 0
      simp only [List.getElem?_toArray,List.getElem?_cons_zero] at hc
      have HR:=Lib.hid (fin_nat (bel_on HB0.out hb2) hk2 (by decide) hr2 (Nat.le_refl _) 0)
      clear hr2 hb2 hk2 hn2
      go_wp2
      refine bodyPost_ret (v:=.tuple #[.agg #[.slice ad2 len2 cap2],.int .i64 0]) (by simp [results,Tryz.results147,go_sem,World.cell?_setCell_same _ _ _ hc]) rfl ⟨_,rfl,?_⟩
      have:=HR.out
      rw [HV.out] at this
      exact this
end Go.Proofs.YthffkbbcofbceaaGreatDoor

namespace Cin
open Go Go.RowKit
section
variable {t:TypeId} {k:IntKind} {w w':World} {base:Nat} {v:Value} {xs:List Nat}
theorem Own.take {ad:Option Addr} {n cap m:Nat} (h:Own t k w base (.slice ad n cap) xs) (hm:m≤n):Own t k w base (.slice ad m cap) (xs.take m):=by
  have hlen:=h.1
  have hus:us k (xs.take m)=(us k xs).take m:=by simp [us,List.map_take]
  rcases h.2 with ⟨e,hn⟩ | ⟨g,cap',cur,e,hb,hg,hn,hx,hs,ht⟩
  · cases e
    obtain rfl:m=0:=by omega
    rw [List.take_zero]
    exact Own.nil _ _ _ _
  · cases e
    have hl:(xs.take m).length=m:=by rw [List.length_take]; omega
    refine ⟨by rw [hus,hl,List.length_take,hlen]; omega,.inr ⟨g,cap,cur,by rw [hl],hb,hg,by omega,hx,hs,?_⟩⟩
    rw [hl,hus,← ht,List.take_take,Nat.mul_one,Nat.mul_one,Nat.min_eq_left hm]
theorem Own.keep {S:Nat→Prop} (h:Own t k w base v xs) (hw:Keep S w w') (hs:∀ b,S b→b < base):Own t k w' base v xs:=by
  refine ⟨h.1,?_⟩
  rcases h.2 with h2 | ⟨g,cap,cur,rfl,hbg,hg,r⟩
  · exact .inl h2
  · exact .inr ⟨g,cap,cur,rfl,hbg,by rw [hw.block g (lt_of_heap hg) (fun h3=>by have:=hs g h3; omega)]; exact hg,r⟩
theorem Own.below2 {B:Nat} {g n cap:Nat} (h:Own t k w base (.slice (some ⟨g,0,none⟩) n cap) xs) (hb:Below B w w') (hg:g < B):Own t k w' base (.slice (some ⟨g,0,none⟩) n cap) xs:=by
  refine ⟨h.1,?_⟩
  rcases h.2 with ⟨e,_⟩ | ⟨g',cap,cur,e,hbg,hg',r⟩
  · cases e
  · cases e; exact .inr ⟨_,cap,cur,rfl,hbg,by rw [hb.block _ hg]; exact hg',r⟩
end
theorem wpList_append_sl {P:Program} {ops:Array Oper} {rest:List Oper} {o:Oper} {a:Act} {Q:Exit→Act→World→Prop} (wr:World) (hgd:o.guard=none) (s x:Operand) (t:TypeId)
    (ho:o.op=.call { callee:=.builtin .append,args:=#[s,x],argTypes:=#[t,t] }) (base:Nat) (e:TypeId) (i:TypeInfo) (k:IntKind) (bytes:Nat)
    (ht:P.underlying t=some (.slice e)) (hi:P.info? e=some i) (hz:i.zero=some (.int k 0)) (hsize:i.size=1) (hby:i.bytes=bytes)
    (v:Value) (xs:List Nat) (hs:a.eval s=v) (hown:Own e k wr base v xs) (b off m c:Nat) (ys:List Nat) (hx:a.eval x=.slice (some ⟨b,off,none⟩) m c) (hm:m=ys.length) (hsl:Sl e k wr (.slice (some ⟨b,off,none⟩) m c) ys)
    (hlen:xs.length+ys.length≤1000000000) (hbytes:(xs.length+ys.length) * bytes≤140737488355328) (hbase:base≤wr.heap.size)
    (h:∀ v' w',Own e k w' base v' (xs++ys)→Below base wr w'→(v'=.slice none 0 0↔v=.slice none 0 0∧m=0)→wpList P ops Q rest (a.put o.dst v') w'):wpList P ops Q (o::rest) a wr:=by
  subst hm
  refine wpList_append_own _ hgd s x t ho base e i (.int k 0) 1 bytes ht hi hz hsize hby rfl (by decide) v xs.length (us k xs) hs hown ⟨b,off,none⟩ ys.length c (us k ys) hx (by simp [us])
    (fun j u hj=>?_) (fun u hu=>?_) (by unfold maxLen; omega) hbytes hbase ?_
  · rcases Nat.lt_or_ge j ys.length with hl | hl
    · rw [us_get hl] at hj
      obtain ⟨b',off',e',hc,_⟩:=hsl.cell hl
      cases e'
      injection hj with hj
      subst hj
      have ea:Addr.add ⟨b,off,none⟩ j=⟨b,off+j,none⟩:=by unfold Addr.add; split <;> simp_all
      rw [ea]; exact hc
    · rw [List.getElem?_eq_none (by simp [us]; omega)] at hj; cases hj
  · obtain ⟨y,_,rfl⟩:=List.mem_map.1 hu
    rfl
  · intro v' w' h1 h2 h3
    refine h v' w' ?_ ?_ h3
    · unfold Own
      rw [List.length_append,show us k (xs++ys)=us k xs++us k ys by simp [us]]
      exact h1
    · exact (Below.refl _ wr).grown h2 hbase (fun g hg=>(World.ownsRow.lt hown g hg).1)
theorem step_div {xs zs:List Nat} {i q d t z r:Nat} (hl:zs.length=xs.length) (hok:Ok zs) (hv:val (zs.drop (i+1)) * d+q=val (xs.drop (i+1))) (hun:∀ j,j≤i→lim zs j=lim xs j) (hi:i < xs.length)
    (et:t=q * 4294967296+lim xs i) (hz:z=t / d) (hr:r=t % d) (hq:q < d) (hx:lim xs i < 4294967296) (hd:d < 4294967296) :
    z < 4294967296∧r < d∧(zs.set i z).length=xs.length∧Ok (zs.set i z)∧val ((zs.set i z).drop i) * d+r=val (xs.drop i)∧∀ j,j < i→lim (zs.set i z) j=lim xs j:=by
  have hd0:0 < d:=by omega
  have hzl:z < 4294967296:=by
    rw [hz]
    refine Nat.div_lt_of_lt_mul ?_
    have:(q+1) * 4294967296≤d * 4294967296:=Nat.mul_le_mul_right _ hq
    omega
  refine ⟨hzl,by rw [hr]; exact Nat.mod_lt _ hd0,by rw [List.length_set,hl],hok.set _ _ hzl,?_,fun j hj=>by rw [lim_set_other (by omega)]; exact hun j (by omega)⟩
  rw [val_drop_step,val_drop_step xs,lim_set_same (by omega),List.drop_set_of_lt (by omega)]
  have e1:z * d+r=t:=by rw [hz,hr,Nat.mul_comm]; exact Nat.div_add_mod t d
  rw [Nat.add_mul,← hv,Nat.mul_add,Nat.mul_assoc]
  omega
end Cin
namespace Go.Proofs.YthffkbbcofbceaaGreatDoor
open Go.RowKit Cin
set_option maxRecDepth 100000 in
set_option maxHeartbeats 1000000 in
theorem divLimb_any (g n cap:Nat) (xs:List Nat) (d base:Nat) (w:World) (h:Own 202 .u32 w base (.slice (some ⟨g,0,none⟩) n cap) xs) (hn:n=xs.length) (ho:Ok xs) (hd0:0 < d) (hd:d < 4294967296) (hl:n≤100000000) :
    Calls Tryz.prog 209 #[.slice (some ⟨g,0,none⟩) n cap,.int .u32 d] w fun e w'=>∃ zs,e=.returned (.int .u32 (val xs % d:Nat))∧Own 202 .u32 w' base (.slice (some ⟨g,0,none⟩) n cap) zs∧zs.length=n∧Ok zs∧val zs=val xs / d∧Keep (·=g) w w':=by
  have H:=Lib.hid h
  have HN:=Lib.hid hn
  clear h hn
  go_enter Tryz.func209,Tryz.ntmps209
  go_wp2_with fail
  go_loopw [5,6] (fun c i wr=>∃ (k q:Nat) (zs:List Nat),k≤n∧i=.int .i64 ((k:Int) - 1)∧c=.int .u64 q∧q < d∧zs.length=xs.length∧Ok zs∧val (zs.drop k) * d+q=val (xs.drop k) ∧
      (∀ j,j < k→lim zs j=lim xs j)∧Own 202 .u32 wr base (.slice (some ⟨g,0,none⟩) n cap) zs∧Keep (·=g) w wr) (fun _ i _=>(intOf i+1).toNat)
  case atStart=>exact ⟨n,0,xs,Nat.le_refl _,rfl,rfl,hd0,rfl,ho,by rw [List.drop_of_length_le (by have:=HN.out; omega),val_nil]; omega,fun _ _=>rfl,H.out,Keep.refl _ _⟩
  case round=>
    obtain ⟨k,q,zs,hk,rfl,rfl,hq,hzl,hok,hv,hun,hown,hkeep⟩:=hrel
    have hzn:n=zs.length:=by have:=HN.out; omega
    by_cases hk0:k=0
    · subst hk0
      have hv0:val zs * d+q=val xs:=by simpa using hv
      have hq2:q=val xs % d:=by rw [← hv0,Nat.add_comm,Nat.add_mul_mod_self_right,Nat.mod_eq_of_lt hq]
      have hz2:val zs=val xs / d:=by rw [← hv0,Nat.add_comm,Nat.add_mul_div_right _ _ hd0,Nat.div_eq_of_lt hq,Nat.zero_add]
      have HR:=Lib.hid (show ∃ zs',Own 202 .u32 wr base (.slice (some ⟨g,0,none⟩) n cap) zs'∧zs'.length=n∧Ok zs'∧val zs'=val xs / d∧Keep (·=g) w wr from ⟨zs,hown,hzn.symm,hok,hz2,hkeep⟩)
      have HQ:=Lib.hid hq2
      have hq32:q < 4294967296:=by omega
      clear hv hun hown hkeep hv0 hq2 hz2 hzl hzn
      go_wp2_with fail
      go_ret
      obtain ⟨zs',r1,r2,r3,r4,r5⟩:=HR.out
      exact ⟨zs',ret_int (by rw [← HQ.out]),r1,r2,r3,r4,r5⟩
    · obtain ⟨i,rfl⟩:∃ i,k=i+1:=⟨k - 1,by omega⟩
      have hcell:=hown.cell hzn (i:=i) (by omega)
      have hf:=hown.free hzn i
      rw [hun i (by omega)] at hcell
      have hlim:lim xs i < 4294967296:=lim_lt ho _
      have hor:bits BinOp.or IntKind.u64 ((q:Int) * 4294967296) ((lim xs i:Nat):Int)=((q * 4294967296+lim xs i:Nat):Int):=by
        have:=or_u64 (x:=q) (y:=lim xs i) (s:=32) (by omega) (by omega) (by omega)
        simpa using this
      obtain ⟨t,et⟩:∃ t:Nat,t=q * 4294967296+lim xs i:=⟨_,rfl⟩
      rw [← et] at hor
      obtain ⟨z,hz,ez⟩:∃ z:Nat,IntKind.u64.wrap ((t:Int) / (d:Int))=(z:Int)∧z=t / d:=⟨t / d,by
        rw [← Int.natCast_ediv,IntKind.wrap_u64]
        have:=Nat.div_le_self t d
        generalize t / d=z at *
        omega,rfl⟩
      obtain ⟨r,hr,er⟩:∃ r:Nat,(t:Int).tmod (d:Int)=(r:Int)∧r=t % d:=⟨t % d,rfl,rfl⟩
      have R:=step_div hzl hok hv (fun j hj=>hun j (by omega)) (by have:=HN.out; omega) et ez er hq hlim hd
      have HR:=Lib.hid R
      have hz32:z < 4294967296:=R.1
      have HO:=Lib.hid (hown.set hzn i z)
      have HK:=Lib.hid (hkeep.setCell (a:=⟨g,i,none⟩) rfl (.int .u32 (z:Nat)))
      have ei:((i+1:Nat):Int) - 1=(i:Int):=by omega
      clear R et ez er hown hkeep hv hun hzl hzn
      go_wp2_with fail
      obtain ⟨r1,r2,r3,r4,r5,r6⟩:=HR.out
      exact ⟨⟨i,r,zs.set i z,by omega,by go_num,rfl,r2,r3,r4,r5,r6,HO.out,HK.out⟩,by simp [intOf]⟩
set_option maxRecDepth 100000 in
set_option maxHeartbeats 1000000 in
theorem cloneSl_any (v:Value) (xs:List Nat) (w:World) (h:Sl 202 .u32 w v xs) (hl:xs.length≤100000000) :
    Calls Tryz.prog 174 #[v] w fun e w'=>∃ v',e=.returned v'∧Own 202 .u32 w' w.heap.size v' xs∧Below w.heap.size w w':=by
  obtain ⟨i0,hi0,hz0,hz1,hz2⟩:=info_parts info_u32
  rcases h with ⟨rfl,rfl⟩ | ⟨b,off,cap,cur,rfl,r⟩
  · have heq:=Lib.run_eql_slice_nil (P:=Tryz.prog) w 50 202 none 0 0 0 0 Tryz.underlying50
    go_enter Tryz.func174,Tryz.ntmps174
    go_wp2_with fail
    go_ret
    exact ⟨_,rfl,Own.nil _ _ _ _,Below.refl _ _⟩
  · have hsl:Sl 202 .u32 w (.slice (some ⟨b,off,none⟩) xs.length cap) xs:=.inr ⟨b,off,cap,cur,rfl,r⟩
    have HS:=Lib.hid (hsl.below (bel_alloc w (Obj.cells #[] 202)))
    have HO:=Lib.hid (show Own 202 .u32 (w.alloc (Obj.cells #[] 202)) w.heap.size (.slice (some ⟨w.heap.size,0,none⟩) 0 0) [] from Own.made w (Nat.le_refl _) 0 (by decide))
    clear hsl r
    generalize hn:xs.length=n at *
    have HN:=Lib.hid hn
    clear hn
    have heq:=Lib.run_eql_slice_nil (P:=Tryz.prog) w 50 202 (some ⟨b,off,none⟩) n cap 0 0 Tryz.underlying50
    go_enter Tryz.func174,Tryz.ntmps174
    go_wp2_with (at_builtin; go_must (refine wpList_append_sl (w.alloc (Obj.cells #[] 202)) rfl _ _ 50 rfl w.heap.size 202 i0 .u32 4 Tryz.underlying50 hi0 hz0 hz1 hz2 _ [] (by rfl) (by exact HO.out) b off n cap xs (by rfl) HN.out.symm HS.out (by have:=HN.out; simp; omega) (by have:=HN.out; simp; omega) (by simp) ?_))
    intro v' w' h1 h2 _
    have H1:=Lib.hid h1
    have H2:=Lib.hid (((Below.refl _ w).alloc (Nat.le_refl _) _).trans h2)
    clear h1 h2
    go_wp2_with fail
    go_ret
    exact ⟨_,rfl,H1.out,H2.out⟩
def gval:List Nat→Nat
  | []=>0
  | x::xs=>x+1000000000 * gval xs
theorem gval_snoc (xs:List Nat) (x:Nat):gval (xs++[x])=gval xs+1000000000 ^ xs.length * x:=by
  induction xs with
  | nil=>simp [gval]
  | cons y ys ih=>
    rw [List.cons_append,gval,gval,ih,List.length_cons,Nat.pow_succ,Nat.mul_add,Nat.mul_comm (1000000000 ^ ys.length) 1000000000,Nat.mul_assoc]
    omega
def Groups (n:Nat) (gs:List Nat):Prop:=gval gs=n∧(∀ x∈gs,x < 1000000000)∧(gs=[]∨lim gs (gs.length - 1)≠0)
theorem divGroup (g n cap:Nat) (xs:List Nat) (base:Nat) (w:World) (h:Own 202 .u32 w base (.slice (some ⟨g,0,none⟩) n cap) xs) (hn:n=xs.length) (ho:Ok xs) (hl:n≤100000000) :
    Calls Tryz.prog 209 #[.slice (some ⟨g,0,none⟩) n cap,.int .u32 1000000000] w fun e w'=>∃ zs,e=.returned (.int .u32 (val xs % 1000000000:Nat))∧Own 202 .u32 w' base (.slice (some ⟨g,0,none⟩) n cap) zs∧zs.length=n∧Ok zs∧val zs=val xs / 1000000000∧Keep (·=g) w w':=
  divLimb_any g n cap xs 1000000000 base w h hn ho (by decide) (by decide) hl
theorem group_more {n c q r:Nat} {gs:List Nat} (h:gval gs+1000000000 ^ gs.length * c=n) (hlt:∀ x∈gs,x < 1000000000) (hq:q=c / 1000000000) (hr:r=c % 1000000000) :
    gval (gs++[r])+1000000000 ^ (gs++[r]).length * q=n∧∀ x∈gs++[r],x < 1000000000:=by
  refine ⟨?_,fun x hx=>?_⟩
  · rw [gval_snoc,List.length_append,List.length_singleton,Nat.pow_succ,← h]
    have:c=r+1000000000 * q:=by omega
    rw [this,Nat.mul_add,Nat.mul_assoc]
    omega
  · rcases List.mem_append.1 hx with hx | hx
    · exact hlt x hx
    · rw [List.mem_singleton.1 hx,hr]; exact Nat.mod_lt _ (by decide)
def sliceLen:Value→Nat
  | .slice _ n _=>n
  | _=>0
theorem groups_few {n c L:Nat} {gs:List Nat} (h:gval gs+1000000000 ^ gs.length * c=n) (hc:c≠0) (hn:n < pw L):gs.length < 2 * L:=by
  have h1:1000000000 ^ gs.length * 1≤1000000000 ^ gs.length * c:=Nat.mul_le_mul_left _ (by omega)
  rw [pw_two] at hn
  have h2:2 ^ (29 * gs.length)≤1000000000 ^ gs.length:=by rw [Nat.pow_mul]; exact Nat.pow_le_pow_left (by decide) _
  have h3:=(Nat.pow_lt_pow_iff_right (a:=2) (by decide)).1 (show 2 ^ (29 * gs.length) < 2 ^ (32 * L) by omega)
  omega
theorem val_pos {zs:List Nat} (hn:Norm zs) (h:zs.length≠0):val zs≠0:=fun e=>h (by rw [norm_val_zero hn e]; rfl)
set_option maxRecDepth 100000 in
set_option maxHeartbeats 2000000 in
theorem groupsOf_any (v:Value) (x L:Nat) (w:World) (h:NatV 202 w v x) (hx:x < pw L) (hL:L≤10000000) (hx0:x≠0) :
    Calls Tryz.prog 198 #[v] w fun e w'=>∃ v' gs,e=.returned v'∧Sl 202 .u32 w' v' gs∧Groups x gs∧gs.length≤2 * L∧Below w.heap.size w w':=by
  obtain ⟨i0,hi0,hz0,hz1,hz2⟩:=info_parts info_u32
  obtain ⟨ad,len,cap,rfl,xs,hs,ho,hnm,hxv⟩:=h.shape
  have hlx:=hs.len
  have hl:xs.length≤L:=norm_len hnm (by rw [hxv]; exact hx)
  have hl0:xs≠[]:=fun e=>hx0 (by rw [← hxv,e]; rfl)
  have H:=Lib.hid hs
  have HNM:=Lib.hid hnm
  have HXV:=Lib.hid hxv
  have HX:=Lib.hid hx
  clear h hs hnm hx hxv
  go_enter Tryz.func198,Tryz.ntmps198
  go_wp2_with fail
  refine (cloneSl_any _ xs _ (H.out.below (bel_alloc _ _)) (by omega)).mono ?_
  rintro e w1 ⟨v1,rfl,hown,hb⟩
  obtain ⟨g,cap1,rfl,hg0,hg1,hc1⟩:∃ g cap1,v1=.slice (some ⟨g,0,none⟩) xs.length cap1∧w.heap.size≤g∧g < w1.heap.size∧xs.length≤cap1:=by
    rcases hown.shape with ⟨_,e⟩ | ⟨g,cap1,e,h1,h2,h3⟩
    · exact absurd e hl0
    · exact ⟨g,cap1,e,by simp at h1; omega,h2,h3⟩
  have HB1:=Lib.hid (bel_on (bel_alloc _ _) hb)
  have HO1:=Lib.hid (show Own 202 .u32 w1 w.heap.size (.slice (some ⟨g,0,none⟩) xs.length cap1) xs from ⟨hown.1,by
    rcases hown.2 with h2 | ⟨g',c',cur,e,hb',r⟩
    · exact .inl h2
    · exact .inr ⟨g',c',cur,e,by simp at hb'; omega,r⟩⟩)
  clear hb hown hl0 hlx
  go_wp2_with fail
  go_loopw [3,4] (fun l gu wr=>∃ (n:Nat) (zs gs:List Nat) (gv:Value),gv=gu∧l=.slice (some ⟨g,0,none⟩) n cap1∧n=zs.length∧n≤L∧Own 202 .u32 wr w.heap.size l zs∧Ok zs∧Norm zs∧sliceLen gv=gs.length∧Own 202 .u32 wr (g+1) gv gs∧gval gs+1000000000 ^ gs.length * val zs=x ∧
      (∀ y∈gs,y < 1000000000)∧(gs=[]∨n≠0∨lim gs (gs.length - 1)≠0)∧gs.length≤2 * L∧Below w.heap.size w wr∧g < wr.heap.size) (fun _ gv _=>2 * L - sliceLen gv)
  case atStart=>exact ⟨xs.length,xs,[],_,rfl,rfl,rfl,hl,HO1.out,ho,HNM.out,rfl,Own.nil _ _ _ _,by simp [gval]; exact HXV.out,(fun y hy=>by cases hy),.inl rfl,Nat.zero_le _,HB1.out,hg1⟩
  case round=>
    obtain ⟨n,zs,gs,gv,rfl,rfl,hn,hnL,hoz,hok,hnz,hsl,hog,hv,hlt,hlast,hgl,hbel,hgw⟩:=hrel
    by_cases hn0:n=0
    · subst hn0
      have hz:zs=[]:=List.length_eq_zero_iff.1 hn.symm
      have hval:gval gs=x:=by rw [← hv,hz,val_nil]; omega
      have hgs:gs≠[]:=fun e=>hx0 (by rw [← hval,e]; rfl)
      have HR:=Lib.hid (show Sl 202 .u32 wr gv gs∧Groups x gs∧gs.length≤2 * L∧Below w.heap.size w wr from ⟨hog.sl,⟨hval,hlt,by rcases hlast with h | h | h; exact .inl h; exact absurd rfl h; exact .inr h⟩,hgl,hbel⟩)
      clear hoz hog hbel hv hlt hlast hsl hnz hn
      go_wp2_with fail
      go_ret
      exact ⟨_,gs,rfl,HR.out⟩
    · have hvz:=val_pos hnz (by omega)
      have hfew:=groups_few hv hvz HX.out
      obtain ⟨r,hr⟩:∃ r:Nat,r=val zs % 1000000000:=⟨_,rfl⟩
      have HOZ:=Lib.hid hoz
      have HOG:=Lib.hid hog
      have HBE:=Lib.hid hbel
      have HV:=Lib.hid hv
      have HLT:=Lib.hid hlt
      have HSL:=Lib.hid hsl
      have HVZ:=Lib.hid hvz
      have HR:=Lib.hid hr
      have HN:=Lib.hid hn
      have hn0':decide ((0:Int) < (n:Int))=true:=by rw [decide_eq_true_iff]; omega
      clear hoz hog hbel hv hlt hlast hsl hnz hvz hr hn
      go_wp2_with fail
      refine (divGroup g n cap1 zs w.heap.size _ HOZ.out HN.out hok (by omega)).mono ?_
      rintro e w2 ⟨ys,rfl,hoy,hyl,hoky,hvy,hk⟩
      rw [← HR.out]
      have HOY:=Lib.hid hoy
      have HYL:=Lib.hid hyl
      have HVY:=Lib.hid hvy
      have HOG2:=Lib.hid (HOG.out.keep hk (fun b e=>by omega))
      have HB2:=Lib.hid (HBE.out.trans (hk.below (B:=w.heap.size) (HBE.out.size) (fun k e=>by omega)))
      have hg2:g < w2.heap.size:=by have:=hk.size; omega
      clear hoy hyl hvy hk
      go_wp2_with (at_builtin; go_must (refine wpList_append_one w2 rfl _ _ 50 rfl (g+1) 202 i0 .u32 4 Tryz.underlying50 hi0 hz0 hz1 hz2 _ gs (by rfl) (by exact HOG2.out) r (by rfl) (by omega) (by omega) (by omega) ?_))
      intro gv' w3 h1 h2
      have hoy3:=HOY.out.below2 h2 (by omega)
      have HG3:=Lib.hid h1
      have HB3:=Lib.hid (HB2.out.trans (h2.mono (B':=w.heap.size) (by omega)))
      have hg3:g < w3.heap.size:=by have:=h2.size; omega
      have HS3:=Lib.hid hoy3.sl
      have HO3:=Lib.hid hoy3
      have hncap:n≤cap1:=by
        rcases HOZ.out.shape with ⟨e,_⟩ | ⟨_,_,e,_,_,h⟩
        · cases e
        · cases e; have:=HN.out; omega
      clear h1 h2 hoy3
      go_wp2_with fail
      refine (trim_at _ n cap1 ys _ HS3.out HYL.out.symm (by omega) hncap).mono ?_
      rintro e w4 ⟨rfl,rfl⟩
      go_wp2_with fail
      have hle:=trimN_le ys n
      have hyn:n≤ys.length:=by have:=HYL.out; omega
      have hq:val (ys.take (trimN ys n))=val zs / 1000000000:=by rw [trimN_val ys n hyn,List.take_of_length_le (by have:=HYL.out; omega),HVY.out]
      have G:=group_more HV.out HLT.out hq HR.out
      have hlen:(ys.take (trimN ys n)).length=trimN ys n:=by rw [List.length_take]; omega
      have hgv:sliceLen gv'=(gs++[r]).length:=by
        rcases HG3.out.shape with ⟨_,e⟩ | ⟨_,_,e,_⟩
        · simp at e
        · rw [e]; rfl
      have hgl':(gs++[r]).length=gs.length+1:=by simp
      refine ⟨⟨trimN ys n,ys.take (trimN ys n),gs++[r],_,rfl,rfl,hlen.symm,by omega,HO3.out.take hle,hoky.take _,trimN_norm ys n hyn,hgv,HG3.out,G.1,G.2,?_,by omega,HB3.out,hg3⟩,?_⟩
      · by_cases ht:trimN ys n=0
        · right; right
          rw [hgl',Nat.add_sub_cancel,lim_append_right (Nat.le_refl _),Nat.sub_self]
          show r≠0
          rw [ht,List.take_zero,val_nil] at hq
          have:=HVZ.out
          have:=HR.out
          omega
        · exact .inr (.inl ht)
      · rw [hgv,HSL.out,hgl']; omega
end Go.Proofs.YthffkbbcofbceaaGreatDoor
