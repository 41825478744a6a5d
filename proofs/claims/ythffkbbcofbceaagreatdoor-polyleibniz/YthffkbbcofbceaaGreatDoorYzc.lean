/- Contracts of the program's polynomials: what is read of texts. -/
import Derived.Test.YthffkbbcofbceaaGreatDoorYzb
import Derived.Test.YthffkbbcofbceaaGreatDoorYs
import Derived.ChangeSame
import Derived.ChangeMaps5
import Derived.Deep.SlicePairs
import Derived.Carry
import Derived.Test.YthffkbbcofbceaaGreatDoorYv
import Derived.Deep.Slices
namespace Go.Proofs.YthffkbbcofbceaaGreatDoor
open Go Go.RowKit Cin
theorem qparseY_ct (s:ByteArray) (hs:s.size≤9223372036854775807) (h:RatOk s):Ct Tryz.prog JT 59 [none] [[pV (.string s)]] [some 4,none] (fun _=>[.ro false (pQ (ratVal s) 500),.ro false (pV (.int .i64 0))]):=by
  intro w0 E _ hJ hA
  obtain ⟨c1,E1,rfl,_,h1,hE⟩:=hA
  obtain rfl:=rV h1
  subst hE
  refine (qparse_ok s w0.w hs h).mono ?_
  rintro e w' ⟨v,rfl,⟨a,b,c,d,rfl,h⟩,hb⟩
  exact ⟨[a,b,c,d,.int .i64 0],[],fun _=>0,fun _=>False,rfl,List.nodup_nil,fun _ h=>h.elim,(sQ h).app (sV rfl),w0.bx hb⟩
theorem okT_keys {ts:TermL} (h:OkT ts) (hf:FitsT ts):((polyT ts).map (·.1)).Nodup:=by
  have h1:(ts.map (·.1)).Pairwise fun a b=>mc a b < 0:=by
    have key:∀ l:List M,Rise l→(∀ x∈l,x.ok)→l.Pairwise fun a b=>mc a b < 0:=by
      intro l
      induction l with
      | nil=>intro _ _; exact List.Pairwise.nil
      | cons a l ih=>
        intro hr ho
        refine List.pairwise_cons.2 ⟨Rise.lt hr (ho a List.mem_cons_self) (fun x hx=>ho x (List.mem_cons_of_mem _ hx)),ih ?_ (fun x hx=>ho x (List.mem_cons_of_mem _ hx))⟩
        cases l with
        | nil=>trivial
        | cons b l=>exact hr.2
    refine key _ h.2 fun x hx=>?_
    obtain ⟨t,ht,rfl⟩:=List.mem_map.1 hx
    exact (hf t ht).1
  have e:(polyT ts).map (·.1)=ts.map (·.1):=by simp [polyT,Function.comp_def]
  rw [e]
  refine h1.imp_of_mem fun {a b} ha hb hlt e=>?_
  obtain ⟨t,ht,rfl⟩:=List.mem_map.1 ha
  subst e
  have:=(mc_zero (hf t ht).1 (hf t ht).1).2 rfl
  omega
theorem polyT_snoc {ts:TermL} {i:Nat} {x:M × ByteArray} (h:ts[i]?=some x):polyT (ts.take i)++[(x.1,ratVal x.2)]=polyT (ts.take (i+1)):=by rw [take_snoc h]; simp [polyT]
theorem polyT_new {ts:TermL} {i:Nat} {x:M × ByteArray} (h:ts[i]?=some x) (ho:OkT (ts.take (i+1))) (hf:FitsT ts):∀ y∈polyT (ts.take i),y.1≠x.1:=by
  have h1:=okT_keys ho (hf.take _)
  rw [← polyT_snoc h,List.map_append] at h1
  exact fun y hy=>(List.nodup_append.1 h1).2.2 y.1 (List.mem_map.2 ⟨y,hy,rfl⟩) x.1 (by simp)
theorem parseY_ct (ts:TermL) (hf:FitsT ts) (h:OkT ts):Ct Tryz.prog JT 16 [none] [[pTerms ts]] [some 1,none] (fun _=>[.ro false (pP (polyT ts) 500),.ro false (pV (.int .i64 0))]):=by
  have hlen:=h.len hf
  refine aCtX ⟨true,[]⟩ (D:=DP) hMix (tr:=(.em (.wx (.makeMap 29 none) 29 [] (some none)) (.em (.pr (.call (.mk (.builtin .len) #[.tmp 0] #[22])) 3 [.s (.c 0 0)]) (.loop 0 [.k (.int .i64 0),.k (.int .i64 0),.k (.map none)] (.em (.pr (.binOp .lss 3 (.tmp 0) (.tmp 1) 3) 0 [.s (.c 3 1),.s (.c 2 0)]) (.cond (.c 4 0) (.em (.pr (.indexAddr 22 (.tmp 0) (.tmp 1)) 0 [.s (.c 0 0),.s (.c 3 1)]) (.em (.ld (.load 27 (.tmp 0)) 27 [.s (.c 5 0)] (some 4)) (.em (.call 59 [.s (.c 6 3)] [some 4,none]) (.em (.pr (.binOp .neq 32 (.tmp 0) (.const (.int .i64 0)) 32) 4 [.s (.c 7 4),.s (.k (.int .i64 0))]) (.cond (.c 8 0) (.ret (.t [.g [.k (.map none)],.s (.k (.int .i64 2))])) (.em (.call 60 [.g [.c 7 0,.c 7 1,.c 7 2,.c 7 3]] [none]) (.em (.pr (.binOp .eql 3 (.tmp 0) (.const (.int .i64 0)) 3) 4 [.s (.c 9 0),.s (.k (.int .i64 0))]) (.cond (.c 10 0) (.ret (.t [.g [.k (.map none)],.s (.k (.int .i64 2))])) (.em (.pr (.binOp .gtr 3 (.tmp 0) (.const (.int .i64 0)) 3) 4 [.s (.c 3 1),.s (.k (.int .i64 0))]) (.cond (.c 11 0) (.em (.pr (.binOp .sub 3 (.tmp 0) (.const (.int .i64 1)) 3) 3 [.s (.c 3 1),.s (.k (.int .i64 1))]) (.em (.pr (.indexAddr 22 (.tmp 0) (.tmp 1)) 0 [.s (.c 0 0),.s (.c 12 0)]) (.em (.pr (.fieldAddr 27 (.tmp 0) 0) 0 [.s (.c 13 0)]) (.em (.ld (.load 25 (.tmp 0)) 25 [.s (.c 14 0)] (some 3)) (.em (.call 61 [.g [.c 15 0,.c 15 1,.c 15 2],.g [.c 6 0,.c 6 1,.c 6 2]] [none]) (.em (.pr (.binOp .geq 3 (.tmp 0) (.const (.int .i64 0)) 3) 4 [.s (.c 16 0),.s (.k (.int .i64 0))]) (.cond (.c 17 0) (.ret (.t [.g [.k (.map none)],.s (.k (.int .i64 2))])) (.em (.wx (.mapUpdate 29 (.tmp 0) (.tmp 1) (.tmp 2)) 0 [.s (.c 1 0),.g [.c 6 0,.c 6 1,.c 6 2],.g [.c 7 0,.c 7 1,.c 7 2,.c 7 3]] none) (.em (.pr (.binOp .add 3 (.tmp 0) (.const (.int .i64 1)) 3) 3 [.s (.c 3 1),.s (.k (.int .i64 1))]) (.back 0 [.c 3 0,.c 19 0,.c 3 2])))))))))) (.em (.wx (.mapUpdate 29 (.tmp 0) (.tmp 1) (.tmp 2)) 0 [.s (.c 1 0),.g [.c 6 0,.c 6 1,.c 6 2],.g [.c 7 0,.c 7 1,.c 7 2,.c 7 3]] none) (.em (.pr (.binOp .add 3 (.tmp 0) (.const (.int .i64 1)) 3) 3 [.s (.c 3 1),.s (.k (.int .i64 1))]) (.back 0 [.c 3 0,.c 13 0,.c 3 2]))))))))))))) (.em (.call 62 [.s (.c 1 0)] [some 1]) (.ret (.t [.g [.c 5 0],.s (.k (.int .i64 0))]))))))))) (by kernel_rfl) (by kernel_rfl) (by kernel_rfl) rfl (fun _ _ h=>by cases h) (fun w0 h0=>?_)
  refine aMakeMap cM (k':=25) (e:=56) (fun g=>?_)
  refine aLen rfl (rowsS_len ts) ?_
  refine aLoopU [(1,1,fun i:Nat=>.map g cM (entsP (polyT (ts.take i)) 500))] (fun i:Nat=>[.ro true (pV (.int .i64 0)),.ro true (pV (.int .i64 (i:Nat))),.ro true (pV (.map none))]) (fun i=>i≤ts.length) (fun i=>ts.length - i) 0 (Nat.zero_le _) (fun i hi=>?_)
  refine aPr rfl (prLt rfl rfl) rfl ?_
  refine aIf rfl (fun h1=>?_) (fun h1=>?_)
  · have hlt:i < ts.length:=by simpa using h1
    obtain ⟨x,hx⟩:∃ x,ts[i]?=some x:=⟨_,List.getElem?_eq_getElem hlt⟩
    have hxm:=List.mem_of_getElem? hx
    have hxo:=(hf x hxm).1
    have hnew:=polyT_new hx (h.take _) hf
    have hnd:=okT_keys (h.take i) (hf.take i)
    refine aIdx rfl rfl (fun _=>rfl) (by omega) (rowS_at hx) ?_
    refine aLd rfl rfl rfl ?_
    refine aCall rfl (qparseY_ct x.2 (hf x hxm).2 (h.1 x hxm).1) (fun γ=>?_)
    refine aPr rfl (prNe rfl rfl) rfl ?_
    refine aFalse rfl ?_
    refine aCall rfl (qsign_ct _ _) (fun γ=>?_)
    refine aPrE rfl (prEq rfl rfl) (v':=.bool false) (by rw [sgnR_zero]; simp [(h.1 x hxm).2]) rfl ?_
    refine aFalse rfl ?_
    refine aPr rfl (prGt rfl rfl) rfl ?_
    refine aIf rfl (fun h4=>?_) (fun h4=>?_)
    · obtain ⟨j,rfl⟩:∃ j,i=j+1:=⟨i - 1,by have:(0:Int) < i:=(by simpa using h4); omega⟩
      obtain ⟨y,hy⟩:∃ y,ts[j]?=some y:=⟨_,List.getElem?_eq_getElem (by omega)⟩
      have hc:mc y.1 x.1 < 0:=Rise.at (l:=ts.map (·.1)) h.2 (by rw [List.getElem?_map,hy]; rfl) (by rw [List.getElem?_map,hx]; rfl)
      have hyo:=(hf y (List.mem_of_getElem? hy)).1
      refine aPr rfl (qSubE (z:=(j:Nat)) rfl rfl (by omega) (by omega) (by omega)) rfl ?_
      refine aIdx rfl rfl (fun _=>rfl) (by omega) (rowS_at hy) ?_
      refine aField (off:=0) rfl (by kernel_rfl) rfl ?_
      refine aLd rfl rfl rfl ?_
      refine aCall rfl (mcmp_ct y.1 x.1 hyo hxo) (fun γ=>?_)
      refine aPrE rfl (prGe rfl rfl) (v':=.bool false) (by simp; omega) rfl ?_
      refine aFalse rfl ?_
      refine aPut (m:=cM) (kv:=mVal x.1) (e:=56) 1 1 rfl rfl rfl ⟨x.1,hxo,rfl⟩ cK rfl (fun en' hd _=>?_)
      obtain rfl:=(entsP_put hd hnd).1 hnew
      refine aPr rfl (qAddE (z:=(j+1+1:Nat)) rfl rfl (by omega) (by omega) (by omega)) rfl ?_
      exact aBack rfl rfl ⟨j+1+1,by rw [polyT_snoc hx]; rfl,rfl,hlt,by show ts.length - (j+1+1) < ts.length - (j+1); omega⟩
    · have hi0:i=0:=by have:¬ (0:Int) < i:=(by simpa using h4); omega
      subst hi0
      refine aPut (m:=cM) (kv:=mVal x.1) (e:=56) 1 1 rfl rfl rfl ⟨x.1,hxo,rfl⟩ cK rfl (fun en' hd _=>?_)
      obtain rfl:=(entsP_put hd hnd).1 hnew
      refine aPr rfl (qAddE (z:=(0+1:Nat)) rfl rfl (by omega) (by omega) (by omega)) rfl ?_
      exact aBack rfl rfl ⟨0+1,by rw [polyT_snoc hx]; rfl,rfl,hlt,by show ts.length - (0+1) < ts.length - 0; omega⟩
  · have hil:i=ts.length:=by have:¬ i < ts.length:=(by simpa using h1); omega
    subst hil
    rw [List.take_length]
    refine aFreeze 1 0 1 1 rfl rfl h0 ?_
    refine aCall rfl (ctake_ct (polyT ts) (polyT ts) 500 (List.Perm.refl _)) (fun γ=>?_)
    exact aRet (fun _=>0) rfl rfl rfl
end Go.Proofs.YthffkbbcofbceaaGreatDoor

namespace Go.Proofs.YthffkbbcofbceaaGreatDoor
open Go Go.RowKit Cin
def Sz (d L:Nat) (p:PolyL):Prop:=∃ D N,PB D N L p∧D≤pw d∧N≤pw d
theorem pw_lt {a b:Nat} (h:a < b):pw a < pw b:=Nat.pow_lt_pow_right (by decide) h
theorem pw_le {a b:Nat} (h:a≤b):pw a≤pw b:=Nat.pow_le_pow_right (by decide) h
theorem pw_two (d:Nat):pw d+pw d < pw (d+1):=by
  rw [pw_succ]
  have:=pw_pos d
  omega
theorem Sz.len {d L:Nat} {p:PolyL} (h:Sz d L p):p.length≤L:=let ⟨_,_,h,_⟩:=h; h.len
theorem Sz.ok {d L:Nat} {p:PolyL} (h:Sz d L p):OkP p:=let ⟨_,_,h,_⟩:=h; h.ok
theorem Sz.both {d e L K:Nat} {p q:PolyL} (hp:Sz d L p) (hq:Sz e K q):∃ D N M,PB D N L p∧PB D M K q∧D≤pw (d+e)∧N≤pw (d+e)∧M≤pw (d+e):=by
  obtain ⟨D,N,h,hD,hN⟩:=hp
  obtain ⟨E,M,h',hE,hM⟩:=hq
  refine ⟨D * E,N * E,M * D,h.scale E h'.pos,?_,?_,?_,?_⟩
  · have:=h'.scale D h.pos
    rw [Nat.mul_comm E D] at this
    exact this
  · rw [pw_add]; exact Nat.mul_le_mul hD hE
  · rw [pw_add]; exact Nat.mul_le_mul hN hE
  · rw [pw_add,Nat.mul_comm (pw d)]; exact Nat.mul_le_mul hM hD
theorem Sz.add {d e L K:Nat} {p q:PolyL} (hp:Sz d L p) (hq:Sz e K q):Sz (d+e+1) (L+K) (addP p q):=by
  obtain ⟨D,N,M,h,h',hD,hN,hM⟩:=hp.both hq
  have:=pw_two (d+e)
  exact ⟨D,N+M,h.add h',by omega,by omega⟩
theorem Sz.fitSub {d e L K k:Nat} {p q:PolyL} (hp:Sz d L p) (hq:Sz e K q) (hk:d+e+1≤k):FitSub (fitQ k) p q:=by
  obtain ⟨D,N,M,h,h',hD,hN,hM⟩:=hp.both hq
  have:=pw_two (d+e)
  have:=pw_le hk
  exact h.fitSub h' (by omega) (by omega)
theorem Sz.mul {d e L K:Nat} {p q:PolyL} (hp:Sz d L p) (hq:Sz e K q):Sz (d+e) (L * K) (addP [] (prods p q)):=by
  obtain ⟨D,N,h,hD,hN⟩:=hp
  obtain ⟨E,M,h',hE,hM⟩:=hq
  have h2:=(PB.nil (D:=D * E) (N:=0) (L:=0) (Nat.mul_pos h.pos h'.pos)).add (h.prods h')
  refine ⟨D * E,N * M,h2.mono (by omega) (by omega),?_,?_⟩
  · rw [pw_add]; exact Nat.mul_le_mul hD hE
  · rw [pw_add]; exact Nat.mul_le_mul hN hM
theorem Sz.neg {d L:Nat} {p:PolyL} (h:Sz d L p):Sz d L (mulR p (-1)):=by
  obtain ⟨D,N,h,hD,hN⟩:=h
  have:=h.mulR (E:=1) (r:=-1) (b:=-1) (by decide) (by kernel_rfl)
  simp only [Nat.mul_one] at this
  exact ⟨D,N,this.mono (by simp) (Nat.le_refl _),hD,hN⟩
theorem Sz.of {p:PolyL} {k L:Nat} (ho:OkP p) (hf:FitP (fitQ k) p) (hl:p.length≤L) (hL:L≤4294967296):Sz (k * L+1) L p:=by
  obtain ⟨D,hD,hD2,hw⟩:=wt_of_fit (pw_pos k) hf
  have e:pw k ^ p.length≤pw (k * L):=by
    unfold pw
    rw [← Nat.pow_mul]
    exact Nat.pow_le_pow_right (by decide) (Nat.mul_le_mul_left k hl)
  refine ⟨D,_,⟨hD,hw,ho,hl⟩,Nat.le_trans hD2 (Nat.le_trans e (pw_le (by omega))),?_⟩
  rw [pw_succ]
  exact Nat.mul_le_mul (by omega) e
theorem mulY_ct {d e L K:Nat} (p q:PolyL) (a b k:Nat) (hp:Sz d L p) (hq:Sz e K q) (cp:Canon p) (cq:Canon q) (h:okAll p q=true) (hk:d+e < k) (hk':k≤100000:=by omega) (ha:a≤50000:=by omega) (hb:b≤50000:=by omega) :
    Ct Tryz.prog JT 43 [some 1,some 1] [[pP p a],[pP q b]] [some 1,none] (fun _=>[.ro false (pP (addP [] (prods p q)) k),.ro false (pV (.bool true))]):=by
  obtain ⟨D,N,h1,hD,hN⟩:=hp
  obtain ⟨E,M,h2,hE,hM⟩:=hq
  have e1:D * E≤pw (d+e):=by rw [pw_add]; exact Nat.mul_le_mul hD hE
  have e2:N * M≤pw (d+e):=by rw [pw_add]; exact Nat.mul_le_mul hN hM
  have:=pw_lt hk
  have:=pmulP_ct p q a b k h1 h2 cp cq (by omega) (by omega)
  rw [if_pos h] at this
  exact this
theorem addS_ct {d e L K:Nat} (p q:PolyL) (a b k:Nat) (hp:Sz d L p) (hq:Sz e K q) (cp:Canon p) (hL:L+K≤1000000) (hk:d+e+1≤k) (hk':k≤100000:=by omega) (ha:a=k) (hb:b=k) :
    Ct Tryz.prog JT 32 [some 1,some 1] [[pP p a],[pP q b]] [some 1] (fun _=>[.ro false (pP (addP p q) k)]):=by
  subst ha
  subst hb
  have:=hp.len
  have:=hq.len
  exact add_ct p q _ cp hq.ok (hp.fitSub hq hk) (by omega) (by omega)
theorem EntsAt.fit {q:PolyL} {k k' clock:Nat} {l:Lm} {w:World} {es:Array MapEntry} (hf:FitP (fitQ k') q) (h:EntsAt cM l w es clock (entsP q k)):EntsAt cM l w es clock (entsP q k'):=by
  refine ⟨by rw [h.len,entsP_len,entsP_len],h.born,h.nodup,?_,fun i v row hi=>?_⟩
  · have e:(entsP q k').map (·.1)=(entsP q k).map (·.1):=by simp [entsP,Function.comp_def]
    rw [e]; exact h.keys
  · simp only [entsP,List.getElem?_map,Option.map_eq_some_iff] at hi
    obtain ⟨x,hx,e⟩:=hi
    simp only [Prod.mk.injEq] at e
    obtain ⟨rfl,rfl⟩:=e
    obtain ⟨h1,e0,c,h2,h3,h4,h5,h6⟩:=h.at_ i (mVal x.1) [pQ x.2 k] (by simp [entsP,hx])
    refine ⟨h1,e0,c,h2,h3,h4,h5,?_⟩
    obtain ⟨c1,c2,rfl,⟨a,b,c,d,rfl,h7⟩,h8⟩:=h6
    exact ⟨_,c2,rfl,⟨a,b,c,d,rfl,h7.cut (hf x (List.mem_of_getElem? hx)).1 (hf x (List.mem_of_getElem? hx)).2⟩,h8⟩
theorem ConvS.pqfit {o:Bool} {p:PolyL} {k k':Nat} {a b:List AV} (hf:FitP (fitQ k') p) (h:ConvS a b):ConvS (.ro o (pP p k)::a) (.ro o (pP p k')::b):=fun B w _ _ ⟨c1,c2,o1,o2,e,e2,⟨⟨q,hq,h1⟩,h3⟩,h2⟩=>by
  refine ⟨c1,c2,o1,o2,e,e2,⟨⟨q,hq,entsP_fit q k',?_⟩,h3⟩,h B w _ _ h2⟩
  rcases h1.2 with ⟨e3,e4⟩ | ⟨b,es,clock,e3,hb,hl,hr⟩
  · have e5:q=[]:=entsP_nil e4
    subst e5
    exact .inl ⟨e3,rfl⟩
  · exact .inr ⟨b,es,clock,e3,hb,hl,EntsAt.fit (FitP.perm hq hf) hr⟩
theorem fitQ_mono {k k':Nat} {x:Rat} (h:fitQ k x) (hk:k≤k'):fitQ k' x:=⟨Nat.lt_of_lt_of_le h.1 (pw_le hk),Nat.lt_of_lt_of_le h.2 (pw_le hk)⟩
theorem FitP.up {k k':Nat} {p:PolyL} (h:FitP (fitQ k) p) (hk:k≤k'):FitP (fitQ k') p:=fun x hx=>fitQ_mono (h x hx) hk
theorem Sz.fit {d L k:Nat} {p:PolyL} (h:Sz d L p) (hk:d < k):FitP (fitQ k) p:=by
  obtain ⟨D,N,h,hD,hN⟩:=h
  have:=pw_lt hk
  exact h.wt.fit h.pos (by omega) (by omega)
theorem qEqT {t2 ty:TypeId} {vs:List Value} {p q:Operand} (x:M × ByteArray) (hp:pe vs p=.agg (termV x)) (hq:pe vs q=.agg (termV x)) :
    PrimOk Tryz.prog (.binOp .eql 27 p q t2) ty vs (.bool true):=fun w=>by
  simp only [execOp,hp,hq]
  simp only [Sem.run_bind,run_eqGuard_agg w _ _ _ _ _ _ termG,Result.andThen_ok,run_eql_struct,run_equalIn_agg w 9999 _ _ _ termT termH,eqTerm 9996]
  simp
theorem sz_x:Sz 0 1 (varP 0):=⟨1,1,⟨by decide,⟨1,0,by kernel_rfl,by decide,trivial⟩,(fun x hx=>by rw [List.mem_singleton.1 hx]; exact ⟨by decide,by decide,by decide⟩),by decide⟩,by decide,by decide⟩
theorem one_ne:(1:Rat)≠0:=by decide
theorem const_one:constP 1=[((0,0,0),1)]:=by unfold constP putP; rw [if_neg one_ne]
theorem sz_1:Sz 0 1 (constP 1):=by
  rw [const_one]
  exact ⟨1,1,⟨by decide,⟨1,0,by kernel_rfl,by decide,trivial⟩,(fun x hx=>by rw [List.mem_singleton.1 hx]; exact ⟨by decide,by decide,by decide⟩),by decide⟩,by decide,by decide⟩
theorem canon_var:Canon (varP 0):=⟨sz_x.ok,List.pairwise_singleton _ _,fun x hx=>by rw [List.mem_singleton.1 hx]; exact one_ne⟩
abbrev x2m1:PolyL:=[((0,0,0),-1),((2,0,0),1)]
theorem prod_is:addP [] (prods (addP (varP 0) (constP 1)) (addP (varP 0) (mulR (constP 1) (-1))))=x2m1:=by kernel_rfl
theorem prod_ok:okAll (addP (varP 0) (constP 1)) (addP (varP 0) (mulR (constP 1) (-1)))=true:=by kernel_rfl
theorem prod_plain:plainP x2m1=[((0,0,0),ByteArray.mk #[45,49]),((2,0,0),ByteArray.mk #[49])]:=by kernel_rfl
theorem ok_neg {p:PolyL} (h:OkP p):OkP (mulR p (-1)):=mulR_ok h
theorem alive8_ct:Ct Tryz.prog JP 15 [] [] [none] (fun _=>[.ro false (pV (.bool true))]):=by
  have c1:Canon (addP (varP 0) (constP 1)):=canon_var.add sz_1.ok
  have c2:Canon (addP (varP 0) (mulR (constP 1) (-1))):=canon_var.add (ok_neg sz_1.ok)
  have s1:=sz_x.add sz_1
  have s2:=sz_x.add sz_1.neg
  have c3:Canon x2m1:=by rw [← prod_is]; exact Canon.of prods_ok
  have hm:=mulY_ct (addP (varP 0) (constP 1)) (addP (varP 0) (mulR (constP 1) (-1))) 2 2 3 s1 s2 c1 c2 prod_ok (by decide)
  rw [prod_is] at hm
  refine aCtO ⟨true,[]⟩ (D:=DP) hMix (tr:=(.em (.call 39 [.s (.k (.int .i64 0))] [some 1]) (.em (.call 58 [.s (.k (.int .i64 1))] [some 4]) (.em (.call 41 [.g [.c 1 0,.c 1 1,.c 1 2,.c 1 3]] [some 1]) (.em (.call 32 [.g [.c 0 0],.g [.c 2 0]] [some 1]) (.em (.call 58 [.s (.k (.int .i64 1))] [some 4]) (.em (.call 41 [.g [.c 4 0,.c 4 1,.c 4 2,.c 4 3]] [some 1]) (.em (.call 34 [.g [.c 0 0],.g [.c 5 0]] [some 1]) (.em (.call 43 [.g [.c 3 0],.g [.c 6 0]] [some 1,none]) (.em (.call 57 [.g [.c 7 0]] [none]) (.cond (.c 7 1) (.em (.pr (.call (.mk (.builtin .len) #[.tmp 0] #[22])) 3 [.s (.c 8 0)]) (.em (.pr (.binOp .eql 3 (.tmp 0) (.const (.int .i64 2)) 3) 4 [.s (.c 9 0),.s (.k (.int .i64 2))]) (.cond (.c 10 0) (.em (.pr (.indexAddr 22 (.tmp 0) (.const (.int .i64 0))) 0 [.s (.c 8 0),.s (.k (.int .i64 0))]) (.em (.ld (.load 27 (.tmp 0)) 27 [.s (.c 11 0)] (some 4)) (.em (.pr (.binOp .eql 27 (.tmp 0) (.tmp 1) 27) 4 [.g [.c 12 0,.c 12 1,.c 12 2,.c 12 3],.g [.k (.int .u8 0),.k (.int .u8 0),.k (.int .u8 0),.k (.string ⟨#[45,49]⟩)]]) (.cond (.c 13 0) (.em (.pr (.indexAddr 22 (.tmp 0) (.const (.int .i64 1))) 0 [.s (.c 8 0),.s (.k (.int .i64 1))]) (.em (.ld (.load 27 (.tmp 0)) 27 [.s (.c 14 0)] (some 4)) (.em (.pr (.binOp .eql 27 (.tmp 0) (.tmp 1) 27) 4 [.g [.c 15 0,.c 15 1,.c 15 2,.c 15 3],.g [.k (.int .u8 2),.k (.int .u8 0),.k (.int .u8 0),.k (.string ⟨#[49]⟩)]]) (.ret (.v (.s (.c 16 0))))))) (.ret (.v (.s (.k (.bool false))))))))) (.ret (.v (.s (.k (.bool false)))))))) (.ret (.v (.s (.k (.bool false)))))))))))))))) (by kernel_rfl) (by kernel_rfl) (by kernel_rfl) rfl (fun _ _ h=>by cases h) (fun w0=>?_)
  refine aCall rfl (var_ct 0 (by decide)) (fun γ=>?_)
  refine aCall rfl qof1_ct (fun γ=>?_)
  refine aCall rfl (const_ct 1 2 ⟨by decide,by decide⟩) (fun γ=>?_)
  refine aCall rfl (add_ct (varP 0) (constP 1) 2 canon_var sz_1.ok (sz_x.fitSub sz_1 (by decide)) (by decide) (Nat.le_trans sz_1.len (by decide))) (fun γ=>?_)
  refine aCall rfl qof1_ct (fun γ=>?_)
  refine aCall rfl (const_ct 1 2 ⟨by decide,by decide⟩) (fun γ=>?_)
  refine aCall rfl (sub_ct (varP 0) (constP 1) 2 canon_var sz_1.ok (sz_x.fitSub sz_1.neg (by decide)) (by decide) (Nat.le_trans sz_1.len (by decide))) (fun γ=>?_)
  refine aCall rfl hm (fun γ=>?_)
  refine aCall rfl (plainS_ct x2m1 3 c3 (by decide)) (fun γ=>?_)
  rw [prod_plain]
  refine aTrue rfl ?_
  refine aLen rfl (rowsS_len _) ?_
  refine aPr rfl (prEq rfl rfl) rfl ?_
  refine aTrue rfl ?_
  refine aIdxB rfl rfl (fun _=>rfl) (by decide) (rowS_at (x:=((0,0,0),ByteArray.mk #[45,49])) (i:=0) rfl) ?_
  refine aLd rfl rfl rfl ?_
  refine aPr rfl (qEqT ((0,0,0),ByteArray.mk #[45,49]) rfl rfl) rfl ?_
  refine aTrue rfl ?_
  refine aIdxB rfl rfl (fun _=>rfl) (by decide) (rowS_at (x:=((2,0,0),ByteArray.mk #[49])) (i:=1) rfl) ?_
  refine aLd rfl rfl rfl ?_
  refine aPr rfl (qEqT ((2,0,0),ByteArray.mk #[49]) rfl rfl) rfl ?_
  exact aRet (fun _=>0) rfl rfl rfl
end Go.Proofs.YthffkbbcofbceaaGreatDoor

namespace Cin
open Go Go.ChangeShapes Go.WideShapes Go.RowKit Go.Deep
def termRow (p:M × ByteArray):List Value:=[.int .u8 (p.1.1:Nat),.int .u8 (p.1.2.1:Nat),.int .u8 (p.1.2.2:Nat),.string p.2]
def termRows (ps:List (M × ByteArray)):List (List Value):=ps.map termRow
theorem termRows_len (ps:List (M × ByteArray)):∀ x∈termRows ps,x.length=4:=fun x hx=>by
  obtain ⟨p,_,rfl⟩:=List.mem_map.1 hx
  rfl
section
variable {H:Type} {enc:TypeId × Value→H} {P:Program} {w:World} {base:Nat} {spare:Nat→Bool} {held:Bool}
theorem open_term {e s m u:TypeId} {f0 f1:Field} {cs:List Value} {fuel:Nat} {x:DataW H × List MemPlace} (he:P.underlying e=some (.struct #[f0,f1])) (hs:P.underlying s=some .string) (hm:P.underlying m=some (.array 3 u)) (hu:P.underlying u=some (.int .u8))
    (hf:f0.type=m∧f1.type=s∧f0.offset=0∧f1.offset=3) (ce:P.cellsOf e=4) (csz:P.cellsOf s=1) (cm:P.cellsOf m=3) (cu:P.cellsOf u=1) (h:DataW.trod enc P w base spare held fuel e cs=some x) :
    ∃ q:M × ByteArray,cs=termRow q∧q.1.ok∧q.2.size≤maxLen:=by
  obtain ⟨t0,t1,o0,o1⟩:=hf
  obtain ⟨xs,k,_,_,hlen,hxl,hh⟩:=DataW.trod_struct he h
  rw [ce] at hlen
  match xs,hxl,cs,hlen with
  | [y0,y1],_,[c0,c1,c2,c3],_=>
    have g0:=hh 0 f0 rfl
    have g1:=hh 1 f1 rfl
    rw [t0,o0,cm] at g0
    rw [t1,o1,csz] at g1
    obtain ⟨z0,z1,z2,n,_,h0,h1,h2⟩:=trod_array3 hm cu (show DataW.trod enc P w base spare held k m [c0,c1,c2]=some y0 from g0)
    obtain ⟨x0,e0,_,w0⟩:=DataW.trod_int hu h0
    obtain ⟨x1,e1,_,w1⟩:=DataW.trod_int hu h1
    obtain ⟨x2,e2,_,w2⟩:=DataW.trod_int hu h2
    obtain ⟨n0,rfl,k0⟩:=wfU w0
    obtain ⟨n1,rfl,k1⟩:=wfU w1
    obtain ⟨n2,rfl,k2⟩:=wfU w2
    obtain ⟨r,e3,_,w3⟩:=DataW.trod_string hs (show DataW.trod enc P w base spare held k s [c3]=some y1 from g1)
    simp only [List.cons.injEq,and_true] at e0 e1 e2 e3
    exact ⟨((n0,n1,n2),r),by rw [e0,e1,e2,e3]; rfl,⟨k0,k1,k2⟩,w3⟩
theorem open_terms {r:Reach} {b0:Nat} {t e s m u:TypeId} {f0 f1:Field} {v:Value} {d:DataW H} {pl:List MemPlace} (ht:P.underlying t=some (.slice e)) (he:P.underlying e=some (.struct #[f0,f1])) (hs:P.underlying s=some .string) (hm:P.underlying m=some (.array 3 u)) (hu:P.underlying u=some (.int .u8))
    (hf:f0.type=m∧f1.type=s∧f0.offset=0∧f1.offset=3) (ce:P.cellsOf e=4) (csz:P.cellsOf s=1) (cm:P.cellsOf m=3) (cu:P.cellsOf u=1)
    (hval:Value.okWide P w r b0 t v) (hd:DataW.Trod enc P w base (fun _=>true) held t v d pl) :
    ∃ ps:List (M × ByteArray),RowR 4 w v (termRows ps)∧∀ p∈ps,p.1.ok∧p.2.size≤maxLen:=by
  obtain ⟨a0,ln,cp,rfl⟩:=okWide_slice ht hval
  obtain ⟨fuel,hd⟩:=hd
  simp only [Value.cells] at hd
  rcases open_slice ht hd with ⟨hc,_⟩ | ⟨a,len,cap,mm,n,D,Pl,hc,_,hl,hmx,hmm,_,hall⟩
  · simp only [List.cons.injEq,and_true] at hc
    injection hc with e1 e2 e3
    subst e1 e2 e3
    exact ⟨[],RowR.nil _ _ (fun _=>rfl),fun _ h=>by cases h⟩
  · simp only [List.cons.injEq,and_true] at hc
    injection hc with e1 e2 e3
    subst e1 e2 e3
    simp only [if_true] at hmm
    subst hmm
    have hel:∀ i,i < mm→∃ q:M × ByteArray,(∀ j y,(termRow q)[j]?=some y→w.cell? ((a.add (i * 4)).add j)=some y)∧q.1.ok∧q.2.size≤maxLen:=fun i hi=>by
      obtain ⟨cs',h1,h2⟩:=hall i hi
      rw [ce] at h1
      obtain ⟨_,hlen,hcell⟩:=World.cells?_some h1
      obtain ⟨q,rfl,k1,k2⟩:=open_term he hs hm hu hf ce csz cm cu h2
      exact ⟨q,fun j y hy=>by rw [hcell j (by rw [← hlen]; exact (List.getElem?_eq_some_iff.1 hy).1)]; exact hy,k1,k2⟩
    obtain ⟨q,hq⟩:=choose_lt hel
    refine ⟨(List.range ln).map q,⟨termRows_len _,?_⟩,fun p hp=>?_⟩
    · cases hln:ln with
      | zero=>exact .inl ⟨_,_,rfl,fun h=>(by cases h),by simp [termRows]⟩
      | succ l=>
        right
        obtain ⟨b,o,spot⟩:=a
        have h00:=(hq 0 (by omega)).1 0 _ rfl
        have hspot:spot=none:=by simpa [Addr.add] using World.cell?_spot h00
        subst hspot
        have hb:b < w.heap.size:=by
          have:=h00
          simp only [Nat.zero_mul,Addr.add_mid,Nat.add_zero,World.cell?] at this
          cases hh:w.heap[b]? with
          | none=>simp [hh] at this
          | some ob=>exact lt_of_heap hh
        refine ⟨b,o,mm,by simp [termRows],hb,by simp [termRows]; omega,fun i x hx j y hy=>?_⟩
        simp only [termRows,List.map_map,List.getElem?_map] at hx
        cases hr:(List.range (l+1))[i]? with
        | none=>rw [hr] at hx; cases hx
        | some i'=>
          rw [hr] at hx
          simp only [Option.map_some,Option.some.injEq,Function.comp] at hx
          obtain ⟨hi1,hi2⟩:=List.getElem?_eq_some_iff.1 hr
          simp at hi1 hi2
          subst hi2
          subst hx
          have c0:=(hq i (by omega)).1 j y hy
          simpa [Addr.add_mid] using c0
    · obtain ⟨i,hi,rfl⟩:=List.mem_map.1 hp
      exact (hq i (by have:=List.mem_range.1 hi; omega)).2
end
end Cin

namespace Go.Proofs.YthffkbbcofbceaaGreatDoor
open Go Go.RowKit Cin
theorem rows_arg8 {W:World} {v:Value} {r:Rty} {xs:List (List Value)} {rows:List (List Pd)} (hn:0 < r.n) (h:RowR r.n W v xs) (hl:rows.length=xs.length) (hr:∀ (i:Nat) (x:List Value) (row:List Pd),xs[i]?=some x→rows[i]?=some row→r.Fit row∧RL (at7 W).lim W row x) :
    RL (at7 W).lim W [pRows r rows] [v]:=by
  refine ⟨[v],[],by simp,⟨fun row hm=>?_,?_⟩,rfl⟩
  · obtain ⟨i,hi,rfl⟩:=List.getElem_of_mem hm
    exact (hr i xs[i] _ (List.getElem?_eq_getElem (by omega)) (List.getElem?_eq_getElem hi)).1
  · rcases h.2 with ⟨ad,cap,rfl,hc,rfl⟩ | ⟨b,o,cap,rfl,hb,hm,hat⟩
    · exact .inl ⟨ad,cap,rfl,hc,List.eq_nil_of_length_eq_zero hl⟩
    · cases hx:xs with
      | nil=>subst hx; exact .inl ⟨_,cap,rfl,fun h=>(by cases h),List.eq_nil_of_length_eq_zero hl⟩
      | cons x0 xr=>
        obtain ⟨c,t,f,ho⟩:∃ c t f,W.heap[b]?=some (.cells c t f):=by
          have h0:=hat 0 x0 (by rw [hx]; rfl)
          have hl0:=h.1 x0 (by rw [hx]; simp)
          have hc:=h0 0 (x0[0]'(by omega)) (List.getElem?_eq_getElem (by omega))
          unfold World.cell? at hc
          split at hc
          · rename_i c t f ho; exact ⟨c,t,f,ho⟩
          · cases hc
        refine .inr ⟨b,o,cap,c,t,f,by rw [hl,← hx],ho,⟨.inl hb,fun B hB=>by cases hB; exact ⟨hb,fun h=>h⟩⟩,by rw [hl]; exact hm,fun i row hi=>?_⟩
        have hlt:=(List.getElem?_eq_some_iff.1 hi).1
        have hxi:=List.getElem?_eq_getElem (l:=xs) (i:=i) (by omega)
        refine ⟨xs[i]'(by omega),h.1 _ (List.getElem_mem _),(hr i _ row hxi hi).2,fun j y hy=>?_⟩
        have:=hat i _ hxi j y hy
        simpa [World.cell?,ho] using this
theorem terms_arg {W:World} {v:Value} {ts:TermL} (h:RowR 4 W v (termRows ts)):RL (at7 W).lim W [pTerms ts] [v]:=
  rows_arg8 (r:=tR) (rows:=rowsS ts) (by decide) h (by simp [termRows,rowsS]) (fun i x row hx hr=>by
    simp only [termRows,rowsS,List.getElem?_map] at hx hr
    cases hi:ts[i]? with
    | none=>rw [hi] at hx; cases hx
    | some t=>
      rw [hi] at hx hr
      cases hx
      cases hr
      exact ⟨fun p hp=>by
        simp [mV] at hp
        rcases hp with rfl | rfl | rfl | rfl <;> exact ⟨fun t h=>by simp [pV] at h,fun t h=>by simp [pV] at h⟩,
        ⟨[_],_,rfl,⟨rfl,rfl⟩,[_],_,rfl,⟨rfl,rfl⟩,[_],_,rfl,⟨rfl,rfl⟩,[_],[],rfl,⟨rfl,rfl⟩,rfl⟩⟩)
theorem fitsT_of {ts:TermL} (h:∀ p∈ts,p.1.ok∧p.2.size≤maxLen):FitsT ts:=fun t ht=>⟨(h t ht).1,by have:=(h t ht).2; unfold maxLen at this; omega⟩
theorem of8Y_ct (ts:TermL) (e:Int) (hf:FitsT ts) (h:OkT ts) (hw:fewT ts 14 e=true):Ct Tryz.prog JT 31 [none,none] [[pTerms ts],[pV (.int .i64 e)]] [some 1,none,none] (fun _=>[.ro false (pP (polyT ts) 500),.ro false (pPoly (polyT ts) 500),.ro false (pV (.bool true))]):=by
  refine aCtO ⟨true,[]⟩ (D:=DP) hMix (tr:=(.em (.call 17 [.s (.c 0 0)] [none,none]) (.em (.pr (.unOp .not 4 (.tmp 0)) 4 [.s (.c 2 1)]) (.cond (.c 3 0) (.ret (.t [.g [.k (.map none)],.s (.k (.slice none 0 0)),.s (.k (.bool false))])) (.em (.call 78 [.s (.c 0 0),.s (.k (.int .i64 14)),.s (.c 1 0)] [none]) (.em (.pr (.unOp .not 4 (.tmp 0)) 4 [.s (.c 4 0)]) (.cond (.c 5 0) (.ret (.t [.g [.k (.map none)],.s (.k (.slice none 0 0)),.s (.k (.bool false))])) (.em (.call 16 [.s (.c 0 0)] [some 1,none]) (.ret (.t [.g [.c 6 0],.s (.c 2 0),.s (.k (.bool true))])))))))))) (by kernel_rfl) (by kernel_rfl) (by kernel_rfl) rfl (fun _ _ h=>by cases h) (fun w0=>?_)
  refine aCall rfl (pparse_ct ts hf h) (fun γ=>?_)
  refine aPr rfl (prNot rfl) rfl ?_
  refine aFalse rfl ?_
  refine aCall rfl (fewT_ct ts 14 e hf (h.len hf)) (fun _=>?_)
  rw [hw]
  refine aPr rfl (prNot rfl) rfl ?_
  refine aFalse rfl ?_
  refine aCall rfl (parseY_ct ts hf h) (fun _=>?_)
  exact aRetR rfl rfl rfl
theorem of8N_ct (ts:TermL) (e:Int) (hf:FitsT ts) (h:¬ (OkT ts∧fewT ts 14 e=true)):Ct Tryz.prog JT 31 [none,none] [[pTerms ts],[pV (.int .i64 e)]] [some 1,none,none] (fun _=>[.ro false (pP [] 500),.ro false (pPoly [] 500),.ro false (pV (.bool false))]):=by
  refine aCtO ⟨true,[]⟩ (D:=DP) hMix (tr:=(.em (.call 17 [.s (.c 0 0)] [none,none]) (.em (.pr (.unOp .not 4 (.tmp 0)) 4 [.s (.c 2 1)]) (.cond (.c 3 0) (.ret (.t [.g [.k (.map none)],.s (.k (.slice none 0 0)),.s (.k (.bool false))])) (.em (.call 78 [.s (.c 0 0),.s (.k (.int .i64 14)),.s (.c 1 0)] [none]) (.em (.pr (.unOp .not 4 (.tmp 0)) 4 [.s (.c 4 0)]) (.cond (.c 5 0) (.ret (.t [.g [.k (.map none)],.s (.k (.slice none 0 0)),.s (.k (.bool false))])) (.em (.call 16 [.s (.c 0 0)] [some 1,none]) (.ret (.t [.g [.c 6 0],.s (.c 2 0),.s (.k (.bool true))])))))))))) (by kernel_rfl) (by kernel_rfl) (by kernel_rfl) rfl (fun _ _ h=>by cases h) (fun w0=>?_)
  by_cases ho:OkT ts
  · have hw:fewT ts 14 e=false:=by
      cases hh:fewT ts 14 e with
      | false=>rfl
      | true=>exact absurd ⟨ho,hh⟩ h
    refine aCall rfl (pparse_ct ts hf ho) (fun γ=>?_)
    refine aPr rfl (prNot rfl) rfl ?_
    refine aFalse rfl ?_
    refine aCall rfl (fewT_ct ts 14 e hf (ho.len hf)) (fun _=>?_)
    rw [hw]
    refine aPr rfl (prNot rfl) rfl ?_
    refine aTrue rfl ?_
    exact aRetC (fun _=>0) rfl rfl (ConvS.nilP rfl (ConvS.rows (ConvS.same ConvS.nil)))
  · refine aCall rfl (pparse_no ts hf ho) (fun γ=>?_)
    refine aPr rfl (prNot rfl) rfl ?_
    refine aTrue rfl ?_
    exact aRetC (fun _=>0) rfl rfl (ConvS.nilP rfl (ConvS.rows (ConvS.same ConvS.nil)))
theorem few_len {ts:TermL} {e:Int} (h:fewT ts 14 e=true):ts.length≤14:=by
  unfold fewT at h
  simp only [Bool.and_eq_true,decide_eq_true_eq] at h
  omega
theorem few_sm {ts:TermL} {e:Nat} (h:fewT ts 14 (e:Nat)=true):SmP e (polyT ts):=fun x hx=>by
  obtain ⟨t,ht,rfl⟩:=List.mem_map.1 hx
  unfold fewT at h
  simp only [Bool.and_eq_true,decide_eq_true_eq,List.all_eq_true] at h
  have:=h.2 t ht
  simp only [okX,Bool.and_eq_true,decide_eq_true_eq] at this
  exact ⟨show t.1.1≤e by omega,show t.1.2.1≤e by omega,show t.1.2.2≤e by omega⟩
theorem polyT_okP {ts:TermL} (hf:FitsT ts):OkP (polyT ts):=fun x hx=>by
  obtain ⟨t,ht,rfl⟩:=List.mem_map.1 hx
  exact (hf t ht).1
theorem rise_pair:∀ {l:List M},Rise l→(∀ x∈l,x.ok)→l.Pairwise fun a b=>mc a b < 0
  | [],_,_=>List.Pairwise.nil
  | a::_,hr,ho=>List.pairwise_cons.2 ⟨Rise.lt hr (ho a List.mem_cons_self) (fun x hx=>ho x (List.mem_cons_of_mem _ hx)),rise_pair hr.tl (fun x hx=>ho x (List.mem_cons_of_mem _ hx))⟩
theorem polyT_canon {ts:TermL} (hf:FitsT ts) (h:OkT ts):Canon (polyT ts):=by
  refine ⟨polyT_okP hf,?_,fun x hx=>?_⟩
  · have:=rise_pair h.2 (fun x hx=>by obtain ⟨t,ht,rfl⟩:=List.mem_map.1 hx; exact (hf t ht).1)
    unfold polyT
    rw [List.pairwise_map] at this ⊢
    exact this
  · obtain ⟨t,ht,rfl⟩:=List.mem_map.1 hx
    exact (h.1 t ht).2
theorem polyT_sz {ts:TermL} {e:Int} (hf:FitsT ts) (h:OkT ts) (hw:fewT ts 14 e=true):Sz 57 14 (polyT ts):=
  Sz.of (k:=4) (L:=14) (polyT_okP hf) (fewT_fit hw h) (by rw [polyT_len]; exact few_len hw) (by decide)
noncomputable def of8B (ts:TermL) (e:Int):Bool:=@decide (OkT ts∧fewT ts 14 e=true) (Classical.propDecidable _)
noncomputable def of8P (ts:TermL) (e:Int):PolyL:=if of8B ts e=true then polyT ts else []
theorem of8_ct (ts:TermL) (e:Int) (hf:FitsT ts):Ct Tryz.prog JT 31 [none,none] [[pTerms ts],[pV (.int .i64 e)]] [some 1,none,none] (fun _=>[.ro false (pP (of8P ts e) 500),.ro false (pPoly (of8P ts e) 500),.ro false (pV (.bool (of8B ts e)))]):=by
  unfold of8P
  by_cases h:OkT ts∧fewT ts 14 e=true
  · have hb:of8B ts e=true:=@decide_eq_true _ (Classical.propDecidable _) h
    rw [if_pos hb,hb]
    exact of8Y_ct ts e hf h.1 h.2
  · have hb:of8B ts e=false:=@decide_eq_false _ (Classical.propDecidable _) h
    rw [if_neg (by rw [hb]; decide),hb]
    exact of8N_ct ts e hf h
theorem of8B_of {ts:TermL} {e:Int} (h:of8B ts e=true):OkT ts∧fewT ts 14 e=true:=@of_decide_eq_true _ (Classical.propDecidable _) h
theorem ofP_canon {ts:TermL} {e:Int} (hf:FitsT ts):Canon (of8P ts e):=by
  unfold of8P
  split
  · rename_i h; exact polyT_canon hf (of8B_of h).1
  · exact Canon.nil
theorem ofP_sz {ts:TermL} {e:Int} (hf:FitsT ts):Sz 57 14 (of8P ts e):=by
  unfold of8P
  split
  · rename_i h; exact polyT_sz hf (of8B_of h).1 (of8B_of h).2
  · exact ⟨1,0,PB.nil (by decide),pw_pos _,Nat.zero_le _⟩
theorem ofP_sm {ts:TermL} {e:Nat}:SmP e (of8P ts (e:Nat)):=by
  unfold of8P
  split
  · rename_i h; exact few_sm (of8B_of h).2
  · exact fun _ h=>by cases h
theorem sub_self' {p:PolyL} (hp:Canon p):addP p (mulR p (-1))=[]:=
  canon_eq (hp.add (mulR_ok hp.ok)) Canon.nil fun m=>by
    unfold Cin.coP
    rw [evP_add,evP_mulR]
    show _=(0:Rat)
    grind
theorem rings_ct (a b c:TermL) (ha:FitsT a) (hb:FitsT b) (hc:FitsT c):Ct Tryz.prog JP 10 [none,none,none] [[pTerms a],[pTerms b],[pTerms c]] [none] (fun _=>[.ro false (pV (.bool true))]):=by
  have cA:Canon (of8P a 20):=ofP_canon ha
  have cB:Canon (of8P b 20):=ofP_canon hb
  have cC:Canon (of8P c 20):=ofP_canon hc
  have sA:Sz 57 14 (of8P a 20):=ofP_sz ha
  have sB:Sz 57 14 (of8P b 20):=ofP_sz hb
  have sC:Sz 57 14 (of8P c 20):=ofP_sz hc
  have mA:SmP 20 (of8P a 20):=ofP_sm
  have mB:SmP 20 (of8P b 20):=ofP_sm
  have mC:SmP 20 (of8P c 20):=ofP_sm
  have oA:=of8_ct a 20 ha
  have oB:=of8_ct b 20 hb
  have oC:=of8_ct c 20 hc
  generalize of8P a 20=A at *
  generalize of8P b 20=B at *
  generalize of8P c 20=C at *
  have cS:Canon (addP A B):=cA.add sB.ok
  have sS:=sA.add sB
  have mS:SmP 20 (addP A B):=mA.add mB
  have cX:Canon (addP [] (prods (addP A B) C)):=Canon.of prods_ok
  have cY:Canon (addP [] (prods C A)):=Canon.of prods_ok
  have cZ:Canon (addP [] (prods C B)):=Canon.of prods_ok
  have sX:=sS.mul sC
  have sY:=sC.mul sA
  have sZ:=sC.mul sB
  have e1:addP [] (prods (addP A B) C)=addP (addP [] (prods C A)) (addP [] (prods C B)):=mul_add
  have e2:addP A B=addP B A:=add_comm cA cB
  have hs1:=same_ct (addP [] (prods (addP A B) C)) (addP (addP [] (prods C A)) (addP [] (prods C B))) 173 230 cX (cY.add sZ.ok) (Nat.le_trans sX.len (by decide))
  rw [decide_eq_true e1] at hs1
  have hs2:=same_ct (addP A B) (addP B A) 115 115 cS (cB.add sA.ok) (Nat.le_trans sS.len (by decide))
  rw [decide_eq_true e2] at hs2
  have hsub:=sub_ct A A 115 cA sA.ok (sA.fitSub sA.neg (by decide)) (Nat.le_trans sA.len (by decide)) (Nat.le_trans sA.len (by decide))
  rw [sub_self' cA] at hsub
  refine aCtO ⟨true,[]⟩ (D:=DP) hMix (tr:=(.em (.call 31 [.s (.c 0 0),.s (.k (.int .i64 20))] [some 1,none,none]) (.em (.call 31 [.s (.c 1 0),.s (.k (.int .i64 20))] [some 1,none,none]) (.em (.call 31 [.s (.c 2 0),.s (.k (.int .i64 20))] [some 1,none,none]) (.em (.pr (.unOp .not 4 (.tmp 0)) 4 [.s (.c 3 2)]) (.cond (.c 6 0) (.em (.call 15 [] [none]) (.ret (.v (.s (.c 7 0))))) (.em (.pr (.unOp .not 4 (.tmp 0)) 4 [.s (.c 4 2)]) (.cond (.c 7 0) (.em (.call 15 [] [none]) (.ret (.v (.s (.c 8 0))))) (.em (.pr (.unOp .not 4 (.tmp 0)) 4 [.s (.c 5 2)]) (.cond (.c 8 0) (.em (.call 15 [] [none]) (.ret (.v (.s (.c 9 0))))) (.em (.call 15 [] [none]) (.em (.pr (.unOp .not 4 (.tmp 0)) 4 [.s (.c 9 0)]) (.cond (.c 10 0) (.em (.call 15 [] [none]) (.ret (.v (.s (.c 11 0))))) (.em (.call 32 [.g [.c 3 0],.g [.c 4 0]] [some 1]) (.em (.call 43 [.g [.c 11 0],.g [.c 5 0]] [some 1,none]) (.em (.call 43 [.g [.c 5 0],.g [.c 3 0]] [some 1,none]) (.em (.call 43 [.g [.c 5 0],.g [.c 4 0]] [some 1,none]) (.cond (.c 12 1) (.cond (.c 13 1) (.cond (.c 14 1) (.em (.call 32 [.g [.c 13 0],.g [.c 14 0]] [some 1]) (.em (.call 27 [.g [.c 12 0],.g [.c 15 0]] [none]) (.cond (.c 16 0) (.em (.call 32 [.g [.c 3 0],.g [.c 4 0]] [some 1]) (.em (.call 32 [.g [.c 4 0],.g [.c 3 0]] [some 1]) (.em (.call 27 [.g [.c 17 0],.g [.c 18 0]] [none]) (.cond (.c 19 0) (.em (.call 34 [.g [.c 3 0],.g [.c 3 0]] [some 1]) (.em (.call 26 [.g [.c 20 0]] [none]) (.em (.pr (.call (.mk (.builtin .len) #[.tmp 0] #[45])) 3 [.s (.c 21 0)]) (.em (.pr (.binOp .eql 3 (.tmp 0) (.const (.int .i64 0)) 3) 4 [.s (.c 22 0),.s (.k (.int .i64 0))]) (.ret (.v (.s (.c 23 0)))))))) (.ret (.v (.s (.k (.bool false))))))))) (.ret (.v (.s (.k (.bool false)))))))) (.ret (.v (.s (.k (.bool false)))))) (.ret (.v (.s (.k (.bool false)))))) (.ret (.v (.s (.k (.bool false))))))))))))))))))))))) (by kernel_rfl) (by kernel_rfl) (by kernel_rfl) rfl (fun _ _ h=>by cases h) (fun w0=>?_)
  refine aCall rfl oA (fun _=>?_)
  refine aCall rfl oB (fun _=>?_)
  refine aCall rfl oC (fun _=>?_)
  refine aPr rfl (prNot rfl) rfl ?_
  refine aIf rfl (fun _=>?_) (fun _=>?_)
  · refine aCall rfl alive8_ct (fun _=>?_)
    exact aRet (fun _=>0) rfl rfl rfl
  refine aPr rfl (prNot rfl) rfl ?_
  refine aIf rfl (fun _=>?_) (fun _=>?_)
  · refine aCall rfl alive8_ct (fun _=>?_)
    exact aRet (fun _=>0) rfl rfl rfl
  refine aPr rfl (prNot rfl) rfl ?_
  refine aIf rfl (fun _=>?_) (fun _=>?_)
  · refine aCall rfl alive8_ct (fun _=>?_)
    exact aRet (fun _=>0) rfl rfl rfl
  refine aCall rfl alive8_ct (fun _=>?_)
  refine aPr rfl (prNot rfl) rfl ?_
  refine aFalse rfl ?_
  refine aConv 3 [.ro false (pP A 115),.ro false (pPoly A 500),.ro false (pV (.bool (of8B a 20)))] rfl (ConvS.pqfit (sA.fit (by decide)) (ConvS.same (ConvS.same ConvS.nil))) ?_
  refine aConv 4 [.ro false (pP B 115),.ro false (pPoly B 500),.ro false (pV (.bool (of8B b 20)))] rfl (ConvS.pqfit (sB.fit (by decide)) (ConvS.same (ConvS.same ConvS.nil))) ?_
  refine aConv 5 [.ro false (pP C 115),.ro false (pPoly C 500),.ro false (pV (.bool (of8B c 20)))] rfl (ConvS.pqfit (sC.fit (by decide)) (ConvS.same (ConvS.same ConvS.nil))) ?_
  refine aCall rfl (addS_ct A B 115 115 115 sA sB cA (by decide) (by decide) (by decide) rfl rfl) (fun _=>?_)
  refine aCall rfl (mulY_ct (addP A B) C 115 115 173 sS sC cS cC (mS.all mC (by decide)) (by decide)) (fun _=>?_)
  refine aCall rfl (mulY_ct C A 115 115 230 sC sA cC cA (mC.all mA (by decide)) (by decide)) (fun _=>?_)
  refine aCall rfl (mulY_ct C B 115 115 230 sC sB cC cB (mC.all mB (by decide)) (by decide)) (fun _=>?_)
  refine aTrue rfl ?_
  refine aTrue rfl ?_
  refine aTrue rfl ?_
  refine aCall rfl (addS_ct (addP [] (prods C A)) (addP [] (prods C B)) 230 230 230 sY sZ cY (by decide) (by decide) (by decide) rfl rfl) (fun _=>?_)
  refine aCall rfl hs1 (fun _=>?_)
  refine aTrue rfl ?_
  refine aCall rfl (addS_ct A B 115 115 115 sA sB cA (by decide) (by decide) (by decide) rfl rfl) (fun _=>?_)
  refine aCall rfl (addS_ct B A 115 115 115 sB sA cB (by decide) (by decide) (by decide) rfl rfl) (fun _=>?_)
  refine aCall rfl hs2 (fun _=>?_)
  refine aTrue rfl ?_
  refine aCall rfl hsub (fun _=>?_)
  refine aCall rfl (termsS_ct [] 115 Canon.nil (by decide)) (fun γ=>?_)
  refine aLen rfl (rowsQ_len [] 115) ?_
  refine aPr rfl (prEq rfl rfl) rfl ?_
  exact aRet (fun _=>0) rfl rfl rfl
theorem polyRings_any (a b c:TermL) (v0 v1 v2:Value) (W:World) (hT:TabsP W) (h0:RowR 4 W v0 (termRows a)) (h1:RowR 4 W v1 (termRows b)) (h2:RowR 4 W v2 (termRows c)) (f0:∀ p∈a,p.1.ok∧p.2.size≤maxLen) (f1:∀ p∈b,p.1.ok∧p.2.size≤maxLen) (f2:∀ p∈c,p.1.ok∧p.2.size≤maxLen) :
    Calls Tryz.prog 10 #[v0,v1,v2] W fun e w'=>e=.returned (.bool true)∧Below W.heap.size W w':=
  (rings_ct a b c (fitsT_of f0) (fitsT_of f1) (fitsT_of f2) (at7 W) [[v0],[v1],[v2]] (fun _ h=>h) hT ⟨[v0],_,rfl,rfl,terms_arg h0,[v1],_,rfl,rfl,terms_arg h1,[v2],_,rfl,rfl,terms_arg h2,rfl⟩).mono fun _ _ h=>told7 h
end Go.Proofs.YthffkbbcofbceaaGreatDoor

namespace Go.Proofs.YthffkbbcofbceaaGreatDoor
open Go Go.RowKit Cin
theorem topP_add (i:Int) (p q:PolyL):topP i (addP p q)≤max (topP i p) (topP i q):=by
  unfold topP
  split
  · exact maxP_add p q
  · simp
theorem topP_mul (i:Int) {p q:PolyL} (hp:Canon p) (hq:Canon q) (hok:okAll p q=true) (ep:p≠[]) (eq:q≠[]):topP i (addP [] (prods p q))=topP i p+topP i q:=by
  unfold topP
  split
  · exact maxP_mul (exV_add i) (fun m=>Int.natCast_nonneg _) (Int.le_refl _) hp hq hok ep eq
  · rfl
theorem degrees_ct (a b:TermL) (i:Int) (ha:FitsT a) (hb:FitsT b):Ct Tryz.prog JP 14 [none,none,none] [[pTerms a],[pTerms b],[pV (.int .i64 i)]] [none] (fun _=>[.ro false (pV (.bool true))]):=by
  have cA:Canon (of8P a 60):=ofP_canon ha
  have cB:Canon (of8P b 60):=ofP_canon hb
  have sA:Sz 57 14 (of8P a 60):=ofP_sz ha
  have sB:Sz 57 14 (of8P b 60):=ofP_sz hb
  have mA:SmP 60 (of8P a 60):=ofP_sm
  have mB:SmP 60 (of8P b 60):=ofP_sm
  have oA:=of8_ct a 60 ha
  have oB:=of8_ct b 60 hb
  generalize of8P a 60=A at *
  generalize of8P b 60=B at *
  have cS:Canon (addP A B):=cA.add sB.ok
  have cM:Canon (addP [] (prods A B)):=Canon.of prods_ok
  have hok:okAll A B=true:=mA.all mB (by decide)
  have d1:maxP (fun m=>((dg m:Nat):Int)) (-1) (addP A B)≤max (maxP (fun m=>((dg m:Nat):Int)) (-1) A) (maxP (fun m=>((dg m:Nat):Int)) (-1) B):=maxP_add A B
  have d2:=topP_add i A B
  have d3:maxP (fun m=>((vr m:Nat):Int)) 0 (addP A B)≤max (maxP (fun m=>((vr m:Nat):Int)) 0 A) (maxP (fun m=>((vr m:Nat):Int)) 0 B):=maxP_add A B
  have hdg:∀ p:PolyL,OkP p→-1≤maxP (fun m=>((dg m:Nat):Int)) (-1) p∧maxP (fun m=>((dg m:Nat):Int)) (-1) p≤765:=fun p hp=>maxP_rng (by omega) fun t ht=>by
    obtain ⟨k0,k1,k2⟩:=hp t ht
    show ((dg t.1:Nat):Int)≤765
    unfold dg
    omega
  have rA:=hdg A cA.ok
  have rB:=hdg B cB.ok
  have tA:=topP_rng (i:=i) cA.ok
  have tB:=topP_rng (i:=i) cB.ok
  refine aCtO ⟨true,[]⟩ (D:=DP) hMix (tr:=(.em (.call 31 [.s (.c 0 0),.s (.k (.int .i64 60))] [some 1,none,none]) (.em (.call 31 [.s (.c 1 0),.s (.k (.int .i64 60))] [some 1,none,none]) (.em (.pr (.unOp .not 4 (.tmp 0)) 4 [.s (.c 3 2)]) (.cond (.c 5 0) (.em (.call 15 [] [none]) (.ret (.v (.s (.c 6 0))))) (.em (.pr (.unOp .not 4 (.tmp 0)) 4 [.s (.c 4 2)]) (.cond (.c 6 0) (.em (.call 15 [] [none]) (.ret (.v (.s (.c 7 0))))) (.em (.call 15 [] [none]) (.em (.pr (.unOp .not 4 (.tmp 0)) 4 [.s (.c 7 0)]) (.cond (.c 8 0) (.em (.call 15 [] [none]) (.ret (.v (.s (.c 9 0))))) (.em (.call 43 [.g [.c 3 0],.g [.c 4 0]] [some 1,none]) (.em (.call 32 [.g [.c 3 0],.g [.c 4 0]] [some 1]) (.em (.call 20 [.g [.c 10 0]] [none]) (.em (.call 20 [.g [.c 3 0]] [none]) (.em (.call 20 [.g [.c 4 0]] [none]) (.em (.pr (.call (.mk (.builtin .max) #[.tmp 0,.tmp 1] #[3,3])) 3 [.s (.c 12 0),.s (.c 13 0)]) (.em (.pr (.binOp .gtr 3 (.tmp 0) (.tmp 1) 3) 4 [.s (.c 11 0),.s (.c 14 0)]) (.cond (.c 15 0) (.ret (.v (.s (.k (.bool false))))) (.em (.call 22 [.g [.c 10 0],.s (.c 2 0)] [none]) (.em (.call 22 [.g [.c 3 0],.s (.c 2 0)] [none]) (.em (.call 22 [.g [.c 4 0],.s (.c 2 0)] [none]) (.em (.pr (.call (.mk (.builtin .max) #[.tmp 0,.tmp 1] #[3,3])) 3 [.s (.c 17 0),.s (.c 18 0)]) (.em (.pr (.binOp .gtr 3 (.tmp 0) (.tmp 1) 3) 4 [.s (.c 16 0),.s (.c 19 0)]) (.cond (.c 20 0) (.ret (.v (.s (.k (.bool false))))) (.em (.call 24 [.g [.c 10 0]] [none]) (.em (.call 24 [.g [.c 3 0]] [none]) (.em (.call 24 [.g [.c 4 0]] [none]) (.em (.pr (.call (.mk (.builtin .max) #[.tmp 0,.tmp 1] #[3,3])) 3 [.s (.c 22 0),.s (.c 23 0)]) (.em (.pr (.binOp .gtr 3 (.tmp 0) (.tmp 1) 3) 4 [.s (.c 21 0),.s (.c 24 0)]) (.cond (.c 25 0) (.ret (.v (.s (.k (.bool false))))) (.em (.pr (.unOp .not 4 (.tmp 0)) 4 [.s (.c 9 1)]) (.cond (.c 26 0) (.ret (.v (.s (.k (.bool false))))) (.em (.pr (.call (.mk (.builtin .len) #[.tmp 0] #[36])) 3 [.s (.c 3 1)]) (.em (.pr (.binOp .eql 3 (.tmp 0) (.const (.int .i64 0)) 3) 4 [.s (.c 27 0),.s (.k (.int .i64 0))]) (.cond (.c 28 0) (.em (.call 20 [.g [.c 9 0]] [none]) (.em (.pr (.binOp .eql 3 (.tmp 0) (.const (.int .i64 (Int.negSucc 0))) 3) 4 [.s (.c 29 0),.s (.k (.int .i64 (Int.negSucc 0)))]) (.ret (.v (.s (.c 30 0)))))) (.em (.pr (.call (.mk (.builtin .len) #[.tmp 0] #[36])) 3 [.s (.c 4 1)]) (.em (.pr (.binOp .eql 3 (.tmp 0) (.const (.int .i64 0)) 3) 4 [.s (.c 29 0),.s (.k (.int .i64 0))]) (.cond (.c 30 0) (.em (.call 20 [.g [.c 9 0]] [none]) (.em (.pr (.binOp .eql 3 (.tmp 0) (.const (.int .i64 (Int.negSucc 0))) 3) 4 [.s (.c 31 0),.s (.k (.int .i64 (Int.negSucc 0)))]) (.ret (.v (.s (.c 32 0)))))) (.em (.call 20 [.g [.c 9 0]] [none]) (.em (.call 20 [.g [.c 3 0]] [none]) (.em (.call 20 [.g [.c 4 0]] [none]) (.em (.pr (.binOp .add 3 (.tmp 0) (.tmp 1) 3) 3 [.s (.c 32 0),.s (.c 33 0)]) (.em (.pr (.binOp .eql 3 (.tmp 0) (.tmp 1) 3) 4 [.s (.c 31 0),.s (.c 34 0)]) (.cond (.c 35 0) (.em (.call 22 [.g [.c 9 0],.s (.c 2 0)] [none]) (.em (.call 22 [.g [.c 3 0],.s (.c 2 0)] [none]) (.em (.call 22 [.g [.c 4 0],.s (.c 2 0)] [none]) (.em (.pr (.binOp .add 3 (.tmp 0) (.tmp 1) 3) 3 [.s (.c 37 0),.s (.c 38 0)]) (.em (.pr (.binOp .eql 3 (.tmp 0) (.tmp 1) 3) 4 [.s (.c 36 0),.s (.c 39 0)]) (.ret (.v (.s (.c 40 0))))))))) (.ret (.v (.s (.k (.bool false))))))))))))))))))))))))))))))))))))))))))))))))) (by kernel_rfl) (by kernel_rfl) (by kernel_rfl) rfl (fun _ _ h=>by cases h) (fun w0=>?_)
  refine aCall rfl oA (fun _=>?_)
  refine aCall rfl oB (fun _=>?_)
  refine aPr rfl (prNot rfl) rfl ?_
  refine aIf rfl (fun _=>?_) (fun _=>?_)
  · refine aCall rfl alive8_ct (fun _=>?_)
    exact aRet (fun _=>0) rfl rfl rfl
  refine aPr rfl (prNot rfl) rfl ?_
  refine aIf rfl (fun _=>?_) (fun _=>?_)
  · refine aCall rfl alive8_ct (fun _=>?_)
    exact aRet (fun _=>0) rfl rfl rfl
  refine aCall rfl alive8_ct (fun _=>?_)
  refine aPr rfl (prNot rfl) rfl ?_
  refine aFalse rfl ?_
  refine aConv 3 [.ro false (pP A 115),.ro false (pPoly A 500),.ro false (pV (.bool (of8B a 60)))] rfl (ConvS.pqfit (sA.fit (by decide)) (ConvS.same (ConvS.same ConvS.nil))) ?_
  refine aConv 4 [.ro false (pP B 115),.ro false (pPoly B 500),.ro false (pV (.bool (of8B b 60)))] rfl (ConvS.pqfit (sB.fit (by decide)) (ConvS.same (ConvS.same ConvS.nil))) ?_
  refine aCall rfl (mulY_ct A B 115 115 115 sA sB cA cB hok (by decide)) (fun _=>?_)
  refine aCall rfl (addS_ct A B 115 115 115 sA sB cA (by decide) (by decide) (by decide) rfl rfl) (fun _=>?_)
  refine aCall rfl (degree_ct (addP A B) 115 cS.ok) (fun _=>?_)
  refine aCall rfl (degree_ct A 115 cA.ok) (fun _=>?_)
  refine aCall rfl (degree_ct B 115 cB.ok) (fun _=>?_)
  refine aPr rfl (qMax rfl rfl rfl) rfl ?_
  refine aPrE rfl (prGt rfl rfl) (v':=.bool false) (congrArg Value.bool (decide_eq_false (by omega))) rfl ?_
  refine aFalse rfl ?_
  refine aCall rfl (top_ct (addP A B) i 115 cS.ok) (fun _=>?_)
  refine aCall rfl (top_ct A i 115 cA.ok) (fun _=>?_)
  refine aCall rfl (top_ct B i 115 cB.ok) (fun _=>?_)
  refine aPr rfl (qMax rfl rfl rfl) rfl ?_
  refine aPrE rfl (prGt rfl rfl) (v':=.bool false) (congrArg Value.bool (decide_eq_false (by omega))) rfl ?_
  refine aFalse rfl ?_
  refine aCall rfl (pvarsP_ct (addP A B) 115 cS.ok) (fun _=>?_)
  refine aCall rfl (pvarsP_ct A 115 cA.ok) (fun _=>?_)
  refine aCall rfl (pvarsP_ct B 115 cB.ok) (fun _=>?_)
  refine aPr rfl (qMax rfl rfl rfl) rfl ?_
  refine aPrE rfl (prGt rfl rfl) (v':=.bool false) (congrArg Value.bool (decide_eq_false (by omega))) rfl ?_
  refine aFalse rfl ?_
  refine aPr rfl (prNot rfl) rfl ?_
  refine aFalse rfl ?_
  refine aLen rfl (rowsP_len A 500) ?_
  refine aPr rfl (prEq rfl rfl) rfl ?_
  refine aIf rfl (fun h=>?_) (fun h=>?_)
  · have hA:A=[]:=by
      have h:((A.length:Nat):Int)=0:=by simpa using h
      exact List.eq_nil_of_length_eq_zero (by omega)
    subst hA
    refine aCall rfl (degree_ct (addP [] (prods [] B)) 115 cM.ok) (fun _=>?_)
    refine aPr rfl (prEq rfl rfl) rfl ?_
    exact aRet (fun _=>0) rfl rfl rfl
  have hA:A≠[]:=fun e=>by subst e; simp at h
  refine aLen rfl (rowsP_len B 500) ?_
  refine aPr rfl (prEq rfl rfl) rfl ?_
  refine aIf rfl (fun h=>?_) (fun h=>?_)
  · have hB:B=[]:=by
      have h:((B.length:Nat):Int)=0:=by simpa using h
      exact List.eq_nil_of_length_eq_zero (by omega)
    subst hB
    have e0:addP [] (prods A [])=[]:=by rw [prods_none_r]; rfl
    refine aCall rfl (degree_ct (addP [] (prods A [])) 115 cM.ok) (fun _=>?_)
    rw [e0]
    refine aPr rfl (prEq rfl rfl) rfl ?_
    exact aRet (fun _=>0) rfl rfl rfl
  have hB:B≠[]:=fun e=>by subst e; simp at h
  have e1:maxP (fun m=>((dg m:Nat):Int)) (-1) (addP [] (prods A B))=maxP (fun m=>((dg m:Nat):Int)) (-1) A+maxP (fun m=>((dg m:Nat):Int)) (-1) B:=maxP_mul dg_add (fun m=>Int.natCast_nonneg _) (by omega) cA cB hok hA hB
  have e2:=topP_mul i cA cB hok hA hB
  refine aCall rfl (degree_ct (addP [] (prods A B)) 115 cM.ok) (fun _=>?_)
  refine aCall rfl (degree_ct A 115 cA.ok) (fun _=>?_)
  refine aCall rfl (degree_ct B 115 cB.ok) (fun _=>?_)
  refine aPr rfl (qAddE (z:=maxP (fun m=>((dg m:Nat):Int)) (-1) (addP [] (prods A B))) rfl rfl e1.symm (by omega) (by omega)) rfl ?_
  refine aPrE rfl (prEq rfl rfl) (v':=.bool true) (congrArg Value.bool (by simp)) rfl ?_
  refine aTrue rfl ?_
  refine aCall rfl (top_ct (addP [] (prods A B)) i 115 cM.ok) (fun _=>?_)
  refine aCall rfl (top_ct A i 115 cA.ok) (fun _=>?_)
  refine aCall rfl (top_ct B i 115 cB.ok) (fun _=>?_)
  refine aPr rfl (qAddE (z:=topP i (addP [] (prods A B))) rfl rfl e2.symm (by omega) (by omega)) rfl ?_
  refine aPrE rfl (prEq rfl rfl) (v':=.bool true) (congrArg Value.bool (by simp)) rfl ?_
  exact aRet (fun _=>0) rfl rfl rfl
theorem polyDegrees_any (a b:TermL) (i:Int) (v0 v1:Value) (W:World) (hT:TabsP W) (h0:RowR 4 W v0 (termRows a)) (h1:RowR 4 W v1 (termRows b)) (f0:∀ p∈a,p.1.ok∧p.2.size≤maxLen) (f1:∀ p∈b,p.1.ok∧p.2.size≤maxLen) :
    Calls Tryz.prog 14 #[v0,v1,.int .i64 i] W fun e w'=>e=.returned (.bool true)∧Below W.heap.size W w':=
  (degrees_ct a b i (fitsT_of f0) (fitsT_of f1) (at7 W) [[v0],[v1],[.int .i64 i]] (fun _ h=>h) hT ⟨[v0],_,rfl,rfl,terms_arg h0,[v1],_,rfl,rfl,terms_arg h1,[.int .i64 i],[],rfl,rfl,⟨[.int .i64 i],[],rfl,⟨rfl,rfl⟩,rfl⟩,rfl⟩).mono fun _ _ h=>told7 h
end Go.Proofs.YthffkbbcofbceaaGreatDoor
