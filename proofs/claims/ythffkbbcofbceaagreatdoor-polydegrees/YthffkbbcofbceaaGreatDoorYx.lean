/- The document's polynomials of texts. -/
import Derived.Test.YthffkbbcofbceaaGreatDoorYw
import Derived.Laws.StructEq
import Derived.ChangeKeysEq
namespace Go.Proofs.YthffkbbcofbceaaGreatDoor
open Go Go.RowKit Cin
abbrev TermL:=List (M × ByteArray)
def tR:Rty:=⟨27,4,[],[]⟩
def rowsS (ts:TermL):List (List Pd):=ts.map fun t=>mV t.1++[pV (.string t.2)]
abbrev pTerms (ts:TermL):Pd:=pRows tR (rowsS ts)
theorem rowsS_len (ts:TermL):(rowsS ts).length=ts.length:=List.length_map _
theorem rowS_at {ts:TermL} {i:Nat} {x:M × ByteArray} (h:ts[i]?=some x):(rowsS ts)[i]?=some [pV (.int .u8 (x.1.1:Nat)),pV (.int .u8 (x.1.2.1:Nat)),pV (.int .u8 (x.1.2.2:Nat)),pV (.string x.2)]:=by simp [rowsS,h]
def FitsT (ts:TermL):Prop:=∀ t∈ts,t.1.ok∧t.2.size≤9223372036854775807
def OkT (ts:TermL):Prop:=(∀ t∈ts,RatOk t.2∧ratVal t.2≠0)∧Rise (ts.map (·.1))
def polyT (ts:TermL):PolyL:=ts.map fun t=>(t.1,ratVal t.2)
theorem polyT_len (ts:TermL):(polyT ts).length=ts.length:=List.length_map _
theorem dparse1_ct (s:ByteArray) (hs:s.size≤9223372036854775807) (h:RatOk s):Ct Tryz.prog JT 63 [none] [[pV (.string s)]] [some 3,none] (fun _=>[.ro false (pD (ratVal s) 500),.ro false (pV (.bool true))]):=by
  intro w0 E _ hJ hA
  obtain ⟨c1,E1,rfl,_,h1,hE⟩:=hA
  obtain rfl:=rV h1
  subst hE
  refine (dparseY s w0.w hs h).mono ?_
  rintro e w' ⟨v,rfl,⟨a,b,d,rfl,h⟩,hb⟩
  exact ⟨[a,b,d,.bool true],[],fun _=>0,fun _=>False,rfl,List.nodup_nil,fun _ h=>h.elim,(sD h).app (sV rfl),w0.bx hb⟩
theorem dparse0_ct (s:ByteArray) (hs:s.size≤9223372036854775807) (h:¬ RatOk s):Ct Tryz.prog JT 63 [none] [[pV (.string s)]] [some 3,none] (fun _=>[.junk 3,.ro false (pV (.bool false))]):=by
  intro w0 E _ hJ hA
  obtain ⟨c1,E1,rfl,_,h1,hE⟩:=hA
  obtain rfl:=rV h1
  subst hE
  refine (dparse_any s w0.w hs).mono ?_
  rintro e w' (⟨h',_⟩ | ⟨_,a,b,d,rfl,hone,hb⟩)
  · exact absurd h' h
  · exact ⟨[a,b,d,.bool false],[],fun _=>0,fun _=>False,rfl,List.nodup_nil,fun _ h=>h.elim,⟨[a,b,d],[.bool false],[],[],rfl,rfl,⟨rfl,hone,rfl⟩,sV rfl⟩,w0.bx hb⟩
theorem OkT.take {ts:TermL} (h:OkT ts) (i:Nat):OkT (ts.take i):=⟨fun t ht=>h.1 t (List.mem_of_mem_take ht),by
  have e:ts.map (·.1)=(ts.take i).map (·.1)++(ts.drop i).map (·.1):=by rw [← List.map_append,List.take_append_drop]
  have:=h.2
  rw [e] at this
  exact this.pre⟩
theorem OkT.len {ts:TermL} (h:OkT ts) (hf:FitsT ts):ts.length≤16777216:=by
  have:=rise_len h.2 fun x hx=>by
    obtain ⟨t,ht,rfl⟩:=List.mem_map.1 hx
    exact (hf t ht).1
  simpa using this
theorem FitsT.take {ts:TermL} (h:FitsT ts) (i:Nat):FitsT (ts.take i):=fun t ht=>h t (List.mem_of_mem_take ht)
theorem polyT_step {ts:TermL} {i k:Nat} {x:M × ByteArray} (h:ts[i]?=some x):rowsP (polyT (ts.take i)) k++[[pV (.int .u8 (x.1.1:Nat)),pV (.int .u8 (x.1.2.1:Nat)),pV (.int .u8 (x.1.2.2:Nat)),pD (ratVal x.2) k]]=rowsP (polyT (ts.take (i+1))) k:=by
  rw [take_snoc h]; simp [polyT,rowsP]
theorem take_last {α:Type} {l:List α} {i:Nat} {x:α} (h:l[i]?=some x):(l.take (i+1)).getLast?=some x:=by rw [take_snoc h]; simp
theorem okT_first {ts:TermL} {x:M × ByteArray} (hx:ts[0]?=some x) (h1:RatOk x.2) (h2:ratVal x.2≠0):OkT (ts.take 1):=by
  rw [take_snoc hx]
  exact ⟨fun t ht=>by simp at ht; subst ht; exact ⟨h1,h2⟩,trivial⟩
theorem okT_next {ts:TermL} {i:Nat} {y x:M × ByteArray} (hy:ts[i]?=some y) (hx:ts[i+1]?=some x) (h1:RatOk x.2) (h2:ratVal x.2≠0) (hc:mc y.1 x.1 < 0) (h:OkT (ts.take (i+1))):OkT (ts.take (i+1+1)):=by
  rw [take_snoc hx]
  refine ⟨fun t ht=>?_,?_⟩
  · rcases List.mem_append.1 ht with ht | ht
    · exact h.1 t ht
    · simp at ht; subst ht; exact ⟨h1,h2⟩
  · rw [List.map_append]
    refine Rise.snoc h.2 fun a ha=>?_
    rw [List.getLast?_map,take_last hy] at ha
    cases ha; exact hc
theorem pparse_ct (ts:TermL) (hf:FitsT ts) (h:OkT ts):Ct Tryz.prog JT 17 [none] [[pTerms ts]] [none,none] (fun γ=>[.own (γ 0) termR (rowsP (polyT ts) 500),.ro false (pV (.bool true))]):=by
  have hlen:=h.len hf
  refine aCtO ⟨true,[]⟩ (D:=DD) hMix (tr:=(.loop 0 [.k (.slice none 0 0),.k (.bool false),.k (.slice none 0 0),.k (.int .i64 0)] (.em (.pr (.call (.mk (.builtin .len) #[.tmp 0] #[22])) 3 [.s (.c 0 0)]) (.em (.pr (.binOp .lss 3 (.tmp 0) (.tmp 1) 3) 4 [.s (.c 1 3),.s (.c 2 0)]) (.cond (.c 3 0) (.em (.pr (.indexAddr 22 (.tmp 0) (.tmp 1)) 0 [.s (.c 0 0),.s (.c 1 3)]) (.em (.pr (.fieldAddr 27 (.tmp 0) 1) 0 [.s (.c 4 0)]) (.em (.ld (.load 9 (.tmp 0)) 9 [.s (.c 5 0)] none) (.em (.call 63 [.s (.c 6 0)] [some 3,none]) (.em (.pr (.unOp .not 4 (.tmp 0)) 4 [.s (.c 7 3)]) (.cond (.c 8 0) (.ret (.t [.s (.k (.slice none 0 0)),.s (.k (.bool false))])) (.em (.call 64 [.g [.c 7 0,.c 7 1]] [none]) (.em (.pr (.binOp .eql 3 (.tmp 0) (.const (.int .i64 0)) 3) 4 [.s (.c 9 0),.s (.k (.int .i64 0))]) (.cond (.c 10 0) (.ret (.t [.s (.k (.slice none 0 0)),.s (.k (.bool false))])) (.em (.pr (.binOp .gtr 3 (.tmp 0) (.const (.int .i64 0)) 3) 4 [.s (.c 1 3),.s (.k (.int .i64 0))]) (.cond (.c 11 0) (.em (.pr (.binOp .sub 3 (.tmp 0) (.const (.int .i64 1)) 3) 3 [.s (.c 1 3),.s (.k (.int .i64 1))]) (.em (.pr (.indexAddr 22 (.tmp 0) (.tmp 1)) 0 [.s (.c 0 0),.s (.c 12 0)]) (.em (.pr (.fieldAddr 27 (.tmp 0) 0) 0 [.s (.c 13 0)]) (.em (.pr (.indexAddr 22 (.tmp 0) (.tmp 1)) 0 [.s (.c 0 0),.s (.c 1 3)]) (.em (.pr (.fieldAddr 27 (.tmp 0) 0) 0 [.s (.c 15 0)]) (.both (.em (.ld (.load 25 (.tmp 0)) 25 [.s (.c 14 0)] (some 3)) (.em (.ld (.load 25 (.tmp 0)) 25 [.s (.c 16 0)] (some 3)) (.em (.call 65 [.g [.c 17 0,.c 17 1,.c 17 2],.g [.c 18 0,.c 18 1,.c 18 2]] [none]) (.em (.pr (.binOp .geq 3 (.tmp 0) (.const (.int .i64 0)) 3) 4 [.s (.c 19 0),.s (.k (.int .i64 0))]) (.cond (.c 20 0) (.ret (.t [.s (.k (.slice none 0 0)),.s (.k (.bool false))])) (.em (.pr (.indexAddr 22 (.tmp 0) (.tmp 1)) 0 [.s (.c 0 0),.s (.c 1 3)]) (.em (.pr (.fieldAddr 27 (.tmp 0) 0) 0 [.s (.c 21 0)]) (.em (.ld (.load 25 (.tmp 0)) 25 [.s (.c 22 0)] (some 3)) (.em (.wx (.buildSlice 36 1 #[(0,.tmp 0)]) 36 [.g [.c 23 0,.c 23 1,.c 23 2,.c 7 0,.c 7 1,.c 7 2]] (some none)) (.em (.wx (.call (.mk (.builtin .append) #[.tmp 0,.tmp 1] #[36,36])) 36 [.s (.c 1 2),.s (.c 24 0)] (some none)) (.em (.pr (.binOp .add 3 (.tmp 0) (.const (.int .i64 1)) 3) 3 [.s (.c 1 3),.s (.k (.int .i64 1))]) (.back 0 [.c 1 0,.c 1 1,.c 25 0,.c 26 0])))))))))))) (.em (.ld (.load 25 (.tmp 0)) 25 [.s (.c 16 0)] (some 3)) (.em (.ld (.load 25 (.tmp 0)) 25 [.s (.c 14 0)] (some 3)) (.em (.call 65 [.g [.c 18 0,.c 18 1,.c 18 2],.g [.c 17 0,.c 17 1,.c 17 2]] [none]) (.em (.pr (.binOp .geq 3 (.tmp 0) (.const (.int .i64 0)) 3) 4 [.s (.c 19 0),.s (.k (.int .i64 0))]) (.cond (.c 20 0) (.ret (.t [.s (.k (.slice none 0 0)),.s (.k (.bool false))])) (.em (.pr (.indexAddr 22 (.tmp 0) (.tmp 1)) 0 [.s (.c 0 0),.s (.c 1 3)]) (.em (.pr (.fieldAddr 27 (.tmp 0) 0) 0 [.s (.c 21 0)]) (.em (.ld (.load 25 (.tmp 0)) 25 [.s (.c 22 0)] (some 3)) (.em (.wx (.buildSlice 36 1 #[(0,.tmp 0)]) 36 [.g [.c 23 0,.c 23 1,.c 23 2,.c 7 0,.c 7 1,.c 7 2]] (some none)) (.em (.wx (.call (.mk (.builtin .append) #[.tmp 0,.tmp 1] #[36,36])) 36 [.s (.c 1 2),.s (.c 24 0)] (some none)) (.em (.pr (.binOp .add 3 (.tmp 0) (.const (.int .i64 1)) 3) 3 [.s (.c 1 3),.s (.k (.int .i64 1))]) (.back 0 [.c 1 0,.c 1 1,.c 25 0,.c 26 0])))))))))))))))))) (.em (.pr (.indexAddr 22 (.tmp 0) (.tmp 1)) 0 [.s (.c 0 0),.s (.c 1 3)]) (.em (.pr (.fieldAddr 27 (.tmp 0) 0) 0 [.s (.c 12 0)]) (.em (.ld (.load 25 (.tmp 0)) 25 [.s (.c 13 0)] (some 3)) (.em (.wx (.buildSlice 36 1 #[(0,.tmp 0)]) 36 [.g [.c 14 0,.c 14 1,.c 14 2,.c 7 0,.c 7 1,.c 7 2]] (some none)) (.em (.wx (.call (.mk (.builtin .append) #[.tmp 0,.tmp 1] #[36,36])) 36 [.s (.c 1 2),.s (.c 15 0)] (some none)) (.em (.pr (.binOp .add 3 (.tmp 0) (.const (.int .i64 1)) 3) 3 [.s (.c 1 3),.s (.k (.int .i64 1))]) (.back 0 [.c 1 0,.c 1 1,.c 16 0,.c 17 0])))))))))))))))))) (.ret (.t [.s (.c 1 2),.s (.k (.bool true))]))))))) (by kernel_rfl) (by kernel_rfl) (by kernel_rfl) rfl (fun _ _ h=>by cases h) (fun w0=>?_)
  refine aLoopC [] (fun s:Nat × Nat=>[.ro true (pV (.slice none 0 0)),.ro true (pV (.bool false)),.own s.2 termR (rowsP (polyT (ts.take s.1)) 500),.ro true (pV (.int .i64 (s.1:Nat)))]) (fun s=>s.1≤ts.length) (fun s=>ts.length - s.1) (0,0) (Nat.zero_le _) (fun s hi=>?_) (hc:=ConvS.same (ConvS.same (ConvS.own (ConvS.same ConvS.nil))))
  obtain ⟨i,g⟩:=s
  simp only [] at hi
  refine aLen rfl (rowsS_len ts) ?_
  refine aPr rfl (prLt rfl rfl) rfl ?_
  refine aIf rfl (fun h1=>?_) (fun h1=>?_)
  · have hlt:i < ts.length:=by simpa using h1
    obtain ⟨x,hx⟩:∃ x,ts[i]?=some x:=⟨_,List.getElem?_eq_getElem hlt⟩
    have hxm:=List.mem_of_getElem? hx
    have hpl:(rowsP (polyT (ts.take i)) 500).length≤i:=by rw [rowsP_len,polyT_len,List.length_take]; omega
    refine aIdx rfl rfl (fun _=>rfl) (by omega) (rowS_at hx) ?_
    refine aField (off:=3) rfl (by kernel_rfl) rfl ?_
    refine aLd rfl rfl rfl ?_
    refine aCall rfl (dparse1_ct x.2 (hf x hxm).2 (h.1 x hxm).1) (fun γ=>?_)
    refine aPr rfl (prNot rfl) rfl ?_
    refine aFalse rfl ?_
    refine aCallP 2 rfl pD_num (dsign_ct _ _) (fun γ=>?_)
    refine aPrE rfl (prEq rfl rfl) (v':=.bool false) (by rw [sgnR_zero]; simp [(h.1 x hxm).2]) rfl ?_
    refine aFalse rfl ?_
    refine aPr rfl (prGt rfl rfl) rfl ?_
    refine aIf rfl (fun h4=>?_) (fun h4=>?_)
    · obtain ⟨j,rfl⟩:∃ j,i=j+1:=⟨i - 1,by have:(0:Int) < i:=(by simpa using h4); omega⟩
      obtain ⟨y,hy⟩:∃ y,ts[j]?=some y:=⟨_,List.getElem?_eq_getElem (by omega)⟩
      have hc:mc y.1 x.1 < 0:=Rise.at (l:=ts.map (·.1)) h.2 (by rw [List.getElem?_map,hy]; rfl) (by rw [List.getElem?_map,hx]; rfl)
      have hyo:=(hf y (List.mem_of_getElem? hy)).1
      have hxo:=(hf x hxm).1
      refine aPr rfl (qSubE (z:=(j:Nat)) rfl rfl (by omega) (by omega) (by omega)) rfl ?_
      refine aIdx rfl rfl (fun _=>rfl) (by omega) (rowS_at hy) ?_
      refine aField (off:=0) rfl (by kernel_rfl) rfl ?_
      refine aIdx rfl rfl (fun _=>rfl) (by omega) (rowS_at hx) ?_
      refine aField (off:=0) rfl (by kernel_rfl) rfl ?_
      refine aTwo ?_ ?_
      · refine aLd rfl rfl rfl ?_
        refine aLd rfl rfl rfl ?_
        refine aCall rfl (rmcmp_ct y.1 x.1 hyo hxo) (fun γ=>?_)
        refine aPrE rfl (prGe rfl rfl) (v':=.bool false) (by simp; omega) rfl ?_
        refine aFalse rfl ?_
        refine aIdx rfl rfl (fun _=>rfl) (by omega) (rowS_at hx) ?_
        refine aField (off:=0) rfl (by kernel_rfl) rfl ?_
        refine aLd rfl rfl rfl ?_
        refine aBuild termR rfl (fun g24=>?_)
        refine aAppend [] rfl rfl (zs:=ZeroTm) (by simp; omega) (fun g25=>?_)
        refine aPr rfl (qAddE (z:=(j+1+1:Nat)) rfl rfl (by omega) (by omega) (by omega)) rfl ?_
        exact aBack rfl rfl ⟨(j+1+1,g25),rfl,by rw [polyT_step hx]; rfl,hlt,by show ts.length - (j+1+1) < ts.length - (j+1); omega⟩
      · refine aLd rfl rfl rfl ?_
        refine aLd rfl rfl rfl ?_
        refine aCall rfl (rmcmp_ct y.1 x.1 hyo hxo) (fun γ=>?_)
        refine aPrE rfl (prGe rfl rfl) (v':=.bool false) (by simp; omega) rfl ?_
        refine aFalse rfl ?_
        refine aIdx rfl rfl (fun _=>rfl) (by omega) (rowS_at hx) ?_
        refine aField (off:=0) rfl (by kernel_rfl) rfl ?_
        refine aLd rfl rfl rfl ?_
        refine aBuild termR rfl (fun g24=>?_)
        refine aAppend [] rfl rfl (zs:=ZeroTm) (by simp; omega) (fun g25=>?_)
        refine aPr rfl (qAddE (z:=(j+1+1:Nat)) rfl rfl (by omega) (by omega) (by omega)) rfl ?_
        exact aBack rfl rfl ⟨(j+1+1,g25),rfl,by rw [polyT_step hx]; rfl,hlt,by show ts.length - (j+1+1) < ts.length - (j+1); omega⟩
    · have hi0:i=0:=by have:¬ (0:Int) < i:=(by simpa using h4); omega
      subst hi0
      refine aIdx rfl rfl (fun _=>rfl) (by omega) (rowS_at hx) ?_
      refine aField (off:=0) rfl (by kernel_rfl) rfl ?_
      refine aLd rfl rfl rfl ?_
      refine aBuild termR rfl (fun g24=>?_)
      refine aAppend [] rfl rfl (zs:=ZeroTm) (by simp only [List.length_cons,List.length_nil]; omega) (fun g25=>?_)
      refine aPr rfl (qAddE (z:=(0+1:Nat)) rfl rfl (by omega) (by omega) (by omega)) rfl ?_
      exact aBack rfl rfl ⟨(0+1,g25),rfl,by rw [polyT_step hx]; rfl,hlt,by show ts.length - (0+1) < ts.length - 0; omega⟩
  · have hil:i=ts.length:=by have:¬ i < ts.length:=(by simpa using h1); omega
    subst hil
    exact aRet (fun _=>g) rfl rfl (by rw [List.take_length]; rfl)
theorem pparse_no (ts:TermL) (hf:FitsT ts) (h:¬ OkT ts):Ct Tryz.prog JT 17 [none] [[pTerms ts]] [none,none] (fun _=>[.ro false (pV (.slice none 0 0)),.ro false (pV (.bool false))]):=by
  refine aCtO ⟨true,[]⟩ (D:=DD) hMix (tr:=(.loop 0 [.k (.slice none 0 0),.k (.bool false),.k (.slice none 0 0),.k (.int .i64 0)] (.em (.pr (.call (.mk (.builtin .len) #[.tmp 0] #[22])) 3 [.s (.c 0 0)]) (.em (.pr (.binOp .lss 3 (.tmp 0) (.tmp 1) 3) 4 [.s (.c 1 3),.s (.c 2 0)]) (.cond (.c 3 0) (.em (.pr (.indexAddr 22 (.tmp 0) (.tmp 1)) 0 [.s (.c 0 0),.s (.c 1 3)]) (.em (.pr (.fieldAddr 27 (.tmp 0) 1) 0 [.s (.c 4 0)]) (.em (.ld (.load 9 (.tmp 0)) 9 [.s (.c 5 0)] none) (.em (.call 63 [.s (.c 6 0)] [some 3,none]) (.em (.pr (.unOp .not 4 (.tmp 0)) 4 [.s (.c 7 3)]) (.cond (.c 8 0) (.ret (.t [.s (.k (.slice none 0 0)),.s (.k (.bool false))])) (.em (.call 64 [.g [.c 7 0,.c 7 1]] [none]) (.em (.pr (.binOp .eql 3 (.tmp 0) (.const (.int .i64 0)) 3) 4 [.s (.c 9 0),.s (.k (.int .i64 0))]) (.cond (.c 10 0) (.ret (.t [.s (.k (.slice none 0 0)),.s (.k (.bool false))])) (.em (.pr (.binOp .gtr 3 (.tmp 0) (.const (.int .i64 0)) 3) 4 [.s (.c 1 3),.s (.k (.int .i64 0))]) (.cond (.c 11 0) (.em (.pr (.binOp .sub 3 (.tmp 0) (.const (.int .i64 1)) 3) 3 [.s (.c 1 3),.s (.k (.int .i64 1))]) (.em (.pr (.indexAddr 22 (.tmp 0) (.tmp 1)) 0 [.s (.c 0 0),.s (.c 12 0)]) (.em (.pr (.fieldAddr 27 (.tmp 0) 0) 0 [.s (.c 13 0)]) (.em (.pr (.indexAddr 22 (.tmp 0) (.tmp 1)) 0 [.s (.c 0 0),.s (.c 1 3)]) (.em (.pr (.fieldAddr 27 (.tmp 0) 0) 0 [.s (.c 15 0)]) (.both (.em (.ld (.load 25 (.tmp 0)) 25 [.s (.c 14 0)] (some 3)) (.em (.ld (.load 25 (.tmp 0)) 25 [.s (.c 16 0)] (some 3)) (.em (.call 65 [.g [.c 17 0,.c 17 1,.c 17 2],.g [.c 18 0,.c 18 1,.c 18 2]] [none]) (.em (.pr (.binOp .geq 3 (.tmp 0) (.const (.int .i64 0)) 3) 4 [.s (.c 19 0),.s (.k (.int .i64 0))]) (.cond (.c 20 0) (.ret (.t [.s (.k (.slice none 0 0)),.s (.k (.bool false))])) (.em (.pr (.indexAddr 22 (.tmp 0) (.tmp 1)) 0 [.s (.c 0 0),.s (.c 1 3)]) (.em (.pr (.fieldAddr 27 (.tmp 0) 0) 0 [.s (.c 21 0)]) (.em (.ld (.load 25 (.tmp 0)) 25 [.s (.c 22 0)] (some 3)) (.em (.wx (.buildSlice 36 1 #[(0,.tmp 0)]) 36 [.g [.c 23 0,.c 23 1,.c 23 2,.c 7 0,.c 7 1,.c 7 2]] (some none)) (.em (.wx (.call (.mk (.builtin .append) #[.tmp 0,.tmp 1] #[36,36])) 36 [.s (.c 1 2),.s (.c 24 0)] (some none)) (.em (.pr (.binOp .add 3 (.tmp 0) (.const (.int .i64 1)) 3) 3 [.s (.c 1 3),.s (.k (.int .i64 1))]) (.back 0 [.c 1 0,.c 1 1,.c 25 0,.c 26 0])))))))))))) (.em (.ld (.load 25 (.tmp 0)) 25 [.s (.c 16 0)] (some 3)) (.em (.ld (.load 25 (.tmp 0)) 25 [.s (.c 14 0)] (some 3)) (.em (.call 65 [.g [.c 18 0,.c 18 1,.c 18 2],.g [.c 17 0,.c 17 1,.c 17 2]] [none]) (.em (.pr (.binOp .geq 3 (.tmp 0) (.const (.int .i64 0)) 3) 4 [.s (.c 19 0),.s (.k (.int .i64 0))]) (.cond (.c 20 0) (.ret (.t [.s (.k (.slice none 0 0)),.s (.k (.bool false))])) (.em (.pr (.indexAddr 22 (.tmp 0) (.tmp 1)) 0 [.s (.c 0 0),.s (.c 1 3)]) (.em (.pr (.fieldAddr 27 (.tmp 0) 0) 0 [.s (.c 21 0)]) (.em (.ld (.load 25 (.tmp 0)) 25 [.s (.c 22 0)] (some 3)) (.em (.wx (.buildSlice 36 1 #[(0,.tmp 0)]) 36 [.g [.c 23 0,.c 23 1,.c 23 2,.c 7 0,.c 7 1,.c 7 2]] (some none)) (.em (.wx (.call (.mk (.builtin .append) #[.tmp 0,.tmp 1] #[36,36])) 36 [.s (.c 1 2),.s (.c 24 0)] (some none)) (.em (.pr (.binOp .add 3 (.tmp 0) (.const (.int .i64 1)) 3) 3 [.s (.c 1 3),.s (.k (.int .i64 1))]) (.back 0 [.c 1 0,.c 1 1,.c 25 0,.c 26 0])))))))))))))))))) (.em (.pr (.indexAddr 22 (.tmp 0) (.tmp 1)) 0 [.s (.c 0 0),.s (.c 1 3)]) (.em (.pr (.fieldAddr 27 (.tmp 0) 0) 0 [.s (.c 12 0)]) (.em (.ld (.load 25 (.tmp 0)) 25 [.s (.c 13 0)] (some 3)) (.em (.wx (.buildSlice 36 1 #[(0,.tmp 0)]) 36 [.g [.c 14 0,.c 14 1,.c 14 2,.c 7 0,.c 7 1,.c 7 2]] (some none)) (.em (.wx (.call (.mk (.builtin .append) #[.tmp 0,.tmp 1] #[36,36])) 36 [.s (.c 1 2),.s (.c 15 0)] (some none)) (.em (.pr (.binOp .add 3 (.tmp 0) (.const (.int .i64 1)) 3) 3 [.s (.c 1 3),.s (.k (.int .i64 1))]) (.back 0 [.c 1 0,.c 1 1,.c 16 0,.c 17 0])))))))))))))))))) (.ret (.t [.s (.c 1 2),.s (.k (.bool true))]))))))) (by kernel_rfl) (by kernel_rfl) (by kernel_rfl) rfl (fun _ _ h=>by cases h) (fun w0=>?_)
  refine aLoopC [] (fun s:Nat × Nat=>[.ro true (pV (.slice none 0 0)),.ro true (pV (.bool false)),.own s.2 termR (rowsP (polyT (ts.take s.1)) 500),.ro true (pV (.int .i64 (s.1:Nat)))]) (fun s=>s.1≤ts.length∧OkT (ts.take s.1)) (fun s=>ts.length - s.1) (0,0) ⟨Nat.zero_le _,⟨fun _ h=>by simp at h,trivial⟩⟩ (fun s ⟨hi,hok⟩=>?_) (hc:=ConvS.same (ConvS.same (ConvS.own (ConvS.same ConvS.nil))))
  obtain ⟨i,g⟩:=s
  simp only [] at hi hok
  have hlen:=hok.len (hf.take i)
  rw [List.length_take] at hlen
  refine aLen rfl (rowsS_len ts) ?_
  refine aPr rfl (prLt rfl rfl) rfl ?_
  refine aIf rfl (fun h1=>?_) (fun h1=>?_)
  · have hlt:i < ts.length:=by simpa using h1
    obtain ⟨x,hx⟩:∃ x,ts[i]?=some x:=⟨_,List.getElem?_eq_getElem hlt⟩
    have hxm:=List.mem_of_getElem? hx
    have hpl:(rowsP (polyT (ts.take i)) 500).length≤i:=by rw [rowsP_len,polyT_len,List.length_take]; omega
    refine aIdx rfl rfl (fun _=>rfl) (by omega) (rowS_at hx) ?_
    refine aField (off:=3) rfl (by kernel_rfl) rfl ?_
    refine aLd rfl rfl rfl ?_
    by_cases hr:RatOk x.2
    · refine aCall rfl (dparse1_ct x.2 (hf x hxm).2 hr) (fun γ=>?_)
      refine aPr rfl (prNot rfl) rfl ?_
      refine aFalse rfl ?_
      refine aCallP 2 rfl pD_num (dsign_ct _ _) (fun γ=>?_)
      refine aPrE rfl (prEq rfl rfl) (v':=.bool (decide (ratVal x.2=0))) (by rw [sgnR_zero]) rfl ?_
      refine aIf rfl (fun h3=>?_) (fun h3=>?_)
      · exact aRet (fun _=>0) rfl rfl rfl
      have hz:ratVal x.2≠0:=by simpa using h3
      refine aPr rfl (prGt rfl rfl) rfl ?_
      refine aIf rfl (fun h4=>?_) (fun h4=>?_)
      · obtain ⟨j,rfl⟩:∃ j,i=j+1:=⟨i - 1,by have:(0:Int) < i:=(by simpa using h4); omega⟩
        obtain ⟨y,hy⟩:∃ y,ts[j]?=some y:=⟨_,List.getElem?_eq_getElem (by omega)⟩
        have hyo:=(hf y (List.mem_of_getElem? hy)).1
        have hxo:=(hf x hxm).1
        refine aPr rfl (qSubE (z:=(j:Nat)) rfl rfl (by omega) (by omega) (by omega)) rfl ?_
        refine aIdx rfl rfl (fun _=>rfl) (by omega) (rowS_at hy) ?_
        refine aField (off:=0) rfl (by kernel_rfl) rfl ?_
        refine aIdx rfl rfl (fun _=>rfl) (by omega) (rowS_at hx) ?_
        refine aField (off:=0) rfl (by kernel_rfl) rfl ?_
        refine aTwo ?_ ?_
        · refine aLd rfl rfl rfl ?_
          refine aLd rfl rfl rfl ?_
          refine aCall rfl (rmcmp_ct y.1 x.1 hyo hxo) (fun γ=>?_)
          refine aPr rfl (prGe rfl rfl) rfl ?_
          refine aIf rfl (fun h5=>?_) (fun h5=>?_)
          · exact aRet (fun _=>0) rfl rfl rfl
          have hc:mc y.1 x.1 < 0:=by have:¬ 0≤mc y.1 x.1:=(by simpa using h5); omega
          refine aIdx rfl rfl (fun _=>rfl) (by omega) (rowS_at hx) ?_
          refine aField (off:=0) rfl (by kernel_rfl) rfl ?_
          refine aLd rfl rfl rfl ?_
          refine aBuild termR rfl (fun g24=>?_)
          refine aAppend [] rfl rfl (zs:=ZeroTm) (by simp; omega) (fun g25=>?_)
          refine aPr rfl (qAddE (z:=(j+1+1:Nat)) rfl rfl (by omega) (by omega) (by omega)) rfl ?_
          exact aBack rfl rfl ⟨(j+1+1,g25),rfl,by rw [polyT_step hx]; rfl,⟨hlt,okT_next hy hx hr hz hc hok⟩,by show ts.length - (j+1+1) < ts.length - (j+1); omega⟩
        · refine aLd rfl rfl rfl ?_
          refine aLd rfl rfl rfl ?_
          refine aCall rfl (rmcmp_ct y.1 x.1 hyo hxo) (fun γ=>?_)
          refine aPr rfl (prGe rfl rfl) rfl ?_
          refine aIf rfl (fun h5=>?_) (fun h5=>?_)
          · exact aRet (fun _=>0) rfl rfl rfl
          have hc:mc y.1 x.1 < 0:=by have:¬ 0≤mc y.1 x.1:=(by simpa using h5); omega
          refine aIdx rfl rfl (fun _=>rfl) (by omega) (rowS_at hx) ?_
          refine aField (off:=0) rfl (by kernel_rfl) rfl ?_
          refine aLd rfl rfl rfl ?_
          refine aBuild termR rfl (fun g24=>?_)
          refine aAppend [] rfl rfl (zs:=ZeroTm) (by simp; omega) (fun g25=>?_)
          refine aPr rfl (qAddE (z:=(j+1+1:Nat)) rfl rfl (by omega) (by omega) (by omega)) rfl ?_
          exact aBack rfl rfl ⟨(j+1+1,g25),rfl,by rw [polyT_step hx]; rfl,⟨hlt,okT_next hy hx hr hz hc hok⟩,by show ts.length - (j+1+1) < ts.length - (j+1); omega⟩
      · have hi0:i=0:=by have:¬ (0:Int) < i:=(by simpa using h4); omega
        subst hi0
        refine aIdx rfl rfl (fun _=>rfl) (by omega) (rowS_at hx) ?_
        refine aField (off:=0) rfl (by kernel_rfl) rfl ?_
        refine aLd rfl rfl rfl ?_
        refine aBuild termR rfl (fun g24=>?_)
        refine aAppend [] rfl rfl (zs:=ZeroTm) (by simp only [List.length_cons,List.length_nil]; omega) (fun g25=>?_)
        refine aPr rfl (qAddE (z:=(0+1:Nat)) rfl rfl (by omega) (by omega) (by omega)) rfl ?_
        exact aBack rfl rfl ⟨(0+1,g25),rfl,by rw [polyT_step hx]; rfl,⟨hlt,okT_first hx hr hz⟩,by show ts.length - (0+1) < ts.length - 0; omega⟩
    · refine aCall rfl (dparse0_ct x.2 (hf x hxm).2 hr) (fun γ=>?_)
      refine aPr rfl (prNot rfl) rfl ?_
      refine aTrue rfl ?_
      exact aRet (fun _=>0) rfl rfl rfl
  · have hil:i=ts.length:=by have:¬ i < ts.length:=(by simpa using h1); omega
    subst hil
    rw [List.take_length] at hok
    exact absurd hok h
end Go.Proofs.YthffkbbcofbceaaGreatDoor

namespace Go.Proofs.YthffkbbcofbceaaGreatDoor
open Go Go.RowKit Cin
theorem termT:Tryz.prog.underlying 27=some (.struct (Tryz.prog.fieldsOf 27)):=by kernel_rfl
theorem termF:(Tryz.prog.fieldsOf 27).toList.map (fun f=>(f.name == "_",f.type,f.offset))=[(false,25,0),(false,9,3)]:=by kernel_rfl
theorem termH:Tryz.prog.stoodInHeld 27=false:=by kernel_rfl
theorem termG:Tryz.prog.eqGuardType Tryz.prog.depth 27=false:=by kernel_rfl
theorem monoI:(Tryz.prog.info? 25).map (·.size)=some 3:=by kernel_rfl
abbrev termV (x:M × ByteArray):Array Value:=#[.int .u8 (x.1.1:Nat),.int .u8 (x.1.2.1:Nat),.int .u8 (x.1.2.2:Nat),.string x.2]
theorem eqTerm (d:Nat) (w:World) (x y:M × ByteArray):(Op.eqFields (d+3) (termV x) (termV y) (Tryz.prog.fieldsOf 27).toList).run Tryz.prog w=.ok (decide (x.1=y.1) && x.2.toList == y.2.toList) w:=by
  have h:=termF
  generalize (Tryz.prog.fieldsOf 27).toList=l at h
  match l with
  | []=>simp at h
  | [_]=>simp at h
  | _::_::_::_=>simp at h
  | [f,g]=>
    simp only [List.map_cons,List.map_nil,List.cons.injEq,Prod.mk.injEq,and_true] at h
    obtain ⟨⟨n1,t1,o1⟩,n2,t2,o2⟩:=h
    have n1':f.name≠"_":=by simpa using n1
    have n2':g.name≠"_":=by simpa using n2
    obtain ⟨im,him,hsm⟩:=Option.map_eq_some_iff.1 monoI
    have hs:∀ (a b:ByteArray),(Op.equalIn (d+3) 9 (.string a) (.string b)).run Tryz.prog w=.ok (a.toList == b.toList) w:=fun a b=>run_equalIn_string w (d+2) _ a b hStrT
    have p:∀ (x:M × ByteArray),(part 9 (termV x) 3).run Tryz.prog w=.ok (.string x.2) w:=fun x=>run_part_plain w (by kernel_rfl) rfl
    have q:∀ (x:M × ByteArray),(part 25 (termV x) 0).run Tryz.prog w=.ok (.agg #[.int .u8 (x.1.1:Nat),.int .u8 (x.1.2.1:Nat),.int .u8 (x.1.2.2:Nat)]) w:=fun x=>by
      unfold part isAgg
      simp [run_underlying uM,Go.sizeOf,typeInfo,him,hsm,termV]
    have hs3:=run_eq3 (P:=Tryz.prog) (w:=w) (d+1) x.1 y.1 uM uU iU sU
    simp only [Op.eqFields,n1',n2',ne_eq,not_false_eq_true,if_true,t1,t2,o1,o2,Sem.run_bind,q,Result.andThen_ok,hs3]
    by_cases hm:x.1=y.1 <;> by_cases hc:x.2.toList=y.2.toList <;> simp [hm,hc,Sem.run_bind,p,hs]
def plainP (p:PolyL):TermL:=p.map fun x=>(x.1,ratS x.2)
theorem plainP_step {p:PolyL} {i:Nat} {x:M × Rat} (h:p[i]?=some x):rowsS (plainP (p.take i))++[[pV (.int .u8 (x.1.1:Nat)),pV (.int .u8 (x.1.2.1:Nat)),pV (.int .u8 (x.1.2.2:Nat)),pV (.string (ratS x.2))]]=rowsS (plainP (p.take (i+1))):=by
  rw [take_snoc h]; simp [plainP,rowsS]
abbrev ZeroTt:List Value:=[.int .u8 0,.int .u8 0,.int .u8 0,.string ⟨#[]⟩]
end Go.Proofs.YthffkbbcofbceaaGreatDoor

namespace Go.Proofs.YthffkbbcofbceaaGreatDoor
open Go Go.RowKit Cin
def okX (e:Int) (t:M × ByteArray):Bool:=decide (t.2.size≤30) && decide ((t.1.1:Int)≤e) && decide ((t.1.2.1:Int)≤e) && decide ((t.1.2.2:Int)≤e)
def fewT (ts:TermL) (n:Int) (e:Int):Bool:=decide ((ts.length:Int)≤n) && ts.all (okX e)
theorem okX_no {e:Int} {ts:TermL} {x:M × ByteArray} {n:Int} (hm:x∈ts) (h:okX e x=false):fewT ts n e=false:=by
  unfold fewT
  rw [Bool.and_eq_false_iff]
  exact .inr (List.all_eq_false.2 ⟨x,hm,by simp [h]⟩)
theorem fewT_ct (ts:TermL) (n e:Int) (hf:FitsT ts) (hl:ts.length≤16777216):Ct Tryz.prog J0 78 [none,none,none] [[pTerms ts],[pV (.int .i64 n)],[pV (.int .i64 e)]] [none] (fun _=>[.ro false (pV (.bool (fewT ts n e)))]):=by
  refine aCtO ⟨true,[]⟩ (D:=DD) hMix (tr:=(.em (.pr (.call (.mk (.builtin .len) #[.tmp 0] #[22])) 3 [.s (.c 0 0)]) (.em (.pr (.binOp .gtr 3 (.tmp 0) (.tmp 1) 3) 4 [.s (.c 3 0),.s (.c 1 0)]) (.cond (.c 4 0) (.ret (.v (.s (.k (.bool false))))) (.loop 0 [.k (.bool false),.k (.int .i64 0)] (.em (.pr (.call (.mk (.builtin .len) #[.tmp 0] #[22])) 3 [.s (.c 0 0)]) (.em (.pr (.binOp .lss 3 (.tmp 0) (.tmp 1) 3) 4 [.s (.c 5 1),.s (.c 6 0)]) (.cond (.c 7 0) (.em (.pr (.indexAddr 22 (.tmp 0) (.tmp 1)) 0 [.s (.c 0 0),.s (.c 5 1)]) (.em (.pr (.fieldAddr 27 (.tmp 0) 1) 0 [.s (.c 8 0)]) (.em (.ld (.load 9 (.tmp 0)) 9 [.s (.c 9 0)] none) (.em (.pr (.call (.mk (.builtin .len) #[.tmp 0] #[9])) 3 [.s (.c 10 0)]) (.em (.pr (.binOp .gtr 3 (.tmp 0) (.const (.int .i64 30)) 3) 4 [.s (.c 11 0),.s (.k (.int .i64 30))]) (.cond (.c 12 0) (.ret (.v (.s (.k (.bool false))))) (.em (.pr (.indexAddr 22 (.tmp 0) (.tmp 1)) 0 [.s (.c 0 0),.s (.c 5 1)]) (.em (.pr (.fieldAddr 27 (.tmp 0) 0) 0 [.s (.c 13 0)]) (.em (.pr (.indexAddr 25 (.tmp 0) (.const (.int .i64 0))) 0 [.s (.c 14 0),.s (.k (.int .i64 0))]) (.em (.ld (.load 5 (.tmp 0)) 5 [.s (.c 15 0)] none) (.em (.pr (.convert 5 3 (.tmp 0)) 3 [.s (.c 16 0)]) (.em (.pr (.binOp .gtr 3 (.tmp 0) (.tmp 1) 3) 4 [.s (.c 17 0),.s (.c 2 0)]) (.cond (.c 18 0) (.ret (.v (.s (.k (.bool false))))) (.em (.pr (.indexAddr 22 (.tmp 0) (.tmp 1)) 0 [.s (.c 0 0),.s (.c 5 1)]) (.em (.pr (.fieldAddr 27 (.tmp 0) 0) 0 [.s (.c 19 0)]) (.em (.pr (.indexAddr 25 (.tmp 0) (.const (.int .i64 1))) 0 [.s (.c 20 0),.s (.k (.int .i64 1))]) (.em (.ld (.load 5 (.tmp 0)) 5 [.s (.c 21 0)] none) (.em (.pr (.convert 5 3 (.tmp 0)) 3 [.s (.c 22 0)]) (.em (.pr (.binOp .gtr 3 (.tmp 0) (.tmp 1) 3) 4 [.s (.c 23 0),.s (.c 2 0)]) (.cond (.c 24 0) (.ret (.v (.s (.k (.bool false))))) (.em (.pr (.indexAddr 22 (.tmp 0) (.tmp 1)) 0 [.s (.c 0 0),.s (.c 5 1)]) (.em (.pr (.fieldAddr 27 (.tmp 0) 0) 0 [.s (.c 25 0)]) (.em (.pr (.indexAddr 25 (.tmp 0) (.const (.int .i64 2))) 0 [.s (.c 26 0),.s (.k (.int .i64 2))]) (.em (.ld (.load 5 (.tmp 0)) 5 [.s (.c 27 0)] none) (.em (.pr (.convert 5 3 (.tmp 0)) 3 [.s (.c 28 0)]) (.em (.pr (.binOp .gtr 3 (.tmp 0) (.tmp 1) 3) 4 [.s (.c 29 0),.s (.c 2 0)]) (.cond (.c 30 0) (.ret (.v (.s (.k (.bool false))))) (.em (.pr (.binOp .add 3 (.tmp 0) (.const (.int .i64 1)) 3) 3 [.s (.c 5 1),.s (.k (.int .i64 1))]) (.back 0 [.c 5 0,.c 31 0]))))))))))))))))))))))))))))) (.ret (.v (.s (.k (.bool true))))))))))))) (by kernel_rfl) (by kernel_rfl) (by kernel_rfl) rfl (fun _ _ h=>by cases h) (fun w0=>?_)
  refine aLen rfl (rowsS_len ts) ?_
  refine aPr rfl (prGt rfl rfl) rfl ?_
  refine aIf rfl (fun h0=>?_) (fun h0=>?_)
  · have e0:fewT ts n e=false:=by simp at h0; simp [fewT]; intro h; omega
    exact aRet (fun _=>0) rfl rfl (by rw [e0]; rfl)
  have hn:(ts.length:Int)≤n:=by have:¬ n < ts.length:=(by simpa using h0); omega
  refine aLoop (fun i:Nat=>[.ro true (pV (.bool false)),.ro true (pV (.int .i64 (i:Nat)))]) (fun i=>i≤ts.length∧(ts.take i).all (okX e)=true) (fun i=>ts.length - i) 0 rfl ⟨Nat.zero_le _,rfl⟩ (fun i ⟨hi,hs⟩=>?_)
  refine aLen rfl (rowsS_len ts) ?_
  refine aPr rfl (prLt rfl rfl) rfl ?_
  refine aIf rfl (fun h1=>?_) (fun h1=>?_)
  · have hlt:i < ts.length:=by simpa using h1
    obtain ⟨x,hx⟩:∃ x,ts[i]?=some x:=⟨_,List.getElem?_eq_getElem hlt⟩
    have hxm:=List.mem_of_getElem? hx
    obtain ⟨⟨o0,o1,o2⟩,hsz⟩:=hf x hxm
    refine aIdx rfl rfl (fun _=>rfl) (by omega) (rowS_at hx) ?_
    refine aField (off:=3) rfl (by kernel_rfl) rfl ?_
    refine aLd rfl rfl rfl ?_
    refine aPr rfl (prLenS hStrT rfl) rfl ?_
    refine aPr rfl (prGt rfl rfl) rfl ?_
    refine aIf rfl (fun h2=>?_) (fun h2=>?_)
    · exact aRet (fun _=>0) rfl rfl (by rw [okX_no hxm (by simp at h2; simp [okX]; intros; omega)]; rfl)
    refine aIdx rfl rfl (fun _=>rfl) (by omega) (rowS_at hx) ?_
    refine aField (off:=0) rfl (by kernel_rfl) rfl ?_
    refine aArr (m:=0) (off:=0) (e:=5) rfl rfl (fun _=>rfl) (by kernel_rfl) rfl ?_
    refine aLd rfl rfl rfl ?_
    refine aPr rfl (cvU uU uI rfl (by omega) (by omega)) rfl ?_
    refine aPr rfl (prGt rfl rfl) rfl ?_
    refine aIf rfl (fun g0=>?_) (fun g0=>?_)
    · exact aRet (fun _=>0) rfl rfl (by rw [okX_no hxm (by simp at g0; simp [okX]; intros; omega)]; rfl)
    refine aIdx rfl rfl (fun _=>rfl) (by omega) (rowS_at hx) ?_
    refine aField (off:=0) rfl (by kernel_rfl) rfl ?_
    refine aArr (m:=1) (off:=1) (e:=5) rfl rfl (fun _=>rfl) (by kernel_rfl) rfl ?_
    refine aLd rfl rfl rfl ?_
    refine aPr rfl (cvU uU uI rfl (by omega) (by omega)) rfl ?_
    refine aPr rfl (prGt rfl rfl) rfl ?_
    refine aIf rfl (fun g1=>?_) (fun g1=>?_)
    · exact aRet (fun _=>0) rfl rfl (by rw [okX_no hxm (by simp at g1; simp [okX]; intros; omega)]; rfl)
    refine aIdx rfl rfl (fun _=>rfl) (by omega) (rowS_at hx) ?_
    refine aField (off:=0) rfl (by kernel_rfl) rfl ?_
    refine aArr (m:=2) (off:=2) (e:=5) rfl rfl (fun _=>rfl) (by kernel_rfl) rfl ?_
    refine aLd rfl rfl rfl ?_
    refine aPr rfl (cvU uU uI rfl (by omega) (by omega)) rfl ?_
    refine aPr rfl (prGt rfl rfl) rfl ?_
    refine aIf rfl (fun g2=>?_) (fun g2=>?_)
    · exact aRet (fun _=>0) rfl rfl (by rw [okX_no hxm (by simp at g2; simp [okX]; intros; omega)]; rfl)
    refine aPr rfl (qAddE (z:=(i+1:Nat)) rfl rfl (by omega) (by omega) (by omega)) rfl ?_
    exact aBack rfl rfl ⟨i+1,rfl,rfl,⟨hlt,all_snoc hx hs (by simp at h2 g0 g1 g2; simp [okX]; omega)⟩,by show ts.length - (i+1) < ts.length - i; omega⟩
  · have hil:i=ts.length:=by have:¬ i < ts.length:=(by simpa using h1); omega
    subst hil
    rw [List.take_length] at hs
    exact aRet (fun _=>0) rfl rfl (by rw [show fewT ts n e=true by simp [fewT,hn,hs]]; rfl)
theorem ten30:10 ^ 30 < pw 4:=by decide
theorem decL_lt_pw30 {l:List Nat} (h:Digs l) (hl:l.length≤30):decL l < pw 4:=
  Nat.lt_of_lt_of_le (decL_lt h) (Nat.le_trans (Nat.pow_le_pow_right (by decide) hl) (Nat.le_of_lt ten30))
theorem int_lt30 {s:ByteArray} (h:IsInt s) (hs:s.size≤30):(intVal s).natAbs < pw 4:=by
  unfold intVal
  rw [sg_natAbs]
  refine decL_lt_pw30 h.1.2.2.2 ?_
  unfold digT
  split
  · rw [byts_tl,List.length_drop,byts_length]; omega
  · rw [byts_length]; omega
theorem fit30 {s:ByteArray} (h:RatOk s) (hs:s.size≤30):fitQ 4 (ratVal s):=by
  rcases h with ⟨hneg,hi⟩ | ⟨hpos,hi,hj,e1,e2⟩
  · obtain ⟨q1,q2⟩:=ratVal_int hneg
    unfold fitQ
    rw [q1,q2]
    exact ⟨int_lt30 hi hs,one_lt 4 (by decide)⟩
  · obtain ⟨q1,q2⟩:=ratVal_quo hpos e1 e2
    unfold fitQ
    rw [q1,q2]
    refine ⟨int_lt30 hi (Nat.le_trans (ext_size _ _ _) hs),decL_lt_pw30 hj.2.2.2 ?_⟩
    rw [byts_length]
    have:=ext_size s ((slashAt s).toNat+1) s.size
    exact Nat.le_trans this (by omega)
theorem fewT_fit {ts:TermL} {n e:Int} (h:fewT ts n e=true) (ho:OkT ts):FitP (fitQ 4) (polyT ts):=fun x hx=>by
  obtain ⟨t,ht,rfl⟩:=List.mem_map.1 hx
  unfold fewT at h
  simp only [Bool.and_eq_true,List.all_eq_true,decide_eq_true_eq] at h
  have:=h.2 t ht
  unfold okX at this
  simp only [Bool.and_eq_true,decide_eq_true_eq] at this
  exact fit30 (ho.1 t ht).1 this.1.1.1
end Go.Proofs.YthffkbbcofbceaaGreatDoor

namespace Cin
open Go Go.RowKit
def evP (φ:M→Rat):PolyL→Rat
  | []=>0
  | x::p=>x.2 * φ x.1+evP φ p
theorem evP_cons (φ:M→Rat) (x:M × Rat) (p:PolyL):evP φ (x::p)=x.2 * φ x.1+evP φ p:=rfl
theorem evP_app (φ:M→Rat):∀ p q:PolyL,evP φ (p++q)=evP φ p+evP φ q
  | [],q=>by show evP φ q=0+evP φ q; rw [Rat.zero_add]
  | x::p,q=>by rw [List.cons_append,evP_cons,evP_cons,evP_app φ p q]; grind
theorem evP_put (φ:M→Rat) (t:M × Rat):∀ p:PolyL,evP φ (putP p t)=evP φ p+t.2 * φ t.1
  | []=>by
    unfold putP
    split
    · rename_i h; rw [h]; show (0:Rat)=0+0 * φ t.1; grind
    · show t.2 * φ t.1+0=0+t.2 * φ t.1; grind
  | x::p=>by
    have ih:=evP_put φ t p
    unfold putP
    split
    · rw [evP_cons,evP_cons,ih]; grind
    · split
      · rename_i e
        split
        · rename_i h
          rw [evP_cons,← e]; grind
        · rw [evP_cons,evP_cons,← e]; grind
      · split
        · rename_i h; rw [h]; grind
        · rw [evP_cons]; grind
theorem evP_add (φ:M→Rat):∀ q p:PolyL,evP φ (addP p q)=evP φ p+evP φ q
  | [],p=>by show evP φ p=evP φ p+0; rw [Rat.add_zero]
  | x::q,p=>by
    have e:addP p (x::q)=addP (putP p x) q:=rfl
    rw [e,evP_add φ q,evP_put,evP_cons]; grind
theorem evP_of (φ:M→Rat) (q:PolyL):evP φ (addP [] q)=evP φ q:=by rw [evP_add]; show 0+_=_; rw [Rat.zero_add]
theorem evP_mulR (φ:M→Rat) (r:Rat):∀ p:PolyL,evP φ (mulR p r)=evP φ p * r
  | []=>by show (0:Rat)=0 * r; rw [Rat.zero_mul]
  | x::p=>by
    have e:mulR (x::p) r=(x.1,x.2 * r)::mulR p r:=rfl
    rw [e,evP_cons,evP_cons,evP_mulR φ r p]; grind
theorem evP_congr {φ ψ:M→Rat}:∀ {p:PolyL},(∀ x∈p,φ x.1=ψ x.1)→evP φ p=evP ψ p
  | [],_=>rfl
  | x::p,h=>by rw [evP_cons,evP_cons,h x List.mem_cons_self,evP_congr (p:=p) fun y hy=>h y (List.mem_cons_of_mem _ hy)]
theorem evP_zero:∀ p:PolyL,evP (fun _=>0) p=0
  | []=>rfl
  | x::p=>by rw [evP_cons,evP_zero p]; grind
theorem evP_plus (φ ψ:M→Rat):∀ p:PolyL,evP (fun m=>φ m+ψ m) p=evP φ p+evP ψ p
  | []=>by show (0:Rat)=0+0; rw [Rat.zero_add]
  | x::p=>by rw [evP_cons,evP_cons,evP_cons,evP_plus φ ψ p]; grind
theorem evP_times (φ:M→Rat) (r:Rat):∀ p:PolyL,evP (fun m=>φ m * r) p=evP φ p * r
  | []=>by show (0:Rat)=0 * r; rw [Rat.zero_mul]
  | x::p=>by rw [evP_cons,evP_cons,evP_times φ r p]; grind
theorem evP_row (φ:M→Rat) (x:M × Rat):∀ q:PolyL,evP φ (q.map fun y=>(mulM x.1 y.1,x.2 * y.2))=x.2 * evP (fun b=>φ (mulM x.1 b)) q
  | []=>by show (0:Rat)=x.2 * 0; rw [Rat.mul_zero]
  | y::q=>by rw [List.map_cons,evP_cons,evP_cons,evP_row φ x q]; grind
theorem evP_prods (φ:M→Rat) (q:PolyL):∀ p:PolyL,evP φ (prods p q)=evP (fun a=>evP (fun b=>φ (mulM a b)) q) p
  | []=>rfl
  | x::p=>by rw [prods_cons,evP_app,evP_row,evP_cons,evP_prods φ q p]
theorem evP_swap (F:M→M→Rat) (q:PolyL):∀ p:PolyL,evP (fun a=>evP (fun b=>F a b) q) p=evP (fun b=>evP (fun a=>F a b) p) q
  | []=>by rw [show (fun b=>evP (fun a=>F a b) [])=fun _=>(0:Rat) from rfl,evP_zero]; rfl
  | x::p=>by
    rw [evP_cons,evP_swap F q p]
    have e:(fun b=>evP (fun a=>F a b) (x::p))=fun b=>F x.1 b * x.2+evP (fun a=>F a b) p:=by funext b; rw [evP_cons,Rat.mul_comm]
    rw [e,evP_plus (fun b=>F x.1 b * x.2),evP_times (F x.1),Rat.mul_comm]
theorem evP_comm (φ:M→Rat) (p q:PolyL):evP φ (prods p q)=evP φ (prods q p):=by
  rw [evP_prods,evP_prods,evP_swap]
  congr 1
  funext b
  congr 1
  funext a
  rw [mulM_comm]
abbrev dl (m:M):M→Rat:=fun a=>if a=m then 1 else 0
abbrev coP (m:M) (p:PolyL):Rat:=evP (dl m) p
structure Canon (p:PolyL):Prop where
  ok:OkP p
  srt:p.Pairwise fun x y=>mc x.1 y.1 < 0
  nz:∀ x∈p,x.2≠0
theorem Canon.nil:Canon []:=⟨(fun _ h=>by cases h),List.Pairwise.nil,(fun _ h=>by cases h)⟩
theorem Canon.tl {x:M × Rat} {p:PolyL} (h:Canon (x::p)):Canon p:=⟨fun y hy=>h.ok y (List.mem_cons_of_mem _ hy),(List.pairwise_cons.1 h.srt).2,fun y hy=>h.nz y (List.mem_cons_of_mem _ hy)⟩
theorem mem_put {t y:M × Rat}:∀ {p:PolyL},y∈putP p t→y.1=t.1∨∃ z∈p,z.1=y.1
  | [],h=>by
    unfold putP at h
    split at h
    · cases h
    · rw [List.mem_singleton.1 h]; exact .inl rfl
  | x::p,h=>by
    unfold putP at h
    split at h
    · rcases List.mem_cons.1 h with rfl | h
      · exact .inr ⟨_,List.mem_cons_self,rfl⟩
      · rcases mem_put h with h | ⟨z,hz,e⟩
        · exact .inl h
        · exact .inr ⟨z,List.mem_cons_of_mem _ hz,e⟩
    · split at h
      · split at h
        · exact .inr ⟨y,List.mem_cons_of_mem _ h,rfl⟩
        · rcases List.mem_cons.1 h with rfl | h
          · exact .inr ⟨x,List.mem_cons_self,rfl⟩
          · exact .inr ⟨y,List.mem_cons_of_mem _ h,rfl⟩
      · split at h
        · exact .inr ⟨y,h,rfl⟩
        · rcases List.mem_cons.1 h with rfl | h
          · exact .inl rfl
          · exact .inr ⟨y,h,rfl⟩
theorem Canon.put {t:M × Rat} (ht:t.1.ok):∀ {p:PolyL},Canon p→Canon (putP p t)
  | [],_=>by
    refine ⟨OkP.put (fun _ h=>by cases h) ht,?_,?_⟩
    · unfold putP; split <;> simp
    · unfold putP; split
      · exact fun _ h=>by cases h
      · exact fun y hy=>by rw [List.mem_singleton.1 hy]; assumption
  | x::p,h=>by
    have ih:=Canon.put ht h.tl
    have hx:=List.pairwise_cons.1 h.srt
    have hxo:=h.ok x List.mem_cons_self
    refine ⟨h.ok.put ht,?_,?_⟩
    · unfold putP
      split
      · rename_i hlt
        refine List.pairwise_cons.2 ⟨fun y hy=>?_,ih.srt⟩
        rcases mem_put hy with e | ⟨z,hz,e⟩
        · rw [e]; exact hlt
        · rw [← e]; exact hx.1 z hz
      · rename_i hlt
        split
        · split
          · exact hx.2
          · exact List.pairwise_cons.2 ⟨hx.1,hx.2⟩
        · rename_i hne
          split
          · exact h.srt
          · have hgt:mc t.1 x.1 < 0:=by
              have h1:=mc_neg ht hxo
              have h2:mc x.1 t.1≠0:=fun e=>hne ((mc_zero hxo ht).1 e)
              omega
            refine List.pairwise_cons.2 ⟨fun y hy=>?_,h.srt⟩
            rcases List.mem_cons.1 hy with rfl | hy
            · exact hgt
            · exact mc_lt_trans ht hxo (h.ok y (List.mem_cons_of_mem _ hy)) hgt (hx.1 y hy)
    · unfold putP
      split
      · intro y hy
        rcases List.mem_cons.1 hy with rfl | hy
        · exact h.nz _ List.mem_cons_self
        · exact ih.nz y hy
      · split
        · split
          · exact h.tl.nz
          · intro y hy
            rcases List.mem_cons.1 hy with rfl | hy
            · assumption
            · exact h.tl.nz y hy
        · split
          · exact h.nz
          · intro y hy
            rcases List.mem_cons.1 hy with rfl | hy
            · assumption
            · exact h.nz y hy
theorem Canon.add:∀ {q p:PolyL},Canon p→OkP q→Canon (addP p q)
  | [],_,h,_=>h
  | x::q,_,h,hq=>Canon.add (q:=q) (h.put (hq x List.mem_cons_self)) fun y hy=>hq y (List.mem_cons_of_mem _ hy)
theorem Canon.of {q:PolyL} (hq:OkP q):Canon (addP [] q):=Canon.nil.add hq
theorem coP_none {m:M}:∀ {p:PolyL},(∀ x∈p,x.1≠m)→coP m p=0
  | [],_=>rfl
  | x::p,h=>by
    have:=coP_none (p:=p) fun y hy=>h y (List.mem_cons_of_mem _ hy)
    show evP (dl m) (x::p)=0
    rw [evP_cons,show evP (dl m) p=0 from this,dl,if_neg (h x List.mem_cons_self)]; grind
theorem mc_ne {a b:M} (ha:a.ok) (_:b.ok) (h:mc a b < 0):b≠a:=fun e=>by
  rw [e,(mc_zero ha ha).2 rfl] at h; omega
theorem coP_head {x:M × Rat} {p:PolyL} (h:Canon (x::p)):coP x.1 (x::p)=x.2:=by
  have:=coP_none (m:=x.1) (p:=p) fun y hy=>mc_ne (h.ok x List.mem_cons_self) (h.ok y (List.mem_cons_of_mem _ hy)) ((List.pairwise_cons.1 h.srt).1 y hy)
  show evP (dl x.1) (x::p)=x.2
  rw [evP_cons,show evP (dl x.1) p=0 from this,dl,if_pos rfl]; grind
theorem coP_mem {y:M × Rat}:∀ {p:PolyL},Canon p→y∈p→coP y.1 p=y.2
  | x::p,h,hy=>by
    rcases List.mem_cons.1 hy with rfl | hy
    · exact coP_head h
    · have h1:=coP_mem h.tl hy
      have hne:=mc_ne (h.ok x List.mem_cons_self) (h.ok y (List.mem_cons_of_mem _ hy)) ((List.pairwise_cons.1 h.srt).1 y hy)
      show evP (dl y.1) (x::p)=y.2
      rw [evP_cons,show evP (dl y.1) p=y.2 from h1,dl,if_neg (fun e=>hne e.symm)]; grind
theorem coP_some {m:M}:∀ {p:PolyL},coP m p≠0→∃ x∈p,x.1=m:=fun {p} h=>by
  refine Classical.byContradiction fun hn=>h (coP_none fun x hx e=>hn ⟨x,hx,e⟩)
theorem canon_low {x y:M × Rat} {p q:PolyL} (hp:Canon (x::p)) (hq:Canon (y::q)) (h:∀ m,coP m (x::p)=coP m (y::q)):¬ mc x.1 y.1 < 0:=fun hlt=>by
  have hxo:=hp.ok x List.mem_cons_self
  have hyo:=hq.ok y List.mem_cons_self
  have h1:=h x.1
  rw [coP_head hp,coP_none (p:=y::q)] at h1
  · exact hp.nz x List.mem_cons_self h1
  · intro z hz
    rcases List.mem_cons.1 hz with rfl | hz
    · exact mc_ne hxo hyo hlt
    · have hzo:=hq.ok z (List.mem_cons_of_mem _ hz)
      exact mc_ne hxo hzo (mc_lt_trans hxo hyo hzo hlt ((List.pairwise_cons.1 hq.srt).1 z hz))
theorem canon_eq:∀ {p q:PolyL},Canon p→Canon q→(∀ m,coP m p=coP m q)→p=q
  | [],[],_,_,_=>rfl
  | [],y::q,_,hq,h=>by
    have:=h y.1
    rw [coP_head hq] at this
    exact absurd this.symm (hq.nz y List.mem_cons_self)
  | x::p,[],hp,_,h=>by
    have:=h x.1
    rw [coP_head hp] at this
    exact absurd this (hp.nz x List.mem_cons_self)
  | x::p,y::q,hp,hq,h=>by
    have hxo:=hp.ok x List.mem_cons_self
    have hyo:=hq.ok y List.mem_cons_self
    have h1:=canon_low hp hq h
    have h2:=canon_low hq hp fun m=>(h m).symm
    have e:x.1=y.1:=(mc_zero hxo hyo).1 (by have:=mc_neg hxo hyo; omega)
    have e2:x.2=y.2:=by
      have:=h x.1
      rw [coP_head hp,e,coP_head hq] at this
      exact this
    have exy:x=y:=Prod.ext e e2
    subst exy
    congr 1
    refine canon_eq hp.tl hq.tl fun m=>?_
    have:=h m
    simp only [coP,evP_cons] at this ⊢
    grind
end Cin

namespace Cin
open Go Go.RowKit
def SmP (e:Nat) (p:PolyL):Prop:=∀ x∈p,x.1.1≤e∧x.1.2.1≤e∧x.1.2.2≤e
theorem SmP.ok {e:Nat} {p:PolyL} (h:SmP e p) (he:e≤255):OkP p:=fun x hx=>by have:=h x hx; exact ⟨by omega,by omega,by omega⟩
theorem SmP.put {e:Nat} {p:PolyL} {t:M × Rat} (h:SmP e p) (ht:t.1.1≤e∧t.1.2.1≤e∧t.1.2.2≤e):SmP e (putP p t):=fun x hx=>by
  rcases mem_put hx with e | ⟨z,hz,e⟩
  · rw [e]; exact ht
  · rw [← e]; exact h z hz
theorem SmP.add {e:Nat}:∀ {q p:PolyL},SmP e p→SmP e q→SmP e (addP p q)
  | [],_,h,_=>h
  | x::q,_,h,hq=>SmP.add (q:=q) (h.put (hq x List.mem_cons_self)) fun y hy=>hq y (List.mem_cons_of_mem _ hy)
theorem SmP.of {e:Nat} {q:PolyL} (h:SmP e q):SmP e (addP [] q):=SmP.add (fun _ h=>by cases h) h
theorem SmP.okM {e e':Nat} {p q:PolyL} (h:SmP e p) (h':SmP e' q) (he:e+e'≤255) {x y:M × Rat} (hx:x∈p) (hy:y∈q):mulOk x.1 y.1=true:=by
  have:=h x hx
  have:=h' y hy
  rw [mulOk_iff]; omega
theorem SmP.all {e e':Nat} {p q:PolyL} (h:SmP e p) (h':SmP e' q) (he:e+e'≤255):okAll p q=true:=by
  unfold okAll
  simp only [List.all_eq_true]
  exact fun x hx y hy=>h.okM h' he hx hy
theorem okAll_at {p q:PolyL} (h:okAll p q=true) {x y:M × Rat} (hx:x∈p) (hy:y∈q):mulOk x.1 y.1=true:=by
  unfold okAll at h
  simp only [List.all_eq_true] at h
  exact h x hx y hy
theorem SmP.prods {e e':Nat} {p q:PolyL} (h:SmP e p) (h':SmP e' q):SmP (e+e') (prods p q):=fun z hz=>by
  obtain ⟨x,hx,hz⟩:=List.mem_flatMap.1 hz
  obtain ⟨y,hy,rfl⟩:=List.mem_map.1 hz
  have:=h x hx
  have:=h' y hy
  unfold mulM
  split
  · simp only []; omega
  · exact ⟨Nat.zero_le _,Nat.zero_le _,Nat.zero_le _⟩
theorem evP_nil (φ:M→Rat):evP φ []=0:=rfl
section rings
variable {p q r:PolyL}
theorem add_comm (hp:Canon p) (hq:Canon q):addP p q=addP q p:=
  canon_eq (hp.add hq.ok) (hq.add hp.ok) fun m=>by simp only [coP,evP_add]; grind
theorem sub_self (hp:Canon p):addP p (addP [] (mulR p (-1)))=[]:=
  canon_eq (hp.add (Canon.of (mulR_ok hp.ok)).ok) Canon.nil fun m=>by simp only [coP,evP_add,evP_nil,Rat.zero_add,evP_mulR]; grind
theorem mul_add:addP [] (prods (addP p q) r)=addP (addP [] (prods r p)) (addP [] (prods r q)):=
  canon_eq (Canon.of prods_ok) ((Canon.of prods_ok).add (Canon.of prods_ok).ok) fun m=>by
    simp only [coP,evP_add,evP_nil,Rat.zero_add]
    rw [evP_prods,evP_add,← evP_prods,← evP_prods,evP_comm _ p r,evP_comm _ q r]
end rings
section comp
variable {x:Rat × Rat × Rat} {l0 l1 l2:PolyL}
end comp
theorem exV_mul {i:Int} {a b:M} (h:mulOk a b=true):exV i (mulM a b)=exV i a+exV i b:=by
  rw [mulM_of h]; unfold exV; (repeat' split) <;> rfl
end Cin

namespace Cin
open Go Go.RowKit
theorem maxP_ge {f:M→Int}:∀ {p:PolyL} {n:Int},n≤maxP f n p∧∀ x∈p,f x.1≤maxP f n p
  | [],n=>⟨Int.le_refl _,fun _ h=>by cases h⟩
  | t::p,n=>by
    have e:maxP f n (t::p)=maxP f (max n (f t.1)) p:=rfl
    have ih:=maxP_ge (f:=f) (p:=p) (n:=max n (f t.1))
    rw [e]
    refine ⟨by omega,fun x hx=>?_⟩
    rcases List.mem_cons.1 hx with rfl | hx
    · omega
    · exact ih.2 x hx
theorem maxP_le {f:M→Int} {c:Int}:∀ {p:PolyL} {n:Int},n≤c→(∀ x∈p,f x.1≤c)→maxP f n p≤c
  | [],_,h,_=>h
  | t::p,n,h,h'=>by
    have e:maxP f n (t::p)=maxP f (max n (f t.1)) p:=rfl
    have:=h' t List.mem_cons_self
    rw [e]
    exact maxP_le (by omega) fun x hx=>h' x (List.mem_cons_of_mem _ hx)
theorem maxP_is {f:M→Int} {n:Int} {p:PolyL} {x:M × Rat} (hx:x∈p) (hn:n≤f x.1) (h:∀ y∈p,f y.1≤f x.1):maxP f n p=f x.1:=by
  have h1:=(maxP_ge (f:=f) (p:=p) (n:=n)).2 x hx
  have h2:=maxP_le (f:=f) (p:=p) (n:=n) hn h
  omega
theorem mem_add {y:M × Rat}:∀ {q p:PolyL},y∈addP p q→(∃ z∈p,z.1=y.1)∨∃ z∈q,z.1=y.1
  | [],_,h=>.inl ⟨y,h,rfl⟩
  | x::q,p,h=>by
    rcases mem_add (q:=q) (p:=putP p x) h with ⟨z,hz,e⟩ | ⟨z,hz,e⟩
    · rcases mem_put hz with e' | ⟨u,hu,e'⟩
      · exact .inr ⟨x,List.mem_cons_self,by rw [← e,e']⟩
      · exact .inl ⟨u,hu,by rw [e',e]⟩
    · exact .inr ⟨z,List.mem_cons_of_mem _ hz,e⟩
theorem maxP_add {f:M→Int} {n:Int} (p q:PolyL):maxP f n (addP p q)≤max (maxP f n p) (maxP f n q):=by
  have h1:=maxP_ge (f:=f) (p:=p) (n:=n)
  have h2:=maxP_ge (f:=f) (p:=q) (n:=n)
  refine maxP_le (by omega) fun x hx=>?_
  rcases mem_add hx with ⟨z,hz,e⟩ | ⟨z,hz,e⟩
  · have:=h1.2 z hz; rw [e] at this; omega
  · have:=h2.2 z hz; rw [e] at this; omega
theorem exists_max (K:M→Int):∀ {p:PolyL},p≠[]→∃ x∈p,∀ y∈p,K y.1≤K x.1
  | [],h=>absurd rfl h
  | [x],_=>⟨x,List.mem_cons_self,fun y hy=>by rw [List.mem_singleton.1 hy]; exact Int.le_refl _⟩
  | x::z::p,_=>by
    obtain ⟨y,hy,h⟩:=exists_max K (p:=z::p) (by simp)
    by_cases hc:K y.1≤K x.1
    · refine ⟨x,List.mem_cons_self,fun u hu=>?_⟩
      rcases List.mem_cons.1 hu with rfl | hu
      · exact Int.le_refl _
      · exact Int.le_trans (h u hu) hc
    · refine ⟨y,List.mem_cons_of_mem _ hy,fun u hu=>?_⟩
      rcases List.mem_cons.1 hu with rfl | hu
      · omega
      · exact h u hu
theorem kM_rng {a:M} (h:a.ok):0≤kM a∧kM a < 1099511627776:=by
  obtain ⟨h0,h1,h2⟩:=h
  unfold kM dg; omega
def AddM (f:M→Int):Prop:=∀ a b,mulOk a b=true→f (mulM a b)=f a+f b
theorem dg_add:AddM fun m=>((dg m:Nat):Int):=fun a b h=>by
  rw [mulM_of h]; unfold dg; simp only []; omega
theorem exV_add (i:Int):AddM fun m=>((exV i m:Nat):Int):=fun a b h=>by
  dsimp only; rw [exV_mul h]; omega
def kF (f:M→Int) (a:M):Int:=f a * 1099511627776+kM a
theorem kF_inj {f:M→Int} {a b:M} (ha:a.ok) (hb:b.ok) (h:kF f a=kF f b):a=b:=by
  have h1:=kM_rng ha
  have h2:=kM_rng hb
  unfold kF at h
  exact kM_inj ha hb (cut_eq 1099511627776 h1.1 h1.2 h2.1 h2.2 h).2
theorem kF_le {f:M→Int} {a b:M} (ha:a.ok) (hb:b.ok) (h:kF f a≤kF f b):f a≤f b:=by
  have h1:=kM_rng ha
  have h2:=kM_rng hb
  unfold kF at h
  omega
theorem lead {f:M→Int} {p q:PolyL} (hf:AddM f) (hp:Canon p) (hq:Canon q) (hok:okAll p q=true) {x y:M × Rat} (hx:x∈p) (hy:y∈q) (mx:∀ z∈p,kF f z.1≤kF f x.1) (my:∀ z∈q,kF f z.1≤kF f y.1) :
    coP (mulM x.1 y.1) (prods p q)=x.2 * y.2:=by
  show evP (dl (mulM x.1 y.1)) (prods p q)=x.2 * y.2
  rw [evP_prods]
  have hxy:=okAll_at hok hx hy
  have key:∀ a∈p,∀ b∈q,mulM a.1 b.1=mulM x.1 y.1→a.1=x.1∧b.1=y.1:=fun a ha b hb e=>by
    have hab:=okAll_at hok ha hb
    have k1:=congrArg kM e
    have k2:=congrArg f e
    rw [kM_mul hab,kM_mul hxy] at k1
    rw [hf _ _ hab,hf _ _ hxy] at k2
    have m1:=mx a ha
    have m2:=my b hb
    have s:kF f a.1+kF f b.1=kF f x.1+kF f y.1:=by unfold kF; omega
    exact ⟨kF_inj (f:=f) (hp.ok a ha) (hp.ok x hx) (by omega),kF_inj (f:=f) (hq.ok b hb) (hq.ok y hy) (by omega)⟩
  have e:∀ a∈p,evP (fun b=>dl (mulM x.1 y.1) (mulM a.1 b)) q=dl x.1 a.1 * y.2:=fun a ha=>by
    by_cases hax:a.1=x.1
    · rw [dl,if_pos hax,Rat.one_mul,← coP_mem hq hy]
      refine evP_congr fun b hb=>?_
      by_cases hby:b.1=y.1
      · rw [dl,dl,if_pos (by rw [hax,hby]),if_pos hby]
      · rw [dl,dl,if_neg (fun e=>hby (key a ha b hb e).2),if_neg hby]
    · rw [dl,if_neg hax,Rat.zero_mul,← evP_zero q]
      exact evP_congr fun b hb=>by rw [dl,if_neg (fun e=>hax (key a ha b hb e).1)]
  rw [evP_congr (ψ:=fun a=>dl x.1 a * y.2) e,evP_times]
  rw [show evP (dl x.1) p=x.2 from coP_mem hp hx]
theorem rat_mul_ne {a b:Rat} (ha:a≠0) (hb:b≠0):a * b≠0:=by grind
theorem maxP_mul {f:M→Int} {n:Int} {p q:PolyL} (hf:AddM f) (h0:∀ m,0≤f m) (hn:n≤0) (hp:Canon p) (hq:Canon q) (hok:okAll p q=true) (ep:p≠[]) (eq:q≠[]) :
    maxP f n (addP [] (prods p q))=maxP f n p+maxP f n q:=by
  obtain ⟨x,hx,mx⟩:=exists_max (kF f) ep
  obtain ⟨y,hy,my⟩:=exists_max (kF f) eq
  have hl:=lead hf hp hq hok hx hy mx my
  have fx:∀ z∈p,f z.1≤f x.1:=fun z hz=>kF_le (hp.ok z hz) (hp.ok x hx) (mx z hz)
  have fy:∀ z∈q,f z.1≤f y.1:=fun z hz=>kF_le (hq.ok z hz) (hq.ok y hy) (my z hz)
  have px:=h0 x.1
  have py:=h0 y.1
  rw [maxP_is hx (by omega) fx,maxP_is hy (by omega) fy]
  obtain ⟨t,ht,e⟩:=coP_some (m:=mulM x.1 y.1) (p:=addP [] (prods p q)) (by
    show evP _ _≠0
    rw [evP_of]
    show coP _ _≠0
    rw [hl]; exact rat_mul_ne (hp.nz x hx) (hq.nz y hy))
  have ft:f t.1=f x.1+f y.1:=by rw [e]; exact hf _ _ (okAll_at hok hx hy)
  rw [← ft]
  refine maxP_is ht (by omega) fun z hz=>?_
  rcases mem_add hz with ⟨_,h,_⟩ | ⟨u,hu,e'⟩
  · cases h
  · obtain ⟨a,ha,hu⟩:=List.mem_flatMap.1 hu
    obtain ⟨b,hb,rfl⟩:=List.mem_map.1 hu
    rw [← e',ft]
    have:=hf _ _ (okAll_at hok ha hb)
    have:=fx a ha
    have:=fy b hb
    simp only []; omega
theorem prods_none_r:∀ p:PolyL,prods p []=[]
  | []=>rfl
  | x::p=>by rw [prods_cons,prods_none_r p]; rfl
end Cin
