import Derived.Lib.Hide
import Derived.Laws.CopyOwn
import Derived.Test.YtlgoihmkgaaemaaGreatGQ02
set_option maxHeartbeats 20000000
set_option linter.unusedVariables false
set_option maxRecDepth 100000
set_option linter.unusedSimpArgs false
namespace Go.Proofs.YtlgoihmkgaaemaaGreat
open Go.RowKit Tryz
theorem Nn {k:IntKind} {a b:Int} (h:a=b):Value.int k a=.int k b:=by rw[h]
variable (n:Int) (s:ByteArray) (ao:Option Addr) (cap:Nat) (p:Int) (w:World)
theorem Ga (h1:1<=n) (h2:n<=8) :
  Calls prog 203 #[I n] w λe w'=>e=.returned (.bool true)/\w=w':=by
 go_enter func203,ntmps203;go_wp2;go_ret
 simp_all
theorem TC (h1:n<1\/8<n) :
  Calls prog 203 #[I n] w λe w'=>e=.returned (.bool false)/\w=w':=by
 rcases h1 with h | h
 . go_enter func203,ntmps203;go_wp2;go_ret
   simp_all
 have h':1<=n:=by omega
 have b:decide (n<=8)=false:=by grind
 go_enter func203,ntmps203;go_wp2;go_ret
 simp_all
theorem alr (hs:s.size<=maxLen) (h1:(s.size:Int)<1\/8<(s.size:Int)) :
  Calls prog 195 #[.string s] w λe w'=>e=.returned (.tuple #[I 0,I 3])/\w=w':=by
 unfold maxLen at hs;go_enter func195,ntmps195;go_wp2_with (go_at_call 203;refine(TC _ _ h1).mono ?_;rintro e w' ⟨rfl,rfl⟩)
 go_ret2
 exact⟨rfl,rfl⟩
theorem Xf (h1:1<=s.size) (h2:s.size<=8) :
  Calls prog 195 #[.string s] w λe w'=>e=.returned (.tuple #[I (wrap64 (Lib.leNat s.data.toList)),I 0])/\w=w':=by
 go_enter func195,ntmps195;go_wp2_with (go_at_call 203;refine(Ga _ _ ω ω).mono ?_;rintro e w' ⟨rfl,rfl⟩)
 go_loop [4,5] (λn i=>∃k:Nat,k<=s.size/\i=I ((k:Int)-1)/\n=.int .u64 (Lib.leNat (s.data.toList.drop k))) (λ_ i=>(intOf i+1).toNat)
 case atStart=>exact⟨s.size,aK _,rfl,by rw[List.drop_of_length_le (by rw[<- Lib.size_eq];exact aK _)];rfl⟩
 case round =>
  obtain⟨k,hk,rfl,rfl⟩:=hrel;by_cases hlt:0<k
  . go_wp2
    go_round
    case rel =>
     refine⟨k-1,ω,Nn ω,Nn ?_⟩;have hb:s[k-1].toNat<256:=s[k-1].toNat_lt;rw[Zz s k hlt hk,als _ _ ω (by have:=adq (s.data.toList.drop k) (by rw[Gn,<- Lib.size_eq];omega);omega) ω ω]
    case measure=>simp[intOf];omega
  obtain rfl:k=0:=by omega
  go_wp2
  go_ret2
  exact⟨rfl,rfl⟩
open Go.RowKit
theorem P8 (size:Nat) (w:World) (h2:size<=8) :
  Calls prog 58 #[I n,I size] w λe w'=>e=.returned (.string ⟨(Lib.leBytes size (kz n)).toArray⟩)/\Below w.heap.size w w':=by
 go_enter func58,ntmps58;go_wp2;go_loopw [0,5,6] (λt s i wr=>∃k:Nat,k<=size/\i=I k/\t=I (BB n k)/\s=.string ⟨(Lib.leBytes k (kz n)).toArray⟩/\Below w.heap.size w wr) (λ_ _ i _=>size-(intOf i).toNat)
 case atStart=>exact⟨0,ω,rfl,by rw[agk],rfl,aN _ _⟩
 case round =>
  obtain⟨k,hk,rfl,rfl,rfl,hb⟩:=hrel;by_cases hlt:k<size
  . have b:(convert 203 9 (.slice (some (Ad wr.heap.size 0)) 1 1)).run prog (wr.alloc (.cells #[.int .u8 (BB n k%256)] 5))=.ok (.string ⟨#[(kz n/256 ^ k%256).toUInt8]⟩) (wr.alloc (.cells #[.int .u8 (BB n k%256)] 5)):=by
     rw[<- P9 n k ω];refine Ud _ 203 5 underlying203 underlying5 _ 0 1 1 [BB n k%256] rfl ?_ 9 underlying9
     simp_all
    have hl:(Lib.leBytes k (kz n)).length=k:=Lib.leBytes_length _ _;have HN:Hid (Lib.leBytes (k+1) (kz n)=Lib.leBytes k (kz n)++[(kz n/256 ^ k%256).toUInt8]):=BC _ _;go_wp2;go_roundw
    case rel=>grind [agl,adp,Hid.o,Below.alloc,Below.size]
    grind [intOf]
  obtain rfl:k=size:=by omega
  go_wp2;go_ret
  simp_all
theorem Xe:(prog.info? 5).map (λi=>(i.zero,i.size,i.bytes))=some (some (.int .u8 0),1,1):=by rfl
theorem Xd (size:Nat) (w:World) (h1:1<=size) (h2:size<=8) :
  Calls prog 169 #[I n,I size] w λe w'=>e=.returned (.tuple #[.string ⟨(Lib.leBytes size (kz n)).toArray⟩,I 0])/\Below w.heap.size w w':=by
 obtain⟨i0,hi,y,A,K⟩:=kI Xe;obtain⟨w1,G,q,B⟩:=run_make_full (P:=prog) w w.heap.size 203 5 i0 (.int .u8 0) 1 underlying203 hi y A .i64 .i64 size Γ (by grind [maxLen]) (aK _);have J:Below w.heap.size w w1:=(aN _ _).grown B (aK _) Γ;rw[TM,show(Value.int .u8 0).cells=#[Value.int .u8 0] from rfl,toList_madeCells_one,<- agn size (kz n)] at q;go_enter func169,ntmps169;go_wp2_with (go_at_call 203;refine(Ga _ _ ω ω).mono ?_;rintro e w' ⟨rfl,rfl⟩);go_loopw [6,18] (λr i wr=>∃k:Nat,k<=size/\i=I k/\r=.int .u64 ((kz n/256 ^ k:Nat):Int)/\wr.ownsRow w.heap.size 5 1 (.slice (some (Ad w.heap.size 0)) size size) size (Fg size k (kz n))/\Below w.heap.size w wr) (λ_ i _=>size-(intOf i).toNat)
 case atStart=>grind [aiS]
 case round =>
  obtain⟨k,hk,rfl,rfl,b,hb⟩:=hrel;by_cases hlt:k<size
  . have hc:wr.cell? (Ad w.heap.size k)=some (.int .u8 0):=(b.cellAt k ω).trans (aiU _ _ _ hlt);have hf:wr.frozen? (Ad w.heap.size k)=false:=b.frozenAt k;have HS:Hid ((wr.setCell (Ad w.heap.size k) (.int .u8 (((kz n/256 ^ k:Nat):Int)%256))).ownsRow w.heap.size 5 1 (.slice (some (Ad w.heap.size 0)) size size) size (Fg size (k+1) (kz n))/\Below w.heap.size w (wr.setCell (Ad w.heap.size k) (.int .u8 (((kz n/256 ^ k:Nat):Int)%256)))):=by
     have h:=b.stored k (.int .u8 (((kz n/256 ^ k:Nat):Int)%256));rw[aiT _ _ _ hlt] at h;exact⟨h.1,hb.setCell (aK _) _⟩
    go_wp2;go_roundw
    case rel=>exact⟨k+1,ω,by go_num,Nn (aiV n k),HS.o.1,HS.o.2⟩
    case measure=>simp[intOf];omega
  obtain rfl:k=size:=by omega
  have F:(convert 203 9 (.slice (some (Ad w.heap.size 0)) k k)).run prog wr=.ok (.string ⟨(Lib.leBytes k (kz n)).toArray⟩) wr:=by
   rw[<- xX];refine Ud _ 203 5 underlying203 underlying5 _ 0 k k _ (by simp[Lib.leBytes_length]) ?_ 9 underlying9;intro i hi;rw[nj,b.cellAt i ω,ago];exact Gb _ i (by rw[Lib.leBytes_length];exact hi)
  go_wp2
  go_ret2
  exact⟨rfl,hb⟩
theorem aiR (hlim:s.size<=281474976710656) :
  Calls prog 177 #[.string s] w λe w'=>e=.returned (.string s)/\Below w.heap.size w w':=by
 by_cases h0:s.size=0
 . have hs:s=⟨#[]⟩:=by
    apply ByteArray.ext
    simp_all
   subst hs;go_enter func177,ntmps177;go_wp2;go_ret;exact⟨rfl,aN _ _⟩
 obtain⟨i0,hi,L,J,O⟩:=kI Xe;have b:(prog.info? 5).map (·.size)=some 1:=by rfl
 have B:prog.cellsOf 5=1:=by rfl
 obtain⟨M,hM⟩:=ex (madeCells (Value.int .u8 0).cells (((s.size:Nat):Int).toNat*i0.size));have R:M.size=s.size:=by grind [size_madeCells]
 have N:∀W:World,(Instr.makeSlice 203 (I (s.size:Int)) (I (s.size:Int))).run prog W=.ok (.slice (some (Ad W.heap.size 0)) s.size s.size) (W.alloc (.cells M 5)):=λW=>by
  grind [run_make,underlying203]
 clear hM;have C4:=Lib.run_copy_row_string (P:=prog) (w.alloc (.cells M 5)) 203 9 3 5 w.heap.size 0 s.size s.size s M 5 underlying203 b (TT w _) (aK _) ω;obtain⟨Y,hY⟩:=ex ((M.toList.take 0++Lib.byteCells s.data.toList++M.toList.drop (0+s.size)).toArray);rw[<- hY] at C4;have Q:Y.toList=Lib.byteCells s.data.toList:=by
  simp_all
 have K:Y.size=s.size:=by grind [Lib.byteCells_length,Lib.size_eq]
 have q:((w.alloc (.cells M 5)).setRow w.heap.size Y).heap[w.heap.size]?=some (.cells Y 5 (0,0)):=xo _ _ M _ 5 (0,0) (TT w _);have y:s.data.toList≠[]:=λe=>h0 (by grind [Lib.size_eq])
 have A:=Lib.run_unsafeString_row (P:=prog) ((w.alloc (.cells M 5)).setRow w.heap.size Y) 336 3 9 5 underlying336 B w.heap.size Y.size (by grind [World.shape?]) s.data.toList y (by simp_all) (by grind [Lib.size_eq])
  (λj x hx=>Lib.cells_of_row q Y.size j _ (by grind [Lib.byteCells]))
 rw[<- Lib.size_eq] at A;clear hY;go_enter func177,ntmps177;go_wp2;go_ret;have F:Below w.heap.size w (w.alloc (.cells M 5)):=(aN _ w).alloc (aK _) _;have G:Below w.heap.size (w.alloc (.cells M 5)) ((w.alloc (.cells M 5)).setRow w.heap.size Y):=⟨rfl,rfl,rfl,ξ,λk hk=>setRow_other _ _ _ _ ω⟩;exact⟨rfl,Lib.below_freeze (F.trans G) (p:=(Ad w.heap.size 0)) (aK _) _⟩
theorem Xg (hlim:s.size<=281474976710656) :
  Calls prog 123 #[.string s] w λe w'=>e=.returned (.string s)/\Below w.heap.size w w':=by
 go_enter func123,ntmps123;go_wp2_with (go_at_call 177;refine(aiR _ _ hlim).mono ?_;rintro e w' ⟨rfl,hb⟩);go_ret
 simp_all
theorem Ff (l o n:Int) (w:World) (h1:0<=o) (h2:0<=n) (h3:o<=l) (h4:n<=l-o) (h5:l<=9223372036854775807) :
  Calls prog 178 #[I l,I o,I n] w λe w'=>e=.returned (.bool true)/\w=w':=by
 go_enter func178,ntmps178;go_wp2;go_ret
 simp_all
theorem Bj (o n:Nat) (w:World) (hs:s.size<=140737488351232) (h:o+n<=s.size) :
  Calls prog 171 #[.string s,I o,I n] w λe w'=>e=.returned (.tuple #[.string (s.extract o (o+n)),I 0])/\Below w.heap.size w w':=by
 go_enter func171,ntmps171;go_wp2_with (first | (go_at_call 178;refine(Ff _ _ _ _ ω ω ω ω ω).mono ?_;rintro e w' ⟨rfl,rfl⟩) | (go_at_call 123;refine(Xg _ _ (by simp;omega)).mono ?_;rintro e w' ⟨rfl,hb⟩))
 go_ret2
 simp_all
theorem H9 (t:ByteArray) (o:Nat) (w:World) (hs:s.size<=140737488351232) (h:o+t.size<=s.size) :
  Calls prog 124 #[.string s,I o,.string t] w λe w'=>e=.returned (.tuple #[.string (gB s o t),I 0])/\Below w.heap.size w w':=by
 obtain⟨i0,hi,L,N,O⟩:=kI Xe;have B:(prog.info? 5).map (·.size)=some 1:=by rfl
 obtain⟨c,hc⟩:∃c,grownCap w s.size 0 5=c:=⟨_,rfl⟩;have K:s.size<=c:=by grind [grownCap_ge]
 have y:=run_bytes_of_string (P:=prog) w 9 203 5 s underlying9 underlying203 underlying5;rw[hc] at y;clear hc;have F:(bytesRow s c).size=c:=by grind [Rb]
 have q:=ZA s o t c h;obtain⟨R,hR⟩:=ex (bytesRow s c);rw[<- hR] at y F q;clear hR;rw[F] at y;have A:((w.alloc (.cells R 5 (c,c+1))).drew).heap[w.heap.size]?=some (.cells R 5 (c,c+1)):=TT w _;by_cases h0:t.size=0
 . have C4:=λW d l c=>Lib.run_copy_empty_string (P:=prog) W 203 9 3 5 d l c t underlying203 ρ h0
   rw[agp s o t h0] at q ⊢;have J:(convert 203 9 (.slice (some (Ad w.heap.size 0)) s.size c)).run prog ((w.alloc (.cells R 5 (c,c+1))).drew)=.ok (.string s) ((w.alloc (.cells R 5 (c,c+1))).drew):=by
    have es:strOfNums (s.data.toList.map λb=>(b.toNat:Int))=s:=(xX _).trans (Lib.mk_data s);refine Eq.trans ?_ (dC (λx=>Result.ok (Value.string x) ((w.alloc (.cells R 5 (c,c+1))).drew)) es);refine Ud _ 203 5 underlying203 underlying5 _ 0 s.size c _ (by simp_all) ?_ 9 underlying9;intro i hi;have ht:t.data.toList=[]:=o9 (by simp_all);have e:=q i hi;rw[ht,h0] at e;rw[nj,aaE _ _ _ _ _ _ A]
    simp_all [Lib.byteCells]
   go_enter func124,ntmps124;go_wp2_with (first | (go_at_call 178;refine(Ff _ _ _ _ ω ω ω ω ω).mono ?_;rintro e w' ⟨rfl,rfl⟩))
   all_goals go_ret2
   all_goals exact⟨rfl,((aN _ _).alloc (aK _) _).drew⟩
 have M:¬c=o:=by omega
 have C4:=Xi (P:=prog) ((w.alloc (.cells R 5 (c,c+1))).drew) 203 9 3 5 w.heap.size o (s.size-o) (c-o) t R 5 c (c+1) underlying203 B A ω ω ω;obtain⟨Y,hY⟩:=ex ((R.toList.take o++Lib.byteCells t.data.toList++R.toList.drop (o+t.size)).toArray);rw[<- hY] at C4;have G:(((w.alloc (.cells R 5 (c,c+1))).drew).setRow w.heap.size Y).heap[w.heap.size]?=some (.cells Y 5 (c,c+1)):=xo _ _ R _ 5 (c,c+1) A;have J:(convert 203 9 (.slice (some (Ad w.heap.size 0)) s.size c)).run prog (((w.alloc (.cells R 5 (c,c+1))).drew).setRow w.heap.size Y)=.ok (.string (gB s o t)) (((w.alloc (.cells R 5 (c,c+1))).drew).setRow w.heap.size Y):=by
  rw[<- Lib.mk_data (gB s o t),<- xX];refine Ud _ 203 5 underlying203 underlying5 _ 0 s.size c _ (by grind [Qa]) ?_ 9 underlying9;intro i hi;rw[nj,aaE _ _ _ _ _ _ G,hY]
  grind
 clear q hY;go_enter func124,ntmps124;go_wp2_with (first | (go_at_call 178;refine(Ff _ _ _ _ ω ω ω ω ω).mono ?_;rintro e w' ⟨rfl,rfl⟩))
 go_ret2
 exact⟨rfl,below_setRow ((aN _ _).alloc (aK _) _).drew (aK _) _⟩
theorem akt {s t:ByteArray} {a b:Int} (h:s=t) (g:a=b):Ending.returned (.tuple #[.string s,I a])=.returned (.tuple #[.string t,I b]):=by rw[h,g]
theorem Rz (s:bC) (w:World) (h:xC w s.ao s.dR) (hf:KR s) :
  Calls prog 72 #[.agg (ux s)] w λe w'=>e=.returned (.tuple #[.string (jE s).1,I (jE s).2])/\Below w.heap.size w w':=by
 have HR:Hid (∀W,Below w.heap.size w W->Calls prog 122 #[.agg (ux s)] W λe w'=>e=.returned (.bool (cY s))/\Below W.heap.size W w'):=λW hb=>Ed s W (h.below hb) hf
 obtain⟨f1,f2,f3,f4⟩:=hf;obtain⟨pg,dt,fs,ao,cap⟩:=s;simp only at f1 f2 f3 f4;unfold bD at f2 f3;simp only[ux] at HR;simp only[ux];have K:dt.size<=maxLen:=by grind [maxLen]
 have F4:=aq f4;have HH:=aq h;clear f4 h f1;have HB:=aq ((aN w.heap.size w).alloc (aK _) (.cells #[I pg,.string dt,.slice ao fs.length cap] 145));have BX:=aq (bH w #[I pg,.string dt,.slice ao fs.length cap] 145);by_cases hs:cY ⟨pg,dt,fs,ao,cap⟩=true
 . have HN:Hid (jE ⟨pg,dt,fs,ao,cap⟩=(vY dt fs fs.length,0)):=by
    show _=_;unfold jE;rw[aC hs];rfl
   obtain⟨hd,B⟩:pM ⟨pg,dt,fs,ao,cap⟩=true/\eO fs fs.length=true:=by
    grind [cY]
   have Xw:dt.size=16:=by
    grind [pM]
   have y:=aq B;rw[hs] at HR;clear hs hd B;go_enter func72,ntmps72;go_wp2_with (first | (go_at_call 122;refine(HR.o _ HB.o).mono ?_;rintro e w1 ⟨rfl,hb⟩;have HB:=aq (HB.o.trans (hb.mono HB.o.size));have BX:=aq (aU BX.o hb (aQ BX.o));have q0:=aA BX.o 0 rfl;have q1:=aA BX.o 1 rfl;have q2:=aA BX.o 2 rfl;clear hb) | (go_at_call 123;refine(Xg _ _ ω).mono ?_;rintro e w2 ⟨rfl,hb⟩;have HB:=aq (HB.o.trans (hb.mono HB.o.size));have BX:=aq (aU BX.o hb (aQ BX.o));have q0:=aA BX.o 0 rfl;have q1:=aA BX.o 1 rfl;have q2:=aA BX.o 2 rfl;clear hb));go_loopw [16,4] (λi d wr=>∃k:Nat,k<=fs.length/\i=I k/\d=.string (vY dt fs k)/\Below w.heap.size w wr) (λi _ _=>fs.length-(intOf i).toNat)
   case atStart=>exact⟨0,ω,rfl,rfl,HB.o⟩
   case round =>
    obtain⟨k,hk,rfl,rfl,hb⟩:=hrel;have wQ:=aq hb;by_cases hlt:k<fs.length
    . obtain⟨b,off,F,L,di⟩:=(HH.o.below hb) ω;subst F;obtain⟨c0,c1⟩:=di k hlt;have A:=(Eg _ _).1 (LG fs fs.length y.o k hlt);have q:eO fs k=true:=by
       cases e:eO fs k
       . rw[zL fs k fs.length ω e] at y;cases y
       rfl
      have J:=uY fs k q;have G:=yK dt fs Xw k q;have zB:Hid (vY dt fs (k+1)=gB (vY dt fs k) (nD fs k).off.toNat (nD fs k).bytes):=rfl;generalize nD fs k=f at c0 c1 A zB;generalize vY dt fs k=D at G zB ⊢;obtain⟨o,ho⟩:∃o:Nat,f.off=(o:Int):=⟨f.off.toNat,ω⟩;rw[ho] at c0 A;rw[ho,jW] at zB;clear q di hb;have iQ:=aq (wQ.o.alloc wQ.o.size (.cells #[I (o:Int),.string f.bytes] 226));go_wp2_with (go_at_call 124;refine(H9 D f.bytes o _ ω ω).mono ?_;rintro e w3 ⟨rfl,hb⟩;have iQ:=aq (iQ.o.trans (hb.mono iQ.o.size));clear hb);go_roundw
      case rel=>exact⟨k+1,ω,by go_num,by rw[zB.o],iQ.o⟩
      case measure=>simp[intOf];omega
    obtain rfl:k=fs.length:=by omega
    go_wp2
    go_ret2
    exact⟨akt (by rw[HN.o]) (by rw[HN.o]),wQ.o⟩
 have hs':cY ⟨pg,dt,fs,ao,cap⟩=false:=by grind
 have HN:Hid (jE ⟨pg,dt,fs,ao,cap⟩=(⟨#[]⟩,1)):=by
  show _=_
  grind [jE]
 rw[hs'] at HR;clear hs hs';rw[HN.o];go_enter func72,ntmps72;go_wp2_with (go_at_call 122;refine(HR.o _ HB.o).mono ?_;rintro e w1 ⟨rfl,hb⟩;have HB:=aq (HB.o.trans (hb.mono HB.o.size));clear hb)
 go_ret2
 exact⟨rfl,HB.o⟩
theorem sG (n t:Int) (z:Bool) (w:World) (h1:-9223372036854775808<=p+n) (h2:p+n<=9223372036854775807) :
  Calls prog 128 #[.agg #[I p,I n,I t,.bool z]] w λe w'=>e=.returned (I (p+n))/\Below w.heap.size w w':=by
 go_enter func128,ntmps128;go_wp2;go_ret;exact⟨rfl,(aN _ _).alloc (aK _) _⟩
theorem pE (n:Int) (w:World) (hp:-9223372036854775808<=p/\p<=9223372036854775807) (hn:-9223372036854775808<=n/\n<=9223372036854775807) :
  Calls prog 174 #[I p,I n] w λe w'=>e=.returned (.bool (gW p n))/\w=w':=by
 by_cases h1:1<=p
 . by_cases h2:1<=n
   . by_cases h3:n<=256-p
     . have e:gW p n=true:=by grind [gW]
       have h4:n<=255-p+1:=by omega
       rw[e];go_enter func174,ntmps174;go_wp2;go_ret
       simp_all
     have e:gW p n=false:=by grind [gW]
     have h4:decide (n<=255-p+1)=false:=by grind
     rw[e];go_enter func174,ntmps174;go_wp2;go_ret
     simp_all
   have e:gW p n=false:=by grind [gW]
   rw[e];go_enter func174,ntmps174;go_wp2;go_ret
   simp_all
 have e:gW p n=false:=by grind [gW]
 rw[e];go_enter func174,ntmps174;go_wp2;go_ret
 simp_all
theorem tv :
  Calls prog 175 #[I p] w λe w'=>e=.returned (.bool (ni p))/\w=w':=by
 by_cases h1:0<=p
 . by_cases h2:p<=3
   . have e:ni p=true:=by grind [ni]
     rw[e];go_enter func175,ntmps175;go_wp2;go_ret
     simp_all
   have e:ni p=false:=by grind [ni]
   rw[e];go_enter func175,ntmps175;go_wp2;go_ret
   simp_all
 have e:ni p=false:=by grind [ni]
 rw[e];go_enter func175,ntmps175;go_wp2;go_ret
 simp_all
theorem TH (ap an Li bp bn bt:Int) (az bz:Bool) (w:World) (h1:-9223372036854775808<=ap+an) (h2:ap+an<=9223372036854775807) (he:bp=ap+an) :
  Calls prog 176 #[.agg #[I ap,I an,I Li,.bool az],.agg #[I bp,I bn,I bt,.bool bz]] w λe w'=>e=.returned (.bool (bt != Li || bz != az))/\Below w.heap.size w w':=by
 obtain⟨W,hW⟩:=ex ((w.alloc (.cells #[I ap,I an,I Li,.bool az] 139)).alloc (.cells #[I bp,I bn,I bt,.bool bz] 139));have hs:W.heap.size=w.heap.size+2:=by simp_all
 have Fs:=kf W;have b:=@fJ W;have c0:∀x:ed W.heap.size W,x.world.cell? (Ad w.heap.size 0)=some (I ap):=λx=>by rw[b x _ _ ω,hW];simp
 have c1:∀x:ed W.heap.size W,x.world.cell? (Ad w.heap.size 1)=some (I an):=λx=>by rw[b x _ _ ω,hW];simp
 have c2:∀x:ed W.heap.size W,x.world.cell? (Ad w.heap.size 2)=some (I Li):=λx=>by rw[b x _ _ ω,hW];simp
 have c3:∀x:ed W.heap.size W,x.world.cell? (Ad w.heap.size 3)=some (.bool az):=λx=>by rw[b x _ _ ω,hW];simp
 have d0:∀x:ed W.heap.size W,x.world.cell? (Ad (w.heap.size+1) 0)=some (I bp):=λx=>by simp_all
 have d2:∀x:ed W.heap.size W,x.world.cell? (Ad (w.heap.size+1) 2)=some (I bt):=λx=>by simp_all
 have d3:∀x:ed W.heap.size W,x.world.cell? (Ad (w.heap.size+1) 3)=some (.bool bz):=λx=>by simp_all
 have q:Hid (Below w.heap.size w W):=by show Below _ _ _;simp_all [aN,sI]
 have HW:Hid (W=(w.alloc (.cells #[I ap,I an,I Li,.bool az] 139)).alloc (.cells #[I bp,I bn,I bt,.bool bz] 139)):=hW;clear hW hs b;have hx:(bp==ap+an)=true:=by simp[he]
 clear he;go_enter func176,ntmps176;go_wp2_with fail;rw[<- HW.o];refine eT ρ κ ?_
 repeat (first | go_big_quiet_step ((go_at_call 128;exact iP (λW=>sG _ _ _ _ W h1 h2) _)) | quiet_step ((go_at_call 128;exact iP (λW=>sG _ _ _ _ W h1 h2) _)))
 refine mM ?_;intro _ A;obtain⟨x,y⟩:=A;subst y;go_wp2
 all_goals go_ret
 all_goals exact⟨by first | (simp[*];done) | (simp[*];grind),q.out.trans (x.keeps.mono q.out.size)⟩
theorem TG (ap an Li bp bn bt:Int) (az bz:Bool) (w:World) (h1:-9223372036854775808<=ap+an) (h2:ap+an<=9223372036854775807) (he:¬bp=ap+an) :
  Calls prog 176 #[.agg #[I ap,I an,I Li,.bool az],.agg #[I bp,I bn,I bt,.bool bz]] w λe w'=>e=.returned (.bool (decide (ap+an<bp)))/\Below w.heap.size w w':=by
 obtain⟨W,hW⟩:=ex ((w.alloc (.cells #[I ap,I an,I Li,.bool az] 139)).alloc (.cells #[I bp,I bn,I bt,.bool bz] 139));have hs:W.heap.size=w.heap.size+2:=by simp_all
 have Fs:=kf W;have b:=@fJ W;have c0:∀x:ed W.heap.size W,x.world.cell? (Ad w.heap.size 0)=some (I ap):=λx=>by rw[b x _ _ ω,hW];simp
 have c1:∀x:ed W.heap.size W,x.world.cell? (Ad w.heap.size 1)=some (I an):=λx=>by rw[b x _ _ ω,hW];simp
 have c2:∀x:ed W.heap.size W,x.world.cell? (Ad w.heap.size 2)=some (I Li):=λx=>by rw[b x _ _ ω,hW];simp
 have c3:∀x:ed W.heap.size W,x.world.cell? (Ad w.heap.size 3)=some (.bool az):=λx=>by rw[b x _ _ ω,hW];simp
 have d0:∀x:ed W.heap.size W,x.world.cell? (Ad (w.heap.size+1) 0)=some (I bp):=λx=>by simp_all
 have A:Hid (Below w.heap.size w W):=by show Below _ _ _;simp_all [aN,sI]
 have HW:Hid (W=(w.alloc (.cells #[I ap,I an,I Li,.bool az] 139)).alloc (.cells #[I bp,I bn,I bt,.bool bz] 139)):=hW;have G:Hid (w.heap.size+2<=W.heap.size):=by grind
 clear hW hs b;have hx:(bp==ap+an)=false:=by simp[he]
 clear he;go_enter func176,ntmps176;go_wp2_with fail;rw[<- HW.o];refine eT ρ κ ?_
 repeat (first | go_big_quiet_step ((go_at_call 128;exact iP (λW=>sG _ _ _ _ W h1 h2) _)) | quiet_step ((go_at_call 128;exact iP (λW=>sG _ _ _ _ W h1 h2) _)))
 refine mM ?_;intro _ B;obtain⟨x,q⟩:=B;subst q;have M:=c0 x;have N:=c1 x;have L:=c2 x;have O:=c3 x;have J:=d0 x;have F:Hid (w.heap.size+2<=x.world.heap.size):=eJ G.out x.keeps.size;have Ul:Hid (Below w.heap.size w x.world):=A.out.trans (x.keeps.mono A.out.size);clear HW c0 c1 c2 c3 d0 Fs A G;generalize x.world=V at M N L O J F Ul ⊢;have Fs:=kf V;have b:=@fJ V;have K:=F.out;have c0:∀x:ed V.heap.size V,x.world.cell? (Ad w.heap.size 0)=some (I ap):=λx=>by grind
 have c1:∀x:ed V.heap.size V,x.world.cell? (Ad w.heap.size 1)=some (I an):=λx=>by grind
 have c2:∀x:ed V.heap.size V,x.world.cell? (Ad w.heap.size 2)=some (I Li):=λx=>by grind
 have c3:∀x:ed V.heap.size V,x.world.cell? (Ad w.heap.size 3)=some (.bool az):=λx=>by grind
 have d0:∀x:ed V.heap.size V,x.world.cell? (Ad (w.heap.size+1) 0)=some (I bp):=λx=>by grind
 clear b K;go_wp2_with fail;refine eT ρ κ ?_
 repeat (first | go_big_quiet_step ((go_at_call 128;exact iP (λW=>sG _ _ _ _ W h1 h2) _)) | quiet_step ((go_at_call 128;exact iP (λW=>sG _ _ _ _ W h1 h2) _)))
 refine mM ?_;intro _ B;obtain⟨y,q⟩:=B;subst q;go_wp2;go_ret;exact⟨rfl,Ul.out.trans (y.keeps.mono Ul.out.size)⟩
theorem wJ (a b:aX) (w:World) (h1:-9223372036854775808<=a.page+a.aD) (h2:a.page+a.aD<=9223372036854775807) :
  Calls prog 176 #[.agg #[I a.page,I a.aD,I a.jP,.bool a.zero],.agg #[I b.page,I b.aD,I b.jP,.bool b.zero]] w λe w'=>e=.returned (.bool (nW a b))/\Below w.heap.size w w':=by
 unfold nW aX.zC;split
 . exact TH _ _ _ _ _ _ _ _ w h1 h2 ω
 exact TG _ _ _ _ _ _ _ _ w h1 h2 ω
theorem zZ {k:IntKind} {a b:Int} (h:a=b):Ending.returned (.int k a)=.returned (.int k b):=by rw[h]
theorem xm (l:List aX) (b off cap:Nat) (w:World) (hl:Ae w b off l) (hf:∀i,i<l.length->EJ (bw l i)) (hn:l.length<=140737488351232) :
  Calls prog 117 #[.slice (some (Ad b off)) l.length cap] w λe w'=>e=.returned (I (bj l))/\Below w.heap.size w w':=by
 by_cases hm:255<l.length
 . have e:bj l=2:=by grind [bj]
   rw[e];have Q:(255:Int)<(l.length:Int):=by omega
   go_enter func117,ntmps117;go_wp2;go_ret;exact⟨rfl,aN _ _⟩
 have Q:¬(255:Int)<(l.length:Int):=by omega
 have e:bj l=if wM l then 0 else 1:=by grind [bj]
 have E:Hid (bj l=if wM l then 0 else 1):=e;clear e;go_enter func117,ntmps117;go_wp2;go_loopw [10] (λi wr=>∃k:Nat,k<=l.length/\i=I k/\mv l k=true/\Below w.heap.size w wr) (λi _=>l.length-(intOf i).toNat)
 case atStart=>exact⟨0,ω,rfl,rfl,aN _ _⟩
 case round =>
  obtain⟨k,hk,rfl,hg,hb⟩:=hrel;have HG:Hid (mv l k=true):=hg;clear hg;by_cases hlt:k<l.length
  . obtain⟨c0,c1,c2,c3⟩:=(hl.below hb) k hlt;obtain⟨f1,f2,f3⟩:=hf k hlt;obtain⟨a,ha⟩:=ex (bw l k);rw[<- ha] at c0 c1 c2 c3 f1 f2 f3;have HA:Hid (a=bw l k):=ha;clear ha;by_cases hp:gW a.page a.aD=true
    . by_cases hq:ni a.jP=true
      . obtain⟨W,hW⟩:=ex (wr.alloc (.cells #[I a.page,I a.aD,I a.jP,.bool a.zero] 139));have hs:W.heap.size=wr.heap.size+1:=by rw[hW];simp
        have y:Hid (Below w.heap.size w W):=by show Below _ _ _;rw[hW];exact hb.alloc hb.size _
        by_cases ZL:k=0
        . have J:Hid (pF l k=true):=by show _=true;unfold pF;rw[<- HA.o,hp,hq,ZL];rfl
          have z2:decide (0<k)=false:=by simp;omega
          clear ZL;go_wp2_with (first | (go_at_call 174;refine(pE _ _ _ f1 f2).mono ?_;rintro e w' ⟨rfl,rfl⟩) | (go_at_call 175;refine(tv _ _).mono ?_;rintro e w' ⟨rfl,rfl⟩))
          go_quiet (fail)
          go_wp2;go_roundw
          case rel=>exact⟨k+1,ω,by go_num,Xp l k HG.o J.out,xq (hb.alloc hb.size _) _⟩
          case measure=>simp[intOf];omega
        have Fs:=kf W;have q:=@fJ W;have M:=hl.below y.out;have G:=M.lt k hlt;obtain⟨g0,g1,g2,g3⟩:=M (k-1) ω;obtain⟨R,Y,U⟩:=hf (k-1) ω;obtain⟨p,K⟩:=ex (bw l (k-1));rw[<- K] at g0 g1 g2 g3 R Y U;have F:=Ic l k HG.o (k-1) ω;have N:gW p.page p.aD=true:=by
         unfold pF at F;rw[<- K] at F;simp only[cK] at F;exact F.1.1
        have Z:1<=p.page/\1<=p.aD/\p.aD<=256-p.page:=by simpa [gW] using N
        have J:Hid (pF l k=nW p a):=by show _=_;unfold pF;rw[<- HA.o,<- K,hp,hq];simp[ZL]
        have k0:∀x:ed W.heap.size W,x.world.cell? ⟨b,off+(k-1)*4,none⟩=some (I p.page):=λx=>by rw[q x _ _ G,g0]
        have k1:∀x:ed W.heap.size W,x.world.cell? ⟨b,off+(k-1)*4+1,none⟩=some (I p.aD):=λx=>by rw[q x _ _ G,g1]
        have k2:∀x:ed W.heap.size W,x.world.cell? ⟨b,off+(k-1)*4+2,none⟩=some (I p.jP):=λx=>by rw[q x _ _ G,g2]
        have k3:∀x:ed W.heap.size W,x.world.cell? ⟨b,off+(k-1)*4+3,none⟩=some (.bool p.zero):=λx=>by rw[q x _ _ G,g3]
        have e0:∀x:ed W.heap.size W,x.world.cell? (Ad wr.heap.size 0)=some (I a.page):=λx=>by rw[q x _ _ ω,hW];simp
        have e1:∀x:ed W.heap.size W,x.world.cell? (Ad wr.heap.size 1)=some (I a.aD):=λx=>by rw[q x _ _ ω,hW];simp
        have e2:∀x:ed W.heap.size W,x.world.cell? (Ad wr.heap.size 2)=some (I a.jP):=λx=>by rw[q x _ _ ω,hW];simp
        have e3:∀x:ed W.heap.size W,x.world.cell? (Ad wr.heap.size 3)=some (.bool a.zero):=λx=>by rw[q x _ _ ω,hW];simp
        have HW:Hid (W=wr.alloc (.cells #[I a.page,I a.aD,I a.jP,.bool a.zero] 139)):=hW;have a1:(1:Int)<=(k:Int):=by omega
        have a0:0<k:=by omega
        clear hW hs q M G g0 g1 g2 g3 K F N hl;by_cases hfo:nW p a=true
        . go_wp2_with (first | (go_at_call 174;refine(pE _ _ _ f1 f2).mono ?_;rintro e w' ⟨rfl,rfl⟩) | (go_at_call 175;refine(tv _ _).mono ?_;rintro e w' ⟨rfl,rfl⟩))
          rw[<- HW.o];refine eT κ κ ?_
          repeat (first | go_big_quiet_step ((go_at_call 176;exact iP (λW=>wJ p a W ω ω) _)) | quiet_step ((go_at_call 176;exact iP (λW=>wJ p a W ω ω) _)))
          refine mM ?_;intro _ L;obtain⟨x,B⟩:=L;subst B;go_wp2;go_roundw
          case rel=>exact⟨k+1,ω,by go_num,Xp l k HG.o (J.out.trans hfo),y.out.trans (x.keeps.mono y.out.size)⟩
          case measure=>simp[intOf];omega
        have X:nW p a=false:=by simpa using hfo
        clear hfo;go_wp2_with (first | (go_at_call 174;refine(pE _ _ _ f1 f2).mono ?_;rintro e w' ⟨rfl,rfl⟩) | (go_at_call 175;refine(tv _ _).mono ?_;rintro e w' ⟨rfl,rfl⟩));rw[<- HW.o];refine eT κ κ ?_
        repeat (first | go_big_quiet_step ((go_at_call 176;exact iP (λW=>wJ p a W ω ω) _)) | quiet_step ((go_at_call 176;exact iP (λW=>wJ p a W ω ω) _)))
        refine mM ?_;intro _ L;obtain⟨x,B⟩:=L;subst B;go_wp2;go_ret;exact⟨zZ (by rw[E.o,Rf l k hlt (J.out.trans X)];rfl),y.out.trans (x.keeps.mono y.out.size)⟩
      have T:ni a.jP=false:=by simpa using hq
      clear hq;have A:Hid (pF l k=false):=by show _=false;unfold pF;rw[<- HA.o,hp,T];rfl
      go_wp2_with (first | (go_at_call 174;refine(pE _ _ _ f1 f2).mono ?_;rintro e w' ⟨rfl,rfl⟩) | (go_at_call 175;refine(tv _ _).mono ?_;rintro e w' ⟨rfl,rfl⟩))
      go_ret;exact⟨zZ (by rw[E.o,Rf l k hlt A.out];rfl),hb.alloc hb.size _⟩
    have O:gW a.page a.aD=false:=by simpa using hp
    clear hp;have A:Hid (pF l k=false):=by show _=false;unfold pF;rw[<- HA.o,O];rfl
    go_wp2_with (first | (go_at_call 174;refine(pE _ _ _ f1 f2).mono ?_;rintro e w' ⟨rfl,rfl⟩))
    go_ret;exact⟨zZ (by rw[E.o,Rf l k hlt A.out];rfl),hb.alloc hb.size _⟩
  obtain rfl:k=l.length:=by omega
  go_wp2;go_ret;exact⟨zZ (by rw[E.o,show wM l=true from HG.o];rfl),hb⟩
theorem Ia :
  Calls prog 117 #[.slice ao 0 cap] w λe w'=>e=.returned (I (bj []))/\Below w.heap.size w w':=by
 have e:bj []=0:=by decide
 rw[e];go_enter func117,ntmps117;go_wp2;refine NH 1 ?_;rw[Nv];go_wp2;go_ret;exact⟨rfl,aN _ _⟩
theorem ZC (l:List aX) (b off cap:Nat) (w:World) (hl:Ae w b off l) (hf:∀i,i<l.length->EJ (bw l i)) (hn:l.length<=140737488351232) :
  Calls prog 70 #[.slice (some (Ad b off)) l.length cap] w λe w'=>e=.returned (I (bf l))/\Below w.heap.size w w':=by
 by_cases hc:bj l=0
 . have B:=jF l hc;have HC:Hid (bf l=mL l l.length):=by show _=_;grind [bf]
   have HK:Hid (bj l=0):=hc;go_enter func70,ntmps70;go_wp2_with fail;refine(xm l b off cap _ hl hf hn).mono ?_;rintro e w1 ⟨rfl,q⟩;rw[hc];clear hc;go_wp2;go_loopw [3,11] (λs i wr=>∃k:Nat,k<=l.length/\i=I k/\s=I (mL l k)/\Below w.heap.size w wr) (λ_ i _=>l.length-(intOf i).toNat)
   case atStart=>exact⟨0,ω,rfl,rfl,q⟩
   case round =>
    obtain⟨k,hk,rfl,rfl,hb⟩:=hrel;have XM:=EI l HK.o k hk;by_cases hlt:k<l.length
    . obtain⟨c0,c1,c2,c3⟩:=(hl.below hb) k hlt;have y:Hid (mL l (k+1)=mL l k+(bw l k).aD):=rfl;have A:=ig l k (gP l HK.o k hlt);generalize bw l k=a at c0 c1 c2 c3 y A;go_wp2;go_roundw
      case rel=>exact⟨k+1,ω,by go_num,by rw[y.out],hb.alloc hb.size _⟩
      case measure=>simp[intOf];omega
    obtain rfl:k=l.length:=by omega
    go_wp2;go_ret;exact⟨zZ HC.o.symm,hb⟩
 have HC:Hid (bf l=0):=by show _=_;grind [bf]
 have F:(bj l != 0)=true:=by grind
 go_enter func70,ntmps70;go_wp2_with fail;refine(xm l b off cap _ hl hf hn).mono ?_;rintro e w1 ⟨rfl,q⟩;go_wp2;go_ret;exact⟨zZ HC.o.symm,q⟩
theorem adt :
  Calls prog 70 #[.slice ao 0 cap] w λe w'=>e=.returned (I (bf []))/\Below w.heap.size w w':=by
 have e:bf []=0:=by decide
 have e2:bj []=0:=by decide
 rw[e];go_enter func70,ntmps70;go_wp2_with fail;refine(Ia ao cap _).mono ?_;rintro e w1 ⟨rfl,b⟩;rw[e2];go_wp2;refine NH 1 ?_;rw[Nv];go_wp2;go_ret
 simp_all
def pI (a:aX):Array Value:=#[I a.page,I a.aD,I a.jP,.bool a.zero]
theorem adv (l:List aX) (b off cap:Nat) (p:Int) (w:World) (hl:Ae w b off l) (hf:∀i,i<l.length->EJ (bw l i)) (hn:l.length<=140737488351232) :
  Calls prog 77 #[.slice (some (Ad b off)) l.length cap,I p] w λe w'=>e=.returned (.tuple #[.agg (pI (aV l p).1),.bool (aV l p).2])/\Below w.heap.size w w':=by
 have G:Below w.heap.size w (w.alloc (.cells #[I 0,I 0,I 0,.bool false] 139)):=(aN _ _).alloc (aK _) _;by_cases hc:bj l=0
 . have N:=jF l hc;have HC:Hid (aV l p=b6 l p):=by show _=_;grind [aV]
   have HK:Hid (bj l=0):=hc;go_enter func77,ntmps77;go_wp2_with fail;refine(xm l b off cap _ (hl.below G) hf hn).mono ?_;rintro e w1 ⟨rfl,B⟩;rw[hc];clear hc;go_wp2;go_loopw [14] (λi wr=>∃k:Nat,k<=l.length/\i=I k/\(∀j,j<k->jt (bw l j) p=false)/\Below (w.heap.size+1) (w.alloc (.cells #[I 0,I 0,I 0,.bool false] 139)) wr) (λi _=>l.length-(intOf i).toNat)
   case atStart=>exact⟨0,ω,rfl,λj hj=>ω,B.mono ξ⟩
   case round =>
    obtain⟨k,hk,rfl,K,hb⟩:=hrel;have HN:Hid (∀j,j<k->jt (bw l j) p=false):=K;have zE:Hid (Below w.heap.size w wr):=G.trans (hb.mono (qI _));have Q:w.heap.size+1<=wr.heap.size:=by have:=hb.size;simpa using this
    have L:=hl.below zE.out;have hR:wr.heap[w.heap.size]?=some (.cells #[I 0,I 0,I 0,.bool false] 139 (0,0)):=aU (bH w _ _) hb (T3 _);have HR:Hid (wr.heap[w.heap.size]?=some (.cells #[I 0,I 0,I 0,.bool false] 139 (0,0))):=hR;have HB:Hid (Below (w.heap.size+1) (w.alloc (.cells #[I 0,I 0,I 0,.bool false] 139)) wr):=hb;clear hR hb;clear K B;by_cases hlt:k<l.length
    . obtain⟨c0,c1,c2,c3⟩:=L k hlt;have M:=ig l k (gP l HK.o k hlt);obtain⟨a,ha⟩:=ex (bw l k);rw[<- ha] at c0 c1 c2 c3 M;have HA:Hid (a=bw l k):=ha;clear ha;by_cases h1:a.page<=p
      . by_cases h2:p<a.page+a.aD
        . have A:Hid (aV l p=(a,true)):=by
           show _=_;rw[HC.o,vJ l p k hlt HN.o (by rw[<- HA.o];simp[jt,aX.zC,h1,h2]),<- HA.o]
          go_wp2_with fail
          refine(sG _ _ _ _ _ ω ω).mono ?_;rintro e w2 ⟨rfl,q⟩;have F:=aU (bH wr #[I a.page,I a.aD,I a.jP,.bool a.zero] 139) q ξ;have y:=aU (bu HR.o _) q (by simp;omega);have s0:=aA F 0 rfl;have s1:=aA F 1 rfl;have s2:=aA F 2 rfl;have s3:=aA F 3 rfl;have t0:=aA y 0 rfl;have t1:=aA y 1 rfl;have t2:=aA y 2 rfl;have t3:=aA y 3 rfl;have u0:=bG y;have J:Hid (Below w.heap.size w w2):=(zE.out.alloc zE.out.size _).trans (q.mono (by simp;omega));clear q F y;go_wp2;exact b9 (v:=.tuple #[.agg #[I a.page,I a.aD,I a.jP,.bool a.zero],.bool true]) (by simp[results,results77,go_sem,t0,t1,t2,t3]) rfl ⟨by rw[A.out];rfl,(((J.out.setCell (aK _) _).setCell (aK _) _).setCell (aK _) _).setCell (aK _) _⟩
        have Rk:Hid (jt (bw l k) p=false):=by show _=_;rw[<- HA.o];unfold jt aX.zC;grind
        go_wp2_with fail
        refine(sG _ _ _ _ _ ω ω).mono ?_;rintro e w2 ⟨rfl,q⟩;have J:Hid (Below (w.heap.size+1) (w.alloc (.cells #[I 0,I 0,I 0,.bool false] 139)) w2):=(HB.o.alloc ω _).trans (q.mono (by simp;omega));clear q;go_wp2;go_roundw
        case rel=>exact⟨k+1,ω,by go_num,λj hj=>if e:j=k then by rw[e];exact Rk.out else HN.o j ω,J.out⟩
        case measure=>simp[intOf];omega
      have Rk:Hid (jt (bw l k) p=false):=by show _=_;rw[<- HA.o];unfold jt aX.zC;grind
      go_wp2;go_roundw
      case rel=>exact⟨k+1,ω,by go_num,λj hj=>if e:j=k then by rw[e];exact Rk.out else HN.o j ω,HB.o.alloc ω _⟩
      case measure=>simp[intOf];omega
    obtain rfl:k=l.length:=by omega
    have A:Hid (aV l p=(Ab,false)):=by show _=_;rw[HC.o,wN l p HN.o]
    have t0:=aA HR.o 0 rfl;have t1:=aA HR.o 1 rfl;have t2:=aA HR.o 2 rfl;have t3:=aA HR.o 3 rfl;have u0:=bG HR.o;go_wp2;exact b9 (v:=.tuple #[.agg #[I 0,I 0,I 0,.bool false],.bool false]) (by simp[results,results77,go_sem,t0,t1,t2,t3]) rfl ⟨by rw[A.out];rfl,(((zE.out.setCell (aK _) _).setCell (aK _) _).setCell (aK _) _).setCell (aK _) _⟩
 have HC:Hid (aV l p=(Ab,false)):=by show _=_;grind [aV]
 have O:(bj l != 0)=true:=by grind
 go_enter func77,ntmps77;go_wp2_with fail;refine(xm l b off cap _ (hl.below G) hf hn).mono ?_;rintro e w1 ⟨rfl,B⟩;have Qg:=aU (bH w #[I 0,I 0,I 0,.bool false] 139) B ξ;have t0:=aA Qg 0 rfl;have t1:=aA Qg 1 rfl;have t2:=aA Qg 2 rfl;have t3:=aA Qg 3 rfl;have u0:=bG Qg;clear Qg;go_wp2;exact b9 (v:=.tuple #[.agg #[I 0,I 0,I 0,.bool false],.bool false]) (by simp[results,results77,go_sem,t0,t1,t2,t3]) rfl ⟨by rw[HC.o];rfl,((((G.trans (B.mono ξ)).setCell (aK _) _).setCell (aK _) _).setCell (aK _) _).setCell (aK _) _⟩
theorem agt :
  Calls prog 77 #[.slice ao 0 cap,I p] w λe w'=>e=.returned (.tuple #[.agg (pI (aV [] p).1),.bool (aV [] p).2])/\Below w.heap.size w w':=by
 have q:Below w.heap.size w (w.alloc (.cells #[I 0,I 0,I 0,.bool false] 139)):=(aN _ _).alloc (aK _) _;have e2:bj []=0:=by decide
 go_enter func77,ntmps77;go_wp2_with fail;refine(Ia ao cap _).mono ?_;rintro e w1 ⟨rfl,b⟩;rw[e2];have Qg:=aU (bH w #[I 0,I 0,I 0,.bool false] 139) b ξ;have t0:=aA Qg 0 rfl;have t1:=aA Qg 1 rfl;have t2:=aA Qg 2 rfl;have t3:=aA Qg 3 rfl;have u0:=bG Qg;clear Qg;go_wp2;refine NH 1 ?_;rw[Nv];go_wp2;exact b9 (v:=.tuple #[.agg #[I 0,I 0,I 0,.bool false],.bool false]) (by simp[results,results77,go_sem,t0,t1,t2,t3]) rfl ⟨rfl,((((q.trans (b.mono ξ)).setCell (aK _) _).setCell (aK _) _).setCell (aK _) _).setCell (aK _) _⟩
end Go.Proofs.YtlgoihmkgaaemaaGreat
