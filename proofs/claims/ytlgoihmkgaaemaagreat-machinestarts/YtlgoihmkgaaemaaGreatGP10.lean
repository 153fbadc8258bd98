import Derived.Test.YtlgoihmkgaaemaaGreatGP09
set_option maxHeartbeats 20000000
set_option linter.unusedVariables false
set_option maxRecDepth 100000
set_option linter.unusedSimpArgs false
namespace Go.Proofs.YtlgoihmkgaaemaaGreat
open Go.RowKit Tryz
def oh (w:World) (ao:Option Addr) (m:Nat) (news:List Value):Prop:=0<m->∃ad,ao=some ad/\∀j u,news[j]?=some u->w.cell? (ad.add j)=some u
variable {w':World} {ao:Option Addr} (s:ByteArray) (w:World)
theorem oh.below {w:World} {m:Nat} {news:List Value} (h:oh w ao m news) (hb:Below w.heap.size w w'):oh w' ao m news:=λhm=>by
 obtain⟨ad,e,hc⟩:=h hm
 grind [World.block_lt_of_cell?,Below.cell]
theorem VY:(prog.info? 139).map (λi=>(i.zero,i.size,i.bytes))=some (some (.agg #[I 0,I 0,I 0,.bool false]),4,32):=by rfl
theorem DJ:(prog.info? 174).map (λi=>(i.zero,i.size,i.bytes))=some (some (.agg #[I 0,I 0,I 0]),3,24):=by rfl
theorem VX:(prog.info? 169).map (λi=>(i.zero,i.size,i.bytes))=some (some (.agg #[.string ⟨#[]⟩,I 0,.bool false,.bool false]),4,32):=by rfl
theorem VT:(prog.info? 171).map (λi=>(i.zero,i.size,i.bytes))=some (some (.agg #[.string ⟨#[]⟩,I 0]),2,24):=by rfl
theorem VU:(prog.info? 145).map (λi=>(i.zero,i.size,i.bytes))=some (some (.agg #[I 0,.string ⟨#[]⟩,Nl]),3,48):=by rfl
theorem VW:(prog.info? 226).map (λi=>(i.zero,i.size,i.bytes))=some (some (.agg #[I 0,.string ⟨#[]⟩]),2,24):=by rfl
theorem Nw:(prog.info? 3).map (λi=>(i.zero,i.size,i.bytes))=some (some (I 0),1,8):=by rfl
theorem VV:(prog.info? 77).map (λi=>(i.zero,i.size,i.bytes))=some (some (.agg #[I 0,I 0,I 0,I 0,I 0,I 0,I 0,I 0,I 0,I 0,I 0,I 0,I 0]),13,104):=by rfl
theorem VR:(prog.info? 91).map (λi=>(i.zero,i.size,i.bytes))=some (some (.agg #[I 0,I 0]),2,16):=by rfl
theorem oM (F T E K B:Nat) {Z:Value} (hF:(F,T,E,K,B)∈[(71,22,139,4,32),(188,97,174,3,24),(132,26,169,4,32),(133,27,171,2,24),(131,23,145,3,48),(134,143,226,2,24),(294,48,3,1,8),(214,140,148,2,24),(94,31,77,13,104),(95,32,91,2,16)]) (hI:(prog.info? E).map (λi=>(i.zero,i.size,i.bytes))=some (some Z,K,B)) (hZ:Z.cells.size=K) (ao:Option Addr) (n c:Nat) (xs:List Value) (w:World) (hl:xs.length=n*K) (h:oh w ao n xs) (h1:∀u∈xs,u.oneCell'=true) (hn:n<=1000000) :
  Calls prog F #[.slice ao n c] w λe w'=>∃v,e=.returned v/\w'.ownsRow w.heap.size E K v n xs/\Below w.heap.size w w':=by
 obtain⟨i0,A,J,G,r⟩:=mQ hI;have HH:=ai h;have HL:=ai hl;have H1:=ai h1;have PE:=ai A;have L:=ai J;have ZA:=ai G;have Ih:=ai r;have hu:prog.underlying T=some (TypeDesc.slice E):=by
  simp only[rC,Prod.mk.injEq,zF,Hf] at hF;rcases hF with⟨_,rfl,rfl,_⟩ | ⟨_,rfl,rfl,_⟩ | ⟨_,rfl,rfl,_⟩ | ⟨_,rfl,rfl,_⟩ | ⟨_,rfl,rfl,_⟩ | ⟨_,rfl,rfl,_⟩ | ⟨_,rfl,rfl,_⟩ | ⟨_,rfl,rfl,_⟩ | ⟨_,rfl,rfl,_⟩ | ⟨_,rfl,rfl,_⟩ <;> first | exact underlying22 | exact underlying97 | exact underlying26 | exact underlying27 | exact underlying23 | exact underlying143 | exact underlying48 | exact underlying140 | exact underlying31 | exact underlying32
 have q:=ai λ(w:World) (a:Option Addr) (n c n' c':Nat)=>Lib.run_eql_slice_nil (P:=prog) w T E a n c n' c' hu
 have HU:=ai hu;have hN:ao=none->n=0/\xs=[]:=λe=>by
  have h0:n=0:=by
   by_cases g:0<n
   . obtain⟨ad,e',_⟩:=h g;rw[e] at e';cases e'
   omega
  exact⟨h0,mR (by rw[hl,h0,Nat.zero_mul])⟩
 clear h hl h1 hI A J G r hu;simp only[rC,Prod.mk.injEq,zF,Hf] at hF;rcases hF with⟨rfl,rfl,rfl,rfl,rfl⟩ | ⟨rfl,rfl,rfl,rfl,rfl⟩ | ⟨rfl,rfl,rfl,rfl,rfl⟩ | ⟨rfl,rfl,rfl,rfl,rfl⟩ | ⟨rfl,rfl,rfl,rfl,rfl⟩ | ⟨rfl,rfl,rfl,rfl,rfl⟩ | ⟨rfl,rfl,rfl,rfl,rfl⟩ | ⟨rfl,rfl,rfl,rfl,rfl⟩ | ⟨rfl,rfl,rfl,rfl,rfl⟩ | ⟨rfl,rfl,rfl,rfl,rfl⟩
 all_goals
  have q:=q.out;cases ao with
  | none =>
   obtain⟨rfl,rfl⟩:=hN rfl;clear HH HL H1 PE L ZA Ih hN
   (first | go_enter func71,ntmps71 | go_enter func188,ntmps188 | go_enter func132,ntmps132 | go_enter func133,ntmps133 | go_enter func131,ntmps131 | go_enter func134,ntmps134 | go_enter func294,ntmps294 | go_enter func214,ntmps214 | go_enter func94,ntmps94 | go_enter func95,ntmps95)
   go_wp2;go_ret;exact⟨_,rfl,nt _ _ _ _,aN _ _⟩
  | some ad =>
   clear hN
   (first | go_enter func71,ntmps71 | go_enter func188,ntmps188 | go_enter func132,ntmps132 | go_enter func133,ntmps133 | go_enter func131,ntmps131 | go_enter func134,ntmps134 | go_enter func294,ntmps294 | go_enter func214,ntmps214 | go_enter func94,ntmps94 | go_enter func95,ntmps95)
   go_wp2_with (at_builtin;refine qm (P:=prog) rfl _ _ _ rfl w.heap.size _ i0 Z _ _ HU.o PE.o L.o ZA.o Ih.o hZ Δ (.slice (some (Ad w.heap.size 0)) 0 0) 0 [] ρ (World.ownsRow_made w #[] 0 (aJ _) ω ξ) (some ad) n c xs ρ HL.o ((HH.o.below ((aN _ _).alloc (aJ _) _))) H1.o (by grind [maxLen]) ω ξ ?_;intro v' w' b M O;have y:=ai b;have N:=ai M;clear b M O)
   go_ret;have b:=y.o;rw[mi] at b;exact⟨_,rfl,b,((aN _ _).alloc (aJ _) _).grown N.o ξ (λk hk=>by grind [Value.ownBlock])⟩
abbrev aev:=@oM 71 22 139 4 32 _ ξ VY rfl
abbrev aeu:=@oM 188 97 174 3 24 _ ξ DJ rfl
abbrev aet:=@oM 132 26 169 4 32 _ ξ VX rfl
abbrev aeo:=@oM 133 27 171 2 24 _ ξ VT rfl
abbrev aep:=@oM 131 23 145 3 48 _ ξ VU rfl
abbrev aes:=@oM 134 143 226 2 24 _ ξ VW rfl
abbrev aer:=@oM 294 48 3 1 8 _ ξ Nw rfl
abbrev aeq:=@oM 94 31 77 13 104 _ ξ VV rfl
abbrev aen:=@oM 95 32 91 2 16 _ ξ VR rfl
theorem Iu:Below w.heap.size w w.drew:=⟨rfl,rfl,rfl,aJ _,λ_ _=>rfl⟩
theorem ij {a b:Bool} (h:a=b):Ending.returned (.bool a)=.returned (.bool b):=by rw[h]
theorem B0 (s:bD) (w:World) (h:mS w s.ao s.df) (hf:ym s) :
  Calls prog 122 #[.agg (pT s)] w λe w'=>e=.returned (.bool (cK s))/\Below w.heap.size w w':=by
 obtain⟨f1,f2,f3,f4⟩:=hf;obtain⟨pg,dt,fs,ao,cap⟩:=s;simp only at f1 f2 f3 f4;unfold cR at f1;unfold bM at f2 f3;simp only[pT];have F4:=aB f4;have HH:=aB h;clear f4 h;have HB:=aB ((aN w.heap.size w).alloc (aJ _) (.cells #[I pg,.string dt,.slice ao fs.length cap] 145));by_cases h1:pg<1
 . have e:cK ⟨pg,dt,fs,ao,cap⟩=false:=by
    grind [cK,lW]
   rw[e];go_enter func122,ntmps122;go_wp2;go_ret;exact⟨rfl,HB.o⟩
 by_cases h2:255<pg
 . have e:cK ⟨pg,dt,fs,ao,cap⟩=false:=by
    grind [cK,lW]
   rw[e];go_enter func122,ntmps122;go_wp2;go_ret;exact⟨rfl,HB.o⟩
 by_cases h3:dt.size=16
 . have A:(dt.size:Int)=16:=by omega
   have e:lW ⟨pg,dt,fs,ao,cap⟩=true:=by
    grind [lW]
   have E:Hid (cK ⟨pg,dt,fs,ao,cap⟩=dK fs fs.length):=by
    show _=_
    grind [cK]
   clear e h3;go_enter func122,ntmps122;go_wp2;go_loopw [23,3] (λi en wr=>∃k:Nat,k<=fs.length/\i=I k/\en=I (ow fs k)/\dK fs k=true/\Below w.heap.size w wr) (λi _ _=>fs.length-(intOf i).toNat)
   case atStart=>exact⟨0,ω,rfl,rfl,rfl,HB.o⟩
   case round =>
    obtain⟨k,hk,rfl,rfl,hg,hb⟩:=hrel;have HG:=aB hg;have pI:=aB hb;clear hg;by_cases hlt:k<fs.length
    . obtain⟨b,off,y,F,dZ⟩:=(HH.o.below hb) ω;subst y;obtain⟨c0,c1⟩:=dZ k hlt;obtain⟨g1,g2⟩:=F4.o k hlt;have B:=oO fs k HG.o;obtain⟨f,r⟩:=ex (l8 fs k);rw[<- r] at c0 c1 g1 g2;unfold cR at g1;unfold bM at g2;have Ti:=aB r;clear r dZ hb;obtain⟨en,q⟩:=ex (ow fs k);rw[<- q] at B;have vt:=aB q;rw[<- q];clear q;have jo:=aB (pI.o.alloc pI.o.size (.cells #[I f.off,.string f.bytes] 226));by_cases q1:f.off<en
      . have HX:Hid (dK fs fs.length=false):=tW fs k hlt (by rw[<- Ti.o,<- vt.o];exact xK ω);go_wp2;go_ret;exact⟨ij (by rw[E.o,HX.o]),jo.o⟩
      by_cases q2:16<f.off
      . have HX:Hid (dK fs fs.length=false):=tW fs k hlt (by rw[<- Ti.o,<- vt.o];exact xK ω);go_wp2;go_ret;exact⟨ij (by rw[E.o,HX.o]),jo.o⟩
      by_cases q3:(f.bytes.size:Int)<1
      . have HX:Hid (dK fs fs.length=false):=tW fs k hlt (by rw[<- Ti.o,<- vt.o];exact xK ω);go_wp2;go_ret;exact⟨ij (by rw[E.o,HX.o]),jo.o⟩
      by_cases q4:16-f.off<(f.bytes.size:Int)
      . have HX:Hid (dK fs fs.length=false):=tW fs k hlt (by rw[<- Ti.o,<- vt.o];exact xK ω);go_wp2;go_ret;exact⟨ij (by rw[E.o,HX.o]),jo.o⟩
      have HX:Hid (dK fs (k+1)=true):=by
       show _=_;simp only[dK,cV];exact⟨HG.o,by rw[<- Ti.o,<- vt.o];exact(vK _ _).2 ω⟩
      have HY:Hid (ow fs (k+1)=f.off+(f.bytes.size:Int)):=by show _=_;simp only[ow];rw[<- Ti.o]
      go_wp2;go_roundw
      case rel=>exact⟨k+1,ω,by go_num,by rw[HY.o],HX.o,jo.o⟩
      case measure=>simp[intOf];omega
    obtain rfl:k=fs.length:=by omega
    go_wp2;go_ret;exact⟨ij (by rw[E.o,HG.o]),pI.o⟩
 have e:cK ⟨pg,dt,fs,ao,cap⟩=false:=by
  grind [cK,lW]
 have A:((dt.size:Int)==16)=false:=by grind
 rw[e];go_enter func122,ntmps122;go_wp2;go_ret;exact⟨rfl,HB.o⟩
theorem J4 {k:IntKind} {a b:Int} (h:a=b):Value.int k a=.int k b:=by rw[h]
theorem DK (n:Int) (w:World) (h1:1<=n) (h2:n<=8) :
  Calls prog 203 #[I n] w λe w'=>e=.returned (.bool true)/\w=w':=by
 go_enter func203,ntmps203;go_wp2;go_ret
 simp_all
theorem PN (n:Int) (w:World) (h1:n<1\/8<n) :
  Calls prog 203 #[I n] w λe w'=>e=.returned (.bool false)/\w=w':=by
 rcases h1 with h | h
 . go_enter func203,ntmps203;go_wp2;go_ret
   simp_all
 have h':1<=n:=by omega
 have b:decide (n<=8)=false:=by grind
 go_enter func203,ntmps203;go_wp2;go_ret
 simp_all
theorem agS (hs:s.size<=maxLen) (h1:(s.size:Int)<1\/8<(s.size:Int)) :
  Calls prog 195 #[.string s] w λe w'=>e=.returned (.tuple #[I 0,I 3])/\w=w':=by
 unfold maxLen at hs;go_enter func195,ntmps195;go_wp2_with (go_at_call 203;refine(PN _ _ h1).mono ?_;rintro e w' ⟨rfl,rfl⟩)
 go_ret2
 exact⟨rfl,rfl⟩
theorem SK (h1:1<=s.size) (h2:s.size<=8) :
  Calls prog 195 #[.string s] w λe w'=>e=.returned (.tuple #[I (wrap64 (Lib.leNat s.data.toList)),I 0])/\w=w':=by
 go_enter func195,ntmps195;go_wp2_with (go_at_call 203;refine(DK _ _ ω ω).mono ?_;rintro e w' ⟨rfl,rfl⟩)
 go_loop [4,5] (λn i=>∃k:Nat,k<=s.size/\i=I ((k:Int)-1)/\n=.int .u64 (Lib.leNat (s.data.toList.drop k))) (λ_ i=>(intOf i+1).toNat)
 case atStart=>exact⟨s.size,aJ _,rfl,by rw[List.drop_of_length_le (by rw[<- Lib.size_eq];exact aJ _)];rfl⟩
 case round =>
  obtain⟨k,hk,rfl,rfl⟩:=hrel;by_cases hlt:0<k
  . go_wp2
    go_round
    case rel =>
     refine⟨k-1,ω,J4 ω,J4 ?_⟩;have hb:s[k-1].toNat<256:=s[k-1].toNat_lt;rw[UR s k hlt hk,agT _ _ ω (by have:=Zh (s.data.toList.drop k) (by rw[Qm,<- Lib.size_eq];omega);omega) ω ω]
    case measure=>simp[intOf];omega
  obtain rfl:k=0:=by omega
  go_wp2
  go_ret2
  exact⟨rfl,rfl⟩
theorem Mu (n:Int) (size:Nat) (w:World) (h2:size<=8) :
  Calls prog 58 #[I n,I size] w λe w'=>e=.returned (.string ⟨(Lib.leBytes size (mP n)).toArray⟩)/\Below w.heap.size w w':=by
 go_enter func58,ntmps58;go_wp2;go_loopw [0,5,6] (λt s i wr=>∃k:Nat,k<=size/\i=I k/\t=I (zn n k)/\s=.string ⟨(Lib.leBytes k (mP n)).toArray⟩/\Below w.heap.size w wr) (λ_ _ i _=>size-(intOf i).toNat)
 case atStart=>exact⟨0,ω,rfl,by rw[abV],rfl,aN _ _⟩
 case round =>
  obtain⟨k,hk,rfl,rfl,rfl,hb⟩:=hrel;by_cases hlt:k<size
  . have b:(convert 203 9 (.slice (some (Ad wr.heap.size 0)) 1 1)).run prog (wr.alloc (.cells #[.int .u8 (zn n k%256)] 5))=.ok (.string ⟨#[(mP n/256 ^ k%256).toUInt8]⟩) (wr.alloc (.cells #[.int .u8 (zn n k%256)] 5)):=by
     rw[<- Mv n k ω];refine Kw _ 203 5 underlying203 underlying5 _ 0 1 1 [zn n k%256] rfl ?_ 9 underlying9
     simp_all
    have hl:(Lib.leBytes k (mP n)).length=k:=Lib.leBytes_length _ _;have HN:Hid (Lib.leBytes (k+1) (mP n)=Lib.leBytes k (mP n)++[(mP n/256 ^ k%256).toUInt8]):=zo _ _;go_wp2;go_roundw
    case rel=>grind [abW,Zg,Hid.o,Below.alloc,Below.size]
    grind [intOf]
  obtain rfl:k=size:=by omega
  go_wp2;go_ret
  simp_all
theorem SJ:(prog.info? 5).map (λi=>(i.zero,i.size,i.bytes))=some (some (.int .u8 0),1,1):=by rfl
theorem aeI (n:Int) (size:Nat) (w:World) (h1:1<=size) (h2:size<=8) :
  Calls prog 169 #[I n,I size] w λe w'=>e=.returned (.tuple #[.string ⟨(Lib.leBytes size (mP n)).toArray⟩,I 0])/\Below w.heap.size w w':=by
 obtain⟨i0,hi,A,y,G⟩:=mQ SJ;obtain⟨w1,J,q,B⟩:=run_make_full (P:=prog) w w.heap.size 203 5 i0 (.int .u8 0) 1 underlying203 hi A y .i64 .i64 size Γ (by grind [maxLen]) (aJ _);have K:Below w.heap.size w w1:=(aN _ _).grown B (aJ _) Γ;rw[PZ,show(Value.int .u8 0).cells=#[Value.int .u8 0] from rfl,toList_madeCells_one,<- abY size (mP n)] at q;go_enter func169,ntmps169;go_wp2_with (go_at_call 203;refine(DK _ _ ω ω).mono ?_;rintro e w' ⟨rfl,rfl⟩);go_loopw [6,18] (λr i wr=>∃k:Nat,k<=size/\i=I k/\r=.int .u64 ((mP n/256 ^ k:Nat):Int)/\wr.ownsRow w.heap.size 5 1 (.slice (some (Ad w.heap.size 0)) size size) size (C7 size k (mP n))/\Below w.heap.size w wr) (λ_ i _=>size-(intOf i).toNat)
 case atStart=>grind [aeK]
 case round =>
  obtain⟨k,hk,rfl,rfl,b,hb⟩:=hrel;by_cases hlt:k<size
  . have hc:wr.cell? (Ad w.heap.size k)=some (.int .u8 0):=(b.cellAt k ω).trans (aeM _ _ _ hlt);have hf:wr.frozen? (Ad w.heap.size k)=false:=b.frozenAt k;have HS:Hid ((wr.setCell (Ad w.heap.size k) (.int .u8 (((mP n/256 ^ k:Nat):Int)%256))).ownsRow w.heap.size 5 1 (.slice (some (Ad w.heap.size 0)) size size) size (C7 size (k+1) (mP n))/\Below w.heap.size w (wr.setCell (Ad w.heap.size k) (.int .u8 (((mP n/256 ^ k:Nat):Int)%256)))):=by
     have h:=b.stored k (.int .u8 (((mP n/256 ^ k:Nat):Int)%256));rw[aeL _ _ _ hlt] at h;exact⟨h.1,hb.setCell (aJ _) _⟩
    go_wp2;go_roundw
    case rel=>exact⟨k+1,ω,by go_num,J4 (aeN n k),HS.o.1,HS.o.2⟩
    case measure=>simp[intOf];omega
  obtain rfl:k=size:=by omega
  have F:(convert 203 9 (.slice (some (Ad w.heap.size 0)) k k)).run prog wr=.ok (.string ⟨(Lib.leBytes k (mP n)).toArray⟩) wr:=by
   rw[<- vA];refine Kw _ 203 5 underlying203 underlying5 _ 0 k k _ (by simp[Lib.leBytes_length]) ?_ 9 underlying9;intro i hi;rw[mi,b.cellAt i ω,abZ];exact DL _ i (by rw[Lib.leBytes_length];exact hi)
  go_wp2
  go_ret2
  exact⟨rfl,hb⟩
theorem aeJ (hlim:s.size<=281474976710656) :
  Calls prog 177 #[.string s] w λe w'=>e=.returned (.string s)/\Below w.heap.size w w':=by
 by_cases h0:s.size=0
 . have hs:s=⟨#[]⟩:=by
    apply ByteArray.ext
    simp_all
   subst hs;go_enter func177,ntmps177;go_wp2;go_ret;exact⟨rfl,aN _ _⟩
 obtain⟨i0,hi,O,J,F⟩:=mQ SJ;have b:(prog.info? 5).map (·.size)=some 1:=by rfl
 have h:prog.cellsOf 5=1:=by rfl
 obtain⟨M,hM⟩:=ex (madeCells (Value.int .u8 0).cells (((s.size:Nat):Int).toNat*i0.size));have G:M.size=s.size:=by grind [size_madeCells]
 have L:∀W:World,(Instr.makeSlice 203 (I (s.size:Int)) (I (s.size:Int))).run prog W=.ok (.slice (some (Ad W.heap.size 0)) s.size s.size) (W.alloc (.cells M 5)):=λW=>by
  grind [run_make,underlying203]
 clear hM;have FE:=Lib.run_copy_row_string (P:=prog) (w.alloc (.cells M 5)) 203 9 3 5 w.heap.size 0 s.size s.size s M 5 underlying203 b (P6 w _) (aJ _) ω;obtain⟨Y,hY⟩:=ex ((M.toList.take 0++Lib.byteCells s.data.toList++M.toList.drop (0+s.size)).toArray);rw[<- hY] at FE;have N:Y.toList=Lib.byteCells s.data.toList:=by
  simp_all
 have K:Y.size=s.size:=by grind [Lib.byteCells_length,Lib.size_eq]
 have r:((w.alloc (.cells M 5)).setRow w.heap.size Y).heap[w.heap.size]?=some (.cells Y 5 (0,0)):=pW _ _ M _ 5 (0,0) (P6 w _);have q:s.data.toList≠[]:=λe=>h0 (by grind [Lib.size_eq])
 have y:=Lib.run_unsafeString_row (P:=prog) ((w.alloc (.cells M 5)).setRow w.heap.size Y) 336 3 9 5 underlying336 h w.heap.size Y.size (by grind [World.shape?]) s.data.toList q (by simp_all) (by grind [Lib.size_eq])
  (λj x hx=>Lib.cells_of_row r Y.size j _ (by grind [Lib.byteCells]))
 rw[<- Lib.size_eq] at y;clear hY;go_enter func177,ntmps177;go_wp2;go_ret;have B:Below w.heap.size w (w.alloc (.cells M 5)):=(aN _ w).alloc (aJ _) _;have A:Below w.heap.size (w.alloc (.cells M 5)) ((w.alloc (.cells M 5)).setRow w.heap.size Y):=⟨rfl,rfl,rfl,ξ,λk hk=>setRow_other _ _ _ _ ω⟩;exact⟨rfl,Lib.below_freeze (B.trans A) (p:=(Ad w.heap.size 0)) (aJ _) _⟩
theorem SL (hlim:s.size<=281474976710656) :
  Calls prog 123 #[.string s] w λe w'=>e=.returned (.string s)/\Below w.heap.size w w':=by
 go_enter func123,ntmps123;go_wp2_with (go_at_call 177;refine(aeJ _ _ hlim).mono ?_;rintro e w' ⟨rfl,hb⟩);go_ret
 simp_all
theorem C6 (l o n:Int) (w:World) (h1:0<=o) (h2:0<=n) (h3:o<=l) (h4:n<=l-o) (h5:l<=9223372036854775807) :
  Calls prog 178 #[I l,I o,I n] w λe w'=>e=.returned (.bool true)/\w=w':=by
 go_enter func178,ntmps178;go_wp2;go_ret
 simp_all
theorem GZ (o n:Nat) (w:World) (hs:s.size<=140737488351232) (h:o+n<=s.size) :
  Calls prog 171 #[.string s,I o,I n] w λe w'=>e=.returned (.tuple #[.string (s.extract o (o+n)),I 0])/\Below w.heap.size w w':=by
 go_enter func171,ntmps171;go_wp2_with (first | (go_at_call 178;refine(C6 _ _ _ _ ω ω ω ω ω).mono ?_;rintro e w' ⟨rfl,rfl⟩) | (go_at_call 123;refine(SL _ _ (by simp;omega)).mono ?_;rintro e w' ⟨rfl,hb⟩))
 go_ret2
 simp_all
theorem J5 (t:ByteArray) (o:Nat) (w:World) (hs:s.size<=140737488351232) (h:o+t.size<=s.size) :
  Calls prog 124 #[.string s,I o,.string t] w λe w'=>e=.returned (.tuple #[.string (iT s o t),I 0])/\Below w.heap.size w w':=by
 obtain⟨i0,hi,M,L,K⟩:=mQ SJ;have y:(prog.info? 5).map (·.size)=some 1:=by rfl
 obtain⟨c,hc⟩:∃c,grownCap w s.size 0 5=c:=⟨_,rfl⟩;have N:s.size<=c:=by grind [grownCap_ge]
 have r:=run_bytes_of_string (P:=prog) w 9 203 5 s underlying9 underlying203 underlying5;rw[hc] at r;clear hc;have B:(bytesRow s c).size=c:=by grind [NH]
 have q:=UX s o t c h;obtain⟨R,hR⟩:=ex (bytesRow s c);rw[<- hR] at r B q;clear hR;rw[B] at r;have A:((w.alloc (.cells R 5 (c,c+1))).drew).heap[w.heap.size]?=some (.cells R 5 (c,c+1)):=P6 w _;by_cases h0:t.size=0
 . have FE:=λW d l c=>Lib.run_copy_empty_string (P:=prog) W 203 9 3 5 d l c t underlying203 ρ h0
   rw[ab0 s o t h0] at q ⊢;have G:(convert 203 9 (.slice (some (Ad w.heap.size 0)) s.size c)).run prog ((w.alloc (.cells R 5 (c,c+1))).drew)=.ok (.string s) ((w.alloc (.cells R 5 (c,c+1))).drew):=by
    have es:strOfNums (s.data.toList.map λb=>(b.toNat:Int))=s:=(vA _).trans (Lib.mk_data s);refine Eq.trans ?_ (dO (λx=>Result.ok (Value.string x) ((w.alloc (.cells R 5 (c,c+1))).drew)) es);refine Kw _ 203 5 underlying203 underlying5 _ 0 s.size c _ (by simp_all) ?_ 9 underlying9;intro i hi;have ht:t.data.toList=[]:=mR (by simp_all);have e:=q i hi;rw[ht,h0] at e;rw[mi,Wd _ _ _ _ _ _ A]
    simp_all [Lib.byteCells]
   go_enter func124,ntmps124;go_wp2_with (first | (go_at_call 178;refine(C6 _ _ _ _ ω ω ω ω ω).mono ?_;rintro e w' ⟨rfl,rfl⟩))
   all_goals go_ret2
   all_goals exact⟨rfl,((aN _ _).alloc (aJ _) _).drew⟩
 have J:¬c=o:=by omega
 have FE:=SN (P:=prog) ((w.alloc (.cells R 5 (c,c+1))).drew) 203 9 3 5 w.heap.size o (s.size-o) (c-o) t R 5 c (c+1) underlying203 y A ω ω ω;obtain⟨Y,hY⟩:=ex ((R.toList.take o++Lib.byteCells t.data.toList++R.toList.drop (o+t.size)).toArray);rw[<- hY] at FE;have F:(((w.alloc (.cells R 5 (c,c+1))).drew).setRow w.heap.size Y).heap[w.heap.size]?=some (.cells Y 5 (c,c+1)):=pW _ _ R _ 5 (c,c+1) A;have G:(convert 203 9 (.slice (some (Ad w.heap.size 0)) s.size c)).run prog (((w.alloc (.cells R 5 (c,c+1))).drew).setRow w.heap.size Y)=.ok (.string (iT s o t)) (((w.alloc (.cells R 5 (c,c+1))).drew).setRow w.heap.size Y):=by
  rw[<- Lib.mk_data (iT s o t),<- vA];refine Kw _ 203 5 underlying203 underlying5 _ 0 s.size c _ (by grind [Mw]) ?_ 9 underlying9;intro i hi;rw[mi,Wd _ _ _ _ _ _ F,hY]
  grind
 clear q hY;go_enter func124,ntmps124;go_wp2_with (first | (go_at_call 178;refine(C6 _ _ _ _ ω ω ω ω ω).mono ?_;rintro e w' ⟨rfl,rfl⟩))
 go_ret2
 exact⟨rfl,below_setRow ((aN _ _).alloc (aJ _) _).drew (aJ _) _⟩
theorem abU (t:ByteArray) (o:Nat) (w:World) (hs:s.size<=140737488351232) (h:o+t.size<=s.size) :
  Calls prog 103 #[.string s,I o,.string t] w λe w'=>e=.returned (.string (iT s o t))/\Below w.heap.size w w':=by
 have h1:(o:Int)<=(s.size:Int):=by omega
 go_enter func103,ntmps103;go_wp2
 go_quiet (fail)
 go_wp2;go_ret;simp[UW,lJ,aN]
theorem af4 {s t:ByteArray} {a b:Int} (h:s=t) (g:a=b):Ending.returned (.tuple #[.string s,I a])=.returned (.tuple #[.string t,I b]):=by rw[h,g]
theorem aag (s:bD) (w:World) (h:mS w s.ao s.df) (hf:ym s) :
  Calls prog 72 #[.agg (pT s)] w λe w'=>e=.returned (.tuple #[.string (rY s).1,I (rY s).2])/\Below w.heap.size w w':=by
 have HR:Hid (∀W,Below w.heap.size w W->Calls prog 122 #[.agg (pT s)] W λe w'=>e=.returned (.bool (cK s))/\Below W.heap.size W w'):=λW hb=>B0 s W (h.below hb) hf
 obtain⟨f1,f2,f3,f4⟩:=hf;obtain⟨pg,dt,fs,ao,cap⟩:=s;simp only at f1 f2 f3 f4;unfold bM at f2 f3;simp only[pT] at HR;simp only[pT];have K:dt.size<=maxLen:=by grind [maxLen]
 have F4:=aB f4;have HH:=aB h;clear f4 h f1;have HB:=aB ((aN w.heap.size w).alloc (aJ _) (.cells #[I pg,.string dt,.slice ao fs.length cap] 145));have BX:=aB (bG w #[I pg,.string dt,.slice ao fs.length cap] 145);by_cases hs:cK ⟨pg,dt,fs,ao,cap⟩=true
 . have HN:Hid (rY ⟨pg,dt,fs,ao,cap⟩=(nU dt fs fs.length,0)):=by
    show _=_;unfold rY;rw[aQ hs];rfl
   obtain⟨hd,y⟩:lW ⟨pg,dt,fs,ao,cap⟩=true/\dK fs fs.length=true:=by
    grind [cK]
   have B:dt.size=16:=by
    grind [lW]
   have r:=aB y;rw[hs] at HR;clear hs hd y;go_enter func72,ntmps72;go_wp2_with (first | (go_at_call 122;refine(HR.o _ HB.o).mono ?_;rintro e w1 ⟨rfl,hb⟩;have HB:=aB (HB.o.trans (hb.mono HB.o.size));have BX:=aB (aO BX.o hb (aM BX.o));have q0:=aA BX.o 0 rfl;have q1:=aA BX.o 1 rfl;have q2:=aA BX.o 2 rfl;clear hb) | (go_at_call 123;refine(SL _ _ ω).mono ?_;rintro e w2 ⟨rfl,hb⟩;have HB:=aB (HB.o.trans (hb.mono HB.o.size));have BX:=aB (aO BX.o hb (aM BX.o));have q0:=aA BX.o 0 rfl;have q1:=aA BX.o 1 rfl;have q2:=aA BX.o 2 rfl;clear hb));go_loopw [16,4] (λi d wr=>∃k:Nat,k<=fs.length/\i=I k/\d=.string (nU dt fs k)/\Below w.heap.size w wr) (λi _ _=>fs.length-(intOf i).toNat)
   case atStart=>exact⟨0,ω,rfl,rfl,HB.o⟩
   case round =>
    obtain⟨k,hk,rfl,rfl,hb⟩:=hrel;have pI:=aB hb;by_cases hlt:k<fs.length
    . obtain⟨b,off,F,J,dZ⟩:=(HH.o.below hb) ω;subst F;obtain⟨c0,c1⟩:=dZ k hlt;have A:=(vK _ _).1 (CL fs fs.length r.o k hlt);have q:dK fs k=true:=by
       cases e:dK fs k
       . rw[tX fs k fs.length ω e] at r;cases r
       rfl
      have L:=oO fs k q;have G:=wJ dt fs B k q;have uy:Hid (nU dt fs (k+1)=iT (nU dt fs k) (l8 fs k).off.toNat (l8 fs k).bytes):=rfl;generalize l8 fs k=f at c0 c1 A uy;generalize nU dt fs k=D at G uy ⊢;obtain⟨o,ho⟩:∃o:Nat,f.off=(o:Int):=⟨f.off.toNat,ω⟩;rw[ho] at c0 A;rw[ho,kq] at uy;clear q dZ hb;have jo:=aB (pI.o.alloc pI.o.size (.cells #[I (o:Int),.string f.bytes] 226));go_wp2_with (go_at_call 124;refine(J5 D f.bytes o _ ω ω).mono ?_;rintro e w3 ⟨rfl,hb⟩;have jo:=aB (jo.o.trans (hb.mono jo.o.size));clear hb);go_roundw
      case rel=>exact⟨k+1,ω,by go_num,by rw[uy.o],jo.o⟩
      case measure=>simp[intOf];omega
    obtain rfl:k=fs.length:=by omega
    go_wp2
    go_ret2
    exact⟨af4 (by rw[HN.o]) (by rw[HN.o]),pI.o⟩
 have hs':cK ⟨pg,dt,fs,ao,cap⟩=false:=by grind
 have HN:Hid (rY ⟨pg,dt,fs,ao,cap⟩=(⟨#[]⟩,1)):=by
  show _=_
  grind [rY]
 rw[hs'] at HR;clear hs hs';rw[HN.o];go_enter func72,ntmps72;go_wp2_with (go_at_call 122;refine(HR.o _ HB.o).mono ?_;rintro e w1 ⟨rfl,hb⟩;have HB:=aB (HB.o.trans (hb.mono HB.o.size));clear hb)
 go_ret2
 exact⟨rfl,HB.o⟩
def gu (f:ko):List Value:=[.string f.data,I f.refs,.bool f.ja,.bool f.seen]
def gq (f:mJ):List Value:=[.string f.data,I f.refs]
def bC (e:bK):List Value:=[I e.page,I e.kind,I e.loc]
def afk {α:Type} (f:α->List Value) (k:Nat) (d:α) (w:World) (b off:Nat) (l:List α):Prop:=∀i,i<l.length->∀j,j<k->w.cell? (Ad b (off+i*k+j))=(f (l.getD i d))[j]?
def dE {α:Type} (f:α->List Value) (k:Nat) (d:α) (w:World) (ao:Option Addr) (l:List α):Prop:=ie (afk f k d) w ao l
theorem dE.below {α:Type} {f:α->List Value} {k:Nat} {d:α} {w:World} {l:List α} (h:dE f k d w ao l) (hb:Below w.heap.size w w'):dE f k d w' ao l :=
 ie.below (lie:=afk f k d) (λhb hlt h i hi j hj=>(cW hb hlt).trans (h i hi j hj)) h hb
def Lv (w:World) (b off:Nat) (l:List cZ):Prop:=∀i,i<l.length->∃va ap cp,w.cell? (Ad b (off+i*3))=some (.bool (ak l i).live)/\w.cell? (Ad b (off+i*3+1))=some va/\w.cell? (Ad b (off+i*3+2))=some (.slice ap (ak l i).bl.length cp)/\eN w va (ak l i).bu/\dE bC 3 gJ w ap (ak l i).bl/\(ak l i).bl.length<=cp
theorem ah4 {w:World} {b off:Nat} {l:List cZ} (hb:Below w.heap.size w w') (hlt:b<w.heap.size) (h:Lv w b off l):Lv w' b off l:=λi hi=>by
 obtain⟨va,ap,cp,c0,c1,c2,c3,c4,c5⟩:=h i hi;exact⟨va,ap,cp,(cW hb hlt).trans c0,(cW hb hlt).trans c1,(cW hb hlt).trans c2,c3.below hb,c4.below hb,c5⟩
def su (w:World) (ao:Option Addr) (l:List cZ):Prop:=ie Lv w ao l
theorem su.below {w:World} {l:List cZ} (h:su w ao l) (hb:Below w.heap.size w w'):su w' ao l:=ie.below (lie:=Lv) (λhb hlt h=>ah4 hb hlt h) h hb
structure gN where
 aS:Option Addr
 cS:Nat
 aF:Option Addr
 cF:Nat
 aL:Option Addr
 cL:Nat
 aP:Option Addr
 cP:Nat
structure iB (w:World) (a:gN) (k:aT):Prop where
 aD:gz w a.aS k.aD
 frames:dE gu 4 eG w a.aF k.frames
 slots:dE gq 2 gP w a.aL k.slots
 aj:su w a.aP k.aj
theorem iB.below {w:World} {a:gN} {k:aT} (h:iB w a k) (hb:Below w.heap.size w w'):iB w' a k:=⟨h.aD.below hb,h.frames.below hb,h.slots.below hb,h.aj.below hb⟩
def bj (a:gN) (k:aT):Array Value:=#[.slice a.aS k.aD.length a.cS,.slice a.aF k.frames.length a.cF,.slice a.aL k.slots.length a.cL,.slice a.aP k.aj.length a.cP,I k.hand]
structure Gh (s:cZ):Prop where
 bu:dG s.bu
 bl:bM s.bl.length
 MQ:∀i,i<s.bl.length->cR (aW s.bl i).page/\cR (aW s.bl i).kind/\cR (aW s.bl i).loc
structure kN (k:aT):Prop where
 aD:m6 k.aD
 nf:bM k.frames.length
 fr:∀i,i<k.frames.length->bM (aK k.frames i).data.size/\cR (aK k.frames i).refs
 ns:bM k.slots.length
 sl:∀i,i<k.slots.length->bM (bI k.slots i).data.size/\cR (bI k.slots i).refs
 np:bM k.aj.length
 sp:∀i,i<k.aj.length->Gh (ak k.aj i)
 hand:cR k.hand
theorem IK (vS vF vL vP:Option Addr) (nS cS nF cF nL cL nP cP:Nat) (hd:Value) (w:World) :
  Calls prog 139 #[.agg #[.slice vS nS cS,.slice vF nF cF,.slice vL nL cL,.slice vP nP cP,hd]] w λe w'=>e=.returned (.bool (decide ((3<=nF/\nF<=64)/\nL<=512/\(1<=nP/\nP<=4)/\nS<=255)))/\Below w.heap.size w w':=by
 obtain⟨A,hA⟩:=ex (decide ((3<=nF/\nF<=64)/\nL<=512/\(1<=nP/\nP<=4)/\nS<=255));rw[<- hA];have HA:=ai hA;clear hA;rcases(show ¬(3:Int)<=nF\/((3:Int)<=nF/\¬(nF:Int)<=64)\/((3:Int)<=nF/\(nF:Int)<=64/\¬(nL:Int)<=512)\/((3:Int)<=nF/\(nF:Int)<=64/\(nL:Int)<=512/\¬(1:Int)<=nP)\/((3:Int)<=nF/\(nF:Int)<=64/\(nL:Int)<=512/\(1:Int)<=nP/\¬(nP:Int)<=4)\/((3:Int)<=nF/\(nF:Int)<=64/\(nL:Int)<=512/\(1:Int)<=nP/\(nP:Int)<=4/\¬(nS:Int)<=255)\/((3:Int)<=nF/\(nF:Int)<=64/\(nL:Int)<=512/\(1:Int)<=nP/\(nP:Int)<=4/\(nS:Int)<=255) by omega) with g | ⟨g,g1⟩ | ⟨g,g1,g2⟩ | ⟨g,g1,g2,g3⟩ | ⟨g,g1,g2,g3,g4⟩ | ⟨g,g1,g2,g3,g4,g5⟩ | ⟨g,g1,g2,g3,g4,g5⟩
 all_goals
  go_enter func139,ntmps139;go_wp2;go_ret;exact⟨dO (λb=>Ending.returned (.bool b)) (by grind [Hid.o]),(aN _ _).alloc (aJ _) _⟩
def rN (G:Nat->ByteArray):Nat->List Value
 | 0=>[]
 | n+1=>rN G n++[.string (G n)]
def uS (G:Nat->ByteArray) (n:Nat) (d:ByteArray):Nat->ByteArray:=λk=>if k=n then d else G k
theorem qT (G:Nat->ByteArray):∀n,(rN G n).length=n
 | 0=>rfl
 | n+1=>by rw[rN,gM,qT G n];rfl
theorem Gf (G:Nat->ByteArray) (n:Nat):∀m,n<m->(rN G m)[n]?=some (.string (G n))
 | 0,h=>by omega
 | m+1,h=>by
  rw[rN];by_cases c:n<m
  . rw[Kz (by grind [qT]),Gf G n m c]
  grind [qT]
theorem II (F G:Nat->ByteArray):∀m,(∀k,k<m->F k=G k)->rN F m=rN G m
 | 0,_=>rfl
 | m+1,h=>by rw[rN,rN,II F G m (λk hk=>h k ω),h m ω]
theorem Oe (G:Nat->ByteArray) (n:Nat) (d:ByteArray):∀m,n<m->(rN G m).set n (.string d)=rN (uS G n d) m
 | 0,h=>by omega
 | m+1,h=>by
  rw[rN,rN];by_cases c:n<m
  . rw[Hk _ _ (by grind [qT]),Oe G n d m c]
    grind [uS]
  obtain rfl:n=m:=by omega
  rw[zJ _ _ (by grind [qT]),qT,P4,II (uS G n d) G n (λk hk=>by grind [uS])]
  grind [uS]
def mW (a b c d e:Value) (G:Nat->ByteArray):Array Value:=([a,b,c,d,e]++rN G 256).toArray
theorem Rv (a b c d e:Value) (G:Nat->ByteArray) (n:Nat) (h:n<256):(mW a b c d e G)[5+n]?=some (.string (G n)):=by
 grind [mW,Gf]
theorem aay (a b c d e:Value) (G:Nat->ByteArray) (n:Nat) (x:ByteArray) (h:n<256):(mW a b c d e G).setIfInBounds (5+n) (.string x)=mW a b c d e (uS G n x):=by
 grind [mW,Oe]
def tB:Nat->ByteArray:=λ_=>⟨#[]⟩
def mq (hs:List bD):Nat->Nat->ByteArray
 | 0=>tB
 | k+1=>uS (mq hs k) (aZ hs k).page.toNat (o9 (aZ hs k))
theorem Gg (hs:List bD) (hr:dR hs=true) (n:Nat):mq hs hs.length n=fE hs n:=by
 have b:=FV hs hr;have A:∀i,i<hs.length->1<=(aZ hs i).page:=λi hi=>by
  have:=(oG hs hs.length hr i hi).1
  grind [cK,lW]
 have y:∀k,k<=hs.length->(∀i,i<k->(aZ hs i).page≠(n:Int))->mq hs k n=⟨#[]⟩:=λk=>by
  induction k with
  | zero=>intro _ _;rfl
  | succ k ih =>
   intro hk h;show uS (mq hs k) _ _ n=_
   grind [uS]
 have q:∀k,k<=hs.length->∀j,j<k->(aZ hs j).page=(n:Int)->mq hs k n=o9 (aZ hs j):=λk=>by
  induction k with
  | zero=>omega
  | succ k ih =>
   intro hk j hj e;show uS (mq hs k) _ _ n=_;unfold uS;by_cases c:j=k
   . grind
   have r:(aZ hs j).page<(aZ hs k).page:=by
    have:=(aj8.1 b) j k Γ Γ ω
    grind [aZ]
   grind
 unfold fE;cases g:dB hs n with
 | none =>
  have h:=List.find?_eq_none.1 g
  grind [aZ]
 | some s =>
  have hm:=Qr g;have hp:=List.find?_some g;obtain⟨j,hj,rfl⟩:=jE zi hm;exact q _ (aJ _) j hj (kr hp)
theorem XD {s:bD} (h:cK s=true):rY s=(o9 s,0):=by grind [rY]
theorem aaB {s:bD} (h:cK s=false):rY s=(⟨#[]⟩,1):=by grind [rY]
theorem Lu (hs:List bD) (aS:Option Addr) (cS mb:Nat) (b c d e:Value) (w0 w:World) (h:gz w0 aS hs) (hf:m6 hs) (hw:Below w0.heap.size w0 w) (hmb:w0.heap.size<=mb) (hm:w.heap[mb]?=some (.cells (mW (.slice aS hs.length cS) b c d e tB) 158 (0,0))) (hl:hs.length<=255) :
  Calls prog 140 #[.pointer (some (Ad mb 0))] w λx w'=>x=.returned (.bool (dR hs))/\aI (λb=>b=mb) w w'/\∃G,w'.heap[mb]?=some (.cells (mW (.slice aS hs.length cS) b c d e G) 158 (0,0))/\(dR hs=true->G=mq hs hs.length):=by
 have HH:=ai h;have HF:=ai hf;have HW:=ai hw;have a1:=aM hm;have m0:w.cell? (Ad mb 0)=some (.slice aS hs.length cS):=aA hm 0 rfl;have HM:=ai hm;have Kc:Hid (∀k,k<hs.length->(cK (aZ hs k)=false\/(aZ hs k).page<=(if k=0 then 0 else (aZ hs (k-1)).page))->dR hs=false):=λk hk g=>N6 hs k hk (by
  grind [ng,cK,lW])
 have r:Hid (∀k,k<hs.length->ji hs k=true->cK (aZ hs k)=true->(if k=0 then 0 else (aZ hs (k-1)).page)<(aZ hs k).page->ji hs (k+1)=true):=λk hk h1 h2 h3=>by
  grind [ji,ng]
 clear h hf hw hm;go_enter func140,ntmps140;go_wp2;go_loopw [3,14] (λlv iv wr=>∃k:Nat,k<=hs.length/\iv=I (k:Int)/\lv=I (if k=0 then 0 else (aZ hs (k-1)).page)/\ji hs k=true/\aI (λb=>b=mb) w wr/\wr.heap[mb]?=some (.cells (mW (.slice aS hs.length cS) b c d e (mq hs k)) 158 (0,0))) (λ_ iv _=>hs.length-(intOf iv).toNat)
 case atStart=>exact⟨0,ω,rfl,rfl,rfl,aI.refl _ _,HM.o⟩
 case round =>
  obtain⟨k,hk,rfl,rfl,hr,J9,O⟩:=hrel;have M:=ai J9;have K:=ai O;have HR:=ai hr;clear hr;obtain⟨L,hL⟩:∃L:Int,L=if k=0 then 0 else (aZ hs (k-1)).page:=⟨_,rfl⟩
  rw[<- hL];by_cases Am:k<hs.length
  . have F:=J9.below HW.o ω (λb hb=>ω);have Q:=ai F;obtain⟨bb,off,W,R,dZ⟩:=HH.o ω;subst W;obtain⟨d0,d1,d2,d3⟩:=dZ k Am;have Z:=J9.size;have c0:=(F.cell (p:=(Ad bb (off+k*3))) R).trans d0;have c1:=(F.cell (p:=(Ad bb (off+k*3+1))) R).trans d1;have c2:=(F.cell (p:=(Ad bb (off+k*3+2))) R).trans d2;have Pc:=HF.o.2 k Am;have HC:Hid (∀V,Below w0.heap.size w0 V->Calls prog 72 #[.agg (pT (aZ hs k))] V λe w'=>e=.returned (.tuple #[.string (rY (aZ hs k)).1,I (rY (aZ hs k)).2])/\Below V.heap.size V w'):=λV hV=>aag _ V (d3.below hV) Pc
    have Kc:=ai (Kc.o k Am);have r:=ai (r.o k Am HR.o);have QG:=Pc.page;have y:Hid (mq hs (k+1)=uS (mq hs k) (aZ hs k).page.toNat (o9 (aZ hs k))):=rfl;have B:Hid (cK (aZ hs k)=true->1<=(aZ hs k).page/\(aZ hs k).page<=255):=λg=>by
     unfold cK lW at g;simp only[cV,iP] at g;omega
    have Mk:=ai (@XD (aZ hs k));have A:=ai (@aaB (aZ hs k));have J:Hid ((if k+1=0 then 0 else (aZ hs (k+1-1)).page)=(aZ hs k).page):=by
     show _=_;rw[aH ω,Qj]
    unfold pT at HC;rw[<- hL] at Kc r;generalize aZ hs k=S at c0 c1 c2 HC Kc r QG y B Mk A J;obtain⟨pg,dt,fx,fo,fc⟩:=S;simp only at c0 c1 c2 HC Kc r QG y B Mk A J;generalize fx.length=nx at c2 HC;clear hL d0 d1 d2 d3 dZ Pc F J9 O;cases O8:cK ⟨pg,dt,fx,fo,fc⟩ with
    | false =>
     have JV:=ai (Kc.o (.inl O8));have YK:=ai (A.o O8);rw[YK.o] at HC;clear Mk A YK O8 Kc r y B J;have jo:=ai (Q.o.alloc ω (.cells #[I pg,.string dt,.slice fo nx fc] 145));have KA:=ai ((M.o.trans (aI.alloc (λb=>b=mb) wr (.cells #[I pg,.string dt,.slice fo nx fc] 145)) (λ_ _ g=>g)));have MA:=ai (bB K.o (.cells #[I pg,.string dt,.slice fo nx fc] 145));have SA:=ai (bG wr #[I pg,.string dt,.slice fo nx fc] 145);clear HM m0 HH HF;go_wp2_with (go_at_call 72;refine(HC.o _ jo.o).mono ?_;rintro e w1 ⟨rfl,q⟩;have dz:=ai q;have S1:=ai (aO SA.o q ξ);clear q);go_ret;have hM:=aO MA.o dz.o (by simp;omega);exact⟨dO (λb=>Ending.returned (.bool b)) JV.o.symm,KA.o.trans (aI.cA dz.o) (λ_ _ g=>g),_,hM,λg=>by rw[JV.o] at g;cases g⟩
    | true =>
     have YK:=ai (Mk.o O8);rw[YK.o] at HC;have a0:=B.o O8;by_cases hlp:pg<=L
     . have JV:=ai (Kc.o (.inr hlp));clear Mk A YK O8 Kc r y B J;have jo:=ai (Q.o.alloc ω (.cells #[I pg,.string dt,.slice fo nx fc] 145));have KA:=ai ((M.o.trans (aI.alloc (λb=>b=mb) wr (.cells #[I pg,.string dt,.slice fo nx fc] 145)) (λ_ _ g=>g)));have MA:=ai (bB K.o (.cells #[I pg,.string dt,.slice fo nx fc] 145));have SA:=ai (bG wr #[I pg,.string dt,.slice fo nx fc] 145);clear HM m0 HH HF;go_wp2_with (go_at_call 72;refine(HC.o _ jo.o).mono ?_;rintro e w1 ⟨rfl,q⟩;have dz:=ai q;have S1:=ai (aO SA.o q ξ);have s0:w1.cell? (Ad wr.heap.size 0)=some (I pg):=aA S1.out 0 rfl;clear q);go_ret;have hM:=aO MA.o dz.o (by simp;omega);exact⟨dO (λb=>Ending.returned (.bool b)) JV.o.symm,KA.o.trans (aI.cA dz.o) (λ_ _ g=>g),_,hM,λg=>by rw[JV.o] at g;cases g⟩
     have Y:=ai (r.o O8 ω);clear Mk A YK O8 Kc r B;have U:¬mb=wr.heap.size:=by omega
     have jo:=ai (Q.o.alloc ω (.cells #[I pg,.string dt,.slice fo nx fc] 145));have KA:=ai ((M.o.trans (aI.alloc (λb=>b=mb) wr (.cells #[I pg,.string dt,.slice fo nx fc] 145)) (λ_ _ g=>g)));have MA:=ai (bB K.o (.cells #[I pg,.string dt,.slice fo nx fc] 145));have SA:=ai (bG wr #[I pg,.string dt,.slice fo nx fc] 145);clear HM m0 HH HF;go_wp2_with (go_at_call 72;refine(HC.o _ jo.o).mono ?_;rintro e w1 ⟨rfl,q⟩;have dz:=ai q;have S1:=ai (aO SA.o q ξ);have s0:w1.cell? (Ad wr.heap.size 0)=some (I pg):=aA S1.out 0 rfl;clear q);obtain⟨n,rfl⟩:∃n:Nat,pg=(n:Int):=⟨pg.toNat,ω⟩;have hM:=aO MA.o dz.o (by simp;omega);have T:=ai hM;have K1:=ai (KA.o.trans (aI.cA dz.o) (λ_ _ g=>g));have q5:w1.cell? (Ad mb (5+n))=some (.string (mq hs k n)):=aA hM (5+n) (Rv _ _ _ _ _ _ n ω);have qf:w1.frozen? (Ad mb (5+n))=false:=br hM (5+n);have n0:(0:Int)<=(n:Int):=by omega
     have n1:(n:Int)<256:=by omega
     rw[kq] at y;generalize o9 { page:=(n:Int),data:=dt,df:=fx,ao:=fo,cap:=fc }=FD at y ⊢;clear hM HC c0 c1 c2;go_region;have YG:=ai ((dm T.o (5+n) (.string FD)).trans (by rw[aay _ _ _ _ _ _ n FD ω,<- y.o]));have K2:=ai (K1.o.trans ((aI.set (λb=>b=mb) w1 (Ad mb (5+n)) (.string FD) rfl).trans (aI.drew _ _) (λ_ _ g=>g)) (λ_ _ g=>g));have s2:(w1.setCell (Ad mb (5+n)) (.string FD)).drew.cell? (Ad wr.heap.size 0)=some (I (n:Int)):=(cN w1 mb (5+n) wr.heap.size 0 (.string FD) (λe=>U e.symm)).trans s0;obtain⟨W2,N⟩:=ex ((w1.setCell (Ad mb (5+n)) (.string FD)).drew);have X:Hid (W2.heap[mb]?=some (.cells (mW (.slice (some (Ad bb off)) hs.length cS) b c d e (mq hs (k+1))) 158 (0,0))):=by rw[N];exact YG.o
     rw[<- N] at K2 s2 ⊢;clear N YG T K1 q5 qf s0;go_wp2;go_roundw
     case rel=>exact⟨k+1,ω,by go_num,by rw[aH ω,Qj,<- J.o,aH ω,Qj],Y.o,K2.o,X.o⟩
     case measure=>simp[intOf];omega
  obtain rfl:k=hs.length:=by omega
  clear J9 O hL;go_wp2;go_ret;exact⟨dO (λb=>Ending.returned (.bool b)) HR.o.symm,M.o,_,K.o,λ_=>rfl⟩
end Go.Proofs.YtlgoihmkgaaemaaGreat
