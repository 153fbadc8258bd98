import Derived.Test.YtpgifpeohlllfaaGreatGV07
import Derived.Lib.Repeat
set_option maxHeartbeats 20000000
set_option linter.unusedVariables false
set_option maxRecDepth 100000
set_option linter.unusedSimpArgs false
namespace Go.Proofs.YtpgifpeohlllfaaGreat
namespace Go.Proofs.YtpgifpeohlllfaaGreat
open Go.RowKit Go.WideMaps Go.Maps
structure iY where
 i:vg
 a:IW
def aai:iY:=⟨⟨⟨#[]⟩,[],[],[],[],0⟩,⟨none,0,none,0,none,0,none,0⟩⟩
def cY (l:List iY) (k:Nat):iY:=l.getD k aai
def zY (x:iY):Value:=.agg (jV x.a x.i)
def Jj (w:World) (b off:Nat) (l:List iY):Prop:=∀k,k<l.length ->
 (w.cell? (Ad b (off+k*6))=some (.string (cY l k).i.name)/\w.cell? (Ad b (off+k*6+1))=some (.slice (cY l k).a.an (cY l k).i.needs.length (cY l k).a.cn) /\
  w.cell? (Ad b (off+k*6+2))=some (.slice (cY l k).a.ag (cY l k).i.jU.length (cY l k).a.cg)/\w.cell? (Ad b (off+k*6+3))=some (.slice (cY l k).a.ay (cY l k).i.syms.length (cY l k).a.cy) /\
  w.cell? (Ad b (off+k*6+4))=some (.slice (cY l k).a.ar (cY l k).i.pI.length (cY l k).a.cr)/\w.cell? (Ad b (off+k*6+5))=some (I (cY l k).i.entry))/\pL w (cY l k).a (cY l k).i
theorem ag2 {w w':World} {b off:Nat} {l:List iY} (hb:Below w.heap.size w w') (hlt:b<w.heap.size) (h:Jj w b off l):Jj w' b off l:=fun k hk=>by
 obtain⟨⟨c0,c1,c2,c3,c4,c5⟩,hi⟩:=h k hk
 grind [gF,pL.below]
def CH (w:World) (ao:Option Addr) (l:List iY):Prop:=iL Jj w ao l
theorem CH.below {w w':World} {ao:Option Addr} {l:List iY} (h:CH w ao l) (hb:Below w.heap.size w w'):CH w' ao l:=iL.below (lie:=Jj) (fun hb hlt h=>ag2 hb hlt h) h hb
def ab7 (l:List iY):Prop:=bY l.length/\∀k,k<l.length->IV (cY l k).i
def ov (l:List iY):Nat->Int
 | 0=>0
 | k+1=>if ov l k=0 then mG (cY l k).i else ov l k
def ko (l:List iY):List ByteArray:=l.map (·.i.name)
def ow (l:List iY):Int:=if ov l l.length=0 then (if wj (ko l) then 0 else 5) else ov l l.length
theorem Eb (l:List iY) (k:Nat) (h:ov l k≠0):∀n,k<=n->ov l n=ov l k
 | 0,hn=>by grind
 | n+1,hn=>by
  by_cases e:k=n+1
  · grind
  · have ih:=Eb l k h n (by omega)
    grind [ov]
theorem Gr (l:List iY):∀n,ov l n=0->∀k,k<n->mG (cY l k).i=0
 | 0,_,k,hk=>by omega
 | n+1,h,k,hk=>by
  simp only[ov] at h;by_cases e0:ov l n=0
  · rw[bf e0] at h;by_cases e:k=n
    · grind
    · exact Gr l n e0 k (by omega)
  omega
theorem Jd (l:List iY) (k:Nat) (hk:k<l.length):qm (ko l) k=(cY l k).i.name:=by
 grind [qm,ko,cY]
theorem rZ (l:List iY):(ko l).length=l.length:=by simp[ko]
def XM (v:Value):Option (DataW Value×List MemPlace):=some (.held v,[])
def agX:Value:=.agg #[.string ⟨#[]⟩,Nl,Nl,Nl,Nl,I 0]
structure Jh (l:List iY) (k:Nat) (D:DataW Value):Prop where
 has:∀s,Maps.has D (Ax s)=((ko l).take k).contains s
 at_:oq (ko l) k=true->∀j,j<k->D.atKey (Ax (cY l j).i.name) (.held agX)=.held (zY (cY l j))
 le:Maps.size D<=k
 all:Maps.size D=k↔oq (ko l) k=true
theorem aaf (l:List iY):Jh l 0 (.map []):=⟨fun s=>by rfl,fun _ j hj=>by omega,by simp[Maps.size],by simp[Maps.size,oq]⟩
theorem aah (l:List iY) (k j:Nat) (hj:j<k) (hk:k<=l.length):((ko l).take k).contains (cY l j).i.name=true:=by
 have h1:j<((ko l).take k).length:=by grind [rZ]
 have h2:((ko l).take k)[j]=(cY l j).i.name:=by
  rw[List.getElem_take];have h3:j<(ko l).length:=by grind
  have:=Jd l j (by omega)
  grind [qm]
 grind
theorem aag {l:List iY} {k:Nat} {D:DataW Value} (hk:k<l.length) (hD:IsMap D) (hT:Maps.Tidy D) (h:Jh l k D):Jh l (k+1) (D.put (Ax (cY l k).i.name) (.held (zY (cY l k)))):=by
 have hc:=fun s=>Dq (ko l) k (by grind [rZ]) s
 have hat:=Jd l k hk;have hon:oq (ko l) (k+1)=(oq (ko l) k&&!((ko l).take k).contains (cY l k).i.name):=by grind [oq]
 have hsz:=Maps.size_put (k:=Ax (cY l k).i.name) hT (.held (zY (cY l k)));rw[h.has] at hsz;refine⟨fun s=>?_,fun ho j hj=>?_,?_,?_⟩
 · rw[hc s,hat];by_cases e:s=(cY l k).i.name
   · subst e;rw[Maps.has_put_same hD (by trivial)];simp
   grind [Maps.has_put_other,G5,Jh.has]
 · rw[hon] at ho;simp only[dR,NQ] at ho;by_cases e:j=k
   · subst e;exact atKey_put_same hD (by trivial) _ _
   grind [aah,atKey_put_other,G5,Jh.at_]
 · have:=h.le
   grind
 · rw[hon];have h1:=h.le
   grind [Jh.all]
end Go.Proofs.YtpgifpeohlllfaaGreat
namespace Go.Proofs.YtpgifpeohlllfaaGreat
open Go.RowKit
end Go.Proofs.YtpgifpeohlllfaaGreat
namespace Go.Proofs.YtpgifpeohlllfaaGreat
open Go.RowKit Go.WideMaps Go.Maps
def agW (l:List iY) (w:World) (e:Ending) (w':World):Prop:=Below w.heap.size w w' /\
 if ow l=0 then ∃m D,e=.returned (.tuple #[.map (some m),I 0])/\w'.ownsMap Tryz.prog 9 XM m l.length D/\Jh l l.length D
 else e=.returned (.tuple #[.map none,I (ow l)])
end Go.Proofs.YtpgifpeohlllfaaGreat
namespace Go.Proofs.YtpgifpeohlllfaaGreat
open Go.RowKit
def ag3 (all:List iY) (s:ByteArray):Option Nat:=all.findIdx? (fun x=>decide (x.i.name=s))
def aeJ (ix:List Nat) (j:Nat):List Nat:=if ix.contains j then ix else ix++[j]
def XK (all:List iY) (ix:List Nat) (needs:List ByteArray):Nat->Option (List Nat)
 | 0=>some ix
 | k+1=>match XK all ix needs k with
  | none=>none
  | some ix'=>match ag3 all (qm needs k) with
   | none=>none
   | some j=>some (aeJ ix' j)
def O6 (all:List iY) (ix:List Nat) (n:Nat):List ByteArray:=(cY all (ix.getD n 0)).i.needs
def K9 (all:List iY):Nat->Nat->List Nat->Option (List Nat)
 | 0,_,ix=>some ix
 | f+1,n,ix=>if n<ix.length then (match XK all ix (O6 all ix n) (O6 all ix n).length with
  | none=>none
  | some ix'=>K9 all f (n+1) ix') else some ix
structure FI (all:List iY) (ix:List Nat):Prop where
 pos:0<ix.length
 nodup:ix.Nodup
 lt:∀j∈ix,j<all.length
theorem K6:∀(L:Nat) (ix:List Nat),ix.Nodup->(∀j∈ix,j<L)->ix.length<=L
 | 0,ix,_,h=>by
  cases ix with
  | nil=>grind
  | cons x r=>grind [List.mem_cons_self]
 | L+1,ix,hn,h=>by
  by_cases e:L∈ix
  · have h1:=K6 L (ix.erase L) (hn.erase L) (fun j hj=>by
     grind)
    grind
  · have:=K6 L ix hn (fun j hj=>by
     grind)
    omega
theorem FI.le {all:List iY} {ix:List Nat} (h:FI all ix):ix.length<=all.length:=K6 _ _ h.nodup h.lt
def fH (all:List iY):Int->List Nat->List kF
 | _,[]=>[]
 | b,j::r=>⟨(cY all j).i,(cY all j).a,b⟩::fH all (wA ⟨(cY all j).i,(cY all j).a,b⟩) r
def jW (all:List iY):Int->List Nat->Int
 | b,[]=>b
 | b,j::r=>jW all (wA ⟨(cY all j).i,(cY all j).a,b⟩) r
theorem kJ (all:List iY):∀(ix:List Nat) (b:Int),(fH all b ix).length=ix.length
 | [],_=>rfl
 | j::r,b=>by simp only[fH,Cl,kJ all r]
theorem Du (all:List iY) (j:Nat):∀(ix:List Nat) (b:Int),fH all b (ix++[j])=fH all b ix++[⟨(cY all j).i,(cY all j).a,jW all b ix⟩]
 | [],b=>rfl
 | k::r,b=>by simp only[NK,fH,jW,Du all j r]
theorem Dv (all:List iY) (j:Nat):∀(ix:List Nat) (b:Int),jW all b (ix++[j])=wA ⟨(cY all j).i,(cY all j).a,jW all b ix⟩
 | [],b=>rfl
 | k::r,b=>by simp only[NK,jW,Dv all j r]
theorem s7 (all:List iY):∀(ix:List Nat) (b:Int) (k:Nat),k<ix.length->(eN (fH all b ix) k).i=(cY all (ix.getD k 0)).i/\(eN (fH all b ix) k).a=(cY all (ix.getD k 0)).a/\(eN (fH all b ix) k).base=jW all b (ix.take k)
 | [],_,k,hk=>by grind
 | j::r,b,0,_=>⟨rfl,rfl,rfl⟩
 | j::r,b,k+1,hk=>by
  have:=s7 all r (wA ⟨(cY all j).i,(cY all j).a,b⟩) k (by grind)
  grind [eN,fH,jW]
theorem M9 (all:List iY) (ix:List Nat) (b:Int) (h:0<ix.length):wA (eN (fH all b ix) (ix.length-1))=jW all b ix:=by
 obtain⟨r,j,rfl⟩:∃r j,ix=r++[j]:=⟨ix.dropLast,ix.getLast (by grind),(abQ _).symm⟩
 grind [Du,Dv,kJ,eN]
theorem zZ (all:List iY) (hc:∀j,j<all.length->mG (cY all j).i=0):∀(ix:List Nat) (b:Int),(∀j∈ix,j<all.length)->b<=jW all b ix/\jW all b ix<=b+255*(ix.length:Int)
 | [],b,_=>by simp[jW]
 | j::r,b,h=>by
  have hl:=Ea (hc j (h j Fx));have ih:=zZ all hc r (wA ⟨(cY all j).i,(cY all j).a,b⟩) (fun k hk=>h k (Ir _ hk))
  grind [jW,wA]
end Go.Proofs.YtpgifpeohlllfaaGreat
namespace Go.Proofs.YtpgifpeohlllfaaGreat
open Go.RowKit Go.WideMaps Go.Maps
theorem ub {α:Type} (f:α->List Value) (c:Nat) (hc:∀x,(f x).length=c) (d:α):∀(l:List α) (i j:Nat),i<l.length->j<c->(l.flatMap f)[i*c+j]?=(f (l.getD i d))[j]?
 | a::r,0,j,_,hj=>by
  grind
 | a::r,i+1,j,hi,hj=>by
  rw[pJ,Ix (by grind),hc,show(i+1)*c+j-c=i*c+j by grind];exact ub f c hc d r i j (by grind) hj
def Oc (all:List iY) (R:Option (List Nat)) (w:World) (e:Ending) (w':World):Prop:=Below w.heap.size w w'/\match R with
 | none=>e=.returned (.tuple #[Nl,.bool false])
 | some ix=>FI all ix/\∃ao cap,e=.returned (.tuple #[.slice ao ix.length cap,.bool true])/\Jm w' ao (fH all 1 ix)
structure ail (all:List iY) (m:Nat) (D:DataW Value) (w:World):Prop where
 pos:0<all.length
 few:all.length<=7
 chk:∀j,j<all.length->mG (cY all j).i=0
 fit:∀j,j<all.length->IV (cY all j).i
 once:wj (ko all)=true
 im:∀j,j<all.length->pL w (cY all j).a (cY all j).i
 map:w.ownsMap Tryz.prog 9 XM m all.length D
 nm:Jh all all.length D
theorem Cz {w w':World} {base:Nat} {e:TypeId} {size:Nat} {v:Value} {n:Nat} {xs:List Value} (h:w.ownsRow base e size v n xs) (hb:Below w.heap.size w w'):w'.ownsRow base e size v n xs:=by
 refine⟨h.1,?_⟩;rcases h.2 with h2 | ⟨g,cap,cur,hv,hbg,hg,rest⟩
 · grind
 · exact .inr ⟨g,cap,cur,hv,hbg,(hb.block g (aO hg)).trans hg,rest⟩
end Go.Proofs.YtpgifpeohlllfaaGreat
namespace Go.Proofs.YtpgifpeohlllfaaGreat
open Go.RowKit
def qp:ByteArray:=⟨(Lib.repeatL [0] 16).toArray⟩
theorem Dr:qp.size=16:=rfl
def uG (s:pA) (n:Nat):ByteArray:=fU qp 0 (s.data.extract (min (n*16) s.data.size) (min (min (n*16) s.data.size+16) s.data.size))
theorem Na (s:ByteArray) (a b:Nat) (h1:a<=b) (h2:b<=s.size):(s.extract a b).size=b-a:=by
 simp_all
structure o6 where
 pos:Int
 bytes:ByteArray
def aad:o6:=⟨0,⟨#[]⟩⟩
def wu (l:List o6) (k:Nat):o6:=l.getD k aad
def Ji (w:World) (b off:Nat) (l:List o6):Prop:=∀i,i<l.length->w.cell? (Ad b (off+i*2))=some (I (wu l i).pos)/\w.cell? (Ad b (off+i*2+1))=some (.string (wu l i).bytes)
theorem ag0 {w w':World} {b off:Nat} {l:List o6} (hb:Below w.heap.size w w') (hlt:b<w.heap.size) (h:Ji w b off l):Ji w' b off l:=fun i hi=>by
 obtain⟨c0,c1⟩:=h i hi
 grind [gF]
def Jl (w:World) (ao:Option Addr) (l:List o6):Prop:=iL Ji w ao l
theorem Jl.below {w w':World} {ao:Option Addr} {l:List o6} (h:Jl w ao l) (hb:Below w.heap.size w w'):Jl w' ao l:=iL.below (lie:=Ji) (fun hb hlt h=>ag0 hb hlt h) h hb
def Jg (p:o6):List Value:=[I p.pos,.string p.bytes]
def Bz (f:mF):List Value:=[I f.off,.string f.bytes]
def UE (p:o6):Prop:=0<=p.pos/\p.pos<=1000000/\p.bytes.size=8
def CF (page:Int) (p:o6):List mF:=if max (page*16) p.pos<min (page*16+16) (p.pos+8) then [⟨max (page*16) p.pos-page*16,p.bytes.extract (max (page*16) p.pos-p.pos).toNat (max (page*16) p.pos-p.pos+(min (page*16+16) (p.pos+8)-max (page*16) p.pos)).toNat⟩] else []
def kQ (page:Int) (ps:List o6):List mF:=ps.flatMap (CF page)
theorem Uw {α:Type} (l:List α) (d:α) (k:Nat) (h:k<l.length):l.take (k+1)=l.take k++[l.getD k d]:=by
 simp_all
theorem aaj (page:Int) (p:o6):(CF page p).length<=1:=by
 grind [CF]
theorem Je (page:Int):∀ps:List o6,(kQ page ps).length<=ps.length
 | []=>by simp[kQ]
 | p::r=>by
  have h1:=Je page r
  grind [aaj,kQ]
theorem Pb (page:Int) (l:List o6) (p:o6):kQ page (l++[p])=kQ page l++CF page p:=by
 grind [kQ]
theorem Nt (l:List bc) (v:Value) (page aR q:Int) (P:Nat) (w:World) (h:eU w v l) (hf:ed l) (hp:-9223372036854775808<=page/\page<=9223372036854775807) (hn:-9223372036854775808<=aR/\aR<=9223372036854775807) (hP:w.cell? (Ad P 0)=some (I q)) :
  Calls Tryz.prog 121 #[v,I page,I aR,I q,.func (.func 122) #[] #[.pointer (some (Ad P 0))]] w fun e w'=>∃r,e=.returned (.tuple #[r,I (dV l page aR q (cW q)).2])/\dC w.heap.size w' r (dV l page aR q (cW q)).1/\Below w.heap.size w w':=by
 by_cases hc:br l=0
 · by_cases xw:eu page aR=true
   · by_cases Zz:gQ q=true
     · have HT:Hid (dV l page aR q (cW q)=if fh (cu l) (cW q) page.toNat aR.toNat=0 then (fB (cM (cu l) (cW q) page (page+aR)),0) else ([],fh (cu l) (cW q) page.toNat aR.toNat)):=by
        show _=_;grind [dV]
       have hpb:=(iW page aR).1 xw;obtain⟨Z,hZ⟩:=ex (dg (fun _=>gS));have hz:=Ka;rw[<- hZ] at hz;have hZs:Z.size=768:=by grind [gB]
       clear hZ;go_enter Tryz.func121,Tryz.ntmps121;go_wp2_with fail
       refine(jM l v _ h hf).mono ?_;rintro e w1 ⟨rfl,hb1⟩;rw[hc];have HC:Hid (br l=0):=hc;clear hc;go_wp2_with fail
       refine(fX _ _ _ hp hn).mono ?_;rintro e w' ⟨rfl,rfl⟩;go_wp2_with fail
       refine(jB _ _).mono ?_;rintro e w' ⟨rfl,rfl⟩;go_wp2_with fail
       refine(Bb l v _ (h.below hb1) HC.o).mono ?_;rintro e w2 ⟨rfl,hb2⟩;have fq:Hid (Below w.heap.size w w2):=hb1.trans (hb2.mono hb1.size);obtain⟨F,hF⟩:=ex (cu l);rw[<- hF] at HT ⊢;obtain⟨C,hC⟩:=ex (dg F);have Xo:C.size=768:=by grind [gB]
       have HCF:Hid (C=dg F):=hC;rw[<- hC];clear hb1 hb2 hF hC xw Zz;have zR:Hid ((w2.alloc (.cells Z 215)).heap[w2.heap.size]?=some (.cells Z 215 (0,0))):=bG w2 Z 215;go_wp2_with (refine rW rfl 215 _ _ rfl w2.heap.size C rfl rfl 215 Z zR.out (by rw[Xo];exact oh) (by omega) (by grind [tD,Hid.o]) ?_)
       have HA0:Hid (((w2.alloc (.cells Z 215)).setRow w2.heap.size C).heap[w2.heap.size]?=some (.cells C 215 (0,0))):=ng _ _ _ _ 215 (0,0) zR.out;have jo:Hid (Below w.heap.size w ((w2.alloc (.cells Z 215)).setRow w2.heap.size C)):=below_setRow (fq.o.alloc fq.o.size _) fq.o.size _;have Gb:=fq.o.size;go_loopw [14] (fun t wr=>∃n:Nat,page<=(n:Int)/\(n:Int)<=page+aR/\t=I n/\(∀k:Nat,page.toNat<=k->k<n->((cW q) (F k)).2=0)/\wr.heap[w2.heap.size]?=some (.cells (dg (cM F (cW q) page n)) 215 (0,0))/\Below w.heap.size w wr) (fun t _=>(page+aR-intOf t).toNat)
       case atStart =>
        grind [oZ,Hid.o]
       case round =>
        obtain⟨n,SJ,hn3,rfl,hno,hA,hb⟩:=hrel;have HN:Hid (∀k:Nat,page.toNat<=k->k<n->((cW q) (F k)).2=0):=hno;have HA:Hid (wr.heap[w2.heap.size]?=some (.cells (dg (cM F (cW q) page n)) 215 (0,0))):=hA;have HB:Hid (Below w.heap.size w wr):=hb;have hAl:w2.heap.size<wr.heap.size:=aO hA;have hPw:wr.cell? (Ad P 0)=some (I q):=(hb.cell (p:=(Ad P 0)) (nQ w _ hP)).trans hP;by_cases hin:(n:Int)<page+aR
        · have z0:=aB hA (n*3) (m9 _ n (by omega));have z1:=aB hA (n*3+1) (m8 _ n (by omega));have z2:=aB hA (n*3+2) (m7 _ n (by omega));rw[sM] at z0 z1 z2;have Oq:(n:Int)<256:=by omega
          clear hno hA hb;obtain⟨s,hs⟩:=ex (F n);rw[<- hs] at z0 z1 z2;have HS:Hid (s=F n):=hs;clear hs;go_wp2_with fail
          refine(Zi s q P _ hPw).mono ?_;rintro e w3 ⟨rfl,hb3⟩;have bA:=aQ HA.o hb3 hAl;have y0:=aB bA (n*3) (m9 _ n (by omega));have y1:=aB bA (n*3+1) (m8 _ n (by omega));have y2:=aB bA (n*3+2) (m7 _ n (by omega));have yf:=aJ bA;have xD:Hid (w3.heap[w2.heap.size]?=some (.cells (dg (cM F (cW q) page n)) 215 (0,0))):=bA;have MD:Hid (Below w.heap.size w w3):=HB.o.trans (hb3.mono HB.o.size);have aiK:w2.heap.size<w3.heap.size:=aO bA;clear bA hb3 z0 z1 z2;obtain⟨r,hr⟩:=ex ((cW q) s);rw[<- hr];have HR:Hid (r=(cW q) s):=hr;clear hr;unfold BW;by_cases he:r.2=0
          · have he':(r.2 != 0)=false:=by simp[he]
            have HE:Hid (r.2=0):=he;clear he;go_wp2;go_roundw
            case rel =>
             have mj:=dG (dG (dG xD.o (n*3) (.bool r.1.m)) (n*3+1) (I r.1.p)) (n*3+2) (.bool r.1.z);have est:=pZ F (cW q) page n SJ;rw[<- HS.o,<- HR.o] at est;rw[wO (cM F (cW q) page n) n r.1 (by omega),est] at mj;refine⟨n+1,by omega,by omega,by go_num,fun k h1 h2=>if e:k=n then by rw[e,<- HS.o,<- HR.o];exact HE.o else HN.o k h1 (by omega),?_,?_⟩
             · rw[show((n+1:Nat):Int)=(n:Int)+1 from by omega];exact bE mj _
             · have hb4:=((MD.o.setCell (p:=(Ad w2.heap.size (n*3))) Gb (.bool r.1.m)).setCell (p:=(Ad w2.heap.size (n*3+1))) Gb (I r.1.p)).setCell (p:=(Ad w2.heap.size (n*3+2))) Gb (.bool r.1.z);exact hb4.alloc hb4.size _
            case measure=>simp[intOf];omega
          · have he':(r.2 != 0)=true:=by simpa using he
            have HE:Hid (r.2≠0):=he;clear he;have ht:Hid (dV l page aR q (cW q)=([],r.2)):=by
             have Bo:fh F (cW q) page.toNat aR.toNat=r.2:=by
              rw[HR.o,HS.o];exact qY F (cW q) _ _ n (by omega) (by omega) HN.o (by rw[<- HS.o,<- HR.o];exact HE.o)
             show _=_;rw[HT.o,Bo,bl HE.o]
            go_wp2
            go_ret2
            exact⟨Nl,by rw[ht.out];rfl,by rw[ht.out];exact dC.nil _ _,MD.o.alloc MD.o.size _⟩
        · have hend:Hid ((n:Int)=page+aR):=by show _=_;omega
          have ht:Hid (dV l page aR q (cW q)=(fB (cM F (cW q) page n),0)):=by
           have Bo:fh F (cW q) page.toNat aR.toNat=0:=nK F (cW q) _ _ (fun k h1 h2=>HN.o k h1 (by omega));show _=_;rw[HT.o,Bo,bf rfl,hend.out]
          clear hno hA hb;go_wp2_with (refine ra rfl 215 _ rfl w2.heap.size rfl 215 _ (0,0) _ HA.o Tryz.underlying215 rfl (by rw[gB];exact oh) ?_)
          refine(Bc _ _).mono ?_;rintro e w4 ⟨r,rfl,hr,hb4⟩;go_wp2
          go_ret2
          exact⟨r,by rw[ht.out];rfl,by rw[ht.out];exact hr.mono HB.o.size,HB.o.trans (hb4.mono HB.o.size)⟩
     · have aln:gQ q=false:=by grind
       have HT:Hid (dV l page aR q (cW q)=([],3)):=by show _=_;grind [dV]
       clear Zz;go_enter Tryz.func121,Tryz.ntmps121;go_wp2_with fail
       refine(jM l v _ h hf).mono ?_;rintro e w1 ⟨rfl,hb1⟩;rw[hc];clear hc;go_wp2_with fail
       refine(fX _ _ _ hp hn).mono ?_;rintro e w' ⟨rfl,rfl⟩;go_wp2_with fail
       refine(jB _ _).mono ?_;rintro e w' ⟨rfl,rfl⟩;go_wp2
       go_ret2
       exact⟨Nl,by rw[HT.o];rfl,by grind [dC.nil,Hid.o],hb1⟩
   · have alp:eu page aR=false:=by grind
     have HT:Hid (dV l page aR q (cW q)=([],3)):=by show _=_;grind [dV]
     clear xw;go_enter Tryz.func121,Tryz.ntmps121;go_wp2_with fail
     refine(jM l v _ h hf).mono ?_;rintro e w1 ⟨rfl,hb1⟩;rw[hc];clear hc;go_wp2_with fail
     refine(fX _ _ _ hp hn).mono ?_;rintro e w' ⟨rfl,rfl⟩;go_wp2
     go_ret2
     exact⟨Nl,by rw[HT.o];rfl,by grind [dC.nil,Hid.o],hb1⟩
 · have HT:Hid (dV l page aR q (cW q)=([],br l)):=by show _=_;grind [dV]
   have hc':(br l != 0)=true:=by grind
   go_enter Tryz.func121,Tryz.ntmps121;go_wp2_with fail
   refine(jM l v _ h hf).mono ?_;rintro e w1 ⟨rfl,hb1⟩;go_wp2
   go_ret2
   exact⟨Nl,by rw[HT.o];rfl,by grind [dC.nil,Hid.o],hb1⟩
theorem Kb (l:List bc) (v:Value) (page aR q:Int) (w:World) (h:eU w v l) (hf:ed l) (hp:-9223372036854775808<=page/\page<=9223372036854775807) (hn:-9223372036854775808<=aR/\aR<=9223372036854775807) :
  Calls Tryz.prog 121 #[v,I page,I aR,I q,.func (.func 123) #[] #[]] w fun e w'=>∃r,e=.returned (.tuple #[r,I (dV l page aR q cH).2])/\dC w.heap.size w' r (dV l page aR q cH).1/\Below w.heap.size w w':=by
 by_cases hc:br l=0
 · by_cases xw:eu page aR=true
   · by_cases Zz:gQ q=true
     · have HT:Hid (dV l page aR q cH=if fh (cu l) cH page.toNat aR.toNat=0 then (fB (cM (cu l) cH page (page+aR)),0) else ([],fh (cu l) cH page.toNat aR.toNat)):=by
        show _=_;grind [dV]
       have hpb:=(iW page aR).1 xw;obtain⟨Z,hZ⟩:=ex (dg (fun _=>gS));have hz:=Ka;rw[<- hZ] at hz;have hZs:Z.size=768:=by grind [gB]
       clear hZ;go_enter Tryz.func121,Tryz.ntmps121;go_wp2_with fail
       refine(jM l v _ h hf).mono ?_;rintro e w1 ⟨rfl,hb1⟩;rw[hc];have HC:Hid (br l=0):=hc;clear hc;go_wp2_with fail
       refine(fX _ _ _ hp hn).mono ?_;rintro e w' ⟨rfl,rfl⟩;go_wp2_with fail
       refine(jB _ _).mono ?_;rintro e w' ⟨rfl,rfl⟩;go_wp2_with fail
       refine(Bb l v _ (h.below hb1) HC.o).mono ?_;rintro e w2 ⟨rfl,hb2⟩;have fq:Hid (Below w.heap.size w w2):=hb1.trans (hb2.mono hb1.size);obtain⟨F,hF⟩:=ex (cu l);rw[<- hF] at HT ⊢;obtain⟨C,hC⟩:=ex (dg F);have Xo:C.size=768:=by grind [gB]
       have HCF:Hid (C=dg F):=hC;rw[<- hC];clear hb1 hb2 hF hC xw Zz;have zR:Hid ((w2.alloc (.cells Z 215)).heap[w2.heap.size]?=some (.cells Z 215 (0,0))):=bG w2 Z 215;go_wp2_with (refine rW rfl 215 _ _ rfl w2.heap.size C rfl rfl 215 Z zR.out (by rw[Xo];exact oh) (by omega) (by grind [tD,Hid.o]) ?_)
       have HA0:Hid (((w2.alloc (.cells Z 215)).setRow w2.heap.size C).heap[w2.heap.size]?=some (.cells C 215 (0,0))):=ng _ _ _ _ 215 (0,0) zR.out;have jo:Hid (Below w.heap.size w ((w2.alloc (.cells Z 215)).setRow w2.heap.size C)):=below_setRow (fq.o.alloc fq.o.size _) fq.o.size _;have Gb:=fq.o.size;go_loopw [14] (fun t wr=>∃n:Nat,page<=(n:Int)/\(n:Int)<=page+aR/\t=I n/\(∀k:Nat,page.toNat<=k->k<n->(cH (F k)).2=0)/\wr.heap[w2.heap.size]?=some (.cells (dg (cM F cH page n)) 215 (0,0))/\Below w.heap.size w wr) (fun t _=>(page+aR-intOf t).toNat)
       case atStart =>
        grind [oZ,Hid.o]
       case round =>
        obtain⟨n,SJ,hn3,rfl,hno,hA,hb⟩:=hrel;have HN:Hid (∀k:Nat,page.toNat<=k->k<n->(cH (F k)).2=0):=hno;have HA:Hid (wr.heap[w2.heap.size]?=some (.cells (dg (cM F cH page n)) 215 (0,0))):=hA;have HB:Hid (Below w.heap.size w wr):=hb;have hAl:w2.heap.size<wr.heap.size:=aO hA;by_cases hin:(n:Int)<page+aR
        · have z0:=aB hA (n*3) (m9 _ n (by omega));have z1:=aB hA (n*3+1) (m8 _ n (by omega));have z2:=aB hA (n*3+2) (m7 _ n (by omega));rw[sM] at z0 z1 z2;have Oq:(n:Int)<256:=by omega
          clear hno hA hb;obtain⟨s,hs⟩:=ex (F n);rw[<- hs] at z0 z1 z2;have HS:Hid (s=F n):=hs;clear hs;go_wp2_with fail
          refine(Sv s _).mono ?_;rintro e w3 ⟨rfl,hb3⟩;have bA:=aQ HA.o hb3 hAl;have y0:=aB bA (n*3) (m9 _ n (by omega));have y1:=aB bA (n*3+1) (m8 _ n (by omega));have y2:=aB bA (n*3+2) (m7 _ n (by omega));have yf:=aJ bA;have xD:Hid (w3.heap[w2.heap.size]?=some (.cells (dg (cM F cH page n)) 215 (0,0))):=bA;have MD:Hid (Below w.heap.size w w3):=HB.o.trans (hb3.mono HB.o.size);have aiK:w2.heap.size<w3.heap.size:=aO bA;clear bA hb3 z0 z1 z2;obtain⟨r,hr⟩:=ex (cH s);rw[<- hr];have HR:Hid (r=cH s):=hr;clear hr;unfold BW;by_cases he:r.2=0
          · have he':(r.2 != 0)=false:=by simp[he]
            have HE:Hid (r.2=0):=he;clear he;go_wp2;go_roundw
            case rel =>
             have mj:=dG (dG (dG xD.o (n*3) (.bool r.1.m)) (n*3+1) (I r.1.p)) (n*3+2) (.bool r.1.z);have est:=pZ F cH page n SJ;rw[<- HS.o,<- HR.o] at est;rw[wO (cM F cH page n) n r.1 (by omega),est] at mj;refine⟨n+1,by omega,by omega,by go_num,fun k h1 h2=>if e:k=n then by rw[e,<- HS.o,<- HR.o];exact HE.o else HN.o k h1 (by omega),?_,?_⟩
             · rw[show((n+1:Nat):Int)=(n:Int)+1 from by omega];exact bE mj _
             · have hb4:=((MD.o.setCell (p:=(Ad w2.heap.size (n*3))) Gb (.bool r.1.m)).setCell (p:=(Ad w2.heap.size (n*3+1))) Gb (I r.1.p)).setCell (p:=(Ad w2.heap.size (n*3+2))) Gb (.bool r.1.z);exact hb4.alloc hb4.size _
            case measure=>simp[intOf];omega
          · have he':(r.2 != 0)=true:=by simpa using he
            have HE:Hid (r.2≠0):=he;clear he;have ht:Hid (dV l page aR q cH=([],r.2)):=by
             have Bo:fh F cH page.toNat aR.toNat=r.2:=by
              rw[HR.o,HS.o];exact qY F cH _ _ n (by omega) (by omega) HN.o (by rw[<- HS.o,<- HR.o];exact HE.o)
             show _=_;rw[HT.o,Bo,bl HE.o]
            go_wp2
            go_ret2
            exact⟨Nl,by rw[ht.out];rfl,by rw[ht.out];exact dC.nil _ _,MD.o.alloc MD.o.size _⟩
        · have hend:Hid ((n:Int)=page+aR):=by show _=_;omega
          have ht:Hid (dV l page aR q cH=(fB (cM F cH page n),0)):=by
           have Bo:fh F cH page.toNat aR.toNat=0:=nK F cH _ _ (fun k h1 h2=>HN.o k h1 (by omega));show _=_;rw[HT.o,Bo,bf rfl,hend.out]
          clear hno hA hb;go_wp2_with (refine ra rfl 215 _ rfl w2.heap.size rfl 215 _ (0,0) _ HA.o Tryz.underlying215 rfl (by rw[gB];exact oh) ?_)
          refine(Bc _ _).mono ?_;rintro e w4 ⟨r,rfl,hr,hb4⟩;go_wp2
          go_ret2
          exact⟨r,by rw[ht.out];rfl,by rw[ht.out];exact hr.mono HB.o.size,HB.o.trans (hb4.mono HB.o.size)⟩
     · have aln:gQ q=false:=by grind
       have HT:Hid (dV l page aR q cH=([],3)):=by show _=_;grind [dV]
       clear Zz;go_enter Tryz.func121,Tryz.ntmps121;go_wp2_with fail
       refine(jM l v _ h hf).mono ?_;rintro e w1 ⟨rfl,hb1⟩;rw[hc];clear hc;go_wp2_with fail
       refine(fX _ _ _ hp hn).mono ?_;rintro e w' ⟨rfl,rfl⟩;go_wp2_with fail
       refine(jB _ _).mono ?_;rintro e w' ⟨rfl,rfl⟩;go_wp2
       go_ret2
       exact⟨Nl,by rw[HT.o];rfl,by grind [dC.nil,Hid.o],hb1⟩
   · have alp:eu page aR=false:=by grind
     have HT:Hid (dV l page aR q cH=([],3)):=by show _=_;grind [dV]
     clear xw;go_enter Tryz.func121,Tryz.ntmps121;go_wp2_with fail
     refine(jM l v _ h hf).mono ?_;rintro e w1 ⟨rfl,hb1⟩;rw[hc];clear hc;go_wp2_with fail
     refine(fX _ _ _ hp hn).mono ?_;rintro e w' ⟨rfl,rfl⟩;go_wp2
     go_ret2
     exact⟨Nl,by rw[HT.o];rfl,by grind [dC.nil,Hid.o],hb1⟩
 · have HT:Hid (dV l page aR q cH=([],br l)):=by show _=_;grind [dV]
   have hc':(br l != 0)=true:=by grind
   go_enter Tryz.func121,Tryz.ntmps121;go_wp2_with fail
   refine(jM l v _ h hf).mono ?_;rintro e w1 ⟨rfl,hb1⟩;go_wp2
   go_ret2
   exact⟨Nl,by rw[HT.o];rfl,by grind [dC.nil,Hid.o],hb1⟩
theorem Gk (l:List bc) (v:Value) (page aR q:Int) (P:Nat) (w:World) (h:eU w v l) (hf:ed l) (hp:-9223372036854775808<=page/\page<=9223372036854775807) (hn:-9223372036854775808<=aR/\aR<=9223372036854775807) (hP:w.cell? (Ad P 0)=some (I q)) :
  Calls Tryz.prog 121 #[v,I page,I aR,I q,.func (.func 124) #[] #[.pointer (some (Ad P 0))]] w fun e w'=>∃r,e=.returned (.tuple #[r,I (dV l page aR q (bO q)).2])/\dC w.heap.size w' r (dV l page aR q (bO q)).1/\Below w.heap.size w w':=by
 by_cases hc:br l=0
 · by_cases xw:eu page aR=true
   · by_cases Zz:gQ q=true
     · have HT:Hid (dV l page aR q (bO q)=if fh (cu l) (bO q) page.toNat aR.toNat=0 then (fB (cM (cu l) (bO q) page (page+aR)),0) else ([],fh (cu l) (bO q) page.toNat aR.toNat)):=by
        show _=_;grind [dV]
       have hpb:=(iW page aR).1 xw;obtain⟨Z,hZ⟩:=ex (dg (fun _=>gS));have hz:=Ka;rw[<- hZ] at hz;have hZs:Z.size=768:=by grind [gB]
       clear hZ;go_enter Tryz.func121,Tryz.ntmps121;go_wp2_with fail
       refine(jM l v _ h hf).mono ?_;rintro e w1 ⟨rfl,hb1⟩;rw[hc];have HC:Hid (br l=0):=hc;clear hc;go_wp2_with fail
       refine(fX _ _ _ hp hn).mono ?_;rintro e w' ⟨rfl,rfl⟩;go_wp2_with fail
       refine(jB _ _).mono ?_;rintro e w' ⟨rfl,rfl⟩;go_wp2_with fail
       refine(Bb l v _ (h.below hb1) HC.o).mono ?_;rintro e w2 ⟨rfl,hb2⟩;have fq:Hid (Below w.heap.size w w2):=hb1.trans (hb2.mono hb1.size);obtain⟨F,hF⟩:=ex (cu l);rw[<- hF] at HT ⊢;obtain⟨C,hC⟩:=ex (dg F);have Xo:C.size=768:=by grind [gB]
       have HCF:Hid (C=dg F):=hC;rw[<- hC];clear hb1 hb2 hF hC xw Zz;have zR:Hid ((w2.alloc (.cells Z 215)).heap[w2.heap.size]?=some (.cells Z 215 (0,0))):=bG w2 Z 215;go_wp2_with (refine rW rfl 215 _ _ rfl w2.heap.size C rfl rfl 215 Z zR.out (by rw[Xo];exact oh) (by omega) (by grind [tD,Hid.o]) ?_)
       have HA0:Hid (((w2.alloc (.cells Z 215)).setRow w2.heap.size C).heap[w2.heap.size]?=some (.cells C 215 (0,0))):=ng _ _ _ _ 215 (0,0) zR.out;have jo:Hid (Below w.heap.size w ((w2.alloc (.cells Z 215)).setRow w2.heap.size C)):=below_setRow (fq.o.alloc fq.o.size _) fq.o.size _;have Gb:=fq.o.size;go_loopw [14] (fun t wr=>∃n:Nat,page<=(n:Int)/\(n:Int)<=page+aR/\t=I n/\(∀k:Nat,page.toNat<=k->k<n->((bO q) (F k)).2=0)/\wr.heap[w2.heap.size]?=some (.cells (dg (cM F (bO q) page n)) 215 (0,0))/\Below w.heap.size w wr) (fun t _=>(page+aR-intOf t).toNat)
       case atStart =>
        grind [oZ,Hid.o]
       case round =>
        obtain⟨n,SJ,hn3,rfl,hno,hA,hb⟩:=hrel;have HN:Hid (∀k:Nat,page.toNat<=k->k<n->((bO q) (F k)).2=0):=hno;have HA:Hid (wr.heap[w2.heap.size]?=some (.cells (dg (cM F (bO q) page n)) 215 (0,0))):=hA;have HB:Hid (Below w.heap.size w wr):=hb;have hAl:w2.heap.size<wr.heap.size:=aO hA;have hPw:wr.cell? (Ad P 0)=some (I q):=(hb.cell (p:=(Ad P 0)) (nQ w _ hP)).trans hP;by_cases hin:(n:Int)<page+aR
        · have z0:=aB hA (n*3) (m9 _ n (by omega));have z1:=aB hA (n*3+1) (m8 _ n (by omega));have z2:=aB hA (n*3+2) (m7 _ n (by omega));rw[sM] at z0 z1 z2;have Oq:(n:Int)<256:=by omega
          clear hno hA hb;obtain⟨s,hs⟩:=ex (F n);rw[<- hs] at z0 z1 z2;have HS:Hid (s=F n):=hs;clear hs;go_wp2_with fail
          refine(Nv s q P _ hPw).mono ?_;rintro e w3 ⟨rfl,hb3⟩;have bA:=aQ HA.o hb3 hAl;have y0:=aB bA (n*3) (m9 _ n (by omega));have y1:=aB bA (n*3+1) (m8 _ n (by omega));have y2:=aB bA (n*3+2) (m7 _ n (by omega));have yf:=aJ bA;have xD:Hid (w3.heap[w2.heap.size]?=some (.cells (dg (cM F (bO q) page n)) 215 (0,0))):=bA;have MD:Hid (Below w.heap.size w w3):=HB.o.trans (hb3.mono HB.o.size);have aiK:w2.heap.size<w3.heap.size:=aO bA;clear bA hb3 z0 z1 z2;obtain⟨r,hr⟩:=ex ((bO q) s);rw[<- hr];have HR:Hid (r=(bO q) s):=hr;clear hr;unfold BW;by_cases he:r.2=0
          · have he':(r.2 != 0)=false:=by simp[he]
            have HE:Hid (r.2=0):=he;clear he;go_wp2;go_roundw
            case rel =>
             have mj:=dG (dG (dG xD.o (n*3) (.bool r.1.m)) (n*3+1) (I r.1.p)) (n*3+2) (.bool r.1.z);have est:=pZ F (bO q) page n SJ;rw[<- HS.o,<- HR.o] at est;rw[wO (cM F (bO q) page n) n r.1 (by omega),est] at mj;refine⟨n+1,by omega,by omega,by go_num,fun k h1 h2=>if e:k=n then by rw[e,<- HS.o,<- HR.o];exact HE.o else HN.o k h1 (by omega),?_,?_⟩
             · rw[show((n+1:Nat):Int)=(n:Int)+1 from by omega];exact bE mj _
             · have hb4:=((MD.o.setCell (p:=(Ad w2.heap.size (n*3))) Gb (.bool r.1.m)).setCell (p:=(Ad w2.heap.size (n*3+1))) Gb (I r.1.p)).setCell (p:=(Ad w2.heap.size (n*3+2))) Gb (.bool r.1.z);exact hb4.alloc hb4.size _
            case measure=>simp[intOf];omega
          · have he':(r.2 != 0)=true:=by simpa using he
            have HE:Hid (r.2≠0):=he;clear he;have ht:Hid (dV l page aR q (bO q)=([],r.2)):=by
             have Bo:fh F (bO q) page.toNat aR.toNat=r.2:=by
              rw[HR.o,HS.o];exact qY F (bO q) _ _ n (by omega) (by omega) HN.o (by rw[<- HS.o,<- HR.o];exact HE.o)
             show _=_;rw[HT.o,Bo,bl HE.o]
            go_wp2
            go_ret2
            exact⟨Nl,by rw[ht.out];rfl,by rw[ht.out];exact dC.nil _ _,MD.o.alloc MD.o.size _⟩
        · have hend:Hid ((n:Int)=page+aR):=by show _=_;omega
          have ht:Hid (dV l page aR q (bO q)=(fB (cM F (bO q) page n),0)):=by
           have Bo:fh F (bO q) page.toNat aR.toNat=0:=nK F (bO q) _ _ (fun k h1 h2=>HN.o k h1 (by omega));show _=_;rw[HT.o,Bo,bf rfl,hend.out]
          clear hno hA hb;go_wp2_with (refine ra rfl 215 _ rfl w2.heap.size rfl 215 _ (0,0) _ HA.o Tryz.underlying215 rfl (by rw[gB];exact oh) ?_)
          refine(Bc _ _).mono ?_;rintro e w4 ⟨r,rfl,hr,hb4⟩;go_wp2
          go_ret2
          exact⟨r,by rw[ht.out];rfl,by rw[ht.out];exact hr.mono HB.o.size,HB.o.trans (hb4.mono HB.o.size)⟩
     · have aln:gQ q=false:=by grind
       have HT:Hid (dV l page aR q (bO q)=([],3)):=by show _=_;grind [dV]
       clear Zz;go_enter Tryz.func121,Tryz.ntmps121;go_wp2_with fail
       refine(jM l v _ h hf).mono ?_;rintro e w1 ⟨rfl,hb1⟩;rw[hc];clear hc;go_wp2_with fail
       refine(fX _ _ _ hp hn).mono ?_;rintro e w' ⟨rfl,rfl⟩;go_wp2_with fail
       refine(jB _ _).mono ?_;rintro e w' ⟨rfl,rfl⟩;go_wp2
       go_ret2
       exact⟨Nl,by rw[HT.o];rfl,by grind [dC.nil,Hid.o],hb1⟩
   · have alp:eu page aR=false:=by grind
     have HT:Hid (dV l page aR q (bO q)=([],3)):=by show _=_;grind [dV]
     clear xw;go_enter Tryz.func121,Tryz.ntmps121;go_wp2_with fail
     refine(jM l v _ h hf).mono ?_;rintro e w1 ⟨rfl,hb1⟩;rw[hc];clear hc;go_wp2_with fail
     refine(fX _ _ _ hp hn).mono ?_;rintro e w' ⟨rfl,rfl⟩;go_wp2
     go_ret2
     exact⟨Nl,by rw[HT.o];rfl,by grind [dC.nil,Hid.o],hb1⟩
 · have HT:Hid (dV l page aR q (bO q)=([],br l)):=by show _=_;grind [dV]
   have hc':(br l != 0)=true:=by grind
   go_enter Tryz.func121,Tryz.ntmps121;go_wp2_with fail
   refine(jM l v _ h hf).mono ?_;rintro e w1 ⟨rfl,hb1⟩;go_wp2
   go_ret2
   exact⟨Nl,by rw[HT.o];rfl,by grind [dC.nil,Hid.o],hb1⟩
def eY (l:List bc) (page aR q:Int):List bc×Int:=dV l page aR q (cW q)
def dA (l:List bc) (page aR:Int):List bc×Int:=dV l page aR 0 cH
def cK (l:List bc) (page aR q:Int):List bc×Int:=dV l page aR q (bO q)
def nW (n:Int):Prop:=-9223372036854775808<=n/\n<=9223372036854775807
theorem Qy (l:List bc) (v:Value) (page aR q:Int) (w:World) (h:eU w v l) (hf:ed l) (hp:nW page) (hn:nW aR) :
  Calls Tryz.prog 74 #[v,I page,I aR,I q] w fun e w'=>∃r,e=.returned (.tuple #[r,I (eY l page aR q).2])/\dC w.heap.size w' r (eY l page aR q).1/\Below w.heap.size w w':=by
 have hb0:Below w.heap.size w (w.alloc (.cells #[I q] 3)):=(aK _ _).alloc (aM _) _;have hP:=aB (bG w #[I q] 3) 0 rfl;have H:=h.below hb0;have HP:Hid ((w.alloc (.cells #[I q] 3)).cell? (Ad w.heap.size 0)=some (I q)):=hP;clear hP;go_enter Tryz.func74,Tryz.ntmps74;go_wp2_with fail
 refine(Nt l v page aR q w.heap.size _ H hf hp hn HP.o).mono ?_;rintro e w1 ⟨r,rfl,hr,hb1⟩;go_wp2
 go_ret2
 exact⟨r,rfl,hr.mono hb0.size,hb0.trans (hb1.mono hb0.size)⟩
theorem Wq (l:List bc) (v:Value) (page aR:Int) (w:World) (h:eU w v l) (hf:ed l) (hp:nW page) (hn:nW aR) :
  Calls Tryz.prog 76 #[v,I page,I aR] w fun e w'=>∃r,e=.returned (.tuple #[r,I (dA l page aR).2])/\dC w.heap.size w' r (dA l page aR).1/\Below w.heap.size w w':=by
 go_enter Tryz.func76,Tryz.ntmps76;go_wp2_with fail
 refine(Kb l v page aR 0 _ h hf hp hn).mono ?_;rintro e w1 ⟨r,rfl,hr,hb1⟩;go_wp2
 go_ret2
 exact⟨r,rfl,hr,hb1⟩
theorem Qx (l:List bc) (v:Value) (page aR q:Int) (w:World) (h:eU w v l) (hf:ed l) (hp:nW page) (hn:nW aR) :
  Calls Tryz.prog 78 #[v,I page,I aR,I q] w fun e w'=>∃r,e=.returned (.tuple #[r,I (cK l page aR q).2])/\dC w.heap.size w' r (cK l page aR q).1/\Below w.heap.size w w':=by
 have hb0:Below w.heap.size w (w.alloc (.cells #[I q] 3)):=(aK _ _).alloc (aM _) _;have hP:=aB (bG w #[I q] 3) 0 rfl;have H:=h.below hb0;have HP:Hid ((w.alloc (.cells #[I q] 3)).cell? (Ad w.heap.size 0)=some (I q)):=hP;clear hP;go_enter Tryz.func78,Tryz.ntmps78;go_wp2_with fail
 refine(Gk l v page aR q w.heap.size _ H hf hp hn HP.o).mono ?_;rintro e w1 ⟨r,rfl,hr,hb1⟩;go_wp2
 go_ret2
 exact⟨r,rfl,hr.mono hb0.size,hb0.trans (hb1.mono hb0.size)⟩
theorem abL {l:List bc} (h:∀a∈l,yr a) (hn:l.length<=140737488351232):ed l:=by
 refine⟨fun i hi=>?_,hn⟩
 grind [bB]
theorem Dj:ed []:=abL (fun a h=>by simp at h) (by simp)
theorem Fb (l:List bc) (page aR q:Int) (how:dH->dH×Int) (h:(dV l page aR q how).2≠0):(dV l page aR q how).1=[]:=by
 grind [dV]
theorem vV (l:List bc) (page aR q:Int) (how:dH->dH×Int) (h:(dV l page aR q how).2=0) :
  br l=0/\eu page aR=true/\gQ q=true/\fh (cu l) how page.toNat aR.toNat=0/\(dV l page aR q how).1=fB (cM (cu l) how page (page+aR)):=by
 grind [dV]
theorem MJ (l:List bc) (page t q:Int) (hc:br l=0) (hp:1<=page) (hq:0<=q/\q<=3):kE (cM (cu l) (cW q) page t) :=
 zo _ (oO l hc) _ _ _ hp (fun s _ h=>by
  grind [cW]) (fun s h=>by
  grind [cW])
theorem GM (l:List bc) (page t:Int) (hc:br l=0) (hp:1<=page):kE (cM (cu l) cH page t) :=
 zo _ (oO l hc) _ _ _ hp (fun s _ _=>rfl) (fun s _=>⟨by simp[cH,gS],by simp[cH,gS]⟩)
theorem DJ (l:List bc) (page t q:Int) (hc:br l=0) (hp:1<=page) (hq:0<=q/\q<=3):kE (cM (cu l) (bO q) page t) :=
 zo _ (oO l hc) _ _ _ hp (fun s hs h=>by
  grind [bO]) (fun s h=>by
  grind [bO])
theorem xt (q:Int):gQ q=true↔0<=q/\q<=3:=⟨fun h=>jH h,fun h=>dh h⟩
theorem yq (l:List bc) (page aR q:Int) (h:(eY l page aR q).2=0) :
  br (eY l page aR q).1=0/\(∀p:Nat,1<=p->p<=255 ->
   (page<=(p:Int)/\(p:Int)<page+aR->(aV l p).2=false/\(aV (eY l page aR q).1 p).2=true/\(aV (eY l page aR q).1 p).1.fV=q/\(aV (eY l page aR q).1 p).1.zero=true) /\
   (¬(page<=(p:Int)/\(p:Int)<page+aR)->(aV (eY l page aR q).1 p).2=(aV l p).2/\(aV (eY l page aR q).1 p).1.fV=(aV l p).1.fV/\(aV (eY l page aR q).1 p).1.zero=(aV l p).1.zero)):=by
 obtain⟨hc,xw,hq,he,hr⟩:=vV _ _ _ _ _ h;have hpb:=(iW page aR).1 xw;have hF:=MJ l page (page+aR) q hc hpb.1 ((xt q).1 hq);have hr':(eY l page aR q).1=_:=hr;rw[hr'];refine⟨qO _ hF,fun p h1 h2=>?_⟩;have fg:=zt _ hF p (by omega);have fs:=zq l hc p;refine⟨fun hin=>?_,fun hout=>?_⟩
 · have he':=Fm _ _ _ _ he p (by omega) (by omega)
   grind [cW,cM]
 grind [cM]
theorem uX (l:List bc) (page aR:Int) (h:(dA l page aR).2=0) :
  br (dA l page aR).1=0/\(∀p:Nat,1<=p->p<=255 ->
   (page<=(p:Int)/\(p:Int)<page+aR->(aV (dA l page aR).1 p).2=false) /\
   (¬(page<=(p:Int)/\(p:Int)<page+aR)->(aV (dA l page aR).1 p).2=(aV l p).2/\(aV (dA l page aR).1 p).1.fV=(aV l p).1.fV/\(aV (dA l page aR).1 p).1.zero=(aV l p).1.zero)):=by
 obtain⟨hc,xw,hq,he,hr⟩:=vV _ _ _ _ _ h;have hpb:=(iW page aR).1 xw;have hF:=GM l page (page+aR) hc hpb.1;have hr':(dA l page aR).1=_:=hr;rw[hr'];refine⟨qO _ hF,fun p h1 h2=>?_⟩;have fg:=zt _ hF p (by omega);have fs:=zq l hc p;refine⟨fun hin=>?_,fun hout=>?_⟩
 · simp only[cM] at fg;rw[bf hin] at fg;exact fg.1
 grind [cM]
theorem sK (l:List bc) (page aR q:Int) (h:(cK l page aR q).2=0) :
  br (cK l page aR q).1=0/\(∀p:Nat,1<=p->p<=255 ->
   ((aV (cK l page aR q).1 p).2=(aV l p).2/\(aV (cK l page aR q).1 p).1.zero=(aV l p).1.zero) /\
   (page<=(p:Int)/\(p:Int)<page+aR->(aV (cK l page aR q).1 p).2=true/\(aV (cK l page aR q).1 p).1.fV=q) /\
   (¬(page<=(p:Int)/\(p:Int)<page+aR)->(aV (cK l page aR q).1 p).1.fV=(aV l p).1.fV)):=by
 obtain⟨hc,xw,hq,he,hr⟩:=vV _ _ _ _ _ h;have hpb:=(iW page aR).1 xw;have hF:=DJ l page (page+aR) q hc hpb.1 ((xt q).1 hq);have hr':(cK l page aR q).1=_:=hr;rw[hr'];refine⟨qO _ hF,fun p h1 h2=>?_⟩;have fg:=zt _ hF p (by omega);have fs:=zq l hc p;simp only[cM] at fg;by_cases hin:page<=(p:Int)/\(p:Int)<page+aR
 · have he':=Fm _ _ _ _ he p (by omega) (by omega)
   grind [bO]
 grind
theorem QA (l:List bc) (page aR q:Int):ed (eY l page aR q).1:=by
 by_cases h:(eY l page aR q).2=0
 · exact lD _ (yq l page aR q h).1
 grind [eY,Fb,Dj]
theorem Ww (l:List bc) (page aR:Int):ed (dA l page aR).1:=by
 by_cases h:(dA l page aR).2=0
 · exact lD _ (uX l page aR h).1
 grind [dA,Fb,Dj]
theorem Qz (l:List bc) (page aR q:Int):ed (cK l page aR q).1:=by
 by_cases h:(cK l page aR q).2=0
 · exact lD _ (sK l page aR q h).1
 grind [cK,Fb,Dj]
end Go.Proofs.YtpgifpeohlllfaaGreat
end Go.Proofs.YtpgifpeohlllfaaGreat
