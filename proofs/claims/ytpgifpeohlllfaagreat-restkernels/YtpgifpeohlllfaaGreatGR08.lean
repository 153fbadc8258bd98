import Derived.Test.YtpgifpeohlllfaaGreatGR07
import Derived.Lib.Repeat
import Derived.Test.YtpgifpeohlllfaaGreatChecked
import Derived.Deep.Slices
import Derived.ProofKit
set_option maxHeartbeats 20000000
set_option linter.unusedVariables false
set_option maxRecDepth 100000
set_option linter.unusedSimpArgs false
namespace Go.Proofs.YtpgifpeohlllfaaGreat
open Go.RowKit Go.WideMaps Go.Maps
structure gT where
 i:tu
 a:Fu
def VT:gT:=⟨⟨⟨#[]⟩,[],[],[],[],0⟩,⟨none,0,none,0,none,0,none,0⟩⟩
def cB (l:List gT) (k:Nat):gT:=l.getD k VT
def xN (x:gT):Value:=.agg (iW x.a x.i)
def F8 (w:World) (b off:Nat) (l:List gT):Prop:=∀k,k<l.length ->
 (w.cell? (Ad b (off+k*6))=some (.string (cB l k).i.name)/\w.cell? (Ad b (off+k*6+1))=some (.slice (cB l k).a.an (cB l k).i.needs.length (cB l k).a.cn) /\
  w.cell? (Ad b (off+k*6+2))=some (.slice (cB l k).a.ag (cB l k).i.iV.length (cB l k).a.cg)/\w.cell? (Ad b (off+k*6+3))=some (.slice (cB l k).a.ay (cB l k).i.syms.length (cB l k).a.cy) /\
  w.cell? (Ad b (off+k*6+4))=some (.slice (cB l k).a.ar (cB l k).i.n7.length (cB l k).a.cr)/\w.cell? (Ad b (off+k*6+5))=some (I (cB l k).i.entry))/\od w (cB l k).a (cB l k).i
theorem acR {w w':World} {b off:Nat} {l:List gT} (hb:Below w.heap.size w w') (hlt:b<w.heap.size) (h:F8 w b off l):F8 w' b off l:=fun k hk=>by
 obtain⟨⟨c0,c1,c2,c3,c4,c5⟩,hi⟩:=h k hk
 grind [fF,od.below]
def zO (w:World) (ao:Option Addr) (l:List gT):Prop:=gB F8 w ao l
theorem zO.below {w w':World} {ao:Option Addr} {l:List gT} (h:zO w ao l) (hb:Below w.heap.size w w'):zO w' ao l:=gB.below (lie:=F8) (fun hb hlt h=>acR hb hlt h) h hb
def Yn (l:List gT):Prop:=bT l.length/\∀k,k<l.length->Fs (cB l k).i
def mJ (l:List gT):Nat->Int
 | 0=>0
 | k+1=>if mJ l k=0 then kY (cB l k).i else mJ l k
def jo (l:List gT):List ByteArray:=l.map (·.i.name)
def mK (l:List gT):Int:=if mJ l l.length=0 then (if ud (jo l) then 0 else 5) else mJ l l.length
theorem Bv (l:List gT) (k:Nat) (h:mJ l k≠0):∀n,k<=n->mJ l n=mJ l k
 | 0,hn=>by grind
 | n+1,hn=>by
  by_cases e:k=n+1
  · grind
  · have ih:=Bv l k h n (by omega)
    grind [mJ]
theorem DB (l:List gT):∀n,mJ l n=0->∀k,k<n->kY (cB l k).i=0
 | 0,_,k,hk=>by omega
 | n+1,h,k,hk=>by
  simp only[mJ] at h;by_cases e0:mJ l n=0
  · rw[aR e0] at h;by_cases e:k=n
    · grind
    · exact DB l n e0 k (by omega)
  omega
theorem FT (l:List gT) (k:Nat) (hk:k<l.length):oU (jo l) k=(cB l k).i.name:=by
 grind [oU,jo,cB]
theorem qj (l:List gT):(jo l).length=l.length:=by simp[jo]
def TA (v:Value):Option (DataW Value×List MemPlace):=some (.held v,[])
def acM:Value:=.agg #[.string ⟨#[]⟩,Nl,Nl,Nl,Nl,I 0]
structure FY (l:List gT) (k:Nat) (D:DataW Value):Prop where
 has:∀s,Maps.has D (yi s)=((jo l).take k).contains s
 at_:mG (jo l) k=true->∀j,j<k->D.atKey (yi (cB l j).i.name) (.held acM)=.held (xN (cB l j))
 le:Maps.size D<=k
 all:Maps.size D=k↔mG (jo l) k=true
theorem VQ (l:List gT):FY l 0 (.map []):=⟨fun s=>by rfl,fun _ j hj=>by omega,by simp[Maps.size],by simp[Maps.size,mG]⟩
theorem VS (l:List gT) (k j:Nat) (hj:j<k) (hk:k<=l.length):((jo l).take k).contains (cB l j).i.name=true:=by
 have h1:j<((jo l).take k).length:=by grind [qj]
 have h2:((jo l).take k)[j]=(cB l j).i.name:=by
  rw[List.getElem_take];have h3:j<(jo l).length:=by grind
  have:=FT l j (by omega)
  grind [oU]
 grind
theorem VR {l:List gT} {k:Nat} {D:DataW Value} (hk:k<l.length) (hD:IsMap D) (hT:Maps.Tidy D) (h:FY l k D):FY l (k+1) (D.put (yi (cB l k).i.name) (.held (xN (cB l k)))):=by
 have hc:=fun s=>AG (jo l) k (by grind [qj]) s
 have hat:=FT l k hk;have hon:mG (jo l) (k+1)=(mG (jo l) k&&!((jo l).take k).contains (cB l k).i.name):=by grind [mG]
 have hsz:=Maps.size_put (k:=yi (cB l k).i.name) hT (.held (xN (cB l k)));rw[h.has] at hsz;refine⟨fun s=>?_,fun ho j hj=>?_,?_,?_⟩
 · rw[hc s,hat];by_cases e:s=(cB l k).i.name
   · subst e;rw[Maps.has_put_same hD (by trivial)];simp
   grind [Maps.has_put_other,Eh,FY.has]
 · rw[hon] at ho;simp only[cR,Kn] at ho;by_cases e:j=k
   · subst e;exact atKey_put_same hD (by trivial) _ _
   grind [VS,atKey_put_other,Eh,FY.at_]
 · have:=h.le
   grind
 · rw[hon];have h1:=h.le
   grind [FY.all]
open Go.RowKit
open Go.RowKit
open Go.RowKit Go.WideMaps Go.Maps
def acL (l:List gT) (w:World) (e:Ending) (w':World):Prop:=Below w.heap.size w w' /\
 if mK l=0 then ∃m D,e=.returned (.tuple #[.map (some m),I 0])/\w'.ownsMap Tryz.prog 9 TA m l.length D/\FY l l.length D
 else e=.returned (.tuple #[.map none,I (mK l)])
open Go.RowKit
open Go.RowKit
def acS (all:List gT) (s:ByteArray):Option Nat:=all.findIdx? (fun x=>decide (x.i.name=s))
def aaP (ix:List Nat) (j:Nat):List Nat:=if ix.contains j then ix else ix++[j]
def Ty (all:List gT) (ix:List Nat) (needs:List ByteArray):Nat->Option (List Nat)
 | 0=>some ix
 | k+1=>match Ty all ix needs k with
  | none=>none
  | some ix'=>match acS all (oU needs k) with
   | none=>none
   | some j=>some (aaP ix' j)
def Lq (all:List gT) (ix:List Nat) (n:Nat):List ByteArray:=(cB all (ix.getD n 0)).i.needs
def Hv (all:List gT):Nat->Nat->List Nat->Option (List Nat)
 | 0,_,ix=>some ix
 | f+1,n,ix=>if n<ix.length then (match Ty all ix (Lq all ix n) (Lq all ix n).length with
  | none=>none
  | some ix'=>Hv all f (n+1) ix') else some ix
structure Da (all:List gT) (ix:List Nat):Prop where
 pos:0<ix.length
 nodup:ix.Nodup
 lt:∀j∈ix,j<all.length
theorem Hs:∀(L:Nat) (ix:List Nat),ix.Nodup->(∀j∈ix,j<L)->ix.length<=L
 | 0,ix,_,h=>by
  cases ix with
  | nil=>grind
  | cons x r=>grind [List.mem_cons_self]
 | L+1,ix,hn,h=>by
  by_cases e:L∈ix
  · have h1:=Hs L (ix.erase L) (hn.erase L) (fun j hj=>by
     grind)
    grind
  · have:=Hs L ix hn (fun j hj=>by
     grind)
    omega
theorem Da.le {all:List gT} {ix:List Nat} (h:Da all ix):ix.length<=all.length:=Hs _ _ h.nodup h.lt
def eJ (all:List gT):Int->List Nat->List jt
 | _,[]=>[]
 | b,j::r=>⟨(cB all j).i,(cB all j).a,b⟩::eJ all (ui ⟨(cB all j).i,(cB all j).a,b⟩) r
def iY (all:List gT):Int->List Nat->Int
 | b,[]=>b
 | b,j::r=>iY all (ui ⟨(cB all j).i,(cB all j).a,b⟩) r
theorem jB (all:List gT):∀(ix:List Nat) (b:Int),(eJ all b ix).length=ix.length
 | [],_=>rfl
 | j::r,b=>by simp only[eJ,xC,jB all r]
theorem AO (all:List gT) (j:Nat):∀(ix:List Nat) (b:Int),eJ all b (ix++[j])=eJ all b ix++[⟨(cB all j).i,(cB all j).a,iY all b ix⟩]
 | [],b=>rfl
 | k::r,b=>by simp only[Kj,eJ,iY,AO all j r]
theorem AQ (all:List gT) (j:Nat):∀(ix:List Nat) (b:Int),iY all b (ix++[j])=ui ⟨(cB all j).i,(cB all j).a,iY all b ix⟩
 | [],b=>rfl
 | k::r,b=>by simp only[Kj,iY,AQ all j r]
theorem qP (all:List gT):∀(ix:List Nat) (b:Int) (k:Nat),k<ix.length->(dA (eJ all b ix) k).i=(cB all (ix.getD k 0)).i/\(dA (eJ all b ix) k).a=(cB all (ix.getD k 0)).a/\(dA (eJ all b ix) k).base=iY all b (ix.take k)
 | [],_,k,hk=>by grind
 | j::r,b,0,_=>⟨rfl,rfl,rfl⟩
 | j::r,b,k+1,hk=>by
  have:=qP all r (ui ⟨(cB all j).i,(cB all j).a,b⟩) k (by grind)
  grind [dA,eJ,iY]
theorem JJ (all:List gT) (ix:List Nat) (b:Int) (h:0<ix.length):ui (dA (eJ all b ix) (ix.length-1))=iY all b ix:=by
 obtain⟨r,j,rfl⟩:∃r j,ix=r++[j]:=⟨ix.dropLast,ix.getLast (by grind),(XV _).symm⟩
 grind [AO,AQ,jB,dA]
theorem xP (all:List gT) (hc:∀j,j<all.length->kY (cB all j).i=0):∀(ix:List Nat) (b:Int),(∀j∈ix,j<all.length)->b<=iY all b ix/\iY all b ix<=b+255*(ix.length:Int)
 | [],b,_=>by simp[iY]
 | j::r,b,h=>by
  have hl:=Bu (hc j (h j C4));have ih:=xP all hc r (ui ⟨(cB all j).i,(cB all j).a,b⟩) (fun k hk=>h k (E5 _ hk))
  grind [iY,ui]
open Go.RowKit Go.WideMaps Go.Maps
theorem rN {α:Type} (f:α->List Value) (c:Nat) (hc:∀x,(f x).length=c) (d:α):∀(l:List α) (i j:Nat),i<l.length->j<c->(l.flatMap f)[i*c+j]?=(f (l.getD i d))[j]?
 | a::r,0,j,_,hj=>by
  grind
 | a::r,i+1,j,hi,hj=>by
  rw[mS,E8 (by grind),hc,show(i+1)*c+j-c=i*c+j by grind];exact rN f c hc d r i j (by grind) hj
def KH (all:List gT) (R:Option (List Nat)) (w:World) (e:Ending) (w':World):Prop:=Below w.heap.size w w'/\match R with
 | none=>e=.returned (.tuple #[Nl,.bool false])
 | some ix=>Da all ix/\∃ao cap,e=.returned (.tuple #[.slice ao ix.length cap,.bool true])/\Gb w' ao (eJ all 1 ix)
structure aec (all:List gT) (m:Nat) (D:DataW Value) (w:World):Prop where
 pos:0<all.length
 few:all.length<=7
 chk:∀j,j<all.length->kY (cB all j).i=0
 fit:∀j,j<all.length->Fs (cB all j).i
 once:ud (jo all)=true
 im:∀j,j<all.length->od w (cB all j).a (cB all j).i
 map:w.ownsMap Tryz.prog 9 TA m all.length D
 nm:FY all all.length D
open Go.RowKit Go.WideMaps Go.Maps
theorem zK {w w':World} {base:Nat} {e:TypeId} {size:Nat} {v:Value} {n:Nat} {xs:List Value} (h:w.ownsRow base e size v n xs) (hb:Below w.heap.size w w'):w'.ownsRow base e size v n xs:=by
 refine⟨h.1,?_⟩;rcases h.2 with h2 | ⟨g,cap,cur,hv,hbg,hg,rest⟩
 · grind
 · exact .inr ⟨g,cap,cur,hv,hbg,(hb.block g (aT hg)).trans hg,rest⟩
open Go.RowKit
def oV:ByteArray:=⟨(Lib.repeatL [0] 16).toArray⟩
theorem AH:oV.size=16:=rfl
def su (s:nO) (n:Nat):ByteArray:=gF oV 0 (s.data.extract (min (n*16) s.data.size) (min (min (n*16) s.data.size+16) s.data.size))
theorem JK (s:ByteArray) (a b:Nat) (h1:a<=b) (h2:b<=s.size):(s.extract a b).size=b-a:=by
 simp_all
structure nj where
 pos:Int
 bytes:ByteArray
def VO:nj:=⟨0,⟨#[]⟩⟩
def ug (l:List nj) (k:Nat):nj:=l.getD k VO
def FZ (w:World) (b off:Nat) (l:List nj):Prop:=∀i,i<l.length->w.cell? (Ad b (off+i*2))=some (I (ug l i).pos)/\w.cell? (Ad b (off+i*2+1))=some (.string (ug l i).bytes)
theorem acP {w w':World} {b off:Nat} {l:List nj} (hb:Below w.heap.size w w') (hlt:b<w.heap.size) (h:FZ w b off l):FZ w' b off l:=fun i hi=>by
 obtain⟨c0,c1⟩:=h i hi
 grind [fF]
def Ga (w:World) (ao:Option Addr) (l:List nj):Prop:=gB FZ w ao l
theorem Ga.below {w w':World} {ao:Option Addr} {l:List nj} (h:Ga w ao l) (hb:Below w.heap.size w w'):Ga w' ao l:=gB.below (lie:=FZ) (fun hb hlt h=>acP hb hlt h) h hb
def FW (p:nj):List Value:=[I p.pos,.string p.bytes]
def y9 (f:kW):List Value:=[I f.off,.string f.bytes]
def Qx (p:nj):Prop:=0<=p.pos/\p.pos<=1000000/\p.bytes.size=8
def zM (page:Int) (p:nj):List kW:=if max (page*16) p.pos<min (page*16+16) (p.pos+8) then [⟨max (page*16) p.pos-page*16,p.bytes.extract (max (page*16) p.pos-p.pos).toNat (max (page*16) p.pos-p.pos+(min (page*16+16) (p.pos+8)-max (page*16) p.pos)).toNat⟩] else []
def jI (page:Int) (ps:List nj):List kW:=ps.flatMap (zM page)
theorem Qp {α:Type} (l:List α) (d:α) (k:Nat) (h:k<l.length):l.take (k+1)=l.take k++[l.getD k d]:=by
 simp_all
theorem VU (page:Int) (p:nj):(zM page p).length<=1:=by
 grind [zM]
theorem FU (page:Int):∀ps:List nj,(jI page ps).length<=ps.length
 | []=>by simp[jI]
 | p::r=>by
  have h1:=FU page r
  grind [VU,jI]
theorem Lu (page:Int) (l:List nj) (p:nj):jI page (l++[p])=jI page l++zM page p:=by
 grind [jI]
open Go.RowKit
theorem J1 (l:List aZ) (v:Value) (page bC q:Int) (P:Nat) (w:World) (h:fu w v l) (hf:fU l) (hp:-9223372036854775808<=page/\page<=9223372036854775807) (hn:-9223372036854775808<=bC/\bC<=9223372036854775807) (hP:w.cell? (Ad P 0)=some (I q)) :
  Calls Tryz.prog 121 #[v,I page,I bC,I q,.func (.func 122) #[] #[.pointer (some (Ad P 0))]] w fun e w'=>∃r,e=.returned (.tuple #[r,I (kL l page bC q (fh q)).2])/\gQ w.heap.size w' r (kL l page bC q (fh q)).1/\Below w.heap.size w w':=by
 by_cases hc:bB l=0
 · by_cases Jz:fC page bC=true
   · by_cases hqq:jx q=true
     · have HT:Hid (kL l page bC q (fh q)=if kM (eK l) (fh q) page.toNat bC.toNat=0 then (gw (ie (eK l) (fh q) page (page+bC)),0) else ([],kM (eK l) (fh q) page.toNat bC.toNat)):=by
        show _=_;grind [kL]
       have hpb:=(nX page bC).1 Jz;obtain⟨Z,hZ⟩:=ex (dC (fun _=>gS));have hz:=Sg;rw[<- hZ] at hz;have hZs:Z.size=768:=by grind [jh]
       clear hZ;go_enter Tryz.func121,Tryz.ntmps121;go_wp2_with fail
       refine(qE l v _ h hf).mono ?_;rintro e w1 ⟨rfl,hb1⟩;rw[hc];have HC:Hid (bB l=0):=hc;clear hc;go_wp2_with fail
       refine(jF _ _ _ hp hn).mono ?_;rintro e w' ⟨rfl,rfl⟩;go_wp2_with fail
       refine(mE _ _).mono ?_;rintro e w' ⟨rfl,rfl⟩;go_wp2_with fail
       refine(Oy l v _ (h.below hb1) HC.o).mono ?_;rintro e w2 ⟨rfl,hb2⟩;have gj:Hid (Below w.heap.size w w2):=hb1.trans (hb2.mono hb1.size);obtain⟨F,hF⟩:=ex (eK l);rw[<- hF] at HT ⊢;obtain⟨C,hC⟩:=ex (dC F);have hCs:C.size=768:=by grind [jh]
       have HCF:Hid (C=dC F):=hC;rw[<- hC];clear hb1 hb2 hF hC Jz hqq;have Fg:Hid ((w2.alloc (.cells Z 215)).heap[w2.heap.size]?=some (.cells Z 215 (0,0))):=bO w2 Z 215;go_wp2_with (refine xD rfl 215 _ _ rfl w2.heap.size C rfl rfl 215 Z Fg.out (by rw[hCs];exact qC) (by omega) (by grind [yO,Hid.o]) ?_)
       have HA0:Hid (((w2.alloc (.cells Z 215)).setRow w2.heap.size C).heap[w2.heap.size]?=some (.cells C 215 (0,0))):=oP _ _ _ _ 215 (0,0) Fg.out;have kJ:Hid (Below w.heap.size w ((w2.alloc (.cells Z 215)).setRow w2.heap.size C)):=below_setRow (gj.o.alloc gj.o.size _) gj.o.size _;have aad:=gj.o.size;go_loopw [14] (fun t wr=>∃n:Nat,page<=(n:Int)/\(n:Int)<=page+bC/\t=I n/\(∀k:Nat,page.toNat<=k->k<n->((fh q) (F k)).2=0)/\wr.heap[w2.heap.size]?=some (.cells (dC (ie F (fh q) page n)) 215 (0,0))/\Below w.heap.size w wr) (fun t _=>(page+bC-intOf t).toNat)
       case atStart =>
        grind [J7,Hid.o]
       case round =>
        obtain⟨n,hn1,hn3,rfl,hno,hA,hb⟩:=hrel;have HN:Hid (∀k:Nat,page.toNat<=k->k<n->((fh q) (F k)).2=0):=hno;have HA:Hid (wr.heap[w2.heap.size]?=some (.cells (dC (ie F (fh q) page n)) 215 (0,0))):=hA;have HB:Hid (Below w.heap.size w wr):=hb;have hAl:w2.heap.size<wr.heap.size:=aT hA;have hPw:wr.cell? (Ad P 0)=some (I q):=(hb.cell (p:=(Ad P 0)) (oc w _ hP)).trans hP;by_cases hin:(n:Int)<page+bC
        · have z0:=aB hA (n*3) (s8 _ n (by omega));have z1:=aB hA (n*3+1) (s7 _ n (by omega));have z2:=aB hA (n*3+2) (s6 _ n (by omega));rw[Sq] at z0 z1 z2;have adO:(n:Int)<256:=by omega
          clear hno hA hb;obtain⟨s,hs⟩:=ex (F n);rw[<- hs] at z0 z1 z2;have HS:Hid (s=F n):=hs;clear hs;go_wp2_with fail
          refine(U4 s q P _ hPw).mono ?_;rintro e w3 ⟨rfl,hb3⟩;have bA:=aQ HA.o hb3 hAl;have y0:=aB bA (n*3) (s8 _ n (by omega));have y1:=aB bA (n*3+1) (s7 _ n (by omega));have y2:=aB bA (n*3+2) (s6 _ n (by omega));have yf:=aO bA;have Al:Hid (w3.heap[w2.heap.size]?=some (.cells (dC (ie F (fh q) page n)) 215 (0,0))):=bA;have SJ:Hid (Below w.heap.size w w3):=HB.o.trans (hb3.mono HB.o.size);have alk:w2.heap.size<w3.heap.size:=aT bA;clear bA hb3 z0 z1 z2;obtain⟨r,hr⟩:=ex ((fh q) s);rw[<- hr];have HR:Hid (r=(fh q) s):=hr;clear hr;unfold U8;by_cases he:r.2=0
          · have he':(r.2 != 0)=false:=by simp[he]
            have HE:Hid (r.2=0):=he;clear he;go_wp2;go_roundw
            case rel =>
             have pN:=dD (dD (dD Al.o (n*3) (.bool r.1.m)) (n*3+1) (I r.1.p)) (n*3+2) (.bool r.1.z);have est:=MM F (fh q) page n hn1;rw[<- HS.o,<- HR.o] at est;rw[Eb (ie F (fh q) page n) n r.1 (by omega),est] at pN;refine⟨n+1,by omega,by omega,by go_num,fun k h1 h2=>if e:k=n then by rw[e,<- HS.o,<- HR.o];exact HE.o else HN.o k h1 (by omega),?_,?_⟩
             · rw[show((n+1:Nat):Int)=(n:Int)+1 from by omega];exact bM pN _
             · have hb4:=((SJ.o.setCell (p:=(Ad w2.heap.size (n*3))) aad (.bool r.1.m)).setCell (p:=(Ad w2.heap.size (n*3+1))) aad (I r.1.p)).setCell (p:=(Ad w2.heap.size (n*3+2))) aad (.bool r.1.z);exact hb4.alloc hb4.size _
            case measure=>simp[intOf];omega
          · have he':(r.2 != 0)=true:=by simpa using he
            have HE:Hid (r.2≠0):=he;clear he;have ht:Hid (kL l page bC q (fh q)=([],r.2)):=by
             have aeR:kM F (fh q) page.toNat bC.toNat=r.2:=by
              rw[HR.o,HS.o];exact Ea F (fh q) _ _ n (by omega) (by omega) HN.o (by rw[<- HS.o,<- HR.o];exact HE.o)
             show _=_;rw[HT.o,aeR,bf HE.o]
            go_wp2
            go_ret2
            exact⟨Nl,by rw[ht.out];rfl,by rw[ht.out];exact gQ.nil _ _,SJ.o.alloc SJ.o.size _⟩
        · have hend:Hid ((n:Int)=page+bC):=by show _=_;omega
          have ht:Hid (kL l page bC q (fh q)=(gw (ie F (fh q) page n),0)):=by
           have aeR:kM F (fh q) page.toNat bC.toNat=0:=Ba F (fh q) _ _ (fun k h1 h2=>HN.o k h1 (by omega));show _=_;rw[HT.o,aeR,aR rfl,hend.out]
          clear hno hA hb;go_wp2_with (refine vq rfl 215 _ rfl w2.heap.size rfl 215 _ (0,0) _ HA.o Tryz.underlying215 rfl (by rw[jh];exact qC) ?_)
          refine(OC _ _).mono ?_;rintro e w4 ⟨r,rfl,hr,hb4⟩;go_wp2
          go_ret2
          exact⟨r,by rw[ht.out];rfl,by rw[ht.out];exact hr.mono HB.o.size,HB.o.trans (hb4.mono HB.o.size)⟩
     · have arO:jx q=false:=by grind
       have HT:Hid (kL l page bC q (fh q)=([],3)):=by show _=_;grind [kL]
       clear hqq;go_enter Tryz.func121,Tryz.ntmps121;go_wp2_with fail
       refine(qE l v _ h hf).mono ?_;rintro e w1 ⟨rfl,hb1⟩;rw[hc];clear hc;go_wp2_with fail
       refine(jF _ _ _ hp hn).mono ?_;rintro e w' ⟨rfl,rfl⟩;go_wp2_with fail
       refine(mE _ _).mono ?_;rintro e w' ⟨rfl,rfl⟩;go_wp2
       go_ret2
       exact⟨Nl,by rw[HT.o];rfl,by grind [gQ.nil,Hid.o],hb1⟩
   · have arQ:fC page bC=false:=by grind
     have HT:Hid (kL l page bC q (fh q)=([],3)):=by show _=_;grind [kL]
     clear Jz;go_enter Tryz.func121,Tryz.ntmps121;go_wp2_with fail
     refine(qE l v _ h hf).mono ?_;rintro e w1 ⟨rfl,hb1⟩;rw[hc];clear hc;go_wp2_with fail
     refine(jF _ _ _ hp hn).mono ?_;rintro e w' ⟨rfl,rfl⟩;go_wp2
     go_ret2
     exact⟨Nl,by rw[HT.o];rfl,by grind [gQ.nil,Hid.o],hb1⟩
 · have HT:Hid (kL l page bC q (fh q)=([],bB l)):=by show _=_;grind [kL]
   have hc':(bB l != 0)=true:=by grind
   go_enter Tryz.func121,Tryz.ntmps121;go_wp2_with fail
   refine(qE l v _ h hf).mono ?_;rintro e w1 ⟨rfl,hb1⟩;go_wp2
   go_ret2
   exact⟨Nl,by rw[HT.o];rfl,by grind [gQ.nil,Hid.o],hb1⟩
open Go.RowKit
open Go.RowKit
open Go.RowKit
def ml (l:List aZ) (page bC q:Int):List aZ×Int:=kL l page bC q (fh q)
def uW (n:Int):Prop:=-9223372036854775808<=n/\n<=9223372036854775807
theorem XK (l:List aZ) (v:Value) (page bC q:Int) (w:World) (h:fu w v l) (hf:fU l) (hp:uW page) (hn:uW bC) :
  Calls Tryz.prog 74 #[v,I page,I bC,I q] w fun e w'=>∃r,e=.returned (.tuple #[r,I (ml l page bC q).2])/\gQ w.heap.size w' r (ml l page bC q).1/\Below w.heap.size w w':=by
 have hb0:Below w.heap.size w (w.alloc (.cells #[I q] 3)):=(aK _ _).alloc (aI _) _;have hP:=aB (bO w #[I q] 3) 0 rfl;have H:=h.below hb0;have HP:Hid ((w.alloc (.cells #[I q] 3)).cell? (Ad w.heap.size 0)=some (I q)):=hP;clear hP;go_enter Tryz.func74,Tryz.ntmps74;go_wp2_with fail
 refine(J1 l v page bC q w.heap.size _ H hf hp hn HP.o).mono ?_;rintro e w1 ⟨r,rfl,hr,hb1⟩;go_wp2
 go_ret2
 exact⟨r,rfl,hr.mono hb0.size,hb0.trans (hb1.mono hb0.size)⟩
open Go.RowKit
theorem XN {l:List aZ} (h:∀a∈l,wa a) (hn:l.length<=140737488351232):fU l:=by
 refine⟨fun i hi=>?_,hn⟩
 grind [bl]
theorem MG:fU []:=XN (fun a h=>by simp at h) (by simp)
open Go.RowKit
theorem UY (l:List aZ) (page bC q:Int) (how:di->di×Int) (h:(kL l page bC q how).2≠0):(kL l page bC q how).1=[]:=by
 grind [kL]
theorem XJ (l:List aZ) (page bC q:Int) (how:di->di×Int) (h:(kL l page bC q how).2=0) :
  bB l=0/\fC page bC=true/\jx q=true/\kM (eK l) how page.toNat bC.toNat=0/\(kL l page bC q how).1=gw (ie (eK l) how page (page+bC)):=by
 grind [kL]
theorem U5 (l:List aZ) (page t q:Int) (hc:bB l=0) (hp:1<=page) (hq:0<=q/\q<=3):mo (ie (eK l) (fh q) page t) :=
 MQ _ (CT l hc) _ _ _ hp (fun s _ h=>by
  grind [fh]) (fun s h=>by
  grind [fh])
theorem Jo (q:Int):jx q=true↔0<=q/\q<=3:=⟨fun h=>kr h,fun h=>dI h⟩
theorem Sm (l:List aZ) (page bC q:Int) (h:(ml l page bC q).2=0) :
  bB (ml l page bC q).1=0/\(∀p:Nat,1<=p->p<=255 ->
   (page<=(p:Int)/\(p:Int)<page+bC->(bh l p).2=false/\(bh (ml l page bC q).1 p).2=true/\(bh (ml l page bC q).1 p).1.fI=q/\(bh (ml l page bC q).1 p).1.zero=true) /\
   (¬(page<=(p:Int)/\(p:Int)<page+bC)->(bh (ml l page bC q).1 p).2=(bh l p).2/\(bh (ml l page bC q).1 p).1.fI=(bh l p).1.fI/\(bh (ml l page bC q).1 p).1.zero=(bh l p).1.zero)):=by
 obtain⟨hc,Jz,hq,he,hr⟩:=XJ _ _ _ _ _ h;have hpb:=(nX page bC).1 Jz;have hF:=U5 l page (page+bC) q hc hpb.1 ((Jo q).1 hq);have hr':(ml l page bC q).1=_:=hr;rw[hr'];refine⟨uY _ hF,fun p h1 h2=>?_⟩;have fg:=MS _ hF p (by omega);have fs:=MR l hc p;refine⟨fun hin=>?_,fun hout=>?_⟩
 · have he':=Jv _ _ _ _ he p (by omega) (by omega)
   grind [fh,ie]
 grind [ie]
theorem XM (l:List aZ) (page bC q:Int):fU (ml l page bC q).1:=by
 by_cases h:(ml l page bC q).2=0
 · exact lC _ (Sm l page bC q h).1
 grind [ml,UY,MG]
open Go.RowKit Go.Deep
theorem XO:Tryz.prog.cellsOf 47=4:=by rfl
theorem ZQ:Tryz.prog.cellsOf 3=1:=by rfl
theorem ZP:Tryz.prog.cellsOf 4=1:=by rfl
theorem Iz (n:Int) (h:(Lit.int .i64 n).wf=true):uW n:=by
 grind [Lit.wf,IntKind.min,IntKind.max,IntKind.signed,IntKind.bits,uW]
section
variable {H:Type} {enc:TypeId×Value->H} {w:World} {base:Nat} {spare:Nat->Bool} {held:Bool}
theorem U0 {n:Nat} {a:Addr} {cs:List Value} {x:DataW H×List MemPlace} (hc:w.cells? base a 4=some cs) (h:DataW.trod enc Tryz.prog w base spare held n 47 cs=some x) :
  ∃q:Int×Int×Int×Bool,w.cell? (a.add 0)=some (I q.1)/\w.cell? (a.add 1)=some (I q.2.1)/\w.cell? (a.add 2)=some (I q.2.2.1)/\w.cell? (a.add 3)=some (.bool q.2.2.2)/\uW q.1/\uW q.2.1/\uW q.2.2.1:=by
 obtain⟨_,hlen,hcell⟩:=Kq hc;obtain⟨xs,k,hk,hxy,_,hxl,hf⟩:=vr Tryz.underlying47 h
 match cs,hlen with
 | [v0,v1,v2,v3],_ =>
  have g0:DataW.trod enc Tryz.prog w base spare held k 3 (([v0,v1,v2,v3].drop 0).take (Tryz.prog.cellsOf 3))=xs[0]?:=hf 0 _ rfl;have g1:DataW.trod enc Tryz.prog w base spare held k 3 (([v0,v1,v2,v3].drop 1).take (Tryz.prog.cellsOf 3))=xs[1]?:=hf 1 _ rfl;have g2:DataW.trod enc Tryz.prog w base spare held k 3 (([v0,v1,v2,v3].drop 2).take (Tryz.prog.cellsOf 3))=xs[2]?:=hf 2 _ rfl;have g3:DataW.trod enc Tryz.prog w base spare held k 4 (([v0,v1,v2,v3].drop 3).take (Tryz.prog.cellsOf 4))=xs[3]?:=hf 3 _ rfl;simp only[ZQ,ZP] at g0 g1 g2 g3;have e0:=hcell 0 (by omega);have e1:=hcell 1 (by omega);have e2:=hcell 2 (by omega);have e3:=hcell 3 (by omega)
  match xs,hxl with
  | [y0,y1,y2,y3],_ =>
   obtain⟨m0,c0,_,w0⟩:=CX Tryz.underlying3 (show DataW.trod enc Tryz.prog w base spare held k 3 [v0]=some y0 from g0);obtain⟨m1,c1,_,w1⟩:=CX Tryz.underlying3 (show DataW.trod enc Tryz.prog w base spare held k 3 [v1]=some y1 from g1);obtain⟨m2,c2,_,w2⟩:=CX Tryz.underlying3 (show DataW.trod enc Tryz.prog w base spare held k 3 [v2]=some y2 from g2);obtain⟨b3,c3,_⟩:=Kf Tryz.underlying4 (show DataW.trod enc Tryz.prog w base spare held k 4 [v3]=some y3 from g3);simp only[tY,qZ] at c0 c1 c2 c3;subst c0;subst c1;subst c2;subst c3;exact⟨(m0,m1,m2,b3),e0,e1,e2,e3,Iz _ w0,Iz _ w1,Iz _ w2⟩
theorem D3 {fuel:Nat} {a0:Option Addr} {len cap:Nat} {x:DataW H×List MemPlace} (h:DataW.trod enc Tryz.prog w base spare held fuel 28 [.slice a0 len cap]=some x) :
  ∃l:List aZ,l.length=len/\fu w (.slice a0 len cap) l/\(∀i,i<l.length->wa (bl l i))/\(len=0∨∃el sp,x.1=.slice el sp/\el.length=len):=by
 rcases open_slice Tryz.underlying28 h with⟨hcs,_⟩ | ⟨a,len',cap',m,n,D,Pl,hcs,hb,hl,hm,hmm,rfl,hx⟩
 · simp at hcs;obtain⟨rfl,rfl,rfl⟩:=hcs;exact⟨[],rfl,⟨none,0,rfl,.inl rfl⟩,fun i hi=>by grind,.inl rfl⟩
 · simp at hcs;obtain⟨rfl,rfl,rfl⟩:=hcs;have hlm:len<=m:=by grind
   have each:∀i,i<len->∃q:Int×Int×Int×Bool,w.cell? (a.add (i*4))=some (I q.1)/\w.cell? (a.add (i*4+1))=some (I q.2.1)/\w.cell? (a.add (i*4+2))=some (I q.2.2.1)/\w.cell? (a.add (i*4+3))=some (.bool q.2.2.2)/\uW q.1/\uW q.2.1/\uW q.2.2.1:=by
    intro i hi;obtain⟨cs',h1,h2⟩:=hx i (by omega);rw[XO] at h1;obtain⟨q,e0,e1,e2,e3,f⟩:=U0 h1 h2
    grind [add_add]
   obtain⟨g,hg⟩:=choose_lt each;have hat:∀i,i<len->bl ((List.range len).map fun i=>(⟨(g i).1,(g i).2.1,(g i).2.2.1,(g i).2.2.2⟩:aZ)) i=⟨(g i).1,(g i).2.1,(g i).2.2.1,(g i).2.2.2⟩:=by
    grind [bl]
   refine⟨(List.range len).map fun i=>⟨(g i).1,(g i).2.1,(g i).2.2.1,(g i).2.2.2⟩,by simp,?_,fun i hi=>?_,.inr ⟨_,_,rfl,by simp⟩⟩
   · by_cases h0:len=0
     · subst h0;exact⟨some a,cap,by simp,.inl (by simp)⟩
     · obtain⟨b,off,spot⟩:=a;have hc:=(hg 0 (by omega)).1;have hspot:spot=none:=by simpa [Addr.add] using Km hc
       subst hspot;refine⟨some (Ad b off),cap,by simp,.inr ⟨b,off,rfl,fun i hi=>?_⟩⟩
       grind [Addr.add_lit]
   · have hi':i<len:=by grind
     rw[hat i hi'];obtain⟨_,_,_,_,f1,f2,f3⟩:=hg i hi';exact⟨f1,f2,f3⟩
end
open Go.RowKit
def yh (p:Int) (z:Bool):Int:=1+2*p+(if z then 8 else 0)
def nZ (s:di):Int:=if s.m then yh s.p s.z else 0
def o8 (G:Nat->Int):Nat->List Value
 | 0=>[]
 | m+1=>o8 G m++[I (G m)]
def iC (G:Nat->Int):Array Value:=(o8 G 256).toArray
def ye (G:Nat->Int) (n:Nat) (x:Int):Nat->Int:=fun k=>if k=n then x else G k
theorem mR (G:Nat->Int):∀m,(o8 G m).length=m
 | 0=>rfl
 | m+1=>by simp[o8,mR G m]
theorem s9 (G:Nat->Int):(iC G).size=256:=by simp[iC,mR]
theorem Ju (G:Nat->Int) (n:Nat):∀m,n<m->(o8 G m)[n]?=some (I (G n))
 | 0,h=>by omega
 | m+1,h=>by
  simp only[o8];by_cases e:n=m
  · grind [mR]
  · rw[KD (by grind [mR])];exact Ju G n m (by omega)
theorem Ec (G:Nat->Int) (n:Nat) (hn:n<256):(iC G)[n]?=some (I (G n)):=by
 grind [iC,Ju]
theorem D8 (F G:Nat->Int):∀m,(∀k,k<m->F k=G k)->o8 F m=o8 G m
 | 0,_=>rfl
 | m+1,h=>by simp only[o8];rw[D8 F G m (fun k hk=>h k (by omega)),h m (by omega)]
theorem Js (G:Nat->Int) (n:Nat) (x:Int):∀m,n<m->(o8 G m).set n (I x)=o8 (ye G n x) m
 | 0,h=>by omega
 | m+1,h=>by
  simp only[o8];by_cases e:n=m
  · subst e;rw[vv _ _ (by grind [mR]),mR,D8 (ye G n x) G n (fun k hk=>by grind [ye])];simp[ye]
  · rw[E6 _ _ (by grind [mR]),Js G n x m (by omega)]
    grind [ye]
theorem OH (G:Nat->Int) (n:Nat) (x:Int) (hn:n<256):(iC G).setIfInBounds n (I x)=iC (ye G n x):=by
 grind [iC,Js]
theorem Jt (G:Nat->Int):∀m,∀v∈o8 G m,v.oneCell'=true
 | 0,v,h=>by grind [o8]
 | m+1,v,h=>by
  simp only[o8,kq,List.mem_singleton] at h;rcases h with h | rfl
  · exact Jt G m v h
  · rfl
theorem yQ (G:Nat->Int):(iC G).all (·.oneCell')=true:=by
 grind [Jt,iC]
theorem U9 (F:Nat->di) (n:Nat) (s:di):ye (fun k=>nZ (F k)) n (nZ s)=fun k=>nZ (yM F n s k):=by
 grind [ye,yM]
theorem Vb (s:di) (h:0<=s.p):(nZ s=0)↔s.m=false:=by
 grind [nZ,yh]
theorem XQ (s t:di) (hs:0<=s.p/\s.p<=3) (ht:0<=t.p/\t.p<=3) (hm:s.m=true):(nZ t=nZ s)↔oh s t=true:=by
 grind [nZ,yh,oh]
theorem Vc (s:di) (hs:0<=s.p/\s.p<=3) (hm:s.m=true):(nZ s-1)%8/2=s.p/\(decide (8<=nZ s-1)=s.z)/\1<=nZ s/\nZ s<=15:=by
 grind [nZ,yh]
def gL (l:List aZ):Nat->Bool
 | 0=>true
 | k+1=>gL l k&&(fC (bl l k).page (bl l k).bC&&jx (bl l k).fI)
def Dq (l:List aZ) (i:Nat):Bool:=i==0 || decide ((bl l (i-1)).mW<=(bl l i).page)
def js (l:List aZ):Nat->Bool
 | 0=>true
 | k+1=>js l k&&Dq l k
theorem A7 (l:List aZ):∀(k n:Nat),k<=n->js l k=false->js l n=false
 | k,0,h,hk=>by grind
 | k,n+1,h,hk=>by
  by_cases e:k=n+1
  · grind
  · simp[js,A7 l k n (by omega) hk]
theorem CS (a b:aZ) (h:iF a b=true):a.mW<=b.page:=by
 grind [iF]
theorem Aq (l:List aZ):∀k,iQ l k=true->gL l k=true/\js l k=true
 | 0,_=>⟨rfl,rfl⟩
 | k+1,h=>by
  simp only[iQ,cR] at h;have ih:=Aq l k h.1
  grind [lJ,gL,js,Dq,CS]
theorem Au (l:List aZ):∀k,gL l k=true->∀i,i<k->fC (bl l i).page (bl l i).bC=true/\jx (bl l i).fI=true
 | 0,_,i,hi=>by omega
 | k+1,h,i,hi=>by
  simp only[gL,cR] at h;by_cases e:i=k
  · grind
  · exact Au l k h.1 i (by omega)
theorem Hc (l:List aZ) (n:Nat) (h:gL l n=true):∀k,k<=n->(b9 l k 0).m=false/\(∀m,(b9 l k m).m=false->b9 l k m=gS)/\(∀m,0<=(b9 l k m).p/\(b9 l k m).p<=3)
 | 0,_=>⟨rfl,fun n _=>rfl,fun n=>by simp[b9,gS]⟩
 | k+1,hk=>by
  have ih:=Hc l n h k (by omega);have ho:=Au l n h k (by omega);have h1:=(nX _ _).1 ho.1;have h2:0<=(bl l k).fI/\(bl l k).fI<=3:=kr ho.2;refine⟨?_,fun n=>?_,fun n=>?_⟩
  · simp only[b9,iq];grind
  · simp only[b9,iq]
    grind
  · simp only[b9,iq]
    grind
theorem Hb (l:List aZ) (h:gL l l.length=true):mo (eK l):=by
 have h:=Hc l l.length h l.length (aI _);exact⟨h.1,h.2.1,h.2.2⟩
theorem PM (G:List aZ) (n:Nat):(iy G n).m=(bV G n).2:=by
 grind [iy,gS]
theorem G9 (G:List aZ) (a:aZ) (h:j6 G a=true) (hne:0<G.length):(mF G).mW<=a.page:=by
 simp only[j6,cR,zu,EU] at h;rcases h.2 with e | e
 · omega
 simp_all [CS]
theorem rE (G:List aZ) (a:aZ) (h:j6 G a=true):1<=a.page/\1<=a.bC/\a.bC<=256-a.page:=by
 grind [j6,nX]
theorem Ha (G:List aZ) (a:aZ) (hg:lK G=true) (h:j6 G a=true) (n:Nat) (hn:a.page<=(n:Int)):(bV G n).2=false:=by
 by_cases c:(bV G n).2=true
 · have hb:=nY _ G rfl hg n c;have hne:0<G.length:=by
    grind [bV]
   have:=G9 G a h hne;omega
 grind
theorem o9 (G:List aZ) (a:aZ) (hg:lK G=true) (h:j6 G a=true) (n:Nat) (h1:a.page<=(n:Int)) (h2:(n:Int)<a.page+a.bC):iy (G++[a]) n=⟨true,a.fI,a.zero⟩:=by
 grind [sZ,Ha,xu]
theorem yN (G:List aZ) (a:aZ) (n:Nat) (h1:¬(a.page<=(n:Int)/\(n:Int)<a.page+a.bC)):iy (G++[a]) n=iy G n:=by
 grind [sZ,xu,iy]
theorem CO:∀(m:Nat) (G H:List aZ),G.length=m->lK G=true->lK H=true->(∀n:Nat,iy G n=iy H n)->G=H
 | 0,G,H,hm,hG,hH,he=>by
  have e:G=[]:=iT hm;subst e;rcases zB H with rfl | ⟨H',b,rfl⟩
  · rfl
  · rw[zy] at *;rw[mn,cR] at hH;have hb:=rE _ _ hH.2;have h1:=o9 H' b hH.1 hH.2 b.page.toNat (by omega) (by omega)
    grind [iy,bV,gS]
 | m+1,G,H,hm,hG,hH,he=>by
  rcases zB G with rfl | ⟨G',a,rfl⟩
  · grind
  · rw[zy] at *;have hG0:=hG;rw[mn,cR] at hG;have ha:=rE _ _ hG.2;rcases zB H with rfl | ⟨H',b,rfl⟩
    · have h1:=o9 G' a hG.1 hG.2 a.page.toNat (by omega) (by omega)
      grind [iy,bV,gS]
    · rw[zy] at *;have hH0:=hH;rw[mn,cR] at hH;have hb:=rE _ _ hH.2;have up:∀(X Y:List aZ) (x y:aZ),lK X=true->j6 X x=true->lK (Y++[y])=true->(∀n:Nat,iy (X++[x]) n=iy (Y++[y]) n)->1<=x.page->1<=x.bC->x.page+x.bC<=y.page+y.bC:=by
       intro X Y x y hX hx hY hxy h1 h2;have e1:=o9 X x hX hx (x.page+x.bC-1).toNat (by omega) (by omega);rw[hxy] at e1;have e2:(bV (Y++[y]) ((x.page+x.bC-1).toNat:Nat)).2=true:=by grind [PM]
       have e3:=(nY _ _ rfl hY _ e2).2
       grind [jL,aZ.mW]
      have hend:a.page+a.bC=b.page+b.bC:=Int.le_antisymm (up G' H' a b hG.1 hG.2 hH0 he ha.1 ha.2.1) (up H' G' b a hH.1 hH.2 hG0 (fun n=>(he n).symm) hb.1 hb.2.1);have OJ:=o9 G' a hG.1 hG.2 (a.page+a.bC-1).toNat (by omega) (by omega);have hl2:=o9 H' b hH.1 hH.2 (a.page+a.bC-1).toNat (by omega) (by omega);rw[he,hl2] at OJ;have Ve:b.fI=a.fI:=dQ di.p OJ;have hze:b.zero=a.zero:=dQ di.z OJ;have beg:∀(X Y:List aZ) (x y:aZ),lK X=true->j6 X x=true->lK Y=true->j6 Y y=true->(∀n:Nat,iy (X++[x]) n=iy (Y++[y]) n)->x.page+x.bC=y.page+y.bC->y.fI=x.fI->y.zero=x.zero->1<=x.page->1<=y.bC->y.page<=x.page:=by
       intro X Y x y hX hx hY hy hxy hen hp hz h1 h2;by_cases c:y.page<=x.page
       · exact c
       · exfalso;have e1:=o9 X x hX hx (y.page-1).toNat (by omega) (by omega);rw[hxy,yN Y y _ (by omega)] at e1;have e2:(bV Y ((y.page-1).toNat:Nat)).2=true:=by grind [PM]
         have e3:=(nY _ _ rfl hY _ e2).2;have hne:0<Y.length:=by
          grind [bV]
         have e4:=G9 Y y hy hne;have e5:(mF Y).mW=y.page:=by omega
         have hfo:=hy;simp only[j6,cR,zu,EU] at hfo;have aeP:iF (mF Y) y=true:=by
          grind
         unfold iF at aeP;rw[aR e5.symm] at aeP;rcases zB Y with rfl | ⟨Y',z,rfl⟩
         · grind
         · rw[zy] at *;rw[jL] at e5 aeP;unfold aZ.mW at e5;have hYs:=hY;rw[mn,cR] at hYs;have hzp:=rE _ _ hYs.2;have e6:=o9 Y' z hYs.1 hYs.2 (y.page-1).toNat (by omega) (by omega)
           grind
      have asJ:a.page=b.page:=Int.le_antisymm (beg H' G' b a hH.1 hH.2 hG.1 hG.2 (fun n=>(he n).symm) hend.symm Ve.symm hze.symm hb.1 ha.2.1) (beg G' H' a b hG.1 hG.2 hH.1 hH.2 he hend Ve hze ha.1 hb.2.1);have hab:a=b:=by
       cases a;cases b
       grind
      subst hab;have ih:=CO m G' H' (by grind) hG.1 hH.1 (fun n=>by
       by_cases c:a.page<=(n:Int)
       · grind [Ha,iy]
       · have x1:=yN G' a n (by omega)
         grind [yN])
      rw[ih]
theorem ID (l:List aZ) (hc:bB l=0):gw (eK l)=l:=by
 have hF:=CT l hc;have hg:=zn l hc;refine CO _ _ _ rfl (CR _ hF) hg (fun n=>?_);rw[sY l _ l rfl hg n];by_cases hn:n<256
 · exact CP _ hF n hn
 · have:=(uA _ hF 256 (aI _)).look n;rw[bf hn] at this;rw[show iy (gw (eK l)) n=gS from this];have e:iy l n=gS:=by
    unfold iy;by_cases c:(bV l n).2=true
    · exfalso;have hb:=(nY _ l rfl hg n c).2;have hne:0<l.length:=by
       grind [bV]
      have ho:=fG l (l.length-1) (fw l hc _ (by omega))
      grind [mF,aZ.mW]
    grind
   rw[<- sY l _ l rfl hg n,e]
end Go.Proofs.YtpgifpeohlllfaaGreat
