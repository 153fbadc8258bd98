import Derived.Test.YtpgifpeohlllfaaGreatGP00
import Derived.Test.YtpgifpeohlllfaaGreatGP16
import Derived.Test.YtpgifpeohlllfaaGreatGP26
import Derived.Test.YtpgifpeohlllfaaGreatGP06
set_option maxHeartbeats 20000000
set_option linter.unusedVariables false
set_option maxRecDepth 100000
set_option linter.unusedSimpArgs false
namespace Go.Proofs.YtpgifpeohlllfaaGreat
namespace KR
open Go.RowKit GK
open FW (ai aC)
open KW (aU fe cO aH eY lZ ku aI fF bE bD b6)
open KY (cW)
theorem uI (es:List KM.En) (lv:Bool) (va:Value) (ap:Option Addr) (cp:Nat) (p:Int) (i:Nat) (w:World) (hE:aU aI 3 KM.jz w ap es) (hn:es.length<=140737488351232) (hno:∀j,j<i->(KM.aJ es j).page≠p) (hi:i=es.length∨(i<es.length/\(KM.aJ es i).page=p)) :
  Calls Tryz.prog 67 #[.agg #[.bool lv,va,.slice ap es.length cp],I p] w fun e w'=>e=.returned (I (if i<es.length then (i:Int) else -1))/\Below w.heap.size w w':=by
 obtain⟨WA,dx⟩:=ex (w.alloc (.cells #[.bool lv,va,.slice ap es.length cp] 43))
 have hb0:Below w.heap.size w WA:=by rw[dx];exact(Below.refl _ _).alloc (Nat.le_refl _) _
 have sb:WA.heap[w.heap.size]?=some (.cells #[.bool lv,va,.slice ap es.length cp] 43 (0,0)):=by rw[dx];exact B.new w _ _
 have x2:WA.cell? (Ad w.heap.size 2)=some (.slice ap es.length cp):=B.cell sb 2 rfl
 have fX:Hid (∀m,m<es.length->∃eb eo,ap=some (Ad eb eo)/\WA.cell? (Ad eb (eo+m*3))=some (I (KM.aJ es m).page)):=fun m hm=>by
  obtain⟨eb,eo,g1,g2,g3⟩:=(hE.below hb0) (by omega)
  have z:=g3 m hm 0 (by omega)
  rw[Nat.add_zero] at z
  exact⟨eb,eo,g1,z⟩
 have gP:=ai hno
 have HI:=ai hi
 have eV:=ai dx
 have bI:=ai hb0
 clear hE hno hi dx hb0 sb
 go_enter Tryz.func67,Tryz.ntmps67
 go_upto_region 1 with fail
 rw[<- eV.o]
 go_wp2
 go_loopw [5] (fun iv wq=>∃m:Nat,m<=i/\m<=es.length/\iv=I (m:Int)/\wq=WA) (fun iv _=>es.length-(intOf iv).toNat)
 case atStart=>exact⟨0,by omega,by omega,rfl,rfl⟩
 case round =>
  obtain⟨m,hm,mU,rfl,hwr⟩:=hrel
  subst hwr
  by_cases hlt:m<es.length
  · have SK:(m:Int)<(es.length:Int):=by omega
    obtain⟨eb,eo,hap,z⟩:=fX.o m hlt
    rw[hap] at x2
    by_cases c:m=i
    · subst c
      have hp:(KM.aJ es m).page=p:=by
       rcases HI.o with h | h
       · omega
       · exact h.2
      rw[hp] at z
      have Ur:=ai hlt
      clear gP HI fX hp hap
      go_wp2
      go_ret
      first | exact⟨rfl,bI.o⟩ | exact⟨by rw[if_pos Ur.o],bI.o⟩
    · have hp:(KM.aJ es m).page≠p:=gP.o m (by omega)
      obtain⟨q,hq⟩:=ex ((KM.aJ es m).page)
      rw[<- hq] at z hp
      have b:(q==p)=false:=by simpa using hp
      clear gP HI fX hap hq hp
      go_wp2
      go_roundw
      case rel=>exact⟨m+1,by omega,by omega,by go_num,by first | rfl | trivial⟩
      case measure=>simp[intOf];omega
  · obtain rfl:es.length=m:=by omega
    have hil:¬i<es.length:=by
     rcases HI.o with h | h
     · omega
     · omega
    have Ur:=ai hil
    clear gP HI fX hil
    go_wp2
    go_ret
    first | exact⟨rfl,bI.o⟩ | exact⟨by rw[if_neg Ur.o],bI.o⟩
theorem iJ {es:List KM.En} {p:Int} (h:KM.aT es p=none):∀j,j<es.length->(KM.aJ es j).page≠p:=fun j hj e=>by
 have:=List.find?_eq_none.1 h (KM.aJ es j) (KM.dB hj)
 simp[e] at this
theorem Dj {p:Int}:∀{es:List KM.En} {e:KM.En},KM.aT es p=some e->∃i,i<es.length/\KM.aJ es i=e/\(KM.aJ es i).page=p/\∀j,j<i->(KM.aJ es j).page≠p
 | [],e,h=>by cases h
 | x::r,e,h=>by
  unfold KM.aT at h
  rw[List.find?_cons] at h
  by_cases c:x.page=p
  · rw[decide_eq_true c] at h
    injection h with h
    exact⟨0,by simp,h,c,fun j hj=>absurd hj (Nat.not_lt_zero _)⟩
  · rw[decide_eq_false c] at h
    obtain⟨i,h1,h2,h3,h4⟩:=Dj (es:=r) h
    refine⟨i+1,by simp;omega,h2,h3,fun j hj=>?_⟩
    cases j with
    | zero=>exact c
    | succ j=>exact h4 j (by omega)
end KR
namespace KR
open Go.RowKit GK
open FW (ai aC)
open KW (aU fe cO aH eY lZ ku aI fF bE bD b6)
theorem Eu (k:KM.Kn) (a:fe) (j:Nat) (p:Int) (w:World) (hK:cO w a k) (hF:eY k) (hR:KM.aQ k) (hj:j<k.aj.length) (hm:KM.mapped k j p) :
  Calls Tryz.prog 32 #[.agg (aH a k),I (j:Int),I p] w fun e w'=>e=.returned (.string (KM.cK k j p))/\Below w.heap.size w w':=by
 obtain⟨pb,po,hpo,hpl,zj⟩:=hK.aj (by omega)
 obtain⟨va,ap,cp,v0,v1,v2,Q5,yu,_⟩:=zj j hj
 have nO:=Q5
 obtain⟨aa,ca,rU,_⟩:=Q5
 subst rU
 have hsj:=hR.sp hj
 have hen:=(hF.sp j hj).au
 have SV:=hF.ak
 have hzz:(AM.aK (KM.aq k.aj j).aA p).1.zero=false->(KM.bK k.ak p).isSome=true:=hsj.ak p hm
 have hpk:KM.cK k j p=match KM.aT (KM.aq k.aj j).au p with
  | some e=>if e.kind=1 then (KM.aD k.frames e.loc.toNat).data else (KM.bk k.slots e.loc.toNat).data
  | none=>KM.dh k.ak p (AM.aK (KM.aq k.aj j).aA p).1.zero:=rfl
 have xk:∀e∈(KM.aq k.aj j).au,(e.kind=1/\0<=e.loc/\e.loc<(k.frames.length:Int))∨(e.kind=2/\0<=e.loc/\e.loc<(k.slots.length:Int)):=fun e he=>(hsj.tH e he).2
 have Po:=hsj.aA
 have hrise:=hR.dU
 obtain⟨s,hs⟩:=ex (KM.aq k.aj j)
 rw[<- hs] at v0 v1 v2 nO yu hen hzz hpk xk Po
 rw[hpk]
 obtain⟨lv,fT,es⟩:=s
 simp only at v0 v1 v2 nO yu hen hzz xk Po
 show Calls _ _ _ _ fun e w'=>e=.returned (.string (match KM.aT es p with
  | some e=>if e.kind=1 then (KM.aD k.frames e.loc.toNat).data else (KM.bk k.slots e.loc.toNat).data
  | none=>KM.dh k.ak p (AM.aK fT p).1.zero))/\Below w.heap.size w w'
 obtain⟨WA,dx⟩:=ex ((w.alloc (.cells (aH a k) 27)).alloc (.cells #[.bool lv,.slice aa fT.length ca,.slice ap es.length cp] 43))
 have hb0:Below w.heap.size w WA:=by rw[dx];exact((Below.refl _ _).alloc (Nat.le_refl _) _).alloc (by simp) _
 have kb:WA.heap[w.heap.size]?=some (.cells (aH a k) 27 (0,0)):=by rw[dx];exact B.alloc (B.new w _ _) _
 have sb:WA.heap[w.heap.size+1]?=some (.cells #[.bool lv,.slice aa fT.length ca,.slice ap es.length cp] 43 (0,0)):=by
  have:=B.new (w.alloc (.cells (aH a k) 27)) #[.bool lv,.slice aa fT.length ca,.slice ap es.length cp] 43
  rw[World.size_alloc] at this
  rw[dx];exact this
 have KB:Hid (∀V,Below WA.heap.size WA V->V.heap[w.heap.size]?=some (.cells #[.slice a.aS k.ak.length a.cS,.slice a.aF k.frames.length a.cF,.slice a.aL k.slots.length a.cL,.slice a.aP k.aj.length a.cP,I k.hand] 27 (0,0))):=fun V hb=>B.below kb hb (B.isLt kb)
 have SB:Hid (∀V,Below WA.heap.size WA V->V.heap[w.heap.size+1]?=some (.cells #[.bool lv,.slice aa fT.length ca,.slice ap es.length cp] 43 (0,0))):=fun V hb=>B.below sb hb (B.isLt sb)
 have W0:(w.alloc (.cells #[.slice a.aS k.ak.length a.cS,.slice a.aF k.frames.length a.cF,.slice a.aL k.slots.length a.cL,.slice a.aP k.aj.length a.cP,I k.hand] 27)).heap[w.heap.size]?=some (.cells #[.slice a.aS k.ak.length a.cS,.slice a.aF k.frames.length a.cF,.slice a.aL k.slots.length a.cL,.slice a.aP k.aj.length a.cP,I k.hand] 27 (0,0)):=B.new w _ _
 have c3:(w.alloc (.cells #[.slice a.aS k.ak.length a.cS,.slice a.aF k.frames.length a.cF,.slice a.aL k.slots.length a.cL,.slice a.aP k.aj.length a.cP,I k.hand] 27)).cell? (Ad w.heap.size 3)=some (.slice (some (Ad pb po)) k.aj.length a.cP):=by
  have:=B.cell (v:=.slice a.aP k.aj.length a.cP) W0 3 rfl
  exact this.trans (by rw[hpo])
 have tA:Below w.heap.size w (w.alloc (.cells #[.slice a.aS k.ak.length a.cS,.slice a.aF k.frames.length a.cF,.slice a.aL k.slots.length a.cL,.slice a.aP k.aj.length a.cP,I k.hand] 27)):=(Below.refl _ _).alloc (Nat.le_refl _) _
 have u0:=(tA.cell (p:=(Ad pb (po+j*3))) hpl).trans v0
 have u1:=(tA.cell (p:=(Ad pb (po+j*3+1))) hpl).trans v1
 have u2:=(tA.cell (p:=(Ad pb (po+j*3+2))) hpl).trans v2
 have AU:(j:Int)<(k.aj.length:Int):=by omega
 have eW:∀{V:World},Below WA.heap.size WA V->Below w.heap.size w V:=fun hV=>hb0.trans (hV.mono hb0.size)
 have eV:=ai dx
 have bI:=ai hb0
 obtain⟨o,ho⟩:=ex (KM.aT es p)
 rw[<- ho]
 cases o with
 | none =>
  have Kf:Hid (Calls Tryz.prog 67 #[.agg #[.bool lv,.slice aa fT.length ca,.slice ap es.length cp],I p] WA fun e w'=>e=.returned (I (-1))/\Below WA.heap.size WA w'):=by
   have:=uI es lv (.slice aa fT.length ca) ap cp p es.length WA (yu.below hb0) hen (iJ ho.symm) (.inl rfl)
   rw[if_neg (Nat.lt_irrefl _)] at this
   exact this
  have D4:Hid (∀V,Below WA.heap.size WA V->Calls Tryz.prog 31 #[.slice aa fT.length ca,I p] V fun e w'=>e=.returned (.tuple #[.agg #[I (AM.aK fT p).1.page,I (AM.aK fT p).1.aB,I (AM.aK fT p).1.bJ,.bool (AM.aK fT p).1.zero],.bool (AM.aK fT p).2])/\Below V.heap.size V w'):=fun V hV=>AW.nX _ _ p V (nO.below (eW hV)) Po
  have ky:Hid (∀V,Below WA.heap.size WA V->Calls Tryz.prog 49 #[.agg #[.slice a.aS k.ak.length a.cS,.slice a.aF k.frames.length a.cF,.slice a.aL k.slots.length a.cL,.slice a.aP k.aj.length a.cP,I k.hand],.agg #[I (AM.aK fT p).1.page,I (AM.aK fT p).1.aB,I (AM.aK fT p).1.bJ,.bool (AM.aK fT p).1.zero],I p] V fun e w'=>e=.returned (.string (KM.dh k.ak p (AM.aK fT p).1.zero))/\Below V.heap.size V w'):=fun V hV=>uD k a _ _ _ _ p V (hK.ak.below (eW hV)) SV hrise hzz
  show Calls _ _ _ _ fun e w'=>e=.returned (.string (KM.dh k.ak p (AM.aK fT p).1.zero))/\Below w.heap.size w w'
  obtain⟨F,Wf⟩:=ex (AM.aK fT p)
  rw[<- Wf] at D4 ky ⊢
  obtain⟨⟨g1,g2,g3,g4⟩,gf⟩:=F
  simp only at D4 ky ⊢
  obtain⟨D,hD⟩:=ex (KM.dh k.ak p g4)
  rw[<- hD] at ky ⊢
  unfold aH at eV ⊢
  clear hK hF hR hm zj yu nO hsj hen SV hzz hpk xk Po hrise hs dx hb0 kb sb W0 tA v0 v1 v2 eW ho Wf hD hj hpl hpo
  go_enter Tryz.func32,Tryz.ntmps32
  go_upto_region 2 with fail
  rw[<- eV.o]
  obtain⟨x0,x1,x2⟩:=B.c3 (SB.o WA (Below.refl _ _))
  clear u0 u1 u2 c3
  go_upto_region 4 with(go_at_call 67;refine Kf.o.mono ?_;rintro e w1 ⟨rfl,hb1⟩;have aZ:=ai hb1;obtain⟨x0,x1,x2⟩:=B.c3 (SB.o _ hb1);clear hb1)
  go_upto_region 5 with(go_at_call 31;refine(D4.o _ aZ.o).mono ?_;rintro e w2 ⟨rfl,hb2⟩;have bY:=ai (aZ.o.trans (hb2.mono aZ.o.size));clear hb2)
  have dC:=ai (bY.o.alloc bY.o.size (.cells #[I g1,I g2,I g3,.bool g4] 47))
  have gb:=B.new w2 #[I g1,I g2,I g3,.bool g4] 47
  obtain⟨W3,hW3⟩:=ex (w2.alloc (.cells #[I g1,I g2,I g3,.bool g4] 47))
  obtain⟨yb,U6⟩:=ex w2.heap.size
  rw[<- hW3] at dC gb ⊢
  rw[<- U6] at gb ⊢
  clear hW3 U6
  obtain⟨y0,y1,y2,y3⟩:=B.c4 gb
  obtain⟨k0,k1,k2,k3,k4⟩:=B.c5 (KB.o _ dC.o)
  go_wp2_with (go_at_call 49;refine(ky.o _ dC.o).mono ?_;rintro e w4 ⟨rfl,hb4⟩;have gN:=ai (dC.o.trans (hb4.mono dC.o.size));clear hb4)
  go_ret
  exact⟨rfl,bI.o.trans (gN.o.mono bI.o.size)⟩
 | some e =>
  obtain⟨i,hi,he,ZL,hno⟩:=Dj ho.symm
  have hk2:=xk e (KM.ik ho.symm)
  have Kf:Hid (Calls Tryz.prog 67 #[.agg #[.bool lv,.slice aa fT.length ca,.slice ap es.length cp],I p] WA fun e w'=>e=.returned (I (i:Int))/\Below WA.heap.size WA w'):=by
   have:=uI es lv (.slice aa fT.length ca) ap cp p i WA (yu.below hb0) hen hno (.inr ⟨hi,ZL⟩)
   rw[if_pos hi] at this
   exact this
  have fX:Hid (∀V,Below WA.heap.size WA V->∃eb eo,ap=some (Ad eb eo)/\V.cell? (Ad eb (eo+i*3+1))=some (I e.kind)/\V.cell? (Ad eb (eo+i*3+2))=some (I e.loc)):=fun V hV=>by
   obtain⟨eb,eo,g1,g2,g3⟩:=(yu.below (eW hV)) (by omega)
   have z1:V.cell? (Ad eb (eo+i*3+1))=some (I (KM.aJ es i).kind):=g3 i hi 1 (by omega)
   have z2:V.cell? (Ad eb (eo+i*3+2))=some (I (KM.aJ es i).loc):=g3 i hi 2 (by omega)
   rw[he] at z1 z2
   exact⟨eb,eo,g1,z1,z2⟩
  have J0:(i:Int)<(es.length:Int):=by omega
  rcases hk2 with⟨q1,q2,q3⟩ | ⟨q1,q2,q3⟩
  · obtain⟨m,hmm⟩:∃m:Nat,e.loc=(m:Int):=⟨e.loc.toNat,by omega⟩
    have FZ:Hid (∀V,Below WA.heap.size WA V->∃fb fo,a.aF=some (Ad fb fo)/\V.cell? (Ad fb (fo+m*4))=some (.string (KM.aD k.frames m).data)):=fun V hV=>by
     obtain⟨fb,fo,e1,e2,e3⟩:=(hK.frames.below (eW hV)) (by omega)
     have z:=e3 m (by omega) 0 (by omega)
     rw[Nat.add_zero] at z
     exact⟨fb,fo,e1,z⟩
    have SK:(m:Int)<(k.frames.length:Int):=by omega
    show Calls _ _ _ _ fun x w'=>x=.returned (.string (if e.kind=1 then (KM.aD k.frames e.loc.toNat).data else (KM.bk k.slots e.loc.toNat).data))/\Below w.heap.size w w'
    rw[if_pos q1,hmm,Int.toNat_natCast]
    rw[q1,hmm] at fX
    obtain⟨D,hD⟩:=ex ((KM.aD k.frames m).data)
    rw[<- hD] at FZ ⊢
    unfold aH at eV ⊢
    clear hK hF hR hm zj yu nO hsj hen SV hzz hpk xk Po hrise hs dx hb0 kb sb W0 tA v0 v1 v2 eW ho hD hj hpl hpo q1 q2 q3 hmm he ZL hno hi
    go_enter Tryz.func32,Tryz.ntmps32
    go_upto_region 2 with fail
    rw[<- eV.o]
    obtain⟨x0,x1,x2⟩:=B.c3 (SB.o WA (Below.refl _ _))
    clear u0 u1 u2 c3
    go_upto_region 6 with(go_at_call 67;refine Kf.o.mono ?_;rintro e w1 ⟨rfl,hb1⟩;have aZ:=ai hb1;clear hb1)
    obtain⟨eb,eo,hap,z1,z2⟩:=fX.o _ aZ.o
    have hq:=SB.o _ aZ.o
    rw[hap] at hq
    obtain⟨x0,x1,x2⟩:=B.c3 hq
    obtain⟨k0,k1,k2,k3,k4⟩:=B.c5 (KB.o _ aZ.o)
    clear hq hap
    obtain⟨fb,fo,hfo,z⟩:=FZ.o _ aZ.o
    rw[hfo] at k1
    clear hfo
    go_upto_region 7 with fail
    go_region
    go_wp2
    go_ret
    exact⟨rfl,(bI.o.trans (aZ.o.mono bI.o.size)).drew⟩
  · obtain⟨m,hmm⟩:∃m:Nat,e.loc=(m:Int):=⟨e.loc.toNat,by omega⟩
    have FZ:Hid (∀V,Below WA.heap.size WA V->∃fb fo,a.aL=some (Ad fb fo)/\V.cell? (Ad fb (fo+m*2))=some (.string (KM.bk k.slots m).data)):=fun V hV=>by
     obtain⟨fb,fo,e1,e2,e3⟩:=(hK.slots.below (eW hV)) (by omega)
     have z:=e3 m (by omega) 0 (by omega)
     rw[Nat.add_zero] at z
     exact⟨fb,fo,e1,z⟩
    have SK:(m:Int)<(k.slots.length:Int):=by omega
    show Calls _ _ _ _ fun x w'=>x=.returned (.string (if e.kind=1 then (KM.aD k.frames e.loc.toNat).data else (KM.bk k.slots e.loc.toNat).data))/\Below w.heap.size w w'
    rw[if_neg (by omega),hmm,Int.toNat_natCast]
    rw[q1,hmm] at fX
    obtain⟨D,hD⟩:=ex ((KM.bk k.slots m).data)
    rw[<- hD] at FZ ⊢
    unfold aH at eV ⊢
    clear hK hF hR hm zj yu nO hsj hen SV hzz hpk xk Po hrise hs dx hb0 kb sb W0 tA v0 v1 v2 eW ho hD hj hpl hpo q1 q2 q3 hmm he ZL hno hi
    go_enter Tryz.func32,Tryz.ntmps32
    go_upto_region 2 with fail
    rw[<- eV.o]
    obtain⟨x0,x1,x2⟩:=B.c3 (SB.o WA (Below.refl _ _))
    clear u0 u1 u2 c3
    go_upto_region 6 with(go_at_call 67;refine Kf.o.mono ?_;rintro e w1 ⟨rfl,hb1⟩;have aZ:=ai hb1;clear hb1)
    obtain⟨eb,eo,hap,z1,z2⟩:=fX.o _ aZ.o
    have hq:=SB.o _ aZ.o
    rw[hap] at hq
    obtain⟨x0,x1,x2⟩:=B.c3 hq
    obtain⟨k0,k1,k2,k3,k4⟩:=B.c5 (KB.o _ aZ.o)
    clear hq hap
    obtain⟨fb,fo,hfo,z⟩:=FZ.o _ aZ.o
    rw[hfo] at k2
    clear hfo
    go_upto_region 8 with fail
    go_region
    go_wp2
    go_ret
    exact⟨rfl,(bI.o.trans (aZ.o.mono bI.o.size)).drew⟩
end KR
namespace KZ
open Go.RowKit GK KO
open FW (ai aC)
open KW (bE bD aI aU fe cO aH dH bQ kF eY b6 il)
open KS (Lc bO oD dm blk cT)
open KX (tN Held ids)
open KY (l4 fp cW nY)
def l8:KM.Kn:=⟨[],[],[],[],0⟩
def st0:St:=⟨fun _=>.no,Nl,Nl,Nl,Nl,[]⟩
def dw (w:World) (k:KM.Kn) (vs:List Value) (e:Ending) (w':World):Prop:=∃S hs,KM.Same k.ak hs/\e=.returned (.tuple (Value.agg #[S.vS,S.vF,S.vL,S.vP,I k.hand]::vs).toArray)/\Kr w.heap.size w' S (KM.bl k hs)/\Below w.heap.size w w'
theorem OY (lo:Nat) (w:World):Kr lo w st0 l8:=by
 refine⟨fun b hb=>absurd rfl hb,World.ownsRow_nil _ _ _ _,fun i hi=>?_,World.ownsRow_nil _ _ _ _,World.ownsRow_nil _ _ _ _,World.ownsRow_nil _ _ _ _,rfl,fun i hi=>?_,fun b hb=>?_,fun i hi=>?_,fun b hb=>?_,fun b hb=>?_,fun b hb=>?_,fun i hi=>?_,fun i hi=>?_⟩
 all_goals first | cases hb | cases hi
theorem ng {w w':World} (vs:List Value) (hb:Below w.heap.size w w'):dw w l8 vs (.returned (.tuple (Value.agg #[Nl,Nl,Nl,Nl,I 0]::vs).toArray)) w':=⟨st0,[],rfl,rfl,OY _ _,hb⟩
theorem zB {k:KM.Kn} {sp size way:Int} {ways:List Int} (h:cW k sp size way ways=0):b6 k sp=0/\(1<=size/\size<=8)/\way∈ways:=by
 unfold KY.cW at h
 by_cases c1:b6 k sp=0
 · rw[if_neg (fun x=>x c1)] at h
   by_cases c2:1<=size/\size<=8
   · rw[if_neg (fun x=>x c2)] at h
     by_cases c3:way∈ways
     · exact⟨c1,c2,c3⟩
     · rw[if_neg c3] at h;cases h
   · rw[if_pos c2] at h;cases h
 · rw[if_pos c1] at h;exact absurd h c1
theorem Em {W:World} {rb fb:Nat} (hr:W.heap[rb]?=some (.cells #[Nl,Nl,Nl,Nl,I 0] 27 (0,0))) (hf:W.heap[fb]?=some (.cells #[I 0,I 0] 36 (0,0))) (hne:rb≠fb) (s f l p h x y:Value) {V:World} (hV:V=((((((W.setCell (Ad rb 0) s).setCell (Ad rb 1) f).setCell (Ad rb 2) l).setCell (Ad rb 3) p).setCell (Ad rb 4) h).setCell (Ad fb 0) x).setCell (Ad fb 1) y) :
  V.heap[rb]?=some (.cells #[s,f,l,p,h] 27 (0,0))/\V.heap[fb]?=some (.cells #[x,y] 36 (0,0))/\Kp (fun b=>b=rb∨b=fb) W V:=by
 have h1:(((((W.setCell (Ad rb 0) s).setCell (Ad rb 1) f).setCell (Ad rb 2) l).setCell (Ad rb 3) p).setCell (Ad rb 4) h).heap[rb]?=some (.cells #[s,f,l,p,h] 27 (0,0)):=B.set (B.set (B.set (B.set (B.set hr 0 s) 1 f) 2 l) 3 p) 4 h
 have Md:fb≠rb:=fun e=>hne e.symm
 have h2:=B.other (B.other (B.other (B.other (B.other hf rb 0 s Md) rb 1 f Md) rb 2 l Md) rb 3 p Md) rb 4 h Md
 subst hV
 refine⟨B.other (B.other h1 fb 0 x hne) fb 1 y hne,B.set (B.set h2 0 x) 1 y,?_⟩
 have k:∀(A:World) (g j:Nat) (v:Value),g=rb∨g=fb->Kp (fun b=>b=rb∨b=fb) A (A.setCell (Ad g j) v):=fun A g j v hg=>Kp.set _ A (Ad g j) v hg
 exact((((((k _ _ _ _ (.inl rfl)).trans (k _ _ _ _ (.inl rfl)) (fun _ _ g=>g)).trans (k _ _ _ _ (.inl rfl)) (fun _ _ g=>g)).trans (k _ _ _ _ (.inl rfl)) (fun _ _ g=>g)).trans (k _ _ _ _ (.inl rfl)) (fun _ _ g=>g)).trans (k _ _ _ _ (.inr rfl)) (fun _ _ g=>g)).trans (k _ _ _ _ (.inr rfl)) (fun _ _ g=>g)
end KZ
namespace KG
open Go.RowKit GK KO
open KW (fe cO aH eY lZ)
theorem Ih {s:LM.Sh} (h:LM.bH s=true):LM.Bq s:=by
 unfold LM.bH LM.jc at h
 rw[Bool.and_eq_true,decide_eq_true_eq] at h
 obtain⟨⟨h1,h2,h3⟩,hf⟩:=h
 have hl:=LM.iK _ _ hf
 refine⟨⟨by omega,by omega⟩,by unfold M.br;omega,by unfold M.br;omega,fun k hk=>?_⟩
 have all:∀n,LM.bU s.bq n=true->∀i,i<n->LM.bU s.bq i=true/\LM.A7 (LM.kN s.bq i) (LM.lM s.bq i)=true:=fun n=>by
  induction n with
  | zero=>intro _ i hi;omega
  | succ n ih =>
   intro hn i hi
   simp only[LM.bU,Bool.and_eq_true] at hn
   by_cases c:i=n
   · rw[c];exact hn
   · exact ih hn.1 i (by omega)
 obtain⟨g1,g2⟩:=all _ hf k hk
 have g3:=LM.iK _ _ g1
 unfold LM.A7 at g2
 rw[decide_eq_true_eq] at g2
 exact⟨⟨by omega,by omega⟩,by unfold M.br;omega⟩
theorem vQ {hs:List LM.Sh} (h:LM.cZ hs=true) (hl:hs.length<=255):LM.oq hs:=⟨by unfold M.br;omega,fun k hk=>Ih (LM.jJ hs hs.length h k hk).1⟩
theorem pL {k:KM.Kn} (h:KM.aQ k):eY k:=by
 have hc:=h.c
 obtain⟨r1,r2⟩:=KX.m7 h
 have hh:=h.hand
 refine⟨vQ h.dU (by omega),by unfold M.br;omega,fun i hi=>⟨?_,?_⟩,by unfold M.br;omega,fun i hi=>⟨?_,?_⟩,by unfold M.br;omega,fun i hi=>⟨?_,?_,fun n hn=>?_⟩,⟨by omega,by omega⟩⟩
 · have f:=h.mO i hi
   unfold M.br
   by_cases c:KM.names k.aj 1 i=[]
   · rw[f.zero c];exact Nat.zero_le _
   · rw[f.size c];decide
 · have:=r1 i hi
   exact⟨by omega,by omega⟩
 · have f:=h.slt i hi
   unfold M.br
   by_cases c:KM.names k.aj 2 i=[]
   · rw[f.zero c];exact Nat.zero_le _
   · rw[f.size c];decide
 · have:=r2 i hi
   exact⟨by omega,by omega⟩
 · exact AM.gu _ (h.sp hi).aA
 · have:=KX.iI h hi
   unfold M.br;omega
 · have s:=h.sp hi
   have he:KM.aJ (KM.aq k.aj i).au n∈(KM.aq k.aj i).au:=KM.dB hn
   obtain⟨e1,e2⟩:=s.tH _ he
   have e3:=FM.jN s.aA e1
   rcases e2 with⟨e4,e5,e6⟩ | ⟨e4,e5,e6⟩
   · exact⟨⟨by omega,by omega⟩,by rw[e4];exact⟨by decide,by decide⟩,⟨by omega,by omega⟩⟩
   · exact⟨⟨by omega,by omega⟩,by rw[e4];exact⟨by decide,by decide⟩,⟨by omega,by omega⟩⟩
theorem Lm {lo:Nat} {w:World} {S:St} {k:KM.Kn} (h:Kr lo w S k):∃a,#[S.vS,S.vF,S.vL,S.vP,I k.hand]=aH a k/\∀U,Kp (fun b=>b<lo) w U->cO U a k:=by
 obtain⟨a,p,_⟩:=h.has
 refine⟨a,by unfold aH;rw[p.eS,p.eF,p.eL,p.eP],fun U hU=>?_⟩
 obtain⟨a',p',ha⟩:=(h.kp hU (fun b hb e=>by have:=(h.mW b hb).1;omega)).has
 have e1:=p.eS.symm.trans p'.eS
 have e2:=p.eF.symm.trans p'.eF
 have e3:=p.eL.symm.trans p'.eL
 have e4:=p.eP.symm.trans p'.eP
 injection e1 with q1 _ q2
 injection e2 with q3 _ q4
 injection e3 with q5 _ q6
 injection e4 with q7 _ q8
 have:a'=a:=by
  cases a
  cases a'
  simp only at q1 q2 q3 q4 q5 q6 q7 q8
  subst q1 q2 q3 q4 q5 q6 q7 q8
  rfl
 rw[<- this]
 exact ha
def aas (w:World) (k:KM.Kn) (vs:List Value) (e:Ending) (w':World):Prop:=∃hs a,KM.Same k.ak hs/\e=.returned (.tuple (Value.agg (aH a (KM.bl k hs))::vs).toArray)/\(∀U,Kp (fun b=>b<w.heap.size) w' U->cO U a (KM.bl k hs))/\Below w.heap.size w w'
theorem QR {w:World} {k:KM.Kn} {vs:List Value} {e:Ending} {w':World} (h:KZ.dw w k vs e w'):aas w k vs e w':=by
 obtain⟨S,hs,h1,h2,h3,h4⟩:=h
 obtain⟨a,e1,e2⟩:=Lm h3
 exact⟨hs,a,h1,by rw[h2,<- e1];rfl,e2,h4⟩
end KG
namespace KX
open Go.RowKit GK KO
open FW (ai aC)
open KW (bE bD aI aU fe cO aH dH bQ dG)
open KS (Lc bO oD dm blk cT)
theorem vw (l:List Nat):(ids l).length=l.length:=by unfold ids;rw[List.length_map]
theorem L1 (l:List Nat) (n:Nat) (hn:n<l.length):KW.EO (ids l) n=((l.getD n 0:Nat):Int):=by
 unfold KW.EO ids
 rw[List.getD_eq_getElem?_getD,List.getElem?_map,List.getD_eq_getElem?_getD,List.getElem?_eq_getElem hn]
 rfl
theorem CO {lo mb:Nat} {tt:TypeId} {X:List Value} (k:KM.Kn) (S:St) (w:World) (l:List Nat) (av:Option Addr) (cv:Nat) (h:Km lo mb tt X w S k) (hH:Held w S av (ids l)) (hl:∀n,n<l.length->l.getD n 0<k.frames.length) (hll:l.length<=2) (hsz:∀n,n<l.length->(KM.aD k.frames (l.getD n 0)).data.size<=1000) (lJ:0<k.frames.length) :
  Calls Tryz.prog 64 #[.pointer (some (Ad mb 0)),.slice av l.length cv] w fun e w'=>e=.returned (.string (KM.eK k.frames l l.length))/\w'=w:=by
 obtain⟨fb,cF,A⟩:=h.toKr.fr lJ
 have c1:=h.c1
 rw[A.v] at c1
 have HX:=ai A.x0
 have HH:=ai hH.has
 have HL:=ai hl
 have HSZ:=ai hsz
 have HJB:Hid (∀n,n<=l.length->(KM.eK k.frames l n).size<=n*1000):=fun n=>by
  induction n with
  | zero=>intro _;exact Nat.zero_le _
  | succ n ih =>
   intro hn
   unfold KM.eK
   rw[ByteArray.size_append]
   have:=ih (by omega)
   have:=hsz n (by omega)
   omega
 obtain⟨nf,CZ⟩:=ex k.frames.length
 rw[<- CZ] at c1 HX HL
 clear h hH A hl hsz lJ CZ
 go_enter Tryz.func64,Tryz.ntmps64
 go_wp2
 go_loopw [5,10] (fun dv iv wr=>∃n:Nat,n<=l.length/\iv=I (n:Int)/\dv=.string (KM.eK k.frames l n)/\wr=w) (fun _ iv _=>l.length-(intOf iv).toNat)
 case atStart=>exact⟨0,by omega,rfl,rfl,rfl⟩
 case round =>
  obtain⟨n,hn,rfl,rfl,rfl⟩:=hrel
  by_cases hlt:n<l.length
  · have hni:(n:Int)<(l.length:Int):=by omega
    have hjb:=HJB.o n hn
    have hs1:=HSZ.o n hlt
    obtain⟨eb,eo,hao,hbl,bC⟩:=HH.o (by rw[vw];omega)
    subst hao
    have y0:=bC n (by rw[vw];exact hlt) 0 (by omega)
    rw[Nat.add_zero,Nat.mul_one] at y0
    have e0:=L1 l n hlt
    have x0:wr.cell? (Ad eb (eo+n))=some (I ((l.getD n 0:Nat):Int)):=by
     rw[<- e0];exact y0
    have hq:=HL.o n hlt
    have xF:=HX.o (l.getD n 0) hq
    have iL:Hid (KM.eK k.frames l (n+1)=KM.eK k.frames l n++(KM.aD k.frames (l.getD n 0)).data):=rfl
    obtain⟨q,Vg⟩:=ex (l.getD n 0)
    rw[<- Vg] at x0 xF iL hq hs1
    obtain⟨FD,Rf⟩:=ex ((KM.aD k.frames q).data)
    rw[<- Rf] at xF iL hs1
    obtain⟨JD,Rc⟩:=ex (KM.eK k.frames l n)
    rw[<- Rc] at iL hjb ⊢
    have Zr:(q:Int)<(nf:Int):=by omega
    clear bC y0 e0 Vg Rf Rc
    go_wp2
    go_roundw
    case rel=>exact⟨n+1,by omega,by go_num,by rw[iL.o],trivial⟩
    case measure=>simp[intOf];omega
  · obtain rfl:n=l.length:=by omega
    go_wp2
    go_ret
    exact⟨rfl,rfl⟩
theorem rC (k:KM.Kn) (l:List Nat) (s:ByteArray):∀n,(KM.gT k l s n).frames.length=k.frames.length
 | 0=>rfl
 | n+1=>by
  unfold KM.gT KM.uZ
  show(List.set _ _ _).length=_
  rw[List.length_set,rC k l s n]
theorem Lf {lo mb:Nat} {tt:TypeId} {X:List Value} (k:KM.Kn) (S:St) (w:World) (l:List Nat) (s:ByteArray) (av:Option Addr) (cv:Nat) (h:Km lo mb tt X w S k) (hH:Held w S av (ids l)) (hl:∀n,n<l.length->l.getD n 0<k.frames.length) (hll:l.length<=2) (hs:l.length*16<=s.size) (hs2:s.size<=1000) (lJ:0<k.frames.length) :
  Calls Tryz.prog 66 #[.pointer (some (Ad mb 0)),.slice av l.length cv,.string s] w (mS lo mb tt X w S (.tuple #[]) (KM.gT k l s l.length)):=by
 have HH:=ai hH
 have HL:=ai hl
 have vr:Hid (∀V n,n<l.length->Km lo mb tt X V S (KM.gT k l s n)->∃fb cF,¬mb=fb/\V.cell? (Ad mb 1)=some (.slice (some (Ad fb 0)) k.frames.length cF)/\(∀V',Below V.heap.size V V'->V'.cell? (Ad fb (l.getD n 0*4))=some (.string (KM.aD (KM.gT k l s n).frames (l.getD n 0)).data)/\V'.frozen? (Ad fb (l.getD n 0*4))=false/\Km lo mb tt X (V'.setCell (Ad fb (l.getD n 0*4)) (.string (s.extract (n*16) (n*16+16)))) S (KM.gT k l s (n+1))/\Ch S V S (V'.setCell (Ad fb (l.getD n 0*4)) (.string (s.extract (n*16) (n*16+16)))))):=fun V n hn hV=>by
  obtain⟨fb,cF,A⟩:=hV.toKr.fr (by rw[rC];exact lJ)
  have c1:=hV.c1
  rw[A.v,rC] at c1
  refine⟨fb,cF,fun e=>by have:=A.lab;rw[<- e,hV.lH] at this;simp at this,c1,fun V' hb=>?_⟩
  have XX:=hV.below hb
  obtain⟨Tj,Ye,A'⟩:=XX.toKr.fr (by rw[rC];exact lJ)
  have e:Tj=fb:=by
   have:=A'.v
   rw[A.v] at this
   injection this with e1 _ _
   injection e1 with e1
   injection e1 with e1 _ _
   exact e1.symm
  subst e
  have hi:l.getD n 0<(KM.gT k l s n).frames.length:=by rw[rC];exact hl n hn
  exact⟨A'.x0 _ hi,A'.fz _,XX.sP A'.v hi (j:=0) (by omega) rfl,(Ch.below hb).trans (MW XX.toKr A'.v)⟩
 have zR:Hid (∀V n,n<l.length->Calls Tryz.prog 63 #[.string s,I ((n:Int)*16),I 16] V fun e w'=>e=.returned (.tuple #[.string (s.extract (n*16) (n*16+16)),I 0])/\Below V.heap.size V w'):=fun V n hn=>by
  have:=CW.wL s (n*16) 16 V (by omega) (by omega)
  rw[show((n*16:Nat):Int)=(n:Int)*16 by omega,show((16:Nat):Int)=16 from rfl] at this
  exact this
 have iz:=ai h
 have bh:Hid (∀V,Km lo mb tt X V S (KM.gT k l s l.length)->Ch S w S V->mS lo mb tt X w S (.tuple #[]) (KM.gT k l s l.length) (.returned (.tuple #[])) V):=fun V h1 h2=>⟨rfl,h1,h2⟩
 obtain⟨P,hP⟩:=ex (mS lo mb tt X w S (.tuple #[]) (KM.gT k l s l.length))
 rw[<- hP] at bh ⊢
 obtain⟨nf,CZ⟩:=ex k.frames.length
 rw[<- CZ] at vr HL
 clear h hH hl lJ CZ hs hs2 hP
 go_enter Tryz.func66,Tryz.ntmps66
 go_wp2
 go_loopw [10] (fun iv wr=>∃n:Nat,n<=l.length/\iv=I (n:Int)/\Km lo mb tt X wr S (KM.gT k l s n)/\Ch S w S wr) (fun iv _=>l.length-(intOf iv).toNat)
 case atStart=>exact⟨0,by omega,rfl,iz.o,Ch.refl _ _⟩
 case round =>
  obtain⟨n,hn,rfl,fQ,hch⟩:=hrel
  by_cases hlt:n<l.length
  · have hni:(n:Int)<(l.length:Int):=by omega
    have lK:=HH.o.ch hch
    obtain⟨eb,eo,hao,hbl,bC⟩:=lK.has (by rw[vw];omega)
    subst hao
    have y0:=bC n (by rw[vw];exact hlt) 0 (by omega)
    rw[Nat.add_zero,Nat.mul_one] at y0
    have e0:=L1 l n hlt
    have x0:wr.cell? (Ad eb (eo+n))=some (I ((l.getD n 0:Nat):Int)):=by
     rw[<- e0];exact y0
    have hq:=HL.o n hlt
    obtain⟨fb,cF,Uc,c1,hwr⟩:=vr.o wr n hlt fQ
    have Ym:=ai hwr
    have Nv:=ai (fun V=>zR.o V n hlt)
    have BC:=ai hch
    obtain⟨q,Vg⟩:=ex (l.getD n 0)
    rw[<- Vg] at x0 hq Ym
    obtain⟨FD,Rf⟩:=ex ((KM.aD (KM.gT k l s n).frames q).data)
    rw[<- Rf] at Ym
    obtain⟨PD,hPD⟩:=ex (s.extract (n*16) (n*16+16))
    rw[<- hPD] at Ym Nv
    have Zr:(q:Int)<(nf:Int):=by omega
    have mU:mb<wr.heap.size:=World.block_lt_of_cell? wr _ c1
    have hmu:IntKind.i64.wrap ((n:Int)*16)=(n:Int)*16:=IntWalk.i64_in _ (by omega)
    clear bC y0 e0 Vg Rf hPD fQ hch hwr lK iz
    go_upto_region 3 with fail
    have iz:=ai (Below.refl wr.heap.size wr).drew
    have gL:Hid (wr.drew.cell? (Ad mb 1)=some (.slice (some (Ad fb 0)) nf cF)):=(iz.o.cell (p:=(Ad mb 1)) mU).trans c1
    go_region_held3 (fun V=>V.cell? (Ad mb 1)=some (.slice (some (Ad fb 0)) nf cF)) (first | exact jF.o | exact gL.o | exact WG.o)
     ((go_at_call 63;refine(Nv.o _).mono ?_;rintro r w5 ⟨rfl,rW⟩;have NA:=ai (iz.o.trans (rW.mono iz.o.size));have jF:Hid (w5.cell? (Ad mb 1)=some (.slice (some (Ad fb 0)) nf cF)):=(NA.o.cell (p:=(Ad mb 1)) mU).trans c1;have WG:Hid ((w5.setCell (Ad fb (q*4)) (.string PD)).cell? (Ad mb 1)=some (.slice (some (Ad fb 0)) nf cF)):=(bZ _ _ _ _ _ _ Uc).trans jF.o;obtain⟨z0,z1,z2,z3⟩:=Ym.o w5 NA.o;have tM:=ai z2;have HZ3:=ai z3;clear rW z2 z3))
    all_goals clear gL jF WG Nv
    all_goals go_wp2
    go_roundw
    case rel=>exact⟨n+1,by omega,by go_num,tM.o,BC.o.trans HZ3.o⟩
    case measure=>simp[intOf];omega
  · obtain rfl:n=l.length:=by omega
    have HX:=ai (bh.o wr fQ hch)
    clear fQ hch
    go_wp2
    first
     | exact HX.o
     | (refine bodyPost_end (v:=.tuple #[]) (by simp[results,Tryz.results66,go_sem]) rfl ?_;exact HX.o)
end KX
end Go.Proofs.YtpgifpeohlllfaaGreat
