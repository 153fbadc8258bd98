import Derived.Test.YtpgifpeohlllfaaGreatGP00
import Derived.Test.YtpgifpeohlllfaaGreatGP06
import Derived.Test.YtpgifpeohlllfaaGreatGP04
set_option maxHeartbeats 20000000
set_option linter.unusedVariables false
set_option maxRecDepth 100000
set_option linter.unusedSimpArgs false
namespace Go.Proofs.YtpgifpeohlllfaaGreat
namespace KW
open Go.RowKit GK
open FW (ai aC)
theorem Mr {hs:List LM.Sh} {ar:List AM.Ar} {k n:Nat} (hk:k<ar.length) (hn:n<(AM.at_ ar k).aB.toNat) (hz:(AM.at_ ar k).zero=false) (he:KM.filled hs ((AM.at_ ar k).page+(n:Int))=⟨#[]⟩):KM.og hs ar=false:=by
 cases q:KM.og hs ar with
 | false=>rfl
 | true =>
  unfold KM.og at q
  rw[List.all_eq_true] at q
  have:=q (AM.at_ ar k) (KM.dB hk)
  rw[List.all_eq_true] at this
  have:=this n (List.mem_range.2 hn)
  rw[hz,he] at this
  cases this
theorem Ji {hs:List LM.Sh} {ar:List AM.Ar} (h:∀k,k<ar.length->∀n,n<(AM.at_ ar k).aB.toNat->(AM.at_ ar k).zero=true∨KM.filled hs ((AM.at_ ar k).page+(n:Int))≠⟨#[]⟩):KM.og hs ar=true:=by
 unfold KM.og
 rw[List.all_eq_true]
 intro a ha
 obtain⟨k,hk,rfl⟩:=KM.eu AM.nil ha
 rw[List.all_eq_true]
 intro n hn
 rcases h k hk n (List.mem_range.1 hn) with g | g
 · rw[show(ar.getD k AM.nil).zero=true from g];rfl
 · rw[Bool.or_eq_true,decide_eq_true_eq]
   right
   intro e
   refine g ?_
   have:(KM.filled hs ((AM.at_ ar k).page+(n:Int))).size=0:=e
   obtain⟨x,hx⟩:=ex (KM.filled hs ((AM.at_ ar k).page+(n:Int)))
   rw[<- hx] at this ⊢
   obtain⟨⟨l⟩⟩:=x
   have:l=[]:=List.eq_nil_of_length_eq_zero this
   rw[this]
theorem xm (hs:List LM.Sh) (ar:List AM.Ar) (va:Value) (mb:Nat) (w:World) (ha:AW.Has w va ar) (hc:AM.aO ar=0) (hmb:mb<w.heap.size) (hfl:∀n:Nat,n<256->w.cell? (Ad mb (5+n))=some (.string (KM.filled hs n))) :
  Calls Tryz.prog 149 #[.pointer (some (Ad mb 0)),va] w fun e w'=>e=.returned (.bool (KM.og hs ar))/\Below w.heap.size w w':=by
 obtain⟨ao,cap,rfl,bC⟩:=ha
 have hlen:=AM.gm ar hc
 have HL:=ai bC
 have QD:=ai hfl
 have HOK:=ai (fun k (hk:k<ar.length)=>AM.cM ar k (AM.cH ar hc k hk))
 have fI:=ai (fun k n=>@Mr hs ar k n)
 have NB:=ai (@Ji hs ar)
 obtain⟨A,hA⟩:=ex (KM.og hs ar)
 rw[<- hA] at fI NB ⊢
 clear bC hfl hA
 go_enter Tryz.func149,Tryz.ntmps149
 go_wp2
 go_loopw [10] (fun iv wr=>∃k:Nat,k<=ar.length/\iv=I (k:Int)/\Below w.heap.size w wr/\∀i,i<k->∀n,n<(AM.at_ ar i).aB.toNat->(AM.at_ ar i).zero=true∨KM.filled hs ((AM.at_ ar i).page+(n:Int))≠⟨#[]⟩) (fun iv _=>ar.length-(intOf iv).toNat)
 case atStart=>exact⟨0,by omega,rfl,Below.refl _ _,fun i hi=>by omega⟩
 case round =>
  obtain⟨k,hk,rfl,hb,oV⟩:=hrel
  have HB:=ai hb
  have HP:=ai oV
  clear oV
  by_cases hlt:k<ar.length
  · obtain⟨b,off,hao,zj⟩:=HL.o.resolve_left (fun e=>by rw[e] at hlt;cases hlt)
    subst hao
    obtain⟨d0,d1,d2,d3⟩:=zj k hlt
    have hbl:=zj.lt k hlt
    have c0:=(hb.cell (p:=(Ad b (off+k*4))) hbl).trans d0
    have c1:=(hb.cell (p:=(Ad b (off+k*4+1))) hbl).trans d1
    have c2:=(hb.cell (p:=(Ad b (off+k*4+2))) hbl).trans d2
    have c3:=(hb.cell (p:=(Ad b (off+k*4+3))) hbl).trans d3
    have hok:=HOK.o k hlt
    have fI:=ai (fun n=>fI.o k n hlt)
    have HS:Hid (∀n,n<(AM.at_ ar k).aB.toNat->(AM.at_ ar k).zero=true∨KM.filled hs ((AM.at_ ar k).page+(n:Int))≠⟨#[]⟩)->Hid (∀i,i<k+1->∀n,n<(AM.at_ ar i).aB.toNat->(AM.at_ ar i).zero=true∨KM.filled hs ((AM.at_ ar i).page+(n:Int))≠⟨#[]⟩):=fun g i hi=>by
     by_cases e:i=k
     · rw[e];exact g.out
     · exact HP.o i (by omega)
    obtain⟨a,ha⟩:=ex (AM.at_ ar k)
    rw[<- ha] at c0 c1 c2 c3 hok fI HS
    obtain⟨pg,ps,pt,z⟩:=a
    simp only at c0 c1 c2 c3 hok fI HS
    obtain⟨pn,rfl⟩:∃pn:Nat,pg=(pn:Int):=⟨pg.toNat,by omega⟩
    obtain⟨pm,rfl⟩:∃pm:Nat,ps=(pm:Int):=⟨ps.toNat,by omega⟩
    rw[Int.toNat_natCast] at HS fI
    have eW:¬b=wr.heap.size:=by have:=hb.size;omega
    have hmw:¬mb=wr.heap.size:=by have:=hb.size;omega
    have cj:=ai (HB.o.alloc HB.o.size (.cells #[I (pn:Int),I (pm:Int),I pt,.bool z] 47))
    have SA:=ai (B.new wr #[I (pn:Int),I (pm:Int),I pt,.bool z] 47)
    clear ha d0 d1 d2 d3 zj HP NB HOK HL hb
    go_wp2
    obtain⟨W1,hW1⟩:=ex (wr.alloc (.cells #[I (pn:Int),I (pm:Int),I pt,.bool z] 47))
    rw[<- hW1] at cj SA ⊢
    obtain⟨sb,oU⟩:=ex wr.heap.size
    rw[<- oU] at SA ⊢
    clear hW1 oU c0 c1 c2 c3 eW hmw
    have s0:W1.cell? (Ad sb 0)=some (I (pn:Int)):=B.cell SA.o 0 rfl
    have s3:W1.cell? (Ad sb 3)=some (.bool z):=B.cell SA.o 3 rfl
    have HWF:Hid (∀n:Nat,n<256->W1.cell? (Ad mb (5+n))=some (.string (KM.filled hs n))):=fun n hn=>(cj.o.cell (p:=(Ad mb (5+n))) hmb).trans (QD.o n hn)
    go_loopw [16] (fun iv wq=>∃n:Nat,n<=pm/\iv=I (n:Int)/\(wq.heap=W1.heap/\Below w.heap.size w wq)/\∀i,i<n->z=true∨KM.filled hs ((pn:Int)+(i:Int))≠⟨#[]⟩) (fun iv _=>pm-(intOf iv).toNat)
    case atStart=>exact⟨0,by omega,rfl,⟨rfl,cj.o⟩,fun i hi=>by omega⟩
    case round =>
     obtain⟨n,hn,rfl,⟨hD,Bv⟩,oV⟩:=hrel
     obtain⟨wq,hwq⟩:=ex wr
     rw[<- hwq] at hD Bv ⊢
     clear hwq
     have x7:=ai Bv
     have Rw:=ai hD
     have zS:=ai oV
     have r0:wq.cell? (Ad sb 0)=some (I (pn:Int)):=(World.cell?_of_block (by rw[hD])).trans s0
     have r3:wq.cell? (Ad sb 3)=some (.bool z):=(World.cell?_of_block (by rw[hD])).trans s3
     have HWQ:Hid (∀n:Nat,n<256->wq.cell? (Ad mb (5+n))=some (.string (KM.filled hs n))):=fun n hn=>(World.cell?_of_block (by rw[Rw.o])).trans (HWF.o n hn)
     clear hD Bv oV
     by_cases qK:n<pm
     · have hni:(n:Int)<(pm:Int):=by omega
       have HN:Hid (∀wz:World,wz=wq.drew->(wz.heap=W1.heap/\Below w.heap.size w wz)):=fun wz e=>by rw[e];exact⟨Rw.o,x7.o.drew⟩
       have Bj:Hid ((z=true∨KM.filled hs ((pn:Int)+(n:Int))≠⟨#[]⟩)->∀i,i<n+1->z=true∨KM.filled hs ((pn:Int)+(i:Int))≠⟨#[]⟩):=fun g i hi=>by
        by_cases e:i=n
        · rw[e];exact g
        · exact zS.o i (by omega)
       cases z with
       | true =>
        clear fI HS zS
        go_wp2
        go_region
        go_wp2
        go_roundw
        case rel=>exact⟨n+1,by omega,by go_num,HN.o _ rfl,Bj.o (.inl trivial)⟩
        case measure=>simp[intOf];omega
       | false =>
        have q:=HWQ.o (pn+n) (by omega)
        have ew:IntKind.i64.wrap ((pn:Int)+(n:Int))=((pn+n:Nat):Int):=by rw[IntKind.wrap_i64];omega
        have ei:((pn+n:Nat):Int)=(pn:Int)+(n:Int):=by omega
        have i0:(0:Int)<=((pn+n:Nat):Int):=by omega
        have i1:((pn+n:Nat):Int)<256:=by omega
        have fI:=ai (fI.o n qK rfl)
        rw[<- ei] at fI Bj
        obtain⟨X,hX⟩:=ex (pn+n)
        obtain⟨D,hD⟩:=ex (KM.filled hs (X:Int))
        rw[<- hX] at q ew i0 i1 fI Bj
        rw[<- hD] at q fI Bj
        clear HS zS HWQ hX hD ei
        by_cases hz:D=⟨#[]⟩
        · have hA:=fI.o hz
          subst hA hz
          go_wp2
          go_region
          go_wp2
          go_ret
          exact⟨rfl,x7.o.drew⟩
        · have hz2:D.toList.isEmpty=false:=by
           rw[Go.ByteArray.toList_eq]
           cases q2:D.data.toList.isEmpty with
           | false=>rfl
           | true=>exact absurd (by obtain⟨⟨l⟩⟩:=D;have e:l=[]:=List.isEmpty_iff.1 q2;rw[e]) hz
          clear fI
          go_wp2
          go_region
          go_wp2
          go_roundw
          case rel=>exact⟨n+1,by omega,by go_num,HN.o _ rfl,Bj.o (.inr hz)⟩
          case measure=>simp[intOf];omega
     · obtain rfl:n=pm:=by omega
       have iy:=ai (HS zS)
       have hni:¬(n:Int)<(n:Int):=by omega
       go_wp2
       go_roundw
       case rel=>exact⟨k+1,by omega,by go_num,x7.o,iy.o⟩
       case measure=>simp[intOf];omega
  · obtain rfl:k=ar.length:=by omega
    have hA:=NB.o HP.o
    subst hA
    clear hb
    go_wp2
    go_ret
    exact⟨rfl,HB.o⟩
theorem wC (hs:List LM.Sh) (s:KM.Sp) (va:Value) (ap:Option Addr) (cp mb:Nat) (w:World) (ha:AW.Has w va s.aA) (hf:lZ s) (hmb:mb<w.heap.size) (hfl:∀n:Nat,n<256->w.cell? (Ad mb (5+n))=some (.string (KM.filled hs n))) :
  Calls Tryz.prog 111 #[.pointer (some (Ad mb 0)),.agg #[.bool s.live,va,.slice ap s.au.length cp]] w fun e w'=>e=.returned (.bool (KM.jZ hs s))/\Below w.heap.size w w':=by
 have sI:=ai (fun V (hV:Below w.heap.size w V)=>AW.gv s.aA va V (ha.below hV) hf.aA)
 have TZ:Hid (AM.aO s.aA=0->∀V,Below w.heap.size w V->Calls Tryz.prog 149 #[.pointer (some (Ad mb 0)),va] V fun e w'=>e=.returned (.bool (KM.og hs s.aA))/\Below V.heap.size V w'):=fun hc V hV=>xm hs s.aA va mb V (ha.below hV) hc (Nat.lt_of_lt_of_le hmb hV.size) (fun n hn=>(hV.cell (p:=(Ad mb (5+n))) hmb).trans (hfl n hn))
 obtain⟨A,hA⟩:=ex (KM.jZ hs s)
 rw[<- hA]
 obtain⟨aa,ca,rU,_⟩:=ha
 subst rU
 have DV:=hf.aA.2
 have QZ:s.au.length<=140737488351232:=hf.au
 unfold KM.jZ at hA
 have HA:=ai hA
 clear hf hfl hA
 obtain⟨na,p9⟩:=ex s.aA.length
 obtain⟨np,rV⟩:=ex s.au.length
 obtain⟨C,hC⟩:=ex (AM.aO s.aA)
 obtain⟨E,hE⟩:=ex (KM.og hs s.aA)
 obtain⟨lv,hlv⟩:=ex s.live
 rw[<- p9] at HA sI TZ DV ⊢
 rw[<- rV] at HA QZ ⊢
 rw[<- hC] at HA sI TZ
 rw[<- hE] at HA TZ
 rw[<- hlv] at HA ⊢
 clear p9 rV hC hE hlv
 have HB:=ai ((Below.refl w.heap.size w).alloc (Nat.le_refl _) (.cells #[.bool lv,.slice aa na ca,.slice ap np cp] 43))
 have X0:=ai (B.new w #[.bool lv,.slice aa na ca,.slice ap np cp] 43)
 cases lv with
 | false =>
  have ma:Hid (A=(decide (na=0)&&decide (np=0))):=HA
  clear HA sI TZ
  rcases(show(na=0/\np=0)∨(na=0/\¬np=0)∨¬na=0 by omega) with⟨g,k⟩ | ⟨g,k⟩ | g
  · have h0:((na:Int)==0)=true:=by rw[beq_iff_eq];omega
    have h1:((np:Int)==0)=true:=by rw[beq_iff_eq];omega
    have oF:Hid (A=true):=by show _=_;rw[ma.o,decide_eq_true g,decide_eq_true k];rfl
    clear ma g k
    go_enter Tryz.func111,Tryz.ntmps111
    go_wp2
    go_ret
    exact⟨congrArg (fun b=>Ending.returned (.bool b)) oF.o.symm,HB.o⟩
  · have h0:((na:Int)==0)=true:=by rw[beq_iff_eq];omega
    have h1:((np:Int)==0)=false:=by rw[beq_eq_false_iff_ne];omega
    have oF:Hid (A=false):=by show _=_;rw[ma.o,decide_eq_false k,Bool.and_false]
    clear ma g k
    go_enter Tryz.func111,Tryz.ntmps111
    go_wp2
    go_ret
    exact⟨congrArg (fun b=>Ending.returned (.bool b)) oF.o.symm,HB.o⟩
  · have h0:((na:Int)==0)=false:=by rw[beq_eq_false_iff_ne];omega
    have oF:Hid (A=false):=by show _=_;rw[ma.o,decide_eq_false g,Bool.false_and]
    clear ma g
    go_enter Tryz.func111,Tryz.ntmps111
    go_wp2
    go_ret
    exact⟨congrArg (fun b=>Ending.returned (.bool b)) oF.o.symm,HB.o⟩
 | true =>
  have ma:Hid (A=(decide (C=0)&&E)):=HA
  clear HA
  by_cases g:C=0
  · subst g
    have HHT:=ai (TZ.o rfl)
    have oF:Hid (A=E):=ma
    clear ma TZ
    go_enter Tryz.func111,Tryz.ntmps111
    go_wp2_with (first | (go_at_call 98;refine(sI.o _ HB.o).mono ?_;rintro e w1 ⟨rfl,hb1⟩;have aZ:=ai (aC HB.o hb1);have X1:=ai (B.below X0.o hb1 (by simp));have x1:w1.cell? (Ad w.heap.size 1)=some (.slice aa na ca):=B.cell X1.o 1 rfl;clear hb1) | (go_at_call 149;refine(HHT.o _ aZ.o).mono ?_;rintro e w2 ⟨rfl,hb2⟩;have bY:=ai (aC aZ.o hb2);clear hb2))
    go_ret
    exact⟨congrArg (fun b=>Ending.returned (.bool b)) oF.o.symm,bY.o⟩
  · have oF:Hid (A=false):=by show _=_;rw[ma.o,decide_eq_false g,Bool.false_and]
    have g0:(C==0)=false:=by rw[beq_eq_false_iff_ne];exact g
    clear ma TZ
    go_enter Tryz.func111,Tryz.ntmps111
    go_wp2_with (go_at_call 98;refine(sI.o _ HB.o).mono ?_;rintro e w1 ⟨rfl,hb1⟩;have aZ:=ai (aC HB.o hb1);clear hb1)
    go_ret
    exact⟨congrArg (fun b=>Ending.returned (.bool b)) oF.o.symm,aZ.o⟩
theorem kg (l:List AM.Ar):0<=AM.cD l/\AM.cD l<=65025:=by
 unfold AM.cD
 split
 · rename_i h
   have h1:=AM.gm l h
   have h2:=AM.rp l h l.length (Nat.le_refl _)
   omega
 · omega
theorem rz (l:List KM.Sp):∀k,0<=KM.fA l k/\KM.fA l k<=65025*k
 | 0=>⟨Int.le_refl _,by show(0:Int)<=_;omega⟩
 | k+1=>by
  have h1:=rz l k
  have h2:=kg (KM.aq l k).aA
  show 0<=KM.fA l k+AM.cD (KM.aq l k).aA/\KM.fA l k+AM.cD (KM.aq l k).aA<=_
  omega
theorem px (l:List KM.Sp) (ao:Option Addr) (cap mb:Nat) (w:World) (h:ku w ao l) (hf:∀k,k<l.length->AW.eH (KM.aq l k).aA) (hn:l.length<=1000000) (hmb:w.cell? (Ad mb 3)=some (.slice ao l.length cap)) :
  Calls Tryz.prog 83 #[.pointer (some (Ad mb 0))] w fun e w'=>e=.returned (I (KM.room l))/\Below w.heap.size w w':=by
 have HF:=ai hf
 have HH:=ai h
 have vt:=ai (rz l)
 have vo:Hid (∀k,KM.fA l (k+1)=KM.fA l k+AM.cD (KM.aq l k).aA):=fun k=>rfl
 clear h hf
 go_enter Tryz.func83,Tryz.ntmps83
 go_wp2
 go_loopw [3,12] (fun sv iv wr=>∃k:Nat,k<=l.length/\iv=I (k:Int)/\sv=I (KM.fA l k)/\Below w.heap.size w wr) (fun _ iv _=>l.length-(intOf iv).toNat)
 case atStart=>exact⟨0,by omega,rfl,rfl,Below.refl _ _⟩
 case round =>
  obtain⟨k,hk,rfl,rfl,hb⟩:=hrel
  have HB:=ai hb
  have DT:=vt.o k
  by_cases hlt:k<l.length
  · obtain⟨b,off,hao,hbl,bC⟩:=(HH.o.below hb) (by omega)
    subst hao
    obtain⟨va,ap,cp,c0,c1,c2,c3,c4,c5⟩:=bC k hlt
    have sF:=HF.o k hlt
    have hst:=vo.o k
    have Va:=kg (KM.aq l k).aA
    obtain⟨aa,ca,rfl,_⟩:=id c3
    have HT:Hid (∀W,Below wr.heap.size wr W->Calls Tryz.prog 54 #[.slice aa (KM.aq l k).aA.length ca] W fun e w'=>e=.returned (I (AM.cD (KM.aq l k).aA))/\Below W.heap.size W w'):=fun W hW=>AW.sL _ _ _ (c3.below hW) sF
    obtain⟨n,hnn⟩:=ex ((KM.aq l k).au.length)
    obtain⟨na,p9⟩:=ex ((KM.aq l k).aA.length)
    obtain⟨lv,hlv⟩:=ex ((KM.aq l k).live)
    obtain⟨T,hT⟩:=ex (AM.cD (KM.aq l k).aA)
    obtain⟨R,hR⟩:=ex (KM.fA l k)
    rw[<- hnn] at c2 c5
    rw[<- p9] at c1 HT
    rw[<- hlv] at c0
    rw[<- hT] at HT hst Va
    rw[<- hR] at hst DT ⊢
    have HST:=ai hst
    clear hnn p9 hlv hT hR c3 c4 c5 sF bC hb hst
    have cj:=ai (HB.o.alloc HB.o.size (.cells #[.bool lv,.slice aa na ca,.slice ap n cp] 43))
    go_wp2_with (go_at_call 54;refine(HT.o _ ((Below.refl _ _).alloc (Nat.le_refl _) _)).mono ?_;rintro e w1 ⟨rfl,hb1⟩;have aZ:=ai (aC cj.o hb1);clear hb1)
    go_roundw
    case rel=>exact⟨k+1,by omega,by go_num,by rw[HST.o],aZ.o⟩
    case measure=>simp[intOf];omega
  · obtain rfl:k=l.length:=by omega
    clear hb
    go_wp2
    go_ret
    exact⟨rfl,HB.o⟩
def o7 (u:KM.Us):List Value:=[I u.refs,I u.page,.bool u.zero]
theorem nV (u:KM.Us):(o7 u).length=3:=rfl
def gM (lo:Nat) (w:World) (g n cap:Nat) (us:List KM.Us):Prop:=us.length=n/\w.ownsRow lo 211 3 (.slice (some (Ad g 0)) n cap) n (us.flatMap o7)
theorem gM.kp {lo:Nat} {w w':World} {D:Nat->Prop} {g n cap:Nat} {us:List KM.Us} (h:gM lo w g n cap us) (hk:Kp D w w') (hd:¬D g):gM lo w' g n cap us:=⟨h.1,hk.row h.2 (fun b hb=>by injection hb with hb;rw[<- hb];exact hd)⟩
theorem gM.lt {lo:Nat} {w:World} {g n cap:Nat} {us:List KM.Us} (h:gM lo w g n cap us):lo<=g/\g<w.heap.size:=h.2.lt g rfl
theorem gM.at {lo:Nat} {w:World} {g n cap:Nat} {us:List KM.Us} (h:gM lo w g n cap us) (i:Nat) (hi:i<n):w.cell? (Ad g (i*3))=some (I (KM.cQ us i).refs)/\w.cell? (Ad g (i*3+1))=some (I (KM.cQ us i).page)/\w.cell? (Ad g (i*3+2))=some (.bool (KM.cQ us i).zero):=by
 obtain⟨h1,h2⟩:=h
 subst h1
 exact⟨iu o7 nV KM.gz h2 i 0 hi (by omega),iu o7 nV KM.gz h2 i 1 hi (by omega),iu o7 nV KM.gz h2 i 2 hi (by omega)⟩
theorem NK {D:Nat->Prop} {w w':World} (h:Kp D w w'):Kp D w w'.drew:=h.trans (Kp.drew D w') (fun _ _ x=>x)
theorem gM.d {lo:Nat} {w:World} {g n cap:Nat} {us:List KM.Us} (h:gM lo w g n cap us):gM lo w.drew g n cap us:=h.kp (Kp.drew (fun _=>False) w) (fun x=>x)
theorem sS {α:Type} (f:α->List Value) (hf:∀x,(f x).length=3) (d:α) (x:α) (a b c:Value) (hx:f x=[a,b,c]) (l:List α) (i:Nat) (hi:i<l.length):(l.set i x).flatMap f=(((l.flatMap f).set (i*3) a).set (i*3+1) b).set (i*3+2) c:=by
 induction l generalizing i with
 | nil=>cases hi
 | cons y r ih =>
  cases i with
  | zero =>
   rw[List.set_cons_zero,List.flatMap_cons,List.flatMap_cons,hx]
   obtain⟨p,q,s,e⟩:∃p q s,f y=[p,q,s]:=by
    have:=hf y
    match h:f y with
    | [p,q,s]=>exact⟨p,q,s,rfl⟩
    | []=>rw[h] at this;cases this
    | [_]=>rw[h] at this;cases this
    | [_,_]=>rw[h] at this;cases this
    | _::_::_::_::_=>rw[h] at this;simp at this
   rw[e]
   rfl
  | succ i =>
   have h3:=hf y
   rw[List.set_cons_succ,List.flatMap_cons,List.flatMap_cons,ih i (Nat.lt_of_succ_lt_succ hi),List.set_append_right _ _ (by omega),List.set_append_right _ _ (by omega),List.set_append_right _ _ (by omega),h3,show(i+1)*3-3=i*3 by omega,show(i+1)*3+1-3=i*3+1 by omega,show(i+1)*3+2-3=i*3+2 by omega]
theorem gM.set {lo:Nat} {w:World} {g n cap:Nat} {us:List KM.Us} (h:gM lo w g n cap us) (i:Nat) (hi:i<n) (u:KM.Us):gM lo (((w.setCell (Ad g (i*3)) (I u.refs)).setCell (Ad g (i*3+1)) (I u.page)).setCell (Ad g (i*3+2)) (.bool u.zero)) g n cap (us.set i u):=by
 refine⟨by rw[List.length_set];exact h.1,?_⟩
 rw[sS o7 nV KM.gz u _ _ _ rfl us i (by rw[h.1];exact hi)]
 exact jl (jl (jl h.2 _ _) _ _) _ _
theorem Gh (us:List KM.Us) (e:KM.En) (z:Bool) (lo g n cap:Nat) (w:World) (h:gM lo w g n cap us) (hn:n<=1000) (he:M.fR e.page/\M.fR e.loc) (hr:∀i,i<n->0<=(KM.cQ us i).refs/\(KM.cQ us i).refs<=1000000) :
  Calls Tryz.prog 150 #[.slice (some (Ad g 0)) n cap,.agg #[I e.page,I e.kind,I e.loc],.bool z] w fun x w'=>x=.returned (.bool (KM.lh us e z))/\Kp (fun b=>b=g) w w'/\gM lo w' g n cap (if KM.lh us e z then KM.qp us e z else us):=by
 obtain⟨A,hA⟩:=ex (KM.lh us e z)
 rw[<- hA]
 obtain⟨R,hR⟩:=ex (if A then KM.qp us e z else us)
 rw[<- hR]
 have HA:=ai hA
 have HR:=ai hR
 clear hA hR
 have aeU:=h.lt.2
 have HU:=ai h
 have hun:us.length=n:=h.1
 obtain⟨pg,kd,lc⟩:=e
 simp only at he ⊢
 have JO:=ai (Kp.alloc (fun b=>b=g) w (.cells #[I pg,I kd,I lc] 45))
 have vH:=ai (h.kp (Kp.alloc (fun _=>False) w (.cells #[I pg,I kd,I lc] 45)) (fun x=>x))
 have XR:¬g=w.heap.size:=by omega
 clear h
 by_cases c:0<=lc/\lc<(n:Int)
 · obtain⟨i,rfl⟩:∃i:Nat,lc=(i:Int):=⟨lc.toNat,by omega⟩
   have hi:i<n:=by omega
   obtain⟨u0,u1,u2⟩:=HU.o.at i hi
   have Ub:=hr i hi
   have ma:Hid (A=!(decide (0<(KM.cQ us i).refs)&&(decide ((KM.cQ us i).page≠pg) || (KM.cQ us i).zero != z))):=by
    show _=_
    rw[HA.o]
    unfold KM.lh
    simp only[hun,Int.toNat_natCast]
    rw[decide_eq_true c,Bool.true_and]
   have J7:=ai (vH.o.set i hi ⟨(KM.cQ us i).refs+1,pg,z⟩)
   have TB:Hid (KM.qp us ⟨pg,kd,(i:Int)⟩ z=us.set i ⟨(KM.cQ us i).refs+1,pg,z⟩):=by
    show _=_
    unfold KM.qp
    simp only[Int.toNat_natCast]
   obtain⟨U,hU⟩:=ex (KM.cQ us i)
   rw[<- hU] at u0 u1 u2 Ub ma J7 TB
   obtain⟨ur,up,uz⟩:=U
   simp only at u0 u1 u2 Ub ma J7 TB
   have cl:(i:Int)<(n:Int):=c.2
   have c0:(0:Int)<=(i:Int):=c.1
   have J8:=ai hU
   clear hU hr HA
   have wr1:IntKind.i64.wrap (ur+1)=ur+1:=by rw[IntKind.wrap_i64];omega
   have BE:=ai (B.new w #[I pg,I kd,I (i:Int)] 45)
   have bh:Hid (∀V,Kp (fun b=>b=g) w V->∀XB,gM lo V g n cap XB->A=true->XB=us.set i ⟨ur+1,pg,z⟩->gM lo V g n cap R):=fun V _ XB ho ha e=>by
    have:R=XB:=by rw[HR.o,if_pos ha,TB.o,e]
    rw[this];exact ho
   have QE:Hid (A=false->R=us):=fun ha=>by rw[HR.o,ha];rfl
   clear HR TB
   rcases(show ¬0<ur∨(0<ur/\up=pg/\uz=z)∨(0<ur/\up=pg/\¬uz=z)∨(0<ur/\¬up=pg) by
    by_cases a:0<ur
    · by_cases b:up=pg
      · by_cases d:uz=z
        · exact .inr (.inl ⟨a,b,d⟩)
        · exact .inr (.inr (.inl ⟨a,b,d⟩))
      · exact .inr (.inr (.inr ⟨a,b⟩))
    · exact .inl a) with g1 | ⟨g1,g2,g3⟩ | ⟨g1,g2,g3⟩ | ⟨g1,g2⟩
   · have d1:decide (0<ur)=false:=decide_eq_false g1
     have oF:Hid (A=true):=by show _=_;rw[ma.o,d1];rfl
     clear ma
     go_enter Tryz.func150,Tryz.ntmps150
     go_wp2
     obtain⟨W,hW⟩:=ex (w.alloc (.cells #[I pg,I kd,I (i:Int)] 45))
     rw[<- hW] at JO vH J7 BE ⊢
     obtain⟨eb,J3⟩:=ex w.heap.size
     rw[<- J3] at BE ⊢
     clear hW J3
     obtain⟨y0,y1,y2⟩:=vH.o.at i hi
     have v0:W.cell? (Ad g (i*3))=some (I ur):=by rw[y0,<- J8.o]
     have v1:W.cell? (Ad g (i*3+1))=some (I up):=by rw[y1,<- J8.o]
     have v2:W.cell? (Ad g (i*3+2))=some (.bool uz):=by rw[y2,<- J8.o]
     have f0:W.frozen? (Ad g (i*3))=false:=cV vH.o.2 _
     have f1:W.frozen? (Ad g (i*3+1))=false:=cV vH.o.2 _
     have f2:W.frozen? (Ad g (i*3+2))=false:=cV vH.o.2 _
     have w0:W.cell? (Ad eb 0)=some (I pg):=B.cell BE.o 0 rfl
     have w2:W.cell? (Ad eb 2)=some (I (i:Int)):=B.cell BE.o 2 rfl
     clear u0 u1 u2 XR y0 y1 y2
     go_region
     go_wp2
     go_region
     go_wp2
     go_ret
     have K:=JO.o.trans (rP (D:=fun b=>b=g) W g (i*3) (i*3+1) (i*3+2) (I (ur+1)) (I pg) (.bool z) rfl) (fun _ _ x=>x)
     exact⟨congrArg (fun b=>Ending.returned (.bool b)) oF.o.symm,NK (NK K),bh.o _ (NK (NK K)) _ J7.o.d.d oF.o rfl⟩
   · have b1:(up != pg)=false:=by simpa using g2
     have b2:(uz==z)=true:=by simpa using g3
     have oF:Hid (A=true):=by show _=_;rw[ma.o,g2,g3];simp
     clear ma g2 g3
     go_enter Tryz.func150,Tryz.ntmps150
     go_wp2
     obtain⟨W,hW⟩:=ex (w.alloc (.cells #[I pg,I kd,I (i:Int)] 45))
     rw[<- hW] at JO vH J7 BE ⊢
     obtain⟨eb,J3⟩:=ex w.heap.size
     rw[<- J3] at BE ⊢
     clear hW J3
     obtain⟨y0,y1,y2⟩:=vH.o.at i hi
     have v0:W.cell? (Ad g (i*3))=some (I ur):=by rw[y0,<- J8.o]
     have v1:W.cell? (Ad g (i*3+1))=some (I up):=by rw[y1,<- J8.o]
     have v2:W.cell? (Ad g (i*3+2))=some (.bool uz):=by rw[y2,<- J8.o]
     have f0:W.frozen? (Ad g (i*3))=false:=cV vH.o.2 _
     have f1:W.frozen? (Ad g (i*3+1))=false:=cV vH.o.2 _
     have f2:W.frozen? (Ad g (i*3+2))=false:=cV vH.o.2 _
     have w0:W.cell? (Ad eb 0)=some (I pg):=B.cell BE.o 0 rfl
     have w2:W.cell? (Ad eb 2)=some (I (i:Int)):=B.cell BE.o 2 rfl
     clear u0 u1 u2 XR y0 y1 y2
     go_region
     go_wp2
     go_region
     go_wp2
     go_ret
     have K:=JO.o.trans (rP (D:=fun b=>b=g) W g (i*3) (i*3+1) (i*3+2) (I (ur+1)) (I pg) (.bool z) rfl) (fun _ _ x=>x)
     exact⟨congrArg (fun b=>Ending.returned (.bool b)) oF.o.symm,NK (NK K),bh.o _ (NK (NK K)) _ J7.o.d.d oF.o rfl⟩
   · have b1:(up != pg)=false:=by simpa using g2
     have b2:(uz==z)=false:=by simpa using g3
     have oF:Hid (A=false):=by show _=_;rw[ma.o,decide_eq_true g1,show(uz != z)=true by simpa using g3];simp
     clear ma g2 g3 bh
     go_enter Tryz.func150,Tryz.ntmps150
     go_wp2
     obtain⟨W,hW⟩:=ex (w.alloc (.cells #[I pg,I kd,I (i:Int)] 45))
     rw[<- hW] at JO vH J7 BE ⊢
     obtain⟨eb,J3⟩:=ex w.heap.size
     rw[<- J3] at BE ⊢
     clear hW J3
     obtain⟨y0,y1,y2⟩:=vH.o.at i hi
     have v0:W.cell? (Ad g (i*3))=some (I ur):=by rw[y0,<- J8.o]
     have v1:W.cell? (Ad g (i*3+1))=some (I up):=by rw[y1,<- J8.o]
     have v2:W.cell? (Ad g (i*3+2))=some (.bool uz):=by rw[y2,<- J8.o]
     have f0:W.frozen? (Ad g (i*3))=false:=cV vH.o.2 _
     have f1:W.frozen? (Ad g (i*3+1))=false:=cV vH.o.2 _
     have f2:W.frozen? (Ad g (i*3+2))=false:=cV vH.o.2 _
     have w0:W.cell? (Ad eb 0)=some (I pg):=B.cell BE.o 0 rfl
     have w2:W.cell? (Ad eb 2)=some (I (i:Int)):=B.cell BE.o 2 rfl
     clear u0 u1 u2 XR y0 y1 y2 J7
     go_region
     go_wp2
     go_ret
     rw[QE.o oF.o]
     exact⟨congrArg (fun b=>Ending.returned (.bool b)) oF.o.symm,NK JO.o,vH.o.d⟩
   · have b1:(up != pg)=true:=by simpa using g2
     have oF:Hid (A=false):=by show _=_;rw[ma.o,decide_eq_true g1,decide_eq_true g2];rfl
     clear ma g2 bh
     go_enter Tryz.func150,Tryz.ntmps150
     go_wp2
     obtain⟨W,hW⟩:=ex (w.alloc (.cells #[I pg,I kd,I (i:Int)] 45))
     rw[<- hW] at JO vH J7 BE ⊢
     obtain⟨eb,J3⟩:=ex w.heap.size
     rw[<- J3] at BE ⊢
     clear hW J3
     obtain⟨y0,y1,y2⟩:=vH.o.at i hi
     have v0:W.cell? (Ad g (i*3))=some (I ur):=by rw[y0,<- J8.o]
     have v1:W.cell? (Ad g (i*3+1))=some (I up):=by rw[y1,<- J8.o]
     have v2:W.cell? (Ad g (i*3+2))=some (.bool uz):=by rw[y2,<- J8.o]
     have f0:W.frozen? (Ad g (i*3))=false:=cV vH.o.2 _
     have f1:W.frozen? (Ad g (i*3+1))=false:=cV vH.o.2 _
     have f2:W.frozen? (Ad g (i*3+2))=false:=cV vH.o.2 _
     have w0:W.cell? (Ad eb 0)=some (I pg):=B.cell BE.o 0 rfl
     have w2:W.cell? (Ad eb 2)=some (I (i:Int)):=B.cell BE.o 2 rfl
     clear u0 u1 u2 XR y0 y1 y2 J7
     go_region
     go_wp2
     go_ret
     rw[QE.o oF.o]
     exact⟨congrArg (fun b=>Ending.returned (.bool b)) oF.o.symm,NK JO.o,vH.o.d⟩
 · have oF:Hid (A=false):=by
    show _=_
    rw[HA.o]
    unfold KM.lh
    rw[decide_eq_false (by simp only[hun];exact c),Bool.false_and]
   have QE:Hid (R=us):=by show _=_;rw[HR.o,oF.o];rfl
   clear HA hr HR
   rcases(show lc<0∨(0<=lc/\(n:Int)<=lc) by omega) with g1 | ⟨g1,g2⟩
   all_goals
    go_enter Tryz.func150,Tryz.ntmps150
    go_wp2
    go_ret
    rw[QE.o]
    exact⟨congrArg (fun b=>Ending.returned (.bool b)) oF.o.symm,JO.o,vH.o⟩
end KW
namespace KM
open Go.RowKit
def lY (us:List Us) (n:Nat) (B:Int):Prop:=us.length=n/\∀i,i<n->0<=(cQ us i).refs/\(cQ us i).refs<=B
theorem lY.mono {us:List Us} {n:Nat} {B C:Int} (h:lY us n B) (hc:B<=C):lY us n C:=⟨h.1,fun i hi=>⟨(h.2 i hi).1,Int.le_trans (h.2 i hi).2 hc⟩⟩
theorem lY.use {us:List Us} {n:Nat} {B:Int} (h:lY us n B) (e:En) (z:Bool) (hok:lh us e z=true):lY (qp us e z) n (B+1):=by
 have hb:=(pk.1 hok).1
 obtain⟨h1,h2⟩:=h
 refine⟨by unfold qp;rw[List.length_set];exact h1,fun i hi=>?_⟩
 unfold qp
 rw[vJ _ _ _ _ (by omega)]
 by_cases c:e.loc.toNat=i
 · rw[if_pos c,c]
   have:=h2 i hi
   show 0<=(cQ us i).refs+1/\(cQ us i).refs+1<=B+1
   omega
 · rw[if_neg c]
   have:=h2 i hi
   omega
theorem Fk {ar:List AM.Ar} {last:Int} {uf us:List Us} {e:En} (h:kH ar last uf us e=true):(AM.aK ar e.page).2=true/\last<e.page/\((e.kind=1/\lh uf e (AM.aK ar e.page).1.zero=true)∨(e.kind=2/\lh us e (AM.aK ar e.page).1.zero=true)):=by
 unfold kH at h
 rw[Bool.and_eq_true,Bool.and_eq_true,decide_eq_true_eq] at h
 refine⟨h.1,h.2.1,?_⟩
 have g:=h.2.2
 by_cases c:e.kind=1
 · rw[if_pos c] at g;exact .inl ⟨c,g⟩
 · rw[if_neg c] at g
   by_cases d:e.kind=2
   · rw[if_pos d] at g;exact .inr ⟨d,g⟩
   · rw[if_neg d] at g;cases g
theorem vD (ar:List AM.Ar) (es:List En) (u:List Us×List Us) (nf ns:Nat) (B:Int) (h1:lY u.1 nf B) (h2:lY u.2 ns B):∀k,k<=es.length->gJ ar es u k=true->lY (gp ar es u k).1 nf (B+k)/\lY (gp ar es u k).2 ns (B+k)/\(k:Int)<=(if k=0 then 0 else (aJ es (k-1)).page)/\(if k=0 then 0 else (aJ es (k-1)).page)<256
 | 0,_,_=>⟨h1.mono (by omega),h2.mono (by omega),Int.le_refl _,by rw[if_pos rfl];decide⟩
 | k+1,hk,hb=>by
  unfold gJ at hb
  rw[Bool.and_eq_true] at hb
  obtain⟨a1,a2,a3,a4⟩:=vD ar es u nf ns B h1 h2 k (by omega) hb.1
  obtain⟨b1,b2,b3⟩:=Fk hb.2
  have hm:=iY b1
  rw[if_neg (by omega),Nat.add_sub_cancel]
  unfold kL at b2
  refine⟨?_,?_,by omega,hm.2⟩
  · show lY (pV ar (gp ar es u k) (aJ es k)).1 nf _
    unfold pV
    rcases b3 with g | g
    · rw[if_pos g.1];exact(a1.use _ _ g.2).mono (by omega)
    · rw[if_neg (by omega)];exact a1.mono (by omega)
  · show lY (pV ar (gp ar es u k) (aJ es k)).2 ns _
    unfold pV
    rcases b3 with g | g
    · rw[if_pos g.1];exact a2.mono (by omega)
    · rw[if_neg (by omega)];exact(a2.use _ _ g.2).mono (by omega)
theorem Fh (ar:List AM.Ar) (es:List En) (u:List Us×List Us) (nf ns:Nat) (B:Int) (h1:lY u.1 nf B) (h2:lY u.2 ns B) (k:Nat) (hk:k<=es.length) (hb:gJ ar es u k=true):k<=255:=by
 have:=vD ar es u nf ns B h1 h2 k hk hb
 omega
theorem xy (ar:List AM.Ar) (es:List En) (u:List Us×List Us):∀(k n:Nat),k<=n->gJ ar es u k=false->gJ ar es u n=false
 | k,0,h,e=>by
  obtain rfl:k=0:=by omega
  exact e
 | k,n+1,h,e=>by
  by_cases c:k=n+1
  · rw[<- c];exact e
  · rw[gJ,xy ar es u k n (by omega) e,Bool.false_and]
theorem ML (ar:List AM.Ar) (es:List En) (u:List Us×List Us) (k:Nat) (hk:k<es.length) (h:kH ar (kL es k) (gp ar es u k).1 (gp ar es u k).2 (aJ es k)=false):gJ ar es u es.length=false :=
 xy ar es u (k+1) es.length hk (by rw[gJ,h,Bool.and_false])
theorem Kv (n:Nat):lY (List.replicate n gz) n 0:=by
 refine⟨List.length_replicate,fun i hi=>?_⟩
 unfold cQ
 rw[List.getD_eq_getElem?_getD,List.getElem?_replicate,if_pos hi]
 exact⟨Int.le_refl _,Int.le_refl _⟩
theorem KJ (hs:List LM.Sh) (ss:List Sp) (u:List Us×List Us) (nf ns:Nat) (h1:lY u.1 nf 0) (h2:lY u.2 ns 0):∀k,k<=ss.length->nC hs ss u k=true->lY (kj ss u k).1 nf (255*k)/\lY (kj ss u k).2 ns (255*k)
 | 0,_,_=>⟨h1,h2⟩
 | k+1,hk,hb=>by
  unfold nC at hb
  rw[Bool.and_eq_true,Bool.and_eq_true] at hb
  obtain⟨a1,a2⟩:=KJ hs ss u nf ns h1 h2 k (by omega) hb.1
  obtain⟨b1,b2,_,_⟩:=vD (aq ss k).aA (aq ss k).au (kj ss u k) nf ns (255*k) a1 a2 _ (Nat.le_refl _) hb.2.2
  have hsm:=Fh (aq ss k).aA (aq ss k).au (kj ss u k) nf ns (255*k) a1 a2 _ (Nat.le_refl _) hb.2.2
  exact⟨b1.mono (by omega),b2.mono (by omega)⟩
theorem D8 {k:Kn} (hr:LM.cZ k.ak=true) (hb:nC k.ak k.aj (List.replicate k.frames.length gz,List.replicate k.slots.length gz) k.aj.length=true) (i:Nat) (hi:i<k.frames.length) (hn:(cQ (vI k).1 i).refs≠0):0<=(cQ (vI k).1 i).page/\(cQ (vI k).1 i).page<256:=by
 obtain⟨a1,a2⟩:=ru hr (BW k.frames.length k.slots.length) k.aj _ (Nat.le_refl _) hb
 have hs:=a1.2.1 i hi
 have hs:Sum (names (k.aj.take k.aj.length) 1 i) (cQ (vI k).1 i):=hs
 rw[List.take_length] at hs
 have hne:names k.aj 1 i≠[]:=fun e=>hn ((sum_nil hs).2 e)
 obtain⟨x,hx⟩:=List.exists_mem_of_ne_nil _ hne
 have e:=hs.2 x hx
 obtain⟨s,hsm,en,hen,_,_,hxe⟩:=ig.1 hx
 obtain⟨j,hj,rfl⟩:=eu DN hsm
 have hm:=iY ((a2 j hj).tH en hen).1
 rw[hxe] at e
 injection e with e1 e2
 omega
theorem yO (hs:List LM.Sh) (ss:List Sp) (u:List Us×List Us):∀(k n:Nat),k<=n->nC hs ss u k=false->nC hs ss u n=false
 | k,0,h,e=>by
  obtain rfl:k=0:=by omega
  exact e
 | k,n+1,h,e=>by
  by_cases c:k=n+1
  · rw[<- c];exact e
  · rw[nC,yO hs ss u k n (by omega) e,Bool.false_and]
end KM
end Go.Proofs.YtpgifpeohlllfaaGreat
