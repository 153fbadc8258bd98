import Derived.Test.YtpgifpeohlllfaaGreatGP00
import Derived.Test.YtpgifpeohlllfaaGreatGP06
import Derived.Test.YtpgifpeohlllfaaGreatGP10
import Derived.Deep.RegionLaw
import Derived.Test.YtpgifpeohlllfaaGreatGP01
import Derived.Test.YtpgifpeohlllfaaGreatGP04
set_option maxHeartbeats 20000000
set_option linter.unusedVariables false
set_option maxRecDepth 100000
set_option linter.unusedSimpArgs false
namespace Go.Proofs.YtpgifpeohlllfaaGreat
namespace LW
open Go.RowKit
open W (ai)
theorem yg (s:LM.Sh) (w:World) (h:LM.ou w s.ao s.bq) (hf:LM.Bq s) :
  Calls Tryz.prog 89 #[.agg (LM.kJ s)] w fun e w'=>e=.returned (.bool (LM.bH s))/\Below w.heap.size w w':=by
 obtain⟨f1,f2,f3,f4⟩:=hf
 obtain⟨pg,dt,fs,ao,cap⟩:=s
 simp only at f1 f2 f3 f4
 unfold M.fR at f1
 unfold M.br at f2 f3
 simp only[LM.kJ]
 have ZN:dt.size<=maxLen:=by unfold maxLen;omega
 have F4:=ai f4
 have HH:=ai h
 clear f4 h
 have HB:=ai ((Below.refl w.heap.size w).alloc (Nat.le_refl _) (.cells #[I pg,.string dt,.slice ao fs.length cap] 50))
 have BX:=ai (B.new w #[I pg,.string dt,.slice ao fs.length cap] 50)
 by_cases h1:1<=pg/\pg<=255
 · have d1:decide (1<=pg/\pg<=255)=true:=decide_eq_true h1
   by_cases h3:dt.size=16
   · by_cases h4:fs.length<=16
     · have h3':(dt.size:Int)=16:=by omega
       have h4':¬(16:Int)<(fs.length:Int):=by omega
       have e:LM.jc ⟨pg,dt,fs,ao,cap⟩=true:=by
        unfold LM.jc
        exact decide_eq_true ⟨h1.1,h1.2,h3⟩
       have E:Hid (LM.bH ⟨pg,dt,fs,ao,cap⟩=LM.bU fs fs.length):=by
        show _=_
        unfold LM.bH
        rw[e,Bool.true_and]
       clear e h3
       go_enter Tryz.func89,Tryz.ntmps89
       go_wp2_with (go_at_call 44;refine(AW.dz _ _ _ _).mono ?_;rintro e w' ⟨rfl,rfl⟩;rw[d1])
       go_loopw [4,3] (fun i en wr=>∃k:Nat,k<=fs.length/\i=I k/\en=I (LM.kN fs k)/\LM.bU fs k=true/\Below w.heap.size w wr/\wr.heap[w.heap.size]?=some (.cells #[I pg,.string dt,.slice ao fs.length cap] 50 (0,0))) (fun i _ _=>fs.length-(intOf i).toNat)
       case atStart=>exact⟨0,by omega,rfl,rfl,rfl,HB.o,BX.o⟩
       case round =>
        obtain⟨k,hk,rfl,rfl,hg,hb,zq⟩:=hrel
        have HG:=ai hg
        have iM:=ai hb
        have Xw:=ai zq
        have x2:=B.cell zq 2 rfl
        clear hg zq
        by_cases hlt:k<fs.length
        · obtain⟨b,off,hao,hbl,bC⟩:=(HH.o.below hb) (by omega)
          subst hao
          obtain⟨c0,c1⟩:=bC k hlt
          obtain⟨g1,g2⟩:=F4.o k hlt
          have VE:=LM.iK fs k HG.o
          obtain⟨f,um⟩:=ex (LM.lM fs k)
          rw[<- um] at c0 c1 g1 g2
          unfold M.fR at g1
          unfold M.br at g2
          have hfl:f.bytes.size<=maxLen:=by unfold maxLen;omega
          have q9:=ai um
          clear um bC hb
          obtain⟨en,hen⟩:=ex (LM.kN fs k)
          rw[<- hen] at VE
          have fX:=ai hen
          rw[<- hen]
          clear hen
          have cj:=ai (iM.o.alloc iM.o.size (.cells #[I f.off,.string f.bytes] 52))
          have BXA:=ai (B.alloc Xw.o (.cells #[I f.off,.string f.bytes] 52))
          by_cases q1:en<=f.off/\f.off<=16
          · have z1:decide (en<=f.off/\f.off<=16)=true:=decide_eq_true q1
            by_cases q3:1<=(f.bytes.size:Int)/\(f.bytes.size:Int)<=16-f.off
            · have z2:decide (1<=(f.bytes.size:Int)/\(f.bytes.size:Int)<=16-f.off)=true:=decide_eq_true q3
              have HX:Hid (LM.bU fs (k+1)=true):=by
               show _=_
               simp only[LM.bU,Bool.and_eq_true]
               exact⟨HG.o,by rw[<- q9.o,<- fX.o];exact(LM.nu _ _).2 (by omega)⟩
              have HY:Hid (LM.kN fs (k+1)=f.off+(f.bytes.size:Int)):=by show _=_;simp only[LM.kN];rw[<- q9.o]
              go_wp2_with (first | (go_at_call 44;have _:=FA;refine(AW.dz _ _ _ _).mono ?_;rintro e w' ⟨rfl,rfl⟩;rw[z2]) | (go_at_call 44;refine(AW.dz _ _ _ _).mono ?_;rintro e w' ⟨rfl,rfl⟩;rw[z1];have FA:=trivial))
              go_roundw
              case rel=>exact⟨k+1,by omega,by go_num,by rw[HY.o],HX.o,cj.o,BXA.o⟩
              case measure=>simp[intOf];omega
            · have z2:decide (1<=(f.bytes.size:Int)/\(f.bytes.size:Int)<=16-f.off)=false:=decide_eq_false q3
              have HX:Hid (LM.bU fs fs.length=false):=LM.kZ fs k hlt (by rw[<- q9.o,<- fX.o];exact LM.pK (by omega))
              go_wp2_with (first | (go_at_call 44;have _:=FA;refine(AW.dz _ _ _ _).mono ?_;rintro e w' ⟨rfl,rfl⟩;rw[z2]) | (go_at_call 44;refine(AW.dz _ _ _ _).mono ?_;rintro e w' ⟨rfl,rfl⟩;rw[z1];have FA:=trivial))
              go_ret
              exact⟨bN (by rw[E.o,HX.o]),cj.o⟩
          · have z1:decide (en<=f.off/\f.off<=16)=false:=decide_eq_false q1
            have HX:Hid (LM.bU fs fs.length=false):=LM.kZ fs k hlt (by rw[<- q9.o,<- fX.o];exact LM.pK (by omega))
            go_wp2_with (go_at_call 44;refine(AW.dz _ _ _ _).mono ?_;rintro e w' ⟨rfl,rfl⟩;rw[z1])
            go_ret
            exact⟨bN (by rw[E.o,HX.o]),cj.o⟩
        · obtain rfl:k=fs.length:=by omega
          go_wp2
          go_ret
          exact⟨bN (by rw[E.o,HG.o]),iM.o⟩
     · have h3':(dt.size:Int)=16:=by omega
       have h4':(16:Int)<(fs.length:Int):=by omega
       have e:LM.bH ⟨pg,dt,fs,ao,cap⟩=false:=by
        unfold LM.bH
        cases e:LM.bU fs fs.length
        · exact Bool.and_false _
        · have:=LM.iK fs fs.length e
          omega
       rw[e]
       go_enter Tryz.func89,Tryz.ntmps89
       go_wp2_with (go_at_call 44;refine(AW.dz _ _ _ _).mono ?_;rintro e w' ⟨rfl,rfl⟩;rw[d1])
       go_ret
       exact⟨rfl,HB.o⟩
   · have h3':((dt.size:Int)==16)=false:=by simp;omega
     have e:LM.bH ⟨pg,dt,fs,ao,cap⟩=false:=by
      unfold LM.bH LM.jc
      rw[decide_eq_false (fun h=>h3 h.2.2),Bool.false_and]
     rw[e]
     go_enter Tryz.func89,Tryz.ntmps89
     go_wp2_with (go_at_call 44;refine(AW.dz _ _ _ _).mono ?_;rintro e w' ⟨rfl,rfl⟩;rw[d1])
     go_ret
     exact⟨rfl,HB.o⟩
 · have d1:decide (1<=pg/\pg<=255)=false:=decide_eq_false h1
   have e:LM.bH ⟨pg,dt,fs,ao,cap⟩=false:=by
    unfold LM.bH LM.jc
    rw[decide_eq_false (fun h=>h1 ⟨h.1,h.2.1⟩),Bool.false_and]
   rw[e]
   go_enter Tryz.func89,Tryz.ntmps89
   go_wp2_with (go_at_call 44;refine(AW.dz _ _ _ _).mono ?_;rintro e w' ⟨rfl,rfl⟩;rw[d1])
   go_ret
   exact⟨rfl,HB.o⟩
theorem Fg (s:LM.Sh) (w:World) (h:LM.ou w s.ao s.bq) (hf:LM.Bq s) (hs:LM.bH s=true) :
  Calls Tryz.prog 92 #[.agg (LM.kJ s)] w fun e w'=>e=.returned (.string (LM.lN s))/\Below w.heap.size w w':=by
 obtain⟨f1,f2,f3,f4⟩:=hf
 obtain⟨pg,dt,fs,ao,cap⟩:=s
 simp only at f1 f2 f3 f4
 unfold M.br at f2 f3
 simp only[LM.kJ]
 have ZN:dt.size<=maxLen:=by unfold maxLen;omega
 have HH:=ai h
 clear f4 h f1
 have HB:=ai ((Below.refl w.heap.size w).alloc (Nat.le_refl _) (.cells #[I pg,.string dt,.slice ao fs.length cap] 50))
 have BX:=ai (B.new w #[I pg,.string dt,.slice ao fs.length cap] 50)
 have HN:Hid (LM.lN ⟨pg,dt,fs,ao,cap⟩=LM.jr dt fs fs.length):=rfl
 obtain⟨hd,Pk⟩:LM.jc ⟨pg,dt,fs,ao,cap⟩=true/\LM.bU fs fs.length=true:=by
  unfold LM.bH at hs
  simpa using hs
 have h16:dt.size=16:=by
  unfold LM.jc at hd
  exact(of_decide_eq_true hd).2.2
 have Ke:=ai Pk
 clear hs hd Pk
 rw[HN.o]
 go_enter Tryz.func92,Tryz.ntmps92
 go_wp2
 go_loopw [4,3] (fun i d wr=>∃k:Nat,k<=fs.length/\i=I k/\d=.string (LM.jr dt fs k)/\Below w.heap.size w wr/\wr.heap[w.heap.size]?=some (.cells #[I pg,.string dt,.slice ao fs.length cap] 50 (0,0))) (fun i _ _=>fs.length-(intOf i).toNat)
 case atStart=>exact⟨0,by omega,rfl,rfl,HB.o,BX.o⟩
 case round =>
  obtain⟨k,hk,rfl,rfl,hb,zq⟩:=hrel
  have iM:=ai hb
  have Xw:=ai zq
  have x2:=B.cell zq 2 rfl
  clear zq
  by_cases hlt:k<fs.length
  · obtain⟨b,off,hao,hbl,bC⟩:=(HH.o.below hb) (by omega)
    subst hao
    obtain⟨c0,c1⟩:=bC k hlt
    have hok:=(LM.nu _ _).1 (LM.qM fs fs.length Ke.o k hlt)
    have NP:LM.bU fs k=true:=by
     cases e:LM.bU fs k
     · rw[LM.j4 fs k fs.length (by omega) e] at Ke
       cases Ke
     · rfl
    have VE:=LM.iK fs k NP
    have hsz:=LM.mq dt fs h16 k NP
    have iL:Hid (LM.jr dt fs (k+1)=CL.over (LM.jr dt fs k) (LM.lM fs k).off.toNat (LM.lM fs k).bytes):=rfl
    obtain⟨f,um⟩:=ex (LM.lM fs k)
    rw[<- um] at c0 c1 hok iL
    obtain⟨D,hD⟩:=ex (LM.jr dt fs k)
    rw[<- hD] at hsz iL
    rw[<- hD]
    obtain⟨o,ho⟩:∃o:Nat,f.off=(o:Int):=⟨f.off.toNat,by omega⟩
    rw[ho] at c0 hok
    rw[ho,Int.toNat_natCast] at iL
    have HBd:=ai (FC wr)
    clear um hD NP bC hb
    go_wp2
    go_region_law (go_simp;go_at_call 68;refine(CW.Lj D f.bytes o _ (by omega) (by omega)).mono ?_;rintro e w3 ⟨rfl,hb⟩;have dC:=ai (iM.o.trans ((HBd.o.trans hb).mono iM.o.size));have BX3:=ai (B.below (B.below Xw.o HBd.o (B.isLt Xw.o)) hb (by have:=B.isLt Xw.o;simpa using this));clear hb;go_simp)
    all_goals
     go_wp2
     go_roundw
     case rel=>exact⟨k+1,by omega,by go_num,by rw[iL.o],dC.o,BX3.o⟩
     case measure=>simp[intOf];omega
  · obtain rfl:k=fs.length:=by omega
    go_wp2
    go_ret
    exact⟨rfl,iM.o⟩
theorem bB {P:Program} {f:FuncId} {args:Array Value} {v:Value} {w:World} (x:Q.eU w.heap.size w) (h:∀W,Below w.heap.size w W->Calls P f args W fun e w'=>e=.returned v/\Below W.heap.size W w') :
  Calls P f args x.world fun e w''=>e=.returned v/\∃y:Q.eU w.heap.size w,w''=y.world :=
 (h x.world x.keeps).mono fun e w'' ⟨he,hb⟩=>⟨he,⟨w'',x.keeps.trans (hb.mono x.keeps.size)⟩,rfl⟩
theorem vR (hs:List LM.Sh) (ao:Option Addr) (cap:Nat) (w:World) (h:LM.jg w ao hs) (hf:LM.oq hs) :
  Calls Tryz.prog 45 #[.slice ao hs.length cap] w fun e w'=>e=.returned (.bool (LM.cZ hs))/\Below w.heap.size w w':=by
 have HF:=ai hf
 have HH:=ai h
 have hn:hs.length<=140737488351232:=hf.1
 clear h hf
 go_enter Tryz.func45,Tryz.ntmps45
 go_wp2
 go_loopw [3] (fun i wr=>∃k:Nat,k<=hs.length/\i=I k/\LM.b7 hs k=true/\Below w.heap.size w wr) (fun i _=>hs.length-(intOf i).toNat)
 case atStart=>exact⟨0,by omega,rfl,rfl,Below.refl _ _⟩
 case round =>
  obtain⟨k,hk,rfl,hz,hb⟩:=hrel
  have HZ:=ai hz
  have iM:=ai hb
  clear hz
  by_cases hlt:k<hs.length
  · obtain⟨b,off,hao,hbl,bC⟩:=(HH.o.below hb) (by omega)
    subst hao
    obtain⟨c0,c1,c2,c3⟩:=bC k hlt
    have sF:=HF.o.2 k hlt
    have HE:Hid (LM.b7 hs (k+1)=(LM.bH (LM.aY hs k)&&LM.fM hs k)):=by
     show _=_
     simp only[LM.b7]
     rw[HZ.o,Bool.true_and]
    have Bo:Hid ((LM.bH (LM.aY hs k)&&LM.fM hs k)=false->LM.cZ hs=false):=fun e=>LM.Cr hs k hlt e
    have mN:=Q.dO wr
    have hkc:=@Q.cC wr
    have Qj:Hid (0<k->wr.cell? ⟨b,off+(k-1)*3,none⟩=some (I (LM.aY hs (k-1)).page)):=fun h0=>(bC (k-1) (by omega)).1
    have DF:Hid (LM.fM hs k=(k==0 || decide ((LM.aY hs (k-1)).page<(LM.aY hs k).page))):=rfl
    obtain⟨s,L8⟩:=ex (LM.aY hs k)
    rw[<- L8] at c0 c1 c2 c3 sF HE Bo DF
    have e0:∀x:Q.eU wr.heap.size wr,x.world.cell? (Ad b (off+k*3))=some (I s.page):=fun x=>by rw[hkc x _ _ hbl,c0]
    have e1:∀x:Q.eU wr.heap.size wr,x.world.cell? (Ad b (off+k*3+1))=some (.string s.data):=fun x=>by rw[hkc x _ _ hbl,c1]
    have e2:∀x:Q.eU wr.heap.size wr,x.world.cell? (Ad b (off+k*3+2))=some (.slice s.ao s.bq.length s.cap):=fun x=>by rw[hkc x _ _ hbl,c2]
    have HC:Hid (∀W,Below wr.heap.size wr W->Calls Tryz.prog 89 #[.agg #[I s.page,.string s.data,.slice s.ao s.bq.length s.cap]] W fun e w'=>e=.returned (.bool (LM.bH s))/\Below W.heap.size W w'):=fun W hb=>yg s W (c3.below hb) sF
    clear L8 bC hb c0 c1 c2 c3 sF
    cases e:LM.bH s with
    | false =>
     have HX:=ai (Bo.o (by rw[e];rfl))
     rw[e] at HC
     clear e HE Bo DF Qj hkc
     go_wp2
     refine Q.bc (by kernel_rfl) (by kernel_rfl) ?_
     repeat (first | go_big_quiet_step ((go_at_call 89;exact bB _ HC.o)) | quiet_step ((go_at_call 89;exact bB _ HC.o)))
     refine wpQuiet_nil ?_
     intro _ hw'
     obtain⟨x,hw''⟩:=hw'
     subst hw''
     go_wp2
     go_ret
     exact⟨bN HX.o.symm,iM.o.trans (x.keeps.mono iM.o.size)⟩
    | true =>
     rw[e] at HC HE Bo
     rw[Bool.true_and] at HE Bo
     clear e
     by_cases JZ:k=0
     · have z1:decide ((0:Int)<(k:Int))=false:=by simp;omega
       have z2:decide (0<k)=false:=by simp;omega
       have HX:Hid (LM.fM hs k=true):=by show _=_;rw[DF.o,JZ];rfl
       rw[HX.o] at HE
       clear JZ Bo DF Qj hkc HX
       go_wp2
       refine Q.bc (by kernel_rfl) (by kernel_rfl) ?_
       repeat (first | go_big_quiet_step ((go_at_call 89;exact bB _ HC.o)) | quiet_step ((go_at_call 89;exact bB _ HC.o)))
       refine wpQuiet_nil ?_
       intro _ hw'
       obtain⟨x,hw''⟩:=hw'
       subst hw''
       go_wp2
       go_roundw
       case rel=>exact⟨k+1,by omega,by go_num,HE.o,iM.o.trans (x.keeps.mono iM.o.size)⟩
       case measure=>simp[intOf];omega
     · have hk1:(1:Int)<=(k:Int):=by omega
       have hk2:0<k:=by omega
       have hk3:(0:Int)<(k:Int):=by omega
       have hkz:(k==0)=false:=by simpa using JZ
       obtain⟨p,hp⟩:=ex ((LM.aY hs (k-1)).page)
       have hpv:=Qj.o hk2
       rw[<- hp] at hpv DF
       rw[hkz,Bool.false_or] at DF
       have e3:∀x:Q.eU wr.heap.size wr,x.world.cell? ⟨b,off+(k-1)*3,none⟩=some (I p):=fun x=>by rw[hkc x _ _ hbl,hpv]
       clear hp hpv JZ Qj hkc hkz
       by_cases tu:p<s.page
       · have HX:Hid (LM.fM hs k=true):=by show _=_;rw[DF.o,decide_eq_true tu]
         rw[HX.o] at HE
         have hnl:¬s.page<=p:=by omega
         clear Bo DF HX
         go_wp2
         refine Q.bc (by kernel_rfl) (by kernel_rfl) ?_
         repeat (first | go_big_quiet_step ((go_at_call 89;exact bB _ HC.o)) | quiet_step ((go_at_call 89;exact bB _ HC.o)))
         refine wpQuiet_nil ?_
         intro _ hw'
         obtain⟨x,hw''⟩:=hw'
         subst hw''
         go_wp2
         go_roundw
         case rel=>exact⟨k+1,by omega,by go_num,HE.o,iM.o.trans (x.keeps.mono iM.o.size)⟩
         case measure=>simp[intOf];omega
       · have HX:Hid (LM.cZ hs=false):=Bo.o (by rw[DF.o,decide_eq_false tu])
         have hnl:s.page<=p:=by omega
         clear HE Bo DF
         go_wp2
         refine Q.bc (by kernel_rfl) (by kernel_rfl) ?_
         repeat (first | go_big_quiet_step ((go_at_call 89;exact bB _ HC.o)) | quiet_step ((go_at_call 89;exact bB _ HC.o)))
         refine wpQuiet_nil ?_
         intro _ hw'
         obtain⟨x,hw''⟩:=hw'
         subst hw''
         go_wp2
         go_ret
         exact⟨bN HX.o.symm,iM.o.trans (x.keeps.mono iM.o.size)⟩
  · obtain rfl:k=hs.length:=by omega
    go_wp2
    go_ret
    exact⟨bN HZ.o.symm,iM.o⟩
end LW
end Go.Proofs.YtpgifpeohlllfaaGreat
