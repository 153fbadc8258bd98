import Derived.Test.YtpgifpeohlllfaaGreatGS00
import Derived.Test.YtpgifpeohlllfaaGreatGS07
import Derived.Test.YtpgifpeohlllfaaGreatGS06
import Derived.Test.YtpgifpeohlllfaaGreatGS03
import Derived.Test.YtpgifpeohlllfaaGreatGS01
set_option maxHeartbeats 20000000
set_option linter.unusedVariables false
set_option maxRecDepth 100000
set_option linter.unusedSimpArgs false
namespace Go.Proofs.YtpgifpeohlllfaaGreat
namespace KW
open Go.RowKit GK
open FW (ai aB)
def p7 (u:KM.Us):List Value:=[I u.refs,I u.page,.bool u.zero]
theorem oN (u:KM.Us):(p7 u).length=3:=rfl
def ir (lo:Nat) (w:World) (g n cap:Nat) (us:List KM.Us):Prop:=us.length=n/\w.ownsRow lo 211 3 (.slice (some (Ad g 0)) n cap) n (us.flatMap p7)
theorem ir.kp {lo:Nat} {w w':World} {D:Nat->Prop} {g n cap:Nat} {us:List KM.Us} (h:ir lo w g n cap us) (hk:Kp D w w') (hd:¬D g):ir lo w' g n cap us:=⟨h.1,hk.row h.2 (fun b hb=>by injection hb with hb;rw[<- hb];exact hd)⟩
theorem ir.lt {lo:Nat} {w:World} {g n cap:Nat} {us:List KM.Us} (h:ir lo w g n cap us):lo<=g/\g<w.heap.size:=h.2.lt g rfl
theorem ir.at {lo:Nat} {w:World} {g n cap:Nat} {us:List KM.Us} (h:ir lo w g n cap us) (i:Nat) (hi:i<n):w.cell? (Ad g (i*3))=some (I (KM.dh us i).refs)/\w.cell? (Ad g (i*3+1))=some (I (KM.dh us i).page)/\w.cell? (Ad g (i*3+2))=some (.bool (KM.dh us i).zero):=by
 obtain⟨h1,h2⟩:=h
 subst h1
 exact⟨iQ p7 oN KM.gX h2 i 0 hi (by omega),iQ p7 oN KM.gX h2 i 1 hi (by omega),iQ p7 oN KM.gX h2 i 2 hi (by omega)⟩
theorem PY {D:Nat->Prop} {w w':World} (h:Kp D w w'):Kp D w w'.drew:=h.trans (Kp.drew D w') (fun _ _ x=>x)
theorem ir.d {lo:Nat} {w:World} {g n cap:Nat} {us:List KM.Us} (h:ir lo w g n cap us):ir lo w.drew g n cap us:=h.kp (Kp.drew (fun _=>False) w) (fun x=>x)
theorem uj {α:Type} (f:α->List Value) (hf:∀x,(f x).length=3) (d:α) (x:α) (a b c:Value) (hx:f x=[a,b,c]) (l:List α) (i:Nat) (hi:i<l.length):(l.set i x).flatMap f=(((l.flatMap f).set (i*3) a).set (i*3+1) b).set (i*3+2) c:=by
 induction l generalizing i with
 | nil=>cases hi
 | cons y r ih =>
  cases i with
  | zero =>
   rw[List.set_cons_zero,List.flatMap_cons,List.flatMap_cons,hx]
   obtain⟨p,q,s,e⟩:∃p q s,f y=[p,q,s]:=by
    have:=hf y
    match h:f y with
    | [p,q,s]=>exact⟨p,q,s,rfl⟩
    | []=>rw[h] at this;cases this
    | [_]=>rw[h] at this;cases this
    | [_,_]=>rw[h] at this;cases this
    | _::_::_::_::_=>rw[h] at this;simp at this
   rw[e]
   rfl
  | succ i =>
   have h3:=hf y
   rw[List.set_cons_succ,List.flatMap_cons,List.flatMap_cons,ih i (Nat.lt_of_succ_lt_succ hi),List.set_append_right _ _ (by omega),List.set_append_right _ _ (by omega),List.set_append_right _ _ (by omega),h3,show(i+1)*3-3=i*3 by omega,show(i+1)*3+1-3=i*3+1 by omega,show(i+1)*3+2-3=i*3+2 by omega]
theorem ir.set {lo:Nat} {w:World} {g n cap:Nat} {us:List KM.Us} (h:ir lo w g n cap us) (i:Nat) (hi:i<n) (u:KM.Us):ir lo (((w.setCell (Ad g (i*3)) (I u.refs)).setCell (Ad g (i*3+1)) (I u.page)).setCell (Ad g (i*3+2)) (.bool u.zero)) g n cap (us.set i u):=by
 refine⟨by rw[List.length_set];exact h.1,?_⟩
 rw[uj p7 oN KM.gX u _ _ _ rfl us i (by rw[h.1];exact hi)]
 exact jM (jM (jM h.2 _ _) _ _) _ _
theorem Iw (us:List KM.Us) (e:KM.En) (z:Bool) (lo g n cap:Nat) (w:World) (h:ir lo w g n cap us) (hn:n<=1000) (he:M.gj e.page/\M.gj e.loc) (hr:∀i,i<n->0<=(KM.dh us i).refs/\(KM.dh us i).refs<=1000000) :
  Calls Tryz.prog 150 #[.slice (some (Ad g 0)) n cap,.agg #[I e.page,I e.kind,I e.loc],.bool z] w fun x w'=>x=.returned (.bool (KM.l9 us e z))/\Kp (fun b=>b=g) w w'/\ir lo w' g n cap (if KM.l9 us e z then KM.rE us e z else us):=by
 obtain⟨A,hA⟩:=ex (KM.l9 us e z)
 rw[<- hA]
 obtain⟨R,hR⟩:=ex (if A then KM.rE us e z else us)
 rw[<- hR]
 have HA:=ai hA
 have HR:=ai hR
 clear hA hR
 have aiz:=h.lt.2
 have HU:=ai h
 have hun:us.length=n:=h.1
 obtain⟨pg,kd,lc⟩:=e
 simp only at he ⊢
 have zI:=ai (Kp.alloc (fun b=>b=g) w (.cells #[I pg,I kd,I lc] 45))
 have xu:=ai (h.kp (Kp.alloc (fun _=>False) w (.cells #[I pg,I kd,I lc] 45)) (fun x=>x))
 have hgn:¬g=w.heap.size:=by omega
 clear h
 by_cases c:0<=lc/\lc<(n:Int)
 · obtain⟨i,rfl⟩:∃i:Nat,lc=(i:Int):=⟨lc.toNat,by omega⟩
   have hi:i<n:=by omega
   obtain⟨u0,u1,u2⟩:=HU.o.at i hi
   have WK:=hr i hi
   have kg:Hid (A=!(decide (0<(KM.dh us i).refs)&&(decide ((KM.dh us i).page≠pg) || (KM.dh us i).zero != z))):=by
    show _=_
    rw[HA.o]
    unfold KM.l9
    simp only[hun,Int.toNat_natCast]
    rw[decide_eq_true c,Bool.true_and]
   have Me:=ai (xu.o.set i hi ⟨(KM.dh us i).refs+1,pg,z⟩)
   have VJ:Hid (KM.rE us ⟨pg,kd,(i:Int)⟩ z=us.set i ⟨(KM.dh us i).refs+1,pg,z⟩):=by
    show _=_
    unfold KM.rE
    simp only[Int.toNat_natCast]
   obtain⟨U,hU⟩:=ex (KM.dh us i)
   rw[<- hU] at u0 u1 u2 WK kg Me VJ
   obtain⟨ur,up,uz⟩:=U
   simp only at u0 u1 u2 WK kg Me VJ
   have cl:(i:Int)<(n:Int):=c.2
   have c0:(0:Int)<=(i:Int):=c.1
   have Mf:=ai hU
   clear hU hr HA
   have wr1:IntKind.i64.wrap (ur+1)=ur+1:=by rw[IntKind.wrap_i64];omega
   have BE:=ai (B.new w #[I pg,I kd,I (i:Int)] 45)
   have bw:Hid (∀V,Kp (fun b=>b=g) w V->∀us',ir lo V g n cap us'->A=true->us'=us.set i ⟨ur+1,pg,z⟩->ir lo V g n cap R):=fun V _ us' ho ha e=>by
    have:R=us':=by rw[HR.o,if_pos ha,VJ.o,e]
    rw[this];exact ho
   have Tb:Hid (A=false->R=us):=fun ha=>by rw[HR.o,ha];rfl
   clear HR VJ
   rcases(show ¬0<ur∨(0<ur/\up=pg/\uz=z)∨(0<ur/\up=pg/\¬uz=z)∨(0<ur/\¬up=pg) by
    by_cases a:0<ur
    · by_cases b:up=pg
      · by_cases d:uz=z
        · exact .inr (.inl ⟨a,b,d⟩)
        · exact .inr (.inr (.inl ⟨a,b,d⟩))
      · exact .inr (.inr (.inr ⟨a,b⟩))
    · exact .inl a) with g1 | ⟨g1,g2,g3⟩ | ⟨g1,g2,g3⟩ | ⟨g1,g2⟩
   · have d1:decide (0<ur)=false:=decide_eq_false g1
     have pF:Hid (A=true):=by show _=_;rw[kg.o,d1];rfl
     clear kg
     go_enter Tryz.func150,Tryz.ntmps150
     go_wp2
     obtain⟨W,hW⟩:=ex (w.alloc (.cells #[I pg,I kd,I (i:Int)] 45))
     rw[<- hW] at zI xu Me BE ⊢
     obtain⟨eb,Ma⟩:=ex w.heap.size
     rw[<- Ma] at BE ⊢
     clear hW Ma
     obtain⟨y0,y1,y2⟩:=xu.o.at i hi
     have v0:W.cell? (Ad g (i*3))=some (I ur):=by rw[y0,<- Mf.o]
     have v1:W.cell? (Ad g (i*3+1))=some (I up):=by rw[y1,<- Mf.o]
     have v2:W.cell? (Ad g (i*3+2))=some (.bool uz):=by rw[y2,<- Mf.o]
     have f0:W.frozen? (Ad g (i*3))=false:=dn xu.o.2 _
     have f1:W.frozen? (Ad g (i*3+1))=false:=dn xu.o.2 _
     have f2:W.frozen? (Ad g (i*3+2))=false:=dn xu.o.2 _
     have w0:W.cell? (Ad eb 0)=some (I pg):=B.cell BE.o 0 rfl
     have w2:W.cell? (Ad eb 2)=some (I (i:Int)):=B.cell BE.o 2 rfl
     clear u0 u1 u2 hgn y0 y1 y2
     go_region
     go_wp2
     go_region
     go_wp2
     go_ret
     have K:=zI.o.trans (tB (D:=fun b=>b=g) W g (i*3) (i*3+1) (i*3+2) (I (ur+1)) (I pg) (.bool z) rfl) (fun _ _ x=>x)
     exact⟨congrArg (fun b=>Ending.returned (.bool b)) pF.o.symm,PY (PY K),bw.o _ (PY (PY K)) _ Me.o.d.d pF.o rfl⟩
   · have b1:(up != pg)=false:=by simpa using g2
     have b2:(uz==z)=true:=by simpa using g3
     have pF:Hid (A=true):=by show _=_;rw[kg.o,g2,g3];simp
     clear kg g2 g3
     go_enter Tryz.func150,Tryz.ntmps150
     go_wp2
     obtain⟨W,hW⟩:=ex (w.alloc (.cells #[I pg,I kd,I (i:Int)] 45))
     rw[<- hW] at zI xu Me BE ⊢
     obtain⟨eb,Ma⟩:=ex w.heap.size
     rw[<- Ma] at BE ⊢
     clear hW Ma
     obtain⟨y0,y1,y2⟩:=xu.o.at i hi
     have v0:W.cell? (Ad g (i*3))=some (I ur):=by rw[y0,<- Mf.o]
     have v1:W.cell? (Ad g (i*3+1))=some (I up):=by rw[y1,<- Mf.o]
     have v2:W.cell? (Ad g (i*3+2))=some (.bool uz):=by rw[y2,<- Mf.o]
     have f0:W.frozen? (Ad g (i*3))=false:=dn xu.o.2 _
     have f1:W.frozen? (Ad g (i*3+1))=false:=dn xu.o.2 _
     have f2:W.frozen? (Ad g (i*3+2))=false:=dn xu.o.2 _
     have w0:W.cell? (Ad eb 0)=some (I pg):=B.cell BE.o 0 rfl
     have w2:W.cell? (Ad eb 2)=some (I (i:Int)):=B.cell BE.o 2 rfl
     clear u0 u1 u2 hgn y0 y1 y2
     go_region
     go_wp2
     go_region
     go_wp2
     go_ret
     have K:=zI.o.trans (tB (D:=fun b=>b=g) W g (i*3) (i*3+1) (i*3+2) (I (ur+1)) (I pg) (.bool z) rfl) (fun _ _ x=>x)
     exact⟨congrArg (fun b=>Ending.returned (.bool b)) pF.o.symm,PY (PY K),bw.o _ (PY (PY K)) _ Me.o.d.d pF.o rfl⟩
   · have b1:(up != pg)=false:=by simpa using g2
     have b2:(uz==z)=false:=by simpa using g3
     have pF:Hid (A=false):=by show _=_;rw[kg.o,decide_eq_true g1,show(uz != z)=true by simpa using g3];simp
     clear kg g2 g3 bw
     go_enter Tryz.func150,Tryz.ntmps150
     go_wp2
     obtain⟨W,hW⟩:=ex (w.alloc (.cells #[I pg,I kd,I (i:Int)] 45))
     rw[<- hW] at zI xu Me BE ⊢
     obtain⟨eb,Ma⟩:=ex w.heap.size
     rw[<- Ma] at BE ⊢
     clear hW Ma
     obtain⟨y0,y1,y2⟩:=xu.o.at i hi
     have v0:W.cell? (Ad g (i*3))=some (I ur):=by rw[y0,<- Mf.o]
     have v1:W.cell? (Ad g (i*3+1))=some (I up):=by rw[y1,<- Mf.o]
     have v2:W.cell? (Ad g (i*3+2))=some (.bool uz):=by rw[y2,<- Mf.o]
     have f0:W.frozen? (Ad g (i*3))=false:=dn xu.o.2 _
     have f1:W.frozen? (Ad g (i*3+1))=false:=dn xu.o.2 _
     have f2:W.frozen? (Ad g (i*3+2))=false:=dn xu.o.2 _
     have w0:W.cell? (Ad eb 0)=some (I pg):=B.cell BE.o 0 rfl
     have w2:W.cell? (Ad eb 2)=some (I (i:Int)):=B.cell BE.o 2 rfl
     clear u0 u1 u2 hgn y0 y1 y2 Me
     go_region
     go_wp2
     go_ret
     rw[Tb.o pF.o]
     exact⟨congrArg (fun b=>Ending.returned (.bool b)) pF.o.symm,PY zI.o,xu.o.d⟩
   · have b1:(up != pg)=true:=by simpa using g2
     have pF:Hid (A=false):=by show _=_;rw[kg.o,decide_eq_true g1,decide_eq_true g2];rfl
     clear kg g2 bw
     go_enter Tryz.func150,Tryz.ntmps150
     go_wp2
     obtain⟨W,hW⟩:=ex (w.alloc (.cells #[I pg,I kd,I (i:Int)] 45))
     rw[<- hW] at zI xu Me BE ⊢
     obtain⟨eb,Ma⟩:=ex w.heap.size
     rw[<- Ma] at BE ⊢
     clear hW Ma
     obtain⟨y0,y1,y2⟩:=xu.o.at i hi
     have v0:W.cell? (Ad g (i*3))=some (I ur):=by rw[y0,<- Mf.o]
     have v1:W.cell? (Ad g (i*3+1))=some (I up):=by rw[y1,<- Mf.o]
     have v2:W.cell? (Ad g (i*3+2))=some (.bool uz):=by rw[y2,<- Mf.o]
     have f0:W.frozen? (Ad g (i*3))=false:=dn xu.o.2 _
     have f1:W.frozen? (Ad g (i*3+1))=false:=dn xu.o.2 _
     have f2:W.frozen? (Ad g (i*3+2))=false:=dn xu.o.2 _
     have w0:W.cell? (Ad eb 0)=some (I pg):=B.cell BE.o 0 rfl
     have w2:W.cell? (Ad eb 2)=some (I (i:Int)):=B.cell BE.o 2 rfl
     clear u0 u1 u2 hgn y0 y1 y2 Me
     go_region
     go_wp2
     go_ret
     rw[Tb.o pF.o]
     exact⟨congrArg (fun b=>Ending.returned (.bool b)) pF.o.symm,PY zI.o,xu.o.d⟩
 · have pF:Hid (A=false):=by
    show _=_
    rw[HA.o]
    unfold KM.l9
    rw[decide_eq_false (by simp only[hun];exact c),Bool.false_and]
   have Tb:Hid (R=us):=by show _=_;rw[HR.o,pF.o];rfl
   clear HA hr HR
   rcases(show lc<0∨(0<=lc/\(n:Int)<=lc) by omega) with g1 | ⟨g1,g2⟩
   all_goals
    go_enter Tryz.func150,Tryz.ntmps150
    go_wp2
    go_ret
    rw[Tb.o]
    exact⟨congrArg (fun b=>Ending.returned (.bool b)) pF.o.symm,zI.o,xu.o⟩
end KW
namespace KM
open Go.RowKit
def mI (us:List Us) (n:Nat) (B:Int):Prop:=us.length=n/\∀i,i<n->0<=(dh us i).refs/\(dh us i).refs<=B
theorem mI.mono {us:List Us} {n:Nat} {B C:Int} (h:mI us n B) (hc:B<=C):mI us n C:=⟨h.1,fun i hi=>⟨(h.2 i hi).1,Int.le_trans (h.2 i hi).2 hc⟩⟩
theorem mI.use {us:List Us} {n:Nat} {B:Int} (h:mI us n B) (e:En) (z:Bool) (hok:l9 us e z=true):mI (rE us e z) n (B+1):=by
 have hb:=(qd.1 hok).1
 obtain⟨h1,h2⟩:=h
 refine⟨by unfold rE;rw[List.length_set];exact h1,fun i hi=>?_⟩
 unfold rE
 rw[xy _ _ _ _ (by omega)]
 by_cases c:e.loc.toNat=i
 · rw[if_pos c,c]
   have:=h2 i hi
   show 0<=(dh us i).refs+1/\(dh us i).refs+1<=B+1
   omega
 · rw[if_neg c]
   have:=h2 i hi
   omega
theorem Hp {ar:List AM.Ar} {last:Int} {uf us:List Us} {e:En} (h:j4 ar last uf us e=true):(AM.aT ar e.page).2=true/\last<e.page/\((e.kind=1/\l9 uf e (AM.aT ar e.page).1.zero=true)∨(e.kind=2/\l9 us e (AM.aT ar e.page).1.zero=true)):=by
 unfold j4 at h
 rw[Bool.and_eq_true,Bool.and_eq_true,decide_eq_true_eq] at h
 refine⟨h.1,h.2.1,?_⟩
 have g:=h.2.2
 by_cases c:e.kind=1
 · rw[if_pos c] at g;exact .inl ⟨c,g⟩
 · rw[if_neg c] at g
   by_cases d:e.kind=2
   · rw[if_pos d] at g;exact .inr ⟨d,g⟩
   · rw[if_neg d] at g;cases g
theorem xq (ar:List AM.Ar) (es:List En) (u:List Us×List Us) (nf ns:Nat) (B:Int) (h1:mI u.1 nf B) (h2:mI u.2 ns B):∀k,k<=es.length->il ar es u k=true->mI (gS ar es u k).1 nf (B+k)/\mI (gS ar es u k).2 ns (B+k)/\(k:Int)<=(if k=0 then 0 else (aN es (k-1)).page)/\(if k=0 then 0 else (aN es (k-1)).page)<256
 | 0,_,_=>⟨h1.mono (by omega),h2.mono (by omega),Int.le_refl _,by rw[if_pos rfl];decide⟩
 | k+1,hk,hb=>by
  unfold il at hb
  rw[Bool.and_eq_true] at hb
  obtain⟨a1,a2,a3,a4⟩:=xq ar es u nf ns B h1 h2 k (by omega) hb.1
  obtain⟨b1,b2,b3⟩:=Hp hb.2
  have hm:=jw b1
  rw[if_neg (by omega),Nat.add_sub_cancel]
  unfold lu at b2
  refine⟨?_,?_,by omega,hm.2⟩
  · show mI (qQ ar (gS ar es u k) (aN es k)).1 nf _
    unfold qQ
    rcases b3 with g | g
    · rw[if_pos g.1];exact(a1.use _ _ g.2).mono (by omega)
    · rw[if_neg (by omega)];exact a1.mono (by omega)
  · show mI (qQ ar (gS ar es u k) (aN es k)).2 ns _
    unfold qQ
    rcases b3 with g | g
    · rw[if_pos g.1];exact a2.mono (by omega)
    · rw[if_neg (by omega)];exact(a2.use _ _ g.2).mono (by omega)
theorem Hm (ar:List AM.Ar) (es:List En) (u:List Us×List Us) (nf ns:Nat) (B:Int) (h1:mI u.1 nf B) (h2:mI u.2 ns B) (k:Nat) (hk:k<=es.length) (hb:il ar es u k=true):k<=255:=by
 have:=xq ar es u nf ns B h1 h2 k hk hb
 omega
theorem yX (ar:List AM.Ar) (es:List En) (u:List Us×List Us):∀(k n:Nat),k<=n->il ar es u k=false->il ar es u n=false
 | k,0,h,e=>by
  obtain rfl:k=0:=by omega
  exact e
 | k,n+1,h,e=>by
  by_cases c:k=n+1
  · rw[<- c];exact e
  · rw[il,yX ar es u k n (by omega) e,Bool.false_and]
theorem O0 (ar:List AM.Ar) (es:List En) (u:List Us×List Us) (k:Nat) (hk:k<es.length) (h:j4 ar (lu es k) (gS ar es u k).1 (gS ar es u k).2 (aN es k)=false):il ar es u es.length=false :=
 yX ar es u (k+1) es.length hk (by rw[il,h,Bool.and_false])
theorem My (n:Nat):mI (List.replicate n gX) n 0:=by
 refine⟨List.length_replicate,fun i hi=>?_⟩
 unfold dh
 rw[List.getD_eq_getElem?_getD,List.getElem?_replicate,if_pos hi]
 exact⟨Int.le_refl _,Int.le_refl _⟩
theorem MJ (hs:List LM.Sh) (ss:List Sp) (u:List Us×List Us) (nf ns:Nat) (h1:mI u.1 nf 0) (h2:mI u.2 ns 0):∀k,k<=ss.length->om hs ss u k=true->mI (kS ss u k).1 nf (255*k)/\mI (kS ss u k).2 ns (255*k)
 | 0,_,_=>⟨h1,h2⟩
 | k+1,hk,hb=>by
  unfold om at hb
  rw[Bool.and_eq_true,Bool.and_eq_true] at hb
  obtain⟨a1,a2⟩:=MJ hs ss u nf ns h1 h2 k (by omega) hb.1
  obtain⟨b1,b2,_,_⟩:=xq (au ss k).aD (au ss k).aA (kS ss u k) nf ns (255*k) a1 a2 _ (Nat.le_refl _) hb.2.2
  have hsm:=Hm (au ss k).aD (au ss k).aA (kS ss u k) nf ns (255*k) a1 a2 _ (Nat.le_refl _) hb.2.2
  exact⟨b1.mono (by omega),b2.mono (by omega)⟩
theorem FU {k:Kn} (hr:LM.cV k.ak=true) (hb:om k.ak k.aj (List.replicate k.frames.length gX,List.replicate k.slots.length gX) k.aj.length=true) (i:Nat) (hi:i<k.frames.length) (hn:(dh (xx k).1 i).refs≠0):0<=(dh (xx k).1 i).page/\(dh (xx k).1 i).page<256:=by
 obtain⟨a1,a2⟩:=sQ hr (Dz k.frames.length k.slots.length) k.aj _ (Nat.le_refl _) hb
 have hs:=a1.2.1 i hi
 have hs:Sum (names (k.aj.take k.aj.length) 1 i) (dh (xx k).1 i):=hs
 rw[List.take_length] at hs
 have hne:names k.aj 1 i≠[]:=fun e=>hn ((sum_nil hs).2 e)
 obtain⟨x,hx⟩:=List.exists_mem_of_ne_nil _ hne
 have e:=hs.2 x hx
 obtain⟨s,hsm,en,hen,_,_,hxe⟩:=iL.1 hx
 obtain⟨j,hj,rfl⟩:=eZ Fw hsm
 have hm:=jw ((a2 j hj).vW en hen).1
 rw[hxe] at e
 injection e with e1 e2
 omega
theorem Av (hs:List LM.Sh) (ss:List Sp) (u:List Us×List Us):∀(k n:Nat),k<=n->om hs ss u k=false->om hs ss u n=false
 | k,0,h,e=>by
  obtain rfl:k=0:=by omega
  exact e
 | k,n+1,h,e=>by
  by_cases c:k=n+1
  · rw[<- c];exact e
  · rw[om,Av hs ss u k n (by omega) e,Bool.false_and]
end KM
namespace KW
open Go.RowKit GK
open FW (ai aB)
theorem um (s:KM.Sp) (va:Value) (ap:Option Addr) (cp:Nat) (uf us:List KM.Us) (lo gf nf cf gs ns cs:Nat) (bd:Int) (w0 w:World) (ha:AW.Has w0 va s.aD) (he:aZ aK 3 KM.jI w0 ap s.aA) (hfit:lI s) (hw:Below w0.heap.size w0 w) (hlo:w0.heap.size<=lo) (huf:ir lo w gf nf cf uf) (hus:ir lo w gs ns cs us) (hne:¬gf=gs) (hb1:KM.mI uf nf bd) (hb2:KM.mI us ns bd) (hB:bd<=100000) (l6:nf<=1000) (hns:ns<=1000) :
  Calls Tryz.prog 112 #[.agg #[.bool s.live,va,.slice ap s.aA.length cp],.slice (some (Ad gf 0)) nf cf,.slice (some (Ad gs 0)) ns cs] w fun x w'=>x=.returned (.bool (KM.il s.aD s.aA (uf,us) s.aA.length))/\Kp (fun b=>b=gf∨b=gs) w w'/\(KM.il s.aD s.aA (uf,us) s.aA.length=true->ir lo w' gf nf cf (KM.gS s.aD s.aA (uf,us) s.aA.length).1/\ir lo w' gs ns cs (KM.gS s.aD s.aA (uf,us) s.aA.length).2):=by
 obtain⟨lv,ar,es⟩:=s
 simp only at ha he hfit ⊢
 have ZR:=ai ha
 have Qk:=ai he
 have nJ:=ai hfit.aD
 have sK:=ai hfit.vW
 have hel:es.length<=140737488351232:=hfit.aA
 have HW:=ai hw
 have HUF:=ai huf
 have Me:=ai hus
 have hgf:=huf.lt
 have hgs:=hus.lt
 have xw:=ai (KM.xq ar es (uf,us) nf ns bd hb1 hb2)
 have gq:=ai (KM.O0 ar es (uf,us))
 have ji:Hid (∀k,KM.il ar es (uf,us) k=true->KM.j4 ar (KM.lu es k) (KM.gS ar es (uf,us) k).1 (KM.gS ar es (uf,us) k).2 (KM.aN es k)=true->KM.il ar es (uf,us) (k+1)=true/\KM.gS ar es (uf,us) (k+1)=KM.qQ ar (KM.gS ar es (uf,us) k) (KM.aN es k)):=fun k h1 h2=>⟨by rw[KM.il,h1,h2];rfl,rfl⟩
 have PN:Hid (∀k,KM.lu es (k+1)=(KM.aN es k).page):=fun k=>by unfold KM.lu;rw[if_neg (by omega),Nat.add_sub_cancel]
 have HL0:Hid (KM.lu es 0=0):=rfl
 obtain⟨aa,ca,qP,_⟩:=id ha
 subst qP
 obtain⟨na,oH⟩:=ex ar.length
 rw[<- oH] at ZR ⊢
 have iW:=ai (Kp.alloc (fun b=>b=gf∨b=gs) w (.cells #[.bool lv,.slice aa na ca,.slice ap es.length cp] 43))
 have BS:=ai (B.new w #[.bool lv,.slice aa na ca,.slice ap es.length cp] 43)
 have VK:=ai (huf.kp (Kp.alloc (fun _=>False) w (.cells #[.bool lv,.slice aa na ca,.slice ap es.length cp] 43)) (fun x=>x))
 have VI:=ai (hus.kp (Kp.alloc (fun _=>False) w (.cells #[.bool lv,.slice aa na ca,.slice ap es.length cp] 43)) (fun x=>x))
 clear ha he hfit hw huf hus hb1 hb2 oH
 go_enter Tryz.func112,Tryz.ntmps112
 go_wp2
 obtain⟨W,hW⟩:=ex (w.alloc (.cells #[.bool lv,.slice aa na ca,.slice ap es.length cp] 43))
 rw[<- hW] at iW BS VK VI ⊢
 obtain⟨sb,pR⟩:=ex w.heap.size
 have ah3:¬sb=gf:=by omega
 have ah2:¬sb=gs:=by omega
 have hsW:W.heap.size=sb+1:=by rw[hW,World.size_alloc,pR]
 have h0s:w0.heap.size<=sb:=by have:=HW.o.size;omega
 have aiA:gf<sb:=by omega
 have aiw:gs<sb:=by omega
 rw[<- pR] at BS ⊢
 have FJ:=ai pR
 clear hW pR HUF Me
 go_loopw [7,15] (fun lv iv wr=>∃k:Nat,k<=es.length/\iv=I (k:Int)/\lv=I (KM.lu es k)/\KM.il ar es (uf,us) k=true/\Kp (fun b=>b=gf∨b=gs) W wr/\ir lo wr gf nf cf (KM.gS ar es (uf,us) k).1/\ir lo wr gs ns cs (KM.gS ar es (uf,us) k).2) (fun _ iv _=>es.length-(intOf iv).toNat)
 case atStart=>exact⟨0,by omega,rfl,rfl,rfl,Kp.refl _ _,VK.o,VI.o⟩
 case round =>
  obtain⟨k,hk,rfl,rfl,hbk,xg,hof,hos⟩:=hrel
  have Fp:=ai xg
  have Qq:=ai hbk
  have Jx:=ai hof
  have Jw:=ai hos
  obtain⟨L,hL⟩:=ex (KM.lu es k)
  rw[<- hL]
  have bs:=xg.keep BS.o (fun x=>by omega)
  have hsz:=xg.size
  have s1:wr.cell? (Ad sb 1)=some (.slice aa na ca):=B.cell bs 1 rfl
  have s2:wr.cell? (Ad sb 2)=some (.slice ap es.length cp):=B.cell bs 2 rfl
  have Z7:=ai bs
  by_cases hlt:k<es.length
  · have hb0:=(xg.below (iW.o.below HW.o HW.o.size (fun b hb=>by omega)) (by omega) (fun b hb=>by omega):Below w0.heap.size w0 wr)
    have bW:=ai hb0
    obtain⟨eb,eo,hao,hbl,bM⟩:=Qk.o (by omega)
    subst hao
    have ce:∀j,j<3->wr.cell? (Ad eb (eo+k*3+j))=(aK (KM.aN es k))[j]?:=fun j hj=>(hb0.cell (p:=(Ad eb (eo+k*3+j))) hbl).trans (bM k hlt j hj)
    have e0:=ce 0 (by omega)
    have e1:=ce 1 (by omega)
    have e2:=ce 2 (by omega)
    rw[Nat.add_zero] at e0
    have vw:=sK.o k hlt
    have gq:=ai (gq.o k hlt)
    have ji:=ai (ji.o k Qq.o)
    have PN:=ai (PN.o k)
    obtain⟨bd1,bd2,bd3,bd4⟩:=xw.o k (by omega) Qq.o
    have U6:(k:Int)<=255:=by omega
    have Zq:Hid (KM.mI (KM.gS ar es (uf,us) k).1 nf 1000000/\KM.mI (KM.gS ar es (uf,us) k).2 ns 1000000):=⟨bd1.mono (by omega),bd2.mono (by omega)⟩
    have tR:Hid (∀V,Below w0.heap.size w0 V->Calls Tryz.prog 70 #[.slice aa na ca,I (KM.aN es k).page] V fun e w'=>e=.returned (.tuple #[.agg (AW.cellsOf (AM.aT ar (KM.aN es k).page).1),.bool (AM.aT ar (KM.aN es k).page).2])/\Below V.heap.size V w'):=fun V hV=>AW.pW ar _ _ V (ZR.o.below hV) nJ.o
    rw[<- hL] at gq ji
    have L1:Hid (∀u:List KM.Us×List KM.Us,KM.qQ ar u (KM.aN es k)=if (KM.aN es k).kind=1 then (KM.rE u.1 (KM.aN es k) (AM.aT ar (KM.aN es k).page).1.zero,u.2) else (u.1,KM.rE u.2 (KM.aN es k) (AM.aT ar (KM.aN es k).page).1.zero)):=fun u=>rfl
    obtain⟨UU,hUU⟩:=ex (KM.gS ar es (uf,us) k)
    rw[<- hUU] at gq ji Zq Jx Jw
    obtain⟨U1,U2⟩:=UU
    unfold KM.j4 at gq ji
    obtain⟨E,hE⟩:=ex (KM.aN es k)
    rw[<- hE] at e0 e1 e2 vw gq ji PN tR L1
    obtain⟨pg,kd,lc⟩:=E
    simp only at gq ji Zq Jx Jw vw PN tR L1
    have x0:wr.cell? (Ad eb (eo+k*3))=some (I pg):=e0
    have x1:wr.cell? (Ad eb (eo+k*3+1))=some (I kd):=e1
    have x2:wr.cell? (Ad eb (eo+k*3+2))=some (I lc):=e2
    obtain⟨⟨fa,ok⟩,hF⟩:∃F,F=AM.aT ar pg:=⟨_,rfl⟩
    rw[<- hF] at gq ji tR L1
    obtain⟨f1,f2,f3,z⟩:=fa
    unfold AW.cellsOf at tR
    simp only at gq ji tR L1
    have SL:=ai (fun V (hV:ir lo V gf nf cf U1)=>Iw U1 ⟨pg,kd,lc⟩ z lo gf nf cf V hV l6 ⟨vw.1,vw.2.2⟩ (fun i hi=>Zq.o.1.2 i hi))
    have Qd:=ai (fun V (hV:ir lo V gs ns cs U2)=>Iw U2 ⟨pg,kd,lc⟩ z lo gs ns cs V hV hns ⟨vw.1,vw.2.2⟩ (fun i hi=>Zq.o.2.2 i hi))
    obtain⟨A1,hA1⟩:=ex (KM.l9 U1 ⟨pg,kd,lc⟩ z)
    obtain⟨A2,Dl⟩:=ex (KM.l9 U2 ⟨pg,kd,lc⟩ z)
    rw[<- hA1,<- Dl] at gq ji
    rw[<- hA1] at SL
    rw[<- Dl] at Qd
    have Rn:=hb0.size
    have Ma:¬eb=wr.heap.size:=by omega
    have hsr:¬sb=wr.heap.size:=by omega
    have KA:=ai (Fp.o.trans (Kp.alloc (fun b=>b=gf∨b=gs) wr (.cells #[I pg,I kd,I lc] 45)) (fun _ _ x=>x))
    have cJ:=ai (bW.o.alloc bW.o.size (.cells #[I pg,I kd,I lc] 45))
    have OA:=ai (Jx.o.kp (Kp.alloc (fun _=>False) wr (.cells #[I pg,I kd,I lc] 45)) (fun x=>x))
    have OB:=ai (Jw.o.kp (Kp.alloc (fun _=>False) wr (.cells #[I pg,I kd,I lc] 45)) (fun x=>x))
    have s1A:(wr.alloc (.cells #[I pg,I kd,I lc] 45)).cell? (Ad sb 1)=some (.slice aa na ca):=B.cell (B.alloc Z7.o _) 1 rfl
    have BE:=ai (B.new wr #[I pg,I kd,I lc] 45)
    clear e0 e1 e2 hL hUU hE hF hA1 Dl xg hbk hof hos hb0 bM ce bd1 bd2 bd3 bd4 xw Qk ZR nJ sK VK VI Fp bW Jx Jw Zq bs Z7 BS FJ HL0 U6
    cases ok with
    | false =>
     have Fv:=ai (gq.o rfl)
     clear gq ji SL Qd L1
     go_wp2_with (go_at_call 70;refine(tR.o _ cJ.o).mono ?_;rintro e w1 ⟨rfl,hb1⟩;have K1:=ai (KA.o.trans (Kp.aY hb1) (fun _ _ x=>x));have O1:=ai (OA.o.kp (Kp.aY (D:=fun _=>False) hb1) (fun x=>x));have O2:=ai (OB.o.kp (Kp.aY (D:=fun _=>False) hb1) (fun x=>x));have qK:=ai (B.below BE.o hb1 (by simp));have t0:w1.cell? (Ad wr.heap.size 0)=some (I pg):=B.cell qK.o 0 rfl;have t1:w1.cell? (Ad wr.heap.size 1)=some (I kd):=B.cell qK.o 1 rfl;have t2:w1.cell? (Ad wr.heap.size 2)=some (I lc):=B.cell qK.o 2 rfl;have hx1:wr.heap.size<w1.heap.size:=B.isLt qK.o;have hx2:¬wr.heap.size=w1.heap.size:=(by omega);clear hb1)
     have KX:=ai (K1.o.trans (Kp.alloc (fun b=>b=gf∨b=gs) w1 (.cells #[I f1,I f2,I f3,.bool z] 47)) (fun _ _ x=>x))
     go_ret
     exact⟨congrArg (fun b=>Ending.returned (.bool b)) Fv.o.symm,iW.o.trans KX.o (fun _ _ x=>x),fun x=>by rw[Fv.o] at x;cases x⟩
    | true =>
     by_cases Rh:pg<=L
     · have Fv:=ai (gq.o (by rw[decide_eq_false (show ¬L<pg by omega)];rfl))
       clear gq ji SL Qd L1
       go_wp2_with (go_at_call 70;refine(tR.o _ cJ.o).mono ?_;rintro e w1 ⟨rfl,hb1⟩;have K1:=ai (KA.o.trans (Kp.aY hb1) (fun _ _ x=>x));have O1:=ai (OA.o.kp (Kp.aY (D:=fun _=>False) hb1) (fun x=>x));have O2:=ai (OB.o.kp (Kp.aY (D:=fun _=>False) hb1) (fun x=>x));have qK:=ai (B.below BE.o hb1 (by simp));have t0:w1.cell? (Ad wr.heap.size 0)=some (I pg):=B.cell qK.o 0 rfl;have t1:w1.cell? (Ad wr.heap.size 1)=some (I kd):=B.cell qK.o 1 rfl;have t2:w1.cell? (Ad wr.heap.size 2)=some (I lc):=B.cell qK.o 2 rfl;have hx1:wr.heap.size<w1.heap.size:=B.isLt qK.o;have hx2:¬wr.heap.size=w1.heap.size:=(by omega);clear hb1)
       have KX:=ai (K1.o.trans (Kp.alloc (fun b=>b=gf∨b=gs) w1 (.cells #[I f1,I f2,I f3,.bool z] 47)) (fun _ _ x=>x))
       go_ret
       exact⟨congrArg (fun b=>Ending.returned (.bool b)) Fv.o.symm,iW.o.trans KX.o (fun _ _ x=>x),fun x=>by rw[Fv.o] at x;cases x⟩
     · have K8:L<pg:=by omega
       rw[decide_eq_true K8] at gq ji
       by_cases k1:kd=1
       · rw[if_pos k1] at gq ji
         have k1b:(kd==1)=true:=by simpa using k1
         have HK:=ai k1
         clear Qd k1
         cases A1 with
         | false =>
          have Fv:=ai (gq.o rfl)
          clear gq ji L1
          go_wp2_with (first | (go_at_call 70;refine(tR.o _ cJ.o).mono ?_;rintro e w1 ⟨rfl,hb1⟩;have K1:=ai (KA.o.trans (Kp.aY hb1) (fun _ _ x=>x));have O1:=ai (OA.o.kp (Kp.aY (D:=fun _=>False) hb1) (fun x=>x));have O2:=ai (OB.o.kp (Kp.aY (D:=fun _=>False) hb1) (fun x=>x));have qK:=ai (B.below BE.o hb1 (by simp));have t0:w1.cell? (Ad wr.heap.size 0)=some (I pg):=B.cell qK.o 0 rfl;have t1:w1.cell? (Ad wr.heap.size 1)=some (I kd):=B.cell qK.o 1 rfl;have t2:w1.cell? (Ad wr.heap.size 2)=some (I lc):=B.cell qK.o 2 rfl;have hx1:wr.heap.size<w1.heap.size:=B.isLt qK.o;have hx2:¬wr.heap.size=w1.heap.size:=(by omega);clear hb1) | (go_at_call 150;refine(SL.o _ (O1.o.kp (Kp.alloc (fun _=>False) _ _) (fun x=>x))).mono ?_;rintro e w3 ⟨rfl,hk3,N9⟩;have K3:=ai ((K1.o.trans (Kp.alloc (fun b=>b=gf∨b=gs) _ _) (fun _ _ x=>x)).trans (hk3.mono (D1:=fun b=>b=gf∨b=gs) (fun b _ x=>.inl x)) (fun _ _ x=>x));have O3:=ai N9;have P3:=ai ((O2.o.kp (Kp.alloc (fun _=>False) _ _) (fun x=>x)).kp hk3 (fun x=>hne x.symm));clear hk3 N9))
          have KX:=ai K3.o
          go_ret
          exact⟨congrArg (fun b=>Ending.returned (.bool b)) Fv.o.symm,iW.o.trans KX.o (fun _ _ x=>x),fun x=>by rw[Fv.o] at x;cases x⟩
         | true =>
          have zM:=ai (ji.o rfl)
          clear gq ji
          go_wp2_with (first | (go_at_call 70;refine(tR.o _ cJ.o).mono ?_;rintro e w1 ⟨rfl,hb1⟩;have K1:=ai (KA.o.trans (Kp.aY hb1) (fun _ _ x=>x));have O1:=ai (OA.o.kp (Kp.aY (D:=fun _=>False) hb1) (fun x=>x));have O2:=ai (OB.o.kp (Kp.aY (D:=fun _=>False) hb1) (fun x=>x));have qK:=ai (B.below BE.o hb1 (by simp));have t0:w1.cell? (Ad wr.heap.size 0)=some (I pg):=B.cell qK.o 0 rfl;have t1:w1.cell? (Ad wr.heap.size 1)=some (I kd):=B.cell qK.o 1 rfl;have t2:w1.cell? (Ad wr.heap.size 2)=some (I lc):=B.cell qK.o 2 rfl;have hx1:wr.heap.size<w1.heap.size:=B.isLt qK.o;have hx2:¬wr.heap.size=w1.heap.size:=(by omega);clear hb1) | (go_at_call 150;refine(SL.o _ (O1.o.kp (Kp.alloc (fun _=>False) _ _) (fun x=>x))).mono ?_;rintro e w3 ⟨rfl,hk3,N9⟩;have K3:=ai ((K1.o.trans (Kp.alloc (fun b=>b=gf∨b=gs) _ _) (fun _ _ x=>x)).trans (hk3.mono (D1:=fun b=>b=gf∨b=gs) (fun b _ x=>.inl x)) (fun _ _ x=>x));have O3:=ai N9;have P3:=ai ((O2.o.kp (Kp.alloc (fun _=>False) _ _) (fun x=>x)).kp hk3 (fun x=>hne x.symm));clear hk3 N9))
          go_roundw
          case rel=>exact⟨k+1,by omega,by go_num,by rw[PN.o],zM.o.1,K3.o,by rw[zM.o.2,L1.o,if_pos HK.o];exact O3.o,by rw[zM.o.2,L1.o,if_pos HK.o];exact P3.o⟩
          case measure=>simp[intOf];omega
       · rw[if_neg k1] at gq ji
         clear SL
         have k1b:(kd==1)=false:=by simpa using k1
         by_cases k2:kd=2
         · rw[if_pos k2] at gq ji
           have k2b:(kd==2)=true:=by simpa using k2
           have HK:=ai k1
           clear k1 k2
           cases A2 with
           | false =>
            have Fv:=ai (gq.o rfl)
            clear gq ji L1
            go_wp2_with (first | (go_at_call 70;refine(tR.o _ cJ.o).mono ?_;rintro e w1 ⟨rfl,hb1⟩;have K1:=ai (KA.o.trans (Kp.aY hb1) (fun _ _ x=>x));have O1:=ai (OA.o.kp (Kp.aY (D:=fun _=>False) hb1) (fun x=>x));have O2:=ai (OB.o.kp (Kp.aY (D:=fun _=>False) hb1) (fun x=>x));have qK:=ai (B.below BE.o hb1 (by simp));have t0:w1.cell? (Ad wr.heap.size 0)=some (I pg):=B.cell qK.o 0 rfl;have t1:w1.cell? (Ad wr.heap.size 1)=some (I kd):=B.cell qK.o 1 rfl;have t2:w1.cell? (Ad wr.heap.size 2)=some (I lc):=B.cell qK.o 2 rfl;have hx1:wr.heap.size<w1.heap.size:=B.isLt qK.o;have hx2:¬wr.heap.size=w1.heap.size:=(by omega);clear hb1) | (go_at_call 150;refine(Qd.o _ (O2.o.kp (Kp.alloc (fun _=>False) _ _) (fun x=>x))).mono ?_;rintro e w3 ⟨rfl,hk3,N9⟩;have K3:=ai ((K1.o.trans (Kp.alloc (fun b=>b=gf∨b=gs) _ _) (fun _ _ x=>x)).trans (hk3.mono (D1:=fun b=>b=gf∨b=gs) (fun b _ x=>.inr x)) (fun _ _ x=>x));have O3:=ai N9;have P3:=ai ((O1.o.kp (Kp.alloc (fun _=>False) _ _) (fun x=>x)).kp hk3 hne);clear hk3 N9))
            have KX:=ai K3.o
            go_ret
            exact⟨congrArg (fun b=>Ending.returned (.bool b)) Fv.o.symm,iW.o.trans KX.o (fun _ _ x=>x),fun x=>by rw[Fv.o] at x;cases x⟩
           | true =>
            have zM:=ai (ji.o rfl)
            clear gq ji
            go_wp2_with (first | (go_at_call 70;refine(tR.o _ cJ.o).mono ?_;rintro e w1 ⟨rfl,hb1⟩;have K1:=ai (KA.o.trans (Kp.aY hb1) (fun _ _ x=>x));have O1:=ai (OA.o.kp (Kp.aY (D:=fun _=>False) hb1) (fun x=>x));have O2:=ai (OB.o.kp (Kp.aY (D:=fun _=>False) hb1) (fun x=>x));have qK:=ai (B.below BE.o hb1 (by simp));have t0:w1.cell? (Ad wr.heap.size 0)=some (I pg):=B.cell qK.o 0 rfl;have t1:w1.cell? (Ad wr.heap.size 1)=some (I kd):=B.cell qK.o 1 rfl;have t2:w1.cell? (Ad wr.heap.size 2)=some (I lc):=B.cell qK.o 2 rfl;have hx1:wr.heap.size<w1.heap.size:=B.isLt qK.o;have hx2:¬wr.heap.size=w1.heap.size:=(by omega);clear hb1) | (go_at_call 150;refine(Qd.o _ (O2.o.kp (Kp.alloc (fun _=>False) _ _) (fun x=>x))).mono ?_;rintro e w3 ⟨rfl,hk3,N9⟩;have K3:=ai ((K1.o.trans (Kp.alloc (fun b=>b=gf∨b=gs) _ _) (fun _ _ x=>x)).trans (hk3.mono (D1:=fun b=>b=gf∨b=gs) (fun b _ x=>.inr x)) (fun _ _ x=>x));have O3:=ai N9;have P3:=ai ((O1.o.kp (Kp.alloc (fun _=>False) _ _) (fun x=>x)).kp hk3 hne);clear hk3 N9))
            go_roundw
            case rel=>exact⟨k+1,by omega,by go_num,by rw[PN.o],zM.o.1,K3.o,by rw[zM.o.2,L1.o,if_neg HK.o];exact P3.o,by rw[zM.o.2,L1.o,if_neg HK.o];exact O3.o⟩
            case measure=>simp[intOf];omega
         · rw[if_neg k2] at gq ji
           have k2b:(kd==2)=false:=by simpa using k2
           have Fv:=ai (gq.o rfl)
           clear gq ji Qd L1 k1 k2
           go_wp2_with (go_at_call 70;refine(tR.o _ cJ.o).mono ?_;rintro e w1 ⟨rfl,hb1⟩;have K1:=ai (KA.o.trans (Kp.aY hb1) (fun _ _ x=>x));have O1:=ai (OA.o.kp (Kp.aY (D:=fun _=>False) hb1) (fun x=>x));have O2:=ai (OB.o.kp (Kp.aY (D:=fun _=>False) hb1) (fun x=>x));have qK:=ai (B.below BE.o hb1 (by simp));have t0:w1.cell? (Ad wr.heap.size 0)=some (I pg):=B.cell qK.o 0 rfl;have t1:w1.cell? (Ad wr.heap.size 1)=some (I kd):=B.cell qK.o 1 rfl;have t2:w1.cell? (Ad wr.heap.size 2)=some (I lc):=B.cell qK.o 2 rfl;have hx1:wr.heap.size<w1.heap.size:=B.isLt qK.o;have hx2:¬wr.heap.size=w1.heap.size:=(by omega);clear hb1)
           have KX:=ai (K1.o.trans (Kp.alloc (fun b=>b=gf∨b=gs) w1 (.cells #[I f1,I f2,I f3,.bool z] 47)) (fun _ _ x=>x))
           go_ret
           exact⟨congrArg (fun b=>Ending.returned (.bool b)) Fv.o.symm,iW.o.trans KX.o (fun _ _ x=>x),fun x=>by rw[Fv.o] at x;cases x⟩
  · obtain rfl:k=es.length:=by omega
    clear hL
    go_wp2
    go_ret
    exact⟨congrArg (fun b=>Ending.returned (.bool b)) Qq.o.symm,iW.o.trans Fp.o (fun _ _ x=>x),fun _=>⟨Jx.o,Jw.o⟩⟩
end KW
namespace LW
open Go.RowKit
open W (ai)
theorem Fb (ao:Option Addr) (cap:Nat) (w:World) :
  Calls Tryz.prog 99 #[.slice ao 0 cap] w fun e w'=>e=.returned (.bool (LM.fe []))/\Below w.heap.size w w':=by
 go_enter Tryz.func99,Tryz.ntmps99
 go_wp2
 refine wp_loop_rounds 1 ?_
 rw[rounds_succ]
 go_wp2
 go_ret
 exact⟨rfl,Below.refl _ _⟩
theorem C2 (l:List AM.Ar) (b off cap:Nat) (w:World) (hl:AM.Bx w b off l) (hn:l.length<=140737488351232) :
  Calls Tryz.prog 99 #[.slice (some (Ad b off)) l.length cap] w fun e w'=>e=.returned (.bool (LM.fe l))/\Below w.heap.size w w':=by
 go_enter Tryz.func99,Tryz.ntmps99
 go_wp2
 go_loopw [7] (fun i wr=>∃k:Nat,k<=l.length/\i=I k/\LM.km l k=false/\Below w.heap.size w wr) (fun i _=>l.length-(intOf i).toNat)
 case atStart=>exact⟨0,by omega,rfl,rfl,Below.refl _ _⟩
 case round =>
  obtain⟨k,hk,rfl,hz,hb⟩:=hrel
  have HZ:=ai hz
  have fw:=ai hb
  clear hz
  by_cases hlt:k<l.length
  · obtain⟨c0,c1,c2,c3⟩:=(hl.below hb) k hlt
    obtain⟨a,ha⟩:=ex (AM.at_ l k)
    rw[<- ha] at c0 c1 c2 c3
    have HA:=ai ha
    clear ha hb
    by_cases Q7:a.zero=true
    · have HX:Hid (LM.fe l=true):=LM.Qv l k hlt (by rw[<- HA.o];exact Q7)
      go_wp2
      go_ret
      exact⟨bV (by rw[HX.o]),fw.o.alloc fw.o.size _⟩
    · have abP:a.zero=false:=by simpa using Q7
      clear Q7
      have HX:Hid (LM.km l (k+1)=false):=by
       show _=_
       simp only[LM.km]
       rw[HZ.o,<- HA.o,abP]
       rfl
      go_wp2
      go_roundw
      case rel=>exact⟨k+1,by omega,by go_num,HX.o,fw.o.alloc fw.o.size _⟩
      case measure=>simp[intOf];omega
  · obtain rfl:k=l.length:=by omega
    go_wp2
    go_ret
    exact⟨bV HZ.o.symm,fw.o⟩
theorem Fe (l:List AM.Ar) (v:Value) (w:World) (h:AW.Has w v l) (hf:AW.ed l) :
  Calls Tryz.prog 99 #[v] w fun e w'=>e=.returned (.bool (LM.fe l))/\Below w.heap.size w w':=by
 obtain⟨ao,cap,rfl,h⟩:=h
 rcases h with rfl | ⟨b,off,rfl,hl⟩
 · exact Fb ao cap w
 · exact C2 l b off cap w hl hf.2
theorem wA (hs:List LM.Sh) (ao:Option Addr) (cap:Nat) (w:World) (h:LM.gT w ao hs) (hf:LM.lJ hs) :
  Calls Tryz.prog 101 #[.slice ao hs.length cap] w fun e w'=>e=.returned (.bool (LM.jm hs))/\Below w.heap.size w w':=by
 have HF:=ai hf
 have HH:=ai h
 have hn:hs.length<=140737488351232:=hf.1
 clear h hf
 go_enter Tryz.func101,Tryz.ntmps101
 go_wp2
 go_loopw [7] (fun i wr=>∃k:Nat,k<=hs.length/\i=I k/\LM.gy hs k=true/\Below w.heap.size w wr) (fun i _=>hs.length-(intOf i).toNat)
 case atStart=>exact⟨0,by omega,rfl,rfl,Below.refl _ _⟩
 case round =>
  obtain⟨k,hk,rfl,hz,hb⟩:=hrel
  have HZ:=ai hz
  have fw:=ai hb
  clear hz
  by_cases hlt:k<hs.length
  · obtain⟨b,off,hao,hbl,bM⟩:=(HH.o.below hb) (by omega)
    subst hao
    obtain⟨c0,c1,c2,c3⟩:=bM k hlt
    have ra:=HF.o.2 k hlt
    have HE:Hid (LM.gy hs (k+1)=LM.bN (LM.aW hs k)):=by
     show _=_
     simp only[LM.gy]
     rw[HZ.o,Bool.true_and]
    have Da:Hid (LM.bN (LM.aW hs k)=false->LM.jm hs=false):=fun e=>LM.Gh hs k hlt e
    obtain⟨s,Ja⟩:=ex (LM.aW hs k)
    rw[<- Ja] at c0 c1 c2 c3 ra HE Da
    clear Ja bM hb
    have cJ:=ai (fw.o.alloc fw.o.size (.cells #[I s.page,.string s.data,.slice s.ao s.bh.length s.cap] 50))
    have HC:Hid (∀W,Below wr.heap.size wr W->Calls Tryz.prog 146 #[.agg #[I s.page,.string s.data,.slice s.ao s.bh.length s.cap]] W fun e w'=>e=.returned (.bool (LM.bN s))/\Below W.heap.size W w'):=fun W hb=>pO s W (c3.below hb) ra
    clear c3 ra
    cases e:LM.bN s with
    | true =>
     rw[e] at HC HE
     clear e
     go_wp2_with (go_at_call 146;refine(HC.o _ ((Below.refl _ _).alloc (Nat.le_refl _) _)).mono ?_;rintro e w1 ⟨rfl,hb⟩;have cJ:=ai (cJ.o.trans (hb.mono cJ.o.size));clear hb)
     go_roundw
     case rel=>exact⟨k+1,by omega,by go_num,HE.o,cJ.o⟩
     case measure=>simp[intOf];omega
    | false =>
     have HX:=ai (Da.o e)
     rw[e] at HC
     clear e Da HE
     go_wp2_with (go_at_call 146;refine(HC.o _ ((Below.refl _ _).alloc (Nat.le_refl _) _)).mono ?_;rintro e w1 ⟨rfl,hb⟩;have cJ:=ai (cJ.o.trans (hb.mono cJ.o.size));clear hb)
     go_ret
     exact⟨bV (by rw[HX.o]),cJ.o⟩
  · obtain rfl:k=hs.length:=by omega
    go_wp2
    go_ret
    exact⟨bV HZ.o.symm,fw.o⟩
theorem DF {a a':Option Addr} {n n' m m':Nat} (h1:a=a') (h2:n=n') (h3:m=m'):Value.slice a n m=.slice a' n' m':=by rw[h1,h2,h3]
theorem EI (l:List AM.Ar) (hs:List LM.Sh) (en:Int) (va:Value) (ao:Option Addr) (cap:Nat) (w:World) (ha:AW.Has w va l) (hc:AM.aR l=0) (h:LM.gT w ao hs) (hn:hs.length<=140737488351232) (hcap:hs.length<=cap) :
  Calls Tryz.prog 100 #[.agg #[va,.slice ao hs.length cap,I en]] w fun e w'=>e=.returned (.bool (LM.eB l hs))/\Below w.heap.size w w':=by
 obtain⟨b,off,hbo⟩:∃b off,0<hs.length->ao=some (Ad b off)/\b<w.heap.size/\LM.Py w b off hs:=by
  by_cases h0:0<hs.length
  · obtain⟨b,off,h1,h2,h3⟩:=h h0
    exact⟨b,off,fun _=>⟨h1,h2,h3⟩⟩
  · exact⟨0,0,fun g=>(h0 g).elim⟩
 have HBO:=ai hbo
 have HC:=ai hc
 have hlen:=AM.gQ l hc
 obtain⟨aa,ca,rfl,hal⟩:=ha
 have Ui:Hid (0<l.length->∃b off,aa=some (Ad b off)/\AM.Bx w b off l):=fun g=>by
  rcases hal with rfl | ⟨b,off,e,hl⟩
  · exact(Nat.lt_irrefl 0 g).elim
  · exact⟨b,off,e,hl⟩
 clear hbo hc h hal
 have HB:=ai ((Below.refl w.heap.size w).alloc (Nat.le_refl _) (.cells #[.slice aa l.length ca,.slice ao hs.length cap,I en] 30))
 go_enter Tryz.func100,Tryz.ntmps100
 go_wp2
 go_loopw [12,3] (fun ix v wr=>∃(i c:Nat) (Qa:Option Addr),i<=l.length/\ix=I i/\v=.slice Qa (hs.length-c) (cap-c)/\c<=hs.length/\(c<hs.length->Qa=some (Ad b (off+c*3)))/\(hs.take c).map (·.page)=LM.dA l i/\Below w.heap.size w wr) (fun ix _ _=>l.length-(intOf ix).toNat)
 case atStart=>exact⟨0,0,ao,by omega,rfl,rfl,by omega,fun g=>by rw[(HBO.o g).1,Nat.zero_mul,Nat.add_zero],rfl,HB.o⟩
 case round =>
  obtain⟨i,c,Qa,hi,rfl,rfl,hcl,hao,htk,hb⟩:=hrel
  have HAO:=ai hao
  have VL:=ai htk
  have fw:=ai hb
  clear hao htk
  by_cases hlt:i<l.length
  · obtain⟨ba,ahy,P5,hl⟩:=Ui.o (by omega)
    subst P5
    obtain⟨c0,c1,c2,c3⟩:=(hl.below hb) i hlt
    have hbk:=AM.df l i (AM.cR l HC.o i hlt)
    have Ai:Hid (∀n,n<(AM.at_ l i).aH.toNat->∃t,LM.dO l=(LM.dA l i++LM.gI (AM.at_ l i) n)++((AM.at_ l i).page+(n:Int))::t):=fun n hn=>LM.D7 l i hlt n hn
    have ji:Hid (LM.dA l (i+1)=LM.dA l i++LM.gI (AM.at_ l i) (AM.at_ l i).aH.toNat):=rfl
    obtain⟨a,P5⟩:=ex (AM.at_ l i)
    rw[<- P5] at c0 c1 c2 c3 hbk Ai ji
    clear P5 hb
    obtain⟨P,hP⟩:∃P:Nat,a.aH=(P:Int):=⟨a.aH.toNat,by omega⟩
    rw[hP] at c1 hbk Ai ji
    rw[Int.toNat_natCast] at Ai ji
    have cJ:=ai (fw.o.alloc fw.o.size (.cells #[I a.page,I (P:Int),I a.bO,.bool a.zero] 47))
    have BA:=ai (B.new wr #[I a.page,I (P:Int),I a.bO,.bool a.zero] 47)
    go_wp2
    go_loopw [18,3] (fun nx v wi=>∃(n c:Nat) (Qa:Option Addr),n<=P/\nx=I n/\v=.slice Qa (hs.length-c) (cap-c)/\c<=hs.length/\(c<hs.length->Qa=some (Ad b (off+c*3)))/\(hs.take c).map (·.page)=LM.dA l i++LM.gI a n/\Below w.heap.size w wi/\wi.heap[wr.heap.size]?=some (.cells #[I a.page,I (P:Int),I a.bO,.bool a.zero] 47 (0,0))) (fun nx _ _=>P-(intOf nx).toNat)
    case atStart=>exact⟨0,c,Qa,by omega,rfl,rfl,hcl,HAO.o,by rw[VL.o];simp[LM.gI],cJ.o,BA.o⟩
    case round =>
     obtain⟨n,c,Qa,hn',rfl,rfl,hcl,hao,htk,hb,hba⟩:=hrel
     have HAO:=ai hao
     have VL:=ai htk
     have Fs:=ai hb
     have BAi:=ai hba
     have x0:=B.cell hba 0 rfl
     clear hao htk hba
     by_cases Rh:n<P
     · obtain⟨t,ht⟩:=Ai.o n Rh
       have HT:=ai ht
       clear ht
       by_cases hce:c=hs.length
       · have HX:Hid (LM.eB l hs=false):=LM.Hr (by have h:=VL.o;rw[hce] at h;exact h) HT.o
         have hz:hs.length-c=0:=by omega
         rw[hz]
         clear hz hce
         go_wp2
         go_quiet (fail)
         go_wp2
         go_ret
         exact⟨bV HX.o.symm,below_drewN Fs.o _⟩
       · have Rm:c<hs.length:=by omega
         have hcz:(((hs.length-c:Nat):Int)==0)=false:=by simp;omega
         have aiH:0<hs.length-c:=by omega
         obtain⟨-,g2,g3⟩:=HBO.o (by omega)
         obtain⟨d0,d1,d2,d3⟩:=(LM.QY (hb.mono (Nat.le_of_eq rfl)) g2 g3) c Rm
         have P5:=HAO.o Rm
         subst P5
         have ail:(1:Int)<=((hs.length-c:Nat):Int):=by omega
         by_cases Fz:(LM.aW hs c).page=a.page+(n:Int)
         · have HX:Hid ((hs.take (c+1)).map (·.page)=LM.dA l i++LM.gI a (n+1)):=by
            show _=_
            rw[LM.qY hs c Rm,VL.o,Fz,LM.mP,List.append_assoc]
           rw[Fz] at d0
           clear Fz d1 d2 d3 hb hce
           by_cases hc1:cap-c=1
           · go_wp2
             go_quiet (fail)
             go_wp2
             go_roundw
             case rel=>exact⟨n+1,c+1,_,by omega,by go_num,DF rfl (by omega) (by omega),by omega,fun g=>by omega,HX.o,below_drewN Fs.o _,BAi.o⟩
             case measure=>simp[intOf];omega
           · go_wp2
             go_quiet (fail)
             go_wp2
             go_roundw
             case rel=>exact⟨n+1,c+1,_,by omega,by go_num,DF rfl (by omega) (by omega),by omega,fun g=>by simp[Nat.add_mul,Nat.add_assoc],HX.o,below_drewN Fs.o _,BAi.o⟩
             case measure=>simp[intOf];omega
         · have HX:Hid (LM.eB l hs=false):=LM.Hs Rm VL.o HT.o Fz
           have hpz:((LM.aW hs c).page==a.page+(n:Int))=false:=by simpa using Fz
           clear Fz d1 d2 d3 hb hce
           go_wp2
           go_quiet (fail)
           go_wp2
           go_ret
           exact⟨bV HX.o.symm,below_drewN Fs.o _⟩
     · obtain rfl:n=P:=by omega
       go_wp2
       go_roundw
       case rel=>exact⟨i+1,c,Qa,by omega,by go_num,rfl,hcl,HAO.o,by rw[ji.o];exact VL.o,Fs.o⟩
       case measure=>simp[intOf];omega
  · obtain rfl:i=l.length:=by omega
    have HX:=ai (LM.Lu hcl VL.o)
    go_wp2
    go_ret
    refine⟨bV ?_,fw.o⟩
    rw[HX.o]
    rw[Bool.eq_iff_iff]
    simp
    omega
end LW
end Go.Proofs.YtpgifpeohlllfaaGreat
