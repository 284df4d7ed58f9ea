import Derived.Test.YtebinaopncclgabGreatDoorJShape
set_option maxRecDepth 100000
set_option maxHeartbeats 8000000
namespace Go.Proofs.YtebinaopncclgabGreatDoor
open Go.RowKit Go.IntWalk
theorem StR.below{w w':World}{v:Value}{r:Rd}(h:StR w v r)(hb:Below w.heap.size w w'):StR w' v r:=by obtain⟨ao,c,h1,h2⟩:=h;refine⟨ao,c,h1,λi hi=>?_⟩;obtain⟨g,k1,k2,k3⟩:=h2 i hi;exact⟨g,k1,ya k2 hb.size,λj z hj hz=>zc hb (k3 j z hj hz) k2⟩
structure ze8 (w:World) (p:Nat) (r:Rd) (D:Nat->Nat->Int) (vs vf:Value):Prop where
 lt:p<w.heap.size
 c0:w.cell? ⟨p,0,none⟩=some (.int .i64 r.vans)
 c1:w.cell? ⟨p,1,none⟩=some (.int .i64 r.load)
 c2:w.cell? ⟨p,2,none⟩=some (.int .i64 r.close)
 c5:w.cell? ⟨p,5,none⟩=some vs
 c7:w.cell? ⟨p,7,none⟩=some vf
 st:StR w vs r
 fr:SqR w vf (r.stops.length+1) D
theorem ze8.below{w w':World}{p:Nat}{r:Rd}{D:Nat->Nat->Int}{vs vf:Value}(h:ze8 w p r D vs vf)(hb:Below w.heap.size w w'):ze8 w' p r D vs vf:=⟨ya h.lt hb.size,zc hb h.c0 h.lt,zc hb h.c1 h.lt,zc hb h.c2 h.lt,zc hb h.c5 h.lt,zc hb h.c7 h.lt,h.st.below hb,h.fr.below hb⟩
def zI(r:Rd)(D:Nat->Nat->Int)(l:List UInt8):Int×Option (List Int)×Int:=
 if zx r.stops.length l≠0 then (0,none,zx r.stops.length l)
 else if r.vans<((zn l).length:Int) then (0,none,8)
 else if (zn l).all (zH r)=false then (0,none,9)
 else if (zn l).all (zT D)=false then (0,none,10)
 else match zak r D (zn l) (List.replicate r.stops.length 0) with
  | none=>(0,none,11)
  | some S=>(zb0 D (zn l),some S,0)
def zen(w:World)(n:Nat)(x:Int×Option (List Int)×Int)(e:Ending)(w':World):Prop:=∃v,e=.returned (.tuple #[.int .i64 x.1,v,.int .i64 x.2.2])/\(x.2.1=none->v=.slice none 0 0)/\(∀S,x.2.1=some S->w'.ownsRow w.heap.size 3 1 v n (zd S)/\S.length=n/\v≠.slice none 0 0)/\Below w.heap.size w w'
theorem zoy(p:Nat)(r:Rd)(D:Nat->Nat->Int)(s:ByteArray)(vs vf:Value)(w:World)(hs:s.size<=maxLen)(aA:zE r)(ha:ze8 w p r D vs vf)(hD:∀a b,a<r.stops.length+1->b<r.stops.length+1->-1<=D a b/\D a b<=40960000):Calls Tryz.prog 105 #[.pointer (some ⟨p,0,none⟩),.string s] w (zen w r.stops.length (zI r D s.data.toList)):=by
 obtain⟨i0,hi,aT,aU,aV⟩:=info_parts Tryz.infoInt;have aP:=aA.nstops;have am:=hid (zk5 r.stops.length s w aP hs);obtain⟨aos,cps,aS,_⟩:=ha.st;subst aS;have h5:=ha.c5;have hpw:=ha.lt;have HA:=hid ha;have ar:=hid aA;have HD:=hid hD;clear ha aA hD;by_cases hf:zx r.stops.length s.data.toList≠0
 ·have HF:Hid (zI r D s.data.toList=(0,none,zx r.stops.length s.data.toList)):=by show _=_;unfold zI;rw[yg hf]
  rw[HF.out];generalize zx r.stops.length s.data.toList=f at*;have e1:(f != 0)=true:=by simpa using hf
  go_in;go_wp2_with(first
   | (go_at_call 166;refine am.out.mono ?_;rintro e1 w1⟨rfl,ae⟩)
   | go_in);go_ret3;exact⟨_,rfl,λ_=>rfl,λS e=>(by cases e),ae⟩
 have az:zx r.stops.length s.data.toList=0:=by omega
 have aw:Hid (0<=r.close):=by have:=ar.out.head;simp only[zaK,yA,za7,yq] at this;show _<=_;omega
 obtain⟨aR,au,_⟩:=zfe az;have hsz2:s.size<=14:=by have:s.data.toList.length=s.size:=(by simp);omega
 have aq:Hid (∀W,Calls Tryz.prog 167 #[.string s] W λe w'=>∃v vs,e=.returned v/\Rts w' W.heap.size w'.heap.size v (zn s.data.toList) vs/\Below W.heap.size W w'):=λW=>zpM s W (by omega) (λk hk=>by
  rcases zhA au (k:=k) (by simpa using hk) with h|h
  ·exact .inl h
  exact .inr h.1)
 have aa:(zn s.data.toList).length<=1000:=by have h1:=zht s.data.toList;have:s.data.toList.length=s.size:=(by simp);omega
 have ah:Hid (∀l∈zn s.data.toList,l.length<=1000/\(∀x∈l,0<=x/\x<((r.stops.length:Nat):Int)+1)/\∀j,j+2<l.length->l.getD (j+1) 0≠0):=λl hl=>by
  have h1:=(zfz au l hl).sites;have:s.data.toList.length=s.size:=by simp
  exact⟨by omega,h1.2.1,h1.2.2⟩
 have aL:Hid (∀S,zbN r D (zn s.data.toList) S=zak r D (zn s.data.toList) S):=λS=>znz S λl hl S=>(zfz au l hl).times aw.out D S;rw[az] at am;have HJ:Hid (zI r D s.data.toList=if r.vans<((zn s.data.toList).length:Int) then ((0:Int),(none:Option (List Int)),(8:Int)) else if (zn s.data.toList).all (zH r)=false then (0,none,9) else if (zn s.data.toList).all (zT D)=false then (0,none,10)
  else match zak r D (zn s.data.toList) (List.replicate r.stops.length 0) with
   | none=>(0,none,11)
   | some S=>(zb0 D (zn s.data.toList),some S,0)):=by show _=_;unfold zI;rw[ye hf]
 generalize zn s.data.toList=L at*;clear aR au hf az;have av:Hid (∀W v,Below w.heap.size w W->RtR W v L->Calls Tryz.prog 168 #[.pointer (some ⟨p,0,none⟩),v] W λe w'=>e=.returned (.bool (L.all (zH r)))/\Below W.heap.size W w'):=λW v hW hv=>by have hA:=HA.out.below hW;exact ziu p r L _ v W hA.lt ar.out hA.c1 hA.c5 hA.st hv (λl hl=>⟨(ah.out l hl).1,(ah.out l hl).2.1⟩)
 have aD:Hid (∀W v,Below w.heap.size w W->RtR W v L->Calls Tryz.prog 169 #[.pointer (some ⟨p,0,none⟩),v] W λe w'=>e=.returned (.bool (L.all (zT D)))/\Below W.heap.size W w'):=λW v hW hv=>by have hA:=HA.out.below hW;exact zfT p (r.stops.length+1) D L _ v W hA.lt hA.c7 hA.fr hv (λl hl=>⟨(ah.out l hl).1,by have:=(ah.out l hl).2.1;intro x hx;have:=this x hx;omega⟩)
 have aK:Hid (∀W v,Below w.heap.size w W->RtR W v L->Calls Tryz.prog 171 #[.pointer (some ⟨p,0,none⟩),v] W λe w'=>e=.returned (.int .i64 (zb0 D L))/\Below W.heap.size W w'):=λW v hW hv=>by have hA:=HA.out.below hW;exact zoY p (r.stops.length+1) D L _ v W hA.lt hA.c7 hA.fr HD.out hv (λl hl=>⟨(ah.out l hl).1,by have:=(ah.out l hl).2.1;intro x hx;have:=this x hx;omega⟩)
 have aJ:Hid (∀W W1 v,Below w.heap.size w W->RtR W v L->Below W.heap.size W W1->W1.ownsRow W.heap.size 3 1 (.slice (some ⟨W.heap.size,0,none⟩) r.stops.length r.stops.length) r.stops.length (zd (List.replicate r.stops.length 0))->Calls Tryz.prog 170 #[.pointer (some ⟨p,0,none⟩),v,.slice (some ⟨W.heap.size,0,none⟩) r.stops.length r.stops.length] W1 λe w'=>
  e=.returned (.bool (zak r D L (List.replicate r.stops.length 0)).isSome)/\Below W.heap.size W w'/\∃S,S.length=r.stops.length/\(∀S',zak r D L (List.replicate r.stops.length 0)=some S'->S=S')/\w'.ownsRow W.heap.size 3 1 (.slice (some ⟨W.heap.size,0,none⟩) r.stops.length r.stops.length) r.stops.length (zd S)):=λW W1 v hW hv aN ho=>by
  have hA:=HA.out.below hW;rw[<-aL.out];exact zhb p r D L _ _ _ v W W1 aN hA.lt ar.out hA.c2 hA.c5 hA.st hA.c7 hA.fr HD.out hv (λl hl=>⟨(ah.out l hl).1,(ah.out l hl).2.1⟩) (by simp) ho
 have aM:Hid (0<=r.vans/\r.vans<=10000):=by have:=ar.out.head;simp only[zaK,yA,za7,yq] at this;show _/\_;omega
 generalize L.all (zH r)=bl at*;generalize L.all (zT D)=bw at*;generalize zak r D L (List.replicate r.stops.length 0)=ts at*;generalize zb0 D L=cost at*;generalize zI r D s.data.toList=J at*;have hvn:=aM.out;by_cases hv:r.vans<(L.length:Int)
 ·rw[yg hv] at HJ;rw[HJ.out];go_in;go_wp2_with(first
   | (go_at_call 166;refine am.out.mono ?_;rintro e1 w1⟨rfl,ae⟩)
   | (go_at_call 167;refine(aq.out _).mono ?_;rintro e2 w2⟨v2,aC,rfl,ad,aj⟩;have ag:=hid (ad.read aa);have ab:=hid (ae.trans (aj.mono ae.size));obtain⟨al,cl,rfl,_⟩:=ad.read aa;have d0:=(HA.out.below ab.out).c0;have ak:=(HA.out.below ab.out).lt;clear ad)
   | go_in);go_ret3;exact⟨_,rfl,λ_=>rfl,λS e=>(by cases e),ab.out⟩
 rw[ye hv] at HJ;cases bl
 ·rw[yg rfl] at HJ;rw[HJ.out];go_in;go_wp2_with(first
   | (go_at_call 166;refine am.out.mono ?_;rintro e1 w1⟨rfl,ae⟩)
   | (go_at_call 167;refine(aq.out _).mono ?_;rintro e2 w2⟨v2,aC,rfl,ad,aj⟩;have ag:=hid (ad.read aa);have ab:=hid (ae.trans (aj.mono ae.size));obtain⟨al,cl,rfl,_⟩:=ad.read aa;have d0:=(HA.out.below ab.out).c0;have ak:=(HA.out.below ab.out).lt;clear ad)
   | (go_at_call 168;refine(av.out _ _ ab.out ag.out).mono ?_;rintro e3 w3⟨rfl,af⟩)
   | go_in);go_ret3;exact⟨_,rfl,λ_=>rfl,λS e=>(by cases e),ab.out.trans (af.mono ab.out.size)⟩
 rw[ye (by simp)] at HJ;cases bw
 ·rw[yg rfl] at HJ;rw[HJ.out];go_in;go_wp2_with(first
   | (go_at_call 166;refine am.out.mono ?_;rintro e1 w1⟨rfl,ae⟩)
   | (go_at_call 167;refine(aq.out _).mono ?_;rintro e2 w2⟨v2,aC,rfl,ad,aj⟩;have ag:=hid (ad.read aa);have ab:=hid (ae.trans (aj.mono ae.size));obtain⟨al,cl,rfl,_⟩:=ad.read aa;have d0:=(HA.out.below ab.out).c0;have ak:=(HA.out.below ab.out).lt;clear ad)
   | (go_at_call 168;refine(av.out _ _ ab.out ag.out).mono ?_;rintro e3 w3⟨rfl,af⟩)
   | (go_at_call 169;refine(aD.out _ _ (ab.out.trans (af.mono ab.out.size)) (ag.out.below af)).mono ?_;rintro e4 w4⟨rfl,ao⟩;have ac:=hid ((ab.out.trans (af.mono ab.out.size)).trans (ao.mono (yP ab.out.size af.size)));have ay:=hid ((ag.out.below af).below ao);have d5:=(HA.out.below ac.out).c5;have aB:=(HA.out.below ac.out).lt)
   | go_in);go_ret3;exact⟨_,rfl,λ_=>rfl,λS e=>(by cases e),ac.out⟩
 rw[ye (by simp)] at HJ;go_in;go_wp2_with(first
  | (go_at_call 166;refine am.out.mono ?_;rintro e1 w1⟨rfl,ae⟩)
  | (go_at_call 167;refine(aq.out _).mono ?_;rintro e2 w2⟨v2,aC,rfl,ad,aj⟩;have ag:=hid (ad.read aa);have ab:=hid (ae.trans (aj.mono ae.size));obtain⟨al,cl,rfl,_⟩:=ad.read aa;have d0:=(HA.out.below ab.out).c0;have ak:=(HA.out.below ab.out).lt;clear ad)
  | (go_at_call 168;refine(av.out _ _ ab.out ag.out).mono ?_;rintro e3 w3⟨rfl,af⟩)
  | (go_at_call 169;refine(aD.out _ _ (ab.out.trans (af.mono ab.out.size)) (ag.out.below af)).mono ?_;rintro e4 w4⟨rfl,ao⟩;have ac:=hid ((ab.out.trans (af.mono ab.out.size)).trans (ao.mono (yP ab.out.size af.size)));have ay:=hid ((ag.out.below af).below ao);have d5:=(HA.out.below ac.out).c5;have aB:=(HA.out.below ac.out).lt)
  | (at_make;refine wpList_make_full _ rfl _ _ 40 rfl w4.heap.size 3 i0 (.int .i64 0) 1 Tryz.underlying40 hi aT aU .i64 .i64 _ _ r.stops.length rfl rfl ?m1 ?m2 ?m3 ?m4 ?m5 ?_)
  | go_in)
 case m1=>rfl
 case m2=>rfl
 case m3=>rw[aV];omega
 case m4=>unfold maxLen;omega
 case m5=>exact yh _
 intro w5 ai ap;have aO:Below w4.heap.size w4 w5:=(yk _ _).grown ap (yh _) (by simp);have aQ:w5.ownsRow w4.heap.size 3 1 (.slice (some ⟨w4.heap.size,0,none⟩) r.stops.length r.stops.length) r.stops.length (zd (List.replicate r.stops.length 0)):=by
  have e:(madeCells #[Value.int IntKind.i64 0] r.stops.length).toList=zd (List.replicate r.stops.length 0):=by rw[yas];simp[zd]
  rw[<-e];exact ai
 have aE:=hid (aJ.out w4 w5 _ ac.out ay.out aO aQ);clear ai ap;cases ts with
 | none=>have ax:Hid (J=(0,none,11)):=HJ.out;go_wp2_with(go_at_call 170;refine aE.out.mono ?_;rintro e6 w6⟨rfl,an,S6,aI,aH,aG⟩);go_ret3;rw[ax.out];exact⟨_,rfl,λ_=>rfl,λS e=>(by cases e),ac.out.trans (an.mono ac.out.size)⟩
 | some S=>
  have ax:Hid (J=(cost,some S,0)):=HJ.out;go_wp2_with(first
   | (go_at_call 170;refine aE.out.mono ?_;rintro e6 w6⟨rfl,an,S6,aI,aH,aG⟩)
   | (go_at_call 171;refine(aK.out _ _ (ac.out.trans (an.mono ac.out.size)) (ay.out.below an)).mono ?_;rintro e7 w7⟨rfl,aF⟩));go_ret3;rw[ax.out];refine⟨_,rfl,λe=>(by cases e),λS' e=>?_,(ac.out.trans (an.mono ac.out.size)).trans (aF.mono (yP ac.out.size an.size))⟩;cases e;have:=aH S rfl;subst this;exact⟨zan (ze aG aF) ac.out.size,aI,by simp⟩
def zi(r:Rd)(vs vr vw:Value):Array Value:=#[.int .i64 r.vans,.int .i64 r.load,.int .i64 r.close,.int .i64 r.nodes,.int .i64 r.home,vs,vr,vw]
def zfp(w:World)(x:Rd×Nat×Int)(e:Ending)(w':World):Prop:=∃vs vr vw,e=.returned (.tuple #[.agg (zi x.1 vs vr vw),.int .i64 x.2.2])/\w'.ownsRow w.heap.size 62 5 vs x.1.stops.length (zd x.1.stops.flatten)/\w'.ownsRow w.heap.size 64 3 vr x.1.roads.length (zd x.1.roads.flatten)/\(x.2.2≠0->vw=.slice none 0 0)/\(x.2.2=0->∃us,us.length=x.1.stops.length+1/\zJ w' w.heap.size w'.heap.size vw (x.1.stops.length+1) (za x.1) us)/\Below w.heap.size w w'
theorem zoQ{l:List UInt8}(h:(zv l).2.2≠0):(zv l).1=Rd0:=by
 unfold zv at h⊢;split
 ·rfl
 rename_i h1;rw[ye h1] at h;split
 ·rename_i h2;rw[yg h2] at h;split
  ·rename_i h3;rw[yg h3] at h;exact absurd rfl h
  rfl
 rfl
def zgO:Array Value:=#[.int .i64 0,.int .i64 0,.int .i64 0,.int .i64 0,.int .i64 0,.slice none 0 0,.slice none 0 0,.slice none 0 0]
theorem zos{w:World}{b:Nat}{t:TypeId}(h:w.heap[b]?=some (.cells zgO t (0,0))):w.cell? ⟨b,0,none⟩=some (.int .i64 0)/\w.cell? ⟨b,1,none⟩=some (.int .i64 0)/\w.cell? ⟨b,2,none⟩=some (.int .i64 0)/\w.cell? ⟨b,3,none⟩=some (.int .i64 0)/\w.cell? ⟨b,4,none⟩=some (.int .i64 0)/\w.cell? ⟨b,5,none⟩=some (.slice none 0 0)/\w.cell? ⟨b,6,none⟩=some (.slice none 0 0)/\w.cell? ⟨b,7,none⟩=some (.slice none 0 0)/\∀o,w.frozen? ⟨b,o,none⟩=false:=by refine⟨?_,?_,?_,?_,?_,?_,?_,?_,λo=>yv w b o _ _ h⟩<;>(rw[yi w b _ _ _ _ h];rfl)
theorem zhv{w:World}{b:Nat}{cs:Array Value}{t:TypeId}(hb:w.heap[b]?=some (.cells cs t (0,0)))(u0 u1 u2 u3 u4 u5 u6 u7:Value):zZ [t] w ((((((((w.setCell ⟨b,0,none⟩ u0).setCell ⟨b,1,none⟩ u1).setCell ⟨b,2,none⟩ u2).setCell ⟨b,3,none⟩ u3).setCell ⟨b,4,none⟩ u4).setCell ⟨b,5,none⟩ u5).setCell ⟨b,6,none⟩ u6).setCell ⟨b,7,none⟩ u7):=by
 intro k cur t' z hk ht;have aa:k≠b:=λe=>by rw[e,hb] at hk;cases hk;simp at ht
 rw[yt _ _ _ _ aa,yt _ _ _ _ aa,yt _ _ _ _ aa,yt _ _ _ _ aa,yt _ _ _ _ aa,yt _ _ _ _ aa,yt _ _ _ _ aa,yt _ _ _ _ aa];exact hk
theorem zgE{B b:Nat}{w0 w:World}(h:Below B w0 w)(hB:B<=b)(u0 u1 u2 u3 u4 u5 u6 u7:Value):Below B w0 ((((((((w.setCell ⟨b,0,none⟩ u0).setCell ⟨b,1,none⟩ u1).setCell ⟨b,2,none⟩ u2).setCell ⟨b,3,none⟩ u3).setCell ⟨b,4,none⟩ u4).setCell ⟨b,5,none⟩ u5).setCell ⟨b,6,none⟩ u6).setCell ⟨b,7,none⟩ u7):=(((((((h.setCell hB u0).setCell hB u1).setCell hB u2).setCell hB u3).setCell hB u4).setCell hB u5).setCell hB u6).setCell hB u7
theorem zlk{w:World}{b:Nat}{cs:Array Value}{t:TypeId}(hb:w.heap[b]?=some (.cells cs t (0,0))){B n size:Nat}{e:TypeId}{v:Value}{xs:List Value}(h:w.ownsRow B e size v n xs)(he:e≠t){u0 u1 u2 u3 u4 u5 u6 u7:Value}:((((((((w.setCell ⟨b,0,none⟩ u0).setCell ⟨b,1,none⟩ u1).setCell ⟨b,2,none⟩ u2).setCell ⟨b,3,none⟩ u3).setCell ⟨b,4,none⟩ u4).setCell ⟨b,5,none⟩ u5).setCell ⟨b,6,none⟩ u6).setCell ⟨b,7,none⟩ u7).ownsRow B e size v n xs:=zcs h (zhv hb _ _ _ _ _ _ _ _) (by simpa using he)
theorem zrE{w:World}{b:Nat}{cs:Array Value}(hb:w.heap[b]?=some (.cells cs 109 (0,0))){B U n:Nat}{v:Value}{D:Nat->Nat->Int}{vs:List Value}(h:zJ w B U v n D vs){u0 u1 u2 u3 u4 u5 u6 u7:Value}:zJ ((((((((w.setCell ⟨b,0,none⟩ u0).setCell ⟨b,1,none⟩ u1).setCell ⟨b,2,none⟩ u2).setCell ⟨b,3,none⟩ u3).setCell ⟨b,4,none⟩ u4).setCell ⟨b,5,none⟩ u5).setCell ⟨b,6,none⟩ u6).setCell ⟨b,7,none⟩ u7) B ((((((((w.setCell ⟨b,0,none⟩ u0).setCell ⟨b,1,none⟩ u1).setCell ⟨b,2,none⟩ u2).setCell ⟨b,3,none⟩ u3).setCell ⟨b,4,none⟩ u4).setCell ⟨b,5,none⟩ u5).setCell ⟨b,6,none⟩ u6).setCell ⟨b,7,none⟩ u7).heap.size v n D vs:=by have hk:=zhv hb u0 u1 u2 u3 u4 u5 u6 u7;refine⟨zcs h.own hk (by decide),λi hi=>?_⟩;obtain⟨gi,ci,cur,k1,k2,k3,k4⟩:=h.row i hi;have k5:=hk _ _ _ _ k3 (by decide);exact⟨gi,ci,cur,k1,⟨k2.1,(yc.1 k5).1⟩,k5,k4⟩
theorem zmb(s:ByteArray)(w:World)(hs:s.size<=maxLen):Calls Tryz.prog 52 #[.string s] w (zfp w (zv s.data.toList)):=by
 have ai:Hid (∀W,Calls Tryz.prog 45 #[.string s] W (zfa W (zv s.data.toList))):=λW=>zpj s W hs;have ar:(zv s.data.toList).2.2=0->zE (zv s.data.toList).1:=zfq;have az:(zv s.data.toList).2.2≠0->(zv s.data.toList).1=Rd0:=zoQ;generalize zv s.data.toList=x at*;obtain⟨r,nat,er⟩:=x;by_cases h0:er=0
 ·subst h0;have al:=hid (ar rfl);have hns:=al.out.nstops;have hnr:=al.out.nroads;clear ar hs az;go_in;go_wp2_with fail;refine(ai.out _).mono ?_;rintro e1 w1⟨vs,vr,rfl,ag,af,ad⟩;unfold zap;obtain⟨ak,ac,au,_,_⟩:=zg ag;obtain⟨aj,ab,av,_,_⟩:=zg af;subst au av;have ae:w1.heap[w.heap.size]?=some (.cells zgO 109 (0,0)):=by rw[ad.block _ (by simp)];exact yx w _
  have ah:Hid (Below w.heap.size w w1):=(zj w _).trans (ad.mono (by simp));have an:=hid (zan ag (show w.heap.size<=_ by simp));have am:=hid (zan af (show w.heap.size<=_ by simp));have aA:=hid ae;have ay:w.heap.size<w1.heap.size:=(yc.1 ae).1;clear ag af ad ae ai;go_wp2_with fail;refine(zqY w.heap.size w.heap.size r (.slice ak r.stops.length ac) (.slice aj r.roads.length ab) _ al.out (an.out.alloc _) (am.out.alloc _)).mono ?_;rintro e2 w2⟨v2,us,rfl,aB,aq,ap⟩;have aa:Below w1.heap.size w1 w2:=(zj w1 _).trans (ap.mono (by simp));have aw:w2.heap[w1.heap.size]?=some (.cells #[.int .i64 r.vans,.int .i64 r.load,.int .i64 r.close,.int .i64 r.nodes,.int .i64 r.home,.slice ak r.stops.length ac,.slice aj r.roads.length ab] 28 (0,0)):=by rw[ap.block _ (by simp)];exact yx w1 _
  have ax:w2.heap[w.heap.size]?=_:=(aa.block _ ay).trans aA.out;obtain⟨q0,q1,q2,q3,q4,q5,q6,_⟩:=zcB aw;obtain⟨b0,b1,b2,b3,b4,b5,b6,b7,bf⟩:=zos ax;have hxl:w1.heap.size<w2.heap.size:=(yc.1 aw).1;have hzl2:w.heap.size<w2.heap.size:=by omega
  obtain⟨aI,aJ,aC,_,_⟩:=zg aq.own;rw[aB] at aC;subst aC;have aH:=hid (ze an.out aa);have aG:=hid (ze am.out aa);have aE:=hid (aq.base (show w.heap.size<=_ by simp;omega));have aD:Hid (Below w.heap.size w w2):=ah.out.trans (aa.mono ah.out.size);have ao:=hid ax;clear aq ap aa aw ax an am ah aA;go_wp2;refine yB (v:=.tuple #[.agg (zi r (.slice ak r.stops.length ac) (.slice aj r.roads.length ab) (.slice aI (r.stops.length+1) aJ)),.int .i64 0]) (by simp[results,Tryz.results52,go_sem,zi,b0,b1,b2,b3,b4,b5,b6,b7]) rfl ?_;refine⟨_,_,_,rfl,zlk ao.out aH.out (by decide),zlk ao.out aG.out (by decide),λh=>absurd rfl h,λ_=>⟨us,aB,?_⟩,zgE aD.out (yh _) _ _ _ _ _ _ _ _⟩;exact zrE ao.out aE.out
 have hne:(er != 0)=true:=by simp[h0]
 have aF:=hid h0;have aK:r=Rd0:=az h0;subst aK;clear ar hs h0 az;go_in;go_wp2_with fail;refine(ai.out _).mono ?_;rintro e1 w1⟨vs,vr,rfl,ag,af,ad⟩;have ae:w1.heap[w.heap.size]?=some (.cells zgO 109 (0,0)):=by rw[ad.block _ (by simp)];exact yx w _
 obtain⟨b0,b1,b2,b3,b4,b5,b6,b7,bf⟩:=zos ae;have ay:w.heap.size<w1.heap.size:=(yc.1 ae).1;have ah:Hid (Below w.heap.size w w1):=(zj w _).trans (ad.mono (by simp));unfold zap;obtain⟨ak,ac,au,_,_⟩:=zg ag;obtain⟨aj,ab,av,_,_⟩:=zg af;subst au av;clear ag af ad ae ai;go_wp2;refine yB (v:=.tuple #[.agg zgO,.int .i64 er]) (by simp[results,Tryz.results52,go_sem,zgO,b0,b1,b2,b3,b4,b5,b6,b7,ay]) rfl ?_;refine⟨.slice none 0 0,.slice none 0 0,.slice none 0 0,rfl,yC _ _ _ _,yC _ _ _ _,λ_=>rfl,λh=>absurd h aF.out,?_⟩;have h8:=zgE ah.out (yh _) (.int .i64 0) (.int .i64 0) (.int .i64 0) (.int .i64 0) (.int .i64 0) (.slice none 0 0) (.slice none 0 0) (.slice none 0 0);exact h8.alloc h8.size _
theorem za1{w W:World}{r:Rd}{vs vr vw:Value}(h:W=w.alloc (.cells (zi r vs vr vw) 109)):Below w.heap.size w W/\w.heap.size<W.heap.size/\W.cell? ⟨w.heap.size,0,none⟩=some (.int .i64 r.vans)/\W.cell? ⟨w.heap.size,1,none⟩=some (.int .i64 r.load)/\W.cell? ⟨w.heap.size,2,none⟩=some (.int .i64 r.close)/\W.cell? ⟨w.heap.size,3,none⟩=some (.int .i64 r.nodes)/\W.cell? ⟨w.heap.size,4,none⟩=some (.int .i64 r.home)/\W.cell? ⟨w.heap.size,5,none⟩=some vs/\W.cell? ⟨w.heap.size,6,none⟩=some vr/\W.cell? ⟨w.heap.size,7,none⟩=some vw:=by subst h;have hb:=yx w (.cells (zi r vs vr vw) 109);refine⟨zj w _,by simp,?_,?_,?_,?_,?_,?_,?_,?_⟩<;>(rw[yi _ _ _ _ _ _ hb];rfl)
theorem zbj.keep{T:List TypeId}{w w':World}{B:Nat}{v:Value}{n:Nat}{D:Nat->Nat->Int}(h:zbj w B v n D)(hk:zZ T w w')(h1:3∉T)(h2:40∉T):zbj w' B v n D:=by obtain⟨g,G,e1,e2,e3,e4⟩:=h;refine⟨g,G,e1,zcs e2 hk h2,λi hi=>?_,e4⟩;obtain⟨k1,ci,k2,k3⟩:=e3 i hi;exact⟨k1,ci,hk _ _ _ _ k2 h1,k3⟩
theorem StR.own{w:World}{B:Nat}{v:Value}{r:Rd}(h:w.ownsRow B 62 5 v r.stops.length (zd r.stops.flatten))(hs:∀s∈r.stops,s.length=5):StR w v r:=by
 obtain⟨ao,c,hv,h1,h2⟩:=zg h;refine⟨ao,c,hv,λi hi=>?_⟩;cases ao with
 | none=>exact absurd (h2 rfl) (by omega)
 | some a=>
  subst hv;obtain⟨g,rfl,_,hg⟩:=h1 a rfl;refine⟨g,rfl,hg,λj z hj hz=>?_⟩;have aa:i*5+j<r.stops.length*5:=by omega
  rw[h.cellAt (i*5+j) aa];exact zek hs hi hj hz
theorem zfr(w:World)(o o':Obj):((w.alloc o).alloc o').heap[w.heap.size]?=some o:=by have h:=(zj (w.alloc o) o').block w.heap.size (by simp);rw[h];exact yx w o
theorem zwt(B B':Nat)(r:Rd)(vs vr:Value)(w:World)(hn:zE r)(hs:w.ownsRow B 62 5 vs r.stops.length (zd r.stops.flatten))(hr:w.ownsRow B' 64 3 vr r.roads.length (zd r.roads.flatten)):Calls Tryz.prog 39 #[zap r vs vr] w λe w'=>∃v,e=.returned (.agg (zi r vs vr v))/\zbj w' w.heap.size v (r.stops.length+1) (za r)/\Below w.heap.size w w':=by have ah:Hid (∀W,Below w.heap.size w W->Calls Tryz.prog 38 #[zap r vs vr] W λe w'=>∃v,e=.returned v/\zbj w' W.heap.size v (r.stops.length+1) (za r)/\Below W.heap.size W w'):=λW hW=>ziD B B' r vs vr W hn (ze hs hW) (ze hr hW);have hns:=hn.nstops;have hnr:=hn.nroads;obtain⟨ad,ab,rfl,_,_⟩:=zg hs;obtain⟨ac,aa,rfl,_,_⟩:=zg hr;clear hs hr hn;unfold zap at*;go_in;go_wp2_with fail;refine(ah.out _ (zaa w _ _)).mono ?_;rintro e1 w1⟨v1,rfl,ai,ae⟩;have ak:Hid (Below w.heap.size w w1):=(zaa w _ _).trans (ae.mono (by simp;omega));have ag:w1.heap[w.heap.size]?=some (.cells #[.int .i64 r.vans,.int .i64 r.load,.int .i64 r.close,.int .i64 r.nodes,.int .i64 r.home,.slice ad r.stops.length ab,.slice ac r.roads.length aa] 28 (0,0)):=(ae.block _ (by simp;omega)).trans (zfr w _ _);have af:w1.heap[w.heap.size+1]?=some (.cells zgO 82 (0,0)):=(ae.block _ (by simp)).trans (by have h:=yx (w.alloc (.cells #[.int .i64 r.vans,.int .i64 r.load,.int .i64 r.close,.int .i64 r.nodes,.int .i64 r.home,.slice ad r.stops.length ab,.slice ac r.roads.length aa] 28)) (.cells zgO 82);rw[show (w.alloc (.cells #[.int .i64 r.vans,.int .i64 r.load,.int .i64 r.close,.int .i64 r.nodes,.int .i64 r.home,.slice ad r.stops.length ab,.slice ac r.roads.length aa] 28)).heap.size=w.heap.size+1 by simp] at h;exact h);obtain⟨q0,q1,q2,q3,q4,q5,q6,_⟩:=zcB ag;obtain⟨b0,b1,b2,b3,b4,b5,b6,b7,bf⟩:=zos af;have hxl:w.heap.size<w1.heap.size:=(yc.1 ag).1;have hzl2:w.heap.size+1<w1.heap.size:=(yc.1 af).1;have aj:Hid (zbj w1 w.heap.size v1 (r.stops.length+1) (za r)):=ai.base (show w.heap.size<=_ by simp;omega);obtain⟨am,_,rfl,_⟩:=ai;have al:=hid af;clear ae ag af ah;go_wp2;refine yB (v:=.agg (zi r (.slice ad r.stops.length ab) (.slice ac r.roads.length aa) (.slice (some ⟨am,0,none⟩) (r.stops.length+1) (r.stops.length+1)))) (by simp[results,Tryz.results39,go_sem,zi,b0,b1,b2,b3,b4,b5,b6,b7]) rfl ?_;exact⟨_,rfl,aj.out.keep (zhv al.out _ _ _ _ _ _ _ _) (by decide) (by decide),zgE ak.out (by omega) _ _ _ _ _ _ _ _⟩
theorem zaB{r:Rd}(h:zE r):∀a b,a<r.stops.length+1->b<r.stops.length+1->-1<=za r a b/\za r a b<=40960000:=by
 intro a b ha hb;have hhd:=zaH.1 h.head;obtain⟨N,hN⟩:∃N:Nat,r.nodes=N:=⟨r.nodes.toNat,by omega⟩
 have:=(zc7 (znT h hN) (by omega) (yh _)).2 _ _ (zeP h hN ha) (zeP h hN hb);unfold za zfi;rw[show r.nodes.toNat=N by omega];exact this
end Go.Proofs.YtebinaopncclgabGreatDoor
