import Derived.Test.YtebinaopncclgabGreatDoorSNext
import Derived.Test.YtebinaopncclgabGreatDoorGBox
set_option maxRecDepth 100000
set_option maxHeartbeats 8000000
namespace Go.Proofs.YtebinaopncclgabGreatDoor
open Go.RowKit Go.IntWalk
def zlz(w0:World)(p:Nat)(r:Rd)(b:Nat)(vs vf vf2:Value)(e:Ending)(w':World):Prop:=e=.returned (.bool (zk (zb r (za r)) b).2)/\∃vl,zaP w0 w' p r vl (zk (zb r (za r)) b).1.fc (zk (zb r (za r)) b).1.P vs vf vf2/\zal w' (p+1) vl (zk (zb r (za r)) b).1.L/\zbJ (zb r (za r)) b
structure zjB (w0 w:World) (p:Nat) (r:Rd) (k:Nat) (vl vs vf vf2:Value):Prop where
 at_:zaP w0 w p r vl (zk (zb r (za r)) k).1.fc (zk (zb r (za r)) k).1.P vs vf vf2
 list:zal w (p+1) vl (zk (zb r (za r)) k).1.L
 good:zbJ (zb r (za r)) k
 open_:(zk (zb r (za r)) k).2=false
noncomputable def zdP(w:World)(p:Nat):Nat:=match w.cell? ⟨p,75,none⟩ with|some (.slice _ n _)=>n|_=>0
theorem zdk{r:Rd}(aa:zE r):1<=(zb r (za r)).vans/\(zb r (za r)).vans<=3:=by have hhd:=zaH.1 aa.head;show 1<=r.vans.toNat/\r.vans.toNat<=3;omega
theorem zh6{r:Rd}(aa:zE r):zbu (zb r (za r)):=zeS aa (λa b h1 h2=>(zaB aa a b h1 h2).1)
theorem zbJ.succ{I:Ins}{k:Nat}(h:zbJ I k)(hg:ze4 I (zk I k).1.P):zbJ I (k+1):=λj hj ho=>by
 by_cases e:j=k
 ·rw[e];exact hg
 exact h j (by omega) ho
theorem zbJ.stay{I:Ins}{k b:Nat}(h:zbJ I k)(hd:(zk I k).2=true):zbJ I b:=λj _ ho=>by
 by_cases e:j<k
 ·exact h j e ho
 rw[ziP hd j (by omega),hd] at ho;cases ho
theorem zl1{w:World}{B n b:Nat}{va:Value}{xs:List Value}{cs:Array Value}(g2:w.ownsRow B 218 2 va n xs)(hb:w.heap[b]?=some (.cells cs 76 (0,0))):va.ownBlock≠some b:=λh=>by
 rcases g2.2 with ⟨q1,_⟩|⟨gq,cap,cur,q1,_,q3,_⟩
 ·rw[q1] at h;cases h
 rw[q1] at h;cases h;rw[hb] at q3;cases q3
theorem zal.aside{w:World}{B q o:Nat}{v y:Value}{L:List zu}(h:zal w B v L)(hq:q<B):zal (w.setCell ⟨q,o,none⟩ y) B v L:=by obtain⟨us,h1,h2,h3⟩:=h;exact⟨us,h1,zaQ h2 hq,λi hi=>zaQ (h3 i hi) hq⟩
theorem zsv{w0 w1 W2 X w5:World}{p:Nat}{r:Rd}{vl v5 vs vf vf2 lx:Value}{fc:Option zP}{P:zo}{L:List zu}{us:List Value}{nd:zu}(ad:zaP w0 W2 p r vl fc P vs vf vf2)(ab:Below w1.heap.size w1 W2)(hn:W2.heap[w1.heap.size]?=some (.cells #[.int .i64 nd.1,lx] 76 (0,0)))(hX:Below W2.heap.size W2 X)(h1:us.length=L.length)(h2:w1.ownsRow (p+1) 76 2 vl L.length (zb3 L us))(h3:∀i (h:i<L.length),w1.ownsRow (p+1) 3 1 (us.getD i (.slice none 0 0)) L[i].2.length (zd L[i].2))(hl:w1.ownsRow (p+1) 3 1 lx nd.2.length (zd nd.2))(hp:p<w1.heap.size)(hg:X.grownBy w5 vl.ownBlock)(ho:w5.ownsRow (p+1) 76 2 v5 (L.length+1) (zb3 L us++[.int .i64 nd.1,lx])):zaP w0 (w5.setCell ⟨p,75,none⟩ v5) p r v5 fc P vs vf vf2/\zal (w5.setCell ⟨p,75,none⟩ v5) (p+1) v5 (L++[nd])/\(w5.setCell ⟨p,75,none⟩ v5).heap[w1.heap.size]?=some (.cells #[.int .i64 nd.1,lx] 76 (0,0))/\(w5.setCell ⟨p,75,none⟩ v5).ownsRow (p+1) 3 1 lx nd.2.length (zd nd.2):=by have aa:=ze h2 ab;have ac:=ze hl ab;have hz:w1.heap.size<W2.heap.size:=(yc.1 hn).1;have hk:zZ [76] X w5:=zZ.grown (ze aa hX) (by simp) hg;refine⟨znv (zoi ad hX aa hg) v5,(zal.push (nd:=nd) h1 aa (λi hi=>ze (h3 i hi) ab) ac hX hg ho).aside (by omega),?_,zaQ (zcs (ze ac hX) hk (by decide)) (by omega)⟩;rw[yt _ _ _ _ (by show w1.heap.size≠p;omega),hg.block _ (ya hz hX.size) (λhe=>by have:=(h2.lt _ he.symm).2;omega),hX.block _ hz];exact hn
theorem zsG{w0 w7:World}{p b k:Nat}{r:Rd}{s:SSt}{v5 vs vf vf2:Value}(h1:zk (zb r (za r)) b=zk (zb r (za r)) (k+1))(h2:zbJ (zb r (za r)) b)(h3:zk (zb r (za r)) (k+1)=(s,true))(h4:zaP w0 w7 p r v5 s.fc s.P vs vf vf2)(h5:zal w7 (p+1) v5 s.L):zlz w0 p r b vs vf vf2 (.returned (.bool true)) w7:=⟨by rw[h1,h3],v5,by rw[h1,h3];exact h4,by rw[h1,h3];exact h5,h2⟩
theorem zt1(w0 w:World)(p B b:Nat)(r:Rd)(vl vs vf:Value)(af:Option Addr)(cf:Nat)(an:zE r)(hT:zdX B w0)(hB:B<=p)(hb:b<=144115188075855872)(hw:zjB w0 w p r 0 vl vs vf (.slice af (r.stops.length+1:Nat) cf))(hs:StR w0 vs r)(hq:SqR w0 vf (r.stops.length+1) (za r))(bA:SqR w0 (.slice af (r.stops.length+1:Nat) cf) (r.stops.length+1) (za r)):Calls Tryz.prog 41 #[.pointer (some ⟨p,0,none⟩),.int .i64 b] w (zlz w0 p r b vs vf (.slice af (r.stops.length+1:Nat) cf)):=by
 obtain⟨i0,hi,bC,bD,bE⟩:=info_parts Tryz.infoNode;have aV:=an.nstops;have HV:=hid (zdk an);have HI:=hid (zh6 an);have HW:=hid hw;have bs:∀W,Below p w0 W->zdX B W:=λW hW=>hT.on hW hB;clear hw;go_in;go_wp2_with fail;go_loopw[] (λwr=>∃(k:Nat)(vl:Value),k<=b/\Hid (zjB w0 wr p r k vl vs vf (.slice af (r.stops.length+1:Nat) cf))) (λwr=>b-zdP wr p)
 ·exact⟨0,vl,yu _,HW⟩
 obtain⟨k,vl,hk,HG⟩:=hrel;obtain⟨ai,aj⟩:=(zgo HI.out aV HV.out.1 HV.out.2 k HG.out.good).1 HG.out.open_;have hk9:k<=90000000000:=by have h1:=ai.pot;have h2:=zgu;omega
 have bg:=hid ai;obtain⟨us,u1,u2,u3⟩:=HG.out.list;obtain⟨al,cl,rfl,_,_⟩:=zg u2;have aP:=zd2 HG.out.at_;rw[aj] at aP;have hpl:=HG.out.at_.arcs.lt;have f75:=HG.out.at_.arcs.frozen 75;by_cases bv:k<b
 ·have aC:=hid (ztH w0 wr p B r _ _ _ vs vf af cf an (bs wr HG.out.at_.below) hB HG.out.at_ hs hq bA);have aM:=hid (λhg=>zn8 HI.out aV HV.out.1 HV.out.2 ai.path hg (zk (zb r (za r)) k).1.fc);have aI:=hid (zlE HG.out.open_);have a4:Hid ((zaU (zb r (za r)) (zk (zb r (za r)) k).1.P (zk (zb r (za r)) k).1.fc).1.1=1->zk (zb r (za r)) (k+1)=(⟨(zk (zb r (za r)) k).1.L++[(zaU (zb r (za r)) (zk (zb r (za r)) k).1.P (zk (zb r (za r)) k).1.fc).1],((((zaU (zb r (za r)) (zk (zb r (za r)) k).1.P (zk (zb r (za r)) k).1.fc).1.2.getD 0 0).toNat,((zaU (zb r (za r)) (zk (zb r (za r)) k).1.P (zk (zb r (za r)) k).1.fc).1.2.getD 1 0).toNat),true)::(zk (zb r (za r)) k).1.P,(zaU (zb r (za r)) (zk (zb r (za r)) k).1.P (zk (zb r (za r)) k).1.fc).2⟩,false)):=λh=>by rw[aI.out];unfold zdQ;rw[yg h]
  have a5:Hid ((zaU (zb r (za r)) (zk (zb r (za r)) k).1.P (zk (zb r (za r)) k).1.fc).1.1≠1->zk (zb r (za r)) (k+1)=(⟨(zk (zb r (za r)) k).1.L++[(zaU (zb r (za r)) (zk (zb r (za r)) k).1.P (zk (zb r (za r)) k).1.fc).1],zad (zk (zb r (za r)) k).1.P,(zaU (zb r (za r)) (zk (zb r (za r)) k).1.P (zk (zb r (za r)) k).1.fc).2⟩,(zad (zk (zb r (za r)) k).1.P).isEmpty)):=λh=>by rw[aI.out];unfold zdQ;rw[ye h]
  have a2:=hid HG.out.list;have a6:=hid HG.out.at_;have bf:=hid HG.out.good;have hpd:=zdM aV ai.path;have bl:=hid ai.path;unfold ziS at aC;clear u1 u2 u3 ai bg aI HG;generalize zaU (zb r (za r)) (zk (zb r (za r)) k).1.P (zk (zb r (za r)) k).1.fc=X at*;obtain⟨⟨kd,zs⟩,fc'⟩:=X;dsimp only at aC aM a4 a5;go_wp2_with fail;refine aC.out.mono ?_;rintro e1 w1⟨x,rfl,aW,aA,aT,aS⟩;have bi:=hid (aM.out aS);have ad:=hid (bf.out.succ aS);have bh:=hid (a2.out.kept (by omega) a6.out (zeL.of_kept aT));have aN:=hid aA;have hz1w:wr.heap.size<=w1.heap.size:=aT.1;have bj:Hid (w1.ownsRow (p+1) 3 1 x zs.length (zd zs)):=zan aW (by omega);obtain⟨ax,cx,rfl,_,_⟩:=zg aW;have aQ:=zd2 aA;rw[aj] at aQ;have a9:=aA.arcs.lt;have br:=aA.arcs.frozen 75;obtain⟨us,u1,u2,u3⟩:=bh.out;rw[aj] at u1 u2;have bm:=hid u1;have a7:=hid u2;have bn:=hid u3;clear aW aA aT aS aC aM a2 a6 u1 u2 u3;obtain⟨W2,au⟩:∃W2,W2=w1.alloc (.cells #[.int .i64 kd,.slice ax zs.length cx] 76):=⟨_,rfl⟩
  have av:Below w1.heap.size w1 W2:=by rw[au];exact zj w1 _
  have hz2w:W2.heap.size=w1.heap.size+1:=by rw[au];simp
  have aE:W2.heap[w1.heap.size]?=some (.cells #[.int .i64 kd,.slice ax zs.length cx] 76 (0,0)):=by rw[au];exact yx w1 _
  have bb:=hid aE;have n0:W2.cell? ⟨w1.heap.size,0,none⟩=_:=yi W2 _ 0 _ _ _ aE;have n1:W2.cell? ⟨w1.heap.size,1,none⟩=_:=yi W2 _ 1 _ _ _ aE;have ba:=hid av;have ae:=hid (aN.out.mv av);have ar:=hid (ze a7.out av);have bq:=zc av aQ a9;have bx:p<W2.heap.size:=by omega
  have bz:p+1<W2.heap.size:=by omega
  obtain⟨cs,ty,aw⟩:=ae.out.arcs.box;have ap:=hid aw;have fz2:=ae.out.arcs.frozen 75;have aO:=hid au;clear av aE au aw aQ br;go_wp2_with fail;rw[<-aO.out];go_region_law (refine zds rfl (.tmp 19) (.tmp 21) 56 rfl (p+1) 76 i0 (.agg #[.int .i64 0,.slice none 0 0]) 2 32 Tryz.underlying56 hi bC bD bE rfl (by decide) (.slice al k cl) k (zb3 (zk (zb r (za r)) k).1.L us) (by simp[Act.eval]) (by exact zhW rfl ar.out rfl) ⟨W2.heap.size,0,none⟩ 1 1 [.int .i64 kd,.slice ax zs.length cx] (by simp[Act.eval]) rfl (by exact za0 rfl rfl) (by intro u hu;simp at hu;rcases hu with rfl|rfl<;>rfl) (by unfold maxLen;omega) (by omega) (by exact zjs rfl (yh (p+1)) bz) ?_;intro v5 w5 ac ah;have bk:=hid ac;have bd:=hid ah;have a3:Hid (w5.heap[p]?=W2.heap[p]?):=zsW (w:=W2) (by exact rfl) bx ar.out ah;obtain⟨g5,ab,cur5,bB,_,_,_⟩:=zF ac (by omega);clear ac ah;subst bB;have c5:w5.cell? ⟨p,75,none⟩=some (.slice al k cl):=(zlG (k:=75) ap.out a3.out).trans bq;have f5:w5.frozen? ⟨p,75,none⟩=false:=yv w5 p 75 _ _ (a3.out.trans ap.out))
  all_goals
   obtain⟨w6,aY⟩:∃w6,w6=w5.setCell ⟨p,75,none⟩ (.slice (some ⟨g5,0,none⟩) (k+1) ab):=⟨_,rfl⟩
   obtain⟨aF,aU,am,aZ⟩:=zsv (nd:=(kd,zs)) ae.out ba.out bb.out (zj W2 _).drew (by rw[aj];exact bm.out) (by rw[aj];exact a7.out) bn.out bj.out a9 (by rw[aj];exact bd.out) (by rw[aj];exact bk.out);rw[<-aY] at aF aU am aZ;have aD:=hid aF;have aL:=hid aU;have bo:=hid aZ;have y0:w6.cell? ⟨w1.heap.size,0,none⟩=_:=yi w6 _ 0 _ _ _ am;have y1:w6.cell? ⟨w1.heap.size,1,none⟩=_:=yi w6 _ 1 _ _ _ am;have ly:w1.heap.size<w6.heap.size:=(yc.1 am).1;have lp6:=aF.arcs.lt;have aG:=hid am;have ag:=hid aY;clear aF aU am aZ aY;by_cases az:kd=1
   ·subst az;obtain⟨a,b',bF,ha,aR,bt,h0,_⟩:=bi.out.arc rfl;have a0:zs=[(a:Int),(b':Int)]:=bF;subst a0;have aa:=hid (a4.out rfl);have a1:Hid (∀W,Below w6.heap.size w6 W->Calls Tryz.prog 89 #[.pointer (some ⟨p,8,none⟩),.slice ax 2 cx] W λe w'=>e=.returned (.bool true)/\w'.cell? ⟨w1.heap.size,1,none⟩=some (.slice ax 2 cx)/\Hid (zaP w0 w' p r (.slice (some ⟨g5,0,none⟩) (k+1) ab) fc' (((a,b'),true)::(zk (zb r (za r)) k).1.P) vs vf (.slice af (r.stops.length+1:Nat) cf))/\Hid (zal w' (p+1) (.slice (some ⟨g5,0,none⟩) (k+1) ab) ((zk (zb r (za r)) k).1.L++[(1,[(a:Int),(b':Int)])]))):=λW hW=>by have aX:=aD.out.mv hW;refine(zrc w0 W p r _ _ _ vs vf af cf a b' an (zaR.own (ze bo.out hW)) aX (by omega) ha aR bt h0).mono ?_;rintro e w'⟨h1,h2,h3⟩;obtain⟨va,g1,g2⟩:=aX.above;have a8:=(hW.block _ ly).trans aG.out;have bw:va.ownBlock≠some w1.heap.size:=zl1 g2 a8;have aR:w'.heap[w1.heap.size]?=_:=(h3.2 va g1 w1.heap.size (ya ly hW.size) (by omega) bw).trans a8;exact⟨h1,yi w' _ 1 _ _ _ aR,h2,(aL.out.below hW).kept (by omega) aX h3⟩
    have bp:Hid (w6.cell? ⟨w1.heap.size,1,none⟩=some (.slice ax 2 cx)):=y1;rw[<-ag.out];go_wp2_with fail;go_region_held3 (λw'=>w'.cell? ⟨w1.heap.size,1,none⟩=some (.slice ax 2 cx)) (go_keep) (first|(go_at_call 89;refine(a1.out _ (by first|exact yk _ _|exact(yk _ _).drew)).mono ?_;rintro e7 w7⟨rfl,x1,aq,aB⟩));have aH:Hid (zjB w0 w7 p r (k+1) (.slice (some ⟨g5,0,none⟩) (k+1) ab) vs vf (.slice af (r.stops.length+1:Nat) cf)):=⟨by rw[aa.out];exact aq.out,by rw[aa.out];exact aB.out,ad.out,by rw[aa.out]⟩
    have aJ:Hid (zdP w7 p=k+1):=by show _=_;unfold zdP;rw[zd2 aq.out]
    have aK:Hid (zdP wr p=k):=by show _=_;unfold zdP;rw[aP]
    clear a1 aq aB x1 bp;go_wp2;refine⟨⟨k+1,_,by omega,aH⟩,?_⟩;show b-zdP w7 p<b-zdP wr p;rw[aJ.out,aK.out];omega
   ·have e1:(kd==1)=false:=by simpa using az
    have aa:=hid (a5.out az);have ak:=hid (zrM w0 w6 p r _ (zk (zb r (za r)) k).1.P vs vf af cf an bl.out (by omega) aD.out);cases hle:(zad (zk (zb r (za r)) k).1.P).isEmpty with
    | true=>rw[hle] at ak aa;have bc:Hid (zk (zb r (za r)) b=zk (zb r (za r)) (k+1)):=ziP (by rw[aa.out]) b (by omega);have be:Hid (zbJ (zb r (za r)) b):=ad.out.stay (by rw[aa.out]);clear hle az;rw[<-ag.out];go_wp2_with fail;refine ak.out.mono ?_;rintro e7 w7⟨rfl,ao,ay⟩;have aq:=hid ao;have aB:=hid (aL.out.kept (by omega) aD.out (zeL.of_kept ay));clear ao ay ak;go_wp2_with fail;go_ret;exact zsG bc.out be.out aa.out aq.out aB.out
    | false=>
     rw[hle] at ak aa;clear hle az;rw[<-ag.out];go_wp2_with fail;refine ak.out.mono ?_;rintro e7 w7⟨rfl,ao,ay⟩;have aH:Hid (zjB w0 w7 p r (k+1) (.slice (some ⟨g5,0,none⟩) (k+1) ab) vs vf (.slice af (r.stops.length+1:Nat) cf)):=⟨by rw[aa.out];exact ao,by rw[aa.out];exact aL.out.kept (by omega) aD.out (zeL.of_kept ay),ad.out,by rw[aa.out]⟩
     have aJ:Hid (zdP w7 p=k+1):=by show _=_;unfold zdP;rw[zd2 ao]
     have aK:Hid (zdP wr p=k):=by show _=_;unfold zdP;rw[aP]
     clear ao ay ak;go_wp2_with fail;refine⟨⟨k+1,_,by omega,aH⟩,?_⟩;show b-zdP w7 p<b-zdP wr p;rw[aJ.out,aK.out];omega
 have bu:k=b:=by omega
 subst bu;clear u1 u2 u3 ai bv;go_wp2_with fail;go_ret;exact⟨by rw[HG.out.open_];rfl,_,HG.out.at_,HG.out.list,HG.out.good⟩
theorem zer{r:Rd}(aa:zE r){D:Nat->Nat->Int}{R:zP}(hp:zO (zb r D) R):∃S,zI r D (zah R)=(zR (zb r D) R,some S,0):=by have hn:=aa.nstops;have h2:∀ρ∈R,∀s∈ρ,1<=s/\s<=r.stops.length:=λρ hρ s hs=>hp.stops s (y8.2 ⟨ρ,hρ,hs⟩);have h1:=ziA (R:=R) hp.ne (λρ hρ s hs=>by have:=h2 ρ hρ s hs;omega);have h3:=znY (n:=r.stops.length) (by omega) hp.ne h2;obtain⟨c,S,e⟩:=(zhi (D:=D) aa).2 ⟨h3,by rw[h1];exact hp⟩;have hc:=zgN e;rw[h1] at hc;exact⟨S,by rw[e,hc]⟩
theorem zrv{R:zP}(h:∀ρ∈R,∀s∈ρ,s<=9):∀c∈zah R,c.toNat<=57:=by
 have hd:∀ρ∈R,∀c∈zbB ρ,c.toNat<=57:=λρ hρ c hc=>by obtain⟨s,hs,rfl⟩:=yo.1 hc;rw[zhP (h ρ hρ s hs)];have:=h ρ hρ s hs;omega
 cases R with
 | nil=>intro c hc;cases hc
 | cons ρ R=>
  intro c hc;rcases yH.1 hc with e|e
  ·exact hd ρ (by simp) c e
  obtain⟨l,hl,aa⟩:=y8.1 e;obtain⟨σ,hσ,rfl⟩:=yo.1 hl;rcases yG.1 aa with e2|e2
  ·rw[e2];decide
  exact hd σ (by simp[hσ]) c e2
theorem zgR{R:zP}(h:∀ρ∈R,∀s∈ρ,s<=9):zah R≠zcj:=λe=>by have:=zrv h 110 (by rw[e];simp[zcj]);have h2:(110:UInt8).toNat=110:=rfl;omega
theorem zhr{r:Rd}(aa:zE r){D:Nat->Nat->Int}{R:zP}(hp:zO (zb r D) R):∀ρ∈R,∀s∈ρ,s<=9:=λρ hρ s hs=>by have hn:=aa.nstops;have:=hp.stops s (y8.2 ⟨ρ,hρ,hs⟩);have h2:s<=r.stops.length:=this.2;omega
theorem zsP{r:Rd}(ab:zE r){s:SSt}(h:ztJ (zb r (za r)) s):zbz r (zcg s.fc) (zaD s.L)=(0,0):=by
 have hr:=zoK h.tree;have aa:∀cl,zi8 (zb r (za r)) s.fc cl->zb2 r (zcg s.fc)=(cl,0)->zbz r (zcg s.fc) (zaD s.L)=(0,0):=λcl hc he=>by unfold zbz;rw[he,hr];rw[ye (by simp),ye (by simp),yg ((zgh _ _ _ _ _).2 ⟨_,h.walk cl hc⟩)]
 cases hf:s.fc with
 | none=>rw[hf] at aa;exact aa none (λR hR=>by cases hR) (by unfold zb2 zcg zcj;rw[yg rfl])
 | some R=>rw[hf] at aa;have hp:=h.plan R hf;obtain⟨S,hj⟩:=zer ab hp;refine aa (some (zR (zb r (za r)) R)) (λR' hR=>by cases hR;exact⟨_,rfl,yaB _⟩) ?_;show zb2 r (zah R)=_;unfold zb2;rw[ye (zgR (zhr ab hp)),hj,ye (by simp)]
theorem zul:∀{L:List zu},(∀nd∈L,zac nd=true)->(zaD L).length<=230*L.length/\(zaD L).count 10=L.length:=by
 intro L;induction L with
 | nil=>intro _;exact⟨by simp[zaD],by simp[zaD]⟩
 | cons nd L ih=>
  intro h;obtain⟨h1,h2⟩:=ih λx hx=>h x (by simp[hx]);have h3:=zi2 (h nd (by simp));have e:zaD (nd::L)=zdu nd++zaD L:=by simp[zaD]
  refine⟨by rw[e,yz,yJ];omega,?_⟩;rw[e,yaI,h2,yJ];have h4:(zdu nd).count 10=1:=by unfold zdu;rw[yaI,ya1.2 (zhI (h nd (by simp)))];rfl
  omega
noncomputable def zdZ(I:Ins)(b:Nat):Int:=if (zk I b).2=true then (if (zk I b).1.fc.isSome=true then 1 else 2) else 3
noncomputable def zbT(I:Ins)(b:Nat):List UInt8:=if (zk I b).2=true then zaD (zk I b).1.L else []
noncomputable def zdo(I:Ins)(b:Nat):List UInt8:=zcg (zk I b).1.fc
noncomputable def zeD(I:Ins)(b:Nat):Int:=zd9 I (zk I b).1.fc
def zh0:Array Value:=#[.int .i64 0,.int .i64 0,.int .i64 0,.int .i64 0,.int .i64 0,.slice none 0 0,.slice none 0 0,.slice none 0 0]++zbl 0 (.slice none 0 0)++#[.slice none 0 0,.bool false,.string ⟨#[]⟩,.int .i64 0]
theorem zm4(W:World):(zeroValue 94).run Tryz.prog W=.ok (.agg zh0) W:=by kernel_rfl
theorem zmk:zh0.size=79:=by kernel_rfl
def zoI:Value:=.string ⟨#[110,111,110,101]⟩
def zfu(r:Rd)(vs vr vf v2:Value):Array Value:=zi r vs vr vf++zbl r.vans v2++#[.slice none 0 0,.bool false,zoI,.int .i64 0]
def zgq(r:Rd)(vs vr vf v2:Value):Array Value:=zi r vs vr vf++zbl r.vans v2++#[.slice none 0 0,.bool false,.string ⟨#[]⟩,.int .i64 0]
theorem zll(r:Rd)(vs vr vf v2:Value):(zgq r vs vr vf v2).size=79:=by unfold zgq;rw[yaN,yaN,ze2];rfl
theorem znx(a0 a1 a2 a3 a4 x:Int)(v5 v6 v7 v2:Value):Array.foldl (λ(cs:Array Value)(x:Value×Nat)=>cs.setIfInBounds (8+x.snd) x.fst) ((((((((zh0.setIfInBounds 0 (.int .i64 a0)).setIfInBounds 1 (.int .i64 a1)).setIfInBounds 2 (.int .i64 a2)).setIfInBounds 3 (.int .i64 a3)).setIfInBounds 4 (.int .i64 a4)).setIfInBounds 5 v5).setIfInBounds 6 v6).setIfInBounds 7 v7) (zbl x v2).zipIdx 0 67=#[.int .i64 a0,.int .i64 a1,.int .i64 a2,.int .i64 a3,.int .i64 a4,v5,v6,v7]++zbl x v2++#[.slice none 0 0,.bool false,.string ⟨#[]⟩,.int .i64 0]:=by kernel_rfl
theorem zoU(r:Rd)(vs vr vf v2:Value):(zgq r vs vr vf v2).setIfInBounds 77 zoI=zfu r vs vr vf v2:=by kernel_rfl
theorem zo3(w0:World)(r:Rd)(vs vr vf v2:Value)(t:TypeId):zaP w0 (w0.alloc (.cells (zfu r vs vr vf v2) t)) w0.heap.size r (.slice none 0 0) none [] vs vf v2:=by
 have hb:=yx w0 (.cells (zfu r vs vr vf v2) t);refine⟨rfl,zj w0 _,?_,?_,?_,?_,?_,⟨⟨_,_,hb⟩,?_,?_,λa b ha hb'=>?_⟩,⟨.slice none 0 0,?_,yC _ _ _ _⟩,λk u hk1 aa=>?_⟩
 ·rw[yi _ _ _ _ _ _ hb];kernel_rfl
 ·rw[yi _ _ _ _ _ _ hb];kernel_rfl
 ·rw[yi _ _ _ _ _ _ hb];kernel_rfl
 ·rw[yi _ _ _ _ _ _ hb];kernel_rfl
 ·rw[yi _ _ _ _ _ _ hb];kernel_rfl
 ·rw[yi _ _ _ _ _ _ hb];kernel_rfl
 ·rw[yi _ _ _ _ _ _ hb];kernel_rfl
 ·rw[yi _ _ _ _ _ _ hb];have e1:zfu r vs vr vf v2=(zi r vs vr vf++#[.int .i64 r.vans,v2])++(Array.replicate 64 (.int .i64 0)++#[.slice none 0 0,.slice none 0 0,.bool false,zoI,.int .i64 0]):=by unfold zfu zbl zbg;simp
  rw[e1,Array.getElem?_append_right (by simp[zi];omega),Array.getElem?_append_left (by simp[zi];omega),Array.getElem?_replicate,yg (by simp[zi];omega)];rfl
 ·rw[yi _ _ _ _ _ _ hb];kernel_rfl
 unfold exS at aa;by_cases e1:k=75
 ·rw[yg e1] at aa;cases aa;subst e1;rw[yi _ _ _ _ _ _ hb];kernel_rfl
 rw[ye e1] at aa;by_cases e2:k=76
 ·rw[yg e2] at aa;cases aa;subst e2;rw[yi _ _ _ _ _ _ hb];kernel_rfl
 rw[ye e2] at aa;by_cases e3:k=77
 ·rw[yg e3] at aa;cases aa;subst e3;rw[yi _ _ _ _ _ _ hb];kernel_rfl
 rw[ye e3] at aa;by_cases e4:k=78
 ·rw[yg e4] at aa;cases aa;subst e4;rw[yi _ _ _ _ _ _ hb];kernel_rfl
 rw[ye e4] at aa;cases aa
theorem zol{w:World}{B:Nat}{v:Value}{L:List zu}(h:zal w B v L):zhV w v L:=by
 have hv:∃ao c,v=.slice ao L.length c:=by obtain⟨us,_,h2,_⟩:=h;obtain⟨ao,c,e,_,_⟩:=zg h2;exact⟨ao,c,e⟩
 obtain⟨ao,c,e⟩:=hv;refine⟨ao,c,e,λi hi=>?_⟩;obtain⟨g,c2,ai,ci,e2,_,hl,x0,x1,aa⟩:=h.at hi;rw[e] at e2;cases e2;refine⟨g,0,ai,ci,rfl,hl,by rw[yat];exact x0,by rw[yat];exact x1,?_⟩;obtain⟨a,c3,e3,hz⟩:=aa;refine⟨a,c3,e3,λj hj=>?_⟩;obtain⟨g',k1,k2,k3⟩:=hz j hj;exact⟨g',0,k1,k2,by rw[yat];exact k3⟩
theorem zs4(s:ByteArray)(r:Rd)(B b:Nat)(w:World)(hs:s.size<=maxLen)(hp:zv s.data.toList=(r,0,0))(bx:zE r)(hb:b<=144115188075855872)(hT:zdX B w)(hB:B<=w.heap.size):Calls Tryz.prog 24 #[.string s,.int .i64 b] w λe w'=>e=.returned (.tuple #[.agg #[.int .i64 (zdZ (zb r (za r)) b),.string ⟨(zdo (zb r (za r)) b).toArray⟩,.int .i64 (zeD (zb r (za r)) b),.string ⟨(zbT (zb r (za r)) b).toArray⟩],.int .i64 0])/\zbJ (zb r (za r)) b/\Below w.heap.size w w':=by
 have bh:Hid (∀W,Calls Tryz.prog 37 #[.string s] W (zfa W (r,0,0))):=λW=>by rw[<-hp];exact zkc s W hs
 have aj:=hid bx;have bK:=aj.out.nstops;have hnr:=aj.out.nroads;have HT:=hid hT;obtain⟨W0,aD⟩:∃W0,W0=w.alloc (.cells #[.int .i64 0,.string ⟨#[]⟩,.int .i64 0,.string ⟨#[]⟩] 35):=⟨_,rfl⟩
 have bz:Hid (Below w.heap.size w W0):=by show Below _ _ _;rw[aD];exact zj w _
 have hz0w:W0.heap.size=w.heap.size+1:=by rw[aD];simp
 have aF:W0.heap[w.heap.size]?=some (.cells #[.int .i64 0,.string ⟨#[]⟩,.int .i64 0,.string ⟨#[]⟩] 35 (0,0)):=by rw[aD];exact yx w _
 have aU:=hid aF;have a2:=hid aD;clear bx hs hp hT aD aF;go_in;go_wp2_with fail;rw[<-a2.out];refine(bh.out _).mono ?_;rintro e1 w1⟨vs,vr,rfl,bb,ba,a3⟩;unfold zap;obtain⟨ad,aa,bM,_,_⟩:=zg bb;obtain⟨ai,ac,bN,_,_⟩:=zg ba;subst bM bN;have aR:Hid (Below W0.heap.size W0 w1):=a3;have aY:=hid bb;have aX:=hid ba;have hz1w:=a3.size;have bI:¬(b:Int)<0:=by omega
 have bJ:¬(144115188075855872:Int)<(b:Int):=by omega
 clear bb ba a3 bh;go_wp2_with fail;refine(zwt W0.heap.size W0.heap.size r (.slice ad r.stops.length aa) (.slice ai r.roads.length ac) _ aj.out (aY.out.alloc _) (aX.out.alloc _)).mono ?_;rintro e2 w2⟨v2,rfl,bt,a4⟩;have ak:Below w1.heap.size w1 w2:=(zj w1 _).trans (a4.mono (by simp));have au:w2.heap[w1.heap.size]?=some (.cells #[.int .i64 r.vans,.int .i64 r.load,.int .i64 r.close,.int .i64 r.nodes,.int .i64 r.home,.slice ad r.stops.length aa,.slice ai r.roads.length ac] 28 (0,0)):=(a4.block _ (by simp)).trans (yx w1 _);obtain⟨q0,q1,q2,q3,q4,q5,q6,_⟩:=zcB au;have hxl:w1.heap.size<w2.heap.size:=(yc.1 au).1;have bd:Hid (Below W0.heap.size W0 w2):=aR.out.trans (ak.mono aR.out.size);have ay:Hid (SqR w2 v2 (r.stops.length+1) (za r)):=bt.sq (by omega);have aZ:=hid (ze aY.out ak);have bi:=hid (ze aX.out ak);obtain⟨g7,_,rfl,_⟩:=bt;clear a4 ak aY aX aR au;unfold zi;go_wp2_with fail;obtain⟨W2,aO⟩:∃W2,W2=w2.alloc (.cells (zi r (.slice ad r.stops.length aa) (.slice ai r.roads.length ac) (.slice (some ⟨g7,0,none⟩) (r.stops.length+1) (r.stops.length+1))) 82):=⟨_,rfl⟩
 have ar:=aO;unfold zi at ar;rw[<-ar];have aE:Below w2.heap.size w2 W2:=by rw[aO];exact zj w2 _
 have aG:W2.heap[w2.heap.size]?=some (.cells (zi r (.slice ad r.stops.length aa) (.slice ai r.roads.length ac) (.slice (some ⟨g7,0,none⟩) (r.stops.length+1) (r.stops.length+1))) 82 (0,0)):=by rw[aO];exact yx w2 _
 have ap:=hid aG;have af:=hid aE;clear aO ar q0 q1 q2 q3 q4 q5 q6 aG aE;refine(zue W0.heap.size W0.heap.size r (.slice ad r.stops.length aa) (.slice ai r.roads.length ac) _ aj.out (ze aZ.out af.out) (ze bi.out af.out)).mono ?_;rintro e3 w3⟨v3,rfl,bu,a5⟩;have al:Below w2.heap.size w2 w3:=af.out.trans (a5.mono af.out.size);have aS:Hid (Below W0.heap.size W0 w3):=bd.out.trans (al.mono bd.out.size);have aA:Hid (SqR w3 v3 (r.stops.length+1) (za r)):=bu.sq (by omega);have an:Hid (SqR w3 (.slice (some ⟨g7,0,none⟩) (r.stops.length+1) (r.stops.length+1)) (r.stops.length+1) (za r)):=ay.out.below al;have aC:Hid (StR w3 (.slice ad r.stops.length aa) r):=(StR.own aZ.out (λs hs=>(aj.out.nice.stops s hs).1)).below al;have bw:w2.heap.size<W2.heap.size:=(yc.1 ap.out).1;have av:w3.heap[w2.heap.size]?=_:=(a5.block _ bw).trans ap.out;have hl3:w2.heap.size<w3.heap.size:=(yc.1 av).1;obtain⟨q0,q1,q2,q3,q4,q5,q6,q7⟩:=zfP av;obtain⟨g8,_,rfl,_⟩:=bu;obtain⟨cp,aw⟩:∃cp,cp=zbl r.vans (.slice (some ⟨g8,0,none⟩) (r.stops.length+1) (r.stops.length+1)):=⟨_,rfl⟩
 have am:cp.size=67:=by rw[aw];exact ze2 _ _
 rw[<-aw];have aH:cp.all (·.oneCell')=true:=by rw[aw,Array.all_eq_true_iff_forall_mem];intro u hu;exact zjm rfl u (Array.mem_toList_iff.2 hu)
 have bL:=run_storeCells_new (P:=Tryz.prog) w3 90 Tryz.zeroCells90 cp (by rw[am];kernel_rfl) (by rw[am];kernel_rfl) aH;have bs:Array.foldl (λ(cs:Array Value)(x:Value×Nat)=>cs.setIfInBounds (8+x.snd) x.fst) ((((((((zh0.setIfInBounds 0 (.int .i64 r.vans)).setIfInBounds 1 (.int .i64 r.load)).setIfInBounds 2 (.int .i64 r.close)).setIfInBounds 3 (.int .i64 r.nodes)).setIfInBounds 4 (.int .i64 r.home)).setIfInBounds 5 (.slice ad r.stops.length aa)).setIfInBounds 6 (.slice ai r.roads.length ac)).setIfInBounds 7 (.slice (some ⟨g7,0,none⟩) (r.stops.length+1) (r.stops.length+1))) cp.zipIdx 0 67=zgq r (.slice ad r.stops.length aa) (.slice ai r.roads.length ac) (.slice (some ⟨g7,0,none⟩) (r.stops.length+1) (r.stops.length+1)) (.slice (some ⟨g8,0,none⟩) (r.stops.length+1) (r.stops.length+1)):=by rw[aw];exact znx _ _ _ _ _ _ _ _ _ _
 obtain⟨cm,aP⟩:∃cm,cm=zgq r (.slice ad r.stops.length aa) (.slice ai r.roads.length ac) (.slice (some ⟨g7,0,none⟩) (r.stops.length+1) (r.stops.length+1)) (.slice (some ⟨g8,0,none⟩) (r.stops.length+1) (r.stops.length+1)):=⟨_,rfl⟩
 rw[<-aP] at bs;have a7:cm.size=79:=by rw[aP];exact zll _ _ _ _ _
 obtain⟨cw,a8⟩:∃cw,cw=cm.setIfInBounds 77 zoI:=⟨_,rfl⟩
 have br:cw=zfu r (.slice ad r.stops.length aa) (.slice ai r.roads.length ac) (.slice (some ⟨g7,0,none⟩) (r.stops.length+1) (r.stops.length+1)) (.slice (some ⟨g8,0,none⟩) (r.stops.length+1) (r.stops.length+1)):=by rw[a8,aP];exact zoU _ _ _ _ _
 obtain⟨V0,aN⟩:∃V0,V0=w3.alloc (.cells cp 90):=⟨_,rfl⟩
 have bc:V0.heap.size=w3.heap.size+1:=by rw[aN];simp
 have ag:Below w3.heap.size w3 V0:=by rw[aN];exact zj w3 _
 have bj:Hid (zaP V0 (V0.alloc (.cells cw 94)) (w3.heap.size+1) r (.slice none 0 0) none [] (.slice ad r.stops.length aa) (.slice (some ⟨g7,0,none⟩) (r.stops.length+1) (r.stops.length+1)) (.slice (some ⟨g8,0,none⟩) (r.stops.length+1) (r.stops.length+1))):=by have h:=zo3 V0 r (.slice ad r.stops.length aa) (.slice ai r.roads.length ac) (.slice (some ⟨g7,0,none⟩) (r.stops.length+1) (r.stops.length+1)) (.slice (some ⟨g8,0,none⟩) (r.stops.length+1) (r.stops.length+1)) 94;rw[<-br,bc] at h;exact h
 have be:Hid (Below W0.heap.size W0 V0):=aS.out.trans (ag.mono aS.out.size);have a0:=hid (aC.out.below ag);have az:=hid (an.out.below ag);have aB:=hid (aA.out.below ag);have bl:=hid aN;have ax:=hid a8;have bC:=hid bc;clear aP a8 br aN ag bc aA an aC;have bQ:=zm4;have bP:=zmk;have aW:=hid aw;have hz3:=aS.out.size;clear aw aH a5 al aZ bi ap af av bw ay;go_wp2_with fail;refine wp_load_row (P:=Tryz.prog) 90 (.tmp 10) rfl w3.heap.size rfl 90 cp (0,0) _ (yx w3 _) Tryz.underlying90 rfl (by rw[am];kernel_rfl) ?_;go_wp2_with fail;have bq:cm.setIfInBounds 77 (.string ⟨#[110,111,110,101]⟩)=cw:=ax.out.symm;rw[<-bl.out,bq];have bg:Hid (Below w.heap.size w V0):=bz.out.trans (be.out.mono (by omega));have bk:=hid (HT.out.on bg.out hB);clear bL bQ bP bs am q0 q1 q2 q3 q4 q5 q6 q7 aW bq a7 ax bl bI bJ;have hzq:V0.heap.size=w3.heap.size+1:=bC.out;refine(zt1 V0 _ (w3.heap.size+1) B b r (.slice none 0 0) _ _ _ _ aj.out bk.out (by omega) hb ⟨bj.out,zal.nil _ _,λj hj=>absurd hj (by omega),rfl⟩ a0.out az.out aB.out).mono ?_;rintro e5 w5⟨rfl,vl,ao,a9,bv⟩;have bB:=hid ao;have bA:=hid a9;have aM:=hid bv;have a6:Below (w3.heap.size+1) V0 w5:=ao.below;have aK:Hid (Below w.heap.size w w5):=bg.out.trans (a6.mono (by omega));have aT:Hid (Below W0.heap.size W0 w5):=be.out.trans (a6.mono (by omega));have ab:=(aT.out.block w.heap.size (by omega)).trans aU.out;have y0:w5.cell? ⟨w.heap.size,0,none⟩=_:=yi w5 _ 0 _ _ _ ab;have y1:w5.cell? ⟨w.heap.size,1,none⟩=_:=yi w5 _ 1 _ _ _ ab;have y2:w5.cell? ⟨w.heap.size,2,none⟩=_:=yi w5 _ 2 _ _ _ ab;have y3:w5.cell? ⟨w.heap.size,3,none⟩=_:=yi w5 _ 3 _ _ _ ab;have ly:w.heap.size<w5.heap.size:=(yc.1 ab).1;have bE:=yv w5 w.heap.size 0 _ _ ab;have bF:=yv w5 w.heap.size 1 _ _ ab;have bG:=yv w5 w.heap.size 2 _ _ ab;have bH:=yv w5 w.heap.size 3 _ _ ab;have lp:=ao.arcs.lt;have bD:=zd2 ao;have bn:=zfQ ao;have bo:=zih ao;have bp:=zga ao;have aV:=hid ab;obtain⟨avl,nvl,cvl,bO⟩:∃a n c,vl=.slice a n c:=by obtain⟨us,_,h2,_⟩:=a9;obtain⟨a,c,e,_,_⟩:=zg h2;exact⟨a,_,c,e⟩
 subst bO;clear ao a9 bv a6 ab bj;cases hd:(zk (zb r (za r)) b).2 with
 | false=>
  have aq:Hid (zdZ (zb r (za r)) b=3/\zbT (zb r (za r)) b=[]):=by show _/\_;unfold zdZ zbT;rw[hd];exact⟨rfl,rfl⟩
  clear hd;have bR:w.heap.size≠w3.heap.size+1:=by omega
  have bS:w3.heap.size+1≠w.heap.size:=by omega
  go_wp2_with fail;go_region_held3 (λw'=>w'.cell? ⟨w3.heap.size+1,77,none⟩=some (.string ⟨(zcg (zk (zb r (za r)) b).1.fc).toArray⟩)/\w'.cell? ⟨w3.heap.size+1,78,none⟩=some (.int .i64 (zd9 (zb r (za r)) (zk (zb r (za r)) b).1.fc))) (go_keep) (fail);go_wp2_with fail;refine yB (v:=.tuple #[.agg #[.int .i64 3,.string ⟨(zcg (zk (zb r (za r)) b).1.fc).toArray⟩,.int .i64 (zd9 (zb r (za r)) (zk (zb r (za r)) b).1.fc),.string ⟨#[]⟩],.int .i64 0]) (by simp[results,Tryz.results24,go_sem,y0,y1,y2,y3]) rfl ?_;refine⟨by rw[aq.out.1,aq.out.2];rfl,aM.out,?_⟩
  first|exact((((aK.out.setCell (by exact yh _) _).setCell (by exact yh _) _).setCell (by exact yh _) _).setCell (by exact yh _) _)|exact((((aK.out.setCell (by exact yh _) _).setCell (by exact yh _) _).setCell (by exact yh _) _).setCell (by exact yh _) _).drew
 | true=>
  obtain⟨_,aI⟩:=zgo (zh6 aj.out) bK (zdk aj.out).1 (zdk aj.out).2 b aM.out;obtain⟨aQ,_⟩:=aI hd;have aq:Hid (zdZ (zb r (za r)) b=(if (zk (zb r (za r)) b).1.fc.isSome=true then 1 else 2)/\zbT (zb r (za r)) b=zaD (zk (zb r (za r)) b).1.L):=by show _/\_;unfold zdZ zbT;rw[hd];exact⟨rfl,rfl⟩
  have bm:Hid (zgj (zk (zb r (za r)) b).1.L=(zaD (zk (zb r (za r)) b).1.L,0)):=by show _=_;unfold zgj;rw[yg aQ.tree]
  have a1:=hid (zpR B (zk (zb r (za r)) b).1.L _ w5 (bk.out.on bB.out.below (by omega)) (by omega) (by have h1:=aQ.len;have h2:=zgu;omega) (λnd hm=>by have:=(zpU aQ.tree hm).1;omega) (zol bA.out));rw[bm.out] at a1;clear hd aI aQ bm;go_wp2_with fail;refine a1.out.mono ?_;rintro e6 w6⟨rfl,ae⟩;have z0:=zc ae y0 ly;have z1:=zc ae y1 ly;have z2:=zc ae y2 ly;have z3:=zc ae y3 ly;have ah:=(ae.block _ ly).trans aV.out;have lz:=ya ly ae.size;have fz0:=yv w6 w.heap.size 0 _ _ ah;have fz1:=yv w6 w.heap.size 1 _ _ ah;have fz2:=yv w6 w.heap.size 2 _ _ ah;have fz3:=yv w6 w.heap.size 3 _ _ ah;have lp6:w3.heap.size+1<w6.heap.size:=ya lp ae.size;have d76:=zc ae bn lp;have d77:=zc ae bo lp;have d78:=zc ae bp lp;have aL:Hid (Below w.heap.size w w6):=aK.out.trans (ae.mono aK.out.size);have bR:w.heap.size≠w3.heap.size+1:=by omega
  have bS:w3.heap.size+1≠w.heap.size:=by omega
  clear ae ah a1 y0 y1 y2 y3 bE bF bG bH bD bn bo bp ly lp;have aJ:Hid (zdo (zb r (za r)) b=zcg (zk (zb r (za r)) b).1.fc/\zeD (zb r (za r)) b=zd9 (zb r (za r)) (zk (zb r (za r)) b).1.fc):=⟨rfl,rfl⟩
  generalize (zk (zb r (za r)) b).1.fc.isSome=bf at*;cases bf with
  | false=>
   go_wp2_with fail;go_region_held3 (λw'=>w'.cell? ⟨w3.heap.size+1,77,none⟩=some (.string ⟨(zcg (zk (zb r (za r)) b).1.fc).toArray⟩)/\w'.cell? ⟨w3.heap.size+1,78,none⟩=some (.int .i64 (zd9 (zb r (za r)) (zk (zb r (za r)) b).1.fc))) (go_keep) (fail);go_wp2_with fail;refine yB (v:=.tuple #[.agg #[.int .i64 2,.string ⟨(zcg (zk (zb r (za r)) b).1.fc).toArray⟩,.int .i64 (zd9 (zb r (za r)) (zk (zb r (za r)) b).1.fc),.string ⟨(zaD (zk (zb r (za r)) b).1.L).toArray⟩],.int .i64 0]) (by simp[results,Tryz.results24,go_sem,z0,z1,z2,z3]) rfl ?_;refine⟨by rw[aq.out.1,aq.out.2,aJ.out.1,aJ.out.2];rfl,aM.out,?_⟩
   first|exact((((aL.out.setCell (by exact yh _) _).setCell (by exact yh _) _).setCell (by exact yh _) _).setCell (by exact yh _) _)|exact((((aL.out.setCell (by exact yh _) _).setCell (by exact yh _) _).setCell (by exact yh _) _).setCell (by exact yh _) _).drew
  | true=>
   go_wp2_with fail;go_region_held3 (λw'=>w'.cell? ⟨w3.heap.size+1,77,none⟩=some (.string ⟨(zcg (zk (zb r (za r)) b).1.fc).toArray⟩)/\w'.cell? ⟨w3.heap.size+1,78,none⟩=some (.int .i64 (zd9 (zb r (za r)) (zk (zb r (za r)) b).1.fc))) (go_keep) (fail);go_wp2_with fail;refine yB (v:=.tuple #[.agg #[.int .i64 1,.string ⟨(zcg (zk (zb r (za r)) b).1.fc).toArray⟩,.int .i64 (zd9 (zb r (za r)) (zk (zb r (za r)) b).1.fc),.string ⟨(zaD (zk (zb r (za r)) b).1.L).toArray⟩],.int .i64 0]) (by simp[results,Tryz.results24,go_sem,z0,z1,z2,z3]) rfl ?_;refine⟨by rw[aq.out.1,aq.out.2,aJ.out.1,aJ.out.2];rfl,aM.out,?_⟩
   first|exact((((aL.out.setCell (by exact yh _) _).setCell (by exact yh _) _).setCell (by exact yh _) _).setCell (by exact yh _) _)|exact((((aL.out.setCell (by exact yh _) _).setCell (by exact yh _) _).setCell (by exact yh _) _).setCell (by exact yh _) _).drew
end Go.Proofs.YtebinaopncclgabGreatDoor
