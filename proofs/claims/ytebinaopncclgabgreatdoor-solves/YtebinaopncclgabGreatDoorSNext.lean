import Derived.Test.YtebinaopncclgabGreatDoorXWrite
import Derived.Test.YtebinaopncclgabGreatDoorShelf
import Derived.Lib.AppendIntMem
import Derived.Test.YtebinaopncclgabGreatDoorSWeak
set_option maxRecDepth 100000
set_option maxHeartbeats 8000000
namespace Go.Proofs.YtebinaopncclgabGreatDoor
open Go.RowKit Go.IntWalk
def zdX(B:Nat)(w:World):Prop:=Lib.TabBelow Tryz.prog B w "internal/strconv.uint64pow10" .u64 Lib.pow10Tab
theorem zdX.on{B C:Nat}{w w':World}(h:zdX B w)(hb:Below C w w')(hC:B<=C):zdX B w':=Lib.TabBelow.on h (hb.mono hC)
theorem zmB(f u:Nat)(h:u<10^(f+1)):Lib.decDigits u=zba f u:=by
 induction f generalizing u with
 | zero=>have h9:u<10:=(by omega);rw[Lib.decDigits,dif_pos h9,zcV (by omega),dg,Nat.mod_eq_of_lt h9]
 | succ f ih=>
  rw[Lib.decDigits];by_cases h9:u<10
  ·rw[dif_pos h9,zcV (by omega),dg,Nat.mod_eq_of_lt h9]
  rw[zc5 (by omega),<-ih (u/10) (by rw[ybq] at h;omega),dif_neg h9];rfl
theorem zun{z:Int}(h1:-100000000<=z)(h2:z<=100000000):Lib.itoa z=zaM z:=by
 unfold Lib.itoa zaM;split
 ·rw[zmB 9 z.natAbs (by omega),show z.natAbs=(-z).toNat by omega]
 rw[zmB 9 z.toNat (by omega)]
theorem zkm(B:Nat)(z:Int)(w:World)(hT:zdX B w)(h1:-100000000<=z)(h2:z<=100000000):Calls Tryz.prog 151 #[.int .i64 z] w λe w'=>e=.returned (.string ⟨(zaM z).toArray⟩)/\Below w.heap.size w w':=by refine(Tryz.strconv_Itoa z (by omega) (by omega) w (Lib.TabBelow.here hT)).mono ?_;rintro e w'⟨rfl,k,os,rfl⟩;rw[zun h1 h2];exact⟨rfl,Lib.below_grow _ _ (yh _) _ _⟩
theorem znd(B:Nat)(nd:zu)(v:Value)(w:World)(hT:zdX B w)(hB:B<=w.heap.size)(hn:zac nd=true)(hr:zh8 w v nd.2):Calls Tryz.prog 92 #[.agg #[.int .i64 nd.1,v]] w λe w'=>e=.returned (.string ⟨(zdu nd).toArray⟩)/\Below w.heap.size w w':=by
 obtain⟨kd,zs⟩:=nd;obtain⟨h1,h2⟩:=zcp hn;have h3:=zeo h1;dsimp only at h2 h3 hr⊢;have hz20:zs.length<=20:=by omega
 have am:=hid (λW=>zlv kd W (by omega));have al:Hid (zdu (kd,zs)=(zgv kd::ze3 zs)++[10]):=rfl;have an:=hid hT;obtain⟨ao,c,rfl,hr⟩:=hr;have HR:=hid hr;have HZ:=hid h2;obtain⟨W,hW⟩:∃W,W=w.alloc (.cells #[.int .i64 kd,.slice ao zs.length c] 76):=⟨_,rfl⟩
 have aa:Hid (Below w.heap.size w W):=by show Below _ _ _;rw[hW];exact zj w _
 have aj:W.heap[w.heap.size]?=some (.cells #[.int .i64 kd,.slice ao zs.length c] 76 (0,0)):=by rw[hW];exact yx w _
 have af:=hid aj;have ap:=hid hW;clear hT hr h1 h2 h3 hn hW aj;go_in;go_wp2_with fail;refine(am.out _).mono ?_;rintro e1 w1⟨rfl,rfl⟩;rw[<-ap.out];go_wp2_with fail;go_loopw[3,4] (λs i wr=>∃(m:Nat)(t:List UInt8),i=.int .i64 m/\s=.string ⟨t.toArray⟩/\m<=zs.length/\t.length<=1+11*m/\Hid (t=zgv kd::ze3 (zs.take m))/\Hid (Below W.heap.size W wr)) (λ_ i _=>zs.length-(intOf i).toNat)
 ·exact⟨0,[zgv kd],rfl,rfl,by simp,by simp,by show _=_;simp[ze3],yk _ _⟩
 obtain⟨m,t,rfl,rfl,hm,ht,HT,HB⟩:=hrel;have ar:w.heap.size<W.heap.size:=(yc.1 af.out).1;have ad:=(HB.out.block _ ar).trans af.out;have p1:wr.cell? ⟨w.heap.size,1,none⟩=some (.slice ao zs.length c):=yi wr _ 1 _ _ _ ad;have lw:w.heap.size<wr.heap.size:=(yc.1 ad).1;clear ad;by_cases ab:m<zs.length
 ·obtain⟨b,o,rfl,ae,hz⟩:=HR.out m ab;have x0:=zc HB.out (zc aa.out hz ae) (ya ae aa.out.size);have lb:b<wr.heap.size:=ya (ya ae aa.out.size) HB.out.size;have ah:=hid (zpV ab);have ac:=HZ.out _ (zbW ab);rw[<-zfx ab] at ah;generalize zs.getD m 0=z at*;have hdl:=zmx ac.1 ac.2;have im:(0:Int)<=(m:Int):=by omega
  have jm:(m:Int)<(zs.length:Int):=by omega
  have ag:Hid (∀W',Below wr.heap.size wr W'->Calls Tryz.prog 151 #[.int .i64 z] W' λe w'=>e=.returned (.string ⟨(zaM z).toArray⟩)/\Below W'.heap.size W' w'):=λW' aq=>zkm B z W' (an.out.on ((aa.out.trans (HB.out.mono aa.out.size)).trans (aq.mono (yP aa.out.size HB.out.size))) hB) ac.1 ac.2;clear hz;go_wp2_with fail;refine(ag.out _ (yk _ _)).mono ?_;rintro e2 w2⟨rfl,ai⟩;have ak:Hid (Below W.heap.size W w2):=HB.out.trans (ai.mono HB.out.size);clear ai ag;go_wp2_with fail;go_roundw
  ·refine⟨m+1,t++(32::zaM z),by go_num,?_,by omega,?_,?_,ak⟩
   ·show Value.string _=Value.string _
    first|rfl|(congr 1;done)|(congr 1;apply ya3;simp[ByteArray.data_append])
   ·simp;omega
   show _=_;rw[ah.out,HT.out];simp
  simp[intOf];omega
 have HE:Hid (t++[10]=zdu (kd,zs)):=by show _=_;rw[al.out,HT.out,yD (by omega)]
 go_wp2_with fail;go_ret;refine⟨zoa ?_,aa.out.trans (HB.out.mono aa.out.size)⟩;rw[<-HE.out];apply ya3;simp[ByteArray.data_append]
theorem zpR(B:Nat)(L:List zu)(v:Value)(w:World)(hT:zdX B w)(hB:B<=w.heap.size)(hL:L.length<=100000000000)(hl:∀nd∈L,nd.2.length<=2000000)(hr:zhV w v L):Calls Tryz.prog 42 #[v] w λe w'=>e=.returned (.tuple #[.string ⟨(zgj L).1.toArray⟩,.int .i64 (zgj L).2])/\Below w.heap.size w w':=by
 obtain⟨i0,hi,aA,aB,aC⟩:=info_parts Tryz.infoU8;have ad:=hid (zoo L v w hL hl hr);have HR:=hid hr;have ay:=hid hT;have ae:Hid (zgj L=if zV 1 L=true then (zaD L,0) else ([],14)):=rfl;have ap:Hid (zV 1 L=true->∀nd∈L,zac nd=true):=λh=>zfl L 1 h;obtain⟨ao,c,rfl,_⟩:=hr;generalize zgj L=ans at*;generalize zV 1 L=bt at*;clear hl hT;cases bt with
 | false=>rw[ye (by simp)] at ae;go_in;go_wp2_with fail;refine ad.out.mono ?_;rintro e1 w1⟨rfl,ab⟩;have af:=hid ab;clear ab ad;go_wp2_with fail;refine yB (v:=.tuple #[.string ⟨#[]⟩,.int .i64 14]) (by simp[results,Tryz.results42,go_sem]) rfl ?_;exact⟨by rw[ae.out],af.out⟩
 | true=>
  rw[yg rfl] at ae;have ag:=hid (ap.out rfl);clear ap;go_in;go_wp2_with fail;refine ad.out.mono ?_;rintro e1 w1⟨rfl,ab⟩;have af:=hid ab;clear ab ad;go_wp2_with fail;go_loopw[4,5] (λov i wr=>∃(k:Nat)(t:List UInt8),i=.int .i64 k/\k<=L.length/\t.length<=230*k/\Hid (t=zaD (L.take k))/\Hid (wr.ownsRow w.heap.size 5 1 ov t.length (Lib.strCells ⟨t.toArray⟩))/\Hid (Below w.heap.size w wr)) (λ_ i _=>L.length-(intOf i).toNat)
  ·exact⟨0,[],rfl,yu _,by simp,rfl,yC _ _ _ _,af⟩
  obtain⟨k,t,rfl,hk,htl,HT,HO,HB⟩:=hrel;obtain⟨av,cv,rfl,_,_⟩:=zg HO.out;by_cases aj:k<L.length
  ·obtain⟨ao',c',hv,hz⟩:=HR.out.below HB.out;cases hv;obtain⟨b,off,ai,ci,rfl,hbl,x0,x1,aq⟩:=hz k aj;have az:=hid (zsx aj);have ak:=ag.out _ (ym aj);generalize L[k]=nd at*;have hll:=zi2 ak;have am:=hid (znd B nd _ wr (ay.out.on HB.out hB) (yP hB HB.out.size) ak aq);generalize zdu nd=ln at*;have ik:(0:Int)<=(k:Int):=by omega
   have jk:(k:Int)<(L.length:Int):=by omega
   clear hz aq ak;go_wp2_with fail;refine am.out.mono ?_;rintro e3 w3⟨rfl,ah⟩;have al:Hid (Below w.heap.size w w3):=HB.out.trans (ah.mono HB.out.size);have an:=hid (ze HO.out ah);have ar:=al.out.size;clear ah am;go_wp2_with(at_builtin;refine Lib.wpList_append_own_string _ rfl _ _ 144 9 rfl w.heap.size 5 i0 Tryz.underlying144 Tryz.underlying9 hi aA aB aC _ _ _ rfl an.out ⟨ln.toArray⟩ rfl ?c1 ?c2 ?c3 ?_)
   case c1=>unfold maxLen;have:(⟨ln.toArray⟩:ByteArray).size=ln.length:=(by simp[ByteArray.size]);omega
   case c2=>have:(⟨ln.toArray⟩:ByteArray).size=ln.length:=(by simp[ByteArray.size]);omega
   case c3=>exact ar
   intro v5 w5 aa ac _;have aw:Hid (w5.ownsRow w.heap.size 5 1 v5 (t++ln).length (Lib.strCells ⟨(t++ln).toArray⟩)):=by show World.ownsRow _ _ _ _ _ _ _;rw[zvb,yz,show ln.length=(⟨ln.toArray⟩:ByteArray).size by simp[ByteArray.size]];exact aa
   have au:Hid (Below w.heap.size w w5):=al.out.grown ac ar (λq hq=>(an.out.lt q hq).1);have ax:Hid (t++ln=zaD (L.take (k+1))):=by show _=_;rw[az.out,HT.out]
   clear aa ac;go_wp2;go_roundw
   ·exact⟨k+1,t++ln,by go_num,by omega,by simp;omega,ax,aw,au⟩
   simp[intOf];omega
  have kc:=zs8 HO.out;have HA:Hid (ans=(t,0)):=by show _=_;rw[ae.out,HT.out,yD (by omega)]
  go_wp2_with fail;refine yB (v:=.tuple #[.string ⟨t.toArray⟩,.int .i64 0]) (by simp[results,Tryz.results42,go_sem]) rfl ?_;exact⟨by rw[HA.out],HB.out⟩
theorem zvv{s:Nat}(h:s<=9):zaM (s:Int)=[UInt8.ofNat (48+s)]:=by
 have:s=0\/s=1\/s=2\/s=3\/s=4\/s=5\/s=6\/s=7\/s=8\/s=9:=by omega
 rcases this with rfl|rfl|rfl|rfl|rfl|rfl|rfl|rfl|rfl|rfl<;>decide
theorem zwB{bh:Nat->Nat}{f s:Nat}(h:s≠0):rtQ bh (f+1) s=s::rtQ bh f (bh s):=by show (if s=0 then [] else s::rtQ bh f (bh s))=_;rw[ye h]
theorem zrT{bh:Nat->Nat}{f s:Nat}(h:s=0\/f=0):rtQ bh f s=[]:=by
 cases f with
 | zero=>rfl
 | succ f=>show (if s=0 then [] else s::rtQ bh f (bh s))=_;rw[yg (by omega)]
theorem zsh(bh:Nat->Nat):∀f s,(rtQ bh f s).length<=f:=by
 intro f;induction f with
 | zero=>intro s;exact yh _
 | succ f ih=>
  intro s;show (if s=0 then [] else s::rtQ bh f (bh s)).length<=_;split
  ·simp
  have:=ih (bh s);simp;omega
theorem zs1(l:List Nat):(zbB l).length=l.length:=by simp[zbB]
def zvG:Value->Nat
 | .string s=>s.size
 | _=>0
theorem zoq(B t n f:Nat)(bh:Nat->Nat)(fs:List Nat)(w:World)(hT:zdX B w)(hB:B<=w.heap.size)(hn:n<=7)(hf:f<=n)(hr:∀s,1<=s->s<=n->bh s<=n)(ht:zdv w t n bh fs):Calls Tryz.prog 194 #[.pointer (some ⟨t,0,none⟩),.int .i64 f] w λe w'=>e=.returned (.string ⟨(zbB (rtQ bh 7 f)).toArray⟩)/\Below w.heap.size w w':=by
 have ae:=hid ht;have ah:=hid hT;have HR:=hid hr;clear ht hT hr;go_in;go_wp2_with fail;go_loopw[5,6] (λtv sv wr=>∃(s:Nat)(ab:List Nat)(u:List UInt8),tv=.string ⟨u.toArray⟩/\sv=.int .i64 s/\s<=n/\u.length<=7/\Hid (u=zbB ab)/\Hid (rtQ bh 7 f=ab++rtQ bh (7-u.length) s)/\Hid (Below w.heap.size w wr)) (λtv _ _=>7-zvG tv)
 ·exact⟨f,[],[],rfl,rfl,hf,by simp,rfl,rfl,yk _ _⟩
 obtain⟨s,ab,u,rfl,rfl,hs,hu,HU,HE,HB⟩:=hrel;by_cases aa:s=0
 ·have e0:((s:Int) != 0)=false:=by simp[aa]
  have HF:Hid (zbB (rtQ bh 7 f)=u):=by show _=_;rw[HE.out,zrT (.inl aa),yY,HU.out]
  clear aa HE;go_wp2_with fail;go_ret;refine⟨?_,HB.out⟩;rw[HF.out];rfl
 have e0:((s:Int) != 0)=true:=by simpa using aa
 by_cases h7:u.length<7
 ·have x0:=(ae.out.below HB.out).behind (by omega) hs hn;have lt:=(ae.out.below HB.out).lt;have aj:=HR.out s (by omega) hs;have ad:=hid (zkm B s wr (ah.out.on HB.out hB) (by omega) (by omega));rw[zvv (by omega)] at ad;have is:(0:Int)<=(s:Int):=by omega
  have js:(s:Int)<8:=by omega
  have ag:Hid (rtQ bh 7 f=(ab++[s])++rtQ bh (7-(u.length+1)) (bh s)):=by show _=_;rw[HE.out,show 7-u.length=(7-(u.length+1))+1 by omega,zwB aa];simp
  have ai:Hid (u++[UInt8.ofNat (48+s)]=zbB (ab++[s])):=by show _=_;rw[HU.out];simp[zbB]
  clear aa HE HU;go_wp2_with fail;refine ad.out.mono ?_;rintro e2 w2⟨rfl,ac⟩;have x2:=zc ac x0 lt;have l2:=ya lt ac.size;have af:Hid (Below w.heap.size w w2):=HB.out.trans (ac.mono HB.out.size);clear ac ad x0;go_wp2_with go_in;go_roundw
  ·refine⟨bh s,ab++[s],u++[UInt8.ofNat (48+s)],?_,rfl,aj,by simp;omega,ai,?_,af⟩
   ·show Value.string _=Value.string _
    first|rfl|(congr 1;done)|(congr 1;apply ya3;simp[ByteArray.data_append])
   show _=_;rw[yz];exact ag.out
  simp[zvG,ByteArray.size];omega
 have HF:Hid (zbB (rtQ bh 7 f)=u):=by show _=_;rw[HE.out,zrT (.inr (by omega)),yY,HU.out]
 clear aa HE;go_wp2_with fail;go_ret;refine⟨?_,HB.out⟩;rw[HF.out];rfl
theorem zss(B t n:Nat)(bh:Nat->Nat)(fs:List Nat)(w:World)(hT:zdX B w)(hB:B<=w.heap.size)(hn:n<=7)(hf:∀f∈fs,f<=n)(hf3:fs.length<=3)(hr:∀s,1<=s->s<=n->bh s<=n)(ht:zdv w t n bh fs):Calls Tryz.prog 142 #[.pointer (some ⟨t,0,none⟩)] w λe w'=>e=.returned (.string ⟨(zah (fs.map (rtQ bh 7))).toArray⟩)/\Below w.heap.size w w':=by
 have ag:=hid ht;have af:Hid (∀(W:World)(f:Nat),f<=n->Below w.heap.size w W->Calls Tryz.prog 194 #[.pointer (some ⟨t,0,none⟩),.int .i64 f] W λe w'=>e=.returned (.string ⟨(zbB (rtQ bh 7 f)).toArray⟩)/\Below W.heap.size W w'):=λW f h1 hW=>zoq B t n f bh fs W (hT.on hW hB) (yP hB hW.size) hn h1 hr (ht.below hW);have ae:Hid (∀k,k<fs.length->fs.getD k 0<=n):=λk hk=>hf _ (by rw[yj,yl hk];exact ym _);clear ht hT hr hf;go_in;go_wp2_with fail;go_loopw[3,4] (λtv i wr=>∃(k:Nat)(u:List UInt8),tv=.string ⟨u.toArray⟩/\i=.int .i64 k/\k<=fs.length/\u.length<=8*k/\Hid (u=zah ((fs.take k).map (rtQ bh 7)))/\Hid (Below w.heap.size w wr)) (λ_ i _=>fs.length-(intOf i).toNat)
 ·exact⟨0,[],rfl,rfl,yu _,by simp,rfl,yk _ _⟩
 obtain⟨k,u,rfl,rfl,hk,hu,HU,HB⟩:=hrel;obtain⟨vf,h1,h2⟩:=(ag.out.below HB.out).at_;have c9:=h1.c9;have lt:=h1.lt;have HV:=hid h2;obtain⟨av,cv,rfl,_,_⟩:=zg h2;clear h1 h2;by_cases ac:k<fs.length
 ·obtain⟨q,capq,curq,ah,_,_,_⟩:=zF HV.out (by omega);cases ah;have x0:wr.cell? ⟨q,k,none⟩=some (.int .i64 (fs.getD k 0:Nat)):=by
   rw[HV.out.cellAt k (by omega)];have ad:k<(zL fs).length:=by rw[zaJ];omega
   simp only[zd,yal,yl ad,ycb];rw[<-zeF,yj,yl ad,yK]
  have lq:q<wr.heap.size:=(HV.out.lt q rfl).2;have HT:Hid (zah ((fs.take (k+1)).map (rtQ bh 7))=zah ((fs.take k).map (rtQ bh 7))++(if k=0 then [] else [47])++zbB (rtQ bh 7 (fs.getD k 0))):=by
   show _=_;have e1:fs.take (k+1)=fs.take k++[fs.getD k 0]:=by rw[yr ac,yj,yl ac];rfl
   rw[e1,yL];show zah ((fs.take k).map (rtQ bh 7)++[rtQ bh 7 (fs.getD k 0)])=_;rw[zoL];congr 2;by_cases h0:k=0
   ·rw[yg h0,yg (by rw[h0];simp)]
   rw[ye h0,ye];intro e;have:=yan List.length e;rw[yN,yaR,yay] at this;omega
  have ai:=ae.out k ac;have hdl:(zbB (rtQ bh 7 (fs.getD k 0))).length<=7:=by rw[zs1];exact zsh _ _ _
  have HC:=hid (λW hW=>af.out W (fs.getD k 0) ai hW);generalize fs.getD k 0=f at*;generalize zbB (rtQ bh 7 f)=d at*;have ik:(0:Int)<=(k:Int):=by omega
  have jk:(k:Int)<(fs.length:Int):=by omega
  by_cases h0:k=0
  ·rw[yg h0,yY] at HT;have e0:¬0<k:=by omega
   clear h0;go_wp2_with fail;refine(HC.out _ (by first|exact HB.out|exact HB.out.drew)).mono ?_;rintro e2 w2⟨rfl,aa⟩;have ab:Hid (Below w.heap.size w w2):=HB.out.trans (aa.mono HB.out.size);clear aa HC;go_wp2_with fail;go_roundw
   ·refine⟨k+1,u++d,?_,by go_num,by omega,by simp;omega,?_,ab⟩
    ·show Value.string _=Value.string _
     first|rfl|(congr 1;done)|(congr 1;apply ya3;simp[ByteArray.data_append])
    show _=_;rw[HT.out,HU.out]
   simp[intOf];omega
  rw[ye h0] at HT;have e0:0<k:=by omega
  clear h0;go_wp2_with fail;refine(HC.out _ (by first|exact HB.out|exact HB.out.drew)).mono ?_;rintro e2 w2⟨rfl,aa⟩;have ab:Hid (Below w.heap.size w w2):=HB.out.trans (aa.mono HB.out.size);clear aa HC;go_wp2_with fail;go_roundw
  ·refine⟨k+1,u++[47]++d,?_,by go_num,by omega,by simp;omega,?_,ab⟩
   ·show Value.string _=Value.string _
    first|rfl|(congr 1;done)|(congr 1;apply ya3;simp[ByteArray.data_append])
   show _=_;rw[HT.out,HU.out]
  simp[intOf];omega
 have HF:Hid (zah (fs.map (rtQ bh 7))=u):=by show _=_;rw[HU.out,yD (by omega)]
 go_wp2_with fail;go_ret;refine⟨?_,HB.out⟩;rw[HF.out];rfl
theorem zkB{w0 w w':World}{p:Nat}{r:Rd}{ex:Nat->Option Value}{P:zo}{vs vf vf2:Value}(hw:zaI w0 w p r ex P vs vf vf2)(hp:w'.heap[p]?=w.heap[p]?)(ha:∀va,w.cell? ⟨p,74,none⟩=some va->∀q,va.ownBlock=some q->w'.heap[q]?=w.heap[q]?)(hb:Below p w w'):zaI w0 w' p r ex P vs vf vf2:=by have hc:∀o,w'.cell? ⟨p,o,none⟩=w.cell? ⟨p,o,none⟩:=λo=>yaz (a:=⟨p,o,none⟩) hp;obtain⟨va,g1,g2⟩:=hw.above;obtain⟨cs,ty,aa⟩:=hw.arcs.box;exact⟨hw.size,hw.below.trans hb,(hc _).trans hw.c0,(hc _).trans hw.c1,(hc _).trans hw.c2,(hc _).trans hw.c5,(hc _).trans hw.c7,⟨⟨cs,ty,hp.trans aa⟩,(hc _).trans hw.arcs.c0,(hc _).trans hw.arcs.c1,λa b h1 h2=>(hc _).trans (hw.arcs.said a b h1 h2)⟩,⟨va,(hc _).trans g1,zfg g2 (ha va g1)⟩,λk u h1 h2=>(hc _).trans (hw.rest k u h1 h2)⟩
theorem zoi{w0 w X w':World}{p n:Nat}{r:Rd}{ex:Nat->Option Value}{P:zo}{vs vf vf2 v:Value}{xs:List Value}(hw:zaI w0 w p r ex P vs vf vf2)(hX:Below w.heap.size w X)(hv:w.ownsRow (p+1) 76 2 v n xs)(hg:X.grownBy w' v.ownBlock):zaI w0 w' p r ex P vs vf vf2:=by
 have ac:=hw.mv hX;have hp:=hw.arcs.lt;have ab:=ya hp hX.size;obtain⟨va,g1,g2⟩:=ac.above;have aa:=ze hv hX;refine zkB ac (hg.block p ab (λh=>by have:=(aa.lt p h.symm).1;omega)) (λva' h1 q hq=>?_) ?_
 ·rw[g1] at h1;cases h1;refine hg.block q (g2.lt q hq).2 (λh=>?_);rcases zfh aa g2 (by decide) with h3|h3
  ·rw[h3] at h;cases h
  exact h3 (h.symm.trans hq.symm)
 exact(yk p X).grown hg (ya9 ab) (λq hq=>by have:=(aa.lt q hq).1;omega)
def exS(vl:Value)(I:Ins)(fc:Option zP)(k:Nat):Option Value:=if k=75 then some vl else if k=76 then some (.bool fc.isSome) else if k=77 then some (.string ⟨(zcg fc).toArray⟩) else if k=78 then some (.int .i64 (zd9 I fc)) else none
abbrev zaP(w0 w:World)(p:Nat)(r:Rd)(vl:Value)(fc:Option zP)(P:zo)(vs vf vf2:Value):Prop:=zaI w0 w p r (exS vl (zb r (za r)) fc) P vs vf vf2
theorem zd2{w0 w:World}{p:Nat}{r:Rd}{vl:Value}{fc:Option zP}{P:zo}{vs vf vf2:Value}(h:zaP w0 w p r vl fc P vs vf vf2):w.cell? ⟨p,75,none⟩=some vl:=h.rest 75 _ (by omega) rfl
theorem zfQ{w0 w:World}{p:Nat}{r:Rd}{vl:Value}{fc:Option zP}{P:zo}{vs vf vf2:Value}(h:zaP w0 w p r vl fc P vs vf vf2):w.cell? ⟨p,76,none⟩=some (.bool fc.isSome):=h.rest 76 _ (by omega) rfl
theorem zih{w0 w:World}{p:Nat}{r:Rd}{vl:Value}{fc:Option zP}{P:zo}{vs vf vf2:Value}(h:zaP w0 w p r vl fc P vs vf vf2):w.cell? ⟨p,77,none⟩=some (.string ⟨(zcg fc).toArray⟩):=h.rest 77 _ (by omega) rfl
theorem zga{w0 w:World}{p:Nat}{r:Rd}{vl:Value}{fc:Option zP}{P:zo}{vs vf vf2:Value}(h:zaP w0 w p r vl fc P vs vf vf2):w.cell? ⟨p,78,none⟩=some (.int .i64 (zd9 (zb r (za r)) fc)):=h.rest 78 _ (by omega) rfl
theorem znv{w0 w:World}{p:Nat}{r:Rd}{vl:Value}{fc:Option zP}{P:zo}{vs vf vf2:Value}(h:zaP w0 w p r vl fc P vs vf vf2)(v:Value):zaP w0 (w.setCell ⟨p,75,none⟩ v) p r v fc P vs vf vf2:=by
 refine zn7 (zf1 h (k:=75) (by omega) rfl v) (λk u hk=>?_);unfold exS at hk;unfold zlf;by_cases e1:k=75
 ·rw[yg e1] at hk;rw[yg e1];exact hk
 rw[ye e1] at hk;rw[ye e1];unfold exS;rw[ye e1];exact hk
theorem zmZ{w0 w:World}{p:Nat}{r:Rd}{vl:Value}{fc:Option zP}{P:zo}{vs vf vf2:Value}(h:zaP w0 w p r vl fc P vs vf vf2)(R:zP):zaP w0 (((w.setCell ⟨p,76,none⟩ (.bool true)).setCell ⟨p,77,none⟩ (.string ⟨(zah R).toArray⟩)).setCell ⟨p,78,none⟩ (.int .i64 (zR (zb r (za r)) R))) p r vl (some R) P vs vf vf2:=by
 refine zn7 (zf1 (zf1 (zf1 h (k:=76) (by omega) rfl (.bool true)) (k:=77) (by omega) rfl (.string ⟨(zah R).toArray⟩)) (k:=78) (by omega) rfl (.int .i64 (zR (zb r (za r)) R))) (λk u hk=>?_);unfold exS at hk;unfold zlf;by_cases e1:k=75
 ·subst e1;exact hk
 rw[ye e1] at hk;by_cases e2:k=76
 ·subst e2;exact hk
 rw[ye e2] at hk;by_cases e3:k=77
 ·subst e3;exact hk
 rw[ye e3] at hk;by_cases e4:k=78
 ·subst e4;exact hk
 rw[ye e4] at hk;cases hk
theorem zmF{w:World}{g n:Nat}{f:Nat->Int}(h:za2 w g n f):∀j u,(zd ((List.range n).map f))[j]?=some u->w.cell? ((⟨g,0,none⟩:Addr).add j)=some u:=λj u hu=>by
 have hj:j<n:=by have:=(ybn.1 hu).1;simpa[zd] using this
 have aa:(⟨g,0,none⟩:Addr).add j=⟨g,j,none⟩:=by unfold Addr.add;split<;>simp_all
 rw[aa,h.cell hj,<-hu];simp[zd,List.getElem?_range hj]
theorem zly{l:List Int}:∀u∈zd l,u.oneCell'=true:=λu hu=>by simp only[zd,yo] at hu;obtain⟨z,_,rfl⟩:=hu;rfl
theorem zj6(N g1 g2 g3:Nat)(u v:Nat->Int)(cost:Int)(w:World)(hN:N<=10)(h2:za2 w g2 N u)(h3:za2 w g3 N v):Calls Tryz.prog 139 #[.agg #[.bool true,.int .i64 cost,.slice (some ⟨g1,0,none⟩) N N,.slice (some ⟨g2,0,none⟩) N N,.slice (some ⟨g3,0,none⟩) N N,.slice none 0 0]] w λe w'=>∃x,e=.returned (.agg #[.int .i64 2,x])/\w'.ownsRow w.heap.size 3 1 x (za6 N u v).2.length (zd (za6 N u v).2)/\Below w.heap.size w w':=by
 obtain⟨i0,hi,az,aA,aB⟩:=info_parts Tryz.infoInt;obtain⟨W1,ae⟩:∃W1,W1=w.alloc (.cells #[.bool true,.int .i64 cost,.slice (some ⟨g1,0,none⟩) N N,.slice (some ⟨g2,0,none⟩) N N,.slice (some ⟨g3,0,none⟩) N N,.slice none 0 0] 125):=⟨_,rfl⟩
 have ai:W1.heap.size=w.heap.size+1:=by rw[ae];simp
 obtain⟨W,hW⟩:∃W,W=W1.alloc (.cells #[.int .i64 0,.slice none 0 0] 76):=⟨_,rfl⟩
 have ac:Below w.heap.size w W1:=by rw[ae];exact zj w _
 have ao:Below W1.heap.size W1 W:=by rw[hW];exact zj W1 _
 have af:W1.heap[w.heap.size]?=some (.cells #[.bool true,.int .i64 cost,.slice (some ⟨g1,0,none⟩) N N,.slice (some ⟨g2,0,none⟩) N N,.slice (some ⟨g3,0,none⟩) N N,.slice none 0 0] 125 (0,0)):=by rw[ae];exact yx w _
 have ap:=(ao.block _ (by omega)).trans af;have ay:W.heap[w.heap.size+1]?=some (.cells #[.int .i64 0,.slice none 0 0] 76 (0,0)):=by rw[hW,<-ai];exact yx W1 _
 have aj:Below w.heap.size w W:=ac.trans (ao.mono (by omega));have aG:W.heap.size=w.heap.size+2:=by rw[hW];simp[ai]
 have aD:=hid aj;have HBX:=hid ap;have au:=hid ay;have aw:=hid (h2.block (aj.block _ h2.lt));have ax:=hid (h3.block (aj.block _ h3.lt));obtain⟨zl,_,_,_,d3,d4,_,_⟩:=zhw ap;have aE:=hid hW;have an:=hid ae;clear aj ap hW h2 h3 ac ao af ae ay;go_in;go_wp2_with(at_builtin;rw[<-an.out,<-aE.out];refine yy _ rfl _ _ 40 rfl (w.heap.size+2) 3 i0 (.int .i64 0) 1 8 Tryz.underlying40 hi az aA aB rfl (by decide) _ 0 [] rfl (yC _ _ _ _) ⟨g2,0,none⟩ N N (zd ((List.range N).map u)) rfl ?b0 ?b1 ?b2 ?b3 ?b4 ?b5 ?_)
 case b0=>simp[zd]
 case b1=>exact zmF aw.out
 case b2=>exact zly
 case b3=>unfold maxLen;omega
 case b4=>omega
 case b5=>omega
 intro v1 w1 aa ag _;have al:Hid (w1.ownsRow (w.heap.size+2) 3 1 v1 N (zd ((List.range N).map u))):=by
  show World.ownsRow _ _ _ _ _ _ _
  first|exact aa|(rw[yat,yax] at aa;exact aa)
 have ac:Below W.heap.size W w1:=(yk _ W).grown ag (yh _) (λx hx=>by cases hx);have aC:=hid ac;have am:=hid (ax.out.block (ac.block _ ax.out.lt));have e4:w1.cell? ⟨w.heap.size,4,none⟩=_:=(ac.cell (by show w.heap.size<_;omega)).trans d4;have l1:w.heap.size<w1.heap.size:=by have:=ac.size;omega
 have aF:w.heap.size+2<=w1.heap.size:=by have:=ac.size;omega
 have ak:=hid ((ac.block _ (by omega)).trans au.out);obtain⟨a1,c1,rfl,_,_⟩:=zg al.out;clear aa ag ac d3 d4 aw;go_wp2_with(at_builtin;refine yy _ rfl _ _ 40 rfl (w.heap.size+2) 3 i0 (.int .i64 0) 1 8 Tryz.underlying40 hi az aA aB rfl (by decide) _ N (zd ((List.range N).map u)) rfl al.out ⟨g3,0,none⟩ N N (zd ((List.range N).map v)) rfl ?b0 ?b1 ?b2 ?b3 ?b4 ?b5 ?_)
 case b0=>simp[zd]
 case b1=>exact zmF am.out
 case b2=>exact zly
 case b3=>unfold maxLen;omega
 case b4=>omega
 case b5=>omega
 intro v2 w2 ad ah _;have av:Hid (w2.ownsRow (w.heap.size+2) 3 1 v2 (N+N) (zd ((List.range N).map u++(List.range N).map v))):=by show World.ownsRow _ _ _ _ _ _ _;rw[zaY];exact ad
 have ar:Hid (Below (w.heap.size+2) W w2):=(show Below (w.heap.size+2) W w1 by have h:=aC.out;rw[aG] at h;exact h).grown ah aF (λx hx=>(al.out.lt x hx).1);have ab:=(ar.out.block (w.heap.size+1) (by omega)).trans au.out;have l2:w.heap.size+1<w2.heap.size:=(yc.1 ab).1;have r0:w2.cell? ⟨w.heap.size+1,0,none⟩=_:=yi w2 _ 0 _ _ _ ab;have r1:w2.cell? ⟨w.heap.size+1,1,none⟩=_:=yi w2 _ 1 _ _ _ ab;have f0:=yv w2 (w.heap.size+1) 0 _ _ ab;have f1:=yv w2 (w.heap.size+1) 1 _ _ ab;obtain⟨a2,c2,rfl,_,_⟩:=zg av.out;clear ad ah ab e4 ak;go_wp2_with fail;refine yB (v:=.agg #[.int .i64 2,.slice a2 (N+N) c2]) (by simp[results,Tryz.results139,go_sem,r0,r1]) rfl ?_;have aq:(za6 N u v).2.length=N+N:=by simp[za6]
 refine⟨_,rfl,?_,?_⟩
 ·rw[aq];show World.ownsRow _ _ _ _ _ _ (zd ((List.range N).map u++(List.range N).map v));exact zan (zaQ (zaQ av.out (by omega)) (by omega)) (by omega)
 have hB:Below w.heap.size w w2:=aD.out.trans (ar.out.mono (by omega));exact(hB.setCell (by show w.heap.size<=w.heap.size+1;omega) _).setCell (by show w.heap.size<=w.heap.size+1;omega) _
theorem zkC{R:zP}:(zah R).length<=R.flatten.length+R.length:=by
 cases R with
 | nil=>simp[zah]
 | cons ρ R=>
  have h:∀L:zP,((L.map λρ=>47::zbB ρ).flatten).length=L.flatten.length+L.length:=by
   intro L;induction L with
   | nil=>rfl
   | cons σ L ih=>simp only[yE,yM,yz,yJ,ih];simp[zbB];omega
  show (zbB ρ++_).length<=_;rw[yz,h,yM,yz,yJ];simp[zbB];omega
theorem ziU(w:World)(p k:Nat)(u:Value):zbh w (w.setCell ⟨p,k,none⟩ u) p:=⟨by simp,λq _ h=>yt w _ _ q h⟩
theorem zqg(w0 w:World)(p:Nat)(r:Rd)(vl:Value)(fc:Option zP)(P:zo)(R:zP)(vs vf vf2:Value)(ac:zE r)(hw:zaP w0 w p r vl fc P vs vf vf2)(hs:StR w0 vs r)(hq:SqR w0 vf (r.stops.length+1) (za r))(hl:(zah R).length<=100)(ae:zO (zb r (za r)) R->∃S,zI r (za r) (zah R)=(zR (zb r (za r)) R,some S,0))(af:¬zO (zb r (za r)) R->(zI r (za r) (zah R)).2.2≠0):Calls Tryz.prog 143 #[.pointer (some ⟨p,0,none⟩),.string ⟨(zah R).toArray⟩] w λe w'=>(zO (zb r (za r)) R->e=.returned (.bool true)/\zaP w0 w' p r vl (some R) P vs vf vf2/\zbh w w' p)/\(¬zO (zb r (za r)) R->e=.returned (.bool false)/\Below w.heap.size w w'):=by
 have ah:(⟨(zah R).toArray⟩:ByteArray).size<=maxLen:=by show (zah R).toArray.size<=_;rw[ybT];unfold maxLen;omega
 have HJ:=hid (zoy p r (za r) ⟨(zah R).toArray⟩ vs vf w ah ac (hw.area hs hq) (zaB ac));have ad:(⟨(zah R).toArray⟩:ByteArray).data.toList=zah R:=by simp
 rw[ad] at HJ;have hpl:=hw.arcs.lt;have HW:=hid hw;by_cases hp:zO (zb r (za r)) R
 ·obtain⟨S,hj⟩:=ae hp;rw[hj] at HJ;have HP:=hid hp;clear ae af hw hp hj ad hs hq ac;go_in;go_wp2_with fail;refine HJ.out.mono ?_;rintro e1 w1⟨v,rfl,_,hS,ab⟩;obtain⟨ag,_,_⟩:=hS S rfl;obtain⟨a1,c1,rfl,_,_⟩:=zg ag;have aa:=hid (HW.out.mv ab);have HK:Hid (zbh w w1 p):=zbh.of_below ab;have f76:=aa.out.arcs.frozen 76;have f77:=aa.out.arcs.frozen 77;have f78:=aa.out.arcs.frozen 78;have c76:=zfQ aa.out;have c77:=zih aa.out;have c78:=zga aa.out;have hpl1:=aa.out.arcs.lt;clear hS ab HJ HW ag;go_wp2_with fail;go_ret;exact⟨λ_=>⟨rfl,zmZ aa.out R,((HK.out.trans (ziU w1 p 76 _)).trans (ziU _ p 77 _)).trans (ziU _ p 78 _)⟩,λh=>absurd HP.out h⟩
 have hj:=af hp;have HP:=hid hp;obtain⟨x,hx⟩:∃x,x=zI r (za r) (zah R):=⟨_,rfl⟩
 rw[<-hx] at HJ hj;obtain⟨x1,x2,x3⟩:=x;have b1:(x3 != 0)=true:=by simpa using hj
 clear ae af hw hp hj ad hs hq ac hx;go_in;go_wp2_with fail;refine HJ.out.mono ?_;rintro e1 w1⟨v,rfl,hN,hS,ab⟩;have hv:∃a n c,v=.slice a n c:=by
  cases x2 with
  | none=>exact⟨none,0,0,hN rfl⟩
  | some S=>obtain⟨a,c,h,_,_⟩:=zg (hS S rfl).1;exact⟨a,_,c,h⟩
 obtain⟨a1,n1,c1,rfl⟩:=hv;have HB:=hid ab;clear hN hS ab HJ HW;dsimp only;go_wp2_with fail;go_ret;exact⟨λh=>absurd h HP.out,λ_=>⟨rfl,HB.out⟩⟩
theorem ztR{r:Rd}(h:zE r)(T:Nat->Nat->Int)(N:Nat):zev (r.stops.length+N) (zX (zb r (za r)) T):=λi j _ _=>by
 have:=zpE h _ _ (zcT r.stops.length i) (zcT r.stops.length j);show -1<=zbZ r.stops.length T (za r) (zr r.stops.length i) (zr r.stops.length j)/\zbZ r.stops.length T (za r) (zr r.stops.length i) (zr r.stops.length j)<=200000;unfold zbZ;split
 ·omega
 split<;>omega
theorem zvo{k:Nat}:∀(L:zP),(∀ρ∈L,ρ.length<=k)->L.flatten.length<=k*L.length:=by
 intro L;induction L with
 | nil=>intro _;simp
 | cons ρ L ih=>intro h;have h1:=ih λx hx=>h x (by simp[hx]);have h2:=h ρ (by simp);rw[yM,yz,yJ,Nat.mul_add];omega
theorem ztn(I:Ins)(col:Nat->Int)(hv:I.vans<=3):(zah (zbe I col)).length<=100:=by
 have h1:=zkC (R:=zbe I col);have h2:=zvo (k:=7) (zbe I col) λρ hρ=>by obtain⟨f,_,rfl⟩:=yo.1 hρ;exact zsh _ _ _
 have h3:(zbe I col).length<=3:=by unfold zbe;rw[yN];have:=zjK I.n I.vans col;omega
 omega
def ziS(w0 w:World)(p:Nat)(r:Rd)(vl:Value)(fc:Option zP)(P:zo)(vs vf vf2:Value)(e:Ending)(w':World):Prop:=∃x,e=.returned (.agg #[.int .i64 (zaU (zb r (za r)) P fc).1.1,x])/\w'.ownsRow w.heap.size 3 1 x (zaU (zb r (za r)) P fc).1.2.length (zd (zaU (zb r (za r)) P fc).1.2)/\zaP w0 w' p r vl (zaU (zb r (za r)) P fc).2 P vs vf vf2/\zbh w w' p/\ze4 (zb r (za r)) P
theorem zoB{I:Ins}{P:zo}{cost:Int}{col u v:Nat->Int}(hb:za9 I P=⟨true,cost,col,u,v,λ_=>false⟩)(ht:zdd (I.n+I.vans) (zX I (zt P)) col u v cost):ze4 I P:=⟨λ_=>by rw[hb];exact ht,λh=>by rw[hb] at h;cases h⟩
theorem zpp{I:Ins}{P:zo}{S T:Nat->Bool}(hb:za9 I P=⟨false,0,λ_=>0,λ_=>0,λ_=>0,S⟩)(ht:zhT (I.n+I.vans) (zX I (zt P)) S T):ze4 I P:=⟨λh=>(by rw[hb] at h;cases h),λ_=>⟨T,by rw[hb];exact ht⟩⟩
theorem zmM{w0 w:World}{p b k:Nat}{r:Rd}{ex:Nat->Option Value}{P:zo}{vs vf vf2:Value}{cs:Array Value}(hw:zaI w0 w p r ex P vs vf vf2)(hb:w.heap[b]?=some (.cells cs 76 (0,0)))(hp:p<b)(u:Value):zaI w0 (w.setCell ⟨b,k,none⟩ u) p r ex P vs vf vf2:=by
 refine zkB hw (yt w _ _ p (by show p≠b;omega)) (λva aa q hq=>?_) ((yk p w).setCell (by show p<=b;omega) _);obtain⟨va',g1,g2⟩:=hw.above;rw[g1] at aa;cases aa;refine yt w _ _ q (λe=>?_);have e':q=b:=e;subst e';rcases g2.2 with ⟨h1,_⟩|⟨g,cap,cur,h1,_,h3,_⟩
 ·rw[h1] at hq;cases hq
 rw[h1] at hq;cases hq;rw[hb] at h3;cases h3
theorem ziY{w0 w w4:World}{p B4:Nat}{r:Rd}{vl:Value}{fc fc':Option zP}{P:zo}{vs vf vf2 xv:Value}{nd:zu}{kd:Int}{cs:Array Value}(hS:zaP w0 w4 p r vl fc' P vs vf vf2)(hK:zbh w w4 p)(ac:w4.heap[w.heap.size]?=some (.cells cs 76 (0,0)))(hp:p<w.heap.size)(ho:w4.ownsRow B4 3 1 xv nd.2.length (zd nd.2))(ab:w.heap.size<B4)(aa:zaU (zb r (za r)) P fc=(nd,fc'))(ae:nd.1=kd)(hg:ze4 (zb r (za r)) P):ziS w0 w p r vl fc P vs vf vf2 (.returned (.agg #[.int .i64 kd,xv])) ((w4.setCell ⟨w.heap.size,0,none⟩ (.int .i64 kd)).setCell ⟨w.heap.size,1,none⟩ xv):=by
 have ad:=yw w4 w.heap.size 0 _ _ (.int .i64 kd) ac;refine⟨xv,by rw[aa,<-ae],?_,?_,?_,hg⟩
 ·rw[aa];exact zan (zaQ (zaQ ho ab) ab) (by omega)
 ·rw[aa];exact zmM (zmM hS ac hp _) ad hp _
 refine⟨by simp;exact hK.1,λk hk af=>?_⟩;rw[yt _ _ _ k (by show k≠w.heap.size;omega),yt _ _ _ k (by show k≠w.heap.size;omega)];exact hK.2 k hk af
theorem ztH(w0 w:World)(p B:Nat)(r:Rd)(vl:Value)(fc:Option zP)(P:zo)(vs vf:Value)(af:Option Addr)(cf:Nat)(an:zE r)(hT:zdX B w)(hB:B<=p)(hw:zaP w0 w p r vl fc P vs vf (.slice af (r.stops.length+1:Nat) cf))(hs:StR w0 vs r)(hq:SqR w0 vf (r.stops.length+1) (za r))(cm:SqR w0 (.slice af (r.stops.length+1:Nat) cf) (r.stops.length+1) (za r)):Calls Tryz.prog 88 #[.pointer (some ⟨p,0,none⟩)] w (ziS w0 w p r vl fc P vs vf (.slice af (r.stops.length+1:Nat) cf)):=by
 have aG:=an.nstops;have ck:=zaH.1 an.head;obtain⟨v,hv⟩:∃v:Nat,r.vans=v:=⟨r.vans.toNat,by omega⟩
 have cn:1<=v:=by omega
 have bI:v<=3:=by omega
 have ah:r.vans.toNat=v:=by rw[hv];simp
 have bE:=hw.arcs.lt;have b2:Below w0.heap.size w0 w:=by rw[hw.size];exact hw.below
 have bW:Hid (∀W,Below w.heap.size w W->Calls Tryz.prog 121 #[.pointer (some ⟨p,8,none⟩)] W λe w'=>∃x,e=.returned x/\zbj w' W.heap.size x (r.stops.length+v) (zX (zb r (za r)) (zt P))/\Below W.heap.size W w'):=λW hW=>
  zpw p 8 r (zt P) (za r) _ r.stops.length v (r.stops.length+v) W aG hv cn bI rfl (hw.arcs.below hW) ((cm.below b2).below hW);have bM:Hid (∀W x,zbj W w.heap.size x (r.stops.length+v) (zX (zb r (za r)) (zt P))->Calls Tryz.prog 112 #[x] W (zkS W (r.stops.length+v) (zX (zb r (za r)) (zt P)))):=λW x hx=>
  zs6 _ _ x W (by omega) (hx.sq (by omega)) (ztR an (zt P) v);have HW:=hid hw;have bV:Hid (zgz (r.stops.length+v) (zX (zb r (za r)) (zt P))=za9 (zb r (za r)) P):=by show _=zgz (r.stops.length+r.vans.toNat) _;rw[ah]
 obtain⟨W1,bc⟩:∃W1,W1=w.alloc (.cells #[.int .i64 0,.slice none 0 0] 76):=⟨_,rfl⟩
 have be:Hid (Below w.heap.size w W1):=by show Below _ _ _;rw[bc];exact zj w _
 have aE:W1.heap[w.heap.size]?=some (.cells #[.int .i64 0,.slice none 0 0] 76 (0,0)):=by rw[bc];exact yx w _
 have bg:=hid aE;have cl:w.heap.size<W1.heap.size:=(yc.1 aE).1;have br:=hid bc;clear bc aE hw ck b2;go_in;go_wp2_with fail;rw[<-br.out];refine(bW.out _ be.out).mono ?_;rintro e2 w2⟨x2,rfl,b4,bt⟩;have bL:Hid (Below w.heap.size w w2):=be.out.trans (bt.mono be.out.size);have aP:=hid ((bt.block _ cl).trans bg.out);have bB:w.heap.size<w2.heap.size:=(yc.1 aP.out).1;have bf:=hid (bM.out w2 x2 (b4.base (by omega)));obtain⟨g2,_,rfl,_⟩:=b4;clear bt bW bM;go_wp2_with fail;refine bf.out.mono ?_;rintro e3 w3⟨bd,a0⟩;have a6:Hid (Below w.heap.size w w3):=bL.out.trans (bd.mono bL.out.size);have ag:=hid ((bd.block _ bB).trans aP.out);have b5:w.heap.size<w3.heap.size:=(yc.1 ag.out).1;rcases a0 with ⟨g1,aT,g3,col,u,v',cost,rfl,a3,aY⟩|⟨x,S,U,rfl,⟨bC,b7⟩,aY⟩
 ·obtain⟨k1,k2,k3,n12,n13,n23,bF,bG,bH,b8⟩:=a3;have ar:Hid (za9 (zb r (za r)) P=⟨true,cost,col,u,v',λ_=>false⟩):=by show _=_;rw[<-bV.out,aY]
  have bq:Hid (zdd ((zb r (za r)).n+(zb r (za r)).vans) (zX (zb r (za r)) (zt P)) col u v' cost):=by show zdd (r.stops.length+r.vans.toNat) _ _ _ _ _;rw[ah];exact b8
  have HG:Hid (ze4 (zb r (za r)) P):=zoB ar.out bq.out;have bp:=hid (zjz bq.out);obtain⟨W3,aU⟩:∃W3,W3=w3.alloc (.cells #[.bool true,.int .i64 cost,.slice (some ⟨g1,0,none⟩) (r.stops.length+v) (r.stops.length+v),.slice (some ⟨aT,0,none⟩) (r.stops.length+v) (r.stops.length+v),.slice (some ⟨g3,0,none⟩) (r.stops.length+v) (r.stops.length+v),.slice none 0 0] 125):=⟨_,rfl⟩
  have aK:Below w3.heap.size w3 W3:=by rw[aU];exact zj w3 _
  have hzW:W3.heap.size=w3.heap.size+1:=by rw[aU];simp
  have bT:=hid (bF.block (aK.block _ bF.lt));have a7:=hid (bG.block (aK.block _ bG.lt));have a9:=hid (bH.block (aK.block _ bH.lt));have bx:W3.heap[w3.heap.size]?=some (.cells #[.bool true,.int .i64 cost,.slice (some ⟨g1,0,none⟩) (r.stops.length+v) (r.stops.length+v),.slice (some ⟨aT,0,none⟩) (r.stops.length+v) (r.stops.length+v),.slice (some ⟨g3,0,none⟩) (r.stops.length+v) (r.stops.length+v),.slice none 0 0] 125 (0,0)):=by rw[aU];exact yx w3 _
  have ca:=hid bx;obtain⟨ml,m0,m1,m2,m3,m4,m5,mf⟩:=zhw bx;have ai:Hid (Below w.heap.size w W3):=a6.out.trans (aK.mono (by omega));have ab:=hid ((aK.block _ b5).trans ag.out);have r0:W3.cell? ⟨w.heap.size,0,none⟩=_:=yi W3 _ 0 _ _ _ ab.out;have r1:W3.cell? ⟨w.heap.size,1,none⟩=_:=yi W3 _ 1 _ _ _ ab.out;have f0:=yv W3 w.heap.size 0 _ _ ab.out;have f1:=yv W3 w.heap.size 1 _ _ ab.out;have bs:=hid (HW.out.mv ai.out);have hplW:=bs.out.arcs.lt;have ao:=zfQ bs.out;have aM:=zga bs.out;have aS:=hid aU;have bO:Hid (∀W,Below W3.heap.size W3 W->Calls Tryz.prog 139 #[.agg #[.bool true,.int .i64 cost,.slice (some ⟨g1,0,none⟩) (r.stops.length+v) (r.stops.length+v),.slice (some ⟨aT,0,none⟩) (r.stops.length+v) (r.stops.length+v),.slice (some ⟨g3,0,none⟩) (r.stops.length+v) (r.stops.length+v),.slice none 0 0]] W λe w'=>∃x,e=.returned (.agg #[.int .i64 2,x])/\w'.ownsRow W.heap.size 3 1 x (za6 (r.stops.length+v) u v').2.length (zd (za6 (r.stops.length+v) u v').2)/\Below W.heap.size W w'):=λW hW=>zj6 _ g1 aT g3 u v' cost W (by omega) (a7.out.block (hW.block _ a7.out.lt)) (a9.out.block (hW.block _ a9.out.lt));clear aU bx aK bF bG bH b8 aY bf bd;by_cases aL:∃R,fc=some R/\zR (zb r (za r)) R<=cost
  ·have ak:Hid (zaU (zb r (za r)) P fc=(za6 (r.stops.length+v) u v',fc)):=by show _=_;unfold zaU;rw[ar.out,ye (by simp),yg aL];show (za6 (r.stops.length+r.vans.toNat) u v',fc)=_;rw[ah]
   obtain⟨R,hR,hle⟩:=aL;rw[hR] at ao aM;have a5:W3.cell? ⟨p,76,none⟩=some (.bool true):=ao;have bK:W3.cell? ⟨p,78,none⟩=some (.int .i64 (zR (zb r (za r)) R)):=aM;generalize zR (zb r (za r)) R=cR at*;clear ao aM hR;go_wp2_with fail;rw[<-aS.out];go_quiet (fail);go_wp2_with fail;refine(bO.out _ (zC (yk _ _) _)).mono ?_;rintro e4 w4⟨x,rfl,aH,aX⟩;have aa:Below W3.heap.size W3 w4:=(zC (yk _ _) _).trans aX;have aO:Hid (Below w.heap.size w w4):=ai.out.trans (aa.mono ai.out.size);have ac:=(aa.block _ (by omega)).trans ab.out;have bh:=hid ac;have ce:Hid (w4.ownsRow W3.heap.size 3 1 x (za6 (r.stops.length+v) u v').2.length (zd (za6 (r.stops.length+v) u v').2)):=aH;have y0:w4.cell? ⟨w.heap.size,0,none⟩=_:=yi w4 _ 0 _ _ _ ac;have y1:w4.cell? ⟨w.heap.size,1,none⟩=_:=yi w4 _ 1 _ _ _ ac;have ly:w.heap.size<w4.heap.size:=(yc.1 ac).1;have bZ:=yv w4 w.heap.size 0 _ _ ac;have b0:=yv w4 w.heap.size 1 _ _ ac;obtain⟨ax,cx,rfl,_,_⟩:=zg aH;clear aH aX aa ac bO;go_wp2_with fail;refine yB (v:=.agg #[.int .i64 2,.slice ax (za6 (r.stops.length+v) u v').2.length cx]) (by simp[results,Tryz.results88,go_sem,y0,y1]) rfl ?_;exact ziY (HW.out.mv aO.out) (zbh.of_below aO.out) bh.out bE ce.out (by omega) ak.out rfl HG.out
  have az:Hid (zO (zb r (za r)) (zbe (zb r (za r)) col)->zaU (zb r (za r)) P fc=(za6 (r.stops.length+v) u v',some (zbe (zb r (za r)) col))):=λhp=>by unfold zaU;rw[ar.out,ye (by simp),ye aL,yg hp];show (za6 (r.stops.length+r.vans.toNat) u v',_)=_;rw[ah]
  have aA:Hid (¬zO (zb r (za r)) (zbe (zb r (za r)) col)->zaU (zb r (za r)) P fc=(zcW (zt P) (zea (zb r (za r)) (zt P) (bhQ r.stops.length col) (fsQ r.stops.length v col)),fc)):=λhp=>by unfold zaU;rw[ar.out,ye (by simp),ye aL,ye hp];show (zcW (zt P) (zea (zb r (za r)) (zt P) (bhQ r.stops.length col) (fsQ r.stops.length r.vans.toNat col)),fc)=_;rw[ah]
  have al:Hid (zcA (zb r (za r)) (bhQ r.stops.length col) (fsQ r.stops.length v col)):=by have h:=bp.out;show zcA _ _ _;rw[<-ah];exact h
  have bU:Hid (zbe (zb r (za r)) col=(fsQ r.stops.length v col).map (rtQ (bhQ r.stops.length col) 7)):=by show (fsQ r.stops.length r.vans.toNat col).map _=_;rw[ah];rfl
  have bP:=hid (zoe an (col:=col) aG (by have h:=bp.out;exact h));have bR:Hid (∀W,Below w.heap.size w W->Calls Tryz.prog 140 #[.pointer (some ⟨p,8,none⟩)] W λe w'=>∃x,e=.returned x/\w'.ownsRow W.heap.size 3 1 x (r.stops.length+v) (zd ((List.range (r.stops.length+v)).map λi=>(zr r.stops.length i:Int)))/\Below W.heap.size W w'):=λW hW=>by rw[<-zgK];exact zhc p 8 r (zt P) af cf r.stops.length v W aG hv bI ((HW.out.mv hW).arcs)
  have cj:(W3.cell? ⟨p,76,none⟩=some (.bool false))\/(∃cR,W3.cell? ⟨p,76,none⟩=some (.bool true)/\W3.cell? ⟨p,78,none⟩=some (.int .i64 cR)/\cost<cR):=by
   cases bz:fc with
   | none=>rw[bz] at ao;exact .inl ao
   | some R=>rw[bz] at ao aM;exact .inr ⟨zR (zb r (za r)) R,ao,aM,by have h:¬zR (zb r (za r)) R<=cost:=λh=>aL ⟨R,bz,h⟩;omega⟩
  clear ao aM aL bp;rcases cj with a5|⟨cR,a5,bK,hlt⟩
  all_goals
   go_wp2_with fail;rw[<-aS.out];go_quiet (fail);go_wp2_with fail;refine(bR.out _ (zC ai.out _)).mono ?_;rintro e4 w4⟨x4,rfl,aH,aX⟩;have aa:Below W3.heap.size W3 w4:=(zC (yk _ _) _).trans aX;obtain⟨a4,c4,rfl,_,_⟩:=zg aH;have bQ:Hid (zaR w4 (.slice a4 (r.stops.length+v) c4) ((List.range (r.stops.length+v)).map λi=>(zr r.stops.length i:Int))):=zaR.own (by rw[yN,yaD];exact aH);have aO:Hid (Below W3.heap.size W3 w4):=aa;have z2:=zc aa m2 ml;have lz:=ya ml aa.size;have bX:=hid (zo8 r.stops.length v g1 col _ w4 aG bI bQ.out (bT.out.block (aa.block _ bT.out.lt)) (λi hi=>by obtain⟨k,h1,h2,_⟩:=bq.out.tcol i (by show i<r.stops.length+r.vans.toNat;rw[ah];exact hi);have b1:k<r.stops.length+r.vans.toNat:=h2;rw[ah] at b1;exact⟨k,h1,b1⟩));clear aH aX aa bR;go_wp2_with fail;refine bX.out.mono ?_;rintro e5 w5⟨t,rfl,htl,aJ,b3⟩;have aB:Below W3.heap.size W3 w5:=aO.out.trans (b3.mono aO.out.size);have au:Hid (Below w.heap.size w w5):=ai.out.trans (aB.mono ai.out.size);have ap:=hid aB;have aR:=hid aJ;have bm:=hid (zss B t r.stops.length _ _ w5 (hT.on au.out (by omega)) (by have:=au.out.size;omega) aG (λf hf=>(al.out.fr f hf).2) (by have:=zjK r.stops.length v col;omega) al.out.rng aJ);rw[<-bU.out] at bm;clear aJ b3 aB bX bQ z2;go_wp2_with fail;refine bm.out.mono ?_;rintro e6 w6⟨rfl,bu⟩;have aC:Below W3.heap.size W3 w6:=ap.out.trans (bu.mono ap.out.size);have av:Hid (Below w.heap.size w w6):=ai.out.trans (aC.mono ai.out.size);have aj:=hid aC;have bo:=hid (aR.out.below bu);have bb:=hid (zqg w0 w6 p r vl fc P (zbe (zb r (za r)) col) vs vf _ an (HW.out.mv av.out) hs hq (ztn _ _ (by show r.vans.toNat<=3;omega)) bP.out.1 bP.out.2);have HSA6:=hid (HW.out.mv av.out);clear bu aC bm ap aR au;by_cases hp:zO (zb r (za r)) (zbe (zb r (za r)) col)
   ·have ak:=hid (az.out hp);have HP:=hid hp;clear az aA hp;go_wp2_with fail;refine bb.out.mono ?_;rintro e7 w7⟨h7,_⟩;obtain⟨rfl,b6,bA⟩:=h7 HP.out;have hz6:W3.heap.size<=w6.heap.size:=aj.out.size;have a2:∀k,k<W3.heap.size->k≠p->w7.heap[k]?=W3.heap[k]?:=λk h1 h2=>(bA.2 k (by omega) h2).trans (aj.out.block k h1);have ba:=hid b6;have cb:Hid (zbh w w7 p):=(zbh.of_below av.out).trans bA;have aZ:=(a2 w3.heap.size ml (by omega)).trans ca.out;obtain⟨ml7,q0,q1,q2,q3,q4,q5,qf⟩:=zhw aZ;have aF:=(a2 w.heap.size (by omega) (by omega)).trans ab.out;have bN:=hid (zj6 (r.stops.length+v) g1 aT g3 u v' cost w7 (by omega) (a7.out.block (a2 _ a7.out.lt (by omega))) (a9.out.block (a2 _ a9.out.lt (by omega))));have bi:=hid aF;have b9:w.heap.size<w7.heap.size:=(yc.1 aF).1;have co:w.heap.size<w7.heap.size:=b9;clear h7 b6 bA a2 aZ aF bb;go_wp2_with fail;refine bN.out.mono ?_;rintro e8 w8⟨x8,rfl,aI,am⟩;have ad:=(am.block _ b9).trans bi.out;have bj:=hid ad;have bn:=hid (ba.out.mv am);have cc:Hid (zbh w w8 p):=cb.out.trans (zbh.of_below am);have cg:=hid aI;have y0:w8.cell? ⟨w.heap.size,0,none⟩=_:=yi w8 _ 0 _ _ _ ad;have y1:w8.cell? ⟨w.heap.size,1,none⟩=_:=yi w8 _ 1 _ _ _ ad;have ly:w.heap.size<w8.heap.size:=(yc.1 ad).1;have bZ:=yv w8 w.heap.size 0 _ _ ad;have b0:=yv w8 w.heap.size 1 _ _ ad;obtain⟨ax,cx,rfl,_,_⟩:=zg aI;clear aI am ad bN;go_wp2_with fail;refine yB (v:=.agg #[.int .i64 2,.slice ax (za6 (r.stops.length+v) u v').2.length cx]) (by simp[results,Tryz.results88,go_sem,y0,y1]) rfl ?_;exact ziY bn.out cc.out bj.out bE cg.out co ak.out rfl HG.out
   ·have ak:=hid (aA.out hp);have HP:=hid hp;have bl:=hid (zn1 (zeS an (λa b h1 h2=>(zaB an a b h1 h2).1)) aG al.out (zt P) (by rw[<-bU.out];exact hp));clear az aA hp;go_wp2_with fail;refine bb.out.mono ?_;rintro e7 w7⟨_,h7⟩;obtain⟨rfl,bv⟩:=h7 HP.out;have aD:Below W3.heap.size W3 w7:=aj.out.trans (bv.mono aj.out.size);have aw:Hid (Below w.heap.size w w7):=ai.out.trans (aD.mono ai.out.size);have ba:=hid (HW.out.mv aw.out);have aq:=hid aD;have bY:=hid (zsd p t r (za r) (zt P) _ _ vs vf af cf w7 an (ba.out.area hs hq) ba.out.arcs (zaB an) (bo.out.below bv) al.out (by have:=zjK r.stops.length v col;omega));clear h7 bv aD bb;go_wp2_with fail;refine bY.out.mono ?_;rintro e8 w8⟨x8,rfl,aI,am⟩;have ay:Hid (Below w.heap.size w w8):=aw.out.trans (am.mono aw.out.size);have bn:=hid (HW.out.mv ay.out);have aV:Below W3.heap.size W3 w8:=aq.out.trans (am.mono aq.out.size);have aN:=hid aV;have hz8:W3.heap.size<=w7.heap.size:=aq.out.size;have bS:=hid (zr4 p w7.heap.size r (zt P) af cf r.stops.length _ x8 w8 aG bn.out.arcs aI am.size (yaQ.2 bl.out.ok.ne) (by have:=bl.out.len;omega) bl.out.ok.rng);obtain⟨a8,c8,rfl,_,_⟩:=zg aI;generalize zea (zb r (za r)) (zt P) (bhQ r.stops.length col) (fsQ r.stops.length v col)=ch at*;clear aI am aV bY;go_wp2_with fail;refine bS.out.mono ?_;rintro e9 w9⟨x9,rfl,bD,bw⟩;have aQ:Hid (Below w.heap.size w w9):=ay.out.trans (bw.mono ay.out.size);have aW:Below W3.heap.size W3 w9:=aN.out.trans (bw.mono aN.out.size);have ae:=(aW.block _ (by omega)).trans ab.out;have bk:=hid ae;have ci:=hid bD;have y0:w9.cell? ⟨w.heap.size,0,none⟩=_:=yi w9 _ 0 _ _ _ ae;have y1:w9.cell? ⟨w.heap.size,1,none⟩=_:=yi w9 _ 1 _ _ _ ae;have ly:w.heap.size<w9.heap.size:=(yc.1 ae).1;have bZ:=yv w9 w.heap.size 0 _ _ ae;have b0:=yv w9 w.heap.size 1 _ _ ae;obtain⟨ax,cx,rfl,_,_⟩:=zg bD;clear bD bw aW ae bS;go_wp2_with fail;refine yB (v:=.agg #[.int .i64 (zcW (zt P) ch).1,.slice ax (zcW (zt P) ch).2.length cx]) (by simp[results,Tryz.results88,go_sem,y0,y1]) rfl ?_;exact ziY (HW.out.mv aQ.out) (zbh.of_below aQ.out) bk.out bE ci.out (by omega) ak.out rfl HG.out
 have ar:Hid (za9 (zb r (za r)) P=⟨false,0,λ_=>0,λ_=>0,λ_=>0,S⟩):=by show _=_;rw[<-bV.out,aY]
 have HG:Hid (ze4 (zb r (za r)) P):=zpp ar.out (by show zhT (r.stops.length+r.vans.toNat) _ _ _;rw[ah];exact b7);have ak:Hid (zaU (zb r (za r)) P fc=(zfS (r.stops.length+v) S,fc)):=by show _=_;unfold zaU;rw[ar.out,yg rfl];show (zfS (r.stops.length+r.vans.toNat) S,fc)=_;rw[ah]
 have cd:=hid bC;obtain⟨ax,cx,rfl,_,_⟩:=zg bC;have HW3:=hid (HW.out.mv a6.out);have HK3:Hid (zbh w w3 p):=zbh.of_below a6.out;have r0:w3.cell? ⟨w.heap.size,0,none⟩=_:=yi w3 _ 0 _ _ _ ag.out;have r1:w3.cell? ⟨w.heap.size,1,none⟩=_:=yi w3 _ 1 _ _ _ ag.out;have f0:=yv w3 w.heap.size 0 _ _ ag.out;have f1:=yv w3 w.heap.size 1 _ _ ag.out;clear bC b7 aY bf bd;go_wp2_with fail;refine yB (v:=.agg #[.int .i64 3,.slice ax ((List.range (r.stops.length+v)).filter S).length cx]) (by simp[results,Tryz.results88,go_sem,r0,r1,b5]) rfl ?_;obtain⟨w4,bJ⟩:∃w4,w4=((w3.setCell ⟨w.heap.size,0,none⟩ (.int .i64 3)).setCell ⟨w.heap.size,1,none⟩ (.slice ax ((List.range (r.stops.length+v)).filter S).length cx)).alloc (.cells #[.bool false,.int .i64 0,.slice none 0 0,.slice none 0 0,.slice none 0 0,.slice ax ((List.range (r.stops.length+v)).filter S).length cx] 125):=⟨_,rfl⟩
 rw[<-bJ];have a1:Below w.heap.size w w4:=by rw[bJ];exact((a6.out.setCell (by exact yh _) _).setCell (by exact yh _) _).alloc (by simp;omega) _
 refine⟨_,by rw[ak.out];rfl,?_,by rw[ak.out];exact HW.out.mv a1,zbh.of_below a1,HG.out⟩;rw[ak.out,bJ];show World.ownsRow _ _ _ _ _ (((List.range (r.stops.length+v)).filter S).map λ(i:Nat)=>(i:Int)).length _;rw[yN];exact zan ((zaQ (zaQ cd.out bB) bB).alloc _) (by omega)
end Go.Proofs.YtebinaopncclgabGreatDoor
