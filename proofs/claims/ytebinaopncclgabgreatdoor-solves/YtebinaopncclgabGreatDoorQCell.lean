import Derived.Test.YtebinaopncclgabGreatDoorAPlain
import Derived.Test.YtebinaopncclgabGreatDoorTPlain
import Derived.Test.YtebinaopncclgabGreatDoorCSq
set_option maxRecDepth 100000
set_option maxHeartbeats 8000000
namespace Go.Proofs.YtebinaopncclgabGreatDoor
structure Ins where
 n:Nat
 vans:Nat
 load:Int
 close:Int
 D:Nat->Nat->Int
 want:Nat->Int
 frm:Nat->Int
 till:Nat->Int
 stay:Nat->Int
structure zbu (I:Ins):Prop where
 close:0<=I.close
 load:0<=I.load
 want:∀s,1<=s->s<=I.n->0<=I.want s
 frm:∀s,1<=s->s<=I.n->0<=I.frm s/\I.frm s<=I.till s
 stay:∀s,1<=s->s<=I.n->0<=I.stay s
 D:∀a b,a<=I.n->b<=I.n->-1<=I.D a b
def zaG(I:Ins)(t:Int)(s:Nat):Option Int:=if s=0 then (if t<=I.close then some t else none) else if (if t<I.frm s then I.frm s else t)<=I.till s then some ((if t<I.frm s then I.frm s else t)+I.stay s) else none
def zcd(I:Ins):Int->Nat->List Nat->Bool
 | _,_,[]=>true
 | t,p,s::l=>match zaG I (t+I.D p s) s with
  | none=>false
  | some t'=>zcd I t' s l
def zd7(I:Ins):List Nat->Bool
 | []=>true
 | s::l=>match zaG I 0 s with
  | none=>false
  | some t=>zcd I t s l
theorem zem(I:Ins)(t:Int)(p s:Nat)(l:List Nat):zcd I t p (s::l)=match zaG I (t+I.D p s) s with|none=>false|some t'=>zcd I t' s l:=rfl
theorem zs2{I:Ins}{t t' u:Int}{s:Nat}(h:t<=t')(ha:zaG I t' s=some u):∃v,zaG I t s=some v/\v<=u:=by
 unfold zaG at ha⊢;by_cases h0:s=0
 ·rw[if_pos h0] at ha⊢;by_cases h1:t'<=I.close
  ·rw[if_pos h1] at ha;cases ha;rw[if_pos (by omega)];exact⟨t,rfl,h⟩
  rw[if_neg h1] at ha;cases ha
 rw[if_neg h0] at ha⊢;by_cases h1:(if t'<I.frm s then I.frm s else t')<=I.till s
 ·rw[if_pos h1] at ha;cases ha;have h2:(if t<I.frm s then I.frm s else t)<=(if t'<I.frm s then I.frm s else t'):=by split<;>split<;>omega
  rw[if_pos (by omega)];exact⟨_,rfl,by omega⟩
 rw[if_neg h1] at ha;cases ha
theorem ztA{I:Ins}:∀(l:List Nat) {t t':Int} {p:Nat},t<=t'->zcd I t' p l=true->zcd I t p l=true:=by
 intro l;induction l with
 | nil=>intro _ _ _ _ _;rfl
 | cons s l ih=>
  intro t t' p h hr;rw[zem] at hr⊢;cases ha:zaG I (t'+I.D p s) s with
  | none=>rw[ha] at hr;cases hr
  | some u=>rw[ha] at hr;obtain⟨v,h1,h2⟩:=zs2 (t:=t+I.D p s) (by omega) ha;rw[h1];exact ih h2 hr
theorem znJ{I:Ins}:∀(a b:List Nat) {t:Int} {p:Nat},zcd I t p (a++b)=true->zcd I t p a=true:=by
 intro a;induction a with
 | nil=>intro _ _ _ _;rfl
 | cons s a ih=>
  intro b t p h;rw[List.cons_append,zem] at h;rw[zem];cases ha:zaG I (t+I.D p s) s with
  | none=>rw[ha] at h;cases h
  | some u=>rw[ha] at h;exact ih b h
theorem zvu{I:Ins}(hI:zbu I){s:Nat}(hs:1<=s/\s<=I.n):∀(a b:List Nat) {t:Int} {p:Nat},zcd I t p (a++s::b)=true->zd7 I (s::b)=true:=by
 intro a;induction a with
 | nil=>
  intro b t p h;rw[List.nil_append,zem] at h;have hf:=hI.frm s hs.1 hs.2;have e:zaG I 0 s=some (I.frm s+I.stay s):=by
   unfold zaG;rw[if_neg (by omega)];have e:(if (0:Int)<I.frm s then I.frm s else 0)=I.frm s:=by split<;>omega
   rw[e,if_pos hf.2]
  cases ha:zaG I (t+I.D p s) s with
  | none=>rw[ha] at h;cases h
  | some u=>
   rw[ha] at h;have hu:I.frm s+I.stay s<=u:=by
    unfold zaG at ha;rw[if_neg (by omega)] at ha;by_cases h1:(if t+I.D p s<I.frm s then I.frm s else t+I.D p s)<=I.till s
    ·rw[if_pos h1] at ha;have:=Option.some.inj ha;rw[<-this];split<;>omega
    rw[if_neg h1] at ha;cases ha
   show (match zaG I 0 s with|none=>false|some t=>zcd I t s b)=true;rw[e];exact ztA b hu h
 | cons x a ih=>
  intro b t p h;rw[List.cons_append,zem] at h;cases ha:zaG I (t+I.D p x) x with
  | none=>rw[ha] at h;cases h
  | some u=>rw[ha] at h;exact ih b h
def zbv(ρ:List Nat):List (Nat×Nat):=(0::ρ).zip (ρ++[0])
def zaE(R:List (List Nat)):List (Nat×Nat):=(R.map zbv).flatten
def zc2(D:Nat->Nat->Int)(A:List (Nat×Nat)):Int:=(A.map λp=>D p.1 p.2).sum
def zbn(I:Ins)(l:List Nat):Int:=(l.map λs=>if s=0 then 0 else I.want s).sum
structure zO (I:Ins) (R:List (List Nat)):Prop where
 few:R.length<=I.vans
 ne:∀ρ∈R,ρ≠[]
 stops:∀s∈R.flatten,1<=s/\s<=I.n
 once:R.flatten.Nodup
 all:∀s,1<=s->s<=I.n->s∈R.flatten
 load:∀ρ∈R,zbn I ρ<=I.load
 way:∀p∈zaE R,I.D p.1 p.2≠-1
 time:∀ρ∈R,zcd I 0 0 (ρ++[0])=true
def zR(I:Ins)(R:List (List Nat)):Int:=zc2 I.D (zaE R)
theorem zcb(I:Ins)(a b:List Nat):zbn I (a++b)=zbn I a+zbn I b:=by simp[zbn]
theorem zi3{I:Ins}(hI:zbu I):∀(l:List Nat),(∀s∈l,s<=I.n)->0<=zbn I l:=by
 intro l;induction l with
 | nil=>intro _;simp[zbn]
 | cons s l ih=>
  intro h;have h1:=ih λx hx=>h x (by simp[hx]);have h2:=h s (by simp);unfold zbn at h1⊢;simp only[List.map_cons,List.sum_cons];by_cases h0:s=0
  ·rw[if_pos h0];omega
  rw[if_neg h0];have:=hI.want s (by omega) h2;omega
def nbr:List Nat->List (Nat×Nat)
 | []=>[]
 | [_]=>[]
 | a::b::l=>(a,b)::nbr (b::l)
theorem zvA:∀(x:Nat)(l:List Nat),(x::l).zip l=nbr (x::l):=by
 intro x l;induction l generalizing x with
 | nil=>rfl
 | cons y l ih=>show (x,y)::(y::l).zip l=_;rw[ih];rfl
theorem zcc(ρ:List Nat):zbv ρ=nbr (0::(ρ++[0])):=by
 unfold zbv;rw[<-zvA];have aa:∀(a b c:List Nat),a.length=b.length->(a++c).zip b=a.zip b:=by
  intro a;induction a with
  | nil=>intro b c h;have:b=[]:=List.length_eq_zero_iff.1 h.symm;subst this;simp
  | cons x a ih=>
   intro b c h;cases b with
   | nil=>simp at h
   | cons y b=>simp only[List.cons_append,List.zip_cons_cons];rw[ih b c (by simpa using h)]
 have:=aa (0::ρ) (ρ++[0]) [0] (by simp);simpa using this.symm
theorem zh7:∀(a b:List Nat)(x:Nat),nbr (a++x::b)=nbr (a++[x])++nbr (x::b):=by
 intro a;induction a with
 | nil=>intro b x;simp[nbr]
 | cons y a ih=>
  intro b x;cases a with
  | nil=>simp[nbr]
  | cons z a=>show (y,z)::nbr (z::a++x::b)=_;rw[ih b x];rfl
theorem zgQ(ρ:List Nat):(zbv ρ).map (·.1)=0::ρ:=by unfold zbv;rw[List.map_fst_zip];simp
theorem ziH(ρ:List Nat):(zbv ρ).map (·.2)=ρ++[0]:=by unfold zbv;rw[List.map_snd_zip];simp
theorem zeH{L:List Nat}(h:∀s∈L,s≠0):L.filter (λs=>decide (s≠0))=L:=by rw[List.filter_eq_self];intro a ha;simpa using h a ha
theorem zk0{R:List (List Nat)}(h:∀s∈R.flatten,s≠0):((zaE R).map (·.1)).filter (λs=>decide (s≠0))=R.flatten:=by
 induction R with
 | nil=>rfl
 | cons ρ R ih=>have h1:∀s∈ρ,s≠0:=λs hs=>h s (by simp[hs]);have h2:∀s∈R.flatten,s≠0:=λs hs=>h s (by rw[List.flatten_cons];exact List.mem_append_right _ hs);unfold zaE at ih⊢;rw[List.map_cons,List.flatten_cons,List.map_append,List.filter_append,ih h2,zgQ,List.flatten_cons];congr 1;rw[List.filter_cons_of_neg (by simp),zeH h1]
theorem zkr{R:List (List Nat)}(h:∀s∈R.flatten,s≠0):((zaE R).map (·.2)).filter (λs=>decide (s≠0))=R.flatten:=by
 induction R with
 | nil=>rfl
 | cons ρ R ih=>have h1:∀s∈ρ,s≠0:=λs hs=>h s (by simp[hs]);have h2:∀s∈R.flatten,s≠0:=λs hs=>h s (by rw[List.flatten_cons];exact List.mem_append_right _ hs);unfold zaE at ih⊢;rw[List.map_cons,List.flatten_cons,List.map_append,List.filter_append,ih h2,ziH,List.flatten_cons];congr 1;rw[List.filter_append,zeH h1];simp
theorem zgZ{R:List (List Nat)}{ρ:List Nat}(h:R.flatten.Nodup)(hm:ρ∈R):ρ.Nodup:=by obtain⟨A,B,rfl⟩:=List.append_of_mem hm;rw[List.flatten_append,List.flatten_cons] at h;exact(List.nodup_append.1 (List.nodup_append.1 h).2.1).1
theorem zrF{L:List (Nat×Nat)}(f:Nat×Nat->Nat)(hn:((L.map f).filter λs=>decide (s≠0)).Nodup){p q:Nat×Nat}(hp:p∈L)(hq:q∈L)(h0:f p≠0)(he:f p=f q):p=q:=by
 induction L with
 | nil=>cases hp
 | cons x L ih=>
  rw[List.map_cons] at hn;by_cases hx:f x=0
  ·rw[List.filter_cons_of_neg (by simpa using hx)] at hn;rcases List.mem_cons.1 hp with h|h
   ·rw[h] at h0;exact absurd hx h0
   rcases List.mem_cons.1 hq with h'|h'
   ·rw[h'] at he;rw[he] at h0;exact absurd hx h0
   exact ih hn h h'
  rw[List.filter_cons_of_pos (by simpa using hx),List.nodup_cons] at hn;have hm:∀y∈L,f y≠f x:=λy hy e=>hn.1 (List.mem_filter.2 ⟨List.mem_map.2 ⟨y,hy,e⟩,by simpa using hx⟩);rcases List.mem_cons.1 hp with h|h
  ·rcases List.mem_cons.1 hq with h'|h'
   ·rw[h,h']
   rw[h] at he;exact absurd he.symm (hm q h')
  rcases List.mem_cons.1 hq with h'|h'
  ·rw[h'] at he;exact absurd he (hm p h)
  exact ih hn.2 h h'
theorem zO.nz{I:Ins}{R:List (List Nat)}(h:zO I R):∀s∈R.flatten,s≠0:=λs hs=>by have:=h.stops s hs;omega
theorem zO.out_one{I:Ins}{R:List (List Nat)}(h:zO I R){a b c:Nat}(ha:a≠0)(h1:(a,b)∈zaE R)(h2:(a,c)∈zaE R):b=c:=by have:=zrF (L:=zaE R) (·.1) (by rw[zk0 h.nz];exact h.once) h1 h2 ha rfl;cases this;rfl
theorem zO.in_one{I:Ins}{R:List (List Nat)}(h:zO I R){a b c:Nat}(hb:b≠0)(h1:(a,b)∈zaE R)(h2:(c,b)∈zaE R):a=c:=by have:=zrF (L:=zaE R) (·.2) (by rw[zkr h.nz];exact h.once) h1 h2 hb rfl;cases this;rfl
theorem zoJ{I:Ins}{R:List (List Nat)}(h:zO I R):∀p∈zaE R,p.1<=I.n/\p.2<=I.n:=by
 intro p hp;constructor
 ·by_cases h0:p.1=0
  ·omega
  have:p.1∈R.flatten:=by rw[<-zk0 h.nz];exact List.mem_filter.2 ⟨List.mem_map.2 ⟨p,hp,rfl⟩,by simpa using h0⟩
  exact(h.stops _ this).2
 by_cases h0:p.2=0
 ·omega
 have:p.2∈R.flatten:=by rw[<-zkr h.nz];exact List.mem_filter.2 ⟨List.mem_map.2 ⟨p,hp,rfl⟩,by simpa using h0⟩
 exact(h.stops _ this).2
theorem zhU:∀(l:List Nat) {a b:Nat},(a,b)∈nbr l->∃u v,l=u++a::b::v:=by
 intro l;induction l with
 | nil=>intro a b h;cases h
 | cons x l ih=>
  intro a b h;cases l with
  | nil=>cases h
  | cons y l=>
   rcases List.mem_cons.1 h with e|e
   ·cases e;exact⟨[],l,rfl⟩
   obtain⟨u,v,h1⟩:=ih e;exact⟨x::u,v,by rw[h1];rfl⟩
theorem zwf{I:Ins}{R:List (List Nat)}(h:zO I R):∀p∈zaE R,p.1≠p.2:=by
 intro p hp e;obtain⟨L,hL,ab⟩:=List.mem_flatten.1 hp;obtain⟨ρ,hρ,rfl⟩:=List.mem_map.1 hL;rw[zcc] at ab;obtain⟨u,v,aa⟩:=zhU _ (a:=p.1) (b:=p.2) ab;have hn:ρ.Nodup:=zgZ h.once hρ;have hz:∀s∈ρ,s≠0:=λs hs=>h.nz s (List.mem_flatten.2 ⟨ρ,hρ,hs⟩);rw[<-e] at aa;cases u with
 | nil=>
  simp only[List.nil_append,List.cons.injEq] at aa;obtain⟨h1,h2⟩:=aa;cases ρ with
  | nil=>exact h.ne [] hρ rfl
  | cons s ρ=>simp only[List.cons_append,List.cons.injEq] at h2;exact hz s (by simp) (by rw[h2.1,<-h1])
 | cons x u=>
  simp only[List.cons_append,List.cons.injEq] at aa;have h2:=aa.2;by_cases hv:v=[]
  ·subst hv;have h3:ρ++[0]=(u++[p.1])++[p.1]:=by rw[h2];simp
   have h4:=List.append_inj' h3 rfl;have h5:p.1=0:=by simpa using h4.2.symm
   exact hz p.1 (by rw[h4.1];simp) h5
  obtain⟨v',y,rfl⟩:∃v' y,v=v'++[y]:=⟨v.dropLast,v.getLast hv,(List.dropLast_concat_getLast hv).symm⟩
  have h3:ρ++[0]=(u++p.1::p.1::v')++[y]:=by rw[h2];simp
  have h4:=(List.append_inj' h3 rfl).1;rw[h4] at hn;have:=(List.nodup_append.1 hn).2.1;simp at this
def zhu(c:List Nat):Prop:=¬(c.filter λs=>decide (s≠0)).Nodup
structure zU (I:Ins) (c:List Nat):Prop where
 why:zhu c\/I.load<zbn I c\/(∃p∈nbr c,I.D p.1 p.2=-1)\/zd7 I c=false
theorem zj8{I:Ins}{R:List (List Nat)}(h:zO I R):∀(c:List Nat)(s:Nat)(pre post:List Nat),pre++s::post∈R->(∀p∈nbr (s::c),p∈zaE R)->(∀u v,c=u++0::v->v=[])->∃rest,post++[0]=c++rest:=by
 intro c;induction c with
 | nil=>intro s pre post _ _ _;exact⟨_,rfl⟩
 | cons y c ih=>
  intro s pre post hR hA hz;have h1:(s,y)∈zaE R:=hA _ (by simp[nbr]);have ac:s≠0:=h.nz s (List.mem_flatten.2 ⟨_,hR,by simp⟩);have aa:∀q∈zbv (pre++s::post),q∈zaE R:=λq hq=>List.mem_flatten.2 ⟨_,List.mem_map.2 ⟨_,hR,rfl⟩,hq⟩;have ab:zbv (pre++s::post)=nbr ((0::pre)++s::(post++[0])):=by rw[zcc];simp
  cases hp:post with
  | nil=>rw[hp] at aa ab;have h2:(s,0)∈zaE R:=aa _ (by rw[ab,zh7];exact List.mem_append_right _ (by simp[nbr]));have h3:=h.out_one ac h1 h2;have:c=[]:=hz [] c (by rw[h3];rfl);exact⟨[],by rw[h3,this];rfl⟩
  | cons z post'=>rw[hp] at aa ab;have h2:(s,z)∈zaE R:=aa _ (by rw[ab,zh7];exact List.mem_append_right _ (by simp[nbr]));have h3:=h.out_one ac h1 h2;rw[hp] at hR;obtain⟨rest,hr⟩:=ih y (pre++[s]) post' (by rw[h3];simpa using hR) (λp hp=>hA p (by simp[nbr,hp])) (λu v e=>hz (y::u) v (by rw[e];rfl));exact⟨rest,by rw[<-h3,List.cons_append,List.cons_append,hr]⟩
theorem znO:∀(a c b:List Nat) {p:Nat×Nat},p∈nbr c->p∈nbr (a++c++b):=by
 intro a c b p hp;obtain⟨u,v,h⟩:=zhU c (a:=p.1) (b:=p.2) hp;have e:a++c++b=(a++u)++p.1::(p.2::(v++b)):=by rw[h];simp
 rw[e,zh7];exact List.mem_append_right _ (by simp[nbr])
theorem zjF{I:Ins}(hI:zbu I){R:List (List Nat)}(h:zO I R){ρ pre c post:List Nat}(hR:ρ∈R)(hc:c≠[])(he:0::(ρ++[0])=pre++c++post):¬zU I c:=by
 intro hb;have hn:ρ.Nodup:=zgZ h.once hR;have hz:∀s∈ρ,1<=s/\s<=I.n:=λs hs=>h.stops s (List.mem_flatten.2 ⟨ρ,hR,hs⟩);have hf:(0::(ρ++[0])).filter (λs=>decide (s≠0))=ρ:=by rw[List.filter_cons_of_neg (by simp),List.filter_append,zeH (λs hs=>by have:=hz s hs;omega)];simp
 have aa:∀s∈0::(ρ++[0]),s<=I.n:=λs hs=>by
  rcases List.mem_cons.1 hs with e|e
  ·omega
  rcases List.mem_append.1 e with e|e
  ·exact(hz s e).2
  simp at e;omega
 rcases hb.why with h1|h1|⟨p,hp,h1⟩|h1
 ·apply h1;rw[he,List.filter_append,List.filter_append] at hf;rw[<-hf] at hn;exact(List.nodup_append.1 (List.nodup_append.1 hn).1).2.1
 ·have e1:zbn I (0::(ρ++[0]))=zbn I ρ:=by
   have:0::(ρ++[0])=[0]++ρ++[0]:=by simp
   rw[this,zcb,zcb];simp[zbn]
  rw[he,zcb,zcb] at e1;have h2:=h.load ρ hR;have h3:=zi3 hI pre (λs hs=>aa s (by rw[he];simp[hs]));have h4:=zi3 hI post (λs hs=>aa s (by rw[he];simp[hs]));omega
 ·have:p∈zaE R:=List.mem_flatten.2 ⟨_,List.mem_map.2 ⟨ρ,hR,rfl⟩,by rw[zcc,he];exact znO pre c post hp⟩;exact h.way p this h1
 have ht:=h.time ρ hR;cases c with
 | nil=>exact hc rfl
 | cons s c=>
  have af:zd7 I (s::(c++post))=true:=by
   cases pre with
   | nil=>
    simp only[List.nil_append,List.cons_append,List.cons.injEq] at he;have e:zaG I 0 s=some 0:=by unfold zaG;rw[if_pos he.1.symm,if_pos hI.close]
    show (match zaG I 0 s with|none=>false|some t=>zcd I t s (c++post))=true;rw[e,<-he.1,<-he.2];exact ht
   | cons x pre=>
    simp only[List.cons_append,List.cons.injEq] at he;by_cases hs:s=0
    ·have e:zaG I 0 s=some 0:=by unfold zaG;rw[if_pos hs,if_pos hI.close]
     have ab:c++post=[]:=by
      have h2:ρ++[0]=pre++s::(c++post):=by rw[he.2];simp
      apply Classical.byContradiction;intro ac;obtain⟨m,y,hy⟩:∃m y,c++post=m++[y]:=⟨_,_,(List.dropLast_concat_getLast ac).symm⟩
      rw[hy] at h2;have h3:ρ++[0]=(pre++s::m)++[y]:=by rw[h2];simp
      have h4:=(List.append_inj' h3 rfl).1;have:=hz s (by rw[h4];simp);omega
     show (match zaG I 0 s with|none=>false|some t=>zcd I t s (c++post))=true;rw[e,ab];rfl
    have ae:s∈ρ++[0]:=by rw[he.2];simp
    have ad:1<=s/\s<=I.n:=by
     rcases List.mem_append.1 ae with e|e
     ·exact hz s e
     simp at e;exact absurd e hs
    rw[he.2] at ht;exact zvu hI ad pre (c++post) (by simpa using ht)
  have:zd7 I (s::c)=true:=by
   revert af;show (match zaG I 0 s with|none=>false|some t=>zcd I t s (c++post))=true->(match zaG I 0 s with|none=>false|some t=>zcd I t s c)=true;cases zaG I 0 s with
   | none=>intro h;exact h
   | some t=>intro h;exact znJ c post h
  rw[this] at h1;cases h1
theorem zov{I:Ins}(hI:zbu I){R:List (List Nat)}(h:zO I R){c:List Nat}(hc:c≠[])(hr:∀s∈c,s<=I.n)(hA:∀p∈nbr c,p∈zaE R)(hz:∀u v,c=u++0::v->u=[]\/v=[]):¬zU I c:=by
 cases c with
 | nil=>exact absurd rfl hc
 | cons s c=>
  by_cases hs:s=0
  ·subst hs;cases c with
   | nil=>
    intro hb;rcases hb.why with h1|h1|⟨p,hp,_⟩|h1
    ·exact h1 (by simp)
    ·simp[zbn] at h1;have:=hI.load;omega
    ·cases hp
    revert h1;show (match zaG I 0 0 with|none=>false|some t=>zcd I t 0 [])=false->False;have e:zaG I 0 0=some 0:=by unfold zaG;rw[if_pos rfl,if_pos hI.close]
    rw[e];intro h;cases h
   | cons y c=>
    have h1:(0,y)∈zaE R:=hA _ (by simp[nbr]);obtain⟨L,hL,aa⟩:=List.mem_flatten.1 h1;obtain⟨ρ,hρ,rfl⟩:=List.mem_map.1 hL;have af:∀t∈ρ,t≠0:=λt ht=>h.nz t (List.mem_flatten.2 ⟨ρ,hρ,ht⟩);obtain⟨z,ρ',rfl⟩:∃z ρ',ρ=z::ρ':=by
     cases ρ with
     | nil=>exact absurd rfl (h.ne [] hρ)
     | cons z ρ'=>exact⟨z,ρ',rfl⟩
    have hy:y=z:=by
     rw[zcc] at aa;have e:nbr (0::(z::ρ'++[0]))=(0,z)::nbr (z::(ρ'++[0])):=rfl;rw[e] at aa;rcases List.mem_cons.1 aa with e|e
     ·cases e;rfl
     obtain⟨u,v,ae⟩:=zhU _ e;exfalso;have h3:(z::ρ')++[0]=u++0::y::v:=by rw[List.cons_append];exact ae
     have ad:y::v≠[]:=by simp
     obtain⟨m,q,hq⟩:∃m q,y::v=m++[q]:=⟨_,_,(List.dropLast_concat_getLast ad).symm⟩
     rw[hq] at h3;have h4:(z::ρ')++[0]=(u++0::m)++[q]:=by rw[h3];simp
     have h5:=(List.append_inj' h4 rfl).1;exact af 0 (by rw[h5];simp) rfl
    subst hy;obtain⟨rest,ab⟩:=zj8 h c y [] ρ' (by simpa using hρ) (λp hp=>hA p (by simp[nbr,hp])) (λu v e=>by
     rcases hz (0::y::u) v (by rw[e];rfl) with h|h
     ·cases h
     exact h)
    exact zjF hI h (pre:=[]) (post:=rest) hρ (by simp) (by simp[ab])
  have ac:1<=s/\s<=I.n:=⟨by omega,hr s (by simp)⟩
  obtain⟨ρ,hρ,hm⟩:=List.mem_flatten.1 (h.all s ac.1 ac.2);obtain⟨pre,post,rfl⟩:=List.append_of_mem hm;obtain⟨rest,ab⟩:=zj8 h c s pre post hρ hA (λu v e=>by
   rcases hz (s::u) v (by rw[e];rfl) with h|h
   ·cases h
   exact h)
  exact zjF hI h (pre:=0::pre) (post:=rest) hρ (by simp) (by simp[ab])
structure zl9 (N:Nat) (L:List (Nat×Nat)):Prop where
 f1:(L.map (·.1)).Nodup
 f2:∀p∈L,p.1<N/\p.2<N
 f3:L.length=N
 s1:(L.map (·.2)).Nodup
theorem ztc{N:Nat}{L:List (Nat×Nat)}(h:zl9 N L)(u v:Nat->Int):(L.map λp=>u p.1+v p.2).sum=zQ u (List.range N)+zQ v (List.range N):=by
 have e1:zQ u (L.map (·.1))=zQ u (List.range N):=zgS u N _ h.f1 (λx hx=>by obtain⟨p,hp,rfl⟩:=yo.1 hx;exact(h.f2 p hp).1) (by simp[h.f3]);have e2:zQ v (L.map (·.2))=zQ v (List.range N):=zgS v N _ h.s1 (λx hx=>by obtain⟨p,hp,rfl⟩:=yo.1 hx;exact(h.f2 p hp).2) (by simp[h.f3]);rw[<-e1,<-e2];clear e1 e2 h;induction L with
 | nil=>simp[zQ]
 | cons p L ih=>simp only[yE,yZ,zQ,ih];omega
theorem zq2{α:Type}(f g:α->Int):∀(L:List α),(∀x∈L,f x<=g x)->(L.map f).sum<=(L.map g).sum:=by
 intro L;induction L with
 | nil=>intro _;simp
 | cons x L ih=>intro h;have h1:=ih λy hy=>h y (by simp[hy]);have h2:=h x (by simp);simp only[yE,yZ];omega
theorem zqK{N:Nat}{C:Nat->Nat->Int}{L:List (Nat×Nat)}(h:zl9 N L)(ho:∀p∈L,C p.1 p.2≠-1){u v:Nat->Int}(hu:∀i j,i<N->j<N->C i j≠-1->u i+v j<=C i j):zQ u (List.range N)+zQ v (List.range N)<=(L.map λp=>C p.1 p.2).sum:=by rw[<-ztc h u v];exact zq2 _ _ L λp hp=>hu p.1 p.2 (h.f2 p hp).1 (h.f2 p hp).2 (ho p hp)
theorem zsq{N:Nat}{C:Nat->Nat->Int}{L:List (Nat×Nat)}(h:zl9 N L)(ho:∀p∈L,C p.1 p.2≠-1)(rows aa:List Nat)(hr:rows.Nodup)(ad:∀r∈rows,r<N)(hc:∀r∈rows,∀j,j<N->C r j≠-1->j∈aa):rows.length<=aa.length:=by
 have ab:∀r,r<N->∃p∈L,p.1=r:=λr hr=>by
  apply yV;intro ae;have h1:=zbk (r::L.map (·.1)) (List.range N) (yaO.2 ⟨λhm=>by obtain⟨p,hp,e⟩:=yo.1 hm;exact ae ⟨p,hp,e⟩,h.f1⟩) (λx hx=>by
   rcases yG.1 hx with e|e
   ·rw[e];simpa using hr
   obtain⟨p,hp,rfl⟩:=yo.1 e;simpa using(h.f2 p hp).1)
  simp[h.f3] at h1;omega
 let M:=L.filter λp=>decide (p.1∈rows);have h1:rows.length<=(M.map (·.1)).length:=zbk rows _ hr λr hm=>by obtain⟨p,hp,e⟩:=ab r (ad r hm);exact yo.2 ⟨p,yag.2 ⟨hp,by simpa[e] using hm⟩,e⟩
 have h2:(M.map (·.2)).length<=aa.length:=zbk _ aa ((List.Sublist.map _ List.filter_sublist).nodup h.s1) λj hj=>by obtain⟨p,hp,rfl⟩:=yo.1 hj;obtain⟨ac,af⟩:=yag.1 hp;exact hc p.1 (by simpa using af) p.2 (h.f2 p ac).2 (ho p ac)
 simp at h1 h2;omega
def zgI(n k:Nat)(ρ:List Nat):List (Nat×Nat):=((n+k)::ρ.map (· - 1)).zip (ρ.map (· - 1)++[n+k])
def zc1(n:Nat):Nat->List (List Nat)->List (Nat×Nat)
 | _,[]=>[]
 | k,ρ::R=>zgI n k ρ++zc1 n (k+1) R
def zjf(n m vans:Nat):List (Nat×Nat):=(List.range (vans-m)).map λi=>(n+m+i,n+m+i)
def zez(I:Ins)(R:List (List Nat)):List (Nat×Nat):=zc1 I.n 0 R++zjf I.n R.length I.vans
theorem zkJ(n k:Nat)(ρ:List Nat):(zgI n k ρ).map (·.1)=(n+k)::ρ.map (· - 1):=by unfold zgI;rw[List.map_fst_zip];simp
theorem zsH(n k:Nat)(ρ:List Nat):(zgI n k ρ).map (·.2)=ρ.map (· - 1)++[n+k]:=by unfold zgI;rw[List.map_snd_zip];simp
theorem zo4(n:Nat):∀(R:List (List Nat)) (k:Nat),((zc1 n k R).map (·.1)).Perm (R.flatten.map (· - 1)++(List.range R.length).map λi=>n+k+i):=by
 intro R;induction R with
 | nil=>intro k;simp[zc1]
 | cons ρ R ih=>
  intro k;unfold zc1;rw[yL,zkJ,yM,yL];refine(ybh (ybu _) (ih (k+1))).trans ?_;have e:(List.range (ρ::R).length).map (λi=>n+k+i)=(n+k)::(List.range R.length).map λi=>n+(k+1)+i:=by rw[yJ,List.range_succ_eq_map,yE,yah];congr 1;apply yad;intro i _;simp only[Function.comp];omega
  rw[e];show List.Perm ((n+k)::(ρ.map (· - 1)++(R.flatten.map (· - 1)++_))) _;rw[<-yaa];exact List.perm_middle.symm
theorem znh(n:Nat):∀(R:List (List Nat)) (k:Nat),((zc1 n k R).map (·.2)).Perm ((zc1 n k R).map (·.1)):=by
 intro R;induction R with
 | nil=>intro k;exact ybu _
 | cons ρ R ih=>intro k;unfold zc1;rw[yL,yL,zkJ,zsH];exact ybh (List.perm_append_singleton _ _) (ih (k+1))
theorem zpu(I:Ins){R:List (List Nat)}(hf:R.length<=I.vans):((zez I R).map (·.1)).Perm (R.flatten.map (· - 1)++(List.range I.vans).map λi=>I.n+i):=by
 unfold zez zjf;rw[yL,yah];refine(ybh (zo4 I.n R 0) (ybu _)).trans ?_;rw[yaa];refine ybh (ybu _) ?_;have e:(List.range I.vans).map (λi=>I.n+i)=(List.range R.length).map (λi=>I.n+0+i)++(List.range (I.vans-R.length)).map ((λp:Nat×Nat=>p.1) ∘ λi=>(I.n+R.length+i,I.n+R.length+i)):=by
  have h1:I.vans=R.length+(I.vans-R.length):=by omega
  conv=>lhs;rw[h1,ych,yL,yah]
  congr 1;apply yad;intro i _;simp only[Function.comp];omega
 rw[e]
theorem ziq(I:Ins)(R:List (List Nat)):((zez I R).map (·.2)).Perm ((zez I R).map (·.1)):=by unfold zez zjf;rw[yL,yL,yah,yah];exact ybh (znh I.n R 0) (ybu _)
theorem zO.count{I:Ins}{R:List (List Nat)}(h:zO I R):R.flatten.length=I.n:=by
 have h1:=zbk R.flatten ((List.range I.n).map (· + 1)) h.once λs hs=>by have:=h.stops s hs;exact yo.2 ⟨s-1,by simp;omega,by omega⟩
 have aa:((List.range I.n).map (· + 1)).Nodup:=by rw[yar,ya6];exact List.Pairwise.imp (λh=>by omega) (yar.1 ybi)
 have h2:=zbk ((List.range I.n).map (· + 1)) R.flatten aa λs hs=>by obtain⟨i,hi,rfl⟩:=yo.1 hs;exact h.all _ (by omega) (by simp at hi;omega)
 rw[yN,yaD] at h1 h2;omega
theorem zew{L:List Nat}{f:Nat->Nat}(h:L.Nodup)(hf:∀a∈L,∀b∈L,f a=f b->a=b):(L.map f).Nodup:=by rw[yar,ya6];exact yba (λha hb aa e=>aa (hf _ ha _ hb e)) (yar.1 h)
theorem zkU{I:Ins}{R:List (List Nat)}(h:zO I R):zl9 (I.n+I.vans) (zez I R):=by
 have hp:=zpu I h.few;have hn:(R.flatten.map (· - 1)++(List.range I.vans).map λi=>I.n+i).Nodup:=by
  rw[ya7];refine⟨zew h.once λa ha b hb e=>?_,zew ybi λa _ b _ e=>by omega,λa ha b hb e=>?_⟩
  ·have:=h.stops a ha;have:=h.stops b hb;omega
  obtain⟨s,hs,rfl⟩:=yo.1 ha;obtain⟨i,_,rfl⟩:=yo.1 hb;have:=h.stops s hs;omega
 have hm:∀x∈R.flatten.map (· - 1)++(List.range I.vans).map λi=>I.n+i,x<I.n+I.vans:=λx hx=>by
  rcases yH.1 hx with e|e
  ·obtain⟨s,hs,rfl⟩:=yo.1 e;have:=h.stops s hs;omega
  obtain⟨i,hi,rfl⟩:=yo.1 e;simp at hi;omega
 have hl:=hp.length_eq;rw[yN,yz,yN,yN,yaD,h.count] at hl;refine⟨hp.nodup_iff.2 hn,λp aa=>⟨hm _ (hp.mem_iff.1 (yo.2 ⟨p,aa,rfl⟩)),hm _ (hp.mem_iff.1 ((ziq I R).mem_iff.1 (yo.2 ⟨p,aa,rfl⟩)))⟩,hl,(ziq I R).nodup_iff.2 (hp.nodup_iff.2 hn)⟩
def zfZ(n:Nat)(T:Nat->Nat->Int)(R:List (List Nat)):Prop:=∀a b,a<=n->b<=n->(T a b=1->(a,b)∈zaE R)/\(T a b=2->(a,b)∉zaE R)
theorem zwd{n:Nat}{T:Nat->Nat->Int}{a b:Nat}(h:∀c,c<=n->¬zgL T a b c):feS n T a b=false:=by unfold feS;rw[ya5];intro c hc;have:=h c (by simp at hc;omega);simpa using this
theorem zoH{I:Ins}{R:List (List Nat)}{T:Nat->Nat->Int}(h:zO I R)(ha:zfZ I.n T R){a b:Nat}(hp:(a,b)∈zaE R):zbZ I.n T I.D a b=I.D a b:=by
 have hr:=zoJ h _ hp;have aa:=zwf h _ hp;simp only at hr aa;unfold zbZ;rw[ye (by omega),ye];rintro (e|e|e)
 ·exact aa e
 ·exact(ha a b hr.1 hr.2).2 e hp
 rw[zwd] at e
 ·cases e
 rintro c hc (⟨h1,h2,h3⟩|⟨h1,h2,h3⟩)
 ·exact h2 (h.out_one h1 ((ha a c hr.1 hc).1 h3) hp)
 exact h2 (h.in_one h1 ((ha c b hc hr.2).1 h3) hp)
def zX(I:Ins)(T:Nat->Nat->Int)(i j:Nat):Int:=zbZ I.n T I.D (zr I.n i) (zr I.n j)
theorem zfB(n k:Nat):zr n (n+k)=0:=by unfold zr;rw[ye (by omega)]
theorem zff{n s:Nat}(h:1<=s/\s<=n):zr n (s-1)=s:=by unfold zr;rw[yg (by omega)];omega
theorem zm5{n k:Nat}{ρ:List Nat}(h:∀s∈ρ,1<=s/\s<=n):(zgI n k ρ).map (λp=>(zr n p.1,zr n p.2))=zbv ρ:=by
 have e:ρ.map (λs=>zr n (s-1))=ρ:=by have:ρ.map (λs=>zr n (s-1))=ρ.map id:=yad λs hs=>zff (h s hs);rw[this,ycc]
 unfold zgI zbv;have h1:((n+k)::ρ.map (· - 1)).map (zr n)=0::ρ:=by rw[yE,zfB,yah];congr 1
 have h2:(ρ.map (· - 1)++[n+k]).map (zr n)=ρ++[0]:=by rw[yL,yah];congr 1;simp[zfB]
 rw[<-h1,<-h2,List.zip_map];rfl
theorem zmr{n:Nat}:∀(R:List (List Nat)) (k:Nat),(∀s∈R.flatten,1<=s/\s<=n)->(zc1 n k R).map (λp=>(zr n p.1,zr n p.2))=zaE R:=by
 intro R;induction R with
 | nil=>intro k _;rfl
 | cons ρ R ih=>intro k h;unfold zc1 zaE;rw[yL,zm5 λs hs=>h s (by simp[hs]),ih (k+1) λs hs=>h s (by rw[yM];exact List.mem_append_right _ hs)];simp[zaE]
theorem zg3{I:Ins}{R:List (List Nat)}{T:Nat->Nat->Int}(h:zO I R)(ha:zfZ I.n T R):(∀p∈zez I R,zX I T p.1 p.2≠-1)/\((zez I R).map λp=>zX I T p.1 p.2).sum=zR I R:=by
 have hs:=zmr (n:=I.n) R 0 h.stops;have hz:∀p∈zjf I.n R.length I.vans,zX I T p.1 p.2=0:=λp hp=>by obtain⟨i,_,rfl⟩:=yo.1 hp;unfold zX zbZ;simp only[ybS,zfB];simp
 have hc:∀p∈zc1 I.n 0 R,zX I T p.1 p.2=I.D (zr I.n p.1) (zr I.n p.2)/\(zr I.n p.1,zr I.n p.2)∈zaE R:=λp hp=>by
  have hm:(zr I.n p.1,zr I.n p.2)∈zaE R:=by rw[<-hs];exact yo.2 ⟨p,hp,rfl⟩
  exact⟨zoH h ha hm,hm⟩
 constructor
 ·intro p hp;rcases yH.1 hp with e|e
  ·rw[(hc p e).1];exact h.way _ (hc p e).2
  rw[hz p e];omega
 unfold zez zR zc2;rw[yL,yaZ,<-hs,yah];have e1:(zc1 I.n 0 R).map (λp=>zX I T p.1 p.2)=(zc1 I.n 0 R).map ((λp:Nat×Nat=>I.D p.1 p.2) ∘ λp=>(zr I.n p.1,zr I.n p.2)):=yad λp hp=>(hc p hp).1;have e2:((zjf I.n R.length I.vans).map λp=>zX I T p.1 p.2).sum=0:=by
  have:∀L:List (Nat×Nat),(∀p∈L,zX I T p.1 p.2=0)->(L.map λp=>zX I T p.1 p.2).sum=0:=by
   intro L;induction L with
   | nil=>intro _;rfl
   | cons p L ih=>intro h;simp only[yE,yZ];rw[h p (by simp),ih λq hq=>h q (by simp[hq])];rfl
  exact this _ hz
 rw[e1,e2];omega
theorem zsi{I:Ins}{R:List (List Nat)}{T:Nat->Nat->Int}(h:zO I R)(ha:zfZ I.n T R){u v:Nat->Int}(hu:∀i j,i<I.n+I.vans->j<I.n+I.vans->zX I T i j≠-1->u i+v j<=zX I T i j):zQ u (List.range (I.n+I.vans))+zQ v (List.range (I.n+I.vans))<=zR I R:=by rw[<-(zg3 h ha).2];exact zqK (zkU h) (zg3 h ha).1 hu
def zh9(l:List Int):Prop:=∀i,i+1<l.length->l.getD i 0<l.getD (i+1) 0
def zux(N:Nat)(C:Nat->Nat->Int)(l:List Int):Nat:=((List.range N).filter λj=>l.any λr=>decide (C r.toNat j≠-1)).length
def zuz(l:List Int):Prop:=∀i,i+2<l.length->l.getD (i+1) 0≠0
structure zes (I:Ins) (T:Nat->Nat->Int) (c:Int) (l:List Int):Prop where
 len:l.length=2*(I.n+I.vans)
 sum:c<=l.sum
 under:∀i j,i<I.n+I.vans->j<I.n+I.vans->zX I T i j≠-1->l.getD i 0+l.getD (I.n+I.vans+j) 0<=zX I T i j
structure zo1 (I:Ins) (T:Nat->Nat->Int) (l:List Int):Prop where
 rows:∀x∈l,0<=x/\x<((I.n+I.vans:Nat):Int)
 rising:zh9 l
 few:zux (I.n+I.vans) (zX I T) l<l.length
structure zmN (I:Ins) (T:Nat->Nat->Int) (l:List Int):Prop where
 ne:l≠[]
 sites:∀x∈l,0<=x/\x<=(I.n:Int)
 ends:zuz l
 forced:∀i,i+1<l.length->T (l.getD i 0).toNat (l.getD (i+1) 0).toNat=1
 blocked:zU I (l.map Int.toNat)
def zeY(I:Ins)(cl:Option Int)(T:Nat->Nat->Int)(nd:Int×List Int):Prop:=(nd.1=2/\∃c,cl=some c/\zes I T c nd.2)\/(nd.1=3/\zo1 I T nd.2)\/(nd.1=4/\zmN I T nd.2)
theorem zt9:∀(l:List Int),l.sum=zQ (λi=>l.getD i 0) (List.range l.length):=by
 intro l;have aa:∀k,k<=l.length->(l.take k).sum=zQ (λi=>l.getD i 0) (List.range k):=by
  intro k;induction k with
  | zero=>intro _;simp[zQ]
  | succ k ih=>intro h;rw[yr (by omega),yaZ,ih (by omega),yR,zd4];simp[zQ,List.getD_eq_getElem?_getD,List.getElem?_eq_getElem (show k<l.length by omega)]
 have:=aa l.length (yh _);rwa[ya0] at this
theorem zjD{l:List Int}{N:Nat}(h:l.length=2*N):l.sum=zQ (λi=>l.getD i 0) (List.range N)+zQ (λj=>l.getD (N+j) 0) (List.range N):=by rw[zt9,h,show 2*N=N+N by omega,ych,zd4];congr 1;rw[ziQ]
theorem ziX:∀(c:List Nat)(p:Nat×Nat),p∈nbr c->∃i,i+1<c.length/\p=(c.getD i 0,c.getD (i+1) 0):=by intro c p hp;obtain⟨u,v,h⟩:=zhU c (a:=p.1) (b:=p.2) hp;refine⟨u.length,by rw[h];simp,?_⟩;rw[h];simp[List.getD_eq_getElem?_getD]
theorem zey(l:List Int)(i:Nat):(l.map Int.toNat).getD i 0=(l.getD i 0).toNat:=by rw[yj,yj,yal];cases l[i]?<;>rfl
theorem zmL{l:List Int}(hp:∀x∈l,0<=x)(h:zh9 l):(l.map Int.toNat).Nodup:=by
 have ab:∀i j,i<j->j<l.length->l.getD i 0<l.getD j 0:=by
  intro i j aa hj;induction j with
  | zero=>omega
  | succ j ih=>
   have h1:=h j hj;by_cases e:i=j
   ·rw[e];exact h1
   have:=ih (by omega) (by omega);omega
 rw[yar,ya6,ybU];intro i j hi hj aa;have h1:=ab i j aa hj;rw[yj,yj,yl hi,yl hj] at h1;have h2:=hp l[i] (ym hi);have h3:=hp l[j] (ym hj);simp at h1;omega
theorem zp3{I:Ins}(hI:zbu I){R:List (List Nat)}{T:Nat->Nat->Int}(h:zO I R)(ha:zfZ I.n T R){cl:Option Int}{nd:Int×List Int}(hh:zeY I cl T nd):∃c,cl=some c/\c<=zR I R:=by
 rcases hh with ⟨_,c,hc,hd⟩|⟨_,hd⟩|⟨_,hd⟩
 ·refine⟨c,hc,?_⟩;have:=zsi h ha (u:=λi=>nd.2.getD i 0) (v:=λj=>nd.2.getD (I.n+I.vans+j) 0) hd.under;rw[<-zjD hd.len] at this;have:=hd.sum;omega
 ·exfalso;have hp:∀x∈nd.2,0<=x:=λx hx=>(hd.rows x hx).1;have h1:=zsq (zkU h) (zg3 h ha).1 (nd.2.map Int.toNat) ((List.range (I.n+I.vans)).filter λj=>nd.2.any λr=>decide (zX I T r.toNat j≠-1)) (zmL hp hd.rising) (λr hr=>by
   obtain⟨x,hx,rfl⟩:=yo.1 hr;have:=hd.rows x hx;omega) (λr hr j hj hc=>by
   obtain⟨x,hx,rfl⟩:=yo.1 hr;exact yag.2 ⟨by simpa using hj,y9.2 ⟨x,hx,by simpa using hc⟩⟩);have:=hd.few;unfold zux at this;rw[yN] at h1;omega
 exfalso;refine zov hI h (c:=nd.2.map Int.toNat) (by simpa using hd.ne) (λs hs=>?_) (λp hp=>?_) (λu v e=>?_) hd.blocked
 ·obtain⟨x,hx,rfl⟩:=yo.1 hs;have:=hd.sites x hx;omega
 ·obtain⟨i,hi,rfl⟩:=ziX _ p hp;rw[yN] at hi;rw[zey,zey];have h1:=hd.forced i hi;have ab:∀k,k<nd.2.length->(nd.2.getD k 0).toNat<=I.n:=λk hk=>by rw[yj,yl hk];have:=hd.sites _ (ym hk);simp;omega
  exact(ha _ _ (ab i (by omega)) (ab (i+1) hi)).1 h1
 apply yV;intro aa;have hu:0<u.length:=by
  cases u with
  | nil=>exact absurd (.inl rfl) aa
  | cons=>simp
 have hv:0<v.length:=by
  cases v with
  | nil=>exact absurd (.inr rfl) aa
  | cons=>simp
 have hl:=yan List.length e;simp at hl;have h1:=hd.ends (u.length-1) (by omega);rw[show u.length-1+1=u.length by omega] at h1;have h2:(nd.2.map Int.toNat).getD u.length 0=0:=by rw[e];simp[List.getD_eq_getElem?_getD]
 rw[zey] at h2;have h3:0<=nd.2.getD u.length 0:=by rw[yj,yl (show u.length<nd.2.length by omega)];exact(hd.sites _ (ym _)).1
 omega
abbrev zo:=List ((Nat×Nat)×Bool)
def zt:zo->Nat->Nat->Int
 | []=>λ_ _=>0
 | p::P=>upd (zt P) p.1.1 p.1.2 (if p.2=true then 1 else 2)
def zad:zo->zo
 | []=>[]
 | p::P=>if p.2=true then (p.1,false)::P else zad P
def zA(P:zo):Nat:=(P.filter (·.2)).length
def zwF(n:Nat)(l:List Int):Prop:=0<=l.getD 0 0/\l.getD 0 0<=(n:Int)/\0<=l.getD 1 0/\l.getD 1 0<=(n:Int)/\l.getD 0 0≠l.getD 1 0
open Classical in
noncomputable def zax(I:Ins)(cl:Option Int)(P:zo)(nd:Int×List Int):Option zo:=
 if nd.1=1 then (if zwF I.n nd.2/\zt P (nd.2.getD 0 0).toNat (nd.2.getD 1 0).toNat=0 then some ((((nd.2.getD 0 0).toNat,(nd.2.getD 1 0).toNat),true)::P) else none)
 else if zeY I cl (zt P) nd then some (zad P) else none
noncomputable def zdO(I:Ins)(cl:Option Int):zo->List (Int×List Int)->Option zo
 | P,[]=>some P
 | P,nd::l=>match zax I cl P nd with
  | none=>none
  | some P'=>zdO I cl P' l
theorem zeG(I:Ins)(cl:Option Int)(P:zo)(nd:Int×List Int)(l:List (Int×List Int)):zdO I cl P (nd::l)=match zax I cl P nd with|none=>none|some P'=>zdO I cl P' l:=rfl
def zuw(n:Nat)(P:zo)(R:List (List Nat)):Prop:=zfZ n (zt P) R\/∃P1 ab P2,P=P1++(ab,true)::P2/\zfZ n (zt ((ab,false)::P2)) R
theorem zhs(P:zo):zA (zad P)=zA P-1:=by
 induction P with
 | nil=>rfl
 | cons p P ih=>
  unfold zad zA;by_cases h:p.2=true
  ·rw[yg h,yQ h,yS (by simp)];simp
  rw[ye h,yS h];exact ih
theorem zpB{n:Nat}{R:List (List Nat)}:∀(P P1:zo)(ab:Nat×Nat)(P2:zo),P=P1++(ab,true)::P2->zfZ n (zt ((ab,false)::P2)) R->0<zA P/\zuw n (zad P) R:=by
 intro P;induction P with
 | nil=>intro P1 ab P2 h;simp at h
 | cons p P ih=>
  intro P1 ab P2 h ha;cases P1 with
  | nil=>simp only[yax,yb4] at h;obtain⟨rfl,rfl⟩:=h;refine⟨by unfold zA;rw[yQ rfl];simp,?_⟩;left;show zfZ n (zt (zad ((ab,true)::P))) R;unfold zad;rw[yg rfl];exact ha
  | cons q P1=>
   simp only[yaM,yb4] at h;obtain⟨rfl,h2⟩:=h;have hi:=ih P1 ab P2 h2 ha;by_cases hp:p.2=true
   ·refine⟨by unfold zA;rw[yQ hp];simp,?_⟩;right;refine⟨(p.1,false)::P1,ab,P2,?_,ha⟩;unfold zad;rw[yg hp,h2];rfl
   refine⟨by unfold zA;rw[yS hp];exact hi.1,?_⟩;unfold zad;rw[ye hp];exact hi.2
theorem zgl(T:Nat->Nat->Int)(a b:Nat)(x:Int):upd T a b x a b=x:=by unfold upd;rw[yg ⟨rfl,rfl⟩]
theorem zgr{T:Nat->Nat->Int}{a b c d:Nat}{x:Int}(h:¬(c=a/\d=b)):upd T a b x c d=T c d:=by unfold upd;rw[ye h]
theorem zoz{I:Ins}(hI:zbu I){R:List (List Nat)}(h:zO I R){cl:Option Int}:∀(l:List (Int×List Int)) (P P':zo),zdO I cl P l=some P'->zV (1+zA P) l=true->zuw I.n P R->∃c,cl=some c/\c<=zR I R:=by
 intro l;induction l with
 | nil=>intro P P' _ ht _;unfold zV at ht;simp at ht
 | cons nd l ih=>
  intro P P' hw ht hp;rw[zeG] at hw;unfold zV at ht;simp only[yA] at ht;cases hs:zax I cl P nd with
  | none=>rw[hs] at hw;cases hw
  | some Q=>
   rw[hs] at hw;unfold zax at hs;by_cases hk:nd.1=1
   ·rw[yg hk] at hs;split at hs
    ·rename_i hc;cases hs;have aa:=ht.2;unfold zbw at aa;rw[yg hk] at aa;refine ih _ _ hw ?_ ?_
     ·unfold zA at aa⊢;rw[yQ rfl,yJ];rw[show 1+((P.filter (·.2)).length+1)=1+(P.filter (·.2)).length+1 by omega];exact aa
     rcases hp with ha|⟨P1,ab,P2,h1,h2⟩
     ·by_cases hm:((nd.2.getD 0 0).toNat,(nd.2.getD 1 0).toNat)∈zaE R
      ·left;intro a b ac ad;by_cases e:a=(nd.2.getD 0 0).toNat/\b=(nd.2.getD 1 0).toNat
       ·obtain⟨rfl,rfl⟩:=e;have:zt ((((nd.2.getD 0 0).toNat,(nd.2.getD 1 0).toNat),true)::P) (nd.2.getD 0 0).toNat (nd.2.getD 1 0).toNat=1:=zgl _ _ _ _;rw[this];exact⟨λ_=>hm,λh=>by omega⟩
       have:zt ((((nd.2.getD 0 0).toNat,(nd.2.getD 1 0).toNat),true)::P) a b=zt P a b:=zgr e;rw[this];exact ha a b ac ad
      right;refine⟨[],_,P,rfl,?_⟩;intro a b ac ad;by_cases e:a=(nd.2.getD 0 0).toNat/\b=(nd.2.getD 1 0).toNat
      ·obtain⟨rfl,rfl⟩:=e;have:zt ((((nd.2.getD 0 0).toNat,(nd.2.getD 1 0).toNat),false)::P) (nd.2.getD 0 0).toNat (nd.2.getD 1 0).toNat=2:=zgl _ _ _ _;rw[this];exact⟨λh=>by omega,λ_=>hm⟩
      have:zt ((((nd.2.getD 0 0).toNat,(nd.2.getD 1 0).toNat),false)::P) a b=zt P a b:=zgr e;rw[this];exact ha a b ac ad
     right;exact⟨_::P1,ab,P2,by rw[h1];rfl,h2⟩
    cases hs
   rw[ye hk] at hs;split at hs
   ·rename_i hc;cases hs;rcases hp with ha|⟨P1,ab,P2,h1,h2⟩
    ·exact zp3 hI h ha hc
    obtain⟨h3,h4⟩:=zpB P P1 ab P2 h1 h2;refine ih _ _ hw ?_ h4;have aa:=ht.2;unfold zbw at aa;rw[ye hk] at aa;rw[zhs,show 1+(zA P-1)=1+zA P-1 by omega];exact aa
   cases hs
theorem zmY{I:Ins}(hI:zbu I){R:List (List Nat)}(h:zO I R){cl:Option Int}{l:List (Int×List Int)}{P':zo}(hw:zdO I cl [] l=some P')(ht:zV 1 l=true):∃c,cl=some c/\c<=zR I R:=zoz hI h l [] P' hw ht (.inl λ_ _ _ _=>And.intro (λh=>absurd h (show (0:Int)≠1 by omega)) (λh=>absurd h (show (0:Int)≠2 by omega)))
end Go.Proofs.YtebinaopncclgabGreatDoor
