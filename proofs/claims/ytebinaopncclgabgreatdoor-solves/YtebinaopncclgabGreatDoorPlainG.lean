import Derived.Test.YtebinaopncclgabGreatDoorSplit
set_option maxRecDepth 100000
set_option maxHeartbeats 8000000
namespace Go.Proofs.YtebinaopncclgabGreatDoor
open Go.RowKit Go.IntWalk
def zd(zs:List Int):List Value:=zs.map (Value.int .i64)
theorem Tryz.infoInt:(Tryz.prog.info? 3).map (λi=>(i.zero,i.size,i.bytes))=some (some (.int .i64 0),1,8):=by kernel_rfl
theorem zuB{a b:Value}{c d:Bool}(h:a=b)(h':c=d):Ending.returned (.tuple #[a,.bool c])=.returned (.tuple #[b,.bool d]):=by rw[h,h']
def zdG(ls:List (List UInt8))(k:Nat):List Value:=zd ((ls.take k).map zai++List.replicate (ls.length-k) 0)
theorem zvz{α:Type}{ls:List α}{k:Nat}{d:α}(h:k<ls.length):ls.getD k d=ls[k]:=by simp[h]
theorem zsg{ls:List (List UInt8)}{k:Nat}(h:k<ls.length):(zdG ls k)[k]?=some (.int .i64 0):=by
 unfold zdG zd;have hl:((ls.take k).map zai).length=k:=by simp;omega
 rw[yal,yaw (by omega),hl,Nat.sub_self];obtain⟨m,hm⟩:∃m,ls.length-k=m+1:=⟨ls.length-k-1,by omega⟩
 rw[hm];simp[List.replicate_succ]
theorem zpD{ls:List (List UInt8)}{k:Nat}(h:k<ls.length):(zdG ls k).set k (.int .i64 (zai ls[k]))=zdG ls (k+1):=by
 unfold zdG zd;have hl:((ls.take k).map zai).length=k:=by simp;omega
 obtain⟨m,hm⟩:∃m,ls.length-k=m+1:=⟨ls.length-k-1,by omega⟩
 rw[<-ybp (f:=Value.int .i64),List.set_append_right _ _ (by omega),hl,Nat.sub_self,hm,List.replicate_succ,List.set_cons_zero,yr h,show ls.length-(k+1)=m by omega];simp only[yL,yE,ybf,yaa,yaM,yax]
theorem zpG(ls:List (List UInt8)):zdG ls ls.length=zd (ls.map zai):=by simp[zdG]
theorem zmU(b o c:Nat)(ls:List (List UInt8))(w:World)(hl:ls.length<=1000000)(aj:∀l∈ls,l.length<=1000000)(hb:b<w.heap.size)(hc:∀t,t<ls.length->w.cell? ⟨b,o+t,none⟩=some (.string ⟨(ls.getD t []).toArray⟩)):Calls Tryz.prog 132 #[.slice (some ⟨b,o,none⟩) ls.length c] w λe w'=>∃v,e=.returned (.tuple #[v,.bool (ls.all zy)])/\(ls.all zy=true->w'.ownsRow w.heap.size 3 1 v ls.length (zd (ls.map zai))/\v≠.slice none 0 0)/\Below w.heap.size w w':=by
 obtain⟨i0,hi,ao,ap,aq⟩:=info_parts Tryz.infoInt;go_in;go_wp2_with(first
  | (at_make;refine wpList_make_full _ rfl _ _ 40 rfl w.heap.size 3 i0 (.int .i64 0) 1 Tryz.underlying40 hi ao ap .i64 .i64 _ _ ls.length rfl rfl ?m1 ?m2 ?m3 ?m4 ?m5 ?_)
  | fail)
 case m1=>rfl
 case m2=>rfl
 case m3=>rw[aq];omega
 case m4=>unfold maxLen;omega
 case m5=>exact yh _
 intro w1 af aa;have ae:Below w.heap.size w w1:=(yk _ _).grown aa (yh _) (by simp);have ab:w1.ownsRow w.heap.size 3 1 (.slice (some ⟨w.heap.size,0,none⟩) ls.length ls.length) ls.length (zdG ls 0):=by
  have e:(madeCells #[Value.int IntKind.i64 0] ls.length).toList=zdG ls 0:=by rw[yas];simp[zdG,zd]
  rw[<-e];exact af
 clear af aa;go_wp2;go_loopw[5] (λi wr=>∃k:Nat,k<=ls.length/\i=.int .i64 k/\Hid ((ls.take k).all zy=true)/\wr.ownsRow w.heap.size 3 1 (.slice (some ⟨w.heap.size,0,none⟩) ls.length ls.length) ls.length (zdG ls k)/\Below w.heap.size w wr) (λi _=>ls.length-(intOf i).toNat)
 ·exact⟨0,yu _,rfl,rfl,ab,ae⟩
 clear ab ae;obtain⟨k,hk,rfl,HA,ad,ac⟩:=hrel;by_cases ai:k<ls.length
 ·have hck:wr.cell? ⟨b,o+k,none⟩=some (.string ⟨(ls.getD k []).toArray⟩):=zc ac (hc k ai) hb;have hfz:=ad.frozenAt k;have hol:wr.cell? ⟨w.heap.size,k,none⟩=some (.int .i64 0):=by rw[ad.cellAt k (by omega)];exact zsg ai
  have HG:Hid (ls.getD k []=ls[k]):=zvz ai;have am:Hid ((ls.getD k []).length<=1000000):=aj _ (by rw[HG.out];exact ym _);generalize hx:ls.getD k []=x at*;clear hx hc;have ak:(⟨x.toArray⟩:ByteArray).size<=maxLen:=by have:=am.out;show x.toArray.size<=_;unfold maxLen;simp;omega
  have ah:=zou ⟨x.toArray⟩ wr ak;have HN:Hid (Calls Tryz.prog 192 #[.string ⟨x.toArray⟩] wr λe w'=>e=.returned (.tuple #[.int .i64 (zai x),.bool (zy x)])/\w'=wr):=ah;clear ah ak;cases hok:zy x
  ·have ag:ls.all zy=false:=by rw[yai];exact⟨ls[k],ym _,by rw[<-HG.out,hok];simp⟩
   go_wp2_with(go_at_call 192;refine HN.out.mono ?_;rintro e w'⟨rfl,rfl⟩);go_ret2;exact⟨_,zuB rfl ag.symm,λh=>absurd h (by rw[ag];simp),ac⟩
  go_wp2_with(go_at_call 192;refine HN.out.mono ?_;rintro e w'⟨rfl,rfl⟩);have S:=ad.stored k (.int .i64 (zai x));go_roundw
  ·refine⟨k+1,by omega,by go_num,?_,?_,ac.setCell (yh _) _⟩
   ·show _=true;rw[yr ai,yX,HA.out,<-HG.out];simp[hok]
   rw[<-zpD ai,<-HG.out];exact S.1
  simp[intOf];omega
 have an:k=ls.length:=by omega
 subst an;have al:Hid (ls.all zy=true):=by have:=HA.out;rw[ya0] at this;exact this
 go_wp2;go_ret2;exact⟨_,zuB rfl al.out.symm,λ_=>⟨by rw[<-zpG];exact ad,by simp⟩,ac⟩
open Go.RowKit
structure Rd where
 vans:Int
 load:Int
 close:Int
 nodes:Int
 home:Int
 stops:List (List Int)
 roads:List (List Int)
 head:Bool
def Rd0:Rd:={ vans:=0,load:=0,close:=0,nodes:=0,home:=0,stops:=[],roads:=[],head:=false }
def zaw(r:Rd)(a b c d e:Int):Rd×Int:=if r.head=true then (r,2) else if zaK a b c d e=true then ({ vans:=a,load:=b,close:=c,nodes:=d,home:=e,stops:=[],roads:=[],head:=true },0) else (r,4)
def zav(r:Rd)(a b c d e:Int):Rd×Int:=if r.head=false then (r,2) else if 7<=r.stops.length then (r,3) else if zas a b c d e r.nodes=true then ({ r with stops:=r.stops++[[a,b,c,d,e]] },0) else (r,4)
def zat(r:Rd)(a b c:Int):Rd×Int:=if r.head=false then (r,2) else if 40<=r.roads.length then (r,3) else if zaZ a b c r.nodes=true then ({ r with roads:=r.roads++[[a,b,c]] },0) else (r,4)
def zae(r:Rd)(f:List UInt8)(vs:List Int):Rd×Int:=
 if f=[68] then (match vs with|[a,b,c,d,e]=>zaw r a b c d e|_=>(r,2))
 else if f=[83] then (match vs with|[a,b,c,d,e]=>zav r a b c d e|_=>(r,2))
 else if f=[82] then (match vs with|[a,b,c]=>zat r a b c|_=>(r,2))
 else (r,2)
def zW(r:Rd)(l:List UInt8):Rd×Int:=
 match zcR l with
 | []=>(r,0)
 | f::fs=>if fs.all zy=true then zae r f (fs.map zai) else (r,2)
def zbr(r:Rd)(i:Nat):List (List UInt8)->Rd×Nat×Int
 | []=>(r,0,0)
 | l::t=>if (zW r l).2=0 then zbr (zW r l).1 (i+1) t else (Rd0,i+1,(zW r l).2)
def zv(l:List UInt8):Rd×Nat×Int:=
 if 2000<l.length then (Rd0,0,1) else
 if (zbr Rd0 0 (zD 10 l)).2.2=0 then (if (zbr Rd0 0 (zD 10 l)).1.head=true then ((zbr Rd0 0 (zD 10 l)).1,0,0) else (Rd0,(zD 10 l).length,2))
 else (Rd0,(zbr Rd0 0 (zD 10 l)).2.1,(zbr Rd0 0 (zD 10 l)).2.2)
def cuP(c:UInt8)(l:List UInt8)(k:Nat):List (List UInt8):=(spl c (l.take k)).1
def cuC(c:UInt8)(l:List UInt8)(k:Nat):List UInt8:=(spl c (l.take k)).2
theorem zrR{c:UInt8}{l:List UInt8}{k:Nat}(h:k<l.length)(hc:l[k]=c):cuP c l (k+1)=cuP c l k++[cuC c l k]/\cuC c l (k+1)=[]:=by unfold cuP cuC;rw[zdb h,zed,zaT,yg hc];exact⟨rfl,rfl⟩
theorem znX{c:UInt8}{l:List UInt8}{k:Nat}(h:k<l.length)(hc:l[k]≠c):cuP c l (k+1)=cuP c l k/\cuC c l (k+1)=cuC c l k++[l[k]]:=by unfold cuP cuC;rw[zdb h,zed,zaT,ye hc];exact⟨rfl,rfl⟩
theorem zr9{c:UInt8}{l:List UInt8}{k:Nat}(h:l.length<=k):zD c l=cuP c l k++[cuC c l k]:=by unfold cuP cuC;rw[yD h];rfl
theorem zsk(c:UInt8)(l:List UInt8):∀st:List (List UInt8)×List UInt8,(l.foldl (zaT c) st).1.length<=st.1.length+l.length:=by
 induction l with
 | nil=>intro st;simp
 | cons x t ih=>
  intro st;have a:=ih (zaT c st x);have hs:(zaT c st x).1.length<=st.1.length+1:=by unfold zaT;split<;>simp
  simp only[yae,yJ];omega
theorem zgf(c:UInt8)(l:List UInt8):(zD c l).length<=l.length+1:=by have h:=zsk c l ([],[]);unfold zD spl;simp at h⊢;omega
theorem hid{p:Prop}(h:p):Hid p:=h
def full(l:List (List UInt8)):List (List UInt8):=l.filter λx=>!x.isEmpty
theorem zu7(l:List UInt8):∀P C,l.foldl zb6 (full P,C)=(full (l.foldl (zaT 32) (P,C)).1,(l.foldl (zaT 32) (P,C)).2):=by
 induction l with
 | nil=>intro P C;rfl
 | cons x t ih=>
  intro P C;simp only[yae];have e:zb6 (full P,C) x=(full (zaT 32 (P,C) x).1,(zaT 32 (P,C) x).2):=by
   unfold zb6 zaT;by_cases hx:x=32
   ·rw[yg hx,yg hx];by_cases hC:C=[]
    ·simp[hC,full]
    rw[ye hC];have:C.isEmpty=false:=by simp[hC]
    simp[full,List.filter_append,this]
   rw[ye hx,ye hx]
  rw[e];exact ih _ _
theorem zrX(l:List UInt8):zcR l=full (zD 32 l):=by
 have h:=zu7 l [] [];have e:spf l=(full (spl 32 l).1,(spl 32 l).2):=h;unfold zcR zD;rw[e];by_cases hC:(spl 32 l).2=[]
 ·rw[yg hC,hC];simp[full]
 have:(spl 32 l).2.isEmpty=false:=by simp[hC]
 rw[ye hC];simp[full,List.filter_append,this]
theorem zsK{ls:List (List UInt8)}{k:Nat}(h:k<ls.length):full (ls.take (k+1))=full (ls.take k)++(if ls[k]=[] then [] else [ls[k]]):=by
 rw[yr h];unfold full;rw[yaL];congr 1;by_cases hk:ls[k]=[]
 ·simp[hk]
 have:ls[k].isEmpty=false:=by simp[hk]
 simp[hk]
def dg(n:Nat):UInt8:=UInt8.ofNat (48+n%10)
def zba:Nat->Nat->List UInt8
 | 0,n=>[dg n]
 | f+1,n=>if n<10 then [dg n] else zba f (n/10)++[dg n]
theorem zc5{f n:Nat}(h:9<n):zba (f+1) n=zba f (n/10)++[dg n]:=by show (if n<10 then _ else _)=_;rw[ye (by omega)]
theorem zcV{f n:Nat}(h:n<=9):zba f n=[dg n]:=by
 cases f with
 | zero=>rfl
 | succ f=>show (if n<10 then _ else _)=_;rw[yg (by omega)]
theorem zit(f n:Nat):(zba f n).length<=f+1:=by
 induction f generalizing n with
 | zero=>simp[zba]
 | succ f ih=>
  show (if n<10 then _ else _:List UInt8).length<=_;split
  ·simp
  rw[yz];have:=ih (n/10);simp;omega
def small(z:Int):Prop:=0<=z/\z<=99999
structure zlM (r:Rd):Prop where
 nums:∀z∈[r.vans,r.load,r.close,r.nodes,r.home],small z
 stops:∀s∈r.stops,s.length=5/\∀z∈s,small z
 roads:∀s∈r.roads,s.length=3/\∀z∈s,small z
 nstops:r.stops.length<=7
 nroads:r.roads.length<=40
theorem zvD{ss:List (List Int)}{m:Nat}:(∀s∈ss,s.length=m)->∀{k j:Nat} (hk:k<ss.length),j<m->ss.flatten[k*m+j]?=ss[k][j]?:=by
 induction ss with
 | nil=>intro _ k j hk;simp at hk
 | cons s t ih=>
  intro h k j hk hj;have hs:s.length=m:=h s (by simp);cases k with
  | zero=>simp only[Nat.zero_mul,yat,yM,List.getElem_cons_zero];rw[yaC (by omega)]
  | succ k=>
   simp only[yM,List.getElem_cons_succ];rw[yaw (by rw[hs,Nat.succ_mul];omega),hs];have e:(k+1)*m+j-m=k*m+j:=by rw[Nat.succ_mul];omega
   rw[e];exact ih (λs hs=>h s (by simp[hs])) (by simpa using hk) hj
theorem zek{ss:List (List Int)}{m:Nat}(h:∀s∈ss,s.length=m){k j:Nat}(hk:k<ss.length)(hj:j<m){z:Int}(hz:ss[k][j]?=some z):(zd ss.flatten)[k*m+j]?=some (.int .i64 z):=by unfold zd;rw[yal,zvD h hk hj,hz];rfl
theorem zwr{s:List Int}(h:s.length=5):∃a b c d e,s=[a,b,c,d,e]:=by
 match s,h with
 | [a,b,c,d,e],_=>exact⟨a,b,c,d,e,rfl⟩
theorem three{s:List Int}(h:s.length=3):∃a b c,s=[a,b,c]:=by
 match s,h with
 | [a,b,c],_=>exact⟨a,b,c,rfl⟩
structure zE (r:Rd):Prop where
 head:zaK r.vans r.load r.close r.nodes r.home=true
 stops:∀s∈r.stops,∃a b c d e,s=[a,b,c,d,e]/\zas a b c d e r.nodes=true
 roads:∀s∈r.roads,∃a b c,s=[a,b,c]/\zaZ a b c r.nodes=true
 nstops:r.stops.length<=7
 nroads:r.roads.length<=40
 isHead:r.head=true
theorem zaH{v l c n h:Int}:zaK v l c n h=true↔(1<=v/\v<=3/\1<=n/\n<=12/\0<=h/\h<n)/\(0<=l/\l<=10000)/\0<=c/\c<=10000:=by simp only[zaK,yA,yq,za7]
theorem zjd{a b c d e n:Int}:zas a b c d e n=true↔(0<=a/\a<n/\c<=d)/\(0<=b/\b<=10000)/\(0<=c/\c<=10000)/\(0<=d/\d<=10000)/\0<=e/\e<=10000:=by simp only[zas,yA,yq,za7]
theorem zfs{a b c n:Int}:zaZ a b c n=true↔(0<=a/\a<n/\0<=b/\b<n)/\0<=c/\c<=10000:=by simp only[zaZ,yA,yq,za7]
theorem zE.nice{r:Rd}(h:zE r):zlM r:=by
 have hh:=zaH.1 h.head;refine⟨?_,?_,?_,h.nstops,h.nroads⟩
 ·intro z hz;simp only[yG,ybF,or_false] at hz;unfold small;omega
 ·intro s hs;obtain⟨a,b,c,d,e,rfl,hk⟩:=h.stops s hs;have hk:=zjd.1 hk;refine⟨rfl,λz hz=>?_⟩;simp only[yG,ybF,or_false] at hz;unfold small;omega
 intro s hs;obtain⟨a,b,c,rfl,hk⟩:=h.roads s hs;have hk:=zfs.1 hk;refine⟨rfl,λz hz=>?_⟩;simp only[yG,ybF,or_false] at hz;unfold small;omega
end Go.Proofs.YtebinaopncclgabGreatDoor
