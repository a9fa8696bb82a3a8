import PyProof.Rows.All
import Wide.All
import OpenK.AllK
import Wide.FinOn
import PyProof.EqAt
import PyProof.EqKinds
import PyProof.TupleCall
import KE.BitLaws
import Open.SpecLaws
import KE.OsHead
import KE.OsGo
import KE.KDictList
import PyProof.Rows.SortShellAny
import PySem.Challenge.RW_learnswitch_s01_answers
set_option Elab.async false
set_option linter.all false
set_option maxRecDepth 100000
set_option maxHeartbeats 4000000
set_option genInjectivity false
set_option genSizeOf false
section
namespace L2
open PySem PySem.Spec PyProof.Rows
abbrev Key:=Sum Int Str
def gU:Key->Value->Bool
 |.inl k,v=>Value.isInt k v
 |.inr x,v=>Value.isStrOf x v
def FF(w:World):Key->Int
 |.inl k=>hashInt k
 |.inr x=>hashStr w x
theorem fQ:∀{k:Key}{v:Value},gU k v=true->(∃i t,k=Sum.inl i/\v=Value.int i t)\/(∃x t,k=Sum.inr x/\v=Value.str x t)
 |.inl i,v,h=>by
  obtain⟨t,e⟩:=Value.isInt_shape (k:=i) (v:=v) h
  exact .inl ⟨i,t,rfl,e⟩
 |.inr x,v,h=>by
  obtain⟨t,e⟩:=Value.isStrOf_shape (x:=x) (v:=v) h
  exact .inr ⟨x,t,rfl,e⟩
theorem FG(i:Int)(t:Tok):gU (.inl i) (.int i t)=true:=by simp[gU,Value.isInt]
theorem FH(x:Str)(t:Tok):gU (.inr x) (.str x t)=true:=by simp[gU,Value.isStrOf]
theorem FI(a b:Int):decide ((Sum.inl a:Key)=Sum.inl b)=(a==b):=by
 by_cases e:a=b
 .subst e;simp
 .have h:¬(Sum.inl a:Key)=Sum.inl b:=λq=>e (Sum.inl.inj q)
  rw[decide_eq_false h]
  exact(beq_eq_false_iff_ne.mpr e).symm
theorem FL(a b:Str):decide ((Sum.inr a:Key)=Sum.inr b)=decide (a=b):=by
 by_cases e:a=b
 .subst e;simp
 .have h:¬(Sum.inr a:Key)=Sum.inr b:=λq=>e (Sum.inr.inj q)
  rw[decide_eq_false h,decide_eq_false e]
theorem FJ(a:Int)(b:Str):decide ((Sum.inl a:Key)=Sum.inr b)=false:=decide_eq_false (λq=>nomatch q)
theorem FK(a:Str)(b:Int):decide ((Sum.inr a:Key)=Sum.inl b)=false:=decide_eq_false (λq=>nomatch q)
def cE(prog:Program)(w:World):PySem.KeyKind prog w Key where
 is:=gU
 hash:=FF w
 inj:=λv a b ha hb=>by
  rcases fQ ha with⟨i,t,rfl,rfl⟩|⟨x,t,rfl,rfl⟩
  .rcases fQ hb with⟨j,u,rfl,e⟩|⟨y,u,rfl,e⟩
   .injection e with e1 _;rw[e1]
   .exact nomatch e
  .rcases fQ hb with⟨j,u,rfl,e⟩|⟨y,u,rfl,e⟩
   .exact nomatch e
   .injection e with e1 _;rw[e1]
 byValue:=λk v h=>by
  rcases fQ h with⟨i,t,rfl,rfl⟩|⟨x,t,rfl,rfl⟩<;>rfl
 pyHash:=λhv h=>by
  rcases fQ hv with⟨i,t,rfl,rfl⟩|⟨x,t,rfl,rfl⟩
  .exact wpAny_pyHash_int h
  .exact wpAny_pyHash_str h
 eqBool:=λhu hv h=>by
  rcases fQ hu with⟨i,t,rfl,rfl⟩|⟨x,t,rfl,rfl⟩
  .rcases fQ hv with⟨j,u,rfl,rfl⟩|⟨y,u,rfl,rfl⟩
   .rw[FI] at h;exact wpAny_eqBool_int h
   .rw[FJ] at h;exact SeqAt.EqAt.int_str i t y u _ _ _ _ h
  .rcases fQ hv with⟨j,u,rfl,rfl⟩|⟨y,u,rfl,rfl⟩
   .rw[FK] at h;exact SeqAt.EqAt.str_int x t j u _ _ _ _ h
   .rw[FL] at h;exact wpAny_eqBool_str h
 «strs»:=λk x t v h=>by
  rcases fQ h with⟨i,u,rfl,e⟩|⟨y,u,rfl,e⟩
  .exact nomatch e
  .injection e with e1 _
   subst e1
   cases v<;>rfl
theorem Gd(prog:Program)(w:World)(i:Int)(t:Tok):(cE prog w).is (.inl i) (.int i t)=true:=FG i t
theorem Ge(prog:Program)(w:World)(x:Str)(t:Tok):(cE prog w).is (.inr x) (.str x t)=true:=FH x t
end L2
namespace L2
open PySem PySem.Spec PyProof.Rows
set_option genInjectivity true in
inductive V where
 |bj|bl (b:Bool)|int (i:Int)|str (x:Str)|dD (b:Array UInt8)|j6 (b:UInt64)|ref (a:Addr)|ty (n:String)
 deriving DecidableEq
def RelV:V->Value->Prop
 |.bj,u=>u=Value.none
 |.bl b,u=>u=Value.bool b
 |.int i,u=>∃t,u=Value.int i t
 |.str x,u=>∃t,u=Value.str x t
 |.dD b,u=>∃t,u=Value.bytes b t
 |.j6 b,u=>∃t,u=Value.float b t
 |.ref a,u=>u=Value.ref a
 |.ty n,u=>u=Value.type n
abbrev Vals:List V->List Value->Prop:=Paired RelV
theorem Vals.length{xs:List V}{us:List Value}(r:Vals xs us):xs.length=us.length:=Paired.length r
theorem Vals.get:∀{xs:List V}{us:List Value}{i:Nat}{x:V},Vals xs us->xs[i]? =some x->∃u,us[i]? =some u/\RelV x u
 |_,_,_,_,.nil,e=>by simp at e
 |_,_,0,_,.cons r _,e=>by simp at e;subst e;exact⟨_,rfl,r⟩
 |_,_,i+1,x,.cons _ t,e=>by
  obtain⟨u,h1,h2⟩:=Vals.get (i:=i) (x:=x) t (by simpa using e)
  exact⟨u,by simpa using h1,h2⟩
theorem Vals.set{x:V}{u:Value}(r:RelV x u):∀{xs:List V}{us:List Value}(i:Nat),Vals xs us->Vals (xs.set i x) (us.set i u)
 |_,_,_,.nil=>.nil
 |_,_,0,.cons _ t=>.cons r t
 |_,_,i+1,.cons q t=>.cons q (Vals.set r i t)
theorem Vals.append:∀{xs ys:List V}{us ws:List Value},Vals xs us->Vals ys ws->Vals (xs++ys) (us++ws)
 |_,_,_,_,.nil,s=>s
 |_,_,_,_,.cons r t,s=>.cons r (Vals.append t s)
theorem Vals.take:∀{xs:List V}{us:List Value}(n:Nat),Vals xs us->Vals (xs.take n) (us.take n)
 |_,_,0,_=>.nil
 |_,_,_+1,.nil=>.nil
 |_,_,n+1,.cons r t=>.cons r (Vals.take n t)
theorem Vals.drop:∀{xs:List V}{us:List Value}(n:Nat),Vals xs us->Vals (xs.drop n) (us.drop n)
 |_,_,0,r=>r
 |_,_,_+1,.nil=>.nil
 |_,_,n+1,.cons _ t=>Vals.drop n t
def dI:Option V->Option Value->Prop
 |some v,some u=>RelV v u
 |none,none=>True
 |_,_=>False
def KV{κ:Type}:List (κ×V)->List (κ×Value)->Prop:=Paired λ(p:κ×V)(q:κ×Value)=>p.1=q.1/\RelV p.2 q.2
def kV:Key->V
 |.inl i=>.int i
 |.inr x=>.str x
set_option genInjectivity true in
inductive HO where
 |lst (xs:List V)
 |tup (xs:List V)
 |dK (kvs:List (Key×V))|dT (kvs:List (List Key×V))
 |set (S:Int->Bool) (n:Nat)
 |ins (C dx:Addr) (fs:List (Str×V))
 |own (x:Addr)
 |xd (fs:List (Str×V))
 |met (f x:Addr)
 |pK (lo hi:Int)
 |bz (o:Obj) (u:HO)
 |iO (ps:Array Value)
 |ext (φ:Heap->Prop)
abbrev Hp:=Addr->Option HO
def upd(H:Hp)(a:Addr)(o:HO):Hp:=λb=>if b=a then some o else H b
theorem aN{H:Hp}{a:Addr}{o:HO}:upd H a o a=some o:=by unfold upd;rw[if_pos rfl]
theorem aF{H:Hp}{a b:Addr}{o:HO}(h:b≠a):upd H a o b=H b:=by unfold upd;rw[if_neg h]
theorem h8{H:Hp}{a:Addr}{o u:HO}:upd (upd H a o) a u=upd H a u:=by
 funext b;unfold upd;split<;>rfl
theorem fA{H:Hp}{a b:Addr}{o u:HO}(h:H a=some o)(h':H b=some u)(d:o≠u):a≠b:=by
 intro e;subst e;rw[h] at h';exact d (Option.some.inj h')
theorem cZ{H:Hp}{a b:Addr}{o:HO}(h:H a=some o)(h':H b=none):a≠b:=by
 intro e;subst e;rw[h] at h';cases h'
section
variable(P:Program)(w:World)
def cy(H:Hp)(h:Heap)(a:Addr):HO->Prop
 |.lst xs=>xs.length<=sizeLine/\∃(its:List Value)(n:Nat),Vals xs its/\h.get? a=some {cls:=.type "list",data:=.seq its.toArray n}
 |.tup xs=>xs.length<=sizeLine/\∃its:List Value,Vals xs its/\IsTup h a its.toArray
 |.dK kvs=>kvs.length<=sizeLine/\(a==sysModules)=false/\∃vs,KV kvs vs/\h.DictOf (cE P w) a vs
 |.dT kvs=>kvs.length<=sizeLine/\(a==sysModules)=false/\∃xs:List (List Key×Addr×Value),Paired (λ(p:List Key×V)(q:List Key×Addr×Value)=>p.1=q.1/\H q.2.1=some (.tup (p.1.map kV))/\RelV p.2 q.2.2) kvs xs/\∃o es ep,h.get? a=some o/\o.ExactDict/\o.data=.dict es ep/\es.toList=xs.map (entryOfKey (tupleKind (cE P w)))/\(xs.map (·.1)).Nodup
 |.set S n=>h.SetOf (intKind P w) a S n
 |.ins C dx fs=>H dx=some (.own a)/\fs.length<=1000/\dx≠a/\h.get? a=some (PySem.W.instObj C dx)/\∃mA,h.Ns1 dx mA/\(∀f,dI (fs.lookup f) (mA f))/\PySem.Within mA (fs.map (·.1))
 |.own _=>∃o,h.get? a=some o
 |.xd fs=>∃mA,h.Ns1 a mA/\∀f,dI (fs.lookup f) (mA f)
 |.pK lo hi=>∃t u v,h.get? a=some {cls:=.type "range",data:=.fields #[.int lo t,.int hi u,.int 1 v]}
 |.bz o u=>h.get? a=some o/\cy H h a u
 |.iO ps=>h.get? a=some {cls:=.none,data:=.fields ps}
 |.met f x=>h.get? a=some (PySem.W.methodObj (.ref f) (.ref x))
 |.ext φ=>φ h/\(∃o,h.get? a=some o)/\∀h1 h2:Heap,φ h1->(∀o,h1.get? a=some o->h2.get? a=some o)->φ h2
def bU(H:Hp)(h:Heap):Prop:=∀a o,H a=some o->cy P w H h a o
end
section
variable{P:Program}{w:World}{H H':Hp}{h h':Heap}{a:Addr}{o:HO}
theorem cy.lt(x:cy P w H h a o):a<h.objs.size:=by
 cases o with
 |lst xs=>obtain⟨_,_,_,_,e⟩:=x;exact Heap.lt_size e
 |tup xs=>obtain⟨_,_,_,p⟩:=x;exact p.lt
 |dK kvs=>obtain⟨_,_,_,_,o,_,_,e,_⟩:=x;exact Heap.lt_size e
 |dT kvs=>obtain⟨_,_,_,_,o,_,_,e,_⟩:=x;exact Heap.lt_size e
 |set S n=>obtain⟨o,_,_,_,e,_⟩:=x;exact Heap.lt_size e
 |ins C dx fs=>obtain⟨_,_,_,e,_⟩:=x;exact Heap.lt_size e
 |own y=>obtain⟨_,e⟩:=x;exact Heap.lt_size e
 |xd fs=>obtain⟨_,⟨_,_,_,e,_⟩,_⟩:=x;exact Heap.lt_size e
 |pK lo hi=>obtain⟨_,_,_,e⟩:=x;exact Heap.lt_size e
 |bz ob u=>obtain⟨e,_⟩:=x;exact Heap.lt_size e
 |iO ps=>exact Heap.lt_size (show h.get? a=some _ from x)
 |met f y=>exact Heap.lt_size (show h.get? a=some _ from x)
 |ext φ=>obtain⟨_,⟨_,e⟩,_⟩:=x;exact Heap.lt_size e
theorem Paired.oE{α β:Type}{F G:α->β->Prop}:∀{l₁:List α}{l₂:List β},Paired F l₁ l₂->(∀a b,F a b->G a b)->Paired G l₁ l₂
 |_,_,.nil,_=>.nil
 |_,_,.cons r t,f=>.cons (f _ _ r) (Paired.oE t f)
theorem cy.fb(x:cy P w H h a o)(k:∀b u,(b=a\/H b=some (.own a))->h.get? b=some u->h'.get? b=some u)(ho:∀b,H b=some (.own a)->H' b=some (.own a))(ht:∀b xs,H b=some (.tup xs)->H' b=some (.tup xs)):cy P w H' h' a o:=by
 induction o with
 |lst xs=>obtain⟨z,its,n,r,e⟩:=x;exact⟨z,its,n,r,k _ _ (.inl rfl) e⟩
 |tup xs=>obtain⟨z,its,r,ob,e,c⟩:=x;exact⟨z,its,r,ob,k _ _ (.inl rfl) e,c⟩
 |dK kvs=>obtain⟨z,y,vs,r,ob,es,ep,e,c⟩:=x;exact⟨z,y,vs,r,ob,es,ep,k _ _ (.inl rfl) e,c⟩
 |dT kvs=>
  obtain⟨z,y,xs,r,ob,es,ep,e,c⟩:=x
  exact⟨z,y,xs,Paired.oE r λp q z=>⟨z.1,ht _ _ z.2.1,z.2.2⟩,ob,es,ep,k _ _ (.inl rfl) e,c⟩
 |set S n=>obtain⟨ob,es,ep,t,e,c⟩:=x;exact⟨ob,es,ep,t,k _ _ (.inl rfl) e,c⟩
 |ins C dx fs=>
  obtain⟨d,z,ne,e,mA,⟨od,es,ep,e2,c⟩,r⟩:=x
  exact⟨ho _ d,z,ne,k _ _ (.inl rfl) e,mA,⟨od,es,ep,k _ _ (.inr d) e2,c⟩,r⟩
 |own y=>obtain⟨ob,e⟩:=x;exact⟨ob,k _ _ (.inl rfl) e⟩
 |xd fs=>obtain⟨mA,⟨od,es,ep,e,c⟩,r⟩:=x;exact⟨mA,⟨od,es,ep,k _ _ (.inl rfl) e,c⟩,r⟩
 |pK lo hi=>obtain⟨t,u,v,e⟩:=x;exact⟨t,u,v,k _ _ (.inl rfl) e⟩
 |bz ob u ih=>obtain⟨e,q⟩:=x;exact⟨k _ _ (.inl rfl) e,ih q⟩
 |iO ps=>
  have e:h.get? a=some {cls:=.none,data:=.fields ps}:=x
  show h'.get? a=some {cls:=.none,data:=.fields ps}
  exact k a _ (.inl rfl) e
 |met f y=>
  have e:h.get? a=some (PySem.W.methodObj (.ref f) (.ref y)):=x
  show h'.get? a=some (PySem.W.methodObj (.ref f) (.ref y))
  exact k a _ (.inl rfl) e
 |ext φ=>obtain⟨p,⟨o,e⟩,st⟩:=x;exact⟨st _ _ p λo q=>k _ _ (.inl rfl) q,⟨o,k _ _ (.inl rfl) e⟩,st⟩
theorem bU.lt(x:bU P w H h)(e:H a=some o):a<h.objs.size:=(x a o e).lt
theorem bU.fresh(x:bU P w H h)(e:h.objs.size<=a):H a=none:=by
 cases q:H a with
 |none=>rfl
 |some u=>exact absurd (Nat.lt_of_lt_of_le (x.lt q) e) (Nat.lt_irrefl _)
theorem bU.kept(x:bU P w H h)(k:∀b u,h.get? b=some u->h'.get? b=some u):bU P w H h':=λa o e=>
 (x a o e).fb (λb u _ q=>k b u q) (λ_ q=>q) λ_ _ q=>q
theorem bU.laid(x:bU P w H h)(k:∀b u,h.get? b=some u->h'.get? b=some u)(hp:h.objs.size<=a)(new:cy P w (upd H a o) h' a o):bU P w (upd H a o) h':=λb u e=>by
 have hn:=x.fresh hp
 by_cases hb:b=a
 .subst hb;rw[aN] at e;cases e;exact new
 .rw[aF hb] at e
  exact(x b u e).fb (λc v _ q=>k c v q) (λc q=>by rw[aF (cZ q hn)];exact q) λc xs q=>by rw[aF (cZ q hn)];exact q
end
def Rd(H:Hp)(a:Addr)(u:HO):Prop:=H a=some u\/∃o,H a=some (.bz o u)
theorem Rd.ok{P:Program}{w:World}{H:Hp}{h:Heap}{a:Addr}{u:HO}(r:Rd H a u)(x:bU P w H h):cy P w H h a u:=by
 rcases r with r|⟨o,r⟩
 .exact x a u r
 .obtain⟨_,q⟩:=x a _ r
  exact q
def gc:Option HO->Prop
 |some (.lst _)=>True
 |some (.dK _)=>True
 |some (.dT _)=>True
 |some (.set _ _)=>True
 |some (.ins _ _ _)=>True
 |some (.ext _)=>True
 |_=>False
section
variable{P:Program}{w:World}{H:Hp}{h h':Heap}{x e:Addr}{o':HO}
theorem bU.write(ok:bU P w H h)(mu:gc (H x))(he:e=x\/H e=some (.own x))(k:∀b u,b≠e->h.get? b=some u->h'.get? b=some u)(heo:∃u,h'.get? e=some u)(new:cy P w (upd H x o') h' x o'):bU P w (upd H x o') h':=λb u q=>by
 have nown:∀c y,H c=some (.own y)->c≠x:=λc y r z=>by subst z;rw[r] at mu;exact mu
 have ntup:∀c xs,H c=some (.tup xs)->c≠x:=λc xs r z=>by subst z;rw[r] at mu;exact mu
 by_cases hb:b=x
 .subst hb;rw[aN] at q;cases q;exact new
 .rw[aF hb] at q
  by_cases hbe:b=e
  .have q':H b=some (.own x):=by
    rcases he with z|z
    .exact absurd (hbe.trans z) hb
    .rw[hbe];exact z
   rw[q] at q';cases q'
   obtain⟨v,hv⟩:=heo
   exact⟨v,by rw[hbe];exact hv⟩
  .refine(ok b u q).fb (λc v hc r=>k c v ?_ r) (λc r=>by rw[aF (nown c b r)];exact r) λc xs r=>by rw[aF (ntup c xs r)];exact r
   rcases hc with rfl|hc
   .exact hbe
   .rintro rfl
    rcases he with z|z
    .exact nown c b hc z
    .rw[hc] at z;cases z;exact hb rfl
end
structure Un(fs ex:List Addr)(H H':Hp)(h h':Heap):Prop where
 keep:∀b o,h.get? b=some o->H b=none->b∉fs->b∉ex->h'.get? b=some o
 slot:∀b o,h.get? b=some o->H b=none->b∈fs->b∉ex->∃sl,h'.get? b=some {o with slots:=sl}
 free:∀b o,h.get? b=some o->H b=none->b∉ex->H' b=none
 there:∀b o,h.get? b=some o->b∉ex->∃o',h'.get? b=some o'
 gK:∀b xs,H b=some (.tup xs)->H' b=some (.tup xs)
 fw:∀b o u,H b=some (.bz o u)->H' b=some (.bz o u)
 gI:∀b ps,H b=some (.iO ps)->∃more,H' b=some (.iO (ps++more))
section
variable{fs fs' ex ex':List Addr}{H H1 H2:Hp}{h h1 h2 h':Heap}{a x e:Addr}{o:HO}
theorem Un.any(u:Un fs ex H H1 h h1){b:Addr}{ob:Obj}(q:h.get? b=some ob)(n:H b=none)(hx:b∉ex):∃sl,h1.get? b=some {ob with slots:=sl}:=by
 by_cases hb:b∈fs
 .exact u.slot b ob q n hb hx
 .exact⟨ob.slots,u.keep b ob q n hb hx⟩
theorem Un.kept(k:∀b u,h.get? b=some u->h'.get? b=some u):Un fs ex H H h h':=
 ⟨λb ob q _ _ _=>k b ob q,λb ob q _ _ _=>⟨ob.slots,k b ob q⟩,λ_ _ _ n _=>n,λb ob q _=>⟨ob,k b ob q⟩,λ_ _ q=>q,λ_ _ _ q=>q,λ_ ps q=>⟨#[],by rw[q];simp⟩⟩
theorem Un.refl:Un fs ex H H h h:=Un.kept λ_ _ q=>q
theorem Un.laid(k:∀b u,h.get? b=some u->h'.get? b=some u)(hp:h.objs.size<=a)(hn:H a=none):Un fs ex H (upd H a o) h h' where
 keep:=λb u q _ _ _=>k b u q
 slot:=λb u q _ _ _=>⟨u.slots,k b u q⟩
 free:=λb u q n _=>by rw[aF (Nat.ne_of_lt (Nat.lt_of_lt_of_le (Heap.lt_size q) hp))];exact n
 there:=λb u q _=>⟨u,k b u q⟩
 gK:=λb xs q=>by rw[aF (cZ q hn)];exact q
 fw:=λb u xs q=>by rw[aF (cZ q hn)];exact q
 gI:=λb ps q=>⟨#[],by rw[aF (cZ q hn),q];simp⟩
theorem Un.write(mu:gc (H x))(he:e=x\/H e=some (.own x))(k:∀b u,b≠e->h.get? b=some u->h'.get? b=some u)(heo:∃u,h'.get? e=some u):Un fs ex H (upd H x o) h h':=by
 have hx:∀b,H b=none->b≠x:=λb n z=>by subst z;rw[n] at mu;exact mu
 have hb:∀b,H b=none->b≠e:=λb n z=>by
  subst z
  rcases he with r|r
  .exact hx b n r
  .rw[n] at r;cases r
 have hm:∀b u,H b=some u->¬gc (some u)->b≠x:=λb u q nm z=>by subst z;rw[q] at mu;exact nm mu
 refine⟨λb u q n _ _=>k b u (hb b n) q,λb u q n _ _=>⟨u.slots,k b u (hb b n) q⟩,λb u q n _=>by rw[aF (hx b n)];exact n,λb u q _=>?_,λb xs q=>by rw[aF (hm b _ q λz=>z)];exact q,λb u xs q=>by rw[aF (hm b _ q λz=>z)];exact q,λb ps q=>⟨#[],by rw[aF (hm b _ q λz=>z),q];simp⟩⟩
 by_cases hbe:b=e
 .subst hbe;exact heo
 .exact⟨u,k b u hbe q⟩
end
def mY(h:Heap)(H:Hp):List Addr:=(List.range h.objs.size).filter λa=>(H a).isSome
def gp(h:Heap)(H:Hp):Heap:=PySem.W.hideAll h (mY h H)
theorem Ew(h:Heap)(H:Hp):(gp h H).objs.size=h.objs.size:=PySem.W.hideAll_size _ _
theorem Eu{h:Heap}{H:Hp}{b:Addr}{o:Obj}(e:h.get? b=some o)(n:H b=none):(gp h H).get? b=some o:=
 PySem.W.hideAll_get _ e λhm=>by
  have q:(H b).isSome=true:=(List.mem_filter.mp hm).2
  rw[n] at q;simp at q
theorem Hb{h:Heap}{H:Hp}{b:Addr}{o:Obj}(e:(gp h H).get? b=some o):h.get? b=some o/\H b=none:=by
 have e':h.get? b=some o:=PySem.W.of_hideAll (mY h H) e
 refine⟨e',?_⟩
 cases q:H b with
 |none=>rfl
 |some x=>
  have hm:b∈mY h H:=List.mem_filter.mpr ⟨List.mem_range.mpr (Heap.lt_size e'),by simp[q]⟩
  have z:(gp h H).get? b=none:=PySem.W.hideAll_none (mY h H) hm
  rw[z] at e;cases e
end L2
namespace L2
open PySem PySem.Spec PyProof.Rows
structure Mod(K:PySem.W.Frag)(mg:Str->Option Value)(base:Heap):Prop where
 lU:K.In base
 glob:base.Ns mainGlobals mg
 blt:∃mb,base.Ns builtinsNs mb/\∀x:Str,x≠"__name__"->mb x=bootBuiltins x
 nolimit:base.NoLimit
structure Cx where
 prog:Program
 w:World
 K:PySem.W.Frag
 mg:Str->Option Value
 base:Heap
 A:Around
 N:List Str
 c_:Shared
 ia:Hp
 env:Env
 outer:List Env
 stack:List Env
 ex:List Addr
 fn:Str->Bool
 calm:Bool
 pn:List (Addr×Obj)
 xe:Value->Shared->Prop
def fu(l:List Env):List Addr:=l.filterMap (·.frame)
abbrev Cx.fs(X:Cx):List Addr:=fu X.outer
def iX(sc:Scope)(x:Str):Prop:=sc.names.lookup x=some .local\/sc.names.lookup x=some .cell\/sc.names.lookup x=some .free
def Loc(sc:Scope)(x:Str):Prop:=sc.names.lookup x=some .local\/sc.names.lookup x=some .cell
def Look(env:Env)(h:Heap)(m:Str->Option Value)(x:Str)(u:Value):Prop:=
 (env.kindOf x=some .local/\m x=some u)\/((env.kindOf x=some .cell\/env.kindOf x=some .free)/\∃c,env.cells.lookup x=some c/\h.IsCell c (some u))
structure Cx.Ok(X:Cx):Prop where
 mod:Mod X.K X.mg X.base
 kind:X.env.scope.kind=.function
 glob:X.env.globals=mainGlobals
 blt:X.env.builtins=builtinsNs
 above:X.c_.heap.objs.size<=X.env.locals
 inj:∀x y c,X.env.cells.lookup x=some c->X.env.cells.lookup y=some c->x=y
 has:∀x,(X.env.kindOf x=some .cell\/X.env.kindOf x=some .free)->∃c,X.env.cells.lookup x=some c
 jJ:∀x c,X.fn x=true->X.env.cells.lookup x=some c->X.c_.heap.objs.size<=c
 hd:X.calm=true->X.A.handled=none
 frames:X.A.frames=some X.stack
 mU:X.stack=X.outer\/(X.stack=X.env::X.outer/\X.env.frame=some X.env.locals)
 lE:∀b∈X.ex,b≠X.env.locals/\∀x c,X.env.cells.lookup x=some c->c≠b
 bs:∀b o,X.base.get? b=some o->X.c_.heap.get? b=some o/\X.ia b=none
 fM:X.base.objs.size<=X.c_.heap.objs.size
 km:∀b o,X.base.get? b=some o->b∉X.ex
 jX:∀b∈X.ex,b∉X.fs
 eZ:X.c_.heap.FunFrames X.base X.outer
 ir:∀b∈X.fs,X.ia b=none
structure Inv(X:Cx)(pins:List (Addr×Obj))(σ:List (Option V))(H:Hp)(s:Shared):Prop where
 ok:X.Ok
 os:s.os=X.c_.os
 bare:AllBare s.gens
 base:Un X.fs X.ex X.ia H X.c_.heap s.heap
 loc:∃m,s.heap.Ns X.env.locals m/\∀(i:Nat)(x:Str)(v:V),X.N[i]? =some x->σ[i]? =some (some v)->iX X.env.scope x->∃u,RelV v u/\Look X.env s.heap m x u
 cell:∀x c,X.env.cells.lookup x=some c->∃v,s.heap.IsCell c v
 free:H X.env.locals=none
 eJ:∀x c,X.env.cells.lookup x=some c->H c=none
 pin:∀p∈X.pn++pins,s.heap.get? p.1=some p.2/\H p.1=none/\p.1≠X.env.locals/\p.1∉X.fs/\∀v,p.2.data≠.cell v
 aH:bU X.prog X.w H s.heap
 len:σ.length=X.N.length
section
variable{X:Cx}{pins:List (Addr×Obj)}{σ:List (Option V)}{H H':Hp}{s:Shared}{h':Heap}
theorem Cx.Ok.G7(ok:X.Ok){b:Addr}{o:Obj}(e:X.base.get? b=some o):b∉X.fs:=λhb=>by
 have:=(ok.eZ.mem hb).1
 rw[e] at this;cases this
theorem Inv.bs(I:Inv X pins σ H s):∀b o,X.base.get? b=some o->s.heap.get? b=some o/\H b=none:=λb o e=>
 ⟨I.base.keep b o (I.ok.bs b o e).1 (I.ok.bs b o e).2 (I.ok.G7 e) (I.ok.km b o e),I.base.free b o (I.ok.bs b o e).1 (I.ok.bs b o e).2 (I.ok.km b o e)⟩
theorem Inv.bk(I:Inv X pins σ H s):∀b o,X.base.get? b=some o->s.heap.get? b=some o:=λb o e=>(I.bs b o e).1
theorem Inv.mod(I:Inv X pins σ H s):Mod X.K X.mg X.base:=I.ok.mod
theorem Inv.e7(I:Inv X pins σ H s):X.K.In s.heap:=I.ok.mod.lU.keeps I.bk
theorem Inv.fr(I:Inv X pins σ H s):∃m,Fr X.base X.env.locals s.heap m:=
 let ⟨m,hn,_⟩:=I.loc
 ⟨m,hn,I.bk,Nat.le_trans I.ok.fM I.ok.above⟩
theorem Inv.lt(I:Inv X pins σ H s):X.env.locals<s.heap.objs.size:=let ⟨_,hn,_⟩:=I.loc;hn.lt
theorem Inv.sz(I:Inv X pins σ H s):X.c_.heap.objs.size<=s.heap.objs.size:=Nat.le_trans I.ok.above (Nat.le_of_lt I.lt)
theorem Inv.G9(I:Inv X pins σ H s){a:Addr}(h:s.heap.objs.size<=a):a∉X.fs:=λhb=>by
 obtain⟨_,o,ho,_⟩:=I.ok.eZ.mem hb
 exact absurd (Nat.lt_of_lt_of_le (Heap.lt_size ho) (Nat.le_trans I.sz h)) (Nat.lt_irrefl _)
theorem Inv.ig(I:Inv X pins σ H s):∀x c,X.env.cells.lookup x=some c->c≠X.env.locals:=λx c e z=>by
 obtain⟨v,o,ho,hd⟩:=I.cell x c e
 obtain⟨m,⟨o',es,ep,ho',hd',_⟩,_⟩:=I.loc
 rw[z,ho'] at ho;cases ho;rw[hd'] at hd;cases hd
theorem Inv.eZ(I:Inv X pins σ H s):s.heap.FunFrames X.base X.outer:=by
 have all:∀(l:List Env),(∀b∈fu l,b∈X.fs)->X.c_.heap.FunFrames X.base l->s.heap.FunFrames X.base l:=by
  intro l
  induction l with
  |nil=>intro _ _;trivial
  |cons env r ih=>
   intro hs hl
   obtain⟨hk,⟨L,o,hf,hn,ho,hd⟩,hr⟩:=hl
   have hL:L∈X.fs:=hs L (by unfold fu;rw[List.filterMap_cons,hf];exact List.mem_cons_self)
   obtain⟨sl,e⟩:=I.base.slot L o ho (I.ok.ir L hL) hL λz=>I.ok.jX L z hL
   exact⟨hk,⟨L,_,hf,hn,e,hd⟩,ih (λb hb=>hs b (by unfold fu;rw[List.filterMap_cons,hf];exact List.mem_cons_of_mem _ hb)) hr⟩
 exact all X.outer (λ_ hb=>hb) I.ok.eZ
theorem Inv.stack(I:Inv X pins σ H s):s.heap.FunFrames X.base X.stack:=by
 rcases I.ok.mU with e|⟨e,hf⟩
 .rw[e];exact I.eZ
 .rw[e]
  obtain⟨m,hn,_⟩:=I.loc
  refine .cons (by rw[I.ok.kind];decide) hf hn ?_ I.eZ
  exact Heap.get?_none_of_le (Nat.le_trans I.ok.fM I.ok.above)
theorem Inv.rK(I:Inv X pins σ H s):∀b∈fu X.stack,b∈X.env.locals::X.fs:=λb hb=>by
 rcases I.ok.mU with e|⟨e,hf⟩
 .rw[e] at hb;exact List.mem_cons_of_mem _ hb
 .rw[e] at hb
  unfold fu at hb
  rw[List.filterMap_cons,hf] at hb
  exact hb
theorem Inv.Az(I:Inv X pins σ H s):∀b∈fu X.stack,H b=none:=λb hb=>by
 rcases List.mem_cons.mp (I.rK b hb) with e|hb
 .rw[e];exact I.free
 .obtain⟨_,o,ho,_⟩:=I.ok.eZ.mem hb
  exact I.base.free b o ho (I.ok.ir b hb) λz=>I.ok.jX b z hb
theorem Inv.step{g':Array GenState}{t':Nat}{d':Drawn}{ch:List Addr}(I:Inv X pins σ H s)(hch:∀b∈ch,(b∈X.ex\/X.c_.heap.objs.size<=b)/\b≠X.env.locals/\(∀x c,X.env.cells.lookup x=some c->c≠b)/\∀p∈X.pn++pins,p.1≠b)(keep:∀b o,b≠X.env.locals->b∉X.fs->b∉ch->s.heap.get? b=some o->H b=none->h'.get? b=some o)(slot:∀b o,b≠X.env.locals->b∈X.fs->b∉ch->s.heap.get? b=some o->H b=none->∃sl,h'.get? b=some {o with slots:=sl})(free:∀b o,b∉ch->s.heap.get? b=some o->H b=none->H' b=none)(there:∀b o,b∉ch->s.heap.get? b=some o->∃o',h'.get? b=some o')(gK:∀b xs,H b=some (.tup xs)->H' b=some (.tup xs))(fw:∀b o u,H b=some (.bz o u)->H' b=some (.bz o u))(gI:∀b ps,H b=some (.iO ps)->∃more,H' b=some (.iO (ps++more)))(ns:∀m,s.heap.Ns X.env.locals m->h'.Ns X.env.locals m)(aH:bU X.prog X.w H' h')(hg:AllBare g'):Inv X pins σ H' {s with heap:=h',gens:=g',drawn:=d',toks:=t'}:=by
 have neL:∀b o,X.c_.heap.get? b=some o->b≠X.env.locals:=λb o e=>Nat.ne_of_lt (Nat.lt_of_lt_of_le (Heap.lt_size e) I.ok.above)
 have neC:∀b o,X.c_.heap.get? b=some o->b∉X.ex->b∉ch:=λb o e hx hb=>by
  rcases(hch b hb).1 with z|z
  .exact hx z
  .exact absurd (Nat.lt_of_lt_of_le (Heap.lt_size e) z) (Nat.lt_irrefl _)
 have cellK:∀x c,X.env.cells.lookup x=some c->∀v,s.heap.IsCell c v->h'.IsCell c v:=λx c e v⟨o,ho,hd⟩=>by
  have nch:c∉ch:=λz=>(hch c z).2.2.1 x c e rfl
  by_cases hc:c∈X.fs
  .obtain⟨sl,q⟩:=slot c o (I.ig x c e) hc nch ho (I.eJ x c e)
   exact⟨_,q,hd⟩
  .exact⟨o,keep c o (I.ig x c e) hc nch ho (I.eJ x c e),hd⟩
 refine⟨I.ok,I.os,hg,⟨λb o e n hb hx=>?_,λb o e n hb hx=>?_,λb o e n hx=>?_,λb o e hx=>?_,λb xs e=>gK b xs (I.base.gK b xs e),λb o xs e=>fw b o xs (I.base.fw b o xs e),λb ps e=>?_⟩,?_,λx c e=>?_,?_,λx c e=>?_,λp hp=>?_,aH,I.len⟩
 .exact keep b o (neL b o e) hb (neC b o e hx) (I.base.keep b o e n hb hx) (I.base.free b o e n hx)
 .obtain⟨sl,e1⟩:=I.base.slot b o e n hb hx
  obtain⟨sl',e2⟩:=slot b _ (neL b o e) hb (neC b o e hx) e1 (I.base.free b o e n hx)
  exact⟨sl',e2⟩
 .obtain⟨o',e1⟩:=I.base.there b o e hx
  exact free b o' (neC b o e hx) e1 (I.base.free b o e n hx)
 .obtain⟨o',e1⟩:=I.base.there b o e hx
  exact there b o' (neC b o e hx) e1
 .obtain⟨m1,e1⟩:=I.base.gI b ps e
  obtain⟨m2,e2⟩:=gI b _ e1
  exact⟨m1++m2,by rw[e2,Array.append_assoc]⟩
 .obtain⟨m,hn,hl⟩:=I.loc
  refine⟨m,ns m hn,λi x v e1 e2 e3=>?_⟩
  obtain⟨u,r,l⟩:=hl i x v e1 e2 e3
  refine⟨u,r,?_⟩
  rcases l with l|⟨k,c,e,z⟩
  .exact .inl l
  .exact .inr ⟨k,c,e,cellK x c e _ z⟩
 .obtain⟨v,z⟩:=I.cell x c e
  exact⟨v,cellK x c e v z⟩
 .obtain⟨m,⟨o,_,_,ho,_⟩,_⟩:=I.loc
  exact free _ o (λz=>(hch _ z).2.1 rfl) ho I.free
 .obtain⟨v,o,ho,hd⟩:=I.cell x c e
  exact free c o (λz=>(hch c z).2.2.1 x c e rfl) ho (I.eJ x c e)
 .obtain⟨e,n,ne,nf,d⟩:=I.pin p hp
  have nch:p.1∉ch:=λz=>(hch p.1 z).2.2.2 p hp rfl
  exact⟨keep p.1 p.2 ne nf nch e n,free p.1 p.2 nch e n,ne,nf,d⟩
theorem Inv.un{t':Nat}(I:Inv X pins σ H s)(u:Un X.fs [] H H' s.heap h')(aH:bU X.prog X.w H' h'):Inv X pins σ H' {s with heap:=h',toks:=t'}:=by
 obtain⟨m,⟨o,es,ep,ho,r⟩,_⟩:=id I.loc
 obtain⟨sl,hL⟩:=u.any ho I.free (by simp)
 exact I.step (g':=s.gens) (d':=s.drawn) (ch:=[]) (λ_ z=>nomatch z) (λb o _ hb _ e n=>u.keep b o e n hb (by simp)) (λb o _ hb _ e n=>u.slot b o e n hb (by simp)) (λb o _ e n=>u.free b o e n (by simp)) (λb o _ e=>u.there b o e (by simp)) u.gK u.fw u.gI (λm' hm=>by
  obtain⟨o',es',ep',ho',r'⟩:=hm
  rw[ho] at ho';cases ho'
  exact⟨_,es',ep',hL,r'⟩) aH I.bare
theorem Inv.call{g':Array GenState}{t':Nat}{d':Drawn}{ch:List Addr}(I:Inv X pins σ H s)(u:Un (fu X.stack) ch H H' s.heap h')(aH:bU X.prog X.w H' h')(hg:AllBare g')(hch:∀b∈ch,(b∈X.ex\/X.c_.heap.objs.size<=b)/\b≠X.env.locals/\(∀x c,X.env.cells.lookup x=some c->c≠b)/\∀p∈X.pn++pins,p.1≠b):Inv X pins σ H' {s with heap:=h',gens:=g',drawn:=d',toks:=t'}:=by
 obtain⟨m,⟨o,es,ep,ho,r⟩,_⟩:=id I.loc
 obtain⟨sl,hL⟩:=u.any ho I.free λz=>(hch _ z).2.1 rfl
 exact I.step (ch:=ch) hch (λb o hL hb hc e n=>u.keep b o e n (λz=>(List.mem_cons.mp (I.rK b z)).elim hL hb) hc) (λb o _ _ hc e n=>u.any e n hc) (λb o hc e n=>u.free b o e n hc) (λb o hc e=>u.there b o e hc) u.gK u.fw u.gI (λm' hm=>by
  obtain⟨o',es',ep',ho',r'⟩:=hm
  rw[ho] at ho';cases ho'
  exact⟨_,es',ep',hL,r'⟩) aH hg
theorem Inv.turned{t':Nat}{it:Addr}(I:Inv X pins σ H s)(k:∀b o,b≠it->s.heap.get? b=some o->h'.get? b=some o)(hn:H it=none)(hL:it≠X.env.locals)(h1:it∈X.ex\/X.c_.heap.objs.size<=it)(h2:∀x c,X.env.cells.lookup x=some c->c≠it)(h3:∀p∈X.pn++pins,p.1≠it):Inv X pins σ H {s with heap:=h',toks:=t'}:=by
 have nit:∀b u,H b=some u->b≠it:=λb u e z=>by rw[z,hn] at e;cases e
 refine I.step (g':=s.gens) (d':=s.drawn) (ch:=[it]) (λb hb=>?_) (λb o _ _ hc e _=>k b o (λz=>hc (by simp[z])) e) (λb o _ _ hc e _=>⟨o.slots,k b o (λz=>hc (by simp[z])) e⟩) (λ_ _ _ _ n=>n) (λb o hc e=>⟨o,k b o (λz=>hc (by simp[z])) e⟩) (λ_ _ e=>e) (λ_ _ _ e=>e) (λb ps e=>⟨#[],by rw[e];simp⟩) (λm hm=>?_) (λb u e=>?_) I.bare
 .have e:b=it:=by simpa using hb
  subst e
  exact⟨h1,hL,h2,h3⟩
 .obtain⟨o,es,ep,ho,r⟩:=hm
  exact⟨o,es,ep,k _ o (Ne.symm hL) ho,r⟩
 .refine(I.aH b u e).fb (λc v hc q=>k c v ?_ q) (λ_ q=>q) λ_ _ q=>q
  rcases hc with z|z
  .rw[z];exact nit b u e
  .exact nit c _ z
theorem Inv.tok(I:Inv X pins σ H s)(t:Nat):Inv X pins σ H {s with toks:=t}:=I.un (h':=s.heap) (t':=t) Un.refl I.aH
theorem Inv.kept{t':Nat}(I:Inv X pins σ H s)(k:∀b u,s.heap.get? b=some u->h'.get? b=some u):Inv X pins σ H {s with heap:=h',toks:=t'}:=I.un (Un.kept k) (I.aH.kept k)
theorem Inv.laid{a:Addr}{o:HO}{t':Nat}(I:Inv X pins σ H s)(k:∀b u,s.heap.get? b=some u->h'.get? b=some u)(hp:s.heap.objs.size<=a)(new:cy X.prog X.w (upd H a o) h' a o):Inv X pins σ (upd H a o) {s with heap:=h',toks:=t'}:=I.un (Un.laid k hp (I.aH.fresh hp)) (I.aH.laid k hp new)
theorem Inv.write{x e:Addr}{o:HO}{t':Nat}(I:Inv X pins σ H s)(mu:gc (H x))(he:e=x\/H e=some (.own x))(k:∀b u,b≠e->s.heap.get? b=some u->h'.get? b=some u)(heo:∃u,h'.get? e=some u)(new:cy X.prog X.w (upd H x o) h' x o):Inv X pins σ (upd H x o) {s with heap:=h',toks:=t'}:=I.un (Un.write mu he k heo) (I.aH.write mu he k heo new)
theorem Inv.weak{σ':List (Option V)}(I:Inv X pins σ H s)(hl:σ'.length=σ.length)(w:∀(i:Nat)v,σ'[i]? =some (some v)->σ[i]? =some (some v)):Inv X pins σ' H s:=
 ⟨I.ok,I.os,I.bare,I.base,let ⟨m,hn,hl'⟩:=I.loc;⟨m,hn,λi x v e1 e2 e3=>hl' i x v e1 (w i v e2) e3⟩,I.cell,I.free,I.eJ,I.pin,I.aH,hl.trans I.len⟩
theorem Inv.zh{pins':List (Addr×Obj)}(I:Inv X pins σ H s)(h:∀p∈pins',s.heap.get? p.1=some p.2/\H p.1=none/\p.1≠X.env.locals/\p.1∉X.fs/\∀v,p.2.data≠.cell v):Inv X pins' σ H s:=
 ⟨I.ok,I.os,I.bare,I.base,I.loc,I.cell,I.free,I.eJ,λp hp=>(List.mem_append.mp hp).elim (λz=>I.pin p (List.mem_append_left _ z)) (h p),I.aH,I.len⟩
theorem oP{N:List Str}(hN:N.Nodup){i j:Nat}{x:Str}(a:N[i]? =some x)(b:N[j]? =some x):i=j:=by
 obtain⟨h1,e1⟩:=List.getElem?_eq_some_iff.mp a
 obtain⟨h2,e2⟩:=List.getElem?_eq_some_iff.mp b
 exact(List.getElem_inj hN).mp (e1.trans e2.symm)
theorem AA{M:Model}{A:Around}{E:Value->Shared->Prop}{i:Nat}{x:Str}{v:V}{u:Value}{Q:Unit->Shared->Prop}(I:Inv X pins σ H s)(hN:X.N.Nodup)(hi:X.N[i]? =some x)(hx:Loc X.env.scope x)(r:RelV v u)(h:∀s',Inv X pins (σ.set i (some v)) H s'->(∃a,Heap.SameBut a s.heap s'.heap/\(a=X.env.locals\/X.env.cells.lookup x=some a))->Q () s')(hf:X.fn x=true\/X.env.scope.names.lookup x=some .local:=by first|exact .inl rfl|exact .inr rfl|assumption):wpAny M A (storeName X.env x u) Q E s:=by
 obtain⟨m,hn,hl⟩:=id I.loc
 have hcls:(X.env.scope.kind== .class||(X.env.scope.kind== .module&&X.env.locals !=X.env.globals))=false:=by rw[I.ok.kind];rfl
 have hiσ:i<σ.length:=by rw[I.len];exact(List.getElem?_eq_some_iff.mp hi).1
 have ig:=I.ig
 have tracked:∀{a:Addr}{h':Heap},(∃o,s.heap.get? a=some o/\H a=none)->Heap.SameBut a s.heap h'->bU X.prog X.w H h':=λ{a h'}ha hs b ob e=>by
  obtain⟨_,_,hfree⟩:=ha
  refine(I.aH b ob e).fb (λc w' hc q=>(hs.2 c ?_).trans q) (λ_ q=>q) λ_ _ q=>q
  rintro rfl
  rcases hc with rfl|hc
  .rw[hfree] at e;cases e
  .rw[hfree] at hc;cases hc
 rcases hx with hk|hk
 .refine wpAny_storeName_local hk hn (λh' hn' hs=>?_) hcls
  obtain⟨oL,_,_,hoL,_⟩:=id hn
  refine h _ ⟨I.ok,I.os,I.bare,⟨λb o e n hb hx=>?_,λb o e n hb hx=>?_,I.base.free,λb o e hx=>?_,I.base.gK,I.base.fw,I.base.gI⟩,⟨_,hn',λj y v' e1 e2 e3=>?_⟩,λy c e=>?_,I.free,I.eJ,λp hp=>?_,tracked ⟨oL,hoL,I.free⟩ hs,by simpa using I.len⟩ ⟨_,hs,.inl rfl⟩
  .exact(hs.2 b (Nat.ne_of_lt (Nat.lt_of_lt_of_le (Heap.lt_size e) I.ok.above))).trans (I.base.keep b o e n hb hx)
  .obtain⟨sl,e1⟩:=I.base.slot b o e n hb hx
   exact⟨sl,(hs.2 b (Nat.ne_of_lt (Nat.lt_of_lt_of_le (Heap.lt_size e) I.ok.above))).trans e1⟩
  .obtain⟨o',e1⟩:=I.base.there b o e hx
   exact⟨o',(hs.2 b (Nat.ne_of_lt (Nat.lt_of_lt_of_le (Heap.lt_size e) I.ok.above))).trans e1⟩
  .by_cases hj:j=i
   .subst hj
    rw[hi] at e1;cases e1
    rw[List.getElem?_set_self hiσ] at e2
    cases e2
    exact⟨u,r,.inl ⟨hk,by simp⟩⟩
   .rw[List.getElem?_set_ne (Ne.symm hj)] at e2
    obtain⟨u',r',q⟩:=hl j y v' e1 e2 e3
    refine⟨u',r',?_⟩
    rcases q with⟨k,e⟩|⟨k,c,e,z⟩
    .refine .inl ⟨k,?_⟩
     have:y≠x:=λe=>hj (oP hN e1 (e▸hi))
     simp[this,e]
    .exact .inr ⟨k,c,e,z.sameBut hs (ig y c e)⟩
  .obtain⟨w',z⟩:=I.cell y c e
   exact⟨w',z.sameBut hs (ig y c e)⟩
  .obtain⟨e,n,ne,nf,d⟩:=I.pin p hp
   exact⟨(hs.2 p.1 ne).trans e,n,ne,nf,d⟩
 .have hfn:X.fn x=true:=by
   rcases hf with z|z
   .exact z
   .rw[z] at hk;cases hk
  obtain⟨c,hc⟩:=I.ok.has x (.inl hk)
  obtain⟨w',z⟩:=I.cell x c hc
  refine wpAny_storeName_cell I.ok.kind hk hc z (λh' hc' hs=>?_)
  obtain⟨oc,hoc,hocd⟩:=id z
  refine h {s with heap:=h'} ⟨I.ok,I.os,I.bare,⟨λb o e n hb hx=>?_,λb o e n hb hx=>?_,I.base.free,λb o e hx=>?_,I.base.gK,I.base.fw,I.base.gI⟩,⟨m,hn.sameBut hs (Ne.symm (ig x c hc)),λj y v' e1 e2 e3=>?_⟩,λy c' e=>?_,I.free,I.eJ,λp hp=>?_,tracked ⟨oc,hoc,I.eJ x c hc⟩ hs,by simpa using I.len⟩ ⟨c,hs,.inr hc⟩
  .exact(hs.2 b (Nat.ne_of_lt (Nat.lt_of_lt_of_le (Heap.lt_size e) (I.ok.jJ x c hfn hc)))).trans (I.base.keep b o e n hb hx)
  .obtain⟨sl,e1⟩:=I.base.slot b o e n hb hx
   exact⟨sl,(hs.2 b (Nat.ne_of_lt (Nat.lt_of_lt_of_le (Heap.lt_size e) (I.ok.jJ x c hfn hc)))).trans e1⟩
  .obtain⟨o',e1⟩:=I.base.there b o e hx
   exact⟨o',(hs.2 b (Nat.ne_of_lt (Nat.lt_of_lt_of_le (Heap.lt_size e) (I.ok.jJ x c hfn hc)))).trans e1⟩
  .by_cases hj:j=i
   .subst hj
    rw[hi] at e1;cases e1
    rw[List.getElem?_set_self hiσ] at e2
    cases e2
    exact⟨u,r,.inr ⟨.inl hk,c,hc,hc'⟩⟩
   .rw[List.getElem?_set_ne (Ne.symm hj)] at e2
    obtain⟨u',r',q⟩:=hl j y v' e1 e2 e3
    refine⟨u',r',?_⟩
    rcases q with q|⟨k,c',e,z'⟩
    .exact .inl q
    .refine .inr ⟨k,c',e,z'.sameBut hs ?_⟩
     rintro rfl
     exact hj (oP hN e1 (I.ok.inj _ _ _ e hc▸hi))
  .by_cases hcc:c'=c
   .subst hcc;exact⟨_,hc'⟩
   .obtain⟨w2,z2⟩:=I.cell y c' e
    exact⟨w2,z2.sameBut hs hcc⟩
  .obtain⟨e,n,ne,nf,d⟩:=I.pin p hp
   refine⟨(hs.2 p.1 ?_).trans e,n,ne,nf,d⟩
   intro q
   rw[q,hoc] at e
   have q':oc=p.2:=Option.some.inj e
   exact d w' (by rw[<-q'];exact hocd)
theorem rL{M:Model}{A:Around}{E:Value->Shared->Prop}{i:Nat}{x:Str}{v:V}{u:Value}{Q:Unit->Shared->Prop}(I:Inv X pins σ H s)(hN:X.N.Nodup)(hi:X.N[i]? =some x)(hx:Loc X.env.scope x)(r:RelV v u)(h:∀s',Inv X pins (σ.set i (some v)) H s'->Q () s')(hf:X.fn x=true\/X.env.scope.names.lookup x=some .local:=by first|exact .inl rfl|exact .inr rfl|assumption):wpAny M A (storeName X.env x u) Q E s:=
 AA I hN hi hx r (λs' I' _=>h s' I') hf
theorem Inv.Dq{s':Shared}{ch:List Addr}(I:Inv X pins σ H s)(ho:s'.os=s.os)(u:Un (fu X.stack) ch H H' s.heap s'.heap)(aH:bU X.prog X.w H' s'.heap)(hg:AllBare s'.gens)(hch:∀b∈ch,(b∈X.ex\/X.c_.heap.objs.size<=b)/\b≠X.env.locals/\(∀x c,X.env.cells.lookup x=some c->c≠b)/\∀p∈X.pn++pins,p.1≠b):Inv X pins σ H' s':=by
 obtain⟨h',g',d',t',o'⟩:=s'
 have e:o'=s.os:=ho
 subst e
 exact I.call (g':=g') (t':=t') (d':=d') u aH hg hch
end
abbrev XK:=Value->Option Addr->Hp->Prop
abbrev St:=List (Option V)
abbrev VK:=V->Hp->Prop
abbrev TE:=St->Hp->VK->Prop
abbrev TT:=St->Hp->(Bool->Hp->Prop)->Prop
abbrev TA:=St->Hp->(List V->Hp->Prop)->Prop
structure Ends where
 nx:St->Hp->Prop
 rt:VK
 bk:St->Hp->Prop:=λ_ _=>False
 ct:St->Hp->Prop:=λ_ _=>False
abbrev TS:=Ends->St->Hp->Prop
def EP(X:Cx)(pins:List (Addr×Obj))(σ:St)(Q:VK)(u:Value)(s':Shared):Prop:=∃v H',Inv X pins σ H' s'/\RelV v u/\Q v H'
def TP(X:Cx)(pins:List (Addr×Obj))(σ:St)(Q:Bool->Hp->Prop)(b:Bool)(s':Shared):Prop:=∃H',Inv X pins σ H' s'/\Q b H'
def AP(X:Cx)(pins:List (Addr×Obj))(σ:St)(Q:List V->Hp->Prop)(us:List Value)(s':Shared):Prop:=∃vs H',Inv X pins σ H' s'/\Vals vs us/\Q vs H'
def SP(X:Cx)(pins:List (Addr×Obj))(D:Ends)(f:Flow)(s':Shared):Prop:=
 match f with
 |.next=>∃σ' H',Inv X pins σ' H' s'/\D.nx σ' H'
 |.brk=>∃σ' H',Inv X pins σ' H' s'/\D.bk σ' H'
 |.cont=>∃σ' H',Inv X pins σ' H' s'/\D.ct σ' H'
 |.ret u=>∃v σ' H',Inv X pins σ' H' s'/\RelV v u/\D.rt v H'
def PE(X:Cx)(e:Expr)(t:TE):Prop:=
 ∀(pins:List (Addr×Obj))(s:Shared)(σ:St)(H:Hp)(Q:VK),Inv X pins σ H s->t σ H Q->wpAny (model X.prog X.w) X.A (eval e X.env) (EP X pins σ Q) X.xe s
def PT(X:Cx)(e:Expr)(t:TT):Prop:=
 ∀(pins:List (Addr×Obj))(s:Shared)(σ:St)(H:Hp)(Q:Bool->Hp->Prop),Inv X pins σ H s->t σ H Q->wpAny (model X.prog X.w) X.A (isTrue e X.env (eval e X.env)) (TP X pins σ Q) X.xe s
def PW(X:Cx)(e:Expr)(t:TT):Prop:=
 ∀(whole:Sem Value)(pins:List (Addr×Obj))(s:Shared)(σ:St)(H:Hp)(Q:Bool->Hp->Prop),Inv X pins σ H s->t σ H Q->wpAny (model X.prog X.w) X.A (isTrue e X.env whole) (TP X pins σ Q) X.xe s
theorem PW.pt{X:Cx}{e:Expr}{t:TT}(h:PW X e t):PT X e t:=h _
def PA(X:Cx)(es:List Expr)(t:TA):Prop:=
 ∀(pos:Pos)(pins:List (Addr×Obj))(s:Shared)(σ:St)(H:Hp)(Q:List V->Hp->Prop),Inv X pins σ H s->t σ H Q->wpAny (model X.prog X.w) X.A (spliced (backTo pos (starEach es X.env))) (AP X pins σ Q) X.xe s
def PS(X:Cx)(st:Stmt)(t:TS):Prop:=
 ∀(pins:List (Addr×Obj))(s:Shared)(σ:St)(H:Hp)(D:Ends),Inv X pins σ H s->t D σ H->wpAny (model X.prog X.w) X.A (exec st X.env) (SP X pins D) X.xe s
def eG(X:Cx)(st:List Stmt)(t:TS):Prop:=
 ∀(pins:List (Addr×Obj))(s:Shared)(σ:St)(H:Hp)(D:Ends),Inv X pins σ H s->t D σ H->wpAny (model X.prog X.w) X.A (execs st X.env) (SP X pins D) X.xe s
theorem aJ{α:Type}{t:Sem α}{Q Q':α->Shared->Prop}{M:Model}{A:Around}{E:Value->Shared->Prop}{s:Shared}(h:wpAny M A t Q E s)(hQ:∀a s,Q a s->Q' a s):wpAny M A t Q' E s:=wpAny_mono h hQ λ_ _ x=>x
end L2
namespace L2
open PySem PySem.Spec PyProof.Rows
section
variable{X:Cx}
theorem bin{a b:Expr}{ta tb:TE}(ha:PE X a ta)(hb:PE X b tb){pins:List (Addr×Obj)}{s:Shared}{σ:St}{H:Hp}{R:V->V->Hp->Prop}(I:Inv X pins σ H s)(h:ta σ H λx H1=>tb σ H1 λy H2=>R x y H2){α:Type}{Q:α->Shared->Prop}{f:Value->Value->Sem α}(hf:∀v u s2 x y H2,Inv X pins σ H2 s2->RelV x v->RelV y u->R x y H2->wpAny (model X.prog X.w) X.A (f v u) Q X.xe s2):wpAny (model X.prog X.w) X.A (eval a X.env) (λv s₁=>wpAny (model X.prog X.w) X.A (eval b X.env) (λu s₂=>wpAny (model X.prog X.w) X.A (f v u) Q X.xe s₂) X.xe s₁) X.xe s:=by
 refine aJ (ha pins s σ H _ I h) λv s1⟨x,H1,I1,r1,q1⟩=>?_
 refine aJ (hb pins s1 σ H1 _ I1 q1) λu s2⟨y,H2,I2,r2,q2⟩=>?_
 exact hf v u s2 x y H2 I2 r1 r2 q2
def dG(i:Nat):TE:=λσ H Q=>∃v,σ[i]? =some (some v)/\Q v H
def tC(v:V):TE:=λ_ H Q=>Q v H
theorem IJ{i:Nat}{x:Str}{pos:Pos}(hN:X.N[i]? =some x)(hv:iX X.env.scope x)(hd:(x==("__debug__":Str))=false:=by decide)(hcd:(x==("__classdict__":Str))=false:=by decide):PE X (.Name x pos) (dG i):=by
 intro pins s σ H Q I h
 obtain⟨v,e,h⟩:=h
 obtain⟨m,hn,hl⟩:=I.loc
 obtain⟨u,r,l⟩:=hl i x v hN e hv
 have fin:EP X pins σ Q u s:=⟨v,H,I,r,h⟩
 rcases l with⟨hk,hm⟩|⟨hk,c,hc,hcell⟩
 .exact wpAny_Name (wpAny_loadName_local I.ok.kind hk hn hm fin) hd
 .rcases hk with hk|hk
  .exact wpAny_Name (wpAny_loadName_cell I.ok.kind hk hc hcell fin) hd
  .exact wpAny_Name (wpAny_loadName_free I.ok.kind hk hc hcell fin hcd) hd
theorem aj{i j pos}:PE X (.Constant (.int i) j pos) (tC (.int i)):=λ_ _ _ H _ I h=>wpAny_Constant_int ⟨.int i,H,I.tok _,⟨_,rfl⟩,h⟩
theorem ji{b j pos}:PE X (.Constant (.bool b) j pos) (tC (.bl b)):=λ_ _ _ H _ I h=>Constant_bool ⟨.bl b,H,I,rfl,h⟩
theorem IH{j pos}:PE X (.Constant .none j pos) (tC .bj):=λ_ _ _ H _ I h=>Constant_none ⟨.bj,H,I,rfl,h⟩
def Gl(X:Cx)(x:Str):Prop:=X.env.kindOf x=some .globalImplicit
theorem lW{E:Value->Shared->Prop}{pins:List (Addr×Obj)}{s:Shared}{σ:St}{H:Hp}{x:Str}{u:Value}{pos:Pos}{Q:Value->Shared->Prop}(I:Inv X pins σ H s)(hg:Gl X x)(hm:X.mg x=some u)(h:Q u s)(hd:(x==("__debug__":Str))=false:=by decide):wpAny (model X.prog X.w) X.A (eval (.Name x pos) X.env) Q E s:=
 Calls.Name_function_global I.ok.kind hg (Calls.loadGlobal_global (by rw[I.ok.glob];exact I.mod.glob.keeps I.bk) hm h) hd
theorem iw{E:Value->Shared->Prop}{pins:List (Addr×Obj)}{s:Shared}{σ:St}{H:Hp}{x:Str}{u:Value}{pos:Pos}{Q:Value->Shared->Prop}(I:Inv X pins σ H s)(hg:Gl X x)(hm:X.mg x=none)(hv:bootBuiltins x=some u)(h:Q u s)(hn:x≠"__name__":=by decide)(hd:(x==("__debug__":Str))=false:=by decide):wpAny (model X.prog X.w) X.A (eval (.Name x pos) X.env) Q E s:=by
 obtain⟨mb,h1,h2⟩:=I.mod.blt
 exact Calls.Name_function_global I.ok.kind hg (Calls.loadGlobal_builtin (by rw[I.ok.glob];exact I.mod.glob.keeps I.bk) hm (by rw[I.ok.blt];exact h1.keeps I.bk) ((h2 x hn).trans hv) h) hd
theorem y0{x:Str}{v:V}{u:Value}{pos:Pos}(hg:Gl X x)(hm:X.mg x=some u)(r:RelV v u)(hd:(x==("__debug__":Str))=false:=by decide):PE X (.Name x pos) (tC v):=
 λ_ _ _ H _ I h=>lW I hg hm ⟨v,H,I,r,h⟩ hd
variable{a b:Expr}{ta tb:TE}{pos:Pos}
def PC(X:Cx)(op:CmpOp)(a b:Expr)(t:TE):Prop:=
 ∀(pins:List (Addr×Obj))(s:Shared)(σ:St)(H:Hp)(Q:VK),Inv X pins σ H s->t σ H Q->wpAny (model X.prog X.w) X.A (eval a X.env) (λv s₁=>wpAny (model X.prog X.w) X.A (eval b X.env) (λu s₂=>wpAny (model X.prog X.w) X.A (compareOp op v u) (EP X pins σ Q) X.xe s₂) X.xe s₁) X.xe s
theorem oO(b:Expr){op:CmpOp}(h:op≠.In)(h2:op≠.NotIn):behindInMarks op b=false:=by
 have e1:(op==CmpOp.In)=false:=by cases op<;>first|rfl|exact absurd rfl h
 have e2:(op==CmpOp.NotIn)=false:=by cases op<;>first|rfl|exact absurd rfl h2
 cases b<;>simp[behindInMarks,e1,e2]
def AO(ta:TE):TE:=λσ H Q=>ta σ H λx H1=>Q (.bl (decide (x=.bj))) H1
def Mz(ta:TE):TE:=λσ H Q=>ta σ H λx H1=>Q (.bl (!decide (x=.bj))) H1
theorem RelV.G_{x:V}{v:Value}(r:RelV x v):(v==Value.none)=decide (x=.bj):=by
 cases x with
 |bj=>cases r;rfl
 |bl _=>cases r;rfl
 |int _=>obtain⟨t,rfl⟩:=r;rfl
 |str _=>obtain⟨t,rfl⟩:=r;rfl
 |dD _=>obtain⟨t,rfl⟩:=r;rfl
 |j6 _=>obtain⟨t,rfl⟩:=r;rfl
 |ref _=>cases r;rfl
 |ty _=>cases r;rfl
theorem IB{j pos'}(ha:PE X a ta):PC X .Is a (.Constant .none j pos') (AO ta):=by
 intro pins s σ H Q I h
 refine aJ (ha pins s σ H _ I h) λv s1⟨x,H1,I1,r1,q1⟩=>?_
 exact Constant_none (is_none_gen ⟨.bl _,H1,I1,by rw[r1.G_];rfl,q1⟩)
def tB(t:TE):TT:=λσ H Q=>t σ H λx H1=>∃c,x=.bl c/\Q c H1
theorem yZ{op:CmpOp}{t:TE}(h:PC X op a b t)(h1:behindInMarks op b=false:=by first|exact oO _ (by decide) (by decide)|rfl):PE X (.Compare a [op] [b] pos) t:=λpins s σ H Q I hw=>wpAny_Compare1 (h pins s σ H Q I hw) h1
theorem cj{op:CmpOp}{t:TE}(h:PC X op a b t)(h1:behindInMarks op b=false:=by first|exact oO _ (by decide) (by decide)|rfl):PT X (.Compare a [op] [b] pos) (tB t):=by
 intro pins s σ H Q I hw
 refine wpAny_isTrue_Compare1 (aJ (h pins s σ H _ I hw) λv s1 h1=>aJ h1 λu s2 h2=>aJ h2 λc s3⟨x,H1,I1,r1,q1⟩=>?_) h1
 obtain⟨d,rfl,q⟩:=q1
 cases r1
 exact wpAny_truthy_bool ⟨H1,I1,q⟩
theorem bD{e:Expr}{t:TE}(h:PE X e t)(he:∀whole,isTrue e X.env whole=(do let v<-whole;standAt e.pos;holding [v] (truthy v)):=by intro _;rfl):PT X e (tB t):=by
 intro pins s σ H Q I hw
 refine isTrue_plain (aJ (h pins s σ H _ I hw) λv s1⟨x,H1,I1,r1,q1⟩=>?_) (he _)
 obtain⟨d,rfl,q⟩:=q1
 cases r1
 exact wpAny_truthy_bool ⟨H1,I1,q⟩
variable{tA tB':TT}{rest:List Expr}
def AD(t u:TT):TT:=λσ H Q=>t σ H λc H1=>if c=true then u σ H1 Q else Q false H1
def AX(t u:TT):TT:=λσ H Q=>t σ H λc H1=>if c=true then Q true H1 else u σ H1 Q
def AW(t:TT):TT:=λσ H Q=>t σ H λc H1=>Q (!c) H1
theorem eT(ha:PT X a tA):PW X (.BoolOp .And [a] pos) tA:=by
 intro wh pins s σ H Q I h
 refine isTrue_and (aJ (ha pins s σ H Q I h) λc s1 e=>?_)
 cases c with
 |true=>exact isTrue_and_nil e
 |false=>exact e
theorem gD(ha:PT X a tA):PW X (.BoolOp .Or [a] pos) tA:=by
 intro wh pins s σ H Q I h
 refine isTrue_or (aJ (ha pins s σ H Q I h) λc s1 e=>?_)
 cases c with
 |false=>exact isTrue_or_nil e
 |true=>exact e
theorem eR(ha:PT X a tA)(hb:PW X (.BoolOp .And (b::rest) pos) tB'):PW X (.BoolOp .And (a::b::rest) pos) (AD tA tB'):=by
 intro wh pins s σ H Q I h
 refine isTrue_and (aJ (ha pins s σ H _ I h) λc s1⟨H1,I1,q1⟩=>?_)
 cases c with
 |true=>exact hb wh pins s1 σ H1 Q I1 q1
 |false=>exact⟨H1,I1,q1⟩
theorem gC(ha:PT X a tA)(hb:PW X (.BoolOp .Or (b::rest) pos) tB'):PW X (.BoolOp .Or (a::b::rest) pos) (AX tA tB'):=by
 intro wh pins s σ H Q I h
 refine isTrue_or (aJ (ha pins s σ H _ I h) λc s1⟨H1,I1,q1⟩=>?_)
 cases c with
 |true=>exact⟨H1,I1,q1⟩
 |false=>exact hb wh pins s1 σ H1 Q I1 q1
theorem bF(ha:PT X a tA):PT X (.UnaryOp .Not a pos) (AW tA):=by
 intro pins s σ H Q I h
 exact isTrue_not (ha pins s σ H (λc H1=>Q (!c) H1) I h)
def g0(ta tb:TE):TE:=λσ H Q=>ta σ H λx H1=>∃c,x=.bl c/\if c=true then tb σ H1 Q else Q (.bl false) H1
def hX(ta tb:TE):TE:=λσ H Q=>ta σ H λx H1=>∃c,x=.bl c/\if c=true then Q (.bl true) H1 else tb σ H1 Q
def hW(ta:TE):TE:=λσ H Q=>ta σ H λx H1=>∃c,x=.bl c/\Q (.bl (!c)) H1
theorem kD{op}{t:TE}(h:PE X a t):PE X (.BoolOp op [a] pos) t:=λpins s σ H Q I hw=>BoolOp_one (h pins s σ H Q I hw)
theorem iC(ha:PE X a ta)(hb:PE X (.BoolOp .And (b::rest) pos) tb):PE X (.BoolOp .And (a::b::rest) pos) (g0 ta tb):=by
 intro pins s σ H Q I h
 refine BoolOp_and (aJ (ha pins s σ H _ I h) λv s1⟨x,H1,I1,r1,q1⟩=>?_)
 obtain⟨c,rfl,q1⟩:=q1
 cases r1
 refine wpAny_truthy_bool ?_
 cases c with
 |true=>exact hb pins s1 σ H1 Q I1 q1
 |false=>exact⟨.bl false,H1,I1,rfl,q1⟩
theorem mr(ha:PE X a ta)(hb:PE X (.BoolOp .Or (b::rest) pos) tb):PE X (.BoolOp .Or (a::b::rest) pos) (hX ta tb):=by
 intro pins s σ H Q I h
 refine BoolOp_or (aJ (ha pins s σ H _ I h) λv s1⟨x,H1,I1,r1,q1⟩=>?_)
 obtain⟨c,rfl,q1⟩:=q1
 cases r1
 refine wpAny_truthy_bool ?_
 cases c with
 |false=>exact hb pins s1 σ H1 Q I1 q1
 |true=>exact⟨.bl true,H1,I1,rfl,q1⟩
theorem o8(ha:PE X a ta):PE X (.UnaryOp .Not a pos) (hW ta):=by
 intro pins s σ H Q I h
 refine UnaryOp_ (aJ (ha pins s σ H _ I h) λv s1⟨x,H1,I1,r1,q1⟩=>?_)
 obtain⟨c,rfl,q1⟩:=q1
 cases r1
 exact not_of (wpAny_truthy_bool ⟨.bl (!c),H1,I1,rfl,q1⟩)
def AM(t:TT)(ta tb:TE):TE:=λσ H Q=>t σ H λc H1=>if c=true then ta σ H1 Q else tb σ H1 Q
theorem iE{c:Expr}(hc:PT X c tA)(ha:PE X a ta)(hb:PE X b tb):PE X (.IfExp c a b pos) (AM tA ta tb):=by
 intro pins s σ H Q I h
 refine wpAny_IfExp (aJ (hc pins s σ H _ I h) λd s1⟨H1,I1,q1⟩=>?_)
 cases d with
 |true=>exact ha pins s1 σ H1 Q I1 q1
 |false=>exact hb pins s1 σ H1 Q I1 q1
end
end L2
namespace L2
open PySem PySem.Spec PyProof.Rows
def ax(K:PySem.W.Frag)(H:Hp)(a:Addr)(xs:List V):Prop:=
 Rd H a (.lst xs)\/∃(o:Obj)(its:Array Value)(n:Nat),K.lookup a=some o/\o.cls=.type "list"/\o.dict=none/\o.data=.seq its n/\its.size<=sizeLine/\Vals xs its.toList
def dk(K:PySem.W.Frag)(H:Hp)(a:Addr)(xs:List V):Prop:=
 Rd H a (.tup xs)\/∃(o:Obj)(its:Array Value)(n:Nat),K.lookup a=some o/\o.cls=.type "tuple"/\o.data=.seq its n/\its.size<=sizeLine/\Vals xs its.toList
def Cp:Value->Option V
 |.none=>some .bj
 |.bool b=>some (.bl b)
 |.int i _=>some (.int i)
 |.str x _=>some (.str x)
 |.bytes b _=>some (.dD b)
 |.float b _=>some (.j6 b)
 |.ref a=>some (.ref a)
 |.type n=>some (.ty n)
 |_=>none
theorem RelV.abs{x:V}{u:Value}(r:RelV x u):Cp u=some x:=by
 cases x with
 |bj=>cases r;rfl
 |bl _=>cases r;rfl
 |int _=>obtain⟨t,rfl⟩:=r;rfl
 |str _=>obtain⟨t,rfl⟩:=r;rfl
 |dD _=>obtain⟨t,rfl⟩:=r;rfl
 |j6 _=>obtain⟨t,rfl⟩:=r;rfl
 |ref _=>cases r;rfl
 |ty _=>cases r;rfl
theorem RelV.inj{x y:V}{u:Value}(r:RelV x u)(q:RelV y u):x=y:=Option.some.inj (r.abs.symm.trans q.abs)
theorem Vals.inj:∀{xs ys:List V}{us:List Value},Vals xs us->Vals ys us->xs=ys
 |_,_,_,.nil,.nil=>rfl
 |_,_,_,.cons r t,.cons r' t'=>by rw[r.inj r',Vals.inj t t']
section
variable{X:Cx}{pins:List (Addr×Obj)}{σ:St}{H:Hp}{s:Shared}{a:Addr}{xs ys:List V}
theorem ax.of{K:PySem.W.Frag}(h:H a=some (.lst xs)):ax K H a xs:=.inl (.inl h)
theorem dk.of{K:PySem.W.Frag}(h:H a=some (.tup xs)):dk K H a xs:=.inl (.inl h)
theorem Inv.list(I:Inv X pins σ H s)(h:ax X.K H a xs):∃its:List Value,Vals xs its/\PlainL s.heap a its.toArray/\xs.length<=sizeLine:=by
 rcases h with h|⟨o,its,n,hk,hc,hd,hs,hz,r⟩
 .obtain⟨z,its,n,r,e⟩:=h.ok I.aH
  exact⟨its,r,⟨_,n,e,rfl,rfl,rfl⟩,z⟩
 .refine⟨its.toList,r,⟨o,n,I.e7 a o hk,hc,hd,by simpa using hs⟩,?_⟩
  have e:=r.length
  simp only[Array.length_toList] at e
  omega
theorem Inv.tuple(I:Inv X pins σ H s)(h:dk X.K H a xs):∃its:List Value,Vals xs its/\IsTup s.heap a its.toArray/\xs.length<=sizeLine:=by
 rcases h with h|⟨o,its,n,hk,hc,hs,hz,r⟩
 .obtain⟨z,its,r,p⟩:=h.ok I.aH
  exact⟨its,r,p,z⟩
 .refine⟨its.toList,r,⟨o,I.e7 a o hk,hc,n,by simpa using hs⟩,?_⟩
  have e:=r.length
  simp only[Array.length_toList] at e
  omega
theorem Inv.yj(I:Inv X pins σ H s)(h:ax X.K H a xs)(h':ax X.K H a ys):xs=ys:=by
 obtain⟨its,r,⟨o,n,e,_,_,d⟩,_⟩:=I.list h
 obtain⟨its',r',⟨o',n',e',_,_,d'⟩,_⟩:=I.list h'
 rw[e] at e';cases e'
 rw[d] at d'
 injection d' with d1 _
 have:its=its':=by simpa using congrArg Array.toList d1
 subst this
 exact r.inj r'
end
abbrev Cx.fY(X:Cx)(E:Value->Shared->Prop):Cx:={X with xe:=E}
abbrev Cx.l8(X:Cx):Cx:=X.fY λ_ _=>False
theorem Cx.Ok.fY{X:Cx}(ok:X.Ok)(E:Value->Shared->Prop):(X.fY E).Ok:=
 ⟨ok.mod,ok.kind,ok.glob,ok.blt,ok.above,ok.inj,ok.has,ok.jJ,ok.hd,ok.frames,ok.mU,ok.lE,ok.bs,ok.fM,ok.km,ok.jX,ok.eZ,ok.ir⟩
theorem Cx.Ok.hZ{X:Cx}{E:Value->Shared->Prop}(ok:(X.fY E).Ok):X.Ok:=
 ⟨ok.mod,ok.kind,ok.glob,ok.blt,ok.above,ok.inj,ok.has,ok.jJ,ok.hd,ok.frames,ok.mU,ok.lE,ok.bs,ok.fM,ok.km,ok.jX,ok.eZ,ok.ir⟩
section
variable{X:Cx}{pins:List (Addr×Obj)}{σ:St}{H:Hp}{s:Shared}{E:Value->Shared->Prop}
theorem Inv.fY(I:Inv X pins σ H s)(E:Value->Shared->Prop):Inv (X.fY E) pins σ H s:=⟨I.ok.fY E,I.os,I.bare,I.base,I.loc,I.cell,I.free,I.eJ,I.pin,I.aH,I.len⟩
theorem Inv.hZ(I:Inv (X.fY E) pins σ H s):Inv X pins σ H s:=⟨I.ok.hZ,I.os,I.bare,I.base,I.loc,I.cell,I.free,I.eJ,I.pin,I.aH,I.len⟩
theorem SP.hZ{D:Ends}{f:Flow}{s':Shared}(h:SP (X.fY E) pins D f s'):SP X pins D f s':=by
 cases f with
 |next=>obtain⟨σ',H',I,q⟩:=h;exact⟨σ',H',I.hZ,q⟩
 |brk=>obtain⟨σ',H',I,q⟩:=h;exact⟨σ',H',I.hZ,q⟩
 |cont=>obtain⟨σ',H',I,q⟩:=h;exact⟨σ',H',I.hZ,q⟩
 |ret u=>obtain⟨v,σ',H',I,r,q⟩:=h;exact⟨v,σ',H',I.hZ,r,q⟩
theorem eG.l8{st:List Stmt}{t:TS}(h:eG X.l8 st t):eG X st t:=λpins s σ H D I hw=>
 wpAny_mono (h pins s σ H D (I.fY _) hw) (λ_ _ q=>q.hZ) λ_ _ z=>False.elim z
end
section
variable{X:Cx}{st:Stmt}{rest:List Stmt}{t u:TS}{e:Expr}{te:TE}{pos:Pos}
def AV:TS:=λD σ H=>D.nx σ H
def aW(t u:TS):TS:=λD σ H=>t {D with nx:=u D} σ H
theorem ay:eG X [] AV:=λ_ _ σ H _ I h=>wpAny_execs_nil ⟨σ,H,I,h⟩
theorem ai(h1:PS X st t)(h2:eG X rest u):eG X (st::rest) (aW t u):=by
 intro pins s σ H D I h
 refine wpAny_execs_cons (aJ (h1 pins s σ H {D with nx:=u D} I h) λf s1 q=>?_)
 cases f with
 |next=>
  obtain⟨σ',H',I',q⟩:=q
  exact h2 pins s1 σ' H' D I' q
 |ret v=>exact q
 |brk=>exact q
 |cont=>exact q
theorem ao(h1:PS X st t):eG X [st] t:=by
 intro pins s σ H D I h
 refine wpAny_execs_cons (aJ (h1 pins s σ H D I h) λf s1 q=>?_)
 cases f with
 |next=>exact wpAny_execs_nil q
 |ret v=>exact q
 |brk=>exact q
 |cont=>exact q
theorem Inv.quiet{pins:List (Addr×Obj)}{σ:St}{H:Hp}{s:Shared}(I:Inv X pins σ H s):interactive X.env=false:=by simp[interactive,I.ok.kind]
def AL(te:TE):TS:=λD σ H=>te σ H λ_ H1=>D.nx σ H1
theorem cB(he:PE X e te)(hs:swapsWith e none pos.line X.env=pure false:=by rfl):PS X (.Expr e pos) (AL te):=by
 intro pins s σ H D I h
 exact wpAny_Expr_any (aJ (he pins s σ H _ I h) λv s1⟨x,H1,I1,r1,q1⟩=>⟨σ,H1,I1,q1⟩) I.quiet hs
def dB(te:TE):TS:=λD σ H=>te σ H D.rt
theorem aq(he:PE X e te):PS X (.Return (some e) pos) (dB te):=by
 intro pins s σ H D I h
 exact wpAny_Return_some (aJ (he pins s σ H _ I h) λv s1⟨x,H1,I1,r1,q1⟩=>⟨x,σ,H1,I1,r1,q1⟩)
def MD:TS:=λD _ H=>D.rt .bj H
def AN(c:TT)(t u:TS):TS:=λD σ H=>c σ H λb H1=>if b=true then t D σ H1 else u D σ H1
theorem aw{c:Expr}{a b:List Stmt}{tc:TT}(hc:PT X c tc)(ha:eG X a t)(hb:eG X b u):PS X (.If c a b pos) (AN tc t u):=by
 intro pins s σ H D I h
 refine wpAny_If (aJ (hc pins s σ H _ I h) λd s1⟨H1,I1,q1⟩=>?_)
 cases d with
 |true=>exact ha pins s1 σ H1 D I1 q1
 |false=>exact hb pins s1 σ H1 D I1 q1
end
abbrev TG:=V->St->Hp->(St->Hp->Prop)->Prop
abbrev gN:=List V->St->Hp->(St->Hp->Prop)->Prop
def PG(X:Cx)(target:Expr)(t:TG):Prop:=
 ∀(pins:List (Addr×Obj))(s:Shared)(σ:St)(H:Hp)(v:V)(u:Value)(Q:St->Hp->Prop),Inv X pins σ H s->RelV v u->t v σ H Q->wpAny (model X.prog X.w) X.A (assign target X.env u) (λ_ s'=>∃σ' H',Inv X pins σ' H' s'/\Q σ' H') X.xe s
def jC(X:Cx)(ts:List Expr)(t:gN):Prop:=
 ∀(pins:List (Addr×Obj))(s:Shared)(σ:St)(H:Hp)(vs:List V)(us:List Value)(Q:St->Hp->Prop),Inv X pins σ H s->Vals vs us->t vs σ H Q->wpAny (model X.prog X.w) X.A (assignInOrder ((assignEach ts X.env).map (·.2)) us) (λ_ s'=>∃σ' H',Inv X pins σ' H' s'/\Q σ' H') X.xe s
abbrev ib:=V->V->V->Hp->(Hp->Prop)->Prop
def nk(X:Cx)(t:ib):Prop:=
 ∀(pins:List (Addr×Obj))(s:Shared)(σ:St)(H:Hp)(o i v:V)(ov iv u:Value)(Q:Hp->Prop),Inv X pins σ H s->RelV o ov->RelV i iv->RelV v u->t o i v H Q->wpAny (model X.prog X.w) X.A (setItem ov iv u) (λ_ s'=>∃H',Inv X pins σ H' s'/\Q H') X.xe s
abbrev gO:=V->V->Hp->VK->Prop
def nj(X:Cx)(op:Operator)(t:gO):Prop:=
 ∀(pins:List (Addr×Obj))(s:Shared)(σ:St)(H:Hp)(x y:V)(v u:Value)(Q:VK),Inv X pins σ H s->RelV x v->RelV y u->t x y H Q->wpAny (model X.prog X.w) X.A (inplaceOp op v u) (EP X pins σ Q) X.xe s
section
variable{X:Cx}{pos:Pos}
def gT(i:Nat):TG:=λv σ H Q=>Q (σ.set i (some v)) H
theorem cP{i:Nat}{x:Str}(hN:X.N.Nodup)(hi:X.N[i]? =some x)(hx:Loc X.env.scope x)(hf:X.fn x=true\/X.env.scope.names.lookup x=some .local:=by first|exact .inl rfl|exact .inr rfl|assumption):PG X (.Name x pos) (gT i):=by
 intro pins s σ H v u Q I r h
 exact wpAny_assign_Name (rL I hN hi hx r (λs' I'=>⟨_,H,I',h⟩) hf)
def n6:gN:=λvs σ H Q=>vs=[]/\Q σ H
def nZ(t:TG)(u:gN):gN:=λvs σ H Q=>∃v r,vs=v::r/\t v σ H λσ' H'=>u r σ' H' Q
theorem zf:jC X [] n6:=by
 intro pins s σ H vs us Q I r h
 obtain⟨e,h⟩:=h
 subst e
 cases r
 exact assignInOrder_nil ⟨σ,H,I,h⟩
theorem mw{e:Expr}{es:List Expr}{t:TG}{u:gN}(h1:PG X e t)(h2:jC X es u)(hs:(assignEach (e::es) X.env).map (·.2)=assign e X.env::(assignEach es X.env).map (·.2):=by rfl):jC X (e::es) (nZ t u):=by
 intro pins s σ H vs us Q I r h
 obtain⟨v,vr,e1,h⟩:=h
 subst e1
 cases r with
 |cons r rr=>
  rw[hs]
  refine assignInOrder_cons (aJ (h1 pins s σ H _ _ _ I r h) λ_ s1⟨σ1,H1,I1,q1⟩=>?_)
  exact h2 pins s1 σ1 H1 _ _ Q I1 rr q1
def xw(K:PySem.W.Frag)(n:Nat)(t:gN):TG:=λv σ H Q=>∃a xs,v=.ref a/\dk K H a xs/\xs.length=n/\t xs σ H Q
theorem IP{es:List Expr}{k:Nat}{t:gN}{n:Nat}(hc:X.calm=true)(h:jC X es t)(hn:(assignEach es X.env).length=n:=by rfl)(hst:(assignEach es X.env).findIdx? (·.1)=none:=by rfl):PG X (.Tuple es k pos) (xw X.K n t):=by
 intro pins s σ H v u Q I r hw
 obtain⟨a,xs,e1,hq,hl,hw⟩:=hw
 subst e1
 cases r
 obtain⟨its,rv,ht,hz⟩:=I.tuple hq
 refine assign_Tuple_tuple (I.ok.hd hc) ht (by simp[hn,<-hl,rv.length]) hst λh' hx=>?_
 have I1:Inv X pins σ H {s with heap:=h'}:=I.kept (t':=s.toks) λb o e=>hx b o (Nat.ne_of_lt (Heap.lt_size e)) e
 exact h pins _ σ H xs _ Q I1 (by simpa using rv) hw
def xv(to ti:TE)(t:ib):TG:=λv σ H Q=>to σ H λo H1=>ti σ H1 λi H2=>t o i v H2 λH3=>Q σ H3
theorem o_{o i:Expr}{to ti:TE}{t:ib}(ho:PE X o to)(hi:PE X i ti)(hs:nk X t)(ha:∀v,assign (.Subscript o i pos) X.env v=(do
                                                                                     let ov<-holding [v] (eval o X.env)
                                                                                     let iv<-holding [v,ov] (eval i X.env)
                                                                                     standAt pos
                                                                                     holding [v,ov,iv] (setItem ov iv v)
                                                                                     release [v,ov,iv] []):=by intro _;rfl):PG X (.Subscript o i pos) (xv to ti t):=by
 intro pins s σ H v u Q I r h
 rw[ha]
 refine wpAny_bind (wpAny_holding (aJ (ho pins s σ H _ I h) λov s1⟨x,H1,I1,r1,q1⟩=>?_))
 refine wpAny_bind (wpAny_holding (aJ (hi pins s1 σ H1 _ I1 q1) λiv s2⟨y,H2,I2,r2,q2⟩=>?_))
 refine wpAny_bind (wpAny_standAt (wpAny_bind (wpAny_holding (aJ (hs pins s2 σ H2 x y v ov iv u _ I2 r1 r2 r q2) λ_ s3⟨H3,I3,q3⟩=>?_))))
 exact wpAny_release ⟨σ,H3,I3,q3⟩
def mV(te:TE)(g:TG):TS:=λD σ H=>te σ H λx H1=>g x σ H1 D.nx
theorem pj{tg e:Expr}{te:TE}{g:TG}(he:PE X e te)(hg:PG X tg g)(hs:swapsWithSole [tg] e pos.line X.env=pure false:=by rfl)(hw:swappedStores [tg] e X.env=pure none:=by rfl)(h1:(assignEach [tg] X.env).map (·.2)=[assign tg X.env]:=by rfl):PS X (.Assign [tg] e pos) (mV te g):=by
 intro pins s σ H D I h
 refine wpAny_Assign_stores (aJ (he pins s σ H _ I h) λv s1⟨x,H1,I1,r1,q1⟩=>?_) hs hw
 rw[h1]
 exact aJ (hg pins s1 σ H1 x v _ I1 r1 q1) λ_ s2 q=>q
theorem bg{i:Nat}{x:Str}{e:Expr}{te:TE}{pos':Pos}(hN:X.N.Nodup)(hi:X.N[i]? =some x)(hx:Loc X.env.scope x)(he:PE X e te)(hs:swapsWith e (some (.Name x pos')) pos.line X.env=pure false:=by rfl)(hf:X.fn x=true\/X.env.scope.names.lookup x=some .local:=by first|exact .inl rfl|exact .inr rfl|assumption):PS X (.Assign [.Name x pos'] e pos) (mV te (gT i)):=by
 intro pins s σ H D I h
 refine wpAny_Assign_Name (aJ (he pins s σ H _ I h) λv s1⟨y,H1,I1,r1,q1⟩=>?_) hs
 exact rL I1 hN hi hx r1 (λs2 I2=>⟨_,H1,I2,q1⟩) hf
def AE(i:Nat)(te:TE)(ti:gO):TS:=λD σ H=>∃x,σ[i]? =some (some x)/\te σ H λy H1=>ti x y H1 λz H2=>D.nx (σ.set i (some z)) H2
theorem zp{i:Nat}{x:Str}{e:Expr}{te:TE}{op:Operator}{ti:gO}{pos':Pos}(hN:X.N.Nodup)(hi:X.N[i]? =some x)(hx:Loc X.env.scope x)(he:PE X e te)(ho:nj X op ti)(hf:X.fn x=true\/X.env.scope.names.lookup x=some .local:=by first|exact .inl rfl|exact .inr rfl|assumption):PS X (.AugAssign (.Name x pos') op e pos) (AE i te ti):=by
 intro pins s σ H D I h
 obtain⟨v,e1,h⟩:=h
 obtain⟨m,hn,hl⟩:=I.loc
 have vis:iX X.env.scope x:=by rcases hx with k|k;exact .inl k;exact .inr (.inl k)
 obtain⟨u,r,l⟩:=hl i x v hi e1 vis
 refine wpAny_AugAssign_Name ?_
 have go:wpAny (model X.prog X.w) X.A (eval e X.env) (λw s₂=>wpAny (model X.prog X.w) X.A (inplaceOp op u w) (λr s₃=>wpAny (model X.prog X.w) X.A (storeName X.env x r) (λ_=>SP X pins D .next) X.xe s₃) X.xe s₂) X.xe s:=by
  refine aJ (he pins s σ H _ I h) λw s1⟨y,H1,I1,r1,q1⟩=>?_
  refine aJ (ho pins s1 σ H1 v y u w _ I1 r r1 q1) λz s2⟨zv,H2,I2,r2,q2⟩=>?_
  exact rL I2 hN hi hx r2 (λs3 I3=>⟨_,H2,I3,q2⟩) hf
 rcases l with⟨hk,hm⟩|⟨hk,c,hc,hcell⟩
 .exact wpAny_loadName_local I.ok.kind hk hn hm go
 .rcases hk with hk|hk
  .exact wpAny_loadName_cell I.ok.kind hk hc hcell go
  .rcases hx with k|k
   .have:X.env.scope.names.lookup x=some .free:=hk
    rw[k] at this;cases this
   .have:X.env.scope.names.lookup x=some .free:=hk
    rw[k] at this;cases this
def AF(to ti te:TE)(tget:V->V->Hp->VK->Prop)(tip:gO)(tset:ib):TS:=λD σ H=>to σ H λo H1=>ti σ H1 λi H2=>tget o i H2 λx H3=>te σ H3 λy H4=>tip x y H4 λz H5=>tset o i z H5 λH6=>D.nx σ H6
def se(X:Cx)(t:V->V->Hp->VK->Prop):Prop:=
 ∀(pins:List (Addr×Obj))(s:Shared)(σ:St)(H:Hp)(o i:V)(ov iv:Value)(Q:VK),Inv X pins σ H s->RelV o ov->RelV i iv->t o i H Q->wpAny (model X.prog X.w) X.A (getItem ov iv) (EP X pins σ Q) X.xe s
theorem zq{o i e:Expr}{to ti te:TE}{tget:V->V->Hp->VK->Prop}{tip:gO}{tset:ib}{op:Operator}{tpos:Pos}(ho:PE X o to)(hi:PE X i ti)(hg:se X tget)(he:PE X e te)(hp:nj X op tip)(hs:nk X tset)(ha:∀ov iv new,augStore i ov iv new=(do holding [new,ov,iv] (setItem ov iv new);release [new,ov,iv] [];pure .next):=by intros;rfl):PS X (.AugAssign (.Subscript o i tpos) op e pos) (AF to ti te tget tip tset):=by
 intro pins s σ H D I h
 refine wpAny_AugAssign_SubscriptAny (aJ (ho pins s σ H _ I h) λov s1⟨x1,H1,I1,r1,q1⟩=>?_) ha
 refine aJ (hi pins s1 σ H1 _ I1 q1) λiv s2⟨x2,H2,I2,r2,q2⟩=>?_
 refine aJ (hg pins s2 σ H2 x1 x2 ov iv _ I2 r1 r2 q2) λold s3⟨x3,H3,I3,r3,q3⟩=>?_
 refine aJ (he pins s3 σ H3 _ I3 q3) λv s4⟨x4,H4,I4,r4,q4⟩=>?_
 refine aJ (hp pins s4 σ H4 x3 x4 old v _ I4 r3 r4 q4) λnew s5⟨x5,H5,I5,r5,q5⟩=>?_
 exact aJ (hs pins s5 σ H5 x1 x2 x5 ov iv new _ I5 r1 r2 r5 q5) λ_ s6⟨H6,I6,q6⟩=>⟨σ,H6,I6,q6⟩
def lO(f:Int->Int->Int):gO:=λx y H Q=>∃i j,x=.int i/\y=.int j/\Q (.int (f i j)) H
theorem lP:nj X .Add (lO λi j=>i+j):=by
 intro pins s σ H x y v u Q I r1 r2 h
 obtain⟨i,j,e1,e2,q⟩:=h
 subst e1;subst e2
 obtain⟨t,rfl⟩:=r1
 obtain⟨t',rfl⟩:=r2
 exact iadd_int ⟨.int _,H,I.tok _,⟨_,rfl⟩,q⟩
end
section
variable{X:Cx}{pos:Pos}
def A1(c:TT)(tb:TS):TS:=λD σ H=>∃W:Nat->St->Hp->Prop,(∃m,W m σ H)/\∀m σ H,W m σ H->c σ H λb H1=>if b=true then∃N:St->Hp->Prop,(∀σ' H',N σ' H'->∃m',m'<m/\W m' σ' H')/\tb {D with nx:=N,ct:=N,bk:=D.nx} σ H1 else D.nx σ H1
theorem Ji{c:Expr}{body:List Stmt}{tc:TT}{tb:TS}(hp:PassesOwn (model X.prog X.w) X.A X.env X.xe)(hc:PT X c tc)(hb:eG X body tb):PS X (.While c body [] pos) (A1 tc tb):=by
 intro pins s σ H D I h
 obtain⟨W,⟨m0,w0⟩,turn⟩:=h
 refine wpAny_While (codeAny_whileLoop (λn s'=>∃σ' H',Inv X pins σ' H' s'/\W n σ' H') ?_ m0 ⟨σ,H,I,w0⟩)
 rintro n s1 ⟨σ1,H1,I1,w1⟩
 refine wpAny_passesOwn hp (aJ (hc pins s1 σ1 H1 _ I1 (turn n σ1 H1 w1)) λb s2⟨H2,I2,q2⟩=>?_)
 cases b with
 |true=>
  obtain⟨N,hN,q2⟩:=q2
  rw[if_pos rfl]
  refine wpAny_passesOwn hp (aJ (hb pins s2 σ1 H2 _ I2 q2) λf s3 q3=>?_)
  cases f with
  |next=>
   obtain⟨σ3,H3,I3,n3⟩:=q3
   obtain⟨m',hm,w3⟩:=hN σ3 H3 n3
   exact⟨m',hm,σ3,H3,I3,w3⟩
  |cont=>
   obtain⟨σ3,H3,I3,n3⟩:=q3
   obtain⟨m',hm,w3⟩:=hN σ3 H3 n3
   exact⟨m',hm,σ3,H3,I3,w3⟩
  |brk=>exact q3
  |ret v=>exact q3
 |false=>
  rw[if_neg Bool.false_ne_true]
  exact wpAny_execs_nil ⟨σ1,H2,I2,q2⟩
end
structure It where
 go:Nat->Hp->Prop
 d8:Nat->Hp->V->Hp->Prop
 stop:Nat->Hp->Prop
def fh(X:Cx)(pins:List (Addr×Obj))(H:Hp)(b:Addr):Prop:=
 H b=none/\b≠X.env.locals/\b∉X.fs/\(b∈X.ex\/X.c_.heap.objs.size<=b)/\(∀x c,X.env.cells.lookup x=some c->c≠b)/\∀p∈X.pn++pins,p.1≠b
theorem Inv.j7{X:Cx}{pins:List (Addr×Obj)}{σ:St}{H H':Hp}{s:Shared}{b:Addr}(I:Inv X pins σ H s)(hb:s.heap.objs.size<=b)(hn:H' b=none):fh X pins H' b:=by
 refine⟨hn,Nat.ne_of_gt (Nat.lt_of_lt_of_le I.lt hb),I.G9 hb,.inr (Nat.le_trans I.sz hb),λx c e z=>?_,λp hp z=>?_⟩
 .obtain⟨v,q⟩:=I.cell x c e
  exact absurd (Nat.lt_of_lt_of_le q.lt (by rw[z];exact hb)) (Nat.lt_irrefl _)
 .exact absurd (Nat.lt_of_lt_of_le (Heap.lt_size (I.pin p hp).1) (by rw[z];exact hb)) (Nat.lt_irrefl _)
structure Turn(P:Program)(w:World)(K:PySem.W.Frag)(tg:Expr)(J:It)(fp:List Addr)(it:Addr)(tn:Nat->Heap->Prop):Prop where
 mem:it∈fp
 obj:∀i h,tn i h->∀b∈fp,∃o,h.get? b=some o/\∀v,o.data≠.cell v
 keep:∀i h h',tn i h->(∀b∈fp,∀o,h.get? b=some o->h'.get? b=some o)->tn i h'
 item:∀(X:Cx),X.prog=P->X.w=w->X.K=K->X.calm=true->∀(i:Nat)(pins:List (Addr×Obj))(s:Shared)(σ:St)(H:Hp)(E:Value->Shared->Prop),Inv X pins σ H s->(∀b∈fp,fh X pins H b)->tn i s.heap->J.go i H->wpAny (model P w) X.A (pyNext (.ref it)) (λr s1=>∃u,r=some u/\wpAny (model P w) X.A (letOwnedTupleGo tg (.ref it) u) (λ_ s2=>∃x H',Inv X pins σ H' s2/\RelV x u/\J.d8 i H x H'/\tn (i+1) s2.heap/\∀b∈fp,H' b=none) E s1) E s
 done:∀(X:Cx),X.prog=P->X.w=w->X.K=K->X.calm=true->∀(i:Nat)(pins:List (Addr×Obj))(s:Shared)(σ:St)(H:Hp)(E:Value->Shared->Prop),Inv X pins σ H s->(∀b∈fp,fh X pins H b)->tn i s.heap->J.stop i H->wpAny (model P w) X.A (pyNext (.ref it)) (λr s1=>r=none/\Inv X pins σ H s1) E s
 self:∀(A:Around)(i:Nat)(s:Shared)(Q:Value->Shared->Prop)(E:Value->Shared->Prop),tn i s.heap->Q (.ref it) s->wpAny (model P w) A (pyIter (.ref it)) Q E s
abbrev TI:=St->Hp->(It->Hp->Prop)->Prop
def jD(X:Cx)(pins:List (Addr×Obj))(σ:St)(tg:Expr)(R:It->Hp->Prop)(itv:Value)(s2:Shared):Prop:=
 ∃(it:Addr)(fp:List Addr)(tn:Nat->Heap->Prop)(J:It)(H':Hp),itv=.ref it/\Inv X pins σ H' s2/\Turn X.prog X.w X.K tg J fp it tn/\tn 0 s2.heap/\(∀b∈fp,fh X pins H' b)/\R J H'
def PI(X:Cx)(tg iter:Expr)(wi:TI):Prop:=
 ∀(pins:List (Addr×Obj))(s:Shared)(σ:St)(H:Hp)(R:It->Hp->Prop),Inv X pins σ H s->wi σ H R->wpAny (model X.prog X.w) X.A (eval iter X.env) (λv s1=>wpAny (model X.prog X.w) X.A (pyIter v) (jD X pins σ tg R) X.xe s1) X.xe s
theorem n_{M:Model}{A:Around}{E:Value->Shared->Prop}{s:Shared}{tg:Expr}{it:Addr}{u:Value}{o:Obj}{n:String}{vs:Array Value}{Q:Unit->Shared->Prop}(ho:s.heap.get? it=some o)(hc:o.cls=.type n)(hd:o.data=.fields vs)(hn:["enumerate","zip","dict_itemiterator","dict_reverseitemiterator","odict_iterator","itertools.zip_longest","itertools.pairwise"].contains n=false)(hQ:Q () s):wpAny M A (letOwnedTupleGo tg (.ref it) u) Q E s:=by
 unfold letOwnedTupleGo
 cases tg<;>first
  |exact wpAny_pure hQ
  |(cases u<;>first
     |exact wpAny_pure hQ
     |(refine wpAny_bind (wpAny_load ho ?_)
       rw[hc,hd]
       show wpAny M A (if(["enumerate","zip","dict_itemiterator","dict_reverseitemiterator","odict_iterator","itertools.zip_longest","itertools.pairwise"].contains n&&vs[0]? ==some (rawInt _))=true then _ else _) Q E s
       rw[if_neg (by intro h;rw[hn,Bool.false_and] at h;cases h)]
       exact wpAny_pure hQ))
def dR(K:PySem.W.Frag)(a:Addr):It:=
 ⟨λi H=>∃xs x,ax K H a xs/\xs[i]? =some x,λi H x H'=>H'=H/\∀xs,ax K H a xs->xs[i]? =some x,λi H=>∃xs,ax K H a xs/\xs.length<=i⟩
def dS(lo:Int)(n:Nat):It:=⟨λi _=>i<n,λi H x H'=>H'=H/\x=.int (lo+i),λi _=>n<=i⟩
theorem MJ{P:Program}{w:World}{K:PySem.W.Frag}{tg:Expr}(a it:Addr):Turn P w K tg (dR K a) [it] it (λi h=>h.IsListIter it a i) where
 mem:=by simp
 obj:=λi h st b hb=>by
  have e:b=it:=by simpa using hb
  subst e
  obtain⟨o,e,c,d⟩:=st
  exact⟨o,e,λv z=>by rw[d] at z;cases z⟩
 keep:=λi h h' st k=>st.at λo e=>k it (by simp) o e
 item:=by
  intro X hP hw hK hc i pins s σ H E I hf st hg
  subst hP hw hK
  obtain⟨xs,x,hq,hx⟩:=hg
  obtain⟨its,rv,p,hz⟩:=I.list hq
  obtain⟨u,hu,ru⟩:=rv.get hx
  obtain⟨f0,f1,f2,f3,f4,f5⟩:=hf it (by simp)
  refine wpAny_pyNext_list_item st p.isList (x:=u) (by simpa using hu) λh' st' sb=>?_
  have I1:Inv X pins σ H {s with heap:=h'}:=I.turned (t':=s.toks) (λb o hb e=>(sb.2 b hb).trans e) f0 f1 f3 f4 f5
  obtain⟨o,e,c,d⟩:=id st'
  exact⟨u,rfl,n_ (s:={s with heap:=h'}) e c d (by decide) ⟨x,H,I1,ru,⟨rfl,λys hy=>by rw[I.yj hy hq];exact hx⟩,st',λb hb=>(hf b hb).1⟩⟩
 done:=by
  intro X hP hw hK hc i pins s σ H E I hf st hg
  subst hP hw hK
  obtain⟨xs,hq,hx⟩:=hg
  obtain⟨its,rv,p,hz⟩:=I.list hq
  obtain⟨f0,f1,f2,f3,f4,f5⟩:=hf it (by simp)
  have hl:=rv.length
  exact wpAny_pyNext_list_end (I.ok.hd hc) st p.isList (by simp;omega) λh' eb=>⟨rfl,I.turned (t':=s.toks) (λb o hb e=>eb b o hb e) f0 f1 f3 f4 f5⟩
 self:=λ_ _ _ _ _ st h=>wpAny_pyIter_listiter st h
theorem MK{P:Program}{w:World}{K:PySem.W.Frag}{tg:Expr}(it:Addr)(lo:Int)(n:Nat):Turn P w K tg (dS lo n) [it] it (λi h=>IsRangeIter h it (lo+(i:Nat)*1) ((n:Int) -(i:Nat)) 1) where
 mem:=by simp
 obj:=λi h st b hb=>by
  have e:b=it:=by simpa using hb
  subst e
  exact⟨_,st,λv z=>by
   have z':Data.fields _=Data.cell v:=z
   cases z'⟩
 keep:=λi h h' st k=>k it (by simp) _ st
 item:=by
  intro X hP hw hK hc i pins s σ H E I hf st hg
  subst hP hw hK
  obtain⟨f0,f1,f2,f3,f4,f5⟩:=hf it (by simp)
  have W:=Walks.range (prog:=X.prog) (w:=X.w) (I.ok.hd hc) it lo 1 n
  refine W.item i s _ _ hg st λv h' tk hv st' kk=>?_
  obtain⟨t,rfl⟩:=hv
  have I1:Inv X pins σ H {s with heap:=h',toks:=tk}:=I.turned (λb o hb e=>kk b o (by simpa using hb) e) f0 f1 f3 f4 f5
  refine⟨_,rfl,n_ (s:={s with heap:=h',toks:=tk}) (n:="range_iterator") st' rfl rfl (by decide) ⟨.int (lo+i),H,I1,⟨t,?_⟩,⟨rfl,rfl⟩,st',λb hb=>(hf b hb).1⟩⟩
  rw[Int.mul_one]
 done:=by
  intro X hP hw hK hc i pins s σ H E I hf st hg
  subst hP hw hK
  obtain⟨f0,f1,f2,f3,f4,f5⟩:=hf it (by simp)
  exact wpAny_pyNext_range_end (I.ok.hd hc) st (by have:n<=i:=hg;omega) λh' eb=>⟨rfl,I.turned (t':=s.toks) (λb o hb e=>eb b o hb e) f0 f1 f3 f4 f5⟩
 self:=λ_ _ _ _ _ st h=>wpAny_pyIter_rangeiter st h
end L2
namespace L2
open PySem PySem.Spec PyProof.Rows
section
variable{X:Cx}{tg:Expr}
def xK(K:PySem.W.Frag)(tl:TE):TI:=λσ H R=>tl σ H λx H1=>∃a,x=.ref a/\(∃xs,ax K H1 a xs)/\R (dR K a) H1
theorem d3{l:Expr}{tl:TE}(hl:PE X l tl):PI X tg l (xK X.K tl):=by
 intro pins s σ H R I h
 refine aJ (hl pins s σ H _ I h) λv s1⟨x,H1,I1,r1,q1⟩=>?_
 obtain⟨a,e,⟨xs,hq⟩,q⟩:=q1
 subst e
 cases r1
 obtain⟨its,rv,p,hz⟩:=I1.list hq
 refine wpAny_pyIter_list p.isList ?_
 refine⟨s1.heap.objs.size,[s1.heap.objs.size],_,_,H1,rfl,I1.kept (t':=s1.toks) λb o e=>Heap.get?_push_of_some _ e,MJ a _,⟨_,Heap.get?_push_size _ rfl,rfl,rfl⟩,λb hb=>?_,q⟩
 have e:b=s1.heap.objs.size:=by simpa using hb
 subst e
 exact I1.j7 (Nat.le_refl _) (I1.aH.fresh (Nat.le_refl _))
theorem KJ{pins:List (Addr×Obj)}{σ:St}{H:Hp}{s:Shared}{R:It->Hp->Prop}{E:Value->Shared->Prop}{lo hi:Int}{t u v:Tok}{tk:Nat}(I:Inv X pins σ H s)(h1: -(2^62)<=lo)(h2:lo<2^62)(h3: -(2^62)<=hi)(h4:hi<2^62)(q:R (dS lo (hi -lo).toNat) H):wpAny (model X.prog X.w) X.A (pyIter (.ref s.heap.objs.size)) (jD X pins σ tg R) E {s with heap:=s.heap.push {cls:=.type "range",data:=.fields #[.int lo t,.int hi u,.int 1 v]},toks:=tk}:=by
 refine wpAny_pyIter_range (IsRange.new ..) (small_one h1 h2 h3 h4) ?_
 have I1:Inv X pins σ H {s with heap:=s.heap.push {cls:=.type "range",data:=.fields #[.int lo t,.int hi u,.int 1 v]},toks:=tk}:=I.kept λb o e=>Heap.get?_push_of_some _ e
 refine⟨(s.heap.push {cls:=.type "range",data:=.fields #[.int lo t,.int hi u,.int 1 v]}).objs.size,[(s.heap.push {cls:=.type "range",data:=.fields #[.int lo t,.int hi u,.int 1 v]}).objs.size],_,_,H,rfl,I1.kept (t':=tk) λb o e=>Heap.get?_push_of_some _ e,MK _ lo (hi -lo).toNat,?_,λb hb=>?_,q⟩
 .have e1:lo+((0:Nat):Int)*1=lo:=by simp
  have e2:(((hi -lo).toNat:Nat):Int) -((0:Nat):Int)=Builtin.Range.rangeSize lo hi 1:=by rw[rangeSize_one];split<;>omega
  show IsRangeIter _ _ (lo+((0:Nat):Int)*1) ((((hi -lo).toNat:Nat):Int) -((0:Nat):Int)) 1
  rw[e1,e2]
  exact Heap.get?_push_size _ rfl
 .have e:b=(s.heap.push {cls:=.type "range",data:=.fields #[.int lo t,.int hi u,.int 1 v]}).objs.size:=by simpa using hb
  subst e
  exact I1.j7 (Nat.le_refl _) (I1.aH.fresh (Nat.le_refl _))
def xM(ta:TA):TI:=λσ H R=>ta σ H λvs H1=>∃j:Int,vs=[.int j]/\ -(2^62)<=j/\j<2^62/\R (dS 0 j.toNat) H1
def EA(ta:TA):TI:=λσ H R=>ta σ H λvs H1=>∃i j:Int,vs=[.int i,.int j]/\(-(2^62)<=i/\i<2^62/\ -(2^62)<=j/\j<2^62)/\R (dS i (j -i).toNat) H1
theorem pb{a:Expr}{ta:TA}{p pos:Pos}(hg:Gl X "range")(hm:X.mg "range"=none)(ha:PA X [a] ta)(hs:starEach [a] X.env=[(false,eval a X.env)]:=by rfl):PI X tg (.Call (.Name "range" p) [a] [] pos) (xM ta):=by
 intro pins s σ H R I h
 refine Call_ (iw I hg hm boot_range (PyProof.Rows.callWith_type1 (aJ (ha pos pins s σ H _ I h) λus s1⟨vs,H1,I1,r1,q1⟩=>?_) hs rfl))
 obtain⟨j,e,q1,q2,q⟩:=q1
 subst e
 cases r1 with
 |cons r rr=>
  cases rr
  obtain⟨t,rfl⟩:=r
  exact call_range_1 (KJ I1 (by omega) (by omega) q1 q2 (by simpa using q))
def mW(wi:TI)(g:TG)(tb:TS):TS:=λD σ H=>wi σ H λJ H1=>∃W:Nat->Nat->St->Hp->Prop,(∃m,W 0 m σ H1)/\∀i m σ H,W i m σ H->(J.stop i H/\D.nx σ H)\/(J.go i H/\∃N:St->Hp->Prop,(∀σ' H',N σ' H'->∃m',m'<m/\W (i+1) m' σ' H')/\∀x H',J.d8 i H x H'->g x σ H' λσ2 H2=>tb {D with nx:=N,ct:=N,bk:=D.nx} σ2 H2)
def kF(fp:List Addr)(h:Heap):List (Addr×Obj):=fp.filterMap λb=>(h.get? b).map λo=>(b,o)
theorem oH{fp:List Addr}{h:Heap}{b:Addr}{o:Obj}(hb:b∈fp)(e:h.get? b=some o):(b,o)∈kF fp h:=List.mem_filterMap.mpr ⟨b,hb,by rw[e];rfl⟩
theorem Hc{fp:List Addr}{h:Heap}{p:Addr×Obj}(hp:p∈kF fp h):p.1∈fp/\h.get? p.1=some p.2:=by
 obtain⟨b,hb,e⟩:=List.mem_filterMap.mp hp
 cases q:h.get? b with
 |none=>rw[q] at e;cases e
 |some o=>
  rw[q] at e
  have e':(b,o)=p:=Option.some.inj e
  subst e'
  exact⟨hb,q⟩
theorem Inv.pinned{pins:List (Addr×Obj)}{σ:St}{H:Hp}{s:Shared}{fp:List Addr}(I:Inv X pins σ H s)(hf:∀b∈fp,fh X pins H b)(ho:∀b∈fp,∃o,s.heap.get? b=some o/\∀v,o.data≠.cell v):Inv X (pins++kF fp s.heap) σ H s:=
 I.zh λp hp=>(List.mem_append.mp hp).elim (λz=>I.pin p (List.mem_append_right _ z)) λz=>by
  obtain⟨hb,e⟩:=Hc z
  obtain⟨f0,f1,f2,_⟩:=hf p.1 hb
  obtain⟨o,e',d⟩:=ho p.1 hb
  rw[e] at e';cases e'
  exact⟨e,f0,f1,f2,d⟩
theorem Inv.m3{pins pl:List (Addr×Obj)}{σ:St}{H:Hp}{s:Shared}(I:Inv X (pins++pl) σ H s):Inv X pins σ H s:=I.zh λp hp=>I.pin p (List.mem_append_right _ (List.mem_append_left _ hp))
theorem fG{iter:Expr}{body:List Stmt}{wi:TI}{g:TG}{tb:TS}{pos:Pos}(hp:PassesOwn (model X.prog X.w) X.A X.env X.xe)(hc:X.calm=true)(hi:PI X tg iter wi)(hg:PG X tg g)(hb:eG X body tb)(hs:∀x,foldedSetIterable iter X.env x=pure x:=by intro _;rfl):PS X (.For tg iter body [] pos) (mW wi g tb):=by
 intro pins s σ H D I h
 refine wpAny_For (aJ (hi pins s σ H _ I h) λv s1 h1=>aJ h1 λitv s2 h2=>?_) hs
 obtain⟨it,fp,tn,J,H2,e,I2,T,st2,f2,W,⟨m0,w0⟩,turn⟩:=h2
 subst e
 have stat:∀{H':Hp},(∀b∈fp,H' b=none)->∀b∈fp,fh X pins H' b:=λhn b hb=>⟨hn b hb,(f2 b hb).2⟩
 refine codeAny_forLoop_any (λn s'=>∃i σ' H',Inv X pins σ' H' s'/\tn i s'.heap/\(∀b∈fp,H' b=none)/\W i n σ' H') ?_ m0 ⟨0,σ,H2,I2,st2,λb hb=>(f2 b hb).1,w0⟩
 rintro n s3 ⟨i,σ3,H3,I3,st3,fr3,w3⟩
 rcases turn i n σ3 H3 w3 with⟨stop,qn⟩|⟨go,N,hN,step⟩
 .refine wpAny_passesOwn hp (aJ (T.done X rfl rfl rfl hc i pins s3 σ3 H3 X.xe I3 (stat fr3) st3 stop) λr s4⟨hr,I4⟩=>?_)
  subst hr
  exact wpAny_execs_nil ⟨σ3,H3,I4,qn⟩
 .refine wpAny_passesOwn hp (aJ (T.item X rfl rfl rfl hc i pins s3 σ3 H3 X.xe I3 (stat fr3) st3 go) λr s4⟨u,hr,h4⟩=>?_)
  subst hr
  refine wpAny_passesOwn hp (aJ h4 λ_ s5⟨x,H5,I5,r5,y5,st5,fr5⟩=>?_)
  have I5':=I5.pinned (stat fr5) (T.obj _ _ st5)
  refine wpAny_passesOwn hp (aJ (hg _ s5 σ3 H5 x u _ I5' r5 (step x H5 y5)) λ_ s6⟨σ6,H6,I6,q6⟩=>?_)
  refine wpAny_passesOwn hp (aJ (hb _ s6 σ6 H6 _ I6 q6) λf s7 q7=>?_)
  have again:∀{σ7:St}{H7:Hp},Inv X (pins++kF fp s5.heap) σ7 H7 s7->N σ7 H7->∃m,m<n/\∃i σ' H',Inv X pins σ' H' s7/\tn i s7.heap/\(∀b∈fp,H' b=none)/\W i m σ' H':=λ{σ7 H7}I7 n7=>by
   obtain⟨m',hm,w7⟩:=hN σ7 H7 n7
   refine⟨m',hm,i+1,σ7,H7,I7.m3,T.keep _ _ _ st5 λb hb o e=>(I7.pin (b,o) (List.mem_append_right _ (List.mem_append_right _ (oH hb e)))).1,λb hb=>?_,w7⟩
   obtain⟨o,e,d⟩:=T.obj _ _ st5 b hb
   exact(I7.pin (b,o) (List.mem_append_right _ (List.mem_append_right _ (oH hb e)))).2.1
  cases f with
  |next=>obtain⟨σ7,H7,I7,n7⟩:=q7;exact again I7 n7
  |cont=>obtain⟨σ7,H7,I7,n7⟩:=q7;exact again I7 n7
  |brk=>obtain⟨σ7,H7,I7,q7⟩:=q7;exact⟨σ7,H7,I7.m3,q7⟩
  |ret v=>obtain⟨x7,σ7,H7,I7,r7,q7⟩:=q7;exact⟨x7,σ7,H7,I7.m3,r7,q7⟩
end
theorem gm{K:PySem.W.Frag}{a:Addr}{xs:List V}{g:TG}{tb:TS}{D:Ends}{σ:St}{H:Hp}(Pv:Nat->St->Hp->Prop)(h0:Pv 0 σ H)(hl:∀i σ H,i<=xs.length->Pv i σ H->ax K H a xs)(hs:∀i x σ H,xs[i]? =some x->Pv i σ H->g x σ H λσ2 H2=>tb {D with nx:=Pv (i+1),ct:=Pv (i+1),bk:=D.nx} σ2 H2)(hd:∀σ H,Pv xs.length σ H->D.nx σ H):∃W:Nat->Nat->St->Hp->Prop,(∃m,W 0 m σ H)/\∀i m σ H,W i m σ H->((dR K a).stop i H/\D.nx σ H)\/((dR K a).go i H/\∃N:St->Hp->Prop,(∀σ' H',N σ' H'->∃m',m'<m/\W (i+1) m' σ' H')/\∀x H',(dR K a).d8 i H x H'->g x σ H' λσ2 H2=>tb {D with nx:=N,ct:=N,bk:=D.nx} σ2 H2):=by
 refine⟨λi m σ H=>m=xs.length -i/\i<=xs.length/\Pv i σ H,⟨xs.length,by simp,Nat.zero_le _,h0⟩,?_⟩
 rintro i m σ H ⟨rfl,hi,p⟩
 have q:=hl i σ H hi p
 by_cases hlt:i<xs.length
 .refine .inr ⟨⟨xs,xs[i],q,by simp[hlt]⟩,Pv (i+1),λσ' H' p'=>⟨xs.length -(i+1),by omega,rfl,hlt,p'⟩,λx H' y=>?_⟩
  obtain⟨e,y⟩:=y
  subst e
  exact hs i x σ _ (y xs q) p
 .have e:i=xs.length:=by omega
  subst e
  exact .inl ⟨⟨xs,q,Nat.le_refl _⟩,hd σ H p⟩
theorem Ov{lo:Int}{n:Nat}{g:TG}{tb:TS}{D:Ends}{σ:St}{H:Hp}(Pv:Nat->St->Hp->Prop)(h0:Pv 0 σ H)(hs:∀i σ H,i<n->Pv i σ H->g (.int (lo+i)) σ H λσ2 H2=>tb {D with nx:=Pv (i+1),ct:=Pv (i+1),bk:=D.nx} σ2 H2)(hd:∀σ H,Pv n σ H->D.nx σ H):∃W:Nat->Nat->St->Hp->Prop,(∃m,W 0 m σ H)/\∀i m σ H,W i m σ H->((dS lo n).stop i H/\D.nx σ H)\/((dS lo n).go i H/\∃N:St->Hp->Prop,(∀σ' H',N σ' H'->∃m',m'<m/\W (i+1) m' σ' H')/\∀x H',(dS lo n).d8 i H x H'->g x σ H' λσ2 H2=>tb {D with nx:=N,ct:=N,bk:=D.nx} σ2 H2):=by
 refine⟨λi m σ H=>m=n -i/\i<=n/\Pv i σ H,⟨n,by simp,Nat.zero_le _,h0⟩,?_⟩
 rintro i m σ H ⟨rfl,hi,p⟩
 by_cases hlt:i<n
 .refine .inr ⟨hlt,Pv (i+1),λσ' H' p'=>⟨n -(i+1),by omega,rfl,hlt,p'⟩,λx H' y=>?_⟩
  obtain⟨e,y⟩:=y
  subst e y
  exact hs i σ _ hlt p
 .have e:i=n:=by omega
  subst e
  exact .inl ⟨Nat.le_refl _,hd σ H p⟩
theorem M9{c:TT}{tb:TS}{D:Ends}{σ:St}{H:Hp}(Pv:St->Hp->Prop)(μ:St->Hp->Nat)(h0:Pv σ H)(hs:∀σ H,Pv σ H->c σ H λb H1=>if b=true then tb {D with nx:=λσ' H'=>Pv σ' H'/\μ σ' H'<μ σ H,ct:=λσ' H'=>Pv σ' H'/\μ σ' H'<μ σ H,bk:=D.nx} σ H1 else D.nx σ H1)(mono:∀σ H Q Q',(∀b H1,Q b H1->Q' b H1)->c σ H Q->c σ H Q'):A1 c tb D σ H:=by
 refine⟨λm σ H=>m=μ σ H/\Pv σ H,⟨_,rfl,h0⟩,?_⟩
 rintro m σ H ⟨rfl,p⟩
 refine mono σ H _ _ (λb H1 q=>?_) (hs σ H p)
 cases b with
 |true=>exact⟨_,λσ' H'⟨p',l⟩=>⟨_,l,rfl,p'⟩,q⟩
 |false=>exact q
end L2
namespace L2
open PySem PySem.Spec PyProof.Rows
abbrev R2:=V->V->Hp->VK->Prop
def bR(X:Cx)(f:Value->Value->Sem Value)(r:R2):Prop:=
 ∀(pins:List (Addr×Obj))(s:Shared)(σ:St)(H:Hp)(x y:V)(v u:Value)(Q:VK),Inv X pins σ H s->RelV x v->RelV y u->r x y H Q->wpAny (model X.prog X.w) X.A (f v u) (EP X pins σ Q) X.xe s
def nt(X:Cx)(f:Value->Sem Value)(r:V->Hp->VK->Prop):Prop:=
 ∀(pins:List (Addr×Obj))(s:Shared)(σ:St)(H:Hp)(x:V)(v:Value)(Q:VK),Inv X pins σ H s->RelV x v->r x H Q->wpAny (model X.prog X.w) X.A (f v) (EP X pins σ Q) X.xe s
def fg(X:Cx)(f:Value)(r:List V->Hp->VK->Prop):Prop:=
 ∀(pins:List (Addr×Obj))(s:Shared)(σ:St)(H:Hp)(xs:List V)(us:List Value)(Q:VK),Inv X pins σ H s->Vals xs us->r xs H Q->wpAny (model X.prog X.w) X.A (call f us) (EP X pins σ Q) X.xe s
def jt(r:R2)(ta tb:TE):TE:=λσ H Q=>ta σ H λx H1=>tb σ H1 λy H2=>r x y H2 Q
def AZ(r:V->Hp->VK->Prop)(ta:TE):TE:=λσ H Q=>ta σ H λx H1=>r x H1 Q
def rI(C:Int->Int->Prop)(g:Int->Int->V):R2:=λx y H Q=>∃i j,x=.int i/\y=.int j/\C i j/\Q (g i j) H
def bX(g:Int->Int->V):R2:=λx y H Q=>∃i j,x=.int i/\y=.int j/\Q (g i j) H
def rU(g:Int->V):V->Hp->VK->Prop:=λx H Q=>∃i,x=.int i/\Q (g i) H
section
variable{X:Cx}{a b c:Expr}{ta tb tc:TE}{pos:Pos}
theorem nz(ha:PE X a ta)(hb:PE X b tb){pins:List (Addr×Obj)}{s:Shared}{σ:St}{H:Hp}{R:V->V->Hp->Prop}(I:Inv X pins σ H s)(h:ta σ H λx H1=>tb σ H1 λy H2=>R x y H2){Q:Value->Shared->Prop}{f:Value->Value->Sem Value}(hf:∀v u s2 x y H2,Inv X pins σ H2 s2->RelV x v->RelV y u->R x y H2->wpAny (model X.prog X.w) X.A (f v u) Q X.xe s2):wpAny (model X.prog X.w) X.A (eval a X.env) (λv s₁=>wpAny (model X.prog X.w) X.A (eval b X.env) (λu s₂=>wpAny (model X.prog X.w) X.A (f v u) Q X.xe s₂) X.xe s₁) X.xe s:=by
 refine aJ (ha pins s σ H _ I h) λv s1⟨x,H1,I1,r1,q1⟩=>?_
 refine aJ (hb pins s1 σ H1 _ I1 q1) λu s2⟨y,H2,I2,r2,q2⟩=>?_
 exact hf v u s2 x y H2 I2 r1 r2 q2
theorem cG{op:Operator}{r:R2}(ho:bR X (binaryOp op) r)(ha:PE X a ta)(hb:PE X b tb):PE X (.BinOp a op b pos) (jt r ta tb):=by
 intro pins s σ H Q I h
 exact wpAny_BinOp (nz ha hb I h λv u s2 x y H2 I2 rx ry q=>ho pins s2 σ H2 x y v u Q I2 rx ry q)
theorem bf{op:UnaryOp}{r:V->Hp->VK->Prop}(ho:nt X (unaryOp op) r)(ha:PE X a ta):PE X (.UnaryOp op a pos) (AZ r ta):=by
 intro pins s σ H Q I h
 exact UnaryOp_ (aJ (ha pins s σ H _ I h) λv s1⟨x,H1,I1,r1,q1⟩=>ho pins s1 σ H1 x v Q I1 r1 q1)
theorem yR{f:Value->Value->Sem Value}{C:Int->Int->Prop}{g:Int->Int->Int}(rule:∀(i j:Int)(t u:Tok)(s:Shared)(Q:Value->Shared->Prop)(E:Value->Shared->Prop),C i j->Q (.int (g i j) s.toks) {s with toks:=s.toks+1}->wpAny (model X.prog X.w) X.A (f (.int i t) (.int j u)) Q E s):bR X f (rI C λi j=>.int (g i j)):=by
 intro pins s σ H x y v u Q I rx ry h
 obtain⟨i,j,rfl,rfl,hc,q⟩:=h
 obtain⟨t,rfl⟩:=rx
 obtain⟨t',rfl⟩:=ry
 exact rule i j t t' s _ _ hc ⟨.int (g i j),H,I.tok _,⟨_,rfl⟩,q⟩
theorem yS{f:Value->Value->Sem Value}{g:Int->Int->Int}(rule:∀(i j:Int)(t u:Tok)(s:Shared)(Q:Value->Shared->Prop)(E:Value->Shared->Prop),Q (.int (g i j) s.toks) {s with toks:=s.toks+1}->wpAny (model X.prog X.w) X.A (f (.int i t) (.int j u)) Q E s):bR X f (bX λi j=>.int (g i j)):=by
 intro pins s σ H x y v u Q I rx ry h
 obtain⟨i,j,rfl,rfl,q⟩:=h
 obtain⟨t,rfl⟩:=rx
 obtain⟨t',rfl⟩:=ry
 exact rule i j t t' s _ _ ⟨.int (g i j),H,I.tok _,⟨_,rfl⟩,q⟩
theorem l_{f:Value->Value->Sem Value}{g:Int->Int->Bool}(rule:∀(i j:Int)(t u:Tok)(s:Shared)(Q:Value->Shared->Prop)(E:Value->Shared->Prop),Q (.bool (g i j)) s->wpAny (model X.prog X.w) X.A (f (.int i t) (.int j u)) Q E s):bR X f (bX λi j=>.bl (g i j)):=by
 intro pins s σ H x y v u Q I rx ry h
 obtain⟨i,j,rfl,rfl,q⟩:=h
 obtain⟨t,rfl⟩:=rx
 obtain⟨t',rfl⟩:=ry
 exact rule i j t t' s _ _ ⟨.bl (g i j),H,I,rfl,q⟩
theorem ez:bR X (binaryOp .Add) (bX λi j=>.int (i+j)):=yS λ_ _ _ _ _ _ _ q=>add_int q
theorem mf:bR X (binaryOp .Sub) (bX λi j=>.int (i -j)):=yS λ_ _ _ _ _ _ _ q=>sub_int q
theorem me:bR X (binaryOp .Mod) (rI (λ_ j=>0<j) λi j=>.int (i%j)):=yR λi j _ _ _ _ _ hc q=>by
 have h1:(0:Int)<j:=hc
 exact mod_int' (by omega) (by rw[Int.fmod_eq_emod_of_nonneg i (by omega)];exact q)
theorem MN{f:Value->Sem Value}{g:Int->Int}(rule:∀(i:Int)(t:Tok)(s:Shared)(Q:Value->Shared->Prop)(E:Value->Shared->Prop),Q (.int (g i) s.toks) {s with toks:=s.toks+1}->wpAny (model X.prog X.w) X.A (f (.int i t)) Q E s):nt X f (rU λi=>.int (g i)):=by
 intro pins s σ H x v Q I rx h
 obtain⟨i,rfl,q⟩:=h
 obtain⟨t,rfl⟩:=rx
 exact rule i t s _ _ ⟨.int (g i),H,I.tok _,⟨_,rfl⟩,q⟩
theorem bh:nt X (unaryOp .USub) (rU λi=>.int (-i)):=MN λ_ _ _ _ _ q=>neg_int q
end
def z6:V->V->Bool
 |.bj,.bj=>true|.bj,.int _=>true|.int _,.bj=>true|.bj,.bl _=>true|.bl _,.bj=>true|.bj,.str _=>true|.str _,.bj=>true
 |.int _,.int _=>true|.bl _,.bl _=>true|.str _,.str _=>true|.dD _,.dD _=>true
 |.int _,.str _=>true|.str _,.int _=>true|.bl _,.str _=>true|.str _,.bl _=>true
 |_,_=>false
def pD:R2:=λx y H Q=>z6 x y=true/\Q (.bl (decide (x=y))) H
def pF:R2:=λx y H Q=>z6 x y=true/\Q (.bl (!decide (x=y))) H
theorem ly{i j:Int}:decide (V.int i=V.int j)=(i==j):=by
 rw[Bool.eq_iff_iff]
 simp
theorem vh{i j:Bool}:decide (V.bl i=V.bl j)=(i==j):=by
 rw[Bool.eq_iff_iff]
 simp
theorem vj{i j:Str}:decide (V.str i=V.str j)=(i==j):=by
 rw[Bool.eq_iff_iff]
 simp
theorem vi{i j:Array UInt8}:decide (V.dD i=V.dD j)=(i.toList==j.toList):=by
 rw[Bool.eq_iff_iff]
 cases i
 cases j
 simp
section
variable{X:Cx}{a b c:Expr}{ta tb tc:TE}{pos:Pos}
theorem cv{pins:List (Addr×Obj)}{σ:St}{H:Hp}{s:Shared}{Q:VK}{k k':Bool}(I:Inv X pins σ H s)(q:Q (.bl k) H)(e:k=k'):EP X pins σ Q (.bool k') s:=by
 subst e
 exact⟨.bl k,H,I,rfl,q⟩
theorem bb:bR X (compareOp .Eq) pD:=by
 intro pins s σ H x y v u Q I rx ry h
 obtain⟨hs,q⟩:=h
 cases x with
 |bj=>
  cases rx
  cases y with
  |bj=>cases ry;exact PySem.EqNone.eq_none_none (cv I q (by simp))
  |bl j=>cases ry;exact PySem.EqNone.eq_none_bool (cv I q (by simp))
  |int j=>obtain⟨t',rfl⟩:=ry;exact PySem.EqNone.eq_none_int (cv I q (by simp))
  |str j=>obtain⟨t',rfl⟩:=ry;exact PySem.EqNone.eq_none_str (cv I q (by simp))
  |_=>exact absurd (show false=true from hs) Bool.false_ne_true
 |bl i=>
  cases rx
  cases y with
  |bj=>cases ry;exact PySem.EqNone.eq_bool_none (cv I q (by simp))
  |bl j=>cases ry;exact eq_bool (cv I q vh)
  |str j=>obtain⟨t',rfl⟩:=ry;exact PySem.EqMixed.eq_bool_str (cv I q (by simp))
  |_=>exact absurd (show false=true from hs) Bool.false_ne_true
 |int i=>
  obtain⟨t,rfl⟩:=rx
  cases y with
  |bj=>cases ry;exact PySem.EqNone.eq_int_none (cv I q (by simp))
  |int j=>obtain⟨t',rfl⟩:=ry;exact eq_int (cv I q ly)
  |str j=>obtain⟨t',rfl⟩:=ry;exact PySem.EqMixed.eq_int_str (cv I q (by simp))
  |_=>exact absurd (show false=true from hs) Bool.false_ne_true
 |str i=>
  obtain⟨t,rfl⟩:=rx
  cases y with
  |bj=>cases ry;exact PySem.EqNone.eq_str_none (cv I q (by simp))
  |bl j=>cases ry;exact PySem.EqMixed.eq_str_bool (cv I q (by simp))
  |int j=>obtain⟨t',rfl⟩:=ry;exact PySem.EqMixed.eq_str_int (cv I q (by simp))
  |str j=>obtain⟨t',rfl⟩:=ry;exact eq_str (cv I q vj)
  |_=>exact absurd (show false=true from hs) Bool.false_ne_true
 |dD i=>
  obtain⟨t,rfl⟩:=rx
  cases y with
  |dD j=>obtain⟨t',rfl⟩:=ry;exact PySem.W.eq_bytes (cv I q vi)
  |_=>exact absurd (show false=true from hs) Bool.false_ne_true
 |_=>cases y<;>exact absurd (show false=true from hs) Bool.false_ne_true
theorem fB:bR X (compareOp .NotEq) pF:=by
 intro pins s σ H x y v u Q I rx ry h
 obtain⟨hs,q⟩:=h
 cases x with
 |bj=>
  cases rx
  cases y with
  |bj=>cases ry;exact PySem.EqNone.ne_none_none (cv I q (by simp))
  |bl j=>cases ry;exact PySem.EqNone.ne_none_bool (cv I q (by simp))
  |int j=>obtain⟨t',rfl⟩:=ry;exact PySem.EqNone.ne_none_int (cv I q (by simp))
  |str j=>obtain⟨t',rfl⟩:=ry;exact PySem.EqNone.ne_none_str (cv I q (by simp))
  |_=>exact absurd (show false=true from hs) Bool.false_ne_true
 |bl i=>
  cases rx
  cases y with
  |bj=>cases ry;exact PySem.EqNone.ne_bool_none (cv I q (by simp))
  |bl j=>cases ry;exact ne_bool (cv I q (congrArg not vh))
  |str j=>obtain⟨t',rfl⟩:=ry;exact PySem.EqMixed.ne_bool_str (cv I q (by simp))
  |_=>exact absurd (show false=true from hs) Bool.false_ne_true
 |int i=>
  obtain⟨t,rfl⟩:=rx
  cases y with
  |bj=>cases ry;exact PySem.EqNone.ne_int_none (cv I q (by simp))
  |int j=>obtain⟨t',rfl⟩:=ry;exact ne_int (cv I q (congrArg not ly))
  |str j=>obtain⟨t',rfl⟩:=ry;exact PySem.EqMixed.ne_int_str (cv I q (by simp))
  |_=>exact absurd (show false=true from hs) Bool.false_ne_true
 |str i=>
  obtain⟨t,rfl⟩:=rx
  cases y with
  |bj=>cases ry;exact PySem.EqNone.ne_str_none (cv I q (by simp))
  |bl j=>cases ry;exact PySem.EqMixed.ne_str_bool (cv I q (by simp))
  |int j=>obtain⟨t',rfl⟩:=ry;exact PySem.EqMixed.ne_str_int (cv I q (by simp))
  |str j=>obtain⟨t',rfl⟩:=ry;exact ne_str (cv I q (congrArg not vj))
  |_=>exact absurd (show false=true from hs) Bool.false_ne_true
 |dD i=>
  obtain⟨t,rfl⟩:=rx
  cases y with
  |dD j=>obtain⟨t',rfl⟩:=ry;exact PySem.W.ne_bytes (cv I q (congrArg not vi))
  |_=>exact absurd (show false=true from hs) Bool.false_ne_true
 |_=>cases y<;>exact absurd (show false=true from hs) Bool.false_ne_true
theorem iB:bR X (compareOp .Lt) (bX λi j=>.bl (decide (i<j))):=l_ λ_ _ _ _ _ _ _ q=>lt_int q
theorem bB:bR X (compareOp .LtE) (bX λi j=>.bl (decide (i<=j))):=l_ λ_ _ _ _ _ _ _ q=>le_int q
theorem md:bR X (compareOp .Gt) (bX λi j=>.bl (decide (j<i))):=l_ λ_ _ _ _ _ _ _ q=>gt_int q
theorem jf:bR X (compareOp .GtE) (bX λi j=>.bl (decide (j<=i))):=l_ λ_ _ _ _ _ _ _ q=>ge_int q
theorem aQ(b:Expr){op:CmpOp}(h:op≠.In:=by decide)(h2:op≠.NotIn:=by decide):behindInMarks op b=false:=by
 have e1:(op==CmpOp.In)=false:=by cases op<;>first|rfl|exact absurd rfl h
 have e2:(op==CmpOp.NotIn)=false:=by cases op<;>first|rfl|exact absurd rfl h2
 cases b<;>simp[behindInMarks,e1,e2]
theorem fC{op:CmpOp}{r:R2}(ho:bR X (compareOp op) r)(ha:PE X a ta)(hb:PE X b tb)(hm:behindInMarks op b=false):PE X (.Compare a [op] [b] pos) (jt r ta tb):=by
 intro pins s σ H Q I h
 exact wpAny_Compare1 (nz ha hb I h λv u s2 x y H2 I2 rx ry q=>ho pins s2 σ H2 x y v u Q I2 rx ry q) hm
def eC(t:TE):TT:=λσ H Q=>t σ H λx H'=>∃k,x=.bl k/\Q k H'
theorem aU{op:CmpOp}{r:R2}(ho:bR X (compareOp op) r)(ha:PE X a ta)(hb:PE X b tb)(hm:behindInMarks op b=false):PT X (.Compare a [op] [b] pos) (eC (jt r ta tb)):=by
 intro pins s σ H Q I h
 refine wpAny_isTrue_Compare1 (aJ (ha pins s σ H _ I h) λv s1⟨x,H1,I1,r1,q1⟩=>aJ (hb pins s1 σ H1 _ I1 q1) λu s2⟨y,H2,I2,r2,q2⟩=>
  aJ (ho pins s2 σ H2 x y v u _ I2 r1 r2 q2) λc s3⟨z,H3,I3,r3,k,e,q3⟩=>?_) hm
 subst e
 cases r3
 exact wpAny_truthy_bool ⟨H3,I3,q3⟩
def jq(r r':R2)(ta tb tc:TE):TE:=λσ H Q=>ta σ H λx H1=>tb σ H1 λy H2=>r x y H2 λz H3=>∃k,z=.bl k/\(if k=true then tc σ H3 λw' H4=>r' y w' H4 Q else Q (.bl false) H3)
theorem jj{op op':CmpOp}{r r':R2}(ho:bR X (compareOp op) r)(ho':bR X (compareOp op') r')(ha:PE X a ta)(hb:PE X b tb)(hc:PE X c tc)(hm:lastMarks [op,op'] [b,c]=false:=by with_unfolding_all rfl):PE X (.Compare a [op,op'] [b,c] pos) (jq r r' ta tb tc):=by
 intro pins s σ H Q I h
 refine Compare_chain (aJ (ha pins s σ H _ I h) λv s1⟨x,H1,I1,r1,q1⟩=>chain_link (aJ (hb pins s1 σ H1 _ I1 q1) λu s2⟨y,H2,I2,r2,q2⟩=>
  aJ (ho pins s2 σ H2 x y v u _ I2 r1 r2 q2) λd s3⟨z,H3,I3,r3,k,e,q3⟩=>?_)) hm
 subst e
 cases r3
 refine wpAny_truthy_bool ?_
 cases k with
 |false=>exact ite_ff ⟨.bl false,H3,I3,rfl,q3⟩
 |true=>exact ite_tt (chain_last (aJ (hc pins s3 σ H3 _ I3 q3) λw' s4⟨z',H4,I4,r4,q4⟩=>ho' pins s4 σ H4 y z' u w' Q I4 r2 r4 q4))
theorem c9{op op':CmpOp}{r r':R2}(ho:bR X (compareOp op) r)(ho':bR X (compareOp op') r')(ha:PE X a ta)(hb:PE X b tb)(hc:PE X c tc)(hm:lastMarks [op,op'] [b,c]=false:=by with_unfolding_all rfl):PT X (.Compare a [op,op'] [b,c] pos) (eC (jq r r' ta tb tc)):=by
 intro pins s σ H Q I h
 refine isTrue_chain (aJ (ha pins s σ H _ I h) λv s1⟨x,H1,I1,r1,q1⟩=>test_link (aJ (hb pins s1 σ H1 _ I1 q1) λu s2⟨y,H2,I2,r2,q2⟩=>
  aJ (ho pins s2 σ H2 x y v u _ I2 r1 r2 q2) λd s3⟨z,H3,I3,r3,k,e,q3⟩=>?_)) hm
 subst e
 cases r3
 refine wpAny_truthy_bool ?_
 cases k with
 |false=>
  obtain⟨k',e',q'⟩:=q3
  cases e'
  exact ite_ff ⟨H3,I3,q'⟩
 |true=>
  refine ite_tt (test_last (aJ (hc pins s3 σ H3 _ I3 q3) λw' s4⟨z',H4,I4,r4,q4⟩=>aJ (ho' pins s4 σ H4 y z' u w' _ I4 r2 r4 q4) λd' s5⟨z2,H5,I5,r5,k2,e2,q5⟩=>?_))
  subst e2
  cases r5
  exact wpAny_truthy_bool ⟨H5,I5,q5⟩
theorem kg:(sizeLine:Nat)<2^63:=by rw[sizeLine_eq];decide
theorem vals1{x:V}{us:List Value}(r:Vals [x] us):∃u,us=[u]/\RelV x u:=by
 cases r with
 |cons r1 r2=>cases r2;exact⟨_,rfl,r1⟩
theorem vals2{x y:V}{us:List Value}(r:Vals [x,y] us):∃u w',us=[u,w']/\RelV x u/\RelV y w':=by
 cases r with
 |cons r1 r2=>
  cases r2 with
  |cons r3 r4=>cases r4;exact⟨_,_,rfl,r1,r3⟩
theorem Ds(hc:X.calm=true):fg X (.builtin "min") (λxs H Q=>∃i j,xs=[.int i,.int j]/\Q (.int (if j<i then j else i)) H):=by
 intro pins s σ H xs us Q I r h
 obtain⟨i,j,rfl,q⟩:=h
 obtain⟨u,w',rfl,⟨t,rfl⟩,⟨t',rfl⟩⟩:=vals2 r
 refine min_two_ints (I.ok.hd hc) λh' tk k=>⟨_,H,I.kept k,?_,q⟩
 by_cases hj:j<i
 .rw[if_pos hj,if_pos hj];exact⟨_,rfl⟩
 .rw[if_neg hj,if_neg hj];exact⟨_,rfl⟩
end
end L2
namespace L2
open PySem PySem.Spec PyProof.Rows
structure iV(h:Heap)(x dx C:Addr)(mA:Str->Option Value):Prop where
 obj:h.get? x=some (PySem.W.instObj C dx)
 ns:h.Ns1 dx mA
 ne:dx≠x
theorem FY{h:Heap}{dx:Addr}{mA:Str->Option Value}(n:h.Ns1 dx mA):∃od,h.get? dx=some od/\∀name,PySem.W.lookIn name od=some (mA name):=by
 obtain⟨o,es,ep,ho,hd,hk,_,hm⟩:=n
 refine⟨o,ho,λname=>?_⟩
 have e:=hm name
 unfold nsFind findBy at e
 rw[<-Array.find?_toList] at e
 unfold PySem.W.lookIn
 rw[hd]
 dsimp only
 split
 .rename_i y q
  rw[q] at e
  exact congrArg some e
 .rename_i q
  rw[q] at e
  have a:es.toList.any (·.refKey)=false:=by
   rw[List.any_eq_false]
   intro y hy
   obtain⟨z,t,hkey⟩:=hk y (Array.mem_toList_iff.mp hy)
   simp[DictEntry.refKey,hkey]
  have a':¬es.toList.any (·.refKey)=true:=by rw[a];exact Bool.false_ne_true
  rw[if_neg a']
  exact congrArg some e
theorem iV.look{h:Heap}{x dx C:Addr}{mA:Str->Option Value}(I:iV h x dx C mA):∃od,PySem.W.InstAt h x (PySem.W.instObj C dx) C (some od)/\∀name,PySem.W.lookIn name od=some (mA name):=
 let ⟨od,ho,hl⟩:=FY I.ns
 ⟨od,⟨I.obj,rfl,rfl,ho⟩,hl⟩
section
variable{prog:Program}{w:World}{A:Around}{E:Value->Shared->Prop}{s:Shared}{K:PySem.W.Frag}{x dx C f:Addr}{mA:Str->Option Value}{name:Str}{v:Value}
theorem get_map{expr:Bool}{Q:Value->Shared->Prop}(X:K.In s.heap)(I:iV s.heap x dx C mA)(hg:PySem.W.plainGet K C name=true)(hh:PySem.W.hasDictIn K C=true)(ha:PySem.W.findIn K (.ref C) name=some none)(hv:mA name=some v)(hv':PySem.W.handedIn v=true)(h:Q v {s with toks:=s.toks+1}):wpAny (model prog w) A (getAttr (.ref x) name expr) Q E s:=by
 obtain⟨od,J,hl⟩:=I.look
 exact PySem.W.get_value X J (PySem.W.plainGet_of hg).1 (PySem.W.findObj_own hh ha rfl (by rw[hl,hv])) hv' h
theorem K5{ns:List Str}{Q:Unit->Shared->Prop}(X:K.In s.heap)(I:iV s.heap x dx C mA)(hs:PySem.W.findIn K (.ref C) "__setattr__"=some (some (.builtin "object.__setattr__")))(hp:PySem.W.plainOver K C=true)(ht:PySem.W.takerIn K C name=some none)(hh:PySem.W.hasDictIn K C=true)(hw:PySem.Within mA ns)(hsz:ns.length<=sizeLine)(h:∀h',iV h' x dx C (λy=>if y=name then some v else mA y)->Heap.SameBut dx s.heap h'->Q () {s with heap:=h',toks:=s.toks+2}):wpAny (model prog w) A (setAttr (.ref x) name v) Q E s:=by
 obtain⟨od,J,hl⟩:=I.look
 refine PySem.W.set_plain X J hs (PySem.W.osa_open (s:={s with toks:=s.toks+1}) (r:=none) X J hp ht λb=>?_)
 obtain⟨cd,hc,hd'⟩:=PySem.W.any_some hh
 have hx:s.heap.get? x=some ⟨.ref C,some dx,.plain,#[]⟩:=I.obj
 refine wpAny_bind (wpAny_pure (wpAny_bind (wpAny_bind (wpAny_loadPart hx (wpAny_bind (PySem.W.Looks.here (s:={s with toks:=s.toks+1}) (PySem.W.looks_clsIn X hc) ?_))))))
 rw[hd']
 refine wpAny_pure (a:=some dx) (wpAny_bind (wpAny_pure (wpAny_bind ?_)))
 refine wpAny_nsSet1 (s:={s with toks:=s.toks+1}) I.ns λh' hn2 hs2=>?_
 obtain⟨oD,esD,epD,hoD,hdD,hcD⟩:=hn2.count (PySem.Within.cons name v hw)
 refine wpAny_bind (wpAny_lookBehind hoD (by rw[hdD];exact pastItsLine_dict (Nat.le_trans hcD (by rw[List.length_cons];omega))) ?_)
 exact wpAny_pure (h _ ⟨(hs2.2 _ (Ne.symm I.ne)).trans I.obj,hn2,I.ne⟩ hs2)
theorem F6{R:Result->Shared->Prop}{vs:List Value}{kw:List (Str×Value)}(X:K.In s.heap)(hm:PySem.W.makesIn K C=true)(hi:PySem.W.findIn K (.ref C) "__init__"=some (some (.ref f)))(hf:PySem.W.typeIn K (.ref f)=some (.type "function"))(h:codeAny (model prog w) (A.under (.builtin "type.__call__" ⟨.ref C::vs,kw⟩)) (.call (.ref f) ⟨.ref (s.heap.objs.size+1)::vs,kw⟩) (PySem.W.InitBack (s.heap.objs.size+1) R) {s with heap:=(s.heap.push PySem.W.emptyDict).push (PySem.W.instObj C s.heap.objs.size)}):codeAny (model prog w) A (.call (.ref C) ⟨vs,kw⟩) R s:=by
 obtain⟨hh,g,d,t,os⟩:=s
 exact PySem.W.make_core (PySem.W.makes_of X hm) (PySem.W.looks_findIn X hi) (λself=>PySem.W.bind_fn X self hf) (.inl rfl) h
end
def bc(f:Str)(v:V):List (Str×V)->List (Str×V)
 |[]=>[(f,v)]
 |(g,x)::r=>if g=f then(g,v)::r else(g,x)::bc f v r
theorem yp(f g:Str)(v:V):∀fs:List (Str×V),(bc f v fs).lookup g=if g=f then some v else fs.lookup g
 |[]=>by
  show List.lookup g [(f,v)]=_
  by_cases h:g=f
  .have hb:(g==f)=true:=beq_iff_eq.mpr h
   simp only[List.lookup,hb,if_pos h]
  .have hb:(g==f)=false:=beq_eq_false_iff_ne.mpr h
   simp only[List.lookup,hb,if_neg h]
 |(k,x)::r=>by
  have ih:=yp f g v r
  rw[show bc f v ((k,x)::r)=(if k=f then(k,v)::r else(k,x)::bc f v r) from rfl]
  by_cases hk:k=f
  .rw[if_pos hk]
   by_cases h:g=k
   .have hb:(g==k)=true:=beq_iff_eq.mpr h
    simp only[List.lookup,hb,if_pos (h.trans hk)]
   .have hb:(g==k)=false:=beq_eq_false_iff_ne.mpr h
    simp only[List.lookup,hb,if_neg (λe:g=f=>h (e.trans hk.symm))]
  .rw[if_neg hk]
   by_cases h:g=k
   .have hb:(g==k)=true:=beq_iff_eq.mpr h
    simp only[List.lookup,hb,if_neg (λe:g=f=>hk (h.symm.trans e))]
   .have hb:(g==k)=false:=beq_eq_false_iff_ne.mpr h
    simp only[List.lookup,hb]
    exact ih
theorem oq(f:Str)(v:V):∀fs:List (Str×V),f∈(bc f v fs).map (·.1)/\∀g,g∈fs.map (·.1)->g∈(bc f v fs).map (·.1)
 |[]=>⟨by simp[bc],λg h=>by simp at h⟩
 |(k,x)::r=>by
  obtain⟨i1,i2⟩:=oq f v r
  rw[show bc f v ((k,x)::r)=(if k=f then(k,v)::r else(k,x)::bc f v r) from rfl]
  by_cases hk:k=f
  .rw[if_pos hk]
   subst hk
   exact⟨by simp,λg h=>by simpa using h⟩
  .rw[if_neg hk]
   refine⟨?_,λg h=>?_⟩
   .rw[List.map_cons]
    exact List.mem_cons_of_mem _ i1
   .rw[List.map_cons] at h⊢
    rcases List.mem_cons.mp h with e|e
    .exact List.mem_cons.mpr (.inl e)
    .exact List.mem_cons_of_mem _ (i2 g e)
theorem yh(f:Str)(v:V):∀fs:List (Str×V),(bc f v fs).length<=fs.length+1
 |[]=>by simp[bc]
 |(k,x)::r=>by
  have ih:=yh f v r
  rw[show bc f v ((k,x)::r)=(if k=f then(k,v)::r else(k,x)::bc f v r) from rfl]
  by_cases hk:k=f
  .rw[if_pos hk,List.length_cons,List.length_cons];omega
  .rw[if_neg hk,List.length_cons,List.length_cons];omega
theorem dI.some_of{v:V}{o:Option Value}(r:dI (some v) o):∃u,o=some u/\RelV v u:=by
 cases o with
 |none=>exact(show False from r).elim
 |some u=>exact⟨u,rfl,r⟩
theorem Et{v:V}{u:Value}(r:RelV v u):PySem.W.handedIn u=true:=by
 cases v with
 |bj=>cases(show u=Value.none from r);rfl
 |bl b=>cases(show u=Value.bool b from r);rfl
 |int i=>obtain⟨t,e⟩:=(show∃t,u=Value.int i t from r);cases e;rfl
 |str x=>obtain⟨t,e⟩:=(show∃t,u=Value.str x t from r);cases e;rfl
 |dD b=>obtain⟨t,e⟩:=(show∃t,u=Value.bytes b t from r);cases e;rfl
 |j6 b=>obtain⟨t,e⟩:=(show∃t,u=Value.float b t from r);cases e;rfl
 |ref a=>cases(show u=Value.ref a from r);rfl
 |ty n=>cases(show u=Value.type n from r);rfl
section
variable{P:Program}{w:World}{H H':Hp}{h h':Heap}{a C dx:Addr}{fs fs':List (Str×V)}
theorem xP(aH:bU P w H h)(e:H a=some (.ins C dx fs)):∃mA,iV h a dx C mA/\(∀f,dI (fs.lookup f) (mA f))/\PySem.Within mA (fs.map (·.1))/\fs.length<=1000/\H dx=some (.own a):=by
 obtain⟨d,z,ne,ob,mA,n,r,q⟩:=(show cy P w H h a (.ins C dx fs) from aH a _ e)
 exact⟨mA,⟨ob,n,ne⟩,r,q,z,d⟩
end
structure cp(K:PySem.W.Frag)(C:Addr):Prop where
 pg:PySem.W.plainGet K C Str.empty=true
 hd:PySem.W.hasDictIn K C=true
 po:PySem.W.plainOver K C=true
 sa:PySem.W.findIn K (.ref C) "__setattr__"=some (some (.builtin "object.__setattr__"))
theorem cp.get{K:PySem.W.Frag}{C:Addr}(c:cp K C)(f:Str):PySem.W.plainGet K C f=true:=c.pg
def aT(K:PySem.W.Frag)(C:Addr)(f:Str):Prop:=PySem.W.findIn K (.ref C) f=some none
theorem aT.MF{K:PySem.W.Frag}{C:Addr}{f:Str}(n:aT K C f):PySem.W.takerIn K C f=some none:=by
 unfold PySem.W.takerIn
 rw[show PySem.W.findIn K (.ref C) f=some none from n]
 rfl
section
variable{X:Cx}{pins:List (Addr×Obj)}{σ:St}{H:Hp}{s:Shared}{a C dx:Addr}{fs:List (Str×V)}{f:Str}{v:V}{A:Around}{E:Value->Shared->Prop}
theorem xy{b:Bool}{Q:Value->Shared->Prop}(I:Inv X pins σ H s)(e:H a=some (.ins C dx fs))(c:cp X.K C)(n:aT X.K C f)(l:fs.lookup f=some v)(h:∀u s',Inv X pins σ H s'->RelV v u->Q u s'):wpAny (model X.prog X.w) A (getAttr (.ref a) f b) Q E s:=by
 obtain⟨mA,O,r,_,_,_⟩:=xP I.aH e
 obtain⟨u,hu,ru⟩:=dI.some_of (v:=v) (o:=mA f) (by rw[<-l];exact r f)
 exact get_map I.e7 O (c.get f) c.hd n hu (Et ru) (h u _ (I.tok _) ru)
theorem Ai{y:V}{u:Value}{Q:Unit->Shared->Prop}(I:Inv X pins σ H s)(e:H a=some (.ins C dx fs))(c:cp X.K C)(n:aT X.K C f)(hl:fs.length<1000)(ry:RelV y u)(h:∀s',Inv X pins σ (upd H a (.ins C dx (bc f y fs))) s'->Q () s'):wpAny (model X.prog X.w) A (setAttr (.ref a) f u) Q E s:=by
 obtain⟨mA,O,r,wi,_,ho⟩:=xP I.aH e
 have hz:(fs.map (·.1)).length<=sizeLine:=by rw[List.length_map,sizeLine_eq];omega
 refine K5 I.e7 O c.sa c.po n.MF c.hd wi hz λh' O' sb=>h _ ?_
 have hd:∃o,h'.get? dx=some o:=let ⟨o,_,_,e',_⟩:=O'.ns;⟨o,e'⟩
 refine I.write (x:=a) (e:=dx) (by rw[e];exact True.intro) (.inr ho) (λb q hb z=>(sb.2 b hb).trans z) hd ?_
 refine⟨by rw[aF O.ne];exact ho,?_,O.ne,O'.obj,_,O'.ns,λg=>?_,λg hg=>?_⟩
 .have:=yh f y fs;omega
 .show dI ((bc f y fs).lookup g) (if g=f then some u else mA g)
  rw[yp]
  by_cases q:g=f
  .rw[if_pos q,if_pos q];exact ry
  .rw[if_neg q,if_neg q];exact r g
 .by_cases q:g=f
  .rw[q];exact(oq f y fs).1
  .refine(oq f y fs).2 g (wi g λz=>hg ?_)
   show(if g=f then some u else mA g)=none
   rw[if_neg q];exact z
theorem Inv.made(I:Inv X pins σ H s):Inv X pins σ (upd (upd H s.heap.objs.size (.own (s.heap.objs.size+1))) (s.heap.objs.size+1) (.ins C s.heap.objs.size [])) {s with heap:=(s.heap.push PySem.W.emptyDict).push (PySem.W.instObj C s.heap.objs.size)}:=by
 have e1:(s.heap.push PySem.W.emptyDict).get? s.heap.objs.size=some PySem.W.emptyDict:=Heap.get?_push_size s.heap rfl
 have e2:((s.heap.push PySem.W.emptyDict).push (PySem.W.instObj C s.heap.objs.size)).get? (s.heap.objs.size+1)=some (PySem.W.instObj C s.heap.objs.size):=by
  have:=Heap.get?_push_size (s.heap.push PySem.W.emptyDict) (o:=PySem.W.instObj C s.heap.objs.size) rfl
  rwa[Heap.size_push] at this
 have e3:(s.heap.push PySem.W.emptyDict).Ns s.heap.objs.size (λ_=>none):=⟨PySem.W.emptyDict,#[],_,e1,rfl,(λe he=>absurd he (by simp)),λ_=>rfl⟩
 have I1:=I.laid (a:=s.heap.objs.size) (o:=.own (s.heap.objs.size+1)) (h':=s.heap.push PySem.W.emptyDict) (t':=s.toks) (λb u q=>Heap.get?_push_of_some _ q) (Nat.le_refl _) ⟨_,e1⟩
 refine I1.laid (a:=s.heap.objs.size+1) (o:=.ins C s.heap.objs.size []) (t':=s.toks) (λb u q=>Heap.get?_push_of_some _ q) (Nat.le_of_eq (Heap.size_push _ _)) ?_
 have ne:s.heap.objs.size≠s.heap.objs.size+1:=Nat.ne_of_lt (Nat.lt_succ_self _)
 refine⟨by rw[aF ne,aN],Nat.zero_le _,ne,e2,λ_=>none,(Heap.Ns1.of_empty e3).at λo q=>Heap.get?_push_of_some _ q,λ_=>True.intro,λy hy=>absurd rfl hy⟩
theorem CD{prog:Program}{w:World}{env:Env}{e:Expr}{f:Str}{pos:Pos}{s:Shared}{Q:Value->Shared->Prop}(hb:attributeBase e f env (eval e env)=eval e env)(h:wpAny (model prog w) A (eval e env) (λo s₁=>wpAny (model prog w) A (getAttr o f true) Q E s₁) E s):wpAny (model prog w) A (eval (.Attribute e f pos) env) Q E s:=
 Attribute_any_ h (by rw[arm_eval_Attribute,hb])
end
def fe(K:PySem.W.Frag)(ta:TE)(f:Str):TE:=λσ H Q=>ta σ H λx H1=>∃a C dx fs v,x=.ref a/\H1 a=some (.ins C dx fs)/\cp K C/\aT K C f/\fs.lookup f=some v/\Q v H1
def iJ(K:PySem.W.Frag)(ta tv:TE)(f:Str):TS:=λD σ H=>tv σ H λy H1=>ta σ H1 λx H2=>∃a C dx fs,x=.ref a/\H2 a=some (.ins C dx fs)/\cp K C/\aT K C f/\fs.length<1000/\D.nx σ (upd H2 a (.ins C dx (bc f y fs)))
def r8(X:Cx)(op:Operator)(rd:V->V->Hp->VK->Prop):Prop:=
 ∀(pins:List (Addr×Obj))(s:Shared)(σ:St)(H:Hp)(x y:V)(u v:Value)(Q:VK),Inv X pins σ H s->RelV x u->RelV y v->rd x y H Q->wpAny (model X.prog X.w) X.A (inplaceOp op u v) (EP X pins σ Q) X.xe s
def z5(K:PySem.W.Frag)(ta tv:TE)(rd:V->V->Hp->VK->Prop)(f:Str):TS:=λD σ H=>ta σ H λx H1=>∃a C dx fs v,x=.ref a/\H1 a=some (.ins C dx fs)/\cp K C/\aT K C f/\fs.lookup f=some v/\tv σ H1 λy H2=>rd v y H2 λz H3=>∃dx' fs',H3 a=some (.ins C dx' fs')/\fs'.length<1000/\D.nx σ (upd H3 a (.ins C dx' (bc f z fs')))
section
variable{X:Cx}{o e value:Expr}{f:Str}{pos pos' tpos:Pos}{ta tv:TE}
theorem ak(he:PE X e ta)(hb:attributeBase e f X.env (eval e X.env)=eval e X.env):PE X (.Attribute e f pos) (fe X.K ta f):=by
 intro pins s σ H Q I h
 refine CD hb (aJ (he pins s σ H _ I h) λu s1⟨x,H1,I1,rx,a,C,dx,fs,v,ex,ea,c,n,l,q⟩=>?_)
 subst ex
 obtain rfl:u=Value.ref a:=rx
 exact xy I1 ea c n l λu' s2 I2 ru=>⟨v,H1,I2,ru,q⟩
theorem bx(ha:PE X o ta)(hv:PE X value tv)(hs:swapsWith value (some (.Attribute o f pos')) pos.line X.env=pure false):PS X (.Assign [.Attribute o f pos'] value pos) (iJ X.K ta tv f):=by
 intro pins s σ H D I h
 refine plainObj_wpAny_Assign_Attribute (aJ (hv pins s σ H _ I h) λu s1⟨y,H1,I1,ry,q⟩=>aJ (ha pins s1 σ H1 _ I1 q) λov s2⟨x,H2,I2,rx,a,C,dx,fs,ex,ea,c,n,l,q2⟩=>?_) hs
 subst ex
 obtain rfl:ov=Value.ref a:=rx
 exact Ai I2 ea c n l ry λs3 I3=>⟨σ,_,I3,q2⟩
theorem iH{op:Operator}{rd:V->V->Hp->VK->Prop}(ha:PE X o ta)(hv:PE X value tv)(hop:r8 X op rd):PS X (.AugAssign (.Attribute o f tpos) op value pos) (z5 X.K ta tv rd f):=by
 intro pins s σ H D I h
 refine wpAny_AugAssign_AttributeAny (aJ (ha pins s σ H _ I h) λov s1⟨x,H1,I1,rx,a,C,dx,fs,v,ex,ea,c,n,l,q⟩=>?_)
 subst ex
 obtain rfl:ov=Value.ref a:=rx
 refine xy I1 ea c n l λu s2 I2 ru=>aJ (hv pins s2 σ H1 _ I2 q) λw3 s3⟨y,H2,I3,ry,q3⟩=>aJ (hop pins s3 σ H2 v y u w3 _ I3 ru ry q3) λw4 s4⟨z,H3,I4,rz,dx',fs',ea',l',q4⟩=>?_
 exact Ai I4 ea' c n l' rz λs5 I5=>⟨σ,_,I5,q4⟩
def pC:V->V->Hp->VK->Prop:=λx y H Q=>∃i j,x=.int i/\y=.int j/\Q (.int (i+j)) H
theorem iu:r8 X .Add pC:=by
 rintro pins s σ H x y u v Q I rx ry ⟨i,j,rfl,rfl,q⟩
 obtain⟨t,rfl⟩:=(show∃t,u=Value.int i t from rx)
 obtain⟨t',rfl⟩:=(show∃t',v=Value.int j t' from ry)
 exact PyProof.Rows.iadd_int ⟨.int (i+j),H,I.tok _,⟨_,rfl⟩,q⟩
end
end L2
namespace L2
open PySem PySem.Spec PyProof.Rows
structure cJ(k:Nat)(A:Around):Prop where
 hd:A.handled=none
 dp:A.depth+3*k+5<recursionLimit
 un:A.units+16*k+200<cLine
theorem cJ.mono{j k:Nat}{A:Around}(r:cJ k A)(h:j<=k):cJ j A:=⟨r.hd,by have:=r.dp;omega,by have:=r.un;omega⟩
theorem cJ.deeper{k:Nat}{A:Around}(r:cJ (k+1) A)(env:Env):cJ k (A.deeper env):=
 ⟨r.hd,by have:=r.dp;show A.depth+1+3*k+5<_;omega,by have:=r.un;show A.units+3+16*k+200<_;omega⟩
theorem F5{A:Around}{C:Addr}{us:List Value}{kw:List (Str×Value)}:(A.under (.builtin "type.__call__" ⟨.ref C::us,kw⟩)).depth=A.depth+1:=by
 first|rfl|simp[Around.under,Code.weight,Code.isCreation,Code.isGuard,Code.isCaller,Code.frames,Code.isFrame,guardIds]
theorem F7{A:Around}{C:Addr}{us:List Value}{kw:List (Str×Value)}:(A.under (.builtin "type.__call__" ⟨.ref C::us,kw⟩)).units=A.units+1:=by
 first|rfl|simp[Around.under,Code.cUnits,Code.frames,Code.isFrame]
theorem cJ.make{k:Nat}{A:Around}(r:cJ (k+1) A)(C:Addr)(us:List Value)(kw:List (Str×Value)):cJ k (A.under (.builtin "type.__call__" ⟨.ref C::us,kw⟩)):=
 ⟨r.hd,by have:=r.dp;rw[F5];omega,by have:=r.un;rw[F7];omega⟩
theorem cJ.depth{k:Nat}{A:Around}(r:cJ k A):A.depth<recursionLimit:=by have:=r.dp;omega
theorem cJ.units{k:Nat}{A:Around}(r:cJ k A):A.units+64<cLine:=by have:=r.un;omega
def js:TA:=λ_ H Q=>Q [] H
def g_(ta:TE)(tr:TA):TA:=λσ H Q=>ta σ H λx H1=>tr σ H1 λxs H2=>Q (x::xs) H2
section
variable{X:Cx}{e:Expr}{es:List Expr}{te:TE}{t:TA}{pos:Pos}
theorem ah:PA X [] js:=λ_ _ _ _ H Q I h=>Calls.spliced_nil ⟨[],H,I,.nil,h⟩
theorem aa(ha:PE X e te)(hr:PA X es t)(hs:starEach (e::es) X.env=(false,eval e X.env)::starEach es X.env:=by rfl):PA X (e::es) (g_ te t):=by
 intro pos pins s σ H Q I h
 rw[hs]
 show wpAny _ _ (spliced ((false,eval e X.env)::backTo pos (starEach es X.env))) _ _ s
 refine Calls.spliced_cons (aJ (ha pins s σ H _ I h) λu s1⟨x,H1,I1,r1,q1⟩=>?_)
 exact aJ (hr pos pins s1 σ H1 _ I1 q1) λus s2⟨xs,H2,I2,r2,q2⟩=>⟨x::xs,H2,I2,.cons r1 r2,q2⟩
def AY(t:TA):TE:=λσ H Q=>t σ H λxs H1=>xs.length<=sizeLine/\∀p,H1 p=none->Q (.ref p) (upd H1 p (.tup xs))
def AU(t:TA):TE:=λσ H Q=>t σ H λxs H1=>xs.length<=sizeLine/\∀p,H1 p=none->Q (.ref p) (upd H1 p (.lst xs))
theorem zc{x1}(h:PA X es t):PE X (.Tuple es x1 pos) (AY t):=by
 intro pins s σ H Q I hq
 refine wpAny_Tuple_spliced (aJ (h pos pins s σ H _ I hq) λus s1⟨xs,H1,I1,r,z,q⟩=>⟨by rw[<-r.length];exact z,?_⟩)
 have hf:H1 s1.heap.objs.size=none:=I1.aH.fresh (Nat.le_refl _)
 refine⟨.ref s1.heap.objs.size,upd H1 s1.heap.objs.size (.tup xs),I1.laid (t':=s1.toks) (λb u e=>Heap.get?_push_of_some _ e) (Nat.le_refl _) ?_,rfl,q _ hf⟩
 exact⟨z,us,r,⟨_,Heap.get?_push_size _ rfl,rfl,_,rfl⟩⟩
theorem aB(h:PA X es t):PE X (.List es pos) (AU t):=by
 intro pins s σ H Q I hq
 refine wpAny_List_spliced (aJ (h pos pins s σ H _ I hq) λus s1⟨xs,H1,I1,r,z,q⟩=>⟨by rw[<-r.length];exact z,?_⟩)
 have hf:H1 s1.heap.objs.size=none:=I1.aH.fresh (Nat.le_refl _)
 refine⟨.ref s1.heap.objs.size,upd H1 s1.heap.objs.size (.lst xs),I1.laid (t':=s1.toks) (λb u e=>Heap.get?_push_of_some _ e) (Nat.le_refl _) ?_,rfl,q _ hf⟩
 exact⟨z,us,0,r,Heap.get?_push_size _ rfl⟩
end
abbrev Sp:=List V->Hp->VK->XK->Prop
abbrev eV:=List Env->Hp->Shared->XK->Value->Shared->Prop
structure h_(P:Program)(w:World)(K:PySem.W.Frag)(mg:Str->Option Value)(base:Heap)(A:Around)(outer:List Env)(s:Shared)(H:Hp):Prop where
 frames:A.frames=some outer
 mod:Mod K mg base
 bs:∀b o,base.get? b=some o->s.heap.get? b=some o/\H b=none
 fM:base.objs.size<=s.heap.objs.size
 eZ:s.heap.FunFrames base outer
 ir:∀b∈fu outer,H b=none
 aH:bU P w H s.heap
 bare:AllBare s.gens
def CE(outer:List Env)(P:Program)(w:World)(H:Hp)(s:Shared)(Q:VK)(u:Value)(s':Shared):Prop:=
 ∃v H',s'.os=s.os/\AllBare s'.gens/\Un (fu outer) [] H H' s.heap s'.heap/\bU P w H' s'.heap/\RelV v u/\Q v H'
def CR(CX:eV)(outer:List Env)(P:Program)(w:World)(H:Hp)(s:Shared)(Q:VK)(E:XK)(r:Result)(s':Shared):Prop:=
 match r with
 |.ok (.ret u)=>CE outer P w H s Q u s'
 |.ok _=>False
 |.error e=>CX outer H s E e s'
structure aX(P:Program)(w:World)(K:PySem.W.Frag)(mg:Str->Option Value)(base:Heap)(CX:eV)(k:Nat)(f:Addr)(fd:FuncData)(ps:List Str)(sp:Sp):Prop where
 len:∀vs H Q E,sp vs H Q E->vs.length=ps.length
 run:∀(A:Around)(outer:List Env)(s:Shared)(H:Hp)(args:Args)(us:List Value)(vs:List V)(Q:VK)(E:XK),cJ k A->h_ P w K mg base A outer s H->BindsTo s fd args (ps.zip us)->Vals vs us->sp vs H Q E->codeAny (model P w) A (.call (.ref f) args) (CR CX outer P w H s Q E) s
theorem h_.make{P:Program}{w:World}{K:PySem.W.Frag}{mg:Str->Option Value}{base:Heap}{A:Around}{outer:List Env}{s:Shared}{H:Hp}(e:h_ P w K mg base A outer s H)(C:Addr)(us:List Value)(kw:List (Str×Value)):h_ P w K mg base (A.under (.builtin "type.__call__" ⟨.ref C::us,kw⟩)) outer s H:=⟨by first|exact e.frames|(simpa[Around.under,Code.envs,Code.isFrame,pushEnvs] using e.frames),e.mod,e.bs,e.fM,e.eZ,e.ir,e.aH,e.bare⟩
section
variable{X:Cx}{pins:List (Addr×Obj)}{σ:St}{H:Hp}{s s':Shared}
theorem Inv.vz(I:Inv X pins σ H s):h_ X.prog X.w X.K X.mg X.base X.A X.stack s H:=
 ⟨I.ok.frames,I.ok.mod,I.bs,Nat.le_trans I.ok.fM I.sz,I.stack,I.Az,I.aH,I.bare⟩
theorem Inv.after{Q:VK}{u:Value}(I:Inv X pins σ H s)(h:CE X.stack X.prog X.w H s Q u s'):EP X pins σ Q u s':=by
 obtain⟨v,H',os,bare,un,aH,r,q⟩:=h
 obtain⟨hh,g,d,t,os'⟩:=s'
 obtain rfl:os'=s.os:=os
 exact⟨v,H',I.call (h':=hh) (g':=g) (d':=d) (t':=t) (ch:=[]) un aH bare (λb z=>absurd z (by simp)),r,q⟩
end
def jo(sp:Sp)(dvs:List V)(E:XK)(t:TA):TE:=λσ H Q=>t σ H λvs H1=>sp (vs++dvs) H1 Q E
def rN(C:Addr)(sp:Sp)(dvs:List V)(E:XK)(t:TA):TE:=λσ H Q=>t σ H λvs H1=>∀x dx,H1 x=none->H1 dx=none->dx≠x->sp (.ref x::(vs++dvs)) (upd (upd H1 dx (.own x)) x (.ins C dx [])) (λv H2=>v=.bj/\Q (.ref x) H2) E
def Binds(K:PySem.W.Frag)(fd:FuncData)(ps:List Str)(ds:List Value):Prop:=
 ∀(s:Shared)(us:List Value),K.In s.heap->(us++ds).length=ps.length->BindsTo s fd ⟨us,[]⟩ (ps.zip (us++ds))
theorem Binds.all{K:PySem.W.Frag}{fd:FuncData}{ps:List Str}(h:∀us:List Value,us.length=ps.length->bindArgs fd ⟨us,[]⟩=pure (ps.zip us)):Binds K fd ps []:=λs us _ hl=>by
 rw[List.append_nil] at hl⊢
 exact .of_eq (h us hl)
def Passes(CX:eV)(X:Cx)(E:XK):Prop:=∀(pins:List (Addr×Obj))(σ:St)(H:Hp)(s:Shared)(e:Value)(s':Shared),Inv X pins σ H s->CX X.stack H s E e s'->X.xe e s'
section
variable{X:Cx}{CX:eV}{k:Nat}{f C:Addr}{fd:FuncData}{ps:List Str}{sp:Sp}{dvs:List V}{ds:List Value}{E:XK}{x m:Str}{p pos apos:Pos}{e o:Expr}{es:List Expr}{ta:TE}{t:TA}
theorem K0{pins:List (Addr×Obj)}{σ:St}{H:Hp}{s:Shared}{Q:VK}{us:List Value}{vs:List V}(F:aX X.prog X.w X.K X.mg X.base CX k f fd ps sp)(hr:cJ k X.A)(hb:Binds X.K fd ps ds)(hd:Vals dvs ds)(hx:Passes CX X E)(I:Inv X pins σ H s)(r:Vals vs us)(h:sp (vs++dvs) H Q E):wpAny (model X.prog X.w) X.A (call (.ref f) us) (EP X pins σ Q) X.xe s:=by
 have r2:Vals (vs++dvs) (us++ds):=r.append hd
 have hl:(us++ds).length=ps.length:=by rw[<-r2.length];exact F.len _ _ _ _ h
 refine wpAny_call (codeAny_mono (F.run X.A X.stack s H ⟨us,[]⟩ (us++ds) (vs++dvs) Q E hr I.vz (hb s us I.e7 hl) r2 h) λr s' hq=>?_)
 cases r with
 |error e=>exact hx pins σ H s e s' I hq
 |ok fl=>
  cases fl with
  |ret u=>exact I.after hq
  |next=>exact False.elim hq
  |brk=>exact False.elim hq
  |cont=>exact False.elim hq
theorem IC(F:aX X.prog X.w X.K X.mg X.base CX k f fd ps sp)(hr:cJ k X.A)(hg:Gl X x)(hm:X.mg x=some (.ref f))(hk:PySem.W.keepIn X.K (.ref f)=true)(hb:Binds X.K fd ps ds)(hd:Vals dvs ds)(hx:Passes CX X E)(ha:PA X (e::es) t)(hdb:(x==("__debug__":Str))=false:=by decide)(he:starEach (e::es) X.env=(false,eval e X.env)::starEach es X.env:=by rfl)(hpl:(backTo pos (starEach es X.env)).any (·.1)=false:=by rfl):PE X (.Call (.Name x p) (e::es) [] pos) (jo sp dvs E t):=by
 intro pins s σ H Q I h
 refine wpAny_Call_Name_kw (lW I hg hm ?_ hdb)
 refine PySem.W.callWith_K (h₀:=X.base) I.ok.mod.lU hk (aJ (ha pos pins s σ H _ I h) λus s1⟨vs,H1,I1,r,q⟩=>⟨I1.e7,?_⟩) he hpl
 exact K0 F hr hb hd hx I1 r q
structure Mk(K:PySem.W.Frag)(C f:Addr):Prop where
 makes:PySem.W.makesIn K C=true
 init:PySem.W.findIn K (.ref C) "__init__"=some (some (.ref f))
 fn:PySem.W.isFn K (.ref f)=true
 kp:PySem.W.keepIn K (.ref C)=true
theorem z4{pins:List (Addr×Obj)}{σ:St}{H:Hp}{s:Shared}{Q:VK}{us:List Value}{vs:List V}(M:Mk X.K C f)(F:aX X.prog X.w X.K X.mg X.base CX k f fd ps sp)(hr:cJ (k+1) X.A)(hb:Binds X.K fd ps ds)(hd:Vals dvs ds)(hx:Passes CX X E)(I:Inv X pins σ H s)(r:Vals vs us)(h:∀x dx,H x=none->H dx=none->dx≠x->sp (.ref x::(vs++dvs)) (upd (upd H dx (.own x)) x (.ins C dx [])) (λv H2=>v=.bj/\Q (.ref x) H2) E):wpAny (model X.prog X.w) X.A (call (.ref C) us) (EP X pins σ Q) X.xe s:=by
 have hq:=h (s.heap.objs.size+1) s.heap.objs.size (I.aH.fresh (Nat.le_succ _)) (I.aH.fresh (Nat.le_refl _)) (Nat.ne_of_lt (Nat.lt_succ_self _))
 have I2:=Inv.made (C:=C) I
 have r2:Vals (V.ref (s.heap.objs.size+1)::(vs++dvs)) (Value.ref (s.heap.objs.size+1)::(us++ds)):=.cons rfl (r.append hd)
 have hl:(Value.ref (s.heap.objs.size+1)::us++ds).length=ps.length:=by
  have e:=r2.length
  rw[F.len _ _ _ _ hq] at e
  exact e.symm
 refine wpAny_call (F6 (f:=f) I.e7 M.makes M.init (beq_iff_eq.mp M.fn) (codeAny_mono (F.run _ X.stack _ _ ⟨Value.ref (s.heap.objs.size+1)::us,[]⟩ (Value.ref (s.heap.objs.size+1)::(us++ds)) _ _ E (hr.make C us []) (I2.vz.make C us []) (hb _ (Value.ref (s.heap.objs.size+1)::us) I2.e7 hl) r2 hq) λr s' hq'=>?_))
 cases r with
 |error e=>exact hx pins σ _ _ e s' I2 hq'
 |ok fl=>
  cases fl with
  |ret u=>
   obtain⟨v,H',I3,rv,ev,q3⟩:=I2.after hq'
   subst ev
   exact⟨rv,⟨V.ref (s.heap.objs.size+1),H',I3,rfl,q3⟩⟩
  |next=>exact False.elim hq'
  |brk=>exact False.elim hq'
  |cont=>exact False.elim hq'
theorem fD(M:Mk X.K C f)(F:aX X.prog X.w X.K X.mg X.base CX k f fd ps sp)(hr:cJ (k+1) X.A)(hg:Gl X x)(hm:X.mg x=some (.ref C))(hb:Binds X.K fd ps ds)(hd:Vals dvs ds)(hx:Passes CX X E)(ha:PA X (e::es) t)(hdb:(x==("__debug__":Str))=false:=by decide)(he:starEach (e::es) X.env=(false,eval e X.env)::starEach es X.env:=by rfl)(hpl:(backTo pos (starEach es X.env)).any (·.1)=false:=by rfl):PE X (.Call (.Name x p) (e::es) [] pos) (rN C sp dvs E t):=by
 intro pins s σ H Q I h
 refine wpAny_Call_Name_kw (lW I hg hm ?_ hdb)
 refine PySem.W.callWith_K (h₀:=X.base) I.ok.mod.lU M.kp (aJ (ha pos pins s σ H _ I h) λus s1⟨vs,H1,I1,r,q⟩=>⟨I1.e7,?_⟩) he hpl
 exact z4 M F hr hb hd hx I1 r q
theorem zb(M:Mk X.K C f)(F:aX X.prog X.w X.K X.mg X.base CX k f fd ps sp)(hr:cJ (k+1) X.A)(hg:Gl X x)(hm:X.mg x=some (.ref C))(hb:Binds X.K fd ps ds)(hd:Vals dvs ds)(hx:Passes CX X E)(hdb:(x==("__debug__":Str))=false:=by decide):PE X (.Call (.Name x p) [] [] pos) (rN C sp dvs E js):=by
 intro pins s σ H Q I h
 refine wpAny_Call_Name_kw (lW I hg hm ?_ hdb)
 exact PySem.W.callWith_K0 I.e7 M.kp (z4 (us:=[]) M F hr hb hd hx I .nil h)
end
structure aZ(N P:List Str)(sc:Scope):Prop where
 kind:sc.kind=.function
 co:sc.isCoroutine=false
 gen:sc.isGenerator=false
 nd:N.Nodup
 pre:N.take P.length=P
 par:∀x∈P,sc.names.lookup x=some .local\/sc.names.lookup x=some .cell
 G8:∀y∈sc.names,y.2≠.free
theorem sR{kindOf:Str->Option NameKind}{x:Str}:∀{binds:List (Str×Value)}{m:Str->Option Value},(∀v,(x,v)∉binds)->bindL kindOf binds m x=m x
 |[],_,_=>rfl
 |(n,v)::r,m,h=>by
  unfold bindL
  rw[sR λw hw=>h w (List.mem_cons_of_mem _ hw)]
  split
  .have:x≠n:=by rintro rfl;exact h v List.mem_cons_self
   simp[this]
  .rfl
theorem sP{kindOf:Str->Option NameKind}{x:Str}:∀{binds:List (Str×Value)}{m:Str->Option Value},(∀v,(x,v)∉binds)->bindC kindOf binds m x=m x
 |[],_,_=>rfl
 |(n,v)::r,m,h=>by
  unfold bindC
  rw[sP λw hw=>h w (List.mem_cons_of_mem _ hw)]
  split
  .rfl
  .have:x≠n:=by rintro rfl;exact h v List.mem_cons_self
   simp[this]
theorem sQ{kindOf:Str->Option NameKind}{x:Str}{v:Value}:∀{P:List Str}{vs:List Value}{i:Nat}{m:Str->Option Value},P.Nodup->P[i]? =some x->vs[i]? =some v->kindOf x=some .local->bindL kindOf (P.zip vs) m x=some v
 |[],_,_,_,_,h,_,_=>by simp at h
 |_::_,[],_,_,_,_,h,_=>by simp at h
 |p::P,w::vs,0,m,nd,h1,h2,hk=>by
  simp at h1 h2;subst h1;subst h2
  show bindL kindOf ((p,w)::P.zip vs) m p=_
  unfold bindL
  rw[sR λv hv=>(List.nodup_cons.mp nd).1 (List.of_mem_zip hv).1,if_pos hk]
  simp
 |p::P,w::vs,i+1,m,nd,h1,h2,hk=>by
  show bindL kindOf ((p,w)::P.zip vs) m x=_
  unfold bindL
  exact sQ (i:=i) (List.nodup_cons.mp nd).2 (by simpa using h1) (by simpa using h2) hk
theorem sO{kindOf:Str->Option NameKind}{x:Str}{v:Value}:∀{P:List Str}{vs:List Value}{i:Nat}{m:Str->Option Value},P.Nodup->P[i]? =some x->vs[i]? =some v->kindOf x≠some .local->bindC kindOf (P.zip vs) m x=some v
 |[],_,_,_,_,h,_,_=>by simp at h
 |_::_,[],_,_,_,_,h,_=>by simp at h
 |p::P,w::vs,0,m,nd,h1,h2,hk=>by
  simp at h1 h2;subst h1;subst h2
  show bindC kindOf ((p,w)::P.zip vs) m p=_
  unfold bindC
  rw[sP λv hv=>(List.nodup_cons.mp nd).1 (List.of_mem_zip hv).1,if_neg hk]
  simp
 |p::P,w::vs,i+1,m,nd,h1,h2,hk=>by
  show bindC kindOf ((p,w)::P.zip vs) m x=_
  unfold bindC
  exact sO (i:=i) (List.nodup_cons.mp nd).2 (by simpa using h1) (by simpa using h2) hk
def start(N:List Str)(vs:List V):St:=vs.map some++List.replicate (N.length -vs.length) none
def ij(CX:eV)(P:Program)(w:World)(K:PySem.W.Frag)(mg:Str->Option Value)(base:Heap)(N:List Str)(qual:Str)(scope:Scope)(f:Addr)(cd:Value)(A:Around)(outer:List Env)(s:Shared)(H:Hp)(E:XK):Cx where
 prog:=P
 w:=w
 K:=K
 mg:=mg
 base:=base
 A:=A.deeper (envOfC qual scope s.heap.objs.size f cd)
 N:=N
 c_:=s
 ia:=H
 env:=envOfC qual scope s.heap.objs.size f cd
 outer:=outer
 stack:=envOfC qual scope s.heap.objs.size f cd::outer
 ex:=[]
 calm:=true
 fn:=λ_=>true
 pn:=[]
 xe:=λe s'=>wpAny (model P w) (A.deeper (envOfC qual scope s.heap.objs.size f cd)) (leaving (envOfC qual scope s.heap.objs.size f cd) e) (λ_ s''=>CX outer H s E e s'') (λe' s''=>CX outer H s E e' s'') s'
theorem tj{sc:Scope}{n:Nat}{x:Str}(h:sc.names.lookup x=some .cell):∃c,(cellsFrom n sc.names []).lookup x=some c:=by
 have q:=PySem.W.cellsFrom_some sc.names n [] (.inl h)
 exact Option.isSome_iff_exists.mp q
theorem EF{CX:eV}{P:Program}{w:World}{K:PySem.W.Frag}{mg:Str->Option Value}{base:Heap}{N ps:List Str}{qual:Str}{scope:Scope}{f:Addr}{cd:Value}{A:Around}{outer:List Env}{s s1:Shared}{H:Hp}{E:XK}{us:List Value}{vs:List V}(S:aZ N ps scope)(hd:A.handled=none)(e0:h_ P w K mg base A outer s H)(hl:vs.length=ps.length)(r:Vals vs us)(x:InCallC s s.heap.objs.size (bindL (envOfC qual scope s.heap.objs.size f cd).kindOf (ps.zip us) λ_=>none) (cellsFrom (s.heap.objs.size+1) scope.names []) (bindC (envOfC qual scope s.heap.objs.size f cd).kindOf (ps.zip us) λ_=>none) s1):Inv (ij CX P w K mg base N qual scope f cd A outer s H E) [] (start N vs) H s1:=by
 have hpl:ps.length<=N.length:=by have:=congrArg List.length S.pre;rw[List.length_take] at this;omega
 obtain⟨h1,tk,rfl,hk⟩:=x.done
 have noA:∀b:Addr,b∉(ij CX P w K mg base N qual scope f cd A outer s H E).ex:=λb z=>absurd (show b∈([]:List Addr) from z) (by simp)
 refine⟨⟨e0.mod,S.kind,rfl,rfl,Nat.le_refl _,λy z c h1 h2=>?_,λy hy=>?_,λy c _ h=>?_,λ_=>hd,Around.frames_deeper e0.frames,.inr ⟨rfl,rfl⟩,λb z=>absurd z (noA b),e0.bs,e0.fM,λb _ _=>noA b,λb z=>absurd z (noA b),e0.eZ,e0.ir⟩,rfl,e0.bare,Un.kept hk,⟨_,x.toInCall.ns,λi y v h1 h2 h3=>?_⟩,λy c h=>⟨_,x.cell y c h⟩,e0.aH.fresh (Nat.le_refl _),λy c h=>?_,λp hp=>absurd (show p∈([]:List (Addr×Obj)) from hp) (by simp),e0.aH.kept hk,?_⟩
 .exact name_of_addr x.apart (PySem.mem_of_lookup h1) (PySem.mem_of_lookup h2)
 .have hy:scope.names.lookup y=some .cell\/scope.names.lookup y=some .free:=hy
  rcases hy with hy|hy
  .exact tj hy
  .exact absurd rfl (S.G8 _ (PySem.mem_of_lookup hy))
 .exact Nat.le_of_lt (x.above y c (PySem.mem_of_lookup h))
 .have hi:i<vs.length:=by
   unfold start at h2
   by_cases hi:i<vs.length
   .exact hi
   .rw[List.getElem?_append_right (by simpa using hi)] at h2
    rw[List.getElem?_replicate] at h2
    split at h2<;>cases h2
  have ha:vs[i]? =some v:=by
   unfold start at h2
   rw[List.getElem?_append_left (by simpa using hi),List.getElem?_map] at h2
   cases e:vs[i]? with
   |none=>rw[e] at h2;cases h2
   |some a=>rw[e] at h2;cases h2;rfl
  obtain⟨u,hu,rv⟩:=r.get ha
  have hp:ps[i]? =some y:=by
   rw[<-S.pre,List.getElem?_take_of_lt (by omega)];exact h1
  have ndP:ps.Nodup:=by rw[<-S.pre];exact S.nd.sublist (List.take_sublist _ _)
  refine⟨u,rv,?_⟩
  rcases S.par y (List.mem_of_getElem? hp) with k|k
  .exact .inl ⟨k,sQ ndP hp hu k⟩
  .obtain⟨c,e⟩:=tj (n:=s.heap.objs.size+1) k
   refine .inr ⟨.inl k,c,e,?_⟩
   have q:=x.cell y c e
   rw[sO ndP hp hu (by show scope.names.lookup y≠_;rw[k];decide)] at q
   exact q
 .exact e0.aH.fresh (Nat.le_of_lt (x.above y c (PySem.mem_of_lookup h)))
 .unfold start
  show _=N.length
  rw[List.length_append,List.length_map,List.length_replicate]
  omega
theorem D9{CX:eV}{P:Program}{w:World}{K:PySem.W.Frag}{mg:Str->Option Value}{base:Heap}{k:Nat}{f:Addr}{name qual:Str}{params:Arguments}{body:List Stmt}{scope:Scope}{dV kV doc pm cdv ct oc:Value}{an od:Option Addr}{osl:Array (Option Value)}{N ps:List Str}{sp:Sp}(lk:K.lookup f=some ⟨oc,od,.func (PySem.W.fnOf name qual params body scope dV kV doc pm an cdv ct),osl⟩)(hcd:PySem.W.codeIn K cdv qual=true)(S:aZ N ps scope)(len:∀vs H Q E,sp vs H Q E->vs.length=ps.length)(hbody:∀(A:Around)(outer:List Env)(s:Shared)(H:Hp)(vs:List V)(Q:VK)(E:XK),cJ k (A.deeper (envOfC qual scope s.heap.objs.size f cdv))->sp vs H Q E->∃t,eG (ij CX P w K mg base N qual scope f cdv A outer s H E) body t/\t {nx:=λ_ H'=>Q .bj H',rt:=Q} (start N vs) H):aX P w K mg base CX (k+1) f (PySem.W.fnOf name qual params body scope dV kV doc pm an cdv ct) ps sp:=by
 refine⟨len,λA outer s H args us vs Q E hr e0 hb r hsp=>?_⟩
 have hl:=len _ _ _ _ hsp
 have KX:K.In s.heap:=e0.mod.lU.keeps λb o e=>(e0.bs b o e).1
 have lim:s.heap.NoLimit:=e0.mod.nolimit.keeps λb o e=>(e0.bs b o e).1
 have hkind:∀y∈ps.zip us,scope.names.lookup y.1=some .local\/(scope.names.lookup y.1=some .cell/\((cellsFrom (s.heap.objs.size+1) scope.names []).lookup y.1).isSome=true):=λ⟨n,v⟩hy=>by
  rcases S.par n (List.of_mem_zip hy).1 with q|q
  .exact .inl q
  .exact .inr ⟨q,PySem.W.cellsFrom_some _ _ _ (.inl q)⟩
 refine codeAny_call_function hr.depth (KX _ _ lk) rfl S.co S.gen rfl (PySem.W.codeRec_of KX hcd) (hb _ _ _ _ ?_)
 refine wpAny_newFunctionEnv_cells S.kind hkind λenv he s1 x=>?_
 subst he
 refine⟨lim.keeps x.toInCall.keep,codeAny_func ?_⟩
 obtain⟨t,ht,hq⟩:=hbody A outer s H vs Q E (hr.deeper _) hsp
 have I:Inv (ij CX P w K mg base N qual scope f cdv A outer s H E) [] (start N vs) H s1:=EF S hr.hd e0 hl r x
 refine wpAny_mono (ht [] s1 (start N vs) H _ I hq) (λfl s' hs=>?_) λe s' hs=>hs
 have fin:∀{σ':St}{H':Hp}{v:V}{u:Value},Inv (ij CX P w K mg base N qual scope f cdv A outer s H E) [] σ' H' s'->RelV v u->Q v H'->CE outer P w H s Q u s':=
  λ{σ' H' v u}J rv q=>⟨v,H',J.os,J.bare,J.base,J.aH,rv,q⟩
 cases fl with
 |ret u=>
  obtain⟨v,σ',H',J,rv,q⟩:=hs
  exact fin J rv q
 |next=>
  obtain⟨σ',H',J,q⟩:=hs
  exact fin (v:=V.bj) (u:=Value.none) J rfl q
 |brk=>
  obtain⟨_,_,_,q⟩:=hs
  exact False.elim q
 |cont=>
  obtain⟨_,_,_,q⟩:=hs
  exact False.elim q
end L2
namespace L2
open PySem PySem.Spec PyProof.Rows
section
variable{X:Cx}{x:Str}{p pos:Pos}{e:Expr}{es:List Expr}{t:TA}{id T:String}{r:List V->Hp->VK->Prop}
def rM(r:List V->Hp->VK->Prop)(t:TA):TE:=λσ H Q=>t σ H λvs H1=>r vs H1 Q
theorem bW(hc:fg X (.builtin id) r)(hg:Gl X x)(hm:X.mg x=none)(hv:bootBuiltins x=some (.builtin id))(ha:PA X (e::es) t)(hn:x≠"__name__":=by decide)(hdb:(x==("__debug__":Str))=false:=by decide)(he:starEach (e::es) X.env=(false,eval e X.env)::starEach es X.env:=by rfl)(hpl:(backTo pos (starEach es X.env)).any (·.1)=false:=by rfl):PE X (.Call (.Name x p) (e::es) [] pos) (rM r t):=by
 intro pins s σ H Q I h
 refine wpAny_Call_Name_kw (iw I hg hm hv ?_ hn hdb)
 exact PyProof.Rows.callWith_builtin1 (aJ (ha pos pins s σ H _ I h) λus s1⟨vs,H1,I1,r1,q1⟩=>hc pins s1 σ H1 vs us Q I1 r1 q1) he hpl
theorem mj(hc:fg X (.type T) r)(hg:Gl X x)(hm:X.mg x=none)(hv:bootBuiltins x=some (.type T))(ha:PA X (e::es) t)(hn:x≠"__name__":=by decide)(hdb:(x==("__debug__":Str))=false:=by decide)(he:starEach (e::es) X.env=(false,eval e X.env)::starEach es X.env:=by rfl)(hpl:(backTo pos (starEach es X.env)).any (·.1)=false:=by rfl):PE X (.Call (.Name x p) (e::es) [] pos) (rM r t):=by
 intro pins s σ H Q I h
 refine wpAny_Call_Name_kw (iw I hg hm hv ?_ hn hdb)
 exact PyProof.Rows.callWith_type1 (aJ (ha pos pins s σ H _ I h) λus s1⟨vs,H1,I1,r1,q1⟩=>hc pins s1 σ H1 vs us Q I1 r1 q1) he hpl
end
end L2
namespace HT
open PySem PyProof.Rows
section
open PySem.SeqAt
open PySem.AutoSeq1 (wpAny_loadPart')
open PySem.MeetsSeq PySem.MeetsSeq2 PySem.MeetsSeq3
end
section
variable{prog:Program}{w:World}{A:Around}{E:Value->Shared->Prop}{s:Shared}
def di(n d:Nat):Option Int->Nat
 |none=>d
 |some v=>if v<0 then(v+(n:Int)).toNat else min v.toNat n
end
end HT
namespace L2
open PySem PySem.Spec PyProof.Rows
abbrev TO:=St->Hp->(Option Int->Hp->Prop)->Prop
def PO(X:Cx)(e:Option Expr)(t:TO):Prop:=
 ∀(pins:List (Addr×Obj))(s:Shared)(σ:St)(H:Hp)(Q:Option Int->Hp->Prop),Inv X pins σ H s->t σ H Q->wpAny (model X.prog X.w) X.A (evalPart e X.env) (λu s'=>∃o H',Inv X pins σ H' s'/\IsPart u o/\Q o H') X.xe s
def MC(t:TE):TO:=λσ H Q=>t σ H λx H1=>∃i,x=.int i/\Q (some i) H1
section
variable{X:Cx}{e:Expr}{te:TE}{lo hi:Option Expr}{tl th:TO}{pos p2:Pos}
theorem zl(h:PE X e te):PO X (some e) (MC te):=by
 intro pins s σ H Q I hw
 rw[evalPart_some]
 refine aJ (h pins s σ H _ I hw) λu s1⟨x,H1,I1,r1,q1⟩=>?_
 obtain⟨i,rfl,q⟩:=q1
 obtain⟨t,rfl⟩:=r1
 exact⟨some i,H1,I1,.int i t,q⟩
def sf(X:Cx)(r:V->Option Int->Option Int->Hp->VK->Prop):Prop:=
 ∀(pins:List (Addr×Obj))(s:Shared)(σ:St)(H:Hp)(x:V)(v vl vu:Value)(lo hi:Option Int)(sl:Addr)(Q:VK),Inv X pins σ H s->RelV x v->s.heap.IsSliceOf sl vl vu .none->IsPart vl lo->IsPart vu hi->r x lo hi H Q->∃T id,typeLookup (.type T) "__getitem__"=pure (some (.builtin id))/\s.TypeIs v T/\wpAny (model X.prog X.w) X.A (getItem v (.ref sl)) (EP X pins σ Q) X.xe s
def ME(r:V->Option Int->Option Int->Hp->VK->Prop)(te:TE)(tl th:TO):TE:=λσ H Q=>te σ H λx H1=>tl σ H1 λl H2=>th σ H2 λu H3=>r x l u H3 Q
theorem II{r:V->Option Int->Option Int->Hp->VK->Prop}(hr:sf X r)(he:PE X e te)(hl:PO X lo tl)(hu:PO X hi th):PE X (.Subscript e (.Slice lo hi none p2) pos) (ME r te tl th):=by
 intro pins s σ H Q I h
 refine Subscript_ (aJ (he pins s σ H _ I h) λv s1⟨x,H1,I1,r1,q1⟩=>?_)
 refine wpAny_Slice (aJ (hl pins s1 σ H1 _ I1 q1) λvl s2⟨l,H2,I2,pl,q2⟩=>aJ (hu pins s2 σ H2 _ I2 q2) λvu s3⟨u,H3,I3,pu,q3⟩=>?_)
 rw[evalPart_none]
 refine wpAny_pure ?_
 have I4:Inv X pins σ H3 {s3 with heap:=s3.heap.push {cls:=.type "slice",data:=.fields #[vl,vu,.none]} }:=I3.kept (t':=s3.toks) λb ob q=>Heap.get?_push_of_some _ q
 obtain⟨T,id,hT,ht,hg⟩:=hr pins {s3 with heap:=s3.heap.push {cls:=.type "slice",data:=.fields #[vl,vu,.none]} } σ H3 x v vl vu l u s3.heap.objs.size Q I4 r1 (Heap.IsSliceOf.new ..) pl pu q3
 show wpAny (model X.prog X.w) X.A (subscriptTail e (.Slice lo hi none p2) v (.ref s3.heap.objs.size)) (EP X pins σ Q) X.xe {s3 with heap:=s3.heap.push {cls:=.type "slice",data:=.fields #[vl,vu,.none]} }
 exact tail_any (ops:=[.ref s3.heap.objs.size,v]) ht hT hg (by with_unfolding_all rfl)
def i3(xs:List V)(lo hi:Option Int):List V:=(xs.drop (HT.di xs.length 0 lo)).take (HT.di xs.length xs.length hi -HT.di xs.length 0 lo)
theorem DG(xs:List V)(lo hi:Option Int):(i3 xs lo hi).length<=xs.length:=by
 unfold i3
 rw[List.length_take,List.length_drop]
 omega
end
end L2
namespace L2
open PySem PySem.Spec PyProof.Rows
def eN(n:Nat)(i:Int):Option Nat:=if 0<=i then(if i<n then some i.toNat else none) else if -(n:Int)<=i then some (i+n).toNat else none
def bY{α:Type}(xs:List α)(i:Int):Option α:=(eN xs.length i).bind λj=>xs[j]?
theorem xV{n:Nat}{i:Int}{j:Nat}(h:eN n i=some j):seqIndex? i n=some j/\j<n/\ -(n:Int)<=i/\i<n:=by
 unfold eN at h
 by_cases h0:0<=i
 .rw[if_pos h0] at h
  by_cases h1:i<n
  .rw[if_pos h1] at h
   have e:i.toNat=j:=Option.some.inj h
   exact⟨by rw[seqIndex_of h0 h1,e],by omega,by omega,h1⟩
  .rw[if_neg h1] at h;cases h
 .rw[if_neg h0] at h
  by_cases h1: -(n:Int)<=i
  .rw[if_pos h1] at h
   have e:(i+n).toNat=j:=Option.some.inj h
   exact⟨by rw[seqIndex_neg (by omega) h1,e],by omega,h1,by omega⟩
  .rw[if_neg h1] at h;cases h
theorem sI{α:Type}{xs:List α}{i:Int}{v:α}(h:bY xs i=some v):∃j,seqIndex? i xs.length=some j/\xs[j]? =some v/\j<xs.length/\ -(xs.length:Int)<=i/\i<xs.length:=by
 unfold bY at h
 cases e:eN xs.length i with
 |none=>rw[e] at h;cases h
 |some j=>
  rw[e] at h
  obtain⟨h1,h2,h3,h4⟩:=xV e
  exact⟨j,h1,h,h2,h3,h4⟩
theorem cS{α:Type}{xs:List α}{j:Nat}{v:α}(h:xs[j]? =some v):bY xs (j:Int)=some v:=by
 have hj:j<xs.length:=(List.getElem?_eq_some_iff.mp h).1
 have e:eN xs.length (j:Int)=some j:=by
  unfold eN
  rw[if_pos (by omega),if_pos (by omega)];simp
 unfold bY;rw[e];exact h
def Cn(b:Expr):Prop:=∀o i,subscripted b false o i=operate [o,i] (getItem o i)
def kY(X:Cx)(r:R2):Prop:=
 ∀(value slice:Expr)(pins:List (Addr×Obj))(s:Shared)(σ:St)(H:Hp)(x y:V)(v u:Value)(Q:VK),Inv X pins σ H s->RelV x v->RelV y u->r x y H Q->subscripted slice false v u=operate [v,u] (getItem v u)->wpAny (model X.prog X.w) X.A (subscriptTail value slice v u) (EP X pins σ Q) X.xe s
def Cm(X:Cx)(id:String)(r:V->List V->Hp->VK->Prop):Prop:=
 ∀(pins:List (Addr×Obj))(s:Shared)(σ:St)(H:Hp)(x:V)(xs:List V)(v:Value)(us:List Value)(Q:VK),Inv X pins σ H s->RelV x v->Vals xs us->r x xs H Q->wpAny (model X.prog X.w) X.A (call (.builtin id) (v::us)) (EP X pins σ Q) X.xe s
section
variable{X:Cx}{a b:Expr}{ta tb:TE}{pos:Pos}
theorem aO{r:R2}(hr:kY X r)(ha:PE X a ta)(hb:PE X b tb)(hs:Cn b):PE X (.Subscript a b pos) (jt r ta tb):=by
 intro pins s σ H Q I h
 exact Subscript_ (nz ha hb I h λv u s2 x y H2 I2 rx ry q=>hr a b pins s2 σ H2 x y v u Q I2 rx ry q (hs _ _))
def zM(K:PySem.W.Frag):R2:=λx y H Q=>∃p xs i v,x=.ref p/\y=.int i/\ax K H p xs/\bY xs i=some v/\Q v H
def Jp(K:PySem.W.Frag):R2:=λx y H Q=>∃p xs i v,x=.ref p/\y=.int i/\dk K H p xs/\bY xs i=some v/\Q v H
theorem bq:kY X (zM X.K):=by
 intro value slice pins s σ H x y v u Q I rx ry h hs
 obtain⟨p,xs,i,z,rfl,rfl,hq,he,q⟩:=h
 cases rx
 obtain⟨t,rfl⟩:=ry
 obtain⟨its,r,pl,hz⟩:=I.list hq
 obtain⟨j,h1,h2,h3,h4,h5⟩:=sI he
 obtain⟨w,ew,rw'⟩:=r.get h2
 have hl:=r.length
 have hn:=kg
 have fin:EP X pins σ Q w s:=⟨z,H,I,rw',q⟩
 by_cases h0:0<=i
 .have hj:i.toNat=j:=by
   rw[seqIndex_of h0 h5] at h1
   exact Option.some.inj h1
  exact item_listR pl.isList h0 (by omega) (by rw[hj];simpa using ew) fin hs
 .have hj:(i+(its.toArray.size:Int)).toNat=j:=by
   rw[seqIndex_neg (by omega) h4] at h1
   rw[List.size_toArray,<-hl]
   exact Option.some.inj h1
  exact subscriptTail_builtinR (x:=w) pl.isList.typeIs slot_list_getitem.lookup (wpAny_getItem_list_neg (Q:=λr s'=>r=w/\EP X pins σ Q r s') pl.isList (by omega) (by rw[List.size_toArray]<;>omega) (by omega) (by rw[hj];simpa using ew) ⟨rfl,fin⟩) hs
theorem EI:kY X (Jp X.K):=by
 intro value slice pins s σ H x y v u Q I rx ry h hs
 obtain⟨p,xs,i,z,rfl,rfl,hq,he,q⟩:=h
 cases rx
 obtain⟨t,rfl⟩:=ry
 obtain⟨its,r,pl,hz⟩:=I.tuple hq
 obtain⟨j,h1,h2,h3,h4,h5⟩:=sI he
 obtain⟨w,ew,rw'⟩:=r.get h2
 have hl:=r.length
 have hn:=kg
 have fin:EP X pins σ Q w s:=⟨z,H,I,rw',q⟩
 exact subscriptTail_builtinR (x:=w) pl.typeIs slot_tuple_getitem.lookup (getItem_tuple (j:=j) (Q:=λr s'=>r=w/\EP X pins σ Q r s') pl (by omega) (by omega) (by rw[List.size_toArray,<-hl];exact h1) (by simpa using ew) ⟨rfl,fin⟩) hs
theorem F8(its:List Value)(n j:Nat)(u:Value):Obj.mapSeq (·.setIfInBounds j u) {cls:=.type "list",data:=.seq its.toArray n}={cls:=.type "list",data:=.seq (its.set j u).toArray n}:=by
 simp[Obj.mapSeq]
theorem Inv.lst{pins:List (Addr×Obj)}{σ:St}{H:Hp}{s:Shared}{p:Addr}{xs:List V}(I:Inv X pins σ H s)(h:H p=some (.lst xs)):∃(its:List Value)(n:Nat),Vals xs its/\s.heap.get? p=some {cls:=.type "list",data:=.seq its.toArray n}/\xs.length<=sizeLine:=by
 obtain⟨z,its,n,r,e⟩:=I.aH p _ h
 exact⟨its,n,r,e,z⟩
theorem Inv.FZ{pins:List (Addr×Obj)}{σ:St}{H:Hp}{s:Shared}{p:Addr}{xs ys:List V}{its its':List Value}{n n':Nat}{f:Obj->Obj}(I:Inv X pins σ H s)(h:H p=some (.lst xs))(ho:s.heap.get? p=some {cls:=.type "list",data:=.seq its.toArray n})(hf:f {cls:=.type "list",data:=.seq its.toArray n}={cls:=.type "list",data:=.seq its'.toArray n'})(r:Vals ys its')(hz:ys.length<=sizeLine)(t:Nat):Inv X pins σ (upd H p (.lst ys)) {s with heap:=s.heap.update p f,toks:=t}:=by
 have e:(s.heap.update p f).get? p=some {cls:=.type "list",data:=.seq its'.toArray n'}:=by
  rw[Heap.get?_update_self f ho (by rw[hf]<;>rfl),hf]
 refine I.write (x:=p) (e:=p) (by rw[h];trivial) (.inl rfl) (λb u hb q=>(Heap.get?_update_other _ _ (Ne.symm hb)).trans q) ⟨_,e⟩ ?_
 exact⟨hz,its',n',r,e⟩
def zP:V->V->V->Hp->(Hp->Prop)->Prop:=λo i v H Q=>∃p xs k j,o=.ref p/\i=.int k/\H p=some (.lst xs)/\eN xs.length k=some j/\Q (upd H p (.lst (xs.set j v)))
theorem set_list:nk X zP:=by
 intro pins s σ H o i v ov iv u Q I ro ri rv h
 obtain⟨p,xs,k,j,rfl,rfl,hp,hj,q⟩:=h
 cases ro
 obtain⟨t,rfl⟩:=ri
 obtain⟨its,n,r,ho,hz⟩:=I.lst hp
 obtain⟨h1,h2,h3,h4⟩:=xV hj
 have hl:=r.length
 have hn:=kg
 have I':Inv X pins σ (upd H p (.lst (xs.set j v))) {s with heap:=s.heap.update p (Obj.mapSeq (·.setIfInBounds j u))}:=
  I.FZ hp ho (F8 its n j u) (r.set rv j) (by rw[List.length_set];exact hz) s.toks
 by_cases h0:0<=k
 .have hk:k.toNat=j:=by
   rw[seqIndex_of h0 h4] at h1
   exact Option.some.inj h1
  exact PySem.W.ki_setAt ho h0 (by omega) (by rw[List.size_toArray,<-hl];exact h4) (by rw[hk];exact⟨_,I',q⟩)
 .have hk:(k+(its.toArray.size:Int)).toNat=j:=by
   rw[seqIndex_neg (by omega) h3] at h1
   rw[List.size_toArray,<-hl]
   exact Option.some.inj h1
  exact PySem.W.ki_setBack ho (by omega) (by rw[List.size_toArray,<-hl];exact h3) (by omega) (by rw[hk];exact⟨_,I',q⟩)
theorem Lj(lo hi:Option Int)(n:Nat):(sliceBounds lo hi none n).1=((HT.di n 0 lo:Nat):Int)/\(sliceBounds lo hi none n).2.1=((HT.di n n hi:Nat):Int)/\(sliceBounds lo hi none n).2.2=1:=by
 refine⟨?_,?_,rfl⟩
 .cases lo with
  |none=>simp[sliceBounds,HT.di]
  |some i=>
   simp only[sliceBounds,HT.di,Option.getD_none,show(1:Int)>0 by decide,if_true]
   by_cases h:i<0
   .simp only[h,if_true]<;>omega
   .simp only[h,if_false]<;>omega
 .cases hi with
  |none=>simp[sliceBounds,HT.di]
  |some i=>
   simp only[sliceBounds,HT.di,Option.getD_none,show(1:Int)>0 by decide,if_true]
   by_cases h:i<0
   .simp only[h,if_true]<;>omega
   .simp only[h,if_false]<;>omega
theorem Li(its:List Value)(lo hi:Option Int):slicePick its.toArray lo hi none=((its.drop (HT.di its.length 0 lo)).take (HT.di its.length its.length hi -HT.di its.length 0 lo)).toArray:=by
 obtain⟨h1,h2,h3⟩:=Lj lo hi its.toArray.size
 unfold slicePick
 rw[h1,h2,h3]
 simp only[sliceRange_one,pick_run,List.size_toArray]<;>rfl
def Jq(K:PySem.W.Frag):V->Option Int->Option Int->Hp->VK->Prop:=λx lo hi H Q=>∃a xs,x=.ref a/\ax K H a xs/\∀p,H p=none->Q (.ref p) (upd H p (.lst (i3 xs lo hi)))
theorem Lh:sf X (Jq X.K):=by
 intro pins s σ H x v vl vu lo hi sl Q I rx hs pl pu h
 obtain⟨a,xs,rfl,hx,q⟩:=h
 cases rx
 obtain⟨its,r,ht,hz⟩:=I.list hx
 have hlen:=r.length
 refine⟨"list",_,slot_list_getitem.lookup,ht.isList.typeIs,?_⟩
 refine wpAny_getItem_list_slice ht.isList hs pl pu .none (by simp) ?_ (by rw[List.size_toArray]<;>omega)
 rw[Li,<-hlen]
 refine⟨.ref s.heap.objs.size,_,I.laid (t':=s.toks) (o:=.lst (i3 xs lo hi)) (λb ob q=>Heap.get?_push_of_some _ q) (Nat.le_refl _) ?_,rfl,q _ (I.aH.fresh (Nat.le_refl _))⟩
 exact⟨Nat.le_trans (DG xs lo hi) hz,_,0,(r.drop (HT.di xs.length 0 lo)).take (HT.di xs.length xs.length hi -HT.di xs.length 0 lo),Heap.get?_push_size _ rfl⟩
def gS:V->Bool
 |.bj=>true
 |.bl _=>true
 |.int _=>true
 |.str _=>true
 |_=>false
def fP:V->V->Bool
 |.bj,.bj=>true
 |.bl a,.bl b=>a==b
 |.bl a,.int b=>(if a then 1 else 0)==b
 |.int a,.bl b=>a==(if b then 1 else 0)
 |.int a,.int b=>a==b
 |.str a,.str b=>a==b
 |_,_=>false
theorem D5{A:Around}{s:Shared}{y x:V}{u v:Value}(ry:RelV y u)(rx:RelV x v)(fy:gS y=true)(fx:gS x=true):SeqAt.EqAt A s u v (fP y x):=by
 cases y with
 |bj=>
  cases ry
  cases x with
  |bj=>cases rx;exact SeqAt.EqAt.same _
  |bl b=>cases rx;exact SeqAt.EqAt.none_bool b
  |int b=>obtain⟨t,rfl⟩:=rx;exact SeqAt.EqAt.none_int b t
  |str b=>obtain⟨t,rfl⟩:=rx;exact SeqAt.EqAt.none_str b t
  |_=>exact absurd (show false=true from fx) Bool.false_ne_true
 |bl a=>
  cases ry
  cases x with
  |bj=>cases rx;exact SeqAt.EqAt.bool_none a
  |bl b=>cases rx;exact SeqAt.EqAt.bool_bool a b
  |int b=>obtain⟨t,rfl⟩:=rx;exact SeqAt.EqAt.bool_int a b t
  |str b=>obtain⟨t,rfl⟩:=rx;exact SeqAt.EqAt.bool_str a b t
  |_=>exact absurd (show false=true from fx) Bool.false_ne_true
 |int a=>
  obtain⟨t',rfl⟩:=ry
  cases x with
  |bj=>cases rx;exact SeqAt.EqAt.int_none a t'
  |bl b=>cases rx;exact SeqAt.EqAt.int_bool a t' b
  |int b=>obtain⟨t,rfl⟩:=rx;exact SeqAt.EqAt.int_int a t' b t
  |str b=>obtain⟨t,rfl⟩:=rx;exact SeqAt.EqAt.int_str a t' b t
  |_=>exact absurd (show false=true from fx) Bool.false_ne_true
 |str a=>
  obtain⟨t',rfl⟩:=ry
  cases x with
  |bj=>cases rx;exact SeqAt.EqAt.str_none a t'
  |bl b=>cases rx;exact SeqAt.EqAt.str_bool a t' b
  |int b=>obtain⟨t,rfl⟩:=rx;exact SeqAt.EqAt.str_int a t' b t
  |str b=>obtain⟨t,rfl⟩:=rx;exact SeqAt.EqAt.str_str a t' b t
  |_=>exact absurd (show false=true from fx) Bool.false_ne_true
 |_=>exact absurd (show false=true from fy) Bool.false_ne_true
def gi(x:V)(u:Value):Bool:=match u with
 |.none=>fP .bj x
 |.bool b=>fP (.bl b) x
 |.int i _=>fP (.int i) x
 |.str z _=>fP (.str z) x
 |_=>false
theorem vA{x y:V}{u:Value}(r:RelV y u)(f:gS y=true):gi x u=fP y x:=by
 cases y with
 |bj=>cases r;rfl
 |bl b=>cases r;rfl
 |int i=>obtain⟨t,rfl⟩:=r;rfl
 |str z=>obtain⟨t,rfl⟩:=r;rfl
 |_=>exact absurd (show false=true from f) Bool.false_ne_true
theorem nu{x:V}:∀{xs:List V}{us:List Value},Vals xs us->xs.all gS=true->us.any (gi x)=xs.any λy=>fP y x
 |_,_,.nil,_=>rfl
 |y::xs,u::us,.cons r t,f=>by
  rw[List.all_cons,Bool.and_eq_true] at f
  rw[List.any_cons,List.any_cons,vA r f.1,nu t f.2]
theorem oG{A:Around}{s:Shared}{x:V}{v:Value}(rx:RelV x v)(fx:gS x=true):∀{xs:List V}{us:List Value},Vals xs us->xs.all gS=true->∀u∈us,SeqAt.EqAt A s u v (gi x u)
 |_,_,.nil,_=>λu hu=>by cases hu
 |y::xs,u::us,.cons r t,f=>λu' hu=>by
  rw[List.all_cons,Bool.and_eq_true] at f
  rcases List.mem_cons.mp hu with rfl|hu
  .rw[vA r f.1];exact D5 r rx f.1 fx
  .exact oG rx fx t f.2 u' hu
def lN(x:V)(xs:List V):Bool:=xs.any λy=>fP y x
def Jn(K:PySem.W.Frag)(neg:Bool):R2:=λx y H Q=>∃p xs,y=.ref p/\(ax K H p xs\/dk K H p xs)/\gS x=true/\xs.all gS=true/\Q (.bl (if neg then !lN x xs else lN x xs)) H
theorem yU:bR X (compareOp .In) (Jn X.K false):=by
 intro pins s σ H x y v u Q I rx ry h
 obtain⟨p,xs,rfl,hq,fx,fs,q⟩:=h
 cases ry
 rcases hq with hq|hq
 .obtain⟨its,r,pl,hz⟩:=I.list hq
  refine SeqAt.in_listAt (gi x) pl.isList (λw hw=>oG rx fx r fs w (by simpa using hw)) ⟨.bl _,H,I,rfl,?_⟩
  rw[show its.toArray.any (gi x)=its.any (gi x) by simp,nu r fs]
  exact q
 .obtain⟨its,r,pl,hz⟩:=I.tuple hq
  refine SeqAt.in_tupleAt (gi x) pl (λw hw=>oG rx fx r fs w (by simpa using hw)) ⟨.bl _,H,I,rfl,?_⟩
  rw[show its.toArray.any (gi x)=its.any (gi x) by simp,nu r fs]
  exact q
theorem sZ:fg X (.builtin "len") (λxs H Q=>∃p ys,xs=[.ref p]/\(ax X.K H p ys\/dk X.K H p ys)/\Q (.int ys.length) H):=by
 intro pins s σ H xs us Q I r h
 obtain⟨p,ys,rfl,hq,q⟩:=h
 obtain⟨u,rfl,rx⟩:=vals1 r
 cases rx
 have hn:=kg
 rcases hq with hq|hq
 .obtain⟨its,r',pl,hz⟩:=I.list hq
  have hlen:=r'.length
  exact Calls.call_len_list pl.isList (by simp only[List.size_toArray]<;>omega) ⟨.int ys.length,H,I.tok _,⟨s.toks+1,by rw[List.size_toArray,hlen]⟩,q⟩
 .obtain⟨its,r',pl,hz⟩:=I.tuple hq
  have hlen:=r'.length
  exact len_tuple pl (by simp only[List.size_toArray]<;>omega) ⟨.int ys.length,H,I.tok _,⟨s.toks+1,by rw[List.size_toArray,hlen]⟩,q⟩
def mZ(K:PySem.W.Frag)(T:String)(x:V)(H:Hp):Prop:=match x with
 |.str _=>T="str"
 |.int _=>T="int"
 |.ref p=>(T="list"/\∃xs,ax K H p xs)\/(T="tuple"/\∃o,K.lookup p=some o/\o.cls=.type "tuple"/\o.dict=none)\/(T="dict"/\((∃kvs,H p=some (.dK kvs))\/∃kvs,H p=some (.dT kvs)))\/(T="set"/\∃S n,H p=some (.set S n))
 |_=>False
theorem MM{pins:List (Addr×Obj)}{σ:St}{H:Hp}{s:Shared}{T:String}{x:V}{v:Value}(I:Inv X pins σ H s)(r:RelV x v)(ty:mZ X.K T x H):s.TypeIs v T/\∀a,v=.ref a->∃ob,s.heap.get? a=some ob/\ob.dict=none:=by
 cases x with
 |str z=>
  obtain⟨t,rfl⟩:=r
  cases(show T="str" from ty)
  exact⟨typeIs_str s z t,λ_ e=>nomatch e⟩
 |int i=>
  obtain⟨t,rfl⟩:=r
  cases(show T="int" from ty)
  exact⟨typeIs_int s i t,λ_ e=>nomatch e⟩
 |ref p=>
  cases r
  rcases ty with⟨rfl,xs,hq⟩|⟨rfl,o,hk,hc,hd⟩|⟨rfl,hk⟩|⟨rfl,S,n,hk⟩
  .obtain⟨its,_,pl,_⟩:=I.list hq
   refine⟨pl.isList.typeIs,λa e=>?_⟩
   cases e
   obtain⟨o,n,e,c,hd,_⟩:=pl
   exact⟨o,e,hd⟩
  .refine⟨⟨o,I.e7 p o hk,hc⟩,λa e=>?_⟩
   cases e
   exact⟨o,I.e7 _ o hk,hd⟩
  .have z:∃o,s.heap.get? p=some o/\o.ExactDict:=by
    rcases hk with⟨kvs,hk⟩|⟨kvs,hk⟩
    .obtain⟨_,_,_,_,o,_,_,e,ex,_⟩:=I.aH p _ hk
     exact⟨o,e,ex⟩
    .obtain⟨_,_,_,_,o,_,_,e,ex,_⟩:=I.aH p _ hk
     exact⟨o,e,ex⟩
   obtain⟨o,e,ex⟩:=z
   refine⟨⟨o,e,ex.1⟩,λa e2=>?_⟩
   cases e2
   exact⟨o,e,ex.2.1⟩
  .obtain⟨o,_,_,_,e,ex,_⟩:=I.aH p _ hk
   refine⟨⟨o,e,ex.1⟩,λa e2=>?_⟩
   cases e2
   exact⟨o,e,ex.2.1⟩
 |_=>exact False.elim ty
def AG(K:PySem.W.Frag)(T:String)(r:V->List V->Hp->VK->Prop)(to:TE)(t:TA):TE:=λσ H Q=>to σ H λx H1=>mZ K T x H1/\t σ H1 λxs H2=>r x xs H2 Q
variable{o e:Expr}{es:List Expr}{to:TE}{t:TA}{name:Str}{apos cpos:Pos}{T id:String}{r:V->List V->Hp->VK->Prop}
theorem fS(pa:PlainAttrs T)(slot:Slot T name id)(hty:typeOf (.builtin id)=pure (.type "method_descriptor"))(hm:Cm X id r)(ho:PE X o to)(ha:PA X (e::es) t)(hbase:attributeBase o name X.env (eval o X.env)=eval o X.env:=by rfl)(hfew:((backTo cpos (starEach (e::es) X.env)).all (λx=>!x.1)&&(backToKw cpos (keywordEach [] X.env)).all (λx=>x.1.isSome)&&decide ((e::es).length+([]:List Keyword).length+(if([]:List Keyword).isEmpty then 0 else 1)<30))=true:=by rfl)(hline:(apos.endLine==cpos.line)=true:=by rfl)(hs:starEach (e::es) X.env=(false,eval e X.env)::starEach es X.env:=by rfl)(hplain:(backTo cpos (starEach es X.env)).any (·.1)=false:=by rfl):PE X (.Call (.Attribute o name apos) (e::es) [] cpos) (AG X.K T r to t):=by
 intro pins s σ H Q I h
 refine wpAny_Call_method_late hbase hfew hline rfl (aJ (ho pins s σ H _ I h) λv s1⟨x,H1,I1,r1,ty,q1⟩=>?_)
 obtain⟨h1,h2⟩:=MM I1 r1 ty
 refine⟨T,id,pa,slot,hty,h1,h2,?_⟩
 have hA:=ha cpos pins s1 σ H1 _ I1 q1
 rw[hs] at hA⊢
 refine Calls.callWith_builtin (by show(false||(backTo cpos (starEach es X.env)).any (·.1))=false;rw[hplain]<;>rfl) (Calls.evalArgs_plain ?_)
 exact aJ hA λus s2⟨vs,H2,I2,r2,q2⟩=>hm pins s2 σ H2 x vs v us Q I2 r1 r2 q2
end
end L2
namespace L2
open PySem PySem.Spec PyProof.Rows
def r_(X:Cx)(id:String)(r:V->List V->Hp->VK->Prop):Prop:=
 ∀(pins:List (Addr×Obj))(s:Shared)(σ:St)(H:Hp)(x:V)(xs:List V)(v:Value)(us:List Value)(Q:VK),Inv X pins σ H s->RelV x v->Vals xs us->r x xs H Q->wpAny (model X.prog X.w) X.A (call (.builtin id) (v::us)) (EP X pins σ Q) X.xe s
theorem Vals.one:∀{x:V}{us:List Value},Vals [x] us->∃u,us=[u]/\RelV x u
 |_,_,.cons r .nil=>⟨_,rfl,r⟩
theorem Vals.rep{xs:List V}{us:List Value}(h:Vals xs us):∀k:Nat,Vals (List.replicate k xs).flatten (List.replicate k us).flatten
 |0=>.nil
 |k+1=>by
  rw[List.replicate_succ,List.replicate_succ,List.flatten_cons,List.flatten_cons]
  exact Vals.append h (Vals.rep h k)
theorem foldl_rep(its:List Value):∀(k:Nat)(acc:List Value),List.foldl (λx1 x2=>x1++x2) acc.toArray (List.replicate k its.toArray)=(acc++(List.replicate k its).flatten).toArray
 |0,acc=>by simp
 |k+1,acc=>by
  have e:acc.toArray++its.toArray=(acc++its).toArray:=by simp
  have e2:(acc++its)++(List.replicate k its).flatten=acc++(List.replicate (k+1) its).flatten:=by
   rw[List.replicate_succ,List.flatten_cons,List.append_assoc]
  rw[<-e2,<-foldl_rep its k (acc++its),<-e,List.replicate_succ,List.foldl_cons]
section
variable{X:Cx}{pins:List (Addr×Obj)}{σ:St}{H:Hp}{s:Shared}{l b:Addr}{xs ys zs:List V}
theorem Inv.yq{its its':List Value}{n:Nat}{f:Array Value->Array Value}{t':Nat}(I:Inv X pins σ H s)(hH:H l=some (.lst xs))(e:s.heap.get? l=some {cls:=.type "list",data:=.seq its.toArray n})(hf:f its.toArray=its'.toArray)(hv:Vals ys its')(hz:ys.length<=sizeLine):Inv X pins σ (upd H l (.lst ys)) {s with heap:=s.heap.update l (Obj.mapSeq f),toks:=t'}:=by
 have q:=PySem.IsL.update e f
 rw[hf] at q
 refine I.write (x:=l) (e:=l) (by rw[hH];exact trivial) (.inl rfl) (λb' u hb hu=>(Heap.get?_update_other s.heap (Obj.mapSeq f) (Ne.symm hb)).trans hu) ⟨_,q⟩ ?_
 exact⟨hz,its',_,hv,q⟩
theorem Inv.ym{its:List Value}{t':Nat}(I:Inv X pins σ H s)(hv:Vals ys its)(hz:ys.length<=sizeLine):Inv X pins σ (upd H s.heap.objs.size (.lst ys)) {s with heap:=s.heap.push {cls:=.type "list",data:=.seq its.toArray},toks:=t'}:=
 I.laid (λ_ _ q=>Heap.get?_push_of_some _ q) (Nat.le_refl _) ⟨hz,its,0,hv,Heap.get?_push_size _ rfl⟩
theorem Inv.fresh(I:Inv X pins σ H s):H s.heap.objs.size=none:=I.aH.fresh (Nat.le_refl _)
theorem Inv.ja(I:Inv X pins σ H s)(hH:H l=some (.lst xs)):xs.length<=sizeLine/\∃(its:List Value)(n:Nat),Vals xs its/\xs.length=its.length/\s.heap.get? l=some {cls:=.type "list",data:=.seq its.toArray n}:=by
 obtain⟨z,its,n,r,e⟩:=I.aH l _ hH
 exact⟨z,its,n,r,r.length,e⟩
theorem yF{n:Nat}(h:n<=sizeLine):Builtin.List.listTooLong n=false:=by
 unfold Builtin.List.listTooLong
 exact decide_eq_false (by omega)
end
section
variable{X:Cx}
def zI:V->List V->Hp->VK->Prop:=λx vs H Q=>∃l xs y,x=.ref l/\vs=[y]/\H l=some (.lst xs)/\xs.length<sizeLine/\Q .bj (upd H l (.lst (xs++[y])))
theorem ki:r_ X "list.append" zI:=by
 intro pins s σ H x vs v us Q I rx rv h
 obtain⟨l,xs,y,rfl,rfl,hH,hz,q⟩:=h
 cases rx
 obtain⟨u,rfl,ru⟩:=rv.one
 obtain⟨z,its,n,r,hl,e⟩:=I.ja hH
 refine call_meets F.slot_list_append ⟨_,e,rfl⟩ F.entry_list_append (F.args_list_append_2 _ _) (PySem.list_append l its.toArray n u (by rw[List.size_toArray];omega)) ⟨e,?_⟩
 refine⟨.bj,_,I.yq (its':=its++[u]) hH e (by simp) (r.append (.cons ru .nil)) ?_,rfl,q⟩
 rw[List.length_append,List.length_singleton]
 omega
def zK:V->List V->Hp->VK->Prop:=λx vs H Q=>∃l b xs zs,x=.ref l/\vs=[.ref b]/\H l=some (.lst xs)/\H b=some (.lst zs)/\xs.length+zs.length<=sizeLine/\Q .bj (upd H l (.lst (xs++zs)))
theorem kj:r_ X "list.extend" zK:=by
 intro pins s σ H x vs v us Q I rx rv h
 obtain⟨l,b,xs,zs,rfl,rfl,hH,hB,hz,q⟩:=h
 cases rx
 obtain⟨u,rfl,ru⟩:=rv.one
 cases ru
 obtain⟨z,its,n,r,hl,e⟩:=I.ja hH
 obtain⟨z2,its2,n2,r2,hl2,e2⟩:=I.ja hB
 have hsz:its.toArray.size+its2.toArray.size<=sizeLine:=by rw[List.size_toArray,List.size_toArray];omega
 have hlong:¬(!its.toArray.isEmpty&&Builtin.List.listTooLong (its.toArray.size+its2.toArray.size))=true:=by
  rw[yF hsz,Bool.and_false]
  exact Bool.false_ne_true
 refine call_meets F.slot_list_extend ⟨_,e,rfl⟩ F.entry_list_extend (F.args_list_extend_2 _ _) (AutoSeq1.list_extend_list_list_0 l its.toArray n b its2.toArray n2 hlong (by rw[List.size_toArray];omega) (by omega)) ⟨e,e2,?_⟩
 refine⟨.bj,_,I.yq (its':=its++its2) hH e (by simp) (r.append r2) ?_,rfl,q⟩
 rw[List.length_append]
 omega
def zJ:R2:=λx y H Q=>∃l b xs zs,x=.ref l/\y=.ref b/\H l=some (.lst xs)/\H b=some (.lst zs)/\xs.length+zs.length<=sizeLine/\∀p,H p=none->Q (.ref p) (upd H p (.lst (xs++zs)))
theorem je:bR X (binaryOp .Add) zJ:=by
 intro pins s σ H x y v u Q I rx ry h
 obtain⟨l,b,xs,zs,rfl,rfl,hH,hB,hz,q⟩:=h
 cases rx
 cases ry
 obtain⟨z,its,n,r,hl,e⟩:=I.ja hH
 obtain⟨z2,its2,n2,r2,hl2,e2⟩:=I.ja hB
 refine PySem.P.add_list e e2 ?_ (by rw[List.size_toArray,List.size_toArray];omega)
 have ea:its.toArray++its2.toArray=(its++its2).toArray:=by simp
 rw[ea]
 exact⟨.ref _,_,I.ym (t':=s.toks) (r.append r2) (by rw[List.length_append];omega),rfl,q _ I.fresh⟩
def zO:R2:=λx y H Q=>∃l k xs,x=.ref l/\y=.int k/\H l=some (.lst xs)/\ -(2^63)<=k/\k<2^63/\xs.length*k.toNat<=sizeLine/\∀p,H p=none->Q (.ref p) (upd H p (.lst (List.replicate k.toNat xs).flatten))
theorem len_rep{α:Type}(xs:List α)(k:Nat):(List.replicate k xs).flatten.length=k*xs.length:=by
 induction k with
 |zero=>simp
 |succ k ih=>rw[List.replicate_succ,List.flatten_cons,List.length_append,ih,Nat.succ_mul,Nat.add_comm]
theorem ku:bR X (binaryOp .Mult) zO:=by
 intro pins s σ H x y v u Q I rx ry h
 obtain⟨l,k,xs,rfl,rfl,hH,h1,h2,hz,q⟩:=h
 cases rx
 obtain⟨t,rfl⟩:=ry
 obtain⟨z,its,n,r,hl,e⟩:=I.ja hH
 have hlen:its.toArray.size*k.toNat<=sizeLine:=by rw[List.size_toArray,<-hl];exact hz
 have hcap:¬its.toArray.size*k.toNat>(2^63 -1)/8:=by
  have:(sizeLine:Nat)<=(2^63 -1)/8:=by decide
  omega
 have hfit:¬(!Builtin.List.listFitsIndex k)=true:=by
  rw[fitsIndex_both h1 h2]
  exact Bool.false_ne_true
 have hlong:¬Builtin.List.listTooLong (its.toArray.size*k.toNat)=true:=by
  rw[yF hlen]
  exact Bool.false_ne_true
 have hnew:List.foldl (λx1 x2=>x1++x2) #[] (List.replicate (if its.toArray.isEmpty=true then 0 else k.toNat) its.toArray)=(List.replicate k.toNat its).flatten.toArray:=by
  have f0:∀m:Nat,List.foldl (λx1 x2=>x1++x2) #[] (List.replicate m its.toArray)=(List.replicate m its).flatten.toArray:=λm=>by
   have:=foldl_rep its m []
   rw[List.nil_append] at this
   exact this
  rw[f0]
  cases its with
  |nil=>simp
  |cons a r'=>rw[if_neg (by simp)]
 refine wpAny_binaryOp_repeat_ref (T:="list") (U:="int") (by decide) ⟨_,e,rfl⟩ (λs'=>typeIs_int s' k t) noFill_list_mul F.fills_int_mul F.slot_int_rmul repeat_list F.slot_int_index.lookup (call_meets F.slot_int_rmul (typeIs_int s k t) F.entry_int_rmul (F.args_int_rmul_2 _ _) (int___rmul___int_list k t l its.toArray n) ⟨e,rfl,⟨_,e,rfl⟩,call_meets F.slot_list_mul ⟨_,e,rfl⟩ F.entry_list_mul (F.args_list_mul_2 _ _) (AutoListH.list___mul___list_int_3 l its.toArray n k t hfit hcap hlong) ⟨e,?_⟩⟩)
 rw[hnew]
 exact⟨.ref _,_,I.ym (t':=s.toks) (r.rep k.toNat) (by rw[len_rep,Nat.mul_comm];exact hz),rfl,q _ I.fresh⟩
end
end L2
namespace L2
open PySem PySem.Spec PyProof.Rows
theorem Vals.ints:∀{ns:List Int}{us:List Value},Vals (ns.map V.int) us->IntsAre us ns
 |[],us,h=>by
  rw[List.map_nil] at h
  cases h
  exact IntsAre.nil
 |n::ns,us,h=>by
  rw[List.map_cons] at h
  cases h with
  |cons r t=>
   obtain⟨k,rfl⟩:=r
   exact IntsAre.cons n k (Vals.ints t)
theorem rR:∀{us:List Value}{ns:List Int},IntsAre us ns->Vals (ns.map V.int) us
 |_,_,.nil=>by rw[List.map_nil];exact Paired.nil
 |_,_,.cons n t h=>by rw[List.map_cons];exact Paired.cons (show RelV (V.int n) (Value.int n t) from⟨t,rfl⟩) (rR h)
theorem Vals.sS:∀{bs:List Bool}{us:List Value},Vals (bs.map V.bl) us->us=bs.map Value.bool
 |[],us,h=>by
  rw[List.map_nil] at h
  cases h
  rfl
 |b::bs,us,h=>by
  rw[List.map_cons] at h
  cases h with
  |cons r t=>
   cases r
   rw[Vals.sS t,List.map_cons]
theorem Vals.pH{a:Addr}{us:List Value}(r:Vals [V.ref a] us):us=[Value.ref a]:=by
 cases r with
 |cons r t=>
  cases t
  cases r
  rfl
section
variable{prog:Program}{w:World}{A:Around}{E:Value->Shared->Prop}{s:Shared}{l:Addr}{its:List Value}{ns:List Int}{Q:Value->Shared->Prop}
theorem Mh(hh:A.handled=none)(hl:s.heap.IsList l its.toArray)(hi:IntsAre its ns)(h:∀h' tk t',(∀b o,s.heap.get? b=some o->h'.get? b=some o)->Q (.int ns.sum t') {s with heap:=h',toks:=tk}):wpAny (model prog w) A (call (.builtin "sum") [.ref l]) Q E s:=by
 obtain⟨xs,e⟩:=hi.allInts.items
 have hn:numsOf (intItems xs).toList=ns:=by rw[<-e];exact hi.numsOf
 rw[nums_intItems] at hn
 rw[e] at hl
 refine PySem.sum_intListG hh hl λh' tk t' hk=>?_
 have:=h h' tk t' hk
 rw[preSum_eq,List.take_of_length_le (by simp),hn];exact this
end
section
variable{X:Cx}
def kI(K:PySem.W.Frag):List V->Hp->VK->Prop:=λvs H Q=>∃(a:Addr)(ns:List Int),vs=[V.ref a]/\ax K H a (ns.map V.int)/\Q (.int ns.sum) H
theorem DF(hc:X.calm=true):fg X (.builtin "sum") (kI X.K):=by
 intro pins s σ H vs us Q I r h
 obtain⟨a,ns,rfl,hs,q⟩:=h
 obtain⟨its,rv,hl,_⟩:=I.list hs
 rw[Vals.pH r]
 exact Mh (I.ok.hd hc) hl.isList rv.ints λh' tk t' hk=>⟨.int _,H,I.kept hk,⟨_,rfl⟩,q⟩
end
theorem EH{prog:Program}{w:World}{A:Around}{E:Value->Shared->Prop}{s:Shared}{l:Addr}{items:Array Value}{Q:Value->Shared->Prop}(hl:s.heap.IsList l items)(h:∀s₂:Shared,s₂={s with heap:=s.heap.push {cls:=.type "list_iterator",data:=.fields #[.ref l,.int 0 0]} }->(s₂.heap.IsListIter s.heap.objs.size l 0/\s₂.heap.IsList l items)->l≠s.heap.objs.size->Q (.ref s.heap.objs.size) s₂):wpAny (model prog w) A (pyIter (.ref l)) Q E s:=by
 have hlt:l<s.heap.objs.size:=by obtain⟨_,e,_⟩:=hl;exact Heap.lt_size e
 exact wpAny_pyIter_list hl (h _ rfl ⟨⟨_,Heap.get?_push_size _ rfl,rfl,rfl⟩,hl.push _⟩ (Nat.ne_of_lt hlt))
theorem MG{prog:Program}{w:World}{A:Around}{bs:List Bool}{its:List Value}(e:its=bs.map Value.bool):TruthOf prog w A (λi v=>its.toArray[i]? =some v) (λi=>bs.getD i false):=λi v s Q E hv hq=>by
 have hv':its[i]? =some v:=by simpa using hv
 rw[e,List.getElem?_map] at hv'
 obtain⟨b,hb,rfl⟩:=Option.map_eq_some_iff.mp hv'
 have hg:bs.getD i false=b:=by rw[List.getD_eq_getElem?_getD,hb]<;>rfl
 have hq':Q (bs.getD i false) s:=hq
 rw[hg] at hq'
 exact wpAny_truthy_bool hq'
theorem any_range:∀bs:List Bool,(List.range bs.length).any (λi=>bs.getD i false)=bs.any id
 |[]=>rfl
 |b::bs=>by
  rw[List.length_cons,List.range_succ_eq_map,List.any_cons,List.any_map,List.any_cons,<-any_range bs]
  all_goals rfl
section
variable{X:Cx}
def Jm(K:PySem.W.Frag):List V->Hp->VK->Prop:=λvs H Q=>∃(a:Addr)(bs:List Bool),vs=[V.ref a]/\ax K H a (bs.map V.bl)/\Q (.bl (bs.any id)) H
theorem DD(hc:X.calm=true):fg X (.builtin "any") (Jm X.K):=by
 intro pins s σ H vs us Q I r h
 obtain⟨a,bs,rfl,hs,q⟩:=h
 obtain⟨its,rv,hl,_⟩:=I.list hs
 rw[Vals.pH r]
 have hb:=rv.sS
 refine call_any_walk (EH hl.isList λs₂ e2 st hne=>?_)
 subst e2
 refine⟨_,_,_,_,_,_,_,rfl,Walks.list (A:=X.A.in1) (I.ok.hd hc) _ a hne its.toArray,st,MG hb,λh' tk hk=>?_⟩
 refine⟨.bl _,H,I.kept λb o eo=>hk b o (λhmem=>?_) (Heap.get?_push_of_some _ eo),?_,q⟩
 .rcases List.mem_cons.mp hmem with e1|hmem
  .exact absurd (e1▸Heap.lt_size eo) (Nat.lt_irrefl _)
  .cases hmem
 .show Value.bool _=Value.bool _
  rw[<-any_range,hb,List.size_toArray,List.length_map]
end
end L2
namespace L2
open PySem PySem.Spec PyProof.Rows
abbrev r6(h:Heap)(c:Addr)(v:Option Value):Prop:=h.IsCell c v
def KL(scope sc:Scope):Scope:=
 {scope with names:=scope.names.map λ(n,k)=>if(k== .free&&sc.kind== .function&&sc.names.lookup n==some .cell) then(n,.cell) else(n,k)}
def cX(cells:List (Str×Addr)):List (Str×NameKind)->List (Str×Addr)->List (Str×Addr)
 |[],acc=>acc
 |(n,k)::r,acc=>if k== .free then cX cells r ((n,(cells.lookup n).getD 0)::acc) else cX cells r acc
theorem tE(env:Env)(f:Str×NameKind->List (Str×Addr)->Sem (ForInStep (List (Str×Addr))))(hf:∀n k c,f (n,k) c=if k== .free then(do let a<-cellOf env n;pure (.yield ((n,a)::c))) else pure (.yield c)):∀(names:List (Str×NameKind))(acc:List (Str×Addr)),(∀y∈names,y.2=.free->∃c,env.cells.lookup y.1=some c)->forIn names acc f=pure (cX env.cells names acc)
 |[],acc,_=>by rw[List.forIn_nil];rfl
 |(n,k)::r,acc,h=>by
  rw[List.forIn_cons,hf]
  have ih:=λacc=>tE env f hf r acc λy hy=>h y (List.mem_cons_of_mem _ hy)
  unfold cX
  by_cases hk:(k==NameKind.free)=true
  .rw[if_pos hk,if_pos hk]
   obtain⟨c,hc⟩:=h (n,k) List.mem_cons_self (by simpa using hk)
   have e:cellOf env n=pure c:=by unfold cellOf;rw[hc]
   rw[e]
   have e2:(env.cells.lookup n).getD 0=c:=by rw[hc];rfl
   rw[e2]
   exact ih _
  .rw[if_neg hk,if_neg hk]
   exact ih _
theorem Dz{scope:Scope}{env:Env}(h:∀y∈scope.names,y.2=.free->∃c,env.cells.lookup y.1=some c):closureFor scope env=pure (cX env.cells scope.names []):=by
 simp only[closureFor]
 rw[tE env _ (λn k c=>rfl) scope.names [] h]
 rfl
theorem mem_lookup{α:Type}:∀{l:List (Str×α)}{n:Str}{c:α},(n,c)∈l->∃c',l.lookup n=some c'
 |(k,v)::r,n,c,h=>by
  rw[List.lookup_cons]
  cases hb:n==k with
  |true=>exact⟨_,rfl⟩
  |false=>
   rcases List.mem_cons.mp h with e|h
   .cases e;simp at hb
   .exact mem_lookup h
theorem lx{cells:List (Str×Addr)}:∀{names:List (Str×NameKind)}{acc:List (Str×Addr)}{n:Str}{c:Addr},(n,c)∈cX cells names acc->(n,c)∈acc\/((n,.free)∈names/\c=(cells.lookup n).getD 0)
 |[],_,_,_,h=>.inl h
 |(m,k)::r,acc,n,c,h=>by
  unfold cX at h
  split at h
  .rename_i hk
   have hk:k=.free:=by simpa using hk
   rcases lx h with h|⟨h1,h2⟩
   .rcases List.mem_cons.mp h with e|h
    .cases e;exact .inr ⟨hk▸List.mem_cons_self,rfl⟩
    .exact .inl h
   .exact .inr ⟨List.mem_cons_of_mem _ h1,h2⟩
  .rcases lx h with h|⟨h1,h2⟩
   .exact .inl h
   .exact .inr ⟨List.mem_cons_of_mem _ h1,h2⟩
theorem nO{cells:List (Str×Addr)}:∀{names:List (Str×NameKind)}{acc:List (Str×Addr)}{p:Str×Addr},p∈acc->p∈cX cells names acc
 |[],_,_,h=>h
 |(m,k)::r,acc,p,h=>by
  unfold cX
  split
  .exact nO (List.mem_cons_of_mem _ h)
  .exact nO h
theorem nP{cells:List (Str×Addr)}:∀{names:List (Str×NameKind)}{acc:List (Str×Addr)}{n:Str},(n,.free)∈names->(n,(cells.lookup n).getD 0)∈cX cells names acc
 |(m,k)::r,acc,n,h=>by
  unfold cX
  rcases List.mem_cons.mp h with e|h
  .cases e
   exact nO List.mem_cons_self
  .split
   .exact nP h
   .exact nP h
theorem jK:∀{names:List (Str×NameKind)}{h:Heap}{acc:List (Str×Addr)}{x:Str}{c:Addr},(x,c)∈cellsFrom h.objs.size names acc->(x,c)∈acc\/((x,.cell)∈names/\h.objs.size<=c/\r6 (pushCells h names) c none)
 |[],_,_,_,_,h=>.inl h
 |(n,k)::r,h,acc,x,c,hm=>by
  unfold cellsFrom at hm
  unfold pushCells
  split at hm
  .rename_i hk
   rw[if_pos hk]
   have hk:k=.cell:=by simpa using hk
   rw[<-Heap.size_push h {cls:=.type "cell",data:=.cell none}] at hm
   rcases jK hm with hm|⟨h1,h2,h3⟩
   .rcases List.mem_cons.mp hm with e|hm
    .cases e
     exact .inr ⟨hk▸List.mem_cons_self,Nat.le_refl _,_,pushCells_keeps r _ _ _ (Heap.get?_push_size _ rfl),rfl⟩
    .exact .inl hm
   .rw[Heap.size_push] at h2
    exact .inr ⟨List.mem_cons_of_mem _ h1,Nat.le_of_succ_le h2,h3⟩
  .rename_i hk
   rw[if_neg hk]
   rcases jK hm with hm|⟨h1,h2,h3⟩
   .exact .inl hm
   .exact .inr ⟨List.mem_cons_of_mem _ h1,h2,h3⟩
theorem lq:∀{names:List (Str×NameKind)}{n:Nat}{acc:List (Str×Addr)}{p:Str×Addr},p∈acc->p∈cellsFrom n names acc
 |[],_,_,_,h=>h
 |(m,k)::r,n,acc,p,h=>by
  unfold cellsFrom
  split
  .exact lq (List.mem_cons_of_mem _ h)
  .exact lq h
theorem nJ:∀{names:List (Str×NameKind)}{n:Nat}{acc:List (Str×Addr)}{x:Str},(x,.cell)∈names->∃c,(x,c)∈cellsFrom n names acc
 |(m,k)::r,n,acc,x,h=>by
  unfold cellsFrom
  rcases List.mem_cons.mp h with e|h
  .cases e
   exact⟨n,lq List.mem_cons_self⟩
  .split
   .exact nJ h
   .exact nJ h
theorem nL:∀{names:List (Str×NameKind)}{h:Heap}{acc:List (Str×Addr)}{x y:Str}{c:Addr},(∀p∈acc,p.2<h.objs.size)->(∀x y c,(x,c)∈acc->(y,c)∈acc->x=y)->(x,c)∈cellsFrom h.objs.size names acc->(y,c)∈cellsFrom h.objs.size names acc->x=y
 |[],_,_,_,_,_,_,hi,h1,h2=>hi _ _ _ h1 h2
 |(n,k)::r,h,acc,x,y,c,hl,hi,h1,h2=>by
  unfold cellsFrom at h1 h2
  split at h1
  .rename_i hk
   rw[if_pos hk] at h2
   rw[<-Heap.size_push h {cls:=.type "cell",data:=.cell none}] at h1 h2
   refine nL (h:=h.push _) (λp hp=>?_) (λx y c a b=>?_) h1 h2
   .rw[Heap.size_push]
    rcases List.mem_cons.mp hp with rfl|hp
    .exact Nat.lt_succ_self _
    .exact Nat.lt_succ_of_lt (hl p hp)
   .rcases List.mem_cons.mp a with e|a<;>rcases List.mem_cons.mp b with e'|b
    .cases e;cases e';rfl
    .cases e;exact absurd (hl _ b) (Nat.lt_irrefl _)
    .cases e';exact absurd (hl _ a) (Nat.lt_irrefl _)
    .exact hi _ _ _ a b
  .rename_i hk
   rw[if_neg hk] at h2
   exact nL hl hi h1 h2
theorem G5{M:Model}{A:Around}{E:Value->Shared->Prop}{s:Shared}{scope:Scope}{globals:Addr}{closure:List (Str×Addr)}{qual:Str}{func:Option Addr}{code:Value}{around:Env}{builtins:Addr}{Q:Env->Shared->Prop}(h:Q (newEnv scope s.heap.objs.size globals (cellsFrom (s.heap.objs.size+1) scope.names closure) qual func code (some around) builtins) {s with heap:=pushCells (s.heap.push {cls:=.type "dict",data:=.dict #[]}) scope.names}):wpAny M A (newFunctionEnv scope globals closure [] qual func code (some around) builtins) Q E s:=by
 simp only[newFunctionEnv,Option.isSome_some,if_true]
 refine wpAny_bind (wpAny_alloc ?_)
 refine wpAny_bind (wpAny_layCells _ (λn k c=>rfl) scope.names closure _ _ ?_)
 rw[show({s with heap:=s.heap.push {cls:=.type "dict",data:=.dict #[]} }:Shared).heap.objs.size=s.heap.objs.size+1 from Heap.size_push ..]
 rw[List.forIn_nil]
 exact wpAny_bind (wpAny_pure (wpAny_pure h))
theorem oB{sc:Scope}:∀{names:List (Str×NameKind)}{x:Str}{k:NameKind},(names.map λ(n,k)=>if(k==NameKind.free&&sc.kind== .function&&sc.names.lookup n==some .cell) then(n,NameKind.cell) else(n,k)).lookup x=some k->∃k',names.lookup x=some k'/\(k=k'\/(k'=.free/\k=.cell))
 |[],_,_,h=>by simp at h
 |(n,k₀)::r,x,k,h=>by
  have ih:=@oB sc r x k
  have h':List.lookup x ((if(k₀==NameKind.free&&sc.kind== .function&&sc.names.lookup n==some .cell)=true then(n,NameKind.cell) else(n,k₀))::(r.map _))=some k:=h
  cases hx:x==n with
  |true=>
   simp only[List.lookup_cons,hx]
   by_cases hc:(k₀==NameKind.free&&sc.kind== .function&&sc.names.lookup n==some .cell)=true
   .rw[if_pos hc] at h'
    simp only[List.lookup_cons,hx] at h'
    cases h'
    simp only[Bool.and_eq_true,beq_iff_eq] at hc
    exact⟨k₀,rfl,.inr ⟨hc.1.1,rfl⟩⟩
   .rw[if_neg hc] at h'
    simp only[List.lookup_cons,hx] at h'
    cases h'
    exact⟨_,rfl,.inl rfl⟩
  |false=>
   simp only[List.lookup_cons,hx]
   by_cases hc:(k₀==NameKind.free&&sc.kind== .function&&sc.names.lookup n==some .cell)=true
   .rw[if_pos hc] at h'
    simp only[List.lookup_cons,hx] at h'
    exact ih h'
   .rw[if_neg hc] at h'
    simp only[List.lookup_cons,hx] at h'
    exact ih h'
structure jz(N:List Str)(sc scope:Scope)(own:List (Str×Nat)):Prop where
 kind:scope.kind=.function
 uniq:∀y∈scope.names,scope.names.lookup y.1=some y.2
 ix:∀p∈own,N[p.2]? =some p.1
 free:∀y∈scope.names,y.2=.free->sc.names.lookup y.1=some .cell\/sc.names.lookup y.1=some .free
 own:∀y∈scope.names,y.2=.local\/y.2=.cell->y.1∈own.map (·.1)\/y.1∉N
def wipe(σ:St):List Nat->St
 |[]=>σ
 |v::vs=>(wipe σ vs).set v none
theorem rV(σ:St):∀vs:List Nat,(wipe σ vs).length=σ.length
 |[]=>rfl
 |v::vs=>by unfold wipe;rw[List.length_set,rV σ vs]
theorem rW{σ:St}{i:Nat}{x:V}:∀{vs:List Nat},(wipe σ vs)[i]? =some (some x)->σ[i]? =some (some x)/\i∉vs
 |[],h=>⟨h,by simp⟩
 |v::vs,h=>by
  unfold wipe at h
  by_cases hi:v=i
  .subst hi
   by_cases hv:v<(wipe σ vs).length
   .rw[List.getElem?_set_self hv] at h;cases h
   .rw[List.getElem?_eq_none (by simpa using hv)] at h;cases h
  .rw[List.getElem?_set_ne hi] at h
   obtain⟨h1,h2⟩:=rW h
   exact⟨h1,by simp only[List.mem_cons,not_or];exact⟨λe=>hi e.symm,h2⟩⟩
abbrev Cx.dg(X:Cx)(s:Shared)(H:Hp)(scope:Scope)(cenv:Env)(fp:List Addr):Cx:={X with c_:=s,ia:=H,env:=cenv,outer:=X.stack,ex:=fp,fn:=λx=>scope.names.lookup x==some .cell,pn:=[],xe:=λ_ _=>False}
section
variable{X:Cx}{pins:List (Addr×Obj)}{σ:St}{H:Hp}{s:Shared}
theorem CM{scope:Scope}{own:List (Str×Nat)}{fp:List Addr}(I:Inv X pins σ H s)(ok:jz X.N X.env.scope scope own)(hN:X.N.Nodup)(hfp:∀b∈fp,fh X pins H b/\b<s.heap.objs.size):Inv (X.dg s H scope (compEnvC scope (cellsFrom (s.heap.objs.size+1) scope.names (cX X.env.cells scope.names [])) s.heap.objs.size X.env) fp) [] (wipe σ (own.map (·.2))) H {s with heap:=pushCells (s.heap.push {cls:=.type "dict",data:=.dict #[]}) scope.names}:=by
 have hfree:∀y∈scope.names,y.2=.free->∃c,X.env.cells.lookup y.1=some c:=λy hy e=>by
  rcases ok.free y hy e with k|k
  .exact I.ok.has _ (.inl k)
  .exact I.ok.has _ (.inr k)
 generalize hcenv:compEnvC scope (cellsFrom (s.heap.objs.size+1) scope.names (cX X.env.cells scope.names [])) s.heap.objs.size X.env=cenv
 have kp:∀b o,s.heap.get? b=some o->(pushCells (s.heap.push {cls:=.type "dict",data:=.dict #[]}) scope.names).get? b=some o:=λb o e=>pushCells_keeps _ _ _ _ (Heap.get?_push_of_some _ e)
 have hL:cenv.locals=s.heap.objs.size:=by rw[<-hcenv];rfl
 have hcl:cenv.cells=cellsFrom (s.heap.objs.size+1) scope.names (cX X.env.cells scope.names []):=by rw[<-hcenv];rfl
 have hsc:cenv.scope=KL scope X.env.scope:=by rw[<-hcenv];rfl
 rw[<-Heap.size_push s.heap {cls:=.type "dict",data:=.dict #[]}] at hcl
 have cm:∀{y c},(y,c)∈cX X.env.cells scope.names []->X.env.cells.lookup y=some c/\c<s.heap.objs.size:=λ{y c}hm=>by
  rcases lx hm with hm|⟨h1,rfl⟩
  .cases hm
  .obtain⟨c,hc⟩:=hfree _ h1 rfl
   rw[hc]
   obtain⟨w,z⟩:=I.cell _ _ hc
   exact⟨rfl,z.lt⟩
 have mem:∀{y c},cenv.cells.lookup y=some c->(X.env.cells.lookup y=some c/\c<s.heap.objs.size)\/(s.heap.objs.size+1<=c/\r6 (pushCells (s.heap.push {cls:=.type "dict",data:=.dict #[]}) scope.names) c none):=λ{y c}e=>by
  rw[hcl] at e
  rcases jK (PySem.mem_of_lookup e) with hm|⟨_,h2,h3⟩
  .exact .inl (cm hm)
  .rw[Heap.size_push] at h2;exact .inr ⟨h2,h3⟩
 have look:∀{y},scope.names.lookup y=some .free->∃c,cenv.cells.lookup y=some c/\X.env.cells.lookup y=some c:=λ{y}hl=>by
  have hy:(y,NameKind.free)∈scope.names:=PySem.mem_of_lookup hl
  obtain⟨c',e'⟩:=mem_lookup (lq (names:=scope.names) (n:=(s.heap.push {cls:=.type "dict",data:=.dict #[]}).objs.size) (nP (cells:=X.env.cells) (acc:=[]) hy))
  rw[<-hcl] at e'
  refine⟨c',e',?_⟩
  rw[hcl] at e'
  rcases jK (PySem.mem_of_lookup e') with hm|⟨h1,_,_⟩
  .exact(cm hm).1
  .have:=ok.uniq _ h1
   rw[hl] at this;cases this
 have okB:(X.dg s H scope cenv fp).Ok:=by
  refine⟨I.ok.mod,by show cenv.scope.kind=_;rw[hsc];exact ok.kind,by show cenv.globals=_;rw[<-hcenv];exact I.ok.glob,by show cenv.builtins=_;rw[<-hcenv];exact I.ok.blt,by show s.heap.objs.size<=cenv.locals;rw[hL];exact Nat.le_refl _,λy z c e1 e2=>?_,λy hy=>?_,λy c z e=>?_,I.ok.hd,I.ok.frames,.inl rfl,λb hb=>⟨?_,λy c e z=>?_⟩,I.bs,Nat.le_trans I.ok.fM I.sz,λb o e hb=>?_,λb hb z=>?_,I.stack,I.Az⟩
  .have e1:cenv.cells.lookup y=some c:=e1
   have e2:cenv.cells.lookup z=some c:=e2
   rw[hcl] at e1 e2
   refine nL (λp hp=>?_) (λy z c a b=>I.ok.inj y z c (cm a).1 (cm b).1) (PySem.mem_of_lookup e1) (PySem.mem_of_lookup e2)
   rw[Heap.size_push]
   exact Nat.lt_succ_of_lt (cm (y:=p.1) (c:=p.2) hp).2
  .show∃c,cenv.cells.lookup y=some c
   have key:∀k,cenv.kindOf y=some k->(k=.cell\/k=.free)->∃c,cenv.cells.lookup y=some c:=λk hk hk'=>by
    unfold Env.kindOf at hk
    rw[hsc] at hk
    obtain⟨k',e,r⟩:=oB hk
    have:k'=.cell\/k'=.free:=by
     rcases r with rfl|⟨rfl,_⟩
     .exact hk'
     .exact .inr rfl
    rcases this with rfl|rfl
    .obtain⟨c,hm⟩:=nJ (n:=(s.heap.push {cls:=.type "dict",data:=.dict #[]}).objs.size) (acc:=cX X.env.cells scope.names []) (PySem.mem_of_lookup e)
     obtain⟨c',e'⟩:=mem_lookup hm
     exact⟨c',by rw[hcl];exact e'⟩
    .obtain⟨c,h1,_⟩:=look e
     exact⟨c,h1⟩
   rcases hy with hy|hy
   .exact key _ hy (.inl rfl)
   .exact key _ hy (.inr rfl)
  .have z:(scope.names.lookup y==some NameKind.cell)=true:=z
   have z:scope.names.lookup y=some .cell:=by simpa using z
   have e:cenv.cells.lookup y=some c:=e
   rw[hcl] at e
   rcases jK (PySem.mem_of_lookup e) with hm|⟨_,h2,_⟩
   .rcases lx hm with hm|⟨h1,_⟩
    .cases hm
    .have q:=ok.uniq _ h1
     rw[z] at q;cases q
   .rw[Heap.size_push] at h2
    exact Nat.le_of_succ_le h2
  .show b≠cenv.locals
   rw[hL];exact Nat.ne_of_lt (hfp b hb).2
  .have e:cenv.cells.lookup y=some c:=e
   rcases mem e with⟨h1,_⟩|⟨h1,_⟩
   .exact(hfp b hb).1.2.2.2.2.1 y c h1 z
   .have h2:s.heap.objs.size+1<=b:=by rw[<-z];exact h1
    exact absurd (Nat.lt_of_lt_of_le (hfp b hb).2 (Nat.le_of_succ_le h2)) (Nat.lt_irrefl _)
  .rcases(hfp b hb).1.2.2.2.1 with z|z
   .exact I.ok.km b o e z
   .exact absurd (Nat.lt_of_lt_of_le (Heap.lt_size e) (Nat.le_trans I.ok.fM z)) (Nat.lt_irrefl _)
  .rcases List.mem_cons.mp (I.rK b z) with z|z
   .exact(hfp b hb).1.2.1 z
   .exact(hfp b hb).1.2.2.1 z
 refine⟨okB,rfl,I.bare,Un.kept kp,⟨λ_=>none,?_,λi y av e1 e2 e3=>?_⟩,λy c e=>?_,?_,λy c e=>?_,λp hp=>?_,I.aH.kept kp,by rw[rV];exact I.len⟩
 .show Heap.Ns _ cenv.locals _
  rw[hL]
  exact Heap.Ns.keeps (Heap.Ns.new ..) λb o e=>pushCells_keeps _ _ _ _ e
 .obtain⟨e2,hne⟩:=rW e2
  have hfr:scope.names.lookup y=some .free/\(cenv.kindOf y=some .cell\/cenv.kindOf y=some .free):=by
   have key:∀k,cenv.scope.names.lookup y=some k->k=.local\/k=.cell\/k=.free->scope.names.lookup y=some .free/\(cenv.kindOf y=some .cell\/cenv.kindOf y=some .free):=λk hk hk'=>by
    have hk0:=hk
    rw[hsc] at hk
    obtain⟨k',e,r⟩:=oB hk
    have no:¬(k'=.local\/k'=.cell):=λhh=>by
     rcases ok.own _ (PySem.mem_of_lookup e) hh with e'|e'
     .obtain⟨p,hp,hpy⟩:=List.mem_map.mp e'
      have e3:=ok.ix p hp
      have:p.1=y:=hpy
      rw[this] at e3
      exact hne (List.mem_map.mpr ⟨p,hp,oP hN e3 e1⟩)
     .exact e' (List.mem_of_getElem? e1)
    rcases r with rfl|⟨rfl,rfl⟩
    .rcases hk' with rfl|rfl|rfl
     .exact absurd (.inl rfl) no
     .exact absurd (.inr rfl) no
     .exact⟨e,.inr hk0⟩
    .exact⟨e,.inl hk0⟩
   have e3:iX cenv.scope y:=e3
   rcases e3 with e3|e3|e3
   .exact key _ e3 (.inl rfl)
   .exact key _ e3 (.inr (.inl rfl))
   .exact key _ e3 (.inr (.inr rfl))
  obtain⟨m,hn,hl⟩:=I.loc
  have hvis:iX X.env.scope y:=(ok.free _ (PySem.mem_of_lookup hfr.1) rfl).elim (λk=>.inr (.inl k)) (λk=>.inr (.inr k))
  obtain⟨w,r,q⟩:=hl i y av e1 e2 hvis
  refine⟨w,r,.inr ⟨hfr.2,?_⟩⟩
  obtain⟨c,h1,h2⟩:=look hfr.1
  rcases q with⟨k,_⟩|⟨_,c',e',z⟩
  .have k:X.env.scope.names.lookup y=some .local:=k
   rcases ok.free _ (PySem.mem_of_lookup hfr.1) rfl with k'|k'<;>rw[show X.env.scope.names.lookup y=_ from k'] at k<;>cases k
  .rw[h2] at e';cases e'
   exact⟨c,h1,z.keeps kp⟩
 .have e:cenv.cells.lookup y=some c:=e
  rcases mem e with⟨h1,_⟩|⟨_,z⟩
  .obtain⟨w,z⟩:=I.cell y c h1
   exact⟨w,z.keeps kp⟩
  .exact⟨_,z⟩
 .show H cenv.locals=none
  rw[hL];exact I.aH.fresh (Nat.le_refl _)
 .have e:cenv.cells.lookup y=some c:=e
  rcases mem e with⟨h1,_⟩|⟨h1,_⟩
  .exact I.eJ y c h1
  .exact I.aH.fresh (Nat.le_of_succ_le h1)
 .exact absurd (show p∈([]:List (Addr×Obj))++[] from hp) (by simp)
theorem Cv{E:Value->Shared->Prop}{D:Addr}{xs:List V}{y:V}{v:Value}{Q:Value->Shared->Prop}(I:Inv X pins σ H s)(hD:H D=some (.lst xs))(hz:xs.length<sizeLine)(r:RelV y v)(h:∀s',Inv X pins σ (upd H D (.lst (xs++[y]))) s'->Q .none s'):wpAny (model X.prog X.w) X.A (call (.builtin "list.append") [.ref D,v]) Q E s:=by
 obtain⟨hz',its,n,ri,e⟩:=I.aH D _ hD
 have hl:=ri.length
 refine append_at (hsz:=by rw[List.size_toArray];omega) e λh' sb ho'=>?_
 refine h {s with heap:=h'} (I.write (t':=s.toks) (by rw[hD];trivial) (.inl rfl) (λb u hb q=>(sb.2 b hb).trans q) ⟨_,ho'⟩ ⟨by rw[List.length_append];exact hz,its++[v],n+1,ri.append (.cons r .nil),?_⟩)
 rw[ho']
 simp
def jE(X:Cx)(ifs:List Expr)(t:TT):Prop:=
 ∀(pins:List (Addr×Obj))(s:Shared)(σ:St)(H:Hp)(Q:Bool->Hp->Prop),Inv X pins σ H s->t σ H Q->wpAny (model X.prog X.w) X.A (forIn ifs true λc r=>if r=true then do let ok<-isTrue c X.env (eval c X.env);pure (ForInStep.yield ok) else pure (ForInStep.yield r)) (TP X pins σ Q) X.xe s
def gH:TT:=λ_ H Q=>Q true H
theorem kH:jE X [] gH:=λ_ _ _ H _ I h=>wpAny_tests_nil ⟨H,I,h⟩
theorem iI{c:Expr}{t:TT}(h:PT X c t):jE X [c] t:=λpins s σ H Q I hw=>wpAny_tests_one (h pins s σ H Q I hw)
end
theorem ju{α:Type}{t:Sem α}{Q Q':α->Shared->Prop}{M:Model}{A:Around}{E:Value->Shared->Prop}{s:Shared}(h:wpAny M A t Q (λ_ _=>False) s)(hQ:∀a s,Q a s->Q' a s):wpAny M A t Q' E s:=wpAny_mono h hQ λ_ _ z=>False.elim z
theorem DB{prog:Program}{w:World}{A:Around}{R:Result->Shared->Prop}{s:Shared}{elt target iter:Expr}{ifs:List Expr}{scope:Scope}{pos:Pos}{it acc:Value}{env:Env}(I:Nat->Shared->Prop)(turn:∀n s,I n s->wpAny (model prog w) A (pyNext it) (λr s₁=>match r with
                                                                                                                                                                                                |none=>R (.ok .next) s₁
                                                                                                                                                                                                |some v=>wpAny (model prog w) A (letOwnedTupleGo target it v) (λ_ s₁'=>wpAny (model prog w) A (assign target env v) (λ_ s₂=>
                                                                                                                                                                                                  wpAny (model prog w) A (forIn ifs true λc r=>if r=true then do let ok<-isTrue c env (eval c env);pure (ForInStep.yield ok) else pure (ForInStep.yield r)) (λok s₃=>
                                                                                                                                                                                                   if ok=true then wpAny (model prog w) A (eval elt env) (λx s₄=>
                                                                                                                                                                                                    wpAny (model prog w) A (call (.builtin "list.append") [acc,x]) (λ_ s₅=>∃m,m<n/\I m s₅) (notedBy (model prog w) A env λe s'=>R (.error e) s') s₄) (notedBy (model prog w) A env λe s'=>R (.error e) s') s₃
                                                                                                                                                                                                   else∃m,m<n/\I m s₃) (notedBy (model prog w) A env λe s'=>R (.error e) s') s₂) (notedBy (model prog w) A env λe s'=>R (.error e) s') s₁') (notedBy (model prog w) A env λe s'=>R (.error e) s') s₁) (notedBy (model prog w) A env λe s'=>R (.error e) s') s)
 (n:Nat) (h:I n s):
 codeAny (model prog w) A (.compLoop (.ListComp elt [⟨target,iter,ifs,0⟩] scope pos) 0 it acc env) R s:=by
 refine codeAny_loop rfl I (λn s hI=>?_) n h
 show wpAny _ A ((compTurn (.ListComp elt [⟨target,iter,ifs,0⟩] scope pos) 0 it acc env).onRaise (λx=>do noteFrame x env;theTreesLotGoes x)) _ _ s
 refine wpAny_noted ?_
 rw[compTurn_list]
 refine wpAny_bind (wpAny_standAt (wpAny_bind (wpAny_mono (turn n s hI) (λr s₁ h₁=>?_) λ_ _ h'=>h')))
 cases r with
 |none=>exact wpAny_pure h₁
 |some v=>
  refine wpAny_bind (wpAny_mono h₁ (λ_ s₁' h₁'=>?_) λ_ _ h'=>h')
  refine wpAny_bind (wpAny_mono h₁' (λ_ s₂ h₂=>wpAny_bind (wpAny_mono h₂ (λok s₃ h₃=>?_) λ_ _ h'=>h')) λ_ _ h'=>h')
  cases ok with
  |false=>exact wpAny_pure ⟨rfl,h₃⟩
  |true=>
   exact wpAny_bind (wpAny_bind (wpAny_mono h₃ (λx s₄ h₄=>wpAny_bind (wpAny_mono h₄ (λ_ s₅ h₅=>wpAny_pure (wpAny_pure ⟨rfl,h₅⟩)) λ_ _ h'=>h')) λ_ _ h'=>h'))
section
variable{X:Cx}
def kU(wi:TI)(g:TG)(tt:TT)(te:TE)(vs:List Nat):TE:=λσ H Q=>wi σ H λJ H1=>∀D,H1 D=none->∃W:Nat->Nat->Hp->Prop,(∃m,W 0 m (upd H1 D (.lst [])))/\∀i m H,W i m H->(J.stop i H/\Q (.ref D) H)\/(J.go i H/\∃Nx:Hp->Prop,(∀H',Nx H'->∃m',m'<m/\W (i+1) m' H')/\∀x H',J.d8 i H x H'->g x (wipe σ vs) H' λσ2 H2=>wipe σ2 vs=wipe σ vs/\tt σ2 H2 λb H3=>
                                                                                                                                                                 if b=true then te σ2 H3 λy H4=>∃acc,H4 D=some (.lst acc)/\acc.length<sizeLine/\Nx (upd H4 D (.lst (acc++[y]))) else Nx H3)
theorem xZ{pins:List (Addr×Obj)}{s:Shared}{σ:St}{H:Hp}{Q:VK}{elt tg iter:Expr}{ifs:List Expr}{scope:Scope}{own:List (Str×Nat)}{pos pos':Pos}{wi:TI}{g:TG}{tt:TT}{te:TE}{use:Option (Value->Sem Unit)}{Qf:Value->Shared->Prop}(hc:X.calm=true)(hN:X.N.Nodup)(I:Inv X pins σ H s)(hi:PI X tg iter wi)(ok:jz X.N X.env.scope scope own)(hg:∀(s:Shared)(H:Hp)(C:Addr)(cl:List (Str×Addr))(fp:List Addr),PG (X.dg s H scope (compEnvC scope cl C X.env) fp) tg g)(ht:∀(s:Shared)(H:Hp)(C:Addr)(cl:List (Str×Addr))(fp:List Addr),jE (X.dg s H scope (compEnvC scope cl C X.env) fp) ifs tt)(he:∀(s:Shared)(H:Hp)(C:Addr)(cl:List (Str×Addr))(fp:List Addr),PE (X.dg s H scope (compEnvC scope cl C X.env) fp) elt te)(hs:∀x,foldedSetIterable iter X.env x=pure x)(h:kU wi g tt te (own.map (·.2)) σ H Q)(hRR:∀D C s' m H',Inv X pins σ H' s'->Q (.ref D) H'->s'.heap.Ns C m->fh X pins H' C->compPost (model X.prog X.w) X.A X.xe use Qf (.ref D) C (.ok .next) s'):wpAny (model X.prog X.w) X.A (comprehension (.ListComp elt [⟨tg,iter,ifs,0⟩] scope pos) scope X.env pos' (newList []) false (eval iter X.env) use) Qf X.xe s:=by
 have hfree:∀y∈scope.names,y.2=.free->∃c,X.env.cells.lookup y.1=some c:=λy hy e=>by
  rcases ok.free y hy e with k|k
  .exact I.ok.has _ (.inl k)
  .exact I.ok.has _ (.inr k)
 refine wpAny_comprehension_free (use:=use) rfl hs (Dz hfree) ok.kind (λy hy e=>by rw[ok.uniq y hy,e]) (aJ (hi pins s σ H _ I h) λxv s1 hx=>aJ hx λitv s2 h2=>?_)
 obtain⟨it,fp,tn,J,H2,e,I2,T,st2,f2,q⟩:=h2
 subst e
 refine wpAny_newObj_type (G5 ?_) (by show 0<=sizeLine;decide)
 generalize hD:s2.heap.objs.size=D
 have hDn:H2 D=none:=I2.aH.fresh (Nat.le_of_eq hD)
 obtain⟨W,⟨m0,w0⟩,turn⟩:=q D hDn
 generalize hs3:({s2 with heap:=s2.heap.push {cls:=.type "list",data:=.seq ([]:List Value).toArray} }:Shared)=s3
 have I3:Inv X pins σ (upd H2 D (.lst [])) s3:=by
  rw[<-hs3]
  refine I2.laid (t':=s2.toks) (λb o e=>Heap.get?_push_of_some _ e) (Nat.le_of_eq hD) ⟨Nat.zero_le _,[],0,.nil,?_⟩
  rw[<-hD]
  exact Heap.get?_push_size _ rfl
 have h3:s3.heap=s2.heap.push {cls:=.type "list",data:=.seq ([]:List Value).toArray}:=by rw[<-hs3]
 have sz:∀b∈fp,b<s2.heap.objs.size:=λb hb=>by
  obtain⟨o,e,_⟩:=T.obj _ _ st2 b hb
  exact Heap.lt_size e
 have f3:∀b∈fp,fh X pins (upd H2 D (.lst [])) b/\b<s3.heap.objs.size:=λb hb=>by
  have hlt:=sz b hb
  refine⟨⟨?_,(f2 b hb).2⟩,by rw[h3,Heap.size_push];exact Nat.lt_succ_of_lt hlt⟩
  rw[aF (by rw[<-hD];exact Nat.ne_of_lt hlt)]
  exact(f2 b hb).1
 have st3:tn 0 s3.heap:=T.keep _ _ _ st2 λb _ o e=>by rw[h3];exact Heap.get?_push_of_some _ e
 have I4:=CM I3 ok hN f3
 have pg:=hg s3 (upd H2 D (.lst [])) s3.heap.objs.size (cellsFrom (s3.heap.objs.size+1) scope.names (cX X.env.cells scope.names [])) fp
 have pt:=ht s3 (upd H2 D (.lst [])) s3.heap.objs.size (cellsFrom (s3.heap.objs.size+1) scope.names (cX X.env.cells scope.names [])) fp
 have pe:=he s3 (upd H2 D (.lst [])) s3.heap.objs.size (cellsFrom (s3.heap.objs.size+1) scope.names (cX X.env.cells scope.names [])) fp
 show codeAny _ _ (.compStart (.ListComp elt [⟨tg,iter,ifs,0⟩] scope pos) 0 (.ref it) (.ref D) (compEnvC scope (cellsFrom (s3.heap.objs.size+1) scope.names (cX X.env.cells scope.names [])) s3.heap.objs.size X.env)) (compPost (model X.prog X.w) X.A X.xe use Qf (.ref D) s3.heap.objs.size) {s3 with heap:=pushCells (s3.heap.push {cls:=.type "dict",data:=.dict #[]}) scope.names}
 have nfp:∀b∈fp,(upd H2 D (.lst [])) b=none:=λb hb=>(f3 b hb).1.1
 generalize hce:compEnvC scope (cellsFrom (s3.heap.objs.size+1) scope.names (cX X.env.cells scope.names [])) s3.heap.objs.size X.env=ce at I4 pg pt pe⊢
 have cL:ce.locals=s3.heap.objs.size:=by subst hce;rfl
 generalize hH3:upd H2 D (.lst [])=H3 at I3 I4 pg pt pe w0 nfp f3
 generalize hs4:({s3 with heap:=pushCells (s3.heap.push {cls:=.type "dict",data:=.dict #[]}) scope.names}:Shared)=s4 at I4⊢
 have st4:tn 0 s4.heap:=T.keep _ _ _ st3 λb _ o e=>by rw[<-hs4];exact pushCells_keeps _ _ _ _ (Heap.get?_push_of_some _ e)
 have stat:∀{σ':St}{H':Hp}{s':Shared},Inv (X.dg s3 H3 scope ce fp) [] σ' H' s'->(∀b∈fp,H' b=none)->∀b∈fp,fh (X.dg s3 H3 scope ce fp) [] H' b:=λ{σ' H' s'}I' hn b hb=>
  ⟨hn b hb,(I'.ok.lE b hb).1,I'.ok.jX b hb,.inl hb,λx c e=>(I'.ok.lE b hb).2 x c e,λp hp=>absurd (show p∈([]:List (Addr×Obj))++[] from hp) (by simp)⟩
 have loop:codeAny (model X.prog X.w) X.A (.compLoop (.ListComp elt [⟨tg,iter,ifs,0⟩] scope pos) 0 (.ref it) (.ref D) ce) (compPost (model X.prog X.w) X.A X.xe use Qf (.ref D) s3.heap.objs.size) s4:=by
  refine DB (λn s'=>∃i H',Inv (X.dg s3 H3 scope ce fp) [] (wipe σ (own.map (·.2))) H' s'/\tn i s'.heap/\(∀b∈fp,H' b=none)/\W i n H') ?_ m0 ⟨0,H3,I4,st4,nfp,w0⟩
  rintro n s5 ⟨i,H5,I5,st5,n5,w5⟩
  rcases turn i n H5 w5 with⟨stop,qq⟩|⟨go,Nx,hNx,step⟩
  .have td:=T.done (X.dg s3 H3 scope ce fp) rfl rfl rfl hc i [] s5 _ H5 (λ_ _=>False) I5 (stat I5 n5) st5 stop
   refine ju td λr s6⟨hr,I6⟩=>?_
   subst hr
   have I7:Inv X pins σ H5 s6:=I3.Dq (ch:=fp) I6.os I6.base I6.aH I6.bare λb hb=>⟨(f3 b hb).1.2.2.2.1,(f3 b hb).1.2.1,(f3 b hb).1.2.2.2.2.1,(f3 b hb).1.2.2.2.2.2⟩
   have nC:H5 s3.heap.objs.size=none:=by
    have z:H5 ce.locals=none:=I6.free
    rw[cL] at z
    exact z
   obtain⟨m,hn,_⟩:=I6.loc
   have hn:s6.heap.Ns ce.locals m:=hn
   rw[cL] at hn
   exact hRR D s3.heap.objs.size s6 m H5 I7 qq hn (I3.j7 (Nat.le_refl _) nC)
  .have ti:=T.item (X.dg s3 H3 scope ce fp) rfl rfl rfl hc i [] s5 _ H5 (λ_ _=>False) I5 (stat I5 n5) st5 go
   refine ju ti λr s6⟨u,hr,h6⟩=>?_
   subst hr
   refine ju h6 λ_ s7⟨x,H7,I7,r7,y7,st7,n7⟩=>?_
   have I7':=I7.pinned (stat I7 n7) (T.obj _ _ st7)
   refine ju (pg _ s7 _ H7 x u _ I7' r7 (step x H7 y7)) λ_ s8⟨σ8,H8,I8,hw8,q8⟩=>?_
   refine ju (pt _ s8 σ8 H8 _ I8 q8) λb s9⟨H9,I9,q9⟩=>?_
   have fin:∀{s':Shared}{H':Hp},Inv (X.dg s3 H3 scope ce fp) ([]++kF fp s7.heap) σ8 H' s'->Nx H'->∃m,m<n/\∃i H',Inv (X.dg s3 H3 scope ce fp) [] (wipe σ (own.map (·.2))) H' s'/\tn i s'.heap/\(∀b∈fp,H' b=none)/\W i m H':=λ{s' H'}I' nx=>by
    obtain⟨m',hm,w'⟩:=hNx H' nx
    have pin':∀b∈fp,∀o,s7.heap.get? b=some o->s'.heap.get? b=some o/\H' b=none:=λb hb o e=>
     let z:=I'.pin (b,o) (List.mem_append_right _ (List.mem_append_right _ (oH hb e)))
     ⟨z.1,z.2.1⟩
    have hl:(wipe σ (own.map (·.2))).length=σ8.length:=by rw[<-hw8,rV]
    refine⟨m',hm,i+1,H',(I'.m3 (pins:=[])).weak hl (λj v e=>?_),T.keep _ _ _ st7 λb hb o e=>(pin' b hb o e).1,λb hb=>?_,w'⟩
    .rw[<-hw8] at e
     exact(rW e).1
    .obtain⟨o,e,_⟩:=T.obj _ _ st7 b hb
     exact(pin' b hb o e).2
   cases b with
   |false=>
    simp only[Bool.false_eq_true,if_false] at q9⊢
    exact fin I9 q9
   |true=>
    simp only[if_true] at q9⊢
    refine ju (pe _ s9 σ8 H9 _ I9 q9) λz s10⟨yv,H10,I10,r10,acc,hD10,hz10,nx⟩=>?_
    exact Cv (X:=X.dg s3 H3 scope ce fp) I10 hD10 hz10 r10 λs11 I11=>fin I11 nx
 exact codeAny_compStart_list loop (T.self X.A 0 _ _ _ st4 loop)
theorem iF{elt tg iter:Expr}{ifs:List Expr}{scope:Scope}{own:List (Str×Nat)}{pos:Pos}{wi:TI}{g:TG}{tt:TT}{te:TE}(hc:X.calm=true)(hN:X.N.Nodup)(hi:PI X tg iter wi)(ok:jz X.N X.env.scope scope own)(hg:∀(s:Shared)(H:Hp)(C:Addr)(cl:List (Str×Addr))(fp:List Addr),PG (X.dg s H scope (compEnvC scope cl C X.env) fp) tg g)(ht:∀(s:Shared)(H:Hp)(C:Addr)(cl:List (Str×Addr))(fp:List Addr),jE (X.dg s H scope (compEnvC scope cl C X.env) fp) ifs tt)(he:∀(s:Shared)(H:Hp)(C:Addr)(cl:List (Str×Addr))(fp:List Addr),PE (X.dg s H scope (compEnvC scope cl C X.env) fp) elt te)(hs:∀x,foldedSetIterable iter X.env x=pure x:=by intro _;rfl):PE X (.ListComp elt [⟨tg,iter,ifs,0⟩] scope pos) (kU wi g tt te (own.map (·.2))):=by
 intro pins s σ H Q I h
 rw[eval_ListComp]
 refine xZ hc hN I hi ok hg ht he hs h λD C s' m H' I' q hn f=>⟨m,hn,λh'' sb=>?_⟩
 obtain⟨f0,f1,f2,f3,f4,f5⟩:=f
 exact⟨.ref D,H',I'.turned (t':=s'.toks) (λb o hb e=>(sb.2 b hb).trans e) f0 f1 f3 f4 f5,rfl,q⟩
theorem kG{i:Nat}{y:Str}{py:Pos}{elt tg iter:Expr}{ifs:List Expr}{scope:Scope}{own:List (Str×Nat)}{pos spos:Pos}{wi:TI}{g:TG}{tt:TT}{te:TE}(hc:X.calm=true)(hN:X.N.Nodup)(hy:X.N[i]? =some y)(hyl:X.env.scope.names.lookup y=some .local)(hsw:swapsWith (.ListComp elt [⟨tg,iter,ifs,0⟩] scope pos) (some (.Name y py)) spos.line X.env=pure true)(hi:PI X tg iter wi)(ok:jz X.N X.env.scope scope own)(hg:∀(s:Shared)(H:Hp)(C:Addr)(cl:List (Str×Addr))(fp:List Addr),PG (X.dg s H scope (compEnvC scope cl C X.env) fp) tg g)(ht:∀(s:Shared)(H:Hp)(C:Addr)(cl:List (Str×Addr))(fp:List Addr),jE (X.dg s H scope (compEnvC scope cl C X.env) fp) ifs tt)(he:∀(s:Shared)(H:Hp)(C:Addr)(cl:List (Str×Addr))(fp:List Addr),PE (X.dg s H scope (compEnvC scope cl C X.env) fp) elt te)(hs:∀x,foldedSetIterable iter X.env x=pure x:=by intro _;rfl):PS X (.Assign [.Name y py] (.ListComp elt [⟨tg,iter,ifs,0⟩] scope pos) spos) (mV (kU wi g tt te (own.map (·.2))) (gT i)):=by
 intro pins s σ H D I h
 rw[exec_Assign_Name_used _ _ _ _ hsw]
 refine wpAny_bind (wpAny_standAt (wpAny_bind ?_))
 show wpAny _ X.A (do let _<-comprehension (.ListComp elt [⟨tg,iter,ifs,0⟩] scope pos) scope X.env (firstIterPos [⟨tg,iter,ifs,0⟩] pos) (newList []) false (eval iter X.env) (some (assign (.Name y py) X.env))) _ _ s
 have h:kU wi g tt te (own.map (·.2)) σ H (λx H1=>gT i x σ H1 D.nx):=h
 refine wpAny_bind (aJ (xZ (Qf:=λ_ s'=>SP X pins D .next s') hc hN I hi ok hg ht he hs h λL C s' m H' I' q hn f=>?_) λ_ s' hq=>wpAny_pure (wpAny_pure hq))
 show wpAny _ _ (assign (.Name y py) X.env (.ref L)) _ _ _
 refine wpAny_assign_Name (AA (v:=V.ref L) I' hN hy (.inl hyl) rfl (λs2 I2⟨a,sb,ha⟩=>?_) (.inr hyl))
 obtain⟨f0,f1,f2,f3,f4,f5⟩:=f
 have haC:C≠a:=by
  rcases ha with z|z
  .rw[z];exact f1
  .exactλe=>f4 y a z e.symm
 refine⟨m,hn.sameBut sb haC,λh3 sb3=>?_⟩
 exact⟨_,H',I2.turned (t':=s2.toks) (λb o hb e=>(sb3.2 b hb).trans e) f0 f1 f3 f4 f5,q⟩
theorem kT{elt:Expr}{gs:List Comprehension}{scope:Scope}{pos py:Pos}{y:Str}{l:Nat}{env:Env}(hk:env.scope.kind=.function)(hy:env.scope.names.lookup y=some .local)(hl:(py.line==pos.line)=true)(ha:(scope.names.any λ(n,k)=>n==y&&(k== .local||k== .cell))=false):swapsWith (.ListComp elt gs scope pos) (some (.Name y py)) l env=pure true:=by
 have ky:env.kindOf y=some .local:=hy
 have hb:env.blockKind=.function:=by unfold Env.blockKind;rw[hk];rfl
 unfold swapsWith
 simp only[hb,ky,ha,Expr.pos,hl]
 rfl
end
theorem ow{lo:Int}{n:Nat}{g:TG}{tt:TT}{te:TE}{vs:List Nat}{σ:St}{H1:Hp}{D:Addr}{Qd:Hp->Prop}(Pv:Nat->Hp->Prop)(h0:Pv 0 (upd H1 D (.lst [])))(hs:∀i H,i<n->Pv i H->g (.int (lo+i)) (wipe σ vs) H λσ2 H2=>wipe σ2 vs=wipe σ vs/\tt σ2 H2 λb H3=>
                                                                                                                                                    if b=true then te σ2 H3 λy H4=>∃acc,H4 D=some (.lst acc)/\acc.length<sizeLine/\Pv (i+1) (upd H4 D (.lst (acc++[y]))) else Pv (i+1) H3) (hd:∀H,Pv n H->Qd H):
 ∃W:Nat->Nat->Hp->Prop,(∃m,W 0 m (upd H1 D (.lst [])))/\∀i m H,W i m H->((dS lo n).stop i H/\Qd H)\/((dS lo n).go i H/\∃Nx:Hp->Prop,(∀H',Nx H'->∃m',m'<m/\W (i+1) m' H')/\∀x H',(dS lo n).d8 i H x H'->g x (wipe σ vs) H' λσ2 H2=>wipe σ2 vs=wipe σ vs/\tt σ2 H2 λb H3=>
                                                                          if b=true then te σ2 H3 λy H4=>∃acc,H4 D=some (.lst acc)/\acc.length<sizeLine/\Nx (upd H4 D (.lst (acc++[y]))) else Nx H3):=by
 refine⟨λi m H=>m=n -i/\i<=n/\Pv i H,⟨n,by simp,Nat.zero_le _,h0⟩,?_⟩
 rintro i m H ⟨rfl,hi,p⟩
 by_cases hlt:i<n
 .refine .inr ⟨hlt,Pv (i+1),λH' p'=>⟨n -(i+1),by omega,rfl,hlt,p'⟩,λx H' y=>?_⟩
  obtain⟨e,y⟩:=y
  subst e y
  exact hs i _ hlt p
 .have e:i=n:=by omega
  subst e
  exact .inl ⟨Nat.le_refl _,hd H p⟩
theorem x9{K:PySem.W.Frag}{a:Addr}{xs:List V}{g:TG}{tt:TT}{te:TE}{vs:List Nat}{σ:St}{H1:Hp}{D:Addr}{Qd:Hp->Prop}(Pv:Nat->Hp->Prop)(h0:Pv 0 (upd H1 D (.lst [])))(hl:∀i H,i<=xs.length->Pv i H->ax K H a xs)(hs:∀i x H,xs[i]? =some x->Pv i H->g x (wipe σ vs) H λσ2 H2=>wipe σ2 vs=wipe σ vs/\tt σ2 H2 λb H3=>
                                                                                                                                                                                                                   if b=true then te σ2 H3 λy H4=>∃acc,H4 D=some (.lst acc)/\acc.length<sizeLine/\Pv (i+1) (upd H4 D (.lst (acc++[y]))) else Pv (i+1) H3) (hd:∀H,Pv xs.length H->Qd H):
 ∃W:Nat->Nat->Hp->Prop,(∃m,W 0 m (upd H1 D (.lst [])))/\∀i m H,W i m H->((dR K a).stop i H/\Qd H)\/((dR K a).go i H/\∃Nx:Hp->Prop,(∀H',Nx H'->∃m',m'<m/\W (i+1) m' H')/\∀x H',(dR K a).d8 i H x H'->g x (wipe σ vs) H' λσ2 H2=>wipe σ2 vs=wipe σ vs/\tt σ2 H2 λb H3=>
                                                                          if b=true then te σ2 H3 λy H4=>∃acc,H4 D=some (.lst acc)/\acc.length<sizeLine/\Nx (upd H4 D (.lst (acc++[y]))) else Nx H3):=by
 refine⟨λi m H=>m=xs.length -i/\i<=xs.length/\Pv i H,⟨xs.length,by simp,Nat.zero_le _,h0⟩,?_⟩
 rintro i m H ⟨rfl,hi,p⟩
 have q:=hl i H hi p
 by_cases hlt:i<xs.length
 .refine .inr ⟨⟨xs,xs[i],q,by simp[hlt]⟩,Pv (i+1),λH' p'=>⟨xs.length -(i+1),by omega,rfl,hlt,p'⟩,λx H' y=>?_⟩
  obtain⟨e,y⟩:=y
  subst e
  exact hs i x _ (y xs q) p
 .have e:i=xs.length:=by omega
  subst e
  exact .inl ⟨⟨xs,q,Nat.le_refl _⟩,hd H p⟩
def d_(N:List Str)(sc scope:Scope)(own:List (Str×Nat)):Bool:=
 (match scope.kind with|.function=>true|_=>false)&&(scope.names.all λy=>decide (scope.names.lookup y.1=some y.2))&&(own.all λp=>decide (N[p.2]? =some p.1))&&(scope.names.all λy=>match y.2 with
                                                                                                                                                               |.free=>(match sc.names.lookup y.1 with|some .cell=>true|some .free=>true|_=>false)
                                                                                                                                                               |.local=>decide (y.1∈own.map (·.1))||decide (y.1∉N)
                                                                                                                                                               |.cell=>decide (y.1∈own.map (·.1))||decide (y.1∉N)
                                                                                                                                                               |_=>true)
theorem eY{N:List Str}{sc scope:Scope}{own:List (Str×Nat)}(h:d_ N sc scope own=true):jz N sc scope own:=by
 unfold d_ at h
 simp only[Bool.and_eq_true,List.all_eq_true,decide_eq_true_eq] at h
 obtain⟨⟨⟨h1,h2⟩,h3⟩,h4⟩:=h
 refine⟨?_,h2,h3,λy hy e=>?_,λy hy e=>?_⟩
 .split at h1
  .assumption
  .cases h1
 .have q:=h4 y hy
  simp only[e] at q
  split at q<;>first|exact .inl (by assumption)|exact .inr (by assumption)|cases q
 .have q:=h4 y hy
  rcases e with e|e<;>(simp only[e,Bool.or_eq_true,decide_eq_true_eq] at q;exact q)
end L2
namespace L2
open PySem PySem.Spec PyProof.Rows
end L2
namespace L2
open PySem PySem.Spec PyProof.Rows
section
variable{κ:Type}[DecidableEq κ]
def dH(kvs:List (κ×V))(k:κ):Option V:=(kvs.find? λkv=>decide (kv.1=k)).map (·.2)
def putK(kvs:List (κ×V))(k:κ)(v:V):List (κ×V):=
 if(kvs.any λkv=>decide (kv.1=k))=true then kvs.map (λkv=>if kv.1=k then(kv.1,v) else kv) else kvs++[(k,v)]
def eh(kvs:List (κ×V))(k:κ):List (κ×V):=kvs.filter λkv=>decide (kv.1≠k)
theorem m8{p:κ×V}{r:List (κ×V)}{k:κ}(e:p.1=k):dH (p::r) k=some p.2:=by simp[dH,List.find?_cons,e]
theorem m7{p:κ×V}{r:List (κ×V)}{k:κ}(e:¬p.1=k):dH (p::r) k=dH r k:=by simp[dH,List.find?_cons,e]
theorem m6(k:κ):∀kvs:List (κ×V),(kvs.any λkv=>decide (kv.1=k))=(dH kvs k).isSome
 |[]=>rfl
 |p::r=>by
  rw[List.any_cons]
  by_cases e:p.1=k
  .simp only[m8 e,decide_eq_true e,Bool.true_or,Option.isSome_some]
  .rw[m7 e,decide_eq_false e,Bool.false_or];exact m6 k r
theorem ox(kvs:List (κ×V))(k:κ)(v:V):(putK kvs k v).length<=kvs.length+1:=by
 unfold putK
 split
 .rw[List.length_map];omega
 .rw[List.length_append,List.length_cons,List.length_nil];omega
theorem Jj{kvs:List (κ×V)}{k:κ}(v:V)(h:dH kvs k=none):putK kvs k v=kvs++[(k,v)]:=by
 unfold putK
 rw[m6,h]
 exact if_neg (by decide)
theorem dI.i8{o:Option V}{u:Option Value}(r:dI o u):o.isSome=u.isSome:=by
 cases o with
 |none=>cases u with
  |none=>rfl
  |some _=>exact(show False from r).elim
 |some _=>cases u with
  |none=>exact(show False from r).elim
  |some _=>rfl
theorem dI.getD{o:Option V}{u:Option Value}{d:V}{d':Value}(r:dI o u)(rd:RelV d d'):RelV (o.getD d) (u.getD d'):=by
 cases o with
 |none=>cases u with
  |none=>exact rd
  |some _=>exact(show False from r).elim
 |some _=>cases u with
  |none=>exact(show False from r).elim
  |some _=>exact r
theorem KV.val{kvs:List (κ×V)}{vs:List (κ×Value)}(r:KV kvs vs)(k:κ):dI (dH kvs k) (valueAt vs k):=by
 unfold KV at r
 induction r with
 |nil=>exact True.intro
 | @cons p q ps qs h t ih=>
   obtain⟨h1,h2⟩:=h
   by_cases e:p.1=k
   .have e':q.1=k:=h1.symm.trans e
    have b:valueAt (q::qs) k=some q.2:=by simp[valueAt,List.find?_cons,e']
    rw[m8 e,b];exact h2
   .have e':¬q.1=k:=λz=>e (h1.trans z)
    have b:valueAt (q::qs) k=valueAt qs k:=by simp[valueAt,List.find?_cons,e']
    rw[m7 e,b];exact ih
theorem KV.any{kvs:List (κ×V)}{vs:List (κ×Value)}(r:KV kvs vs)(k:κ):(kvs.any λkv=>decide (kv.1=k))=vs.any λkv=>decide (kv.1=k):=by
 unfold KV at r
 induction r with
 |nil=>rfl
 |cons h t ih=>rw[List.any_cons,List.any_cons,ih,h.1]
theorem KV.pJ{kvs:List (κ×V)}{vs:List (κ×Value)}(r:KV kvs vs)(k:κ){y:V}{u:Value}(ry:RelV y u):KV (kvs.map λkv=>if kv.1=k then(kv.1,y) else kv) (vs.map λkv=>if kv.1=k then(kv.1,u) else kv):=by
 unfold KV at r⊢
 induction r with
 |nil=>exact .nil
 | @cons p q ps qs h t ih=>
   rw[List.map_cons,List.map_cons]
   refine .cons ?_ ih
   obtain⟨h1,h2⟩:=h
   by_cases e:p.1=k
   .rw[if_pos e,if_pos (h1.symm.trans e)];exact⟨h1,ry⟩
   .rw[if_neg e,if_neg (λz=>e (h1.trans z))];exact⟨h1,h2⟩
theorem KV.put{kvs:List (κ×V)}{vs:List (κ×Value)}(r:KV kvs vs)(k:κ){y:V}{u:Value}(ry:RelV y u):KV (putK kvs k y) (stored vs k u):=by
 unfold putK stored
 rw[r.any k]
 by_cases e:(vs.any λkv=>decide (kv.1=k))=true
 .rw[if_pos e,if_pos e];exact r.pJ k ry
 .rw[if_neg e,if_neg e];exact Paired.snoc r ⟨rfl,ry⟩
theorem KV.drop{kvs:List (κ×V)}{vs:List (κ×Value)}(r:KV kvs vs)(k:κ):KV (eh kvs k) (without vs k):=by
 unfold KV at r⊢
 unfold eh without
 induction r with
 |nil=>exact .nil
 | @cons p q ps qs h t ih=>
   obtain⟨h1,h2⟩:=h
   rw[List.filter_cons,List.filter_cons]
   by_cases e:p.1=k
   .have a:¬decide (p.1≠k)=true:=by simp[e]
    have b:¬decide (q.1≠k)=true:=by simp[h1.symm.trans e]
    rw[if_neg a,if_neg b];exact ih
   .have e':¬q.1=k:=λz=>e (h1.trans z)
    have a:decide (p.1≠k)=true:=by simp[e]
    have b:decide (q.1≠k)=true:=by simp[e']
    rw[if_pos a,if_pos b];exact .cons ⟨h1,h2⟩ ih
theorem KV.keys{kvs:List (κ×V)}{vs:List (κ×Value)}(r:KV kvs vs):kvs.map (·.1)=vs.map (·.1):=by
 unfold KV at r
 induction r with
 |nil=>rfl
 |cons h t ih=>rw[List.map_cons,List.map_cons,ih,h.1]
theorem KV.length{kvs:List (κ×V)}{vs:List (κ×Value)}(r:KV kvs vs):kvs.length=vs.length:=Paired.length r
theorem vo(kvs:List (κ×V))(k:κ):(eh kvs k).length<=kvs.length:=List.length_filter_le _ _
end
theorem gq{P:Program}{w:World}{k:Key}{u:Value}(r:RelV (kV k) u):(cE P w).is k u=true:=by
 cases k with
 |inl i=>obtain⟨t,e⟩:=(show∃t,u=Value.int i t from r);subst e;exact Gd P w i t
 |inr x=>obtain⟨t,e⟩:=(show∃t,u=Value.str x t from r);subst e;exact Ge P w x t
theorem xU{P:Program}{w:World}:∀{ks:List Key}{us:List Value},Vals (ks.map kV) us->ItemsAre (cE P w) ks us
 |[],_,r=>by rw[List.map_nil] at r;cases r;exact .nil
 |k::ks,_,r=>by
  rw[List.map_cons] at r
  cases r with
  |cons h t=>exact .cons (gq h) (xU t)
abbrev KT(H:Hp):List (List Key×V)->List (List Key×Addr×Value)->Prop:=Paired λp q=>p.1=q.1/\H q.2.1=some (.tup (p.1.map kV))/\RelV p.2 q.2.2
theorem KT.val{H:Hp}{kvs:List (List Key×V)}{xs:List (List Key×Addr×Value)}(r:KT H kvs xs)(k:List Key):dI (dH kvs k) ((atKey xs k).map (·.2)):=by
 induction r with
 |nil=>exact True.intro
 | @cons p q ps qs h t ih=>
   obtain⟨h1,_,h2⟩:=h
   by_cases e:p.1=k
   .have e':q.1=k:=h1.symm.trans e
    have b:atKey (q::qs) k=some q.2:=by simp[atKey,List.find?_cons,e']
    rw[m8 e,b];exact h2
   .have e':¬q.1=k:=λz=>e (h1.trans z)
    have b:atKey (q::qs) k=atKey qs k:=by simp[atKey,List.find?_cons,e']
    rw[m7 e,b];exact ih
theorem KT.pJ{H:Hp}{kvs:List (List Key×V)}{xs:List (List Key×Addr×Value)}(r:KT H kvs xs)(k:List Key){y:V}{u:Value}(ry:RelV y u):KT H (kvs.map λkv=>if kv.1=k then(kv.1,y) else kv) (xs.map (putAt k u)):=by
 induction r with
 |nil=>exact .nil
 | @cons p q ps qs h t ih=>
   rw[List.map_cons,List.map_cons]
   refine .cons ?_ ih
   obtain⟨h1,h2,h3⟩:=h
   unfold putAt
   by_cases e:p.1=k
   .rw[if_pos e,if_pos (h1.symm.trans e)];exact⟨h1,h2,ry⟩
   .rw[if_neg e,if_neg (λz=>e (h1.trans z))];exact⟨h1,h2,h3⟩
theorem KT.put{H:Hp}{kvs:List (List Key×V)}{xs:List (List Key×Addr×Value)}(r:KT H kvs xs)(k:List Key){b:Addr}{y:V}{u:Value}(hb:H b=some (.tup (k.map kV)))(ry:RelV y u):KT H (putK kvs k y) (storedH xs k b u):=by
 have e:(kvs.any λkv=>decide (kv.1=k))=(atKey xs k).isSome:=by
  rw[m6,(r.val k).i8,Option.isSome_map]
 unfold putK storedH
 rw[e]
 by_cases q:(atKey xs k).isSome=true
 .rw[if_pos q,if_pos q];exact r.pJ k ry
 .rw[if_neg q,if_neg q];exact Paired.snoc r ⟨rfl,hb,ry⟩
theorem KT.keeps{H H':Hp}{kvs:List (List Key×V)}{xs:List (List Key×Addr×Value)}(r:KT H kvs xs)(ht:∀b ys,H b=some (.tup ys)->H' b=some (.tup ys)):KT H' kvs xs:=
 Paired.oE r λ_ _ z=>⟨z.1,ht _ _ z.2.1,z.2.2⟩
section
variable{P:Program}{w:World}{H:Hp}{h:Heap}{a:Addr}
theorem zX{u:HO}(ok:bU P w H h)(e:Rd H a u):cy P w H h a u:=e.ok ok
theorem fq{kvs:List (Key×V)}(ok:bU P w H h)(e:Rd H a (.dK kvs)):kvs.length<=sizeLine/\(a==sysModules)=false/\∃vs,KV kvs vs/\h.DictOf (cE P w) a vs:=
 show cy P w H h a (.dK kvs) from zX ok e
theorem lC{kvs:List (Key×V)}(ok:bU P w H h)(e:H a=some (.dK kvs)):kvs.length<=sizeLine/\(a==sysModules)=false/\∃vs,KV kvs vs/\h.DictOf (cE P w) a vs:=fq ok (.inl e)
theorem i_{ks:List Key}(ok:bU P w H h)(e:H a=some (.tup (ks.map kV))):(tupleKind (cE P w)).is h ks a:=by
 obtain⟨_,its,r,o,h1,h2,n,h3⟩:=(show cy P w H h a (.tup (ks.map kV)) from ok a _ e)
 exact⟨o,its.toArray,n,h1,h2,h3,by simpa using xU r⟩
theorem il{kvs:List (List Key×V)}(ok:bU P w H h)(e:Rd H a (.dT kvs)):kvs.length<=sizeLine/\(a==sysModules)=false/\∃xs,KT H kvs xs/\h.DictOfH (tupleKind (cE P w)) a xs:=by
 obtain⟨z,y,xs,r,o,es,ep,h1,h2,h3,h4,h5⟩:=(show cy P w H h a (.dT kvs) from zX ok e)
 refine⟨z,y,xs,r,o,es,ep,h1,h2,h3,h4,λx hx=>?_,h5⟩
 have all:∀{l:List (List Key×V)}{m:List (List Key×Addr×Value)},KT H l m->∀x∈m,(tupleKind (cE P w)).is h x.1 x.2.1:=by
  intro l m q
  induction q with
  |nil=>intro x hx;exact nomatch hx
  | @cons p q ps qs hq t ih=>
    intro x hx
    rcases List.mem_cons.mp hx with e|hx
    .subst e
     exact i_ ok (by rw[<-hq.1];exact hq.2.1)
    .exact ih x hx
 exact all r x hx
theorem DW{kvs:List (List Key×V)}(ok:bU P w H h)(e:H a=some (.dT kvs)):kvs.length<=sizeLine/\(a==sysModules)=false/\∃xs,KT H kvs xs/\h.DictOfH (tupleKind (cE P w)) a xs:=il ok (.inl e)
end
def cO(H:Hp)(a:Addr)(y:V)(r:Option V):Prop:=
 (∃kvs k,Rd H a (.dK kvs)/\y=kV k/\r=dH kvs k)\/∃kvs k b,Rd H a (.dT kvs)/\y=.ref b/\H b=some (.tup (k.map kV))/\r=dH kvs k
def dQ(H:Hp)(a:Addr)(y v:V)(H':Hp):Prop:=
 (∃kvs k,H a=some (.dK kvs)/\y=kV k/\kvs.length<sizeLine/\H'=upd H a (.dK (putK kvs k v)))\/
 ∃kvs k b,H a=some (.dT kvs)/\y=.ref b/\H b=some (.tup (k.map kV))/\kvs.length<sizeLine/\H'=upd H a (.dT (putK kvs k v))
theorem cO.k{H:Hp}{a:Addr}{kvs:List (Key×V)}{k:Key}(e:H a=some (.dK kvs)):cO H a (kV k) (dH kvs k):=.inl ⟨kvs,k,.inl e,rfl,rfl⟩
theorem dQ.k{H:Hp}{a:Addr}{kvs:List (Key×V)}{k:Key}{v:V}(e:H a=some (.dK kvs))(hl:kvs.length<sizeLine):dQ H a (kV k) v (upd H a (.dK (putK kvs k v))):=.inl ⟨kvs,k,e,rfl,hl,rfl⟩
section
variable{X:Cx}{pins:List (Addr×Obj)}{σ:St}{H:Hp}{s:Shared}{a:Addr}{y v:V}{u r:Value}{o:Option V}{A:Around}{E:Value->Shared->Prop}
theorem Inv.big(I:Inv X pins σ H s):sysModules<s.heap.objs.size:=by
 have h:mainGlobals<s.heap.objs.size:=(I.mod.glob.keeps I.bk).lt
 exact Nat.lt_trans (by decide) h
theorem DJ{Q:Value->Shared->Prop}(hu:A.units+1<cLine)(I:Inv X pins σ H s)(g:cO H a y (some v))(ry:RelV y u)(h:∀w' s',Inv X pins σ H s'->RelV v w'->Q w' s'):wpAny (model X.prog X.w) A (getItem (.ref a) u) Q E s:=by
 rcases g with⟨kvs,k,e,ey,l⟩|⟨kvs,k,b,e,ey,eb,l⟩
 .subst ey
  obtain⟨z,hd,vs,rel,dd⟩:=fq I.aH e
  obtain⟨w',hw,rw'⟩:=dI.some_of (v:=v) (o:=valueAt vs k) (by rw[l];exact rel.val k)
  exact wpAny_getItem_of (gq ry) dd.mapOf hw (h w' _ (I.tok _) rw')
 .subst ey
  cases(show u=Value.ref b from ry)
  obtain⟨z,hd,xs,rel,dd⟩:=il I.aH e
  obtain⟨w',hw,rw'⟩:=dI.some_of (v:=v) (o:=(atKey xs k).map (·.2)) (by rw[l];exact rel.val k)
  obtain⟨p,hp,hp2⟩:=Option.map_eq_some_iff.mp hw
  refine wpAny_getItem_heap (tupleKind_room_in1 hu) (i_ I.aH eb) dd hp ?_
  rw[hp2]
  exact h w' _ (I.tok _) rw'
theorem DK{Q:Value->Shared->Prop}(hu:A.units+1<cLine)(I:Inv X pins σ H s)(g:cO H a y o)(ry:RelV y u)(h:∀s',Inv X pins σ H s'->Q (.bool o.isSome) s'):wpAny (model X.prog X.w) A (compareOp .In u (.ref a)) Q E s:=by
 rcases g with⟨kvs,k,e,ey,l⟩|⟨kvs,k,b,e,ey,eb,l⟩
 .subst ey
  obtain⟨z,hd,vs,rel,dd⟩:=fq I.aH e
  refine wpAny_in_of (gq ry) hd dd.mapOf ?_
  rw[<-(rel.val k).i8,<-l]
  exact h _ (I.tok _)
 .subst ey
  cases(show u=Value.ref b from ry)
  obtain⟨z,hd,xs,rel,dd⟩:=il I.aH e
  refine wpAny_in_heap (tupleKind_room_in1 hu) (i_ I.aH eb) hd dd ?_
  have q:=(rel.val k).i8
  rw[Option.isSome_map] at q
  rw[<-q,<-l]
  exact h _ (I.tok _)
theorem DM{Q:Value->Shared->Prop}(hu:A.units+1<cLine)(I:Inv X pins σ H s)(g:cO H a y o)(ry:RelV y u)(h:∀s',Inv X pins σ H s'->Q (.bool (!o.isSome)) s'):wpAny (model X.prog X.w) A (compareOp .NotIn u (.ref a)) Q E s:=by
 rcases g with⟨kvs,k,e,ey,l⟩|⟨kvs,k,b,e,ey,eb,l⟩
 .subst ey
  obtain⟨z,hd,vs,rel,dd⟩:=fq I.aH e
  refine wpAny_notIn_of (gq ry) hd dd.mapOf ?_
  rw[<-(rel.val k).i8,<-l]
  exact h _ (I.tok _)
 .subst ey
  cases(show u=Value.ref b from ry)
  obtain⟨z,hd,xs,rel,dd⟩:=il I.aH e
  refine wpAny_notIn_heap (tupleKind_room_in1 hu) (i_ I.aH eb) hd dd ?_
  have q:=(rel.val k).i8
  rw[Option.isSome_map] at q
  rw[<-q,<-l]
  exact h _ (I.tok _)
theorem jW{h':Heap}{t':Nat}{ob:HO}(I:Inv X pins σ H s)(mu:gc (H a))(hs:Heap.SameBut a s.heap h')(he:∃q,h'.get? a=some q)(new:cy X.prog X.w (upd H a ob) h' a ob):Inv X pins σ (upd H a ob) {s with heap:=h',toks:=t'}:=
 I.write (x:=a) (e:=a) mu (.inl rfl) (λb q hb z=>(hs.2 b hb).trans z) he new
theorem lB{P:Program}{w:World}{H':Hp}{h':Heap}{kvs:List (Key×V)}{vs:List (Key×Value)}(z:kvs.length<=sizeLine)(hd:(a==sysModules)=false)(rel:KV kvs vs)(dd:h'.DictOf (cE P w) a vs):cy P w H' h' a (.dK kvs):=⟨z,hd,vs,rel,dd⟩
theorem DO{H':Hp}{Q:Unit->Shared->Prop}(hu:A.units+1<cLine)(I:Inv X pins σ H s)(g:dQ H a y v H')(ry:RelV y u)(rv:RelV v r)(h:∀s',Inv X pins σ H' s'->Q () s'):wpAny (model X.prog X.w) A (setItem (.ref a) u r) Q E s:=by
 rcases g with⟨kvs,k,e,ey,l,eH⟩|⟨kvs,k,b,e,ey,eb,l,eH⟩
 .subst ey eH
  obtain⟨z,hd,vs,rel,dd⟩:=lC I.aH e
  have hz:vs.length<=sizeLine:=by rw[<-rel.length];exact z
  have hl:(putK kvs k v).length<=sizeLine:=by have:=ox kvs k v;omega
  refine wpAny_setItem_pairs (hsz:=hz) (gq ry) dd λh' dd' hs=>h _ ?_
  have he:∃q,h'.get? a=some q:=let ⟨q,_,_,hq,_⟩:=dd';⟨q,hq⟩
  exact jW I (by rw[e];exact True.intro) hs he (lB hl hd (rel.put k rv) dd')
 .subst ey eH
  cases(show u=Value.ref b from ry)
  obtain⟨z,hd,xs,rel,dd⟩:=DW I.aH e
  have hz:xs.length<=sizeLine:=by rw[<-Paired.length rel];exact z
  have hl:(putK kvs k v).length<=sizeLine:=by have:=ox kvs k v;omega
  refine wpAny_setItem_heap (hsz:=hz) (tupleKind_room_in1 hu) (i_ I.aH eb) dd λh' dd' hs=>h _ ?_
  obtain⟨q,es,ep,hq,h2,h3,h4,_,h5⟩:=dd'
  refine jW I (by rw[e];exact True.intro) hs ⟨q,hq⟩ ⟨hl,hd,_,(rel.put k eb rv).keeps λc ys ec=>?_,q,es,ep,hq,h2,h3,h4,h5⟩
  rw[aF (fA ec e (λz=>nomatch z))]
  exact ec
end
section
variable{X:Cx}{pins:List (Addr×Obj)}{σ:St}{H:Hp}{s:Shared}{a:Addr}{kvs:List (Key×V)}{k:Key}{u:Value}{A:Around}{E:Value->Shared->Prop}
theorem Ou{Q:Unit->Shared->Prop}(I:Inv X pins σ H s)(e:H a=some (.dK kvs))(ry:RelV (kV k) u)(l:(dH kvs k).isSome=true)(h:∀s',Inv X pins σ (upd H a (.dK (eh kvs k))) s'->Q () s'):wpAny (model X.prog X.w) A (delItem (.ref a) u) Q E s:=by
 obtain⟨z,hd,vs,rel,dd⟩:=lC I.aH e
 refine wpAny_delItem_slot dd.typeIs (by decide) PySem.F.slot_dict_delitem (call_meetsIn PySem.F.slot_dict_delitem dd.typeIs PySem.F.entry_dict_delitem (PySem.F.args_dict_delitem_2 _ _) (meets_dict_delitem_pairs (cE X.prog X.w) a (gq ry)) ⟨vs,dd,by rw[<-rel.length];exact z,by rw[<-(rel.val k).i8];exact l,λh' dd' hs=>h _ ?_⟩)
 have he:∃q,h'.get? a=some q:=let ⟨q,_,_,hq,_⟩:=dd';⟨q,hq⟩
 exact jW I (by rw[e];exact True.intro) hs he (lB (Nat.le_trans (vo kvs k) z) hd (rel.drop k) dd')
theorem DN{v:V}{more:List Value}{Q:Value->Shared->Prop}(I:Inv X pins σ H s)(e:H a=some (.dK kvs))(ry:RelV (kV k) u)(l:dH kvs k=some v)(hm:more=[]\/∃x,more=[x])(h:∀w' s',Inv X pins σ (upd H a (.dK (eh kvs k))) s'->RelV v w'->Q w' s'):wpAny (model X.prog X.w) A (call (.builtin "dict.pop") (.ref a::u::more)) Q E s:=by
 obtain⟨z,hd,vs,rel,dd⟩:=lC I.aH e
 obtain⟨w',hw,rw'⟩:=dI.some_of (v:=v) (o:=valueAt vs k) (by rw[<-l];exact rel.val k)
 have hp:(keyPart u).isSome=true:=by
  cases k with
  |inl i=>obtain⟨t,q⟩:=(show∃t,u=Value.int i t from ry);subst q;rfl
  |inr x=>obtain⟨t,q⟩:=(show∃t,u=Value.str x t from ry);subst q;rfl
 have ha:argsOk "dict.pop" ⟨.ref a::u::more,[]⟩:=by
  rcases hm with q|⟨x,q⟩
  .subst q;exact PySem.F.args_dict_pop_2 _ _
  .subst q;exact PySem.F.args_dict_pop_3 _ _ _
 refine call_meetsIn PySem.F.slot_dict_pop dd.typeIs PySem.F.entry_dict_pop ha (meets_dict_pop_there (cE X.prog X.w) a (gq ry) more hm hp) ⟨vs,w',dd,by rw[<-rel.length];exact z,hw,λh' dd' hs=>h w' _ ?_ rw'⟩
 have he:∃q,h'.get? a=some q:=let ⟨q,_,_,hq,_⟩:=dd';⟨q,hq⟩
 exact jW I (by rw[e];exact True.intro) hs he (lB (Nat.le_trans (vo kvs k) z) hd (rel.drop k) dd')
theorem DL{Q:Value->Shared->Prop}(I:Inv X pins σ H s)(e:Rd H a (.dK kvs))(h:∀t s',Inv X pins σ H s'->Q (.int kvs.length t) s'):wpAny (model X.prog X.w) A (call (.builtin "len") [.ref a]) Q E s:=by
 obtain⟨z,hd,vs,rel,dd⟩:=fq I.aH e
 refine call_len_dict hd dd (by rw[<-rel.length];rw[sizeLine_eq] at z;omega) ?_
 rw[<-rel.length]
 exact h _ _ (I.tok _)
end
def ni(i:Expr):Prop:=∀ov iv,subscripted i false ov iv=operate [ov,iv] (getItem ov iv)
theorem Mg{prog:Program}{w:World}{A:Around}{E:Value->Shared->Prop}{s:Shared}{env:Env}{value slice:Expr}{pos:Pos}{T id:String}{Q:Value->Shared->Prop}(hl:typeLookup (.type T) "__getitem__"=pure (some (.builtin id)))(hs:ni slice)(h:wpAny (model prog w) A (eval value env) (λo s₁=>wpAny (model prog w) A (eval slice env) (λi s₂=>s₂.TypeIs o T/\wpAny (model prog w) A (getItem o i) Q E s₂) E s₁) E s):wpAny (model prog w) A (eval (.Subscript value slice pos) env) Q E s:=by
 refine Subscript_ (wpAny_mono h (λo s₁ h₁=>wpAny_mono h₁ (λi s₂ h₂=>?_) λ_ _ x=>x) λ_ _ x=>x)
 obtain⟨hT,h₂⟩:=h₂
 unfold subscriptTail
 refine wpAny_bind ?_
 rw[getitemInPython_of_ne hT.not_modules]
 refine wpAny_bind (wpAny_specialOf hT hl ?_)
 have fin:wpAny (model prog w) A (subscripted slice false o i) (λr s₃=>wpAny (model prog w) A (letTemporaryGo value o r>>=λ_=>pure r) Q E s₃) E s₂:=by
  rw[hs o i]
  exact wpAny_operating (wpAny_mono h₂ (λr s₃ h₃=>wpAny_bind (wpAny_letTemporaryGo (wpAny_pure h₃))) λ_ _ x=>x)
 first
  |exact wpAny_pure (wpAny_bind fin)
  |exact wpAny_bind (wpAny_pure (wpAny_bind fin))
  |exact wpAny_bind fin
theorem DQ{X:Cx}{pins:List (Addr×Obj)}{σ:St}{H:Hp}{s:Shared}{a:Addr}{y:V}{o:Option V}(I:Inv X pins σ H s)(g:cO H a y o):s.TypeIs (.ref a) "dict":=by
 rcases g with⟨kvs,k,e,_,_⟩|⟨kvs,k,b,e,_,_,_⟩
 .obtain⟨_,_,vs,_,dd⟩:=fq I.aH e
  exact dd.typeIs
 .obtain⟨_,_,xs,_,dd⟩:=il I.aH e
  exact dd.typeIs
def fH(td ty:TE):TE:=λσ H Q=>td σ H λx H1=>ty σ H1 λy H2=>∃a v,x=.ref a/\cO H2 a y (some v)/\Q v H2
def hJ(ty td:TE):TE:=λσ H Q=>ty σ H λy H1=>td σ H1 λx H2=>∃a o,x=.ref a/\cO H2 a y o/\Q (.bl o.isSome) H2
def hU(ty td:TE):TE:=λσ H Q=>ty σ H λy H1=>td σ H1 λx H2=>∃a o,x=.ref a/\cO H2 a y o/\Q (.bl (!o.isSome)) H2
def gZ(td ty tv:TE):TS:=λD σ H=>tv σ H λv H1=>td σ H1 λx H2=>ty σ H2 λy H3=>∃a H4,x=.ref a/\dQ H3 a y v H4/\D.nx σ H4
section
variable{X:Cx}{o i e value:Expr}{pos pos' tpos:Pos}{td ty tv:TE}
theorem bT(hu:X.A.units+1<cLine)(ho:PE X o td)(hi:PE X i ty)(hs:ni i):PE X (.Subscript o i pos) (fH td ty):=by
 intro pins s σ H Q I h
 refine Mg PySem.F.slot_dict_getitem.lookup hs (aJ (ho pins s σ H _ I h) λu s1⟨x,H1,I1,rx,q1⟩=>aJ (hi pins s1 σ H1 _ I1 q1) λiv s2⟨y,H2,I2,ry,a,v,ex,g,q2⟩=>?_)
 subst ex
 obtain rfl:u=Value.ref a:=rx
 exact⟨DQ I2 g,DJ hu I2 g ry λw' s3 I3 rw'=>⟨v,H2,I3,rw',q2⟩⟩
theorem jh(hu:X.A.units+1<cLine)(hi:PE X i ty)(ho:PE X o td):PC X .In i o (hJ ty td):=by
 intro pins s σ H Q I h
 refine aJ (hi pins s σ H _ I h) λiv s1⟨y,H1,I1,ry,q1⟩=>aJ (ho pins s1 σ H1 _ I1 q1) λu s2⟨x,H2,I2,rx,a,ov,ex,g,q2⟩=>?_
 subst ex
 obtain rfl:u=Value.ref a:=rx
 exact DK hu I2 g ry λs3 I3=>⟨.bl ov.isSome,H2,I3,rfl,q2⟩
theorem cF(hu:X.A.units+1<cLine)(hi:PE X i ty)(ho:PE X o td):PC X .NotIn i o (hU ty td):=by
 intro pins s σ H Q I h
 refine aJ (hi pins s σ H _ I h) λiv s1⟨y,H1,I1,ry,q1⟩=>aJ (ho pins s1 σ H1 _ I1 q1) λu s2⟨x,H2,I2,rx,a,ov,ex,g,q2⟩=>?_
 subst ex
 obtain rfl:u=Value.ref a:=rx
 exact DM hu I2 g ry λs3 I3=>⟨.bl (!ov.isSome),H2,I3,rfl,q2⟩
theorem fF(hu:X.A.units+1<cLine)(ho:PE X o td)(hi:PE X i ty)(hv:PE X value tv)(hs:swapsWith value (some (.Subscript o i pos')) pos.line X.env=pure false):PS X (.Assign [.Subscript o i pos'] value pos) (gZ td ty tv):=by
 intro pins s σ H D I h
 refine wpAny_Assign_Subscript (aJ (hv pins s σ H _ I h) λr s1⟨v,H1,I1,rv,q1⟩=>aJ (ho pins s1 σ H1 _ I1 q1) λu s2⟨x,H2,I2,rx,q2⟩=>aJ (hi pins s2 σ H2 _ I2 q2) λiv s3⟨y,H3,I3,ry,a,H4,ex,g,q3⟩=>?_) hs
 subst ex
 obtain rfl:u=Value.ref a:=rx
 exact DO hu I3 g ry rv λs4 I4=>⟨σ,H4,I4,q3⟩
end
theorem vm{P:Program}{w:World}{H:Hp}(h:Heap)(hb:sysModules<h.objs.size):cy P w H (h.push {cls:=.type "dict",data:=.dict #[]}) h.objs.size (.dK []):=
 ⟨Nat.zero_le _,beq_eq_false_iff_ne.mpr (Ne.symm (Nat.ne_of_lt hb)),[],.nil,Heap.DictOf.new h⟩
def AJ:TE:=λ_ H Q=>∀p,H p=none->Q (.ref p) (upd H p (.dK []))
section
variable{X:Cx}{pos:Pos}
theorem mm:PE X (.Dict [] [] pos) AJ:=λpins s σ H Q I h=>
 wpAny_Dict_empty ⟨.ref s.heap.objs.size,_,I.laid (a:=s.heap.objs.size) (o:=.dK []) (t':=s.toks) (λ_ _ q=>Heap.get?_push_of_some _ q) (Nat.le_refl _) (vm s.heap I.big),rfl,h _ (I.aH.fresh (Nat.le_refl _))⟩
end
def iN:List (TE×TE)->St->Hp->(List (V×V)->Hp->Prop)->Prop
 |[],_,H,Q=>Q [] H
 |(tk,tv)::r,σ,H,Q=>tk σ H λx H1=>tv σ H1 λy H2=>iN r σ H2 λps H3=>Q ((x,y)::ps) H3
abbrev VV:List (V×V)->List (Value×Value)->Prop:=Paired λp q=>RelV p.1 q.1/\RelV p.2 q.2
def k3(X:Cx)(pos:Pos)(keys:List (Option Expr))(values:List Expr)(trs:List (TE×TE)):Prop:=
 ∀(pins:List (Addr×Obj))(s:Shared)(σ:St)(H:Hp)(Q:List (V×V)->Hp->Prop),Inv X pins σ H s->iN trs σ H Q->wpAny (model X.prog X.w) X.A (evalPairs (pairTrees keys values X.env pos)) (λvs s'=>∃ps H',Inv X pins σ H' s'/\VV ps vs/\Q ps H') X.xe s
theorem Ja{X:Cx}{pos:Pos}:k3 X pos [] [] []:=λpins s σ H Q I h=>pairTrees_nil_walk ⟨[],H,I,.nil,h⟩
theorem I_{X:Cx}{pos:Pos}{k v:Expr}{ks:List (Option Expr)}{vs:List Expr}{tk tv:TE}{trs:List (TE×TE)}(hk:PE X k tk)(hv:PE X v tv)(hr:k3 X pos ks vs trs):k3 X pos (some k::ks) (v::vs) ((tk,tv)::trs):=λpins s σ H Q I h=>
 pairTrees_cons_walk (aJ (hk pins s σ H _ I h) λu s1⟨x,H1,I1,rx,q1⟩=>aJ (hv pins s1 σ H1 _ I1 q1) λw2 s2⟨y,H2,I2,ry,q2⟩=>
  aJ (hr pins s2 σ H2 _ I2 q2) λws s3⟨ps,H3,I3,rel,q3⟩=>⟨(x,y)::ps,H3,I3,.cons ⟨rx,ry⟩ rel,q3⟩)
def jc(kvs more:List (Key×V)):List (Key×V):=more.foldl (λacc kv=>putK acc kv.1 kv.2) kvs
theorem KV.merge:∀{more:List (Key×V)}{rs:List (Key×Value)}{kvs:List (Key×V)}{vs:List (Key×Value)},KV more rs->KV kvs vs->KV (jc kvs more) (merged vs rs):=by
 intro more rs kvs vs r
 unfold KV at r
 induction r generalizing kvs vs with
 |nil=>intro q;exact q
 | @cons p q ps qs h t ih=>
   intro r0
   have e:KV (putK kvs p.1 p.2) (stored vs q.1 q.2):=by
    have:=r0.put p.1 h.2
    rw[<-h.1];exact this
   exact ih e
theorem yf:∀(more kvs:List (Key×V)),(jc kvs more).length<=kvs.length+more.length
 |[],kvs=>by show kvs.length<=kvs.length+0;omega
 |p::r,kvs=>by
  have h1:=yf r (putK kvs p.1 p.2)
  have h2:=ox kvs p.1 p.2
  show(jc (putK kvs p.1 p.2) r).length<=_
  rw[List.length_cons];omega
theorem tf{P:Program}{w:World}:∀{kvs:List (Key×V)}{ws:List (Value×Value)},VV (kvs.map λkv=>(kV kv.1,kv.2)) ws->∃rs,Carries (cE P w) ws rs/\KV kvs rs
 |[],_,r=>by rw[List.map_nil] at r;cases r;exact⟨[],True.intro,.nil⟩
 |p::kvs,_,r=>by
  rw[List.map_cons] at r
  cases r with
  | @cons a b as bs h t=>
    obtain⟨rs,c,q⟩:=tf (P:=P) (w:=w) t
    obtain⟨b1,b2⟩:=b
    exact⟨(p.1,b2)::rs,⟨gq h.1,rfl,c⟩,.cons ⟨rfl,h.2⟩ q⟩
def Mw(trs:List (TE×TE)):TE:=λσ H Q=>∀p,H p=none->iN trs σ (upd H p (.dK [])) λps H2=>H2 p=some (.dK [])/\∃kvs:List (Key×V),ps=kvs.map (λkv=>(kV kv.1,kv.2))/\kvs.length<=15/\Q (.ref p) (upd H2 p (.dK (jc [] kvs)))
theorem IE{X:Cx}{pos:Pos}{keys:List (Option Expr)}{values:List Expr}{trs:List (TE×TE)}(h:k3 X pos keys values trs)(hall:keys.all (·.isSome)=true)(hl:keys.length=values.length)(h0:keys≠[])(h15:keys.length<=15):PE X (.Dict keys values pos) (Mw trs):=by
 intro pins s σ H Q I q
 have hn:=I.aH.fresh (Nat.le_refl s.heap.objs.size)
 have I1:=I.laid (a:=s.heap.objs.size) (o:=.dK []) (h':=s.heap.push {cls:=.type "dict",data:=.dict #[]}) (t':=s.toks) (λ_ _ q=>Heap.get?_push_of_some _ q) (Nat.le_refl _) (vm s.heap I.big)
 refine wpAny_Dict_walk (knd:=cE X.prog X.w) hall hl h0 h15 (aJ (h pins _ σ _ _ I1 (q _ hn)) λws s2⟨ps,H2,I2,rel,e,kvs,ep,lk,q2⟩=>?_)
 subst ep
 obtain⟨rs,c,rk⟩:=tf (P:=X.prog) (w:=X.w) rel
 obtain⟨z,hd,vs0,r0,dd⟩:=lC I2.aH e
 cases r0
 refine⟨rs,c,dd,λh' dd' hs=>⟨.ref s.heap.objs.size,_,?_,rfl,q2⟩⟩
 have hz:(jc [] kvs).length<=sizeLine:=by
  have h1:=yf kvs []
  rw[List.length_nil] at h1
  rw[sizeLine_eq];omega
 have he:∃q,h'.get? s.heap.objs.size=some q:=let ⟨q,_,_,hq,_⟩:=dd';⟨q,hq⟩
 exact jW I2 (by rw[e];exact True.intro) hs he (lB hz hd (rk.merge .nil) dd')
structure M1(X:Cx)(o:Expr)(m:Str)(apos:Pos)(e:Expr)(cpos:Pos):Prop where
 base:attributeBase o m X.env (eval o X.env)=eval o X.env
 cY:((backTo cpos (starEach [e] X.env)).all (λx=>!x.1)&&(backToKw cpos (keywordEach [] X.env)).all (λx=>x.1.isSome)&&decide (([e]:List Expr).length+([]:List Keyword).length+(if([]:List Keyword).isEmpty then 0 else 1)<30))=true
 line:(apos.endLine==cpos.line)=true
 trees:backTo cpos (starEach [e] X.env)=[(false,eval e X.env)]
structure M2(X:Cx)(o:Expr)(m:Str)(apos:Pos)(e f:Expr)(cpos:Pos):Prop where
 base:attributeBase o m X.env (eval o X.env)=eval o X.env
 cY:((backTo cpos (starEach [e,f] X.env)).all (λx=>!x.1)&&(backToKw cpos (keywordEach [] X.env)).all (λx=>x.1.isSome)&&decide (([e,f]:List Expr).length+([]:List Keyword).length+(if([]:List Keyword).isEmpty then 0 else 1)<30))=true
 line:(apos.endLine==cpos.line)=true
 trees:backTo cpos (starEach [e,f] X.env)=[(false,eval e X.env),(false,eval f X.env)]
def jA(H:Hp)(a:Addr):Prop:=(∃kvs,Rd H a (.dK kvs))\/∃kvs,Rd H a (.dT kvs)
theorem xR{X:Cx}{pins:List (Addr×Obj)}{σ:St}{H:Hp}{s:Shared}{a:Addr}(I:Inv X pins σ H s)(d:jA H a):s.TypeIs (.ref a) "dict"/\(∀b,Value.ref a=.ref b->∃ob,s.heap.get? b=some ob/\ob.dict=none)/\(a==sysModules)=false:=by
 rcases d with⟨kvs,e⟩|⟨kvs,e⟩
 .obtain⟨_,hd,vs,_,dd⟩:=fq I.aH e
  refine⟨dd.typeIs,λb q=>?_,hd⟩
  cases q
  obtain⟨ob,_,_,h1,h2,_⟩:=dd
  exact⟨ob,h1,h2.2.1⟩
 .obtain⟨_,hd,xs,_,dd⟩:=il I.aH e
  refine⟨dd.typeIs,λb q=>?_,hd⟩
  cases q
  obtain⟨ob,_,_,h1,h2,_⟩:=dd
  exact⟨ob,h1,h2.2.1⟩
section
variable{X:Cx}{pins:List (Addr×Obj)}{σ:St}{H:Hp}{s:Shared}{a:Addr}{y d:V}{u r:Value}{o:Option V}{A:Around}{E:Value->Shared->Prop}
theorem DI{Q:Value->Shared->Prop}(hu:A.units+1<cLine)(I:Inv X pins σ H s)(g:cO H a y o)(ry:RelV y u)(rd:RelV d r)(h:∀w' s',Inv X pins σ H s'->RelV (o.getD d) w'->Q w' s'):wpAny (model X.prog X.w) A (call (.builtin "dict.get") [.ref a,u,r]) Q E s:=by
 rcases g with⟨kvs,k,e,ey,l⟩|⟨kvs,k,b,e,ey,eb,l⟩
 .subst ey
  obtain⟨z,hd,vs,rel,dd⟩:=fq I.aH e
  refine call_meetsIn PySem.F.slot_dict_get dd.typeIs PySem.F.entry_dict_get (PySem.F.args_dict_get_3 _ _ _) (meets_dict_get_default (cE X.prog X.w) a (gq ry) hd r) ⟨_,dd.mapOf,h _ _ (I.tok _) ?_⟩
  rw[l]
  exact(rel.val k).getD rd
 .subst ey
  cases(show u=Value.ref b from ry)
  obtain⟨z,hd,xs,rel,dd⟩:=il I.aH e
  refine call_meetsIn PySem.F.slot_dict_get dd.typeIs PySem.F.entry_dict_get (PySem.F.args_dict_get_3 _ _ _) (meetsH_dict_get_default (tupleKind (cE X.prog X.w)) a b hd r) ⟨tupleKind_room_in1 hu,k,xs,i_ I.aH eb,dd,h _ _ (I.tok _) ?_⟩
  rw[l]
  exact(rel.val k).getD rd
end
def AI(td ty tx:TE):TE:=λσ H Q=>td σ H λx H1=>∃a,x=.ref a/\jA H1 a/\ty σ H1 λy H2=>tx σ H2 λz H3=>∃o,cO H3 a y o/\Q (o.getD z) H3
def AK(td ty:TE):TE:=λσ H Q=>td σ H λx H1=>∃a,x=.ref a/\jA H1 a/\ty σ H1 λy H2=>∃kvs k v,H2 a=some (.dK kvs)/\y=kV k/\dH kvs k=some v/\Q v (upd H2 a (.dK (eh kvs k)))
section
variable{X:Cx}{o e f:Expr}{apos cpos:Pos}{td ty tx:TE}
theorem ID(hu:X.A.units+1<cLine)(ho:PE X o td)(he:PE X e ty)(hf:PE X f tx)(m:M2 X o "get" apos e f cpos):PE X (.Call (.Attribute o "get" apos) [e,f] [] cpos) (AI td ty tx):=by
 intro pins s σ H Q I h
 refine wpAny_Call_method m.base m.cY m.line PySem.F.plainAttrs_dict PySem.F.slot_dict_get PySem.F.type_dict_get (aJ (ho pins s σ H _ I h) λu s1⟨x,H1,I1,rx,a,ex,d,q1⟩=>?_)
 subst ex
 obtain rfl:u=Value.ref a:=rx
 obtain⟨t1,t2,_⟩:=xR I1 d
 refine⟨t1,t2,?_⟩
 rw[m.trees]
 refine Calls.callWith_builtin rfl (Calls.evalArgs_plain (Calls.spliced_cons (aJ (he pins s1 σ H1 _ I1 q1) λiv s2⟨y,H2,I2,ry,q2⟩=>
  Calls.spliced_cons (aJ (hf pins s2 σ H2 _ I2 q2) λfv s3⟨z,H3,I3,rz,ov,g,q3⟩=>Calls.spliced_nil ?_))))
 exact DI hu I3 g ry rz λw' s4 I4 rw'=>⟨_,H3,I4,rw',q3⟩
theorem iD(ho:PE X o td)(he:PE X e ty)(m:M1 X o "pop" apos e cpos):PE X (.Call (.Attribute o "pop" apos) [e] [] cpos) (AK td ty):=by
 intro pins s σ H Q I h
 refine wpAny_Call_method m.base m.cY m.line PySem.F.plainAttrs_dict PySem.F.slot_dict_pop PySem.F.type_dict_pop (aJ (ho pins s σ H _ I h) λu s1⟨x,H1,I1,rx,a,ex,d,q1⟩=>?_)
 subst ex
 obtain rfl:u=Value.ref a:=rx
 obtain⟨t1,t2,_⟩:=xR I1 d
 refine⟨t1,t2,?_⟩
 rw[m.trees]
 refine Calls.callWith_builtin rfl (Calls.evalArgs_plain (Calls.spliced_cons (aJ (he pins s1 σ H1 _ I1 q1) λiv s2⟨y,H2,I2,ry,kvs,k,v,ea,ey,l,q2⟩=>Calls.spliced_nil ?_)))
 subst ey
 exact DN I2 ea ry l (.inl rfl) λw' s3 I3 rw'=>⟨v,_,I3,rw',q2⟩
end
end L2
namespace L2
open PySem PySem.Spec PyProof.Rows
end L2
namespace L2
open PySem PySem.Spec PyProof.Rows
section
variable{X:Cx}{pins:List (Addr×Obj)}{σ:St}{H:Hp}{s:Shared}{h':Heap}
theorem Inv.A9{t':Nat}{ch:List Addr}{T:Addr}{ob:HO}(I:Inv X pins σ H s)(k:∀b o,b∉ch->s.heap.get? b=some o->h'.get? b=some o)(hf:∀b∈ch,fh X pins H b)(hT:s.heap.objs.size<=T)(new:cy X.prog X.w (upd H T ob) h' T ob):Inv X pins σ (upd H T ob) {s with heap:=h',toks:=t'}:=by
 have hn:H T=none:=I.aH.fresh hT
 have nit:∀b u,H b=some u->b∉ch:=λb u e z=>by
  have q:=(hf b z).1
  rw[q] at e;cases e
 refine I.step (g':=s.gens) (d':=s.drawn) (ch:=ch) (λb hb=>⟨(hf b hb).2.2.2.1,(hf b hb).2.1,(hf b hb).2.2.2.2.1,(hf b hb).2.2.2.2.2⟩) (λb o _ _ hc e _=>k b o hc e) (λb o _ _ hc e _=>⟨o.slots,k b o hc e⟩) (λb o _ e n=>?_) (λb o hc e=>⟨o,k b o hc e⟩) (λb xs e=>?_) (λb o u e=>?_) (λb ps e=>⟨#[],?_⟩) (λm hm=>?_) (λb u e=>?_) I.bare
 .rw[aF (Nat.ne_of_lt (Nat.lt_of_lt_of_le (Heap.lt_size e) hT))];exact n
 .rw[aF (cZ e hn)];exact e
 .rw[aF (cZ e hn)];exact e
 .rw[aF (cZ e hn),e];simp
 .obtain⟨o,es,ep,ho,r⟩:=hm
  exact⟨o,es,ep,k _ o (λz=>(hf _ z).2.1 rfl) ho,r⟩
 .by_cases hb:b=T
  .subst hb
   rw[aN] at e
   cases e
   exact new
  .rw[aF hb] at e
   refine(I.aH b u e).fb (λc v hc q=>k c v ?_ q) (λc q=>by rw[aF (cZ q hn)];exact q) λc xs q=>by rw[aF (cZ q hn)];exact q
   rcases hc with z|z
   .rw[z];exact nit b u e
   .exact nit c _ z
theorem Inv.lock{d:Addr}{u:HO}(I:Inv X pins σ H s)(h:H d=some u)(mu:gc (some u)):∃od,Inv X pins σ (upd H d (.bz od u)) s:=by
 have x:=I.aH d u h
 have ex:∃od,s.heap.get? d=some od:=by
  cases u with
  |lst xs=>obtain⟨_,_,_,_,e⟩:=x;exact⟨_,e⟩
  |dK kvs=>obtain⟨_,_,_,_,o,_,_,e,_⟩:=x;exact⟨o,e⟩
  |dT kvs=>obtain⟨_,_,_,_,o,_,_,e,_⟩:=x;exact⟨o,e⟩
  |set S n=>obtain⟨o,_,_,_,e,_⟩:=x;exact⟨o,e⟩
  |ins C dx fs=>obtain⟨_,_,_,e,_⟩:=x;exact⟨_,e⟩
  |ext φ=>obtain⟨_,⟨_,e⟩,_⟩:=x;exact⟨_,e⟩
  |_=>exact False.elim mu
 obtain⟨od,e⟩:=ex
 have new:cy X.prog X.w (upd H d (.bz od u)) s.heap d (.bz od u):=by
  refine⟨e,x.fb (λb v _ q=>q) (λb q=>?_) λb xs q=>?_⟩
  .rw[aF (λz=>by rw[z,h] at q;cases q;exact mu)];exact q
  .rw[aF (λz=>by rw[z,h] at q;cases q;exact mu)];exact q
 exact⟨od,I.write (x:=d) (e:=d) (t':=s.toks) (h':=s.heap) (by rw[h];exact mu) (.inl rfl) (λb v _ q=>q) ⟨od,e⟩ new⟩
theorem Inv.kn{d:Addr}{u:HO}(I:Inv X pins σ H s)(h:H d=some u)(mu:gc (some u)):∀o' u',X.ia d≠some (.bz o' u'):=λo' u' e=>by
 have q:=I.base.fw d o' u' e
 rw[h] at q
 cases q
 exact mu
theorem Inv.unlock{d:Addr}{od:Obj}{u:HO}(I:Inv X pins σ H s)(h:H d=some (.bz od u))(hn:∀o' u',X.ia d≠some (.bz o' u')):Inv X pins σ (upd H d u) s:=by
 have neH:∀b o,H b=some o->(∀o' u',o≠.bz o' u')->b≠d:=λb o e hne z=>by
  rw[z,h] at e
  cases e
  exact hne _ _ rfl
 have neN:∀b,H b=none->b≠d:=λb e z=>by rw[z,h] at e;cases e
 refine⟨I.ok,I.os,I.bare,⟨I.base.keep,I.base.slot,λb o e n hx=>?_,I.base.there,λb xs e=>?_,λb o x e=>?_,λb ps e=>?_⟩,I.loc,I.cell,?_,λx c e=>?_,λp hp=>?_,λb o e=>?_,I.len⟩
 .rw[aF (neN b (I.base.free b o e n hx))];exact I.base.free b o e n hx
 .have q:=I.base.gK b xs e
  rw[aF (neH b _ q (λ_ _ z=>nomatch z))];exact q
 .have q:=I.base.fw b o x e
  rw[aF (λz=>by rw[z] at e;exact hn _ _ e)];exact q
 .obtain⟨m,q⟩:=I.base.gI b ps e
  exact⟨m,by rw[aF (neH b _ q (λ_ _ z=>nomatch z))];exact q⟩
 .rw[aF (neN _ I.free)];exact I.free
 .rw[aF (neN c (I.eJ x c e))];exact I.eJ x c e
 .obtain⟨e,n,r⟩:=I.pin p hp
  exact⟨e,by rw[aF (neN _ n)];exact n,r⟩
 .by_cases hb:b=d
  .rw[hb,aN] at e
   cases e
   rw[hb]
   obtain⟨_,x⟩:=I.aH d _ h
   exact x.fb (λc v _ q=>q) (λc q=>by rw[aF (neH c _ q (λ_ _ z=>nomatch z))];exact q) λc xs q=>by rw[aF (neH c _ q (λ_ _ z=>nomatch z))];exact q
  .rw[aF hb] at e
   exact(I.aH b o e).fb (λc v _ q=>q) (λc q=>by rw[aF (neH c _ q (λ_ _ z=>nomatch z))];exact q) λc xs q=>by rw[aF (neH c _ q (λ_ _ z=>nomatch z))];exact q
end
def AS(t:TS):TS:=λD σ H=>∃d u,H d=some u/\gc (some u)/\∀od,t ⟨λσ' H'=>H' d=some (.bz od u)/\D.nx σ' (upd H' d u),λv H'=>H' d=some (.bz od u)/\D.rt v (upd H' d u),λσ' H'=>H' d=some (.bz od u)/\D.bk σ' (upd H' d u),λσ' H'=>H' d=some (.bz od u)/\D.ct σ' (upd H' d u)⟩ σ (upd H d (.bz od u))
def My(t:TE):TE:=λσ H Q=>∃d u,H d=some u/\gc (some u)/\∀od,t σ (upd H d (.bz od u)) λv H'=>H' d=some (.bz od u)/\Q v (upd H' d u)
section
variable{X:Cx}
theorem mz{st:Stmt}{t:TS}(h:PS X st t):PS X st (AS t):=by
 intro pins s σ H D I hw
 obtain⟨d,u,hd,mu,hw⟩:=hw
 obtain⟨od,I1⟩:=I.lock hd mu
 refine aJ (h pins s σ _ _ I1 (hw od)) λf s1 q=>?_
 cases f with
 |next=>obtain⟨σ',H',I2,e,q⟩:=q;exact⟨σ',_,I2.unlock e (I.kn hd mu),q⟩
 |brk=>obtain⟨σ',H',I2,e,q⟩:=q;exact⟨σ',_,I2.unlock e (I.kn hd mu),q⟩
 |cont=>obtain⟨σ',H',I2,e,q⟩:=q;exact⟨σ',_,I2.unlock e (I.kn hd mu),q⟩
 |ret v=>obtain⟨x,σ',H',I2,r,e,q⟩:=q;exact⟨x,σ',_,I2.unlock e (I.kn hd mu),r,q⟩
theorem IG{e:Expr}{t:TE}(h:PE X e t):PE X e (My t):=by
 intro pins s σ H Q I hw
 obtain⟨d,u,hd,mu,hw⟩:=hw
 obtain⟨od,I1⟩:=I.lock hd mu
 refine aJ (h pins s σ _ _ I1 (hw od)) λv s1⟨x,H1,I2,r,e2,q⟩=>?_
 exact⟨x,_,I2.unlock e2 (I.kn hd mu),r,q⟩
theorem zg{tg:Expr}{pins:List (Addr×Obj)}{σ:St}{H:Hp}{s:Shared}{R:It->Hp->Prop}{J:It}{tn:Nat->Heap->Prop}{tk:Nat}(I:Inv X pins σ H s)(o:Obj)(T:Turn X.prog X.w X.K tg J [s.heap.objs.size] s.heap.objs.size tn)(st:tn 0 (s.heap.push o))(q:R J H):jD X pins σ tg R (.ref s.heap.objs.size) {s with heap:=s.heap.push o,toks:=tk}:=by
 refine⟨s.heap.objs.size,[s.heap.objs.size],tn,J,H,rfl,I.kept λb ob e=>Heap.get?_push_of_some _ e,T,st,λb hb=>?_,q⟩
 have e:b=s.heap.objs.size:=by simpa using hb
 subst e
 exact I.j7 (Nat.le_refl _) (I.aH.fresh (Nat.le_refl _))
end
theorem ou{κ:Type}{kvs:List (κ×V)}{vs:List (κ×Value)}(h:KV kvs vs):∀{i:Nat}{k:κ}{v:V},kvs[i]? =some (k,v)->∃u,vs[i]? =some (k,u)/\RelV v u:=by
 unfold KV at h
 induction h with
 |nil=>intro i k v e;simp at e
 | @cons a b l₁ l₂ r t ih=>
   intro i k v e
   cases i with
   |zero=>
    simp only[List.getElem?_cons_zero,Option.some.injEq] at e
    subst e
    refine⟨b.2,?_,r.2⟩
    simp only[List.getElem?_cons_zero]
    exact congrArg some (Prod.ext r.1.symm rfl)
   |succ j=>
    simp only[List.getElem?_cons_succ] at e⊢
    exact ih e
theorem pI{k:Key}{u:Value}(h:gU k u=true):RelV (kV k) u:=by
 rcases fQ h with⟨i,t,rfl,rfl⟩|⟨x,t,rfl,rfl⟩
 .exact⟨t,rfl⟩
 .exact⟨t,rfl⟩
section
variable{X:Cx}{pins:List (Addr×Obj)}{σ:St}{H:Hp}{s:Shared}{d:Addr}{o:Obj}
theorem Inv.i7{kvs:List (Key×V)}(I:Inv X pins σ H s)(h:H d=some (.bz o (.dK kvs))):(d==sysModules)=false/\s.heap.get? d=some o/\o.ExactDict/\∃(es:Array DictEntry)(ep:Nat)(vs:List (Key×Value)),o.data=.dict es ep/\es.size=kvs.length/\KV kvs vs/\s.heap.DictAt (cE X.prog X.w) d vs ep:=by
 obtain⟨hd,z,hs,vs,kv,o',es,ep,ho,hx,hdt,r⟩:=I.aH d _ h
 rw[hd] at ho
 cases ho
 refine⟨hs,hd,hx,es,ep,vs,hdt,?_,kv,o,es,hd,hx,hdt,r⟩
 have l1:=r.2.1.length
 have l2:kvs.length=vs.length:=Paired.length kv
 rw[Array.length_toList] at l1
 omega
end
def f_(d:Addr)(o:Obj)(kvs:List (Key×V)):It:=
 ⟨λi H=>H d=some (.bz o (.dK kvs))/\i<kvs.length,λi H x H'=>H'=H/\∃k,kvs[i]? =some (k,x),λi H=>H d=some (.bz o (.dK kvs))/\kvs.length<=i⟩
def iU(d:Addr)(o:Obj)(kvs:List (Key×V)):It:=
 ⟨λi H=>H d=some (.bz o (.dK kvs))/\i<kvs.length,λi H x H'=>∃T k v,kvs[i]? =some (k,v)/\x=.ref T/\H T=none/\H'=upd H T (.tup [kV k,v]),λi H=>H d=some (.bz o (.dK kvs))/\kvs.length<=i⟩
theorem lA{o:Obj}{es es':Array DictEntry}{ep ep':Nat}(h:o.data=.dict es ep)(h':o.data=.dict es' ep'):es'=es/\ep'=ep:=by
 rw[h] at h'
 cases h'
 exact⟨rfl,rfl⟩
section
variable{P:Program}{w:World}{K:PySem.W.Frag}{tg:Expr}{d:Addr}{o:Obj}{es:Array DictEntry}{ep:Nat}
theorem ML{kvs:List (Key×V)}(it:Addr)(hod:o.data=.dict es ep):Turn P w K tg (f_ d o kvs) [it] it (λi h=>h.IsValIter it d i kvs.length ep) where
 mem:=by simp
 obj:=λi h st b hb=>by
  have e:b=it:=by simpa using hb
  subst e
  obtain⟨oi,e,c,dd⟩:=st
  exact⟨oi,e,λv z=>by rw[dd] at z;cases z⟩
 keep:=λi h h' st k=>st.at λoi e=>k it (by simp) oi e
 item:=by
  intro X hP hw hK hc i pins s σ H E I hf st hg
  subst hP hw hK
  obtain⟨hd,hi⟩:=hg
  obtain⟨f0,f1,f2,f3,f4,f5⟩:=hf it (by simp)
  obtain⟨hs,hgd,hx,es',ep',vs,hdt,hsz,kv,hm⟩:=I.i7 hd
  obtain⟨rfl,rfl⟩:=lA hod hdt
  obtain⟨⟨k,v⟩,hkv⟩:∃p,kvs[i]? =some p:=⟨kvs[i],List.getElem?_eq_getElem hi⟩
  obtain⟨u,hu,ru⟩:=ou kv hkv
  have hl:kvs.length=vs.length:=Paired.length kv
  rw[hl] at st
  refine wpAny_pyNext_values_item st hm hu λh' st' sb=>?_
  have I1:Inv X pins σ H {s with heap:=h'}:=I.turned (t':=s.toks) (λb ob hb e=>(sb.2 b hb).trans e) f0 f1 f3 f4 f5
  obtain⟨oi,e,c,dd⟩:=id st'
  refine⟨u,rfl,n_ (s:={s with heap:=h'}) e c dd (by decide) ⟨v,H,I1,ru,⟨rfl,k,hkv⟩,?_,λb hb=>(hf b hb).1⟩⟩
  show h'.IsValIter it d (i+1) kvs.length _
  rw[hl]
  exact st'
 done:=by
  intro X hP hw hK hc i pins s σ H E I hf st hg
  subst hP hw hK
  obtain⟨hd,hi⟩:=hg
  obtain⟨f0,f1,f2,f3,f4,f5⟩:=hf it (by simp)
  obtain⟨hs,hgd,hx,es',ep',vs,hdt,hsz,kv,hm⟩:=I.i7 hd
  obtain⟨rfl,rfl⟩:=lA hod hdt
  have hl:kvs.length=vs.length:=Paired.length kv
  rw[hl] at st
  exact wpAny_pyNext_values_end (I.ok.hd hc) st hm (List.getElem?_eq_none (by omega)) λh' eb=>⟨rfl,I.turned (t':=s.toks) (λb ob hb e=>eb b ob hb e) f0 f1 f3 f4 f5⟩
 self:=λA i s Q E st h=>wpAny_pyIter_valiter st h
theorem MI{kvs:List (Key×V)}{elts:List Expr}{kk:Nat}{tpos:Pos}(it:Addr)(hod:o.data=.dict es ep):Turn P w K (.Tuple elts kk tpos) (iU d o kvs) [it] it (λi h=>∃ok ov,IsItemIter h it d i kvs.length ep ok ov) where
 mem:=by simp
 obj:=λi h st b hb=>by
  have e:b=it:=by simpa using hb
  subst e
  obtain⟨ok,ov,e⟩:=st
  exact⟨_,e,λv z=>nomatch z⟩
 keep:=λi h h' st k=>let ⟨ok,ov,e⟩:=st;⟨ok,ov,k it (by simp) _ e⟩
 item:=by
  intro X hP hw hK hc i pins s σ H E I hf st hg
  subst hP hw hK
  obtain⟨hd,hi⟩:=hg
  obtain⟨hs,hgd,hx,es',ep',vs,hdt,hsz,kv,hm⟩:=I.i7 hd
  obtain⟨rfl,rfl⟩:=lA hod hdt
  obtain⟨⟨k,v⟩,hkv⟩:∃p,kvs[i]? =some p:=⟨kvs[i],List.getElem?_eq_getElem hi⟩
  obtain⟨u,hu,ru⟩:=ou kv hkv
  have hl:kvs.length=vs.length:=Paired.length kv
  obtain⟨ok,ov,he⟩:=st
  rw[hl] at he
  have hlt:it<s.heap.objs.size:=Heap.lt_size he
  refine wpAny_pyNext_items_item he hm hu λkey h' hkey ho hT hz hk=>?_
  refine⟨_,rfl,wpAny_letOwnedTupleGo_items (s:={s with heap:=h'}) ho λh'' he' sb=>?_⟩
  have hT2:h''.get? s.heap.objs.size=some {cls:=.type "tuple",data:=.seq #[key,u]}:=(sb.2 _ (Nat.ne_of_gt hlt)).trans hT
  have new:cy X.prog X.w (upd H s.heap.objs.size (.tup [kV k,v])) h'' s.heap.objs.size (.tup [kV k,v]):=
   ⟨by show 2<=sizeLine;decide,[key,u],.cons (pI (show gU k key=true from hkey)) (.cons ru .nil),⟨_,hT2,rfl,_,rfl⟩⟩
  have I1:Inv X pins σ (upd H s.heap.objs.size (.tup [kV k,v])) {s with heap:=h''}:=
   I.A9 (t':=s.toks) (ch:=[it]) (λb ob hb e=>(sb.2 b (by simpa using hb)).trans (hk b ob (by simpa using hb) e)) hf (Nat.le_refl _) new
  refine⟨.ref s.heap.objs.size,_,I1,rfl,⟨_,k,v,hkv,rfl,I.aH.fresh (Nat.le_refl _),rfl⟩,⟨key,u,?_⟩,λb hb=>?_⟩
  .rw[hl];exact he'
  .have e:b=it:=by simpa using hb
   rw[e,aF (Nat.ne_of_lt hlt)]
   exact(hf it (by simp)).1
 done:=by
  intro X hP hw hK hc i pins s σ H E I hf st hg
  subst hP hw hK
  obtain⟨hd,hi⟩:=hg
  obtain⟨f0,f1,f2,f3,f4,f5⟩:=hf it (by simp)
  obtain⟨hs,hgd,hx,es',ep',vs,hdt,hsz,kv,hm⟩:=I.i7 hd
  obtain⟨rfl,rfl⟩:=lA hod hdt
  have hl:kvs.length=vs.length:=Paired.length kv
  obtain⟨ok,ov,he⟩:=st
  rw[hl] at he
  exact wpAny_pyNext_items_end (I.ok.hd hc) he hm (List.getElem?_eq_none (by omega)) λh' eb=>⟨rfl,I.turned (t':=s.toks) (λb ob hb e=>eb b ob hb e) f0 f1 f3 f4 f5⟩
 self:=λA i s Q E st h=>let ⟨_,_,e⟩:=st;PySem.W.kcp_self e h
end
def xN(td:TE):TI:=λσ H R=>td σ H λx H1=>∃d o kvs,x=.ref d/\H1 d=some (.bz o (.dK kvs))/\R (f_ d o kvs) H1
def xJ(td:TE):TI:=λσ H R=>td σ H λx H1=>∃d o kvs,x=.ref d/\H1 d=some (.bz o (.dK kvs))/\R (iU d o kvs) H1
section
variable{X:Cx}{tg e:Expr}{td:TE}{apos cpos:Pos}
theorem pd(he:PE X e td)(hbase:attributeBase e "values" X.env (eval e X.env)=eval e X.env:=by rfl)(hline:(apos.endLine==cpos.line)=true:=by rfl):PI X tg (.Call (.Attribute e "values" apos) [] [] cpos) (xN td):=by
 intro pins s σ H R I h
 refine wpAny_Call_method (T:="dict") (id:="dict.values") hbase rfl hline F.plainAttrs_dict F.slot_dict_values F.type_dict_values (aJ (he pins s σ H _ I h) λu s1⟨x,H1,I1,rx,d,o,kvs,ex,hd,q⟩=>?_)
 subst ex
 obtain rfl:u=Value.ref d:=rx
 obtain⟨hs,hgd,hx,es,ep,vs,hdt,hsz,kv,hm⟩:=I1.i7 hd
 have hl:kvs.length=vs.length:=Paired.length kv
 refine⟨hm.dictOf.typeIs,hm.dictOf.mapOf.noDict,?_⟩
 have I2:Inv X pins σ H1 {s1 with heap:=s1.heap.push {cls:=.type "dict_values",data:=.fields #[.ref d]} }:=I1.kept (t':=s1.toks) λb ob q=>Heap.get?_push_of_some _ q
 have fin:wpAny (model X.prog X.w) X.A (pyIter (.ref s1.heap.objs.size)) (jD X pins σ tg R) X.xe {s1 with heap:=s1.heap.push {cls:=.type "dict_values",data:=.fields #[.ref d]} }:=by
  refine wpAny_pyIter_values (d:=d) (knd:=cE X.prog X.w) ⟨_,Heap.get?_push_size _ rfl,rfl,rfl⟩ (hm.push _) (zg (tk:=s1.toks) I2 _ (ML _ hdt) ⟨_,Heap.get?_push_size _ rfl,rfl,?_⟩ q)
  rw[hl]<;>rfl
 show wpAny _ _ (callWith cpos (.builtin "dict.values") [.ref d] [] []) _ X.xe s1
 exact method_meetsIn F.slot_dict_values F.entry_dict_values rfl (PySem.evalArgs_none ⟨rfl,hm.dictOf.typeIs,F.args_dict_values_1 _,_,meets_dict_values (cE X.prog X.w) d hs,⟨vs,hm.dictOf⟩,fin⟩)
theorem IS{elts:List Expr}{kk:Nat}{tpos:Pos}(he:PE X e td)(hbase:attributeBase e "items" X.env (eval e X.env)=eval e X.env:=by rfl)(hline:(apos.endLine==cpos.line)=true:=by rfl):PI X (.Tuple elts kk tpos) (.Call (.Attribute e "items" apos) [] [] cpos) (xJ td):=by
 intro pins s σ H R I h
 refine wpAny_Call_method (T:="dict") (id:="dict.items") hbase rfl hline F.plainAttrs_dict F.slot_dict_items F.type_dict_items (aJ (he pins s σ H _ I h) λu s1⟨x,H1,I1,rx,d,o,kvs,ex,hd,q⟩=>?_)
 subst ex
 obtain rfl:u=Value.ref d:=rx
 obtain⟨hs,hgd,hx,es,ep,vs,hdt,hsz,kv,hm⟩:=I1.i7 hd
 have hl:kvs.length=vs.length:=Paired.length kv
 refine⟨hm.dictOf.typeIs,hm.dictOf.mapOf.noDict,?_⟩
 have I2:Inv X pins σ H1 {s1 with heap:=s1.heap.push {cls:=.type "dict_items",data:=.fields #[.ref d]} }:=I1.kept (t':=s1.toks) λb ob q=>Heap.get?_push_of_some _ q
 have fin:wpAny (model X.prog X.w) X.A (pyIter (.ref s1.heap.objs.size)) (jD X pins σ (.Tuple elts kk tpos) R) X.xe {s1 with heap:=s1.heap.push {cls:=.type "dict_items",data:=.fields #[.ref d]} }:=by
  refine wpAny_pyIter_items (d:=d) (knd:=cE X.prog X.w) ⟨_,Heap.get?_push_size _ rfl,rfl,rfl⟩ (hm.push _) (zg (tk:=s1.toks) I2 _ (MI _ hdt) ⟨.none,.none,?_⟩ q)
  rw[hl]
  exact Heap.get?_push_size _ rfl
 show wpAny _ _ (callWith cpos (.builtin "dict.items") [.ref d] [] []) _ X.xe s1
 exact method_meetsIn F.slot_dict_items F.entry_dict_items rfl (PySem.evalArgs_none ⟨rfl,hm.dictOf.typeIs,F.args_dict_items_1 _,_,meets_dict_items (cE X.prog X.w) d hs,⟨vs,hm.dictOf⟩,fin⟩)
end
def gb(K:PySem.W.Frag)(a:Addr):It:=
 ⟨λi H=>∃(xs:List V)(x:V),ax K H a xs/\xs[i]? =some x,λi H v H'=>∃T x,v=.ref T/\H T=none/\H'=upd H T (.tup [.int (i:Nat),x])/\∀xs,ax K H a xs->xs[i]? =some x,λi H=>∃xs:List V,ax K H a xs/\xs.length<=i⟩
theorem MH{P:Program}{w:World}{K:PySem.W.Frag}{elts:List Expr}{kk:Nat}{tpos:Pos}(a e it:Addr):Turn P w K (.Tuple elts kk tpos) (gb K a) [e,it] e (λi h=>(∃old,IsEnum h e it ((i:Nat):Int) old)/\h.IsListIter it a i/\e≠it) where
 mem:=by simp
 obj:=λi h st b hb=>by
  obtain⟨⟨old,he⟩,⟨o,ho,hc,hd⟩,_⟩:=st
  have e':b=e\/b=it:=by simpa using hb
  rcases e' with z|z
  .rw[z];exact⟨_,he,λv q=>nomatch q⟩
  .rw[z];exact⟨o,ho,λv q=>by rw[hd] at q;cases q⟩
 keep:=λi h h' st k=>let ⟨⟨old,he⟩,hi,hne⟩:=st;⟨⟨old,k e (by simp) _ he⟩,hi.at λo q=>k it (by simp) o q,hne⟩
 item:=by
  intro X hP hw hK hc i pins s σ H E I hf st hg
  subst hP hw hK
  obtain⟨⟨old,he⟩,hit,hne⟩:=st
  obtain⟨xs,x,hq,hx⟩:=hg
  obtain⟨its,rv,p,hz⟩:=I.list hq
  obtain⟨u,hu,ru⟩:=rv.get hx
  have hel:e<s.heap.objs.size:=Heap.lt_size he
  have hil:it<s.heap.objs.size:=by obtain⟨_,q,_⟩:=hit;exact Heap.lt_size q
  refine wpAny_pyNext_enum_item he hit p.isList (x:=u) (by simpa using hu) hne λh' ho hit' hT hsz hk=>?_
  refine⟨_,rfl,wpAny_letOwnedTupleGo_enum (s:={s with heap:=h',toks:=s.toks+1}) ho λh'' he' sb=>?_⟩
  have hT2:h''.get? s.heap.objs.size=some {cls:=.type "tuple",data:=.seq #[.int i s.toks,u]}:=(sb.2 _ (Nat.ne_of_gt hel)).trans hT
  have new:cy X.prog X.w (upd H s.heap.objs.size (.tup [.int (i:Nat),x])) h'' s.heap.objs.size (.tup [.int (i:Nat),x]):=
   ⟨by show 2<=sizeLine;decide,[.int i s.toks,u],.cons ⟨_,rfl⟩ (.cons ru .nil),⟨_,hT2,rfl,_,rfl⟩⟩
  have I1:Inv X pins σ (upd H s.heap.objs.size (.tup [.int (i:Nat),x])) {s with heap:=h'',toks:=s.toks+1}:=
   I.A9 (ch:=[e,it]) (λb ob hb q=>(sb.2 b (λz=>hb (by simp[z]))).trans (hk b ob (λz=>hb (by simp[z])) (λz=>hb (by simp[z])) q)) hf (Nat.le_refl _) new
  refine⟨.ref s.heap.objs.size,_,I1,rfl,⟨_,x,rfl,I.aH.fresh (Nat.le_refl _),rfl,λys hy=>by rw[I.yj hy hq];exact hx⟩,⟨⟨u,?_⟩,hit'.at λo q=>(sb.2 it (Ne.symm hne)).trans q,hne⟩,λb hb=>?_⟩
  .have e1:((i+1:Nat):Int)=(i:Int)+1:=by omega
   rw[e1];exact he'
  .have hb':b<s.heap.objs.size:=by
    have e':b=e\/b=it:=by simpa using hb
    rcases e' with z|z
    .rw[z];exact hel
    .rw[z];exact hil
   rw[aF (Nat.ne_of_lt hb')]
   exact(hf b hb).1
 done:=by
  intro X hP hw hK hc i pins s σ H E I hf st hg
  subst hP hw hK
  obtain⟨⟨old,he⟩,hit,hne⟩:=st
  obtain⟨xs,hq,hx⟩:=hg
  obtain⟨its,rv,p,hz⟩:=I.list hq
  obtain⟨f0,f1,f2,f3,f4,f5⟩:=hf it (by simp)
  have hl:=rv.length
  exact wpAny_pyNext_enum_end (I.ok.hd hc) he hit p.isList (by simp;omega) λh' eb=>⟨rfl,I.turned (t':=s.toks) (λb o hb q=>eb b o hb q) f0 f1 f3 f4 f5⟩
 self:=λA i s Q E st h=>let ⟨⟨_,he⟩,_⟩:=st;wpAny_pyIter_enum he h
def xI(K:PySem.W.Frag)(ta:TA):TI:=λσ H R=>ta σ H λvs H1=>∃a xs,vs=[.ref a]/\ax K H1 a xs/\R (gb K a) H1
theorem IQ{X:Cx}{e:Expr}{ta:TA}{p pos tpos:Pos}{elts:List Expr}{kk:Nat}(hg:Gl X "enumerate")(hm:X.mg "enumerate"=none)(ha:PA X [e] ta)(hs:starEach [e] X.env=[(false,eval e X.env)]:=by rfl):PI X (.Tuple elts kk tpos) (.Call (.Name "enumerate" p) [e] [] pos) (xI X.K ta):=by
 intro pins s σ H R I h
 refine Call_ (iw I hg hm boot_enumerate (PyProof.Rows.callWith_type1 (aJ (ha pos pins s σ H _ I h) λus s1⟨vs,H1,I1,r1,q1⟩=>?_) hs rfl))
 obtain⟨a,xs,ex,hq,q⟩:=q1
 subst ex
 cases r1 with
 |cons r rr=>
  cases rr
  cases r
  obtain⟨its,rv,p',hz⟩:=I1.list hq
  refine call_enumerate_list p'.isList λh' he hit hsz hk=>wpAny_pyIter_enum he ?_
  have I2:Inv X pins σ H1 {s1 with heap:=h'}:=I1.kept (t':=s1.toks) hk
  refine⟨s1.heap.objs.size+1,[s1.heap.objs.size+1,s1.heap.objs.size],_,_,H1,rfl,I2,MH a (s1.heap.objs.size+1) s1.heap.objs.size,⟨⟨.none,he⟩,hit,Nat.succ_ne_self _⟩,λb hb=>?_,q⟩
  have e':b=s1.heap.objs.size+1\/b=s1.heap.objs.size:=by simpa using hb
  have hle:s1.heap.objs.size<=b:=by
   rcases e' with z|z
   .rw[z];exact Nat.le_add_right _ _
   .rw[z];exact Nat.le_refl _
  exact I1.j7 hle (I1.aH.fresh hle)
end L2
section
namespace Cj
open PySem PyProof.Rows
end Cj
end
section
namespace TL
open PySem PySem.Builtin PySem.Builtin.Str PySem.StrLaws
end TL
end
namespace L2
open PySem PySem.Spec PyProof.Rows
end L2
namespace L2
open PySem PySem.Spec PyProof.Rows
end L2
namespace Ci
open PySem PySem.W PySem.Calls PyProof.Rows
end Ci
namespace L2
open PySem PySem.Spec PyProof.Rows
end L2
namespace L2
open PySem PySem.Spec PyProof.Rows
end L2
namespace L2
open PySem PySem.Spec PyProof.Rows
def inClass(s:Stmt)(j:Nat):Stmt:=match s with
 |.ClassDef _ _ _ body _ _ _ _ _ _ _=>body.getD j (.Pass ⟨0,0,0,0⟩)
 |_=>.Pass ⟨0,0,0,0⟩
def ik(s:Stmt):Arguments:=match s with
 |.FunctionDef _ a _ _ _ _ _ _ _ _=>a
 |_=>{posonlyargs:=[],args:=[],vararg:=none,kwonlyargs:=[],kw_defaults:=[],kwarg:=none,defaults:=[]}
def gQ(s:Stmt):List Stmt:=match s with
 |.FunctionDef _ _ b _ _ _ _ _ _ _=>b
 |_=>[]
def aK(s:Stmt):Scope:=match s with
 |.FunctionDef _ _ _ _ _ _ sc _ _ _=>sc
 |_=>{kind:=.function,names:=[],isGenerator:=false,isCoroutine:=false}
abbrev aY:eV:=λ_ _ _ _ _ _=>False
abbrev E0:XK:=λ_ _ _=>False
theorem eA{X:Cx}:Passes aY X E0:=λ_ _ _ _ _ _ _ h=>h.elim
structure d9(K:PySem.W.Frag)(x qual:Str)(st:Stmt)(f:Addr)(fd:FuncData):Prop where
 ex:∃(oc:Value)(od:Option Addr)(kV doc pm:Value)(an:Option Addr)(cdv ct:Value)(osl:Array (Option Value)),fd=PySem.W.fnOf x qual (ik st) (gQ st) (aK st) .none kV doc pm an cdv ct/\K.lookup f=some ⟨oc,od,.func fd,osl⟩/\PySem.W.codeIn K cdv qual=true
 kp:PySem.W.keepIn K (.ref f)=true
section
variable{P:Program}{w:World}{K:PySem.W.Frag}{mg:Str->Option Value}{base:Heap}
theorem d9.ok{x qual:Str}{st:Stmt}{f:Addr}{fd:FuncData}{N ps:List Str}{k:Nat}{sp:Sp}(F:d9 K x qual st f fd)(S:aZ N ps (aK st))(len:∀vs H Q E,sp vs H Q E->vs.length=ps.length)(hbody:∀(cdv:Value)(A:Around)(outer:List Env)(s:Shared)(H:Hp)(vs:List V)(Q:VK)(E:XK),cJ k (A.deeper (envOfC qual (aK st) s.heap.objs.size f cdv))->sp vs H Q E->∃t,eG (ij aY P w K mg base N qual (aK st) f cdv A outer s H E).l8 (gQ st) t/\t {nx:=λ_ H'=>Q .bj H',rt:=Q} (start N vs) H):aX P w K mg base aY (k+1) f fd ps sp:=by
 obtain⟨oc,od,kV,doc,pm,an,cdv,ct,osl,rfl,lk,hcd⟩:=F.ex
 refine D9 lk hcd S len λA outer s H vs Q E hr hsp=>?_
 obtain⟨t,h,q⟩:=hbody cdv A outer s H vs Q E hr hsp
 exact⟨t,h.l8,q⟩
theorem d9.binds{x qual:Str}{st:Stmt}{f:Addr}{fd:FuncData}{ps:List Str}(F:d9 K x qual st f fd)(h:∀(kV doc pm:Value)(an:Option Addr)(cdv ct:Value)(us:List Value),us.length=ps.length->bindArgs (PySem.W.fnOf x qual (ik st) (gQ st) (aK st) .none kV doc pm an cdv ct) ⟨us,[]⟩=pure (ps.zip us)):Binds K fd ps []:=by
 obtain⟨oc,od,kV,doc,pm,an,cdv,ct,osl,rfl,lk,hcd⟩:=F.ex
 exact .all (h kV doc pm an cdv ct)
theorem lI{x qual:Str}{st:Stmt}{f:Addr}{oc:Value}{od an:Option Addr}{osl:Array (Option Value)}{kV doc pm cdv ct:Value}(l:K.lookup f=some ⟨oc,od,.func (PySem.W.fnOf x qual (ik st) (gQ st) (aK st) .none kV doc pm an cdv ct),osl⟩)(c:PySem.W.codeIn K cdv qual=true)(k:PySem.W.keepIn K (.ref f)=true):d9 K x qual st f (PySem.W.fnOf x qual (ik st) (gQ st) (aK st) .none kV doc pm an cdv ct):=⟨⟨oc,od,kV,doc,pm,an,cdv,ct,osl,rfl,l,c⟩,k⟩
end
theorem bC{A:Around}{k:Nat}(hr:cJ k A):A.units+1<cLine:=Nat.lt_of_le_of_lt (Nat.add_le_add_left (by decide:1<=64) _) hr.units
section
variable{X:Cx}
theorem gP:fg X (.builtin "len") (λxs H Q=>∃a kvs,xs=[V.ref a]/\H a=some (.dK kvs)/\Q (.int kvs.length) H):=by
 intro pins s σ H xs us Q I r h
 obtain⟨a,kvs,rfl,ha,q⟩:=h
 obtain⟨u,rfl,ru⟩:=vals1 r
 cases ru
 exact DL I (.inl ha) λt s' I'=>⟨.int kvs.length,H,I',⟨t,rfl⟩,q⟩
end
theorem az{c A B:Prop}[Decidable c](h1:c->A)(h2:¬c->B):if c then A else B:=by
 by_cases h:c
 .rw[if_pos h]
  exact h1 h
 .rw[if_neg h]
  exact h2 h
def au(H H':Hp):Prop:=∀b o,H b=some o->H' b=some o
theorem au.refl(H:Hp):au H H:=λ_ _ h=>h
theorem au.trans{H H1 H2:Hp}(a:au H H1)(b:au H1 H2):au H H2:=λc o h=>b c o (a c o h)
theorem au.seq{K:PySem.W.Frag}{H H':Hp}{a:Addr}{xs:List V}(e:au H H')(h:ax K H a xs):ax K H' a xs:=by
 rcases h with(h|⟨o,h⟩)|h
 .exact .inl (.inl (e _ _ h))
 .exact .inl (.inr ⟨o,e _ _ h⟩)
 .exact .inr h
section
variable{κ:Type}[DecidableEq κ]
theorem DU{p:κ×V}{r:List (κ×V)}{k:κ}(e:p.1=k):eh (p::r) k=eh r k:=by
 unfold eh
 rw[List.filter_cons,if_neg (by simp[e])]
theorem DT{p:κ×V}{r:List (κ×V)}{k:κ}(e:¬p.1=k):eh (p::r) k=p::eh r k:=by
 unfold eh
 rw[List.filter_cons,if_pos (by simp[e])]
end
theorem at_of{xs:List V}{z:Int}{j:Nat}{v:V}(e:z=(j:Int))(h:xs[j]? =some v):bY xs z=some v:=by
 rw[e]
 exact cS h
theorem au.made{H H1:Hp}{x dx C:Addr}(nx:H x=Option.none)(nd:H dx=Option.none)(k:∀b o,(upd (upd H dx (.own x)) x (.ins C dx [])) b=some o->b≠x->H1 b=some o):au H H1:=λb o e=>
 k b o (by rw[aF (cZ e nx),aF (cZ e nd)];exact e) (cZ e nx)
end L2
end
namespace L2
open PySem PySem.Spec PyProof.Rows
theorem kX:∀{xs:List V}{us:List Value},xs.length=us.length->(∀(j:Nat)(u:Value),us[j]? =some u->∃x,xs[j]? =some x/\RelV x u)->Vals xs us
 |[],[],_,_=>.nil
 |x::xs,u::us,hl,h=>by
  obtain⟨y,e,r⟩:=h 0 u rfl
  have e':x=y:=Option.some.inj e
  subst e'
  exact .cons r (kX (by simpa using hl) λj v hv=>by simpa using h (j+1) v (by simpa using hv))
 |[],_::_,hl,_=>by simp at hl
 |_::_,[],hl,_=>by simp at hl
section
variable{X:Cx}
theorem aI{x:Str}{i:Int}{pos:Pos}(hg:Gl X x)(h:∃t,X.mg x=some (Value.int i t))(hd:(x==("__debug__":Str))=false:=by decide):PE X (.Name x pos) (tC (.int i)):=by
 obtain⟨t,h⟩:=h
 exact y0 hg h ⟨t,rfl⟩ hd
theorem IF{x:Str}{a:Addr}{pos:Pos}(hg:Gl X x)(h:X.mg x=some (Value.ref a))(hd:(x==("__debug__":Str))=false:=by decide):PE X (.Name x pos) (tC (.ref a)):=
 y0 hg h rfl hd
theorem lj(hc:X.calm=true):fg X (.type "list") (λxs H Q=>∃p kvs,xs=[V.ref p]/\Rd H p (.dK kvs)/\∀l,H l=none->Q (.ref l) (upd H l (.lst (kvs.map λkv=>kV kv.1)))):=by
 intro pins s σ H xs us Q I r h
 obtain⟨p,kvs,rfl,hp,q⟩:=h
 obtain⟨u,rfl,rx⟩:=vals1 r
 cases rx
 obtain⟨hz,lo,vs,rel,dd⟩:=fq I.aH hp
 obtain⟨ep,hat⟩:=dd.dictAt
 have hlen:=rel.length
 refine PySem.W.kdl_call (PySem.W.kdl_dict (knd:=cE X.prog X.w) (kvs:=vs) (ep:=ep) lo) (I.ok.hd hc) hat (by rw[<-hlen];exact hz) λh' tk acc' c' hk hD hacc=>?_
 obtain⟨hs,hit⟩:=hacc
 have hv:Vals (kvs.map λkv=>kV kv.1) acc'.toList:=kX (by rw[List.length_map,hlen,<-hs];exact(Array.length_toList).symm) λj u hu=>by
  obtain⟨k,x,e1,e2⟩:=hit j u (by rw[<-Array.getElem?_toList];exact hu)
  have e3:(kvs.map (·.1))[j]? =some k:=by rw[rel.keys,List.getElem?_map,e1];rfl
  rw[List.getElem?_map] at e3
  rw[List.getElem?_map]
  cases e4:kvs[j]? with
  |none=>rw[e4] at e3;cases e3
  |some kv=>
   rw[e4] at e3
   have e5:kv.1=k:=Option.some.inj e3
   exact⟨kV kv.1,rfl,by rw[e5];exact pI e2⟩
 exact⟨.ref s.heap.objs.size,_,I.laid (t':=tk) hk (Nat.le_refl _) (show cy X.prog X.w _ h' _ (.lst (kvs.map λkv=>kV kv.1)) from⟨by rw[List.length_map];exact hz,acc'.toList,c',hv,by simpa using hD⟩),rfl,q _ (I.aH.fresh (Nat.le_refl _))⟩
def AR(td:TE):TE:=λσ H Q=>td σ H λx H1=>∃d kvs,x=.ref d/\Rd H1 d (.dK kvs)/\∀l,H1 l=none->Q (.ref l) (upd H1 l (.lst (kvs.map (·.2))))
theorem mn{e:Expr}{td:TE}{p pos apos cpos:Pos}(hg:Gl X "list")(hm:X.mg "list"=none)(he:PE X e td)(hc:X.calm=true:=by rfl)(hbase:attributeBase e "values" X.env (eval e X.env)=eval e X.env:=by rfl)(hline:(apos.endLine==cpos.line)=true:=by rfl)(hs:starEach [.Call (.Attribute e "values" apos) [] [] cpos] X.env=[(false,eval (.Call (.Attribute e "values" apos) [] [] cpos) X.env)]:=by rfl):PE X (.Call (.Name "list" p) [.Call (.Attribute e "values" apos) [] [] cpos] [] pos) (AR td):=by
 intro pins s σ H Q I h
 refine wpAny_Call_Name_kw (iw I hg hm PyProof.Rows.boot_list ?_)
 refine PyProof.Rows.callWith_type1 ?_ hs rfl
 rw[hs]
 show wpAny _ _ (spliced ((false,eval (.Call (.Attribute e "values" apos) [] [] cpos) X.env)::backTo pos [])) _ _ s
 refine Calls.spliced_cons ?_
 refine wpAny_Call_method (T:="dict") (id:="dict.values") hbase rfl hline F.plainAttrs_dict F.slot_dict_values F.type_dict_values (aJ (he pins s σ H _ I h) λu s1⟨x,H1,I1,rx,d,kvs,ex,hd,q⟩=>?_)
 subst ex
 obtain rfl:u=Value.ref d:=rx
 obtain⟨hz,lo,vs,rel,dd⟩:=fq I1.aH hd
 obtain⟨ep,hat⟩:=dd.dictAt
 have hlen:=rel.length
 refine⟨dd.typeIs,dd.mapOf.noDict,?_⟩
 have I2:Inv X pins σ H1 {s1 with heap:=s1.heap.push {cls:=.type "dict_values",data:=.fields #[.ref d]} }:=I1.kept (t':=s1.toks) λb ob q=>Heap.get?_push_of_some _ q
 refine method_meetsIn F.slot_dict_values F.entry_dict_values rfl (PySem.evalArgs_none ⟨rfl,dd.typeIs,F.args_dict_values_1 _,_,meets_dict_values (cE X.prog X.w) d lo,⟨vs,dd⟩,?_⟩)
 refine Calls.spliced_nil ?_
 refine PySem.W.kdl_call (PySem.W.kdl_values (knd:=cE X.prog X.w) (kvs:=vs) (ep:=ep)) (I.ok.hd hc) ⟨⟨_,Heap.get?_push_size _ rfl,rfl,rfl⟩,hat.push _⟩ (by rw[<-hlen];exact hz) λh' tk acc' c' hk hD hacc=>?_
 obtain⟨hs',hit⟩:=hacc
 have hv:Vals (kvs.map (·.2)) acc'.toList:=kX (by rw[List.length_map,hlen,<-hs'];exact(Array.length_toList).symm) λj u hu=>by
  obtain⟨k,e1⟩:=hit j u (by rw[<-Array.getElem?_toList];exact hu)
  rw[List.getElem?_map]
  cases e4:kvs[j]? with
  |none=>
   have z:=List.getElem?_eq_none_iff.mp e4
   have z2:=(List.getElem?_eq_some_iff.mp e1).1
   omega
  |some kv=>
   obtain⟨u',e5,r5⟩:=ou rel (i:=j) (k:=kv.1) (v:=kv.2) e4
   rw[e1] at e5
   cases e5
   exact⟨kv.2,rfl,r5⟩
 exact⟨.ref _,_,I2.laid (t':=tk) hk (Nat.le_refl _) (show cy X.prog X.w _ h' _ (.lst (kvs.map (·.2))) from⟨by rw[List.length_map];exact hz,acc'.toList,c',hv,by simpa using hD⟩),rfl,q _ (I2.aH.fresh (Nat.le_refl _))⟩
end
end L2
namespace L2
abbrev IM(α:Type):=List (Int×α)
def lk{α:Type}(l:IM α)(k:Int):Option α:=(l.find? λp=>decide (p.1=k)).map (·.2)
def bw{α:Type}(l:IM α)(k:Int)(x:α):IM α:=l.map λp=>if p.1=k then(p.1,x) else p
def a9{α:Type}(l:IM α)(k:Int):IM α:=l.filter λp=>decide (p.1≠k)
section
variable{α:Type}
theorem iy(k:Int):lk ([]:IM α) k=none:=rfl
theorem dv(p:Int×α)(l:IM α)(k:Int):lk (p::l) k=if p.1=k then some p.2 else lk l k:=by
 unfold lk
 rw[List.find?_cons]
 by_cases e:p.1=k
 .rw[if_pos e,decide_eq_true e];rfl
 .rw[if_neg e,decide_eq_false e]
theorem b0:∀{l:IM α}{k:Int}{x:α},lk l k=some x->(k,x)∈l
 |[],k,x,h=>by rw[iy] at h;cases h
 |p::l,k,x,h=>by
  rw[dv] at h
  by_cases e:p.1=k
  .rw[if_pos e] at h
   have e2:p.2=x:=Option.some.inj h
   subst e e2
   exact List.mem_cons_self
  .rw[if_neg e] at h
   exact List.mem_cons_of_mem _ (b0 h)
theorem gw:∀{l:IM α}{k:Int},lk l k=none↔k∉l.map (·.1)
 |[],k=>by simp[iy]
 |p::l,k=>by
  rw[dv]
  by_cases e:p.1=k
  .rw[if_pos e];simp[e]
  .rw[if_neg e,gw];simp[Ne.symm e]
theorem iz:∀{l:IM α}{k:Int}{x:α},(l.map (·.1)).Nodup->(k,x)∈l->lk l k=some x
 |[],k,x,_,h=>by cases h
 |p::l,k,x,nd,h=>by
  have nd':p.1∉l.map (·.1)/\(l.map (·.1)).Nodup:=List.nodup_cons.mp nd
  rw[dv]
  rcases List.mem_cons.mp h with e|h
  .rw[<-e,if_pos rfl]
  .rw[if_neg (λe=>nd'.1 (List.mem_map.mpr ⟨(k,x),h,e.symm⟩))]
   exact iz nd'.2 h
theorem gx(k j:Int)(y:α):∀l:IM α,lk (bw l k y) j=(lk l j).map λx=>if j=k then y else x
 |[]=>rfl
 |p::l=>by
  show lk ((if p.1=k then(p.1,y) else p)::bw l k y) j=_
  rw[dv,dv]
  by_cases e:p.1=k
  .rw[if_pos e]
   by_cases e2:p.1=j
   .rw[if_pos e2,if_pos e2]
    show some y=some (if j=k then y else p.2)
    rw[if_pos (e2.symm.trans e)]
   .rw[if_neg e2,if_neg e2];exact gx k j y l
  .rw[if_neg e]
   by_cases e2:p.1=j
   .rw[if_pos e2,if_pos e2]
    show some p.2=some (if j=k then y else p.2)
    rw[if_neg (λz=>e (e2.trans z))]
   .rw[if_neg e2,if_neg e2];exact gx k j y l
theorem ot(k:Int)(y:α):∀l:IM α,(bw l k y).map (·.1)=l.map (·.1)
 |[]=>rfl
 |p::l=>by
  show(if p.1=k then(p.1,y) else p).1::(bw l k y).map (·.1)=p.1::l.map (·.1)
  rw[ot k y l]
  by_cases e:p.1=k
  .rw[if_pos e]
  .rw[if_neg e]
theorem iK{k:Int}(y:α):∀{l:IM α},k∉l.map (·.1)->bw l k y=l
 |[],_=>rfl
 |p::l,h=>by
  have h':k≠p.1/\k∉l.map (·.1):=by simpa[List.map_cons,List.mem_cons,not_or] using h
  show(if p.1=k then(p.1,y) else p)::bw l k y=p::l
  rw[if_neg (Ne.symm h'.1),iK y h'.2]
theorem i4{k:Int}:∀{l:IM α},k∉l.map (·.1)->a9 l k=l
 |[],_=>rfl
 |p::l,h=>by
  have h':k≠p.1/\k∉l.map (·.1):=by simpa[List.map_cons,List.mem_cons,not_or] using h
  unfold a9
  rw[List.filter_cons,if_pos (decide_eq_true (Ne.symm h'.1))]
  show p::a9 l k=p::l
  rw[i4 h'.2]
theorem oz(k j:Int):∀l:IM α,lk (a9 l k) j=if j=k then none else lk l j
 |[]=>by show none=_;split<;>rfl
 |p::l=>by
  unfold a9
  rw[List.filter_cons]
  by_cases e:p.1=k
  .rw[if_neg (by simp[e])]
   show lk (a9 l k) j=_
   rw[oz k j l,dv]
   by_cases e2:j=k
   .rw[if_pos e2,if_pos e2]
   .rw[if_neg e2,if_neg e2,if_neg (λz=>e2 (z.symm.trans e))]
  .rw[if_pos (decide_eq_true e)]
   show lk (p::a9 l k) j=_
   rw[dv,dv,oz k j l]
   by_cases e2:p.1=j
   .rw[if_pos e2,if_pos e2,if_neg (λz=>e (e2.trans z))]
   .rw[if_neg e2,if_neg e2]
theorem oA(k j:Int)(x:α):∀{l:IM α},lk l k=none->lk (l++[(k,x)]) j=if j=k then some x else lk l j
 |[],_=>by
  show lk [(k,x)] j=_
  rw[dv,iy]
  by_cases e:j=k
  .rw[if_pos e.symm,if_pos e]
  .rw[if_neg (Ne.symm e),if_neg e]
 |p::l,h=>by
  rw[dv] at h
  by_cases e:p.1=k
  .rw[if_pos e] at h;cases h
  .rw[if_neg e] at h
   show lk (p::(l++[(k,x)])) j=_
   rw[dv,dv,oA k j x h]
   by_cases e2:p.1=j
   .rw[if_pos e2,if_pos e2,if_neg (λz=>e (e2.trans z))]
   .rw[if_neg e2,if_neg e2]
def putL(l:IM α)(k:Int)(x:α):IM α:=if(lk l k).isSome then bw l k x else l++[(k,x)]
theorem gY{l:IM α}{k:Int}{y:α}(h:lk l k=some y)(x:α):putL l k x=bw l k x:=by unfold putL;rw[h];rfl
theorem putL_new{l:IM α}{k:Int}(h:lk l k=none)(x:α):putL l k x=l++[(k,x)]:=by unfold putL;rw[h];rfl
theorem rq{k:Int}{y:α}(x:α):∀{l:IM α},(l.map (·.1)).Nodup->lk l k=some y->(bw l k x).Perm ((k,x)::a9 l k)
 |[],_,h=>by rw[iy] at h;cases h
 |p::l,nd,h=>by
  have nd':p.1∉l.map (·.1)/\(l.map (·.1)).Nodup:=List.nodup_cons.mp nd
  rw[dv] at h
  show((if p.1=k then(p.1,x) else p)::bw l k x).Perm _
  unfold a9
  rw[List.filter_cons]
  by_cases e:p.1=k
  .subst e
   rw[if_pos rfl,if_neg (by simp),iK x nd'.1]
   have z:a9 l p.1=l:=i4 nd'.1
   unfold a9 at z
   rw[z]
  .rw[if_neg e] at h⊢
   rw[if_pos (decide_eq_true e)]
   exact((rq x nd'.2 h).cons p).trans (List.Perm.swap _ _ _)
theorem pz{k:Int}(x:α){l:IM α}(nd:(l.map (·.1)).Nodup):(putL l k x).Perm ((k,x)::a9 l k):=by
 cases h:lk l k with
 |none=>
  rw[putL_new h,i4 (gw.mp h)]
  exact List.perm_append_comm (l₂:=[(k,x)])
 |some y=>rw[gY h];exact rq x nd h
theorem kb(k:Int)(l:IM α):(a9 l k).map (·.1)=(l.map (·.1)).filter λj=>decide (j≠k):=by
 unfold a9
 rw[List.filter_map];rfl
theorem oN{k:Int}{l:IM α}(nd:(l.map (·.1)).Nodup):((a9 l k).map (·.1)).Nodup:=by
 rw[kb];exact nd.filter _
theorem l6{k:Int}{x:α}{l:IM α}(nd:(l.map (·.1)).Nodup):((putL l k x).map (·.1)).Nodup:=by
 refine((pz x nd).map (·.1)).nodup_iff.mpr ?_
 rw[List.map_cons,kb]
 exact List.nodup_cons.mpr ⟨by simp,nd.filter _⟩
theorem yz{k:Int}{x:α}{l:IM α}{p:Int×α}(h:p∈putL l k x):p=(k,x)\/(p∈l/\p.1≠k):=by
 cases e:lk l k with
 |none=>
  rw[putL_new e] at h
  rcases List.mem_append.mp h with h|h
  .exact .inr ⟨h,λz=>gw.mp e (List.mem_map.mpr ⟨p,h,z⟩)⟩
  .exact .inl (by simpa using h)
 |some y=>
  rw[gY e] at h
  obtain⟨q,hq,z⟩:=List.mem_map.mp h
  by_cases w:q.1=k
  .rw[if_pos w] at z;exact .inl (by rw[<-z,w])
  .rw[if_neg w] at z;subst z;exact .inr ⟨hq,w⟩
theorem zz{k:Int}{x:α}{l:IM α}:(putL l k x).length=if(lk l k).isSome then l.length else l.length+1:=by
 unfold putL
 split
 .unfold bw;rw[List.length_map]
 .rw[List.length_append];rfl
theorem DP{k:Int}{y:α}{l:IM α}(nd:(l.map (·.1)).Nodup)(h:lk l k=some y):(a9 l k).length+1=l.length:=by
 have z:=(rq y nd h).length_eq
 unfold bw at z
 rw[List.length_map] at z
 rw[z,List.length_cons]
theorem zA{β:Type}(g:α->β)(kf:β->Int){k:Int}{x:α}{l:IM α}(nd:(l.map (·.1)).Nodup)(hk:∀p∈l,kf (g p.2)=p.1):((putL l k x).map λp=>g p.2).Perm (g x::(l.map λp=>g p.2).filter λb=>decide (kf b≠k)):=by
 refine((pz x nd).map λp=>g p.2).trans ?_
 rw[List.map_cons,List.filter_map]
 unfold a9
 have e:l.filter (λp=>decide (p.1≠k))=l.filter ((λb=>decide (kf b≠k))∘λp=>g p.2):=List.filter_congr λp hp=>by
  show decide (p.1≠k)=decide (kf (g p.2)≠k)
  rw[hk p hp]
 rw[e]
theorem nR{β:Type}(g:α->β)(kf:β->Int){k:Int}{l:IM α}(hk:∀p∈l,kf (g p.2)=p.1):((a9 l k).map λp=>g p.2)=(l.map λp=>g p.2).filter λb=>decide (kf b≠k):=by
 rw[List.filter_map]
 unfold a9
 have e:l.filter (λp=>decide (p.1≠k))=l.filter ((λb=>decide (kf b≠k))∘λp=>g p.2):=List.filter_congr λp hp=>by
  show decide (p.1≠k)=decide (kf (g p.2)≠k)
  rw[hk p hp]
 rw[e]
theorem yl{β:Type}(g:α->β)(f:β->Bool){k:Int}:∀{l:IM α},(∀p∈l,f (g p.2)=decide (p.1=k))->(l.map λp=>g p.2).find? f=(lk l k).map g
 |[],_=>rfl
 |p::l,h=>by
  rw[List.map_cons,List.find?_cons,dv,h p List.mem_cons_self,yl g f λq hq=>h q (List.mem_cons_of_mem _ hq)]
  by_cases e:p.1=k
  .rw[if_pos e,decide_eq_true e];rfl
  .rw[if_neg e,decide_eq_false e]
theorem Ga{k:Int}{x:α}{l:IM α}{p:Int×α}(h:p∈bw l k x):p=(k,x)\/(p∈l/\p.1≠k):=by
 obtain⟨q,hq,z⟩:=List.mem_map.mp h
 by_cases w:q.1=k
 .rw[if_pos w] at z;exact .inl (by rw[<-z,w])
 .rw[if_neg w] at z;subst z;exact .inr ⟨hq,w⟩
theorem dw{l:IM α}(nd:(l.map (·.1)).Nodup){p:Int×α}(h:p∈l):lk l p.1=some p.2:=iz nd h
end
end L2
namespace Sw
section
variable{α:Type}(kv kh:α->Nat)
def dz(x:α):List α->List α
 |[]=>[x]
 |r::l=>if kv r=kv x/\kh r=kh x then x::l
  else if kv x<kv r\/(kv x=kv r/\kh x<kh r) then x::r::l else r::dz x l
def gM(a b:α):Prop:=kv a<kv b\/(kv a=kv b/\kh a<kh b)
def ne2(x r:α):Bool:=!(kv r==kv x&&kh r==kh x)
theorem l7{x r:α}:ne2 kv kh x r=true↔¬(kv r=kv x/\kh r=kh x):=by
 unfold ne2;by_cases a:kv r=kv x<;>by_cases b:kh r=kh x<;>simp[a,b]
theorem zw(x:α):∀{l:List α},l.Pairwise (gM kv kh)->(dz kv kh x l).Perm (x::l.filter (ne2 kv kh x))
 |[],_=>List.Perm.refl _
 |r::l,h=>by
  have h':=List.pairwise_cons.mp h
  unfold dz
  rw[List.filter_cons]
  by_cases e:kv r=kv x/\kh r=kh x
  .rw[if_pos e,if_neg (λz=>(l7 kv kh).mp z e)]
   have hf:l.filter (ne2 kv kh x)=l:=List.filter_eq_self.mpr λy hy=>by
    have z:=h'.1 y hy
    rw[l7];intro q
    rcases z with z|z<;>omega
   rw[hf]
  .have en:ne2 kv kh x r=true:=(l7 kv kh).mpr e
   rw[if_neg e,en,if_pos rfl]
   by_cases e2:kv x<kv r\/(kv x=kv r/\kh x<kh r)
   .rw[if_pos e2]
    have hf:l.filter (ne2 kv kh x)=l:=List.filter_eq_self.mpr λy hy=>by
     have z:=h'.1 y hy
     rw[l7];intro q
     rcases z with z|z<;>rcases e2 with e2|e2<;>omega
    rw[hf]
   .rw[if_neg e2]
    exact((zw x h'.2).cons r).trans (List.Perm.swap _ _ _)
theorem zt{x y:α}:∀{l:List α},y∈dz kv kh x l->y=x\/y∈l
 |[],h=>.inl (by simpa[dz] using h)
 |r::l,h=>by
  unfold dz at h
  split at h
  .rcases List.mem_cons.mp h with h|h
   .exact .inl h
   .exact .inr (List.mem_cons_of_mem _ h)
  .split at h
   .rcases List.mem_cons.mp h with h|h
    .exact .inl h
    .exact .inr h
   .rcases List.mem_cons.mp h with h|h
    .exact .inr (by rw[h];exact List.mem_cons_self)
    .rcases zt h with h|h
     .exact .inl h
     .exact .inr (List.mem_cons_of_mem _ h)
theorem pq(x:α):∀{l:List α},l.Pairwise (gM kv kh)->(dz kv kh x l).Pairwise (gM kv kh)
 |[],_=>by simp[dz]
 |r::l,h=>by
  have h':=List.pairwise_cons.mp h
  unfold dz
  split
  .rename_i e
   refine List.pairwise_cons.mpr ⟨λy hy=>?_,h'.2⟩
   have z:=h'.1 y hy
   rcases z with z|z
   .exact .inl (by omega)
   .exact .inr (by omega)
  .rename_i e
   split
   .rename_i e2
    refine List.pairwise_cons.mpr ⟨λy hy=>?_,h⟩
    rcases List.mem_cons.mp hy with rfl|hy
    .exact e2
    .have z:=h'.1 y hy
     rcases z with z|z<;>rcases e2 with e2|e2
     .exact .inl (by omega)
     .exact .inl (by omega)
     .exact .inl (by omega)
     .exact .inr (by omega)
   .rename_i e2
    refine List.pairwise_cons.mpr ⟨λy hy=>?_,pq x h'.2⟩
    rcases zt kv kh hy with rfl|hy
    .by_cases a:kv r<kv y
     .exact .inl a
     .refine .inr ?_
      by_cases b:kv r=kv y
      .refine⟨b,?_⟩
       by_cases c:kh r=kh y
       .exact absurd ⟨b,c⟩ e
       .have:¬kh y<kh r:=λd=>e2 (.inr ⟨b.symm,d⟩)
        omega
      .exact absurd (.inl (by omega)) e2
    .exact h'.1 y hy
theorem zr(x:α):∀l:List α,(dz kv kh x l).length<=l.length+1
 |[]=>Nat.le_refl _
 |r::l=>by
  unfold dz
  split
  .simp
  .split
   .simp
   .have:=zr x l
    simp;omega
theorem zx(x:α){l:List α}(h:l.Pairwise (gM kv kh)):((dz kv kh x l).filter λr=>kv r==kv x).Perm (x::(l.filter λr=>kv r==kv x).filter λr=>kh r !=kh x):=by
 refine((zw kv kh x h).filter _).trans ?_
 rw[List.filter_cons,if_pos (by simp),List.filter_filter,List.filter_filter]
 refine List.Perm.cons _ ?_
 have e:(λa=>(kv a==kv x)&&ne2 kv kh x a)=λa=>(kh a !=kh x)&&(kv a==kv x):=by
  funext a
  unfold ne2
  cases h1:(kv a==kv x)<;>cases h2:(kh a==kh x)<;>simp_all
 rw[e]
theorem pk(x:α){u:Nat}(hu:u≠kv x):∀l:List α,((dz kv kh x l).filter λr=>kv r==u)=l.filter λr=>kv r==u
 |[]=>by
  show([x].filter λr=>kv r==u)=[]
  rw[List.filter_cons,if_neg (by simp;exactλz=>hu z.symm)];rfl
 |r::l=>by
  have hx:¬(kv x==u)=true:=by simp;exactλz=>hu z.symm
  unfold dz
  split
  .rename_i e
   rw[List.filter_cons,if_neg hx,List.filter_cons,if_neg (by rw[e.1];exact hx)]
  .split
   .rw[List.filter_cons,if_neg hx]
   .rw[List.filter_cons,List.filter_cons,pk x hu l]
end
theorem pB(x:Vbcnab.Row):∀l,Vbcnab.putRow x l=dz (·.vlan) (·.hw) x l
 |[]=>rfl
 |r::l=>by unfold Vbcnab.putRow dz;rw[pB x l]
theorem zy(x:Vbcnab.Grp):∀l,Vbcnab.putGroup x l=dz (·.vlan) (·.hw) x l
 |[]=>rfl
 |r::l=>by unfold Vbcnab.putGroup dz;rw[zy x l]
abbrev iW(l:List Vbcnab.Row):Prop:=l.Pairwise (gM (·.vlan) (·.hw))
abbrev jF(l:List Vbcnab.Grp):Prop:=l.Pairwise (gM (·.vlan) (·.hw))
end Sw
namespace Sw
open Vbcnab
def c8(l:List Grp):Nat:=(l.map λg=>2+g.sides.length).sum
structure Bd(s:State)(n:Nat):Prop where
 rs:s.rows.length<=n
 gs:c8 s.groups<=n
 ps:∀d∈s.sides,d.pairs.length<=n
theorem Bd.up{s:State}{n m:Nat}(h:Bd s n)(hm:n<=m):Bd s m:=⟨Nat.le_trans h.rs hm,Nat.le_trans h.gs hm,λd hd=>Nat.le_trans (h.ps d hd) hm⟩
theorem lK(p:Grp->Bool):∀l:List Grp,c8 (l.filter p)<=c8 l
 |[]=>Nat.le_refl _
 |g::l=>by
  have ih:=lK p l
  unfold c8 at ih⊢
  rw[List.filter_cons]
  split<;>simp<;>omega
theorem xF(x:Grp):∀l:List Grp,c8 (putGroup x l)<=c8 l+2+x.sides.length
 |[]=>by simp[c8,putGroup]
 |r::l=>by
  have ih:=xF x l
  unfold c8 at ih⊢
  unfold putGroup
  split
  .simp;omega
  .split<;>simp<;>omega
theorem oh(x:Grp)(v a:Nat)(hx:x.vlan=v/\x.hw=a):∀(l:List Grp)(g:Grp),(l.find? λg=>g.vlan==v&&g.hw==a)=some g->jF l->c8 (putGroup x l)+g.sides.length<=c8 l+x.sides.length
 |[],g,h,_=>by simp at h
 |r::l,g,h,hs=>by
  have hs':=List.pairwise_cons.mp hs
  rw[List.find?_cons] at h
  unfold putGroup
  by_cases e:r.vlan=v/\r.hw=a
  .rw[if_pos (by omega)]
   have e1:(r.vlan==v&&r.hw==a)=true:=by simp[e]
   simp only[e1] at h
   cases h
   unfold c8;simp;omega
  .have e1:(r.vlan==v&&r.hw==a)=false:=by
    by_cases z:r.vlan=v<;>by_cases y:r.hw=a<;>simp[z,y]<;>exact absurd ⟨z,y⟩ e
   simp only[e1] at h
   rw[if_neg (by omega)]
   have ih:=oh x v a hx l g h hs'.2
   split
   .rename_i e2
    have hm:=List.mem_of_find?_eq_some h
    have hp:=List.find?_some h
    have z:=hs'.1 g hm
    simp at hp
    rcases z with z|z<;>rcases e2 with e2|e2<;>simp only[] at z<;>omega
   .unfold c8 at ih⊢;simp;omega
theorem zB(x:Nat):∀l:List Nat,(putNat x l).length<=l.length+1
 |[]=>Nat.le_refl _
 |r::l=>by
  unfold putNat
  split
  .simp
  .split
   .simp
   .have:=zB x l
    simp;omega
theorem zE(x:Nat×Nat):∀l:List (Nat×Nat),(putPair x l).length<=l.length+1
 |[]=>Nat.le_refl _
 |r::l=>by
  unfold putPair
  split
  .simp
  .have:=zE x l
   simp;omega
theorem Jl(x:Vbcnab.Row)(l:List Vbcnab.Row):(putRow x l).length<=l.length+1:=by rw[pB];exact zr _ _ x l
theorem yx{α:Type}{f:α->α}{y:α}:∀{l:List α}{i:Nat},y∈changeAt l i f->y∈l\/∃x∈l,y=f x
 |[],_,h=>by cases h
 |a::l,0,h=>by
  rcases List.mem_cons.mp h with rfl|h
  .exact .inr ⟨a,List.mem_cons_self,rfl⟩
  .exact .inl (List.mem_cons_of_mem _ h)
 |a::l,i+1,h=>by
  rcases List.mem_cons.mp h with rfl|h
  .exact .inl List.mem_cons_self
  .rcases yx h with h|⟨x,hx,e⟩
   .exact .inl (List.mem_cons_of_mem _ h)
   .exact .inr ⟨x,List.mem_cons_of_mem _ hx,e⟩
section
variable{s:State}{n:Nat}
theorem Bd.onSide(h:Bd s n)(q:Nat){f:Side->Side}(hf:∀d,(f d).pairs.length<=d.pairs.length+1):Bd (onSide s q f) (n+1):=
 ⟨Nat.le_succ_of_le h.rs,Nat.le_succ_of_le h.gs,λd hd=>by
   rcases yx hd with hd|⟨x,hx,rfl⟩
   .exact Nat.le_succ_of_le (h.ps d hd)
   .have:=h.ps x hx;have:=hf x;omega⟩
theorem Bd.rows(h:Bd s n){R:List Vbcnab.Row}{k:Nat}(hR:R.length<=s.rows.length+k):Bd {s with rows:=R} (n+k):=
 ⟨by show R.length<=_;have:=h.rs;omega,Nat.le_add_right_of_le h.gs,λd hd=>Nat.le_add_right_of_le (h.ps d hd)⟩
theorem Bd.rows0(h:Bd s n){R:List Vbcnab.Row}(hR:R.length<=s.rows.length):Bd {s with rows:=R} n:=h.rows (k:=0) hR
theorem Bd.forget(h:Bd s n)(f:Vbcnab.Row->Bool):Bd (forget s f) n:=h.rows0 (List.length_filter_le _ _)
theorem Bd.put(h:Bd s n)(x:Vbcnab.Row):Bd {s with rows:=putRow x s.rows} (n+1):=h.rows (Jl x _)
theorem Bd.onPort(h:Bd s n)(p:Nat)(f:Port->Port):Bd (onPort s p f) n:=⟨h.rs,h.gs,h.ps⟩
theorem Bd.onVlan(h:Bd s n)(v:Nat)(f:Vlan->Vlan):Bd (onVlan s v f) n:=⟨h.rs,h.gs,h.ps⟩
theorem Bd.breach(h:Bd s n)(q v:Nat)(b:Bool):Bd (breach s q v b) n:=by
 unfold Vbcnab.breach shutNow
 simp only[]
 split
 .split
  .exact h.onVlan v _
  .exact⟨h.rs,h.gs,h.ps⟩
 .exact h.onVlan v _
theorem Bd.learn(h:Bd s n)(q v a:Nat):(∀t,learn s q v a=.ok t->Bd t (n+1))/\∀c t,learn s q v a=.error (c,t)->Bd t (n+1):=by
 have h1:=h.up (Nat.le_succ n)
 have two:∀e:Except (Nat×State) State,(match e with|.ok t=>Bd t (n+1)|.error x=>Bd x.2 (n+1))->(∀t,e=.ok t->Bd t (n+1))/\∀c t,e=.error (c,t)->Bd t (n+1):=by
  intro e he
  refine⟨λt z=>?_,λc t z=>?_⟩<;>subst z<;>exact he
 refine two _ ?_
 unfold Vbcnab.learn
 simp only[]
 split
 .rename_i t e
  split at e
  .split at e
   .split at e
    .cases e;exact h.put _
    .cases e;exact h1.onVlan _ _
   .split at e
    .cases e;exact h.put _
    .cases e
  .split at e
   .split at e
    .cases e;exact h1
    .cases e
   .split at e
    .cases e;exact h1
    .cases e
   .split at e
    .cases e;exact h.put _
    .split at e
     .cases e
     .split at e
      .cases e;exact(h.put _).onVlan _ _
      .split at e
       .cases e;exact(h.put _).onVlan _ _
       .cases e
 .rename_i t e
  split at e
  .split at e
   .split at e<;>cases e
   .split at e
    .cases e
    .cases e;exact h1.breach _ _ _
  .split at e
   .split at e
    .cases e
    .cases e;exact h1
   .split at e
    .cases e
    .cases e;exact h1
   .split at e
    .cases e
    .split at e
     .cases e;exact h1
     .split at e
      .cases e
      .split at e
       .cases e
       .cases e;exact h1.breach _ _ _
theorem Bd.given(l:List Out):∀{s:State},Bd s n->Bd (l.foldl (λw o=>Vbcnab.onPort w o.port λx=>{x with given:=x.given+1}) s) n:=by
 induction l with
 |nil=>exactλh=>h
 |cons o l ih=>exactλh=>ih (h.onPort _ _)
theorem Bd.frame(h:Bd s n)(p to src:Nat)(tag:Int)(rank:Nat):Bd (frame s p to src tag rank).1 (n+3):=by
 unfold Vbcnab.frame
 have h0:=h.onPort p λx=>{x with taken:=x.taken+1}
 generalize Vbcnab.onPort s p (λx=>{x with taken:=x.taken+1})=s0 at h0
 simp only[]
 split
 .exact(h0.onPort _ _).up (by omega)
 .split
  .rename_i e
   exact(((h0.learn _ _ _).2 _ _ e).onPort _ _).up (by omega)
  .rename_i e
   have h1:=(h0.learn _ _ _).1 _ e
   split
   .exact(h1.onPort _ _).up (by omega)
   .split
    .exact(h1.onPort _ _).up (by omega)
    .split
     .exact(h1.onPort _ _).up (by omega)
     .rename_i u hu
      have h2:Bd u (n+1):=by
       unfold storming at hu
       split at hu
       .split at hu
        .split at hu
         .cases hu;exact⟨h1.rs,h1.gs,h1.ps⟩
         .cases hu
        .cases hu;exact⟨h1.rs,h1.gs,h1.ps⟩
       .cases hu;exact h1
      exact(Bd.given _ (h2.onPort p _)).up (by omega)
end
theorem Bd.doing{s:State}{n:Nat}(h:Bd s n)(hg:jF s.groups)(c:Call):Bd (doing s c).1 (n+3):=by
 have h3:=h.up (show n<=n+3 by omega)
 have os:∀q(f:Side->Side),(∀d,(f d).pairs.length<=d.pairs.length+1)->Bd (Vbcnab.onSide s q f) (n+3):=λq f hf=>(h.onSide q hf).up (by omega)
 cases c<;>unfold Vbcnab.doing<;>simp only[]
 case begin_=>exact h3
 case frame=>
  split
  .exact h3
  .split
   .exact h3
   .exact h.frame _ _ _ _ _
 case side=>split<;>exact h3
 case rows=>split<;>exact h3
 case look=>repeat (first|exact h3|split)
 case counts=>repeat (first|exact h3|split)
 case vcounts=>repeat (first|exact h3|split)
 case vlan=>repeat (first|exact h3|exact⟨h3.rs,h3.gs,h3.ps⟩|split)
 case novlan=>
  split
  .exact h3
  .split
   .exact h3
   .exact⟨Nat.le_trans (List.length_filter_le _ _) h3.rs,Nat.le_trans (lK _ _) h3.gs,h3.ps⟩
 case native_=>repeat (first|exact h3|(refine Bd.forget (s:=Vbcnab.onSide s _ _) ?_ _;exact os _ _ λd=>Nat.le_succ _)|split)
 case pair=>repeat (first|exact h3|exact os _ _ λd=>zE _ _|split)
 case unpair=>repeat (first|exact h3|(refine Bd.forget (s:=Vbcnab.onSide s _ _) ?_ _;exact os _ _ λd=>Nat.le_succ_of_le (List.length_filter_le _ _))|split)
 case plug=>repeat (first|exact h3|exact(h3.onPort _ _).forget _|split)
 case unplug=>repeat (first|exact h3|exact(h3.onPort _ _).forget _|split)
 case link=>repeat (first|exact h3|exact(h3.onPort _ _).forget _|split)
 case apart=>repeat (first|exact h3|exact os _ _ λd=>Nat.le_succ _|split)
 case rank=>repeat (first|exact h3|exact os _ _ λd=>Nat.le_succ _|split)
 case storm=>repeat (first|exact h3|exact os _ (λd=>{d with storm:=if _=-1 then none else some _}) λd=>Nat.le_succ _|exact os _ _ λd=>Nat.le_succ _|split)
 case watch=>repeat (first|exact h3|exact os _ _ λd=>Nat.le_succ _|split)
 case lock=>repeat (first|exact h3|(refine Bd.forget (s:=Vbcnab.onSide s _ _) ?_ _;exact os _ _ λd=>Nat.le_succ _)|split)
 case unlock=>repeat (first|exact h3|(refine Bd.rows0 (s:=Vbcnab.onSide s _ _) ?_ (by rw[List.length_map];exact Nat.le_refl _);exact os _ _ λd=>Nat.le_succ _)|split)
 case gate=>repeat (first|exact h3|exact⟨Nat.le_trans (List.length_filter_le _ _) h3.rs,h3.gs,h3.ps⟩|exact⟨h3.rs,h3.gs,h3.ps⟩|split)
 case unshut=>repeat (first|exact h3|exact⟨h3.rs,h3.gs,h3.ps⟩|split)
 case age=>repeat (first|exact h3|exact h3.onVlan _ _|split)
 case shorten=>repeat (first|exact h3|exact⟨Nat.le_trans (List.length_filter_le _ _) (by rw[List.length_map];exact h3.rs),h3.gs,h3.ps⟩|split)
 case fix=>repeat (first|exact h3|exact(h.put _).up (by omega)|split)
 case unfix=>repeat (first|exact h3|exact h3.rows0 (List.length_filter_le _ _)|split)
 case join v g q=>
  split
  .exact h3
  .split
   .exact h3
   .split
    .exact h3
    .split
     .rename_i x hx
      have hx':x.vlan=v.toNat/\x.hw=g.toNat:=by
       have z:=List.find?_some hx
       simpa using z
      refine⟨h3.rs,?_,h3.ps⟩
      have z:=oh {x with sides:=putNat q.toNat x.sides} v.toNat g.toNat hx' s.groups x hx hg
      have y:=zB q.toNat x.sides
      have:=h.gs
      show c8 (putGroup _ s.groups)<=n+3
      simp only[] at z
      omega
     .split
      .exact h3
      .refine⟨h3.rs,?_,h3.ps⟩
       have z:=xF ⟨v.toNat,g.toNat,[q.toNat]⟩ s.groups
       have:=h.gs
       show c8 (putGroup _ s.groups)<=n+3
       simp only[List.length_cons,List.length_nil] at z
       omega
 case leave v g q=>
  split
  .exact h3
  .split
   .exact h3
   .rename_i x hx
    split
    .exact⟨h3.rs,Nat.le_trans (lK _ _) h3.gs,h3.ps⟩
    .refine⟨h3.rs,?_,h3.ps⟩
     have hp:=List.find?_some hx
     have hm:=List.mem_of_find?_eq_some hx
     have hf:(s.groups.find? λg=>g.vlan==x.vlan&&g.hw==x.hw)=some x:=by
      cases e:s.groups.find? λg=>g.vlan==x.vlan&&g.hw==x.hw with
      |none=>exact absurd (by simp) (List.find?_eq_none.mp e x hm)
      |some y=>
       have a:=List.find?_some e
       have b:=List.mem_of_find?_eq_some e
       simp at a
       have z:=List.pairwise_iff_getElem.mp hg
       obtain⟨i,hi,ei⟩:=List.mem_iff_getElem.mp hm
       obtain⟨j,hj,ej⟩:=List.mem_iff_getElem.mp b
       rcases Nat.lt_trichotomy i j with l|l|l
       .have:=z i j hi hj l
        rw[ei,ej] at this
        rcases this with w|w<;>simp only[] at w<;>omega
       .subst l;rw[<-ei,ej]
       .have:=z j i hj hi l
        rw[ei,ej] at this
        rcases this with w|w<;>simp only[] at w<;>omega
     have z:=oh {x with sides:=x.sides.filter λ(y:Nat)=>y !=q.toNat} x.vlan x.hw ⟨rfl,rfl⟩ s.groups x hf hg
     have y:=List.length_filter_le (λ(y:Nat)=>y !=q.toNat) x.sides
     have:=h.gs
     show c8 (putGroup _ s.groups)<=n+3
     simp only[] at z
     omega
 case flush=>repeat (first|exact h3|exact h3.forget _|split)
 case mirror=>repeat (first|exact h3|exact⟨Nat.le_trans (List.length_filter_le _ _) h3.rs,h3.gs,h3.ps⟩|exact⟨h3.rs,h3.gs,h3.ps⟩|split)
 case tick=>repeat (first|exact h3|exact⟨Nat.le_trans (List.length_filter_le _ _) h3.rs,h3.gs,h3.ps⟩|split)
theorem j5{α:Type}(f:α->List Int)(k:Nat):∀l:List α,(∀x∈l,(f x).length<=k)->(l.flatMap f).length<=k*l.length
 |[],_=>Nat.zero_le _
 |x::l,h=>by
  have ih:=j5 f k l λy hy=>h y (List.mem_cons_of_mem _ hy)
  have h0:=h x List.mem_cons_self
  rw[List.flatMap_cons,List.length_append,List.length_cons,Nat.mul_add]
  omega
theorem xo:∀l:List Grp,(l.flatMap λg=>[(g.hw:Int),(g.sides.length:Int)]++g.sides.map λ(q:Nat)=>(q:Int)).length<=c8 l
 |[]=>Nat.le_refl _
 |g::l=>by
  have ih:=xo l
  unfold c8 at ih⊢
  rw[List.flatMap_cons,List.length_append]
  simp at ih⊢
  omega
theorem xE{g:Grp}:∀{l:List Grp},g∈l->2+g.sides.length<=c8 l
 |x::l,h=>by
  unfold c8
  rw[List.map_cons,List.sum_cons]
  rcases List.mem_cons.mp h with rfl|h
  .omega
  .have:=xE h
   unfold c8 at this
   omega
theorem I0(s:State)(q:Nat):(portsOf s q).length<=s.ports.length:=by
 unfold portsOf
 exact Nat.le_trans (List.length_filter_le _ _) (by rw[List.length_range];exact Nat.le_refl _)
theorem Iw(s:State)(v q to src r:Nat)(m:Aim):(outs s v q to src r m).length<=s.ports.length:=by
 unfold outs
 exact Nat.le_trans (List.length_filterMap_le _ _) (by rw[List.length_range];exact Nat.le_refl _)
theorem nM{α:Type}(f:α->α):∀(l:List α)(i:Nat),(changeAt l i f).length=l.length
 |[],_=>rfl
 |x::l,0=>rfl
 |x::l,i+1=>congrArg (·+1) (nM f l i)
theorem Ir(s:State)(p:Nat)(f:Port->Port):(onPort s p f).ports.length=s.ports.length:=nM f _ _
theorem FU(s:State)(q v a:Nat){t:State}(h:learn s q v a=.ok t):t.ports=s.ports:=by
 unfold learn at h
 simp only[] at h
 repeat' split at h
 all_goals first|(cases h;rfl)|cases h
theorem Mf{s u:State}{q v:Nat}{m:Aim}(h:storming s q v m=some u):u.ports=s.ports:=by
 unfold storming at h
 repeat' split at h
 all_goals first|(cases h;rfl)|cases h
theorem El(s:State)(p to src:Nat)(tag:Int)(rank:Nat):(frame s p to src tag rank).2.length<=4+3*s.ports.length:=by
 unfold frame
 simp only[]
 split
 .show 1<=_;omega
 .split
  .show 1<=_;omega
  .rename_i e
   have e1:=FU _ _ _ _ e
   split
   .show 1<=_;omega
   .split
    .show 1<=_;omega
    .split
     .show 1<=_;omega
     .rename_i u hu
      have e2:=Mf hu
      have e3:u.ports.length=s.ports.length:=by rw[e2,e1];exact Ir _ _ _
      simp only[List.length_append,List.length_cons,List.length_nil]
      refine Nat.le_trans (Nat.add_le_add_right (Nat.add_le_add_left (j5 (λ(o:Out)=>[(o.port:Int),o.tag,(o.rank:Int)]) 3 _ λx _=>Nat.le_refl 3) _) _) ?_
      refine Nat.le_trans (Nat.add_le_add_right (Nat.add_le_add_left (Nat.mul_le_mul_left 3 (Nat.le_trans (Iw u _ _ to src _ _) (Nat.le_of_eq e3))) _) _) ?_
      omega
theorem DS{s:State}{n:Nat}(h:Bd s n)(h64:s.ports.length<=64)(hd:∀p∈s.ports,p.drops.length=14)(c:Call):(doing s c).2.length<=300+4*n:=by
 have h1:(1:Nat)<=300+4*n:=by omega
 cases c<;>unfold doing<;>simp only[]
 case begin_=>exact Nat.zero_le _
 case frame=>
  split
  .exact h1
  .split
   .exact h1
   .refine Nat.le_trans (El _ _ _ _ _ _) ?_
    omega
 case side q=>
  split
  .exact h1
  .have z:(sideAt s q.toNat).pairs.length<=n:=by
    unfold sideAt
    rw[List.getD_eq_getElem?_getD]
    cases e:s.sides[q.toNat]? with
    |none=>exact Nat.zero_le _
    |some d=>exact h.ps d (List.mem_of_getElem? e)
   have y:=j5 (λ(x:Nat×Nat)=>[(x.1:Int),(x.2:Int)]) 2 (sideAt s q.toNat).pairs (λx _=>Nat.le_refl 2)
   have w:=I0 s q.toNat
   simp only[List.length_append,List.length_cons,List.length_nil,List.length_map]
   omega
 case rows v=>
  split
  .exact h1
  .have z:=j5 (λ(r:Vbcnab.Row)=>[(r.hw:Int),r.kind.number,(match r.side with|some q=>(q:Int)|none=>-1)]) 3 (s.rows.filter λr=>(r.vlan:Int)==v) (λx _=>Nat.le_refl 3)
   have y:=xo (s.groups.filter λg=>(g.vlan:Int)==v)
   have x:=lK (λg=>(g.vlan:Int)==v) s.groups
   have w:=List.length_filter_le (λ(r:Vbcnab.Row)=>(r.vlan:Int)==v) s.rows
   have:=h.rs
   have:=h.gs
   simp only[List.length_append,List.length_cons,List.length_nil]
   rw[List.length_flatMap] at z y⊢
   rw[List.length_flatMap]
   simp only[List.length_append,List.length_cons,List.length_nil] at z y⊢
   omega
 case look v a=>
  split
  .exact h1
  .split
   .exact h1
   .split
    .split
     .exact h1
     .rename_i g hg
      have z:=xE (List.mem_of_find?_eq_some hg)
      have:=h.gs
      simp only[List.length_append,List.length_cons,List.length_nil,List.length_map]
      omega
    .split
     .exact h1
     .show 4<=_;omega
 case counts p=>
  split
  .exact h1
  .split
   .exact h1
   .rename_i x hx
    have z:=hd x (List.mem_of_getElem? hx)
    simp only[List.length_append,List.length_cons,List.length_nil,List.length_map]
    omega
 case vcounts=>split<;>(simp only[List.length_cons,List.length_nil];omega)
 all_goals
  repeat' split
  all_goals (simp only[List.length_cons,List.length_nil];omega)
end Sw
namespace Sw
open L2
def oI:Option Nat->Int
 |none=>-1
 |some n=>n
def bI:Bool->Int
 |true=>1
 |false=>0
def eP:Option (Nat×Bool)->Int
 |none=>0
 |some x=>x.1
def gG:Option (Nat×Bool)->Int
 |some (_,true)=>1
 |_=>0
structure bo where
 a:Nat
 d:Nat
 r:Vbcnab.Row
 un:Int
 mv:Int
structure bQ where
 a:Nat
 g:Vbcnab.Grp
 ks:IM Unit
structure af where
 a:Nat
 d:Nat
 bO:Nat
 c7:Nat
 du:Nat
 d5:Nat
 cU:Nat
 w:Vbcnab.Vlan
 rows:IM bo
 groups:IM bQ
 gates:List Int
 a_:List Int
 spread:List Int
structure aA where
 a:Nat
 d:Nat
 c0:Nat
 s:Vbcnab.Side
 pairs:IM Int
structure ba where
 a:Nat
 d:Nat
 gh:Nat
 p:Vbcnab.Port
structure ae where
 a:Nat
 d:Nat
 iG:Nat
 fV:Nat
 bN:Nat
 ports:List ba
 sides:List aA
 vlans:IM af
 cap:Nat
 age:Nat
 hold:Nat
 mirror:Option Nat
 now:Nat
abbrev ae.gF(m:ae)(i:Nat)(x:aA):ae:={m with sides:=m.sides.set i x}
abbrev ae.setPort(m:ae)(i:Nat)(x:ba):ae:={m with ports:=m.ports.set i x}
abbrev ae.cb(m:ae)(k:Int)(x:af):ae:={m with vlans:=bw m.vlans k x}
abbrev af.wr(v:af)(rows:IM bo):af:={v with rows:=rows}
structure View where
 rows:List Vbcnab.Row
 groups:List Vbcnab.Grp
 gate:Nat->Nat
 a_:Nat->Bool
 spread:Nat->Nat
def view(s:Vbcnab.State)(v:Nat):View:=⟨s.rows.filter λr=>r.vlan==v,s.groups.filter λg=>g.vlan==v,λq=>Vbcnab.gateOf s q v,λq=>Vbcnab.isShut s q v,λq=>Vbcnab.spread s q v⟩
def View.no:View:=⟨[],[],λ_=>2,λ_=>false,λ_=>0⟩
structure cI(x:aA):Prop where
 perm:(x.s.pairs.map λy=>((y.1:Int),(y.2:Int))).Perm x.pairs
 bH:x.s.pairs.Pairwise λa b=>a.1<b.1
 pos:∀y∈x.s.pairs,1<=y.1/\1<=y.2
 jy:(x.s.pairs.map (·.2)).Nodup
 gu:∀y,x.s.lock=some y->1<=y.1
structure k4(n:Nat)(x:ba):Prop where
 lt:∀q,x.p.side=some q->q<n
 dl:x.p.drops.length=14
structure de(now n v:Nat)(k:Int)(x:bo):Prop where
 vlan:x.r.vlan=v
 hw:(x.r.hw:Int)=k
 ng:Vbcnab.isGroup x.r.hw=false
 at_:x.r.kind≠.fixed->x.r.side≠none
 lt:∀q,x.r.side=some q->q<n
 un:x.r.kind=.learned->x.un=x.r.until_
 zu:x.r.kind≠.learned->x.r.until_=0
 live:x.r.kind=.learned->now<x.r.until_
 mv:x.r.kind=.learned->x.mv=x.r.rest\/(x.mv<=now/\x.r.rest<=now)
structure cq(n v:Nat)(k:Int)(x:bQ):Prop where
 vlan:x.g.vlan=v
 hw:(x.g.hw:Int)=k
 gr:Vbcnab.isGroup x.g.hw=true
 perm:(x.g.sides.map λ(q:Nat)=>(q:Int)).Perm (x.ks.map (·.1))
 bH:x.g.sides.Pairwise (·<·)
 ne:x.g.sides≠[]
 lt:∀q∈x.g.sides,q<n
structure cf(now n cap:Nat)(e:View)(k:Int)(x:af):Prop where
 id:(x.w.id:Int)=k
 pos:1<=x.w.id
 age:1<=x.w.age
 rk:(x.rows.map (·.1)).Nodup
 b_:∀p∈x.rows,de now n x.w.id p.1 p.2
 rws:e.rows.Perm (x.rows.map (·.2.r))
 gk:(x.groups.map (·.1)).Nodup
 bG:∀p∈x.groups,cq n x.w.id p.1 p.2
 eM:e.groups.Perm (x.groups.map (·.2.g))
 size:x.rows.length+x.groups.length<=cap
 gates:x.gates=(List.range n).map λq=>(e.gate q:Int)
 a_:x.a_=(List.range n).map λq=>bI (e.a_ q)
 spread:x.spread=(List.range n).map λq=>(e.spread q:Int)
structure Rep(m:ae)(s:Vbcnab.State):Prop where
 on:s.on=true
 now:s.now=m.now
 cap:s.cap=m.cap
 age:s.age=m.age
 hold:s.hold=m.hold
 mirror:s.mirror=m.mirror
 ports:s.ports=m.ports.map (·.p)
 sides:s.sides=m.sides.map (·.s)
 dF:m.ports.length=m.sides.length
 bV:1<=m.sides.length
 cg:m.sides.length<=64
 c5:m.cap<=65536
 gd:1<=m.age
 dP:∀x∈m.ports,k4 m.sides.length x
 mlt:∀q,m.mirror=some q->q<m.sides.length
 bL:∀x∈m.sides,cI x
 sv:∀x∈m.sides,∀v:Nat,v≠0->x.s.native_=v\/v∈x.s.pairs.map (·.2)->∃u,lk m.vlans (v:Int)=some u
 vk:(m.vlans.map (·.1)).Nodup
 ff:m.vlans.length<=64
 vlans:s.vlans.Perm (m.vlans.map (·.2.w))
 cN:∀p∈m.vlans,cf m.now m.sides.length m.cap (view s p.2.w.id) p.1 p.2
 fJ:∀v,(∀p∈m.vlans,p.2.w.id≠v)->view s v=View.no
 bH:iW s.rows
 dX:jF s.groups
section
variable{m:ae}{s:Vbcnab.State}
theorem find_perm{α:Type}{l l':List α}(p:l.Perm l'){f:α->Bool}(u:∀a∈l,∀b∈l,f a=true->f b=true->a=b):l.find? f=l'.find? f:=by
 cases h:l.find? f with
 |none=>
  have h1:=List.find?_eq_none.mp h
  exact(List.find?_eq_none.mpr λx hx=>h1 x (p.mem_iff.mpr hx)).symm
 |some a=>
  have ha:=List.find?_some h
  have hm:=List.mem_of_find?_eq_some h
  cases h':l'.find? f with
  |none=>exact absurd ha (by simpa using List.find?_eq_none.mp h' a (p.mem_iff.mp hm))
  |some b=>rw[u a hm b (p.mem_iff.mpr (List.mem_of_find?_eq_some h')) ha (List.find?_some h')]
theorem o9{α β:Type}{l:List β}{x:IM α}{g:α->β}(p:l.Perm (x.map λy=>g y.2))(nd:(x.map (·.1)).Nodup){f:β->Bool}{k:Int}(h:∀y∈x,f (g y.2)=decide (y.1=k)):l.find? f=(lk x k).map g:=by
 rw[<-yl g f h]
 refine find_perm p λa ha b hb ea eb=>?_
 obtain⟨y,hy,rfl⟩:=List.mem_map.mp (p.mem_iff.mp ha)
 obtain⟨z,hz,rfl⟩:=List.mem_map.mp (p.mem_iff.mp hb)
 rw[h y hy] at ea
 rw[h z hz] at eb
 have e1:=dw nd hy
 have e2:=dw nd hz
 rw[of_decide_eq_true ea] at e1
 rw[of_decide_eq_true eb,e1] at e2
 rw[Option.some.inj e2]
theorem Rep.vlanOf(r:Rep m s)(v:Nat):Vbcnab.vlanOf s v=(lk m.vlans v).map (·.w):=by
 unfold Vbcnab.vlanOf
 refine o9 r.vlans r.vk λy hy=>?_
 have:=(r.cN y hy).id
 by_cases e:y.1=(v:Int)
 .rw[decide_eq_true e];exact beq_iff_eq.mpr (by omega)
 .rw[decide_eq_false e];exact beq_eq_false_iff_ne.mpr (by omega)
theorem Rep.at(r:Rep m s){k:Int}{v:af}(h:lk m.vlans k=some v):cf m.now m.sides.length m.cap (view s v.w.id) k v:=r.cN _ (b0 h)
theorem Rep.key(r:Rep m s){k:Int}{v:af}(h:lk m.vlans k=some v):(v.w.id:Int)=k:=(r.at h).id
theorem Rep.isVlan(r:Rep m s)(v:Int):Vbcnab.isVlan s v=(lk m.vlans v).isSome:=by
 unfold Vbcnab.isVlan
 by_cases h:1<=v
 .obtain⟨n,rfl⟩:∃n:Nat,v=n:=⟨v.toNat,by omega⟩
  rw[decide_eq_true h,Bool.true_and,Int.toNat_natCast,r.vlanOf n]
  cases lk m.vlans (n:Int)<;>rfl
 .rw[decide_eq_false h,Bool.false_and]
  cases e:lk m.vlans v with
  |none=>rfl
  |some x=>
   have q:=r.at e
   have:=q.id;have:=q.pos
   omega
theorem Rep.M6(r:Rep m s):s.vlans.length=m.vlans.length:=by rw[r.vlans.length_eq,List.length_map]
theorem Rep.no(r:Rep m s){v:Nat}(h:lk m.vlans (v:Int)=none):view s v=View.no:=r.fJ v λp hp e=>by
 have:=(r.cN p hp).id
 exact gw.mp h (List.mem_map.mpr ⟨p,hp,by omega⟩)
theorem MT(s:Vbcnab.State)(v a:Nat):Vbcnab.rowOf s v a=(view s v).rows.find? λr=>r.hw==a:=by
 unfold Vbcnab.rowOf view
 rw[List.find?_filter]
 congr 1;funext r;simp;rfl
theorem MS(s:Vbcnab.State)(v a:Nat):Vbcnab.groupOf s v a=(view s v).groups.find? λr=>r.hw==a:=by
 unfold Vbcnab.groupOf view
 rw[List.find?_filter]
 congr 1;funext r;simp;rfl
section
variable{now n cap:Nat}{e:View}{k:Int}{x:af}
theorem cf.rowOf(o:cf now n cap e k x)(a:Nat):(e.rows.find? λr=>r.hw==a)=(lk x.rows (a:Int)).map (·.r):=by
 refine o9 o.rws o.rk λy hy=>?_
 have:=(o.b_ y hy).hw
 by_cases z:y.1=(a:Int)
 .rw[decide_eq_true z];exact beq_iff_eq.mpr (by omega)
 .rw[decide_eq_false z];exact beq_eq_false_iff_ne.mpr (by omega)
theorem cf.Ep(o:cf now n cap e k x)(a:Nat):(e.groups.find? λr=>r.hw==a)=(lk x.groups (a:Int)).map (·.g):=by
 refine o9 o.eM o.gk λy hy=>?_
 have:=(o.bG y hy).hw
 by_cases z:y.1=(a:Int)
 .rw[decide_eq_true z];exact beq_iff_eq.mpr (by omega)
 .rw[decide_eq_false z];exact beq_eq_false_iff_ne.mpr (by omega)
theorem kJ{β:Type}(f:Nat->β){n q:Nat}(h:q<n):((List.range n).map f)[q]? =some (f q):=by
 rw[List.getElem?_map,List.getElem?_range h];rfl
theorem mF{β:Type}(f:Nat->β)(n q:Nat)(y:β):((List.range n).map f).set q y=(List.range n).map λj=>if j=q then y else f j:=by
 refine List.ext_getElem? λj=>?_
 by_cases hj:j<n
 .rw[kJ _ hj,List.getElem?_set,kJ _ hj,List.length_map,List.length_range]
  by_cases h:q=j
  .subst h;simp[hj]
  .have h':¬j=q:=λz=>h z.symm
   simp[h,h']
 .rw[List.getElem?_eq_none (by rw[List.length_set,List.length_map,List.length_range];omega),List.getElem?_eq_none (by rw[List.length_map,List.length_range];omega)]
end
theorem Rep.uniq(r:Rep m s){k:Int}{v:af}(h:lk m.vlans k=some v){p:Int×af}(hp:p∈m.vlans)(e:p.2.w.id=v.w.id):p=(k,v):=by
 have e1:=(r.cN p hp).id
 have e2:=r.key h
 have e3:p.1=k:=by omega
 have l1:=dw r.vk hp
 rw[e3,h] at l1
 exact Prod.ext e3 (Option.some.inj l1).symm
theorem Rep.vlan(r:Rep m s){k:Int}{v:af}(h:lk m.vlans k=some v){v':af}{L:List Vbcnab.Vlan}{R:List Vbcnab.Row}{G:List Vbcnab.Grp}{ga fl:List (Nat×Nat×Nat)}{sh:List (Nat×Nat)}(hid:v'.w.id=v.w.id)(hL:L.Perm ((bw m.vlans k v').map (·.2.w)))(hR:iW R)(hG:jF G)(ok:cf m.now m.sides.length m.cap (view {s with vlans:=L,rows:=R,groups:=G,gates:=ga,shuts:=sh,floods:=fl} v.w.id) k v')(oth:∀u,u≠v.w.id->view {s with vlans:=L,rows:=R,groups:=G,gates:=ga,shuts:=sh,floods:=fl} u=view s u):Rep (m.cb k v') {s with vlans:=L,rows:=R,groups:=G,gates:=ga,shuts:=sh,floods:=fl}:=by
 refine⟨r.on,r.now,r.cap,r.age,r.hold,r.mirror,r.ports,r.sides,r.dF,r.bV,r.cg,r.c5,r.gd,r.dP,r.mlt,r.bL,λx hx u hu z=>?_,?_,?_,hL,λp hp=>?_,λu hu=>?_,hR,hG⟩
 .obtain⟨y,hy⟩:=r.sv x hx u hu z
  show∃w,lk (bw m.vlans k v') u=some w
  rw[gx,hy]
  exact⟨_,rfl⟩
 .show((bw m.vlans k v').map (·.1)).Nodup
  rw[ot];exact r.vk
 .show(bw m.vlans k v').length<=64
  unfold bw;rw[List.length_map];exact r.ff
 .rcases Ga hp with rfl|⟨hp',hk⟩
  .show cf _ _ _ (view _ v'.w.id) k v'
   rw[hid];exact ok
  .have hne:p.2.w.id≠v.w.id:=λe=>hk (by rw[r.uniq h hp' e])
   rw[oth _ hne]
   exact r.cN p hp'
 .have hne:u≠v.w.id:=λe=>hu (k,v') (by
   have z:=b0 (l:=bw m.vlans k v') (k:=k) (x:=v') (by rw[gx,h];simp)
   exact z) (by show v'.w.id=u;rw[hid,e])
  rw[oth u hne]
  refine r.fJ u λp hp e=>?_
  have hk:p.1≠k:=λz=>hne (by
   have l1:=dw r.vk hp
   rw[z,h] at l1
   rw[<-e,<-Option.some.inj l1])
  refine hu p ?_ e
  have l1:=dw r.vk hp
  have z:=b0 (l:=bw m.vlans k v') (k:=p.1) (x:=p.2) (by rw[gx,l1];simp[hk])
  exact z
theorem Rep.rn(r:Rep m s){k:Int}{v v':af}(h:lk m.vlans k=some v)(hw:v'.w=v.w):s.vlans.Perm ((bw m.vlans k v').map (·.2.w)):=by
 have e:(bw m.vlans k v').map (·.2.w)=m.vlans.map (·.2.w):=by
  unfold bw
  rw[List.map_map]
  refine List.map_congr_left λp hp=>?_
  show(if p.1=k then(p.1,v') else p).2.w=p.2.w
  by_cases z:p.1=k
  .have l1:=dw r.vk hp
   rw[z,h] at l1
   rw[if_pos z]
   show v'.w=p.2.w
   rw[hw,Option.some.inj l1]
  .rw[if_neg z]
 rw[e];exact r.vlans
theorem Rep.Iu(r:Rep m s){k:Int}{v v':af}(h:lk m.vlans k=some v){f:Vbcnab.Vlan->Vbcnab.Vlan}(hw:v'.w=f v.w):(s.vlans.map λw=>if w.id=v.w.id then f w else w).Perm ((bw m.vlans k v').map (·.2.w)):=by
 have e:(bw m.vlans k v').map (·.2.w)=(m.vlans.map (·.2.w)).map λw=>if w.id=v.w.id then f w else w:=by
  unfold bw
  rw[List.map_map,List.map_map]
  refine List.map_congr_left λp hp=>?_
  show(if p.1=k then(p.1,v') else p).2.w=if p.2.w.id=v.w.id then f p.2.w else p.2.w
  by_cases z:p.1=k
  .have l1:=dw r.vk hp
   rw[z,h] at l1
   have e:=Option.some.inj l1
   rw[if_pos z,if_pos (by rw[e])]
   show v'.w=f p.2.w
   rw[hw,e]
  .rw[if_neg z,if_neg]
   exactλe=>z (by rw[r.uniq h hp e])
 rw[e];exact r.vlans.map _
theorem Rep.pL(r:Rep m s){k:Int}{v:af}(h:lk m.vlans k=some v){rows:IM bo}{R:List Vbcnab.Row}(hR:iW R)(hp:(R.filter λr=>r.vlan==v.w.id).Perm (rows.map (·.2.r)))(ho:∀u,u≠v.w.id->(R.filter λr=>r.vlan==u)=s.rows.filter λr=>r.vlan==u)(hk:(rows.map (·.1)).Nodup)(hrk:∀p∈rows,de m.now m.sides.length v.w.id p.1 p.2)(hs:rows.length+v.groups.length<=m.cap):Rep (m.cb k (v.wr rows)) {s with rows:=R}:=by
 have o:=r.at h
 refine r.vlan (v':=v.wr rows) (L:=s.vlans) (R:=R) (G:=s.groups) (ga:=s.gates) (sh:=s.shuts) (fl:=s.floods) h rfl (r.rn h rfl) hR r.dX ⟨o.id,o.pos,o.age,hk,hrk,hp,o.gk,o.bG,o.eM,hs,o.gates,o.a_,o.spread⟩ λu hu=>?_
 show View.mk (R.filter λr=>r.vlan==u) _ _ _ _=view s u
 rw[ho u hu];rfl
theorem Rep.xB(r:Rep m s){k:Int}{v:af}(h:lk m.vlans k=some v){gs:IM bQ}{G:List Vbcnab.Grp}(hG:jF G)(hp:(G.filter λr=>r.vlan==v.w.id).Perm (gs.map (·.2.g)))(ho:∀u,u≠v.w.id->(G.filter λr=>r.vlan==u)=s.groups.filter λr=>r.vlan==u)(hk:(gs.map (·.1)).Nodup)(hrk:∀p∈gs,cq m.sides.length v.w.id p.1 p.2)(hs:v.rows.length+gs.length<=m.cap):Rep (m.cb k {v with groups:=gs}) {s with groups:=G}:=by
 have o:=r.at h
 refine r.vlan (v':={v with groups:=gs}) (L:=s.vlans) (R:=s.rows) (G:=G) (ga:=s.gates) (sh:=s.shuts) (fl:=s.floods) h rfl (r.rn h rfl) r.bH hG ⟨o.id,o.pos,o.age,o.rk,o.b_,o.rws,hk,hrk,hp,hs,o.gates,o.a_,o.spread⟩ λu hu=>?_
 show View.mk _ (G.filter λr=>r.vlan==u) _ _ _=view s u
 rw[ho u hu];rfl
theorem Rep.onVlan(r:Rep m s){k:Int}{v:af}(h:lk m.vlans k=some v){f:Vbcnab.Vlan->Vbcnab.Vlan}(hid:(f v.w).id=v.w.id)(ha:1<=(f v.w).age):Rep (m.cb k {v with w:=f v.w}) (Vbcnab.onVlan s v.w.id f):=by
 have o:=r.at h
 exact r.vlan (v':={v with w:=f v.w}) (R:=s.rows) (G:=s.groups) (ga:=s.gates) (sh:=s.shuts) (fl:=s.floods) h hid (r.Iu h rfl) r.bH r.dX ⟨by show((f v.w).id:Int)=k;rw[hid];exact o.id,by show 1<=(f v.w).id;rw[hid];exact o.pos,ha,o.rk,by show∀p∈v.rows,de _ _ (f v.w).id _ _;rw[hid];exact o.b_,o.rws,o.gk,by show∀p∈v.groups,cq _ (f v.w).id _ _;rw[hid];exact o.bG,o.eM,o.size,o.gates,o.a_,o.spread⟩ λu hu=>rfl
theorem Rep.put(r:Rep m s){k:Int}{v:af}(h:lk m.vlans k=some v){x:bo}(hx:de m.now m.sides.length v.w.id (x.r.hw:Int) x)(hs:(lk v.rows (x.r.hw:Int)).isSome=true\/v.rows.length+v.groups.length<m.cap):Rep (m.cb k (v.wr (putL v.rows (x.r.hw:Int) x))) {s with rows:=Vbcnab.putRow x.r s.rows}:=by
 have o:=r.at h
 have e:=pB x.r s.rows
 refine r.pL h ?_ ?_ (λu hu=>?_) (l6 o.rk) (λp hp=>?_) ?_
 .rw[e];exact pq _ _ _ r.bH
 .rw[e,<-hx.vlan]
  refine(zx (·.vlan) (·.hw) x.r r.bH).trans ?_
  refine List.Perm.trans ?_ (zA (λy:bo=>y.r) (λb=>(b.hw:Int)) o.rk λp hp=>(o.b_ p hp).hw).symm
  refine List.Perm.cons _ ?_
  have z:=(o.rws.filter λb=>b.hw !=x.r.hw)
  have e2:(λ(b:Vbcnab.Row)=>decide ((b.hw:Int)≠(x.r.hw:Int)))=λb=>b.hw !=x.r.hw:=by
   funext b
   by_cases q:b.hw=x.r.hw
   .simp[q]
   .have:¬(b.hw:Int)=x.r.hw:=by omega
    simp[q,this]
  rw[e2,hx.vlan]
  exact z
 .rw[e];exact pk _ _ _ (by rw[hx.vlan];exact hu) _
 .rcases yz hp with rfl|⟨hp',_⟩
  .exact hx
  .exact o.b_ p hp'
 .rw[zz]
  have:=o.size
  split
  .exact this
  .rename_i z
   rcases hs with y|y
   .exact absurd y z
   .omega
theorem gR{α:Type}(f g:α->Bool)(l:List α):(l.filter f).filter g=(l.filter g).filter f:=by
 rw[List.filter_filter,List.filter_filter]
 congr 1;funext x;exact Bool.and_comm _ _
theorem Rep.del(r:Rep m s){k:Int}{v:af}(h:lk m.vlans k=some v)(a:Nat):Rep (m.cb k (v.wr (a9 v.rows (a:Int)))) {s with rows:=s.rows.filter λr=>!(r.vlan==v.w.id&&r.hw==a)}:=by
 have o:=r.at h
 refine r.pL h (r.bH.filter _) ?_ (λu hu=>?_) (oN o.rk) (λp hp=>o.b_ p (List.mem_filter.mp hp).1) ?_
 .rw[gR,nR (λy:bo=>y.r) (λb=>(b.hw:Int)) λp hp=>(o.b_ p hp).hw]
  have z:=o.rws.filter λb=>decide ((b.hw:Int)≠(a:Int))
  have e:((s.rows.filter λr=>r.vlan==v.w.id).filter λr=>!(r.vlan==v.w.id&&r.hw==a))=((s.rows.filter λr=>r.vlan==v.w.id).filter λb=>decide ((b.hw:Int)≠(a:Int))):=List.filter_congr λb hb=>by
   have:=(List.mem_filter.mp hb).2
   rw[this,Bool.true_and]
   by_cases q:b.hw=a
   .simp[q]
   .have:¬(b.hw:Int)=a:=by omega
    simp[q,this]
  rw[e];exact z
 .rw[List.filter_filter]
  refine List.filter_congr λb _=>?_
  by_cases q:b.vlan=u
  .have:¬u=v.w.id:=hu
   simp[q,this]
  .simp[q]
 .have:=o.size
  have:=List.length_filter_le (λp:Int×bo=>decide (p.1≠(a:Int))) v.rows
  show(a9 v.rows (a:Int)).length+_<=_
  unfold a9
  omega
theorem Rep.all(r:Rep m s)(g:Int×af->af){R:List Vbcnab.Row}{fl:List (Nat×Nat×Nat)}{now:Nat}(hR:iW R)(hw:∀p∈m.vlans,(g p).w=p.2.w)(ok:∀p∈m.vlans,cf now m.sides.length m.cap (view {s with rows:=R,floods:=fl,now:=now} p.2.w.id) p.1 (g p))(no:∀v,(∀p∈m.vlans,p.2.w.id≠v)->view {s with rows:=R,floods:=fl,now:=now} v=View.no):Rep {m with vlans:=m.vlans.map λp=>(p.1,g p),now:=now} {s with rows:=R,floods:=fl,now:=now}:=by
 refine⟨r.on,rfl,r.cap,r.age,r.hold,r.mirror,r.ports,r.sides,r.dF,r.bV,r.cg,r.c5,r.gd,r.dP,r.mlt,r.bL,λx hx u hu z=>?_,?_,?_,?_,λp hp=>?_,λv hv=>?_,hR,r.dX⟩
 .obtain⟨y,hy⟩:=r.sv x hx u hu z
  have hm:=List.mem_map_of_mem (f:=λp:Int×af=>(p.1,g p)) (b0 hy)
  show∃w,lk (m.vlans.map λp=>(p.1,g p)) u=some w
  exact⟨_,iz (by rw[List.map_map];exact r.vk) hm⟩
 .show((m.vlans.map λp=>(p.1,g p)).map (·.1)).Nodup
  rw[List.map_map];exact r.vk
 .show(m.vlans.map _).length<=64
  rw[List.length_map];exact r.ff
 .show s.vlans.Perm ((m.vlans.map λp=>(p.1,g p)).map (·.2.w))
  rw[List.map_map]
  have e:m.vlans.map ((λx=>x.2.w)∘λp=>(p.1,g p))=m.vlans.map (·.2.w):=List.map_congr_left λp hp=>hw p hp
  rw[e];exact r.vlans
 .obtain⟨q,hq,rfl⟩:=List.mem_map.mp hp
  show cf _ _ _ (view _ (g q).w.id) q.1 (g q)
  rw[hw q hq];exact ok q hq
 .refine no v λp hp=>?_
  have z:=hv _ (List.mem_map.mpr ⟨p,hp,rfl⟩)
  rw[<-hw p hp];exact z
theorem cf.z8{now n cap now':Nat}{e:View}{k:Int}{x:af}(o:cf now n cap e k x){rows:IM bo}{R:List Vbcnab.Row}(hk:(rows.map (·.1)).Nodup)(hrk:∀p∈rows,de now' n x.w.id p.1 p.2)(hp:R.Perm (rows.map (·.2.r)))(hs:rows.length<=x.rows.length):cf now' n cap {e with rows:=R} k (x.wr rows):=
 ⟨o.id,o.pos,o.age,hk,hrk,hp,o.gk,o.bG,o.eM,by have:=o.size;show rows.length+x.groups.length<=cap;omega,o.gates,o.a_,o.spread⟩
theorem Rep.filter(r:Rep m s)(Pd:Vbcnab.Row->Bool)(kp:Int×af->Int×bo->Bool)(h:∀v∈m.vlans,∀x∈v.2.rows,Pd x.2.r=kp v x):Rep {m with vlans:=m.vlans.map λp=>(p.1,p.2.wr (p.2.rows.filter (kp p)))} {s with rows:=s.rows.filter Pd}:=by
 have z:=r.all (λp=>p.2.wr (p.2.rows.filter (kp p))) (R:=s.rows.filter Pd) (fl:=s.floods) (now:=m.now) (r.bH.filter _) (λ_ _=>rfl) (λp hp=>?_) λv hv=>?_
 .have e:({s with rows:=s.rows.filter Pd,floods:=s.floods,now:=m.now}:Vbcnab.State)={s with rows:=s.rows.filter Pd}:=by rw[<-r.now]
  rw[e] at z
  exact z
 .have o:=r.cN p hp
  refine o.z8 (R:=(s.rows.filter Pd).filter λr=>r.vlan==p.2.w.id) ((List.filter_sublist.map _).nodup o.rk) (λx hx=>o.b_ x (List.mem_filter.mp hx).1) ?_ (List.length_filter_le _ _)
  rw[gR]
  refine(o.rws.filter Pd).trans ?_
  rw[List.filter_map]
  have e:p.2.rows.filter (Pd∘λx=>x.2.r)=p.2.rows.filter (kp p):=List.filter_congr λx hx=>h p hp x hx
  rw[e]
 .have z:=r.fJ v hv
  show View.mk ((s.rows.filter Pd).filter λr=>r.vlan==v) (view s v).groups (view s v).gate (view s v).a_ (view s v).spread=View.no
  rw[gR]
  have e:(s.rows.filter λr=>r.vlan==v)=[]:=by
   have:=congrArg View.rows z
   exact this
  rw[e,z];rfl
end
end Sw
namespace Sw
open L2
inductive cc{α β:Type}(Rl:α->β->Prop):IM α->IM β->Prop
 |nil:cc Rl [] []
 |cons {k:Int} {x:α} {y:β} {l:IM α} {l':IM β}:Rl x y->cc Rl l l'->cc Rl ((k,x)::l) ((k,y)::l')
theorem cc.snoc{α β:Type}{Rl:α->β->Prop}{k:Int}{x:α}{y:β}(h:Rl x y):∀{l:IM α}{l':IM β},cc Rl l l'->cc Rl (l++[(k,x)]) (l'++[(k,y)])
 |_,_,.nil=>.cons h .nil
 |_,_,.cons a b=>.cons a (cc.snoc h b)
theorem cc.mem{α β:Type}{Rl:α->β->Prop}{p:Int×β}:∀{l:IM α}{l':IM β},cc Rl l l'->p∈l'->∃q∈l,q.1=p.1/\Rl q.2 p.2
 |_,_,.nil,h=>by cases h
 |_,_,.cons (k:=k) (x:=x) a b,h=>by
  rcases List.mem_cons.mp h with rfl|h
  .exact⟨(k,x),List.mem_cons_self,rfl,a⟩
  .obtain⟨q,hq,e⟩:=cc.mem b h
   exact⟨q,List.mem_cons_of_mem _ hq,e⟩
theorem cc.gy{α β γ:Type}{Rl:α->β->Prop}(f:Int×α->γ)(g:Int×β->γ)(h:∀k x y,Rl x y->f (k,x)=g (k,y)):∀{l:IM α}{l':IM β},cc Rl l l'->l.map f=l'.map g
 |_,_,.nil=>rfl
 |_,_,.cons a b=>by rw[List.map_cons,List.map_cons,h _ _ _ a,cc.gy f g h b]
section
variable{m:ae}{s:Vbcnab.State}
theorem bS(x lo hi:Int):Vbcnab.within x lo hi=decide (lo<=x/\x<=hi):=by
 unfold Vbcnab.within
 by_cases h1:lo<=x<;>by_cases h2:x<=hi<;>simp[h1,h2]
theorem ck(r:Rep m s)(n:Int):Vbcnab.isSide s n=decide (0<=n/\n<m.sides.length):=by
 unfold Vbcnab.isSide
 rw[bS,r.sides,List.length_map]
 exact decide_eq_decide.mpr (by omega)
theorem Rep.isPort(r:Rep m s)(n:Int):Vbcnab.isPort s n=decide (0<=n/\n<m.ports.length):=by
 unfold Vbcnab.isPort
 rw[bS,r.ports,List.length_map]
 exact decide_eq_decide.mpr (by omega)
theorem Rep.d6(r:Rep m s){i:Nat}{x:aA}(h:m.sides[i]? =some x):cI x:=r.bL x (List.mem_of_getElem? h)
theorem d4(r:Rep m s){i:Nat}{x:aA}(h:m.sides[i]? =some x):Vbcnab.sideAt s i=x.s:=by
 unfold Vbcnab.sideAt
 rw[r.sides,List.getD_eq_getElem?_getD,List.getElem?_map,h];rfl
theorem nN{α β:Type}(f:α->β)(g:β->β):∀{l:List α}{i:Nat}{x y:α},l[i]? =some x->f y=g (f x)->Vbcnab.changeAt (l.map f) i g=(l.set i y).map f
 |[],_,_,_,h,_=>by simp at h
 |a::l,0,x,y,h,e=>by
  have z:a=x:=Option.some.inj h
  subst z
  show g (f a)::l.map f=f y::l.map f
  rw[e]
 |a::l,i+1,x,y,h,e=>congrArg (List.cons (f a)) (nN f g (l:=l) (i:=i) h e)
theorem Rep.side(r:Rep m s){i:Nat}{x:aA}(h:m.sides[i]? =some x)(g:Vbcnab.Side->Vbcnab.Side){y:aA}(hy:y.s=g x.s)(ok:cI y)(hv:∀v:Nat,v≠0->y.s.native_=v\/v∈y.s.pairs.map (·.2)->∃u,lk m.vlans (v:Int)=some u):Rep (m.gF i y) (Vbcnab.onSide s i g):=by
 have hl:(m.sides.set i y).length=m.sides.length:=List.length_set
 refine⟨r.on,r.now,r.cap,r.age,r.hold,r.mirror,r.ports,?_,?_,?_,?_,r.c5,r.gd,?_,?_,?_,?_,r.vk,r.ff,r.vlans,?_,r.fJ,r.bH,r.dX⟩
 .show Vbcnab.changeAt s.sides i g=_
  rw[r.sides]
  exact nN _ g h hy
 .show m.ports.length=_
  rw[hl];exact r.dF
 .show 1<=(m.sides.set i _).length
  rw[hl];exact r.bV
 .show(m.sides.set i _).length<=64
  rw[hl];exact r.cg
 .show∀x∈m.ports,k4 (m.sides.set i _).length x
  rw[hl];exact r.dP
 .show∀q,m.mirror=some q->q<(m.sides.set i _).length
  rw[hl];exact r.mlt
 .intro z hz
  rcases List.mem_or_eq_of_mem_set hz with hz|rfl
  .exact r.bL z hz
  .exact ok
 .intro z hz
  rcases List.mem_or_eq_of_mem_set hz with hz|rfl
  .exact r.sv z hz
  .exact hv
 .intro p hp'
  show cf m.now (m.sides.set i _).length _ _ _ _
  rw[hl]
  exact r.cN p hp'
theorem jk(r:Rep m s){i:Nat}{x:aA}(h:m.sides[i]? =some x)(g:Vbcnab.Side->Vbcnab.Side)(hp:(g x.s).pairs=x.s.pairs:=by rfl)(hn:(g x.s).native_=x.s.native_:=by rfl)(hl:∀y,(g x.s).lock=some y->1<=y.1):Rep (m.gF i {x with s:=g x.s}) (Vbcnab.onSide s i g):=by
 have o:=r.d6 h
 refine r.side h g (y:={x with s:=g x.s}) rfl ⟨?_,?_,?_,?_,hl⟩ ?_
 .show((g x.s).pairs.map _).Perm _;rw[hp];exact o.perm
 .show(g x.s).pairs.Pairwise _;rw[hp];exact o.bH
 .show∀y∈(g x.s).pairs,_;rw[hp];exact o.pos
 .show((g x.s).pairs.map _).Nodup;rw[hp];exact o.jy
 .show∀v:Nat,v≠0->(g x.s).native_=v\/v∈(g x.s).pairs.map (·.2)->_
  rw[hp,hn];exact r.sv x (List.mem_of_getElem? h)
theorem Rep.port(r:Rep m s){i:Nat}{x:ba}(h:m.ports[i]? =some x)(g:Vbcnab.Port->Vbcnab.Port)(ok:k4 m.sides.length {x with p:=g x.p}):Rep (m.setPort i {x with p:=g x.p}) (Vbcnab.onPort s i g):=by
 refine⟨r.on,r.now,r.cap,r.age,r.hold,r.mirror,?_,r.sides,?_,r.bV,r.cg,r.c5,r.gd,?_,r.mlt,r.bL,r.sv,r.vk,r.ff,r.vlans,r.cN,r.fJ,r.bH,r.dX⟩
 .show Vbcnab.changeAt s.ports i g=_
  rw[r.ports]
  exact nN _ g h rfl
 .show(m.ports.set i _).length=_
  rw[List.length_set];exact r.dF
 .intro z hz
  rcases List.mem_or_eq_of_mem_set hz with hz|rfl
  .exact r.dP z hz
  .exact ok
theorem Rep.eQ(r:Rep m s){i:Nat}{x:ba}(h:m.ports[i]? =some x):k4 m.sides.length x:=r.dP x (List.mem_of_getElem? h)
def ae.dE(m:ae)(q:Int):List Nat:=(List.range m.ports.length).filter λj=>decide ((m.ports[j]?.map λx=>oI x.p.side)=some q)
def ae.eO(m:ae)(q:Int):List Nat:=(m.dE q).filter λj=>decide ((m.ports[j]?.map λx=>x.p.up)=some true)
def ae.live(m:ae)(q:Int):Bool:=decide (0<(m.eO q).length)
def ae.dead(m:ae):List Int:=((List.range m.sides.length).filter λ(q:Nat)=>!m.live q).map λ(q:Nat)=>(q:Int)
theorem Rep.portsOf(r:Rep m s)(q:Nat):Vbcnab.portsOf s q=m.dE q:=by
 unfold Vbcnab.portsOf ae.dE
 rw[r.ports,List.length_map]
 refine List.filter_congr λj _=>?_
 rw[List.getElem?_map]
 cases m.ports[j]? with
 |none=>rfl
 |some x=>
  show(x.p.side==some q)=decide (some (oI x.p.side)=some (q:Int))
  cases x.p.side with
  |none=>simp[oI]
  |some y=>
   by_cases e:y=q
   .subst e;simp[oI]
   .have:¬(y:Int)=q:=by omega
    show(some y==some q)=decide (some (y:Int)=some (q:Int))
    rw[decide_eq_false (by simpa using this)]
    simpa using e
theorem Rep.upsOf(r:Rep m s)(q:Nat):Vbcnab.upsOf s q=m.eO q:=by
 unfold Vbcnab.upsOf ae.eO
 rw[r.portsOf q,r.ports]
 refine List.filter_congr λj _=>?_
 rw[List.getElem?_map]
 cases m.ports[j]? with
 |none=>rfl
 |some x=>show(some x.p.up==some true)=decide (some x.p.up=some true);cases x.p.up<;>rfl
theorem FX{q:Int}:(m.eO q==[])=!m.live q:=by
 unfold ae.live
 cases m.eO q<;>rfl
def keepR(ids:List Int)(p:Int×bo):Bool:=decide (p.2.r.kind=.fixed)||decide (oI p.2.r.side∉ids)
abbrev af.forget(v:af)(ids:List Int):af:=v.wr (v.rows.filter (keepR ids))
abbrev ae.forget(m:ae)(ids:List Int):ae:={m with vlans:=m.vlans.map λp=>(p.1,p.2.forget ids)}
theorem keepR_eq{ids:List Int}{p:Int×bo}{b:Bool}(h:p.2.r.kind≠.fixed->b=decide (oI p.2.r.side∈ids)):(p.2.r.kind== .fixed|| !b)=keepR ids p:=by
 unfold keepR
 by_cases e:p.2.r.kind=.fixed
 .rw[e];rfl
 .rw[h e,beq_eq_false_iff_ne.mpr e,decide_eq_false e,Bool.false_or,Bool.false_or]
  by_cases z:oI p.2.r.side∈ids
  .rw[decide_eq_true z,decide_eq_false (λy=>y z)];rfl
  .rw[decide_eq_false z,decide_eq_true z];rfl
theorem Rep.forget(r:Rep m s)(ids:List Int)(f:Vbcnab.Row->Bool)(h:∀v∈m.vlans,∀x∈v.2.rows,x.2.r.kind≠.fixed->f x.2.r=decide (oI x.2.r.side∈ids)):Rep (m.forget ids) (Vbcnab.forget s f):=
 r.filter (λq=>q.kind== .fixed|| !f q) (λ_=>keepR ids) λv hv x hx=>keepR_eq (h v hv x hx)
theorem yy{q:Nat}:(q:Int)∈m.dead↔q<m.sides.length/\m.live q=false:=by
 unfold ae.dead
 constructor
 .intro h
  obtain⟨j,hj,e⟩:=List.mem_map.mp h
  obtain⟨h1,h2⟩:=List.mem_filter.mp hj
  have e:j=q:=by omega
  subst e
  exact⟨List.mem_range.mp h1,by simpa using h2⟩
 .rintro⟨h1,h2⟩
  exact List.mem_map.mpr ⟨q,List.mem_filter.mpr ⟨List.mem_range.mpr h1,by rw[h2];rfl⟩,rfl⟩
theorem Rep.settle(r:Rep m s):Rep (m.forget m.dead) (Vbcnab.settle s):=by
 refine r.forget m.dead _ λv hv x hx hk=>?_
 have ok:=(r.cN v hv).b_ x hx
 cases hs:x.2.r.side with
 |none=>exact absurd hs (ok.at_ hk)
 |some q=>
  show(Vbcnab.upsOf s q==[])=decide ((q:Int)∈m.dead)
  rw[r.upsOf q,FX]
  have hq:=ok.lt q hs
  cases hl:m.live q with
  |true=>exact(decide_eq_false (by rw[yy,hl];simp)).symm
  |false=>exact(decide_eq_true (by rw[yy];exact⟨hq,hl⟩)).symm
theorem rC{x:bo}{q:Nat}(h:x.r.side≠none):(x.r.side==some q)=decide (oI x.r.side∈[(q:Int)]):=by
 cases hs:x.r.side with
 |none=>exact absurd hs h
 |some y=>
  by_cases e:y=q
  .subst e;simp[oI]
  .have:¬(y:Int)=q:=by omega
   simp[oI,this,e]
theorem Rep.xt(r:Rep m s)(q:Nat):Rep (m.forget [(q:Int)]) (Vbcnab.forget s λr=>r.side==some q):=
 r.forget [(q:Int)] _ λv hv x hx hk=>rC (((r.cN v hv).b_ x hx).at_ hk)
theorem Rep.z0(r:Rep m s){k:Int}{v:af}(h:lk m.vlans k=some v)(f:Vbcnab.Row->Vbcnab.Row)(Pd:Vbcnab.Row->Bool)(g:bo->bo)(kp:Int×bo->Bool)(hf:∀b,(f b).vlan=b.vlan/\(f b).hw=b.hw)(fo:∀b∈s.rows,b.vlan≠v.w.id->f b=b/\Pd b=true)(hg:∀x∈v.rows,(g x.2).r=f x.2.r/\Pd (f x.2.r)=kp (x.1,g x.2)/\(kp (x.1,g x.2)=true->de m.now m.sides.length v.w.id x.1 (g x.2))):Rep (m.cb k (v.wr ((v.rows.map λp=>(p.1,g p.2)).filter kp))) {s with rows:=(s.rows.map f).filter Pd}:=by
 have o:=r.at h
 have fv:∀u,((s.rows.map f).filter λr=>r.vlan==u)=(s.rows.filter λr=>r.vlan==u).map f:=λu=>by
  rw[List.filter_map]
  congr 1
  refine List.filter_congr λb _=>?_
  show((f b).vlan==u)=_
  rw[(hf b).1]
 have ks:(v.rows.map λp=>(p.1,g p.2)).map (·.1)=v.rows.map (·.1):=by rw[List.map_map];rfl
 refine r.pL h ?_ ?_ (λu hu=>?_) ?_ (λp hp=>?_) ?_
 .refine List.Pairwise.filter _ ?_
  rw[List.pairwise_map]
  refine r.bH.imp λ{a b}hab=>?_
  show(f a).vlan<(f b).vlan\/((f a).vlan=(f b).vlan/\(f a).hw<(f b).hw)
  rw[(hf a).1,(hf b).1,(hf a).2,(hf b).2];exact hab
 .rw[gR,fv]
  refine((o.rws.map f).filter Pd).trans ?_
  rw[List.map_map,List.filter_map,List.filter_map,List.map_map]
  have e:v.rows.filter (Pd∘f∘λx=>x.2.r)=v.rows.filter (kp∘λp=>(p.1,g p.2)):=List.filter_congr λx hx=>(hg x hx).2.1
  rw[e]
  refine List.Perm.of_eq (List.map_congr_left λx hx=>?_)
  exact(hg x (List.mem_filter.mp hx).1).1.symm
 .rw[gR,fv]
  have e:(s.rows.filter λr=>r.vlan==u).map f=s.rows.filter λr=>r.vlan==u:=by
   refine(List.map_congr_left λb hb=>?_).trans (List.map_id _)
   obtain⟨h1,h2⟩:=List.mem_filter.mp hb
   exact(fo b h1 (by have:=eq_of_beq h2;omega)).1
  rw[e]
  refine List.filter_eq_self.mpr λb hb=>?_
  obtain⟨h1,h2⟩:=List.mem_filter.mp hb
  exact(fo b h1 (by have:=eq_of_beq h2;omega)).2
 .refine(List.filter_sublist.map _).nodup ?_
  rw[ks];exact o.rk
 .obtain⟨hp1,hp2⟩:=List.mem_filter.mp hp
  obtain⟨x,hx,rfl⟩:=List.mem_map.mp hp1
  exact(hg x hx).2.2 hp2
 .have:=o.size
  have:=List.length_filter_le kp (v.rows.map λp=>(p.1,g p.2))
  rw[List.length_map] at this
  omega
theorem Rep.D7(r:Rep m s){k:Int}{v:af}(h:lk m.vlans k=some v)(Pd:Vbcnab.Row->Bool)(kp:Int×bo->Bool)(fo:∀b∈s.rows,b.vlan≠v.w.id->Pd b=true)(hg:∀x∈v.rows,Pd x.2.r=kp x):Rep (m.cb k (v.wr (v.rows.filter kp))) {s with rows:=s.rows.filter Pd}:=by
 have z:=r.z0 h (λb=>b) Pd (λx=>x) kp (λ_=>⟨rfl,rfl⟩) (λb hb hn=>⟨rfl,fo b hb hn⟩) λx hx=>⟨rfl,hg x hx,λ_=>(r.at h).b_ x hx⟩
 have e1:(s.rows.map λb=>b)=s.rows:=List.map_id _
 have e2:(v.rows.map λp=>(p.1,p.2))=v.rows:=List.map_id _
 rw[e1,e2] at z
 exact z
theorem Rep.forgetAt(r:Rep m s){k:Int}{v:af}(h:lk m.vlans k=some v)(q:Nat):Rep (m.cb k (v.forget [(q:Int)])) (Vbcnab.forgetAt s v.w.id q):=by
 refine r.D7 h (λy=>y.kind== .fixed|| !(y.vlan==v.w.id&&y.side==some q)) (keepR [(q:Int)]) (λb hb hn=>?_) λx hx=>keepR_eq λhk=>?_
 .have:(b.vlan==v.w.id)=false:=beq_eq_false_iff_ne.mpr hn
  simp[this]
 .have ok:=(r.at h).b_ x hx
  have:(x.2.r.vlan==v.w.id)=true:=beq_iff_eq.mpr ok.vlan
  rw[this,Bool.true_and]
  exact rC (ok.at_ hk)
theorem Rep.Ed(r:Rep m s){v q:Nat}(h:lk m.vlans (v:Int)=none):Vbcnab.forgetAt s v q=s:=by
 have z:=congrArg View.rows (r.no h)
 unfold Vbcnab.forgetAt Vbcnab.forget
 have e:(s.rows.filter λr=>r.kind== .fixed|| !(r.vlan==v&&r.side==some q))=s.rows:=List.filter_eq_self.mpr λb hb=>by
  have hn:¬(b.vlan==v)=true:=λe=>by
   have hm:b∈s.rows.filter λr=>r.vlan==v:=List.mem_filter.mpr ⟨hb,e⟩
   have z':(s.rows.filter λr=>r.vlan==v)=[]:=z
   rw[z'] at hm;cases hm
  simp only[Bool.not_eq_true] at hn
  simp[hn]
 rw[e]
def cz(now:Nat)(p:Int×bo):Bool:=!(decide (p.2.r.kind=.learned)&&decide (p.2.un<=(now:Int)))
theorem Rep.Be(r:Rep m s){b:Vbcnab.Row}(hb:b∈s.rows):∃p∈m.vlans,p.2.w.id=b.vlan/\∃x∈p.2.rows,x.2.r=b:=by
 have hm:b∈s.rows.filter λr=>r.vlan==b.vlan:=List.mem_filter.mpr ⟨hb,by simp⟩
 by_cases z:∃p∈m.vlans,p.2.w.id=b.vlan
 .obtain⟨p,hp,e⟩:=z
  refine⟨p,hp,e,?_⟩
  have hm':b∈(view s p.2.w.id).rows:=by rw[e];exact hm
  obtain⟨x,hx,ex⟩:=List.mem_map.mp ((r.cN p hp).rws.mem_iff.mp hm')
  exact⟨x,hx,ex⟩
 .have y:=congrArg View.rows (r.fJ b.vlan λp hp e=>z ⟨p,hp,e⟩)
  have y':(s.rows.filter λr=>r.vlan==b.vlan)=[]:=y
  rw[y'] at hm;cases hm
theorem ka{now:Nat}{p:Int×bo}(h:p.2.r.kind=.learned->p.2.un=p.2.r.until_):(p.2.r.kind != .learned||decide (now<p.2.r.until_))=cz now p:=by
 unfold cz
 by_cases e:p.2.r.kind=.learned
 .have h:=h e
  by_cases z:now<p.2.r.until_
  .have:¬p.2.un<=(now:Int):=by omega
   simp[e,z,this]
  .have:p.2.un<=(now:Int):=by omega
   simp[e,z,this]
 .simp[e]
abbrev bo.cut(t:Nat)(x:bo):bo:=if x.r.kind=.learned then {x with un:=min x.un (t:Int),r:={x.r with until_:=min x.r.until_ t} } else x
theorem Rep.shorten(r:Rep m s){k:Int}{v:af}(h:lk m.vlans k=some v)(d:Nat):Rep (m.cb k (v.wr ((v.rows.map λp=>(p.1,p.2.cut (m.now+d))).filter (cz m.now)))) (Vbcnab.expire {s with rows:=s.rows.map λr=>if r.vlan=v.w.id/\r.kind=.learned then {r with until_:=min r.until_ (s.now+d)} else r}):=by
 refine r.z0 h (λr=>if r.vlan=v.w.id/\r.kind=.learned then {r with until_:=min r.until_ (s.now+d)} else r) (λr=>r.kind != .learned||decide (s.now<r.until_)) (bo.cut (m.now+d)) (cz m.now) (λb=>?_) (λb hb hn=>?_) λx hx=>?_
 .split<;>exact⟨rfl,rfl⟩
 .refine⟨if_neg (λz=>hn z.1),?_⟩
  obtain⟨p,hp,e,x,hx,rfl⟩:=r.Be hb
  have ok:=(r.cN p hp).b_ x hx
  by_cases z:x.2.r.kind=.learned
  .have:=ok.live z
   rw[r.now];simp[this]
  .simp[z]
 .have ok:=(r.at h).b_ x hx
  by_cases z:x.2.r.kind=.learned
  .have u:=ok.un z
   have e1:x.2.cut (m.now+d)={x.2 with un:=min x.2.un ((m.now+d:Nat):Int),r:={x.2.r with until_:=min x.2.r.until_ (m.now+d)} }:=if_pos z
   have u2:min x.2.un ((m.now+d:Nat):Int)=((min x.2.r.until_ (m.now+d):Nat):Int):=by omega
   rw[if_pos ⟨ok.vlan,z⟩,r.now,e1]
   refine⟨rfl,?_,λhk=>?_⟩
   .exact ka (p:=(x.1,{x.2 with un:=min x.2.un ((m.now+d:Nat):Int),r:={x.2.r with until_:=min x.2.r.until_ (m.now+d)} })) λ_=>u2
   .refine⟨ok.vlan,ok.hw,ok.ng,ok.at_,ok.lt,λ_=>u2,λn=>absurd z n,λ_=>?_,ok.mv⟩
    rw[<-ka (p:=(x.1,{x.2 with un:=min x.2.un ((m.now+d:Nat):Int),r:={x.2.r with until_:=min x.2.r.until_ (m.now+d)} })) λ_=>u2] at hk
    simpa[z] using hk
  .have e1:x.2.cut (m.now+d)=x.2:=if_neg z
   rw[if_neg (λy=>z y.2),e1,r.now]
   exact⟨rfl,ka (p:=(x.1,x.2)) ok.un,λ_=>ok⟩
end
end Sw
namespace Sw
open L2
section
variable{m:ae}{s:Vbcnab.State}
theorem Rep.sx(r:Rep m s){l:IM af}{R:List Vbcnab.Row}{fl:List (Nat×Nat×Nat)}{now:Nat}(hR:iW R)(hk:m.vlans.map (λp=>(p.1,p.2.w))=l.map λp=>(p.1,p.2.w))(ok:∀p∈l,cf now m.sides.length m.cap (view {s with rows:=R,floods:=fl,now:=now} p.2.w.id) p.1 p.2)(no:∀v,(∀p∈m.vlans,p.2.w.id≠v)->view {s with rows:=R,floods:=fl,now:=now} v=View.no):Rep {m with vlans:=l,now:=now} {s with rows:=R,floods:=fl,now:=now}:=by
 have hk1:m.vlans.map (·.1)=l.map (·.1):=by
  have z:=congrArg (List.map Prod.fst) hk
  rw[List.map_map,List.map_map] at z;exact z
 have hk2:m.vlans.map (·.2.w)=l.map (·.2.w):=by
  have z:=congrArg (List.map Prod.snd) hk
  rw[List.map_map,List.map_map] at z;exact z
 refine⟨r.on,rfl,r.cap,r.age,r.hold,r.mirror,r.ports,r.sides,r.dF,r.bV,r.cg,r.c5,r.gd,r.dP,r.mlt,r.bL,λx hx u hu z=>?_,?_,?_,?_,ok,λv hv=>?_,hR,r.dX⟩
 .obtain⟨y,hy⟩:=r.sv x hx u hu z
  show∃w,lk l u=some w
  cases e:lk l (u:Int) with
  |some w=>exact⟨w,rfl⟩
  |none=>
   have z1:=gw.mp e
   rw[<-hk1] at z1
   exact absurd (List.mem_map.mpr ⟨_,b0 hy,rfl⟩) z1
 .show(l.map (·.1)).Nodup
  rw[<-hk1];exact r.vk
 .show l.length<=64
  have:=congrArg List.length hk1
  rw[List.length_map,List.length_map] at this
  rw[<-this];exact r.ff
 .show s.vlans.Perm (l.map (·.2.w))
  rw[<-hk2];exact r.vlans
 .refine no v λp hp e=>?_
  have hm:p.2.w∈l.map (·.2.w):=by rw[<-hk2];exact List.mem_map.mpr ⟨p,hp,rfl⟩
  obtain⟨q,hq,e2⟩:=List.mem_map.mp hm
  exact hv q hq (by rw[e2];exact e)
theorem G6{R:List Vbcnab.Row}{v:Nat}(h:view s v=View.no)(hR:(s.rows.filter λr=>r.vlan==v)=[]->(R.filter λr=>r.vlan==v)=[]):view {s with rows:=R} v=View.no:=by
 have z:(s.rows.filter λr=>r.vlan==v)=[]:=congrArg View.rows h
 show View.mk (R.filter λr=>r.vlan==v) (view s v).groups (view s v).gate (view s v).a_ (view s v).spread=View.no
 rw[hR z,h];rfl
def sg(now':Nat)(n:Nat)(v v':af):Prop:=∃a,v'={v with rows:=v.rows.filter (cz now'),cU:=a,spread:=List.replicate n 0}
theorem Rep.tick(r:Rep m s){now':Nat}(hn:m.now<=now'){l:IM af}(h:cc (sg now' m.sides.length) m.vlans l):Rep {m with vlans:=l,now:=now'} (Vbcnab.expire {s with now:=now',floods:=[]}):=by
 refine r.sx (l:=l) (R:=s.rows.filter λr=>r.kind != .learned||decide (now'<r.until_)) (fl:=[]) (now:=now') (r.bH.filter _) (h.gy _ _ λk x y⟨a,e⟩=>by rw[e]) (λp hp=>?_) λv hv=>?_
 .obtain⟨q,hq,e1,a,e2⟩:=h.mem hp
  have o:=r.cN q hq
  rw[<-e1,e2]
  refine⟨o.id,o.pos,o.age,(List.filter_sublist.map _).nodup o.rk,λx hx=>?_,?_,o.gk,o.bG,o.eM,?_,o.gates,o.a_,?_⟩
  .obtain⟨hx1,hx2⟩:=List.mem_filter.mp hx
   have ok:=o.b_ x hx1
   refine⟨ok.vlan,ok.hw,ok.ng,ok.at_,ok.lt,ok.un,ok.zu,λz=>?_,λz=>(ok.mv z).imp id λy=>⟨by have:=y.1;omega,by have:=y.2;omega⟩⟩
   rw[<-ka ok.un] at hx2
   simpa[z] using hx2
  .show((s.rows.filter λr=>r.kind != .learned||decide (now'<r.until_)).filter λr=>r.vlan==q.2.w.id).Perm _
   rw[gR]
   refine(o.rws.filter _).trans ?_
   rw[List.filter_map]
   refine List.Perm.of_eq (congrArg _ (List.filter_congr λx hx=>?_))
   exact ka (o.b_ x hx).un
  .have:=o.size
   have:=List.length_filter_le (cz now') q.2.rows
   show(q.2.rows.filter _).length+q.2.groups.length<=_
   omega
  .show List.replicate m.sides.length (0:Int)=(List.range m.sides.length).map λ_=>((0:Nat):Int)
   rw[List.map_const',List.length_range];rfl
 .have z:=r.fJ v hv
  have z1:(s.rows.filter λr=>r.vlan==v)=[]:=congrArg View.rows z
  show View.mk ((s.rows.filter _).filter λr=>r.vlan==v) (view s v).groups (view s v).gate (view s v).a_ (λ_=>0)=View.no
  rw[gR,z1,z];rfl
theorem Rep.KO(r:Rep m s)(f:Vbcnab.Row->Vbcnab.Row)(hf:∀b,(f b).vlan=b.vlan/\(f b).hw=b.hw){l:IM af}(h:cc (λv v'=>∃rows,v'=v.wr rows/\rows.map (·.1)=v.rows.map (·.1)/\rows.map (·.2.r)=v.rows.map (λx=>f x.2.r)/\((∀p∈v.rows,de m.now m.sides.length v.w.id p.1 p.2)->1<=v.w.age->∀p∈rows,de m.now m.sides.length v.w.id p.1 p.2)) m.vlans l):Rep {m with vlans:=l} {s with rows:=s.rows.map f}:=by
 have fv:∀u,((s.rows.map f).filter λr=>r.vlan==u)=(s.rows.filter λr=>r.vlan==u).map f:=λu=>by
  rw[List.filter_map]
  congr 1
  refine List.filter_congr λb _=>?_
  show((f b).vlan==u)=_
  rw[(hf b).1]
 have z:=r.sx (l:=l) (R:=s.rows.map f) (fl:=s.floods) (now:=m.now) ?_ (h.gy _ _ λk x y⟨rows,e,_⟩=>by rw[e]) (λp hp=>?_) λv hv=>?_
 .have e:({s with rows:=s.rows.map f,floods:=s.floods,now:=m.now}:Vbcnab.State)={s with rows:=s.rows.map f}:=by rw[<-r.now]
  rw[e] at z
  exact z
 .rw[iW,List.pairwise_map]
  refine r.bH.imp λ{a b}hab=>?_
  show(f a).vlan<(f b).vlan\/((f a).vlan=(f b).vlan/\(f a).hw<(f b).hw)
  rw[(hf a).1,(hf b).1,(hf a).2,(hf b).2];exact hab
 .obtain⟨q,hq,e1,rows,e2,e3,e4,e5⟩:=h.mem hp
  have o:=r.cN q hq
  rw[<-e1,e2]
  refine o.z8 (R:=(s.rows.map f).filter λr=>r.vlan==q.2.w.id) (by rw[e3];exact o.rk) (e5 o.b_ o.age) ?_ ?_
  .rw[fv,e4]
   refine(o.rws.map f).trans ?_
   rw[List.map_map];exact List.Perm.refl _
  .have:=congrArg List.length e3
   rw[List.length_map,List.length_map] at this
   omega
 .have e:({s with rows:=s.rows.map f,floods:=s.floods,now:=m.now}:Vbcnab.State)={s with rows:=s.rows.map f}:=by rw[<-r.now]
  rw[e]
  refine G6 (r.fJ v hv) λz=>?_
  rw[fv,z];rfl
theorem n9(s:Vbcnab.State)(q v g q' v':Nat):Vbcnab.gateOf {s with gates:=if g=2 then s.gates.filter (λx=>!(x.1==q&&x.2.1==v)) else(q,v,g)::s.gates.filter λx=>!(x.1==q&&x.2.1==v)} q' v'=if q'=q/\v'=v then g else Vbcnab.gateOf s q' v':=by
 have hrest:(s.gates.filter λx=>!(x.1==q&&x.2.1==v)).find? (λx=>x.1==q'&&x.2.1==v')=if q'=q/\v'=v then none else s.gates.find? λx=>x.1==q'&&x.2.1==v':=by
  rw[List.find?_filter]
  by_cases h:q'=q/\v'=v
  .obtain⟨rfl,rfl⟩:=h
   rw[if_pos ⟨rfl,rfl⟩]
   refine List.find?_eq_none.mpr λx _=>?_
   cases(x.1==q'&&x.2.1==v')<;>simp
  .rw[if_neg h]
   congr 1
   funext x
   by_cases h1:x.1=q'
   .by_cases h2:x.2.1=v'
    .have:¬(x.1=q/\x.2.1=v):=λz=>h ⟨h1.symm.trans z.1,h2.symm.trans z.2⟩
     have e:(x.1==q&&x.2.1==v)=false:=by
      rw[Bool.and_eq_false_iff]
      by_cases z:x.1=q
      .exact .inr (beq_eq_false_iff_ne.mpr λy=>this ⟨z,y⟩)
      .exact .inl (beq_eq_false_iff_ne.mpr z)
     rw[e];simp[h1,h2]
    .simp[h2]
   .simp[h1]
 unfold Vbcnab.gateOf
 by_cases hg:g=2
 .simp only[if_pos hg]
  rw[hrest]
  by_cases h:q'=q/\v'=v
  .rw[if_pos h,if_pos h,hg];rfl
  .rw[if_neg h,if_neg h]
 .simp only[if_neg hg]
  rw[List.find?_cons]
  by_cases h:q'=q/\v'=v
  .obtain⟨rfl,rfl⟩:=h
   rw[if_pos ⟨rfl,rfl⟩]
   simp
  .rw[if_neg h]
   have e:(q==q'&&v==v')=false:=by
    rw[Bool.and_eq_false_iff]
    by_cases z:q=q'
    .exact .inr (beq_eq_false_iff_ne.mpr λy=>h ⟨z.symm,y.symm⟩)
    .exact .inl (beq_eq_false_iff_ne.mpr z)
   simp only[e]
   rw[hrest,if_neg h]
theorem L3(s:Vbcnab.State)(q v q' v':Nat):Vbcnab.spread (Vbcnab.addSpread s q v) q' v'=if q'=q/\v'=v then Vbcnab.spread s q v+1 else Vbcnab.spread s q' v':=by
 have z:=n9 {s with gates:=s.floods} q v (Vbcnab.spread s q v+1) q' v'
 by_cases h:q'=q/\v'=v
 .obtain⟨rfl,rfl⟩:=h
  rw[if_pos ⟨rfl,rfl⟩]
  unfold Vbcnab.addSpread
  show((List.find? _ (_::_)).map _).getD 0=_
  rw[List.find?_cons];simp
 .rw[if_neg h]
  have e:(q==q'&&v==v')=false:=by
   rw[Bool.and_eq_false_iff]
   by_cases z:q=q'
   .exact .inr (beq_eq_false_iff_ne.mpr λy=>h ⟨z.symm,y.symm⟩)
   .exact .inl (beq_eq_false_iff_ne.mpr z)
  show((List.find? (λx=>x.1==q'&&x.2.1==v') ((q,v,Vbcnab.spread s q v+1)::s.floods.filter λx=>!(x.1==q&&x.2.1==v))).map λx=>x.2.2).getD 0=_
  rw[List.find?_cons]
  simp only[e]
  rw[List.find?_filter]
  unfold Vbcnab.spread
  congr 3
  funext x
  by_cases h1:x.1=q'
  .by_cases h2:x.2.1=v'
   .have:¬(x.1=q/\x.2.1=v):=λz=>h ⟨h1.symm.trans z.1,h2.symm.trans z.2⟩
    have e:(x.1==q&&x.2.1==v)=false:=by
     rw[Bool.and_eq_false_iff]
     by_cases z:x.1=q
     .exact .inr (beq_eq_false_iff_ne.mpr λy=>this ⟨z,y⟩)
     .exact .inl (beq_eq_false_iff_ne.mpr z)
    rw[e];simp[h1,h2]
   .simp[h2]
  .simp[h1]
theorem xS(s:Vbcnab.State)(q v q' v':Nat):Vbcnab.isShut {s with shuts:=s.shuts.filter λx=>!(x.1==q&&x.2==v)} q' v'=if q'=q/\v'=v then false else Vbcnab.isShut s q' v':=by
 unfold Vbcnab.isShut
 show(s.shuts.filter λx=>!(x.1==q&&x.2==v)).any (λx=>x.1==q'&&x.2==v')=_
 rw[List.any_filter]
 by_cases h:q'=q/\v'=v
 .obtain⟨rfl,rfl⟩:=h
  rw[if_pos ⟨rfl,rfl⟩]
  refine List.any_eq_false.mpr λx _=>?_
  cases(x.1==q'&&x.2==v')<;>simp
 .rw[if_neg h]
  congr 1
  funext x
  by_cases h1:x.1=q'
  .by_cases h2:x.2=v'
   .have:¬(x.1=q/\x.2=v):=λz=>h ⟨h1.symm.trans z.1,h2.symm.trans z.2⟩
    have e:(x.1==q&&x.2==v)=false:=by
     rw[Bool.and_eq_false_iff]
     by_cases z:x.1=q
     .exact .inr (beq_eq_false_iff_ne.mpr λy=>this ⟨z,y⟩)
     .exact .inl (beq_eq_false_iff_ne.mpr z)
    rw[e];simp[h1,h2]
   .simp[h2]
  .simp[h1]
theorem EG(s:Vbcnab.State)(q v q' v':Nat):Vbcnab.isShut (Vbcnab.shutNow s q v) q' v'=if q'=q/\v'=v then true else Vbcnab.isShut s q' v':=by
 unfold Vbcnab.shutNow
 by_cases hs:Vbcnab.isShut s q v=true
 .rw[if_pos hs]
  by_cases h:q'=q/\v'=v
  .rw[if_pos h,h.1,h.2];exact hs
  .rw[if_neg h]
 .rw[if_neg hs]
  by_cases h:q'=q/\v'=v
  .rw[if_pos h,h.1,h.2]
   unfold Vbcnab.isShut;simp
  .rw[if_neg h]
   have e:(q==q'&&v==v')=false:=by
    rw[Bool.and_eq_false_iff]
    by_cases z:q=q'
    .exact .inr (beq_eq_false_iff_ne.mpr λy=>h ⟨z.symm,y.symm⟩)
    .exact .inl (beq_eq_false_iff_ne.mpr z)
   unfold Vbcnab.isShut
   rw[List.any_cons]
   simp only[e,Bool.false_or]
theorem Rep.flags(r:Rep m s){k:Int}{v v':af}(h:lk m.vlans k=some v){ga fl:List (Nat×Nat×Nat)}{sh:List (Nat×Nat)}(hw:v'.w=v.w)(hr:v'.rows=v.rows)(hg:v'.groups=v.groups)(eg:v'.gates=(List.range m.sides.length).map λq=>(Vbcnab.gateOf {s with gates:=ga} q v.w.id:Int))(es:v'.a_=(List.range m.sides.length).map λq=>bI (Vbcnab.isShut {s with shuts:=sh} q v.w.id))(ef:v'.spread=(List.range m.sides.length).map λq=>(Vbcnab.spread {s with floods:=fl} q v.w.id:Int))(oth:∀q u,u≠v.w.id->Vbcnab.gateOf {s with gates:=ga} q u=Vbcnab.gateOf s q u/\Vbcnab.isShut {s with shuts:=sh} q u=Vbcnab.isShut s q u/\Vbcnab.spread {s with floods:=fl} q u=Vbcnab.spread s q u):Rep (m.cb k v') {s with gates:=ga,shuts:=sh,floods:=fl}:=by
 have o:=r.at h
 refine r.vlan (v':=v') (L:=s.vlans) (R:=s.rows) (G:=s.groups) (ga:=ga) (sh:=sh) (fl:=fl) h (by rw[hw]) (r.rn h hw) r.bH r.dX ⟨by rw[hw];exact o.id,by rw[hw];exact o.pos,by rw[hw];exact o.age,by rw[hr];exact o.rk,by rw[hr,hw];exact o.b_,by rw[hr];exact o.rws,by rw[hg];exact o.gk,by rw[hg,hw];exact o.bG,by rw[hg];exact o.eM,by rw[hr,hg];exact o.size,eg,es,ef⟩ λu hu=>?_
 show View.mk (s.rows.filter λr=>r.vlan==u) (s.groups.filter λg=>g.vlan==u) (λq=>Vbcnab.gateOf {s with gates:=ga} q u) (λq=>Vbcnab.isShut {s with shuts:=sh} q u) (λq=>Vbcnab.spread {s with floods:=fl} q u)=view s u
 unfold view
 congr 1
 .funext q;exact(oth q u hu).1
 .funext q;exact(oth q u hu).2.1
 .funext q;exact(oth q u hu).2.2
abbrev af.wg(v:af)(g:List Int):af:={v with gates:=g}
abbrev af.ws(v:af)(g:List Int):af:={v with a_:=g}
abbrev af.wf(v:af)(g:List Int):af:={v with spread:=g}
theorem Rep.gate(r:Rep m s){k:Int}{v:af}(h:lk m.vlans k=some v)(q g:Nat):Rep (m.cb k (v.wg (v.gates.set q (g:Int)))) {s with gates:=if g=2 then s.gates.filter (λx=>!(x.1==q&&x.2.1==v.w.id)) else(q,v.w.id,g)::s.gates.filter λx=>!(x.1==q&&x.2.1==v.w.id)}:=by
 have o:=r.at h
 refine r.flags (v':=v.wg (v.gates.set q (g:Int))) h (sh:=s.shuts) (fl:=s.floods) rfl rfl rfl ?_ o.a_ o.spread λj u hu=>⟨?_,rfl,rfl⟩
 .show v.gates.set q (g:Int)=_
  rw[o.gates,mF]
  refine List.map_congr_left λj _=>?_
  have e:=n9 s q v.w.id g j v.w.id
  show(if j=q then(g:Int) else(Vbcnab.gateOf s j v.w.id:Int))=((Vbcnab.gateOf _ j v.w.id:Nat):Int)
  rw[e]
  by_cases z:j=q
  .rw[if_pos z,if_pos ⟨z,rfl⟩]
  .rw[if_neg z,if_neg (λy=>z y.1)]
 .exact(n9 s q v.w.id g j u).trans (if_neg λy=>hu y.2)
theorem Rep.unshut(r:Rep m s){k:Int}{v:af}(h:lk m.vlans k=some v)(q:Nat):Rep (m.cb k (v.ws (v.a_.set q 0))) {s with shuts:=s.shuts.filter λx=>!(x.1==q&&x.2==v.w.id)}:=by
 have o:=r.at h
 refine r.flags (v':=v.ws (v.a_.set q 0)) h (ga:=s.gates) (fl:=s.floods) rfl rfl rfl o.gates ?_ o.spread λj u hu=>⟨rfl,?_,rfl⟩
 .show v.a_.set q 0=_
  rw[o.a_,mF]
  refine List.map_congr_left λj _=>?_
  have e:=xS s q v.w.id j v.w.id
  show(if j=q then(0:Int) else bI (Vbcnab.isShut s j v.w.id))=bI (Vbcnab.isShut _ j v.w.id)
  rw[e]
  by_cases z:j=q
  .rw[if_pos z,if_pos ⟨z,rfl⟩];rfl
  .rw[if_neg z,if_neg (λy=>z y.1)]
 .exact(xS s q v.w.id j u).trans (if_neg λy=>hu y.2)
theorem K7(s:Vbcnab.State)(q v:Nat):∃sh,Vbcnab.shutNow s q v={s with shuts:=sh}:=by
 unfold Vbcnab.shutNow
 split
 .exact⟨s.shuts,rfl⟩
 .exact⟨_,rfl⟩
theorem Rep.shutNow(r:Rep m s){k:Int}{v:af}(h:lk m.vlans k=some v)(q:Nat):Rep (m.cb k (v.ws (v.a_.set q 1))) (Vbcnab.shutNow s q v.w.id):=by
 have o:=r.at h
 have on:=EG s q v.w.id
 obtain⟨sh,hs⟩:=K7 s q v.w.id
 rw[hs] at on⊢
 refine r.flags (v':=v.ws (v.a_.set q 1)) h (ga:=s.gates) (fl:=s.floods) rfl rfl rfl o.gates ?_ o.spread λj u hu=>⟨rfl,(on j u).trans (if_neg λy=>hu y.2),rfl⟩
 show v.a_.set q 1=_
 rw[o.a_,mF]
 refine List.map_congr_left λj _=>?_
 have e:=on j v.w.id
 show(if j=q then(1:Int) else bI (Vbcnab.isShut s j v.w.id))=bI (Vbcnab.isShut _ j v.w.id)
 rw[e]
 by_cases z:j=q
 .rw[if_pos z,if_pos ⟨z,rfl⟩];rfl
 .rw[if_neg z,if_neg (λy=>z y.1)]
theorem Rep.addSpread(r:Rep m s){k:Int}{v:af}(h:lk m.vlans k=some v)(q:Nat):Rep (m.cb k (v.wf (v.spread.set q ((Vbcnab.spread s q v.w.id:Int)+1)))) (Vbcnab.addSpread s q v.w.id):=by
 have o:=r.at h
 have on:=L3 s q v.w.id
 refine r.flags (v':=v.wf (v.spread.set q ((Vbcnab.spread s q v.w.id:Int)+1))) h (ga:=s.gates) (sh:=s.shuts) rfl rfl rfl o.gates o.a_ ?_ λj u hu=>⟨rfl,rfl,(on j u).trans (if_neg λy=>hu y.2)⟩
 show v.spread.set q _=_
 rw[o.spread,mF]
 refine List.map_congr_left λj _=>?_
 have e:=on j v.w.id
 show(if j=q then(Vbcnab.spread s q v.w.id:Int)+1 else(Vbcnab.spread s j v.w.id:Int))=((Vbcnab.spread (Vbcnab.addSpread s q v.w.id) j v.w.id:Nat):Int)
 rw[e]
 by_cases z:j=q
 .rw[if_pos z,if_pos ⟨z,rfl⟩];rfl
 .rw[if_neg z,if_neg (λy=>z y.1)]
end
end Sw
namespace Sw
open L2
section
variable{m:ae}{s:Vbcnab.State}
theorem Rep.used(r:Rep m s){k:Int}{v:af}(h:lk m.vlans k=some v):Vbcnab.used s v.w.id=v.rows.length+v.groups.length:=by
 have o:=r.at h
 show(view s v.w.id).rows.length+(view s v.w.id).groups.length=_
 rw[o.rws.length_eq,o.eM.length_eq,List.length_map,List.length_map]
theorem Rep.rowOf(r:Rep m s){k:Int}{v:af}(h:lk m.vlans k=some v)(a:Nat):Vbcnab.rowOf s v.w.id a=(lk v.rows (a:Int)).map (·.r):=by
 rw[MT];exact(r.at h).rowOf a
theorem Rep.groupOf(r:Rep m s){k:Int}{v:af}(h:lk m.vlans k=some v)(a:Nat):Vbcnab.groupOf s v.w.id a=(lk v.groups (a:Int)).map (·.g):=by
 rw[MS];exact(r.at h).Ep a
theorem Rep.securedAt(r:Rep m s){k:Int}{v:af}(h:lk m.vlans k=some v)(q:Nat):Vbcnab.securedAt s v.w.id q=(v.rows.filter λp=>decide (p.2.r.kind=.secure)&&decide (oI p.2.r.side=(q:Int))).length:=by
 have o:=r.at h
 have e:(s.rows.filter λr=>r.vlan==v.w.id&&(r.kind== .secure&&r.side==some q))=(view s v.w.id).rows.filter λr=>r.kind== .secure&&r.side==some q:=by
  show _=(s.rows.filter λr=>r.vlan==v.w.id).filter _
  rw[List.filter_filter]
  congr 1;funext b;exact Bool.and_comm _ _
 unfold Vbcnab.securedAt
 rw[e,(o.rws.filter _).length_eq,List.filter_map,List.length_map]
 congr 1
 refine List.filter_congr λx hx=>?_
 show(x.2.r.kind== .secure&&x.2.r.side==some q)=_
 have ok:=o.b_ x hx
 by_cases z:x.2.r.kind=.secure
 .have y:=rC (q:=q) (ok.at_ (by rw[z];exactλw=>by cases w))
  rw[y]
  simp[z]
 .simp[z]
theorem Rep.xC(r:Rep m s){k:Int}{v:af}(h:lk m.vlans k=some v){x:Vbcnab.Grp}(hx:x∈s.groups)(hv:x.vlan=v.w.id):∃y,lk v.groups (x.hw:Int)=some y/\y.g=x:=by
 have o:=r.at h
 have hm:x∈(view s v.w.id).groups:=List.mem_filter.mpr ⟨hx,by simp[hv]⟩
 obtain⟨p,hp,e⟩:=List.mem_map.mp (o.eM.mem_iff.mp hm)
 have l:=dw o.gk hp
 have z:=(o.bG p hp).hw
 rw[e] at z
 rw[<-z] at l
 exact⟨p.2,l,e⟩
theorem Rep.Er(r:Rep m s){k:Int}{v:af}(h:lk m.vlans k=some v){g:Int}{y:bQ}(hy:lk v.groups g=some y):y.g∈s.groups/\y.g.vlan=v.w.id/\(y.g.hw:Int)=g:=by
 have o:=r.at h
 have hp:=b0 hy
 have ok:=o.bG _ hp
 have hm:y.g∈(view s v.w.id).groups:=o.eM.mem_iff.mpr (List.mem_map.mpr ⟨_,hp,rfl⟩)
 exact⟨(List.mem_filter.mp hm).1,ok.vlan,ok.hw⟩
theorem Rep.oa(r:Rep m s){k:Int}{v:af}(h:lk m.vlans k=some v){x:bQ}(hx:cq m.sides.length v.w.id (x.g.hw:Int) x)(hs:(lk v.groups (x.g.hw:Int)).isSome=true\/v.rows.length+v.groups.length<m.cap):Rep (m.cb k {v with groups:=putL v.groups (x.g.hw:Int) x}) {s with groups:=Vbcnab.putGroup x.g s.groups}:=by
 have o:=r.at h
 have e:=zy x.g s.groups
 refine r.xB h ?_ ?_ (λu hu=>?_) (l6 o.gk) (λp hp=>?_) ?_
 .rw[e];exact pq _ _ _ r.dX
 .rw[e,<-hx.vlan]
  refine(zx (·.vlan) (·.hw) x.g r.dX).trans ?_
  refine List.Perm.trans ?_ (zA (λy:bQ=>y.g) (λb=>(b.hw:Int)) o.gk λp hp=>(o.bG p hp).hw).symm
  refine List.Perm.cons _ ?_
  have z:=(o.eM.filter λb=>b.hw !=x.g.hw)
  have e2:(λ(b:Vbcnab.Grp)=>decide ((b.hw:Int)≠(x.g.hw:Int)))=λb=>b.hw !=x.g.hw:=by
   funext b
   by_cases q:b.hw=x.g.hw
   .simp[q]
   .have:¬(b.hw:Int)=x.g.hw:=by omega
    simp[q,this]
  rw[e2,hx.vlan]
  exact z
 .rw[e];exact pk _ _ _ (by rw[hx.vlan];exact hu) _
 .rcases yz hp with rfl|⟨hp',_⟩
  .exact hx
  .exact o.bG p hp'
 .rw[zz]
  have:=o.size
  split
  .exact this
  .rename_i z
   rcases hs with y|y
   .exact absurd y z
   .omega
theorem Rep.Em(r:Rep m s){k:Int}{v:af}(h:lk m.vlans k=some v)(a:Nat):Rep (m.cb k {v with groups:=a9 v.groups (a:Int)}) {s with groups:=s.groups.filter λr=>!(r.vlan==v.w.id&&r.hw==a)}:=by
 have o:=r.at h
 refine r.xB h (List.Pairwise.filter _ r.dX) ?_ (λu hu=>?_) (oN o.gk) (λp hp=>o.bG p (List.mem_filter.mp hp).1) ?_
 .rw[gR,nR (λy:bQ=>y.g) (λb=>(b.hw:Int)) λp hp=>(o.bG p hp).hw]
  have z:=o.eM.filter λb=>decide ((b.hw:Int)≠(a:Int))
  have e:((s.groups.filter λr=>r.vlan==v.w.id).filter λr=>!(r.vlan==v.w.id&&r.hw==a))=((s.groups.filter λr=>r.vlan==v.w.id).filter λb=>decide ((b.hw:Int)≠(a:Int))):=List.filter_congr λb hb=>by
   have:=(List.mem_filter.mp hb).2
   rw[this,Bool.true_and]
   by_cases q:b.hw=a
   .simp[q]
   .have:¬(b.hw:Int)=a:=by omega
    simp[q,this]
  rw[e];exact z
 .rw[List.filter_filter]
  refine List.filter_congr λb _=>?_
  by_cases q:b.vlan=u
  .have:¬u=v.w.id:=hu
   simp[q,this]
  .simp[q]
 .have:=o.size
  have:=List.length_filter_le (λp:Int×bQ=>decide (p.1≠(a:Int))) v.groups
  show _+(a9 v.groups (a:Int)).length<=_
  unfold a9
  omega
theorem mC(x:Nat):∀{l:List Nat},l.Pairwise (·<·)->(Vbcnab.putNat x l).Perm (x::l.filter λy=>decide (y≠x))
 |[],_=>List.Perm.refl _
 |r::l,h=>by
  have h':=List.pairwise_cons.mp h
  unfold Vbcnab.putNat
  rw[List.filter_cons]
  by_cases e:x=r
  .subst e
   rw[if_pos rfl,if_neg (by simp)]
   have hf:l.filter (λy=>decide (y≠x))=l:=List.filter_eq_self.mpr λy hy=>by
    have:=h'.1 y hy
    simp;omega
   rw[hf]
  .have hd:decide (r≠x)=true:=decide_eq_true (λz=>e z.symm)
   rw[if_neg e,hd,if_pos (show true=true from rfl)]
   by_cases e2:x<r
   .rw[if_pos e2]
    have hf:l.filter (λy=>decide (y≠x))=l:=List.filter_eq_self.mpr λy hy=>by
     have:=h'.1 y hy
     simp;omega
    rw[hf]
   .rw[if_neg e2]
    exact((mC x h'.2).cons r).trans (List.Perm.swap _ _ _)
theorem zC{x y:Nat}{l:List Nat}(h:l.Pairwise (·<·))(hy:y∈Vbcnab.putNat x l):y=x\/y∈l:=by
 have z:=(mC x h).mem_iff.mp hy
 rcases List.mem_cons.mp z with z|z
 .exact .inl z
 .exact .inr (List.mem_filter.mp z).1
theorem zD(x:Nat):∀{l:List Nat},l.Pairwise (·<·)->(Vbcnab.putNat x l).Pairwise (·<·)
 |[],_=>by simp[Vbcnab.putNat]
 |r::l,h=>by
  have h':=List.pairwise_cons.mp h
  unfold Vbcnab.putNat
  by_cases e:x=r
  .rw[if_pos e];exact h
  .rw[if_neg e]
   by_cases e2:x<r
   .rw[if_pos e2]
    refine List.pairwise_cons.mpr ⟨λy hy=>?_,h⟩
    rcases List.mem_cons.mp hy with rfl|hy
    .exact e2
    .have:=h'.1 y hy;omega
   .rw[if_neg e2]
    refine List.pairwise_cons.mpr ⟨λy hy=>?_,zD x h'.2⟩
    rcases zC h'.2 hy with rfl|hy
    .omega
    .exact h'.1 y hy
theorem cq.join{n v:Nat}{k:Int}{x:bQ}(o:cq n v k x){q:Nat}(hq:q<n):cq n v k {x with g:={x.g with sides:=Vbcnab.putNat q x.g.sides},ks:=putL x.ks (q:Int) ()}:=by
 have nd:(x.ks.map (·.1)).Nodup:=o.perm.nodup_iff.mp (by
  refine List.Pairwise.map _ (λa b h=>?_) o.bH
  show(a:Int)≠b
  omega)
 refine⟨o.vlan,o.hw,o.gr,?_,zD q o.bH,λz=>?_,λj hj=>?_⟩
 .refine((mC q o.bH).map λ(j:Nat)=>(j:Int)).trans ?_
  refine List.Perm.trans ?_ ((pz () nd).map (·.1)).symm
  rw[List.map_cons,List.map_cons,kb]
  refine List.Perm.cons _ ?_
  refine List.Perm.trans ?_ (o.perm.filter _)
  rw[List.filter_map]
  refine List.Perm.of_eq (congrArg _ (List.filter_congr λj _=>?_))
  show decide (j≠q)=decide ((j:Int)≠(q:Int))
  exact decide_eq_decide.mpr (by omega)
 .have z2:=(mC q o.bH).length_eq
  have z:Vbcnab.putNat q x.g.sides=[]:=z
  rw[z] at z2;simp at z2
 .rcases zC o.bH hj with rfl|hj
  .exact hq
  .exact o.lt j hj
theorem cq.has{n v:Nat}{k:Int}{x:bQ}(o:cq n v k x)(q:Int):(x.g.sides.any λ(y:Nat)=>(y:Int)==q)=(lk x.ks q).isSome:=by
 cases e:lk x.ks q with
 |none=>
  have z:=gw.mp e
  refine List.any_eq_false.mpr λy hy=>?_
  intro w
  exact z (o.perm.mem_iff.mp (List.mem_map.mpr ⟨y,hy,by simpa using w⟩))
 |some u=>
  have z:q∈x.ks.map (·.1):=List.mem_map.mpr ⟨_,b0 e,rfl⟩
  obtain⟨y,hy,w⟩:=List.mem_map.mp (o.perm.mem_iff.mpr z)
  exact List.any_eq_true.mpr ⟨y,hy,by simpa using w⟩
theorem cq.leave{n v:Nat}{k:Int}{x:bQ}(o:cq n v k x){q:Nat}(hn:(x.g.sides.filter λ(y:Nat)=>y !=q)≠[]):cq n v k {x with g:={x.g with sides:=x.g.sides.filter λ(y:Nat)=>y !=q},ks:=a9 x.ks (q:Int)}:=by
 refine⟨o.vlan,o.hw,o.gr,?_,List.Pairwise.filter _ o.bH,hn,λj hj=>o.lt j (List.mem_filter.mp hj).1⟩
 show((x.g.sides.filter λ(y:Nat)=>y !=q).map _).Perm ((a9 x.ks (q:Int)).map (·.1))
 rw[kb]
 refine List.Perm.trans ?_ (o.perm.filter _)
 rw[List.filter_map]
 refine List.Perm.of_eq (congrArg _ (List.filter_congr λj _=>?_))
 show(j !=q)=decide ((j:Int)≠(q:Int))
 by_cases e:j=q
 .simp[e]
 .have:¬(j:Int)=q:=by omega
  simp[e,this]
theorem cq.left{n v:Nat}{k:Int}{x:bQ}(o:cq n v k x)(q:Nat):(a9 x.ks (q:Int)).length=(x.g.sides.filter λ(y:Nat)=>y !=q).length:=by
 have z:((x.g.sides.filter λ(y:Nat)=>y !=q).map λ(q:Nat)=>(q:Int)).Perm ((a9 x.ks (q:Int)).map (·.1)):=by
  rw[kb]
  refine List.Perm.trans ?_ (o.perm.filter _)
  rw[List.filter_map]
  refine List.Perm.of_eq (congrArg _ (List.filter_congr λj _=>?_))
  show(j !=q)=decide ((j:Int)≠(q:Int))
  by_cases e:j=q
  .simp[e]
  .have:¬(j:Int)=q:=by omega
   simp[e,this]
 have:=z.length_eq
 rw[List.length_map,List.length_map] at this
 exact this.symm
theorem Rep.FV(r:Rep m s){k:Int}{v:af}(h:lk m.vlans k=some v)(g q:Int):(s.groups.find? λx=>x.vlan==v.w.id&&((x.hw:Int)==g&&x.sides.any λ(y:Nat)=>(y:Int)==q))=match lk v.groups g with
 |some y=>if(lk y.ks q).isSome=true then some y.g else none
 |none=>none:=by
 have o:=r.at h
 have out:∀x∈s.groups,(x.vlan==v.w.id&&((x.hw:Int)==g&&x.sides.any λ(y:Nat)=>(y:Int)==q))=true->∃y,lk v.groups g=some y/\y.g=x/\(lk y.ks q).isSome=true:=λx hx e=>by
  have e1:x.vlan=v.w.id/\(x.hw:Int)=g/\(x.sides.any λ(y:Nat)=>(y:Int)==q)=true:=by
   rw[Bool.and_eq_true,Bool.and_eq_true] at e
   exact⟨eq_of_beq e.1,eq_of_beq e.2.1,e.2.2⟩
  obtain⟨y,hy,ey⟩:=r.xC h hx e1.1
  rw[e1.2.1] at hy
  refine⟨y,hy,ey,?_⟩
  rw[<-(o.bG _ (b0 hy)).has q,ey];exact e1.2.2
 cases e:lk v.groups g with
 |none=>
  refine List.find?_eq_none.mpr λx hx z=>?_
  obtain⟨y,hy,_⟩:=out x hx z
  rw[e] at hy;cases hy
 |some y=>
  show _=if(lk y.ks q).isSome=true then some y.g else none
  by_cases z:(lk y.ks q).isSome=true
  .rw[if_pos z]
   obtain⟨g1,g2,g3⟩:=r.Er h e
   cases f:s.groups.find? λx=>x.vlan==v.w.id&&((x.hw:Int)==g&&x.sides.any λ(y:Nat)=>(y:Int)==q) with
   |none=>
    refine absurd ?_ (List.find?_eq_none.mp f y.g g1)
    rw[(o.bG _ (b0 e)).has q,z];simp[g2,g3]
   |some x=>
    have w:=List.find?_some f
    obtain⟨y',hy',ey',_⟩:=out x (List.mem_of_find?_eq_some f) w
    rw[e] at hy'
    rw[Option.some.inj hy',ey']
  .rw[if_neg z]
   refine List.find?_eq_none.mpr λx hx w=>?_
   obtain⟨y',hy',ey',w'⟩:=out x hx w
   rw[e] at hy'
   rw[Option.some.inj hy'] at z
   exact z w'
theorem nY{α:Type}(f:α->Bool):∀l:List α,(l.find? f).isSome=l.any f
 |[]=>rfl
 |x::l=>by
  rw[List.find?_cons,List.any_cons]
  cases f x with
  |true=>rfl
  |false=>rw[Bool.false_or];exact nY f l
theorem cI.nd{x:aA}(o:cI x):(x.pairs.map (·.1)).Nodup:=by
 refine(o.perm.map (·.1)).nodup_iff.mp ?_
 rw[List.map_map]
 refine List.Pairwise.map _ (λa b h=>?_) o.bH
 show(a.1:Int)≠b.1
 omega
theorem cI.nA{x:aA}(o:cI x)(t:Int):lk x.pairs t=(x.s.pairs.find? λy=>(y.1:Int)==t).map λy=>(y.2:Int):=by
 unfold lk
 have z:=find_perm o.perm.symm (f:=λp=>decide (p.1=t)) λa ha b hb ea eb=>?_
 .rw[z,List.find?_map,Option.map_map]
  congr 1
 .have l1:=dw o.nd ha
  have l2:=dw o.nd hb
  rw[of_decide_eq_true ea] at l1
  rw[of_decide_eq_true eb,l1] at l2
  exact Prod.ext ((of_decide_eq_true ea).trans (of_decide_eq_true eb).symm) (Option.some.inj l2)
theorem cI.Ct{x:aA}(o:cI x)(t:Int):(x.s.pairs.any λy=>(y.1:Int)==t)=(lk x.pairs t).isSome:=by
 rw[o.nA t,Option.isSome_map,nY]
theorem cI.l4{x:aA}(o:cI x)(v:Int):v∈x.pairs.map (·.2)↔∃y∈x.s.pairs,(y.2:Int)=v:=by
 rw[<-(o.perm.map (·.2)).mem_iff,List.map_map]
 constructor
 .intro z
  obtain⟨y,hy,e⟩:=List.mem_map.mp z
  exact⟨y,hy,e⟩
 .rintro⟨y,hy,e⟩
  exact List.mem_map.mpr ⟨y,hy,e⟩
theorem cI.sH{x:aA}(o:cI x)(v:Int):(x.s.pairs.any λy=>(y.2:Int)==v)=decide (v∈x.pairs.map (·.2)):=by
 by_cases z:v∈x.pairs.map (·.2)
 .rw[decide_eq_true z]
  obtain⟨y,hy,e⟩:=(o.l4 v).mp z
  exact List.any_eq_true.mpr ⟨y,hy,by simpa using e⟩
 .rw[decide_eq_false z]
  exact List.any_eq_false.mpr λy hy e=>z ((o.l4 v).mpr ⟨y,hy,by simpa using e⟩)
def aA.isIn(x:aA)(v:Int):Prop:=(x.s.native_:Int)=v\/v∈x.pairs.map (·.2)
instance(x:aA)(v:Int):Decidable (x.isIn v):=by unfold aA.isIn;exact inferInstance
theorem m_{x:aA}(o:cI x){v:Nat}(hv:v≠0):(Vbcnab.wire x.s v).isSome=decide (x.isIn v):=by
 unfold Vbcnab.wire
 by_cases h:x.s.native_=v
 .rw[if_pos ⟨h,hv⟩,decide_eq_true (show x.isIn v from .inl (by rw[h]))];rfl
 .rw[if_neg (λz=>h z.1),Option.isSome_map,nY]
  have z:=o.sH (v:Int)
  have e:(x.s.pairs.any λy=>y.2==v)=x.s.pairs.any λy=>(y.2:Int)==(v:Int):=by
   congr 1;funext y
   by_cases w:y.2=v
   .rw[w];exact(beq_self_eq_true _).trans (beq_self_eq_true _).symm
   .have:¬(y.2:Int)=v:=by omega
    rw[beq_eq_false_iff_ne.mpr w,beq_eq_false_iff_ne.mpr this]
  rw[e,z]
  refine decide_eq_decide.mpr ⟨λy=>.inr y,λy=>y.elim (λw=>absurd (by omega) h) id⟩
theorem mD(x:Nat×Nat):∀l:List (Nat×Nat),(Vbcnab.putPair x l).Perm (x::l)
 |[]=>List.Perm.refl _
 |r::l=>by
  unfold Vbcnab.putPair
  split
  .exact List.Perm.refl _
  .exact((mD x l).cons r).trans (List.Perm.swap _ _ _)
theorem zF(x:Nat×Nat):∀{l:List (Nat×Nat)},(l.Pairwise λa b=>a.1<b.1)->(∀y∈l,y.1≠x.1)->(Vbcnab.putPair x l).Pairwise λa b=>a.1<b.1
 |[],_,_=>by simp[Vbcnab.putPair]
 |r::l,h,hn=>by
  have h':=List.pairwise_cons.mp h
  have hr:=hn r List.mem_cons_self
  unfold Vbcnab.putPair
  split
  .rename_i e
   refine List.pairwise_cons.mpr ⟨λy hy=>?_,h⟩
   rcases List.mem_cons.mp hy with rfl|hy
   .exact e
   .have:=h'.1 y hy;omega
  .rename_i e
   refine List.pairwise_cons.mpr ⟨λy hy=>?_,zF x h'.2 λy hy=>hn y (List.mem_cons_of_mem _ hy)⟩
   rcases List.mem_cons.mp ((mD x l).mem_iff.mp hy) with rfl|hy
   .omega
   .exact h'.1 y hy
theorem cI.add{x:aA}(o:cI x){t v:Nat}(ht:1<=t)(hv:1<=v)(h1:lk x.pairs (t:Int)=none)(h2:(v:Int)∉x.pairs.map (·.2)):cI {x with s:={x.s with pairs:=Vbcnab.putPair (t,v) x.s.pairs},pairs:=x.pairs++[((t:Int),(v:Int))]}:=by
 have p:=mD (t,v) x.s.pairs
 refine⟨?_,zF _ o.bH λy hy e=>?_,λy hy=>?_,?_,o.gu⟩
 .refine(p.map λy=>((y.1:Int),(y.2:Int))).trans ?_
  rw[List.map_cons]
  exact(o.perm.cons _).trans (List.perm_append_comm (l₁:=[((t:Int),(v:Int))]))
 .refine gw.mp h1 (List.mem_map.mpr ⟨((y.1:Int),(y.2:Int)),o.perm.mem_iff.mp (List.mem_map.mpr ⟨y,hy,rfl⟩),?_⟩)
  show(y.1:Int)=t
  rw[e]
 .rcases List.mem_cons.mp (p.mem_iff.mp hy) with rfl|hy
  .exact⟨ht,hv⟩
  .exact o.pos y hy
 .refine(p.map (·.2)).nodup_iff.mpr ?_
  rw[List.map_cons]
  refine List.nodup_cons.mpr ⟨λz=>?_,o.jy⟩
  obtain⟨y,hy,e⟩:=List.mem_map.mp z
  exact h2 ((o.l4 v).mpr ⟨y,hy,by show(y.2:Int)=v;rw[show y.2=v from e]⟩)
theorem cI.del{x:aA}(o:cI x)(t:Nat):cI {x with s:={x.s with pairs:=x.s.pairs.filter λy=>y.1 !=t},pairs:=a9 x.pairs (t:Int)}:=by
 refine⟨?_,List.Pairwise.filter _ o.bH,λy hy=>o.pos y (List.mem_filter.mp hy).1,(List.filter_sublist.map _).nodup o.jy,o.gu⟩
 unfold a9
 refine List.Perm.trans ?_ (o.perm.filter _)
 rw[List.filter_map]
 refine List.Perm.of_eq (congrArg _ (List.filter_congr λj _=>?_))
 show(j.1 !=t)=decide ((j.1:Int)≠(t:Int))
 by_cases e:j.1=t
 .simp[e]
 .have:¬(j.1:Int)=t:=by omega
  simp[e,this]
theorem zG(x:Vbcnab.Vlan):∀l:List Vbcnab.Vlan,(Vbcnab.putVlan x l).Perm (x::l)
 |[]=>List.Perm.refl _
 |r::l=>by
  unfold Vbcnab.putVlan
  split
  .exact List.Perm.refl _
  .exact((zG x l).cons r).trans (List.Perm.swap _ _ _)
theorem Rep.Cq(r:Rep m s){n:Nat}(hn:1<=n)(h:lk m.vlans (n:Int)=none)(h64:m.vlans.length<64){x:af}(hw:x.w=⟨n,m.age,0,0,0⟩)(hr:x.rows=[])(hg:x.groups=[])(h1:x.gates=List.replicate m.sides.length 2)(h2:x.a_=List.replicate m.sides.length 0)(h3:x.spread=List.replicate m.sides.length 0):Rep {m with vlans:=m.vlans++[((n:Int),x)]} {s with vlans:=Vbcnab.putVlan ⟨n,s.age,0,0,0⟩ s.vlans}:=by
 have no:=r.no h
 have rep:∀c:Int,List.replicate m.sides.length c=(List.range m.sides.length).map λ_=>c:=λc=>by rw[List.map_const',List.length_range]
 refine⟨r.on,r.now,r.cap,r.age,r.hold,r.mirror,r.ports,r.sides,r.dF,r.bV,r.cg,r.c5,r.gd,r.dP,r.mlt,r.bL,λy hy u hu z=>?_,?_,?_,?_,λp hp=>?_,λv hv=>?_,r.bH,r.dX⟩
 .obtain⟨w,hw⟩:=r.sv y hy u hu z
  show∃w,lk (m.vlans++[((n:Int),x)]) u=some w
  rw[oA _ _ _ h]
  split
  .exact⟨_,rfl⟩
  .exact⟨_,hw⟩
 .have z:=l6 (k:=(n:Int)) (x:=x) r.vk
  rw[putL_new h] at z;exact z
 .show(m.vlans++[((n:Int),x)]).length<=64
  rw[List.length_append];exact h64
 .refine(zG _ _).trans ?_
  show(_::s.vlans).Perm ((m.vlans++[((n:Int),x)]).map (·.2.w))
  rw[List.map_append,r.age]
  refine(r.vlans.cons _).trans ?_
  rw[<-hw]
  exact List.perm_append_comm (l₁:=[x.w])
 .rcases List.mem_append.mp hp with hp|hp
  .exact r.cN p hp
  .obtain rfl:p=((n:Int),x):=by simpa using hp
   show cf _ _ _ (view s x.w.id) n x
   rw[hw,no]
   refine⟨by rw[hw],by rw[hw];exact hn,by rw[hw];exact r.gd,by rw[hr];exact List.nodup_nil,by rw[hr];simp,by rw[hr];exact List.Perm.refl _,by rw[hg];exact List.nodup_nil,by rw[hg];simp,by rw[hg];exact List.Perm.refl _,by rw[hr,hg];exact Nat.zero_le _,?_,?_,?_⟩
   .rw[h1];exact rep 2
   .rw[h2];exact rep 0
   .rw[h3];exact rep 0
 .exact r.fJ v λp hp=>hv p (List.mem_append_left _ hp)
theorem xj{α:Type}(f g:α->Bool){l:List α}(h:∀x,f x=true->g x=true):(l.filter g).find? f=l.find? f:=by
 rw[List.find?_filter]
 congr 1;funext x
 cases e:f x with
 |false=>simp
 |true=>simp[h x e]
theorem find_none{α:Type}(f g:α->Bool){l:List α}(h:∀x,f x=true->g x=false):(l.filter g).find? f=none:=by
 refine List.find?_eq_none.mpr λx hx e=>?_
 have:=(List.mem_filter.mp hx).2
 rw[h x e] at this;cases this
theorem Rep.DV(r:Rep m s){k:Int}{v:af}(h:lk m.vlans k=some v)(hs:(s.sides.any λd=>(Vbcnab.wire d v.w.id).isSome)=false):Rep {m with vlans:=a9 m.vlans k} {s with
 vlans:=s.vlans.filter λw=>w.id !=v.w.id
 rows:=s.rows.filter λr=>r.vlan !=v.w.id
 groups:=s.groups.filter λg=>g.vlan !=v.w.id
 gates:=s.gates.filter λx=>x.2.1 !=v.w.id
 shuts:=s.shuts.filter λx=>x.2 !=v.w.id
 floods:=s.floods.filter λx=>x.2.1 !=v.w.id}:=by
 have o:=r.at h
 have vw:∀u,view {s with
  vlans:=s.vlans.filter λw=>w.id !=v.w.id
  rows:=s.rows.filter λr=>r.vlan !=v.w.id
  groups:=s.groups.filter λg=>g.vlan !=v.w.id
  gates:=s.gates.filter λx=>x.2.1 !=v.w.id
  shuts:=s.shuts.filter λx=>x.2 !=v.w.id
  floods:=s.floods.filter λx=>x.2.1 !=v.w.id} u=if u=v.w.id then View.no else view s u:=λu=>by
  by_cases e:u=v.w.id
  .rw[if_pos e]
   subst e
   unfold view View.no
   congr 1
   .rw[List.filter_filter];exact List.filter_eq_nil_iff.mpr λx _=>by simp
   .rw[List.filter_filter];exact List.filter_eq_nil_iff.mpr λx _=>by simp
   .funext q
    show((List.find? _ (s.gates.filter _)).map _).getD 2=2
    rw[find_none _ _ λx hx=>?_]
    .rfl
    .simp at hx;simp[hx.2]
   .funext q
    refine List.any_eq_false.mpr λx hx=>?_
    have:=(List.mem_filter.mp hx).2
    simp at this
    simp[this]
   .funext q
    show((List.find? _ (s.floods.filter _)).map _).getD 0=0
    rw[find_none _ _ λx hx=>?_]
    .rfl
    .simp at hx;simp[hx.2]
  .rw[if_neg e]
   unfold view
   congr 1
   .rw[List.filter_filter]
    refine List.filter_congr λx _=>?_
    by_cases z:x.vlan=u
    .simp[z,e]
    .simp[z]
   .rw[List.filter_filter]
    refine List.filter_congr λx _=>?_
    by_cases z:x.vlan=u
    .simp[z,e]
    .simp[z]
   .funext q
    show((List.find? _ (s.gates.filter _)).map _).getD 2=_
    rw[xj _ _ λx hx=>?_]
    .rfl
    .simp at hx;simp[hx.2,e]
   .funext q
    show(s.shuts.filter _).any _=s.shuts.any _
    rw[List.any_filter]
    congr 1;funext x
    by_cases z:x.2=u
    .simp[z,e]
    .simp[z]
   .funext q
    show((List.find? _ (s.floods.filter _)).map _).getD 0=_
    rw[xj _ _ λx hx=>?_]
    .rfl
    .simp at hx;simp[hx.2,e]
 refine⟨r.on,r.now,r.cap,r.age,r.hold,r.mirror,r.ports,r.sides,r.dF,r.bV,r.cg,r.c5,r.gd,r.dP,r.mlt,r.bL,λy hy u hu z=>?_,oN r.vk,Nat.le_trans (List.length_filter_le _ _) r.ff,?_,λp hp=>?_,λu hu=>?_,List.Pairwise.filter _ r.bH,List.Pairwise.filter _ r.dX⟩
 .obtain⟨w,hw⟩:=r.sv y hy u hu z
  show∃w,lk (a9 m.vlans k) u=some w
  have hne:¬(u:Int)=k:=λe=>by
   have hu2:u=v.w.id:=by have:=o.id;omega
   have q:=List.any_eq_false.mp hs y.s (by rw[r.sides];exact List.mem_map.mpr ⟨y,hy,rfl⟩)
   have ok:=r.bL y hy
   rw[m_ ok (by have:=o.pos;omega)] at q
   apply q
   refine decide_eq_true ?_
   rcases z with z|z
   .exact .inl (by rw[z,hu2])
   .obtain⟨w2,h1,h2⟩:=List.mem_map.mp z
    exact .inr ((ok.l4 _).mpr ⟨w2,h1,by rw[show w2.2=u from h2,hu2]⟩)
  rw[oz,if_neg hne]
  exact⟨w,hw⟩
 .show(s.vlans.filter _).Perm ((a9 m.vlans k).map (·.2.w))
  have z:=nR (λy:af=>y.w) (λb=>(b.id:Int)) (k:=k) (l:=m.vlans) λp hp=>(r.cN p hp).id
  rw[z]
  refine List.Perm.trans ?_ (r.vlans.filter _)
  refine List.Perm.of_eq (List.filter_congr λb _=>?_)
  have:=o.id
  by_cases e:b.id=v.w.id
  .have:(b.id:Int)=k:=by omega
   simp[e,o.id]
  .have:¬(b.id:Int)=k:=by omega
   simp[e,this]
 .obtain⟨h1,h2⟩:=List.mem_filter.mp hp
  have h2:p.1≠k:=of_decide_eq_true h2
  have q:=r.cN p h1
  rw[vw,if_neg (λe=>h2 (by rw[r.uniq h h1 e]))]
  exact q
 .rw[vw]
  by_cases e:u=v.w.id
  .rw[if_pos e]
  .rw[if_neg e]
   refine r.fJ u λp hp e2=>?_
   have hk:p.1≠k:=λz=>e (by
    have l1:=dw r.vk hp
    rw[z,h] at l1
    rw[<-e2,<-Option.some.inj l1])
   exact hu p (List.mem_filter.mpr ⟨hp,decide_eq_true hk⟩) e2
theorem Rep.Gb(r:Rep m s)(o:Option Nat)(h:∀q,o=some q->q<m.sides.length):Rep {m with mirror:=o} {s with mirror:=o}:=
 ⟨r.on,r.now,r.cap,r.age,r.hold,rfl,r.ports,r.sides,r.dF,r.bV,r.cg,r.c5,r.gd,r.dP,h,r.bL,r.sv,r.vk,r.ff,r.vlans,r.cN,r.fJ,r.bH,r.dX⟩
end
end Sw
namespace Sw
open L2
theorem kR{l l':List Int}(p:l.Perm l')(h:l.Pairwise (·<=·))(h':l'.Pairwise (·<·)):l=l':=by
 have h2:l'.Pairwise (·<=·):=h'.imp λ{a b}z=>Int.le_of_lt z
 exact List.Perm.eq_of_pairwise (λx y _ _ h1 h2=>Int.le_antisymm h1 h2) h h2 p
section
variable{m:ae}{s:Vbcnab.State}
theorem Rep.KZ(r:Rep m s)(v:Nat):(view s v).rows.Pairwise λa b=>a.hw<b.hw:=by
 have h:((s.rows.filter λr=>r.vlan==v)).Pairwise (gM (·.vlan) (·.hw)):=r.bH.filter _
 refine List.Pairwise.imp_of_mem (λ{a b}ha hb z=>?_) h
 have e1:=eq_of_beq (List.mem_filter.mp ha).2
 have e2:=eq_of_beq (List.mem_filter.mp hb).2
 rcases z with z|z
 .have z:a.vlan<b.vlan:=z
  omega
 .exact z.2
theorem Rep.Es(r:Rep m s)(v:Nat):(view s v).groups.Pairwise λa b=>a.hw<b.hw:=by
 have h:((s.groups.filter λr=>r.vlan==v)).Pairwise (gM (·.vlan) (·.hw)):=List.Pairwise.filter _ r.dX
 refine List.Pairwise.imp_of_mem (λ{a b}ha hb z=>?_) h
 have e1:=eq_of_beq (List.mem_filter.mp ha).2
 have e2:=eq_of_beq (List.mem_filter.mp hb).2
 rcases z with z|z
 .have z:a.vlan<b.vlan:=z
  omega
 .exact z.2
theorem Rep.Lm(r:Rep m s){k:Int}{v:af}(h:lk m.vlans k=some v){ns:List Int}(p:ns.Perm (v.rows.map (·.1)))(o:ns.Pairwise (·<=·)):ns=(view s v.w.id).rows.map λr=>(r.hw:Int):=by
 have ok:=r.at h
 refine kR ?_ o ?_
 .refine p.trans ((ok.rws.map λr=>(r.hw:Int)).trans ?_).symm
  rw[List.map_map]
  exact List.Perm.of_eq (List.map_congr_left λx hx=>(ok.b_ x hx).hw)
 .rw[List.pairwise_map]
  exact(r.KZ v.w.id).imp λ{a b}z=>by omega
theorem Rep.Lk(r:Rep m s){k:Int}{v:af}(h:lk m.vlans k=some v){ns:List Int}(p:ns.Perm (v.groups.map (·.1)))(o:ns.Pairwise (·<=·)):ns=(view s v.w.id).groups.map λr=>(r.hw:Int):=by
 have ok:=r.at h
 refine kR ?_ o ?_
 .refine p.trans ((ok.eM.map λr=>(r.hw:Int)).trans ?_).symm
  rw[List.map_map]
  exact List.Perm.of_eq (List.map_congr_left λx hx=>(ok.bG x hx).hw)
 .rw[List.pairwise_map]
  exact(r.Es v.w.id).imp λ{a b}z=>by omega
theorem cq.sorted{n v:Nat}{k:Int}{x:bQ}(o:cq n v k x){ns:List Int}(p:ns.Perm (x.ks.map (·.1)))(h:ns.Pairwise (·<=·)):ns=x.g.sides.map λ(q:Nat)=>(q:Int):=by
 refine kR (p.trans o.perm.symm) h ?_
 rw[List.pairwise_map]
 exact o.bH.imp λ{a b}z=>by omega
theorem cI.sorted{x:aA}(o:cI x){ns:List Int}(p:ns.Perm (x.pairs.map (·.1)))(h:ns.Pairwise (·<=·)):ns=x.s.pairs.map λy=>(y.1:Int):=by
 refine kR (p.trans ((o.perm.map (·.1)).symm.trans ?_)) h ?_
 .rw[List.map_map];exact List.Perm.refl _
 .rw[List.pairwise_map]
  exact o.bH.imp λ{a b}z=>by omega
def dW(s:Vbcnab.State)(v q r:Nat):Bool:=Vbcnab.mayGo s v q r&&decide (Vbcnab.upsOf s r≠[])
def ch(s:Vbcnab.State)(to src r:Nat):Nat:=(Vbcnab.chosen s r to src).getD 0
def mR(s:Vbcnab.State)(p:Nat):Nat:=((s.ports[p]?.bind λx=>x.side)).getD 0
def kx(s:Vbcnab.State)(v rk p:Nat):Vbcnab.Out:=⟨p,(Vbcnab.wire (Vbcnab.sideAt s (mR s p)) v).getD 0,if(Vbcnab.wire (Vbcnab.sideAt s (mR s p)) v).getD 0=-1 then 0 else rk⟩
theorem m5{s:Vbcnab.State}{r p:Nat}(h:p∈Vbcnab.upsOf s r):p<s.ports.length/\(s.ports[p]?.bind λx=>x.side)=some r:=by
 have h1:=(List.mem_filter.mp h).1
 have h2:=List.mem_filter.mp h1
 exact⟨List.mem_range.mp h2.1,eq_of_beq h2.2⟩
theorem jL{s:Vbcnab.State}{to src r:Nat}(h:Vbcnab.upsOf s r≠[]):Vbcnab.chosen s r to src=some (ch s to src r)/\ch s to src r∈Vbcnab.upsOf s r:=by
 have hl:0<(Vbcnab.upsOf s r).length:=List.length_pos_iff.mpr h
 have hi:(to+src)%(Vbcnab.upsOf s r).length<(Vbcnab.upsOf s r).length:=Nat.mod_lt _ hl
 have e:Vbcnab.chosen s r to src=some ((Vbcnab.upsOf s r)[(to+src)%(Vbcnab.upsOf s r).length]):=by
  unfold Vbcnab.chosen
  exact List.getElem?_eq_getElem hi
 have e2:ch s to src r=(Vbcnab.upsOf s r)[(to+src)%(Vbcnab.upsOf s r).length]:=by unfold ch;rw[e];rfl
 rw[e2]
 exact⟨e,List.getElem_mem hi⟩
theorem tm{s:Vbcnab.State}{to src r p:Nat}(h:Vbcnab.chosen s r to src=some p):Vbcnab.upsOf s r≠[]/\p=ch s to src r:=by
 refine⟨λz=>?_,by unfold ch;rw[h];rfl⟩
 unfold Vbcnab.chosen at h
 rw[z] at h
 simp at h
theorem yt{s:Vbcnab.State}{v q r:Nat}(h:Vbcnab.mayGo s v q r=true):(Vbcnab.wire (Vbcnab.sideAt s r) v).isSome=true:=by
 unfold Vbcnab.mayGo at h
 simp only[Bool.and_eq_true] at h
 exact h.2.1
def fm(s:Vbcnab.State)(v q to src:Nat)(m:Vbcnab.Aim)(p:Nat):Bool:=match s.ports[p]?.bind λx=>x.side with
 |none=>false
 |some r=>m.has r&&(Vbcnab.mayGo s v q r&&decide (Vbcnab.chosen s r to src=some p))
theorem yV(s:Vbcnab.State)(v q to src rk:Nat)(m:Vbcnab.Aim):Vbcnab.outs s v q to src rk m=((List.range s.ports.length).filter (fm s v q to src m)).map (kx s v rk):=by
 unfold Vbcnab.outs
 rw[<-List.filterMap_eq_map,<-List.filterMap_eq_filter,List.filterMap_filterMap]
 congr 1
 funext p
 unfold fm kx mR
 cases e:s.ports[p]?.bind λx=>x.side with
 |none=>simp[Option.guard,e]
 |some r=>
  by_cases h:m.has r=true/\Vbcnab.mayGo s v q r=true/\Vbcnab.chosen s r to src=some p
  .have hw:=yt h.2.1
   obtain⟨t,ht⟩:=Option.isSome_iff_exists.mp hw
   simp[Option.guard,e,h,ht]
  .have h':¬(m.has r&&(Vbcnab.mayGo s v q r&&decide (Vbcnab.chosen s r to src=some p)))=true:=by
    simpa[Bool.and_eq_true,and_assoc] using h
   simp only[Bool.not_eq_true] at h'
   simp[Option.guard,e,h,h']
theorem Iy{s:Vbcnab.State}{v q to src:Nat}{a:Vbcnab.Aim}{n:Nat}(hn:∀(p r:Nat),(s.ports[p]?.bind λx=>x.side)=some r->r<n){L:List Nat}(hL:L.Pairwise (·<·))(hm:∀r,r∈L↔r<n/\a.has r=true/\dW s v q r=true){ns:List Int}(p:ns.Perm (L.map λr=>(ch s to src r:Int)))(o:ns.Pairwise (·<=·)):ns=((List.range s.ports.length).filter (fm s v q to src a)).map λ(p:Nat)=>(p:Int):=by
 have hg:∀r∈L,Vbcnab.upsOf s r≠[]/\Vbcnab.mayGo s v q r=true:=λr hr=>by
  have:=((hm r).mp hr).2.2
  unfold dW at this
  rw[Bool.and_eq_true] at this
  exact⟨of_decide_eq_true this.2,this.1⟩
 have inj:∀r∈L,∀r'∈L,ch s to src r=ch s to src r'->r=r':=λr hr r' hr' e=>by
  have a1:=(m5 (jL (to:=to) (src:=src) (hg r hr).1).2).2
  have a2:=(m5 (jL (to:=to) (src:=src) (hg r' hr').1).2).2
  rw[e,a2] at a1
  exact(Option.some.inj a1).symm
 have nd:(L.map (ch s to src)).Nodup:=by
  refine List.Pairwise.map _ (λ_ _ z=>z) (List.Pairwise.imp_of_mem (λ{a b}ha hb z=>?_) hL)
  exactλe=>by have:=inj a ha b hb e;omega
 refine kR ?_ o ?_
 .have pm:(L.map (ch s to src)).Perm ((List.range s.ports.length).filter (fm s v q to src a)):=by
   refine(List.perm_ext_iff_of_nodup nd (List.nodup_range.filter _)).mpr λx=>?_
   constructor
   .intro hx
    obtain⟨r,hr,rfl⟩:=List.mem_map.mp hx
    obtain⟨c1,c2⟩:=jL (to:=to) (src:=src) (hg r hr).1
    obtain⟨u1,u2⟩:=m5 c2
    refine List.mem_filter.mpr ⟨List.mem_range.mpr u1,?_⟩
    unfold fm
    rw[u2]
    show(a.has r&&(Vbcnab.mayGo s v q r&&decide (Vbcnab.chosen s r to src=some (ch s to src r))))=true
    rw[((hm r).mp hr).2.1,(hg r hr).2,decide_eq_true c1];rfl
   .intro hx
    obtain⟨h1,h2⟩:=List.mem_filter.mp hx
    unfold fm at h2
    cases e:s.ports[x]?.bind λx=>x.side with
    |none=>rw[e] at h2;cases h2
    |some r=>
     rw[e] at h2
     have h2:(a.has r&&(Vbcnab.mayGo s v q r&&decide (Vbcnab.chosen s r to src=some x)))=true:=h2
     rw[Bool.and_eq_true,Bool.and_eq_true] at h2
     obtain⟨c1,c2⟩:=tm (of_decide_eq_true h2.2.2)
     refine List.mem_map.mpr ⟨r,(hm r).mpr ⟨hn x r e,h2.1,?_⟩,c2.symm⟩
     unfold dW
     rw[h2.2.1,decide_eq_true c1];rfl
  have z:=pm.map λ(p:Nat)=>(p:Int)
  rw[List.map_map] at z
  exact p.trans z
 .rw[List.pairwise_map]
  refine List.Pairwise.imp (λ{a b}z=>?_) (List.pairwise_lt_range.filter _)
  omega
theorem DC{s:Vbcnab.State}{v q to src rk:Nat}{a:Vbcnab.Aim}{L:List Nat}(hg:∀r∈L,Vbcnab.upsOf s r≠[])(p:((List.range s.ports.length).filter (fm s v q to src a)).Perm (L.map (ch s to src))):((Vbcnab.outs s v q to src rk a).filter λo=>match s.ports[o.port]?.bind λx=>x.side with
                                                                                                                                                                                                         |some r=>(Vbcnab.sideAt s r).watchOut
                                                                                                                                                                                                         |none=>false).length=(L.filter λr=>(Vbcnab.sideAt s r).watchOut).length:=by
 rw[yV,List.filter_map,List.length_map]
 rw[(p.filter _).length_eq,List.filter_map,List.length_map]
 congr 1
 refine List.filter_congr λr hr=>?_
 have u:=(m5 (jL (to:=to) (src:=src) (hg r hr)).2).2
 show(match s.ports[ch s to src r]?.bind λx=>x.side with
  |some r=>(Vbcnab.sideAt s r).watchOut
  |none=>false)=_
 rw[u]
end
end Sw
namespace Sw
open L2
abbrev Res:=Except (Nat×Vbcnab.State) Vbcnab.State
def Res.st:Res->Vbcnab.State
 |.ok s=>s
 |.error x=>x.2
def Res.no:Res->Nat
 |.ok _=>0
 |.error x=>x.1
def dh(s:Vbcnab.State)(sd:Option Nat)(v to src:Nat):Except Nat (Nat×Nat):=match sd with
 |none=>.error 3
 |some q=>
  if s.mirror=some q then .error 4
  else if src=0\/Vbcnab.isGroup src=true then .error 5
  else if v=0 then .error 6
  else if Vbcnab.reserved to=true then .error 7 else if Vbcnab.gateOf s q v=0 then .error 8 else if Vbcnab.isShut s q v=true then .error 9 else .ok (q,v)
theorem D4{s:Vbcnab.State}{p to src:Nat}{tag:Int}{x:Vbcnab.Port}(hx:s.ports[p]? =some x){q v:Nat}(hs:x.side=some q)(hu:x.up=true)(hv:(Vbcnab.inner (Vbcnab.sideAt s q) tag).getD 0=v)(hn:Vbcnab.inner (Vbcnab.sideAt s q) tag≠some 0):Vbcnab.enter s p to src tag=dh s (some q) v to src:=by
 unfold Vbcnab.enter dh
 rw[hx]
 simp only[]
 rw[hs]
 simp only[]
 rw[hu,if_neg (by decide)]
 by_cases h1:s.mirror=some q
 .rw[if_pos h1,if_pos h1]
 .rw[if_neg h1,if_neg h1]
  by_cases h2:src=0\/Vbcnab.isGroup src=true
  .rw[if_pos h2,if_pos h2]
  .rw[if_neg h2,if_neg h2]
   cases hi:Vbcnab.inner (Vbcnab.sideAt s q) tag with
   |none=>
    rw[hi] at hv
    rw[if_pos (show v=0 from hv.symm)]
   |some w=>
    rw[hi] at hv hn
    have e:w=v:=hv
    subst e
    rw[if_neg (λz=>hn (by rw[z]))]
theorem D3{s:Vbcnab.State}{p to src:Nat}{tag:Int}{x:Vbcnab.Port}(hx:s.ports[p]? =some x)(h:x.up=false\/x.side=none)(v:Nat):Vbcnab.enter s p to src tag=dh s none v to src:=by
 unfold Vbcnab.enter dh
 rw[hx]
 simp only[]
 cases hs:x.side with
 |none=>rfl
 |some q=>
  rcases h with h|h
  .simp only[]
   rw[h,if_pos rfl]
  .rw[hs] at h;cases h
def behind(t:Vbcnab.State)(q v to:Nat):Res:=
 if Vbcnab.gateOf t q v=1 then .error (14,t)
 else if Vbcnab.aim t v to=.nowhere then .error (15,t)
 else match Vbcnab.storming t q v (Vbcnab.aim t v to) with
  |none=>.error (16,t)
  |some u=>.ok u
def pass(s:Vbcnab.State)(sd:Option Nat)(v to src:Nat):Res:=match dh s sd v to src with
 |.error c=>.error (c,s)
 |.ok (q,v)=>match Vbcnab.learn s q v src with
  |.error e=>.error e
  |.ok t=>behind t q v to
def jm(u:Vbcnab.State)(p q v to src r:Nat):Vbcnab.State×List Int:=
 let m:=Vbcnab.aim u v to
 let l:=Vbcnab.outs u v q to src r m
 let c:=Vbcnab.copies u q to src l
 let w:=Vbcnab.onPort u p λx=>{x with passed:=x.passed+1}
 let w:=l.foldl (λw o=>Vbcnab.onPort w o.port λx=>{x with given:=x.given+1}) w
 (w,[0,(l.length:Int)]++(l.flatMap λo=>[(o.port:Int),o.tag,(o.rank:Int)])++[(c.1:Int),c.2])
theorem Me{t u:Vbcnab.State}{q v to:Nat}{m:Vbcnab.Aim}(h:Vbcnab.storming t q v m=some u):Vbcnab.aim u v to=Vbcnab.aim t v to/\Vbcnab.sideAt u q=Vbcnab.sideAt t q:=by
 unfold Vbcnab.storming at h
 repeat' split at h
 all_goals first|(cases h;exact⟨rfl,rfl⟩)|cases h
theorem Ek{s s0:Vbcnab.State}{p to src:Nat}{tag:Int}{rank:Nat}{sd:Option Nat}{v:Nat}(h0:s0=Vbcnab.onPort s p λx=>{x with taken:=x.taken+1})(he:Vbcnab.enter s0 p to src tag=dh s0 sd v to src):Vbcnab.frame s p to src tag rank=match pass s0 sd v to src with
 |.error (c,t)=>Vbcnab.dropped t p c
 |.ok u=>jm u p (sd.getD 0) v to src (if tag=-1 then(Vbcnab.sideAt u (sd.getD 0)).rank else rank):=by
 unfold Vbcnab.frame pass
 rw[<-h0]
 simp only[]
 rw[he]
 cases hE:dh s0 sd v to src with
 |error c=>rfl
 |ok x=>
  obtain⟨q,v'⟩:=x
  have hq:sd=some q/\v'=v:=by
   unfold dh at hE
   cases sd with
   |none=>cases hE
   |some q'=>
    simp only[] at hE
    repeat' split at hE
    all_goals first|(cases hE;exact⟨rfl,rfl⟩)|cases hE
  obtain⟨rfl,rfl⟩:=hq
  simp only[]
  cases hl:Vbcnab.learn s0 q v' src with
  |error e=>rfl
  |ok t=>
   simp only[]
   unfold behind
   by_cases h1:Vbcnab.gateOf t q v'=1
   .rw[if_pos h1,if_pos h1]
   .rw[if_neg h1,if_neg h1]
    by_cases h2:Vbcnab.aim t v' to=.nowhere
    .rw[if_pos h2,if_pos h2]
    .rw[if_neg h2,if_neg h2]
     cases h3:Vbcnab.storming t q v' (Vbcnab.aim t v' to) with
     |none=>rfl
     |some u=>
      obtain⟨e1,e2⟩:=Me (to:=to) h3
      show _=jm u p q v' to src (if tag=-1 then(Vbcnab.sideAt u q).rank else rank)
      unfold jm
      rw[e1,e2]
section
variable{m:ae}{s:Vbcnab.State}
theorem Rep.fresh{n cap age hold:Nat}(h1:1<=n)(h64:n<=64)(hc1:1<=cap)(hc:cap<=65536)(ha:1<=age){x:af}(hp:m.ports.map (·.p)=(List.range n).map λi=>{side:=some i})(hs:m.sides.map (·.s)=List.replicate n {})(hpr:∀y∈m.sides,y.pairs=[])(hv:m.vlans=[(1,x)])(hcap:m.cap=cap)(hage:m.age=age)(hhold:m.hold=hold)(hmir:m.mirror=none)(hnow:m.now=0)(hw:x.w=⟨1,age,0,0,0⟩)(hr:x.rows=[])(hg:x.groups=[])(g1:x.gates=List.replicate n 2)(g2:x.a_=List.replicate n 0)(g3:x.spread=List.replicate n 0):Rep m (Vbcnab.fresh n cap age hold):=by
 have pl:m.ports.length=n:=by have:=congrArg List.length hp;simpa using this
 have sl:m.sides.length=n:=by have:=congrArg List.length hs;simpa using this
 have rep:∀c:Int,List.replicate n c=(List.range n).map λ_=>c:=λc=>by rw[List.map_const',List.length_range]
 have sd:∀y∈m.sides,y.s={}:=λy hy=>by
  have:y.s∈m.sides.map (·.s):=List.mem_map.mpr ⟨y,hy,rfl⟩
  rw[hs] at this
  exact(List.mem_replicate.mp this).2
 refine⟨rfl,hnow.symm,hcap.symm,hage.symm,hhold.symm,hmir.symm,hp.symm,hs.symm,by rw[pl,sl],by rw[sl];exact h1,by rw[sl];exact h64,by rw[hcap];exact hc,by rw[hage];exact ha,λy hy=>?_,λq hq=>?_,λy hy=>?_,λy hy v hv0 z=>?_,?_,?_,?_,λp hp'=>?_,λv _=>rfl,List.Pairwise.nil,List.Pairwise.nil⟩
 .have:y.p∈m.ports.map (·.p):=List.mem_map.mpr ⟨y,hy,rfl⟩
  rw[hp] at this
  obtain⟨i,hi,e⟩:=List.mem_map.mp this
  refine⟨λq hq=>?_,by rw[<-e];rfl⟩
  rw[<-e] at hq
  have hq:i=q:=Option.some.inj hq
  rw[sl,<-hq];exact List.mem_range.mp hi
 .rw[hmir] at hq;cases hq
 .have e:=sd y hy
  refine⟨by rw[e,hpr y hy];exact List.Perm.refl _,by rw[e];exact List.Pairwise.nil,(by rw[e];intro z hz;cases hz),by rw[e];exact List.nodup_nil,(by rw[e];intro z hz;cases hz)⟩
 .rw[sd y hy] at z
  have z:v=1:=by
   rcases z with z|z
   .exact z.symm
   .cases z
  subst z
  rw[hv];exact⟨x,rfl⟩
 .rw[hv];simp
 .rw[hv];simp
 .rw[hv];show List.Perm [_] [x.w];rw[hw]
 .rw[hv] at hp'
  obtain rfl:p=(1,x):=by simpa using hp'
  show cf _ _ _ (view (Vbcnab.fresh n cap age hold) x.w.id) 1 x
  rw[sl]
  refine⟨by rw[hw];rfl,by rw[hw];exact Nat.le_refl 1,by rw[hw];exact ha,by rw[hr];exact List.nodup_nil,by rw[hr];simp,by rw[hr];exact List.Perm.refl _,by rw[hg];exact List.nodup_nil,by rw[hg];simp,by rw[hg];exact List.Perm.refl _,by rw[hr,hg];exact Nat.zero_le _,?_,?_,?_⟩
  .rw[g1];exact rep 2
  .rw[g2];exact rep 0
  .rw[g3];exact rep 0
theorem cc.imp{α β:Type}{Rl S:α->β->Prop}:∀{l:IM α}{l':IM β},cc Rl l l'->(∀k x y,(k,x)∈l->Rl x y->S x y)->cc S l l'
 |_,_,.nil,_=>.nil
 |_,_,.cons a b,f=>.cons (f _ _ _ List.mem_cons_self a) (cc.imp b λk x y h=>f k x y (List.mem_cons_of_mem _ h))
structure kZ(q now age:Nat)(x y:bo):Prop where
 yes:x.r.kind=.secure->x.r.side=some q->y.r=⟨x.r.vlan,x.r.hw,.learned,some q,now+age,0⟩/\y.un=now+age/\y.mv=now
 no:¬(x.r.kind=.secure/\x.r.side=some q)->y=x
def r9(q now:Nat)(v v':af):Prop:=∃rows,cc (kZ q now v.w.age) v.rows rows/\v'=v.wr rows
theorem Rep.lZ(r:Rep m s){q:Nat}(hq:q<m.sides.length){l:IM af}(h:cc (r9 q m.now) m.vlans l):Rep {m with vlans:=l} {s with rows:=s.rows.map λr=>if r.kind=.secure/\r.side=some q then Vbcnab.learnedRow s r.vlan q r.hw 0 else r}:=by
 refine r.KO (λr=>if r.kind=.secure/\r.side=some q then Vbcnab.learnedRow s r.vlan q r.hw 0 else r) (λb=>?_) (h.imp λk v v' hv⟨rows,hr,e⟩=>⟨rows,e,?_,?_,λok ag p hp=>?_⟩)
 .split<;>exact⟨rfl,rfl⟩
 .exact(hr.gy (λp:Int×bo=>p.1) (λp:Int×bo=>p.1) λ_ _ _ _=>rfl).symm
 .have o:=r.cN _ hv
  have z:cc (λx y:bo=>y.r=if x.r.kind=.secure/\x.r.side=some q then Vbcnab.learnedRow s x.r.vlan q x.r.hw 0 else x.r) v.rows rows:=hr.imp λk x y hx lo=>by
   by_cases c:x.r.kind=.secure/\x.r.side=some q
   .rw[if_pos c,(lo.yes c.1 c.2).1]
    unfold Vbcnab.learnedRow Vbcnab.ageOf
    have hl:=dw r.vk hv
    have ov:=(o.b_ _ hx).vlan
    have oi:=o.id
    simp only[] at hl ov oi
    rw[ov,r.vlanOf,oi,hl,r.now];rfl
   .rw[if_neg c,lo.no c]
  exact(z.gy (λx:Int×bo=>if x.2.r.kind=.secure/\x.2.r.side=some q then Vbcnab.learnedRow s x.2.r.vlan q x.2.r.hw 0 else x.2.r) (λx:Int×bo=>x.2.r) λ_ _ _ e=>e.symm).symm
 .obtain⟨x,hx,e1,lo⟩:=hr.mem hp
  have okx:=ok x hx
  rw[<-e1]
  by_cases z:x.2.r.kind=.secure/\x.2.r.side=some q
  .obtain⟨y1,y2,y3⟩:=lo.yes z.1 z.2
   refine⟨by rw[y1];exact okx.vlan,by rw[y1];exact okx.hw,by rw[y1];exact okx.ng,λ_=>by rw[y1];simp,λu hu=>?_,λ_=>by rw[y1,y2];rfl,λn=>absurd (by rw[y1]) n,λ_=>by rw[y1];show m.now<m.now+v.w.age;omega,λ_=>.inr ⟨by rw[y3];exact Int.le_refl _,by rw[y1];exact Nat.zero_le _⟩⟩
   rw[y1] at hu
   have hu:q=u:=Option.some.inj hu
   omega
  .rw[lo.no z];exact okx
end
end Sw
namespace Sw
open L2
structure cH(s s':Vbcnab.State):Prop where
 sides:s'.sides=s.sides
 mirror:s'.mirror=s.mirror
 ports:(s'.ports.map λx=>(x.side,x.up))=s.ports.map λx=>(x.side,x.up)
 gates:s'.gates=s.gates
 shuts:s'.shuts=s.shuts
theorem cH.refl(s:Vbcnab.State):cH s s:=⟨rfl,rfl,rfl,rfl,rfl⟩
theorem cH.trans{a b c:Vbcnab.State}(h:cH a b)(g:cH b c):cH a c:=⟨g.sides.trans h.sides,g.mirror.trans h.mirror,g.ports.trans h.ports,g.gates.trans h.gates,g.shuts.trans h.shuts⟩
theorem tq{α β:Type}(g:α->β){f:α->α}(h:∀x,g (f x)=g x):∀(l:List α)(i:Nat),(Vbcnab.changeAt l i f).map g=l.map g
 |[],_=>rfl
 |x::l,0=>by show g (f x)::l.map g=_;rw[h];rfl
 |x::l,i+1=>congrArg (List.cons (g x)) (tq g h l i)
theorem cH.onPort(s:Vbcnab.State)(p:Nat){f:Vbcnab.Port->Vbcnab.Port}(h:∀x,((f x).side,(f x).up)=(x.side,x.up)):cH s (Vbcnab.onPort s p f):=⟨rfl,rfl,tq _ h _ _,rfl,rfl⟩
section
variable{s s':Vbcnab.State}(e:cH s s')
include e
theorem cH.len:s'.ports.length=s.ports.length:=by have z:=congrArg List.length e.ports;simpa using z
theorem cH.at_(p:Nat):(s'.ports[p]?.map λx=>(x.side,x.up))=s.ports[p]?.map λx=>(x.side,x.up):=by
 have z:=congrArg (λl=>l[p]?) e.ports
 simpa[List.getElem?_map] using z
theorem cH.side(p:Nat):(s'.ports[p]?.bind λx=>x.side)=s.ports[p]?.bind λx=>x.side:=by
 have z:=e.at_ p
 cases h:s.ports[p]? with
 |none=>rw[h] at z;cases h':s'.ports[p]? with|none=>rfl|some y=>rw[h'] at z;cases z
 |some x=>
  rw[h] at z
  cases h':s'.ports[p]? with
  |none=>rw[h'] at z;cases z
  |some y=>
   rw[h'] at z
   have z:(y.side,y.up)=(x.side,x.up):=Option.some.inj z
   exact(Prod.mk.inj z).1
theorem cH.up(p:Nat):(s'.ports[p]?.map λx=>x.up)=s.ports[p]?.map λx=>x.up:=by
 have z:=congrArg (Option.map Prod.snd) (e.at_ p)
 rw[Option.map_map,Option.map_map] at z
 exact z
theorem cH.upsOf(r:Nat):Vbcnab.upsOf s' r=Vbcnab.upsOf s r:=by
 unfold Vbcnab.upsOf Vbcnab.portsOf
 rw[e.len]
 simp only[e.side,e.up]
theorem cH.chosen(r to src:Nat):Vbcnab.chosen s' r to src=Vbcnab.chosen s r to src:=by
 unfold Vbcnab.chosen;rw[e.upsOf]
theorem cH.sideAt(r:Nat):Vbcnab.sideAt s' r=Vbcnab.sideAt s r:=by unfold Vbcnab.sideAt;rw[e.sides]
theorem cH.mayGo(v q r:Nat):Vbcnab.mayGo s' v q r=Vbcnab.mayGo s v q r:=by
 unfold Vbcnab.mayGo Vbcnab.gateOf Vbcnab.isShut
 rw[e.sideAt,e.sideAt,e.gates,e.shuts,e.mirror]
theorem cH.outs(v q to src rk:Nat)(m:Vbcnab.Aim):Vbcnab.outs s' v q to src rk m=Vbcnab.outs s v q to src rk m:=by
 unfold Vbcnab.outs
 rw[e.len]
 simp only[e.side,e.mayGo,e.chosen,e.sideAt]
theorem cH.copies(q to src:Nat)(l:List Vbcnab.Out):Vbcnab.copies s' q to src l=Vbcnab.copies s q to src l:=by
 unfold Vbcnab.copies
 rw[e.mirror]
 simp only[e.side,e.chosen,e.sideAt]
end
def mP(s:Vbcnab.State)(q v to src r:Nat):Vbcnab.State×List Int:=
 ((Vbcnab.outs s v q to src r (Vbcnab.aim s v to)).foldl (λw o=>Vbcnab.onPort w o.port λx=>{x with given:=x.given+1}) s,
   [0,((Vbcnab.outs s v q to src r (Vbcnab.aim s v to)).length:Int)]++((Vbcnab.outs s v q to src r (Vbcnab.aim s v to)).flatMap λo=>[(o.port:Int),o.tag,(o.rank:Int)])++[((Vbcnab.copies s q to src (Vbcnab.outs s v q to src r (Vbcnab.aim s v to))).1:Int),(Vbcnab.copies s q to src (Vbcnab.outs s v q to src r (Vbcnab.aim s v to))).2])
theorem K4(u:Vbcnab.State)(p q v to src r:Nat):jm u p q v to src r=mP (Vbcnab.onPort u p λx=>{x with passed:=x.passed+1}) q v to src r:=by
 have e:=cH.onPort u p (f:=λx=>{x with passed:=x.passed+1}) λ_=>rfl
 have ea:Vbcnab.aim (Vbcnab.onPort u p λx=>{x with passed:=x.passed+1}) v to=Vbcnab.aim u v to:=rfl
 unfold jm mP
 rw[ea,e.outs,e.copies]
theorem cH.given(l:List Vbcnab.Out):∀s:Vbcnab.State,cH s (l.foldl (λw o=>Vbcnab.onPort w o.port λx=>{x with given:=x.given+1}) s):=by
 induction l with
 |nil=>exact cH.refl
 |cons o l ih=>exactλs=>(cH.onPort s o.port (f:=λx=>{x with given:=x.given+1}) λ_=>rfl).trans (ih _)
section
variable{m:ae}{s:Vbcnab.State}
def ae.c3(m:ae)(u:af)(a:Int):List Nat:=match lk u.groups a with
 |some y=>y.g.sides
 |none=>match lk u.rows a with
  |none=>List.range m.sides.length
  |some r=>match r.r.side with
   |none=>[]
   |some q=>[q]
theorem Rep.su(r:Rep m s){k:Int}{u:af}(hv:lk m.vlans k=some u)(to:Nat):(m.c3 u (to:Int)).Pairwise (·<·)/\(∀q,q∈m.c3 u (to:Int)↔q<m.sides.length/\(Vbcnab.aim s u.w.id to).has q=true)/\(Vbcnab.aim s u.w.id to=.all↔lk u.groups (to:Int)=none/\lk u.rows (to:Int)=none)/\(Vbcnab.aim s u.w.id to=.nowhere↔m.c3 u (to:Int)=[]/\¬(lk u.groups (to:Int)=none/\lk u.rows (to:Int)=none)):=by
 have o:=r.at hv
 cases e:lk u.groups (to:Int) with
 |some y=>
  have bG:cq m.sides.length u.w.id (to:Int) y:=o.bG _ (b0 e)
  have hg:Vbcnab.isGroup to=true:=by have z:=bG.gr;have h:=bG.hw;rw[show y.g.hw=to by omega] at z;exact z
  have ea:Vbcnab.aim s u.w.id to=.sides y.g.sides:=by unfold Vbcnab.aim;rw[r.groupOf hv,e,if_pos hg];rfl
  have es:m.c3 u (to:Int)=y.g.sides:=by unfold ae.c3;rw[e]
  rw[ea,es]
  refine⟨bG.bH,λq=>?_,by simp,by simp[bG.ne]⟩
  show q∈y.g.sides↔_/\y.g.sides.contains q=true
  rw[List.contains_iff_mem]
  exact⟨λh=>⟨bG.lt q h,h⟩,λh=>h.2⟩
 |none=>
  cases e2:lk u.rows (to:Int) with
  |none=>
   have ea:Vbcnab.aim s u.w.id to=.all:=by
    unfold Vbcnab.aim
    rw[r.groupOf hv,r.rowOf hv,e,e2]
    by_cases z:Vbcnab.isGroup to=true
    .rw[if_pos z];rfl
    .rw[if_neg z];rfl
   have es:m.c3 u (to:Int)=List.range m.sides.length:=by unfold ae.c3;rw[e,e2]
   rw[ea,es]
   refine⟨List.pairwise_lt_range,λq=>?_,by simp,by simp⟩
   show q∈List.range m.sides.length↔q<m.sides.length/\true=true
   rw[List.mem_range];simp
  |some x=>
   have xok:de m.now m.sides.length u.w.id (to:Int) x:=o.b_ _ (b0 e2)
   have hg:¬Vbcnab.isGroup to=true:=by
    have z:=xok.ng;have h:=xok.hw
    rw[show x.r.hw=to by omega] at z
    rw[z];simp
   cases hs:x.r.side with
   |none=>
    have ea:Vbcnab.aim s u.w.id to=.nowhere:=by
     unfold Vbcnab.aim
     rw[r.rowOf hv,e2,if_neg hg]
     show(match x.r.side with|some q=>Vbcnab.Aim.sides [q]|none=>.nowhere)=_
     rw[hs]
    have es:m.c3 u (to:Int)=[]:=by unfold ae.c3;rw[e,e2];simp only[];rw[hs]
    rw[ea,es]
    refine⟨List.Pairwise.nil,λq=>?_,by simp,by simp⟩
    show q∈[]↔_/\false=true
    simp
   |some q0=>
    have ea:Vbcnab.aim s u.w.id to=.sides [q0]:=by
     unfold Vbcnab.aim
     rw[r.rowOf hv,e2,if_neg hg]
     show(match x.r.side with|some q=>Vbcnab.Aim.sides [q]|none=>.nowhere)=_
     rw[hs]
    have es:m.c3 u (to:Int)=[q0]:=by unfold ae.c3;rw[e,e2];simp only[];rw[hs]
    rw[ea,es]
    refine⟨List.pairwise_singleton _ _,λq=>?_,by simp,by simp⟩
    show q∈[q0]↔_/\[q0].contains q=true
    rw[List.contains_iff_mem]
    refine⟨λh=>⟨?_,h⟩,λh=>h.2⟩
    have:q=q0:=by simpa using h
    rw[this];exact xok.lt q0 hs
end
end Sw
namespace Sw
open L2
theorem yQ{x:Nat}:∀{ids:List Nat},ids.Nodup->x∈ids->(ids.map λi=>if x==i then 1 else 0).sum=1
 |[],_,h=>by cases h
 |a::l,nd,h=>by
  have nd':=List.nodup_cons.mp nd
  rw[List.map_cons,List.sum_cons]
  have zero:x∉l->(l.map λi=>if x==i then 1 else 0).sum=0:=λhn=>by
   have e:(l.map λi=>if x==i then 1 else 0)=l.map λ_=>0:=List.map_congr_left λi hi=>by
    rw[if_neg];intro z;exact hn (by rw[eq_of_beq z];exact hi)
   rw[e]
   clear e hn nd' nd h
   induction l with
   |nil=>rfl
   |cons b l ih=>rw[List.map_cons,List.sum_cons,ih]
  by_cases e:x=a
  .subst e
   rw[if_pos (by simp),zero nd'.1]
  .rw[if_neg (by simp[e]),Nat.zero_add]
   rcases List.mem_cons.mp h with h|h
   .exact absurd h e
   .exact yQ nd'.2 h
theorem sum_add{α:Type}(f g:α->Nat):∀l:List α,(l.map λx=>f x+g x).sum=(l.map f).sum+(l.map g).sum
 |[]=>rfl
 |x::l=>by
  have:=sum_add f g l
  rw[List.map_cons,List.map_cons,List.map_cons,List.sum_cons,List.sum_cons,List.sum_cons,this];omega
theorem yX{ids:List Nat}(nd:ids.Nodup):∀l:List Vbcnab.Row,(∀r∈l,r.vlan∈ids)->l.length=(ids.map λi=>(l.filter λr=>r.vlan==i).length).sum
 |[],_=>by
  have e:(ids.map λi=>(([]:List Vbcnab.Row).filter λr=>r.vlan==i).length)=ids.map λ_=>0:=rfl
  rw[e]
  clear e nd
  induction ids with
  |nil=>rfl
  |cons b l ih=>rw[List.map_cons,List.sum_cons,<-ih (λr hr=>by cases hr)];rfl
 |r::l,h=>by
  have ih:=yX nd l λx hx=>h x (List.mem_cons_of_mem _ hx)
  have e:(ids.map λi=>((r::l).filter λr=>r.vlan==i).length)=ids.map λi=>(if r.vlan==i then 1 else 0)+(l.filter λr=>r.vlan==i).length:=List.map_congr_left λi _=>by
   rw[List.filter_cons]
   by_cases z:(r.vlan==i)=true
   .rw[if_pos z,if_pos z,List.length_cons];omega
   .rw[if_neg z,if_neg z];omega
  rw[e,sum_add,yQ nd (h r List.mem_cons_self),List.length_cons,<-ih];omega
section
variable{m:ae}{s:Vbcnab.State}
theorem Rep.z3(r:Rep m s):s.rows.length=(m.vlans.map λp=>p.2.rows.length).sum:=by
 have nd:(m.vlans.map λp=>p.2.w.id).Nodup:=by
  have z:=r.vk
  have e:(m.vlans.map λp=>p.1)=(m.vlans.map λp=>p.2.w.id).map λ(i:Nat)=>(i:Int):=by
   rw[List.map_map]
   exact List.map_congr_left λp hp=>((r.cN p hp).id).symm
  rw[e] at z
  exact(List.pairwise_map.mp z).imp λ{a b}h e=>h (by rw[e])
 have h:=yX nd s.rows λb hb=>by
  obtain⟨p,hp,e,_⟩:=r.Be hb
  exact List.mem_map.mpr ⟨p,hp,e⟩
 rw[h,List.map_map]
 congr 1
 refine List.map_congr_left λp hp=>?_
 have z:=(r.cN p hp).rws.length_eq
 rw[List.length_map] at z
 exact z
abbrev ae.dU(m:ae)(ks ids:List Int):ae:={m with vlans:=m.vlans.map λp=>(p.1,if p.1∈ks then p.2.forget ids else p.2)}
theorem Rep.flush(r:Rep m s)(ks ids:List Int)(v q:Int)(hk:∀p∈m.vlans,p.1∈ks↔v=0\/p.1=v)(hi:∀y:Nat,y<m.sides.length->((y:Int)∈ids↔q=-1\/(y:Int)=q)):Rep (m.dU ks ids) (Vbcnab.forget s λr=>(v==0||(r.vlan:Int)==v)&&(q== -1||(match r.side with|some x=>(x:Int)==q|none=>false))):=by
 have z:=r.filter (λr=>r.kind== .fixed|| !((v==0||(r.vlan:Int)==v)&&(q== -1||(match r.side with|some x=>(x:Int)==q|none=>false)))) (λp x=>if p.1∈ks then keepR ids x else true) λp hp x hx=>?_
 .have e:(m.vlans.map λp=>(p.1,p.2.wr (p.2.rows.filter λx=>if p.1∈ks then keepR ids x else true)))=m.vlans.map λp=>(p.1,if p.1∈ks then p.2.forget ids else p.2):=List.map_congr_left λp _=>by
   by_cases c:p.1∈ks
   .simp only[if_pos c]
   .simp only[if_neg c]
    rw[List.filter_eq_self.mpr λ_ _=>rfl]
  rw[e] at z
  exact z
 .have o:=r.cN p hp
  have ok:=o.b_ x hx
  have hv:(x.2.r.vlan:Int)=p.1:=by rw[ok.vlan];exact o.id
  by_cases c:p.1∈ks
  .rw[if_pos c]
   have c1:(v==0||(x.2.r.vlan:Int)==v)=true:=by
    rcases(hk p hp).mp c with e|e
    .simp[e]
    .simp[hv,e]
   rw[c1,Bool.true_and]
   refine keepR_eq λhkd=>?_
   cases hs:x.2.r.side with
   |none=>exact absurd hs (ok.at_ hkd)
   |some y=>
    have:=hi y (ok.lt y hs)
    show(q== -1||(y:Int)==q)=decide ((y:Int)∈ids)
    by_cases d:(y:Int)∈ids
    .rw[decide_eq_true d]
     rcases this.mp d with e|e
     .simp[e]
     .simp[e]
    .rw[decide_eq_false d]
     have n1:¬q=-1:=λe=>d (this.mpr (.inl e))
     have n2:¬(y:Int)=q:=λe=>d (this.mpr (.inr e))
     simp[n1,n2]
  .rw[if_neg c]
   have n1:¬v=0:=λe=>c ((hk p hp).mpr (.inl e))
   have n2:¬p.1=v:=λe=>c ((hk p hp).mpr (.inr e))
   have c1:(v==0||(x.2.r.vlan:Int)==v)=false:=by simp[hv,n1,n2]
   rw[c1,Bool.false_and];simp
def cnt(ids:List Int)(p:Int×af):Nat:=p.2.rows.length -(p.2.rows.filter (keepR ids)).length
theorem D8(r:Rep m s)(ks ids:List Int){t:Vbcnab.State}(rt:Rep (m.dU ks ids) t):s.rows.length -t.rows.length=((m.vlans.filter λp=>decide (p.1∈ks)).map (cnt ids)).sum:=by
 rw[r.z3,rt.z3]
 show _ -((m.vlans.map λp=>(p.1,if p.1∈ks then p.2.forget ids else p.2)).map λp=>p.2.rows.length).sum=_
 rw[List.map_map]
 have g:∀l:IM af,(l.map λp=>p.2.rows.length).sum=(l.map ((λp:Int×af=>p.2.rows.length)∘λp=>(p.1,if p.1∈ks then p.2.forget ids else p.2))).sum+((l.filter λp=>decide (p.1∈ks)).map (cnt ids)).sum:=by
  intro l
  induction l with
  |nil=>rfl
  |cons p l ih=>
   rw[List.map_cons,List.map_cons,List.sum_cons,List.sum_cons,List.filter_cons,ih]
   by_cases c:p.1∈ks
   .rw[if_pos (decide_eq_true c),List.map_cons,List.sum_cons]
    have e:((λp:Int×af=>p.2.rows.length)∘λp=>(p.1,if p.1∈ks then p.2.forget ids else p.2)) p=(p.2.rows.filter (keepR ids)).length:=by
     show(if p.1∈ks then p.2.forget ids else p.2).rows.length=_
     rw[if_pos c]
    rw[e]
    have:=List.length_filter_le (keepR ids) p.2.rows
    unfold cnt
    omega
   .rw[if_neg (by simp[c])]
    have e:((λp:Int×af=>p.2.rows.length)∘λp=>(p.1,if p.1∈ks then p.2.forget ids else p.2)) p=p.2.rows.length:=by
     show(if p.1∈ks then p.2.forget ids else p.2).rows.length=_
     rw[if_neg c]
    rw[e];omega
 rw[g m.vlans]
 omega
end
end Sw
namespace L2
open PySem PySem.Spec PyProof.Rows
abbrev Cells:=List (Addr×HO)
def adr(cs:Cells):List Addr:=cs.map (·.1)
theorem dm(a b:Cells):adr (a++b)=adr a++adr b:=List.map_append
structure Own(H:Hp)(cs:Cells):Prop where
 at_:∀c∈cs,H c.1=some c.2
 nd:(adr cs).Nodup
structure Step(H:Hp)(cs:Cells)(H':Hp)(cs':Cells):Prop where
 own:Own H' cs'
 fr:∀b o,H b=some o->b∉adr cs->H' b=some o
 new:∀b∈adr cs',b∈adr cs\/H b=none
theorem gW{cs:Cells}{c:Addr×HO}(h:c∈cs):c.1∈adr cs:=List.mem_map.mpr ⟨c,h,rfl⟩
theorem Own.perm{H:Hp}{cs cs':Cells}(h:Own H cs)(p:cs.Perm cs'):Own H cs':=
 ⟨λc hc=>h.at_ c (p.mem_iff.mpr hc),(p.map _).nodup_iff.mp h.nd⟩
theorem Own.left{H:Hp}{a b:Cells}(h:Own H (a++b)):Own H a:=
 ⟨λc hc=>h.at_ c (List.mem_append_left _ hc),by have q:=h.nd;rw[dm] at q;exact(List.nodup_append.mp q).1⟩
theorem Own.right{H:Hp}{a b:Cells}(h:Own H (a++b)):Own H b:=
 ⟨λc hc=>h.at_ c (List.mem_append_right _ hc),by have q:=h.nd;rw[dm] at q;exact(List.nodup_append.mp q).2.1⟩
theorem Own.apart{H:Hp}{a b:Cells}(h:Own H (a++b)){x:Addr}(hx:x∈adr a):x∉adr b:=λhb=>by
 have q:=h.nd;rw[dm] at q;exact(List.nodup_append.mp q).2.2 x hx x hb rfl
theorem Own.same{H H':Hp}{cs:Cells}(h:Own H cs)(e:au H H'):Own H' cs:=⟨λc hc=>e _ _ (h.at_ c hc),h.nd⟩
theorem Own.none{H:Hp}{cs:Cells}(h:Own H cs){x:Addr}(hx:H x=Option.none):x∉adr cs:=λhm=>by
 obtain⟨c,hc,e⟩:=List.mem_map.mp hm
 have q:=h.at_ c hc
 rw[e,hx] at q;cases q
theorem Step.refl{H:Hp}{cs:Cells}(h:Own H cs):Step H cs H cs:=⟨h,λ_ _ e _=>e,λ_ hb=>.inl hb⟩
theorem Step.same{H H':Hp}{cs:Cells}(h:Own H cs)(e:au H H'):Step H cs H' cs:=⟨h.same e,λ_ _ q _=>e _ _ q,λ_ hb=>.inl hb⟩
theorem Step.trans{H H1 H2:Hp}{cs cs1 cs2:Cells}(a:Step H cs H1 cs1)(b:Step H1 cs1 H2 cs2):Step H cs H2 cs2:=by
 refine⟨b.own,λx o e hx=>b.fr x o (a.fr x o e hx) λhm=>?_,λx hx=>?_⟩
 .rcases a.new x hm with z|z
  .exact hx z
  .rw[z] at e;cases e
 .rcases b.new x hx with z|z
  .exact a.new x z
  .by_cases hc:x∈adr cs
   .exact .inl hc
   .cases q:H x with
    |none=>exact .inr rfl
    |some o=>rw[a.fr x o q hc] at z;cases z
theorem Step.focus{H H':Hp}{cs cs' C C' R:Cells}(h:Own H cs)(p:cs.Perm (C++R))(p':cs'.Perm (C'++R))(s:Step H C H' C'):Step H cs H' cs':=by
 have h1:=h.perm p
 have inC:∀b,b∈adr cs↔b∈adr (C++R):=λb=>(p.map _).mem_iff
 have inC':∀b,b∈adr cs'↔b∈adr (C'++R):=λb=>(p'.map _).mem_iff
 have hR:∀c∈R,H' c.1=some c.2:=λc hc=>s.fr _ _ (h1.at_ c (List.mem_append_right _ hc)) λhm=>h1.apart hm (gW hc)
 refine⟨Own.perm ⟨λc hc=>?_,?_⟩ p'.symm,λb o e hb=>s.fr b o e λhm=>hb ((inC b).mpr (by rw[dm];exact List.mem_append_left _ hm)),λb hb=>?_⟩
 .rcases List.mem_append.mp hc with hc|hc
  .exact s.own.at_ c hc
  .exact hR c hc
 .rw[dm]
  refine List.nodup_append.mpr ⟨s.own.nd,h1.right.nd,λx hx y hy e=>?_⟩
  subst e
  rcases s.new x hx with z|z
  .exact h1.apart z hy
  .obtain⟨c,hc,e⟩:=List.mem_map.mp hy
   have q:=h1.at_ c (List.mem_append_right _ hc)
   rw[e,z] at q;cases q
 .rw[inC',dm] at hb
  rw[inC,dm]
  rcases List.mem_append.mp hb with z|z
  .rcases s.new b z with y|y
   .exact .inl (List.mem_append_left _ y)
   .exact .inr y
  .exact .inl (List.mem_append_right _ z)
theorem Step.wr{H:Hp}{x:Addr}{o o':HO}(h:H x=some o):Step H [(x,o)] (upd H x o') [(x,o')]:=by
 refine⟨⟨λc hc=>?_,by simp[adr]⟩,λb u e hb=>?_,λb hb=>.inl hb⟩
 .have e:c=(x,o'):=by simpa using hc
  rw[e];exact aN
 .rw[aF (by intro z;exact hb (by simp[adr,z]))];exact e
theorem Step.lay{H:Hp}{cs:Cells}{x:Addr}{o:HO}(h:Own H cs)(hx:H x=Option.none):Step H cs (upd H x o) ((x,o)::cs):=by
 have nx:=h.none hx
 refine⟨⟨λc hc=>?_,?_⟩,λb u e hb=>?_,λb hb=>?_⟩
 .rcases List.mem_cons.mp hc with rfl|hc
  .exact aN
  .rw[aF (λz=>nx (by rw[<-z];exact gW hc))];exact h.at_ c hc
 .exact List.nodup_cons.mpr ⟨nx,h.nd⟩
 .rw[aF (cZ e hx)];exact e
 .rcases List.mem_cons.mp hb with rfl|hb
  .exact .inr hx
  .exact .inl hb
theorem Step.sub{H H':Hp}{cs cs':Cells}(s:Step H cs H' cs'){cs2:Cells}(l:cs2.Sublist cs'):Step H cs H' cs2:=
 ⟨⟨λc hc=>s.own.at_ c (l.subset hc),(l.map _).nodup s.own.nd⟩,s.fr,λb hb=>s.new b ((l.map (·.1)).subset hb)⟩
theorem Step.perm{H H':Hp}{cs cs' cs2:Cells}(s:Step H cs H' cs')(p:cs'.Perm cs2):Step H cs H' cs2:=
 ⟨s.own.perm p,s.fr,λb hb=>s.new b ((p.map _).mem_iff.mpr hb)⟩
theorem Step.keep{H H':Hp}{cs cs':Cells}(s:Step H cs H' cs'){b:Addr}{o:HO}(h:H b=some o)(hb:b∉adr cs):H' b=some o:=s.fr b o h hb
theorem Step.seq{K:PySem.W.Frag}{H H':Hp}{cs cs':Cells}(s:Step H cs H' cs'){b:Addr}{xs:List V}(h:ax K H b xs)(hb:b∉adr cs):ax K H' b xs:=by
 rcases h with(h|⟨o,h⟩)|h
 .exact .inl (.inl (s.fr _ _ h hb))
 .exact .inl (.inr ⟨o,s.fr _ _ h hb⟩)
 .exact .inr h
theorem kC{α:Type}(f:α->Cells):∀{l:List α}{i:Nat}{x:α},l[i]? =some x->∃R,(l.flatMap f).Perm (f x++R)/\∀x',((l.set i x').flatMap f).Perm (f x'++R)
 |[],i,x,h=>by simp at h
 |y::l,0,x,h=>by
  have e:y=x:=Option.some.inj h
  subst e
  exact⟨l.flatMap f,by rw[List.flatMap_cons],λx'=>by show((x'::l).flatMap f).Perm _;rw[List.flatMap_cons]⟩
 |y::l,i+1,x,h=>by
  obtain⟨R,p,q⟩:=kC f (l:=l) (i:=i) (x:=x) h
  refine⟨f y++R,?_,λx'=>?_⟩
  .rw[List.flatMap_cons]
   refine(List.Perm.append_left (f y) p).trans ?_
   rw[<-List.append_assoc,<-List.append_assoc]
   exact List.Perm.append_right R List.perm_append_comm
  .show((y::l.set i x').flatMap f).Perm _
   rw[List.flatMap_cons]
   refine(List.Perm.append_left (f y) (q x')).trans ?_
   rw[<-List.append_assoc,<-List.append_assoc]
   exact List.Perm.append_right R List.perm_append_comm
def toK{α:Type}(f:α->V)(l:IM α):List (Key×V):=l.map λp=>(Sum.inl p.1,f p.2)
section
variable{α:Type}
theorem fI(f:α->V)(k:Int):∀l:IM α,dH (toK f l) (Sum.inl k:Key)=(lk l k).map f
 |[]=>rfl
 |p::l=>by
  rw[dv]
  by_cases e:p.1=k
  .rw[if_pos e]
   exact m8 (p:=(Sum.inl p.1,f p.2)) (by rw[e])
  .rw[if_neg e]
   refine(m7 (p:=(Sum.inl p.1,f p.2)) (λz=>e (Sum.inl.inj z))).trans (fI f k l)
theorem gf(f:α->V)(k:Int):∀l:IM α,eh (toK f l) (Sum.inl k:Key)=toK f (a9 l k)
 |[]=>rfl
 |p::l=>by
  unfold a9
  rw[List.filter_cons]
  by_cases e:p.1=k
  .rw[if_neg (by simp[e])]
   exact(DU (p:=(Sum.inl p.1,f p.2)) (by rw[e])).trans (gf f k l)
  .rw[if_pos (decide_eq_true e)]
   refine(DT (p:=(Sum.inl p.1,f p.2)) (λz=>e (Sum.inl.inj z))).trans ?_
   exact congrArg (List.cons _) (gf f k l)
theorem gJ(f:α->V)(l:IM α):(toK f l).map (λkv=>kV kv.1)=l.map λp=>V.int p.1:=by
 unfold toK;rw[List.map_map];rfl
theorem jw(f:α->V)(l:IM α):(toK f l).map (·.2)=l.map λp=>f p.2:=by
 unfold toK;rw[List.map_map];rfl
theorem dj(f:α->V)(l:IM α):(toK f l).length=l.length:=List.length_map ..
theorem mB{f:α->V}{k:Int}{l:IM α}(h:lk l k=none)(x:α):putK (toK f l) (Sum.inl k:Key) (f x)=toK f (l++[(k,x)]):=by
 rw[Jj _ (by rw[fI,h];rfl)]
 unfold toK;rw[List.map_append];rfl
theorem Jk{f:α->V}{k:Int}{l:IM α}{y:α}(h:lk l k=some y)(x:α):putK (toK f l) (Sum.inl k:Key) (f x)=toK f (bw l k x):=by
 unfold putK
 rw[if_pos (by rw[m6,fI,h];rfl)]
 unfold toK bw
 rw[List.map_map,List.map_map]
 refine List.map_congr_left λp _=>?_
 show(if(Sum.inl p.1:Key)=Sum.inl k then((Sum.inl p.1:Key),f x) else(Sum.inl p.1,f p.2))=(Sum.inl (if p.1=k then(p.1,x) else p).1,f (if p.1=k then(p.1,x) else p).2)
 by_cases e:p.1=k
 .rw[if_pos (by rw[e]),if_pos e]
 .rw[if_neg (λz=>e (Sum.inl.inj z)),if_neg e]
theorem jg(f:α->Cells):∀{l:IM α}{k:Int}{x:α},(l.map (·.1)).Nodup->lk l k=some x->∃R,(l.flatMap λp=>f p.2).Perm (f x++R)/\(∀x',((bw l k x').flatMap λp=>f p.2).Perm (f x'++R))/\((a9 l k).flatMap λp=>f p.2)=R
 |[],k,x,_,h=>by rw[iy] at h;cases h
 |p::l,k,x,nd,h=>by
  have nd':p.1∉l.map (·.1)/\(l.map (·.1)).Nodup:=List.nodup_cons.mp nd
  rw[dv] at h
  by_cases e:p.1=k
  .rw[if_pos e] at h
   have e2:p.2=x:=Option.some.inj h
   subst e e2
   refine⟨l.flatMap λp=>f p.2,by rw[List.flatMap_cons],λx'=>?_,?_⟩
   .show(((if p.1=p.1 then(p.1,x') else p)::bw l p.1 x').flatMap λp=>f p.2).Perm _
    rw[if_pos rfl,iK x' nd'.1,List.flatMap_cons]
   .unfold a9
    rw[List.filter_cons,if_neg (by simp)]
    show((a9 l p.1).flatMap λp=>f p.2)=_
    rw[i4 nd'.1]
  .rw[if_neg e] at h
   obtain⟨R,h1,h2,h3⟩:=jg f nd'.2 h
   have sw:∀z:Cells,(f p.2++(z++R)).Perm (z++(f p.2++R)):=λz=>by
    rw[<-List.append_assoc,<-List.append_assoc]
    exact List.Perm.append_right R List.perm_append_comm
   refine⟨f p.2++R,?_,λx'=>?_,?_⟩
   .rw[List.flatMap_cons]
    exact(List.Perm.append_left (f p.2) h1).trans (sw _)
   .show(((if p.1=k then(p.1,x') else p)::bw l k x').flatMap λp=>f p.2).Perm _
    rw[if_neg e,List.flatMap_cons]
    exact(List.Perm.append_left (f p.2) (h2 x')).trans (sw _)
   .unfold a9
    rw[List.filter_cons,if_pos (decide_eq_true e),List.flatMap_cons]
    show f p.2++((a9 l k).flatMap λp=>f p.2)=_
    rw[h3]
end
end L2
namespace L2
open PySem PySem.Spec PyProof.Rows
section
variable{K:PySem.W.Frag}{ta tb tc te td ty tv:TE}{tt tu:TT}{ts tz:TS}{tA:TA}{D:Ends}{σ:St}{H:Hp}{Q:VK}{Qb:Bool->Hp->Prop}{Ql:List V->Hp->Prop}{i:Nat}{f:Str}{r r':R2}{g:TG}{v:V}
theorem Ks:(dB te D σ H)=(te σ H D.rt):=rfl
theorem Ku:(MD D σ H)=(D.rt .bj H):=rfl
theorem Kf:(AV D σ H)=(D.nx σ H):=rfl
theorem Kw:(aW ts tz D σ H)=(ts {D with nx:=tz D} σ H):=rfl
theorem J3:(AN tt ts tz D σ H)=(tt σ H λb H1=>if b=true then ts D σ H1 else tz D σ H1):=rfl
theorem JP:(AL te D σ H)=(te σ H λ_ H1=>D.nx σ H1):=rfl
theorem Jv:(mV te g D σ H)=(te σ H λx H1=>g x σ H1 D.nx):=rfl
theorem JV{Qs:St->Hp->Prop}:(gT i v σ H Qs)=(Qs (σ.set i (some v)) H):=rfl
theorem JW{ts':ib}{Qs:St->Hp->Prop}:(xv ta tb ts' v σ H Qs)=(ta σ H λo H1=>tb σ H1 λi H2=>ts' o i v H2 λH3=>Qs σ H3):=rfl
theorem Kx{o i:V}{Qh:Hp->Prop}:(zP o i v H Qh)=(∃p xs k j,o=.ref p/\i=.int k/\H p=some (.lst xs)/\eN xs.length k=some j/\Qh (upd H p (.lst (xs.set j v)))):=rfl
theorem JA:(tC v σ H Q)=(Q v H):=rfl
theorem JD{r:List V->Hp->VK->Prop}:(rM r tA σ H Q)=(tA σ H λvs H1=>r vs H1 Q):=rfl
theorem JH:(g_ ta tA σ H Ql)=(ta σ H λx H1=>tA σ H1 λxs H2=>Ql (x::xs) H2):=rfl
theorem Kg:(js σ H Ql)=(Ql [] H):=rfl
theorem Ka:(AU tA σ H Q)=(tA σ H λxs H1=>xs.length<=sizeLine/\∀p,H1 p=none->Q (.ref p) (upd H1 p (.lst xs))):=rfl
theorem JB{sp:Sp}{dvs:List V}{E:XK}:(jo sp dvs E tA σ H Q)=(tA σ H λvs H1=>sp (vs++dvs) H1 Q E):=rfl
theorem Kc{C:Addr}{sp:Sp}{dvs:List V}{E:XK}:(rN C sp dvs E tA σ H Q)=(tA σ H λvs H1=>∀x dx,H1 x=none->H1 dx=none->dx≠x->sp (.ref x::(vs++dvs)) (upd (upd H1 dx (.own x)) x (.ins C dx [])) (λv H2=>v=.bj/\Q (.ref x) H2) E):=rfl
theorem Kk:(jt r ta tb σ H Q)=(ta σ H λx H1=>tb σ H1 λy H2=>r x y H2 Q):=rfl
theorem KH{u:V->Hp->VK->Prop}:(AZ u ta σ H Q)=(ta σ H λx H1=>u x H1 Q):=rfl
theorem Kp{h:Int->V}{i:Int}:rU h (.int i) H Q↔Q (h i) H:=by
 constructor
 .rintro⟨_,e1,q⟩;cases e1;exact q
 .exactλq=>⟨i,rfl,q⟩
theorem JQ{i j:Int}:pD (.int i) (.int j) H Q↔Q (.bl (decide (i=j))) H:=by
 have e:decide (V.int i=V.int j)=decide (i=j):=by rw[ly];by_cases h:i=j<;>simp[h]
 unfold pD;rw[e];exact⟨λh=>h.2,λh=>⟨rfl,h⟩⟩
theorem Ke{i j:Int}:pF (.int i) (.int j) H Q↔Q (.bl (!decide (i=j))) H:=by
 have e:decide (V.int i=V.int j)=decide (i=j):=by rw[ly];by_cases h:i=j<;>simp[h]
 unfold pF;rw[e];exact⟨λh=>h.2,λh=>⟨rfl,h⟩⟩
theorem JE:(jq r r' ta tb tc σ H Q)=(ta σ H λx H1=>tb σ H1 λy H2=>r x y H2 λz H3=>∃k,z=.bl k/\(if k=true then tc σ H3 λw' H4=>r' y w' H4 Q else Q (.bl false) H3)):=rfl
theorem JG{p q:Int->Int->Bool}{c:Int}:jq (bX λi j=>.bl (p i j)) (bX λi j=>.bl (q i j)) ta tb (tC (.int c)) σ H Q↔ta σ H λx H1=>tb σ H1 λy H2=>bX (λi j=>.bl (p i j&&q j c)) x y H2 Q:=by
 have e:∀x y H2,(bX (λi j=>.bl (p i j)) x y H2 λz H3=>∃k,z=.bl k/\(if k=true then(tC (.int c)) σ H3 λw' H4=>bX (λi j=>.bl (q i j)) y w' H4 Q else Q (.bl false) H3))↔bX (λi j=>.bl (p i j&&q j c)) x y H2 Q:=by
  intro x y H2
  constructor
  .rintro⟨i,j,rfl,rfl,k,hk,h⟩
   refine⟨i,j,rfl,rfl,?_⟩
   have hk':p i j=k:=by simpa using hk
   subst hk'
   show Q (V.bl (p i j&&q j c)) H2
   cases hp:p i j with
   |true=>
    rw[hp,if_pos rfl] at h
    obtain⟨_,_,e1,e2,h⟩:=h
    cases e1;cases e2
    exact h
   |false=>
    rw[hp,if_neg (by simp)] at h
    exact h
  .rintro⟨i,j,rfl,rfl,h⟩
   refine⟨i,j,rfl,rfl,p i j,rfl,?_⟩
   have h:Q (V.bl (p i j&&q j c)) H2:=h
   cases hp:p i j with
   |true=>rw[hp] at h;rw[if_pos rfl];exact⟨j,c,rfl,rfl,h⟩
   |false=>rw[hp] at h;rw[if_neg (by simp)];exact h
 show(ta σ H λx H1=>tb σ H1 λy H2=>_)↔_
 have e':(λ(x:V)(H1:Hp)=>tb σ H1 λy H2=>bX (λi j=>V.bl (p i j)) x y H2 λz H3=>∃k,z=.bl k/\(if k=true then(tC (.int c)) σ H3 λw' H4=>bX (λi j=>.bl (q i j)) y w' H4 Q else Q (.bl false) H3))=λx H1=>tb σ H1 λy H2=>bX (λi j=>.bl (p i j&&q j c)) x y H2 Q:=by
  funext x H1
  congr 1
  funext y H2
  exact propext (e x y H2)
 show(ta σ H λ(x:V)(H1:Hp)=>tb σ H1 λy H2=>bX (λi j=>V.bl (p i j)) x y H2 λz H3=>∃k,z=.bl k/\(if k=true then(tC (.int c)) σ H3 λw' H4=>bX (λi j=>.bl (q i j)) y w' H4 Q else Q (.bl false) H3))↔_
 rw[e']
theorem Kh:(AW tt σ H Qb)=(tt σ H λc H1=>Qb (!c) H1):=rfl
theorem Js:(AD tt tu σ H Qb)=(tt σ H λc H1=>if c=true then tu σ H1 Qb else Qb false H1):=rfl
theorem Kl:(AX tt tu σ H Qb)=(tt σ H λc H1=>if c=true then Qb true H1 else tu σ H1 Qb):=rfl
theorem J4:(AM tt ta tb σ H Q)=(tt σ H λc H1=>if c=true then ta σ H1 Q else tb σ H1 Q):=rfl
theorem J6:(AO ta σ H Q)=(ta σ H λx H1=>Q (.bl (decide (x=.bj))) H1):=rfl
theorem Ki:(Mz ta σ H Q)=(ta σ H λx H1=>Q (.bl (!decide (x=.bj))) H1):=rfl
theorem J7{x:V}{p:Addr}{n:Int}:zM K (.ref p) (.int n) H Q↔∃xs v,ax K H p xs/\bY xs n=some v/\Q v H:=by
 constructor
 .rintro⟨_,xs,_,v,e1,e2,h1,h2,q⟩;cases e1;cases e2;exact⟨xs,v,h1,h2,q⟩
 .rintro⟨xs,v,h1,h2,q⟩;exact⟨p,xs,n,v,rfl,rfl,h1,h2,q⟩
theorem JN:(AK td ty σ H Q)=(td σ H λx H1=>∃a,x=.ref a/\jA H1 a/\ty σ H1 λy H2=>∃kvs k v,H2 a=some (.dK kvs)/\y=kV k/\dH kvs k=some v/\Q v (upd H2 a (.dK (eh kvs k)))):=rfl
theorem Kb:(AR td σ H Q)=(td σ H λx H1=>∃d kvs,x=.ref d/\Rd H1 d (.dK kvs)/\∀l,H1 l=none->Q (.ref l) (upd H1 l (.lst (kvs.map (·.2))))):=rfl
theorem JL:(AJ σ H Q)=(∀p,H p=none->Q (.ref p) (upd H p (.dK []))):=rfl
end
section
variable{α:Sort u}{a:α}{p:α->Prop}{A B:Prop}
theorem Nn:(∃x,x=a/\p x)↔p a:=exists_eq_left
theorem Np:(∃x,a=x/\p x)↔p a:=exists_eq_left'
theorem Nb{b:Prop}:(∃x:α,b/\p x)↔b/\∃x,p x:=exists_and_left
theorem aE:(True/\A)↔A:=by simp
theorem x_at:(A/\True)↔A:=by simp
theorem Nh{C:Prop}:((A/\B)/\C)↔A/\B/\C:=and_assoc
theorem NU{α:Type}{x y:α}:(some x=some y)↔x=y:=Option.some_inj
theorem NR{x y:Addr}:(V.ref x=V.ref y)↔x=y:=by simp
theorem Nv{x y:Int}:(V.int x=V.int y)↔x=y:=by simp
theorem Ni{x y:Bool}:(V.bl x=V.bl y)↔x=y:=by simp
theorem Nu{C C' d d':Addr}{fs fs':List (Str×V)}:(HO.ins C d fs=HO.ins C' d' fs')↔C=C'/\d=d'/\fs=fs':=by simp
theorem NM{xs ys:List V}:(HO.lst xs=HO.lst ys)↔xs=ys:=by simp
theorem Nl{xs ys:List (Key×V)}:(HO.dK xs=HO.dK ys)↔xs=ys:=by simp
theorem Nj{α:Type}{x y:α}{xs ys:List α}:(x::xs=y::ys)↔x=y/\xs=ys:=by simp
theorem NS{x:α}:(x=x)↔True:=by simp
theorem Nr{α:Type}{x:α}{xs:List α}:(x::xs)[0]? =some x:=rfl
theorem Nt{α:Type}{x:α}{xs:List α}{n:Nat}:(x::xs)[n+1]? =xs[n]? :=rfl
theorem NT{α:Type}{x y:α}{xs:List α}:(x::xs).set 0 y=y::xs:=rfl
theorem NV{α:Type}{x y:α}{xs:List α}{n:Nat}:(x::xs).set (n+1) y=x::xs.set n y:=rfl
theorem Nm{c:Prop}[Decidable c]:(decide c=true)↔c:=decide_eq_true_iff
theorem NO{c:Prop}[Decidable c]:((!decide c)=true)↔¬c:=by simp
theorem Nc{c d:Prop}[Decidable c][Decidable d]:((decide c&&decide d)=true)↔c/\d:=by simp
theorem NN{c d:Prop}[Decidable c][Decidable d]:((!(decide c&&decide d))=true)↔¬(c/\d):=by by_cases c<;>by_cases d<;>simp[*]
theorem NP:((!false)=true)↔True:=by simp
theorem NQ:((!true)=true)↔False:=by simp
theorem Nz{A B:Prop}:(if True then A else B)↔A:=by simp
theorem Ny{A B:Prop}:(if False then A else B)↔B:=by simp
theorem NC{α:Type}{x:α}:[x].length<=sizeLine↔True:=iff_of_true (by show 1<=sizeLine;decide) trivial
theorem Ng{α:Type}{xs:List α}:xs++[]=xs:=List.append_nil _
theorem Nd{α:Type}{x:α}{xs ys:List α}:(x::xs)++ys=x::(xs++ys):=rfl
theorem Nf{α:Type}{ys:List α}:[]++ys=ys:=rfl
theorem NW{H:Hp}{a:Addr}{o:HO}:upd H a o a=some o:=aN
theorem NA{A B:Prop}:(if true=true then A else B)↔A:=by simp
theorem Nw{A B:Prop}:(if false=true then A else B)↔B:=by simp
theorem NB{n:Int}:kV (Sum.inl n)=V.int n:=rfl
theorem Nk{CX:eV}{P:Program}{w:World}{K:PySem.W.Frag}{mg:Str->Option Value}{base:Heap}{N:List Str}{qual:Str}{scope:Scope}{f:Addr}{cd:Value}{A:Around}{outer:List Env}{s:Shared}{H:Hp}{E:XK}:(ij CX P w K mg base N qual scope f cd A outer s H E).K=K:=rfl
end
theorem dN{X:Cx}:fg X (.builtin "len") (λxs H Q=>∃p ys,xs=[V.ref p]/\H p=some (.lst ys)/\Q (.int ys.length) H):=by
 intro pins s σ H xs us Q I r h
 obtain⟨p,ys,e,hp,q⟩:=h
 exact sZ pins s σ H xs us Q I r ⟨p,ys,e,.inl (ax.of hp),q⟩
def zN:R2:=λx y H Q=>∃p xs i v,x=.ref p/\y=.int i/\H p=some (.lst xs)/\bY xs i=some v/\Q v H
theorem bP{X:Cx}:kY X zN:=by
 intro value slice pins s σ H x y v u Q I rx ry h hs
 obtain⟨p,xs,i,z,e1,e2,h1,h2,q⟩:=h
 exact bq value slice pins s σ H x y v u Q I rx ry ⟨p,xs,i,z,e1,e2,ax.of h1,h2,q⟩ hs
theorem J8{H:Hp}{Q:VK}{p:Addr}{n:Int}:zN (.ref p) (.int n) H Q↔∃xs,H p=some (.lst xs)/\∃v,bY xs n=some v/\Q v H:=by
 constructor
 .rintro⟨_,xs,_,v,e1,e2,h1,h2,q⟩;cases e1;cases e2;exact⟨xs,h1,v,h2,q⟩
 .rintro⟨xs,h1,v,h2,q⟩;exact⟨p,xs,n,v,rfl,rfl,h1,h2,q⟩
theorem bu{H:Hp}{a:Addr}{α:Type}{f:α->V}{l:IM α}(h:H a=some (.dK (toK f l)))(n:Int):cO H a (.int n) ((lk l n).map f):=by
 have q:=cO.k (k:=(Sum.inl n:Key)) h
 rw[fI] at q
 exact q
end L2
namespace Sw
open PySem PySem.Spec PyProof.Rows L2
section
variable{K:PySem.W.Frag}{ta tb tc te td ty tv:TE}{D:Ends}{σ:L2.St}{H:Hp}{Q:VK}{Qb:Bool->Hp->Prop}{i:Nat}{f:Str}{x y v:V}{a:Addr}{X:Cx}
def dG(i:Nat):TE:=λσ H Q=>match σ[i]? with|some (some v)=>Q v H|_=>False
def i5(K:PySem.W.Frag)(f:Str)(x:V)(H:Hp)(Q:VK):Prop:=match x with|.ref a=>(match H a with|some (.ins C _ fs)=>cp K C/\aT K C f/\(match fs.lookup f with|some v=>Q v H|none=>False)|_=>False)|_=>False
def kK(K:PySem.W.Frag)(f:Str)(x y:V)(H:Hp)(Q:Hp->Prop):Prop:=match x with|.ref a=>(match H a with|some (.ins C dx fs)=>cp K C/\aT K C f/\fs.length<1000/\Q (upd H a (.ins C dx (bc f y fs)))|_=>False)|_=>False
def eX(x:V)(Q:Bool->Prop):Prop:=match x with|.bl k=>Q k|_=>False
def fi(x:V)(Q:Addr->Prop):Prop:=match x with|.ref k=>Q k|_=>False
def fe(K:PySem.W.Frag)(ta:TE)(f:Str):TE:=λσ H Q=>ta σ H λx H1=>i5 K f x H1 Q
def iJ(K:PySem.W.Frag)(ta tv:TE)(f:Str):TS:=λD σ H=>tv σ H λy H1=>ta σ H1 λx H2=>kK K f x y H2 λH3=>D.nx σ H3
def eC(t:TE):TT:=λσ H Q=>t σ H λx H1=>eX x λc=>Q c H1
def g0(ta tb:TE):TE:=λσ H Q=>ta σ H λx H1=>eX x λc=>if c=true then tb σ H1 Q else Q (.bl false) H1
def hX(ta tb:TE):TE:=λσ H Q=>ta σ H λx H1=>eX x λc=>if c=true then Q (.bl true) H1 else tb σ H1 Q
def hW(ta:TE):TE:=λσ H Q=>ta σ H λx H1=>eX x λc=>Q (.bl (!c)) H1
def fH(td ty:TE):TE:=λσ H Q=>td σ H λx H1=>ty σ H1 λy H2=>fi x λa=>∃v,cO H2 a y (some v)/\Q v H2
def hJ(ty td:TE):TE:=λσ H Q=>ty σ H λy H1=>td σ H1 λx H2=>fi x λa=>∃o,cO H2 a y o/\Q (.bl o.isSome) H2
def hU(ty td:TE):TE:=λσ H Q=>ty σ H λy H1=>td σ H1 λx H2=>fi x λa=>∃o,cO H2 a y o/\Q (.bl (!o.isSome)) H2
def gZ(td ty tv:TE):TS:=λD σ H=>tv σ H λv H1=>td σ H1 λx H2=>ty σ H2 λy H3=>fi x λa=>∃H4,dQ H3 a y v H4/\D.nx σ H4
def rI(C:Int->Int->Prop)(g:Int->Int->V):R2:=λx y H Q=>match x with|.int i=>(match y with|.int j=>C i j/\Q (g i j) H|_=>False)|_=>False
def bX(g:Int->Int->V):R2:=λx y H Q=>match x with|.int i=>(match y with|.int j=>Q (g i j) H|_=>False)|_=>False
theorem KI:dG i σ H Q=(match σ[i]? with|some (some v)=>Q v H|_=>False):=rfl
theorem JS:fe K ta f σ H Q=ta σ H λx H1=>i5 K f x H1 Q:=rfl
theorem zS:i5 K f (.ref a) H Q=(match H a with|some (.ins C _ fs)=>cp K C/\aT K C f/\(match fs.lookup f with|some v=>Q v H|none=>False)|_=>False):=rfl
theorem Ky:iJ K ta tv f D σ H=tv σ H λy H1=>ta σ H1 λx H2=>kK K f x y H2 λH3=>D.nx σ H3:=rfl
theorem Kv{Qh:Hp->Prop}:kK K f (.ref a) y H Qh=(match H a with|some (.ins C dx fs)=>cp K C/\aT K C f/\fs.length<1000/\Qh (upd H a (.ins C dx (bc f y fs)))|_=>False):=rfl
theorem Jy{c:Bool}{Q:Bool->Prop}:eX (.bl c) Q=Q c:=rfl
theorem Jr{Q:Addr->Prop}:fi (.ref a) Q=Q a:=rfl
theorem KD:eC te σ H Qb=te σ H λx H1=>eX x λc=>Qb c H1:=rfl
theorem Jt:g0 ta tb σ H Q=ta σ H λx H1=>eX x λc=>if c=true then tb σ H1 Q else Q (.bl false) H1:=rfl
theorem Km:hX ta tb σ H Q=ta σ H λx H1=>eX x λc=>if c=true then Q (.bl true) H1 else tb σ H1 Q:=rfl
theorem Kj:hW ta σ H Q=ta σ H λx H1=>eX x λc=>Q (.bl (!c)) H1:=rfl
theorem JI:fH td ty σ H Q=td σ H λx H1=>ty σ H1 λy H2=>fi x λa=>∃v,cO H2 a y (some v)/\Q v H2:=rfl
theorem JK:hJ ty td σ H Q=ty σ H λy H1=>td σ H1 λx H2=>fi x λa=>∃o,cO H2 a y o/\Q (.bl o.isSome) H2:=rfl
theorem JM:hU ty td σ H Q=ty σ H λy H1=>td σ H1 λx H2=>fi x λa=>∃o,cO H2 a y o/\Q (.bl (!o.isSome)) H2:=rfl
theorem JO:gZ td ty tv D σ H=tv σ H λv H1=>td σ H1 λx H2=>ty σ H2 λy H3=>fi x λa=>∃H4,dQ H3 a y v H4/\D.nx σ H4:=rfl
theorem Ko{h:Int->Int->V}{i j:Int}:bX h (.int i) (.int j) H Q=Q (h i j) H:=rfl
theorem Kn{C:Int->Int->Prop}{h:Int->Int->V}{i j:Int}:rI C h (.int i) (.int j) H Q=(C i j/\Q (h i j) H):=rfl
theorem A0:dG i=L2.dG i:=by
 funext σ H Q
 unfold dG L2.dG
 split
 .next v h=>rw[h];exact propext ⟨λq=>⟨v,rfl,q⟩,λ⟨w,e,q⟩=>by cases e;exact q⟩
 .next h=>exact propext ⟨False.elim,λ⟨w,e,q⟩=>h w e⟩
theorem D6:(∃a C dx fs v,x=V.ref a/\H a=some (.ins C dx fs)/\cp K C/\aT K C f/\fs.lookup f=some v/\Q v H)=i5 K f x H Q:=by
 unfold i5
 split
 .next a=>
  split
  .next C dx fs h=>
   apply propext
   constructor
   .rintro⟨a',C',d',fs',v,e,h',c,n,l,q⟩
    cases e;rw[h] at h';cases h';rw[l];exact⟨c,n,q⟩
   .rintro⟨c,n,q⟩
    split at q
    .next v l=>exact⟨a,C,dx,fs,v,rfl,h,c,n,l,q⟩
    .exact q.elim
  .next h=>exact propext ⟨λ⟨a',C',d',fs',v,e,h',_⟩=>by cases e;exact h _ _ _ h',False.elim⟩
 .next h=>exact propext ⟨λ⟨a',C',d',fs',v,e,h',_⟩=>h _ e,False.elim⟩
theorem K3{Qh:Hp->Prop}:(∃a C dx fs,x=V.ref a/\H a=some (.ins C dx fs)/\cp K C/\aT K C f/\fs.length<1000/\Qh (upd H a (.ins C dx (bc f y fs))))=kK K f x y H Qh:=by
 unfold kK
 split
 .next a=>
  split
  .next C dx fs h=>
   apply propext
   constructor
   .rintro⟨a',C',d',fs',e,h',c,n,l,q⟩
    cases e;rw[h] at h';cases h';exact⟨c,n,l,q⟩
   .rintro⟨c,n,l,q⟩
    exact⟨a,C,dx,fs,rfl,h,c,n,l,q⟩
  .next h=>exact propext ⟨λ⟨a',C',d',fs',e,h',_⟩=>by cases e;exact h _ _ _ h',False.elim⟩
 .next h=>exact propext ⟨λ⟨a',C',d',fs',e,h',_⟩=>h _ e,False.elim⟩
theorem jH{Q:Bool->Prop}:(∃k,x=V.bl k/\Q k)=eX x Q:=by
 unfold eX
 split
 .next k=>exact propext ⟨λ⟨_,e,q⟩=>by cases e;exact q,λq=>⟨k,rfl,q⟩⟩
 .next h=>exact propext ⟨λ⟨k,e,q⟩=>h k e,False.elim⟩
theorem k5{α:Type}{Q:Addr->α->Prop}:(∃a v,x=V.ref a/\Q a v)=fi x λa=>∃v,Q a v:=by
 unfold fi
 split
 .next k=>exact propext ⟨λ⟨_,v,e,q⟩=>by cases e;exact⟨v,q⟩,λ⟨v,q⟩=>⟨k,v,rfl,q⟩⟩
 .next h=>exact propext ⟨λ⟨k,v,e,q⟩=>h k e,False.elim⟩
theorem zL{C:Int->Int->Prop}{g:Int->Int->V}:L2.rI C g=rI C g:=by
 funext x y H Q
 unfold rI L2.rI
 split
 .next i=>
  split
  .next j=>exact propext ⟨λ⟨_,_,e,e',q⟩=>by cases e;cases e';exact q,λq=>⟨i,j,rfl,rfl,q⟩⟩
  .next h=>exact propext ⟨λ⟨_,j,e,e',q⟩=>h j e',False.elim⟩
 .next h=>exact propext ⟨λ⟨i,_,e,_⟩=>h i e,False.elim⟩
theorem fU{g:Int->Int->V}:L2.bX g=bX g:=by
 funext x y H Q
 unfold bX L2.bX
 split
 .next i=>
  split
  .next j=>exact propext ⟨λ⟨_,_,e,e',q⟩=>by cases e;cases e';exact q,λq=>⟨i,j,rfl,rfl,q⟩⟩
  .next h=>exact propext ⟨λ⟨_,j,e,e',q⟩=>h j e',False.elim⟩
 .next h=>exact propext ⟨λ⟨i,_,e,_⟩=>h i e,False.elim⟩
theorem JF{p q:Int->Int->Bool}{c:Int}:jq (bX λi j=>.bl (p i j)) (bX λi j=>.bl (q i j)) ta tb (tC (.int c)) σ H Q=ta σ H λx H1=>tb σ H1 λy H2=>bX (λi j=>.bl (p i j&&q j c)) x y H2 Q:=by
 rw[<-fU,<-fU,<-fU]
 exact propext JG
theorem Mx:L2.fe K ta f=fe K ta f:=by funext σ H Q;unfold L2.fe fe;simp only[D6]
theorem K2:L2.iJ K ta tv f=iJ K ta tv f:=by funext D σ H;exact congrArg (tv σ H) (funext λy=>funext λH1=>congrArg (ta σ H1) (funext λx=>funext λH2=>K3 (Qh:=λH3=>D.nx σ H3)))
theorem rO:L2.eC te=eC te:=by funext σ H Q;unfold L2.eC eC;simp only[jH]
theorem AH:L2.tB te=eC te:=by funext σ H Q;unfold L2.tB eC;simp only[jH]
theorem Ms:L2.g0 ta tb=g0 ta tb:=by funext σ H Q;unfold L2.g0 g0;simp only[jH]
theorem MB:L2.hX ta tb=hX ta tb:=by funext σ H Q;unfold L2.hX hX;simp only[jH]
theorem MA:L2.hW ta=hW ta:=by funext σ H Q;unfold L2.hW hW;simp only[jH]
theorem Mt:L2.fH td ty=fH td ty:=by funext σ H Q;unfold L2.fH fH;simp only[k5]
theorem Mu:L2.hJ ty td=hJ ty td:=by funext σ H Q;unfold L2.hJ hJ;simp only[k5]
theorem Mv:L2.hU ty td=hU ty td:=by funext σ H Q;unfold L2.hU hU;simp only[k5]
theorem K1:L2.gZ td ty tv=gZ td ty tv:=by funext D σ H;unfold L2.gZ gZ;simp only[k5]
end
section
variable{X:Cx}{a b c o e value:Expr}{rest:List Expr}{pos pos':Pos}{ta tb tc td ty tv:TE}{f:Str}
theorem pv(i:Nat){x:Str}{pos:Pos}(hN:X.N[i]? =some x:=by rfl)(hv:iX X.env.scope x:=by first|exact Or.inl rfl|exact Or.inr (Or.inl rfl)|exact Or.inr (Or.inr rfl))(hd:(x==("__debug__":Str))=false:=by decide)(hcd:(x==("__classdict__":Str))=false:=by decide):PE X (.Name x pos) (dG i):=A0▸IJ hN hv hd hcd
theorem ak(he:PE X e ta)(hb:attributeBase e f X.env (eval e X.env)=eval e X.env):PE X (.Attribute e f pos) (fe X.K ta f):=Mx▸L2.ak he hb
theorem bx(ha:PE X o ta)(hv:PE X value tv)(hs:swapsWith value (some (.Attribute o f pos')) pos.line X.env=pure false):PS X (.Assign [.Attribute o f pos'] value pos) (iJ X.K ta tv f):=K2▸L2.bx ha hv hs
theorem aU{op:CmpOp}{r:R2}(ho:bR X (compareOp op) r)(ha:PE X a ta)(hb:PE X b tb)(hm:behindInMarks op b=false):PT X (.Compare a [op] [b] pos) (eC (jt r ta tb)):=rO▸L2.aU ho ha hb hm
theorem c9{op op':CmpOp}{r r':R2}(ho:bR X (compareOp op) r)(ho':bR X (compareOp op') r')(ha:PE X a ta)(hb:PE X b tb)(hc:PE X c tc)(hm:lastMarks [op,op'] [b,c]=false:=by with_unfolding_all rfl):PT X (.Compare a [op,op'] [b,c] pos) (eC (jq r r' ta tb tc)):=rO▸L2.c9 ho ho' ha hb hc hm
theorem cj{op:CmpOp}{t:TE}(h:PC X op a b t)(h1:behindInMarks op b=false:=by first|exact oO _ (by decide) (by decide)|rfl):PT X (.Compare a [op] [b] pos) (eC t):=AH▸L2.cj h h1
theorem bD{e:Expr}{t:TE}(h:PE X e t)(he:∀whole,isTrue e X.env whole=(do let v<-whole;standAt e.pos;holding [v] (truthy v)):=by intro _;rfl):PT X e (eC t):=AH▸L2.bD h he
theorem iC(ha:PE X a ta)(hb:PE X (.BoolOp .And (b::rest) pos) tb):PE X (.BoolOp .And (a::b::rest) pos) (g0 ta tb):=Ms▸L2.iC ha hb
theorem mr(ha:PE X a ta)(hb:PE X (.BoolOp .Or (b::rest) pos) tb):PE X (.BoolOp .Or (a::b::rest) pos) (hX ta tb):=MB▸L2.mr ha hb
theorem o8(ha:PE X a ta):PE X (.UnaryOp .Not a pos) (hW ta):=MA▸L2.o8 ha
theorem bT(hu:X.A.units+1<cLine)(ho:PE X o td)(hi:PE X b ty)(hs:ni b):PE X (.Subscript o b pos) (fH td ty):=Mt▸L2.bT hu ho hi hs
theorem jh(hu:X.A.units+1<cLine)(hi:PE X b ty)(ho:PE X o td):PC X .In b o (hJ ty td):=Mu▸L2.jh hu hi ho
theorem cF(hu:X.A.units+1<cLine)(hi:PE X b ty)(ho:PE X o td):PC X .NotIn b o (hU ty td):=Mv▸L2.cF hu hi ho
theorem fF(hu:X.A.units+1<cLine)(ho:PE X o td)(hi:PE X b ty)(hv:PE X value tv)(hs:swapsWith value (some (.Subscript o b pos')) pos.line X.env=pure false):PS X (.Assign [.Subscript o b pos'] value pos) (gZ td ty tv):=K1▸L2.fF hu ho hi hv hs
theorem ez:bR X (binaryOp .Add) (bX λi j=>.int (i+j)):=fU▸L2.ez
theorem mf:bR X (binaryOp .Sub) (bX λi j=>.int (i -j)):=fU▸L2.mf
theorem iB:bR X (compareOp .Lt) (bX λi j=>.bl (decide (i<j))):=fU▸L2.iB
theorem bB:bR X (compareOp .LtE) (bX λi j=>.bl (decide (i<=j))):=fU▸L2.bB
theorem md:bR X (compareOp .Gt) (bX λi j=>.bl (decide (j<i))):=fU▸L2.md
theorem jf:bR X (compareOp .GtE) (bX λi j=>.bl (decide (j<=i))):=fU▸L2.jf
theorem me:bR X (binaryOp .Mod) (rI (λ_ j=>0<j) λi j=>.int (i%j)):=zL▸L2.me
theorem gz(K:PySem.W.Frag)(he:PE X e ta)(hb:attributeBase e f X.env (eval e X.env)=eval e X.env)(hK:X.K=K:=by rfl):PE X (.Attribute e f pos) (fe K ta f):=hK▸ak he hb
end
end Sw
namespace L2
open PySem PySem.Spec PyProof.Rows
def bA(st:Nat->V->Option V):Nat->List V->List V
 |_,[]=>[]
 |i,x::r=>match st i x with
  |some y=>y::bA st (i+1) r
  |none=>bA st (i+1) r
theorem i0(st:Nat->V->Option V):∀(i:Nat)(l:List V),(bA st i l).length<=l.length
 |_,[]=>Nat.le_refl _
 |i,x::r=>by
  unfold bA
  cases st i x with
  |none=>exact Nat.le_trans (i0 st (i+1) r) (Nat.le_succ _)
  |some y=>exact Nat.succ_le_succ (i0 st (i+1) r)
theorem jN(st:Nat->V->Option V):∀(k:Nat)(l:List V)(i:Nat)(x:V),l[i]? =some x->bA st k (l.take (i+1))=bA st k (l.take i)++(st (k+i) x).toList
 |k,[],i,x,h=>by simp at h
 |k,a::l,0,x,h=>by
  have e:a=x:=Option.some.inj h
  subst e
  show bA st k [a]=bA st k []++_
  unfold bA bA
  rw[Nat.add_zero]
  cases st k a<;>rfl
 |k,a::l,i+1,x,h=>by
  have ih:=jN st (k+1) l i x h
  have e:k+1+i=k+(i+1):=by omega
  rw[e] at ih
  show bA st k (a::l.take (i+1))=bA st k (a::l.take i)++_
  unfold bA
  rw[ih]
  cases st k a<;>rfl
def jr(D:Addr)(Pn:Hp->Prop):Option V->Hp->Prop
 |some y,H=>∃acc,H D=some (.lst acc)/\acc.length<sizeLine/\Pn (upd H D (.lst (acc++[y])))
 |none,H=>Pn H
section
variable{K:PySem.W.Frag}{a:Addr}{xs:List V}{g:TG}{tt:TT}{te:TE}{vs:List Nat}{σ:St}{H1:Hp}{D:Addr}{Q:VK}{Qd:Hp->Prop}
theorem bp{H H1:Hp}{D:Addr}{o:HO}(h:au H H1)(hD:H D=none):au H (upd H1 D o):=λb u e=>by
 rw[aF (cZ e hD)];exact h b u e
theorem kW{H H0:Hp}{σ0:St}(hD:H0 D=none){L:List V}(hl:L.length<sizeLine)(hH:au H0 H)(hHD:H D=some (.lst L)){o:Option V}{Pn:Hp->Prop}(hn:∀H',au H0 H'->H' D=some (.lst (L++o.toList))->Pn H'):∀H',au H H'->jr D Pn o H':=λH' s=>by
 have e:H' D=some (.lst L):=s _ _ hHD
 cases o with
 |none=>exact hn H' (hH.trans s) (by rw[e];simp)
 |some y=>exact⟨L,e,hl,hn _ (bp (hH.trans s) hD) aN⟩
theorem ke(st:Nat->V->Option V)(hD:H1 D=none)(hS:ax K H1 a xs)(hz:xs.length<=sizeLine)(hs:∀(i:Nat)(x:V)(H:Hp)(R:Option V->Hp->Prop),xs[i]? =some x->au H1 H->(∀H',au H H'->R (st i x) H')->g x (wipe σ vs) H λσ2 H2=>wipe σ2 vs=wipe σ vs/\tt σ2 H2 λb H3=>if b=true then te σ2 H3 λy H4=>R (some y) H4 else R none H3)(hd:∀H',au H1 H'->H' D=some (.lst (bA st 0 xs))->Qd H'):∃W:Nat->Nat->Hp->Prop,(∃m,W 0 m (upd H1 D (.lst [])))/\∀i m H,W i m H->((dR K a).stop i H/\Qd H)\/((dR K a).go i H/\∃Nx:Hp->Prop,(∀H',Nx H'->∃m',m'<m/\W (i+1) m' H')/\∀x H',(dR K a).d8 i H x H'->g x (wipe σ vs) H' λσ2 H2=>wipe σ2 vs=wipe σ vs/\tt σ2 H2 λb H3=>
                                                                                                                                                                                                                                                                                                                                                                                                                                                                        if b=true then te σ2 H3 λy H4=>∃acc,H4 D=some (.lst acc)/\acc.length<sizeLine/\Nx (upd H4 D (.lst (acc++[y]))) else Nx H3):=by
 refine x9 (K:=K) (a:=a) (xs:=xs) (λi H=>au H1 H/\H D=some (.lst (bA st 0 (xs.take i)))) ⟨bp (λ_ _ e=>e) hD,aN⟩ (λi H _ p=>p.1.seq hS) (λi x H hx p=>?_) (λH p=>hd H p.1 (by rw[List.take_length] at p;exact p.2))
 have hi:i<xs.length:=(List.getElem?_eq_some_iff.mp hx).1
 have hlen:(bA st 0 (xs.take i)).length<sizeLine:=Nat.lt_of_le_of_lt (i0 st 0 _) (by rw[List.length_take];omega)
 have te':=kW (Pn:=λH'=>au H1 H'/\H' D=some (.lst (bA st 0 (xs.take (i+1))))) (σ0:=σ) hD hlen p.1 p.2 (o:=st i x) λH' s e=>⟨s,by rw[e,jN st 0 xs i x hx,Nat.zero_add]⟩
 exact hs i x H (jr D (λH'=>au H1 H'/\H' D=some (.lst (bA st 0 (xs.take (i+1)))))) hx p.1 te'
theorem FQ{n:Nat}{lo:Int}(st:Nat->V->Option V)(hD:H1 D=none)(hz:n<=sizeLine)(hs:∀(i:Nat)(H:Hp)(R:Option V->Hp->Prop),i<n->au H1 H->(∀H',au H H'->R (st i (.int (lo+i))) H')->g (.int (lo+i)) (wipe σ vs) H λσ2 H2=>wipe σ2 vs=wipe σ vs/\tt σ2 H2 λb H3=>if b=true then te σ2 H3 λy H4=>R (some y) H4 else R none H3)(hd:∀H',au H1 H'->H' D=some (.lst (bA st 0 ((List.range n).map λj:Nat=>V.int (lo+j))))->Qd H'):∃W:Nat->Nat->Hp->Prop,(∃m,W 0 m (upd H1 D (.lst [])))/\∀i m H,W i m H->((dS lo n).stop i H/\Qd H)\/((dS lo n).go i H/\∃Nx:Hp->Prop,(∀H',Nx H'->∃m',m'<m/\W (i+1) m' H')/\∀x H',(dS lo n).d8 i H x H'->g x (wipe σ vs) H' λσ2 H2=>wipe σ2 vs=wipe σ vs/\tt σ2 H2 λb H3=>
                                                                                                                                                                                                                                                                                                                                                                                                                                                                                                             if b=true then te σ2 H3 λy H4=>∃acc,H4 D=some (.lst acc)/\acc.length<sizeLine/\Nx (upd H4 D (.lst (acc++[y]))) else Nx H3):=by
 let xs:List V:=(List.range n).map λj:Nat=>V.int (lo+j)
 have xl:xs.length=n:=by show((List.range n).map _).length=n;rw[List.length_map,List.length_range]
 refine ow (lo:=lo) (n:=n) (λi H=>au H1 H/\H D=some (.lst (bA st 0 (xs.take i)))) ⟨bp (λ_ _ e=>e) hD,aN⟩ (λi H hi p=>?_) (λH p=>hd H p.1 (by have q:=p.2;rw[<-xl,List.take_length] at q;exact q))
 have hx:xs[i]? =some (V.int (lo+i)):=by show((List.range n).map _)[i]? =_;rw[List.getElem?_map,List.getElem?_range hi];rfl
 have hlen:(bA st 0 (xs.take i)).length<sizeLine:=Nat.lt_of_le_of_lt (i0 st 0 _) (by rw[List.length_take];omega)
 have te':=kW (Pn:=λH'=>au H1 H'/\H' D=some (.lst (bA st 0 (xs.take (i+1))))) (σ0:=σ) hD hlen p.1 p.2 (o:=st i (V.int (lo+i))) λH' s e=>⟨s,by rw[e,jN st 0 xs i _ hx,Nat.zero_add]⟩
 exact hs i H (jr D (λH'=>au H1 H'/\H' D=some (.lst (bA st 0 (xs.take (i+1)))))) hi p.1 te'
theorem FO(st:Nat->V->Option V)(hD:H1 D=none)(hS:ax K H1 a xs)(hz:xs.length<=sizeLine)(hs:∀(i:Nat)(x:V)(H:Hp)(T:Addr)(R:Option V->Hp->Prop),xs[i]? =some x->au H1 H->H T=none->(∀H',au H H'->R (st i x) H')->g (.ref T) (wipe σ vs) (upd H T (.tup [.int i,x])) λσ2 H2=>wipe σ2 vs=wipe σ vs/\tt σ2 H2 λb H3=>if b=true then te σ2 H3 λy H4=>R (some y) H4 else R none H3)(hd:∀H',au H1 H'->H' D=some (.lst (bA st 0 xs))->Qd H'):∃W:Nat->Nat->Hp->Prop,(∃m,W 0 m (upd H1 D (.lst [])))/\∀i m H,W i m H->((gb K a).stop i H/\Qd H)\/((gb K a).go i H/\∃Nx:Hp->Prop,(∀H',Nx H'->∃m',m'<m/\W (i+1) m' H')/\∀x H',(gb K a).d8 i H x H'->g x (wipe σ vs) H' λσ2 H2=>wipe σ2 vs=wipe σ vs/\tt σ2 H2 λb H3=>
                                                                                                                                                                                                                                                                                                                                                                                                                                                                                                                           if b=true then te σ2 H3 λy H4=>∃acc,H4 D=some (.lst acc)/\acc.length<sizeLine/\Nx (upd H4 D (.lst (acc++[y]))) else Nx H3):=by
 refine⟨λi m H=>m=xs.length -i/\i<=xs.length/\au H1 H/\H D=some (.lst (bA st 0 (xs.take i))),⟨xs.length,by simp,Nat.zero_le _,bp (λ_ _ e=>e) hD,aN⟩,?_⟩
 rintro i m H ⟨rfl,hi,p⟩
 have q:=p.1.seq hS
 by_cases hlt:i<xs.length
 .refine .inr ⟨⟨xs,xs[i],q,by simp[hlt]⟩,λH'=>au H1 H'/\H' D=some (.lst (bA st 0 (xs.take (i+1)))),λH' p'=>⟨xs.length -(i+1),by omega,rfl,hlt,p'⟩,λv H' y=>?_⟩
  obtain⟨T,x,rfl,hT,rfl,hx⟩:=y
  have hx:=hx xs q
  have hlen:(bA st 0 (xs.take i)).length<sizeLine:=Nat.lt_of_le_of_lt (i0 st 0 _) (by rw[List.length_take];omega)
  have te':=kW (Pn:=λH'=>au H1 H'/\H' D=some (.lst (bA st 0 (xs.take (i+1))))) (σ0:=σ) hD hlen p.1 p.2 (o:=st i x) λH' s e=>⟨s,by rw[e,jN st 0 xs i x hx,Nat.zero_add]⟩
  exact hs i x H T (jr D (λH'=>au H1 H'/\H' D=some (.lst (bA st 0 (xs.take (i+1)))))) hx p.1 hT te'
 .have e:i=xs.length:=by omega
  subst e
  rw[List.take_length] at p
  exact .inl ⟨⟨xs,q,Nat.le_refl _⟩,hd H p.1 p.2⟩
theorem xr{d:Addr}{o:Obj}{kvs:List (Key×V)}{g:TG}{tb:TS}{D:Ends}{σ:St}{H:Hp}(Pv:Nat->St->Hp->Prop)(h0:Pv 0 σ H)(hl:∀i σ H,i<=kvs.length->Pv i σ H->H d=some (.bz o (.dK kvs)))(hs:∀i k x σ H,kvs[i]? =some (k,x)->Pv i σ H->g x σ H λσ2 H2=>tb {D with nx:=Pv (i+1),ct:=Pv (i+1),bk:=D.nx} σ2 H2)(hd:∀σ H,Pv kvs.length σ H->D.nx σ H):∃W:Nat->Nat->St->Hp->Prop,(∃m,W 0 m σ H)/\∀i m σ H,W i m σ H->((f_ d o kvs).stop i H/\D.nx σ H)\/((f_ d o kvs).go i H/\∃N:St->Hp->Prop,(∀σ' H',N σ' H'->∃m',m'<m/\W (i+1) m' σ' H')/\∀x H',(f_ d o kvs).d8 i H x H'->g x σ H' λσ2 H2=>tb {D with nx:=N,ct:=N,bk:=D.nx} σ2 H2):=by
 refine⟨λi m σ H=>m=kvs.length -i/\i<=kvs.length/\Pv i σ H,⟨kvs.length,by simp,Nat.zero_le _,h0⟩,?_⟩
 rintro i m σ H ⟨rfl,hi,p⟩
 have q:=hl i σ H hi p
 by_cases hlt:i<kvs.length
 .refine .inr ⟨⟨q,hlt⟩,Pv (i+1),λσ' H' p'=>⟨kvs.length -(i+1),by omega,rfl,hlt,p'⟩,λx H' y=>?_⟩
  obtain⟨e,k,y⟩:=y
  subst e
  exact hs i k x σ _ y p
 .have e:i=kvs.length:=by omega
  subst e
  exact .inl ⟨⟨q,Nat.le_refl _⟩,hd σ H p⟩
theorem Step.unlock{H H':Hp}{d:Addr}{u:HO}{od:Obj}{A C C':Cells}(h:Own H (A++((d,u)::C)))(s:Step (upd H d (.bz od u)) C H' C'):Step H (A++((d,u)::C)) (upd H' d u) (A++((d,u)::C')):=by
 have hdC:d∉adr C:=λz=>(h.right (a:=A)).nd|>λnd=>(List.nodup_cons.mp nd).1 z
 have hdA:∀c∈A,c.1≠d:=λc hc z=>h.apart (gW hc) (by show c.1∈d::adr C;rw[z];exact List.mem_cons_self)
 have hC'd:∀b∈adr C',b≠d:=λb hb z=>by
  rcases s.new b hb with y|y
  .exact hdC (z▸y)
  .rw[z,aN] at y;cases y
 have hA':∀c∈A,H' c.1=some c.2:=λc hc=>s.fr _ _ (by rw[aF (hdA c hc)];exact h.at_ c (List.mem_append_left _ hc)) λz=>h.apart (gW hc) (List.mem_cons_of_mem _ z)
 refine⟨⟨λc hc=>?_,?_⟩,λb o e hb=>?_,λb hb=>?_⟩
 .rcases List.mem_append.mp hc with hc|hc
  .rw[aF (hdA c hc)];exact hA' c hc
  .rcases List.mem_cons.mp hc with rfl|hc
   .exact aN
   .rw[aF (hC'd _ (gW hc))];exact s.own.at_ c hc
 .rw[dm]
  refine List.nodup_append.mpr ⟨h.left.nd,List.nodup_cons.mpr ⟨λz=>hC'd d z rfl,s.own.nd⟩,λx hx y hy e=>?_⟩
  subst e
  rcases List.mem_cons.mp hy with rfl|hy
  .exact h.apart hx List.mem_cons_self
  .rcases s.new x hy with z|z
   .exact h.apart hx (List.mem_cons_of_mem _ z)
   .obtain⟨c,hc,e⟩:=List.mem_map.mp hx
    rw[<-e,aF (hdA c hc),h.at_ c (List.mem_append_left _ hc)] at z
    cases z
 .rw[dm] at hb
  have hbd:b≠d:=λz=>hb (List.mem_append_right _ (by rw[z];exact List.mem_cons_self))
  rw[aF hbd]
  exact s.fr b o (by rw[aF hbd];exact e) λz=>hb (List.mem_append_right _ (List.mem_cons_of_mem _ z))
 .rw[dm] at hb⊢
  rcases List.mem_append.mp hb with z|z
  .exact .inl (List.mem_append_left _ z)
  .rcases List.mem_cons.mp z with rfl|z
   .exact .inl (List.mem_append_right _ List.mem_cons_self)
   .rcases s.new b z with y|y
    .exact .inl (List.mem_append_right _ (List.mem_cons_of_mem _ y))
    .rw[aF (hC'd b z)] at y;exact .inr y
theorem tH(f:Nat->Option V):∀(k:Nat)(xs:List V),bA (λi _=>f i) k xs=(List.range' k xs.length).filterMap f
 |_,[]=>rfl
 |k,x::r=>by
  show bA (λi _=>f i) k (x::r)=(List.range' k (r.length+1)).filterMap f
  have ih:=tH f (k+1) r
  have e:bA (λi _=>f i) k (x::r)=(match f k with|some y=>y::bA (λi _=>f i) (k+1) r|none=>bA (λi _=>f i) (k+1) r):=rfl
  rw[e,List.range'_succ,List.filterMap_cons,ih]
  cases f k<;>rfl
theorem xO(n:Int)(ns:List Int):lN (.int n) (ns.map V.int)=decide (n∈ns):=by
 unfold lN
 rw[List.any_map]
 by_cases h:n∈ns
 .rw[decide_eq_true h,List.any_eq_true]
  exact⟨n,h,by simp[fP]⟩
 .rw[decide_eq_false h,List.any_eq_false]
  intro x hx
  simp[fP]
  intro e;subst e;exact h hx
def Jo(K:PySem.W.Frag):R2:=λx y H Q=>∃(p:Addr)(ns:List Int)(n:Int),y=.ref p/\x=.int n/\ax K H p (ns.map V.int)/\Q (.bl (decide (n∈ns))) H
theorem o5{X:Cx}:bR X (compareOp .In) (Jo X.K):=by
 intro pins s σ H x y v u Q I rx ry h
 obtain⟨p,ns,n,rfl,rfl,h1,q⟩:=h
 refine yU pins s σ H _ _ v u Q I rx ry ⟨p,_,rfl,.inl h1,rfl,?_,?_⟩
 .rw[List.all_map];exact List.all_eq_true.mpr λ_ _=>rfl
 .simpa[xO] using q
end
theorem ze(K:PySem.W.Frag){X:Cx}{pos:Pos}{es:List Expr}{k:Nat}{t:gN}{n:Nat}(hc:X.calm=true)(h:jC X es t)(hK:X.K=K:=by rfl)(hn:(assignEach es X.env).length=n:=by rfl)(hst:(assignEach es X.env).findIdx? (·.1)=none:=by rfl):PG X (.Tuple es k pos) (xw K n t):=by
 subst hK
 exact IP hc h hn hst
def lV(g:TG)(tt:TT)(te:TE)(vs:List Nat)(σ:St)(Q:VK)(J:It)(H1:Hp):Prop:=∀D,H1 D=none->∃W:Nat->Nat->Hp->Prop,(∃m,W 0 m (upd H1 D (.lst [])))/\∀i m H,W i m H->(J.stop i H/\Q (.ref D) H)\/(J.go i H/\∃Nx:Hp->Prop,(∀H',Nx H'->∃m',m'<m/\W (i+1) m' H')/\∀x H',J.d8 i H x H'->g x (wipe σ vs) H' λσ2 H2=>wipe σ2 vs=wipe σ vs/\tt σ2 H2 λb H3=>
                                                                                                                                                                  if b=true then te σ2 H3 λy H4=>∃acc,H4 D=some (.lst acc)/\acc.length<sizeLine/\Nx (upd H4 D (.lst (acc++[y]))) else Nx H3)
theorem J9{wi:TI}{g:TG}{tt:TT}{te:TE}{vs:List Nat}{σ:St}{H:Hp}{Q:VK}:(kU wi g tt te vs σ H Q)=(wi σ H (lV g tt te vs σ Q)):=rfl
def D_(g:TG)(tb:TS)(D:Ends)(σ:St)(J:It)(H1:Hp):Prop:=∃W:Nat->Nat->St->Hp->Prop,(∃m,W 0 m σ H1)/\∀i m σ H,W i m σ H->(J.stop i H/\D.nx σ H)\/(J.go i H/\∃N:St->Hp->Prop,(∀σ' H',N σ' H'->∃m',m'<m/\W (i+1) m' σ' H')/\∀x H',J.d8 i H x H'->g x σ H' λσ2 H2=>tb {D with nx:=N,ct:=N,bk:=D.nx} σ2 H2)
theorem JU{wi:TI}{g:TG}{tb:TS}{D:Ends}{σ:St}{H:Hp}:(mW wi g tb D σ H)=(wi σ H (D_ g tb D σ)):=rfl
section
variable{K:PySem.W.Frag}{tl td:TE}{tA:TA}{σ:St}{H:Hp}{R:It->Hp->Prop}{ts:TS}{D:Ends}
theorem JZ:(xK K tl σ H R)=(tl σ H λx H1=>∃a,x=.ref a/\(∃xs,ax K H1 a xs)/\R (dR K a) H1):=rfl
theorem J0:(xM tA σ H R)=(tA σ H λvs H1=>∃j:Int,vs=[.int j]/\ -(2^62)<=j/\j<2^62/\R (dS 0 j.toNat) H1):=rfl
theorem J1:(EA tA σ H R)=(tA σ H λvs H1=>∃i j:Int,vs=[.int i,.int j]/\(-(2^62)<=i/\i<2^62/\ -(2^62)<=j/\j<2^62)/\R (dS i (j -i).toNat) H1):=rfl
theorem JX:xI K tA σ H R↔tA σ H λvs H1=>∃a,vs=[.ref a]/\(∃xs,ax K H1 a xs)/\R (gb K a) H1:=by
 have e:(λ(vs:List V)(H1:Hp)=>∃a xs,vs=[V.ref a]/\ax K H1 a xs/\R (gb K a) H1)=λvs H1=>∃a,vs=[V.ref a]/\(∃xs,ax K H1 a xs)/\R (gb K a) H1:=by
  funext vs H1
  refine propext ⟨?_,?_⟩
  .rintro⟨a,xs,h1,h2,h3⟩;exact⟨a,h1,⟨xs,h2⟩,h3⟩
  .rintro⟨a,h1,⟨xs,h2⟩,h3⟩;exact⟨a,xs,h1,h2,h3⟩
 show(tA σ H λvs H1=>∃a xs,vs=[V.ref a]/\ax K H1 a xs/\R (gb K a) H1)↔_
 rw[e]
theorem J2:(xN td σ H R)=(td σ H λx H1=>∃d o kvs,x=.ref d/\H1 d=some (.bz o (.dK kvs))/\R (f_ d o kvs) H1):=rfl
theorem JY{td:TE}{σ:St}{H:Hp}{R:It->Hp->Prop}:(xJ td σ H R)=(td σ H λx H1=>∃d o kvs,x=.ref d/\H1 d=some (.bz o (.dK kvs))/\R (iU d o kvs) H1):=rfl
theorem Nq{o o':Obj}{u u':HO}:(HO.bz o u=HO.bz o' u')↔o=o'/\u=u':=by simp
end
end L2
namespace Sw
open PySem PySem.Spec PyProof.Rows L2
theorem fz{N ps:List Str}{sc:Scope}(h:N.Nodup/\(∀x∈ps,sc.names.lookup x=some .local\/sc.names.lookup x=some .cell)/\∀y∈sc.names,y.2≠.free)(h1:sc.kind=.function:=by rfl)(h2:sc.isCoroutine=false:=by rfl)(h3:sc.isGenerator=false:=by rfl)(h4:N.take ps.length=ps:=by rfl):aZ N ps sc:=⟨h1,h2,h3,h.1,h4,h.2.1,h.2.2⟩
def top(i:Nat):Stmt:=PySem.Challenge.pw_learnswitch_s01_answers.main.body.getD i (.Pass ⟨0,0,0,0⟩)
abbrev pP:Stmt:=inClass (top 25) 0
theorem N0:aZ ["self","kind","side","until","moves_at"] ["self","kind","side","until","moves_at"] (aK pP):=fz (by decide+kernel)
abbrev pR:Stmt:=inClass (top 26) 0
theorem N2:aZ ["self","age","sides"] ["self","age","sides"] (aK pR):=fz (by decide+kernel)
abbrev pQ:Stmt:=inClass (top 27) 0
theorem N1:aZ ["self"] ["self"] (aK pQ):=fz (by decide+kernel)
abbrev pO:Stmt:=inClass (top 28) 0
theorem NZ:aZ ["self","side"] ["self","side"] (aK pO):=fz (by decide+kernel)
abbrev kL:Stmt:=inClass (top 29) 0
theorem Bl:aZ ["self","ports","cap","age","hold","number"] ["self","ports","cap","age","hold"] (aK kL):=fz (by decide+kernel)
abbrev pN:Stmt:=inClass (top 75) 0
theorem NY:aZ ["self","to","source","tag","rank"] ["self","to","source","tag","rank"] (aK pN):=fz (by decide+kernel)
abbrev pM:Stmt:=inClass (top 141) 0
theorem NX:aZ ["self"] ["self"] (aK pM):=fz (by decide+kernel)
abbrev qg:Stmt:=top 5
theorem Oc:aZ ["number"] ["number"] (aK qg):=fz (by decide+kernel)
abbrev qf:Stmt:=top 6
theorem Ob:aZ ["number"] ["number"] (aK qf):=fz (by decide+kernel)
abbrev qj:Stmt:=top 7
theorem Of:aZ ["number"] ["number"] (aK qj):=fz (by decide+kernel)
abbrev qi:Stmt:=top 30
theorem Oe:aZ ["switch","number"] ["switch","number"] (aK qi):=fz (by decide+kernel)
abbrev qk:Stmt:=top 31
theorem Bz:aZ ["switch","number"] ["switch","number"] (aK qk):=fz (by decide+kernel)
abbrev ql:Stmt:=top 32
theorem Og:aZ ["switch","number"] ["switch","number"] (aK ql):=fz (by decide+kernel)
abbrev qh:Stmt:=top 33
theorem Od:aZ ["side"] ["side"] (aK qh):=fz (by decide+kernel)
abbrev qP:Stmt:=top 34
theorem Om:aZ ["side","v"] ["side","v"] (aK qP):=fz (by decide+kernel)
abbrev mM:Stmt:=top 35
theorem BM:aZ ["switch","side","number","port"] ["switch","side"] (aK mM):=fz (by decide+kernel)
abbrev mL:Stmt:=top 36
theorem BE:aZ ["switch","side","number"] ["switch","side"] (aK mL):=fz (by decide+kernel)
abbrev qd:Stmt:=top 37
theorem N_:aZ ["switch","side"] ["switch","side"] (aK qd):=fz (by decide+kernel)
abbrev qR:Stmt:=top 38
theorem Oo:aZ ["vlan"] ["vlan"] (aK qR):=fz (by decide+kernel)
abbrev qe:Stmt:=top 39
theorem Oa:aZ ["switch","vlan"] ["switch","vlan"] (aK qe):=fz (by decide+kernel)
abbrev qp:Stmt:=top 57
theorem BB:aZ ["switch","frame","vlan","row","at_home"] ["switch","frame"] (aK qp):=fz (by decide+kernel)
abbrev qr:Stmt:=top 58
theorem BC:aZ ["switch","vlan","frame","full"] ["switch","vlan","frame"] (aK qr):=fz (by decide+kernel)
abbrev qz:Stmt:=top 59
theorem BI:aZ ["switch","vlan","frame","row"] ["switch","vlan","frame"] (aK qz):=fz (by decide+kernel)
abbrev mK:Stmt:=top 60
theorem By:aZ ["switch","vlan","number","secure","row"] ["switch","vlan","number"] (aK mK):=fz (by decide+kernel)
abbrev p8:Stmt:=top 61
theorem Bp:aZ ["switch","vlan","number"] ["switch","vlan","number"] (aK p8):=fz (by decide+kernel)
abbrev qm:Stmt:=top 65
theorem Oh:aZ ["vlan","to"] ["vlan","to"] (aK qm):=fz (by decide+kernel)
abbrev qQ:Stmt:=top 66
theorem B2:aZ ["switch","vlan","to","side"] ["switch","vlan","to"] (aK qQ):=fz (by decide+kernel)
abbrev qc:Stmt:=top 67
theorem Bx:aZ ["switch","frame","number","vlan","side"] ["switch","frame","number"] (aK qc):=fz (by decide+kernel)
abbrev qC:Stmt:=top 68
theorem BL:aZ ["switch","frame","number","live"] ["switch","frame","number"] (aK qC):=fz (by decide+kernel)
abbrev kM:Stmt:=top 69
theorem BP:aZ ["switch","frame","vlan","sides","ports","told","number","port"] ["switch","frame"] (aK kM):=fz (by decide+kernel)
abbrev mO:Stmt:=top 70
theorem B3:aZ ["switch","frame","number","side","tags","rank","tag","v"] ["switch","frame","number"] (aK mO):=fz (by decide+kernel)
abbrev mH:Stmt:=top 71
theorem Bq:aZ ["switch","frame","sides","watched","copies","number"] ["switch","frame","sides"] (aK mH):=fz (by decide+kernel)
abbrev qS:Stmt:=top 76
theorem B4:aZ ["switch","number","to","source","tag","rank","port","frame","reason"] ["switch","number","to","source","tag","rank"] (aK qS):=fz (by decide+kernel)
abbrev qx:Stmt:=top 77
theorem Oi:aZ ["to","source","tag","rank"] ["to","source","tag","rank"] (aK qx):=fz (by decide+kernel)
abbrev rm:Stmt:=top 78
theorem Ot:aZ ["side","tag"] ["side","tag"] (aK rm):=fz (by decide+kernel)
abbrev qA:Stmt:=top 79
theorem BJ:aZ ["switch","frame","reason"] ["switch","frame"] (aK qA):=fz (by decide+kernel)
abbrev qD:Stmt:=top 80
theorem BN:aZ ["switch","frame","vlan"] ["switch","frame"] (aK qD):=fz (by decide+kernel)
abbrev qE:Stmt:=top 81
theorem BO:aZ ["switch","frame","vlan"] ["switch","frame"] (aK qE):=fz (by decide+kernel)
abbrev p9:Stmt:=top 82
theorem Br:aZ ["switch","vlan","number","bound"] ["switch","vlan","number"] (aK p9):=fz (by decide+kernel)
abbrev qb:Stmt:=top 84
theorem Bw:aZ ["vlan","sides","forgotten","hw","row"] ["vlan","sides"] (aK qb):=fz (by decide+kernel)
abbrev qa:Stmt:=top 85
theorem Bv:aZ ["switch","sides","vlan"] ["switch","sides"] (aK qa):=fz (by decide+kernel)
abbrev mN:Stmt:=top 86
theorem B0:aZ ["switch","dead","side"] ["switch"] (aK mN):=fz (by decide+kernel)
abbrev qJ:Stmt:=top 88
theorem BV:aZ ["switch","number"] ["switch","number"] (aK qJ):=fz (by decide+kernel)
abbrev qN:Stmt:=top 89
theorem BZ:aZ ["switch","number","d","side"] ["switch","number","d"] (aK qN):=fz (by decide+kernel)
abbrev qB:Stmt:=top 92
theorem BK:aZ ["switch","number","side","port"] ["switch","number","side"] (aK qB):=fz (by decide+kernel)
abbrev rh:Stmt:=top 93
theorem Cd:aZ ["switch","number","port"] ["switch","number"] (aK rh):=fz (by decide+kernel)
abbrev qI:Stmt:=top 94
theorem BU:aZ ["switch","number","x","port"] ["switch","number","x"] (aK qI):=fz (by decide+kernel)
abbrev p_:Stmt:=top 96
theorem Bt:aZ ["switch","v","hw","side","vlan"] ["switch","v","hw","side"] (aK p_):=fz (by decide+kernel)
abbrev ra:Stmt:=top 97
theorem Cb:aZ ["switch","v","hw","vlan"] ["switch","v","hw"] (aK ra):=fz (by decide+kernel)
abbrev qy:Stmt:=top 98
theorem Oj:aZ ["g"] ["g"] (aK qy):=fz (by decide+kernel)
abbrev qo:Stmt:=top 99
theorem BA:aZ ["switch","v","g","side","vlan","group"] ["switch","v","g","side"] (aK qo):=fz (by decide+kernel)
abbrev qt:Stmt:=top 100
theorem BD:aZ ["switch","v","g","side","vlan","group"] ["switch","v","g","side"] (aK qt):=fz (by decide+kernel)
abbrev mJ:Stmt:=top 101
theorem Bu:aZ ["switch","v","side","numbers","sides","number"] ["switch","v","side"] (aK mJ):=fz (by decide+kernel)
abbrev qG:Stmt:=top 105
theorem BR:aZ ["switch","number","x","side"] ["switch","number","x"] (aK qG):=fz (by decide+kernel)
abbrev qL:Stmt:=top 106
theorem BX:aZ ["switch","number","r","side"] ["switch","number","r"] (aK qL):=fz (by decide+kernel)
abbrev qH:Stmt:=top 107
theorem BS:aZ ["switch","number","v","g","vlan"] ["switch","number","v","g"] (aK qH):=fz (by decide+kernel)
abbrev qu:Stmt:=top 108
theorem BF:aZ ["switch","number","most","shut","side"] ["switch","number","most","shut"] (aK qu):=fz (by decide+kernel)
abbrev rb:Stmt:=top 109
theorem Cc:aZ ["switch","number","side","vlan"] ["switch","number"] (aK rb):=fz (by decide+kernel)
abbrev qw:Stmt:=top 110
theorem BH:aZ ["vlan","side","now","hw","row"] ["vlan","side","now"] (aK qw):=fz (by decide+kernel)
abbrev rj:Stmt:=top 111
theorem Ce:aZ ["switch","number","v","vlan"] ["switch","number","v"] (aK rj):=fz (by decide+kernel)
abbrev qM:Stmt:=top 112
theorem BY:aZ ["switch","number","n","side"] ["switch","number","n"] (aK qM):=fz (by decide+kernel)
abbrev qv:Stmt:=top 115
theorem BG:aZ ["switch","v","hw","vlan","row","left"] ["switch","v","hw"] (aK qv):=fz (by decide+kernel)
abbrev qW:Stmt:=top 116
theorem Oq:aZ ["group"] ["group"] (aK qW):=fz (by decide+kernel)
abbrev qX:Stmt:=top 117
theorem B8:aZ ["switch","v","vlan","told","hw","row","g"] ["switch","v"] (aK qX):=fz (by decide+kernel)
abbrev qV:Stmt:=top 118
theorem B7:aZ ["switch","number","port"] ["switch","number"] (aK qV):=fz (by decide+kernel)
abbrev qZ:Stmt:=top 119
theorem B_:aZ ["switch","v","vlan"] ["switch","v"] (aK qZ):=fz (by decide+kernel)
abbrev qY:Stmt:=top 120
theorem B9:aZ ["switch","number","side","told","tag","ports"] ["switch","number"] (aK qY):=fz (by decide+kernel)
abbrev qF:Stmt:=top 123
theorem BQ:aZ ["switch","v","a","vlan"] ["switch","v","a"] (aK qF):=fz (by decide+kernel)
abbrev qO:Stmt:=top 124
theorem B1:aZ ["switch","v","d","vlan","row"] ["switch","v","d"] (aK qO):=fz (by decide+kernel)
abbrev q_:Stmt:=top 125
theorem Ca:aZ ["switch","n","vlan"] ["switch","n"] (aK q_):=fz (by decide+kernel)
abbrev qU:Stmt:=top 126
theorem B6:aZ ["vlan","now","hw","row"] ["vlan","now"] (aK qU):=fz (by decide+kernel)
abbrev pT:Stmt:=top 130
theorem Bn:aZ ["switch","v"] ["switch","v"] (aK pT):=fz (by decide+kernel)
abbrev mI:Stmt:=top 131
theorem Bs:aZ ["switch","v","side"] ["switch","v"] (aK mI):=fz (by decide+kernel)
abbrev qK:Stmt:=top 132
theorem BW:aZ ["switch","number","v","side","before"] ["switch","number","v"] (aK qK):=fz (by decide+kernel)
abbrev pS:Stmt:=top 133
theorem Bm:aZ ["switch","number","tag","v","side"] ["switch","number","tag","v"] (aK pS):=fz (by decide+kernel)
abbrev qT:Stmt:=top 134
theorem B5:aZ ["switch","number","tag","side","v"] ["switch","number","tag"] (aK qT):=fz (by decide+kernel)
abbrev p0:Stmt:=top 142
theorem Bo:aZ ["calls","desk","told","place","number","behind","answer"] ["calls"] (aK p0):=fz (by decide+kernel)
abbrev pU:Stmt:=top 143
theorem N3:aZ ["desk","number","given"] ["desk","number","given"] (aK pU):=fz (by decide+kernel)
abbrev p7:Stmt:=top 144
theorem N9:aZ ["desk","ports","cap","age","hold"] ["desk","ports","cap","age","hold"] (aK p7):=fz (by decide+kernel)
abbrev pZ:Stmt:=top 145
theorem N8:aZ ["switch","number","given"] ["switch","number","given"] (aK pZ):=fz (by decide+kernel)
abbrev pY:Stmt:=top 146
theorem N7:aZ ["switch","number","given"] ["switch","number","given"] (aK pY):=fz (by decide+kernel)
abbrev pX:Stmt:=top 147
theorem N6:aZ ["switch","number","given"] ["switch","number","given"] (aK pX):=fz (by decide+kernel)
abbrev pW:Stmt:=top 148
theorem N5:aZ ["switch","number","given"] ["switch","number","given"] (aK pW):=fz (by decide+kernel)
abbrev pV:Stmt:=top 149
theorem N4:aZ ["switch","number","given"] ["switch","number","given"] (aK pV):=fz (by decide+kernel)
structure Ad where
 Row:Addr
 j1:Addr
 jS:FuncData
 Vlan:Addr
 j4:Addr
 jV:FuncData
 Side:Addr
 j2:Addr
 jT:FuncData
 Port:Addr
 j0:Addr
 jR:FuncData
 Switch:Addr
 j3:Addr
 jU:FuncData
 Frame:Addr
 jZ:Addr
 jQ:FuncData
 dc:Addr
 jY:Addr
 jP:FuncData
 vY:Addr
 ug:FuncData
 vX:Addr
 uf:FuncData
 v5:Addr
 uj:FuncData
 v3:Addr
 ui:FuncData
 v7:Addr
 uk:FuncData
 v8:Addr
 um:FuncData
 vZ:Addr
 uh:FuncData
 wQ:Addr
 uV:FuncData
 wz:Addr
 uG:FuncData
 wd:Addr
 uw:FuncData
 vU:Addr
 uc:FuncData
 wU:Addr
 uX:FuncData
 vW:Addr
 ue:FuncData
 wa:Addr
 ur:FuncData
 wb:Addr
 uu:FuncData
 wt:Addr
 uC:FuncData
 vV:Addr
 ud:FuncData
 vL:Addr
 tU:FuncData
 v9:Addr
 uo:FuncData
 wR:Addr
 uW:FuncData
 vT:Addr
 ub:FuncData
 wy:Addr
 uF:FuncData
 wC:Addr
 uJ:FuncData
 wV:Addr
 uY:FuncData
 vM:Addr
 tV:FuncData
 wW:Addr
 uZ:FuncData
 wo:Addr
 uA:FuncData
 xg:Addr
 vg:FuncData
 wu:Addr
 uD:FuncData
 wA:Addr
 uH:FuncData
 wB:Addr
 uI:FuncData
 vN:Addr
 tW:FuncData
 vS:Addr
 ua:FuncData
 vR:Addr
 t_:FuncData
 wN:Addr
 uT:FuncData
 wI:Addr
 uO:FuncData
 wM:Addr
 uS:FuncData
 wx:Addr
 uE:FuncData
 xc:Addr
 ve:FuncData
 wH:Addr
 uN:FuncData
 vP:Addr
 tY:FuncData
 xa:Addr
 vc:FuncData
 wq:Addr
 uB:FuncData
 v_:Addr
 uq:FuncData
 wc:Addr
 uv:FuncData
 vQ:Addr
 tZ:FuncData
 wF:Addr
 uL:FuncData
 wK:Addr
 uQ:FuncData
 wG:Addr
 uM:FuncData
 we:Addr
 ux:FuncData
 xb:Addr
 vd:FuncData
 wm:Addr
 uz:FuncData
 xf:Addr
 vf:FuncData
 wL:Addr
 uR:FuncData
 wj:Addr
 uy:FuncData
 w4:Addr
 u7:FuncData
 w6:Addr
 u9:FuncData
 wZ:Addr
 u6:FuncData
 w9:Addr
 va:FuncData
 w8:Addr
 u_:FuncData
 wD:Addr
 uK:FuncData
 wO:Addr
 uU:FuncData
 w_:Addr
 vb:FuncData
 wY:Addr
 u5:FuncData
 vC:Addr
 tM:FuncData
 vO:Addr
 tX:FuncData
 wJ:Addr
 uP:FuncData
 vB:Addr
 tL:FuncData
 wX:Addr
 u4:FuncData
 vJ:Addr
 nQ:FuncData
 vD:Addr
 tN:FuncData
 vK:Addr
 tT:FuncData
 vI:Addr
 tS:FuncData
 vH:Addr
 tR:FuncData
 vG:Addr
 tQ:FuncData
 vF:Addr
 tP:FuncData
 vE:Addr
 tO:FuncData
 sj:Addr
structure Fn(K:PySem.W.Frag)(mg:Str->Option Value)(x:Str)(st:Stmt)(ps:List Str)(f:Addr)(fd:FuncData):Prop where
 fn:d9 K x x st f fd
 mg:mg x=some (.ref f)
 bd:Binds K fd ps []
class Txt(K:PySem.W.Frag)(mg:outParam (Str->Option Value))(t:Ad):Prop where
 len:mg "len"=none
 list:mg "list"=none
 range:mg "range"=none
 enumerate:mg "enumerate"=none
 any:mg "any"=none
 sorted:mg "sorted"=none
 min:mg "min"=none
 sum:mg "sum"=none
 nB:∃k,mg "EVERYBODY"=some (Value.int (281474976710655) k)
 C1:∃k,mg "GROUP_STEP"=some (Value.int (1099511627776) k)
 CT:∃k,mg "FIRST_RESERVED"=some (Value.int (1652522221568) k)
 C6:∃k,mg "LAST_RESERVED"=some (Value.int (1652522221583) k)
 iZ:∃k,mg "LEARNED"=some (Value.int (0) k)
 jI:∃k,mg "SECURE"=some (Value.int (1) k)
 k_:∃k,mg "FIXED"=some (Value.int (2) k)
 ie:∃k,mg "NO_VLAN"=some (Value.int (0) k)
 fN:∃k,mg "NO_SIDE"=some (Value.int (-1) k)
 nH:∃k,mg "NO_BOUND"=some (Value.int (-1) k)
 nE:∃k,mg "GATE_CLOSED"=some (Value.int (0) k)
 CY:∃k,mg "GATE_LEARNS"=some (Value.int (1) k)
 nG:∃k,mg "GATE_OPEN"=some (Value.int (2) k)
 sY:∃k,mg "WATCH_NOTHING"=some (Value.int (0) k)
 Dl:∃k,mg "WATCH_IN"=some (Value.int (1) k)
 Dm:∃k,mg "WATCH_OUT"=some (Value.int (2) k)
 nI:∃k,mg "WATCH_BOTH"=some (Value.int (3) k)
 sW:∃k,mg "HIGHEST_RANK"=some (Value.int (7) k)
 lb:∃k,mg "HIGHEST_TIME"=some (Value.int (1000000) k)
 Dh:∃k,mg "REASONS"=some (Value.int (14) k)
 fk:∃k,mg "GOES_ON"=some (Value.int (0) k)
 Dg:∃k,mg "PORT_IS_DEAD"=some (Value.int (3) k)
 CP:∃k,mg "CAME_BY_MIRROR"=some (Value.int (4) k)
 Dp:∃k,mg "WRONG_SOURCE"=some (Value.int (5) k)
 De:∃k,mg "OF_NO_VLAN"=some (Value.int (6) k)
 Dk:∃k,mg "TO_RESERVED"=some (Value.int (7) k)
 CW:∃k,mg "GATE_IS_CLOSED"=some (Value.int (8) k)
 Dn:∃k,mg "WAY_IS_SHUT"=some (Value.int (9) k)
 CU:∃k,mg "FIXED_ELSEWHERE"=some (Value.int (10) k)
 Di:∃k,mg "SECURE_ELSEWHERE"=some (Value.int (11) k)
 Dc:∃k,mg "MOVES_TOO_SOON"=some (Value.int (12) k)
 CO:∃k,mg "BREACH"=some (Value.int (13) k)
 Df:∃k,mg "ONLY_LEARNED"=some (Value.int (14) k)
 CV:∃k,mg "FOR_NOWHERE"=some (Value.int (15) k)
 Dj:∃k,mg "STORM"=some (Value.int (16) k)
 CS:∃k,mg "FIRST_REASON"=some (Value.int (3) k)
 lh:∃k,mg "NO_TAG"=some (Value.int (-1) k)
 sX:∃k,mg "NO_PORT"=some (Value.int (-1) k)
 C5:∃k,mg "HIGHEST_TAG_OF_FRAME"=some (Value.int (4095) k)
 CQ:∃k,mg "EMPTY_TAG"=some (Value.int (0) k)
 C9:∃k,mg "MOST_PORTS_OF_SIDE"=some (Value.int (8) k)
 C4:∃k,mg "HIGHEST_MOST"=some (Value.int (65536) k)
 C2:∃k,mg "HIGHEST_BOUND"=some (Value.int (1000000000) k)
 CZ:∃k,mg "GROUP_KIND"=some (Value.int (3) k)
 sU:∃k,mg "CLOCK_END"=some (Value.int (4611686018427387904) k)
 sV:∃k,mg "HIGHEST"=some (Value.int (4094) k)
 C_:∃k,mg "MOST_VLANS"=some (Value.int (64) k)
 C7:mg "LENGTHS"=some (.ref t.sj)
 MQ:∀H:Hp,dk K H t.sj [V.int (4),V.int (1),V.int (1),V.int (2),V.int (3),V.int (2),V.int (2),V.int (1),V.int (2),V.int (2),V.int (2),V.int (3),V.int (3),V.int (1),V.int (2),V.int (2),V.int (2),V.int (2),V.int (3),V.int (2),V.int (3),V.int (3),V.int (2),V.int (1),V.int (2),V.int (1),V.int (5),V.int (2),V.int (1),V.int (1),V.int (1),V.int (1)]
 CN:∃k,mg "BEGIN"=some (Value.int (0) k)
 Dd:∃k,mg "NO_SWITCH"=some (Value.int (-20) k)
 C8:∃k,mg "MOST_PORTS"=some (Value.int (64) k)
 C3:∃k,mg "HIGHEST_CAP"=some (Value.int (65536) k)
 Du:cp K t.Row
 e8:Mk K t.Row t.j1
 jb:mg "Row"=some (.ref t.Row)
 EB:d9 K "__init__" "Row.__init__" pP t.j1 t.jS
 iY:Binds K t.jS ["self","kind","side","until","moves_at"] []
 Gz:aT K t.Row "kind"
 GB:aT K t.Row "side"
 GC:aT K t.Row "until"
 GA:aT K t.Row "moves_at"
 Dy:cp K t.Vlan
 yA:Mk K t.Vlan t.j4
 yr:mg "Vlan"=some (.ref t.Vlan)
 EE:d9 K "__init__" "Vlan.__init__" pR t.j4 t.jV
 sN:Binds K t.jV ["self","age","sides"] []
 GW:aT K t.Vlan "age"
 G1:aT K t.Vlan "moves"
 G0:aT K t.Vlan "missed"
 GX:aT K t.Vlan "breaches"
 G2:aT K t.Vlan "rows"
 GZ:aT K t.Vlan "groups"
 GY:aT K t.Vlan "gates"
 G3:aT K t.Vlan "shut"
 G4:aT K t.Vlan "spread"
 Dv:cp K t.Side
 Gi:Mk K t.Side t.j2
 F3:mg "Side"=some (.ref t.Side)
 EC:d9 K "__init__" "Side.__init__" pQ t.j2 t.jT
 CI:Binds K t.jT ["self"] []
 GH:aT K t.Side "native"
 GI:aT K t.Side "pairs"
 GD:aT K t.Side "apart"
 GJ:aT K t.Side "rank"
 GG:aT K t.Side "most"
 GF:aT K t.Side "lock_shuts"
 GK:aT K t.Side "storm"
 GL:aT K t.Side "watched"
 lu:cp K t.Port
 Gh:Mk K t.Port t.j0
 F2:mg "Port"=some (.ref t.Port)
 Ez:d9 K "__init__" "Port.__init__" pO t.j0 t.jR
 CH:Binds K t.jR ["self","side"] []
 Gw:aT K t.Port "side"
 Gy:aT K t.Port "up"
 Gx:aT K t.Port "taken"
 yE:aT K t.Port "passed"
 Gv:aT K t.Port "given"
 oM:aT K t.Port "dropped"
 Dx:cp K t.Switch
 Gj:Mk K t.Switch t.j3
 F4:mg "Switch"=some (.ref t.Switch)
 ED:d9 K "__init__" "Switch.__init__" kL t.j3 t.jU
 CJ:Binds K t.jU ["self","ports","cap","age","hold"] []
 GS:aT K t.Switch "ports"
 GU:aT K t.Switch "sides"
 GV:aT K t.Switch "vlans"
 GO:aT K t.Switch "cap"
 GN:aT K t.Switch "age"
 GP:aT K t.Switch "hold"
 GQ:aT K t.Switch "mirror"
 GR:aT K t.Switch "now"
 Dt:cp K t.Frame
 Gg:Mk K t.Frame t.jZ
 F1:mg "Frame"=some (.ref t.Frame)
 Ey:d9 K "__init__" "Frame.__init__" pN t.jZ t.jQ
 CG:Binds K t.jQ ["self","to","source","tag","rank"] []
 Gs:aT K t.Frame "to"
 Gq:aT K t.Frame "source"
 Gr:aT K t.Frame "tag"
 Gn:aT K t.Frame "rank"
 Gp:aT K t.Frame "side"
 Gu:aT K t.Frame "v"
 tD:cp K t.dc
 Gf:Mk K t.dc t.jY
 F0:mg "Desk"=some (.ref t.dc)
 Ex:d9 K "__init__" "Desk.__init__" pM t.jY t.jP
 CF:Binds K t.jP ["self"] []
 yD:aT K t.dc "switch"
 j9:Fn K mg "is_hardware" qg ["number"] t.vY t.ug
 lR:Fn K mg "is_group" qf ["number"] t.vX t.uf
 oo:Fn K mg "is_reserved" qj ["number"] t.v5 t.uj
 i9:Fn K mg "is_port" qi ["switch","number"] t.v3 t.ui
 dO:Fn K mg "is_side" qk ["switch","number"] t.v7 t.uk
 lT:Fn K mg "is_side_or_none" ql ["switch","number"] t.v8 t.um
 lS:Fn K mg "is_locked" qh ["side"] t.vZ t.uh
 mS:Fn K mg "side_is_in" qP ["side","v"] t.wQ t.uV
 mx:Fn K mg "ports_of" mM ["switch","side"] t.wz t.uG
 oy:Fn K mg "live_ports" mL ["switch","side"] t.wd t.uw
 lL:Fn K mg "has_live_port" qd ["switch","side"] t.vU t.uc
 size_of:Fn K mg "size_of" qR ["vlan"] t.wU t.uX
 lQ:Fn K mg "is_full" qe ["switch","vlan"] t.vW t.ue
 learn:Fn K mg "learn" qp ["switch","frame"] t.wa t.ur
 x_:Fn K mg "learn_new" qr ["switch","vlan","frame"] t.wb t.uu
 yC:Fn K mg "move_row" qz ["switch","vlan","frame"] t.wt t.uC
 oj:Fn K mg "has_room" mK ["switch","vlan","number"] t.vV t.ud
 breach:Fn K mg "breach" p8 ["switch","vlan","number"] t.vL t.tU
 xT:Fn K mg "is_spread" qm ["vlan","to"] t.v9 t.uo
 rD:Fn K mg "sides_for" qQ ["switch","vlan","to"] t.wR t.uW
 xA:Fn K mg "goes_out_at" qc ["switch","frame","number"] t.vT t.ub
 pf:Fn K mg "port_by_place" qC ["switch","frame","number"] t.wy t.uF
 z7:Fn K mg "send_out" kM ["switch","frame"] t.wC t.uJ
 A2:Fn K mg "tag_and_rank" mO ["switch","frame","number"] t.wV t.uY
 tI:Fn K mg "copies_of" mH ["switch","frame","sides"] t.vM t.tV
 A3:Fn K mg "take_frame" qS ["switch","number","to","source","tag","rank"] t.wW t.uZ
 yu:Fn K mg "may_be_borne" qx ["to","source","tag","rank"] t.wo t.uA
 Bf:Fn K mg "vlan_by_tag" rm ["side","tag"] t.xg t.vg
 yY:Fn K mg "pass_through" qA ["switch","frame"] t.wu t.uD
 zY:Fn K mg "reason_before_learning" qD ["switch","frame"] t.wA t.uH
 zZ:Fn K mg "reason_behind_learning" qE ["switch","frame"] t.wB t.uI
 tJ:Fn K mg "count_spread" p9 ["switch","vlan","number"] t.vN t.tW
 i6:Fn K mg "forget_of_vlan" qb ["vlan","sides"] t.vS t.ua
 lH:Fn K mg "forget_of_all" qa ["switch","sides"] t.vR t.t_
 settle:Fn K mg "settle" mN ["switch"] t.wN t.uT
 Ac:Fn K mg "set_mirror" qJ ["switch","number"] t.wI t.uO
 Ah:Fn K mg "set_watch" qN ["switch","number","d"] t.wM t.uS
 zk:Fn K mg "plug_port" qB ["switch","number","side"] t.wx t.uE
 Bc:Fn K mg "unplug_port" rh ["switch","number"] t.xc t.ve
 Ab:Fn K mg "set_link" qI ["switch","number","x"] t.wH t.uN
 xk:Fn K mg "fix_row" p_ ["switch","v","hw","side"] t.vP t.tY
 A_:Fn K mg "unfix_row" ra ["switch","v","hw"] t.xa t.vc
 yw:Fn K mg "may_be_joined" qy ["g"] t.wq t.uB
 xW:Fn K mg "join_group" qo ["switch","v","g","side"] t.v_ t.uq
 yd:Fn K mg "leave_group" qt ["switch","v","g","side"] t.wc t.uv
 xq:Fn K mg "flush_rows" mJ ["switch","v","side"] t.vQ t.tZ
 z_:Fn K mg "set_apart" qG ["switch","number","x"] t.wF t.uL
 Af:Fn K mg "set_rank" qL ["switch","number","r"] t.wK t.uQ
 Aa:Fn K mg "set_gate" qH ["switch","number","v","g"] t.wG t.uM
 yn:Fn K mg "lock_side" qu ["switch","number","most","shut"] t.we t.ux
 Bb:Fn K mg "unlock_side" rb ["switch","number"] t.xb t.vd
 lZ:Fn K mg "loosen" qw ["vlan","side","now"] t.wm t.uz
 unshut:Fn K mg "unshut" rj ["switch","number","v"] t.xf t.vf
 Ag:Fn K mg "set_storm" qM ["switch","number","n"] t.wL t.uR
 yo:Fn K mg "look_up" qv ["switch","v","hw"] t.wj t.uy
 rQ:Fn K mg "tell_group" qW ["group"] t.w4 t.u7
 A6:Fn K mg "tell_rows" qX ["switch","v"] t.w6 t.u9
 A5:Fn K mg "tell_counts" qV ["switch","number"] t.wZ t.u6
 A8:Fn K mg "tell_vlan" qZ ["switch","v"] t.w9 t.va
 A7:Fn K mg "tell_side" qY ["switch","number"] t.w8 t.u_
 z9:Fn K mg "set_age" qF ["switch","v","a"] t.wD t.uK
 Aj:Fn K mg "shorten_rows" qO ["switch","v","d"] t.wO t.uU
 tick:Fn K mg "tick" q_ ["switch","n"] t.w_ t.vb
 rP:Fn K mg "take_what_is_over" qU ["vlan","now"] t.wY t.u5
 sr:Fn K mg "add_vlan" pT ["switch","v"] t.vC t.tM
 vp:Fn K mg "drop_vlan" mI ["switch","v"] t.vO t.tX
 Ae:Fn K mg "set_native" qK ["switch","number","v"] t.wJ t.uP
 sk:Fn K mg "add_pair" pS ["switch","number","tag","v"] t.vB t.tL
 A4:Fn K mg "take_pair" qT ["switch","number","tag"] t.wX t.u4
 answers:Fn K mg "answers" p0 ["calls"] t.vJ t.nQ
 sA:Fn K mg "answer_call" pU ["desk","number","given"] t.vD t.tN
 begin:Fn K mg "begin" p7 ["desk","ports","cap","age","hold"] t.vK t.tT
 sG:Fn K mg "answer_on_ways" pZ ["switch","number","given"] t.vI t.tS
 sF:Fn K mg "answer_on_sides" pY ["switch","number","given"] t.vH t.tR
 sE:Fn K mg "answer_on_rows" pX ["switch","number","given"] t.vG t.tQ
 sD:Fn K mg "answer_on_frames" pW ["switch","number","given"] t.vF t.tP
 sC:Fn K mg "answer_on_all_held" pV ["switch","number","given"] t.vE t.tO
section
variable{K:PySem.W.Frag}{mg:Str->Option Value}{t:Ad}
theorem EM[T:Txt K mg t]:cp K t.Row↔True:=iff_of_true T.Du trivial
theorem E6[T:Txt K mg t]:aT K t.Row "kind"↔True:=iff_of_true T.Gz trivial
theorem E8[T:Txt K mg t]:aT K t.Row "side"↔True:=iff_of_true T.GB trivial
theorem E9[T:Txt K mg t]:aT K t.Row "until"↔True:=iff_of_true T.GC trivial
theorem E7[T:Txt K mg t]:aT K t.Row "moves_at"↔True:=iff_of_true T.GA trivial
theorem ER[T:Txt K mg t]:cp K t.Vlan↔True:=iff_of_true T.Dy trivial
theorem Fv[T:Txt K mg t]:aT K t.Vlan "age"↔True:=iff_of_true T.GW trivial
theorem FA[T:Txt K mg t]:aT K t.Vlan "moves"↔True:=iff_of_true T.G1 trivial
theorem Fz[T:Txt K mg t]:aT K t.Vlan "missed"↔True:=iff_of_true T.G0 trivial
theorem Fw[T:Txt K mg t]:aT K t.Vlan "breaches"↔True:=iff_of_true T.GX trivial
theorem FC[T:Txt K mg t]:aT K t.Vlan "rows"↔True:=iff_of_true T.G2 trivial
theorem Fy[T:Txt K mg t]:aT K t.Vlan "groups"↔True:=iff_of_true T.GZ trivial
theorem Fx[T:Txt K mg t]:aT K t.Vlan "gates"↔True:=iff_of_true T.GY trivial
theorem FD[T:Txt K mg t]:aT K t.Vlan "shut"↔True:=iff_of_true T.G3 trivial
theorem FE[T:Txt K mg t]:aT K t.Vlan "spread"↔True:=iff_of_true T.G4 trivial
theorem EN[T:Txt K mg t]:cp K t.Side↔True:=iff_of_true T.Dv trivial
theorem Fd[T:Txt K mg t]:aT K t.Side "native"↔True:=iff_of_true T.GH trivial
theorem Fe[T:Txt K mg t]:aT K t.Side "pairs"↔True:=iff_of_true T.GI trivial
theorem E_[T:Txt K mg t]:aT K t.Side "apart"↔True:=iff_of_true T.GD trivial
theorem Ff[T:Txt K mg t]:aT K t.Side "rank"↔True:=iff_of_true T.GJ trivial
theorem Fc[T:Txt K mg t]:aT K t.Side "most"↔True:=iff_of_true T.GG trivial
theorem Fb[T:Txt K mg t]:aT K t.Side "lock_shuts"↔True:=iff_of_true T.GF trivial
theorem Fg[T:Txt K mg t]:aT K t.Side "storm"↔True:=iff_of_true T.GK trivial
theorem Fh[T:Txt K mg t]:aT K t.Side "watched"↔True:=iff_of_true T.GL trivial
theorem EL[T:Txt K mg t]:cp K t.Port↔True:=iff_of_true T.lu trivial
theorem E3[T:Txt K mg t]:aT K t.Port "side"↔True:=iff_of_true T.Gw trivial
theorem E5[T:Txt K mg t]:aT K t.Port "up"↔True:=iff_of_true T.Gy trivial
theorem E4[T:Txt K mg t]:aT K t.Port "taken"↔True:=iff_of_true T.Gx trivial
theorem E2[T:Txt K mg t]:aT K t.Port "passed"↔True:=iff_of_true T.yE trivial
theorem E1[T:Txt K mg t]:aT K t.Port "given"↔True:=iff_of_true T.Gv trivial
theorem EZ[T:Txt K mg t]:aT K t.Port "dropped"↔True:=iff_of_true T.oM trivial
theorem EO[T:Txt K mg t]:cp K t.Switch↔True:=iff_of_true T.Dx trivial
theorem Fq[T:Txt K mg t]:aT K t.Switch "ports"↔True:=iff_of_true T.GS trivial
theorem Ft[T:Txt K mg t]:aT K t.Switch "sides"↔True:=iff_of_true T.GU trivial
theorem Fu[T:Txt K mg t]:aT K t.Switch "vlans"↔True:=iff_of_true T.GV trivial
theorem Fj[T:Txt K mg t]:aT K t.Switch "cap"↔True:=iff_of_true T.GO trivial
theorem Fi[T:Txt K mg t]:aT K t.Switch "age"↔True:=iff_of_true T.GN trivial
theorem Fm[T:Txt K mg t]:aT K t.Switch "hold"↔True:=iff_of_true T.GP trivial
theorem Fo[T:Txt K mg t]:aT K t.Switch "mirror"↔True:=iff_of_true T.GQ trivial
theorem Fp[T:Txt K mg t]:aT K t.Switch "now"↔True:=iff_of_true T.GR trivial
theorem EK[T:Txt K mg t]:cp K t.Frame↔True:=iff_of_true T.Dt trivial
theorem EX[T:Txt K mg t]:aT K t.Frame "to"↔True:=iff_of_true T.Gs trivial
theorem EV[T:Txt K mg t]:aT K t.Frame "source"↔True:=iff_of_true T.Gq trivial
theorem EW[T:Txt K mg t]:aT K t.Frame "tag"↔True:=iff_of_true T.Gr trivial
theorem ET[T:Txt K mg t]:aT K t.Frame "rank"↔True:=iff_of_true T.Gn trivial
theorem EU[T:Txt K mg t]:aT K t.Frame "side"↔True:=iff_of_true T.Gp trivial
theorem EY[T:Txt K mg t]:aT K t.Frame "v"↔True:=iff_of_true T.Gu trivial
theorem EJ[T:Txt K mg t]:cp K t.dc↔True:=iff_of_true T.tD trivial
theorem ES[T:Txt K mg t]:aT K t.dc "switch"↔True:=iff_of_true T.yD trivial
end
section
variable{X:Cx}
theorem aD{x:Str}{st:Stmt}{ps:List Str}{f:Addr}{fd:FuncData}{k:Nat}{sp:Sp}{e:Expr}{es:List Expr}{t:TA}{p pos:Pos}(G:Fn X.K X.mg x st ps f fd)(F:aX X.prog X.w X.K X.mg X.base aY k f fd ps sp)(hr:cJ k X.A)(hg:Gl X x)(ha:PA X (e::es) t)(hdb:(x==("__debug__":Str))=false:=by decide)(he:starEach (e::es) X.env=(false,eval e X.env)::starEach es X.env:=by rfl)(hpl:(backTo pos (starEach es X.env)).any (·.1)=false:=by rfl):PE X (.Call (.Name x p) (e::es) [] pos) (jo sp [] E0 t):=IC F hr hg G.mg G.fn.kp G.bd .nil eA ha hdb he hpl
end
end Sw
namespace L2
open PySem PySem.Spec PyProof.Rows
section
variable{prog:Program}{w:World}{A:Around}{E:Value->Shared->Prop}{s:Shared}{T:String}{r d:Addr}{n:Nat}{P:Nat->Value->Prop}{OK:Heap->Prop}
theorem DA{Q:List Value->Shared->Prop}(K:PySem.W.KdlSrc prog w T r d n P OK)(hh:A.handled=none)(aH:OK s.heap)(hn:n<=sizeLine)(h:∀h' tk(acc':Array Value),s.heap.objs.size<=h'.objs.size->(∀b o,s.heap.get? b=some o->h'.get? b=some o)->ItemsOf P acc' n->Q acc'.toList {s with heap:=h',toks:=tk}):wpAny (model prog w) A (collect (.ref r)) Q E s:=by
 unfold collect
 refine wpAny_bind (wpAny_runValue (codeAny_builtin entry_proto_collect' ?_))
 show wpAny _ _ (do again (.builtin "list.__iadd__" ⟨[<-newList [],.ref r],[]⟩)) _ _ s
 refine wpAny_bind (wpAny_newList (wpAny_pure ⟨Code.quiet_builtin _ (by decide+kernel),codeAny_builtin entry_list_iadd' ?_⟩))
 show wpAny _ _ (Builtin.List.listExtendWith (.ref s.heap.objs.size) (.ref r) (.ref s.heap.objs.size)) _ _ {s with heap:=s.heap.push (seqObj "list" #[] 0)}
 rw[Around.under_plainId F.plain_list_iadd _]
 have hS:(s.heap.push (seqObj "list" #[] 0)).get? s.heap.objs.size=some {cls:=.type "list",data:=.seq #[] 0}:=Heap.get?_push_size _ rfl
 have hlt:=K.there _ aH
 refine PySem.W.kdl_extend (R:=λres s'=>match res with
  |.ok (.ret v)=>wpAny (model prog w) A (match v with
   |.ref a=>do
    match(<-load a).data with
    |.seq xs _=>pure xs.toList
    |_=>unsupported "internal:collect"
   |_=>unsupported "internal:collect") Q E s'
  |.ok _=>False
  |.error e=>E e s') (s:={s with heap:=s.heap.push (seqObj "list" #[] 0)}) K hh (K.keep _ _ aH λb _ o e=>Heap.get?_push_of_some _ e) s.heap.objs.size (Nat.ne_of_gt hlt.1) (Nat.ne_of_gt hlt.2) (.ref s.heap.objs.size) 0 hS (λh' tk acc' c' hk hS' hacc=>?_) hn
 show wpAny (model prog w) A (do
  let o<-load s.heap.objs.size
  match o.data with
  |.seq xs _=>pure xs.toList
  |_=>unsupported "internal:collect") Q E {s with heap:=h',toks:=tk}
 refine wpAny_bind (wpAny_load hS' ?_)
 exact wpAny_pure (h h' tk acc' (Nat.le_of_lt (Heap.lt_size hS')) (λb o e=>hk b o (Nat.ne_of_lt (Heap.lt_size e)) (Heap.get?_push_of_some _ e)) hacc)
end
section
variable{X:Cx}
def zQ(K:PySem.W.Frag):List V->Hp->VK->Prop:=λvs H Q=>∃(a:Addr)(ns:List Int),vs=[V.ref a]/\ax K H a (ns.map V.int)/\ns.length<=sizeLine/\∀(ns':List Int)(p:Addr),ns'.Perm ns->ns'.Pairwise (·<=·)->H p=none->Q (.ref p) (upd H p (.lst (ns'.map V.int)))
theorem DE:fg X (.builtin "sorted") (zQ X.K):=by
 intro pins s σ H vs us Q I r h
 obtain⟨a,ns,rfl,hs,h64,q⟩:=h
 obtain⟨its,rv,hl,_⟩:=I.list hs
 rw[Vals.pH r]
 have hi:=rv.ints
 refine PyProof.Rows.sorted_intsAny hl.isList hi (by rw[hi.length];exact h64) λout ns' h1 h2 h3=>?_
 obtain⟨ep,he'⟩:=PyProof.Rows.sortedAll_at s.heap its out
 have hlen:(ns'.map V.int).length<=sizeLine:=by rw[List.length_map,h2.length_eq];exact h64
 exact⟨.ref _,upd H (s.heap.objs.size+1) (.lst (ns'.map V.int)),I.laid (t':=s.toks) (λ_ _=>PyProof.Rows.sortedAll_old) (Nat.le_succ _) ⟨hlen,out.toList,ep,rR h1,he'⟩,rfl,q ns' _ h2 h3 (I.aH.fresh (Nat.le_succ _))⟩
def zR:List V->Hp->VK->Prop:=λvs H Q=>∃(a:Addr)(kvs:List (Key×V))(ns:List Int),vs=[V.ref a]/\Rd H a (.dK kvs)/\kvs.map (λkv=>kV kv.1)=ns.map V.int/\∀(ns':List Int)(p:Addr),ns'.Perm ns->ns'.Pairwise (·<=·)->H p=none->Q (.ref p) (upd H p (.lst (ns'.map V.int)))
theorem jO(hc:X.calm=true):fg X (.builtin "sorted") zR:=by
 intro pins s σ H vs us Q I r h
 obtain⟨p,kvs,ns,rfl,hp,hk,q⟩:=h
 obtain⟨u,rfl,rx⟩:=vals1 r
 cases rx
 obtain⟨hz,lo,vs,rel,dd⟩:=fq I.aH hp
 obtain⟨ep,hat⟩:=dd.dictAt
 have hlen:=rel.length
 refine Calls.call_function_entry kind_sorted plain_sorted entry_sorted (args_sorted1 _) ?_
 unfold Builtin.«sorted»
 refine wpAny_bind (m:=checkCount "sorted" 1 1 _) (wpAny_pure ?_)
 refine wpAny_bind (DA (PySem.W.kdl_dict (knd:=cE X.prog X.w) (kvs:=vs) (ep:=ep) lo) (I.ok.hd hc) hat (by rw[<-hlen];exact hz) λh' tk acc' hge hkeep hacc=>?_)
 obtain⟨hs,hit⟩:=hacc
 have hv:Vals (kvs.map λkv=>kV kv.1) acc'.toList:=kX (by rw[List.length_map,hlen,<-hs];exact(Array.length_toList).symm) λj u hu=>by
  obtain⟨k,x,e1,e2⟩:=hit j u (by rw[<-Array.getElem?_toList];exact hu)
  have e3:(kvs.map (·.1))[j]? =some k:=by rw[rel.keys,List.getElem?_map,e1];rfl
  rw[List.getElem?_map] at e3
  rw[List.getElem?_map]
  cases e4:kvs[j]? with
  |none=>rw[e4] at e3;cases e3
  |some kv=>
   rw[e4] at e3
   have e5:kv.1=k:=Option.some.inj e3
   exact⟨kV kv.1,rfl,by rw[e5];exact pI e2⟩
 rw[hk] at hv
 have hi:=hv.ints
 have hl2:acc'.toList.length<=sizeLine:=by rw[Array.length_toList,hs,<-hlen];exact hz
 refine wpAny_bind (wpAny_newList ?_)
 have hoL:(h'.push (seqObj "list" acc'.toList.toArray 0)).get? h'.objs.size=some (seqObj "list" acc'.toList.toArray 0):=Heap.get?_push_size _ rfl
 refine wpAny_bind (wpAny_holding (wpAny_call_entry slot_list_sort ⟨_,hoL,rfl⟩ entry_list_sort (list_sort_treeAny hoL hi hl2 λout ns' h1 h2 h3=>⟨_,rfl,?_⟩) (args_list_sort _)))
 obtain⟨ep2,he'⟩:=sortedHeap_at (out:=out) hoL
 have old:∀b o,s.heap.get? b=some o->(sortedHeap (h'.push (seqObj "list" acc'.toList.toArray 0)) h'.objs.size acc'.toList out).get? b=some o:=λb o e=>by
  have e1:=hkeep b o e
  have hlt:=Heap.lt_size e1
  rw[sortedHeap_old (Nat.ne_of_lt hlt) (by rw[size_push'];exact Nat.lt_succ_of_lt hlt),Heap.get?_push_ne _ _ _ (Nat.ne_of_lt hlt)]
  exact e1
 have hlen2:(ns'.map V.int).length<=sizeLine:=by
  rw[List.length_map,h2.length_eq]
  have:=congrArg List.length hk
  rw[List.length_map,List.length_map] at this
  rw[<-this];exact hz
 exact wpAny_pure ⟨_,rfl,⟨.ref _,upd H h'.objs.size (.lst (ns'.map V.int)),I.laid (t':=tk) old hge ⟨hlen2,out.toList,ep2,rR h1,he'⟩,rfl,q ns' _ h2 h3 (I.aH.fresh hge)⟩⟩
def AQ(ta:TA):TE:=λσ H Q=>ta σ H λvs H1=>∃j:Int,vs=[.int j]/\0<=j/\j<=65536/\∀l,H1 l=none->Q (.ref l) (upd H1 l (.lst ((List.range j.toNat).map λ(i:Nat)=>V.int i)))
theorem y_{a:Expr}{ta:TA}{p p2 pos cpos:Pos}(hg:Gl X "list")(hm:X.mg "list"=none)(hg2:Gl X "range")(hm2:X.mg "range"=none)(ha:PA X [a] ta)(hc:X.calm=true:=by rfl)(hs2:starEach [a] X.env=[(false,eval a X.env)]:=by rfl)(hs:starEach [.Call (.Name "range" p2) [a] [] cpos] X.env=[(false,eval (.Call (.Name "range" p2) [a] [] cpos) X.env)]:=by rfl):PE X (.Call (.Name "list" p) [.Call (.Name "range" p2) [a] [] cpos] [] pos) (AQ ta):=by
 intro pins s σ H Q I h
 refine wpAny_Call_Name_kw (iw I hg hm PyProof.Rows.boot_list ?_)
 refine PyProof.Rows.callWith_type1 ?_ hs rfl
 rw[hs]
 show wpAny _ _ (spliced ((false,eval (.Call (.Name "range" p2) [a] [] cpos) X.env)::backTo pos [])) _ _ s
 refine Calls.spliced_cons ?_
 refine Call_ (iw I hg2 hm2 boot_range (PyProof.Rows.callWith_type1 (aJ (ha cpos pins s σ H _ I h) λus s1⟨vs,H1,I1,r1,q1⟩=>?_) hs2 rfl))
 obtain⟨j,e,q1,q2,q⟩:=q1
 subst e
 obtain⟨u,rfl,rx⟩:=vals1 r1
 obtain⟨t,rfl⟩:=rx
 refine call_range_1 ?_
 refine Calls.spliced_nil ?_
 obtain⟨n,rfl⟩:∃n:Nat,j=n:=⟨j.toNat,by omega⟩
 have hsz:Builtin.Range.rangeSize 0 (n:Int) 1=n:=by rw[rangeSize_one];split<;>omega
 refine call_list_range (n:=n) (I.ok.hd hc) (IsRange.new ..) (small_one (by omega) (by omega) (by omega) (by omega)) hsz (by omega) λh' tk acc' c' hk hD hacc=>?_
 obtain⟨hs',hit⟩:=hacc
 have hv:Vals ((List.range n).map λ(i:Nat)=>V.int i) acc'.toList:=kX (by rw[List.length_map,List.length_range,<-hs'];exact(Array.length_toList).symm) λi u hu=>by
  obtain⟨t2,e⟩:=hit i u (by rw[<-Array.getElem?_toList];exact hu)
  have hlt:i<n:=by
   have:=(List.getElem?_eq_some_iff.mp hu).1
   rw[Array.length_toList,hs'] at this;exact this
  refine⟨V.int i,by rw[List.getElem?_map,List.getElem?_range hlt];rfl,t2,?_⟩
  rw[e]
  congr 1
  omega
 have I2:Inv X pins σ H1 {s1 with heap:=s1.heap.push {cls:=.type "range",data:=.fields #[.int 0 s1.toks,.int n t,.int 1 (s1.toks+1)]},toks:=s1.toks+1+1}:=I1.kept (t':=s1.toks+1+1) λb ob q=>Heap.get?_push_of_some _ q
 exact⟨.ref _,_,I2.laid (t':=tk) hk (Nat.le_refl _) (show cy X.prog X.w _ h' _ (.lst ((List.range n).map λ(i:Nat)=>V.int i)) from⟨by rw[List.length_map,List.length_range];rw[sizeLine_eq];omega,acc'.toList,c',hv,by simpa using hD⟩),rfl,q _ (I2.aH.fresh (Nat.le_refl _))⟩
def mE:V->V->Hp->VK->Prop:=λo i H Q=>∃p xs k x,o=.ref p/\i=.int k/\H p=some (.lst xs)/\0<=k/\xs[k.toNat]? =some x/\Q x H
theorem xx:se X mE:=by
 intro pins s σ H o i ov iv Q I ro ri h
 obtain⟨p,xs,k,x,rfl,rfl,hp,h0,hx,q⟩:=h
 cases ro
 obtain⟨t,rfl⟩:=ri
 obtain⟨its,r,pl,hz⟩:=I.list (ax.of hp)
 obtain⟨w,ew,rw'⟩:=r.get hx
 have hl:=r.length
 have hn:=kg
 have hlt:=(List.getElem?_eq_some_iff.mp hx).1
 exact wpAny_getItem_list pl.isList h0 (by omega) (by simpa using ew) ⟨x,H,I,rw',q⟩
def pE(K:PySem.W.Frag):R2:=λx y H Q=>∃(p:Addr)(ns:List Int)(n:Int),y=.ref p/\x=.int n/\dk K H p (ns.map V.int)/\Q (.bl (decide (n∈ns))) H
def rZ(_ j:Int):Prop:=0<j/\j.natAbs.log2<9000
theorem oZ:bR X (binaryOp .FloorDiv) (rI rZ λi j=>.int (i/j)):=yR λi j _ _ _ _ _ hc q=>by
 have e:i.fdiv j=i/j:=Int.fdiv_eq_ediv_of_nonneg _ (Int.le_of_lt hc.1)
 refine floordiv_int (Int.ne_of_gt hc.1) ?_ (.inl (PyProof.noPylong_of_log2 hc.2))
 rw[e];exact q
theorem yT:bR X (compareOp .In) (pE X.K):=by
 intro pins s σ H x y v u Q I rx ry h
 obtain⟨p,ns,n,rfl,rfl,h1,q⟩:=h
 refine yU pins s σ H _ _ v u Q I rx ry ⟨p,_,rfl,.inr h1,rfl,?_,?_⟩
 .rw[List.all_map];exact List.all_eq_true.mpr λ_ _=>rfl
 .simpa[xO] using q
end
section
variable{K:PySem.W.Frag}{ta tb tc te td ty tv tx to ti:TE}{ts:TS}{tA:TA}{D:Ends}{σ:St}{H:Hp}{Q:VK}{i:Nat}{f:Str}{v:V}
theorem Jw{tp:gO}:(AE i te tp D σ H)=(∃x,σ[i]? =some (some x)/\te σ H λy H1=>tp x y H1 λz H2=>D.nx (σ.set i (some z)) H2):=rfl
theorem pG{g:Int->Int->Int}{a b:Int}:lO g (.int a) (.int b) H Q↔Q (.int (g a b)) H:=by
 constructor
 .rintro⟨_,_,e1,e2,q⟩;cases e1;cases e2;exact q
 .exactλq=>⟨a,b,rfl,rfl,q⟩
theorem zU{a b:Int}:pC (.int a) (.int b) H Q↔Q (.int (a+b)) H:=by
 constructor
 .rintro⟨_,_,e1,e2,q⟩;cases e1;cases e2;exact q
 .exactλq=>⟨a,b,rfl,rfl,q⟩
theorem JT{rd:V->V->Hp->VK->Prop}:z5 K ta tv rd f D σ H↔ta σ H λx H1=>∃a C dx fs v,x=.ref a/\H1 a=some (.ins C dx fs)/\cp K C/\aT K C f/\fs.lookup f=some v/\tv σ H1 λy H2=>rd v y H2 λz H3=>∃dx' fs',H3 a=some (.ins C dx' fs')/\fs'.length<1000/\D.nx σ (upd H3 a (.ins C dx' (bc f z fs'))):=Iff.rfl
theorem Jx{tget:V->V->Hp->VK->Prop}{tip:gO}{tset:ib}:(AF to ti te tget tip tset D σ H)=(to σ H λo H1=>ti σ H1 λi H2=>tget o i H2 λx H3=>te σ H3 λy H4=>tip x y H4 λz H5=>tset o i z H5 λH6=>D.nx σ H6):=rfl
theorem zT{p:Addr}{k:Int}:mE (.ref p) (.int k) H Q↔∃xs,H p=some (.lst xs)/\0<=k/\∃x,xs[k.toNat]? =some x/\Q x H:=by
 constructor
 .rintro⟨_,xs,_,x,e1,e2,h1,h2,h3,q⟩;cases e1;cases e2;exact⟨xs,h1,h2,x,h3,q⟩
 .rintro⟨xs,h1,h2,x,h3,q⟩;exact⟨p,xs,k,x,rfl,rfl,h1,h2,h3,q⟩
theorem Jz{r:V->List V->Hp->VK->Prop}:(AG K "list" r to tA σ H Q)=(to σ H λx H1=>mZ K "list" x H1/\tA σ H1 λxs H2=>r x xs H2 Q):=rfl
theorem fX{p:Addr}{xs:List V}(h:H p=some (.lst xs)):mZ K "list" (.ref p) H:=.inl ⟨rfl,xs,ax.of h⟩
theorem Ju{p:Addr}{y:V}:zI (.ref p) [y] H Q↔∃xs,H p=some (.lst xs)/\xs.length<sizeLine/\Q .bj (upd H p (.lst (xs++[y]))):=by
 constructor
 .rintro⟨_,xs,_,e1,e2,h1,h2,q⟩;cases e1;cases e2;exact⟨xs,h1,h2,q⟩
 .rintro⟨xs,h1,h2,q⟩;exact⟨p,xs,y,rfl,rfl,h1,h2,q⟩
theorem JR{p b:Addr}:zK (.ref p) [.ref b] H Q↔∃xs,H p=some (.lst xs)/\∃zs,H b=some (.lst zs)/\xs.length+zs.length<=sizeLine/\Q .bj (upd H p (.lst (xs++zs))):=by
 constructor
 .rintro⟨_,_,xs,zs,e1,e2,h1,h2,h3,q⟩;cases e1;cases e2;exact⟨xs,h1,zs,h2,h3,q⟩
 .rintro⟨xs,h1,zs,h2,h3,q⟩;exact⟨p,b,xs,zs,rfl,rfl,h1,h2,h3,q⟩
theorem JC{p b:Addr}:zJ (.ref p) (.ref b) H Q↔∃xs,H p=some (.lst xs)/\∃zs,H b=some (.lst zs)/\xs.length+zs.length<=sizeLine/\∀l,H l=none->Q (.ref l) (upd H l (.lst (xs++zs))):=by
 constructor
 .rintro⟨_,_,xs,zs,e1,e2,h1,h2,h3,q⟩;cases e1;cases e2;exact⟨xs,h1,zs,h2,h3,q⟩
 .rintro⟨xs,h1,zs,h2,h3,q⟩;exact⟨p,b,xs,zs,rfl,rfl,h1,h2,h3,q⟩
theorem Kq{p:Addr}{k:Int}:zO (.ref p) (.int k) H Q↔∃xs,H p=some (.lst xs)/\ -(2^63)<=k/\k<2^63/\xs.length*k.toNat<=sizeLine/\∀l,H l=none->Q (.ref l) (upd H l (.lst (List.replicate k.toNat xs).flatten)):=by
 constructor
 .rintro⟨_,_,xs,e1,e2,h1,h2,h3,h4,q⟩;cases e1;cases e2;exact⟨xs,h1,h2,h3,h4,q⟩
 .rintro⟨xs,h1,h2,h3,h4,q⟩;exact⟨p,k,xs,rfl,rfl,h1,h2,h3,h4,q⟩
theorem KG:(AY tA σ H Q)=(tA σ H λxs H1=>xs.length<=sizeLine/\∀p,H1 p=none->Q (.ref p) (upd H1 p (.tup xs))):=rfl
theorem JJ:(AI td ty tx σ H Q)=(td σ H λx H1=>∃a,x=.ref a/\jA H1 a/\ty σ H1 λy H2=>tx σ H2 λz H3=>∃o,cO H3 a y o/\Q (o.getD z) H3):=rfl
theorem J_:(AQ tA σ H Q)=(tA σ H λvs H1=>∃j:Int,vs=[.int j]/\0<=j/\j<=65536/\∀l,H1 l=none->Q (.ref l) (upd H1 l (.lst ((List.range j.toNat).map λ(i:Nat)=>V.int i)))):=rfl
theorem Kz{p:Addr}:zQ K [.ref p] H Q↔∃ns:List Int,ax K H p (ns.map V.int)/\ns.length<=sizeLine/\∀(ns':List Int)(l:Addr),ns'.Perm ns->ns'.Pairwise (·<=·)->H l=none->Q (.ref l) (upd H l (.lst (ns'.map V.int))):=by
 constructor
 .rintro⟨_,ns,e1,h1,h2,q⟩;cases e1;exact⟨ns,h1,h2,q⟩
 .rintro⟨ns,h1,h2,q⟩;exact⟨p,ns,rfl,h1,h2,q⟩
theorem KA{p:Addr}:zR [.ref p] H Q↔∃kvs,Rd H p (.dK kvs)/\∃ns:List Int,kvs.map (λkv=>kV kv.1)=ns.map V.int/\∀(ns':List Int)(l:Addr),ns'.Perm ns->ns'.Pairwise (·<=·)->H l=none->Q (.ref l) (upd H l (.lst (ns'.map V.int))):=by
 constructor
 .rintro⟨_,kvs,ns,e1,h1,h2,q⟩;cases e1;exact⟨kvs,h1,ns,h2,q⟩
 .rintro⟨kvs,h1,ns,h2,q⟩;exact⟨p,kvs,ns,rfl,h1,h2,q⟩
theorem J5{p:Addr}{n:Int}:pE K (.int n) (.ref p) H Q↔∃ns:List Int,dk K H p (ns.map V.int)/\Q (.bl (decide (n∈ns))) H:=by
 constructor
 .rintro⟨_,ns,_,e1,e2,h1,q⟩;cases e1;cases e2;exact⟨ns,h1,q⟩
 .rintro⟨ns,h1,q⟩;exact⟨p,ns,n,rfl,rfl,h1,q⟩
theorem KC{p:Addr}:kI K [.ref p] H Q↔∃ns:List Int,ax K H p (ns.map V.int)/\Q (.int ns.sum) H:=by
 constructor
 .rintro⟨_,ns,e1,h1,q⟩;cases e1;exact⟨ns,h1,q⟩
 .rintro⟨ns,h1,q⟩;exact⟨p,ns,rfl,h1,q⟩
theorem ND{α:Type}{x0 x1:α}:[x0,x1].length<=sizeLine↔True:=iff_of_true (by show 2<=sizeLine;decide) trivial
theorem NF{α:Type}{x0 x1 x2:α}:[x0,x1,x2].length<=sizeLine↔True:=iff_of_true (by show 3<=sizeLine;decide) trivial
theorem NG{α:Type}{x0 x1 x2 x3:α}:[x0,x1,x2,x3].length<=sizeLine↔True:=iff_of_true (by show 4<=sizeLine;decide) trivial
theorem NH{α:Type}{x0 x1 x2 x3 x4:α}:[x0,x1,x2,x3,x4].length<=sizeLine↔True:=iff_of_true (by show 5<=sizeLine;decide) trivial
theorem NI{α:Type}{x0 x1 x2 x3 x4 x5:α}:[x0,x1,x2,x3,x4,x5].length<=sizeLine↔True:=iff_of_true (by show 6<=sizeLine;decide) trivial
theorem NJ{α:Type}{x0 x1 x2 x3 x4 x5 x6:α}:[x0,x1,x2,x3,x4,x5,x6].length<=sizeLine↔True:=iff_of_true (by show 7<=sizeLine;decide) trivial
theorem NK{α:Type}{x0 x1 x2 x3 x4 x5 x6 x7:α}:[x0,x1,x2,x3,x4,x5,x6,x7].length<=sizeLine↔True:=iff_of_true (by show 8<=sizeLine;decide) trivial
theorem NL{α:Type}{x0 x1 x2 x3 x4 x5 x6 x7 x8:α}:[x0,x1,x2,x3,x4,x5,x6,x7,x8].length<=sizeLine↔True:=iff_of_true (by show 9<=sizeLine;decide) trivial
end
end L2
namespace Sw
open PySem PySem.Spec PyProof.Rows L2
theorem oZ{X:Cx}:bR X (binaryOp .FloorDiv) (rI rZ λi j=>.int (i/j)):=zL▸L2.oZ
end Sw
namespace L2
open PySem PySem.Spec PyProof.Rows
theorem Step.cell{H:Hp}{cs cs' A B:Cells}{x:Addr}{o o':HO}(h:Own H cs)(e:cs=A++(x,o)::B)(e':cs'=A++(x,o')::B):Step H cs (upd H x o') cs':=by
 subst e e'
 exact Step.focus (C:=[(x,o)]) (C':=[(x,o')]) (R:=A++B) h List.perm_middle List.perm_middle (Step.wr (h.at_ (x,o) (by simp)))
theorem Step.mid{H H':Hp}{cs cs' A C C' B:Cells}(h:Own H cs)(e:cs=A++(C++B))(e':cs'=A++(C'++B))(s:Step H C H' C'):Step H cs H' cs':=by
 subst e e'
 exact Step.focus (R:=A++B) h (List.perm_append_comm_assoc _ _ _) (List.perm_append_comm_assoc _ _ _) s
theorem Step.more{H H2:Hp}{cs:Cells}{x:Addr}{o:HO}(h:Own H cs)(s:au H H2)(hx:H x=none)(h2:H2 x=some o):Step H cs H2 ((x,o)::cs):=by
 have nx:=h.none hx
 refine⟨⟨λc hc=>?_,List.nodup_cons.mpr ⟨nx,h.nd⟩⟩,λb u e _=>s b u e,λb hb=>?_⟩
 .rcases List.mem_cons.mp hc with rfl|hc
  .exact h2
  .exact s _ _ (h.at_ c hc)
 .rcases List.mem_cons.mp hb with rfl|hb
  .exact .inr hx
  .exact .inl hb
end L2
namespace Sw
open PySem PySem.Spec PyProof.Rows L2
def cM(m:bo):List (Str×V):=[("kind",.int m.r.kind.number),("side",.int (oI m.r.side)),("until",.int m.un),("moves_at",.int m.mv)]
def bM(m:af):List (Str×V):=[("age",.int m.w.age),("moves",.int m.w.moves),("missed",.int m.w.missed),("breaches",.int m.w.breaches),("rows",.ref m.bO),("groups",.ref m.c7),("gates",.ref m.du),("shut",.ref m.d5),("spread",.ref m.cU)]
def cR(m:aA):List (Str×V):=[("native",.int m.s.native_),("pairs",.ref m.c0),("apart",.int (bI m.s.apart)),("rank",.int m.s.rank),("most",.int (eP m.s.lock)),("lock_shuts",.int (gG m.s.lock)),("storm",.int (oI m.s.storm)),("watched",.int (bI m.s.watchIn+2*bI m.s.watchOut))]
def cK(m:ba):List (Str×V):=[("side",.int (oI m.p.side)),("up",.int (bI m.p.up)),("taken",.int m.p.taken),("passed",.int m.p.passed),("given",.int m.p.given),("dropped",.ref m.gh)]
def cC(m:ae):List (Str×V):=[("ports",.ref m.iG),("sides",.ref m.fV),("vlans",.ref m.bN),("cap",.int m.cap),("age",.int m.age),("hold",.int m.hold),("mirror",.int (oI m.mirror)),("now",.int m.now)]
abbrev bE(r:bo):V:=V.ref r.a
abbrev cW(r:bQ):V:=V.ref r.a
abbrev bK(r:af):V:=V.ref r.a
abbrev fZ(_:Unit):V:=V.bl true
def bo.cells(t:Ad)(m:bo):Cells:=[(m.a,.ins t.Row m.d (cM m))]
def bQ.cells(m:bQ):Cells:=[(m.a,.dK (toK fZ m.ks))]
def af.base(t:Ad)(m:af):Cells:=(m.a,.ins t.Vlan m.d (bM m))::(m.du,.lst (m.gates.map V.int))::(m.d5,.lst (m.a_.map V.int))::(m.cU,.lst (m.spread.map V.int))::(m.c7,.dK (toK cW m.groups))::m.groups.flatMap λp=>p.2.cells
def af.cells(t:Ad)(m:af):Cells:=(m.bO,.dK (toK bE m.rows))::((m.rows.flatMap λp=>p.2.cells t)++m.base t)
def aA.cells(t:Ad)(m:aA):Cells:=[(m.a,.ins t.Side m.d (cR m)),(m.c0,.dK (toK V.int m.pairs))]
def ba.cells(t:Ad)(m:ba):Cells:=[(m.a,.ins t.Port m.d (cK m)),(m.gh,.lst (m.p.drops.map λ(n:Nat)=>V.int n))]
def ae.base(t:Ad)(m:ae):Cells:=[(m.a,.ins t.Switch m.d (cC m)),(m.iG,.lst (m.ports.map λp=>V.ref p.a)),(m.fV,.lst (m.sides.map λp=>V.ref p.a))]
def ae.cells(t:Ad)(m:ae):Cells:=m.base t++((m.ports.flatMap (ba.cells t))++((m.sides.flatMap (aA.cells t))++((m.bN,.dK (toK bK m.vlans))::m.vlans.flatMap λp=>p.2.cells t)))
section
variable{P:Program}{w:World}{K:PySem.W.Frag}{mg:Str->Option Value}{base:Heap}{t:Ad}
theorem ae.at(t:Ad){H:Hp}{m:ae}(h:Own H (m.cells t)):H m.a=some (.ins t.Switch m.d (cC m)):=h.at_ (m.a,_) (by simp[ae.cells,ae.base])
theorem ae.bZ(t:Ad){H:Hp}{m:ae}(h:Own H (m.cells t)):H m.fV=some (.lst (m.sides.map λp=>V.ref p.a)):=h.at_ (m.fV,_) (by simp[ae.cells,ae.base])
theorem ae.fK(t:Ad){H:Hp}{m:ae}(h:Own H (m.cells t)):H m.iG=some (.lst (m.ports.map λp=>V.ref p.a)):=h.at_ (m.iG,_) (by simp[ae.cells,ae.base])
theorem ae.bJ(t:Ad){H:Hp}{m:ae}(h:Own H (m.cells t)):H m.bN=some (.dK (toK bK m.vlans)):=h.at_ (m.bN,_) (by simp[ae.cells])
theorem aA.at(t:Ad){H:Hp}{m:aA}(h:Own H (m.cells t)):H m.a=some (.ins t.Side m.d (cR m)):=h.at_ (m.a,_) (by simp[aA.cells])
theorem aA.dJ(t:Ad){H:Hp}{m:aA}(h:Own H (m.cells t)):H m.c0=some (.dK (toK V.int m.pairs)):=h.at_ (m.c0,_) (by simp[aA.cells])
theorem ba.at(t:Ad){H:Hp}{m:ba}(h:Own H (m.cells t)):H m.a=some (.ins t.Port m.d (cK m)):=h.at_ (m.a,_) (by simp[ba.cells])
theorem ba.ny(t:Ad){H:Hp}{m:ba}(h:Own H (m.cells t)):H m.gh=some (.lst (m.p.drops.map λ(n:Nat)=>V.int n)):=h.at_ (m.gh,_) (by simp[ba.cells])
theorem af.at(t:Ad){H:Hp}{m:af}(h:Own H (m.cells t)):H m.a=some (.ins t.Vlan m.d (bM m)):=h.at_ (m.a,_) (by simp[af.cells,af.base])
theorem af.cD(t:Ad){H:Hp}{m:af}(h:Own H (m.cells t)):H m.bO=some (.dK (toK bE m.rows)):=h.at_ (m.bO,_) (by simp[af.cells])
theorem af.dC(t:Ad){H:Hp}{m:af}(h:Own H (m.cells t)):H m.c7=some (.dK (toK cW m.groups)):=h.at_ (m.c7,_) (by simp[af.cells,af.base])
theorem af.k9(t:Ad){H:Hp}{m:af}(h:Own H (m.cells t)):H m.du=some (.lst (m.gates.map V.int)):=h.at_ (m.du,_) (by simp[af.cells,af.base])
theorem af.jG(t:Ad){H:Hp}{m:af}(h:Own H (m.cells t)):H m.d5=some (.lst (m.a_.map V.int)):=h.at_ (m.d5,_) (by simp[af.cells,af.base])
theorem af.sJ(t:Ad){H:Hp}{m:af}(h:Own H (m.cells t)):H m.cU=some (.lst (m.spread.map V.int)):=h.at_ (m.cU,_) (by simp[af.cells,af.base])
theorem af.fj(t:Ad){H:Hp}{m:af}(h:Own H (m.cells t)){k:Int}{r:bo}(hk:lk m.rows k=some r):H r.a=some (.ins t.Row r.d (cM r)):=
 h.at_ (r.a,_) (by
  refine List.mem_cons_of_mem _ (List.mem_append_left _ (List.mem_flatMap.mpr ⟨(k,r),b0 hk,?_⟩))
  simp[bo.cells])
theorem af.ic(t:Ad){H:Hp}{m:af}(h:Own H (m.cells t)){k:Int}{r:bQ}(hk:lk m.groups k=some r):H r.a=some (.dK (toK fZ r.ks)):=
 h.at_ (r.a,_) (by
  refine List.mem_cons_of_mem _ (List.mem_append_right _ (List.mem_cons_of_mem _ (List.mem_cons_of_mem _ (List.mem_cons_of_mem _ (List.mem_cons_of_mem _ (List.mem_cons_of_mem _ (List.mem_flatMap.mpr ⟨(k,r),b0 hk,?_⟩)))))))
  simp[bQ.cells])
theorem KQ(m:bo):(cM m).lookup ("kind":Str)=some (.int m.r.kind.number):=rfl
theorem KU(m:bo):(cM m).lookup ("side":Str)=some (.int (oI m.r.side)):=rfl
theorem KW(m:bo):(cM m).lookup ("until":Str)=some (.int m.un):=rfl
theorem KS(m:bo):(cM m).lookup ("moves_at":Str)=some (.int m.mv):=rfl
theorem KR(m:bo):(cM m).length<1000↔True:=iff_of_true (by show 4<1000;decide) trivial
theorem MU(m:af):(bM m).lookup ("age":Str)=some (.int m.w.age):=rfl
theorem M0(m:af):(bM m).lookup ("moves":Str)=some (.int m.w.moves):=rfl
theorem MZ(m:af):(bM m).lookup ("missed":Str)=some (.int m.w.missed):=rfl
theorem MV(m:af):(bM m).lookup ("breaches":Str)=some (.int m.w.breaches):=rfl
theorem M3(m:af):(bM m).lookup ("rows":Str)=some (.ref m.bO):=rfl
theorem MX(m:af):(bM m).lookup ("groups":Str)=some (.ref m.c7):=rfl
theorem MW(m:af):(bM m).lookup ("gates":Str)=some (.ref m.du):=rfl
theorem M4(m:af):(bM m).lookup ("shut":Str)=some (.ref m.d5):=rfl
theorem M5(m:af):(bM m).lookup ("spread":Str)=some (.ref m.cU):=rfl
theorem MY(m:af):(bM m).length<1000↔True:=iff_of_true (by show 9<1000;decide) trivial
theorem Lc(m:aA):(cR m).lookup ("native":Str)=some (.int m.s.native_):=rfl
theorem Ld(m:aA):(cR m).lookup ("pairs":Str)=some (.ref m.c0):=rfl
theorem K9(m:aA):(cR m).lookup ("apart":Str)=some (.int (bI m.s.apart)):=rfl
theorem Le(m:aA):(cR m).lookup ("rank":Str)=some (.int m.s.rank):=rfl
theorem Lb(m:aA):(cR m).lookup ("most":Str)=some (.int (eP m.s.lock)):=rfl
theorem La(m:aA):(cR m).lookup ("lock_shuts":Str)=some (.int (gG m.s.lock)):=rfl
theorem Lf(m:aA):(cR m).lookup ("storm":Str)=some (.int (oI m.s.storm)):=rfl
theorem Lg(m:aA):(cR m).lookup ("watched":Str)=some (.int (bI m.s.watchIn+2*bI m.s.watchOut)):=rfl
theorem K_(m:aA):(cR m).length<1000↔True:=iff_of_true (by show 8<1000;decide) trivial
theorem IX(m:ba):(cK m).lookup ("side":Str)=some (.int (oI m.p.side)):=rfl
theorem IZ(m:ba):(cK m).lookup ("up":Str)=some (.int (bI m.p.up)):=rfl
theorem IY(m:ba):(cK m).lookup ("taken":Str)=some (.int m.p.taken):=rfl
theorem IW(m:ba):(cK m).lookup ("passed":Str)=some (.int m.p.passed):=rfl
theorem IU(m:ba):(cK m).lookup ("given":Str)=some (.int m.p.given):=rfl
theorem IT(m:ba):(cK m).lookup ("dropped":Str)=some (.ref m.gh):=rfl
theorem IV(m:ba):(cK m).length<1000↔True:=iff_of_true (by show 6<1000;decide) trivial
theorem Mp(m:ae):(cC m).lookup ("ports":Str)=some (.ref m.iG):=rfl
theorem Mq(m:ae):(cC m).lookup ("sides":Str)=some (.ref m.fV):=rfl
theorem Mr(m:ae):(cC m).lookup ("vlans":Str)=some (.ref m.bN):=rfl
theorem Mj(m:ae):(cC m).lookup ("cap":Str)=some (.int m.cap):=rfl
theorem Mi(m:ae):(cC m).lookup ("age":Str)=some (.int m.age):=rfl
theorem Ml(m:ae):(cC m).lookup ("hold":Str)=some (.int m.hold):=rfl
theorem Mn(m:ae):(cC m).lookup ("mirror":Str)=some (.int (oI m.mirror)):=rfl
theorem Mo(m:ae):(cC m).lookup ("now":Str)=some (.int m.now):=rfl
theorem Mm(m:ae):(cC m).length<1000↔True:=iff_of_true (by show 8<1000;decide) trivial
structure cQ where
 a:Addr
 d:Addr
 to:Int
 src:Int
 tag:Int
 rank:Int
 side:Int
 v:Int
def cV(f:cQ):List (Str×V):=[("to",.int f.to),("source",.int f.src),("tag",.int f.tag),("rank",.int f.rank),("side",.int f.side),("v",.int f.v)]
theorem Ei(f:cQ):(cV f).lookup ("to":Str)=some (.int f.to):=rfl
theorem Eg(f:cQ):(cV f).lookup ("source":Str)=some (.int f.src):=rfl
theorem Eh(f:cQ):(cV f).lookup ("tag":Str)=some (.int f.tag):=rfl
theorem Ee(f:cQ):(cV f).lookup ("rank":Str)=some (.int f.rank):=rfl
theorem Ef(f:cQ):(cV f).lookup ("side":Str)=some (.int f.side):=rfl
theorem Ej(f:cQ):(cV f).lookup ("v":Str)=some (.int f.v):=rfl
theorem kE{α:Type}{S C R A B:List α}(p:S.Perm (C++R)):(A++(S++B)).Perm (C++(A++(R++B))):=by
 refine(List.Perm.append_left A (List.Perm.append_right B p)).trans ?_
 rw[List.append_assoc]
 exact List.perm_append_comm_assoc A C (R++B)
theorem oF{α β:Type}(f:α->β):∀{l:List α}{i:Nat}{x y:α},l[i]? =some x->f y=f x->(l.set i y).map f=l.map f
 |[],_,_,_,h,_=>by simp at h
 |a::l,0,x,y,h,e=>by
  have z:a=x:=Option.some.inj h
  subst z
  show f y::l.map f=f a::l.map f
  rw[e]
 |a::l,i+1,x,y,h,e=>by
  exact congrArg (List.cons (f a)) (oF f (l:=l) (i:=i) h e)
theorem ae.cx{H:Hp}{m:ae}{i:Nat}{x:aA}(h:Own H (m.cells t))(hi:m.sides[i]? =some x):Own H (x.cells t):=by
 obtain⟨R,p,_⟩:=kC (aA.cells t) hi
 have q:=h.right.right.left
 exact(q.perm p).left
theorem ae.dZ{H:Hp}{m:ae}{i:Nat}{x:ba}(h:Own H (m.cells t))(hi:m.ports[i]? =some x):Own H (x.cells t):=by
 obtain⟨R,p,_⟩:=kC (ba.cells t) hi
 have q:=h.right.left
 exact(q.perm p).left
theorem ae.Aw{H H':Hp}{m:ae}{i:Nat}{x y:aA}(h:Own H (m.cells t))(hi:m.sides[i]? =some x)(ha:y.a=x.a)(s:Step H (x.cells t) H' (y.cells t)):Step H (m.cells t) H' ((m.gF i y).cells t):=by
 obtain⟨R,p,q⟩:=kC (aA.cells t) hi
 have e:(m.gF i y).base t=m.base t:=by
  unfold ae.base
  show [_,_,(m.fV,HO.lst ((m.sides.set i y).map λp=>V.ref p.a))]=_
  rw[oF _ hi (by rw[ha])]
  rfl
 refine Step.focus (C:=x.cells t) (C':=y.cells t) h (R:=(m.base t++m.ports.flatMap (ba.cells t))++(R++((m.bN,.dK (toK bK m.vlans))::m.vlans.flatMap λp=>p.2.cells t))) ?_ ?_ s
 .unfold ae.cells;rw[<-List.append_assoc];exact kE p
 .unfold ae.cells;rw[<-List.append_assoc,e];exact kE (q y)
theorem ae.Ar{H H':Hp}{m:ae}{i:Nat}{x y:ba}(h:Own H (m.cells t))(hi:m.ports[i]? =some x)(ha:y.a=x.a)(s:Step H (x.cells t) H' (y.cells t)):Step H (m.cells t) H' ((m.setPort i y).cells t):=by
 obtain⟨R,p,q⟩:=kC (ba.cells t) hi
 have e:(m.setPort i y).base t=m.base t:=by
  unfold ae.base
  show [_,(m.iG,HO.lst ((m.ports.set i y).map λp=>V.ref p.a)),_]=_
  rw[oF _ hi (by rw[ha])]
  rfl
 refine Step.focus (C:=x.cells t) (C':=y.cells t) h (R:=m.base t++(R++(m.sides.flatMap (aA.cells t)++((m.bN,.dK (toK bK m.vlans))::m.vlans.flatMap λp=>p.2.cells t)))) ?_ ?_ s
 .unfold ae.cells;exact kE p
 .unfold ae.cells;rw[e];exact kE (q y)
theorem mX{α:Type}(f:α->V){k:Int}{x y:α}:∀{l:IM α},(l.map (·.1)).Nodup->lk l k=some x->f y=f x->toK f (bw l k y)=toK f l
 |[],_,h,_=>by rw[iy] at h;cases h
 |p::l,nd,h,e=>by
  have nd':p.1∉l.map (·.1)/\(l.map (·.1)).Nodup:=List.nodup_cons.mp nd
  rw[dv] at h
  show(Sum.inl (if p.1=k then(p.1,y) else p).1,f (if p.1=k then(p.1,y) else p).2)::toK f (bw l k y)=(Sum.inl p.1,f p.2)::toK f l
  by_cases z:p.1=k
  .rw[if_pos z] at h⊢
   have e2:p.2=x:=Option.some.inj h
   rw[iK y (by rw[<-z];exact nd'.1),e,e2]
  .rw[if_neg z] at h⊢
   rw[mX f nd'.2 h e]
theorem ae.cA{H:Hp}{m:ae}{k:Int}{x:af}(nd:(m.vlans.map (·.1)).Nodup)(h:Own H (m.cells t))(hi:lk m.vlans k=some x):Own H (x.cells t):=by
 obtain⟨R,p,_⟩:=jg (af.cells t) nd hi
 have q:Own H ([(m.bN,HO.dK (toK bK m.vlans))]++m.vlans.flatMap λp=>p.2.cells t):=h.right.right.right
 exact(q.right.perm p).left
theorem ae.fW{H H':Hp}{m:ae}{k:Int}{x y:af}(nd:(m.vlans.map (·.1)).Nodup)(h:Own H (m.cells t))(hi:lk m.vlans k=some x)(ha:y.a=x.a)(s:Step H (x.cells t) H' (y.cells t)):Step H (m.cells t) H' ((m.cb k y).cells t):=by
 obtain⟨R,p,q,_⟩:=jg (af.cells t) nd hi
 have e:toK bK (bw m.vlans k y)=toK bK m.vlans:=mX _ nd hi (congrArg V.ref ha)
 have e2:(m.cb k y).base t=m.base t:=rfl
 have pin:∀(z:Cells)(S C:Cells),S.Perm (C++R)->(m.base t++(m.ports.flatMap (ba.cells t)++(m.sides.flatMap (aA.cells t)++((m.bN,.dK (toK bK m.vlans))::S)))).Perm (C++((m.base t++(m.ports.flatMap (ba.cells t)++(m.sides.flatMap (aA.cells t)++[(m.bN,.dK (toK bK m.vlans))])))++(R++[]))):=λ_ S C hS=>by
  have z:=kE (A:=m.base t++(m.ports.flatMap (ba.cells t)++(m.sides.flatMap (aA.cells t)++[(m.bN,HO.dK (toK bK m.vlans))]))) (B:=[]) hS
  simpa only[List.append_assoc,List.append_nil,List.singleton_append] using z
 refine Step.focus (C:=x.cells t) (C':=y.cells t) h (pin [] _ _ p) ?_ s
 unfold ae.cells
 rw[e2,e]
 exact pin [] _ _ (q y)
theorem kS{α β:Type}(f:α->List β):∀{l l':List α},l'.Sublist l->(l'.flatMap f).Sublist (l.flatMap f)
 |_,_,.slnil=>List.Sublist.refl _
 |_,_,.cons a h=>by
  rw[List.flatMap_cons]
  exact(kS f h).trans (List.sublist_append_right _ _)
 |_,_,.cons₂ a h=>by
  rw[List.flatMap_cons,List.flatMap_cons]
  exact(List.Sublist.refl _).append (kS f h)
theorem af.rJ{H:Hp}{v:af}(h:Own H (v.cells t)){rows:IM bo}(hs:rows.Sublist v.rows):Step H (v.cells t) (upd H v.bO (.dK (toK bE rows))) ((v.wr rows).cells t):=by
 have s1:Step H (v.cells t) (upd H v.bO (.dK (toK bE rows))) ((v.bO,.dK (toK bE rows))::((v.rows.flatMap λp=>p.2.cells t)++v.base t)):=Step.cell (A:=[]) h rfl rfl
 exact s1.sub (List.Sublist.cons₂ _ ((kS _ hs).append (List.Sublist.refl _)))
theorem af.As{H H2:Hp}{v:af}{k:Int}{r1:bo}(nd:(v.rows.map (·.1)).Nodup)(h:Own H (v.cells t))(s:au H H2)(hx:H r1.a=none)(h2:H2 r1.a=some (.ins t.Row r1.d (cM r1))):Step H (v.cells t) (upd H2 v.bO (.dK (toK bE (putL v.rows k r1)))) ((v.wr (putL v.rows k r1)).cells t):=by
 have s1:=Step.more h s hx h2
 have s2:Step H2 ((r1.a,.ins t.Row r1.d (cM r1))::v.cells t) (upd H2 v.bO (.dK (toK bE (putL v.rows k r1)))) ((r1.a,.ins t.Row r1.d (cM r1))::(v.bO,.dK (toK bE (putL v.rows k r1)))::((v.rows.flatMap λp=>p.2.cells t)++v.base t)):=
  Step.cell (A:=[(r1.a,.ins t.Row r1.d (cM r1))]) s1.own rfl rfl
 have s3:=s1.trans s2
 cases hk:lk v.rows k with
 |none=>
  rw[putL_new hk] at s3⊢
  refine s3.perm ?_
  show List.Perm _ ((v.bO,HO.dK (toK bE (v.rows++[(k,r1)])))::(((v.rows++[(k,r1)]).flatMap λp=>p.2.cells t)++v.base t))
  rw[List.flatMap_append,List.append_assoc]
  refine(List.Perm.swap _ _ _).trans (List.Perm.cons _ ?_)
  exact(List.perm_middle (l₁:=v.rows.flatMap λp=>p.2.cells t) (l₂:=v.base t) (a:=(r1.a,HO.ins t.Row r1.d (cM r1)))).symm
 |some r0=>
  rw[gY hk] at s3⊢
  obtain⟨R,p1,p2,_⟩:=jg (bo.cells t) nd hk
  have pa:((r1.a,HO.ins t.Row r1.d (cM r1))::(v.bO,HO.dK (toK bE (bw v.rows k r1)))::((v.rows.flatMap λp=>p.2.cells t)++v.base t)).Perm ((v.bO,HO.dK (toK bE (bw v.rows k r1)))::(r1.a,.ins t.Row r1.d (cM r1))::(r0.cells t++(R++v.base t))):=by
   refine(List.Perm.swap _ _ _).trans (List.Perm.cons _ (List.Perm.cons _ ?_))
   rw[<-List.append_assoc]
   exact List.Perm.append_right _ p1
  have s4:=(s3.perm pa).sub (cs2:=(v.bO,HO.dK (toK bE (bw v.rows k r1)))::(r1.a,.ins t.Row r1.d (cM r1))::(R++v.base t)) (List.Sublist.cons₂ _ (List.Sublist.cons₂ _ (List.sublist_append_right _ _)))
  exact s4.perm (List.Perm.cons _ (List.Perm.append_right (v.base t) (p2 r1)).symm)
theorem af.Au{H:Hp}{v:af}{k:Int}{r0 r1:bo}(nd:(v.rows.map (·.1)).Nodup)(h:Own H (v.cells t))(hk:lk v.rows k=some r0)(ha:r1.a=r0.a)(hd:r1.d=r0.d):Step H (v.cells t) (upd H r0.a (.ins t.Row r0.d (cM r1))) ((v.wr (bw v.rows k r1)).cells t):=by
 obtain⟨R,p1,p2,_⟩:=jg (bo.cells t) nd hk
 have e:toK bE (bw v.rows k r1)=toK bE v.rows:=mX _ nd hk (congrArg V.ref ha)
 have st:Step H (r0.cells t) (upd H r0.a (.ins t.Row r0.d (cM r1))) (r1.cells t):=by
  unfold bo.cells
  rw[ha,hd]
  exact Step.wr (af.fj t h hk)
 refine Step.focus (C:=r0.cells t) (C':=r1.cells t) (R:=(v.bO,.dK (toK bE v.rows))::(R++v.base t)) h ?_ ?_ st
 .refine(List.Perm.cons _ (List.Perm.append_right (v.base t) p1)).trans ?_
  rw[List.append_assoc]
  exact List.perm_middle.symm
 .show List.Perm ((v.bO,HO.dK (toK bE (bw v.rows k r1)))::(((bw v.rows k r1).flatMap λp=>p.2.cells t)++v.base t)) _
  rw[e]
  refine(List.Perm.cons _ (List.Perm.append_right (v.base t) (p2 r1))).trans ?_
  rw[List.append_assoc]
  exact List.perm_middle.symm
theorem af.mT{H:Hp}{v:af}(h:Own H (v.cells t))(x:Vbcnab.Vlan):Step H (v.cells t) (upd H v.a (.ins t.Vlan v.d (bM {v with w:=x}))) (af.cells t {v with w:=x}):=
 Step.cell (A:=(v.bO,.dK (toK bE v.rows))::v.rows.flatMap λp=>p.2.cells t) h rfl rfl
theorem af.L_{H:Hp}{v:af}(h:Own H (v.cells t))(g:List Int):Step H (v.cells t) (upd H v.du (.lst (g.map V.int))) ((v.wg g).cells t):=
 Step.cell (A:=((v.bO,.dK (toK bE v.rows))::v.rows.flatMap λp=>p.2.cells t)++[(v.a,.ins t.Vlan v.d (bM v))]) h (by rw[List.append_assoc];rfl) (by rw[List.append_assoc];rfl)
theorem af.Av{H:Hp}{v:af}(h:Own H (v.cells t))(g:List Int):Step H (v.cells t) (upd H v.d5 (.lst (g.map V.int))) ((v.ws g).cells t):=
 Step.cell (A:=((v.bO,.dK (toK bE v.rows))::v.rows.flatMap λp=>p.2.cells t)++[(v.a,.ins t.Vlan v.d (bM v)),(v.du,.lst (v.gates.map V.int))]) h (by rw[List.append_assoc];rfl) (by rw[List.append_assoc];rfl)
theorem af.Ma{H:Hp}{v:af}(h:Own H (v.cells t))(g:List Int):Step H (v.cells t) (upd H v.cU (.lst (g.map V.int))) ((v.wf g).cells t):=
 Step.cell (A:=((v.bO,.dK (toK bE v.rows))::v.rows.flatMap λp=>p.2.cells t)++[(v.a,.ins t.Vlan v.d (bM v)),(v.du,.lst (v.gates.map V.int)),(v.d5,.lst (v.a_.map V.int))]) h (by rw[List.append_assoc];rfl) (by rw[List.append_assoc];rfl)
theorem af.Mb{H H2:Hp}{v:af}(h:Own H (v.cells t)){l:Addr}{g:List Int}(s:au H H2)(hl:H l=none)(h2:H2 l=some (.lst (g.map V.int))):Step H (v.cells t) (upd H2 v.a (.ins t.Vlan v.d (bM {v with cU:=l,spread:=g}))) (af.cells t {v with cU:=l,spread:=g}):=by
 have s1:=Step.more h s hl h2
 have s2:=Step.cell (cs':=(l,.lst (g.map V.int))::(((v.bO,.dK (toK bE v.rows))::v.rows.flatMap λp=>p.2.cells t)++(v.a,.ins t.Vlan v.d (bM {v with cU:=l,spread:=g}))::(v.du,.lst (v.gates.map V.int))::(v.d5,.lst (v.a_.map V.int))::(v.cU,.lst (v.spread.map V.int))::(v.c7,.dK (toK cW v.groups))::v.groups.flatMap λp=>p.2.cells)) (A:=(l,.lst (g.map V.int))::(v.bO,.dK (toK bE v.rows))::v.rows.flatMap λp=>p.2.cells t) (o':=.ins t.Vlan v.d (bM {v with cU:=l,spread:=g})) (B:=(v.du,.lst (v.gates.map V.int))::(v.d5,.lst (v.a_.map V.int))::(v.cU,.lst (v.spread.map V.int))::(v.c7,.dK (toK cW v.groups))::v.groups.flatMap λp=>p.2.cells) (x:=v.a) (o:=.ins t.Vlan v.d (bM v)) s1.own rfl rfl
 have s3:=(s1.trans s2).sub (cs2:=(l,.lst (g.map V.int))::(((v.bO,.dK (toK bE v.rows))::v.rows.flatMap λp=>p.2.cells t)++(v.a,.ins t.Vlan v.d (bM {v with cU:=l,spread:=g}))::(v.du,.lst (v.gates.map V.int))::(v.d5,.lst (v.a_.map V.int))::(v.c7,.dK (toK cW v.groups))::v.groups.flatMap λp=>p.2.cells)) (List.Sublist.cons₂ _ ((List.Sublist.refl _).append (List.Sublist.cons₂ _ (List.Sublist.cons₂ _ (List.Sublist.cons₂ _ (List.Sublist.cons _ (List.Sublist.refl _)))))))
 refine s3.perm ?_
 show List.Perm _ (((v.bO,HO.dK (toK bE v.rows))::v.rows.flatMap λp=>p.2.cells t)++(v.a,.ins t.Vlan v.d (bM {v with cU:=l,spread:=g}))::(v.du,.lst (v.gates.map V.int))::(v.d5,.lst (v.a_.map V.int))::(l,.lst (g.map V.int))::(v.c7,.dK (toK cW v.groups))::v.groups.flatMap λp=>p.2.cells)
 have e:∀X:Cells,(((v.bO,HO.dK (toK bE v.rows))::v.rows.flatMap λp=>p.2.cells t)++(v.a,HO.ins t.Vlan v.d (bM {v with cU:=l,spread:=g}))::(v.du,.lst (v.gates.map V.int))::(v.d5,.lst (v.a_.map V.int))::X)=(((v.bO,HO.dK (toK bE v.rows))::v.rows.flatMap λp=>p.2.cells t)++[(v.a,HO.ins t.Vlan v.d (bM {v with cU:=l,spread:=g})),(v.du,.lst (v.gates.map V.int)),(v.d5,.lst (v.a_.map V.int))])++X:=λX=>by rw[List.append_assoc];rfl
 have e1:=e ((v.c7,.dK (toK cW v.groups))::v.groups.flatMap λp=>p.2.cells)
 have e2:=e ((l,.lst (g.map V.int))::(v.c7,.dK (toK cW v.groups))::v.groups.flatMap λp=>p.2.cells)
 rw[e1,e2]
 exact List.perm_middle.symm
theorem af.rG{H H':Hp}{v:af}(h:Own H (v.cells t)){gs:IM bQ}(s:Step H ((v.c7,.dK (toK cW v.groups))::v.groups.flatMap λp=>p.2.cells) H' ((v.c7,.dK (toK cW gs))::gs.flatMap λp=>p.2.cells)):Step H (v.cells t) H' (af.cells t {v with groups:=gs}):=
 Step.mid (A:=((v.bO,.dK (toK bE v.rows))::v.rows.flatMap λp=>p.2.cells t)++[(v.a,.ins t.Vlan v.d (bM v)),(v.du,.lst (v.gates.map V.int)),(v.d5,.lst (v.a_.map V.int)),(v.cU,.lst (v.spread.map V.int))]) (B:=[]) h (by rw[List.append_assoc,List.append_nil];rfl) (by rw[List.append_assoc,List.append_nil];rfl) s
theorem af.o7{H:Hp}{v:af}(h:Own H (v.cells t)):Own H ((v.c7,.dK (toK cW v.groups))::v.groups.flatMap λp=>p.2.cells):=by
 have e:v.cells t=(((v.bO,.dK (toK bE v.rows))::v.rows.flatMap λp=>p.2.cells t)++[(v.a,.ins t.Vlan v.d (bM v)),(v.du,.lst (v.gates.map V.int)),(v.d5,.lst (v.a_.map V.int)),(v.cU,.lst (v.spread.map V.int))])++((v.c7,.dK (toK cW v.groups))::v.groups.flatMap λp=>p.2.cells):=by rw[List.append_assoc];rfl
 rw[e] at h
 exact h.right
def LG(t:Ad):Sp:=λvs H Q _=>∃(m:ae)(n:Int),vs=[.ref m.a,.int n]/\Own H (m.cells t)/\Q (.bl (decide (0<=n/\n<m.sides.length))) H
end
end Sw
local macro_rules
 | `(tactic| simp only [seval, $xs,*] $[$l]?) => do
  let a ← ("L2.Ks L2.Ku L2.Kf L2.Kw L2.J3 L2.JP L2.Jv L2.JV L2.JW L2.Kx L2.JA L2.JD L2.JH L2.Kg L2.Ka L2.JB L2.Kc L2.Kk L2.KH L2.Kp L2.JQ L2.Ke L2.Kh L2.Js L2.Kl L2.J4 L2.J6 L2.Ki L2.J7 L2.JN L2.Kb L2.JL L2.J8 Sw.KI Sw.JS Sw.zS Sw.Ky Sw.Kv Sw.Jy Sw.Jr Sw.KD Sw.Jt Sw.Km Sw.Kj Sw.JI Sw.JK Sw.JM Sw.JO Sw.Ko Sw.Kn Sw.JF L2.J9 L2.JU L2.JZ L2.J0 L2.J1 L2.JX L2.J2 L2.JY L2.Jw L2.pG L2.zU L2.JT L2.Jx L2.zT L2.Jz L2.Ju L2.JR L2.JC L2.Kq L2.KG L2.JJ L2.J_ L2.Kz L2.KA L2.J5 L2.KC".splitOn " ").toArray.mapM fun s => `(Lean.Parser.Tactic.simpLemma| ↓ $(Lean.mkIdent (`_root_ ++ s.toName)):ident)
  let b ← ("L2.JE L2.Nn L2.Np L2.Nb L2.aE L2.x_at L2.Nh L2.NU L2.NR L2.Nv L2.Ni L2.Nu L2.NM L2.Nl L2.Nj L2.NS L2.Nr L2.Nt L2.NT L2.NV L2.Nm L2.NO L2.Nc L2.NN L2.NP L2.NQ L2.Nz L2.Ny L2.NC L2.Ng L2.Nd L2.Nf L2.NW L2.NA L2.Nw L2.NB L2.Nk L2.Nq Sw.EM Sw.E6 Sw.E8 Sw.E9 Sw.E7 Sw.ER Sw.Fv Sw.FA Sw.Fz Sw.Fw Sw.FC Sw.Fy Sw.Fx Sw.FD Sw.FE Sw.EN Sw.Fd Sw.Fe Sw.E_ Sw.Ff Sw.Fc Sw.Fb Sw.Fg Sw.Fh Sw.EL Sw.E3 Sw.E5 Sw.E4 Sw.E2 Sw.E1 Sw.EZ Sw.EO Sw.Fq Sw.Ft Sw.Fu Sw.Fj Sw.Fi Sw.Fm Sw.Fo Sw.Fp Sw.EK Sw.EX Sw.EV Sw.EW Sw.ET Sw.EU Sw.EY Sw.EJ Sw.ES L2.ND L2.NF L2.NG L2.NH L2.NI L2.NJ L2.NK L2.NL Sw.KQ Sw.KU Sw.KW Sw.KS Sw.KR Sw.MU Sw.M0 Sw.MZ Sw.MV Sw.M3 Sw.MX Sw.MW Sw.M4 Sw.M5 Sw.MY Sw.Lc Sw.Ld Sw.K9 Sw.Le Sw.Lb Sw.La Sw.Lf Sw.Lg Sw.K_ Sw.IX Sw.IZ Sw.IY Sw.IW Sw.IU Sw.IT Sw.IV Sw.Mp Sw.Mq Sw.Mr Sw.Mj Sw.Mi Sw.Ml Sw.Mn Sw.Mo Sw.Mm Sw.Ei Sw.Eg Sw.Eh Sw.Ee Sw.Ef Sw.Ej".splitOn " ").toArray.mapM fun s => `(Lean.Parser.Tactic.simpLemma| $(Lean.mkIdent (`_root_ ++ s.toName)):ident)
  `(tactic| simp only [$a,*, $b,*, $xs,*] $[$l]?)
namespace Sw
open PySem PySem.Spec PyProof.Rows L2
section
variable{P:Program}{w:World}{K:PySem.W.Frag}{mg:Str->Option Value}{base:Heap}{t:Ad}
theorem dY(T:Txt K mg t):aX P w K mg base aY 1 t.v7 t.uk ["switch","number"] (LG t):=by
 refine T.dO.fn.ok Bz (λvs H Q E h=>?_) (λcdv A outer s H vs Q E hr h=>?_)
 .obtain⟨m,n,rfl,_⟩:=h
  rfl
 .obtain⟨m,n,rfl,hO,k⟩:=h
  have hu:=bC hr
  have nd:=Bz.nd
  refine⟨_,ao (aq (jj bB iB (aj) (pv 1) (bW dN rfl T.len PySem.boot_len (aa (ak (pv 0) rfl) ah)))),?_⟩
  show dB _ _ [some (.ref m.a),some (.int n)] H
  simp only[seval,ae.at t hO,ae.bZ t hO,List.length_map]
  refine az (λh0=>?_) (λh0=>?_)
  .simpa[h0] using k
  .simpa[h0] using k
theorem dM{α β:Type}{f:α->β}{l:List α}{n:Int}(h0:0<=n)(h1:n<l.length):∃x,l[n.toNat]? =some x/\bY (l.map f) n=some (f x):=by
 obtain⟨j,rfl⟩:∃j:Nat,n=j:=⟨n.toNat,by omega⟩
 have hj:j<l.length:=by omega
 refine⟨l[j],by simp[hj],cS ?_⟩
 rw[List.getElem?_map,List.getElem?_eq_getElem hj];rfl
theorem cf.gl{now n cap:Nat}{e:View}{k:Int}{x:af}(o:cf now n cap e k x):x.gates.length=n:=by rw[o.gates,List.length_map,List.length_range]
theorem cf.hl{now n cap:Nat}{e:View}{k:Int}{x:af}(o:cf now n cap e k x):x.a_.length=n:=by rw[o.a_,List.length_map,List.length_range]
theorem cf.pl{now n cap:Nat}{e:View}{k:Int}{x:af}(o:cf now n cap e k x):x.spread.length=n:=by rw[o.spread,List.length_map,List.length_range]
theorem cf.n8{now n cap:Nat}{e:View}{k:Int}{x:af}(o:cf now n cap e k x){q:Nat}(h:q<n):x.gates[q]? =some (e.gate q:Int):=by rw[o.gates,kJ _ h]
theorem cf.rB{now n cap:Nat}{e:View}{k:Int}{x:af}(o:cf now n cap e k x){q:Nat}(h:q<n):x.a_[q]? =some (bI (e.a_ q)):=by rw[o.a_,kJ _ h]
theorem cf.L1{now n cap:Nat}{e:View}{k:Int}{x:af}(o:cf now n cap e k x){q:Nat}(h:q<n):x.spread[q]? =some (e.spread q:Int):=by rw[o.spread,kJ _ h]
structure nq(m:ae):Prop where
 vk:(m.vlans.map (·.1)).Nodup
 rk:∀p∈m.vlans,(p.2.rows.map (·.1)).Nodup/\p.2.rows.length<sizeLine
theorem cf.cY{now n cap:Nat}{e:View}{k:Int}{x:af}(o:cf now n cap e k x)(h:cap<=65536):x.rows.length<sizeLine/\x.groups.length<sizeLine:=by
 have:=o.size
 have z:sizeLine=2^24:=rfl
 rw[z]
 exact⟨by omega,by omega⟩
theorem Rep.tidy{m:ae}{s:Vbcnab.State}(r:Rep m s):nq m:=⟨r.vk,λp hp=>⟨(r.cN p hp).rk,((r.cN p hp).cY r.c5).1⟩⟩
def Kt(t:Ad)(H:Hp)(m:ae)(res:Vbcnab.State×List Int)(Q:VK):Prop:=
 ∀(H':Hp)(m':ae)(p:Addr),Step H (m.cells t) H' (m'.cells t)->m'.a=m.a->Rep m' res.1->H' p=some (.lst (res.2.map V.int))->Q (.ref p) H'
theorem Kt.fin{H H1:Hp}{m m1:ae}{res:Vbcnab.State×List Int}{Q:VK}(k:Kt t H m res Q)(st:Step H (m.cells t) H1 (m1.cells t))(ha:m1.a=m.a){s1:Vbcnab.State}{xs:List Int}(e:res=(s1,xs))(hr:Rep m1 s1){zs:List V}(hz:zs=xs.map V.int):∀p,H1 p=Option.none->Q (.ref p) (upd H1 p (.lst zs)):=λp hp=>by
 subst e hz
 exact k _ m1 p (st.trans (Step.same st.own λb o e=>by rw[aF (cZ e hp)];exact e)) ha hr aN
def cn(t:Ad)(n:Nat)(c:List Int->Vbcnab.Call):Sp:=λvs H Q _=>∃(m:ae)(s:Vbcnab.State)(xs:List Int),xs.length=n/\vs=.ref m.a::xs.map V.int/\Own H (m.cells t)/\Rep m s/\Kt t H m (Vbcnab.doing s (c xs)) Q
theorem iL{H:Hp}{m:ae}{i:Nat}{x y:aA}(h:Own H (m.cells t))(hi:m.sides[i]? =some x)(ha:y.a=x.a)(hd:y.d=x.d)(hp:y.c0=x.c0)(hq:y.pairs=x.pairs){fs:List (Str×V)}(hf:fs=cR y):Step H (m.cells t) (upd H x.a (.ins t.Side x.d fs)) ((m.gF i y).cells t):=by
 have o:=ae.cx h hi
 refine ae.Aw h hi ha (Step.focus (C:=[(x.a,.ins t.Side x.d (cR x))]) (C':=[(x.a,.ins t.Side x.d fs)]) (R:=[(x.c0,.dK (toK V.int x.pairs))]) o (List.Perm.refl _) ?_ (Step.wr (o.at_ (x.a,_) (by simp[aA.cells]))))
 unfold aA.cells
 rw[ha,hd,hp,hq,hf]
 exact List.Perm.refl _
theorem cw{xs:List Int}(h:xs.length=2):∃a b,xs=[a,b]:=match xs,h with|[a,b],_=>⟨a,b,rfl⟩
theorem bV{xs:List Int}(h:xs.length=1):∃a,xs=[a]:=match xs,h with|[a],_=>⟨a,rfl⟩
theorem ek{xs:List Int}(h:xs.length=3):∃a b c,xs=[a,b,c]:=match xs,h with|[a,b,c],_=>⟨a,b,c,rfl⟩
theorem lX{xs:List Int}(h:xs.length=5):∃a b c d e,xs=[a,b,c,d,e]:=match xs,h with|[a,b,c,d,e],_=>⟨a,b,c,d,e,rfl⟩
end
end Sw
namespace Sw
open PySem PySem.Spec PyProof.Rows L2
section
variable{P:Program}{w:World}{K:PySem.W.Frag}{mg:Str->Option Value}{base:Heap}{t:Ad}
def kP(n:Nat)(f:List Int->Bool):Sp:=λvs H Q _=>∃xs:List Int,xs.length=n/\vs=xs.map V.int/\Q (.bl (f xs)) H
theorem l9(T:Txt K mg t):aX P w K mg base aY 1 t.vY t.ug ["number"] (kP 1 λxs=>decide (0<=xs.getD 0 0/\xs.getD 0 0<=281474976710655)):=by
 refine T.j9.fn.ok Oc (λvs H Q E h=>?_) (λcdv A outer s0 H vs Q E hr h=>?_)
 .obtain⟨xs,hl,rfl,_⟩:=h
  simp[hl]
 .obtain⟨xs,hl,rfl,k⟩:=h
  obtain⟨n,rfl⟩:=bV hl
  refine⟨_,ao (aq (jj bB bB (aj) (pv 0) (aI rfl T.nB))),?_⟩
  show dB _ _ [some (.int n)] H
  simp only[seval,aE]
  simpa using k
theorem yJ(T:Txt K mg t):aX P w K mg base aY 1 t.v5 t.uj ["number"] (kP 1 λxs=>decide (1652522221568<=xs.getD 0 0/\xs.getD 0 0<=1652522221583)):=by
 refine T.oo.fn.ok Of (λvs H Q E h=>?_) (λcdv A outer s0 H vs Q E hr h=>?_)
 .obtain⟨xs,hl,rfl,_⟩:=h
  simp[hl]
 .obtain⟨xs,hl,rfl,k⟩:=h
  obtain⟨n,rfl⟩:=bV hl
  refine⟨_,ao (aq (jj bB bB (aI rfl T.CT) (pv 0) (aI rfl T.C6))),?_⟩
  show dB _ _ [some (.int n)] H
  simp only[seval,aE]
  simpa using k
theorem oT(T:Txt K mg t):aX P w K mg base aY 1 t.vX t.uf ["number"] (kP 1 λxs=>decide (xs.getD 0 0/1099511627776%2=1)):=by
 refine T.lR.fn.ok Ob (λvs H Q E h=>?_) (λcdv A outer s0 H vs Q E hr h=>?_)
 .obtain⟨xs,hl,rfl,_⟩:=h
  simp[hl]
 .obtain⟨xs,hl,rfl,k⟩:=h
  obtain⟨n,rfl⟩:=bV hl
  refine⟨_,ao (aq (fC bb (cG me (cG oZ (pv 0) (aI rfl T.C1)) (aj)) (aj) (aQ _))),?_⟩
  show dB _ _ [some (.int n)] H
  simp only[seval,aE]
  refine⟨⟨by decide,by decide+kernel⟩,?_⟩
  simpa using k
def LF(t:Ad):Sp:=λvs H Q _=>∃(m:ae)(n:Int),vs=[.ref m.a,.int n]/\Own H (m.cells t)/\Q (.bl (decide (0<=n/\n<m.ports.length))) H
theorem kr(T:Txt K mg t):aX P w K mg base aY 1 t.v3 t.ui ["switch","number"] (LF t):=by
 refine T.i9.fn.ok Oe (λvs H Q E h=>?_) (λcdv A outer s0 H vs Q E hr h=>?_)
 .obtain⟨m,n,rfl,_⟩:=h
  rfl
 .obtain⟨m,n,rfl,hO,k⟩:=h
  refine⟨_,ao (aq (jj bB iB (aj) (pv 1) (bW dN rfl T.len PySem.boot_len (aa (ak (pv 0) rfl) ah)))),?_⟩
  show dB _ _ [some (.ref m.a),some (.int n)] H
  simp only[seval,ae.at t hO,ae.fK t hO,List.length_map]
  refine az (λh0=>?_) (λh0=>?_)
  .simpa[h0] using k
  .simpa[h0] using k
def LH(t:Ad):Sp:=λvs H Q _=>∃(m:ae)(n:Int),vs=[.ref m.a,.int n]/\Own H (m.cells t)/\Q (.bl (decide (n=-1\/(0<=n/\n<m.sides.length)))) H
theorem oV(T:Txt K mg t):aX P w K mg base aY 2 t.v8 t.um ["switch","number"] (LH t):=by
 refine T.lT.fn.ok Og (λvs H Q E h=>?_) (λcdv A outer s0 H vs Q E hr h=>?_)
 .obtain⟨m,n,rfl,_⟩:=h
  rfl
 .obtain⟨m,n,rfl,hO,k⟩:=h
  refine⟨_,ao (aq (mr (fC bb (pv 1) (aI rfl T.fN) (aQ _)) (kD (aD T.dO (dY T) (hr.mono (by decide)) rfl (aa (pv 0) (aa (pv 1) ah)))))),?_⟩
  show dB _ _ [some (.ref m.a),some (.int n)] H
  simp only[seval,aE]
  refine az (λh0=>?_) (λh0=>?_)
  .simpa[h0] using k
  .refine⟨m,n,rfl,hO,?_⟩
   simpa[h0] using k
def LD(t:Ad):Sp:=λvs H Q _=>∃(x:aA),vs=[.ref x.a]/\H x.a=some (.ins t.Side x.d (cR x))/\Q (.bl (!decide (eP x.s.lock=0))) H
theorem oU(T:Txt K mg t):aX P w K mg base aY 1 t.vZ t.uh ["side"] (LD t):=by
 refine T.lS.fn.ok Od (λvs H Q E h=>?_) (λcdv A outer s0 H vs Q E hr h=>?_)
 .obtain⟨m,rfl,_⟩:=h
  rfl
 .obtain⟨x,rfl,hO,k⟩:=h
  refine⟨_,ao (aq (fC fB (ak (pv 0) rfl) (aj) (aQ _))),?_⟩
  show dB _ _ [some (.ref x.a)] H
  simp only[seval,hO]
  exact k
def LS(t:Ad):Sp:=λvs H Q _=>∃(x:aA)(v:Int),vs=[.ref x.a,.int v]/\Own H (x.cells t)/\∀H',au H H'->Q (.bl (decide (x.isIn v))) H'
theorem oY(T:Txt K mg t):aX P w K mg base aY 1 t.wQ t.uV ["side","v"] (LS t):=by
 refine T.mS.fn.ok Om (λvs H Q E h=>?_) (λcdv A outer s0 H vs Q E hr h=>?_)
 .obtain⟨m,n,rfl,_⟩:=h
  rfl
 .obtain⟨x,v,rfl,hO,k⟩:=h
  refine⟨_,ao (aq (mr (fC bb (ak (pv 0) rfl) (pv 1) (aQ _)) (kD (fC o5 (pv 1) (mn rfl T.list (ak (pv 0) rfl)) rfl)))),?_⟩
  show dB _ _ [some (.ref x.a),some (.int v)] H
  simp only[seval,aA.at t hO]
  refine az (λh0=>?_) (λh0=>?_)
  .have q:=k H (au.refl H)
   rw[decide_eq_true (show x.isIn v from .inl h0)] at q
   exact q
  .refine⟨_,.inl (aA.dJ t hO),λl hl=>⟨l,x.pairs.map (·.2),v,rfl,rfl,ax.of (by rw[jw,List.map_map];exact aN),?_⟩⟩
   have q:=k _ (bp (au.refl H) hl (o:=.lst ((toK V.int x.pairs).map (·.2))))
   have e:decide (x.isIn v)=decide (v∈x.pairs.map (·.2)):=by
    by_cases h1:v∈x.pairs.map (·.2)
    .rw[decide_eq_true h1,decide_eq_true (show x.isIn v from .inr h1)]
    .rw[decide_eq_false h1,decide_eq_false (show¬x.isIn v from λz=>z.elim h0 h1)]
   rw[e] at q
   exact q
def LP(t:Ad):Sp:=λvs H Q _=>∃(m:ae)(q:Int),vs=[.ref m.a,.int q]/\Own H (m.cells t)/\m.ports.length<=64/\∀(H':Hp)(p:Addr),au H H'->H' p=some (.lst ((m.dE q).map λj:Nat=>V.int j))->Q (.ref p) H'
theorem oW(T:Txt K mg t):aX P w K mg base aY 1 t.wz t.uG ["switch","side"] (LP t):=by
 refine T.mx.fn.ok BM (λvs H Q E h=>?_) (λcdv A outer s0 H vs Q E hr h=>?_)
 .obtain⟨m,n,rfl,_⟩:=h
  rfl
 .obtain⟨m,q,rfl,hO,h64,k⟩:=h
  have nd:=BM.nd
  refine⟨_,ao (aq (iF rfl nd (IQ rfl T.enumerate (aa (ak (pv 0) rfl) ah)) (eY (own:=[("number",2),("port",3)]) (by show d_ ["switch","side","number","port"] (aK mM) _ _=true;decide+kernel)) (λ_ _ _ _ _=>ze K (n:=2) rfl (mw (cP (i:=2) nd rfl (Or.inl rfl)) (mw (cP (i:=3) nd rfl (Or.inl rfl)) (zf)))) (λ_ _ _ _ _=>iI (aU bb (gz K (pv 3) rfl) (pv 1) (aQ _))) (λ_ _ _ _ _=>pv 2))),?_⟩
  show dB _ _ [some (.ref m.a),some (.int q),none,none] H
  simp only[seval,ae.at t hO]
  refine⟨⟨_,ax.of (ae.fK t hO)⟩,λD hD=>FO (λi _=>if(m.ports[i]?.map λx=>oI x.p.side)=some q then some (V.int (i:Nat)) else none) hD (ax.of (ae.fK t hO)) (by rw[List.length_map];exact Nat.le_trans h64 (by decide)) ?_ ?_⟩
  .intro i x H1 T R hx hS hT hR
   rw[List.getElem?_map] at hx
   cases hp:m.ports[i]? with
   |none=>rw[hp] at hx;cases hx
   |some pt=>
    rw[hp] at hx
    obtain rfl:V.ref pt.a=x:=Option.some.inj hx
    have aP:=ba.at t ((ae.dZ hO hp).same hS)
    have aP2:upd H1 T (.tup [.int (i:Nat),.ref pt.a]) pt.a=some (.ins t.Port pt.d (cK pt)):=by rw[aF (cZ aP hT)];exact aP
    refine⟨T,_,rfl,dk.of aN,rfl,?_⟩
    simp only[hp] at hR
    simp only[seval,nZ,n6,wipe,List.map_cons,List.map_nil,aP2]
    refine az (λh0=>?_) (λh0=>?_)
    .have z:=hR _ (bp (au.refl H1) hT (o:=.tup [.int (i:Nat),.ref pt.a]))
     simp only[Option.map_some,h0] at z
     simpa using z
    .have z:=hR _ (bp (au.refl H1) hT (o:=.tup [.int (i:Nat),.ref pt.a]))
     simp only[Option.map_some,Option.some.injEq,h0] at z
     simpa using z
  .intro H' hS hD'
   refine k H' D hS ?_
   rw[hD',tH (λi=>if(m.ports[i]?.map λx=>oI x.p.side)=some q then some (V.int (i:Nat)) else none),List.length_map]
   unfold ae.dE
   rw[<-List.range_eq_range',<-List.filterMap_eq_filter,List.map_filterMap]
   congr 3
   funext j
   by_cases e:(m.ports[j]?.map λx=>oI x.p.side)=some q
   .simp[e,Option.guard]
   .simp[e,Option.guard]
theorem Iz{m:ae}{q:Int}{j:Nat}(h:j∈m.dE q):j<m.ports.length:=List.mem_range.mp (List.mem_filter.mp h).1
theorem yW(m:ae)(q:Int):(m.dE q).length<=m.ports.length:=by
 unfold ae.dE
 exact Nat.le_trans (List.length_filter_le _ _) (by rw[List.length_range];exact Nat.le_refl _)
theorem tG(f:V->Bool):∀(k:Nat)(xs:List V),bA (λ_ x=>if f x then some x else none) k xs=xs.filter f
 |_,[]=>rfl
 |k,x::r=>by
  have ih:=tG f (k+1) r
  rw[List.filter_cons]
  show(match(if f x then some x else none) with|some y=>y::bA (λ_ x=>if f x then some x else none) (k+1) r|none=>bA (λ_ x=>if f x then some x else none) (k+1) r)=_
  rw[ih]
  cases f x<;>rfl
def ae.isUp(m:ae):V->Bool
 |.int j=>decide ((m.ports[j.toNat]?.map λx=>x.p.up)=some true)
 |_=>false
def LL(t:Ad):Sp:=λvs H Q _=>∃(m:ae)(q:Int),vs=[.ref m.a,.int q]/\Own H (m.cells t)/\m.ports.length<=64/\∀(H':Hp)(p:Addr),au H H'->H' p=some (.lst ((m.eO q).map λj:Nat=>V.int j))->Q (.ref p) H'
theorem yK(T:Txt K mg t):aX P w K mg base aY 2 t.wd t.uw ["switch","side"] (LL t):=by
 refine T.oy.fn.ok BE (λvs H Q E h=>?_) (λcdv A outer s0 H vs Q E hr h=>?_)
 .obtain⟨m,n,rfl,_⟩:=h
  rfl
 .obtain⟨m,q,rfl,hO,h64,k⟩:=h
  have nd:=BE.nd
  refine⟨_,ao (aq (iF rfl nd (d3 (aD T.mx (oW T) (hr.mono (by decide)) rfl (aa (pv 0) (aa (pv 1) ah)))) (eY (own:=[("number",2)]) (by show d_ ["switch","side","number"] (aK mL) _ _=true;decide+kernel)) (λ_ _ _ _ _=>cP (i:=2) nd rfl (Or.inl rfl)) (λ_ _ _ _ _=>iI (aU bb (gz K (aO bP (gz K (pv 0) rfl) (pv 2) (λ_ _=>rfl)) rfl) (aj) (aQ _))) (λ_ _ _ _ _=>pv 2))),?_⟩
  show dB _ _ [some (.ref m.a),some (.int q),none] H
  simp only[seval,aE]
  refine⟨m,q,rfl,hO,h64,λH1 p hS1 hp=>?_⟩
  simp only[seval,aE]
  have hl:((m.dE q).map λj:Nat=>V.int j).length<=sizeLine:=by rw[List.length_map];exact Nat.le_trans (yW m q) (Nat.le_trans h64 (by decide))
  refine⟨⟨_,ax.of hp⟩,λD hD=>ke (λ_ x=>if m.isUp x=true then some x else none) hD (ax.of hp) hl ?_ ?_⟩
  .intro i x H2 R hx hS hR
   rw[List.getElem?_map] at hx
   cases hj:(m.dE q)[i]? with
   |none=>rw[hj] at hx;cases hx
   |some j=>
    rw[hj] at hx
    obtain rfl:V.int (j:Nat)=x:=Option.some.inj hx
    have hlt:=Iz (List.mem_of_getElem? hj)
    obtain⟨pt,hpt,hat⟩:=dM (f:=λp:ba=>V.ref p.a) (l:=m.ports) (n:=(j:Int)) (by omega) (by omega)
    have hpt:m.ports[j]? =some pt:=hpt
    have o2:=(hO.same hS1).same hS
    have aP:=ba.at t (ae.dZ o2 hpt)
    simp only[seval,wipe,List.map_cons,List.map_nil,ae.at t o2,ae.fK t o2,hat,aP]
    have z:=hR H2 (au.refl H2)
    simp only[ae.isUp,Int.toNat_natCast,hpt,Option.map_some] at z
    have e:decide (bI pt.p.up=1)=decide (some pt.p.up=some true):=by cases pt.p.up<;>rfl
    cases hu:pt.p.up with
    |true=>rw[hu] at z;simpa[bI] using z
    |false=>rw[hu] at z;simpa[bI] using z
  .intro H' hS hD'
   rw[tG m.isUp,List.filter_map] at hD'
   refine k H' D (hS1.trans hS) ?_
   rw[hD'];rfl
def Am(t:Ad):Sp:=λvs H Q _=>∃(m:ae)(q:Int),vs=[.ref m.a,.int q]/\Own H (m.cells t)/\m.ports.length<=64/\∀(H':Hp),au H H'->Q (.bl (m.live q)) H'
theorem oR(T:Txt K mg t):aX P w K mg base aY 3 t.vU t.uc ["switch","side"] (Am t):=by
 refine T.lL.fn.ok N_ (λvs H Q E h=>?_) (λcdv A outer s0 H vs Q E hr h=>?_)
 .obtain⟨m,n,rfl,_⟩:=h
  rfl
 .obtain⟨m,q,rfl,hO,h64,k⟩:=h
  refine⟨_,ao (aq (fC md (bW dN rfl T.len PySem.boot_len (aa (aD T.oy (yK T) (hr.mono (by decide)) rfl (aa (pv 0) (aa (pv 1) ah))) ah)) (aj) (aQ _))),?_⟩
  show dB _ _ [some (.ref m.a),some (.int q)] H
  simp only[seval,aE]
  refine⟨m,q,rfl,hO,h64,λH1 p hS1 hp=>?_⟩
  simp only[seval,hp,List.length_map]
  have z:=k H1 hS1
  have e:m.live q=decide (((m.eO q).length:Int)>0):=decide_eq_decide.mpr (by omega)
  rw[e] at z
  exact z
def LV(t:Ad):Sp:=λvs H Q _=>∃(v:af),vs=[.ref v.a]/\Own H (v.cells t)/\Q (.int ((v.rows.length:Int)+(v.groups.length:Int))) H
theorem yN(T:Txt K mg t):aX P w K mg base aY 1 t.wU t.uX ["vlan"] (LV t):=by
 refine T.size_of.fn.ok Oo (λvs H Q E h=>?_) (λcdv A outer s0 H vs Q E hr h=>?_)
 .obtain⟨m,rfl,_⟩:=h
  rfl
 .obtain⟨v,rfl,hO,k⟩:=h
  refine⟨_,ao (aq (cG ez (bW gP rfl T.len PySem.boot_len (aa (ak (pv 0) rfl) ah)) (bW gP rfl T.len PySem.boot_len (aa (ak (pv 0) rfl) ah)))),?_⟩
  show dB _ _ [some (.ref v.a)] H
  simp only[seval,af.at t hO]
  refine⟨_,af.cD t hO,_,af.dC t hO,?_⟩
  rw[dj,dj]
  exact k
def An(t:Ad):Sp:=λvs H Q _=>∃(m:ae)(v:af),vs=[.ref m.a,.ref v.a]/\Own H (m.cells t)/\Own H (v.cells t)/\Q (.bl (decide (m.cap<=v.rows.length+v.groups.length))) H
theorem oS(T:Txt K mg t):aX P w K mg base aY 2 t.vW t.ue ["switch","vlan"] (An t):=by
 refine T.lQ.fn.ok Oa (λvs H Q E h=>?_) (λcdv A outer s0 H vs Q E hr h=>?_)
 .obtain⟨m,v,rfl,_⟩:=h
  rfl
 .obtain⟨m,v,rfl,hO,hV,k⟩:=h
  refine⟨_,ao (aq (fC jf (aD T.size_of (yN T) (hr.mono (by decide)) rfl (aa (pv 1) ah)) (ak (pv 0) rfl) (aQ _))),?_⟩
  show dB _ _ [some (.ref m.a),some (.ref v.a)] H
  simp only[seval,aE]
  refine⟨v,rfl,hV,?_⟩
  simp only[seval,ae.at t hO]
  have e:decide ((v.rows.length:Int)+(v.groups.length:Int)>=(m.cap:Int))=decide (m.cap<=v.rows.length+v.groups.length):=decide_eq_decide.mpr (by omega)
  rw[e];exact k
def kN(t:Ad):Sp:=λvs H Q _=>∃(v:af)(la:Addr)(ids:List Int),vs=[.ref v.a,.ref la]/\Own H (v.cells t)/\(v.rows.map (·.1)).Nodup/\v.rows.length<sizeLine/\H la=some (.lst (ids.map V.int))/\la∉adr (v.cells t)/\∀H',Step H (v.cells t) H' ((v.forget ids).cells t)->Q (.int ((v.rows.length:Int) -((v.forget ids).rows.length:Int))) H'
def cu(f:Int×bo->Bool)(l:IM bo)(i:Nat):IM bo:=(l.take i).filter f++l.drop i
theorem xi(f:Int×bo->Bool)(l:IM bo)(i:Nat):(cu f l i).Sublist l:=by
 have h:(l.take i++l.drop i)=l:=List.take_append_drop i l
 have q:=(List.filter_sublist (l:=l.take i) (p:=f)).append (List.Sublist.refl (l.drop i))
 rw[h] at q
 exact q
theorem xh{f:Int×bo->Bool}{l:IM bo}(nd:(l.map (·.1)).Nodup){i:Nat}{p:Int×bo}(h:l[i]? =some p):lk (cu f l i) p.1=some p.2/\(f p=true->cu f l (i+1)=cu f l i)/\(f p=false->cu f l (i+1)=a9 (cu f l i) p.1):=by
 have hi:i<l.length:=(List.getElem?_eq_some_iff.mp h).1
 have hd:l.drop i=p::l.drop (i+1):=by
  rw[List.drop_eq_getElem_cons hi,(List.getElem?_eq_some_iff.mp h).2]
 have ht:l.take (i+1)=l.take i++[p]:=by rw[List.take_add_one,h];rfl
 have nd2:((cu f l i).map (·.1)).Nodup:=((xi f l i).map _).nodup nd
 have hm:p∈cu f l i:=List.mem_append_right _ (by rw[hd];exact List.mem_cons_self)
 refine⟨iz nd2 hm,λhf=>?_,λhf=>?_⟩
 .unfold cu
  rw[ht,List.filter_append,List.filter_cons,if_pos hf,List.filter_nil,hd,List.append_assoc];rfl
 .have e:cu f l i=(l.take i).filter f++p::l.drop (i+1):=by unfold cu;rw[hd]
  have n1:p.1∉((l.take i).filter f).map (·.1):=λz=>by
   rw[e,List.map_append,List.map_cons] at nd2
   exact(List.nodup_append.mp nd2).2.2 _ z _ List.mem_cons_self rfl
  have n2:p.1∉(l.drop (i+1)).map (·.1):=by
   rw[e,List.map_append,List.map_cons] at nd2
   exact(List.nodup_cons.mp (List.nodup_append.mp nd2).2.1).1
  have d1:a9 ((l.take i).filter f) p.1=(l.take i).filter f:=i4 n1
  have d2:a9 (l.drop (i+1)) p.1=l.drop (i+1):=i4 n2
  rw[e]
  unfold a9 at d1 d2⊢
  rw[List.filter_append,d1,List.filter_cons,if_neg (by simp),d2]
  unfold cu
  rw[ht,List.filter_append,List.filter_cons,if_neg (by simp[hf]),List.filter_nil,List.append_nil]
theorem ko(T:Txt K mg t):aX P w K mg base aY 1 t.vS t.ua ["vlan","sides"] (kN t):=by
 refine T.i6.fn.ok Bw (λvs H Q E h=>?_) (λcdv A outer s0 H vs Q E hr h=>?_)
 .obtain⟨m,a,n,rfl,_⟩:=h
  rfl
 .obtain⟨v,la,ids,rfl,hO,ndk,hlen,hla,hna,k⟩:=h
  have hu:=bC hr
  have nd:=Bw.nd
  refine⟨_,ai (bg (i:=2) nd rfl (Or.inl rfl) (aj)) (ai (fG PassesOwn.never rfl (d3 (mj (lj rfl) rfl T.list boot_list (aa (ak (pv 0) rfl) ah))) (cP (i:=3) nd rfl (Or.inl rfl)) (ai (bg (i:=4) nd rfl (Or.inl rfl) (bT hu (ak (pv 0) rfl) (pv 3) (λ_ _=>rfl))) (ao (aw (PW.pt (eR (aU fB (ak (pv 4) rfl) (aI rfl T.k_) (aQ _)) (eT (aU o5 (ak (pv 4) rfl) (pv 1) rfl)))) (ai (cB (iD (ak (pv 0) rfl) (pv 3) ⟨rfl,rfl,rfl,rfl⟩)) (ao (zp (i:=2) nd rfl (Or.inl rfl) (aj) lP))) (ay))))) (ao (aq (pv 2)))),?_⟩
  show aW _ _ _ [some (.ref v.a),some (.ref la),none,none,none] H
  simp only[seval,af.at t hO]
  refine⟨_,.inl (af.cD t hO),λL hL=>?_⟩
  rw[gJ]
  have hLv:L∉adr (v.cells t):=hO.none hL
  have sL:au H (upd H L (.lst (v.rows.map λp=>V.int p.1))):=bp (au.refl H) hL
  refine⟨⟨_,ax.of aN⟩,gm (K:=K) (a:=L) (xs:=v.rows.map λp=>V.int p.1) (λi σ H'=>∃a b:Option V,σ=[some (.ref v.a),some (.ref la),some (.int ((v.rows.length:Int) -((cu (keepR ids) v.rows i).length:Int))),a,b]/\Step (upd H L (.lst (v.rows.map λp=>V.int p.1))) (v.cells t) H' ((v.wr (cu (keepR ids) v.rows i)).cells t)) ⟨none,none,by show _=[_,_,some (V.int ((v.rows.length:Int) -(([]++v.rows).length:Int))),_,_];simp,Step.refl (hO.same sL)⟩ (λi σ H' _⟨_,_,_,s⟩=>ax.of (s.keep aN hLv)) ?_ ?_⟩
  .rintro i y σ H' hy ⟨a,b,rfl,s⟩
   rw[List.getElem?_map] at hy
   cases hp:v.rows[i]? with
   |none=>rw[hp] at hy;cases hy
   |some p=>
    rw[hp] at hy
    obtain rfl:V.int p.1=y:=Option.some.inj hy
    obtain⟨g1,g2,g3⟩:=xh (f:=keepR ids) ndk hp
    have o1:=s.own
    have aV:H' v.a=some (.ins t.Vlan v.d (bM v)):=af.at (m:=v.wr (cu (keepR ids) v.rows i)) t o1
    have aL:H' v.bO=some (.dK (toK bE (cu (keepR ids) v.rows i))):=af.cD t o1
    have gr:=bu aL p.1
    have aR:=af.fj t o1 (k:=p.1) g1
    have hla1:H' la=some (.lst (ids.map V.int)):=s.keep (sL _ _ hla) hna
    simp only[seval,aV]
    refine⟨_,by rw[g1] at gr;exact gr,?_⟩
    simp only[seval,aV,aR]
    have kf:p.2.r.kind.number=2↔p.2.r.kind=.fixed:=by cases p.2.r.kind<;>decide
    refine az (λh0=>?_) (λh0=>?_)
    .refine⟨la,ids,_,rfl,rfl,ax.of hla1,?_⟩
     simp only[seval,aV]
     refine az (λh1=>?_) (λh1=>?_)
     .have hf:keepR ids p=false:=by unfold keepR;simp[<-kf,h0,h1]
      refine⟨.inl ⟨_,.inl aL⟩,_,aL,Sum.inl p.1,rfl,_,(by rw[fI,g1];rfl),?_⟩
      have ndf:((cu (keepR ids) v.rows i).map (·.1)).Nodup:=((xi _ _ _).map _).nodup ndk
      have dl:=DP ndf g1
      rw[gf,g3 hf]
      refine⟨?_,s.trans (af.rJ (v:=v.wr (cu (keepR ids) v.rows i)) (rows:=a9 (cu (keepR ids) v.rows i) p.1) o1 List.filter_sublist)⟩
      have e:(v.rows.length:Int) -((cu (keepR ids) v.rows i).length:Int)+1=(v.rows.length:Int) -((a9 (cu (keepR ids) v.rows i) p.1).length:Int):=by omega
      rw[e]
     .have hf:keepR ids p=true:=by unfold keepR;simp[<-kf,h0,h1]
      rw[g2 hf];exact⟨rfl,s⟩
    .have hf:keepR ids p=true:=by unfold keepR;simp[<-kf,Decidable.not_not.mp h0]
     rw[g2 hf];exact⟨rfl,s⟩
  .rintro σ H' ⟨a,b,rfl,s⟩
   have e:cu (keepR ids) v.rows (v.rows.map λp=>V.int p.1).length=v.rows.filter (keepR ids):=by
    unfold cu
    rw[List.length_map,List.take_length,List.drop_length,List.append_nil]
   rw[e] at s⊢
   simp only[seval,aE]
   exact k H' ((Step.same hO sL).trans s)
def Lz(t:Ad):Sp:=λvs H Q _=>∃(m:ae)(la:Addr)(ids:List Int),vs=[.ref m.a,.ref la]/\Own H (m.cells t)/\nq m/\H la=some (.lst (ids.map V.int))/\la∉adr (m.cells t)/\∀H',Step H (m.cells t) H' ((m.forget ids).cells t)->Q .bj H'
def h9{α:Type}(f:α->α)(l:IM α)(i:Nat):IM α:=(l.take i).map (λp=>(p.1,f p.2))++l.drop i
theorem MO{α:Type}(f:α->α)(l:IM α):h9 f l l.length=l.map λp=>(p.1,f p.2):=by
 unfold h9;rw[List.take_length,List.drop_length,List.append_nil]
theorem MP{α:Type}(f:α->α)(c:α->Cells){l:IM α}{i:Nat}{p:Int×α}(h:l[i]? =some p):∃R,((h9 f l i).flatMap λp=>c p.2).Perm (c p.2++R)/\((h9 f l (i+1)).flatMap λp=>c p.2).Perm (c (f p.2)++R):=by
 have hi:i<l.length:=(List.getElem?_eq_some_iff.mp h).1
 have hd:l.drop i=p::l.drop (i+1):=by
  rw[List.drop_eq_getElem_cons hi,(List.getElem?_eq_some_iff.mp h).2]
 have ht:l.take (i+1)=l.take i++[p]:=by rw[List.take_add_one,h];rfl
 refine⟨(((l.take i).map λp=>(p.1,f p.2)).flatMap λp=>c p.2)++(l.drop (i+1)).flatMap λp=>c p.2,?_,?_⟩
 .unfold h9
  rw[hd,List.flatMap_append,List.flatMap_cons]
  exact List.perm_append_comm_assoc _ _ _
 .unfold h9
  rw[ht,List.map_append,List.map_cons,List.map_nil,List.append_assoc,List.flatMap_append,List.singleton_append,List.flatMap_cons]
  exact List.perm_append_comm_assoc _ _ _
theorem ae.eI(t:Ad)(m:ae):m.cells t=(m.base t++(m.ports.flatMap (ba.cells t)++m.sides.flatMap (aA.cells t)))++((m.bN,.dK (toK bK m.vlans))::m.vlans.flatMap λp=>p.2.cells t):=by
 unfold ae.cells
 simp only[List.append_assoc]
theorem oQ(T:Txt K mg t):aX P w K mg base aY 2 t.vR t.t_ ["switch","sides"] (Lz t):=by
 refine T.lH.fn.ok Bv (λvs H Q E h=>?_) (λcdv A outer s0 H vs Q E hr h=>?_)
 .obtain⟨m,a,n,rfl,_⟩:=h
  rfl
 .obtain⟨m,la,ids,rfl,hO,td,hla,hna,k⟩:=h
  have nd:=Bv.nd
  refine⟨_,ao (mz (fG PassesOwn.never rfl (pd (ak (pv 0) rfl)) (cP (i:=2) nd rfl (Or.inl rfl)) (ao (cB (aD T.i6 (ko T) (hr.mono (by decide)) rfl (aa (pv 2) (aa (pv 1) ah))))))),?_⟩
  show AS _ _ [some (.ref m.a),some (.ref la),none] H
  refine⟨m.bN,_,ae.bJ t hO,trivial,λod=>?_⟩
  have hO2:=hO
  rw[ae.eI] at hO2
  have hav:m.a≠m.bN:=fA (ae.at t hO) (ae.bJ t hO) (by intro z;cases z)
  have hlv:la≠m.bN:=fA hla (ae.bJ t hO) (by intro z;cases z)
  have aM:upd H m.bN (.bz od (.dK (toK bK m.vlans))) m.a=some (.ins t.Switch m.d (cC m)):=by rw[aF hav];exact ae.at t hO
  have hdC:m.bN∉adr (m.vlans.flatMap λp=>p.2.cells t):=λz=>(List.nodup_cons.mp hO2.right.nd).1 z
  have oC:Own (upd H m.bN (.bz od (.dK (toK bK m.vlans)))) (m.vlans.flatMap λp=>p.2.cells t):=by
   have q:Own H ([(m.bN,HO.dK (toK bK m.vlans))]++m.vlans.flatMap λp=>p.2.cells t):=hO2.right
   refine⟨λc hc=>?_,q.right.nd⟩
   rw[aF (λz=>hdC (by rw[<-z];exact gW hc))]
   exact q.right.at_ c hc
  simp only[seval,aM]
  refine xr (λi σ H'=>∃a:Option V,σ=[some (.ref m.a),some (.ref la),a]/\Step (upd H m.bN (.bz od (.dK (toK bK m.vlans)))) (m.vlans.flatMap λp=>p.2.cells t) H' ((h9 (λv=>v.forget ids) m.vlans i).flatMap λp=>p.2.cells t)) ⟨none,rfl,Step.refl oC⟩ (λi σ H' _⟨_,_,s⟩=>s.keep aN hdC) ?_ ?_
  .rintro i kk y σ H' hy ⟨a,rfl,s⟩
   unfold toK at hy
   rw[List.getElem?_map] at hy
   cases hp:m.vlans[i]? with
   |none=>rw[hp] at hy;cases hy
   |some p=>
    rw[hp] at hy
    obtain⟨rfl,rfl⟩:Sum.inl p.1=kk/\V.ref p.2.a=y:=by cases hy;exact⟨rfl,rfl⟩
    obtain⟨R,p1,p2⟩:=MP (λv:af=>v.forget ids) (af.cells t) hp
    have hmem:p∈m.vlans:=List.mem_of_getElem? hp
    have hlaC:la∉adr (m.vlans.flatMap λp=>p.2.cells t):=λz=>hna (by
     rw[ae.eI,dm]
     exact List.mem_append_right _ (List.mem_cons_of_mem _ z))
    have hla1:H' la=some (.lst (ids.map V.int)):=s.keep (by rw[aF hlv];exact hla) hlaC
    have o1:=s.own.perm p1
    simp only[seval,aE]
    refine⟨p.2,la,ids,rfl,o1.left,(td.rk p hmem).1,(td.rk p hmem).2,hla1,λz=>?_,λH2 s2=>s.trans (Step.focus s.own p1 p2 s2)⟩
    have z2:la∈adr ((h9 (λv:af=>v.forget ids) m.vlans i).flatMap λp=>p.2.cells t):=(p1.map _).mem_iff.mpr (by
     show la∈adr (af.cells t p.2++R)
     rw[dm];exact List.mem_append_left _ z)
    rcases s.new la z2 with y|y
    .exact hlaC y
    .rw[aF hlv,hla] at y;cases y
  .rintro σ H' ⟨a,rfl,s⟩
   refine⟨s.keep aN hdC,?_⟩
   rw[dj,MO] at s
   have u:=Step.unlock hO2 s
   refine k _ ?_
   rw[ae.eI t m,ae.eI t (m.forget ids)]
   have e:toK bK (m.forget ids).vlans=toK bK m.vlans:=by
    unfold toK
    show((m.vlans.map λp=>(p.1,p.2.forget ids)).map _)=_
    rw[List.map_map];rfl
   rw[e]
   exact u
def Ap(t:Ad):Sp:=λvs H Q _=>∃(m:ae),vs=[.ref m.a]/\Own H (m.cells t)/\nq m/\m.ports.length<=64/\m.sides.length<=64/\∀H',Step H (m.cells t) H' ((m.forget m.dead).cells t)->Q .bj H'
theorem oX(T:Txt K mg t):aX P w K mg base aY 4 t.wN t.uT ["switch"] (Ap t):=by
 refine T.settle.fn.ok B0 (λvs H Q E h=>?_) (λcdv A outer s0 H vs Q E hr h=>?_)
 .obtain⟨m,rfl,_⟩:=h
  rfl
 .obtain⟨m,rfl,hO,td,h64,h65,k⟩:=h
  have nd:=B0.nd
  refine⟨_,ai (kG (i:=1) rfl nd rfl rfl (kT rfl rfl rfl (by decide+kernel)) (pb rfl T.range (aa (bW dN rfl T.len PySem.boot_len (aa (ak (pv 0) rfl) ah)) ah)) (eY (own:=[("side",2)]) (by show d_ ["switch","dead","side"] (aK mN) _ _=true;decide+kernel)) (λ_ _ _ _ _=>cP (i:=2) nd rfl (Or.inl rfl)) (λ_ _ _ _ _=>iI (bF (bD (aD T.lL (oR T) (hr.mono (by decide)) rfl (aa (pv 0) (aa (pv 2) ah)))))) (λ_ _ _ _ _=>pv 2)) (ao (cB (aD T.lH (oQ T) (hr.mono (by decide)) rfl (aa (pv 0) (aa (pv 1) ah))))),?_⟩
  show aW _ _ _ [some (.ref m.a),none,none] H
  simp only[seval,ae.at t hO,ae.bZ t hO,List.length_map]
  refine⟨by omega,by omega,λD hD=>FQ (λi x=>if m.live i then none else some x) hD (Nat.le_trans (by simpa using h65) (by decide)) ?_ ?_⟩
  .intro i H1 R hi hS hR
   have o1:=hO.same hS
   simp only[seval,wipe,List.map_cons,List.map_nil]
   refine⟨m,_,rfl,o1,h64,λH2 hS2=>?_⟩
   have z:=hR H2 hS2
   simp only[seval,aE]
   have e:(0:Int)+(i:Nat)=(i:Nat):=Int.zero_add _
   rw[e] at z⊢
   cases hl:m.live (i:Nat) with
   |true=>rw[hl] at z;simpa using z
   |false=>rw[hl] at z;simpa using z
  .intro H1 hS hD1
   have e:bA (λi x=>if m.live (i:Nat) then none else some x) 0 ((List.range ((m.sides.length:Int)).toNat).map λj:Nat=>V.int (0+(j:Nat)))=m.dead.map V.int:=by
    rw[Int.toNat_natCast]
    have g:∀(l:List Nat)(k:Nat),(∀j,l[j]? =some (k+j)\/l[j]? =none)->bA (λi x=>if m.live (i:Nat) then none else some x) k (l.map λj:Nat=>V.int (0+(j:Nat)))=(l.filter λ(q:Nat)=>!m.live q).map λ(q:Nat)=>V.int q:=by
     intro l
     induction l with
     |nil=>intro k _;rfl
     |cons a l ih=>
      intro k hk
      have ha:a=k:=by
       rcases hk 0 with z|z
       .simpa using z
       .simp at z
      subst ha
      have ih':=ih (a+1) λj=>by
       have z:=hk (j+1)
       simp only[List.getElem?_cons_succ] at z
       have e:a+(j+1)=a+1+j:=by omega
       rw[e] at z;exact z
      have e1:(0:Int)+(a:Nat)=(a:Nat):=Int.zero_add _
      show bA _ a (V.int (0+(a:Nat))::l.map λj:Nat=>V.int (0+(j:Nat)))=_
      unfold bA
      rw[ih',e1,List.filter_cons]
      cases hl:m.live (a:Nat)<;>simp
    rw[g _ 0 (λj=>?_)]
    .unfold ae.dead;rw[List.map_map];rfl
    .by_cases hj:j<m.sides.length
     .exact .inl (by rw[List.getElem?_range hj,Nat.zero_add])
     .exact .inr (List.getElem?_eq_none (by rw[List.length_range];omega))
   rw[e] at hD1
   simp only[seval,aE]
   have s1:=Step.same hO hS
   exact⟨m,D,m.dead,rfl,s1.own,td,hD1,hO.none hD,λH2 s2=>k H2 (s1.trans s2)⟩
end
end Sw
namespace Sw
open PySem PySem.Spec PyProof.Rows L2
section
variable{P:Program}{w:World}{K:PySem.W.Frag}{mg:Str->Option Value}{base:Heap}{t:Ad}
theorem sM{x:Int}(h:0<=x/\x<=1):x=bI (x==1):=by
 have:x=0\/x=1:=by omega
 rcases this with rfl|rfl<;>rfl
theorem jn{H:Hp}{m:ae}{i:Nat}{x y:ba}(h:Own H (m.cells t))(hi:m.ports[i]? =some x)(ha:y.a=x.a)(hd:y.d=x.d)(hp:y.gh=x.gh)(hq:y.p.drops=x.p.drops){fs:List (Str×V)}(hf:fs=cK y):Step H (m.cells t) (upd H x.a (.ins t.Port x.d fs)) ((m.setPort i y).cells t):=by
 have o:=ae.dZ h hi
 refine ae.Ar h hi ha (Step.focus (C:=[(x.a,.ins t.Port x.d (cK x))]) (C':=[(x.a,.ins t.Port x.d fs)]) (R:=[(x.gh,.lst (x.p.drops.map λ(n:Nat)=>V.int n))]) o (List.Perm.refl _) ?_ (Step.wr (ba.at t o)))
 unfold ba.cells
 rw[ha,hd,hp,hq,hf]
 exact List.Perm.refl _
theorem F_{m:ae}{q:Int}{j:Nat}{x:ba}(h:m.ports[j]? =some x):j∈m.dE q↔oI x.p.side=q:=by
 unfold ae.dE
 rw[List.mem_filter,List.mem_range,h]
 constructor
 .intro z;simpa using z.2
 .intro z;exact⟨(List.getElem?_eq_some_iff.mp h).1,by simp[z]⟩
theorem HS(T:Txt K mg t):aX P w K mg base aY 2 t.wF t.uL ["switch","number","x"] (cn t 2 λxs=>.apart (xs.getD 0 0) (xs.getD 1 0)):=by
 refine T.z_.fn.ok BR (λvs H Q E h=>?_) (λcdv A outer s0 H vs Q E hr h=>?_)
 .obtain⟨m,s,xs,hl,rfl,_⟩:=h
  simp[hl]
 .obtain⟨m,s,xs,hl,rfl,hO,rep,k⟩:=h
  obtain⟨n,x,rfl⟩:=cw hl
  have hu:=bC hr
  have nd:=BR.nd
  have k:Kt t H m (Vbcnab.doing s (.apart n x)) Q:=k
  simp only[Vbcnab.doing,ck rep,rep.isPort,rep.isVlan,bS] at k
  refine⟨_,ai (aw (bF (bD (aD T.dO (dY T) (hr.mono (by decide)) rfl (aa (pv 0) (aa (pv 1) ah))))) (ao (aq (aB (aa (bf bh (aj)) ah)))) (ay)) (ai (aw (bF (c9 bB bB (aj) (pv 2) (aj))) (ao (aq (aB (aa (bf bh (aj)) ah)))) (ay)) (ai (bg (i:=3) nd rfl (Or.inl rfl) (aO bP (ak (pv 0) rfl) (pv 1) (λ_ _=>rfl))) (ai (bx (pv 3) (pv 2) rfl) (ao (aq (aB (aa (aj) ah))))))),?_⟩
  show aW _ _ _ [some (.ref m.a),some (.int n),some (.int x),none] H
  simp only[seval,aE]
  refine⟨m,n,rfl,hO,?_⟩
  simp only[seval,ae.at t hO,ae.bZ t hO]
  refine az (λh0=>k.fin (Step.refl hO) rfl (if_pos (decide_eq_false h0)) rep rfl) (λh0=>?_)
  have h0:=Decidable.not_not.mp h0
  rw[if_neg (by simp[h0])] at k
  obtain⟨sd,hsd,hat⟩:=dM (f:=λp:aA=>V.ref p.a) h0.1 h0.2
  simp only[seval,hat,aA.at t (ae.cx hO hsd)]
  refine az (λh1=>k.fin (Step.refl hO) rfl (if_pos (decide_eq_false h1)) rep rfl) (λh1=>?_)
  have h1:=Decidable.not_not.mp h1
  rw[if_neg (by simp[h1])] at k
  refine k.fin (iL (y:={sd with s:={sd.s with apart:=x==1} }) hO hsd rfl rfl rfl rfl ?_) rfl rfl (jk rep hsd (λd=>{d with apart:=x==1}) rfl rfl (rep.d6 hsd).gu) rfl
  conv=>lhs;rw[sM h1]
  rfl
theorem HY(T:Txt K mg t):aX P w K mg base aY 2 t.wK t.uQ ["switch","number","r"] (cn t 2 λxs=>.rank (xs.getD 0 0) (xs.getD 1 0)):=by
 refine T.Af.fn.ok BX (λvs H Q E h=>?_) (λcdv A outer s0 H vs Q E hr h=>?_)
 .obtain⟨m,s,xs,hl,rfl,_⟩:=h
  simp[hl]
 .obtain⟨m,s,xs,hl,rfl,hO,rep,k⟩:=h
  obtain⟨n,x,rfl⟩:=cw hl
  have hu:=bC hr
  have nd:=BX.nd
  have k:Kt t H m (Vbcnab.doing s (.rank n x)) Q:=k
  simp only[Vbcnab.doing,ck rep,rep.isPort,rep.isVlan,bS] at k
  refine⟨_,ai (aw (bF (bD (aD T.dO (dY T) (hr.mono (by decide)) rfl (aa (pv 0) (aa (pv 1) ah))))) (ao (aq (aB (aa (bf bh (aj)) ah)))) (ay)) (ai (aw (bF (c9 bB bB (aj) (pv 2) (aI rfl T.sW))) (ao (aq (aB (aa (bf bh (aj)) ah)))) (ay)) (ai (bg (i:=3) nd rfl (Or.inl rfl) (aO bP (ak (pv 0) rfl) (pv 1) (λ_ _=>rfl))) (ai (bx (pv 3) (pv 2) rfl) (ao (aq (aB (aa (aj) ah))))))),?_⟩
  show aW _ _ _ [some (.ref m.a),some (.int n),some (.int x),none] H
  simp only[seval,aE]
  refine⟨m,n,rfl,hO,?_⟩
  simp only[seval,ae.at t hO,ae.bZ t hO]
  refine az (λh0=>k.fin (Step.refl hO) rfl (if_pos (decide_eq_false h0)) rep rfl) (λh0=>?_)
  have h0:=Decidable.not_not.mp h0
  rw[if_neg (by simp[h0])] at k
  obtain⟨sd,hsd,hat⟩:=dM (f:=λp:aA=>V.ref p.a) h0.1 h0.2
  simp only[seval,hat,aA.at t (ae.cx hO hsd)]
  refine az (λh1=>k.fin (Step.refl hO) rfl (if_pos (decide_eq_false h1)) rep rfl) (λh1=>?_)
  have h1:=Decidable.not_not.mp h1
  rw[if_neg (by simp[h1])] at k
  refine k.fin (iL (y:={sd with s:={sd.s with rank:=x.toNat} }) hO hsd rfl rfl rfl rfl ?_) rfl rfl (jk rep hsd (λd=>{d with rank:=x.toNat}) rfl rfl (rep.d6 hsd).gu) rfl
  have e:x=(x.toNat:Int):=by omega
  conv=>lhs;rw[e]
  rfl
theorem HZ(T:Txt K mg t):aX P w K mg base aY 2 t.wL t.uR ["switch","number","n"] (cn t 2 λxs=>.storm (xs.getD 0 0) (xs.getD 1 0)):=by
 refine T.Ag.fn.ok BY (λvs H Q E h=>?_) (λcdv A outer s0 H vs Q E hr h=>?_)
 .obtain⟨m,s,xs,hl,rfl,_⟩:=h
  simp[hl]
 .obtain⟨m,s,xs,hl,rfl,hO,rep,k⟩:=h
  obtain⟨n,x,rfl⟩:=cw hl
  have hu:=bC hr
  have nd:=BY.nd
  have k:Kt t H m (Vbcnab.doing s (.storm n x)) Q:=k
  simp only[Vbcnab.doing,ck rep,rep.isPort,rep.isVlan,bS] at k
  refine⟨_,ai (aw (bF (bD (aD T.dO (dY T) (hr.mono (by decide)) rfl (aa (pv 0) (aa (pv 1) ah))))) (ao (aq (aB (aa (bf bh (aj)) ah)))) (ay)) (ai (aw (bF (c9 bB bB (aI rfl T.nH) (pv 2) (aI rfl T.C2))) (ao (aq (aB (aa (bf bh (aj)) ah)))) (ay)) (ai (bg (i:=3) nd rfl (Or.inl rfl) (aO bP (ak (pv 0) rfl) (pv 1) (λ_ _=>rfl))) (ai (bx (pv 3) (pv 2) rfl) (ao (aq (aB (aa (aj) ah))))))),?_⟩
  show aW _ _ _ [some (.ref m.a),some (.int n),some (.int x),none] H
  simp only[seval,aE]
  refine⟨m,n,rfl,hO,?_⟩
  simp only[seval,ae.at t hO,ae.bZ t hO]
  refine az (λh0=>k.fin (Step.refl hO) rfl (if_pos (decide_eq_false h0)) rep rfl) (λh0=>?_)
  have h0:=Decidable.not_not.mp h0
  rw[if_neg (by simp[h0])] at k
  obtain⟨sd,hsd,hat⟩:=dM (f:=λp:aA=>V.ref p.a) h0.1 h0.2
  simp only[seval,hat,aA.at t (ae.cx hO hsd)]
  refine az (λh1=>k.fin (Step.refl hO) rfl (if_pos (decide_eq_false h1)) rep rfl) (λh1=>?_)
  have h1:=Decidable.not_not.mp h1
  rw[if_neg (by simp[h1])] at k
  refine k.fin (iL (y:={sd with s:={sd.s with storm:=if x=-1 then none else some x.toNat} }) hO hsd rfl rfl rfl rfl ?_) rfl rfl (jk rep hsd (λd=>{d with storm:=if x=-1 then none else some x.toNat}) rfl rfl (rep.d6 hsd).gu) rfl
  have e:x=oI (if x=-1 then none else some x.toNat):=by
   by_cases z:x=-1
   .rw[if_pos z,z];rfl
   .rw[if_neg z];show x=(x.toNat:Int);omega
  conv=>lhs;rw[e]
  rfl
theorem H_(T:Txt K mg t):aX P w K mg base aY 2 t.wM t.uS ["switch","number","d"] (cn t 2 λxs=>.watch (xs.getD 0 0) (xs.getD 1 0)):=by
 refine T.Ah.fn.ok BZ (λvs H Q E h=>?_) (λcdv A outer s0 H vs Q E hr h=>?_)
 .obtain⟨m,s,xs,hl,rfl,_⟩:=h
  simp[hl]
 .obtain⟨m,s,xs,hl,rfl,hO,rep,k⟩:=h
  obtain⟨n,x,rfl⟩:=cw hl
  have hu:=bC hr
  have nd:=BZ.nd
  have k:Kt t H m (Vbcnab.doing s (.watch n x)) Q:=k
  simp only[Vbcnab.doing,ck rep,rep.isPort,rep.isVlan,bS] at k
  refine⟨_,ai (aw (bF (bD (aD T.dO (dY T) (hr.mono (by decide)) rfl (aa (pv 0) (aa (pv 1) ah))))) (ao (aq (aB (aa (bf bh (aj)) ah)))) (ay)) (ai (aw (bF (c9 bB bB (aI rfl T.sY) (pv 2) (aI rfl T.nI))) (ao (aq (aB (aa (bf bh (aj)) ah)))) (ay)) (ai (bg (i:=3) nd rfl (Or.inl rfl) (aO bP (ak (pv 0) rfl) (pv 1) (λ_ _=>rfl))) (ai (bx (pv 3) (pv 2) rfl) (ao (aq (aB (aa (aj) ah))))))),?_⟩
  show aW _ _ _ [some (.ref m.a),some (.int n),some (.int x),none] H
  simp only[seval,aE]
  refine⟨m,n,rfl,hO,?_⟩
  simp only[seval,ae.at t hO,ae.bZ t hO]
  refine az (λh0=>k.fin (Step.refl hO) rfl (if_pos (decide_eq_false h0)) rep rfl) (λh0=>?_)
  have h0:=Decidable.not_not.mp h0
  rw[if_neg (by simp[h0])] at k
  obtain⟨sd,hsd,hat⟩:=dM (f:=λp:aA=>V.ref p.a) h0.1 h0.2
  simp only[seval,hat,aA.at t (ae.cx hO hsd)]
  refine az (λh1=>k.fin (Step.refl hO) rfl (if_pos (decide_eq_false h1)) rep rfl) (λh1=>?_)
  have h1:=Decidable.not_not.mp h1
  rw[if_neg (by simp[h1])] at k
  refine k.fin (iL (y:={sd with s:={sd.s with watchIn:=x==1||x==3,watchOut:=x==2||x==3} }) hO hsd rfl rfl rfl rfl ?_) rfl rfl (jk rep hsd (λd=>{d with watchIn:=x==1||x==3,watchOut:=x==2||x==3}) rfl rfl (rep.d6 hsd).gu) rfl
  have e:x=bI (x==1||x==3)+2*bI (x==2||x==3):=by
   have:x=0\/x=1\/x=2\/x=3:=by omega
   rcases this with rfl|rfl|rfl|rfl<;>rfl
  conv=>lhs;rw[e]
  rfl
theorem settled{H H1:Hp}{m m1:ae}{s1:Vbcnab.State}{Q:VK}{res:Vbcnab.State×List Int}(k:Kt t H m res Q)(st:Step H (m.cells t) H1 (m1.cells t))(ha:m1.a=m.a)(r1:Rep m1 s1)(e:res=(Vbcnab.settle s1,[0])){D:Hp->Prop}(hD:∀H',(∀p,H' p=none->Q (.ref p) (upd H' p (.lst [.int 0])))->D H'):Ap t [.ref m1.a] H1 (λ_ H'=>D H') E0:=
 ⟨m1,rfl,st.own,r1.tidy,by rw[r1.dF];exact r1.cg,r1.cg,λH' s2=>hD H' (k.fin (st.trans s2) (show m1.a=m.a from ha) e r1.settle rfl)⟩
theorem HV(T:Txt K mg t):aX P w K mg base aY 5 t.wH t.uN ["switch","number","x"] (cn t 2 λxs=>.link (xs.getD 0 0) (xs.getD 1 0)):=by
 refine T.Ab.fn.ok BU (λvs H Q E h=>?_) (λcdv A outer s0 H vs Q E hr h=>?_)
 .obtain⟨m,s,xs,hl,rfl,_⟩:=h
  simp[hl]
 .obtain⟨m,s,xs,hl,rfl,hO,rep,k⟩:=h
  obtain⟨n,x,rfl⟩:=cw hl
  have hu:=bC hr
  have nd:=BU.nd
  have k:Kt t H m (Vbcnab.doing s (.link n x)) Q:=k
  simp only[Vbcnab.doing,ck rep,rep.isPort,rep.isVlan,bS] at k
  refine⟨_,ai (aw (bF (bD (aD T.i9 (kr T) (hr.mono (by decide)) rfl (aa (pv 0) (aa (pv 1) ah))))) (ao (aq (aB (aa (bf bh (aj)) ah)))) (ay)) (ai (aw (bF (c9 bB bB (aj) (pv 2) (aj))) (ao (aq (aB (aa (bf bh (aj)) ah)))) (ay)) (ai (bg (i:=3) nd rfl (Or.inl rfl) (aO bP (ak (pv 0) rfl) (pv 1) (λ_ _=>rfl))) (ai (bx (pv 3) (pv 2) rfl) (ai (cB (aD T.settle (oX T) (hr.mono (by decide)) rfl (aa (pv 0) ah))) (ao (aq (aB (aa (aj) ah)))))))),?_⟩
  show aW _ _ _ [some (.ref m.a),some (.int n),some (.int x),none] H
  simp only[seval,aE]
  refine⟨m,n,rfl,hO,?_⟩
  simp only[seval,ae.at t hO,ae.fK t hO]
  refine az (λh0=>k.fin (Step.refl hO) rfl (if_pos (decide_eq_false h0)) rep rfl) (λh0=>?_)
  have h0:=Decidable.not_not.mp h0
  rw[if_neg (by simp[h0])] at k
  obtain⟨pt,hpt,hat⟩:=dM (f:=λp:ba=>V.ref p.a) h0.1 h0.2
  simp only[seval,hat,ba.at t (ae.dZ hO hpt)]
  refine az (λh1=>k.fin (Step.refl hO) rfl (if_pos (decide_eq_false h1)) rep rfl) (λh1=>?_)
  have h1:=Decidable.not_not.mp h1
  rw[if_neg (by simp[h1])] at k
  refine settled k (jn (y:={pt with p:={pt.p with up:=x==1} }) hO hpt rfl rfl rfl rfl ?_) rfl (rep.port hpt (λy=>{y with up:=x==1}) ⟨(rep.eQ hpt).lt,(rep.eQ hpt).dl⟩) rfl λH' z=>z
  conv=>lhs;rw[sM h1]
  rfl
theorem Io(T:Txt K mg t):aX P w K mg base aY 5 t.xc t.ve ["switch","number"] (cn t 1 λxs=>.unplug (xs.getD 0 0)):=by
 refine T.Bc.fn.ok Cd (λvs H Q E h=>?_) (λcdv A outer s0 H vs Q E hr h=>?_)
 .obtain⟨m,s,xs,hl,rfl,_⟩:=h
  simp[hl]
 .obtain⟨m,s,xs,hl,rfl,hO,rep,k⟩:=h
  obtain⟨n,rfl⟩:=bV hl
  have hu:=bC hr
  have nd:=Cd.nd
  have k:Kt t H m (Vbcnab.doing s (.unplug n)) Q:=k
  simp only[Vbcnab.doing,ck rep,rep.isPort,rep.isVlan,bS] at k
  refine⟨_,ai (aw (bF (bD (aD T.i9 (kr T) (hr.mono (by decide)) rfl (aa (pv 0) (aa (pv 1) ah))))) (ao (aq (aB (aa (bf bh (aj)) ah)))) (ay)) (ai (bg (i:=2) nd rfl (Or.inl rfl) (aO bP (ak (pv 0) rfl) (pv 1) (λ_ _=>rfl))) (ai (aw (aU bb (ak (pv 2) rfl) (aI rfl T.fN) (aQ _)) (ao (aq (aB (aa (bf bh (aj)) ah)))) (ay)) (ai (bx (pv 2) (aI rfl T.fN) rfl) (ai (cB (aD T.settle (oX T) (hr.mono (by decide)) rfl (aa (pv 0) ah))) (ao (aq (aB (aa (aj) ah)))))))),?_⟩
  show aW _ _ _ [some (.ref m.a),some (.int n),none] H
  simp only[seval,aE]
  refine⟨m,n,rfl,hO,?_⟩
  simp only[seval,ae.at t hO,ae.fK t hO]
  refine az (λh0=>k.fin (Step.refl hO) rfl (if_pos (decide_eq_false h0)) rep rfl) (λh0=>?_)
  have h0:=Decidable.not_not.mp h0
  rw[if_neg (by simp[h0])] at k
  obtain⟨pt,hpt,hat⟩:=dM (f:=λp:ba=>V.ref p.a) h0.1 h0.2
  simp only[seval,hat,ba.at t (ae.dZ hO hpt)]
  have e:(s.ports[n.toNat]?.bind λx=>x.side)=pt.p.side:=by rw[rep.ports,List.getElem?_map,hpt];rfl
  rw[e] at k
  refine az (λh1=>?_) (λh1=>?_)
  .have z:pt.p.side=none:=by
    cases hs:pt.p.side with
    |none=>rfl
    |some q=>rw[hs] at h1;have h1:(q:Int)=-1:=h1;omega
   exact k.fin (Step.refl hO) rfl (if_pos z) rep rfl
  .have z:pt.p.side≠none:=λz=>h1 (by rw[z];rfl)
   rw[if_neg z] at k
   exact settled k (jn (y:={pt with p:={pt.p with side:=none} }) hO hpt rfl rfl rfl rfl rfl) rfl (rep.port hpt (λy=>{y with side:=none}) ⟨(λq h=>by cases h),(rep.eQ hpt).dl⟩) rfl λH' z=>z
theorem HM(T:Txt K mg t):aX P w K mg base aY 5 t.wx t.uE ["switch","number","side"] (cn t 2 λxs=>.plug (xs.getD 0 0) (xs.getD 1 0)):=by
 refine T.zk.fn.ok BK (λvs H Q E h=>?_) (λcdv A outer s0 H vs Q E hr h=>?_)
 .obtain⟨m,s,xs,hl,rfl,_⟩:=h
  simp[hl]
 .obtain⟨m,s,xs,hl,rfl,hO,rep,k⟩:=h
  obtain⟨n,q,rfl⟩:=cw hl
  have hu:=bC hr
  have nd:=BK.nd
  have k:Kt t H m (Vbcnab.doing s (.plug n q)) Q:=k
  simp only[Vbcnab.doing,ck rep,rep.isPort,rep.isVlan,bS] at k
  refine⟨_,ai (aw (bF (bD (aD T.i9 (kr T) (hr.mono (by decide)) rfl (aa (pv 0) (aa (pv 1) ah))))) (ao (aq (aB (aa (bf bh (aj)) ah)))) (ay)) (ai (aw (bF (bD (aD T.dO (dY T) (hr.mono (by decide)) rfl (aa (pv 0) (aa (pv 2) ah))))) (ao (aq (aB (aa (bf bh (aj)) ah)))) (ay)) (ai (bg (i:=3) nd rfl (Or.inl rfl) (aO bP (ak (pv 0) rfl) (pv 1) (λ_ _=>rfl))) (ai (aw (aU bb (ak (pv 3) rfl) (pv 2) (aQ _)) (ao (aq (aB (aa (aj) ah)))) (ay)) (ai (aw (aU jf (bW dN rfl T.len PySem.boot_len (aa (aD T.mx (oW T) (hr.mono (by decide)) rfl (aa (pv 0) (aa (pv 2) ah))) ah)) (aI rfl T.C9) (aQ _)) (ao (aq (aB (aa (bf bh (aj)) ah)))) (ay)) (ai (bx (pv 3) (pv 2) rfl) (ai (cB (aD T.settle (oX T) (hr.mono (by decide)) rfl (aa (pv 0) ah))) (ao (aq (aB (aa (aj) ah)))))))))),?_⟩
  show aW _ _ _ [some (.ref m.a),some (.int n),some (.int q),none] H
  simp only[seval,aE]
  refine⟨m,n,rfl,hO,?_⟩
  simp only[seval,aE]
  refine az (λh0=>k.fin (Step.refl hO) rfl (if_pos (decide_eq_false h0)) rep rfl) (λh0=>?_)
  have h0:=Decidable.not_not.mp h0
  rw[if_neg (by simp[h0])] at k
  refine⟨m,q,rfl,hO,?_⟩
  simp only[seval,ae.at t hO,ae.fK t hO]
  refine az (λh1=>k.fin (Step.refl hO) rfl (if_pos (decide_eq_false h1)) rep rfl) (λh1=>?_)
  have h1:=Decidable.not_not.mp h1
  rw[if_neg (by simp[h1])] at k
  obtain⟨pt,hpt,hat⟩:=dM (f:=λp:ba=>V.ref p.a) h0.1 h0.2
  simp only[seval,hat,ba.at t (ae.dZ hO hpt)]
  have eq:((q.toNat:Nat):Int)=q:=by omega
  rw[rep.portsOf,eq] at k
  have ec:(m.dE q).contains n.toNat=decide (oI pt.p.side=q):=by
   rw[<-List.elem_eq_contains,List.elem_eq_mem]
   exact decide_eq_decide.mpr (F_ hpt)
  rw[ec] at k
  refine az (λh2=>k.fin (Step.refl hO) rfl (if_pos (decide_eq_true h2)) rep rfl) (λh2=>?_)
  rw[if_neg (by simp[h2])] at k
  refine⟨m,q,rfl,hO,by rw[rep.dF];exact rep.cg,λH1 p hS hp=>?_⟩
  have st1:=Step.same hO hS
  simp only[seval,hp,List.length_map,ba.at t (ae.dZ st1.own hpt)]
  refine az (λh3=>k.fin st1 rfl (if_pos (by omega)) rep rfl) (λh3=>?_)
  rw[if_neg (by omega)] at k
  refine settled k (st1.trans (jn (y:={pt with p:={pt.p with side:=some q.toNat} }) st1.own hpt rfl rfl rfl rfl ?_)) rfl (rep.port hpt (λy=>{y with side:=some q.toNat}) ⟨λy hy=>by cases hy;show q.toNat<_;omega,(rep.eQ hpt).dl⟩) rfl λH' z=>z
  conv=>lhs;rw[<-eq]
  rfl
end
end Sw
namespace Sw
open PySem PySem.Spec PyProof.Rows L2
theorem pw{α:Type}(f:α->V)(l:IM α)(k:Int)(x:α):putK (toK f l) (Sum.inl k:Key) (f x)=toK f (putL l k x):=by
 cases h:lk l k with
 |none=>rw[putL_new h,mB h]
 |some y=>rw[gY h,Jk h]
theorem j_{n:Nat}{i:Int}(h:0<=i/\i<n):eN n i=some i.toNat:=by
 unfold eN;rw[if_pos h.1,if_pos h.2]
theorem e9{α:Type}{o:Option α}(h:¬(!o.isSome)=true):∃x,o=some x:=by
 cases o with
 |none=>simp at h
 |some x=>exact⟨x,rfl⟩
theorem rS{α β:Type}{Rl:α->β->Prop}{l:IM α}{i:Nat}{p:Int×α}(g:α->β)(hp:l[i]? =some p)(nd:(l.map (·.1)).Nodup){dn:IM β}(h:cc Rl (l.take i) dn):
 let cur:=dn++(l.drop i).map λq=>(q.1,g q.2)
 lk cur p.1=some (g p.2)/\(cur.map (·.1)).Nodup/\∀z,bw cur p.1 z=(dn++[(p.1,z)])++(l.drop (i+1)).map λq=>(q.1,g q.2):=by
 have hi:i<l.length:=(List.getElem?_eq_some_iff.mp hp).1
 have hd:l.drop i=p::l.drop (i+1):=by
  rw[List.drop_eq_getElem_cons hi,(List.getElem?_eq_some_iff.mp hp).2]
 have ks:(l.take i).map (·.1)=dn.map (·.1):=h.gy _ _ λ_ _ _ _=>rfl
 have kc:(dn++(l.drop i).map λq=>(q.1,g q.2)).map (·.1)=l.map (·.1):=by
  rw[List.map_append,<-ks,List.map_map]
  show(l.take i).map (·.1)++(l.drop i).map (·.1)=l.map (·.1)
  rw[<-List.map_append,List.take_append_drop]
 have nd2:((dn++(l.drop i).map λq=>(q.1,g q.2)).map (·.1)).Nodup:=by rw[kc];exact nd
 refine⟨iz nd2 (List.mem_append_right _ (by rw[hd];exact List.mem_cons_self)),nd2,λz=>?_⟩
 rw[hd] at nd2⊢
 rw[List.map_append,List.map_cons,List.map_cons] at nd2
 have n1:p.1∉dn.map (·.1):=λy=>(List.nodup_append.mp nd2).2.2 _ y _ List.mem_cons_self rfl
 have n2:p.1∉((l.drop (i+1)).map λq=>(q.1,g q.2)).map (·.1):=(List.nodup_cons.mp (List.nodup_append.mp nd2).2.1).1
 have e1:=iK z n1
 have e2:=iK z n2
 unfold bw at e1 e2⊢
 rw[List.map_append,e1,List.map_cons,List.map_cons,e2,if_pos rfl,List.append_assoc];rfl
theorem take_snoc{α:Type}{l:List α}{i:Nat}{p:α}(h:l[i]? =some p):l.take (i+1)=l.take i++[p]:=by rw[List.take_add_one,h];rfl
section
variable{P:Program}{w:World}{K:PySem.W.Frag}{mg:Str->Option Value}{base:Heap}{t:Ad}
theorem HU(T:Txt K mg t):aX P w K mg base aY 2 t.wG t.uM ["switch","number","v","g"] (cn t 3 λxs=>.gate (xs.getD 0 0) (xs.getD 1 0) (xs.getD 2 0)):=by
 refine T.Aa.fn.ok BS (λvs H Q E h=>?_) (λcdv A outer s0 H vs Q E hr h=>?_)
 .obtain⟨m,s,xs,hl,rfl,_⟩:=h
  simp[hl]
 .obtain⟨m,s,xs,hl,rfl,hO,rep,k⟩:=h
  obtain⟨n,v,g,rfl⟩:=ek hl
  have hu:=bC hr
  have nd:=BS.nd
  have k:Kt t H m (Vbcnab.doing s (.gate n v g)) Q:=k
  simp only[Vbcnab.doing,ck rep,rep.isPort,rep.isVlan,bS] at k
  refine⟨_,ai (aw (bF (bD (aD T.dO (dY T) (hr.mono (by decide)) rfl (aa (pv 0) (aa (pv 1) ah))))) (ao (aq (aB (aa (bf bh (aj)) ah)))) (ay)) (ai (aw (cj (cF hu (pv 2) (ak (pv 0) rfl))) (ao (aq (aB (aa (bf bh (aj)) ah)))) (ay)) (ai (aw (bF (c9 bB bB (aI rfl T.nE) (pv 3) (aI rfl T.nG))) (ao (aq (aB (aa (bf bh (aj)) ah)))) (ay)) (ai (bg (i:=4) nd rfl (Or.inl rfl) (bT hu (ak (pv 0) rfl) (pv 2) (λ_ _=>rfl))) (ai (pj (pv 3) (o_ (ak (pv 4) rfl) (pv 1) set_list)) (ai (aw (aU bb (pv 3) (aI rfl T.nE) (aQ _)) (ao (cB (aD T.i6 (ko T) (hr.mono (by decide)) rfl (aa (pv 4) (aa (aB (aa (pv 1) ah)) ah))))) (ay)) (ao (aq (aB (aa (aj) ah))))))))),?_⟩
  show aW _ _ _ [some (.ref m.a),some (.int n),some (.int v),some (.int g),none] H
  simp only[seval,aE]
  refine⟨m,n,rfl,hO,?_⟩
  simp only[seval,aE]
  refine az (λh0=>k.fin (Step.refl hO) rfl (if_pos (decide_eq_false h0)) rep rfl) (λh0=>?_)
  have h0:=Decidable.not_not.mp h0
  rw[if_neg (by simp[h0])] at k
  simp only[seval,ae.at t hO]
  refine⟨_,bu (ae.bJ t hO) v,?_⟩
  rw[Option.isSome_map]
  refine az (λh1=>k.fin (Step.refl hO) rfl (if_pos (by simpa using h1)) rep rfl) (λh1=>?_)
  obtain⟨u,hv⟩:=e9 h1
  rw[if_neg (by simp[hv])] at k
  have hid:=rep.key hv
  have eid:v.toNat=u.w.id:=by omega
  refine az (λh2=>k.fin (Step.refl hO) rfl (if_pos (decide_eq_false h2)) rep rfl) (λh2=>?_)
  have h2:=Decidable.not_not.mp h2
  rw[if_neg (by simp[h2])] at k
  refine⟨_,by have z:=bu (ae.bJ t hO) v;rw[hv] at z;exact z,?_⟩
  have ov:=ae.cA rep.vk hO hv
  have ok:=rep.at hv
  simp only[seval,af.at t ov,af.k9 t ov]
  rw[List.length_map]
  refine⟨_,j_ (by rw[ok.gl];exact h0),?_⟩
  have hq:n.toNat<m.sides.length:=by omega
  have eg:g=((g.toNat:Nat):Int):=by omega
  have st:=ae.fW rep.vk hO hv (y:=u.wg (u.gates.set n.toNat g)) rfl (af.L_ ov (u.gates.set n.toNat g))
  have rg:=rep.gate hv n.toNat g.toNat
  rw[<-eg] at rg
  have e2:(g=2)=(g.toNat=2):=by rw[eq_iff_iff];omega
  simp only[eid,e2] at k
  have em:(u.gates.map V.int).set n.toNat (V.int g)=(u.gates.set n.toNat g).map V.int:=by rw[List.map_set]
  rw[em]
  refine az (λh3=>?_) (λh3=>?_)
  .rw[if_pos h3] at k
   have hv2:lk (m.cb v (u.wg (u.gates.set n.toNat g))).vlans v=some (u.wg (u.gates.set n.toNat g)):=by
    show lk (bw m.vlans v _) v=_
    rw[gx,hv];simp
   intro l hl
   have sl:au (upd H u.du (.lst ((u.gates.set n.toNat g).map V.int))) (upd (upd H u.du (.lst ((u.gates.set n.toNat g).map V.int))) l (.lst [.int n])):=bp (au.refl _) hl
   have st1:=Step.same st.own sl
   have ov2:=ae.cA rg.vk st1.own hv2
   refine⟨u.wg (u.gates.set n.toNat g),l,[n],rfl,ov2,ok.rk,(rep.tidy.rk _ (b0 hv)).2,aN,?_,λH' s2=>?_⟩
   .exact(ae.cA rg.vk st.own hv2).none hl
   .have s3:=(st.trans st1).trans (ae.fW (y:=(u.wg (u.gates.set n.toNat g)).forget [n]) rg.vk st1.own hv2 rfl s2)
    have en:n=((n.toNat:Nat):Int):=by omega
    have rf:=rg.forgetAt hv2 n.toNat
    rw[<-en] at rf
    exact k.fin s3 rfl rfl rf rfl
  .rw[if_neg h3] at k
   exact k.fin st rfl rfl rg rfl
theorem Ip(T:Txt K mg t):aX P w K mg base aY 2 t.xf t.vf ["switch","number","v"] (cn t 2 λxs=>.unshut (xs.getD 0 0) (xs.getD 1 0)):=by
 refine T.unshut.fn.ok Ce (λvs H Q E h=>?_) (λcdv A outer s0 H vs Q E hr h=>?_)
 .obtain⟨m,s,xs,hl,rfl,_⟩:=h
  simp[hl]
 .obtain⟨m,s,xs,hl,rfl,hO,rep,k⟩:=h
  obtain⟨n,v,rfl⟩:=cw hl
  have hu:=bC hr
  have nd:=Ce.nd
  have k:Kt t H m (Vbcnab.doing s (.unshut n v)) Q:=k
  simp only[Vbcnab.doing,ck rep,rep.isPort,rep.isVlan,bS] at k
  refine⟨_,ai (aw (bF (bD (aD T.dO (dY T) (hr.mono (by decide)) rfl (aa (pv 0) (aa (pv 1) ah))))) (ao (aq (aB (aa (bf bh (aj)) ah)))) (ay)) (ai (aw (cj (cF hu (pv 2) (ak (pv 0) rfl))) (ao (aq (aB (aa (bf bh (aj)) ah)))) (ay)) (ai (bg (i:=3) nd rfl (Or.inl rfl) (bT hu (ak (pv 0) rfl) (pv 2) (λ_ _=>rfl))) (ai (aw (aU bb (aO bP (ak (pv 3) rfl) (pv 1) (λ_ _=>rfl)) (aj) (aQ _)) (ao (aq (aB (aa (bf bh (aj)) ah)))) (ay)) (ai (pj (aj) (o_ (ak (pv 3) rfl) (pv 1) set_list)) (ao (aq (aB (aa (aj) ah)))))))),?_⟩
  show aW _ _ _ [some (.ref m.a),some (.int n),some (.int v),none] H
  simp only[seval,aE]
  refine⟨m,n,rfl,hO,?_⟩
  simp only[seval,aE]
  refine az (λh0=>k.fin (Step.refl hO) rfl (if_pos (decide_eq_false h0)) rep rfl) (λh0=>?_)
  have h0:=Decidable.not_not.mp h0
  rw[if_neg (by simp[h0])] at k
  simp only[seval,ae.at t hO]
  refine⟨_,bu (ae.bJ t hO) v,?_⟩
  rw[Option.isSome_map]
  refine az (λh1=>?_) (λh1=>?_)
  .refine k.fin (Step.refl hO) rfl (if_pos ?_) rep rfl
   have hn:lk m.vlans v=none:=by simpa using h1
   by_cases hv:1<=v
   .have z:Vbcnab.isShut s n.toNat v.toNat=false:=congrFun (congrArg View.a_ (rep.no (v:=v.toNat) (by rw[show((v.toNat:Nat):Int)=v by omega];exact hn))) n.toNat
    rw[z,Bool.and_false]
   .rw[decide_eq_false hv,Bool.false_and]
  obtain⟨u,hv⟩:=e9 h1
  have hid:=rep.key hv
  have eid:v.toNat=u.w.id:=by omega
  have ok:=rep.at hv
  have h1v:1<=v:=by have z:1<=u.w.id:=ok.pos;omega
  rw[decide_eq_true h1v,Bool.true_and,eid] at k
  have hq:n.toNat<m.sides.length:=by omega
  have hsh:u.a_[n.toNat]? =some (bI (Vbcnab.isShut s n.toNat u.w.id)):=ok.rB hq
  refine⟨_,by have z:=bu (ae.bJ t hO) v;rw[hv] at z;exact z,?_⟩
  have ov:=ae.cA rep.vk hO hv
  simp only[seval,af.at t ov,af.jG t ov]
  refine⟨_,at_of (j:=n.toNat) (v:=V.int (bI (Vbcnab.isShut s n.toNat u.w.id))) (by omega) (by rw[List.getElem?_map,hsh];rfl),?_⟩
  simp only[seval,aE]
  refine az (λh2=>k.fin (Step.refl hO) rfl (if_pos ?_) rep rfl) (λh2=>?_)
  .cases hb:Vbcnab.isShut s n.toNat u.w.id with
   |true=>rw[hb] at h2;have h2:(1:Int)=0:=h2;omega
   |false=>rfl
  rw[if_neg (λz=>h2 (by rw[z];rfl))] at k
  simp only[seval,af.at t ov,af.jG t ov,List.length_map]
  refine⟨_,j_ (by rw[ok.hl];exact h0),?_⟩
  have st:=ae.fW rep.vk hO hv (y:=u.ws (u.a_.set n.toNat 0)) rfl (af.Av ov (u.a_.set n.toNat 0))
  have em:(u.a_.map V.int).set n.toNat (V.int 0)=(u.a_.set n.toNat 0).map V.int:=by rw[List.map_set]
  rw[em]
  exact k.fin st rfl rfl (rep.unshut hv n.toNat) rfl
theorem K8(n:Nat){x:Int}(h:0<=x/\x<=1):gG (some (n,x==1))=x:=by
 have:x=0\/x=1:=by omega
 rcases this with rfl|rfl<;>rfl
theorem HF(T:Txt K mg t):aX P w K mg base aY 3 t.we t.ux ["switch","number","most","shut"] (cn t 3 λxs=>.lock (xs.getD 0 0) (xs.getD 1 0) (xs.getD 2 0)):=by
 refine T.yn.fn.ok BF (λvs H Q E h=>?_) (λcdv A outer s0 H vs Q E hr h=>?_)
 .obtain⟨m,s,xs,hl,rfl,_⟩:=h
  simp[hl]
 .obtain⟨m,s,xs,hl,rfl,hO,rep,k⟩:=h
  obtain⟨n,a,b,rfl⟩:=ek hl
  have hu:=bC hr
  have nd:=BF.nd
  have k:Kt t H m (Vbcnab.doing s (.lock n a b)) Q:=k
  simp only[Vbcnab.doing,ck rep,rep.isPort,rep.isVlan,bS] at k
  refine⟨_,ai (aw (bF (bD (aD T.dO (dY T) (hr.mono (by decide)) rfl (aa (pv 0) (aa (pv 1) ah))))) (ao (aq (aB (aa (bf bh (aj)) ah)))) (ay)) (ai (aw (bF (c9 bB bB (aj) (pv 2) (aI rfl T.C4))) (ao (aq (aB (aa (bf bh (aj)) ah)))) (ay)) (ai (aw (bF (c9 bB bB (aj) (pv 3) (aj))) (ao (aq (aB (aa (bf bh (aj)) ah)))) (ay)) (ai (bg (i:=4) nd rfl (Or.inl rfl) (aO bP (ak (pv 0) rfl) (pv 1) (λ_ _=>rfl))) (ai (bx (pv 4) (pv 2) rfl) (ai (bx (pv 4) (pv 3) rfl) (ai (cB (aD T.lH (oQ T) (hr.mono (by decide)) rfl (aa (pv 0) (aa (aB (aa (pv 1) ah)) ah)))) (ao (aq (aB (aa (aj) ah)))))))))),?_⟩
  show aW _ _ _ [some (.ref m.a),some (.int n),some (.int a),some (.int b),none] H
  simp only[seval,aE]
  refine⟨m,n,rfl,hO,?_⟩
  simp only[seval,aE]
  refine az (λh0=>k.fin (Step.refl hO) rfl (if_pos (decide_eq_false h0)) rep rfl) (λh0=>?_)
  have h0:=Decidable.not_not.mp h0
  rw[if_neg (by simp[h0])] at k
  simp only[seval,ae.at t hO,ae.bZ t hO]
  refine az (λh1=>k.fin (Step.refl hO) rfl (if_pos (decide_eq_false h1)) rep rfl) (λh1=>?_)
  have h1:=Decidable.not_not.mp h1
  rw[if_neg (by simp[h1])] at k
  refine az (λh2=>k.fin (Step.refl hO) rfl (if_pos (decide_eq_false h2)) rep rfl) (λh2=>?_)
  have h2:=Decidable.not_not.mp h2
  rw[if_neg (by simp[h2])] at k
  obtain⟨sd,hsd,hat⟩:=dM (f:=λp:aA=>V.ref p.a) h0.1 h0.2
  simp only[seval,hat,aA.at t (ae.cx hO hsd)]
  refine⟨by show 8<1000;decide,λl hl=>?_⟩
  rw[h8] at hl⊢
  have e:bc "lock_shuts" (V.int b) (bc "most" (V.int a) (cR sd))=cR {sd with s:={sd.s with lock:=some (a.toNat,b==1)} }:=by
   have e1:a=eP (some (a.toNat,b==1)):=by show a=((a.toNat:Nat):Int);omega
   have e2:b=gG (some (a.toNat,b==1)):=(K8 _ h2).symm
   conv=>lhs;rw[e1];arg 2;rw[e2]
   rfl
  rw[e] at hl⊢
  have st:=iL (y:={sd with s:={sd.s with lock:=some (a.toNat,b==1)} }) hO hsd rfl rfl rfl rfl rfl
  have r1:=jk rep hsd (λd=>{d with lock:=some (a.toNat,b==1)}) rfl rfl λy hy=>by cases hy;show 1<=a.toNat;omega
  have s1:=Step.same st.own (bp (au.refl _) hl (o:=.lst [.int n]))
  have en:n=((n.toNat:Nat):Int):=by omega
  refine⟨m.gF n.toNat {sd with s:={sd.s with lock:=some (a.toNat,b==1)} },l,[n],rfl,s1.own,r1.tidy,aN,st.own.none hl,λH' s2=>?_⟩
  have rf:=r1.xt n.toNat
  rw[<-en] at rf
  exact k.fin ((st.trans s1).trans s2) rfl rfl rf rfl
def Ak(t:Ad):Sp:=λvs H Q _=>∃(x d:Addr)(a b c e:Int),vs=[.ref x,.int a,.int b,.int c,.int e]/\H x=some (.ins t.Row d [])/\∀H':Hp,H' x=some (.ins t.Row d [("kind",.int a),("side",.int b),("until",.int c),("moves_at",.int e)])->(∀b o,H b=some o->b≠x->H' b=some o)->Q .bj H'
theorem jd(T:Txt K mg t):aX P w K mg base aY 1 t.j1 t.jS ["self","kind","side","until","moves_at"] (Ak t):=by
 refine T.EB.ok N0 (λvs H Q E h=>?_) (λcdv A outer s0 H vs Q E hr h=>?_)
 .obtain⟨x,d,a,b,c,e,rfl,_⟩:=h
  rfl
 .obtain⟨x,d,a,b,c,e,rfl,hx,k⟩:=h
  refine⟨_,ai (bx (pv 0) (pv 1) rfl) (ai (bx (pv 0) (pv 2) rfl) (ai (bx (pv 0) (pv 3) rfl) (ao (bx (pv 0) (pv 4) rfl)))),?_⟩
  show aW _ _ _ [some (.ref x),some (.int a),some (.int b),some (.int c),some (.int e)] H
  simp only[seval,hx]
  refine⟨by show 0<1000;decide,by show 1<1000;decide,by show 2<1000;decide,by show 3<1000;decide,?_⟩
  refine k _ (aN.trans rfl) λb o hb hne=>?_
  rw[aF hne,aF hne,aF hne,aF hne];exact hb
def LM(t:Ad):Sp:=λvs H Q _=>∃(v:af)(q now:Nat),vs=[.ref v.a,.int q,.int now]/\Own H (v.cells t)/\(v.rows.map (·.1)).Nodup/\v.rows.length<sizeLine/\∀(H':Hp)(l:IM bo),cc (kZ q now v.w.age) v.rows l->Step H (v.cells t) H' ((v.wr l).cells t)->Q .bj H'
theorem HH(T:Txt K mg t):aX P w K mg base aY 3 t.wm t.uz ["vlan","side","now"] (LM t):=by
 refine T.lZ.fn.ok BH (λvs H Q E h=>?_) (λcdv A outer s0 H vs Q E hr h=>?_)
 .obtain⟨m,a,n,rfl,_⟩:=h
  rfl
 .obtain⟨v,q,now,rfl,hO,ndk,hlen,k⟩:=h
  have hu:=bC hr
  have nd:=BH.nd
  refine⟨_,ao (fG PassesOwn.never rfl (d3 (mj (lj rfl) rfl T.list boot_list (aa (ak (pv 0) rfl) ah))) (cP (i:=3) nd rfl (Or.inl rfl)) (ai (bg (i:=4) nd rfl (Or.inl rfl) (bT hu (ak (pv 0) rfl) (pv 3) (λ_ _=>rfl))) (ao (aw (PW.pt (eR (aU bb (ak (pv 4) rfl) (aI rfl T.jI) (aQ _)) (eT (aU bb (ak (pv 4) rfl) (pv 1) (aQ _))))) (ao (fF hu (ak (pv 0) rfl) (pv 3) (fD T.e8 (jd T) (hr.mono (by decide)) rfl T.jb T.iY .nil eA (aa (aI rfl T.iZ) (aa (pv 1) (aa (cG ez (pv 2) (ak (pv 0) rfl)) (aa (pv 2) ah))))) rfl)) (ay))))),?_⟩
  show mW _ _ _ _ [some (.ref v.a),some (.int q),some (.int now),none,none] H
  simp only[seval,af.at t hO]
  refine⟨_,.inl (af.cD t hO),λL hL=>?_⟩
  rw[gJ]
  have hLv:L∉adr (v.cells t):=hO.none hL
  have sL:au H (upd H L (.lst (v.rows.map λp=>V.int p.1))):=bp (au.refl H) hL
  have idm:∀l:IM bo,(l.map λq=>(q.1,q.2))=l:=λl=>List.map_id _
  refine⟨⟨_,ax.of aN⟩,gm (K:=K) (a:=L) (xs:=v.rows.map λp=>V.int p.1) (λi σ H'=>∃a b:Option V,σ=[some (.ref v.a),some (.int q),some (.int now),a,b]/\∃dn,cc (kZ q now v.w.age) (v.rows.take i) dn/\Step (upd H L (.lst (v.rows.map λp=>V.int p.1))) (v.cells t) H' ((v.wr (dn++v.rows.drop i)).cells t)) ⟨none,none,rfl,[],.nil,Step.refl (hO.same sL)⟩ (λi σ H' _⟨_,_,_,_,_,s⟩=>ax.of (s.keep aN hLv)) ?_ ?_⟩
  .rintro i y σ H' hy ⟨a,b,rfl,dn,hdn,s⟩
   rw[List.getElem?_map] at hy
   cases hp:v.rows[i]? with
   |none=>rw[hp] at hy;cases hy
   |some p=>
    rw[hp] at hy
    obtain rfl:V.int p.1=y:=Option.some.inj hy
    obtain⟨g1,g2,g3⟩:=rS (λx=>x) hp ndk hdn
    rw[idm] at g1 g2 g3
    rw[idm] at g3
    have o1:=s.own
    have aV:H' v.a=some (.ins t.Vlan v.d (bM v)):=af.at (m:=v.wr (dn++v.rows.drop i)) t o1
    have aL:H' v.bO=some (.dK (toK bE (dn++v.rows.drop i))):=af.cD (m:=v.wr (dn++v.rows.drop i)) t o1
    have gr:=bu aL p.1
    have aR:=af.fj (m:=v.wr (dn++v.rows.drop i)) t o1 (k:=p.1) g1
    simp only[seval,aV]
    refine⟨_,by rw[g1] at gr;exact gr,?_⟩
    simp only[seval,aV,aR]
    have ks:p.2.r.kind.number=1↔p.2.r.kind=.secure:=by cases p.2.r.kind<;>decide
    have kq:oI p.2.r.side=(q:Int)↔p.2.r.side=some q:=by
     cases p.2.r.side with
     |none=>constructor<;>intro z<;>simp[oI] at z
     |some y=>constructor<;>intro z<;>simp[oI] at z⊢<;>omega
    have fb:¬(p.2.r.kind=.secure/\p.2.r.side=some q)->∃dn',cc (kZ q now v.w.age) (v.rows.take (i+1)) dn'/\Step (upd H L (.lst (v.rows.map λp=>V.int p.1))) (v.cells t) H' ((v.wr (dn'++v.rows.drop (i+1))).cells t):=λhn=>by
     refine⟨dn++[(p.1,p.2)],by rw[take_snoc hp];exact hdn.snoc ⟨λa b=>absurd ⟨a,b⟩ hn,λ_=>rfl⟩,?_⟩
     have e:(dn++[(p.1,p.2)])++v.rows.drop (i+1)=dn++v.rows.drop i:=by
      rw[List.append_assoc]
      have hi:i<v.rows.length:=(List.getElem?_eq_some_iff.mp hp).1
      rw[List.drop_eq_getElem_cons hi,(List.getElem?_eq_some_iff.mp hp).2];rfl
     rw[e];exact s
    refine az (λh0=>?_) (λh0=>?_)
    .refine az (λh1=>?_) (λh1=>?_)
     .intro x dx hx hdx hne
      refine⟨x,dx,0,q,_,now,rfl,aN,λH2 hH2 hkeep=>⟨rfl,?_⟩⟩
      have s2:au H' H2:=au.made hx hdx hkeep
      simp only[seval,s2 _ _ aV]
      have ln:(dn++v.rows.drop i).length=v.rows.length:=by
       have z:=congrArg List.length (hdn.gy (λp:Int×bo=>p.1) (λp:Int×bo=>p.1) λ_ _ _ _=>rfl)
       rw[List.length_map,List.length_map,List.length_take] at z
       rw[List.length_append,List.length_drop]
       have hi:i<v.rows.length:=(List.getElem?_eq_some_iff.mp hp).1
       omega
      have hput:=dQ.k (k:=Sum.inl p.1) (v:=V.ref x) (s2 _ _ aL) (by rw[dj,ln];exact hlen)
      let z:bo:=⟨x,dx,⟨p.2.r.vlan,p.2.r.hw,.learned,some q,now+v.w.age,0⟩,now+v.w.age,now⟩
      rw[show V.ref x=bE z from rfl,pw bE] at hput
      have st:=af.As (t:=t) (v:=v.wr (dn++v.rows.drop i)) (k:=p.1) (r1:=z) g2 o1 s2 hx hH2
      have e:putL (dn++v.rows.drop i) p.1 z=(dn++[(p.1,z)])++v.rows.drop (i+1):=by rw[gY g1,g3 z]
      refine⟨_,hput,dn++[(p.1,z)],by rw[take_snoc hp];exact hdn.snoc ⟨λ_ _=>⟨rfl,rfl,rfl⟩,λn=>absurd ⟨ks.mp h0,kq.mp h1⟩ n⟩,?_⟩
      have st2:=s.trans st
      rw[<-e]
      exact st2
     .exact fb λz=>h1 (kq.mpr z.2)
    .exact fb λz=>h0 (ks.mpr z.1)
  .rintro σ H' ⟨a,b,rfl,dn,hdn,s⟩
   rw[List.length_map,List.take_length] at hdn
   rw[List.length_map,List.drop_length,List.append_nil] at s
   exact k H' dn hdn ((Step.same hO sL).trans s)
end
end Sw
namespace Sw
open PySem PySem.Spec PyProof.Rows L2
section
variable{P:Program}{w:World}{K:PySem.W.Frag}{mg:Str->Option Value}{base:Heap}{t:Ad}
theorem ae.Cu{H:Hp}{m:ae}{k:Int}{u:af}(nd:(m.vlans.map (·.1)).Nodup)(h:Own H (m.cells t))(hv:lk m.vlans k=some u){x:Addr}(hx:x∈adr (m.base t)\/x∈adr (m.ports.flatMap (ba.cells t))\/x∈adr (m.sides.flatMap (aA.cells t))\/x=m.bN):x∉adr (u.cells t):=by
 have hm:∀y∈adr (u.cells t),y∈adr (m.vlans.flatMap λp=>p.2.cells t):=λy hy=>by
  obtain⟨c,hc,e⟩:=List.mem_map.mp hy
  exact List.mem_map.mpr ⟨c,List.mem_flatMap.mpr ⟨(k,u),b0 hv,hc⟩,e⟩
 intro hu
 have hu:=hm x hu
 rw[ae.eI] at h
 rcases hx with hx|hx|hx|hx
 .exact h.apart (by rw[dm];exact List.mem_append_left _ hx) (List.mem_cons_of_mem _ hu)
 .exact h.apart (by rw[dm,dm];exact List.mem_append_right _ (List.mem_append_left _ hx)) (List.mem_cons_of_mem _ hu)
 .exact h.apart (by rw[dm,dm];exact List.mem_append_right _ (List.mem_append_right _ hx)) (List.mem_cons_of_mem _ hu)
 .subst hx
  exact(List.nodup_cons.mp h.right.nd).1 hu
theorem ae.Co{H:Hp}{m:ae}{k:Int}{u:af}(nd:(m.vlans.map (·.1)).Nodup)(h:Own H (m.cells t))(hv:lk m.vlans k=some u):m.a∉adr (u.cells t):=ae.Cu nd h hv (.inl (by simp[ae.base,adr]))
theorem ae.Aq{H:Hp}{m m':ae}(h:Own H (m.cells t))(e:m'.cells t=(m.a,.ins t.Switch m.d (cC m'))::(m.cells t).tail):Step H (m.cells t) (upd H m.a (.ins t.Switch m.d (cC m'))) (m'.cells t):=
 Step.cell (A:=[]) (B:=(m.cells t).tail) h rfl e
theorem Im(T:Txt K mg t):aX P w K mg base aY 4 t.xb t.vd ["switch","number"] (cn t 1 λxs=>.unlock (xs.getD 0 0)):=by
 refine T.Bb.fn.ok Cc (λvs H Q E h=>?_) (λcdv A outer s0 H vs Q E hr h=>?_)
 .obtain⟨m,s,xs,hl,rfl,_⟩:=h
  simp[hl]
 .obtain⟨m,s,xs,hl,rfl,hO,rep,k⟩:=h
  obtain⟨n,rfl⟩:=bV hl
  have hu:=bC hr
  have nd:=Cc.nd
  have k:Kt t H m (Vbcnab.doing s (.unlock n)) Q:=k
  simp only[Vbcnab.doing,ck rep,rep.isPort,rep.isVlan,bS] at k
  refine⟨_,ai (aw (bF (bD (aD T.dO (dY T) (hr.mono (by decide)) rfl (aa (pv 0) (aa (pv 1) ah))))) (ao (aq (aB (aa (bf bh (aj)) ah)))) (ay)) (ai (bg (i:=2) nd rfl (Or.inl rfl) (aO bP (ak (pv 0) rfl) (pv 1) (λ_ _=>rfl))) (ai (aw (bF (bD (aD T.lS (oU T) (hr.mono (by decide)) rfl (aa (pv 2) ah)))) (ao (aq (aB (aa (bf bh (aj)) ah)))) (ay)) (ai (bx (pv 2) (aj) rfl) (ai (bx (pv 2) (aj) rfl) (ai (mz (fG PassesOwn.never rfl (pd (ak (pv 0) rfl)) (cP (i:=3) nd rfl (Or.inl rfl)) (ao (cB (aD T.lZ (HH T) (hr.mono (by decide)) rfl (aa (pv 3) (aa (pv 1) (aa (ak (pv 0) rfl) ah)))))))) (ao (aq (aB (aa (aj) ah))))))))),?_⟩
  show aW _ _ _ [some (.ref m.a),some (.int n),none,none] H
  simp only[seval,aE]
  refine⟨m,n,rfl,hO,?_⟩
  simp only[seval,aE]
  refine az (λh0=>k.fin (Step.refl hO) rfl (if_pos (decide_eq_false h0)) rep rfl) (λh0=>?_)
  have h0:=Decidable.not_not.mp h0
  rw[if_neg (by simp[h0])] at k
  simp only[seval,ae.at t hO,ae.bZ t hO]
  obtain⟨sd,hsd,hat⟩:=dM (f:=λp:aA=>V.ref p.a) h0.1 h0.2
  simp only[seval,hat,aA.at t (ae.cx hO hsd)]
  rw[d4 rep hsd] at k
  have lz:eP sd.s.lock=0↔sd.s.lock=none:=by
   cases hk:sd.s.lock with
   |none=>exact⟨λ_=>rfl,λ_=>rfl⟩
   |some y=>
    have z:=(rep.d6 hsd).gu y hk
    exact⟨λh=>by have h:(y.1:Int)=0:=h;omega,λh=>by cases h⟩
  refine⟨sd,rfl,aA.at t (ae.cx hO hsd),?_⟩
  simp only[seval,Bool.not_not,aA.at t (ae.cx hO hsd)]
  refine az (λh1=>k.fin (Step.refl hO) rfl (if_pos (lz.mp h1)) rep rfl) (λh1=>?_)
  rw[if_neg (λz=>h1 (lz.mpr z))] at k
  refine⟨by show 8<1000;decide,?_⟩
  rw[h8]
  have st:=iL (y:={sd with s:={sd.s with lock:=none} }) (fs:=bc "lock_shuts" (V.int 0) (bc "most" (V.int 0) (cR sd))) hO hsd rfl rfl rfl rfl rfl
  have r1:=jk rep hsd (λd=>{d with lock:=none}) rfl rfl λy hy=>by cases hy
  generalize hH1:upd H sd.a (HO.ins t.Side sd.d (bc "lock_shuts" (V.int 0) (bc "most" (V.int 0) (cR sd))))=H1 at st
  generalize hm1:m.gF n.toNat {sd with s:={sd.s with lock:=none} }=m1 at st r1
  have ha1:m1.a=m.a:=by rw[<-hm1]
  have hv1:m1.bN=m.bN:=by rw[<-hm1]
  have hn1:m1.now=m.now:=by rw[<-hm1]
  have hs1:m1.sides.length=m.sides.length:=by rw[<-hm1];exact List.length_set
  have hO1:=st.own
  rw[<-ha1]
  refine⟨m1.bN,_,ae.bJ t hO1,trivial,λod=>?_⟩
  have hO2:=hO1
  rw[ae.eI] at hO2
  have hav:m1.a≠m1.bN:=fA (ae.at t hO1) (ae.bJ t hO1) (by intro z;cases z)
  have aM:upd H1 m1.bN (.bz od (.dK (toK bK m1.vlans))) m1.a=some (.ins t.Switch m1.d (cC m1)):=by rw[aF hav];exact ae.at t hO1
  have hdC:m1.bN∉adr (m1.vlans.flatMap λp=>p.2.cells t):=λz=>(List.nodup_cons.mp hO2.right.nd).1 z
  have haC:m1.a∉adr (m1.vlans.flatMap λp=>p.2.cells t):=λz=>hO2.apart (by rw[dm];exact List.mem_append_left _ (List.mem_cons_self)) (List.mem_cons_of_mem _ z)
  have oC:Own (upd H1 m1.bN (.bz od (.dK (toK bK m1.vlans)))) (m1.vlans.flatMap λp=>p.2.cells t):=by
   have q:Own H1 ([(m1.bN,HO.dK (toK bK m1.vlans))]++m1.vlans.flatMap λp=>p.2.cells t):=hO2.right
   refine⟨λc hc=>?_,q.right.nd⟩
   rw[aF (λz=>hdC (by rw[<-z];exact gW hc))]
   exact q.right.at_ c hc
  have en:n=((n.toNat:Nat):Int):=by omega
  simp only[seval,aM]
  refine xr (λi σ H'=>∃(a:Option V)(dn:IM af),σ=[some (.ref m1.a),some (.int n),some (.ref sd.a),a]/\cc (r9 n.toNat m1.now) (m1.vlans.take i) dn/\Step (upd H1 m1.bN (.bz od (.dK (toK bK m1.vlans)))) (m1.vlans.flatMap λp=>p.2.cells t) H' ((dn++m1.vlans.drop i).flatMap λp=>p.2.cells t)) ⟨none,[],rfl,.nil,Step.refl oC⟩ (λi σ H' _⟨_,_,_,_,s⟩=>s.keep aN hdC) ?_ ?_
  .rintro i kk y σ H' hy ⟨a,dn,rfl,hl,s2⟩
   unfold toK at hy
   rw[List.getElem?_map] at hy
   cases hp:m1.vlans[i]? with
   |none=>rw[hp] at hy;cases hy
   |some p=>
    rw[hp] at hy
    obtain⟨rfl,rfl⟩:Sum.inl p.1=kk/\V.ref p.2.a=y:=by cases hy;exact⟨rfl,rfl⟩
    have hi:i<m1.vlans.length:=(List.getElem?_eq_some_iff.mp hp).1
    have hd:m1.vlans.drop i=p::m1.vlans.drop (i+1):=by
     rw[List.drop_eq_getElem_cons hi,(List.getElem?_eq_some_iff.mp hp).2]
    have hmem:p∈m1.vlans:=List.mem_of_getElem? hp
    have pc:∀y:af,((dn++(p.1,y)::m1.vlans.drop (i+1)).flatMap λp=>p.2.cells t).Perm (y.cells t++((dn.flatMap λp=>p.2.cells t)++(m1.vlans.drop (i+1)).flatMap λp=>p.2.cells t)):=λy=>by
     rw[List.flatMap_append,List.flatMap_cons]
     exact List.perm_append_comm_assoc _ _ _
    rw[hd] at s2
    have o1:=s2.own.perm (pc p.2)
    simp only[seval,s2.keep aM haC]
    refine⟨p.2,n.toNat,m1.now,by rw[<-en],o1.left,(r1.tidy.rk p hmem).1,(r1.tidy.rk p hmem).2,λH2 l2 hl2 s3=>⟨dn++[(p.1,p.2.wr l2)],by rw[take_snoc hp];exact hl.snoc ⟨l2,hl2,rfl⟩,s2.trans (Step.focus s2.own (pc p.2) ?_ s3)⟩⟩
    rw[List.append_assoc]
    exact pc _
  .rintro σ H' ⟨a,l,rfl,hl,s2⟩
   rw[dj,List.take_length] at hl
   rw[dj,List.drop_length,List.append_nil] at s2
   refine⟨s2.keep aN hdC,?_⟩
   have u:=Step.unlock hO2 s2
   have rl:=r1.lZ (by rw[hs1];omega) hl
   have er:toK bK m1.vlans=toK bK l:=hl.gy _ _ λk x y⟨_,_,e⟩=>by rw[e]
   have e:ae.cells t {m1 with vlans:=l}=(m1.base t++(m1.ports.flatMap (ba.cells t)++m1.sides.flatMap (aA.cells t)))++((m1.bN,.dK (toK bK m1.vlans))::l.flatMap λp=>p.2.cells t):=by
    rw[ae.eI]
    show _++((m1.bN,HO.dK (toK bK l))::_)=_
    rw[er];rfl
   rw[<-ae.eI,<-e] at u
   exact k.fin (st.trans u) ha1 rfl rl rfl
theorem HR(T:Txt K mg t):aX P w K mg base aY 1 t.wD t.uK ["switch","v","a"] (cn t 2 λxs=>.age (xs.getD 0 0) (xs.getD 1 0)):=by
 refine T.z9.fn.ok BQ (λvs H Q E h=>?_) (λcdv A outer s0 H vs Q E hr h=>?_)
 .obtain⟨m,s,xs,hl,rfl,_⟩:=h
  simp[hl]
 .obtain⟨m,s,xs,hl,rfl,hO,rep,k⟩:=h
  obtain⟨v,a,rfl⟩:=cw hl
  have hu:=bC hr
  have nd:=BQ.nd
  have k:Kt t H m (Vbcnab.doing s (.age v a)) Q:=k
  simp only[Vbcnab.doing,ck rep,rep.isPort,rep.isVlan,bS] at k
  refine⟨_,ai (aw (cj (cF hu (pv 1) (ak (pv 0) rfl))) (ao (aq (aB (aa (bf bh (aj)) ah)))) (ay)) (ai (aw (bF (c9 bB bB (aj) (pv 2) (aI rfl T.lb))) (ao (aq (aB (aa (bf bh (aj)) ah)))) (ay)) (ai (bg (i:=3) nd rfl (Or.inl rfl) (bT hu (ak (pv 0) rfl) (pv 1) (λ_ _=>rfl))) (ai (bx (pv 3) (pv 2) rfl) (ao (aq (aB (aa (aj) ah))))))),?_⟩
  show aW _ _ _ [some (.ref m.a),some (.int v),some (.int a),none] H
  simp only[seval,aE]
  simp only[seval,ae.at t hO]
  refine⟨_,bu (ae.bJ t hO) v,?_⟩
  rw[Option.isSome_map]
  refine az (λh1=>k.fin (Step.refl hO) rfl (if_pos (by simpa using h1)) rep rfl) (λh1=>?_)
  obtain⟨u,hv⟩:=e9 h1
  rw[if_neg (by simp[hv])] at k
  have hid:=rep.key hv
  have eid:v.toNat=u.w.id:=by omega
  refine az (λh2=>k.fin (Step.refl hO) rfl (if_pos (decide_eq_false h2)) rep rfl) (λh2=>?_)
  have h2:=Decidable.not_not.mp h2
  rw[if_neg (by simp[h2]),eid] at k
  refine⟨_,by have z:=bu (ae.bJ t hO) v;rw[hv] at z;exact z,?_⟩
  have ov:=ae.cA rep.vk hO hv
  simp only[seval,af.at t ov]
  have e:bc "age" (V.int a) (bM u)=bM {u with w:={u.w with age:=a.toNat} }:=by
   have ea:a=((a.toNat:Nat):Int):=by omega
   conv=>lhs;rw[ea]
   rfl
  rw[e]
  exact k.fin (ae.fW rep.vk hO hv (y:={u with w:={u.w with age:=a.toNat} }) rfl (af.mT ov _)) rfl rfl (rep.onVlan hv (f:=λw=>{w with age:=a.toNat}) rfl (by show 1<=a.toNat;omega)) rfl
def LX(t:Ad):Sp:=λvs H Q _=>∃(v:af)(now:Nat),vs=[.ref v.a,.int now]/\Own H (v.cells t)/\(v.rows.map (·.1)).Nodup/\v.rows.length<sizeLine/\∀H',Step H (v.cells t) H' ((v.wr (v.rows.filter (cz now))).cells t)->Q .bj H'
theorem yO(T:Txt K mg t):aX P w K mg base aY 1 t.wY t.u5 ["vlan","now"] (LX t):=by
 refine T.rP.fn.ok B6 (λvs H Q E h=>?_) (λcdv A outer s0 H vs Q E hr h=>?_)
 .obtain⟨m,n,rfl,_⟩:=h
  rfl
 .obtain⟨v,now,rfl,hO,ndk,hlen,k⟩:=h
  have hu:=bC hr
  have nd:=B6.nd
  refine⟨_,ao (fG PassesOwn.never rfl (d3 (mj (lj rfl) rfl T.list boot_list (aa (ak (pv 0) rfl) ah))) (cP (i:=2) nd rfl (Or.inl rfl)) (ai (bg (i:=3) nd rfl (Or.inl rfl) (bT hu (ak (pv 0) rfl) (pv 2) (λ_ _=>rfl))) (ao (aw (PW.pt (eR (aU bb (ak (pv 3) rfl) (aI rfl T.iZ) (aQ _)) (eT (aU bB (ak (pv 3) rfl) (pv 1) (aQ _))))) (ao (cB (iD (ak (pv 0) rfl) (pv 2) ⟨rfl,rfl,rfl,rfl⟩))) (ay))))),?_⟩
  show mW _ _ _ _ [some (.ref v.a),some (.int now),none,none] H
  simp only[seval,af.at t hO]
  refine⟨_,.inl (af.cD t hO),λL hL=>?_⟩
  rw[gJ]
  have hLv:L∉adr (v.cells t):=hO.none hL
  have sL:au H (upd H L (.lst (v.rows.map λp=>V.int p.1))):=bp (au.refl H) hL
  refine⟨⟨_,ax.of aN⟩,gm (K:=K) (a:=L) (xs:=v.rows.map λp=>V.int p.1) (λi σ H'=>∃a b:Option V,σ=[some (.ref v.a),some (.int now),a,b]/\Step (upd H L (.lst (v.rows.map λp=>V.int p.1))) (v.cells t) H' ((v.wr (cu (cz now) v.rows i)).cells t)) ⟨none,none,rfl,Step.refl (hO.same sL)⟩ (λi σ H' _⟨_,_,_,s⟩=>ax.of (s.keep aN hLv)) ?_ ?_⟩
  .rintro i y σ H' hy ⟨a,b,rfl,s⟩
   rw[List.getElem?_map] at hy
   cases hp:v.rows[i]? with
   |none=>rw[hp] at hy;cases hy
   |some p=>
    rw[hp] at hy
    obtain rfl:V.int p.1=y:=Option.some.inj hy
    obtain⟨g1,g2,g3⟩:=xh (f:=cz now) ndk hp
    have o1:=s.own
    have aV:H' v.a=some (.ins t.Vlan v.d (bM v)):=af.at (m:=v.wr (cu (cz now) v.rows i)) t o1
    have aL:H' v.bO=some (.dK (toK bE (cu (cz now) v.rows i))):=af.cD t o1
    have gr:=bu aL p.1
    have aR:=af.fj t o1 (k:=p.1) g1
    simp only[seval,aV]
    refine⟨_,by rw[g1] at gr;exact gr,?_⟩
    simp only[seval,aV,aR]
    have kf:p.2.r.kind.number=0↔p.2.r.kind=.learned:=by cases p.2.r.kind<;>decide
    refine az (λh0=>?_) (λh0=>?_)
    .refine az (λh1=>?_) (λh1=>?_)
     .have hf:cz now p=false:=by unfold cz;simp[<-kf,h0,h1]
      refine⟨.inl ⟨_,.inl aL⟩,_,aL,Sum.inl p.1,rfl,_,(by rw[fI,g1];rfl),?_⟩
      rw[gf,g3 hf]
      exact s.trans (af.rJ (v:=v.wr (cu (cz now) v.rows i)) (rows:=a9 (cu (cz now) v.rows i) p.1) o1 List.filter_sublist)
     .have hf:cz now p=true:=by unfold cz;simp[h1]
      rw[g2 hf];exact s
    .have hf:cz now p=true:=by unfold cz;simp[<-kf,h0]
     rw[g2 hf];exact s
  .rintro σ H' ⟨a,b,rfl,s⟩
   have e:cu (cz now) v.rows (v.rows.map λp=>V.int p.1).length=v.rows.filter (cz now):=by
    unfold cu
    rw[List.length_map,List.take_length,List.drop_length,List.append_nil]
   rw[e] at s
   exact k H' ((Step.same hO sL).trans s)
theorem tK(x:bo)(d:Nat):(x.cut d).a=x.a/\(x.cut d).d=x.d:=by
 unfold bo.cut
 split<;>exact⟨rfl,rfl⟩
theorem Ia(T:Txt K mg t):aX P w K mg base aY 2 t.wO t.uU ["switch","v","d"] (cn t 2 λxs=>.shorten (xs.getD 0 0) (xs.getD 1 0)):=by
 refine T.Aj.fn.ok B1 (λvs H Q E h=>?_) (λcdv A outer s0 H vs Q E hr h=>?_)
 .obtain⟨m,s,xs,hl,rfl,_⟩:=h
  simp[hl]
 .obtain⟨m,s,xs,hl,rfl,hO,rep,k⟩:=h
  obtain⟨v,d,rfl⟩:=cw hl
  have hu:=bC hr
  have nd:=B1.nd
  have k:Kt t H m (Vbcnab.doing s (.shorten v d)) Q:=k
  simp only[Vbcnab.doing,ck rep,rep.isPort,rep.isVlan,bS] at k
  refine⟨_,ai (aw (cj (cF hu (pv 1) (ak (pv 0) rfl))) (ao (aq (aB (aa (bf bh (aj)) ah)))) (ay)) (ai (aw (bF (c9 bB bB (aj) (pv 2) (aI rfl T.lb))) (ao (aq (aB (aa (bf bh (aj)) ah)))) (ay)) (ai (bg (i:=3) nd rfl (Or.inl rfl) (bT hu (ak (pv 0) rfl) (pv 1) (λ_ _=>rfl))) (ai (fG PassesOwn.never rfl (d3 (mn rfl T.list (ak (pv 3) rfl))) (cP (i:=4) nd rfl (Or.inl rfl)) (ao (aw (aU bb (ak (pv 4) rfl) (aI rfl T.iZ) (aQ _)) (ao (bx (pv 4) (bW (Ds rfl) rfl T.min boot_min (aa (ak (pv 4) rfl) (aa (cG ez (ak (pv 0) rfl) (pv 2)) ah))) rfl)) (ay)))) (ai (cB (aD T.rP (yO T) (hr.mono (by decide)) rfl (aa (pv 3) (aa (ak (pv 0) rfl) ah)))) (ao (aq (aB (aa (aj) ah)))))))),?_⟩
  show aW _ _ _ [some (.ref m.a),some (.int v),some (.int d),none,none] H
  simp only[seval,aE]
  simp only[seval,ae.at t hO]
  refine⟨_,bu (ae.bJ t hO) v,?_⟩
  rw[Option.isSome_map]
  refine az (λh1=>k.fin (Step.refl hO) rfl (if_pos (by simpa using h1)) rep rfl) (λh1=>?_)
  obtain⟨u,hv⟩:=e9 h1
  rw[if_neg (by simp[hv])] at k
  have hid:=rep.key hv
  have eid:v.toNat=u.w.id:=by omega
  refine az (λh2=>k.fin (Step.refl hO) rfl (if_pos (decide_eq_false h2)) rep rfl) (λh2=>?_)
  have h2:=Decidable.not_not.mp h2
  rw[if_neg (by simp[h2]),eid] at k
  refine⟨_,by have z:=bu (ae.bJ t hO) v;rw[hv] at z;exact z,?_⟩
  have ov:=ae.cA rep.vk hO hv
  have ok:=rep.at hv
  have haO:=ae.Co rep.vk hO hv
  simp only[seval,af.at t ov]
  refine⟨_,.inl (af.cD t ov),λL hL=>?_⟩
  rw[jw]
  have hLv:L∉adr (u.cells t):=ov.none hL
  have sL:au H (upd H L (.lst (u.rows.map λp=>bE p.2))):=bp (au.refl H) hL
  have idm:∀l:IM bo,(l.map λq=>(q.1,q.2))=l:=λl=>List.map_id _
  refine⟨⟨_,ax.of aN⟩,gm (K:=K) (a:=L) (xs:=u.rows.map λp=>bE p.2) (λi σ H'=>∃a:Option V,σ=[some (.ref m.a),some (.int v),some (.int d),some (.ref u.a),a]/\∃dn,cc (λx y=>y=x.cut (m.now+d.toNat)) (u.rows.take i) dn/\Step (upd H L (.lst (u.rows.map λp=>bE p.2))) (u.cells t) H' ((u.wr (dn++u.rows.drop i)).cells t)) ⟨none,rfl,[],.nil,Step.refl (ov.same sL)⟩ (λi σ H' _⟨_,_,_,_,s⟩=>ax.of (s.keep aN hLv)) ?_ ?_⟩
  .rintro i y σ H' hy ⟨a,rfl,dn,hdn,s⟩
   rw[List.getElem?_map] at hy
   cases hp:u.rows[i]? with
   |none=>rw[hp] at hy;cases hy
   |some p=>
    rw[hp] at hy
    obtain rfl:bE p.2=y:=Option.some.inj hy
    obtain⟨g1,g2,g3⟩:=rS (λx=>x) hp ok.rk hdn
    rw[idm] at g1 g2 g3
    rw[idm] at g3
    have o1:=s.own
    have aR:=af.fj (m:=u.wr (dn++u.rows.drop i)) t o1 (k:=p.1) g1
    have aM:H' m.a=some (.ins t.Switch m.d (cC m)):=s.keep (sL _ _ (ae.at t hO)) haO
    simp only[seval,aR,bE,aM]
    have kf:p.2.r.kind.number=0↔p.2.r.kind=.learned:=by cases p.2.r.kind<;>decide
    have next:∀y:bo,y=p.2.cut (m.now+d.toNat)->∀H2,Step (upd H L (.lst (u.rows.map λp=>bE p.2))) (u.cells t) H2 ((u.wr ((dn++[(p.1,y)])++u.rows.drop (i+1))).cells t)->∃dn',cc (λx y=>y=x.cut (m.now+d.toNat)) (u.rows.take (i+1)) dn'/\Step (upd H L (.lst (u.rows.map λp=>bE p.2))) (u.cells t) H2 ((u.wr (dn'++u.rows.drop (i+1))).cells t):=λy hy H2 st=>
     ⟨dn++[(p.1,y)],by rw[take_snoc hp];exact cc.snoc (Rl:=λx y:bo=>y=x.cut (m.now+d.toNat)) hy hdn,st⟩
    refine az (λh0=>?_) (λh0=>?_)
    .have hk:=kf.mp h0
     have e1:p.2.cut (m.now+d.toNat)={p.2 with un:=min p.2.un ((m.now+d.toNat:Nat):Int),r:={p.2.r with until_:=min p.2.r.until_ (m.now+d.toNat)} }:=if_pos hk
     have e2:(if(m.now:Int)+d<p.2.un then(m.now:Int)+d else p.2.un)=min p.2.un ((m.now+d.toNat:Nat):Int):=by
      have:(d.toNat:Int)=d:=by omega
      split<;>omega
     have st:=af.Au (t:=t) (r1:=p.2.cut (m.now+d.toNat)) g2 o1 g1 (tK _ _).1 (tK _ _).2
     have ef:bc "until" (V.int (if(m.now:Int)+d<p.2.un then(m.now:Int)+d else p.2.un)) (cM p.2)=cM (p.2.cut (m.now+d.toNat)):=by
      rw[e2,e1];rfl
     rw[ef]
     refine next _ rfl _ ?_
     have st2:=s.trans st
     rw[<-g3]
     exact st2
    .have e1:p.2.cut (m.now+d.toNat)=p.2:=if_neg λz=>h0 (kf.mpr z)
     refine next p.2 e1.symm _ ?_
     have e:(dn++[(p.1,p.2)])++u.rows.drop (i+1)=dn++u.rows.drop i:=by
      rw[List.append_assoc]
      have hi:i<u.rows.length:=(List.getElem?_eq_some_iff.mp hp).1
      rw[List.drop_eq_getElem_cons hi,(List.getElem?_eq_some_iff.mp hp).2];rfl
     rw[e];exact s
  .rintro σ H' ⟨a,rfl,dn,hdn,s⟩
   rw[List.length_map,List.take_length] at hdn
   rw[List.length_map,List.drop_length,List.append_nil] at s
   have ed:dn=u.rows.map λp=>(p.1,p.2.cut (m.now+d.toNat)):=by
    have z:=hdn.gy (λp:Int×bo=>(p.1,p.2.cut (m.now+d.toNat))) (λp:Int×bo=>p) λk x y e=>by rw[e]
    rw[z,List.map_id']
   have aM:H' m.a=some (.ins t.Switch m.d (cC m)):=s.keep (sL _ _ (ae.at t hO)) haO
   simp only[seval,aM]
   refine⟨u.wr dn,m.now,rfl,s.own,?_,?_,λH2 s2=>?_⟩
   .rw[ed];show((u.rows.map _).map _).Nodup;rw[List.map_map];exact ok.rk
   .rw[ed];show(u.rows.map _).length<_;rw[List.length_map];exact(ok.cY rep.c5).1
   .have st:=ae.fW rep.vk hO hv (y:=u.wr (dn.filter (cz m.now))) rfl (((Step.same ov sL).trans s).trans s2)
    have rf:=rep.shorten hv d.toNat
    rw[<-ed] at rf
    exact k.fin st rfl rfl rf rfl
end
end Sw
namespace Sw
open PySem PySem.Spec PyProof.Rows L2
theorem xp(n:Nat)(c:Int):(List.replicate n [V.int c]).flatten=(List.replicate n c).map V.int:=by
 induction n with
 |zero=>rfl
 |succ n ih=>rw[List.replicate_succ,List.flatten_cons,ih,List.replicate_succ,List.map_cons];rfl
theorem lJ{a:Int}(h:0<=a):decide (a/1099511627776%2=1)=Vbcnab.isGroup a.toNat:=by
 unfold Vbcnab.isGroup
 have e:(a.toNat/2^40%2==1)=decide (a.toNat/2^40%2=1):=rfl
 rw[e]
 exact decide_eq_decide.mpr (by omega)
theorem nW:((2:Int)^48 -1)=281474976710655:=by decide
theorem DZ:((2:Int)^62)=4611686018427387904:=by decide
section
variable{P:Program}{w:World}{K:PySem.W.Frag}{mg:Str->Option Value}{base:Heap}{t:Ad}
theorem Ik(T:Txt K mg t):aX P w K mg base aY 2 t.w_ t.vb ["switch","n"] (cn t 1 λxs=>.tick (xs.getD 0 0)):=by
 refine T.tick.fn.ok Ca (λvs H Q E h=>?_) (λcdv A outer s0 H vs Q E hr h=>?_)
 .obtain⟨m,s,xs,hl,rfl,_⟩:=h
  simp[hl]
 .obtain⟨m,s,xs,hl,rfl,hO,rep,k⟩:=h
  obtain⟨n,rfl⟩:=bV hl
  have hu:=bC hr
  have nd:=Ca.nd
  have k:Kt t H m (Vbcnab.doing s (.tick n)) Q:=k
  simp only[Vbcnab.doing,ck rep,rep.isPort,rep.isVlan,bS] at k
  refine⟨_,ai (aw (bF (c9 bB bB (aj) (pv 1) (aI rfl T.sU))) (ao (aq (aB (aa (bf bh (aj)) ah)))) (ay)) (ai (aw (aU md (cG ez (ak (pv 0) rfl) (pv 1)) (aI rfl T.sU) (aQ _)) (ao (aq (aB (aa (bf bh (aj)) ah)))) (ay)) (ai (iH (pv 0) (pv 1) iu) (ai (fG PassesOwn.never rfl (d3 (mn rfl T.list (ak (pv 0) rfl))) (cP (i:=2) nd rfl (Or.inl rfl)) (ai (cB (aD T.rP (yO T) (hr.mono (by decide)) rfl (aa (pv 2) (aa (ak (pv 0) rfl) ah)))) (ao (bx (pv 2) (cG ku (aB (aa (aj) ah)) (bW dN rfl T.len PySem.boot_len (aa (ak (pv 0) rfl) ah))) rfl)))) (ao (aq (aB (aa (aj) ah))))))),?_⟩
  show aW _ _ _ [some (.ref m.a),some (.int n),none] H
  simp only[seval,aE]
  have eE:((Vbcnab.END:Nat):Int)=4611686018427387904:=rfl
  rw[DZ,eE,rep.now] at k
  refine az (λh0=>k.fin (Step.refl hO) rfl (if_pos (decide_eq_false h0)) rep rfl) (λh0=>?_)
  have h0:=Decidable.not_not.mp h0
  rw[if_neg (by simp[h0])] at k
  simp only[seval,ae.at t hO]
  refine az (λh1=>k.fin (Step.refl hO) rfl (if_pos (by omega)) rep rfl) (λh1=>?_)
  rw[if_neg (by omega)] at k
  have en:((n.toNat:Nat):Int)=n:=by omega
  have ef:bc "now" (V.int ((m.now:Int)+n)) (cC m)=cC {m with now:=m.now+n.toNat}:=by
   have ea:(m.now:Int)+n=((m.now+n.toNat:Nat):Int):=by omega
   conv=>lhs;rw[ea]
   rfl
  rw[ef]
  have st:=ae.Aq (t:=t) (m':={m with now:=m.now+n.toNat}) hO rfl
  generalize hm1:({m with now:=m.now+n.toNat}:ae)=m1 at st
  have hn1:m1.now=m.now+n.toNat:=by rw[<-hm1]
  have ha1:m1.a=m.a:=by rw[<-hm1]
  have hs1:m1.sides=m.sides:=by rw[<-hm1]
  have hv1:m1.vlans=m.vlans:=by rw[<-hm1]
  generalize hH1:upd H m.a (HO.ins t.Switch m.d (cC m1))=H1 at st
  have hO1:=st.own
  rw[<-ha1]
  simp only[seval,aE]
  refine⟨_,.inl (ae.bJ t hO1),λL hL=>?_⟩
  rw[jw]
  have hLv:L∉adr (m1.cells t):=hO1.none hL
  have sL:au H1 (upd H1 L (.lst (m1.vlans.map λp=>bK p.2))):=bp (au.refl H1) hL
  have idm:∀l:IM af,(l.map λq=>(q.1,q.2))=l:=λl=>List.map_id _
  have vk1:(m1.vlans.map (·.1)).Nodup:=by rw[hv1];exact rep.vk
  refine⟨⟨_,ax.of aN⟩,gm (K:=K) (a:=L) (xs:=m1.vlans.map λp=>bK p.2) (λi σ H'=>∃a:Option V,σ=[some (.ref m1.a),some (.int n),a]/\∃dn,cc (sg m1.now m1.sides.length) (m1.vlans.take i) dn/\Step (upd H1 L (.lst (m1.vlans.map λp=>bK p.2))) (m1.cells t) H' (ae.cells t {m1 with vlans:=dn++m1.vlans.drop i})) ⟨none,rfl,[],.nil,Step.refl (hO1.same sL)⟩ (λi σ H' _⟨_,_,_,_,s⟩=>ax.of (s.keep aN hLv)) ?_ ?_⟩
  .rintro i y σ H' hy ⟨a,rfl,dn,hdn,s3⟩
   rw[List.getElem?_map] at hy
   cases hp:m1.vlans[i]? with
   |none=>rw[hp] at hy;cases hy
   |some p=>
    rw[hp] at hy
    obtain rfl:bK p.2=y:=Option.some.inj hy
    obtain⟨g1,g2,g3⟩:=rS (λx=>x) hp vk1 hdn
    rw[idm] at g1 g2 g3
    rw[idm] at g3
    have o1:=s3.own
    have aM:H' m1.a=some (.ins t.Switch m1.d (cC m1)):=ae.at (m:={m1 with vlans:=dn++m1.vlans.drop i}) t o1
    have ov:=ae.cA (m:={m1 with vlans:=dn++m1.vlans.drop i}) g2 o1 g1
    have pm:p∈m.vlans:=by rw[<-hv1];exact List.mem_of_getElem? hp
    have okp:=rep.cN p pm
    simp only[seval,aM,bK]
    refine⟨p.2,m1.now,rfl,ov,okp.rk,(okp.cY rep.c5).1,λH2 s4=>?_⟩
    have st2:=ae.fW (m:={m1 with vlans:=dn++m1.vlans.drop i}) (y:=p.2.wr (p.2.rows.filter (cz m1.now))) g2 o1 g1 rfl s4
    have o2:=st2.own
    have aM2:H2 m1.a=some (.ins t.Switch m1.d (cC m1)):=ae.at (m:=ae.cb {m1 with vlans:=dn++m1.vlans.drop i} p.1 (p.2.wr (p.2.rows.filter (cz m1.now)))) t o2
    have aS2:H2 m1.fV=some (.lst (m1.sides.map λp=>V.ref p.a)):=ae.bZ (m:=ae.cb {m1 with vlans:=dn++m1.vlans.drop i} p.1 (p.2.wr (p.2.rows.filter (cz m1.now)))) t o2
    simp only[seval,aE]
    intro l0 hl0
    have n1:m1.a≠l0:=cZ aM2 hl0
    have n2:m1.fV≠l0:=cZ aS2 hl0
    simp only[seval,aF n1,aM2,aF n2,aS2,List.length_map]
    refine⟨by have:=rep.cg;rw[hs1];omega,by have:=rep.cg;rw[hs1];omega,by have:=rep.cg;rw[hs1];show 1*_<=sizeLine;have z:sizeLine=2^24:=rfl;rw[z];omega,λl hl=>?_⟩
    have hlH2:H2 l=none:=by
     cases e:H2 l with
     |none=>rfl
     |some o=>
      have:l≠l0:=cZ e hl0
      rw[aF this,e] at hl;cases hl
    rw[Int.toNat_natCast,xp]
    have sm:au H2 (upd (upd H2 l0 (.lst [.int 0])) l (.lst ((List.replicate m1.sides.length (0:Int)).map V.int))):=bp (bp (au.refl H2) hl0) hlH2
    have aV:H2 p.2.a=some (.ins t.Vlan p.2.d (bM p.2)):=af.at (m:=p.2.wr (p.2.rows.filter (cz m1.now))) t s4.own
    simp only[seval,sm _ _ aV]
    have st5:=af.Mb (t:=t) (v:=p.2.wr (p.2.rows.filter (cz m1.now))) s4.own (l:=l) (g:=List.replicate m1.sides.length 0) sm hlH2 aN
    have st6:=ae.fW (m:={m1 with vlans:=dn++m1.vlans.drop i}) (y:={p.2.wr (p.2.rows.filter (cz m1.now)) with cU:=l,spread:=List.replicate m1.sides.length 0}) g2 o1 g1 rfl (s4.trans st5)
    refine⟨dn++[(p.1,{p.2.wr (p.2.rows.filter (cz m1.now)) with cU:=l,spread:=List.replicate m1.sides.length 0})],by rw[take_snoc hp];exact hdn.snoc ⟨l,rfl⟩,?_⟩
    have st7:=s3.trans st6
    rw[<-g3]
    exact st7
  .rintro σ H' ⟨a,rfl,dn,hdn,s3⟩
   rw[List.length_map,List.take_length] at hdn
   rw[List.length_map,List.drop_length,List.append_nil] at s3
   have st8:=(st.trans (Step.same hO1 sL)).trans s3
   rw[hv1,hs1,hn1] at hdn
   have rt:=rep.tick (now':=m.now+n.toNat) (by omega) hdn
   have em:({m1 with vlans:=dn}:ae)={m with vlans:=dn,now:=m.now+n.toNat}:=by rw[<-hm1]
   rw[em] at st8
   simp only[seval,aE]
   exact k.fin st8 rfl rfl rt rfl
theorem Rep.Ea{m:ae}{s:Vbcnab.State}(r:Rep m s):Rep (m.forget [-1]) s:=by
 have z:=r.forget [-1] (λ_=>false) λv hv x hx hk=>by
  have ok:=(r.cN v hv).b_ x hx
  cases hs:x.2.r.side with
  |none=>exact absurd hs (ok.at_ hk)
  |some q=>
   refine(decide_eq_false ?_).symm
   show¬((q:Int)∈[(-1:Int)])
   simp
 have e:Vbcnab.forget s (λ_=>false)=s:=by
  unfold Vbcnab.forget
  have:(s.rows.filter λr=>r.kind== .fixed|| !false)=s.rows:=List.filter_eq_self.mpr λb _=>by simp
  rw[this]
 rw[e] at z
 exact z
theorem HW(T:Txt K mg t):aX P w K mg base aY 3 t.wI t.uO ["switch","number"] (cn t 1 λxs=>.mirror (xs.getD 0 0)):=by
 refine T.Ac.fn.ok BV (λvs H Q E h=>?_) (λcdv A outer s0 H vs Q E hr h=>?_)
 .obtain⟨m,s,xs,hl,rfl,_⟩:=h
  simp[hl]
 .obtain⟨m,s,xs,hl,rfl,hO,rep,k⟩:=h
  obtain⟨q,rfl⟩:=bV hl
  have hu:=bC hr
  have nd:=BV.nd
  have k:Kt t H m (Vbcnab.doing s (.mirror q)) Q:=k
  simp only[Vbcnab.doing,ck rep,rep.isPort,rep.isVlan,bS] at k
  refine⟨_,ai (aw (bF (bD (aD T.lT (oV T) (hr.mono (by decide)) rfl (aa (pv 0) (aa (pv 1) ah))))) (ao (aq (aB (aa (bf bh (aj)) ah)))) (ay)) (ai (bx (pv 0) (pv 1) rfl) (ai (cB (aD T.lH (oQ T) (hr.mono (by decide)) rfl (aa (pv 0) (aa (aB (aa (pv 1) ah)) ah)))) (ao (aq (aB (aa (aj) ah)))))),?_⟩
  show aW _ _ _ [some (.ref m.a),some (.int q)] H
  simp only[seval,aE]
  refine⟨m,q,rfl,hO,?_⟩
  simp only[seval,ae.at t hO]
  refine az (λh0=>?_) (λh0=>?_)
  .rw[if_neg (λz=>h0 (.inl z))] at k
   exact k.fin (Step.refl hO) rfl (if_pos (decide_eq_false λz=>h0 (.inr z))) rep rfl
  have h0:=Decidable.not_not.mp h0
  have ef:bc "mirror" (V.int q) (cC m)=cC {m with mirror:=if q=-1 then none else some q.toNat}:=by
   have ea:q=oI (if q=-1 then none else some q.toNat):=by
    by_cases z:q=-1
    .rw[if_pos z,z];rfl
    .rw[if_neg z];show q=(q.toNat:Int);omega
   conv=>lhs;rw[ea]
   rfl
  obtain⟨o,ho⟩:∃o,(if q=-1 then none else some q.toNat:Option Nat)=o:=⟨_,rfl⟩
  rw[ho] at ef
  intro l hl
  rw[ef] at hl⊢
  have st:=ae.Aq (t:=t) (m':={m with mirror:=o}) hO rfl
  have r1:=rep.Gb o λy hy=>by
   by_cases z:q=-1
   .rw[if_pos z] at ho;subst ho;cases hy
   .rw[if_neg z] at ho
    subst ho
    have hy:q.toNat=y:=Option.some.inj hy
    omega
  have s1:=Step.same st.own (bp (au.refl _) hl (o:=.lst [.int q]))
  refine⟨{m with mirror:=o},l,[q],rfl,s1.own,r1.tidy,aN,st.own.none hl,λH' s2=>?_⟩
  by_cases z:q=-1
  .rw[if_pos z] at k ho
   subst ho
   have rf:=r1.Ea
   rw[<-z] at rf
   exact k.fin ((st.trans s1).trans s2) rfl rfl rf rfl
  .have hq:0<=q/\q<m.sides.length:=h0.resolve_left z
   rw[if_neg z,if_neg (by simp[hq])] at k
   rw[if_neg z] at ho
   subst ho
   have en:q=((q.toNat:Nat):Int):=by omega
   have rf:=r1.xt q.toNat
   rw[<-en] at rf
   exact k.fin ((st.trans s1).trans s2) rfl rfl rf rfl
end
end Sw
namespace Sw
open PySem PySem.Spec PyProof.Rows L2
section
variable{P:Program}{w:World}{K:PySem.W.Frag}{mg:Str->Option Value}{base:Heap}{t:Ad}
theorem jM{α:Type}(f g:α->V)(p:α->Bool)(st:Nat->V->Option V):∀(l:List α)(k:Nat),(∀i x,l[i]? =some x->st (k+i) (f x)=if p x=true then some (g x) else none)->bA st k (l.map f)=(l.filter p).map g
 |[],_,_=>rfl
 |x::l,k,h=>by
  have ih:=jM f g p st l (k+1) λi y hy=>by
   have z:=h (i+1) y hy
   rw[show k+(i+1)=k+1+i by omega] at z
   exact z
  have h0:=h 0 x rfl
  rw[Nat.add_zero] at h0
  rw[List.map_cons,List.filter_cons]
  unfold bA
  rw[h0,ih]
  cases p x<;>rfl
theorem tF{α:Type}(f g:α->V)(st:Nat->V->Option V)(l:List α)(k:Nat)(h:∀i x,l[i]? =some x->st (k+i) (f x)=some (g x)):bA st k (l.map f)=l.map g:=by
 rw[jM f g (λ_=>true) st l k λi x hx=>by rw[h i x hx,if_pos rfl],List.filter_eq_self.mpr λ_ _=>rfl]
theorem ae.L7{H:Hp}{m:ae}(h:Own H (m.cells t))(k:Int):Step H (m.cells t) (upd H m.bN (.dK (toK bK (a9 m.vlans k)))) (ae.cells t {m with vlans:=a9 m.vlans k}):=by
 have s1:Step H (m.cells t) (upd H m.bN (.dK (toK bK (a9 m.vlans k)))) ((m.base t++(m.ports.flatMap (ba.cells t)++m.sides.flatMap (aA.cells t)))++((m.bN,.dK (toK bK (a9 m.vlans k)))::m.vlans.flatMap λp=>p.2.cells t)):=Step.cell h (ae.eI t m) rfl
 have e:ae.cells t {m with vlans:=a9 m.vlans k}=(m.base t++(m.ports.flatMap (ba.cells t)++m.sides.flatMap (aA.cells t)))++((m.bN,.dK (toK bK (a9 m.vlans k)))::(a9 m.vlans k).flatMap λp=>p.2.cells t):=by
  rw[ae.eI];rfl
 rw[e]
 exact s1.sub ((List.Sublist.refl _).append (List.Sublist.cons₂ _ (kS _ List.filter_sublist)))
theorem xu{H H1:Hp}{m m1:ae}{s1:Vbcnab.State}{Q:VK}{res:Vbcnab.State×List Int}(k:Kt t H m res Q)(st:Step H (m.cells t) H1 (m1.cells t))(ha:m1.a=m.a)(r1:Rep m1 s1){kk:Int}{u:af}(hv:lk m1.vlans kk=some u){q:Nat}{n:Int}(en:n=q)(e:res=(Vbcnab.forgetAt s1 u.w.id q,[0])){D:Hp->Prop}(hD:∀H',(∀p,H' p=none->Q (.ref p) (upd H' p (.lst [.int 0])))->D H'):∀l,H1 l=none->kN t [.ref u.a,.ref l] (upd H1 l (.lst [.int n])) (λ_ H'=>D H') E0:=λl hl=>by
 have ok:=r1.at hv
 have ov:=ae.cA r1.vk st.own hv
 have sl:au H1 (upd H1 l (.lst [.int n])):=bp (au.refl _) hl
 have st1:=Step.same st.own sl
 refine⟨u,l,[n],rfl,ov.same sl,ok.rk,(ok.cY r1.c5).1,aN,ov.none hl,λH' s2=>hD H' ?_⟩
 have s3:=(st.trans st1).trans (ae.fW (y:=u.forget [n]) r1.vk st1.own hv rfl s2)
 have rf:=r1.forgetAt hv q
 rw[<-en] at rf
 exact k.fin s3 ha e rf rfl
theorem Hw(T:Txt K mg t):aX P w K mg base aY 2 t.vO t.tX ["switch","v"] (cn t 1 λxs=>.novlan (xs.getD 0 0)):=by
 refine T.vp.fn.ok Bs (λvs H Q E h=>?_) (λcdv A outer s0 H vs Q E hr h=>?_)
 .obtain⟨m,s,xs,hl,rfl,_⟩:=h
  simp[hl]
 .obtain⟨m,s,xs,hl,rfl,hO,rep,k⟩:=h
  obtain⟨v,rfl⟩:=bV hl
  have hu:=bC hr
  have nd:=Bs.nd
  have k:Kt t H m (Vbcnab.doing s (.novlan v)) Q:=k
  simp only[Vbcnab.doing,ck rep,rep.isPort,rep.isVlan,bS] at k
  refine⟨_,ai (aw (cj (cF hu (pv 1) (ak (pv 0) rfl))) (ao (aq (aB (aa (bf bh (aj)) ah)))) (ay)) (ai (aw (bD (bW (DD rfl) rfl T.any boot_any (aa (iF rfl nd (d3 (ak (pv 0) rfl)) (eY (own:=[("side",2)]) (by show d_ ["switch","v","side"] (aK mI) _ _=true;decide+kernel)) (λ_ _ _ _ _=>cP (i:=2) nd rfl (Or.inl rfl)) (λ_ _ _ _ _=>kH) (λ_ _ _ _ _=>aD T.mS (oY T) (hr.mono (by decide)) rfl (aa (pv 2) (aa (pv 1) ah)))) ah))) (ao (aq (aB (aa (bf bh (aj)) ah)))) (ay)) (ai (cB (iD (ak (pv 0) rfl) (pv 1) ⟨rfl,rfl,rfl,rfl⟩)) (ao (aq (aB (aa (aj) ah)))))),?_⟩
  show aW _ _ _ [some (.ref m.a),some (.int v),none] H
  simp only[seval,aE]
  simp only[seval,ae.at t hO]
  refine⟨_,bu (ae.bJ t hO) v,?_⟩
  rw[Option.isSome_map]
  refine az (λh1=>k.fin (Step.refl hO) rfl (if_pos (by simpa using h1)) rep rfl) (λh1=>?_)
  obtain⟨u,hv⟩:=e9 h1
  rw[if_neg (by simp[hv])] at k
  have hid:=rep.key hv
  have eid:v.toNat=u.w.id:=by omega
  have ok:=rep.at hv
  simp only[eid] at k
  have l64:m.sides.length<=64:=rep.cg
  refine⟨⟨_,ax.of (ae.bZ t hO)⟩,λD hD=>ke (λi _=>some (V.bl (match m.sides[i]? with|some x=>decide (x.isIn v)|none=>false))) hD (ax.of (ae.bZ t hO)) (by rw[List.length_map];exact Nat.le_trans l64 (by decide)) ?_ ?_⟩
  .intro i x H2 R hx hS hR
   rw[List.getElem?_map] at hx
   cases hj:m.sides[i]? with
   |none=>rw[hj] at hx;cases hx
   |some sd=>
    rw[hj] at hx
    obtain rfl:V.ref sd.a=x:=Option.some.inj hx
    simp only[hj] at hR
    simp only[seval,wipe,List.map_cons,List.map_nil,gH]
    exact⟨sd,v,rfl,(ae.cx hO hj).same hS,λH3 hS3=>hR H3 hS3⟩
  .intro H' hS hD'
   have e1:bA (λi _=>some (V.bl (match m.sides[i]? with|some x=>decide (x.isIn v)|none=>false))) 0 (m.sides.map λp=>V.ref p.a)=m.sides.map λx=>V.bl (decide (x.isIn v)):=tF _ _ _ _ _ λi x hx=>by rw[Nat.zero_add,hx]
   rw[e1] at hD'
   refine⟨D,m.sides.map λx=>decide (x.isIn v),rfl,ax.of (by rw[hD',List.map_map];rfl),?_⟩
   have st1:=Step.same hO hS
   have e2:(s.sides.any λd=>(Vbcnab.wire d u.w.id).isSome)=m.sides.any λx=>decide (x.isIn v):=by
    rw[rep.sides,List.any_map]
    have pos:=ok.pos
    have z:∀l:List aA,(∀x∈l,cI x)->(l.any ((λd=>(Vbcnab.wire d u.w.id).isSome)∘λx=>x.s))=l.any λx=>decide (x.isIn v):=by
     intro l
     induction l with
     |nil=>intro _;rfl
     |cons a l ih=>
      intro hl
      rw[List.any_cons,List.any_cons,ih λx hx=>hl x (List.mem_cons_of_mem _ hx)]
      show((Vbcnab.wire a.s u.w.id).isSome||_)=_
      rw[m_ (hl a List.mem_cons_self) (by omega),hid]
    exact z m.sides rep.bL
   rw[e2] at k
   rw[List.any_map]
   simp only[seval,ae.at t st1.own]
   have e3:(m.sides.any (id∘λx=>decide (x.isIn v)))=m.sides.any λx=>decide (x.isIn v):=rfl
   rw[e3]
   refine az (λh2=>k.fin st1 rfl (if_pos h2) rep rfl) (λh2=>?_)
   rw[if_neg h2] at k
   refine⟨.inl ⟨_,.inl (ae.bJ t st1.own)⟩,_,ae.bJ t st1.own,Sum.inl v,rfl,_,(by rw[fI,hv];rfl),?_⟩
   rw[gf]
   rw[<-e2] at h2
   exact k.fin (st1.trans (ae.L7 st1.own v)) rfl rfl (rep.DV hv (by simpa using h2)) rfl
theorem sy{c:Prop}[Decidable c]{H:Hp}{a:Addr}{v:V}{o:Option V}{A B:Prop}(hd:cO H a v o)(h:if c/\o=none then A else B):if c then∃o,cO H a v o/\(if(!o.isSome)=true then A else B) else B:=by
 by_cases hc:c
 .rw[if_pos hc]
  refine⟨o,hd,?_⟩
  cases o with
  |none=>rw[if_pos ⟨hc,rfl⟩] at h;exact h
  |some x=>rw[if_neg (λz=>by cases z.2)] at h;exact h
 .rw[if_neg hc]
  rw[if_neg (λz=>hc z.1)] at h;exact h
theorem HX(T:Txt K mg t):aX P w K mg base aY 2 t.wJ t.uP ["switch","number","v"] (cn t 2 λxs=>.native_ (xs.getD 0 0) (xs.getD 1 0)):=by
 refine T.Ae.fn.ok BW (λvs H Q E h=>?_) (λcdv A outer s0 H vs Q E hr h=>?_)
 .obtain⟨m,s,xs,hl,rfl,_⟩:=h
  simp[hl]
 .obtain⟨m,s,xs,hl,rfl,hO,rep,k⟩:=h
  obtain⟨n,v,rfl⟩:=cw hl
  have hu:=bC hr
  have nd:=BW.nd
  have k:Kt t H m (Vbcnab.doing s (.native_ n v)) Q:=k
  simp only[Vbcnab.doing,ck rep,rep.isPort,rep.isVlan,bS] at k
  refine⟨_,ai (aw (bF (bD (aD T.dO (dY T) (hr.mono (by decide)) rfl (aa (pv 0) (aa (pv 1) ah))))) (ao (aq (aB (aa (bf bh (aj)) ah)))) (ay)) (ai (aw (PW.pt (eR (aU fB (pv 2) (aI rfl T.ie) (aQ _)) (eT (cj (cF hu (pv 2) (ak (pv 0) rfl)))))) (ao (aq (aB (aa (bf bh (aj)) ah)))) (ay)) (ai (bg (i:=3) nd rfl (Or.inl rfl) (aO bP (ak (pv 0) rfl) (pv 1) (λ_ _=>rfl))) (ai (bg (i:=4) nd rfl (Or.inl rfl) (ak (pv 3) rfl)) (ai (aw (aU bb (pv 2) (pv 4) (aQ _)) (ao (aq (aB (aa (aj) ah)))) (ay)) (ai (aw (aU o5 (pv 2) (mn rfl T.list (ak (pv 3) rfl)) rfl) (ao (aq (aB (aa (bf bh (aj)) ah)))) (ay)) (ai (bx (pv 3) (pv 2) rfl) (ai (aw (aU fB (pv 4) (aI rfl T.ie) (aQ _)) (ao (cB (aD T.i6 (ko T) (hr.mono (by decide)) rfl (aa (bT hu (ak (pv 0) rfl) (pv 4) (λ_ _=>rfl)) (aa (aB (aa (pv 1) ah)) ah))))) (ay)) (ao (aq (aB (aa (aj) ah))))))))))),?_⟩
  show aW _ _ _ [some (.ref m.a),some (.int n),some (.int v),none,none] H
  simp only[seval,aE]
  refine⟨m,n,rfl,hO,?_⟩
  simp only[seval,aE]
  refine az (λh0=>k.fin (Step.refl hO) rfl (if_pos (decide_eq_false h0)) rep rfl) (λh0=>?_)
  have h0:=Decidable.not_not.mp h0
  rw[if_neg (by simp[h0])] at k
  obtain⟨sd,hsd,hat⟩:=dM (f:=λp:aA=>V.ref p.a) h0.1 h0.2
  have osd:=ae.cx hO hsd
  have bL:=rep.d6 hsd
  rw[d4 rep hsd] at k
  simp only[seval,ae.at t hO,ae.bZ t hO,hat,aA.at t osd]
  refine sy (bu (ae.bJ t hO) v) ?_
  refine az (λh1=>k.fin (Step.refl hO) rfl (if_pos ⟨h1.1,by cases e:lk m.vlans v with|none=>rfl|some x=>rw[e] at h1;cases h1.2⟩) rep rfl) (λh1=>?_)
  have hv:v=0\/∃u,lk m.vlans v=some u:=by
   by_cases z:v=0
   .exact .inl z
   .cases e:lk m.vlans v with
    |none=>exact absurd ⟨z,by rw[e];rfl⟩ h1
    |some x=>exact .inr ⟨x,rfl⟩
  rw[if_neg (λz=>hv.elim z.1 λ⟨u,hu⟩=>by rw[hu] at z;exact absurd z.2 (by simp))] at k
  refine az (λh2=>k.fin (Step.refl hO) rfl (if_pos h2.symm) rep rfl) (λh2=>?_)
  rw[if_neg (λz=>h2 z.symm),bL.sH v] at k
  refine⟨_,.inl (aA.dJ t osd),λl hl'=>⟨l,sd.pairs.map (·.2),v,rfl,rfl,ax.of (by rw[jw,List.map_map];exact aN),?_⟩⟩
  have sl:au H (upd H l (.lst ((toK V.int sd.pairs).map (·.2)))):=bp (au.refl H) hl'
  have st0:=Step.same hO sl
  have osd1:=ae.cx st0.own hsd
  simp only[seval,aA.at t osd1,ae.at t st0.own]
  refine az (λh3=>k.fin st0 rfl (if_pos (decide_eq_true h3)) rep rfl) (λh3=>?_)
  rw[if_neg (by simpa using h3)] at k
  have hv0:0<=v:=by
   rcases hv with z|⟨u,hu⟩
   .omega
   .have:=rep.key hu;omega
  have ev:v=((v.toNat:Nat):Int):=by omega
  have ef:bc "native" (V.int v) (cR sd)=cR {sd with s:={sd.s with native_:=v.toNat} }:=by
   conv=>lhs;rw[ev]
   rfl
  rw[ef]
  have st:=iL (y:={sd with s:={sd.s with native_:=v.toNat} }) st0.own hsd rfl rfl rfl rfl rfl
  have r1:=rep.side hsd (λd=>{d with native_:=v.toNat}) (y:={sd with s:={sd.s with native_:=v.toNat} }) rfl ⟨bL.perm,bL.bH,bL.pos,bL.jy,bL.gu⟩ λx hx z=>by
   rcases z with z|z
   .have z:v.toNat=x:=z
    rcases hv with y|⟨u,hu⟩
    .omega
    .exact⟨u,by rw[<-z,<-ev];exact hu⟩
   .exact rep.sv sd (List.mem_of_getElem? hsd) x hx (.inr z)
  have en:n=((n.toNat:Nat):Int):=by omega
  refine az (λh4=>?_) (λh4=>?_)
  .have hn0:sd.s.native_≠0:=λz=>h4 (by rw[z];rfl)
   obtain⟨u,hu⟩:=rep.sv sd (List.mem_of_getElem? hsd) _ hn0 (.inl rfl)
   have o2:=(st0.trans st).own
   have aM:=ae.at t o2
   have gv:=bu (ae.bJ t o2) (sd.s.native_:Int)
   simp only[seval,aM]
   refine⟨_,by rw[hu] at gv;exact gv,?_⟩
   have eu:u.w.id=sd.s.native_:=by have:=rep.key hu;omega
   exact xu k (st0.trans st) rfl r1 (kk:=(sd.s.native_:Int)) (u:=u) hu (q:=n.toNat) en (by rw[eu]) λH' z=>z
  .have h4:(sd.s.native_:Int)=0:=Decidable.not_not.mp h4
   have ln:lk m.vlans ((sd.s.native_:Nat):Int)=none:=by
    cases e:lk m.vlans ((sd.s.native_:Nat):Int) with
    |none=>rfl
    |some u=>have:=rep.key e;have:=(rep.at e).pos;omega
   exact k.fin (st0.trans st) rfl (by rw[r1.Ed ln]) r1 rfl
theorem kl{α:Type}[DecidableEq α]:∀{l l':List α},l.Nodup->(∀x∈l,x∈l')->l.length<=l'.length
 |[],_,_,_=>Nat.zero_le _
 |a::l,l',nd,h=>by
  have nd':=List.nodup_cons.mp nd
  have ih:=kl (l':=l'.erase a) nd'.2 λx hx=>by
   have hne:x≠a:=λe=>nd'.1 (by rw[<-e];exact hx)
   exact(List.mem_erase_of_ne hne).mpr (h x (List.mem_cons_of_mem _ hx))
  have ha:=h a List.mem_cons_self
  rw[List.length_erase_of_mem ha] at ih
  have:0<l'.length:=List.length_pos_of_mem ha
  rw[List.length_cons]
  omega
theorem Rep.nX{m:ae}{s:Vbcnab.State}(r:Rep m s){x:aA}(hx:x∈m.sides):x.pairs.length<=64:=by
 have o:=r.bL x hx
 have z:=o.perm.length_eq
 rw[List.length_map] at z
 have y:=kl (l':=m.vlans.map (·.2.w.id)) o.jy λv hv=>by
  obtain⟨p,hp,e⟩:=List.mem_map.mp hv
  obtain⟨u,hu⟩:=r.sv x hx v (by have:=(o.pos p hp).2;have e:p.2=v:=e;omega) (.inr hv)
  have:=r.key hu
  exact List.mem_map.mpr ⟨_,b0 hu,by show u.w.id=v;omega⟩
 rw[List.length_map,List.length_map] at y
 have:=r.ff
 omega
theorem Ax{H:Hp}{m:ae}{i:Nat}{x y:aA}(h:Own H (m.cells t))(hi:m.sides[i]? =some x)(ha:y.a=x.a)(hd:y.d=x.d)(hp:y.c0=x.c0)(hf:cR y=cR x):Step H (m.cells t) (upd H x.c0 (.dK (toK V.int y.pairs))) ((m.gF i y).cells t):=by
 have o:=ae.cx h hi
 refine ae.Aw h hi ha (Step.cell (A:=[(x.a,.ins t.Side x.d (cR x))]) (B:=[]) o rfl ?_)
 unfold aA.cells
 rw[ha,hd,hp,hf];rfl
theorem Hi(T:Txt K mg t):aX P w K mg base aY 2 t.vB t.tL ["switch","number","tag","v"] (cn t 3 λxs=>.pair (xs.getD 0 0) (xs.getD 1 0) (xs.getD 2 0)):=by
 refine T.sk.fn.ok Bm (λvs H Q E h=>?_) (λcdv A outer s0 H vs Q E hr h=>?_)
 .obtain⟨m,s,xs,hl,rfl,_⟩:=h
  simp[hl]
 .obtain⟨m,s,xs,hl,rfl,hO,rep,k⟩:=h
  obtain⟨n,g,v,rfl⟩:=ek hl
  have hu:=bC hr
  have nd:=Bm.nd
  have k:Kt t H m (Vbcnab.doing s (.pair n g v)) Q:=k
  simp only[Vbcnab.doing,ck rep,rep.isPort,rep.isVlan,bS] at k
  refine⟨_,ai (aw (bF (bD (aD T.dO (dY T) (hr.mono (by decide)) rfl (aa (pv 0) (aa (pv 1) ah))))) (ao (aq (aB (aa (bf bh (aj)) ah)))) (ay)) (ai (aw (bF (c9 bB bB (aj) (pv 2) (aI rfl T.sV))) (ao (aq (aB (aa (bf bh (aj)) ah)))) (ay)) (ai (aw (cj (cF hu (pv 3) (ak (pv 0) rfl))) (ao (aq (aB (aa (bf bh (aj)) ah)))) (ay)) (ai (bg (i:=4) nd rfl (Or.inl rfl) (aO bP (ak (pv 0) rfl) (pv 1) (λ_ _=>rfl))) (ai (aw (cj (jh hu (pv 2) (ak (pv 4) rfl))) (ao (aq (aB (aa (bf bh (aj)) ah)))) (ay)) (ai (aw (bD (aD T.mS (oY T) (hr.mono (by decide)) rfl (aa (pv 4) (aa (pv 3) ah)))) (ao (aq (aB (aa (bf bh (aj)) ah)))) (ay)) (ai (fF hu (ak (pv 4) rfl) (pv 2) (pv 3) rfl) (ao (aq (aB (aa (aj) ah)))))))))),?_⟩
  show aW _ _ _ [some (.ref m.a),some (.int n),some (.int g),some (.int v),none] H
  simp only[seval,aE]
  refine⟨m,n,rfl,hO,?_⟩
  simp only[seval,aE]
  refine az (λh0=>k.fin (Step.refl hO) rfl (if_pos (decide_eq_false h0)) rep rfl) (λh0=>?_)
  have h0:=Decidable.not_not.mp h0
  rw[if_neg (by simp[h0])] at k
  obtain⟨sd,hsd,hat⟩:=dM (f:=λp:aA=>V.ref p.a) h0.1 h0.2
  have osd:=ae.cx hO hsd
  have bL:=rep.d6 hsd
  rw[d4 rep hsd] at k
  simp only[seval,ae.at t hO,ae.bZ t hO,hat,aA.at t osd]
  refine az (λh1=>k.fin (Step.refl hO) rfl (if_pos (decide_eq_false h1)) rep rfl) (λh1=>?_)
  have h1:=Decidable.not_not.mp h1
  rw[if_neg (by simp[h1])] at k
  refine⟨_,bu (ae.bJ t hO) v,?_⟩
  rw[Option.isSome_map]
  refine az (λh2=>k.fin (Step.refl hO) rfl (if_pos (by simpa using h2)) rep rfl) (λh2=>?_)
  obtain⟨u,hv⟩:=e9 h2
  have hid:=rep.key hv
  have eid:v.toNat=u.w.id:=by omega
  have ok:=rep.at hv
  have pos:=ok.pos
  rw[if_neg (by simp[hv]),bL.Ct g,eid,m_ bL (by omega),hid] at k
  refine⟨_,bu (aA.dJ t osd) g,?_⟩
  rw[Option.isSome_map]
  refine az (λh3=>k.fin (Step.refl hO) rfl (if_pos h3) rep rfl) (λh3=>?_)
  rw[if_neg h3] at k
  refine⟨sd,v,rfl,osd,λH1 hS=>?_⟩
  have st0:=Step.same hO hS
  have osd1:=ae.cx st0.own hsd
  simp only[seval,aA.at t osd1]
  refine az (λh4=>k.fin st0 rfl (if_pos (decide_eq_true h4)) rep rfl) (λh4=>?_)
  rw[if_neg (by simpa using h4)] at k
  have ln:lk sd.pairs g=none:=by simpa using h3
  have nv:v∉sd.pairs.map (·.2):=λz=>h4 (.inr z)
  have eg:g=((g.toNat:Nat):Int):=by omega
  have ev:v=((u.w.id:Nat):Int):=hid.symm
  have cY:sd.pairs.length<sizeLine:=by
   exact Nat.lt_of_le_of_lt (rep.nX (List.mem_of_getElem? hsd)) (by decide)
  have hput:=dQ.k (k:=Sum.inl g) (v:=V.int v) (aA.dJ t osd1) (by rw[dj];exact cY)
  rw[mB ln] at hput
  refine⟨_,hput,?_⟩
  have ok2:=bL.add (t:=g.toNat) (v:=u.w.id) (by omega) pos (by rw[<-eg];exact ln) (by rw[hid];exact nv)
  rw[<-eg,hid] at ok2
  have st:=Ax (t:=t) (y:={sd with s:={sd.s with pairs:=Vbcnab.putPair (g.toNat,u.w.id) sd.s.pairs},pairs:=sd.pairs++[(g,v)]}) st0.own hsd rfl rfl rfl rfl
  have r1:=rep.side hsd (λd=>{d with pairs:=Vbcnab.putPair (g.toNat,u.w.id) d.pairs}) (y:={sd with s:={sd.s with pairs:=Vbcnab.putPair (g.toNat,u.w.id) sd.s.pairs},pairs:=sd.pairs++[(g,v)]}) rfl ok2 λx hx z=>by
   rcases z with z|z
   .exact rep.sv sd (List.mem_of_getElem? hsd) x hx (.inl z)
   .obtain⟨y,hy,e⟩:=List.mem_map.mp z
    rcases List.mem_cons.mp ((mD _ _).mem_iff.mp hy) with rfl|hy
    .exact⟨u,by rw[<-e];show lk m.vlans ((u.w.id:Nat):Int)=_;rw[hid];exact hv⟩
    .exact rep.sv sd (List.mem_of_getElem? hsd) x hx (.inr (List.mem_map.mpr ⟨y,hy,e⟩))
  exact k.fin (st0.trans st) rfl rfl r1 rfl
theorem Ie(T:Txt K mg t):aX P w K mg base aY 2 t.wX t.u4 ["switch","number","tag"] (cn t 2 λxs=>.unpair (xs.getD 0 0) (xs.getD 1 0)):=by
 refine T.A4.fn.ok B5 (λvs H Q E h=>?_) (λcdv A outer s0 H vs Q E hr h=>?_)
 .obtain⟨m,s,xs,hl,rfl,_⟩:=h
  simp[hl]
 .obtain⟨m,s,xs,hl,rfl,hO,rep,k⟩:=h
  obtain⟨n,g,rfl⟩:=cw hl
  have hu:=bC hr
  have nd:=B5.nd
  have k:Kt t H m (Vbcnab.doing s (.unpair n g)) Q:=k
  simp only[Vbcnab.doing,ck rep,rep.isPort,rep.isVlan,bS] at k
  refine⟨_,ai (aw (bF (bD (aD T.dO (dY T) (hr.mono (by decide)) rfl (aa (pv 0) (aa (pv 1) ah))))) (ao (aq (aB (aa (bf bh (aj)) ah)))) (ay)) (ai (bg (i:=3) nd rfl (Or.inl rfl) (aO bP (ak (pv 0) rfl) (pv 1) (λ_ _=>rfl))) (ai (aw (cj (cF hu (pv 2) (ak (pv 3) rfl))) (ao (aq (aB (aa (bf bh (aj)) ah)))) (ay)) (ai (bg (i:=4) nd rfl (Or.inl rfl) (iD (ak (pv 3) rfl) (pv 2) ⟨rfl,rfl,rfl,rfl⟩)) (ai (cB (aD T.i6 (ko T) (hr.mono (by decide)) rfl (aa (bT hu (ak (pv 0) rfl) (pv 4) (λ_ _=>rfl)) (aa (aB (aa (pv 1) ah)) ah)))) (ao (aq (aB (aa (aj) ah)))))))),?_⟩
  show aW _ _ _ [some (.ref m.a),some (.int n),some (.int g),none,none] H
  simp only[seval,aE]
  refine⟨m,n,rfl,hO,?_⟩
  simp only[seval,aE]
  refine az (λh0=>k.fin (Step.refl hO) rfl (if_pos (decide_eq_false h0)) rep rfl) (λh0=>?_)
  have h0:=Decidable.not_not.mp h0
  rw[if_neg (by simp[h0])] at k
  obtain⟨sd,hsd,hat⟩:=dM (f:=λp:aA=>V.ref p.a) h0.1 h0.2
  have osd:=ae.cx hO hsd
  have bL:=rep.d6 hsd
  rw[d4 rep hsd] at k
  simp only[seval,ae.at t hO,ae.bZ t hO,hat,aA.at t osd]
  refine⟨_,bu (aA.dJ t osd) g,?_⟩
  rw[Option.isSome_map]
  have bt:=bL.nA g
  cases hf:sd.s.pairs.find? λx=>(x.1:Int)==g with
  |none=>
   rw[hf] at k bt
   have bt:lk sd.pairs g=none:=bt
   rw[bt]
   exact k.fin (Step.refl hO) rfl rfl rep rfl
  |some y=>
   rw[hf] at k bt
   have bt:lk sd.pairs g=some (y.2:Int):=bt
   have ey:(y.1:Int)=g:=by have:=List.find?_some hf;simpa using this
   have my:=List.mem_of_find?_eq_some hf
   rw[bt]
   simp only[seval,Option.isSome_some]
   have y2:=(bL.pos y my).2
   obtain⟨u,hu⟩:=rep.sv sd (List.mem_of_getElem? hsd) y.2 (by omega) (.inr (List.mem_map.mpr ⟨y,my,rfl⟩))
   refine⟨.inl ⟨_,.inl (aA.dJ t osd)⟩,_,aA.dJ t osd,Sum.inl g,rfl,_,(by rw[fI,bt];rfl),?_⟩
   rw[gf]
   have ok2:=bL.del y.1
   rw[ey] at ok2
   have st:=Ax (t:=t) (y:={sd with s:={sd.s with pairs:=sd.s.pairs.filter λz=>z.1 !=y.1},pairs:=a9 sd.pairs g}) hO hsd rfl rfl rfl rfl
   have r1:=rep.side hsd (λd=>{d with pairs:=d.pairs.filter λz=>z.1 !=y.1}) (y:={sd with s:={sd.s with pairs:=sd.s.pairs.filter λz=>z.1 !=y.1},pairs:=a9 sd.pairs g}) rfl ok2 λx hx z=>by
    rcases z with z|z
    .exact rep.sv sd (List.mem_of_getElem? hsd) x hx (.inl z)
    .obtain⟨y',hy',e⟩:=List.mem_map.mp z
     exact rep.sv sd (List.mem_of_getElem? hsd) x hx (.inr (List.mem_map.mpr ⟨y',(List.mem_filter.mp hy').1,e⟩))
   have o2:=st.own
   have gv:=bu (ae.bJ t o2) (y.2:Int)
   simp only[seval,ae.at t o2]
   refine⟨_,by rw[show lk (m.gF n.toNat {sd with s:={sd.s with pairs:=sd.s.pairs.filter λz=>z.1 !=y.1},pairs:=a9 sd.pairs g}).vlans (y.2:Int)=some u from hu] at gv;exact gv,?_⟩
   have eu:u.w.id=y.2:=by have:=rep.key hu;omega
   exact xu k st rfl r1 (kk:=(y.2:Int)) (u:=u) hu (q:=n.toNat) (by omega) (by rw[eu]) λH' z=>z
end
end Sw
namespace Sw
open PySem PySem.Spec PyProof.Rows L2
theorem Rep.Cs{m:ae}{s:Vbcnab.State}(r:Rep m s){k:Int}{v:af}(h:lk m.vlans k=some v)(a:Int):(s.rows.any λr=>r.vlan==v.w.id&&((r.hw:Int)==a&&r.kind== .fixed))=match lk v.rows a with
 |some x=>decide (x.r.kind=.fixed)
 |none=>false:=by
 have o:=r.at h
 have inn:∀b∈s.rows,b.vlan=v.w.id->∃x,lk v.rows (b.hw:Int)=some x/\x.r=b:=λb hb hv=>by
  have hm:b∈(view s v.w.id).rows:=List.mem_filter.mpr ⟨hb,by simp[hv]⟩
  obtain⟨p,hp,e⟩:=List.mem_map.mp (o.rws.mem_iff.mp hm)
  have l:=dw o.rk hp
  have z:=(o.b_ p hp).hw
  rw[e] at z
  rw[<-z] at l
  exact⟨p.2,l,e⟩
 cases e:lk v.rows a with
 |none=>
  refine List.any_eq_false.mpr λb hb z=>?_
  rw[Bool.and_eq_true,Bool.and_eq_true] at z
  obtain⟨x,hx,_⟩:=inn b hb (eq_of_beq z.1)
  rw[eq_of_beq z.2.1,e] at hx
  cases hx
 |some x=>
  show _=decide (x.r.kind=.fixed)
  have ok:=o.b_ _ (b0 e)
  by_cases hk:x.r.kind=.fixed
  .rw[decide_eq_true hk]
   have hm:x.r∈(view s v.w.id).rows:=o.rws.mem_iff.mpr (List.mem_map.mpr ⟨_,b0 e,rfl⟩)
   refine List.any_eq_true.mpr ⟨x.r,(List.mem_filter.mp hm).1,?_⟩
   have h1:=ok.vlan
   have h2:=ok.hw
   simp only[] at h1 h2
   simp[h1,h2,hk]
  .rw[decide_eq_false hk]
   refine List.any_eq_false.mpr λb hb z=>?_
   rw[Bool.and_eq_true,Bool.and_eq_true] at z
   obtain⟨y,hy,ey⟩:=inn b hb (eq_of_beq z.1)
   rw[eq_of_beq z.2.1,e] at hy
   have:x=y:=Option.some.inj hy
   subst this
   exact hk (by rw[ey];exact eq_of_beq z.2.2)
section
variable{P:Program}{w:World}{K:PySem.W.Frag}{mg:Str->Option Value}{base:Heap}{t:Ad}
theorem ae.d7{H H':Hp}{m:ae}{k:Int}{x y:af}(nd:(m.vlans.map (·.1)).Nodup)(h:Own H (m.cells t))(hi:lk m.vlans k=some x)(s:Step H (x.cells t) H' (y.cells t))(ha:y.a=x.a:=by rfl):Step H (m.cells t) H' ((m.cb k y).cells t):=ae.fW nd h hi ha s
theorem e8{H:Hp}{x dx:Addr}(hx:H x=none)(hdx:H dx=none)(z:bo)(za:z.a=x)(zd:z.d=dx){kd sd un mv:Int}(h1:kd=z.r.kind.number)(h2:sd=oI z.r.side)(h3:un=z.un)(h4:mv=z.mv){C:Hp->Prop}(h:∀H2,au H H2->H2 x=some (.ins t.Row dx (cM z))->C H2):Ak t [.ref x,.int kd,.int sd,.int un,.int mv] (upd (upd H dx (.own x)) x (.ins t.Row dx [])) (λw H2=>w=.bj/\C H2) E0:=by
 subst h1 h2 h3 h4
 exact⟨x,dx,_,_,_,_,rfl,aN,λH2 hH2 hkeep=>⟨rfl,h H2 (au.made hx hdx hkeep) hH2⟩⟩
theorem af.put{H H2:Hp}{u:af}{z:bo}(nd:(u.rows.map (·.1)).Nodup)(cY:u.rows.length<sizeLine)(ov:Own H (u.cells t))(s2:au H H2)(hx:H z.a=none)(hH2:H2 z.a=some (.ins t.Row z.d (cM z)))(key:Int):∃H3,dQ H2 u.bO (.int key) (V.ref z.a) H3/\Step H (u.cells t) H3 ((u.wr (putL u.rows key z)).cells t):=by
 have hput:=dQ.k (k:=Sum.inl key) (v:=V.ref z.a) (s2 _ _ (af.cD t ov)) (by rw[dj];exact cY)
 rw[show V.ref z.a=bE z from rfl,pw bE] at hput
 exact⟨_,hput,af.As (t:=t) (k:=key) (r1:=z) nd ov s2 hx hH2⟩
theorem Cr{H:Hp}{m:ae}{u:af}{a:Addr}{v:V}{o:Option V}{A B:Hp->Prop}(hO:Own H (m.cells t))(ov:Own H (u.cells t))(hd:cO H a v o)(h:if o=none/\m.cap<=u.rows.length+u.groups.length then A H else B H):∃o,cO H a v o/\(if(!o.isSome)=true then An t [.ref m.a,.ref u.a] H (λx H1=>eX x λc=>if c=true then A H1 else B H1) E0 else B H):=by
 refine⟨o,hd,?_⟩
 cases o with
 |none=>
  refine⟨m,u,rfl,hO,ov,?_⟩
  show if decide (m.cap<=u.rows.length+u.groups.length)=true then A H else B H
  by_cases z:m.cap<=u.rows.length+u.groups.length
  .rw[if_pos ⟨rfl,z⟩] at h;rw[decide_eq_true z];exact h
  .rw[if_neg (λy=>z y.2)] at h;rw[decide_eq_false z];exact h
 |some x=>rw[if_neg (λz=>by cases z.1)] at h;exact h
theorem xX{x:Vbcnab.Kind}:x.number=2↔x=.fixed:=by cases x<;>decide
theorem Hx(T:Txt K mg t):aX P w K mg base aY 3 t.vP t.tY ["switch","v","hw","side"] (cn t 3 λxs=>.fix (xs.getD 0 0) (xs.getD 1 0) (xs.getD 2 0)):=by
 refine T.xk.fn.ok Bt (λvs H Q E h=>?_) (λcdv A outer s0 H vs Q E hr h=>?_)
 .obtain⟨m,s,xs,hl,rfl,_⟩:=h
  simp[hl]
 .obtain⟨m,s,xs,hl,rfl,hO,rep,k⟩:=h
  obtain⟨v,a,q,rfl⟩:=ek hl
  have hu:=bC hr
  have nd:=Bt.nd
  have k:Kt t H m (Vbcnab.doing s (.fix v a q)) Q:=k
  simp only[Vbcnab.doing,ck rep,rep.isPort,rep.isVlan,bS] at k
  refine⟨_,ai (aw (cj (cF hu (pv 1) (ak (pv 0) rfl))) (ao (aq (aB (aa (bf bh (aj)) ah)))) (ay)) (ai (aw (PW.pt (gC (bF (c9 bB bB (aj) (pv 2) (aI rfl T.nB))) (gD (bD (aD T.lR (oT T) (hr.mono (by decide)) rfl (aa (pv 2) ah)))))) (ao (aq (aB (aa (bf bh (aj)) ah)))) (ay)) (ai (aw (bF (bD (aD T.lT (oV T) (hr.mono (by decide)) rfl (aa (pv 0) (aa (pv 3) ah))))) (ao (aq (aB (aa (bf bh (aj)) ah)))) (ay)) (ai (bg (i:=4) nd rfl (Or.inl rfl) (bT hu (ak (pv 0) rfl) (pv 1) (λ_ _=>rfl))) (ai (aw (PW.pt (eR (cj (cF hu (pv 2) (ak (pv 4) rfl))) (eT (bD (aD T.lQ (oS T) (hr.mono (by decide)) rfl (aa (pv 0) (aa (pv 4) ah))))))) (ao (aq (aB (aa (bf bh (aj)) ah)))) (ay)) (ai (fF hu (ak (pv 4) rfl) (pv 2) (fD T.e8 (jd T) (hr.mono (by decide)) rfl T.jb T.iY .nil eA (aa (aI rfl T.k_) (aa (pv 3) (aa (aj) (aa (aj) ah))))) rfl) (ao (aq (aB (aa (aj) ah))))))))),?_⟩
  show aW _ _ _ [some (.ref m.a),some (.int v),some (.int a),some (.int q),none] H
  simp only[seval,aE]
  rw[nW] at k
  simp only[seval,ae.at t hO]
  refine⟨_,bu (ae.bJ t hO) v,?_⟩
  rw[Option.isSome_map]
  refine az (λh1=>k.fin (Step.refl hO) rfl (if_pos (by simpa using h1)) rep rfl) (λh1=>?_)
  obtain⟨u,hv⟩:=e9 h1
  have hid:=rep.key hv
  have eid:v.toNat=u.w.id:=by omega
  have ok:=rep.at hv
  have ov:=ae.cA rep.vk hO hv
  rw[if_neg (by simp[hv]),eid] at k
  refine az (λh2=>k.fin (Step.refl hO) rfl (if_pos (by rw[decide_eq_false h2,Bool.false_and])) rep rfl) (λh2=>?_)
  have h2:=Decidable.not_not.mp h2
  refine⟨[a],rfl,rfl,?_⟩
  have eg:=lJ (a:=a) (by omega)
  simp only[seval,List.getD_cons_zero,eg]
  rw[decide_eq_true h2,Bool.true_and] at k
  refine az (λh3=>k.fin (Step.refl hO) rfl (if_pos (by rw[h3];rfl)) rep rfl) (λh3=>?_)
  rw[if_neg (by simp[h3])] at k
  refine⟨m,q,rfl,hO,?_⟩
  simp only[seval,ae.at t hO]
  refine az (λh4=>k.fin (Step.refl hO) rfl (if_pos ⟨λz=>h4 (.inl z),decide_eq_false λz=>h4 (.inr z)⟩) rep rfl) (λh4=>?_)
  have h4:=Decidable.not_not.mp h4
  rw[if_neg (λz=>by rcases h4 with y|y;exact z.1 y;exact absurd z.2 (by simp[y]))] at k
  have ea:a=((a.toNat:Nat):Int):=by omega
  have ro:=rep.rowOf hv a.toNat
  rw[<-ea] at ro
  rw[ro,rep.used hv] at k
  refine⟨_,by have z:=bu (ae.bJ t hO) v;rw[hv] at z;exact z,?_⟩
  simp only[seval,af.at t ov]
  refine Cr (A:=λH1=>∀p,H1 p=none->Q (V.ref p) (upd H1 p (HO.lst [V.int (-4)]))) hO ov (bu (af.cD t ov) a) ?_
  refine az (λh5=>k.fin (Step.refl hO) rfl (if_pos ⟨(by cases e:lk u.rows a with|none=>rfl|some x=>rw[e] at h5;cases h5.1),by rw[rep.cap];exact h5.2⟩) rep rfl) (λh5=>?_)
  have h5':(lk u.rows a).isSome=true\/u.rows.length+u.groups.length<m.cap:=by
   cases e:lk u.rows a with
   |some x=>exact .inl rfl
   |none=>exact .inr (Nat.lt_of_not_le λz=>h5 ⟨by rw[e];rfl,z⟩)
  rw[if_neg (λz=>by
   rw[rep.cap] at z
   rcases h5' with y|y
   .obtain⟨x,hx⟩:=Option.isSome_iff_exists.mp y
    rw[hx] at z;exact absurd z.1 (by simp)
   .exact absurd z.2 (by omega))] at k
  intro x dx hx hdx hne
  have es:q=oI (if q=-1 then none else some q.toNat):=by
   by_cases z:q=-1
   .rw[if_pos z,z];rfl
   .rw[if_neg z];show q=(q.toNat:Int);omega
  refine e8 hx hdx ⟨x,dx,⟨u.w.id,a.toNat,.fixed,if q=-1 then none else some q.toNat,0,0⟩,0,0⟩ rfl rfl rfl es rfl rfl λH2 s2 hH2=>?_
  simp only[seval,s2 _ _ (af.at t ov)]
  obtain⟨H3,hput,st⟩:=af.put (t:=t) (z:=⟨x,dx,⟨u.w.id,a.toNat,.fixed,if q=-1 then none else some q.toNat,0,0⟩,0,0⟩) ok.rk (ok.cY rep.c5).1 ov s2 hx hH2 a
  refine⟨H3,hput,?_⟩
  have rp:=rep.put hv (x:=⟨x,dx,⟨u.w.id,a.toNat,.fixed,if q=-1 then none else some q.toNat,0,0⟩,0,0⟩) ⟨rfl,rfl,by simpa using h3,λn=>absurd rfl n,λy hy=>?_,(λn=>by cases n),λ_=>rfl,(λn=>by cases n),(λn=>by cases n)⟩ (by show(lk u.rows ((a.toNat:Nat):Int)).isSome=true\/_;rw[<-ea];exact h5')
  .simp only[<-ea] at rp
   exact k.fin (ae.d7 rep.vk hO hv st) rfl rfl rp rfl
  .have hy:(if q=-1 then none else some q.toNat)=some y:=hy
   by_cases z:q=-1
   .rw[if_pos z] at hy;cases hy
   .rw[if_neg z] at hy
    have hy:q.toNat=y:=Option.some.inj hy
    omega
theorem Il(T:Txt K mg t):aX P w K mg base aY 1 t.xa t.vc ["switch","v","hw"] (cn t 2 λxs=>.unfix (xs.getD 0 0) (xs.getD 1 0)):=by
 refine T.A_.fn.ok Cb (λvs H Q E h=>?_) (λcdv A outer s0 H vs Q E hr h=>?_)
 .obtain⟨m,s,xs,hl,rfl,_⟩:=h
  simp[hl]
 .obtain⟨m,s,xs,hl,rfl,hO,rep,k⟩:=h
  obtain⟨v,a,rfl⟩:=cw hl
  have hu:=bC hr
  have nd:=Cb.nd
  have k:Kt t H m (Vbcnab.doing s (.unfix v a)) Q:=k
  simp only[Vbcnab.doing,ck rep,rep.isPort,rep.isVlan,bS] at k
  refine⟨_,ai (aw (cj (cF hu (pv 1) (ak (pv 0) rfl))) (ao (aq (aB (aa (bf bh (aj)) ah)))) (ay)) (ai (bg (i:=3) nd rfl (Or.inl rfl) (bT hu (ak (pv 0) rfl) (pv 1) (λ_ _=>rfl))) (ai (aw (PW.pt (gC (cj (cF hu (pv 2) (ak (pv 3) rfl))) (gD (aU fB (ak (bT hu (ak (pv 3) rfl) (pv 2) (λ_ _=>rfl)) rfl) (aI rfl T.k_) (aQ _))))) (ao (aq (aB (aa (bf bh (aj)) ah)))) (ay)) (ai (cB (iD (ak (pv 3) rfl) (pv 2) ⟨rfl,rfl,rfl,rfl⟩)) (ao (aq (aB (aa (aj) ah))))))),?_⟩
  show aW _ _ _ [some (.ref m.a),some (.int v),some (.int a),none] H
  simp only[seval,aE]
  simp only[seval,ae.at t hO]
  refine⟨_,bu (ae.bJ t hO) v,?_⟩
  rw[Option.isSome_map]
  refine az (λh1=>k.fin (Step.refl hO) rfl (if_pos (by simpa using h1)) rep rfl) (λh1=>?_)
  obtain⟨u,hv⟩:=e9 h1
  have hid:=rep.key hv
  have eid:v.toNat=u.w.id:=by omega
  have ok:=rep.at hv
  have ov:=ae.cA rep.vk hO hv
  rw[if_neg (by simp[hv]),eid,rep.Cs hv] at k
  refine⟨_,by have z:=bu (ae.bJ t hO) v;rw[hv] at z;exact z,?_⟩
  simp only[seval,af.at t ov]
  refine⟨_,bu (af.cD t ov) a,?_⟩
  rw[Option.isSome_map]
  cases e:lk u.rows a with
  |none=>
   rw[e] at k
   exact k.fin (Step.refl hO) rfl rfl rep rfl
  |some x=>
   rw[e] at k
   have k:Kt t H m (if decide (x.r.kind=.fixed)=false then(s,[-2]) else({s with rows:=s.rows.filter λr=>!(r.vlan==u.w.id&&r.hw==a.toNat)},[0])) Q:=k
   simp only[seval,Option.isSome_some]
   refine⟨_,by have z:=bu (af.cD t ov) a;rw[e] at z;exact z,?_⟩
   simp only[seval,af.fj t ov e]
   refine az (λh2=>k.fin (Step.refl hO) rfl (if_pos (decide_eq_false λz=>h2 (xX.mpr z))) rep rfl) (λh2=>?_)
   have h2:=xX.mp (Decidable.not_not.mp h2)
   rw[if_neg (by simp[h2])] at k
   simp only[seval,af.at t ov]
   refine⟨.inl ⟨_,.inl (af.cD t ov)⟩,_,af.cD t ov,Sum.inl a,rfl,_,(by rw[fI,e];rfl),?_⟩
   rw[gf]
   have ea:a=((a.toNat:Nat):Int):=by have:=(ok.b_ _ (b0 e)).hw;simp only[] at this;omega
   have rd:=rep.del hv a.toNat
   rw[<-ea] at rd
   exact k.fin (ae.fW rep.vk hO hv (y:=u.wr (a9 u.rows a)) rfl (af.rJ ov List.filter_sublist)) rfl rfl rd rfl
end
end Sw
namespace Sw
open PySem PySem.Spec PyProof.Rows L2
section
variable{P:Program}{w:World}{K:PySem.W.Frag}{mg:Str->Option Value}{base:Heap}{t:Ad}
theorem af.rH{H:Hp}{v:af}{k:Int}{r0 r1:bQ}(nd:(v.groups.map (·.1)).Nodup)(h:Own H (v.cells t))(hk:lk v.groups k=some r0)(ha:r1.a=r0.a):Step H (v.cells t) (upd H r0.a (.dK (toK fZ r1.ks))) (af.cells t {v with groups:=bw v.groups k r1}):=by
 obtain⟨R,p1,p2,_⟩:=jg bQ.cells nd hk
 have e:toK cW (bw v.groups k r1)=toK cW v.groups:=mX _ nd hk (congrArg V.ref ha)
 refine af.rG h ?_
 rw[e]
 have og:=af.o7 h
 refine Step.focus (C:=r0.cells) (C':=r1.cells) (R:=(v.c7,.dK (toK cW v.groups))::R) og ((p1.cons _).trans List.perm_middle.symm) (((p2 r1).cons _).trans List.perm_middle.symm) ?_
 unfold bQ.cells
 rw[ha]
 exact Step.wr (af.ic t h hk)
theorem af.L9{H:Hp}{v:af}{k:Int}{z:bQ}(h:Own H (v.cells t))(hz:H z.a=none)(hk:z.ks=[]):Step H (v.cells t) (upd (upd H z.a (.dK [])) v.c7 (.dK (toK cW (v.groups++[(k,z)])))) (af.cells t {v with groups:=v.groups++[(k,z)]}):=by
 refine af.rG h ?_
 have og:=af.o7 h
 have s1:=Step.lay (o:=.dK []) og hz
 have s2:=Step.cell (A:=[(z.a,.dK [])]) (o':=.dK (toK cW (v.groups++[(k,z)]))) s1.own rfl rfl
 refine(s1.trans s2).perm ?_
 refine(List.Perm.swap _ _ _).trans (List.Perm.cons _ ?_)
 rw[List.flatMap_append]
 have e:([(k,z)].flatMap λp:Int×bQ=>p.2.cells)=[(z.a,.dK [])]:=by
  show z.cells++[]=_
  unfold bQ.cells
  rw[hk];rfl
 rw[e]
 exact List.perm_append_comm (l₁:=[(z.a,HO.dK [])])
theorem af.L8{H:Hp}{v:af}(h:Own H (v.cells t))(k:Int):Step H (v.cells t) (upd H v.c7 (.dK (toK cW (a9 v.groups k)))) (af.cells t {v with groups:=a9 v.groups k}):=by
 refine af.rG h ?_
 have og:=af.o7 h
 have s1:=Step.cell (A:=[]) (o':=.dK (toK cW (a9 v.groups k))) og rfl rfl
 exact s1.sub (List.Sublist.cons₂ _ (kS _ List.filter_sublist))
def iA(g:Int):Prop:=0<=g/\g<=281474976710655/\g/1099511627776%2=1/\g≠281474976710655/\¬(1652522221568<=g/\g<=1652522221583)
instance(g:Int):Decidable (iA g):=by unfold iA;exact inferInstance
theorem HJ(T:Txt K mg t):aX P w K mg base aY 2 t.wq t.uB ["g"] (kP 1 λxs=>decide (iA (xs.getD 0 0))):=by
 refine T.yw.fn.ok Oj (λvs H Q E h=>?_) (λcdv A outer s0 H vs Q E hr h=>?_)
 .obtain⟨xs,hl,rfl,_⟩:=h
  simp[hl]
 .obtain⟨xs,hl,rfl,k⟩:=h
  obtain⟨g,rfl⟩:=bV hl
  have k:Q (.bl (decide (iA g))) H:=k
  refine⟨_,ao (aq (iC (aD T.j9 (l9 T) (hr.mono (by decide)) rfl (aa (pv 0) ah)) (iC (aD T.lR (oT T) (hr.mono (by decide)) rfl (aa (pv 0) ah)) (iC (fC fB (pv 0) (aI rfl T.nB) (aQ _)) (kD (o8 (aD T.oo (yJ T) (hr.mono (by decide)) rfl (aa (pv 0) ah)))))))),?_⟩
  show dB _ _ [some (.int g)] H
  simp only[seval,aE]
  refine⟨[g],rfl,rfl,?_⟩
  simp only[seval,List.getD_cons_zero]
  refine az (λh0=>?_) (λh0=>?_)
  .refine⟨[g],rfl,rfl,?_⟩
   simp only[seval,List.getD_cons_zero]
   refine az (λh1=>?_) (λh1=>?_)
   .refine az (λh2=>?_) (λh2=>?_)
    .refine⟨[g],rfl,rfl,?_⟩
     simp only[seval,List.getD_cons_zero]
     have e:decide (iA g)=!decide (1652522221568<=g/\g<=1652522221583):=by
      by_cases z:1652522221568<=g/\g<=1652522221583
      .rw[decide_eq_true z,decide_eq_false (λy=>y.2.2.2.2 z)];rfl
      .rw[decide_eq_false z,decide_eq_true (show iA g from⟨h0.1,h0.2,h1,h2,z⟩)];rfl
     rw[e] at k;exact k
    .rw[decide_eq_false (λy=>h2 y.2.2.2.1)] at k;exact k
   .rw[decide_eq_false (λy=>h1 y.2.2.1)] at k;exact k
  .rw[decide_eq_false (λy=>h0 ⟨y.1,y.2.1⟩)] at k;exact k
theorem F9(g:Int):(decide (0<=g/\g<=2^48 -2)&&(Vbcnab.isGroup g.toNat&&!Vbcnab.reserved g.toNat))=decide (iA g):=by
 have e:(2:Int)^48 -2=281474976710654:=by decide
 rw[e]
 by_cases h:0<=g/\g<=281474976710654
 .rw[decide_eq_true h,Bool.true_and,<-lJ h.1]
  have er:Vbcnab.reserved g.toNat=decide (1652522221568<=g/\g<=1652522221583):=by
   unfold Vbcnab.reserved
   rw[<-Bool.decide_and]
   exact decide_eq_decide.mpr (by omega)
  rw[er,<-decide_not,<-Bool.decide_and]
  refine decide_eq_decide.mpr ⟨λz=>⟨h.1,by omega,z.1,by omega,z.2⟩,λz=>⟨z.2.2.1,z.2.2.2.2⟩⟩
 .rw[decide_eq_false h,Bool.false_and]
  exact(decide_eq_false λz=>h ⟨z.1,by have:=z.2.1;have:=z.2.2.2.1;omega⟩).symm
theorem cq.new{n v g q:Nat}(hg:Vbcnab.isGroup g=true)(hq:q<n)(a:Addr):cq n v (g:Int) ⟨a,⟨v,g,[q]⟩,[((q:Int),())]⟩:=
 ⟨rfl,rfl,hg,List.Perm.refl _,List.pairwise_singleton _ _,(by intro z;cases z),λj hj=>by
   have e:j=q:=by simpa using hj
   rw[e];exact hq⟩
theorem HB(T:Txt K mg t):aX P w K mg base aY 4 t.v_ t.uq ["switch","v","g","side"] (cn t 3 λxs=>.join (xs.getD 0 0) (xs.getD 1 0) (xs.getD 2 0)):=by
 refine T.xW.fn.ok BA (λvs H Q E h=>?_) (λcdv A outer s0 H vs Q E hr h=>?_)
 .obtain⟨m,s,xs,hl,rfl,_⟩:=h
  simp[hl]
 .obtain⟨m,s,xs,hl,rfl,hO,rep,k⟩:=h
  obtain⟨v,g,q,rfl⟩:=ek hl
  have hu:=bC hr
  have nd:=BA.nd
  have k:Kt t H m (Vbcnab.doing s (.join v g q)) Q:=k
  simp only[Vbcnab.doing,ck rep,rep.isPort,rep.isVlan,bS] at k
  refine⟨_,ai (aw (cj (cF hu (pv 1) (ak (pv 0) rfl))) (ao (aq (aB (aa (bf bh (aj)) ah)))) (ay)) (ai (aw (bF (bD (aD T.yw (HJ T) (hr.mono (by decide)) rfl (aa (pv 2) ah)))) (ao (aq (aB (aa (bf bh (aj)) ah)))) (ay)) (ai (aw (bF (bD (aD T.dO (dY T) (hr.mono (by decide)) rfl (aa (pv 0) (aa (pv 3) ah))))) (ao (aq (aB (aa (bf bh (aj)) ah)))) (ay)) (ai (bg (i:=4) nd rfl (Or.inl rfl) (bT hu (ak (pv 0) rfl) (pv 1) (λ_ _=>rfl))) (ai (aw (cj (cF hu (pv 2) (ak (pv 4) rfl))) (ai (aw (bD (aD T.lQ (oS T) (hr.mono (by decide)) rfl (aa (pv 0) (aa (pv 4) ah)))) (ao (aq (aB (aa (bf bh (aj)) ah)))) (ay)) (ao (fF hu (ak (pv 4) rfl) (pv 2) (mm) rfl))) (ay)) (ai (bg (i:=5) nd rfl (Or.inl rfl) (bT hu (ak (pv 4) rfl) (pv 2) (λ_ _=>rfl))) (ai (fF hu (pv 5) (pv 3) (ji) rfl) (ao (aq (aB (aa (aj) ah)))))))))),?_⟩
  show aW _ _ _ [some (.ref m.a),some (.int v),some (.int g),some (.int q),none,none] H
  simp only[seval,aE]
  simp only[seval,ae.at t hO]
  refine⟨_,bu (ae.bJ t hO) v,?_⟩
  rw[Option.isSome_map]
  refine az (λh1=>k.fin (Step.refl hO) rfl (if_pos (by simpa using h1)) rep rfl) (λh1=>?_)
  obtain⟨u,hv⟩:=e9 h1
  have hid:=rep.key hv
  have eid:v.toNat=u.w.id:=by omega
  have ok:=rep.at hv
  have ov:=ae.cA rep.vk hO hv
  rw[if_neg (by simp[hv]),eid,F9] at k
  refine⟨[g],rfl,rfl,?_⟩
  simp only[seval,List.getD_cons_zero]
  refine az (λh2=>k.fin (Step.refl hO) rfl (if_pos (decide_eq_false h2)) rep rfl) (λh2=>?_)
  have h2:=Decidable.not_not.mp h2
  rw[if_neg (by simp[h2])] at k
  refine⟨m,q,rfl,hO,?_⟩
  simp only[seval,ae.at t hO]
  refine az (λh3=>k.fin (Step.refl hO) rfl (if_pos (decide_eq_false h3)) rep rfl) (λh3=>?_)
  have h3:=Decidable.not_not.mp h3
  rw[if_neg (by simp[h3])] at k
  have eg:((g.toNat:Nat):Int)=g:=by have:=h2.1;omega
  have eq:((q.toNat:Nat):Int)=q:=by omega
  have gg:Vbcnab.isGroup g.toNat=true:=by rw[<-lJ h2.1];exact decide_eq_true h2.2.2.1
  have go:=rep.groupOf hv g.toNat
  rw[eg] at go
  rw[go,rep.used hv] at k
  refine⟨_,by have z:=bu (ae.bJ t hO) v;rw[hv] at z;exact z,?_⟩
  simp only[seval,af.at t ov]
  refine⟨_,bu (af.dC t ov) g,?_⟩
  rw[Option.isSome_map]
  have f64:m.sides.length<=64:=rep.cg
  have cY:∀y:bQ,cq m.sides.length u.w.id g y->y.ks.length<sizeLine:=λy hy=>by
   have z:=hy.perm.length_eq
   rw[List.length_map,List.length_map] at z
   have w:=kl (l':=List.range m.sides.length) (hy.bH.imp λ{a b}h=>Nat.ne_of_lt h) λx hx=>List.mem_range.mpr (hy.lt x hx)
   rw[List.length_range] at w
   exact Nat.lt_of_le_of_lt (show y.ks.length<=64 by omega) (by decide)
  cases e:lk u.groups g with
  |some y=>
   rw[e] at k
   have k:Kt t H m ({s with groups:=Vbcnab.putGroup {y.g with sides:=Vbcnab.putNat q.toNat y.g.sides} s.groups},[0]) Q:=k
   simp only[seval,Option.isSome_some,af.at t ov]
   refine⟨_,by have z:=bu (af.dC t ov) g;rw[e] at z;exact z,?_⟩
   have bG:=ok.bG _ (b0 e)
   have hput:=dQ.k (k:=Sum.inl q) (v:=V.bl true) (af.ic t ov e) (by rw[dj];exact cY y bG)
   rw[show V.bl true=fZ () from rfl,pw fZ] at hput
   refine⟨_,hput,?_⟩
   have st:=af.rH (t:=t) (r1:={y with g:={y.g with sides:=Vbcnab.putNat q.toNat y.g.sides},ks:=putL y.ks q ()}) ok.gk ov e rfl
   have gj:=bG.join (q:=q.toNat) (by omega)
   rw[eq] at gj
   have hh:((y.g.hw:Nat):Int)=g:=bG.hw
   have rp:=rep.oa hv (x:={y with g:={y.g with sides:=Vbcnab.putNat q.toNat y.g.sides},ks:=putL y.ks q ()}) (by show cq _ _ ((y.g.hw:Nat):Int) _;rw[hh];exact gj) (.inl (by show(lk u.groups ((y.g.hw:Nat):Int)).isSome=true;rw[hh,e];rfl))
   have ep:putL u.groups ((y.g.hw:Nat):Int) {y with g:={y.g with sides:=Vbcnab.putNat q.toNat y.g.sides},ks:=putL y.ks q ()}=bw u.groups g {y with g:={y.g with sides:=Vbcnab.putNat q.toNat y.g.sides},ks:=putL y.ks q ()}:=by rw[hh,gY e]
   rw[ep] at rp
   exact k.fin (ae.d7 rep.vk hO hv st) rfl rfl rp rfl
  |none=>
   rw[e] at k
   have k:Kt t H m (if s.cap<=u.rows.length+u.groups.length then(s,[-4]) else({s with groups:=Vbcnab.putGroup ⟨u.w.id,g.toNat,[q.toNat]⟩ s.groups},[0])) Q:=k
   simp only[seval,Option.isSome_none]
   refine⟨m,u,rfl,hO,ov,?_⟩
   simp only[seval,aE]
   refine az (λh4=>k.fin (Step.refl hO) rfl (if_pos (by rw[rep.cap];exact h4)) rep rfl) (λh4=>?_)
   rw[if_neg (by rw[rep.cap];exact h4)] at k
   intro p hp
   have sp:au H (upd H p (.dK [])):=bp (au.refl H) hp
   simp only[seval,sp _ _ (af.at t ov)]
   have hput:=dQ.k (k:=Sum.inl g) (v:=V.ref p) (sp _ _ (af.dC t ov)) (by rw[dj];exact(ok.cY rep.c5).2)
   rw[show V.ref p=cW ⟨p,⟨u.w.id,g.toNat,[q.toNat]⟩,[]⟩ from rfl,mB e] at hput
   refine⟨_,hput,?_⟩
   have st:=af.L9 (t:=t) (k:=g) (z:=⟨p,⟨u.w.id,g.toNat,[q.toNat]⟩,[]⟩) ov hp rfl
   have ov1:=st.own
   have lk1:lk (u.groups++[(g,(⟨p,⟨u.w.id,g.toNat,[q.toNat]⟩,[]⟩:bQ))]) g=some ⟨p,⟨u.w.id,g.toNat,[q.toNat]⟩,[]⟩:=by rw[oA _ _ _ e];simp
   have nd1:((u.groups++[(g,(⟨p,⟨u.w.id,g.toNat,[q.toNat]⟩,[]⟩:bQ))]).map (·.1)).Nodup:=by
    have z:=l6 (k:=g) (x:=(⟨p,⟨u.w.id,g.toNat,[q.toNat]⟩,[]⟩:bQ)) ok.gk
    rw[putL_new e] at z;exact z
   have aV:=af.at t ov1
   simp only[seval,aV]
   refine⟨_,by have z:=bu (af.dC t ov1) g;rw[lk1] at z;exact z,?_⟩
   have hput2:=dQ.k (k:=Sum.inl q) (v:=V.bl true) (af.ic t ov1 lk1) (by show 0<sizeLine;decide)
   refine⟨_,hput2,?_⟩
   have st2:=af.rH (t:=t) (r1:=⟨p,⟨u.w.id,g.toNat,[q.toNat]⟩,[(q,())]⟩) nd1 ov1 lk1 rfl
   have gn:=cq.new (n:=m.sides.length) (v:=u.w.id) (g:=g.toNat) (q:=q.toNat) gg (by omega) p
   rw[eq] at gn
   have rp:=rep.oa hv (x:=⟨p,⟨u.w.id,g.toNat,[q.toNat]⟩,[(q,())]⟩) gn (.inr (Nat.lt_of_not_le h4))
   have ep:putL u.groups ((g.toNat:Nat):Int) (⟨p,⟨u.w.id,g.toNat,[q.toNat]⟩,[(q,())]⟩:bQ)=bw (u.groups++[(g,(⟨p,⟨u.w.id,g.toNat,[q.toNat]⟩,[]⟩:bQ))]) g ⟨p,⟨u.w.id,g.toNat,[q.toNat]⟩,[(q,())]⟩:=by
    rw[eg,putL_new e]
    have z:=iK (⟨p,⟨u.w.id,g.toNat,[q.toNat]⟩,[(q,())]⟩:bQ) (gw.mp e)
    unfold bw at z⊢
    rw[List.map_append,z];simp
   have rp:Rep (m.cb v {u with groups:=putL u.groups ((g.toNat:Nat):Int) ⟨p,⟨u.w.id,g.toNat,[q.toNat]⟩,[(q,())]⟩}) _:=rp
   rw[ep] at rp
   exact k.fin (ae.d7 rep.vk hO hv (st.trans st2)) rfl rfl rp rfl
theorem HE(T:Txt K mg t):aX P w K mg base aY 1 t.wc t.uv ["switch","v","g","side"] (cn t 3 λxs=>.leave (xs.getD 0 0) (xs.getD 1 0) (xs.getD 2 0)):=by
 refine T.yd.fn.ok BD (λvs H Q E h=>?_) (λcdv A outer s0 H vs Q E hr h=>?_)
 .obtain⟨m,s,xs,hl,rfl,_⟩:=h
  simp[hl]
 .obtain⟨m,s,xs,hl,rfl,hO,rep,k⟩:=h
  obtain⟨v,g,q,rfl⟩:=ek hl
  have hu:=bC hr
  have nd:=BD.nd
  have k:Kt t H m (Vbcnab.doing s (.leave v g q)) Q:=k
  simp only[Vbcnab.doing,ck rep,rep.isPort,rep.isVlan,bS] at k
  refine⟨_,ai (aw (cj (cF hu (pv 1) (ak (pv 0) rfl))) (ao (aq (aB (aa (bf bh (aj)) ah)))) (ay)) (ai (bg (i:=4) nd rfl (Or.inl rfl) (bT hu (ak (pv 0) rfl) (pv 1) (λ_ _=>rfl))) (ai (aw (PW.pt (gC (cj (cF hu (pv 2) (ak (pv 4) rfl))) (gD (cj (cF hu (pv 3) (bT hu (ak (pv 4) rfl) (pv 2) (λ_ _=>rfl))))))) (ao (aq (aB (aa (bf bh (aj)) ah)))) (ay)) (ai (bg (i:=5) nd rfl (Or.inl rfl) (bT hu (ak (pv 4) rfl) (pv 2) (λ_ _=>rfl))) (ai (cB (iD (pv 5) (pv 3) ⟨rfl,rfl,rfl,rfl⟩)) (ai (aw (aU bb (bW gP rfl T.len PySem.boot_len (aa (pv 5) ah)) (aj) (aQ _)) (ao (cB (iD (ak (pv 4) rfl) (pv 2) ⟨rfl,rfl,rfl,rfl⟩))) (ay)) (ao (aq (aB (aa (aj) ah))))))))),?_⟩
  show aW _ _ _ [some (.ref m.a),some (.int v),some (.int g),some (.int q),none,none] H
  simp only[seval,aE]
  simp only[seval,ae.at t hO]
  refine⟨_,bu (ae.bJ t hO) v,?_⟩
  rw[Option.isSome_map]
  refine az (λh1=>k.fin (Step.refl hO) rfl (if_pos (by simpa using h1)) rep rfl) (λh1=>?_)
  obtain⟨u,hv⟩:=e9 h1
  have hid:=rep.key hv
  have eid:v.toNat=u.w.id:=by omega
  have ok:=rep.at hv
  have ov:=ae.cA rep.vk hO hv
  rw[if_neg (by simp[hv]),eid,rep.FV hv] at k
  refine⟨_,by have z:=bu (ae.bJ t hO) v;rw[hv] at z;exact z,?_⟩
  simp only[seval,af.at t ov]
  refine⟨_,bu (af.dC t ov) g,?_⟩
  rw[Option.isSome_map]
  cases e:lk u.groups g with
  |none=>
   rw[e] at k
   exact k.fin (Step.refl hO) rfl rfl rep rfl
  |some y=>
   rw[e] at k
   dsimp only at k
   have bG:=ok.bG _ (b0 e)
   have aG:=af.ic t ov e
   simp only[seval,Option.isSome_some]
   refine⟨_,by have z:=bu (af.dC t ov) g;rw[e] at z;exact z,?_⟩
   simp only[seval,aE]
   refine⟨_,bu aG q,?_⟩
   rw[Option.isSome_map]
   cases e2:lk y.ks q with
   |none=>
    rw[e2] at k
    exact k.fin (Step.refl hO) rfl rfl rep rfl
   |some w0=>
    rw[e2] at k
    have hq0:0<=q:=by
     have z:q∈y.ks.map (·.1):=List.mem_map.mpr ⟨_,b0 e2,rfl⟩
     obtain⟨j,_,ej⟩:=List.mem_map.mp (bG.perm.mem_iff.mpr z)
     omega
    have eq:((q.toNat:Nat):Int)=q:=by omega
    have hh:((y.g.hw:Nat):Int)=g:=bG.hw
    have hvl:y.g.vlan=u.w.id:=bG.vlan
    have k:Kt t H m (if(y.g.sides.filter λ(j:Nat)=>j !=q.toNat)=[] then {s with groups:=s.groups.filter λz=>!(z.vlan==y.g.vlan&&z.hw==y.g.hw)} else {s with groups:=Vbcnab.putGroup {y.g with sides:=y.g.sides.filter λ(j:Nat)=>j !=q.toNat} s.groups},[0]) Q:=k
    simp only[seval,Option.isSome_some,af.at t ov]
    refine⟨_,by have z:=bu (af.dC t ov) g;rw[e] at z;exact z,?_⟩
    refine⟨_,rfl,.inl ⟨_,.inl aG⟩,_,aG,Sum.inl q,rfl,_,(by rw[fI,e2];rfl),?_⟩
    rw[gf]
    obtain⟨l',hl'⟩:∃l',(y.g.sides.filter λ(j:Nat)=>j !=q.toNat)=l':=⟨_,rfl⟩
    have ll:(a9 y.ks ((q.toNat:Nat):Int)).length=(y.g.sides.filter λ(j:Nat)=>j !=q.toNat).length:=bG.left q.toNat
    rw[eq,hl'] at ll
    rw[hl'] at k
    obtain⟨y',ya,yg,yk⟩:∃y':bQ,y'.a=y.a/\y'.g={y.g with sides:=l'}/\y'.ks=a9 y.ks q:=⟨⟨y.a,{y.g with sides:=l'},a9 y.ks q⟩,rfl,rfl,rfl⟩
    have st:=af.rH (t:=t) (r1:=y') ok.gk ov e ya
    rw[yk] at st
    have lk1:lk (bw u.groups g y') g=some y':=by rw[gx,e];simp
    have ov1:=st.own
    have aV:upd H y.a (.dK (toK fZ (a9 y.ks q))) u.a=some (.ins t.Vlan u.d (bM u)):=af.at (m:={u with groups:=bw u.groups g y'}) t ov1
    have aGs:upd H y.a (.dK (toK fZ (a9 y.ks q))) u.c7=some (.dK (toK cW (bw u.groups g y'))):=af.dC (m:={u with groups:=bw u.groups g y'}) t ov1
    refine⟨_,rfl,_,aN,?_⟩
    rw[dj]
    show if((a9 y.ks q).length:Int)=0 then _ else _
    refine az (λh2=>?_) (λh2=>?_)
    .have hn:l'=[]:=List.length_eq_zero_iff.mp (by omega)
     rw[if_pos hn] at k
     simp only[seval,aV]
     refine⟨.inl ⟨_,.inl aGs⟩,_,aGs,Sum.inl g,rfl,_,(by rw[fI,lk1];rfl),?_⟩
     rw[gf]
     have ed:a9 (bw u.groups g y') g=a9 u.groups g:=by
      unfold a9 bw
      rw[List.filter_map]
      have e3:u.groups.filter ((λp:Int×bQ=>decide (p.1≠g))∘λp=>if p.1=g then(p.1,y') else p)=u.groups.filter λp=>decide (p.1≠g):=List.filter_congr λp _=>by
       show decide ((if p.1=g then(p.1,y') else p).1≠g)=_
       by_cases z:p.1=g
       .rw[if_pos z]
       .rw[if_neg z]
      rw[e3]
      refine(List.map_congr_left λp hp=>?_).trans (List.map_id _)
      have:p.1≠g:=of_decide_eq_true (List.mem_filter.mp hp).2
      exact if_neg this
     have st2:=st.trans (af.L8 (t:=t) ov1 g)
     rw[ed]
     have ec:af.cells t {({u with groups:=bw u.groups g y'}:af) with groups:=a9 ({u with groups:=bw u.groups g y'}:af).groups g}=af.cells t {u with groups:=a9 u.groups g}:=by
      show af.cells t {u with groups:=a9 (bw u.groups g y') g}=_
      rw[ed]
     rw[ec] at st2
     have st3:Step H (u.cells t) (upd (upd H y.a (.dK (toK fZ (a9 y.ks q)))) u.c7 (.dK (toK cW (a9 u.groups g)))) (af.cells t {u with groups:=a9 u.groups g}):=by
      have z:=st2
      rw[show a9 ({u with groups:=bw u.groups g y'}:af).groups g=a9 u.groups g from ed] at z
      exact z
     have rd:=rep.Em hv y.g.hw
     rw[hh,<-hvl] at rd
     exact k.fin (ae.d7 rep.vk hO hv st3) rfl rfl rd rfl
    .have hn:l'≠[]:=λz=>h2 (by rw[ll,z];rfl)
     rw[if_neg hn] at k
     have gl:=bG.leave (q:=q.toNat) (by rw[hl'];exact hn)
     rw[eq] at gl
     have gl':cq m.sides.length u.w.id g y':=by
      have z:y'={y with g:={y.g with sides:=l'},ks:=a9 y.ks q}:=by
       cases y';simp only[] at ya yg yk;rw[ya,yg,yk]
      rw[z,<-hl'];exact gl
     have hh':((y'.g.hw:Nat):Int)=g:=gl'.hw
     have rp:=rep.oa hv (x:=y') (by rw[hh'];exact gl') (.inl (by rw[hh',e];rfl))
     rw[hh',gY e,yg] at rp
     exact k.fin (ae.d7 rep.vk hO hv st) rfl rfl rp rfl
end
end Sw
namespace Sw
open PySem PySem.Spec PyProof.Rows L2
theorem Rep.KY{m:ae}{s:Vbcnab.State}(r:Rep m s){k:Int}{v:af}(h:lk m.vlans k=some v){b:Vbcnab.Row}(hb:b∈(view s v.w.id).rows):∃x,lk v.rows (b.hw:Int)=some x/\x.r=b:=by
 have o:=r.at h
 obtain⟨p,hp,e⟩:=List.mem_map.mp (o.rws.mem_iff.mp hb)
 have l:=dw o.rk hp
 have z:=(o.b_ p hp).hw
 rw[e] at z
 rw[<-z] at l
 exact⟨p.2,l,e⟩
theorem Rep.xD{m:ae}{s:Vbcnab.State}(r:Rep m s){k:Int}{v:af}(h:lk m.vlans k=some v){b:Vbcnab.Grp}(hb:b∈(view s v.w.id).groups):∃x,lk v.groups (b.hw:Int)=some x/\x.g=b:=by
 have z:=List.mem_filter.mp hb
 exact r.xC h z.1 (eq_of_beq z.2)
theorem cq.len{n v:Nat}{k:Int}{y:bQ}(hy:cq n v k y):y.ks.length=y.g.sides.length/\y.g.sides.length<=n:=by
 have z:=hy.perm.length_eq
 rw[List.length_map,List.length_map] at z
 have w:=kl (l':=List.range n) (hy.bH.imp λ{a b}h=>Nat.ne_of_lt h) λx hx=>List.mem_range.mpr (hy.lt x hx)
 rw[List.length_range] at w
 exact⟨z.symm,w⟩
theorem cT{H H':Hp}(s:au H H'){p:Addr}(hp:H' p=none):H p=none:=by
 cases e:H p with
 |none=>rfl
 |some o=>rw[s _ _ e] at hp;cases hp
section
variable{P:Program}{w:World}{K:PySem.W.Frag}{mg:Str->Option Value}{base:Heap}{t:Ad}
theorem Kt.tell{H H':Hp}{m:ae}{s:Vbcnab.State}{res:Vbcnab.State×List Int}{Q:VK}{xs:List Int}{p:Addr}(k:Kt t H m res Q)(hO:Own H (m.cells t))(rep:Rep m s)(sm:au H H')(e:res=(s,xs))(hp:H' p=some (.lst (xs.map V.int))):Q (.ref p) H':=by
 subst e
 exact k H' m p (Step.same hO sm) rfl rep hp
def LY(t:Ad):Sp:=λvs H Q _=>∃(y:bQ)(n v:Nat)(k:Int),vs=[.ref y.a]/\cq n v k y/\n<=64/\H y.a=some (.dK (toK fZ y.ks))/\∀(H':Hp)(p:Addr),au H H'->H' p=some (.lst (((y.g.sides.length:Int)::y.g.sides.map λ(q:Nat)=>(q:Int)).map V.int))->Q (.ref p) H'
theorem yP(T:Txt K mg t):aX P w K mg base aY 1 t.w4 t.u7 ["group"] (LY t):=by
 refine T.rQ.fn.ok Oq (λvs H Q E h=>?_) (λcdv A outer s0 H vs Q E hr h=>?_)
 .obtain⟨y,n,v,k,rfl,_⟩:=h
  rfl
 .obtain⟨y,n,v,kk,rfl,ok,h64,hy,k⟩:=h
  refine⟨_,ao (aq (cG je (aB (aa (bW gP rfl T.len PySem.boot_len (aa (pv 0) ah)) ah)) (bW (jO rfl) rfl T.sorted boot_sorted (aa (pv 0) ah)))),?_⟩
  show dB _ _ [some (.ref y.a)] H
  simp only[seval,hy]
  intro p hp
  have s1:au H (upd H p (.lst [.int ((toK fZ y.ks).length:Int)])):=bp (au.refl H) hp
  have hl:=ok.len
  refine⟨_,.inl (s1 _ _ hy),y.ks.map (·.1),by rw[gJ,List.map_map];rfl,λns' l pm bH hl0=>?_⟩
  have hne:p≠l:=λz=>by rw[z,aN] at hl0;cases hl0
  have en:=ok.sorted pm bH
  simp only[seval,aF hne]
  refine⟨by show 1+_<=sizeLine;rw[List.length_map,en,List.length_map];have z:sizeLine=2^24:=rfl;rw[z];omega,λl3 hl3=>k _ l3 ?_ ?_⟩
  .exact bp (bp s1 (cT s1 hl0)) (cT (bp s1 (cT s1 hl0)) hl3)
  .rw[aN,dj,en,hl.1];rfl
theorem Ig(T:Txt K mg t):aX P w K mg base aY 2 t.wZ t.u6 ["switch","number"] (cn t 1 λxs=>.counts (xs.getD 0 0)):=by
 refine T.A5.fn.ok B7 (λvs H Q E h=>?_) (λcdv A outer s0 H vs Q E hr h=>?_)
 .obtain⟨m,s,xs,hl,rfl,_⟩:=h
  simp[hl]
 .obtain⟨m,s,xs,hl,rfl,hO,rep,k⟩:=h
  obtain⟨n,rfl⟩:=bV hl
  have hu:=bC hr
  have nd:=B7.nd
  have k:Kt t H m (Vbcnab.doing s (.counts n)) Q:=k
  simp only[Vbcnab.doing,ck rep,rep.isPort,rep.isVlan,bS] at k
  refine⟨_,ai (aw (bF (bD (aD T.i9 (kr T) (hr.mono (by decide)) rfl (aa (pv 0) (aa (pv 1) ah))))) (ao (aq (aB (aa (bf bh (aj)) ah)))) (ay)) (ai (bg (i:=2) nd rfl (Or.inl rfl) (aO bP (ak (pv 0) rfl) (pv 1) (λ_ _=>rfl))) (ao (aq (cG je (aB (aa (aj) (aa (ak (pv 2) rfl) (aa (ak (pv 2) rfl) (aa (ak (pv 2) rfl) ah))))) (ak (pv 2) rfl))))),?_⟩
  show aW _ _ _ [some (.ref m.a),some (.int n),none] H
  simp only[seval,aE]
  refine⟨m,n,rfl,hO,?_⟩
  simp only[seval,ae.at t hO,ae.fK t hO]
  refine az (λh0=>k.fin (Step.refl hO) rfl (if_pos (decide_eq_false h0)) rep rfl) (λh0=>?_)
  have h0:=Decidable.not_not.mp h0
  rw[if_neg (by simp[h0])] at k
  obtain⟨pt,hpt,hat⟩:=dM (f:=λp:ba=>V.ref p.a) h0.1 h0.2
  have op:=ae.dZ hO hpt
  have e:s.ports[n.toNat]? =some pt.p:=by rw[rep.ports,List.getElem?_map,hpt];rfl
  rw[e] at k
  simp only[seval,hat,ba.at t op]
  intro p hp
  have s1:au H (upd H p (.lst [.int 0,.int pt.p.taken,.int pt.p.passed,.int pt.p.given])):=bp (au.refl H) hp
  simp only[seval,s1 _ _ (ba.at t op)]
  have dl:=(rep.eQ hpt).dl
  refine⟨_,s1 _ _ (ba.ny t op),by show 4+_<=sizeLine;rw[List.length_map,dl];decide,λl hl=>k.tell hO rep (bp s1 (cT s1 hl)) rfl ?_⟩
  rw[aN]
  show some (HO.lst ([V.int 0,V.int pt.p.taken,V.int pt.p.passed,V.int pt.p.given]++_))=some (HO.lst (([(0:Int),(pt.p.taken:Int),(pt.p.passed:Int),(pt.p.given:Int)]++pt.p.drops.map λ(n:Nat)=>(n:Int)).map V.int))
  rw[List.map_append,List.map_map];rfl
theorem Ij(T:Txt K mg t):aX P w K mg base aY 2 t.w9 t.va ["switch","v"] (cn t 1 λxs=>.vcounts (xs.getD 0 0)):=by
 refine T.A8.fn.ok B_ (λvs H Q E h=>?_) (λcdv A outer s0 H vs Q E hr h=>?_)
 .obtain⟨m,s,xs,hl,rfl,_⟩:=h
  simp[hl]
 .obtain⟨m,s,xs,hl,rfl,hO,rep,k⟩:=h
  obtain⟨v,rfl⟩:=bV hl
  have hu:=bC hr
  have nd:=B_.nd
  have k:Kt t H m (Vbcnab.doing s (.vcounts v)) Q:=k
  simp only[Vbcnab.doing,ck rep,rep.isPort,rep.isVlan,bS] at k
  refine⟨_,ai (aw (cj (cF hu (pv 1) (ak (pv 0) rfl))) (ao (aq (aB (aa (bf bh (aj)) ah)))) (ay)) (ai (bg (i:=2) nd rfl (Or.inl rfl) (bT hu (ak (pv 0) rfl) (pv 1) (λ_ _=>rfl))) (ao (aq (aB (aa (aj) (aa (aD T.size_of (yN T) (hr.mono (by decide)) rfl (aa (pv 2) ah)) (aa (ak (pv 2) rfl) (aa (ak (pv 2) rfl) (aa (ak (pv 2) rfl) (aa (ak (pv 2) rfl) ah)))))))))),?_⟩
  show aW _ _ _ [some (.ref m.a),some (.int v),none] H
  simp only[seval,aE]
  simp only[seval,ae.at t hO]
  refine⟨_,bu (ae.bJ t hO) v,?_⟩
  rw[Option.isSome_map]
  cases hv:lk m.vlans v with
  |none=>
   rw[hv] at k
   exact k.fin (Step.refl hO) rfl rfl rep rfl
  |some u=>
   have hid:=rep.key hv
   have eid:v.toNat=u.w.id:=by omega
   have ov:=ae.cA rep.vk hO hv
   have ev:=rep.vlanOf u.w.id
   rw[hid,hv] at ev
   rw[hv,eid] at k
   simp only[Option.isSome_some,if_true] at k
   rw[ev] at k
   have k:Kt t H m (s,[0,(Vbcnab.used s u.w.id:Int),(u.w.moves:Int),(u.w.missed:Int),(u.w.breaches:Int),(u.w.age:Int)]) Q:=k
   rw[rep.used hv] at k
   simp only[seval,Option.isSome_some]
   refine⟨_,by have z:=bu (ae.bJ t hO) v;rw[hv] at z;exact z,?_⟩
   simp only[seval,aE]
   refine⟨u,rfl,ov,?_⟩
   simp only[seval,af.at t ov]
   have z:=k.fin (Step.refl hO) rfl rfl rep rfl
   simpa using z
theorem HG(T:Txt K mg t):aX P w K mg base aY 2 t.wj t.uy ["switch","v","hw"] (cn t 2 λxs=>.look (xs.getD 0 0) (xs.getD 1 0)):=by
 refine T.yo.fn.ok BG (λvs H Q E h=>?_) (λcdv A outer s0 H vs Q E hr h=>?_)
 .obtain⟨m,s,xs,hl,rfl,_⟩:=h
  simp[hl]
 .obtain⟨m,s,xs,hl,rfl,hO,rep,k⟩:=h
  obtain⟨v,a,rfl⟩:=cw hl
  have hu:=bC hr
  have nd:=BG.nd
  have k:Kt t H m (Vbcnab.doing s (.look v a)) Q:=k
  simp only[Vbcnab.doing,ck rep,rep.isPort,rep.isVlan,bS] at k
  refine⟨_,ai (aw (cj (cF hu (pv 1) (ak (pv 0) rfl))) (ao (aq (aB (aa (bf bh (aj)) ah)))) (ay)) (ai (aw (bF (bD (aD T.j9 (l9 T) (hr.mono (by decide)) rfl (aa (pv 2) ah)))) (ao (aq (aB (aa (bf bh (aj)) ah)))) (ay)) (ai (bg (i:=3) nd rfl (Or.inl rfl) (bT hu (ak (pv 0) rfl) (pv 1) (λ_ _=>rfl))) (ai (aw (cj (jh hu (pv 2) (ak (pv 3) rfl))) (ao (aq (cG je (aB (aa (aj) (aa (aI rfl T.CZ) ah))) (aD T.rQ (yP T) (hr.mono (by decide)) rfl (aa (bT hu (ak (pv 3) rfl) (pv 2) (λ_ _=>rfl)) ah))))) (ay)) (ai (aw (cj (cF hu (pv 2) (ak (pv 3) rfl))) (ao (aq (aB (aa (bf bh (aj)) ah)))) (ay)) (ai (bg (i:=4) nd rfl (Or.inl rfl) (bT hu (ak (pv 3) rfl) (pv 2) (λ_ _=>rfl))) (ai (bg (i:=5) nd rfl (Or.inl rfl) (iE (aU bb (ak (pv 4) rfl) (aI rfl T.iZ) (aQ _)) (cG mf (ak (pv 4) rfl) (ak (pv 0) rfl)) (aj))) (ao (aq (aB (aa (aj) (aa (ak (pv 4) rfl) (aa (ak (pv 4) rfl) (aa (pv 5) ah))))))))))))),?_⟩
  show aW _ _ _ [some (.ref m.a),some (.int v),some (.int a),none,none,none] H
  simp only[seval,aE]
  unfold Vbcnab.most48 at k
  rw[bS,nW] at k
  simp only[seval,ae.at t hO]
  refine⟨_,bu (ae.bJ t hO) v,?_⟩
  rw[Option.isSome_map]
  refine az (λh1=>k.fin (Step.refl hO) rfl (if_pos (by simpa using h1)) rep rfl) (λh1=>?_)
  obtain⟨u,hv⟩:=e9 h1
  have hid:=rep.key hv
  have eid:v.toNat=u.w.id:=by omega
  have ok:=rep.at hv
  have ov:=ae.cA rep.vk hO hv
  rw[if_neg (by simp[hv]),eid] at k
  refine⟨[a],rfl,rfl,?_⟩
  simp only[seval,List.getD_cons_zero,ae.at t hO]
  refine az (λh2=>k.fin (Step.refl hO) rfl (if_pos (decide_eq_false h2)) rep rfl) (λh2=>?_)
  have h2:=Decidable.not_not.mp h2
  have ea:((a.toNat:Nat):Int)=a:=by omega
  rw[if_neg (by simp[h2]),rep.groupOf hv,rep.rowOf hv,ea] at k
  refine⟨_,by have z:=bu (ae.bJ t hO) v;rw[hv] at z;exact z,?_⟩
  simp only[seval,af.at t ov]
  refine⟨_,bu (af.dC t ov) a,?_⟩
  rw[Option.isSome_map]
  cases e:lk u.groups a with
  |some y=>
   have bG:cq m.sides.length u.w.id a y:=ok.bG _ (b0 e)
   have gr:Vbcnab.isGroup a.toNat=true:=by
    have z:=bG.gr
    have hh:((y.g.hw:Nat):Int)=a:=bG.hw
    have:y.g.hw=a.toNat:=by omega
    rw[<-this];exact z
   rw[e,if_pos gr] at k
   have k:Kt t H m (s,[0,3,(y.g.sides.length:Int)]++y.g.sides.map λ(q:Nat)=>(q:Int)) Q:=k
   simp only[seval,Option.isSome_some]
   intro p hp
   have s1:au H (upd H p (.lst [.int 0,.int 3])):=bp (au.refl H) hp
   simp only[seval,s1 _ _ (af.at t ov)]
   refine⟨_,by have z:=bu (s1 _ _ (af.dC t ov)) a;rw[e] at z;exact z,?_⟩
   refine⟨y,m.sides.length,u.w.id,a,rfl,bG,rep.cg,s1 _ _ (af.ic t ov e),λH2 p2 s2 hp2=>?_⟩
   have hp':H2 p=some (.lst [.int 0,.int 3]):=s2 _ _ aN
   simp only[seval,hp',hp2]
   have hl:=bG.len
   refine⟨by show 2+_<=sizeLine;rw[List.length_map,List.length_cons,List.length_map];have z:sizeLine=2^24:=rfl;rw[z];have:=rep.cg;omega,λl hl'=>k.tell hO rep (bp (s1.trans s2) (cT (s1.trans s2) hl')) rfl ?_⟩
   rw[aN];rfl
  |none=>
   simp only[seval,Option.isSome_none]
   refine⟨_,bu (af.cD t ov) a,?_⟩
   rw[Option.isSome_map]
   cases e2:lk u.rows a with
   |none=>
    rw[e,e2] at k
    have k:Kt t H m (s,[-3]) Q:=by
     by_cases z:Vbcnab.isGroup a.toNat=true
     .rw[if_pos z] at k;exact k
     .rw[if_neg z] at k;exact k
    exact k.fin (Step.refl hO) rfl rfl rep rfl
   |some x=>
    have xok:=ok.b_ _ (b0 e2)
    have hh:((x.r.hw:Nat):Int)=a:=xok.hw
    have gr:¬Vbcnab.isGroup a.toNat=true:=by
     have z:=xok.ng
     have e3:x.r.hw=a.toNat:=by omega
     rw[<-e3]
     show¬Vbcnab.isGroup x.r.hw=true
     have z:Vbcnab.isGroup x.r.hw=false:=z
     rw[z];simp
    rw[e2,if_neg gr] at k
    have k:Kt t H m (s,[0,x.r.kind.number,(match x.r.side with|some q=>(q:Int)|none=>-1),((x.r.until_ -s.now:Nat):Int)]) Q:=k
    have es:(match x.r.side with|some q=>(q:Int)|none=>-1)=oI x.r.side:=by cases x.r.side<;>rfl
    rw[es,rep.now] at k
    simp only[seval,Option.isSome_some]
    refine⟨_,by have z:=bu (af.cD t ov) a;rw[e2] at z;exact z,?_⟩
    have aR:=af.fj t ov e2
    simp only[seval,aR,ae.at t hO]
    have kf:x.r.kind.number=0↔x.r.kind=.learned:=by cases x.r.kind<;>decide
    refine az (λh3=>?_) (λh3=>?_)
    .have u1:=xok.un (kf.mp h3)
     have u2:=xok.live (kf.mp h3)
     simp only[] at u1 u2
     have el:x.un -(m.now:Int)=((x.r.until_ -m.now:Nat):Int):=by omega
     rw[el]
     exact k.fin (Step.refl hO) rfl rfl rep rfl
    .have u1:=xok.zu λz=>h3 (kf.mpr z)
     simp only[] at u1
     rw[u1] at k
     have e0:((0 -m.now:Nat):Int)=0:=by omega
     rw[e0] at k
     exact k.fin (Step.refl hO) rfl rfl rep rfl
end
end Sw
namespace Sw
open PySem PySem.Spec PyProof.Rows L2
theorem lG{α β:Type}(f:α->List β){l:List α}{i:Nat}{x:α}(h:l[i]? =some x):(l.take (i+1)).flatMap f=(l.take i).flatMap f++f x:=by
 rw[take_snoc h,List.flatMap_append,List.flatMap_cons,List.flatMap_nil,List.append_nil]
theorem lF{α:Type}(f:α->List Int)(k:Nat)(l:List α)(i:Nat)(h:∀x∈l,(f x).length<=k):((l.take i).flatMap f).length<=k*l.length:=by
 refine Nat.le_trans (j5 f k (l.take i) λx hx=>h x (List.mem_of_mem_take hx)) (Nat.mul_le_mul_left _ ?_)
 rw[List.length_take];omega
abbrev jl(r:Vbcnab.Row):List Int:=[(r.hw:Int),r.kind.number,oI r.side]
abbrev j8(g:Vbcnab.Grp):List Int:=[(g.hw:Int),(g.sides.length:Int)]++g.sides.map λ(q:Nat)=>(q:Int)
def gB(rs:List Vbcnab.Row)(i:Nat):List Int:=[0,(rs.length:Int)]++(rs.take i).flatMap jl
theorem Jf{rs:List Vbcnab.Row}{i:Nat}{r:Vbcnab.Row}(h:rs[i]? =some r):gB rs (i+1)=gB rs i++jl r:=by
 unfold gB;rw[lG jl h,List.append_assoc]
theorem ph(rs:List Vbcnab.Row)(i:Nat):(gB rs i).length<=2+3*rs.length:=by
 have:=lF jl 3 rs i λx _=>Nat.le_refl 3
 unfold gB;rw[List.length_append];show 2+_<=_;omega
def fE(rs:List Vbcnab.Row)(gs:List Vbcnab.Grp)(i:Nat):List Int:=gB rs rs.length++[(gs.length:Int)]++(gs.take i).flatMap j8
theorem Jd{rs:List Vbcnab.Row}{gs:List Vbcnab.Grp}{i:Nat}{r:Vbcnab.Grp}(h:gs[i]? =some r):fE rs gs (i+1)=fE rs gs i++[(r.hw:Int)]++((r.sides.length:Int)::r.sides.map λ(q:Nat)=>(q:Int)):=by
 unfold fE;rw[lG j8 h];simp only[List.append_assoc];rfl
theorem Jc(rs:List Vbcnab.Row)(gs:List Vbcnab.Grp)(i:Nat)(h:∀g∈gs,g.sides.length<=64):(fE rs gs i).length<=3+3*rs.length+66*gs.length:=by
 have:=lF j8 66 gs i λx hx=>by
  have:=h x hx
  show(_++_:List Int).length<=66
  rw[List.length_append,List.length_map];show 2+_<=66;omega
 have:=ph rs rs.length
 unfold fE;rw[List.length_append,List.length_append];show _+1+_<=_;omega
theorem Jb(rs:List Vbcnab.Row)(gs:List Vbcnab.Grp):fE rs gs gs.length=[0,(rs.length:Int)]++rs.flatMap jl++[(gs.length:Int)]++gs.flatMap j8:=by
 unfold fE gB;rw[List.take_length,List.take_length]
section
variable{P:Program}{w:World}{K:PySem.W.Frag}{mg:Str->Option Value}{base:Heap}{t:Ad}
theorem Ih(T:Txt K mg t):aX P w K mg base aY 2 t.w6 t.u9 ["switch","v"] (cn t 1 λxs=>.rows (xs.getD 0 0)):=by
 refine T.A6.fn.ok B8 (λvs H Q E h=>?_) (λcdv A outer s0 H vs Q E hr h=>?_)
 .obtain⟨m,s,xs,hl,rfl,_⟩:=h
  simp[hl]
 .obtain⟨m,s,xs,hl,rfl,hO,rep,k⟩:=h
  obtain⟨v,rfl⟩:=bV hl
  have hu:=bC hr
  have nd:=B8.nd
  have k:Kt t H m (Vbcnab.doing s (.rows v)) Q:=k
  simp only[Vbcnab.doing,ck rep,rep.isPort,rep.isVlan,bS] at k
  refine⟨_,ai (aw (cj (cF hu (pv 1) (ak (pv 0) rfl))) (ao (aq (aB (aa (bf bh (aj)) ah)))) (ay)) (ai (bg (i:=2) nd rfl (Or.inl rfl) (bT hu (ak (pv 0) rfl) (pv 1) (λ_ _=>rfl))) (ai (bg (i:=3) nd rfl (Or.inl rfl) (aB (aa (aj) (aa (bW gP rfl T.len PySem.boot_len (aa (ak (pv 2) rfl) ah)) ah)))) (ai (fG PassesOwn.never rfl (d3 (bW (jO rfl) rfl T.sorted boot_sorted (aa (ak (pv 2) rfl) ah))) (cP (i:=4) nd rfl (Or.inl rfl)) (ai (bg (i:=5) nd rfl (Or.inl rfl) (bT hu (ak (pv 2) rfl) (pv 4) (λ_ _=>rfl))) (ao (cB (fS PySem.F.plainAttrs_list PySem.F.slot_list_extend PySem.F.type_list_extend kj (pv 3) (aa (aB (aa (pv 4) (aa (ak (pv 5) rfl) (aa (ak (pv 5) rfl) ah)))) ah)))))) (ai (cB (fS PySem.F.plainAttrs_list PySem.F.slot_list_append PySem.F.type_list_append ki (pv 3) (aa (bW gP rfl T.len PySem.boot_len (aa (ak (pv 2) rfl) ah)) ah))) (ai (fG PassesOwn.never rfl (d3 (bW (jO rfl) rfl T.sorted boot_sorted (aa (ak (pv 2) rfl) ah))) (cP (i:=6) nd rfl (Or.inl rfl)) (ai (cB (fS PySem.F.plainAttrs_list PySem.F.slot_list_append PySem.F.type_list_append ki (pv 3) (aa (pv 6) ah))) (ao (cB (fS PySem.F.plainAttrs_list PySem.F.slot_list_extend PySem.F.type_list_extend kj (pv 3) (aa (aD T.rQ (yP T) (hr.mono (by decide)) rfl (aa (bT hu (ak (pv 2) rfl) (pv 6) (λ_ _=>rfl)) ah)) ah)))))) (ao (aq (pv 3)))))))),?_⟩
  show aW _ _ _ [some (.ref m.a),some (.int v),none,none,none,none,none] H
  simp only[seval,aE]
  simp only[seval,ae.at t hO]
  refine⟨_,bu (ae.bJ t hO) v,?_⟩
  rw[Option.isSome_map]
  refine az (λh1=>k.fin (Step.refl hO) rfl (if_pos (by simpa using h1)) rep rfl) (λh1=>?_)
  obtain⟨u,hv⟩:=e9 h1
  have hid:=rep.key hv
  have ok:=rep.at hv
  have ov:=ae.cA rep.vk hO hv
  rw[if_neg (by simp[hv])] at k
  have er:(s.rows.filter λr=>(r.vlan:Int)==v)=(view s u.w.id).rows:=List.filter_congr λr _=>by
   by_cases z:r.vlan=u.w.id
   .have:(r.vlan:Int)=v:=by omega
    rw[beq_iff_eq.mpr this,beq_iff_eq.mpr z]
   .have:¬(r.vlan:Int)=v:=by omega
    rw[beq_eq_false_iff_ne.mpr this,beq_eq_false_iff_ne.mpr z]
  have eg:(s.groups.filter λr=>(r.vlan:Int)==v)=(view s u.w.id).groups:=List.filter_congr λr _=>by
   by_cases z:r.vlan=u.w.id
   .have:(r.vlan:Int)=v:=by omega
    rw[beq_iff_eq.mpr this,beq_iff_eq.mpr z]
   .have:¬(r.vlan:Int)=v:=by omega
    rw[beq_eq_false_iff_ne.mpr this,beq_eq_false_iff_ne.mpr z]
  have er2:(λ(r:Vbcnab.Row)=>[(r.hw:Int),r.kind.number,(match r.side with|some q=>(q:Int)|none=>-1)])=jl:=by
   funext r
   show [_,_,_]=[_,_,_]
   cases r.side<;>rfl
  rw[er,eg] at k
  have k:Kt t H m (s,[0,((view s u.w.id).rows.length:Int)]++(view s u.w.id).rows.flatMap (λ(r:Vbcnab.Row)=>[(r.hw:Int),r.kind.number,(match r.side with|some q=>(q:Int)|none=>-1)])++[((view s u.w.id).groups.length:Int)]++(view s u.w.id).groups.flatMap j8) Q:=k
  rw[er2,<-Jb] at k
  have lr:(view s u.w.id).rows.length=u.rows.length:=by rw[ok.rws.length_eq,List.length_map]
  have lg:(view s u.w.id).groups.length=u.groups.length:=by rw[ok.eM.length_eq,List.length_map]
  have sz:=ok.size
  have c64:=rep.c5
  have eL:sizeLine=2^24:=rfl
  refine⟨_,by have z:=bu (ae.bJ t hO) v;rw[hv] at z;exact z,?_⟩
  have aV:=af.at t ov
  simp only[seval,aV]
  refine⟨_,af.cD t ov,λp hp=>?_⟩
  have s1:au H (upd H p (.lst [.int 0,.int ((toK bE u.rows).length:Int)])):=bp (au.refl H) hp
  simp only[seval,s1 _ _ aV]
  refine⟨_,.inl (s1 _ _ (af.cD t ov)),u.rows.map (·.1),by rw[gJ,List.map_map];rfl,λns L pm bH hL0=>?_⟩
  have en:=rep.Lm hv pm bH
  have hpL:p≠L:=λz=>by rw[z,aN] at hL0;cases hL0
  have hLH:H L=none:=cT s1 hL0
  rw[dj]
  refine⟨⟨_,ax.of aN⟩,gm (K:=K) (a:=L) (xs:=ns.map V.int) (λi σ H'=>∃a b c:Option V,σ=[some (.ref m.a),some (.int v),some (.ref u.a),some (.ref p),a,b,c]/\au H H'/\H' L=some (.lst (ns.map V.int))/\H' p=some (.lst ((gB (view s u.w.id).rows i).map V.int))) ⟨none,none,none,rfl,bp (bp (au.refl H) hp) hLH,aN,by rw[aF hpL,aN,<-lr];rfl⟩ (λi σ H' _⟨_,_,_,_,_,z,_⟩=>ax.of z) ?_ ?_⟩
  .rintro i y σ H' hy ⟨a,b,c,rfl,sm,hL,hP⟩
   rw[en,List.map_map,List.getElem?_map] at hy
   cases hr':(view s u.w.id).rows[i]? with
   |none=>rw[hr'] at hy;cases hy
   |some r=>
    rw[hr'] at hy
    obtain rfl:V.int (r.hw:Int)=y:=Option.some.inj hy
    obtain⟨x,hx,ex⟩:=rep.KY hv (List.mem_of_getElem? hr')
    have gr:=bu (sm _ _ (af.cD t ov)) (r.hw:Int)
    simp only[seval,sm _ _ aV]
    refine⟨_,by rw[hx] at gr;exact gr,?_⟩
    have aR:=sm _ _ (af.fj t ov hx)
    simp only[seval,aR]
    refine⟨fX hP,λl hl=>?_⟩
    have hlH:H l=none:=cT sm hl
    have n1:p≠l:=λz=>by rw[<-z,hP] at hl;cases hl
    have n2:L≠l:=λz=>by rw[<-z,hL] at hl;cases hl
    have n3:L≠p:=λz=>hpL z.symm
    simp only[seval,aF n1,hP]
    have hlen:=ph (view s u.w.id).rows i
    refine⟨by rw[List.length_map];show _+3<=_;rw[eL];omega,bp (bp sm hlH) hp,by rw[aF n3,aF n2];exact hL,?_⟩
    rw[Jf hr',List.map_append,<-ex];rfl
  .rintro σ H' ⟨a,b,c,rfl,sm,hL,hP⟩
   rw[List.length_map,en,List.length_map] at hP
   simp only[seval,sm _ _ aV]
   have hlen:=ph (view s u.w.id).rows (view s u.w.id).rows.length
   refine⟨fX hP,_,sm _ _ (af.dC t ov),?_⟩
   rw[dj]
   simp only[seval,hP]
   refine⟨by rw[List.length_map,eL];omega,?_⟩
   have sm2:au H (upd H' p (.lst ((gB (view s u.w.id).rows (view s u.w.id).rows.length).map V.int++[V.int (u.groups.length:Int)]))):=bp sm hp
   simp only[seval,sm2 _ _ aV]
   refine⟨_,.inl (sm2 _ _ (af.dC t ov)),u.groups.map (·.1),by rw[gJ,List.map_map];rfl,λns2 L2 pm2 srt2 hL2=>?_⟩
   have en2:=rep.Lk hv pm2 srt2
   have hpL2:p≠L2:=λz=>by rw[z,aN] at hL2;cases hL2
   have hLH2:H L2=none:=cT sm2 hL2
   have g64:∀g∈(view s u.w.id).groups,g.sides.length<=64:=λg hg=>by
    obtain⟨y,hy,ey⟩:=rep.xD hv hg
    have z:=(show cq m.sides.length u.w.id _ y from ok.bG _ (b0 hy)).len
    rw[ey] at z
    have:=rep.cg
    omega
   refine⟨⟨_,ax.of aN⟩,gm (K:=K) (a:=L2) (xs:=ns2.map V.int) (λi σ H'=>∃a b c:Option V,σ=[some (.ref m.a),some (.int v),some (.ref u.a),some (.ref p),a,b,c]/\au H H'/\H' L2=some (.lst (ns2.map V.int))/\H' p=some (.lst ((fE (view s u.w.id).rows (view s u.w.id).groups i).map V.int))) ⟨_,_,_,rfl,bp sm2 hLH2,aN,by rw[aF hpL2,aN];unfold fE;rw[List.take_zero,List.flatMap_nil,List.append_nil,List.map_append,lg];rfl⟩ (λi σ H' _⟨_,_,_,_,_,z,_⟩=>ax.of z) ?_ ?_⟩
   .rintro i y σ H3 hy ⟨a,b,c,rfl,sm3,hL3,hP3⟩
    rw[en2,List.map_map,List.getElem?_map] at hy
    cases hr':(view s u.w.id).groups[i]? with
    |none=>rw[hr'] at hy;cases hy
    |some r=>
     rw[hr'] at hy
     obtain rfl:V.int (r.hw:Int)=y:=Option.some.inj hy
     obtain⟨x,hx,ex⟩:=rep.xD hv (List.mem_of_getElem? hr')
     have bG:cq m.sides.length u.w.id (r.hw:Int) x:=ok.bG _ (b0 hx)
     have glen:=Jc (view s u.w.id).rows (view s u.w.id).groups i g64
     have r64:=g64 r (List.mem_of_getElem? hr')
     simp only[seval,hP3]
     refine⟨fX hP3,by rw[List.length_map,eL];omega,?_⟩
     have sm4:au H (upd H3 p (.lst ((fE (view s u.w.id).rows (view s u.w.id).groups i).map V.int++[V.int (r.hw:Int)]))):=bp sm3 hp
     have gr:=bu (sm4 _ _ (af.dC t ov)) (r.hw:Int)
     simp only[seval,sm4 _ _ aV]
     refine⟨fX aN,_,by rw[hx] at gr;exact gr,?_⟩
     refine⟨x,m.sides.length,u.w.id,_,rfl,bG,rep.cg,sm4 _ _ (af.ic t ov hx),λH5 p5 s5 hp5=>?_⟩
     have hP5:H5 p=some (.lst ((fE (view s u.w.id).rows (view s u.w.id).groups i).map V.int++[V.int (r.hw:Int)])):=s5 _ _ aN
     have hL5:H5 L2=some (.lst (ns2.map V.int)):=s5 _ _ (by rw[aF (Ne.symm hpL2)];exact hL3)
     simp only[seval,hP5,hp5]
     refine⟨?_,bp (sm4.trans s5) hp,by rw[aF (Ne.symm hpL2)];exact hL5,?_⟩
     .simp only[List.length_append,List.length_map,List.length_cons,List.length_nil,ex]
      rw[eL];omega
     .rw[Jd hr',List.map_append,List.map_append,ex];rfl
   .rintro σ H3 ⟨a,b,c,rfl,sm3,hL3,hP3⟩
    rw[List.length_map,en2,List.length_map] at hP3
    simp only[seval,aE]
    exact k.tell hO rep sm3 rfl hP3
abbrev mh(x:Nat×Nat):List Int:=[(x.1:Int),(x.2:Int)]
def fT(d:Vbcnab.Side)(i:Nat):List Int:=[0,(d.native_:Int),bI d.apart,(d.rank:Int),eP d.lock,gG d.lock,oI d.storm,bI d.watchIn+2*bI d.watchOut,(d.pairs.length:Int)]++(d.pairs.take i).flatMap mh
theorem Jh{d:Vbcnab.Side}{i:Nat}{r:Nat×Nat}(h:d.pairs[i]? =some r):fT d (i+1)=fT d i++mh r:=by
 unfold fT;rw[lG mh h,List.append_assoc]
theorem zo(d:Vbcnab.Side)(i:Nat):(fT d i).length<=9+2*d.pairs.length:=by
 have:=lF mh 2 d.pairs i λx _=>Nat.le_refl 2
 unfold fT;rw[List.length_append];show 9+_<=_;omega
theorem Jg(d:Vbcnab.Side):fT d d.pairs.length=[0,(d.native_:Int),(d.apart.toNat:Int),(d.rank:Int),(match d.lock with
 |some (n,_)=>(n:Int)
 |none=>0),(match d.lock with
 |some (_,true)=>1
 |_=>0),(match d.storm with
 |some n=>(n:Int)
 |none=>-1),((d.watchIn.toNat+2*d.watchOut.toNat:Nat):Int),(d.pairs.length:Int)]++(d.pairs.flatMap λx=>[(x.1:Int),(x.2:Int)]):=by
 unfold fT
 rw[List.take_length]
 have e1:bI d.apart=(d.apart.toNat:Int):=by cases d.apart<;>rfl
 have e2:eP d.lock=(match d.lock with|some (n,_)=>(n:Int)|none=>0):=by cases d.lock<;>rfl
 have e3:gG d.lock=(match d.lock with|some (_,true)=>1|_=>0):=by
  cases d.lock with
  |none=>rfl
  |some x=>obtain⟨n,b⟩:=x;cases b<;>rfl
 have e4:oI d.storm=(match d.storm with|some n=>(n:Int)|none=>-1):=by cases d.storm<;>rfl
 have e5:bI d.watchIn+2*bI d.watchOut=((d.watchIn.toNat+2*d.watchOut.toNat:Nat):Int):=by cases d.watchIn<;>cases d.watchOut<;>rfl
 rw[e1,e2,e3,e4,e5]
theorem Ii(T:Txt K mg t):aX P w K mg base aY 2 t.w8 t.u_ ["switch","number"] (cn t 1 λxs=>.side (xs.getD 0 0)):=by
 refine T.A7.fn.ok B9 (λvs H Q E h=>?_) (λcdv A outer s0 H vs Q E hr h=>?_)
 .obtain⟨m,s,xs,hl,rfl,_⟩:=h
  simp[hl]
 .obtain⟨m,s,xs,hl,rfl,hO,rep,k⟩:=h
  obtain⟨n,rfl⟩:=bV hl
  have hu:=bC hr
  have nd:=B9.nd
  have k:Kt t H m (Vbcnab.doing s (.side n)) Q:=k
  simp only[Vbcnab.doing,ck rep,rep.isPort,rep.isVlan,bS] at k
  refine⟨_,ai (aw (bF (bD (aD T.dO (dY T) (hr.mono (by decide)) rfl (aa (pv 0) (aa (pv 1) ah))))) (ao (aq (aB (aa (bf bh (aj)) ah)))) (ay)) (ai (bg (i:=2) nd rfl (Or.inl rfl) (aO bP (ak (pv 0) rfl) (pv 1) (λ_ _=>rfl))) (ai (bg (i:=3) nd rfl (Or.inl rfl) (aB (aa (aj) (aa (ak (pv 2) rfl) (aa (ak (pv 2) rfl) (aa (ak (pv 2) rfl) (aa (ak (pv 2) rfl) (aa (ak (pv 2) rfl) (aa (ak (pv 2) rfl) (aa (ak (pv 2) rfl) ah)))))))))) (ai (cB (fS PySem.F.plainAttrs_list PySem.F.slot_list_append PySem.F.type_list_append ki (pv 3) (aa (bW gP rfl T.len PySem.boot_len (aa (ak (pv 2) rfl) ah)) ah))) (ai (fG PassesOwn.never rfl (d3 (bW (jO rfl) rfl T.sorted boot_sorted (aa (ak (pv 2) rfl) ah))) (cP (i:=4) nd rfl (Or.inl rfl)) (ao (cB (fS PySem.F.plainAttrs_list PySem.F.slot_list_extend PySem.F.type_list_extend kj (pv 3) (aa (aB (aa (pv 4) (aa (bT hu (ak (pv 2) rfl) (pv 4) (λ_ _=>rfl)) ah))) ah))))) (ai (bg (i:=5) nd rfl (Or.inl rfl) (aD T.mx (oW T) (hr.mono (by decide)) rfl (aa (pv 0) (aa (pv 1) ah)))) (ao (aq (cG je (cG je (pv 3) (aB (aa (bW dN rfl T.len PySem.boot_len (aa (pv 5) ah)) ah))) (pv 5))))))))),?_⟩
  show aW _ _ _ [some (.ref m.a),some (.int n),none,none,none,none] H
  simp only[seval,aE]
  refine⟨m,n,rfl,hO,?_⟩
  simp only[seval,ae.at t hO,ae.bZ t hO]
  refine az (λh0=>k.fin (Step.refl hO) rfl (if_pos (decide_eq_false h0)) rep rfl) (λh0=>?_)
  have h0:=Decidable.not_not.mp h0
  rw[if_neg (by simp[h0])] at k
  obtain⟨sd,hsd,hat⟩:=dM (f:=λp:aA=>V.ref p.a) h0.1 h0.2
  have osd:=ae.cx hO hsd
  have bL:=rep.d6 hsd
  have aS:=aA.at t osd
  have en0:((n.toNat:Nat):Int)=n:=by omega
  rw[d4 rep hsd,rep.portsOf,en0] at k
  replace k:Kt t H m (s,fT sd.s sd.s.pairs.length++[((m.dE n).length:Int)]++(m.dE n).map λ(p:Nat)=>(p:Int)) Q:=by rw[Jg];exact k
  have lp:sd.s.pairs.length=sd.pairs.length:=by have z:=bL.perm.length_eq;rw[List.length_map] at z;exact z
  have p64:=rep.nX (List.mem_of_getElem? hsd)
  have eL:sizeLine=2^24:=rfl
  simp only[seval,hat,aS]
  intro p hp
  have s1:au H (upd H p (.lst [.int 0,.int sd.s.native_,.int (bI sd.s.apart),.int sd.s.rank,.int (eP sd.s.lock),.int (gG sd.s.lock),.int (oI sd.s.storm),.int (bI sd.s.watchIn+2*bI sd.s.watchOut)])):=bp (au.refl H) hp
  simp only[seval,s1 _ _ aS]
  refine⟨fX aN,_,s1 _ _ (aA.dJ t osd),?_⟩
  rw[dj]
  refine⟨by show 8<sizeLine;decide,?_⟩
  rw[h8]
  have sm2:au H (upd H p (.lst ([.int 0,.int sd.s.native_,.int (bI sd.s.apart),.int sd.s.rank,.int (eP sd.s.lock),.int (gG sd.s.lock),.int (oI sd.s.storm),.int (bI sd.s.watchIn+2*bI sd.s.watchOut),.int (sd.pairs.length:Int)]))):=bp (au.refl H) hp
  simp only[seval,sm2 _ _ aS]
  refine⟨_,.inl (sm2 _ _ (aA.dJ t osd)),sd.pairs.map (·.1),by rw[gJ,List.map_map];rfl,λns L pm bH hL0=>?_⟩
  have en:=bL.sorted pm bH
  have hpL:p≠L:=λz=>by rw[z,aN] at hL0;cases hL0
  have hLH:H L=none:=cT sm2 hL0
  refine⟨⟨_,ax.of aN⟩,gm (K:=K) (a:=L) (xs:=ns.map V.int) (λi σ H'=>∃a b:Option V,σ=[some (.ref m.a),some (.int n),some (.ref sd.a),some (.ref p),a,b]/\au H H'/\H' L=some (.lst (ns.map V.int))/\H' p=some (.lst ((fT sd.s i).map V.int))) ⟨_,_,rfl,bp sm2 hLH,aN,by rw[aF hpL,aN,<-lp];rfl⟩ (λi σ H' _⟨_,_,_,_,z,_⟩=>ax.of z) ?_ ?_⟩
  .rintro i y σ H' hy ⟨a,b,rfl,sm,hL,hP⟩
   rw[en,List.map_map,List.getElem?_map] at hy
   cases hr':sd.s.pairs[i]? with
   |none=>rw[hr'] at hy;cases hy
   |some r=>
    rw[hr'] at hy
    obtain rfl:V.int (r.1:Int)=y:=Option.some.inj hy
    have hx:lk sd.pairs (r.1:Int)=some (r.2:Int):=iz bL.nd (bL.perm.mem_iff.mp (List.mem_map.mpr ⟨r,List.mem_of_getElem? hr',rfl⟩))
    have gr:=bu (sm _ _ (aA.dJ t osd)) (r.1:Int)
    simp only[seval,sm _ _ aS]
    refine⟨fX hP,_,by rw[hx] at gr;exact gr,λl hl=>?_⟩
    have hlH:H l=none:=cT sm hl
    have n1:p≠l:=λz=>by rw[<-z,hP] at hl;cases hl
    have n2:L≠l:=λz=>by rw[<-z,hL] at hl;cases hl
    have n3:L≠p:=λz=>hpL z.symm
    simp only[seval,aF n1,hP]
    have hlen:=zo sd.s i
    refine⟨by rw[List.length_map];show _+2<=_;rw[eL];omega,bp (bp sm hlH) hp,by rw[aF n3,aF n2];exact hL,?_⟩
    rw[Jh hr',List.map_append];rfl
  .rintro σ H' ⟨a,b,rfl,sm,hL,hP⟩
   rw[List.length_map,en,List.length_map] at hP
   simp only[seval,aE]
   have o1:=hO.same sm
   refine⟨m,n,rfl,o1,by rw[rep.dF];exact rep.cg,λH2 p2 s2 hp2=>?_⟩
   have hP2:=s2 _ _ hP
   simp only[seval,hP2,hp2,List.length_map]
   intro p3 hp3
   have n1:p≠p3:=λz=>by rw[<-z,hP2] at hp3;cases hp3
   have n2:p2≠p3:=λz=>by rw[<-z,hp2] at hp3;cases hp3
   have hlen:=zo sd.s sd.s.pairs.length
   simp only[seval,aF n1,hP2]
   refine⟨by rw[List.length_map];show _+1<=_;rw[eL];omega,λp4 hp4=>?_⟩
   have n3:p2≠p4:=λz=>by rw[<-z,aF n2,hp2] at hp4;cases hp4
   simp only[seval,aF n3,aF n2,hp2]
   have sm3:=sm.trans s2
   have h3:=cT sm3 hp3
   have sm4:au H (upd H2 p3 (.lst [V.int ((m.dE n).length:Int)])):=bp sm3 h3
   have sm5:=bp sm4 (cT sm4 hp4) (o:=.lst ((fT sd.s sd.s.pairs.length).map V.int++[V.int ((m.dE n).length:Int)]))
   have pl:=yW m n
   have m64:m.ports.length<=64:=by rw[rep.dF];exact rep.cg
   refine⟨?_,λp5 hp5=>k.tell hO rep (bp sm5 (cT sm5 hp5)) rfl ?_⟩
   .simp only[List.length_append,List.length_map,List.length_cons,List.length_nil]
    rw[eL];omega
   .rw[aN]
    simp only[List.map_append,List.map_map];rfl
end
end Sw
namespace L2
open PySem PySem.Spec PyProof.Rows
theorem Step.fld{H0 H:Hp}{cs0 rest:Cells}{x C d:Addr}{fs fs':List (Str×V)}(s:Step H0 cs0 H ((x,.ins C d fs)::rest)):Step H0 cs0 (upd H x (.ins C d fs')) ((x,.ins C d fs')::rest):=s.trans (Step.cell (A:=[]) s.own rfl rfl)
theorem Step.gV{H0 H:Hp}{cs0 rest:Cells}{c:Addr×HO}{p:Addr}{o:HO}(s:Step H0 cs0 H (c::rest))(hp:H p=none):Step H0 cs0 (upd H p o) (c::(p,o)::rest):=(s.trans (Step.lay s.own hp)).perm (List.Perm.swap _ _ _)
theorem Step.jv{H0 H:Hp}{cs0 cs:Cells}{p:Addr}{o:HO}(s:Step H0 cs0 H cs)(hp:H p=none):Step H0 cs0 (upd H p o) cs:=s.trans (Step.same s.own (bp (au.refl _) hp))
theorem Step.hd{H0 H:Hp}{cs0 rest:Cells}{x:Addr}{o:HO}(s:Step H0 cs0 H ((x,o)::rest)):H x=some o:=s.own.at_ (x,o) List.mem_cons_self
end L2
namespace Sw
open PySem PySem.Spec PyProof.Rows L2
section
variable{P:Program}{w:World}{K:PySem.W.Frag}{mg:Str->Option Value}{base:Heap}{t:Ad}
abbrev fR(x d rA gA gaA shA spA:Addr)(id age n:Nat):af:=⟨x,d,rA,gA,gaA,shA,spA,⟨id,age,0,0,0⟩,[],[],List.replicate n 2,List.replicate n 0,List.replicate n 0⟩
theorem kz{H:Hp}{x:Addr}{o:HO}(h:H x=some o):Own H [(x,o)]:=⟨λc hc=>by
 have e:c=(x,o):=by simpa using hc
 rw[e];exact h,by simp[adr]⟩
theorem IK{α:Type}{a b c d e f:α}:[a,b,c,d,e,f].Perm [f,a,d,c,b,e]:=by
 refine List.Perm.symm ?_
 refine(List.perm_middle (l₁:=[f]) (a:=a)).trans (List.Perm.cons a ?_)
 refine(List.perm_middle (l₁:=[f,d,c]) (a:=b) (l₂:=[e])).trans (List.Perm.cons b ?_)
 refine(List.perm_middle (l₁:=[f,d]) (a:=c) (l₂:=[e])).trans (List.Perm.cons c ?_)
 refine(List.perm_middle (l₁:=[f]) (a:=d) (l₂:=[e])).trans (List.Perm.cons d ?_)
 exact List.Perm.swap _ _ _
def Lw(t:Ad):Sp:=λvs H Q _=>∃(x d:Addr)(age n:Nat),vs=[.ref x,.int age,.int n]/\H x=some (.ins t.Vlan d [])/\n<=64/\∀(H':Hp)(rA gA gaA shA spA:Addr),(∀id,Step H [(x,.ins t.Vlan d [])] H' (af.cells t (fR x d rA gA gaA shA spA id age n)))->Q .bj H'
theorem yG(T:Txt K mg t):aX P w K mg base aY 1 t.j4 t.jV ["self","age","sides"] (Lw t):=by
 refine T.EE.ok N2 (λvs H Q E h=>?_) (λcdv A outer s0 H vs Q E hr h=>?_)
 .obtain⟨x,d,a,b,rfl,_⟩:=h
  rfl
 .obtain⟨x,d,age,n,rfl,hx,h64,k⟩:=h
  refine⟨_,ai (bx (pv 0) (pv 1) rfl) (ai (bx (pv 0) (aj) rfl) (ai (bx (pv 0) (aj) rfl) (ai (bx (pv 0) (aj) rfl) (ai (bx (pv 0) (mm) rfl) (ai (bx (pv 0) (mm) rfl) (ai (bx (pv 0) (cG ku (aB (aa (aI rfl T.nG) ah)) (pv 2)) rfl) (ai (bx (pv 0) (cG ku (aB (aa (aj) ah)) (pv 2)) rfl) (ao (bx (pv 0) (cG ku (aB (aa (aj) ah)) (pv 2)) rfl))))))))),?_⟩
  show aW _ _ _ [some (.ref x),some (.int age),some (.int n)] H
  have s0:Step H [(x,.ins t.Vlan d [])] H [(x,.ins t.Vlan d [])]:=Step.refl (kz hx)
  simp only[seval,hx]
  refine⟨by show 0<1000;decide,by show 1<1000;decide,by show 2<1000;decide,by show 3<1000;decide,λp1 hp1=>?_⟩
  simp only[h8] at hp1⊢
  have s1:Step H [(x,.ins t.Vlan d [])] (upd H x (.ins t.Vlan d (bc "breaches" (V.int 0) (bc "missed" (V.int 0) (bc "moves" (V.int 0) (bc "age" (V.int age) [])))))) [(x,.ins t.Vlan d [("age",V.int age),("moves",V.int 0),("missed",V.int 0),("breaches",V.int 0)])]:=s0.fld
  generalize upd H x (HO.ins t.Vlan d (bc "breaches" (V.int 0) (bc "missed" (V.int 0) (bc "moves" (V.int 0) (bc "age" (V.int age) [])))))=H1 at s1 hp1⊢
  have s2:=s1.gV (o:=.dK []) hp1
  simp only[seval,s2.hd]
  refine⟨by show 4<1000;decide,λp2 hp2=>?_⟩
  have s3:Step H [(x,.ins t.Vlan d [])] (upd (upd H1 p1 (.dK [])) x (.ins t.Vlan d (bc "rows" (V.ref p1) [("age",V.int age),("moves",V.int 0),("missed",V.int 0),("breaches",V.int 0)]))) [(x,.ins t.Vlan d [("age",V.int age),("moves",V.int 0),("missed",V.int 0),("breaches",V.int 0),("rows",V.ref p1)]),(p1,.dK [])]:=s2.fld
  generalize upd (upd H1 p1 (HO.dK [])) x (HO.ins t.Vlan d (bc "rows" (V.ref p1) [("age",V.int age),("moves",V.int 0),("missed",V.int 0),("breaches",V.int 0)]))=H2 at s3 hp2⊢
  have s4:=s3.gV (o:=.dK []) hp2
  simp only[seval,s4.hd]
  refine⟨by show 5<1000;decide,λl1 hl1=>?_⟩
  have s5:Step H [(x,.ins t.Vlan d [])] (upd (upd H2 p2 (.dK [])) x (.ins t.Vlan d (bc "groups" (V.ref p2) [("age",V.int age),("moves",V.int 0),("missed",V.int 0),("breaches",V.int 0),("rows",V.ref p1)]))) [(x,.ins t.Vlan d [("age",V.int age),("moves",V.int 0),("missed",V.int 0),("breaches",V.int 0),("rows",V.ref p1),("groups",V.ref p2)]),(p2,.dK []),(p1,.dK [])]:=s4.fld
  generalize upd (upd H2 p2 (HO.dK [])) x (HO.ins t.Vlan d (bc "groups" (V.ref p2) [("age",V.int age),("moves",V.int 0),("missed",V.int 0),("breaches",V.int 0),("rows",V.ref p1)]))=H3 at s5 hl1⊢
  have b1:(-(2:Int)^63)<=(n:Int):=by omega
  have b2:(n:Int)<2^63:=by omega
  have b3:1*n<=sizeLine:=by have z:sizeLine=2^24:=rfl;rw[z];omega
  have s6:=s5.jv (o:=.lst [.int 2]) hl1
  refine⟨b1,b2,b3,λg1 hg1=>?_⟩
  simp only[Int.toNat_natCast,xp]
  have s7:=s6.gV (o:=.lst ((List.replicate n (2:Int)).map V.int)) hg1
  simp only[seval,s7.hd]
  refine⟨by show 6<1000;decide,λl2 hl2=>?_⟩
  have s8:Step H [(x,.ins t.Vlan d [])] (upd (upd (upd H3 l1 (.lst [.int 2])) g1 (.lst ((List.replicate n (2:Int)).map V.int))) x (.ins t.Vlan d (bc "gates" (V.ref g1) [("age",V.int age),("moves",V.int 0),("missed",V.int 0),("breaches",V.int 0),("rows",V.ref p1),("groups",V.ref p2)]))) [(x,.ins t.Vlan d [("age",V.int age),("moves",V.int 0),("missed",V.int 0),("breaches",V.int 0),("rows",V.ref p1),("groups",V.ref p2),("gates",V.ref g1)]),(g1,.lst ((List.replicate n (2:Int)).map V.int)),(p2,.dK []),(p1,.dK [])]:=s7.fld
  generalize upd (upd (upd H3 l1 (HO.lst [.int 2])) g1 (HO.lst ((List.replicate n (2:Int)).map V.int))) x (HO.ins t.Vlan d (bc "gates" (V.ref g1) [("age",V.int age),("moves",V.int 0),("missed",V.int 0),("breaches",V.int 0),("rows",V.ref p1),("groups",V.ref p2)]))=H4 at s8 hl2⊢
  have s9:=s8.jv (o:=.lst [.int 0]) hl2
  refine⟨b1,b2,b3,λg2 hg2=>?_⟩
  have s10:=s9.gV (o:=.lst ((List.replicate n (0:Int)).map V.int)) hg2
  simp only[seval,s10.hd]
  refine⟨by show 7<1000;decide,λl3 hl3=>?_⟩
  have s11:Step H [(x,.ins t.Vlan d [])] (upd (upd (upd H4 l2 (.lst [.int 0])) g2 (.lst ((List.replicate n (0:Int)).map V.int))) x (.ins t.Vlan d (bc "shut" (V.ref g2) [("age",V.int age),("moves",V.int 0),("missed",V.int 0),("breaches",V.int 0),("rows",V.ref p1),("groups",V.ref p2),("gates",V.ref g1)]))) [(x,.ins t.Vlan d [("age",V.int age),("moves",V.int 0),("missed",V.int 0),("breaches",V.int 0),("rows",V.ref p1),("groups",V.ref p2),("gates",V.ref g1),("shut",V.ref g2)]),(g2,.lst ((List.replicate n (0:Int)).map V.int)),(g1,.lst ((List.replicate n (2:Int)).map V.int)),(p2,.dK []),(p1,.dK [])]:=s10.fld
  generalize upd (upd (upd H4 l2 (HO.lst [.int 0])) g2 (HO.lst ((List.replicate n (0:Int)).map V.int))) x (HO.ins t.Vlan d (bc "shut" (V.ref g2) [("age",V.int age),("moves",V.int 0),("missed",V.int 0),("breaches",V.int 0),("rows",V.ref p1),("groups",V.ref p2),("gates",V.ref g1)]))=H5 at s11 hl3⊢
  have s12:=s11.jv (o:=.lst [.int 0]) hl3
  refine⟨b1,b2,b3,λg3 hg3=>?_⟩
  have s13:=s12.gV (o:=.lst ((List.replicate n (0:Int)).map V.int)) hg3
  simp only[seval,s13.hd]
  refine⟨by show 8<1000;decide,k _ p1 p2 g1 g2 g3 λid=>?_⟩
  have s14:Step H [(x,.ins t.Vlan d [])] (upd (upd (upd H5 l3 (.lst [.int 0])) g3 (.lst ((List.replicate n (0:Int)).map V.int))) x (.ins t.Vlan d (bc "spread" (V.ref g3) [("age",V.int age),("moves",V.int 0),("missed",V.int 0),("breaches",V.int 0),("rows",V.ref p1),("groups",V.ref p2),("gates",V.ref g1),("shut",V.ref g2)]))) [(x,.ins t.Vlan d [("age",V.int age),("moves",V.int 0),("missed",V.int 0),("breaches",V.int 0),("rows",V.ref p1),("groups",V.ref p2),("gates",V.ref g1),("shut",V.ref g2),("spread",V.ref g3)]),(g3,.lst ((List.replicate n (0:Int)).map V.int)),(g2,.lst ((List.replicate n (0:Int)).map V.int)),(g1,.lst ((List.replicate n (2:Int)).map V.int)),(p2,.dK []),(p1,.dK [])]:=s13.fld
  refine s14.perm ?_
  show List.Perm _ [(p1,HO.dK []),(x,.ins t.Vlan d (bM (fR x d p1 p2 g1 g2 g3 id age n))),(g1,.lst ((List.replicate n (2:Int)).map V.int)),(g2,.lst ((List.replicate n (0:Int)).map V.int)),(g3,.lst ((List.replicate n (0:Int)).map V.int)),(p2,.dK [])]
  exact IK
end
end Sw
namespace L2
open PySem PySem.Spec PyProof.Rows
theorem Step.made{H0 H H2:Hp}{cs0 cs cs2:Cells}{x dx C:Addr}(s:Step H0 cs0 H cs)(hx:H x=none)(hdx:H dx=none)(s2:Step (upd (upd H dx (.own x)) x (.ins C dx [])) [(x,.ins C dx [])] H2 cs2):Step H0 cs0 H2 (cs2++cs):=by
 have sm:au H (upd (upd H dx (.own x)) x (.ins C dx [])):=bp (bp (au.refl H) hdx) hx
 have s1:=s.trans (Step.more s.own sm hx aN)
 exact s1.trans (Step.focus (C:=[(x,.ins C dx [])]) (C':=cs2) (R:=cs) s1.own (List.Perm.refl _) (List.Perm.refl _) s2)
theorem Step.push{H0 H:Hp}{cs0 c2 rest:Cells}{D:Addr}{o o':HO}(s:Step H0 cs0 H (c2++(D,o)::rest)):Step H0 cs0 (upd H D o') ((D,o')::(c2++rest)):=by
 have s1:=s.perm List.perm_middle
 exact s1.trans (Step.cell (A:=[]) s1.own rfl rfl)
end L2
namespace Sw
open PySem PySem.Spec PyProof.Rows L2
section
variable{P:Program}{w:World}{K:PySem.W.Frag}{mg:Str->Option Value}{base:Heap}{t:Ad}
theorem ae.L6{H H2:Hp}{m:ae}{u:af}{k:Int}{x dx:Addr}(h:Own H (m.cells t))(hx:H x=none)(hdx:H dx=none)(s2:Step (upd (upd H dx (.own x)) x (.ins t.Vlan dx [])) [(x,.ins t.Vlan dx [])] H2 (u.cells t)):H2 m.bN=some (.dK (toK bK m.vlans))/\Step H (m.cells t) (upd H2 m.bN (.dK (toK bK (m.vlans++[(k,u)])))) (ae.cells t {m with vlans:=m.vlans++[(k,u)]}):=by
 have s1:=Step.made (Step.refl h) hx hdx s2
 have ef:((m.vlans++[(k,u)]).flatMap λp=>p.2.cells t)=(m.vlans.flatMap λp=>p.2.cells t)++u.cells t:=by
  rw[List.flatMap_append]
  show _++(u.cells t++[])=_
  rw[List.append_nil]
 have e2:ae.cells t {m with vlans:=m.vlans++[(k,u)]}=(m.base t++(m.ports.flatMap (ba.cells t)++m.sides.flatMap (aA.cells t)))++((m.bN,.dK (toK bK (m.vlans++[(k,u)])))::((m.vlans.flatMap λp=>p.2.cells t)++u.cells t)):=by
  rw[ae.eI]
  show _++((m.bN,HO.dK (toK bK (m.vlans++[(k,u)])))::(m.vlans++[(k,u)]).flatMap λp=>p.2.cells t)=_
  rw[ef];rfl
 rw[e2]
 have e1:=ae.eI t m
 rw[show u.cells t++m.cells t=(u.cells t++(m.base t++(m.ports.flatMap (ba.cells t)++m.sides.flatMap (aA.cells t))))++((m.bN,.dK (toK bK m.vlans))::m.vlans.flatMap λp=>p.2.cells t) by rw[e1,List.append_assoc (u.cells t)]] at s1
 generalize m.base t++(m.ports.flatMap (ba.cells t)++m.sides.flatMap (aA.cells t))=B at s1⊢
 generalize (m.vlans.flatMap λp=>p.2.cells t)=W at s1⊢
 refine⟨s1.own.at_ (m.bN,_) (List.mem_append_right _ List.mem_cons_self),?_⟩
 refine(s1.push (o':=.dK (toK bK (m.vlans++[(k,u)])))).perm ?_
 refine List.Perm.trans (List.Perm.cons _ ?_) List.perm_middle.symm
 rw[List.append_assoc,<-List.append_assoc B]
 exact List.perm_append_comm
theorem Hj(T:Txt K mg t):aX P w K mg base aY 3 t.vC t.tM ["switch","v"] (cn t 1 λxs=>.vlan (xs.getD 0 0)):=by
 refine T.sr.fn.ok Bn (λvs H Q E h=>?_) (λcdv A outer s0 H vs Q E hr h=>?_)
 .obtain⟨m,s,xs,hl,rfl,_⟩:=h
  simp[hl]
 .obtain⟨m,s,xs,hl,rfl,hO,rep,k⟩:=h
  obtain⟨v,rfl⟩:=bV hl
  have hu:=bC hr
  have nd:=Bn.nd
  have k:Kt t H m (Vbcnab.doing s (.vlan v)) Q:=k
  simp only[Vbcnab.doing,ck rep,rep.isPort,rep.isVlan,bS] at k
  refine⟨_,ai (aw (bF (c9 bB bB (aj) (pv 1) (aI rfl T.sV))) (ao (aq (aB (aa (bf bh (aj)) ah)))) (ay)) (ai (aw (cj (jh hu (pv 1) (ak (pv 0) rfl))) (ao (aq (aB (aa (bf bh (aj)) ah)))) (ay)) (ai (aw (aU jf (bW gP rfl T.len PySem.boot_len (aa (ak (pv 0) rfl) ah)) (aI rfl T.C_) (aQ _)) (ao (aq (aB (aa (bf bh (aj)) ah)))) (ay)) (ai (fF hu (ak (pv 0) rfl) (pv 1) (fD T.yA (yG T) (hr.mono (by decide)) rfl T.yr T.sN .nil eA (aa (ak (pv 0) rfl) (aa (bW dN rfl T.len PySem.boot_len (aa (ak (pv 0) rfl) ah)) ah))) rfl) (ao (aq (aB (aa (aj) ah))))))),?_⟩
  show aW _ _ _ [some (.ref m.a),some (.int v)] H
  simp only[seval,aE]
  refine az (λh0=>k.fin (Step.refl hO) rfl (if_pos (decide_eq_false h0)) rep rfl) (λh0=>?_)
  have h0:=Decidable.not_not.mp h0
  rw[if_neg (by simp[h0])] at k
  simp only[seval,ae.at t hO]
  refine⟨_,bu (ae.bJ t hO) v,?_⟩
  rw[Option.isSome_map]
  refine az (λh1=>k.fin (Step.refl hO) rfl (if_pos h1) rep rfl) (λh1=>?_)
  rw[if_neg h1,rep.M6] at k
  have ln:lk m.vlans v=none:=by simpa using h1
  refine⟨_,ae.bJ t hO,?_⟩
  rw[dj]
  refine az (λh2=>k.fin (Step.refl hO) rfl (if_pos (by omega)) rep rfl) (λh2=>?_)
  rw[if_neg (by omega)] at k
  simp only[seval,ae.bZ t hO,List.length_map]
  intro x dx hx hdx hne
  have ev:((v.toNat:Nat):Int)=v:=by omega
  refine⟨x,dx,m.age,m.sides.length,rfl,aN,rep.cg,λH2 rA gA gaA shA spA s2=>⟨rfl,?_⟩⟩
  have s2:=s2 v.toNat
  obtain⟨aV,st⟩:=ae.L6 (t:=t) (k:=v) hO hx hdx s2
  have sw:H2 m.a=some (.ins t.Switch m.d (cC m)):=(Step.made (Step.refl hO) hx hdx s2).own.at_ (m.a,_) (List.mem_append_right _ (by simp[ae.cells,ae.base]))
  simp only[seval,sw]
  have hput:=dQ.k (k:=Sum.inl v) (v:=V.ref x) aV (by rw[dj];exact Nat.lt_of_le_of_lt rep.ff (by decide))
  rw[show V.ref x=bK (fR x dx rA gA gaA shA spA v.toNat m.age m.sides.length) from rfl,mB ln] at hput
  refine⟨_,hput,?_⟩
  have rp:=rep.Cq (n:=v.toNat) (x:=fR x dx rA gA gaA shA spA v.toNat m.age m.sides.length) (by omega) (by rw[ev];exact ln) (by omega) rfl rfl rfl rfl rfl rfl
  rw[ev] at rp
  exact k.fin st rfl rfl rp rfl
def Lu(t:Ad):Sp:=λvs H Q _=>∃(x d:Addr),vs=[.ref x]/\H x=some (.ins t.Side d [])/\∀(H':Hp)(pA:Addr),Step H [(x,.ins t.Side d [])] H' (aA.cells t ⟨x,d,pA,{},[]⟩)->Q .bj H'
theorem Hg(T:Txt K mg t):aX P w K mg base aY 1 t.j2 t.jT ["self"] (Lu t):=by
 refine T.EC.ok N1 (λvs H Q E h=>?_) (λcdv A outer s0 H vs Q E hr h=>?_)
 .obtain⟨x,d,rfl,_⟩:=h
  rfl
 .obtain⟨x,d,rfl,hx,k⟩:=h
  refine⟨_,ai (bx (pv 0) (aj) rfl) (ai (bx (pv 0) (mm) rfl) (ai (bx (pv 0) (aj) rfl) (ai (bx (pv 0) (aj) rfl) (ai (bx (pv 0) (aj) rfl) (ai (bx (pv 0) (aj) rfl) (ai (bx (pv 0) (aI rfl T.nH) rfl) (ao (bx (pv 0) (aI rfl T.sY) rfl)))))))),?_⟩
  show aW _ _ _ [some (.ref x)] H
  have s0:Step H [(x,.ins t.Side d [])] H [(x,.ins t.Side d [])]:=Step.refl (kz hx)
  simp only[seval,hx]
  refine⟨by show 0<1000;decide,λp1 hp1=>?_⟩
  have s1:Step H [(x,.ins t.Side d [])] (upd H x (.ins t.Side d (bc "native" (V.int 1) []))) [(x,.ins t.Side d [("native",V.int 1)])]:=s0.fld
  generalize upd H x (HO.ins t.Side d (bc "native" (V.int 1) []))=H1 at s1 hp1⊢
  have s2:=s1.gV (o:=.dK []) hp1
  simp only[seval,s2.hd]
  refine⟨by show 1<1000;decide,by show 2<1000;decide,by show 3<1000;decide,by show 4<1000;decide,by show 5<1000;decide,by show 6<1000;decide,by show 7<1000;decide,?_⟩
  simp only[h8]
  exact k _ p1 s2.fld
def Lr(t:Ad):Sp:=λvs H Q _=>∃(x d:Addr)(i:Nat),vs=[.ref x,.int i]/\H x=some (.ins t.Port d [])/\∀(H':Hp)(pA:Addr),Step H [(x,.ins t.Port d [])] H' (ba.cells t ⟨x,d,pA,{side:=some i}⟩)->Q .bj H'
theorem Hf(T:Txt K mg t):aX P w K mg base aY 1 t.j0 t.jR ["self","side"] (Lr t):=by
 refine T.Ez.ok NZ (λvs H Q E h=>?_) (λcdv A outer s0 H vs Q E hr h=>?_)
 .obtain⟨x,d,i,rfl,_⟩:=h
  rfl
 .obtain⟨x,d,i,rfl,hx,k⟩:=h
  refine⟨_,ai (bx (pv 0) (pv 1) rfl) (ai (bx (pv 0) (aj) rfl) (ai (bx (pv 0) (aj) rfl) (ai (bx (pv 0) (aj) rfl) (ai (bx (pv 0) (aj) rfl) (ao (bx (pv 0) (cG ku (aB (aa (aj) ah)) (aI rfl T.Dh)) rfl)))))),?_⟩
  show aW _ _ _ [some (.ref x),some (.int i)] H
  have s0:Step H [(x,.ins t.Port d [])] H [(x,.ins t.Port d [])]:=Step.refl (kz hx)
  simp only[seval,hx]
  refine⟨by show 0<1000;decide,by show 1<1000;decide,by show 2<1000;decide,by show 3<1000;decide,by show 4<1000;decide,λp1 hp1=>?_⟩
  simp only[h8] at hp1⊢
  have s1:Step H [(x,.ins t.Port d [])] (upd H x (.ins t.Port d (bc "given" (V.int 0) (bc "passed" (V.int 0) (bc "taken" (V.int 0) (bc "up" (V.int 1) (bc "side" (V.int i) []))))))) [(x,.ins t.Port d [("side",V.int i),("up",V.int 1),("taken",V.int 0),("passed",V.int 0),("given",V.int 0)])]:=s0.fld
  generalize upd H x (HO.ins t.Port d (bc "given" (V.int 0) (bc "passed" (V.int 0) (bc "taken" (V.int 0) (bc "up" (V.int 1) (bc "side" (V.int i) []))))))=H1 at s1 hp1⊢
  have s2:=s1.jv (o:=.lst [.int 0]) hp1
  refine⟨by decide,by decide,by show 1*14<=sizeLine;decide,λp2 hp2=>?_⟩
  have s3:=s2.gV (o:=.lst ((List.replicate (Int.toNat 14) [V.int 0]).flatten)) hp2
  rw[s3.hd]
  exact⟨T.lu,T.oM,by show 5<1000;decide,k _ p2 s3.fld⟩
theorem IL{α:Type}{x p D D2:α}{VC PF SF:List α}:(x::(p::(VC++((D2::SF)++(D::PF))))).Perm ([x,D,D2]++(PF++(SF++(p::(VC++[]))))):=by
 rw[List.append_nil]
 refine List.Perm.cons _ ?_
 show List.Perm _ (D::D2::(PF++(SF++(p::VC))))
 have e:D::D2::(PF++(SF++(p::VC)))=(D::D2::(PF++SF))++p::VC:=by simp
 rw[e]
 refine List.Perm.trans (List.Perm.cons _ ?_) List.perm_middle.symm
 refine List.perm_append_comm.trans (List.Perm.append_right _ ?_)
 refine List.perm_middle.trans (List.Perm.cons _ ?_)
 exact List.Perm.cons _ List.perm_append_comm
def Lv(t:Ad):Sp:=λvs H Q _=>∃(x d:Addr)(n cap age hold:Nat),vs=[.ref x,.int n,.int cap,.int age,.int hold]/\H x=some (.ins t.Switch d [])/\1<=n/\n<=64/\1<=cap/\cap<=65536/\1<=age/\∀(H':Hp)(m:ae),m.a=x->Step H [(x,.ins t.Switch d [])] H' (m.cells t)->Rep m (Vbcnab.fresh n cap age hold)->Q .bj H'
theorem Hh(T:Txt K mg t):aX P w K mg base aY 3 t.j3 t.jU ["self","ports","cap","age","hold"] (Lv t):=by
 refine T.ED.ok Bl (λvs H Q E h=>?_) (λcdv A outer s0 H vs Q E hr h=>?_)
 .obtain⟨x,d,a,b,c,e,rfl,_⟩:=h
  rfl
 .obtain⟨x,d,n,cap,age,hold,rfl,hx,h1,h64,c1,c2,a1,k⟩:=h
  have hu:=bC hr
  have nd:=Bl.nd
  refine⟨_,ai (bx (pv 0) (iF rfl nd (pb rfl T.range (aa (pv 1) ah)) (eY (own:=[("number",5)]) (by show d_ ["self","ports","cap","age","hold","number"] (aK kL) _ _=true;decide+kernel)) (λ_ _ _ _ _=>cP (i:=5) nd rfl (Or.inl rfl)) (λ_ _ _ _ _=>kH) (λ_ _ _ _ _=>fD T.Gh (Hf T) (hr.mono (by decide)) rfl T.F2 T.CH .nil eA (aa (pv 5) ah))) rfl) (ai (bx (pv 0) (iF rfl nd (pb rfl T.range (aa (pv 1) ah)) (eY (own:=[("number",5)]) (by show d_ ["self","ports","cap","age","hold","number"] (aK kL) _ _=true;decide+kernel)) (λ_ _ _ _ _=>cP (i:=5) nd rfl (Or.inl rfl)) (λ_ _ _ _ _=>kH) (λ_ _ _ _ _=>zb T.Gi (Hg T) (hr.mono (by decide)) rfl T.F3 T.CI .nil eA)) rfl) (ai (bx (pv 0) (IE (I_ (aj) (fD T.yA (yG T) (hr.mono (by decide)) rfl T.yr T.sN .nil eA (aa (pv 3) (aa (pv 1) ah))) (Ja)) rfl rfl (by simp) (by decide)) rfl) (ai (bx (pv 0) (pv 2) rfl) (ai (bx (pv 0) (pv 3) rfl) (ai (bx (pv 0) (pv 4) rfl) (ai (bx (pv 0) (aI rfl T.fN) rfl) (ao (bx (pv 0) (aj) rfl)))))))),?_⟩
  show aW _ _ _ [some (.ref x),some (.int n),some (.int cap),some (.int age),some (.int hold),none] H
  have s0:Step H [(x,.ins t.Switch d [])] H [(x,.ins t.Switch d [])]:=Step.refl (kz hx)
  simp only[seval,aE]
  refine⟨by omega,by omega,λD hD=>ow (lo:=0) (n:=((n:Int)).toNat) (λi H'=>∃ps:List ba,ps.map (·.p)=(List.range i).map (λi=>{side:=some i})/\Step H [(x,.ins t.Switch d [])] H' ((D,.lst (ps.map λp=>V.ref p.a))::(ps.flatMap (ba.cells t)++[(x,.ins t.Switch d [])]))) ⟨[],rfl,s0.trans (Step.lay s0.own hD)⟩ ?_ ?_⟩
  .rintro i H1 hi ⟨ps,hps,s1⟩
   simp only[seval,wipe,List.map_cons,List.map_nil,gH]
   intro px pdx hpx hpdx hne
   have pl:ps.length=i:=by have z:=congrArg List.length hps;simpa using z
   refine⟨px,pdx,i,by rw[Int.zero_add],aN,λH2 dA s2=>⟨rfl,?_⟩⟩
   have s3:=Step.made s1 hpx hpdx s2
   refine⟨_,s3.own.at_ (D,_) (List.mem_append_right _ List.mem_cons_self),by rw[List.length_map,pl];have z:sizeLine=2^24:=rfl;rw[z];omega,ps++[⟨px,pdx,dA,{side:=some i}⟩],?_,?_⟩
   .rw[List.map_append,hps,List.range_succ,List.map_append];rfl
   .have s4:=s3.push (o':=.lst (ps.map (λp=>V.ref p.a)++[V.ref px]))
    refine s4.perm ?_
    rw[List.map_append,List.flatMap_append]
    refine List.Perm.cons _ ?_
    rw[<-List.append_assoc]
    refine List.Perm.append_right _ ?_
    show List.Perm _ (ps.flatMap (ba.cells t)++(ba.cells t ⟨px,pdx,dA,{side:=some i}⟩++[]))
    rw[List.append_nil]
    exact List.perm_append_comm
  .rintro H1 ⟨ps,hps,s1⟩
   rw[Int.toNat_natCast] at hps
   have s2:Step H [(x,.ins t.Switch d [])] H1 ((x,.ins t.Switch d [])::((D,.lst (ps.map λp=>V.ref p.a))::ps.flatMap (ba.cells t))):=s1.perm (by
    rw[<-List.cons_append]
    exact List.perm_append_comm)
   simp only[seval,s2.hd]
   refine⟨by show 0<1000;decide,by omega,by omega,λD2 hD2=>?_⟩
   have s3:Step H [(x,.ins t.Switch d [])] (upd H1 x (.ins t.Switch d (bc "ports" (V.ref D) []))) ((x,.ins t.Switch d [("ports",V.ref D)])::((D,.lst (ps.map λp=>V.ref p.a))::ps.flatMap (ba.cells t))):=s2.fld
   generalize upd H1 x (HO.ins t.Switch d (bc "ports" (V.ref D) []))=H3 at s3 hD2⊢
   generalize hPC:((D,HO.lst (ps.map λp=>V.ref p.a))::ps.flatMap (ba.cells t))=PC at s3
   refine ow (lo:=0) (n:=((n:Int)).toNat) (λi H'=>∃ss:List aA,ss.map (·.s)=List.replicate i {}/\(∀y∈ss,y.pairs=[])/\Step H [(x,.ins t.Switch d [])] H' ((D2,.lst (ss.map λp=>V.ref p.a))::(ss.flatMap (aA.cells t)++((x,.ins t.Switch d [("ports",V.ref D)])::PC)))) ⟨[],rfl,(λy hy=>by cases hy),s3.trans (Step.lay s3.own hD2)⟩ ?_ ?_
   .rintro i H4 hi ⟨ss,hss,hpr,s4⟩
    simp only[seval,wipe,List.map_cons,List.map_nil,gH]
    intro px pdx hpx hpdx hne
    have pl:ss.length=i:=by have z:=congrArg List.length hss;simpa using z
    refine⟨px,pdx,rfl,aN,λH5 dA s5=>⟨rfl,?_⟩⟩
    have s6:=Step.made s4 hpx hpdx s5
    refine⟨_,s6.own.at_ (D2,_) (List.mem_append_right _ List.mem_cons_self),by rw[List.length_map,pl];have z:sizeLine=2^24:=rfl;rw[z];omega,ss++[⟨px,pdx,dA,{},[]⟩],?_,?_,?_⟩
    .rw[List.map_append,hss,List.replicate_succ'];rfl
    .intro y hy
     rcases List.mem_append.mp hy with hy|hy
     .exact hpr y hy
     .have e:y=⟨px,pdx,dA,{},[]⟩:=by simpa using hy
      rw[e]
    .have s7:=s6.push (o':=.lst (ss.map (λp=>V.ref p.a)++[V.ref px]))
     refine s7.perm ?_
     rw[List.map_append,List.flatMap_append]
     refine List.Perm.cons _ ?_
     rw[<-List.append_assoc]
     refine List.Perm.append_right _ ?_
     show List.Perm _ (ss.flatMap (aA.cells t)++(aA.cells t ⟨px,pdx,dA,{},[]⟩++[]))
     rw[List.append_nil]
     exact List.perm_append_comm
   .rintro H4 ⟨ss,hss,hpr,s4⟩
    rw[Int.toNat_natCast] at hss
    have s5:Step H [(x,.ins t.Switch d [])] H4 ((x,.ins t.Switch d [("ports",V.ref D)])::(((D2,.lst (ss.map λp=>V.ref p.a))::ss.flatMap (aA.cells t))++PC)):=s4.perm (by
     rw[<-List.cons_append]
     exact List.perm_middle)
    simp only[seval,s5.hd]
    refine⟨by show 1<1000;decide,λp hp=>?_⟩
    have s6:Step H [(x,.ins t.Switch d [])] (upd H4 x (.ins t.Switch d (bc "sides" (V.ref D2) [("ports",V.ref D)]))) ((x,.ins t.Switch d [("ports",V.ref D),("sides",V.ref D2)])::(((D2,.lst (ss.map λp=>V.ref p.a))::ss.flatMap (aA.cells t))++PC)):=s5.fld
    generalize upd H4 x (HO.ins t.Switch d (bc "sides" (V.ref D2) [("ports",V.ref D)]))=H5 at s6 hp⊢
    generalize hSC:((D2,HO.lst (ss.map λp=>V.ref p.a))::ss.flatMap (aA.cells t))=SC at s6
    have s7:=s6.gV (o:=.dK []) hp
    show iN _ _ _ _
    unfold iN
    simp only[seval,aE]
    intro vx vdx hvx hvdx hne
    refine⟨vx,vdx,age,n,rfl,aN,h64,λH6 rA gA gaA shA spA s8=>⟨rfl,?_⟩⟩
    have s9:=Step.made s7 hvx hvdx (s8 1)
    show iN _ _ _ _
    unfold iN
    refine⟨s9.own.at_ (p,_) (List.mem_append_right _ (List.mem_cons_of_mem _ List.mem_cons_self)),[(Sum.inl 1,V.ref vx)],rfl,by show 1<=15;decide,?_⟩
    have s10:Step H [(x,.ins t.Switch d [])] H6 ((af.cells t (fR vx vdx rA gA gaA shA spA 1 age n)++[(x,.ins t.Switch d [("ports",V.ref D),("sides",V.ref D2)])])++(p,.dK [])::(SC++PC)):=by
     rw[List.append_assoc];exact s9
    have s11:=s10.push (o':=.dK (toK bK [(1,fR vx vdx rA gA gaA shA spA 1 age n)]))
    have s12:Step H [(x,.ins t.Switch d [])] (upd H6 p (.dK (jc [] [(Sum.inl 1,V.ref vx)]))) ((x,.ins t.Switch d [("ports",V.ref D),("sides",V.ref D2)])::((p,.dK (toK bK [(1,fR vx vdx rA gA gaA shA spA 1 age n)]))::(af.cells t (fR vx vdx rA gA gaA shA spA 1 age n)++(SC++PC)))):=s11.perm (by
     rw[List.append_assoc]
     refine(List.Perm.cons _ List.perm_middle).trans ?_
     exact List.Perm.swap _ _ _)
    simp only[seval,s12.hd]
    refine⟨by show 2<1000;decide,by show 3<1000;decide,by show 4<1000;decide,by show 5<1000;decide,by show 6<1000;decide,by show 7<1000;decide,?_⟩
    simp only[h8]
    have s13:=s12.fld (fs':=[("ports",V.ref D),("sides",V.ref D2),("vlans",V.ref p),("cap",V.int cap),("age",V.int age),("hold",V.int hold),("mirror",V.int (-1)),("now",V.int 0)])
    refine k _ ⟨x,d,D,D2,p,ps,ss,[(1,fR vx vdx rA gA gaA shA spA 1 age n)],cap,age,hold,none,0⟩ rfl ?_ ?_
    .refine Step.perm s13 ?_
     subst hPC hSC
     exact IL
    .exact Rep.fresh h1 h64 c1 c2 a1 (x:=fR vx vdx rA gA gaA shA spA 1 age n) hps hss hpr rfl rfl rfl rfl rfl rfl rfl rfl rfl rfl rfl rfl
end
end Sw
namespace L2
open PySem PySem.Spec PyProof.Rows
section
variable{d:Addr}{o:Obj}{kvs:List (Key×V)}{g:TG}{tt:TT}{te:TE}{vs:List Nat}{σ:St}{H1:Hp}{D:Addr}{Qd:Hp->Prop}
theorem FR(st:Nat->V->Option V)(hD:H1 D=none)(hS:H1 d=some (.bz o (.dK kvs)))(hz:kvs.length<=sizeLine)(hs:∀(i:Nat)(x:V)(H:Hp)(R:Option V->Hp->Prop),(kvs.map (·.2))[i]? =some x->au H1 H->(∀H',au H H'->R (st i x) H')->g x (wipe σ vs) H λσ2 H2=>wipe σ2 vs=wipe σ vs/\tt σ2 H2 λb H3=>if b=true then te σ2 H3 λy H4=>R (some y) H4 else R none H3)(hd:∀H',au H1 H'->H' D=some (.lst (bA st 0 (kvs.map (·.2))))->Qd H'):∃W:Nat->Nat->Hp->Prop,(∃m,W 0 m (upd H1 D (.lst [])))/\∀i m H,W i m H->((f_ d o kvs).stop i H/\Qd H)\/((f_ d o kvs).go i H/\∃Nx:Hp->Prop,(∀H',Nx H'->∃m',m'<m/\W (i+1) m' H')/\∀x H',(f_ d o kvs).d8 i H x H'->g x (wipe σ vs) H' λσ2 H2=>wipe σ2 vs=wipe σ vs/\tt σ2 H2 λb H3=>
                                                                                                                                                                                                                                                                                                                                                                                                                                                                                                                  if b=true then te σ2 H3 λy H4=>∃acc,H4 D=some (.lst acc)/\acc.length<sizeLine/\Nx (upd H4 D (.lst (acc++[y]))) else Nx H3):=by
 have xl:(kvs.map (·.2)).length=kvs.length:=List.length_map ..
 refine⟨λi m H=>m=kvs.length -i/\i<=kvs.length/\au H1 H/\H D=some (.lst (bA st 0 ((kvs.map (·.2)).take i))),⟨kvs.length,by simp,Nat.zero_le _,bp (λ_ _ e=>e) hD,aN⟩,?_⟩
 rintro i m H ⟨rfl,hi,p⟩
 have q:=p.1 _ _ hS
 by_cases hlt:i<kvs.length
 .refine .inr ⟨⟨q,hlt⟩,λH'=>au H1 H'/\H' D=some (.lst (bA st 0 ((kvs.map (·.2)).take (i+1)))),λH' p'=>⟨kvs.length -(i+1),by omega,rfl,hlt,p'⟩,λx H' y=>?_⟩
  obtain⟨rfl,k,y⟩:=y
  have hx:(kvs.map (·.2))[i]? =some x:=by rw[List.getElem?_map,y];rfl
  have hlen:(bA st 0 ((kvs.map (·.2)).take i)).length<sizeLine:=Nat.lt_of_le_of_lt (i0 st 0 _) (by rw[List.length_take];omega)
  have te':=kW (Pn:=λH'=>au H1 H'/\H' D=some (.lst (bA st 0 ((kvs.map (·.2)).take (i+1))))) (σ0:=σ) hD hlen p.1 p.2 (o:=st i x) λH' s e=>⟨s,by rw[e,jN st 0 _ i x hx,Nat.zero_add]⟩
  exact hs i x H' (jr D (λH'=>au H1 H'/\H' D=some (.lst (bA st 0 ((kvs.map (·.2)).take (i+1)))))) hx p.1 te'
 .have e:i=kvs.length:=by omega
  subst e
  rw[<-xl,List.take_length] at p
  exact .inl ⟨⟨q,Nat.le_refl _⟩,hd H p.1 p.2⟩
theorem FP(st:Nat->Key×V->Option V)(hD:H1 D=none)(hS:H1 d=some (.bz o (.dK kvs)))(hz:kvs.length<=sizeLine)(hs:∀(i:Nat)(x:Key×V)(H:Hp)(T:Addr)(R:Option V->Hp->Prop),kvs[i]? =some x->au H1 H->H T=none->(∀H',au H H'->R (st i x) H')->g (.ref T) (wipe σ vs) (upd H T (.tup [kV x.1,x.2])) λσ2 H2=>wipe σ2 vs=wipe σ vs/\tt σ2 H2 λb H3=>if b=true then te σ2 H3 λy H4=>R (some y) H4 else R none H3)(hd:∀H' L,au H1 H'->H' D=some (.lst L)->L=(List.range kvs.length).filterMap (λi=>kvs[i]?.bind λx=>st i x)->Qd H'):∃W:Nat->Nat->Hp->Prop,(∃m,W 0 m (upd H1 D (.lst [])))/\∀i m H,W i m H->((iU d o kvs).stop i H/\Qd H)\/((iU d o kvs).go i H/\∃Nx:Hp->Prop,(∀H',Nx H'->∃m',m'<m/\W (i+1) m' H')/\∀x H',(iU d o kvs).d8 i H x H'->g x (wipe σ vs) H' λσ2 H2=>wipe σ2 vs=wipe σ vs/\tt σ2 H2 λb H3=>
                                                                                                                                                                                                                                                                                                                                                                                                                                                                                                                                                                                                               if b=true then te σ2 H3 λy H4=>∃acc,H4 D=some (.lst acc)/\acc.length<sizeLine/\Nx (upd H4 D (.lst (acc++[y]))) else Nx H3):=by
 let F:Nat->List V:=λi=>(List.range i).filterMap (λi=>kvs[i]?.bind λx=>st i x)
 have Fl:∀i,(F i).length<=i:=λi=>by
  have z:=List.length_filterMap_le (λi=>kvs[i]?.bind λx=>st i x) (List.range i)
  rw[List.length_range] at z;exact z
 have Fs:∀i x,kvs[i]? =some x->F (i+1)=F i++(st i x).toList:=λi x hx=>by
  show(List.range (i+1)).filterMap _=_
  rw[List.range_succ,List.filterMap_append]
  congr 1
  simp only[List.filterMap_cons,List.filterMap_nil,hx,Option.bind_some]
  cases st i x<;>rfl
 refine⟨λi m H=>m=kvs.length -i/\i<=kvs.length/\au H1 H/\H D=some (.lst (F i)),⟨kvs.length,by simp,Nat.zero_le _,bp (λ_ _ e=>e) hD,aN⟩,?_⟩
 rintro i m H ⟨rfl,hi,p⟩
 have q:=p.1 _ _ hS
 by_cases hlt:i<kvs.length
 .refine .inr ⟨⟨q,hlt⟩,λH'=>au H1 H'/\H' D=some (.lst (F (i+1))),λH' p'=>⟨kvs.length -(i+1),by omega,rfl,hlt,p'⟩,λv H' y=>?_⟩
  obtain⟨T,k,x,y,rfl,hT,rfl⟩:=y
  have hlen:(F i).length<sizeLine:=Nat.lt_of_le_of_lt (Fl i) (by omega)
  have te':=kW (Pn:=λH'=>au H1 H'/\H' D=some (.lst (F (i+1)))) (σ0:=σ) hD hlen p.1 p.2 (o:=st i (k,x)) λH' s e=>⟨s,by rw[e,Fs i _ y]⟩
  exact hs i (k,x) H T (jr D (λH'=>au H1 H'/\H' D=some (.lst (F (i+1))))) y p.1 hT te'
 .have e:i=kvs.length:=by omega
  subst e
  exact .inl ⟨⟨q,Nat.le_refl _⟩,hd H _ p.1 p.2 rfl⟩
end
end L2
namespace Sw
open PySem PySem.Spec PyProof.Rows L2
theorem Ba{H H':Hp}{d:Addr}{u:HO}{od:Obj}(hd:H d=some u)(s:au (upd H d (.bz od u)) H'):au H (upd H' d u):=λb o e=>by
 by_cases z:b=d
 .subst z
  rw[aN,<-e,hd]
 .rw[aF z]
  exact s b o (by rw[aF z];exact e)
section
variable{P:Program}{w:World}{K:PySem.W.Frag}{mg:Str->Option Value}{base:Heap}{t:Ad}
def LC(t:Ad):Sp:=λvs H Q _=>∃(m:ae)(s:Vbcnab.State)(k:Int)(u:af)(q:Nat)(sd:aA),vs=[.ref m.a,.ref u.a,.int q]/\Own H (m.cells t)/\Rep m s/\lk m.vlans k=some u/\m.sides[q]? =some sd/\∀H',au H H'->Q (.bl (decide ((Vbcnab.securedAt s u.w.id q:Int)<eP sd.s.lock))) H'
theorem yI(T:Txt K mg t):aX P w K mg base aY 1 t.vV t.ud ["switch","vlan","number"] (LC t):=by
 refine T.oj.fn.ok By (λvs H Q E h=>?_) (λcdv A outer s0 H vs Q E hr h=>?_)
 .obtain⟨m,s,k,u,q,sd,rfl,_⟩:=h
  rfl
 .obtain⟨m,s,kk,u,q,sd,rfl,hO,rep,hv,hsd,k⟩:=h
  have hu:=bC hr
  have nd:=By.nd
  have ov:=ae.cA rep.vk hO hv
  have ok:=rep.at hv
  refine⟨_,ai (mz (kG (i:=3) rfl nd rfl rfl (kT rfl rfl rfl (by decide+kernel)) (pd (ak (pv 1) rfl)) (eY (own:=[("row",4)]) (by show d_ ["switch","vlan","number","secure","row"] (aK mK) _ _=true;decide+kernel)) (λ_ _ _ _ _=>cP (i:=4) nd rfl (Or.inl rfl)) (λ_ _ _ _ _=>iI (PW.pt (eR (aU bb (gz K (pv 4) rfl) (aI rfl T.jI) (aQ _)) (eT (aU bb (gz K (pv 4) rfl) (pv 2) (aQ _)))))) (λ_ _ _ _ _=>pv 4))) (ao (aq (fC iB (bW dN rfl T.len PySem.boot_len (aa (pv 3) ah)) (ak (aO bP (ak (pv 0) rfl) (pv 2) (λ_ _=>rfl)) rfl) (aQ _)))),?_⟩
  show aW _ _ _ [some (.ref m.a),some (.ref u.a),some (.int q),none,none] H
  refine⟨u.bO,_,af.cD t ov,trivial,λod=>?_⟩
  have nV:u.a≠u.bO:=fA (af.at t ov) (af.cD t ov) (by intro z;cases z)
  have aV:upd H u.bO (.bz od (.dK (toK bE u.rows))) u.a=some (.ins t.Vlan u.d (bM u)):=by rw[aF nV];exact af.at t ov
  simp only[seval,aV]
  refineλD hD=>FR (λi x=>if(u.rows[i]?.map λp=>decide (p.2.r.kind=.secure)&&decide (oI p.2.r.side=(q:Int)))=some true then some x else none) hD aN (by rw[dj];exact Nat.le_of_lt (ok.cY rep.c5).1) ?_ ?_
  .intro i x H2 R hx hS hR
   rw[jw,List.getElem?_map] at hx
   cases hp:u.rows[i]? with
   |none=>rw[hp] at hx;cases hx
   |some p=>
    rw[hp] at hx
    obtain rfl:bE p.2=x:=Option.some.inj hx
    have hr0:=af.fj t ov (dw ok.rk (List.mem_of_getElem? hp))
    have nr:p.2.a≠u.bO:=fA hr0 (af.cD t ov) (by intro z;cases z)
    have aR:H2 p.2.a=some (.ins t.Row p.2.d (cM p.2)):=hS _ _ (by rw[aF nr];exact hr0)
    have z:=hR H2 (au.refl H2)
    simp only[hp,Option.map_some] at z
    have ks:p.2.r.kind.number=1↔p.2.r.kind=.secure:=by cases p.2.r.kind<;>decide
    simp only[seval,wipe,List.map_cons,List.map_nil,bE,aR]
    refine az (λh0=>?_) (λh0=>?_)
    .refine az (λh1=>?_) (λh1=>?_)
     .rw[if_pos (by rw[decide_eq_true (ks.mp h0),decide_eq_true h1];rfl)] at z;exact z
     .rw[if_neg (by rw[decide_eq_false h1,Bool.and_false];simp)] at z;exact z
    .rw[if_neg (by rw[decide_eq_false (λy=>h0 (ks.mpr y)),Bool.false_and];simp)] at z;exact z
  .intro H' hS hD'
   have e1:bA (λi x=>if(u.rows[i]?.map λp=>decide (p.2.r.kind=.secure)&&decide (oI p.2.r.side=(q:Int)))=some true then some x else none) 0 (u.rows.map λp=>bE p.2)=(u.rows.filter λp=>decide (p.2.r.kind=.secure)&&decide (oI p.2.r.side=(q:Int))).map λp=>bE p.2:=jM _ _ _ _ _ _ λi x hx=>by
    rw[Nat.zero_add,hx]
    simp only[Option.map_some,Option.some.injEq]
   rw[jw,e1] at hD'
   have hf:H' u.bO=some (.bz od (.dK (toK bE u.rows))):=hS _ _ aN
   have sm:au H (upd H' u.bO (.dK (toK bE u.rows))):=Ba (af.cD t ov) hS
   have nD:D≠u.bO:=λz=>by rw[z,aN] at hD;cases hD
   have o1:=hO.same sm
   have hq:q<m.sides.length:=(List.getElem?_eq_some_iff.mp hsd).1
   have hat:bY (m.sides.map λp=>V.ref p.a) (q:Int)=some (V.ref sd.a):=cS (by rw[List.getElem?_map,hsd];rfl)
   refine⟨hf,D,rfl,_,by rw[aF nD];exact hD',?_⟩
   simp only[seval,ae.at t o1,ae.bZ t o1,hat,aA.at t (ae.cx o1 hsd),List.length_map]
   have z:=k _ sm
   rw[rep.securedAt hv] at z
   exact z
structure Keeps(m m':ae):Prop where
 a:m'.a=m.a
 ports:m'.ports=m.ports
 sides:m'.sides=m.sides
 keys:m'.vlans.map (·.1)=m.vlans.map (·.1)
theorem Keeps.refl(m:ae):Keeps m m:=⟨rfl,rfl,rfl,rfl⟩
theorem Keeps.trans{a b c:ae}(h:Keeps a b)(g:Keeps b c):Keeps a c:=⟨g.a.trans h.a,g.ports.trans h.ports,g.sides.trans h.sides,g.keys.trans h.keys⟩
theorem Keeps.set(m:ae)(k:Int)(y:af):Keeps m (m.cb k y):=⟨rfl,rfl,rfl,ot _ _ _⟩
def Kr(t:Ad)(H:Hp)(m:ae)(st:Vbcnab.State)(no:Nat)(Q:VK):Prop:=∀(H':Hp)(m':ae),Step H (m.cells t) H' (m'.cells t)->Keeps m m'->Rep m' st->Q (.int no) H'
def Al(t:Ad):Sp:=λvs H Q _=>∃(m:ae)(s:Vbcnab.State)(k:Int)(u:af)(q:Nat)(sd:aA)(most:Nat)(a_:Bool),vs=[.ref m.a,.ref u.a,.int q]/\Own H (m.cells t)/\Rep m s/\lk m.vlans k=some u/\m.sides[q]? =some sd/\sd.s.lock=some (most,a_)/\Kr t H m (Vbcnab.breach s q u.w.id a_) 13 Q
theorem yH(T:Txt K mg t):aX P w K mg base aY 1 t.vL t.tU ["switch","vlan","number"] (Al t):=by
 refine T.breach.fn.ok Bp (λvs H Q E h=>?_) (λcdv A outer s0 H vs Q E hr h=>?_)
 .obtain⟨m,s,k,u,q,sd,most,a_,rfl,_⟩:=h
  rfl
 .obtain⟨m,s,kk,u,q,sd,most,a_,rfl,hO,rep,hv,hsd,hlk,k⟩:=h
  have nd:=Bp.nd
  have ov:=ae.cA rep.vk hO hv
  have ok:=rep.at hv
  refine⟨_,ai (iH (pv 1) (aj) iu) (ai (aw (aU bb (ak (aO bP (ak (pv 0) rfl) (pv 2) (λ_ _=>rfl)) rfl) (aj) (aQ _)) (ao (pj (aj) (o_ (ak (pv 1) rfl) (pv 2) set_list))) (ay)) (ao (aq (aI rfl T.CO)))),?_⟩
  show aW _ _ _ [some (.ref m.a),some (.ref u.a),some (.int q)] H
  simp only[seval,af.at t ov]
  have ef:bc "breaches" (V.int ((u.w.breaches:Int)+1)) (bM u)=bM {u with w:={u.w with breaches:=u.w.breaches+1} }:=rfl
  rw[ef]
  have st1:=ae.d7 rep.vk hO hv (af.mT (t:=t) ov {u.w with breaches:=u.w.breaches+1})
  have r1:=rep.onVlan hv (f:=λw=>{w with breaches:=w.breaches+1}) rfl ok.age
  generalize hu1:({u with w:={u.w with breaches:=u.w.breaches+1} }:af)=u1 at st1 r1⊢
  have hv1:lk (m.cb kk u1).vlans kk=some u1:=by show lk (bw m.vlans kk u1) kk=_;rw[gx,hv];simp
  have id1:u1.w.id=u.w.id:=by rw[<-hu1]
  have o1:=st1.own
  have hq:q<m.sides.length:=(List.getElem?_eq_some_iff.mp hsd).1
  have hat:bY (m.sides.map λp=>V.ref p.a) (q:Int)=some (V.ref sd.a):=cS (by rw[List.getElem?_map,hsd];rfl)
  have aM:upd H u.a (.ins t.Vlan u.d (bM u1)) m.a=some (.ins t.Switch m.d (cC m)):=ae.at (m:=m.cb kk u1) t o1
  have aS:upd H u.a (.ins t.Vlan u.d (bM u1)) m.fV=some (.lst (m.sides.map λp=>V.ref p.a)):=ae.bZ (m:=m.cb kk u1) t o1
  have aSd:=aA.at t (ae.cx (m:=m.cb kk u1) o1 hsd)
  simp only[seval,aM,aS,hat,aSd]
  have es:gG sd.s.lock=bI a_:=by rw[hlk];cases a_<;>rfl
  rw[es]
  have k:∀(H':Hp)(m':ae),Step H (m.cells t) H' (m'.cells t)->Keeps m m'->Rep m' (if a_=true then Vbcnab.shutNow (Vbcnab.onVlan s u.w.id λw=>{w with breaches:=w.breaches+1}) q u.w.id else Vbcnab.onVlan s u.w.id λw=>{w with breaches:=w.breaches+1})->Q (.int 13) H':=k
  cases a_ with
  |false=>
   show if(0:Int)=1 then _ else _
   rw[if_neg (by decide)]
   exact k _ _ st1 (Keeps.set _ _ _) r1
  |true=>
   show if(1:Int)=1 then _ else _
   rw[if_pos rfl]
   have ov1:=ae.cA r1.vk o1 hv1
   have ok1:=r1.at hv1
   have aV1:=af.at t ov1
   have aSh:=af.jG t ov1
   have ea:u1.a=u.a:=by rw[<-hu1]
   rw[ea] at aV1
   simp only[seval,aV1,aSh,List.length_map]
   refine⟨_,j_ (by rw[ok1.hl];show 0<=(q:Int)/\(q:Int)<((m.sides.length:Nat):Int);omega),?_⟩
   have st2:=ae.d7 r1.vk o1 hv1 (af.Av (t:=t) ov1 (u1.a_.set q 1))
   have em:(u1.a_.map V.int).set ((q:Int)).toNat (V.int 1)=(u1.a_.set q 1).map V.int:=by rw[List.map_set];rfl
   rw[em]
   have r2:=r1.shutNow hv1 q
   rw[id1] at r2
   exact k _ _ (st1.trans st2) ((Keeps.set _ _ _).trans (Keeps.set _ _ _)) r2
end
end Sw
namespace Sw
open PySem PySem.Spec PyProof.Rows L2
theorem FT{s:Vbcnab.State}{q v a:Nat}(h:Vbcnab.rowOf s v a=none):Vbcnab.learn s q v a=match(Vbcnab.sideAt s q).lock with
 |none=>if Vbcnab.used s v<s.cap then .ok {s with rows:=Vbcnab.putRow (Vbcnab.learnedRow s v q a 0) s.rows} else .ok (Vbcnab.onVlan s v λw=>{w with missed:=w.missed+1})
 |some (most,a_)=>if Vbcnab.securedAt s v q<most/\Vbcnab.used s v<s.cap then .ok {s with rows:=Vbcnab.putRow ⟨v,a,.secure,some q,0,0⟩ s.rows} else .error (13,Vbcnab.breach s q v a_):=by
 unfold Vbcnab.learn
 rw[h]
 rfl
theorem yc{s:Vbcnab.State}{q v a:Nat}{r:Vbcnab.Row}(h:Vbcnab.rowOf s v a=some r):Vbcnab.learn s q v a=match r.kind with
 |.fixed=>if r.side=some q then .ok s else .error (10,s)
 |.secure=>if r.side=some q then .ok s else .error (11,s)
 |.learned=>
  if r.side=some q then .ok {s with rows:=Vbcnab.putRow (Vbcnab.learnedRow s v q a r.rest) s.rows}
  else if s.now<r.rest then .error (12,s)
  else match(Vbcnab.sideAt s q).lock with
   |none=>.ok (Vbcnab.onVlan {s with rows:=Vbcnab.putRow (Vbcnab.learnedRow s v q a (s.now+s.hold)) s.rows} v λw=>{w with moves:=w.moves+1})
   |some (most,a_)=>
    if Vbcnab.securedAt s v q<most then .ok (Vbcnab.onVlan {s with rows:=Vbcnab.putRow ⟨v,a,.secure,some q,0,0⟩ s.rows} v λw=>{w with moves:=w.moves+1})
    else .error (13,Vbcnab.breach s q v a_):=by
 unfold Vbcnab.learn
 rw[h]
 rfl
theorem lY{sd:aA}(ok:cI sd):eP sd.s.lock=0↔sd.s.lock=none:=by
 cases hk:sd.s.lock with
 |none=>exact⟨λ_=>rfl,λ_=>rfl⟩
 |some y=>
  have z:=ok.gu y hk
  exact⟨λh=>by have h:(y.1:Int)=0:=h;omega,λh=>by cases h⟩
theorem Rep.ageOf{m:ae}{s:Vbcnab.State}(r:Rep m s){k:Int}{u:af}(hv:lk m.vlans k=some u):Vbcnab.ageOf s u.w.id=u.w.age:=by
 unfold Vbcnab.ageOf
 rw[r.vlanOf,r.key hv,hv];rfl
theorem de.learned{now n v a age q:Nat}(hq:q<n)(ha:1<=age)(ng:Vbcnab.isGroup a=false)(x d:Addr){mv:Int}{rest:Nat}(h:mv=rest\/(mv<=now/\rest<=now)):de now n v (a:Int) ⟨x,d,⟨v,a,.learned,some q,now+age,rest⟩,((now+age:Nat):Int),mv⟩:=
 ⟨rfl,rfl,ng,(λ_ z=>by cases z),λy hy=>by
   have e:q=y:=Option.some.inj hy
   rw[<-e];exact hq,λ_=>rfl,λz=>absurd rfl z,λ_=>by show now<now+age;omega,λ_=>h⟩
theorem de.secure{now n v a q:Nat}(hq:q<n)(ng:Vbcnab.isGroup a=false)(x d:Addr):de now n v (a:Int) ⟨x,d,⟨v,a,.secure,some q,0,0⟩,0,0⟩:=
 ⟨rfl,rfl,ng,(λ_ z=>by cases z),λy hy=>by
   have e:q=y:=Option.some.inj hy
   rw[<-e];exact hq,(λz=>by cases z),λ_=>rfl,(λz=>by cases z),(λz=>by cases z)⟩
section
variable{P:Program}{w:World}{K:PySem.W.Frag}{mg:Str->Option Value}{base:Heap}{t:Ad}
def nc(t:Ad)(H:Hp)(m:ae)(s:Vbcnab.State)(k:Int)(u:af)(q:Nat)(sd:aA)(f:cQ)(a:Nat):Prop:=
 Own H (m.cells t)/\Rep m s/\lk m.vlans k=some u/\m.sides[q]? =some sd/\H f.a=some (.ins t.Frame f.d (cV f))/\f.side=(q:Int)/\f.src=(a:Int)/\Vbcnab.isGroup a=false
def c4(t:Ad)(H:Hp)(m:ae)(r:Res)(Q:VK):Prop:=Kr t H m (Res.st r) (Res.no r) Q
def LK(t:Ad):Sp:=λvs H Q _=>∃(m:ae)(s:Vbcnab.State)(k:Int)(u:af)(q:Nat)(sd:aA)(f:cQ)(a:Nat),vs=[.ref m.a,.ref u.a,.ref f.a]/\nc t H m s k u q sd f a/\lk u.rows (a:Int)=none/\c4 t H m (Vbcnab.learn s q u.w.id a) Q
theorem HD(T:Txt K mg t):aX P w K mg base aY 3 t.wb t.uu ["switch","vlan","frame"] (LK t):=by
 refine T.x_.fn.ok BC (λvs H Q E h=>?_) (λcdv A outer s0 H vs Q E hr h=>?_)
 .obtain⟨m,s,k,u,q,sd,f,a,rfl,_⟩:=h
  rfl
 .obtain⟨m,s,kk,u,q,sd,f,a,rfl,⟨hO,rep,hv,hsd,hf,efs,efa,ng⟩,hno,k⟩:=h
  have hu:=bC hr
  have nd:=BC.nd
  have ov:=ae.cA rep.vk hO hv
  have ok:=rep.at hv
  have hid:=rep.key hv
  have hq:q<m.sides.length:=(List.getElem?_eq_some_iff.mp hsd).1
  have hat:bY (m.sides.map λp=>V.ref p.a) (q:Int)=some (V.ref sd.a):=cS (by rw[List.getElem?_map,hsd];rfl)
  have ro:=rep.rowOf hv a
  rw[hno] at ro
  rw[FT ro,d4 rep hsd,rep.used hv] at k
  have osd:=ae.cx hO hsd
  have bL:=rep.d6 hsd
  refine⟨_,ai (bg (i:=3) nd rfl (Or.inl rfl) (aD T.lQ (oS T) (hr.mono (by decide)) rfl (aa (pv 0) (aa (pv 1) ah)))) (ai (aw (bD (aD T.lS (oU T) (hr.mono (by decide)) rfl (aa (aO bP (ak (pv 0) rfl) (ak (pv 2) rfl) (λ_ _=>rfl)) ah))) (ai (aw (PW.pt (gC (bD (pv 3)) (gD (bF (bD (aD T.oj (yI T) (hr.mono (by decide)) rfl (aa (pv 0) (aa (pv 1) (aa (ak (pv 2) rfl) ah))))))))) (ao (aq (aD T.breach (yH T) (hr.mono (by decide)) rfl (aa (pv 0) (aa (pv 1) (aa (ak (pv 2) rfl) ah)))))) (ay)) (ao (fF hu (ak (pv 1) rfl) (ak (pv 2) rfl) (fD T.e8 (jd T) (hr.mono (by decide)) rfl T.jb T.iY .nil eA (aa (aI rfl T.jI) (aa (ak (pv 2) rfl) (aa (aj) (aa (aj) ah))))) rfl))) (ao (aw (bD (pv 3)) (ao (iH (pv 1) (aj) iu)) (ao (fF hu (ak (pv 1) rfl) (ak (pv 2) rfl) (fD T.e8 (jd T) (hr.mono (by decide)) rfl T.jb T.iY .nil eA (aa (aI rfl T.iZ) (aa (ak (pv 2) rfl) (aa (cG ez (ak (pv 0) rfl) (ak (pv 1) rfl)) (aa (ak (pv 0) rfl) ah))))) rfl))))) (ao (aq (aI rfl T.fk)))),?_⟩
  show aW _ _ _ [some (.ref m.a),some (.ref u.a),some (.ref f.a),none] H
  simp only[seval,aE]
  refine⟨m,u,rfl,hO,ov,?_⟩
  simp only[seval,ae.at t hO,ae.bZ t hO,hf,efs,hat]
  refine⟨sd,rfl,aA.at t osd,?_⟩
  simp only[seval,hf,efs]
  refine az (λh0=>?_) (λh0=>?_)
  ·
   have h0:sd.s.lock≠none:=λz=>h0 ((lY bL).mpr z)
   obtain⟨⟨most,a_⟩,hlk⟩:=Option.ne_none_iff_exists'.mp h0
   have k:c4 t H m (if Vbcnab.securedAt s u.w.id q<most/\u.rows.length+u.groups.length<s.cap then .ok {s with rows:=Vbcnab.putRow ⟨u.w.id,a,.secure,some q,0,0⟩ s.rows} else .error (13,Vbcnab.breach s q u.w.id a_)) Q:=by rw[hlk] at k;exact k
   have br:¬(Vbcnab.securedAt s u.w.id q<most/\u.rows.length+u.groups.length<s.cap)->∀H1,au H H1->Al t [.ref m.a,.ref u.a,.int (q:Int)] H1 Q E0:=λhn H1 sm=>by
    rw[if_neg hn] at k
    exact⟨m,s,kk,u,q,sd,most,a_,rfl,hO.same sm,rep,hv,hsd,hlk,λH' m' st ha hr=>k H' m' ((Step.same hO sm).trans st) ha hr⟩
   refine az (λh1=>br (λz=>by rw[rep.cap] at z;omega) H (au.refl H)) (λh1=>?_)
   refine⟨m,s,kk,u,q,sd,rfl,hO,rep,hv,hsd,λH1 sm=>?_⟩
   rw[hlk]
   have em:eP (some (most,a_))=(most:Int):=rfl
   rw[em]
   simp only[seval,sm _ _ hf,efs]
   refine az (λh2=>br (λz=>h2 (by omega)) H1 sm) (λh2=>?_)
   have h2:=Decidable.not_not.mp h2
   rw[if_pos ⟨by omega,by rw[rep.cap];omega⟩] at k
   intro x dx hx hdx hne
   have o1:=hO.same sm
   have ov1:=ov.same sm
   have hxH:=cT sm hx
   refine e8 hx hdx ⟨x,dx,⟨u.w.id,a,.secure,some q,0,0⟩,0,0⟩ rfl rfl rfl rfl rfl rfl λH2 s2 hH2=>?_
   simp only[seval,s2 _ _ (af.at t ov1),(sm.trans s2) _ _ hf,efa]
   obtain⟨H3,hput,st⟩:=af.put (t:=t) (z:=⟨x,dx,⟨u.w.id,a,.secure,some q,0,0⟩,0,0⟩) ok.rk (ok.cY rep.c5).1 ov1 s2 hx hH2 a
   refine⟨H3,hput,?_⟩
   have rp:=rep.put hv (x:=⟨x,dx,⟨u.w.id,a,.secure,some q,0,0⟩,0,0⟩) (de.secure hq ng x dx) (.inr (by omega))
   exact k _ _ ((Step.same hO sm).trans (ae.d7 rep.vk o1 hv st)) (Keeps.set _ _ _) rp
  .have h0:sd.s.lock=none:=(lY bL).mp (Decidable.not_not.mp h0)
   have k:c4 t H m (if u.rows.length+u.groups.length<s.cap then .ok {s with rows:=Vbcnab.putRow (Vbcnab.learnedRow s u.w.id q a 0) s.rows} else .ok (Vbcnab.onVlan s u.w.id λw=>{w with missed:=w.missed+1})) Q:=by rw[h0] at k;exact k
   refine az (λh1=>?_) (λh1=>?_)
   .rw[if_neg (by rw[rep.cap];omega)] at k
    simp only[seval,af.at t ov]
    have ef:bc "missed" (V.int ((u.w.missed:Int)+1)) (bM u)=bM {u with w:={u.w with missed:=u.w.missed+1} }:=rfl
    rw[ef]
    exact k _ _ (ae.d7 rep.vk hO hv (af.mT (t:=t) ov {u.w with missed:=u.w.missed+1})) (Keeps.set _ _ _) (rep.onVlan hv (f:=λw=>{w with missed:=w.missed+1}) rfl ok.age)
   .rw[if_pos (by rw[rep.cap];omega)] at k
    have el:Vbcnab.learnedRow s u.w.id q a 0=⟨u.w.id,a,.learned,some q,m.now+u.w.age,0⟩:=by
     unfold Vbcnab.learnedRow;rw[rep.ageOf hv,rep.now]
    rw[el] at k
    simp only[seval,ae.at t hO,af.at t ov,hf,efs]
    intro x dx hx hdx hne
    refine e8 hx hdx ⟨x,dx,⟨u.w.id,a,.learned,some q,m.now+u.w.age,0⟩,((m.now+u.w.age:Nat):Int),(m.now:Int)⟩ rfl rfl rfl rfl rfl rfl λH2 s2 hH2=>?_
    simp only[seval,s2 _ _ (af.at t ov),s2 _ _ hf,efa]
    obtain⟨H3,hput,st⟩:=af.put (t:=t) (z:=⟨x,dx,⟨u.w.id,a,.learned,some q,m.now+u.w.age,0⟩,((m.now+u.w.age:Nat):Int),(m.now:Int)⟩) ok.rk (ok.cY rep.c5).1 ov s2 hx hH2 a
    refine⟨H3,hput,?_⟩
    have rp:=rep.put hv (x:=⟨x,dx,⟨u.w.id,a,.learned,some q,m.now+u.w.age,0⟩,((m.now+u.w.age:Nat):Int),(m.now:Int)⟩) (de.learned hq ok.age ng x dx (.inr ⟨Int.le_refl _,Nat.zero_le _⟩)) (.inr (by omega))
    exact k _ _ (ae.d7 rep.vk hO hv st) (Keeps.set _ _ _) rp
def LN(t:Ad):Sp:=λvs H Q _=>∃(m:ae)(s:Vbcnab.State)(k:Int)(u:af)(q:Nat)(sd:aA)(f:cQ)(a:Nat)(r:bo),vs=[.ref m.a,.ref u.a,.ref f.a]/\nc t H m s k u q sd f a/\lk u.rows (a:Int)=some r/\r.r.kind=.learned/\r.r.side≠some q/\¬s.now<r.r.rest/\c4 t H m (Vbcnab.learn s q u.w.id a) Q
theorem zH{H H1 H2:Hp}{m:ae}{s:Vbcnab.State}{kk:Int}{u:af}{z:bo}{Q:VK}(hO:Own H (m.cells t))(rep:Rep m s)(hv:lk m.vlans kk=some u)(sm:au H H1)(s2:au H1 H2)(hx:H1 z.a=none)(hH2:H2 z.a=some (.ins t.Row z.d (cM z))){a:Nat}(ha:z.r.hw=a)(hz:de m.now m.sides.length u.w.id (z.r.hw:Int) z)(hin:(lk u.rows (a:Int)).isSome=true)(k:c4 t H m (.ok (Vbcnab.onVlan {s with rows:=Vbcnab.putRow z.r s.rows} u.w.id λw=>{w with moves:=w.moves+1})) Q){C:Hp->Prop}(hC:∀H3:Hp,H3 u.a=some (.ins t.Vlan u.d (bM u))->Q (.int 0) (upd H3 u.a (.ins t.Vlan u.d (bM {u with w:={u.w with moves:=u.w.moves+1} })))->C H3):∃H3,dQ H2 u.bO (.int (a:Int)) (V.ref z.a) H3/\C H3:=by
 have o1:=hO.same sm
 have ov1:=(ae.cA rep.vk hO hv).same sm
 have ok:=rep.at hv
 obtain⟨H3,hput,st⟩:=af.put (t:=t) (z:=z) ok.rk (ok.cY rep.c5).1 ov1 s2 hx hH2 (a:Int)
 have rp:=rep.put hv hz (.inl (by rw[ha];exact hin))
 rw[ha] at rp
 have stm:=ae.d7 rep.vk o1 hv st
 have hv1:lk (m.cb kk (u.wr (putL u.rows (a:Int) z))).vlans kk=some (u.wr (putL u.rows (a:Int) z)):=by show lk (bw m.vlans kk _) kk=_;rw[gx,hv];simp
 have ov2:=ae.cA rp.vk stm.own hv1
 have st2:=ae.d7 rp.vk stm.own hv1 (af.mT (t:=t) ov2 {u.w with moves:=u.w.moves+1})
 have r2:=rp.onVlan hv1 (f:=λw=>{w with moves:=w.moves+1}) rfl ok.age
 refine⟨H3,hput,hC H3 (af.at (m:=u.wr (putL u.rows (a:Int) z)) t ov2) ?_⟩
 exact k _ _ (((Step.same hO sm).trans stm).trans st2) ((Keeps.set _ _ _).trans (Keeps.set _ _ _)) r2
theorem HK(T:Txt K mg t):aX P w K mg base aY 3 t.wt t.uC ["switch","vlan","frame"] (LN t):=by
 refine T.yC.fn.ok BI (λvs H Q E h=>?_) (λcdv A outer s0 H vs Q E hr h=>?_)
 .obtain⟨m,s,k,u,q,sd,f,a,r,rfl,_⟩:=h
  rfl
 .obtain⟨m,s,kk,u,q,sd,f,a,r,rfl,⟨hO,rep,hv,hsd,hf,efs,efa,ng⟩,hro,hkd,hsd2,hnow,k⟩:=h
  have hu:=bC hr
  have nd:=BI.nd
  have ov:=ae.cA rep.vk hO hv
  have ok:=rep.at hv
  have hq:q<m.sides.length:=(List.getElem?_eq_some_iff.mp hsd).1
  have hat:bY (m.sides.map λp=>V.ref p.a) (q:Int)=some (V.ref sd.a):=cS (by rw[List.getElem?_map,hsd];rfl)
  have ro:=rep.rowOf hv a
  rw[hro] at ro
  rw[yc ro,hkd] at k
  have osd:=ae.cx hO hsd
  have bL:=rep.d6 hsd
  have k:c4 t H m (if r.r.side=some q then .ok {s with rows:=Vbcnab.putRow (Vbcnab.learnedRow s u.w.id q a r.r.rest) s.rows} else if s.now<r.r.rest then .error (12,s) else match(Vbcnab.sideAt s q).lock with
   |none=>.ok (Vbcnab.onVlan {s with rows:=Vbcnab.putRow (Vbcnab.learnedRow s u.w.id q a (s.now+s.hold)) s.rows} u.w.id λw=>{w with moves:=w.moves+1})
   |some (most,a_)=>
    if Vbcnab.securedAt s u.w.id q<most then .ok (Vbcnab.onVlan {s with rows:=Vbcnab.putRow ⟨u.w.id,a,.secure,some q,0,0⟩ s.rows} u.w.id λw=>{w with moves:=w.moves+1})
    else .error (13,Vbcnab.breach s q u.w.id a_)) Q:=k
  rw[if_neg hsd2,if_neg hnow,d4 rep hsd] at k
  refine⟨_,ai (aw (bD (aD T.lS (oU T) (hr.mono (by decide)) rfl (aa (aO bP (ak (pv 0) rfl) (ak (pv 2) rfl) (λ_ _=>rfl)) ah))) (ai (aw (bF (bD (aD T.oj (yI T) (hr.mono (by decide)) rfl (aa (pv 0) (aa (pv 1) (aa (ak (pv 2) rfl) ah)))))) (ao (aq (aD T.breach (yH T) (hr.mono (by decide)) rfl (aa (pv 0) (aa (pv 1) (aa (ak (pv 2) rfl) ah)))))) (ay)) (ao (bg (i:=3) nd rfl (Or.inl rfl) (fD T.e8 (jd T) (hr.mono (by decide)) rfl T.jb T.iY .nil eA (aa (aI rfl T.jI) (aa (ak (pv 2) rfl) (aa (aj) (aa (aj) ah)))))))) (ao (bg (i:=3) nd rfl (Or.inl rfl) (fD T.e8 (jd T) (hr.mono (by decide)) rfl T.jb T.iY .nil eA (aa (aI rfl T.iZ) (aa (ak (pv 2) rfl) (aa (cG ez (ak (pv 0) rfl) (ak (pv 1) rfl)) (aa (cG ez (ak (pv 0) rfl) (ak (pv 0) rfl)) ah)))))))) (ai (fF hu (ak (pv 1) rfl) (ak (pv 2) rfl) (pv 3) rfl) (ai (iH (pv 1) (aj) iu) (ao (aq (aI rfl T.fk))))),?_⟩
  show aW _ _ _ [some (.ref m.a),some (.ref u.a),some (.ref f.a),none] H
  simp only[seval,ae.at t hO,ae.bZ t hO,hf,efs,hat]
  refine⟨sd,rfl,aA.at t osd,?_⟩
  simp only[seval,hf,efs]
  refine az (λh0=>?_) (λh0=>?_)
  .have h0:sd.s.lock≠none:=λz=>h0 ((lY bL).mpr z)
   obtain⟨⟨most,a_⟩,hlk⟩:=Option.ne_none_iff_exists'.mp h0
   have k:c4 t H m (if Vbcnab.securedAt s u.w.id q<most then .ok (Vbcnab.onVlan {s with rows:=Vbcnab.putRow ⟨u.w.id,a,.secure,some q,0,0⟩ s.rows} u.w.id λw=>{w with moves:=w.moves+1}) else .error (13,Vbcnab.breach s q u.w.id a_)) Q:=by rw[hlk] at k;exact k
   refine⟨m,s,kk,u,q,sd,rfl,hO,rep,hv,hsd,λH1 sm=>?_⟩
   rw[hlk]
   have em:eP (some (most,a_))=(most:Int):=rfl
   rw[em]
   simp only[seval,sm _ _ hf,efs]
   refine az (λh2=>?_) (λh2=>?_)
   .rw[if_neg (by omega)] at k
    exact⟨m,s,kk,u,q,sd,most,a_,rfl,hO.same sm,rep,hv,hsd,hlk,λH' m' st ha hr=>k H' m' ((Step.same hO sm).trans st) ha hr⟩
   have h2:=Decidable.not_not.mp h2
   rw[if_pos (by omega)] at k
   intro x dx hx hdx hne
   have ov1:=ov.same sm
   refine e8 hx hdx ⟨x,dx,⟨u.w.id,a,.secure,some q,0,0⟩,0,0⟩ rfl rfl rfl rfl rfl rfl λH2 s2 hH2=>?_
   simp only[seval,s2 _ _ (af.at t ov1),(sm.trans s2) _ _ hf,efa]
   refine zH (z:=⟨x,dx,⟨u.w.id,a,.secure,some q,0,0⟩,0,0⟩) hO rep hv sm s2 hx hH2 rfl (de.secure hq ng x dx) (by rw[hro];rfl) k λH3 aV hQ=>?_
   simp only[seval,aV]
   exact hQ
  .have h0:sd.s.lock=none:=(lY bL).mp (Decidable.not_not.mp h0)
   have el:Vbcnab.learnedRow s u.w.id q a (s.now+s.hold)=⟨u.w.id,a,.learned,some q,m.now+u.w.age,m.now+m.hold⟩:=by
    unfold Vbcnab.learnedRow;rw[rep.ageOf hv,rep.now,rep.hold]
   have k:c4 t H m (.ok (Vbcnab.onVlan {s with rows:=Vbcnab.putRow ⟨u.w.id,a,.learned,some q,m.now+u.w.age,m.now+m.hold⟩ s.rows} u.w.id λw=>{w with moves:=w.moves+1})) Q:=by rw[h0] at k;rw[<-el];exact k
   simp only[seval,ae.at t hO,af.at t ov,hf,efs]
   intro x dx hx hdx hne
   refine e8 hx hdx ⟨x,dx,⟨u.w.id,a,.learned,some q,m.now+u.w.age,m.now+m.hold⟩,((m.now+u.w.age:Nat):Int),((m.now+m.hold:Nat):Int)⟩ rfl rfl rfl rfl rfl rfl λH2 s2 hH2=>?_
   simp only[seval,s2 _ _ (af.at t ov),s2 _ _ hf,efa]
   refine zH (z:=⟨x,dx,⟨u.w.id,a,.learned,some q,m.now+u.w.age,m.now+m.hold⟩,((m.now+u.w.age:Nat):Int),((m.now+m.hold:Nat):Int)⟩) hO rep hv (au.refl H) s2 hx hH2 rfl (de.learned hq ok.age ng x dx (.inl rfl)) (by rw[hro];rfl) k λH3 aV hQ=>?_
   simp only[seval,aV]
   exact hQ
def LJ(t:Ad):Sp:=λvs H Q _=>∃(m:ae)(s:Vbcnab.State)(u:af)(q:Nat)(sd:aA)(f:cQ)(a:Nat),vs=[.ref m.a,.ref f.a]/\nc t H m s f.v u q sd f a/\c4 t H m (Vbcnab.learn s q u.w.id a) Q
theorem HC(T:Txt K mg t):aX P w K mg base aY 4 t.wa t.ur ["switch","frame"] (LJ t):=by
 refine T.learn.fn.ok BB (λvs H Q E h=>?_) (λcdv A outer s0 H vs Q E hr h=>?_)
 .obtain⟨m,s,u,q,sd,f,a,rfl,_⟩:=h
  rfl
 .obtain⟨m,s,u,q,sd,f,a,rfl,LA,k⟩:=h
  obtain⟨hO,rep,hv,hsd,hf,efs,efa,ng⟩:=id LA
  have hu:=bC hr
  have nd:=BB.nd
  have ov:=ae.cA rep.vk hO hv
  have ok:=rep.at hv
  have hq:q<m.sides.length:=(List.getElem?_eq_some_iff.mp hsd).1
  refine⟨_,ai (bg (i:=2) nd rfl (Or.inl rfl) (bT hu (ak (pv 0) rfl) (ak (pv 1) rfl) (λ_ _=>rfl))) (ai (aw (cj (cF hu (ak (pv 1) rfl) (ak (pv 2) rfl))) (ao (aq (aD T.x_ (HD T) (hr.mono (by decide)) rfl (aa (pv 0) (aa (pv 2) (aa (pv 1) ah)))))) (ay)) (ai (bg (i:=3) nd rfl (Or.inl rfl) (bT hu (ak (pv 2) rfl) (ak (pv 1) rfl) (λ_ _=>rfl))) (ai (bg (i:=4) nd rfl (Or.inl rfl) (fC bb (ak (pv 3) rfl) (ak (pv 1) rfl) (aQ _))) (ai (aw (aU bb (ak (pv 3) rfl) (aI rfl T.k_) (aQ _)) (ao (aq (iE (bD (pv 4)) (aI rfl T.fk) (aI rfl T.CU)))) (ay)) (ai (aw (aU bb (ak (pv 3) rfl) (aI rfl T.jI) (aQ _)) (ao (aq (iE (bD (pv 4)) (aI rfl T.fk) (aI rfl T.Di)))) (ay)) (ai (aw (bD (pv 4)) (ai (bx (pv 3) (cG ez (ak (pv 0) rfl) (ak (pv 2) rfl)) rfl) (ao (aq (aI rfl T.fk)))) (ay)) (ai (aw (aU iB (ak (pv 0) rfl) (ak (pv 3) rfl) (aQ _)) (ao (aq (aI rfl T.Dc))) (ay)) (ao (aq (aD T.yC (HK T) (hr.mono (by decide)) rfl (aa (pv 0) (aa (pv 2) (aa (pv 1) ah))))))))))))),?_⟩
  show aW _ _ _ [some (.ref m.a),some (.ref f.a),none,none,none] H
  simp only[seval,ae.at t hO,hf]
  refine⟨_,by have z:=bu (ae.bJ t hO) f.v;rw[hv] at z;exact z,?_⟩
  simp only[seval,af.at t ov,hf]
  refine⟨_,bu (af.cD t ov) f.src,?_⟩
  rw[Option.isSome_map,efa]
  cases hro:lk u.rows (a:Int) with
  |none=>
   simp only[seval,Option.isSome_none]
   exact⟨m,s,f.v,u,q,sd,f,a,rfl,LA,hro,k⟩
  |some r=>
   simp only[seval,Option.isSome_some]
   refine⟨_,by have z:=bu (af.cD t ov) (a:Int);rw[hro] at z;exact z,?_⟩
   have aR:=af.fj t ov hro
   have b_:=ok.b_ _ (b0 hro)
   have ro:=rep.rowOf hv a
   rw[hro] at ro
   have k0:=k
   rw[yc ro] at k
   simp only[seval,aR,hf,efs]
   have home:oI r.r.side=(q:Int)↔r.r.side=some q:=by
    cases r.r.side with
    |none=>constructor<;>intro z<;>simp[oI] at z
    |some y=>constructor<;>intro z<;>simp[oI] at z⊢<;>omega
   cases hk:r.r.kind with
   |fixed=>
    rw[hk] at k
    have k:c4 t H m (if r.r.side=some q then .ok s else .error (10,s)) Q:=k
    show if(2:Int)=2 then _ else _
    rw[if_pos rfl]
    refine az (λh1=>?_) (λh1=>?_)
    .rw[if_pos (home.mp h1)] at k;exact k H m (Step.refl hO) (Keeps.refl m) rep
    .rw[if_neg (λz=>h1 (home.mpr z))] at k;exact k H m (Step.refl hO) (Keeps.refl m) rep
   |secure=>
    rw[hk] at k
    have k:c4 t H m (if r.r.side=some q then .ok s else .error (11,s)) Q:=k
    show if(1:Int)=2 then _ else _
    rw[if_neg (by decide)]
    show if(1:Int)=1 then _ else _
    rw[if_pos rfl]
    refine az (λh1=>?_) (λh1=>?_)
    .rw[if_pos (home.mp h1)] at k;exact k H m (Step.refl hO) (Keeps.refl m) rep
    .rw[if_neg (λz=>h1 (home.mpr z))] at k;exact k H m (Step.refl hO) (Keeps.refl m) rep
   |learned=>
    show if(0:Int)=2 then _ else _
    rw[if_neg (by decide)]
    show if(0:Int)=1 then _ else _
    rw[if_neg (by decide)]
    have k:c4 t H m (if r.r.side=some q then .ok {s with rows:=Vbcnab.putRow (Vbcnab.learnedRow s u.w.id q a r.r.rest) s.rows} else if s.now<r.r.rest then .error (12,s) else match(Vbcnab.sideAt s q).lock with
     |none=>.ok (Vbcnab.onVlan {s with rows:=Vbcnab.putRow (Vbcnab.learnedRow s u.w.id q a (s.now+s.hold)) s.rows} u.w.id λw=>{w with moves:=w.moves+1})
     |some (most,a_)=>
      if Vbcnab.securedAt s u.w.id q<most then .ok (Vbcnab.onVlan {s with rows:=Vbcnab.putRow ⟨u.w.id,a,.secure,some q,0,0⟩ s.rows} u.w.id λw=>{w with moves:=w.moves+1})
      else .error (13,Vbcnab.breach s q u.w.id a_)) Q:=by rw[hk] at k;exact k
    have rmv:r.mv=r.r.rest\/(r.mv<=(m.now:Int)/\r.r.rest<=m.now):=b_.mv hk
    refine az (λh1=>?_) (λh1=>?_)
    .rw[if_pos (home.mp h1)] at k
     have el:Vbcnab.learnedRow s u.w.id q a r.r.rest=⟨u.w.id,a,.learned,some q,m.now+u.w.age,r.r.rest⟩:=by
      unfold Vbcnab.learnedRow;rw[rep.ageOf hv,rep.now]
     rw[el] at k
     simp only[seval,ae.at t hO,af.at t ov,aR]
     have st:=af.Au (t:=t) (r1:=⟨r.a,r.d,⟨u.w.id,a,.learned,some q,m.now+u.w.age,r.r.rest⟩,((m.now+u.w.age:Nat):Int),r.mv⟩) ok.rk ov hro rfl rfl
     have rp:=rep.put hv (x:=⟨r.a,r.d,⟨u.w.id,a,.learned,some q,m.now+u.w.age,r.r.rest⟩,((m.now+u.w.age:Nat):Int),r.mv⟩) (de.learned hq ok.age ng r.a r.d rmv) (.inl (by show(lk u.rows (a:Int)).isSome=true;rw[hro];rfl))
     have ep:putL u.rows (a:Int) (⟨r.a,r.d,⟨u.w.id,a,.learned,some q,m.now+u.w.age,r.r.rest⟩,((m.now+u.w.age:Nat):Int),r.mv⟩:bo)=bw u.rows (a:Int) ⟨r.a,r.d,⟨u.w.id,a,.learned,some q,m.now+u.w.age,r.r.rest⟩,((m.now+u.w.age:Nat):Int),r.mv⟩:=gY hro _
     have rp:Rep (m.cb f.v (u.wr (putL u.rows (a:Int) ⟨r.a,r.d,⟨u.w.id,a,.learned,some q,m.now+u.w.age,r.r.rest⟩,((m.now+u.w.age:Nat):Int),r.mv⟩))) _:=rp
     rw[ep] at rp
     have ef:bc "until" (V.int ((m.now:Int)+(u.w.age:Int))) (cM r)=cM ⟨r.a,r.d,⟨u.w.id,a,.learned,some q,m.now+u.w.age,r.r.rest⟩,((m.now+u.w.age:Nat):Int),r.mv⟩:=by
      unfold cM
      rw[hk,home.mp h1];rfl
     rw[ef]
     exact k _ _ (ae.d7 rep.vk hO hv st) (Keeps.set _ _ _) rp
    .rw[if_neg (λz=>h1 (home.mpr z))] at k
     simp only[seval,ae.at t hO,aR]
     refine az (λh2=>?_) (λh2=>?_)
     .rw[if_pos (by rw[rep.now];omega)] at k
      exact k H m (Step.refl hO) (Keeps.refl m) rep
     .exact⟨m,s,f.v,u,q,sd,f,a,r,rfl,LA,hro,hk,λz=>h1 (home.mpr z),by rw[rep.now];omega,k0⟩
end
end Sw
namespace Sw
open PySem PySem.Spec PyProof.Rows L2
section
variable{P:Program}{w:World}{K:PySem.W.Frag}{mg:Str->Option Value}{base:Heap}{t:Ad}
def LI(t:Ad):Sp:=λvs H Q _=>∃(v:af)(a:Int),vs=[.ref v.a,.int a]/\Own H (v.cells t)/\Q (.bl ((lk v.groups a).isNone&&(lk v.rows a).isNone)) H
theorem HA(T:Txt K mg t):aX P w K mg base aY 1 t.v9 t.uo ["vlan","to"] (LI t):=by
 refine T.xT.fn.ok Oh (λvs H Q E h=>?_) (λcdv A outer s0 H vs Q E hr h=>?_)
 .obtain⟨m,n,rfl,_⟩:=h
  rfl
 .obtain⟨v,a,rfl,ov,k⟩:=h
  have hu:=bC hr
  refine⟨_,ao (aq (iC (yZ (cF hu (pv 1) (ak (pv 0) rfl))) (kD (yZ (cF hu (pv 1) (ak (pv 0) rfl)))))),?_⟩
  show dB _ _ [some (.ref v.a),some (.int a)] H
  simp only[seval,af.at t ov]
  refine⟨_,bu (af.dC t ov) a,?_⟩
  rw[Option.isSome_map]
  cases e:lk v.groups a with
  |some y=>rw[e] at k;exact k
  |none=>
   rw[e] at k
   refine⟨_,bu (af.cD t ov) a,?_⟩
   rw[Option.isSome_map]
   have ee:(!(lk v.rows a).isSome)=(Option.isNone (none:Option bQ)&&(lk v.rows a).isNone):=by cases lk v.rows a<;>rfl
   rw[ee];exact k
def LU(t:Ad):Sp:=λvs H Q _=>∃(m:ae)(s:Vbcnab.State)(k:Int)(u:af)(a:Int),vs=[.ref m.a,.ref u.a,.int a]/\Own H (m.cells t)/\Rep m s/\lk m.vlans k=some u/\∀(H':Hp)(p:Addr),au H H'->H' p=some (.lst ((m.c3 u a).map λ(q:Nat)=>V.int q))->Q (.ref p) H'
theorem yM(T:Txt K mg t):aX P w K mg base aY 1 t.wR t.uW ["switch","vlan","to"] (LU t):=by
 refine T.rD.fn.ok B2 (λvs H Q E h=>?_) (λcdv A outer s0 H vs Q E hr h=>?_)
 .obtain⟨m,s,k,u,a,rfl,_⟩:=h
  rfl
 .obtain⟨m,s,kk,u,a,rfl,hO,rep,hv,k⟩:=h
  have hu:=bC hr
  have nd:=B2.nd
  have ov:=ae.cA rep.vk hO hv
  have ok:=rep.at hv
  refine⟨_,ai (aw (cj (jh hu (pv 2) (ak (pv 1) rfl))) (ao (aq (bW (jO rfl) rfl T.sorted boot_sorted (aa (bT hu (ak (pv 1) rfl) (pv 2) (λ_ _=>rfl)) ah)))) (ay)) (ai (aw (cj (cF hu (pv 2) (ak (pv 1) rfl))) (ao (aq (y_ rfl T.list rfl T.range (aa (bW dN rfl T.len PySem.boot_len (aa (ak (pv 0) rfl) ah)) ah)))) (ay)) (ai (bg (i:=3) nd rfl (Or.inl rfl) (ak (bT hu (ak (pv 1) rfl) (pv 2) (λ_ _=>rfl)) rfl)) (ao (aq (iE (aU bb (pv 3) (aI rfl T.fN) (aQ _)) (aB (ah)) (aB (aa (pv 3) ah))))))),?_⟩
  show aW _ _ _ [some (.ref m.a),some (.ref u.a),some (.int a),none] H
  simp only[seval,af.at t ov]
  refine⟨_,bu (af.dC t ov) a,?_⟩
  rw[Option.isSome_map]
  cases e:lk u.groups a with
  |some y=>
   have bG:cq m.sides.length u.w.id a y:=ok.bG _ (b0 e)
   have es:m.c3 u a=y.g.sides:=by unfold ae.c3;rw[e]
   rw[es] at k
   simp only[seval,Option.isSome_some]
   refine⟨_,by have z:=bu (af.dC t ov) a;rw[e] at z;exact z,?_⟩
   refine⟨_,_,y.ks.map (·.1),rfl,.inl (af.ic t ov e),by rw[gJ,List.map_map];rfl,λns' l pm bH hl0=>?_⟩
   have en:=bG.sorted pm bH
   refine k _ l (bp (au.refl H) hl0) ?_
   rw[aN,en,List.map_map];rfl
  |none=>
   simp only[seval,Option.isSome_none]
   refine⟨_,bu (af.cD t ov) a,?_⟩
   rw[Option.isSome_map]
   cases e2:lk u.rows a with
   |none=>
    have es:m.c3 u a=List.range m.sides.length:=by unfold ae.c3;rw[e,e2]
    rw[es] at k
    simp only[seval,Option.isSome_none,ae.at t hO,ae.bZ t hO,List.length_map]
    refine⟨by omega,by have:=rep.cg;omega,λl hl=>k _ l (bp (au.refl H) hl) ?_⟩
    rw[aN,Int.toNat_natCast]
   |some r=>
    simp only[seval,Option.isSome_some]
    refine⟨_,by have z:=bu (af.cD t ov) a;rw[e2] at z;exact z,?_⟩
    simp only[seval,af.fj t ov e2]
    cases hs:r.r.side with
    |none=>
     have es:m.c3 u a=[]:=by unfold ae.c3;rw[e,e2];simp only[];rw[hs]
     rw[es] at k
     show if(-1:Int)=-1 then _ else _
     rw[if_pos rfl]
     refine⟨by decide,λl hl=>k _ l (bp (au.refl H) hl) aN⟩
    |some q=>
     have es:m.c3 u a=[q]:=by unfold ae.c3;rw[e,e2];simp only[];rw[hs]
     rw[es] at k
     show if(q:Int)=-1 then _ else _
     rw[if_neg (by omega)]
     exactλl hl=>k _ l (bp (au.refl H) hl) aN
structure At(t:Ad)(H:Hp)(m:ae)(s:Vbcnab.State)(u:af)(q:Nat)(f:cQ)(to src:Nat):Prop where
 own:Own H (m.cells t)
 rep:Rep m s
 hv:lk m.vlans f.v=some u
 hq:q<m.sides.length
 hf:H f.a=some (.ins t.Frame f.d (cV f))
 fs:f.side=(q:Int)
 ft:f.to=(to:Int)
 fa:f.src=(src:Int)
theorem At.same{H H':Hp}{m:ae}{s:Vbcnab.State}{u:af}{q:Nat}{f:cQ}{to src:Nat}(a:At t H m s u q f to src)(sm:au H H'):At t H' m s u q f to src:=⟨a.own.same sm,a.rep,a.hv,a.hq,sm _ _ a.hf,a.fs,a.ft,a.fa⟩
def LB(t:Ad):Sp:=λvs H Q _=>∃(m:ae)(s:Vbcnab.State)(u:af)(q:Nat)(f:cQ)(to src r:Nat),vs=[.ref m.a,.ref f.a,.int r]/\At t H m s u q f to src/\r<m.sides.length/\∀H',au H H'->Q (.bl (dW s u.w.id q r)) H'
theorem Eo{s:Vbcnab.State}{v q r:Nat}(h:Vbcnab.mayGo s v q r=false):dW s v q r=false:=by unfold dW;rw[h];rfl
theorem Hz(T:Txt K mg t):aX P w K mg base aY 4 t.vT t.ub ["switch","frame","number"] (LB t):=by
 refine T.xA.fn.ok Bx (λvs H Q E h=>?_) (λcdv A outer s0 H vs Q E hr h=>?_)
 .obtain⟨m,s,u,q,f,to,src,r,rfl,_⟩:=h
  rfl
 .obtain⟨m,s,u,q,f,to,src,r,rfl,a,hr',k⟩:=h
  have hu:=bC hr
  have nd:=Bx.nd
  obtain⟨hO,rep,hv,hq,hf,fs,ft,fa⟩:=a
  have ov:=ae.cA rep.vk hO hv
  have ok:=rep.at hv
  obtain⟨sd,hsd⟩:∃sd,m.sides[r]? =some sd:=⟨_,List.getElem?_eq_getElem hr'⟩
  obtain⟨sq,hsq⟩:∃sd,m.sides[q]? =some sd:=⟨_,List.getElem?_eq_getElem hq⟩
  have hatr:bY (m.sides.map λp=>V.ref p.a) (r:Int)=some (V.ref sd.a):=cS (by rw[List.getElem?_map,hsd];rfl)
  have hatq:bY (m.sides.map λp=>V.ref p.a) (q:Int)=some (V.ref sq.a):=cS (by rw[List.getElem?_map,hsq];rfl)
  have gat:=ok.n8 hr'
  have sat:=ok.rB hr'
  have hwi:(Vbcnab.wire sd.s u.w.id).isSome=decide (sd.isIn f.v):=by rw[<-rep.key hv];exact m_ (rep.d6 hsd) (by have:=ok.pos;omega)
  have em:Vbcnab.mayGo s u.w.id q r=(r !=q&&(decide (sd.isIn f.v)&&(Vbcnab.gateOf s r u.w.id==2&&(!Vbcnab.isShut s r u.w.id&&(!(sq.s.apart&&sd.s.apart)&&(s.mirror !=some r)))))):=by
   unfold Vbcnab.mayGo
   rw[d4 rep hsd,d4 rep hsq,hwi]
  refine⟨_,ai (bg (i:=3) nd rfl (Or.inl rfl) (bT hu (ak (pv 0) rfl) (ak (pv 1) rfl) (λ_ _=>rfl))) (ai (bg (i:=4) nd rfl (Or.inl rfl) (aO bP (ak (pv 0) rfl) (pv 2) (λ_ _=>rfl))) (ai (aw (PW.pt (gC (aU bb (pv 2) (ak (pv 1) rfl) (aQ _)) (gD (aU bb (pv 2) (ak (pv 0) rfl) (aQ _))))) (ao (aq (ji))) (ay)) (ai (aw (bF (bD (aD T.mS (oY T) (hr.mono (by decide)) rfl (aa (pv 4) (aa (ak (pv 1) rfl) ah))))) (ao (aq (ji))) (ay)) (ai (aw (PW.pt (gC (aU fB (aO bP (ak (pv 3) rfl) (pv 2) (λ_ _=>rfl)) (aI rfl T.nG) (aQ _)) (gD (aU bb (aO bP (ak (pv 3) rfl) (pv 2) (λ_ _=>rfl)) (aj) (aQ _))))) (ao (aq (ji))) (ay)) (ai (aw (PW.pt (eR (aU bb (ak (pv 4) rfl) (aj) (aQ _)) (eT (aU bb (ak (aO bP (ak (pv 0) rfl) (ak (pv 1) rfl) (λ_ _=>rfl)) rfl) (aj) (aQ _))))) (ao (aq (ji))) (ay)) (ao (aq (aD T.lL (oR T) (hr.mono (by decide)) rfl (aa (pv 0) (aa (pv 2) ah)))))))))),?_⟩
  show aW _ _ _ [some (.ref m.a),some (.ref f.a),some (.int r),none,none] H
  simp only[seval,ae.at t hO,hf]
  refine⟨_,by have z:=bu (ae.bJ t hO) f.v;rw[hv] at z;exact z,?_⟩
  simp only[seval,ae.at t hO,ae.bZ t hO,hatr,hf,fs,rep.mirror]
  have fin:∀H1,au H H1->Vbcnab.mayGo s u.w.id q r=false->Q (.bl false) H1:=λH1 sm hm=>by
   have z:=k H1 sm
   rw[Eo hm] at z;exact z
  have hatg:bY (u.gates.map V.int) (r:Int)=some (V.int ((Vbcnab.gateOf s r u.w.id:Nat):Int)):=cS (by rw[List.getElem?_map,gat];rfl)
  have hats:bY (u.a_.map V.int) (r:Int)=some (V.int (bI (Vbcnab.isShut s r u.w.id))):=cS (by rw[List.getElem?_map,sat];rfl)
  have n0:(r:Int)=(q:Int)->Vbcnab.mayGo s u.w.id q r=false:=λh0=>by
   have z:r=q:=by omega
   rw[em,z];simp
  have n1:(r:Int)=oI m.mirror->Vbcnab.mayGo s u.w.id q r=false:=λh1=>by
   have z:s.mirror=some r:=by
    rw[rep.mirror]
    cases hm:m.mirror with
    |none=>rw[hm] at h1;have h1:(r:Int)=-1:=h1;omega
    |some y=>rw[hm] at h1;have h1:(r:Int)=y:=h1;rw[show y=r by omega]
   rw[em,z];simp
  refine az (λh0=>fin H (au.refl H) (n0 h0)) (λh0=>?_)
  refine az (λh1=>fin H (au.refl H) (n1 h1)) (λh1=>?_)
  refine⟨sd,f.v,rfl,ae.cx hO hsd,λH1 sm=>?_⟩
  have ov1:=ov.same sm
  have o1:=hO.same sm
  simp only[seval,af.at t ov1,af.k9 t ov1,hatg,af.jG t ov1,hats,aA.at t (ae.cx o1 hsd),ae.at t o1,ae.bZ t o1,hatq,aA.at t (ae.cx o1 hsq),sm _ _ hf,fs]
  refine az (λh2=>fin H1 sm (by rw[em,decide_eq_false h2];simp)) (λh2=>?_)
  have h2:=Decidable.not_not.mp h2
  have n3:¬((Vbcnab.gateOf s r u.w.id:Nat):Int)=2->Vbcnab.mayGo s u.w.id q r=false:=λh3=>by
   have z:(Vbcnab.gateOf s r u.w.id==2)=false:=beq_eq_false_iff_ne.mpr (by omega)
   rw[em,z];simp
  refine az (λh3=>fin H1 sm (n3 h3)) (λh3=>?_)
  have h3:Vbcnab.gateOf s r u.w.id=2:=by omega
  have n4:bI (Vbcnab.isShut s r u.w.id)=1↔Vbcnab.isShut s r u.w.id=true:=by cases Vbcnab.isShut s r u.w.id<;>simp[bI]
  refine az (λh4=>fin H1 sm (by rw[em,n4.mp h4];simp)) (λh4=>?_)
  have h4:Vbcnab.isShut s r u.w.id=false:=by cases e:Vbcnab.isShut s r u.w.id with|false=>rfl|true=>exact absurd (n4.mpr e) h4
  have n5:∀b:Bool,bI b=1↔b=true:=λb=>by cases b<;>simp[bI]
  have last:(sq.s.apart&&sd.s.apart)=false->Am t [.ref m.a,.int (r:Int)] H1 Q E0:=λha=>by
   refine⟨m,r,rfl,o1,by rw[rep.dF];exact rep.cg,λH2 sm2=>?_⟩
   have z:=k H2 (sm.trans sm2)
   have e1:Vbcnab.mayGo s u.w.id q r=true:=by
    have e0:(r !=q)=true:=by simp;omega
    have e2:(s.mirror !=some r)=true:=by
     rw[rep.mirror]
     cases hm:m.mirror with
     |none=>rfl
     |some y=>
      rw[hm] at h1
      have h1:¬(r:Int)=y:=h1
      simp;omega
    rw[em,e0,decide_eq_true h2,h3,h4,ha,e2];rfl
   have e2:dW s u.w.id q r=m.live r:=by
    unfold dW
    rw[e1,Bool.true_and,rep.upsOf]
    unfold ae.live
    exact decide_eq_decide.mpr List.length_pos_iff.symm
   rw[e2] at z;exact z
  refine az (λh5=>?_) (λh5=>?_)
  .refine az (λh6=>fin H1 sm (by rw[em,(n5 _).mp h5,(n5 _).mp h6];simp)) (λh6=>last ?_)
   cases e:sq.s.apart with
   |false=>rfl
   |true=>exact absurd ((n5 _).mpr e) h6
  .refine last ?_
   cases e:sd.s.apart with
   |false=>rw[Bool.and_false]
   |true=>exact absurd ((n5 _).mpr e) h5
def LO(t:Ad):Sp:=λvs H Q _=>∃(m:ae)(s:Vbcnab.State)(u:af)(q:Nat)(f:cQ)(to src r:Nat),vs=[.ref m.a,.ref f.a,.int r]/\At t H m s u q f to src/\Vbcnab.upsOf s r≠[]/\∀H',au H H'->Q (.int (ch s to src r:Int)) H'
theorem yL(T:Txt K mg t):aX P w K mg base aY 3 t.wy t.uF ["switch","frame","number"] (LO t):=by
 refine T.pf.fn.ok BL (λvs H Q E h=>?_) (λcdv A outer s0 H vs Q E hr h=>?_)
 .obtain⟨m,s,u,q,f,to,src,r,rfl,_⟩:=h
  rfl
 .obtain⟨m,s,u,q,f,to,src,r,rfl,a,hne,k⟩:=h
  have nd:=BL.nd
  obtain⟨hO,rep,hv,hq,hf,fs,ft,fa⟩:=a
  refine⟨_,ai (bg (i:=3) nd rfl (Or.inl rfl) (aD T.oy (yK T) (hr.mono (by decide)) rfl (aa (pv 0) (aa (pv 2) ah)))) (ao (aq (aO bP (pv 3) (cG me (cG ez (ak (pv 1) rfl) (ak (pv 1) rfl)) (bW dN rfl T.len PySem.boot_len (aa (pv 3) ah))) (λ_ _=>rfl)))),?_⟩
  show aW _ _ _ [some (.ref m.a),some (.ref f.a),some (.int r),none] H
  simp only[seval,aE]
  refine⟨m,r,rfl,hO,by rw[rep.dF];exact rep.cg,λH1 p sm hp=>?_⟩
  simp only[seval,sm _ _ hf,ft,fa,hp,List.length_map]
  have el:=rep.upsOf r
  rw[el] at hne
  have hl:0<(m.eO r).length:=List.length_pos_iff.mpr hne
  refine⟨by omega,V.int (ch s to src r:Int),at_of (j:=(to+src)%(m.eO r).length) (by rw[Int.natCast_emod,Int.natCast_add]) ?_,k H1 sm⟩
  rw[List.getElem?_map]
  have hi:(to+src)%(m.eO r).length<(m.eO r).length:=Nat.mod_lt _ hl
  have e2:ch s to src r=(m.eO r)[(to+src)%(m.eO r).length]:=by
   unfold ch Vbcnab.chosen
   rw[el]
   simp only[List.getElem?_eq_getElem hi,Option.getD_some]
  rw[List.getElem?_eq_getElem hi,e2];rfl
end
end Sw
namespace L2
open PySem PySem.Spec PyProof.Rows
theorem Iv(K:PySem.W.Frag){X:Cx}(hK:X.K=K:=by rfl):bR X (compareOp .In) (pE K):=by
 subst hK
 exact yT
theorem zV{α β:Type}{l:List α}{f:Nat->α->Option β}{g:α->Option β}(h:∀i x,l[i]? =some x->f i x=g x):∀n,n<=l.length->(List.range n).filterMap (λi=>l[i]?.bind λx=>f i x)=(l.take n).filterMap g
 |0,_=>rfl
 |n+1,hn=>by
  have hx:l[n]? =some l[n]:=List.getElem?_eq_getElem (by omega)
  rw[List.range_succ,List.filterMap_append,zV h n (by omega),List.take_add_one,List.filterMap_append,hx]
  congr 1
  simp only[List.filterMap_cons,List.filterMap_nil,hx,Option.bind_some,h n _ hx,Option.toList]
end L2
namespace Sw
open PySem PySem.Spec PyProof.Rows L2
theorem cI.M_{x:aA}(o:cI x){v:Nat}(hn:¬x.s.native_=v){tg:Int}(h:Vbcnab.wire x.s v=some tg):(x.pairs.filter λp=>decide (p.2=(v:Int)))=[(tg,(v:Int))]/\tg≠-1:=by
 unfold Vbcnab.wire at h
 rw[if_neg (λz=>hn z.1)] at h
 cases hf:x.s.pairs.find? λy=>y.2==v with
 |none=>rw[hf] at h;cases h
 |some y=>
  rw[hf] at h
  have ey:(y.1:Int)=tg:=Option.some.inj h
  have y2:y.2=v:=by have:=List.find?_some hf;simpa using this
  have my:=List.mem_of_find?_eq_some hf
  have p1:=(o.pos y my).1
  refine⟨?_,by omega⟩
  have pm:=o.perm.symm.filter λp=>decide (p.2=(v:Int))
  have e:((x.s.pairs.map λy=>((y.1:Int),(y.2:Int))).filter λp=>decide (p.2=(v:Int)))=[(tg,(v:Int))]:=by
   rw[List.filter_map]
   have e2:x.s.pairs.filter ((λp:Int×Int=>decide (p.2=(v:Int)))∘λy=>((y.1:Int),(y.2:Int)))=[y]:=by
    have g:∀l:List (Nat×Nat),(l.map (·.2)).Nodup->y∈l->l.filter ((λp:Int×Int=>decide (p.2=(v:Int)))∘λy=>((y.1:Int),(y.2:Int)))=[y]:=by
     intro l
     induction l with
     |nil=>intro _ h;cases h
     |cons b l ih=>
      intro nd hm
      have nd':=List.nodup_cons.mp nd
      rw[List.filter_cons]
      rcases List.mem_cons.mp hm with rfl|hm
      .rw[if_pos (by show decide ((y.2:Int)=(v:Int))=true;exact decide_eq_true (by omega))]
       have z:l.filter ((λp:Int×Int=>decide (p.2=(v:Int)))∘λy=>((y.1:Int),(y.2:Int)))=[]:=List.filter_eq_nil_iff.mpr λc hc hd=>by
        have hd:(c.2:Int)=v:=of_decide_eq_true hd
        exact nd'.1 (List.mem_map.mpr ⟨c,hc,by show c.2=y.2;omega⟩)
       rw[z]
      .have hb:¬b.2=v:=λz=>nd'.1 (List.mem_map.mpr ⟨y,hm,by show y.2=b.2;omega⟩)
       rw[if_neg (by show¬decide ((b.2:Int)=(v:Int))=true;simp;omega)]
       exact ih nd'.2 hm
    exact g _ o.jy my
   rw[e2]
   show [((y.1:Int),(y.2:Int))]=_
   rw[ey,y2]
  rw[e] at pm
  exact List.perm_singleton.mp pm
section
variable{P:Program}{w:World}{K:PySem.W.Frag}{mg:Str->Option Value}{base:Heap}{t:Ad}
def gE(s:Vbcnab.State)(q:Nat)(f:cQ):Int:=if f.tag=-1 then((Vbcnab.sideAt s q).rank:Int) else f.rank
def LW(t:Ad):Sp:=λvs H Q _=>∃(m:ae)(s:Vbcnab.State)(u:af)(q:Nat)(f:cQ)(to src r:Nat)(tg:Int),vs=[.ref m.a,.ref f.a,.int r]/\At t H m s u q f to src/\r<m.sides.length/\Vbcnab.wire (Vbcnab.sideAt s r) u.w.id=some tg/\∀(H':Hp)(p:Addr),au H H'->H' p=some (.lst [.int tg,.int (if tg=-1 then 0 else gE s q f)])->Q (.ref p) H'
theorem Ib(T:Txt K mg t):aX P w K mg base aY 1 t.wV t.uY ["switch","frame","number"] (LW t):=by
 refine T.A2.fn.ok B3 (λvs H Q E h=>?_) (λcdv A outer s0 H vs Q E hr h=>?_)
 .obtain⟨m,s,u,q,f,to,src,r,tg,rfl,_⟩:=h
  rfl
 .obtain⟨m,s,u,q,f,to,src,r,tg,rfl,a,hr',htg,k⟩:=h
  have hu:=bC hr
  have nd:=B3.nd
  obtain⟨hO,rep,hv,hq,hf,fs,ft,fa⟩:=a
  have ok:=rep.at hv
  have hid:=rep.key hv
  obtain⟨sd,hsd⟩:∃sd,m.sides[r]? =some sd:=⟨_,List.getElem?_eq_getElem hr'⟩
  obtain⟨sq,hsq⟩:∃sd,m.sides[q]? =some sd:=⟨_,List.getElem?_eq_getElem hq⟩
  have hatr:bY (m.sides.map λp=>V.ref p.a) (r:Int)=some (V.ref sd.a):=cS (by rw[List.getElem?_map,hsd];rfl)
  have hatq:bY (m.sides.map λp=>V.ref p.a) (q:Int)=some (V.ref sq.a):=cS (by rw[List.getElem?_map,hsq];rfl)
  have osd:=ae.cx hO hsd
  have bL:=rep.d6 hsd
  rw[d4 rep hsd] at htg
  have pos:=ok.pos
  refine⟨_,ai (bg (i:=3) nd rfl (Or.inl rfl) (aO bP (ak (pv 0) rfl) (pv 2) (λ_ _=>rfl))) (ai (aw (aU bb (ak (pv 3) rfl) (ak (pv 1) rfl) (aQ _)) (ao (aq (aB (aa (aI rfl T.lh) (aa (aj) ah))))) (ay)) (ai (mz (kG (i:=4) rfl nd rfl rfl (kT rfl rfl rfl (by decide+kernel)) (IS (ak (pv 3) rfl)) (eY (own:=[("tag",6),("v",7)]) (by show d_ ["switch","frame","number","side","tags","rank","tag","v"] (aK mO) _ _=true;decide+kernel)) (λ_ _ _ _ _=>ze K (n:=2) rfl (mw (cP (i:=6) nd rfl (Or.inl rfl)) (mw (cP (i:=7) nd rfl (Or.inl rfl)) (zf)))) (λ_ _ _ _ _=>iI (aU bb (pv 7) (gz K (pv 1) rfl) (aQ _))) (λ_ _ _ _ _=>pv 6))) (ai (bg (i:=5) nd rfl (Or.inl rfl) (iE (aU bb (ak (pv 1) rfl) (aI rfl T.lh) (aQ _)) (ak (aO bP (ak (pv 0) rfl) (ak (pv 1) rfl) (λ_ _=>rfl)) rfl) (ak (pv 1) rfl))) (ao (aq (aB (aa (aO bP (pv 4) (aj) (λ_ _=>rfl)) (aa (pv 5) ah)))))))),?_⟩
  show aW _ _ _ [some (.ref m.a),some (.ref f.a),some (.int r),none,none,none,none,none] H
  simp only[seval,ae.at t hO,ae.bZ t hO,hatr,aA.at t osd,hf]
  refine az (λh0=>?_) (λh0=>?_)
  .have z:tg=-1:=by
    unfold Vbcnab.wire at htg
    rw[if_pos ⟨by omega,by omega⟩] at htg
    exact(Option.some.inj htg).symm
   intro p hp
   refine k _ p (bp (au.refl H) hp) ?_
   rw[aN,z];rfl
  .obtain⟨hfl,hne⟩:=bL.M_ (v:=u.w.id) (by omega) htg
   rw[hid] at hfl
   refine⟨sd.c0,_,aA.dJ t osd,trivial,λod=>?_⟩
   have nS:sd.a≠sd.c0:=fA (aA.at t osd) (aA.dJ t osd) (by intro z;cases z)
   have aS:upd H sd.c0 (.bz od (.dK (toK V.int sd.pairs))) sd.a=some (.ins t.Side sd.d (cR sd)):=by rw[aF nS];exact aA.at t osd
   have nF:f.a≠sd.c0:=fA hf (aA.dJ t osd) (by intro z;cases z)
   simp only[seval,aS]
   refineλD hD=>FP (λi x=>if(sd.pairs[i]?.map λp=>decide (p.2=f.v))=some true then some (kV x.1) else none) hD aN (by rw[dj];exact Nat.le_trans (rep.nX (List.mem_of_getElem? hsd)) (by decide)) ?_ ?_
   .intro i x H2 T0 R hx hS hT hR
    unfold toK at hx
    rw[List.getElem?_map] at hx
    cases hp:sd.pairs[i]? with
    |none=>rw[hp] at hx;cases hx
    |some p=>
     rw[hp] at hx
     obtain rfl:(Sum.inl p.1,V.int p.2)=x:=Option.some.inj hx
     have hf2:upd H2 T0 (.tup [V.int p.1,V.int p.2]) f.a=some (.ins t.Frame f.d (cV f)):=by
      have z:H2 f.a=some (.ins t.Frame f.d (cV f)):=hS _ _ (by rw[aF nF];exact hf)
      rw[aF (cZ z hT)];exact z
     have z:=hR _ (bp (au.refl H2) hT (o:=.tup [V.int p.1,V.int p.2]))
     simp only[hp,Option.map_some] at z
     refine⟨T0,_,rfl,dk.of aN,rfl,?_⟩
     simp only[seval,nZ,n6,wipe,List.map_cons,List.map_nil,hf2]
     refine az (λh1=>?_) (λh1=>?_)
     .rw[if_pos (by rw[decide_eq_true h1])] at z
      have z:R (some (V.int p.1)) _:=z
      simpa using z
     .rw[if_neg (by rw[decide_eq_false h1];simp)] at z;simpa using z
   .intro H' L hS hD' eL
    have e1:L=[V.int tg]:=by
     have e2:L=(sd.pairs.filter λp=>decide (p.2=f.v)).map λp=>V.int p.1:=by
      rw[eL]
      rw[zV (g:=λx:Key×V=>if(match x.2 with|.int z=>decide (z=f.v)|_=>false)=true then some (kV x.1) else none) (λi x hx=>?_) _ (Nat.le_refl _),List.take_length]
      .unfold toK
       rw[List.filterMap_map,<-List.filterMap_eq_filter,List.map_filterMap]
       congr 1
       funext p
       show(if decide (p.2=f.v)=true then some (V.int p.1) else none)=_
       by_cases z:p.2=f.v
       .simp[z,Option.guard]
       .simp[z,Option.guard]
      .unfold toK at hx
       rw[List.getElem?_map] at hx
       cases hp:sd.pairs[i]? with
       |none=>rw[hp] at hx;cases hx
       |some p=>
        rw[hp] at hx
        obtain rfl:(Sum.inl p.1,V.int p.2)=x:=Option.some.inj hx
        simp only[Option.map_some,Option.some.injEq]
     rw[e2,hfl];rfl
    subst e1
    have hfz:H' sd.c0=some (.bz od (.dK (toK V.int sd.pairs))):=hS _ _ aN
    have sm:au H (upd H' sd.c0 (.dK (toK V.int sd.pairs))):=Ba (aA.dJ t osd) hS
    have nD:D≠sd.c0:=λz=>by rw[z,aN] at hD;cases hD
    have o1:=hO.same sm
    have hD2:upd H' sd.c0 (.dK (toK V.int sd.pairs)) D=some (.lst [V.int tg]):=by rw[aF nD];exact hD'
    refine⟨hfz,?_⟩
    have hat0:bY [V.int tg] 0=some (V.int tg):=rfl
    simp only[seval,sm _ _ hf,ae.at t o1,ae.bZ t o1,fs,hatq,aA.at t (ae.cx o1 hsq),hD2,hat0]
    have er:Vbcnab.sideAt s q=sq.s:=d4 rep hsq
    have kk:∀rk:Int,rk=gE s q f->∀p,upd H' sd.c0 (.dK (toK V.int sd.pairs)) p=none->Q (.ref p) (upd (upd H' sd.c0 (.dK (toK V.int sd.pairs))) p (.lst [.int tg,.int rk])):=λrk e p hp=>by
     refine k _ p (bp sm (cT sm hp)) ?_
     rw[aN,if_neg hne,e]
    refine az (λh1=>kk _ ?_) (λh1=>kk _ ?_)
    .unfold gE;rw[if_pos h1,er]
    .unfold gE;rw[if_neg h1]
def dt(s:Vbcnab.State)(q to src:Nat)(L:List Nat):Nat×Int:=match s.mirror with
 |none=>(0,-1)
 |some mi=>match Vbcnab.chosen s mi to src with
  |none=>(0,-1)
  |some p=>if(if(Vbcnab.sideAt s q).watchIn=true then 1 else 0)+(L.filter λr=>(Vbcnab.sideAt s r).watchOut).length=0 then(0,-1) else((if(Vbcnab.sideAt s q).watchIn=true then 1 else 0)+(L.filter λr=>(Vbcnab.sideAt s r).watchOut).length,(p:Int))
theorem Bh(a b:Bool):bI a+2*bI b∈[(2:Int),3]↔b=true:=by cases a<;>cases b<;>decide
theorem Bg(a b:Bool):bI a+2*bI b∈[(1:Int),3]↔a=true:=by cases a<;>cases b<;>decide
def Lx(t:Ad):Sp:=λvs H Q _=>∃(m:ae)(s:Vbcnab.State)(u:af)(q:Nat)(f:cQ)(to src:Nat)(L:List Nat)(la:Addr),vs=[.ref m.a,.ref f.a,.ref la]/\At t H m s u q f to src/\(∀r∈L,r<m.sides.length)/\L.length<=64/\H la=some (.lst (L.map λ(r:Nat)=>V.int r))/\∀(H':Hp)(p:Addr),au H H'->H' p=some (.lst [.int ((dt s q to src L).1:Int),.int (dt s q to src L).2])->Q (.ref p) H'
theorem Hu(T:Txt K mg t):aX P w K mg base aY 4 t.vM t.tV ["switch","frame","sides"] (Lx t):=by
 refine T.tI.fn.ok Bq (λvs H Q E h=>?_) (λcdv A outer s0 H vs Q E hr h=>?_)
 .obtain⟨m,s,u,q,f,to,src,L,la,rfl,_⟩:=h
  rfl
 .obtain⟨m,s,u,q,f,to,src,L,la,rfl,a,hL,l64,hla,k⟩:=h
  have hu:=bC hr
  have nd:=Bq.nd
  have a0:=a
  obtain⟨hO,rep,hv,hq,hf,fs,ft,fa⟩:=a
  obtain⟨sq,hsq⟩:∃sd,m.sides[q]? =some sd:=⟨_,List.getElem?_eq_getElem hq⟩
  have hatq:bY (m.sides.map λp=>V.ref p.a) (q:Int)=some (V.ref sq.a):=cS (by rw[List.getElem?_map,hsq];rfl)
  have er:Vbcnab.sideAt s q=sq.s:=d4 rep hsq
  have no:∀H1,au H H1->dt s q to src L=(0,-1)->∀p,H1 p=none->Q (.ref p) (upd H1 p (.lst [.int 0,.int (-1)])):=λH1 sm e p hp=>by
   refine k _ p (bp sm (cT sm hp)) ?_
   rw[e,aN];rfl
  refine⟨_,ai (aw (PW.pt (gC (aU bb (ak (pv 0) rfl) (aI rfl T.fN) (aQ _)) (gD (bF (bD (aD T.lL (oR T) (hr.mono (by decide)) rfl (aa (pv 0) (aa (ak (pv 0) rfl) ah)))))))) (ao (aq (aB (aa (aj) (aa (aI rfl T.sX) ah))))) (ay)) (ai (kG (i:=3) rfl nd rfl rfl (kT rfl rfl rfl (by decide+kernel)) (d3 (pv 2)) (eY (own:=[("number",5)]) (by show d_ ["switch","frame","sides","watched","copies","number"] (aK mH) _ _=true;decide+kernel)) (λ_ _ _ _ _=>cP (i:=5) nd rfl (Or.inl rfl)) (λ_ _ _ _ _=>iI (aU (Iv K) (gz K (aO bP (gz K (pv 0) rfl) (pv 5) (λ_ _=>rfl)) rfl) (zc (aa (aI rfl T.Dm) (aa (aI rfl T.nI) ah))) rfl)) (λ_ _ _ _ _=>pv 5)) (ai (bg (i:=4) nd rfl (Or.inl rfl) (bW dN rfl T.len PySem.boot_len (aa (pv 3) ah))) (ai (aw (aU yT (ak (aO bP (ak (pv 0) rfl) (ak (pv 1) rfl) (λ_ _=>rfl)) rfl) (zc (aa (aI rfl T.Dl) (aa (aI rfl T.nI) ah))) rfl) (ao (zp (i:=4) nd rfl (Or.inl rfl) (aj) lP)) (ay)) (ai (aw (aU bb (pv 4) (aj) (aQ _)) (ao (aq (aB (aa (aj) (aa (aI rfl T.sX) ah))))) (ay)) (ao (aq (aB (aa (pv 4) (aa (aD T.pf (yL T) (hr.mono (by decide)) rfl (aa (pv 0) (aa (pv 1) (aa (ak (pv 0) rfl) ah)))) ah))))))))),?_⟩
  show aW _ _ _ [some (.ref m.a),some (.ref f.a),some (.ref la),none,none,none] H
  simp only[seval,ae.at t hO]
  cases hm:m.mirror with
  |none=>
   have e:dt s q to src L=(0,-1):=by unfold dt;rw[rep.mirror,hm]
   show if(-1:Int)=-1 then _ else _
   rw[if_pos rfl]
   exact no H (au.refl H) e
  |some mi=>
   have hmi:=rep.mlt mi hm
   have ml:s.mirror=some mi:=by rw[rep.mirror,hm]
   show if(mi:Int)=-1 then _ else _
   rw[if_neg (by omega)]
   refine⟨m,mi,rfl,hO,by rw[rep.dF];exact rep.cg,λH1 sm=>?_⟩
   simp only[seval,aE]
   cases hlv:m.live mi with
   |false=>
    have e:dt s q to src L=(0,-1):=by
     unfold dt
     rw[ml]
     simp only[]
     cases hc:Vbcnab.chosen s mi to src with
     |none=>rfl
     |some p=>
      have z:=(tm hc).1
      rw[rep.upsOf] at z
      unfold ae.live at hlv
      exact absurd (List.length_pos_iff.mpr z) (of_decide_eq_false hlv)
    rw[if_pos (show(!false)=true from rfl)]
    exact no H1 sm e
   |true=>
    have hups:Vbcnab.upsOf s mi≠[]:=by
     rw[rep.upsOf]
     unfold ae.live at hlv
     exact List.length_pos_iff.mp (of_decide_eq_true hlv)
    obtain⟨hc,_⟩:=jL (to:=to) (src:=src) hups
    rw[if_neg (by decide)]
    have a1:=a0.same sm
    refine⟨⟨_,ax.of (sm _ _ hla)⟩,λD hD=>ke (λi x=>if(L[i]?.map λr=>(Vbcnab.sideAt s r).watchOut)=some true then some x else none) hD (ax.of (sm _ _ hla)) (by rw[List.length_map];exact Nat.le_trans l64 (by decide)) ?_ ?_⟩
    .intro i x H2 R hx hS hR
     rw[List.getElem?_map] at hx
     cases hp:L[i]? with
     |none=>rw[hp] at hx;cases hx
     |some r=>
      rw[hp] at hx
      obtain rfl:V.int (r:Nat)=x:=Option.some.inj hx
      have hr':=hL r (List.mem_of_getElem? hp)
      obtain⟨sd,hsd⟩:∃sd,m.sides[r]? =some sd:=⟨_,List.getElem?_eq_getElem hr'⟩
      have hatr:bY (m.sides.map λp=>V.ref p.a) (r:Int)=some (V.ref sd.a):=cS (by rw[List.getElem?_map,hsd];rfl)
      have o2:=(hO.same sm).same hS
      simp only[hp,Option.map_some,d4 rep hsd] at hR
      simp only[seval,wipe,List.map_cons,List.map_nil,ae.at t o2,ae.bZ t o2,hatr,aA.at t (ae.cx o2 hsd)]
      intro T0 hT
      have z:=hR _ (bp (au.refl H2) hT (o:=.tup [V.int 2,V.int 3]))
      refine⟨[2,3],dk.of aN,?_⟩
      refine az (λh1=>?_) (λh1=>?_)
      .rw[(Bh _ _).mp h1,if_pos rfl] at z;exact z
      .rw[if_neg (λy=>h1 ((Bh _ _).mpr (Option.some.inj y)))] at z;exact z
    .intro H2 hS hD'
     have e1:bA (λi x=>if(L[i]?.map λr=>(Vbcnab.sideAt s r).watchOut)=some true then some x else none) 0 (L.map λ(r:Nat)=>V.int r)=(L.filter λr=>(Vbcnab.sideAt s r).watchOut).map λ(r:Nat)=>V.int r:=jM _ _ _ _ _ _ λi x hx=>by
      rw[Nat.zero_add,hx]
      simp only[Option.map_some,Option.some.injEq]
     rw[e1] at hD'
     have sm2:=sm.trans hS
     have o2:=hO.same sm2
     simp only[seval,hD',List.length_map,ae.at t o2,ae.bZ t o2,sm2 _ _ hf,fs,hatq,aA.at t (ae.cx o2 hsq)]
     intro T0 hT
     have sm3:=bp sm2 (cT sm2 hT) (o:=.tup [V.int 1,V.int 3])
     have o3:=hO.same sm3
     refine⟨[1,3],dk.of aN,?_⟩
     have fin:∀(n:Nat),n=(if(Vbcnab.sideAt s q).watchIn=true then 1 else 0)+(L.filter λr=>(Vbcnab.sideAt s r).watchOut).length->n≠0->∀H4,au H H4->∀p,H4 p=none->Q (.ref p) (upd H4 p (.lst [.int (n:Int),.int (ch s to src mi:Int)])):=λn en hn H4 sm4 p hp=>by
      refine k _ p (bp sm4 (cT sm4 hp)) ?_
      have e:dt s q to src L=(n,(ch s to src mi:Int)):=by
       unfold dt
       rw[ml]
       simp only[]
       rw[hc]
       simp only[]
       rw[<-en,if_neg hn]
      rw[e,aN]
     refine az (λh0=>?_) (λh0=>?_)
     .have hw:sq.s.watchIn=true:=(Bg _ _).mp h0
      rw[if_neg (by omega)]
      simp only[seval,ae.at t o3]
      refine⟨m,s,u,q,f,to,src,mi,by rw[hm];rfl,a0.same sm3,hups,λH4 sm4=>?_⟩
      have z:=fin ((L.filter λr=>(Vbcnab.sideAt s r).watchOut).length+1) (by rw[er,hw,if_pos rfl];omega) (by omega) H4 (sm3.trans sm4)
      (simp only[seval,aE] at z⊢;exact z)
     .have hw:¬sq.s.watchIn=true:=λz=>h0 ((Bg _ _).mpr z)
      refine az (λh1=>?_) (λh1=>?_)
      .have e:dt s q to src L=(0,-1):=by
        unfold dt
        rw[ml]
        simp only[]
        rw[hc]
        simp only[]
        rw[er,if_neg hw,if_pos (by omega)]
       exact no _ sm3 e
      .simp only[seval,ae.at t o3]
       refine⟨m,s,u,q,f,to,src,mi,by rw[hm];rfl,a0.same sm3,hups,λH4 sm4=>?_⟩
       have z:=fin ((L.filter λr=>(Vbcnab.sideAt s r).watchOut).length) (by rw[er,if_neg hw,Nat.zero_add]) (by omega) H4 (sm3.trans sm4)
       (simp only[seval,aE] at z⊢;exact z)
end
end Sw
namespace Sw
open PySem PySem.Spec PyProof.Rows L2
abbrev o6(o:Vbcnab.Out):List Int:=[(o.port:Int),o.tag,(o.rank:Int)]
def dy(l:List Vbcnab.Out)(i:Nat):List Int:=[0,(l.length:Int)]++(l.take i).flatMap o6
theorem Je{l:List Vbcnab.Out}{i:Nat}{o:Vbcnab.Out}(h:l[i]? =some o):dy l (i+1)=dy l i++[(o.port:Int)]++[o.tag,(o.rank:Int)]:=by
 unfold dy;rw[lG o6 h];simp only[List.append_assoc];rfl
theorem zm(l:List Vbcnab.Out)(i:Nat):(dy l i).length<=2+3*l.length:=by
 have:=lF o6 3 l i λx _=>Nat.le_refl 3
 unfold dy;rw[List.length_append];show 2+_<=_;omega
abbrev eK(l:List Vbcnab.Out)(s:Vbcnab.State):Vbcnab.State:=l.foldl (λw o=>Vbcnab.onPort w o.port λx=>{x with given:=x.given+1}) s
theorem En{l:List Vbcnab.Out}{i:Nat}{o:Vbcnab.Out}(h:l[i]? =some o)(s:Vbcnab.State):eK (l.take (i+1)) s=Vbcnab.onPort (eK (l.take i) s) o.port λx=>{x with given:=x.given+1}:=by
 unfold eK;rw[take_snoc h,List.foldl_append];rfl
section
variable{P:Program}{w:World}{K:PySem.W.Frag}{mg:Str->Option Value}{base:Heap}{t:Ad}
def Ao(t:Ad):Sp:=λvs H Q _=>∃(m:ae)(s:Vbcnab.State)(u:af)(q:Nat)(f:cQ)(to src rk:Nat),vs=[.ref m.a,.ref f.a]/\At t H m s u q f to src/\f.a∉adr (m.cells t)/\gE s q f=(rk:Int)/\Kt t H m (mP s q u.w.id to src rk) Q
theorem HQ(T:Txt K mg t):aX P w K mg base aY 5 t.wC t.uJ ["switch","frame"] (Ao t):=by
 refine T.z7.fn.ok BP (λvs H Q E h=>?_) (λcdv A outer s0 H vs Q E hr h=>?_)
 .obtain⟨m,s,u,q,f,to,src,rk,rfl,_⟩:=h
  rfl
 .obtain⟨m,s,u,q,f,to,src,rk,rfl,a,hfn,hrk,k⟩:=h
  have hu:=bC hr
  have nd:=BP.nd
  have a0:=a
  obtain⟨hO,rep,hv,hq,hf,fs,ft,fa⟩:=a
  obtain⟨bH,mem,_,_⟩:=rep.su hv to
  have n64:=rep.cg
  have p64:m.ports.length<=64:=by rw[rep.dF];exact rep.cg
  have eL:sizeLine=2^24:=rfl
  generalize hS:m.c3 u (to:Int)=S at bH mem
  have Slt:∀r∈S,r<m.sides.length:=λr hr=>((mem r).mp hr).1
  have Sl:S.length<=64:=by
   have z:=kl (l':=List.range m.sides.length) (bH.imp λ{a b}h=>Nat.ne_of_lt h) λx hx=>List.mem_range.mpr (Slt x hx)
   rw[List.length_range] at z;omega
  refine⟨_,ai (bg (i:=2) nd rfl (Or.inl rfl) (bT hu (ak (pv 0) rfl) (ak (pv 1) rfl) (λ_ _=>rfl))) (ai (kG (i:=3) rfl nd rfl rfl (kT rfl rfl rfl (by decide+kernel)) (d3 (aD T.rD (yM T) (hr.mono (by decide)) rfl (aa (pv 0) (aa (pv 2) (aa (ak (pv 1) rfl) ah))))) (eY (own:=[("number",6)]) (by show d_ ["switch","frame","vlan","sides","ports","told","number","port"] (aK kM) _ _=true;decide+kernel)) (λ_ _ _ _ _=>cP (i:=6) nd rfl (Or.inl rfl)) (λ_ _ _ _ _=>iI (bD (aD T.xA (Hz T) (hr.mono (by decide)) rfl (aa (pv 0) (aa (pv 1) (aa (pv 6) ah)))))) (λ_ _ _ _ _=>pv 6)) (ai (bg (i:=4) nd rfl (Or.inl rfl) (bW DE rfl T.sorted boot_sorted (aa (iF rfl nd (d3 (pv 3)) (eY (own:=[("number",6)]) (by show d_ ["switch","frame","vlan","sides","ports","told","number","port"] (aK kM) _ _=true;decide+kernel)) (λ_ _ _ _ _=>cP (i:=6) nd rfl (Or.inl rfl)) (λ_ _ _ _ _=>kH) (λ_ _ _ _ _=>aD T.pf (yL T) (hr.mono (by decide)) rfl (aa (pv 0) (aa (pv 1) (aa (pv 6) ah))))) ah))) (ai (bg (i:=5) nd rfl (Or.inl rfl) (aB (aa (aj) (aa (bW dN rfl T.len PySem.boot_len (aa (pv 4) ah)) ah)))) (ai (fG PassesOwn.never rfl (d3 (pv 4)) (cP (i:=6) nd rfl (Or.inl rfl)) (ai (bg (i:=7) nd rfl (Or.inl rfl) (aO bP (ak (pv 0) rfl) (pv 6) (λ_ _=>rfl))) (ai (iH (pv 7) (aj) iu) (ai (cB (fS PySem.F.plainAttrs_list PySem.F.slot_list_append PySem.F.type_list_append ki (pv 5) (aa (pv 6) ah))) (ao (cB (fS PySem.F.plainAttrs_list PySem.F.slot_list_extend PySem.F.type_list_extend kj (pv 5) (aa (aD T.A2 (Ib T) (hr.mono (by decide)) rfl (aa (pv 0) (aa (pv 1) (aa (ak (pv 7) rfl) ah)))) ah)))))))) (ao (aq (cG je (pv 5) (aD T.tI (Hu T) (hr.mono (by decide)) rfl (aa (pv 0) (aa (pv 1) (aa (pv 3) ah))))))))))),?_⟩
  show aW _ _ _ [some (.ref m.a),some (.ref f.a),none,none,none,none,none,none] H
  simp only[seval,ae.at t hO,hf]
  refine⟨_,by have z:=bu (ae.bJ t hO) f.v;rw[hv] at z;exact z,?_⟩
  simp only[seval,hf,ft]
  refine⟨m,s,f.v,u,to,rfl,hO,rep,hv,λH1 p1 sm1 hp1=>?_⟩
  rw[hS] at hp1
  simp only[seval,aE]
  refine⟨⟨_,ax.of hp1⟩,λD1 hD1=>ke (λi x=>if(S[i]?.map λr=>dW s u.w.id q r)=some true then some x else none) hD1 (ax.of hp1) (by rw[List.length_map,eL];omega) ?_ ?_⟩
  .intro i x H2 R hx hSm hR
   rw[List.getElem?_map] at hx
   cases hp:S[i]? with
   |none=>rw[hp] at hx;cases hx
   |some r=>
    rw[hp] at hx
    obtain rfl:V.int (r:Nat)=x:=Option.some.inj hx
    simp only[hp,Option.map_some] at hR
    simp only[seval,wipe,List.map_cons,List.map_nil]
    refine⟨m,s,u,q,f,to,src,r,rfl,a0.same (sm1.trans hSm),Slt r (List.mem_of_getElem? hp),λH3 sm3=>?_⟩
    have z:=hR H3 sm3
    cases hg:dW s u.w.id q r with
    |true=>rw[hg] at z;(simp only[seval,aE] at z⊢;exact z)
    |false=>rw[hg] at z;(simp only[seval,aE] at z⊢;exact z)
  .intro H2 hSm hD1'
   have e1:bA (λi x=>if(S[i]?.map λr=>dW s u.w.id q r)=some true then some x else none) 0 (S.map λ(r:Nat)=>V.int r)=(S.filter λr=>dW s u.w.id q r).map λ(r:Nat)=>V.int r:=jM _ _ _ _ _ _ λi x hx=>by
    rw[Nat.zero_add,hx]
    simp only[Option.map_some,Option.some.injEq]
   rw[e1] at hD1'
   have sm2:=sm1.trans hSm
   obtain⟨L,hL⟩:∃L,(S.filter λr=>dW s u.w.id q r)=L:=⟨_,rfl⟩
   rw[hL] at hD1'
   have Lsrt:L.Pairwise (·<·):=by rw[<-hL];exact bH.filter _
   have Lmem:∀r,r∈L↔r<m.sides.length/\(Vbcnab.aim s u.w.id to).has r=true/\dW s u.w.id q r=true:=λr=>by
    rw[<-hL,List.mem_filter,mem r,and_assoc]
   have Ll:L.length<=64:=by rw[<-hL];exact Nat.le_trans (List.length_filter_le _ _) Sl
   have Lups:∀r∈L,Vbcnab.upsOf s r≠[]:=λr hr=>by
    have z:=((Lmem r).mp hr).2.2
    unfold dW at z
    rw[Bool.and_eq_true] at z
    exact of_decide_eq_true z.2
   have hD1H:H D1=none:=cT sm1 hD1
   simp only[seval,aE]
   refine⟨⟨_,ax.of hD1'⟩,λD2 hD2=>ke (λi _=>L[i]?.map λr=>V.int (ch s to src r:Nat)) hD2 (ax.of hD1') (by rw[List.length_map,eL];omega) ?_ ?_⟩
   .intro i x H3 R hx hS3 hR
    rw[List.getElem?_map] at hx
    cases hp:L[i]? with
    |none=>rw[hp] at hx;cases hx
    |some r=>
     rw[hp] at hx
     obtain rfl:V.int (r:Nat)=x:=Option.some.inj hx
     simp only[hp,Option.map_some] at hR
     simp only[seval,wipe,List.map_cons,List.map_nil,gH]
     exact⟨m,s,u,q,f,to,src,r,rfl,a0.same (sm2.trans hS3),Lups r (List.mem_of_getElem? hp),λH4 sm4=>hR H4 sm4⟩
   .intro H3 hS3 hD2'
    have e2:bA (λi _=>L[i]?.map λr=>V.int (ch s to src r:Nat)) 0 (L.map λ(r:Nat)=>V.int r)=L.map λr=>V.int (ch s to src r:Nat):=tF _ _ _ _ _ λi x hx=>by rw[Nat.zero_add,hx];rfl
    rw[e2] at hD2'
    have sm3:=sm2.trans hS3
    simp only[seval,aE]
    refine⟨L.map λr=>(ch s to src r:Int),ax.of (by rw[hD2',List.map_map];rfl),by rw[List.length_map,eL];omega,λns Ls pm so hLs=>?_⟩
    have sortd:=Iy (n:=m.sides.length) (λp r hpr=>by
     rw[rep.ports,List.getElem?_map] at hpr
     cases hpp:m.ports[p]? with
     |none=>rw[hpp] at hpr;cases hpr
     |some x=>rw[hpp] at hpr;exact(rep.eQ hpp).lt r hpr) Lsrt Lmem pm so
    obtain⟨Pl,hPl⟩:∃Pl,(List.range s.ports.length).filter (fm s u.w.id q to src (Vbcnab.aim s u.w.id to))=Pl:=⟨_,rfl⟩
    rw[hPl] at sortd
    have oe:=yV s u.w.id q to src rk (Vbcnab.aim s u.w.id to)
    rw[hPl] at oe
    obtain⟨O,hOut⟩:∃O,Vbcnab.outs s u.w.id q to src rk (Vbcnab.aim s u.w.id to)=O:=⟨_,rfl⟩
    rw[hOut] at oe
    have Ol:O.length=Pl.length:=by rw[oe,List.length_map]
    have Pl64:Pl.length<=64:=by
     rw[<-hPl]
     refine Nat.le_trans (List.length_filter_le _ _) ?_
     rw[List.length_range,rep.ports,List.length_map];exact p64
    have pl2:Pl.Perm (L.map (ch s to src)):=by
     have z:=pm
     rw[sortd] at z
     have y:((Pl.map λ(p:Nat)=>(p:Int)).map Int.toNat).Perm ((L.map λr=>(ch s to src r:Int)).map Int.toNat):=z.map _
     rw[List.map_map,List.map_map] at y
     have e3:(Int.toNat∘λ(p:Nat)=>(p:Int))=id:=by funext p;exact Int.toNat_natCast p
     have e4:(Int.toNat∘λr=>(ch s to src r:Int))=ch s to src:=by funext p;exact Int.toNat_natCast _
     rw[e3,e4,List.map_id] at y
     exact y
    have cop:Vbcnab.copies s q to src O=dt s q to src L:=by
     have cl:=DC (s:=s) (v:=u.w.id) (q:=q) (to:=to) (src:=src) (rk:=rk) (a:=Vbcnab.aim s u.w.id to) Lups (by rw[hPl];exact pl2)
     rw[hOut] at cl
     unfold Vbcnab.copies dt
     cases s.mirror with
     |none=>rfl
     |some mi=>
      simp only[]
      cases Vbcnab.chosen s mi to src with
      |none=>rfl
      |some p=>
       exact congrArg (λn:Nat=>if(if(Vbcnab.sideAt s q).watchIn=true then 1 else 0)+n=0 then((0,-1):Nat×Int) else((if(Vbcnab.sideAt s q).watchIn=true then 1 else 0)+n,(p:Int))) cl
    have k:Kt t H m (eK O s,dy O O.length++[((dt s q to src L).1:Int),(dt s q to src L).2]) Q:=by
     have z:=k
     unfold mP at z
     rw[hOut,cop] at z
     unfold dy
     rw[List.take_length]
     exact z
    subst sortd
    have sm4:=bp sm3 (cT sm3 hLs) (o:=.lst ((Pl.map λ(p:Nat)=>(p:Int)).map V.int))
    have n1:D1≠Ls:=λz=>by rw[<-z,hS3 _ _ hD1'] at hLs;cases hLs
    simp only[seval,List.length_map]
    intro T hT
    have hTH:=cT sm4 hT
    have n2:D1≠T:=λz=>by rw[<-z,aF n1,hS3 _ _ hD1'] at hT;cases hT
    have n3:Ls≠T:=λz=>by rw[<-z,aN] at hT;cases hT
    have sT:Step H (m.cells t) (upd (upd H3 Ls (.lst ((Pl.map λ(p:Nat)=>(p:Int)).map V.int))) T (.lst [.int 0,.int (Pl.length:Int)])) ((T,.lst ((dy O 0).map V.int))::m.cells t):=
     Step.more hO (bp sm4 hTH) hTH (by rw[aN];unfold dy;rw[Ol];rfl)
    refine⟨⟨_,ax.of (by rw[aF n3];exact aN)⟩,gm (K:=K) (a:=Ls) (xs:=(Pl.map λ(p:Nat)=>(p:Int)).map V.int) (λi σ H'=>∃a b:Option V,σ=[some (.ref m.a),some (.ref f.a),some (.ref u.a),some (.ref D1),some (.ref Ls),some (.ref T),a,b]/\∃ps:List ba,Rep {m with ports:=ps} (eK (O.take i) s)/\Step H (m.cells t) H' ((T,.lst ((dy O i).map V.int))::ae.cells t {m with ports:=ps})/\H' Ls=some (.lst ((Pl.map λ(p:Nat)=>(p:Int)).map V.int))/\H' D1=some (.lst (L.map λ(r:Nat)=>V.int r))) ⟨_,_,rfl,m.ports,rep,sT,by rw[aF n3];exact aN,by rw[aF n2,aF n1];exact hS3 _ _ hD1'⟩ (λi σ H' _⟨_,_,_,_,_,_,z,_⟩=>ax.of z) ?_ ?_⟩
    .rintro i y σ H' hy ⟨b1,b2,rfl,ps,ri,si,hLs',hD1''⟩
     rw[List.map_map,List.getElem?_map] at hy
     cases hp:Pl[i]? with
     |none=>rw[hp] at hy;cases hy
     |some p=>
      rw[hp] at hy
      obtain rfl:V.int (p:Int)=y:=Option.some.inj hy
      have ho:O[i]? =some (kx s u.w.id rk p):=by rw[oe,List.getElem?_map,hp];rfl
      have pe:=cH.given (O.take i) s
      have hpm:p∈(List.range s.ports.length).filter (fm s u.w.id q to src (Vbcnab.aim s u.w.id to)):=by rw[hPl];exact List.mem_of_getElem? hp
      obtain⟨hp1',hp2'⟩:=List.mem_filter.mp hpm
      have hplt:p<ps.length:=by
       have z:=List.mem_range.mp hp1'
       have y1:=pe.len
       rw[show(eK (O.take i) s).ports=ps.map (·.p) from ri.ports,List.length_map] at y1
       omega
      obtain⟨pt,hpt⟩:∃pt,ps[p]? =some pt:=⟨_,List.getElem?_eq_getElem hplt⟩
      have hat:bY (ps.map λp=>V.ref p.a) (p:Int)=some (V.ref pt.a):=cS (by rw[List.getElem?_map,hpt];rfl)
      have oi:Own H' (ae.cells t {m with ports:=ps}):=Own.right (a:=[(T,_)]) si.own
      have op:=ae.dZ (m:={m with ports:=ps}) oi hpt
      have aPt:=ba.at t op
      have psd:pt.p.side=s.ports[p]?.bind λx=>x.side:=by
       rw[<-pe.side p,show(eK (O.take i) s).ports=ps.map (·.p) from ri.ports,List.getElem?_map,hpt];rfl
      obtain⟨r,hrs⟩:∃r,(s.ports[p]?.bind λx=>x.side)=some r:=by
       unfold fm at hp2'
       cases e:s.ports[p]?.bind λx=>x.side with
       |none=>rw[e] at hp2';cases hp2'
       |some r=>exact⟨r,rfl⟩
      rw[hrs] at psd
      have hr':r<m.sides.length:=(ri.eQ hpt).lt r psd
      have hmg:Vbcnab.mayGo s u.w.id q r=true:=by
       unfold fm at hp2'
       rw[hrs] at hp2'
       have z:((Vbcnab.aim s u.w.id to).has r&&(Vbcnab.mayGo s u.w.id q r&&decide (Vbcnab.chosen s r to src=some p)))=true:=hp2'
       rw[Bool.and_eq_true,Bool.and_eq_true] at z
       exact z.2.1
      obtain⟨tg,htg⟩:=Option.isSome_iff_exists.mp (yt hmg)
      have eo:kx s u.w.id rk p=⟨p,tg,if tg=-1 then 0 else rk⟩:=by
       unfold kx mR
       rw[hrs]
       show(⟨p,(Vbcnab.wire (Vbcnab.sideAt s r) u.w.id).getD 0,_⟩:Vbcnab.Out)=_
       simp only[Option.getD_some,htg]
      rw[eo] at ho
      have aMi:H' m.a=some (.ins t.Switch m.d (cC m)):=ae.at (m:={m with ports:=ps}) t oi
      have aPs:H' m.iG=some (.lst (ps.map λp=>V.ref p.a)):=ae.fK (m:={m with ports:=ps}) t oi
      simp only[seval,aMi,aPs,hat,aPt]
      have ef:bc "given" (V.int ((pt.p.given:Int)+1)) (cK pt)=cK {pt with p:={pt.p with given:=pt.p.given+1} }:=rfl
      rw[ef]
      have stp:=jn (t:=t) (m:={m with ports:=ps}) (y:={pt with p:={pt.p with given:=pt.p.given+1} }) oi hpt rfl rfl rfl rfl rfl
      have stp2:=Step.mid (A:=[(T,HO.lst ((dy O i).map V.int))]) (B:=[]) si.own (by rw[List.append_nil];rfl) (by rw[List.append_nil]) stp
      have si2:=si.trans stp2
      have ri2:=ri.port hpt (λx=>{x with given:=x.given+1}) ⟨(ri.eQ hpt).lt,(ri.eQ hpt).dl⟩
      have ri3:Rep (ae.setPort {m with ports:=ps} p {pt with p:={pt.p with given:=pt.p.given+1} }) (eK (O.take (i+1)) s):=by rw[En ho];exact ri2
      have nT:T≠pt.a:=fA si.hd aPt (by intro z;cases z)
      have nLs:Ls≠pt.a:=fA hLs' aPt (by intro z;cases z)
      have nD1:D1≠pt.a:=fA hD1'' aPt (by intro z;cases z)
      have hLs2:upd H' pt.a (.ins t.Port pt.d (cK {pt with p:={pt.p with given:=pt.p.given+1} })) Ls=some (.lst ((Pl.map λ(p:Nat)=>(p:Int)).map V.int)):=by rw[aF nLs];exact hLs'
      have hD2':upd H' pt.a (.ins t.Port pt.d (cK {pt with p:={pt.p with given:=pt.p.given+1} })) D1=some (.lst (L.map λ(r:Nat)=>V.int r)):=by rw[aF nD1];exact hD1''
      generalize upd H' pt.a (HO.ins t.Port pt.d (cK {pt with p:={pt.p with given:=pt.p.given+1} }))=H2' at si2 hLs2 hD2'⊢
      have lo:=zm O i
      simp only[seval,si2.hd]
      refine⟨fX si2.hd,by rw[List.length_map,eL];omega,?_⟩
      have si3:Step H (m.cells t) (upd H2' T (.lst ((dy O i).map V.int++[V.int (p:Int)]))) ((T,.lst ((dy O i).map V.int++[V.int (p:Int)]))::ae.cells t (ae.setPort {m with ports:=ps} p {pt with p:={pt.p with given:=pt.p.given+1} })):=si2.trans (Step.cell (A:=[]) si2.own rfl rfl)
      have hLs3:upd H2' T (.lst ((dy O i).map V.int++[V.int (p:Int)])) Ls=some (.lst ((Pl.map λ(p:Nat)=>(p:Int)).map V.int)):=by rw[aF n3];exact hLs2
      have hD3':upd H2' T (.lst ((dy O i).map V.int++[V.int (p:Int)])) D1=some (.lst (L.map λ(r:Nat)=>V.int r)):=by rw[aF n2];exact hD2'
      generalize upd H2' T (HO.lst ((dy O i).map V.int++[V.int (p:Int)]))=H4' at si3 hLs3 hD3'⊢
      have oi3:Own H4' (ae.cells t (ae.setPort {m with ports:=ps} p {pt with p:={pt.p with given:=pt.p.given+1} })):=Own.right (a:=[(T,_)]) si3.own
      have hpt3:(ae.setPort {m with ports:=ps} p {pt with p:={pt.p with given:=pt.p.given+1} }).ports[p]? =some {pt with p:={pt.p with given:=pt.p.given+1} }:=by
       show(ps.set p _)[p]? =_
       rw[List.getElem?_set_self hplt]
      have aPt3:H4' pt.a=some (.ins t.Port pt.d (cK {pt with p:={pt.p with given:=pt.p.given+1} })):=ba.at t (ae.dZ oi3 hpt3)
      simp only[seval,aPt3]
      have pe3:=cH.given (O.take (i+1)) s
      have hf3:H4' f.a=some (.ins t.Frame f.d (cV f)):=si3.keep hf hfn
      refine⟨fX si3.hd,ae.setPort {m with ports:=ps} p {pt with p:={pt.p with given:=pt.p.given+1} },eK (O.take (i+1)) s,u,q,f,to,src,r,tg,by rw[psd];rfl,⟨oi3,ri3,hv,hq,hf3,fs,ft,fa⟩,hr',by rw[pe3.sideAt];exact htg,λH5 p5 sm5 hp5=>?_⟩
      have hT5:=sm5 _ _ si3.hd
      simp only[seval,hT5,hp5]
      have si4:=si3.trans (Step.same si3.own sm5)
      have erk:gE (eK (O.take (i+1)) s) q f=(rk:Int):=by
       rw[<-hrk];unfold gE;rw[pe3.sideAt]
      refine⟨by rw[List.length_append,List.length_map];show _+1+2<=_;rw[eL];omega,_,ri3,?_,by rw[aF n3];exact sm5 _ _ hLs3,by rw[aF n2];exact sm5 _ _ hD3'⟩
      have e5:(dy O (i+1)).map V.int=(dy O i).map V.int++[V.int (p:Int)]++[V.int tg,V.int (if tg=-1 then 0 else gE (eK (O.take (i+1)) s) q f)]:=by
       rw[Je ho,List.map_append,List.map_append,erk]
       by_cases z:tg=-1
       .rw[if_pos z,if_pos z];rfl
       .rw[if_neg z,if_neg z];rfl
      rw[e5]
      exact si4.trans (Step.cell (A:=[]) si4.own rfl rfl)
    .rintro σ H' ⟨b1,b2,rfl,ps,ri,si,hLs',hD1''⟩
     rw[List.length_map,List.length_map,<-Ol] at ri si
     have fl:O.take O.length=O:=List.take_length
     rw[fl] at ri
     have oi:Own H' (ae.cells t {m with ports:=ps}):=Own.right (a:=[(T,_)]) si.own
     have pe:=cH.given O s
     simp only[seval,aE]
     refine⟨{m with ports:=ps},eK O s,u,q,f,to,src,L,D1,rfl,⟨oi,ri,hv,hq,si.keep hf hfn,fs,ft,fa⟩,λr hr=>((Lmem r).mp hr).1,Ll,hD1'',λH5 p5 sm5 hp5=>?_⟩
     have hT5:=sm5 _ _ si.hd
     simp only[seval,hT5,hp5]
     have lo:=zm O O.length
     refine⟨by rw[List.length_map];show _+2<=_;rw[eL];omega,λp6 hp6=>?_⟩
     have si5:=(si.trans (Step.same si.own sm5)).sub (cs2:=ae.cells t {m with ports:=ps}) (List.sublist_cons_self _ _)
     have ecp:dt (eK O s) q to src L=dt s q to src L:=by
      unfold dt
      rw[pe.mirror]
      simp only[pe.chosen,pe.sideAt]
     refine k.fin si5 rfl rfl ri ?_ p6 hp6
     rw[List.map_append,ecp];rfl
end
end Sw
namespace Sw
open PySem PySem.Spec PyProof.Rows L2
section
variable{P:Program}{w:World}{K:PySem.W.Frag}{mg:Str->Option Value}{base:Heap}{t:Ad}
def rF(s:Vbcnab.State)(q v:Nat):Res:=match Vbcnab.storming s q v .all with
 |none=>.error (16,s)
 |some u=>.ok u
def Ly(t:Ad):Sp:=λvs H Q _=>∃(m:ae)(s:Vbcnab.State)(k:Int)(u:af)(q:Nat),vs=[.ref m.a,.ref u.a,.int q]/\Own H (m.cells t)/\Rep m s/\lk m.vlans k=some u/\q<m.sides.length/\c4 t H m (rF s q u.w.id) Q
theorem Hv(T:Txt K mg t):aX P w K mg base aY 1 t.vN t.tW ["switch","vlan","number"] (Ly t):=by
 refine T.tJ.fn.ok Br (λvs H Q E h=>?_) (λcdv A outer s0 H vs Q E hr h=>?_)
 .obtain⟨m,s,k,u,q,rfl,_⟩:=h
  rfl
 .obtain⟨m,s,kk,u,q,rfl,hO,rep,hv,hq,k⟩:=h
  have hu:=bC hr
  have nd:=Br.nd
  have ov:=ae.cA rep.vk hO hv
  have ok:=rep.at hv
  obtain⟨sd,hsd⟩:∃sd,m.sides[q]? =some sd:=⟨_,List.getElem?_eq_getElem hq⟩
  have hat:bY (m.sides.map λp=>V.ref p.a) (q:Int)=some (V.ref sd.a):=cS (by rw[List.getElem?_map,hsd];rfl)
  have pat:=ok.L1 hq
  have hatp:bY (u.spread.map V.int) (q:Int)=some (V.int ((Vbcnab.spread s q u.w.id:Nat):Int)):=cS (by rw[List.getElem?_map,pat];rfl)
  have es:rF s q u.w.id=match sd.s.storm with
   |some n=>if Vbcnab.spread s q u.w.id<n then .ok (Vbcnab.addSpread s q u.w.id) else .error (16,s)
   |none=>.ok (Vbcnab.addSpread s q u.w.id):=by
   unfold rF Vbcnab.storming
   rw[if_pos rfl,d4 rep hsd]
   cases sd.s.storm with
   |none=>rfl
   |some n=>
    simp only[]
    by_cases z:Vbcnab.spread s q u.w.id<n
    .rw[if_pos z,if_pos z]
    .rw[if_neg z,if_neg z]
  rw[es] at k
  have go:c4 t H m (.ok (Vbcnab.addSpread s q u.w.id)) Q->(0:Int)<=(q:Int)/\∃x,(u.spread.map V.int)[((q:Int)).toNat]? =some x/\lO (λi j=>i+j) x (V.int 1) H λz H5=>∃xs,H5 u.cU=some (.lst xs)/\∃j,eN xs.length (q:Int)=some j/\Q (.int 0) (upd H5 u.cU (.lst (xs.set j z))):=λk=>by
   refine⟨by omega,V.int ((Vbcnab.spread s q u.w.id:Nat):Int),by rw[Int.toNat_natCast,List.getElem?_map,pat];rfl,?_⟩
   rw[pG]
   refine⟨_,af.sJ t ov,q,?_,?_⟩
   .rw[List.length_map,ok.pl]
    have z:=j_ (n:=m.sides.length) (i:=(q:Int)) (by omega)
    rw[Int.toNat_natCast] at z;exact z
   .have em:(u.spread.map V.int).set q (V.int (((Vbcnab.spread s q u.w.id:Nat):Int)+1))=(u.spread.set q (((Vbcnab.spread s q u.w.id:Nat):Int)+1)).map V.int:=by rw[List.map_set]
    rw[em]
    exact k _ _ (ae.d7 rep.vk hO hv (af.Ma (t:=t) ov _)) (Keeps.set _ _ _) (rep.addSpread hv q)
  refine⟨_,ai (bg (i:=3) nd rfl (Or.inl rfl) (ak (aO bP (ak (pv 0) rfl) (pv 2) (λ_ _=>rfl)) rfl)) (ai (aw (PW.pt (eR (aU fB (pv 3) (aI rfl T.nH) (aQ _)) (eT (aU jf (aO bP (ak (pv 1) rfl) (pv 2) (λ_ _=>rfl)) (pv 3) (aQ _))))) (ao (aq (aI rfl T.Dj))) (ay)) (ai (zq (ak (pv 1) rfl) (pv 2) xx (aj) lP set_list) (ao (aq (aI rfl T.fk))))),?_⟩
  show aW _ _ _ [some (.ref m.a),some (.ref u.a),some (.int q),none] H
  simp only[seval,ae.at t hO,ae.bZ t hO,hat,aA.at t (ae.cx hO hsd),af.at t ov,af.sJ t ov,hatp]
  cases hst:sd.s.storm with
  |none=>
   rw[hst] at k
   show if¬(-1:Int)=-1 then _ else _
   rw[if_neg (λz=>z rfl)]
   exact go k
  |some n=>
   rw[hst] at k
   have k:c4 t H m (if Vbcnab.spread s q u.w.id<n then .ok (Vbcnab.addSpread s q u.w.id) else .error (16,s)) Q:=k
   show if¬(n:Int)=-1 then _ else _
   rw[if_pos (by omega)]
   show if(n:Int)<=((Vbcnab.spread s q u.w.id:Nat):Int) then _ else _
   refine az (λh1=>?_) (λh1=>?_)
   .rw[if_neg (by omega)] at k
    exact k H m (Step.refl hO) (Keeps.refl m) rep
   .rw[if_pos (by omega)] at k
    exact go k
structure Fr(t:Ad)(H:Hp)(m:ae)(s:Vbcnab.State)(f:cQ)(sd:Option Nat)(v to src:Nat):Prop where
 own:Own H (m.cells t)
 rep:Rep m s
 hf:H f.a=some (.ins t.Frame f.d (cV f))
 fs:f.side=oI sd
 fv:f.v=(v:Int)
 ft:f.to=(to:Int)
 fa:f.src=(src:Int)
 lt:∀q,sd=some q->q<m.sides.length
 hv:v≠0->∃u,lk m.vlans (v:Int)=some u
theorem KP(a:Nat):decide (1652522221568<=(a:Int)/\(a:Int)<=1652522221583)=Vbcnab.reserved a:=by
 unfold Vbcnab.reserved
 rw[<-Bool.decide_and]
 exact decide_eq_decide.mpr (by omega)
def D0(e:Except Nat (Nat×Nat)):Nat:=match e with
 |.error c=>c
 |.ok _=>0
def LQ(t:Ad):Sp:=λvs H Q _=>∃(m:ae)(s:Vbcnab.State)(f:cQ)(sd:Option Nat)(v to src:Nat),vs=[.ref m.a,.ref f.a]/\Fr t H m s f sd v to src/\Q (.int (D0 (dh s sd v to src):Int)) H
theorem HN(T:Txt K mg t):aX P w K mg base aY 2 t.wA t.uH ["switch","frame"] (LQ t):=by
 refine T.zY.fn.ok BN (λvs H Q E h=>?_) (λcdv A outer s0 H vs Q E hr h=>?_)
 .obtain⟨m,s,f,sd,v,to,src,rfl,_⟩:=h
  rfl
 .obtain⟨m,s,f,sd,v,to,src,rfl,⟨hO,rep,hf,fs,fv,ft,fa,lt,hvx⟩,k⟩:=h
  have hu:=bC hr
  have nd:=BN.nd
  refine⟨_,ai (aw (aU bb (ak (pv 1) rfl) (aI rfl T.fN) (aQ _)) (ao (aq (aI rfl T.Dg))) (ay)) (ai (aw (aU bb (ak (pv 1) rfl) (ak (pv 0) rfl) (aQ _)) (ao (aq (aI rfl T.CP))) (ay)) (ai (aw (PW.pt (gC (aU bb (ak (pv 1) rfl) (aj) (aQ _)) (gD (bD (aD T.lR (oT T) (hr.mono (by decide)) rfl (aa (ak (pv 1) rfl) ah)))))) (ao (aq (aI rfl T.Dp))) (ay)) (ai (aw (aU bb (ak (pv 1) rfl) (aI rfl T.ie) (aQ _)) (ao (aq (aI rfl T.De))) (ay)) (ai (aw (bD (aD T.oo (yJ T) (hr.mono (by decide)) rfl (aa (ak (pv 1) rfl) ah))) (ao (aq (aI rfl T.Dk))) (ay)) (ai (bg (i:=2) nd rfl (Or.inl rfl) (bT hu (ak (pv 0) rfl) (ak (pv 1) rfl) (λ_ _=>rfl))) (ai (aw (aU bb (aO bP (ak (pv 2) rfl) (ak (pv 1) rfl) (λ_ _=>rfl)) (aI rfl T.nE) (aQ _)) (ao (aq (aI rfl T.CW))) (ay)) (ai (aw (aU bb (aO bP (ak (pv 2) rfl) (ak (pv 1) rfl) (λ_ _=>rfl)) (aj) (aQ _)) (ao (aq (aI rfl T.Dn))) (ay)) (ao (aq (aI rfl T.fk)))))))))),?_⟩
  show aW _ _ _ [some (.ref m.a),some (.ref f.a),none] H
  simp only[seval,hf,fs,ae.at t hO]
  cases sd with
  |none=>
   show if(-1:Int)=-1 then _ else _
   rw[if_pos rfl];exact k
  |some q=>
   have hq:=lt q rfl
   show if(q:Int)=-1 then _ else _
   rw[if_neg (by omega)]
   show if(q:Int)=oI m.mirror then _ else _
   have mq:(q:Int)=oI m.mirror↔s.mirror=some q:=by
    rw[rep.mirror]
    cases m.mirror with
    |none=>constructor<;>intro z<;>simp[oI] at z
    |some y=>constructor<;>intro z<;>simp[oI] at z⊢<;>omega
   unfold dh at k
   simp only[] at k
   refine az (λh1=>?_) (λh1=>?_)
   .rw[if_pos (mq.mp h1)] at k;exact k
   rw[if_neg (λz=>h1 (mq.mpr z))] at k
   rw[fa]
   have eg:=lJ (a:=(src:Int)) (by omega)
   rw[Int.toNat_natCast] at eg
   refine az (λh2=>?_) (λh2=>?_)
   .rw[if_pos (.inl (by omega))] at k;exact k
   refine⟨[(src:Int)],rfl,rfl,?_⟩
   simp only[seval,List.getD_cons_zero,eg,hf,fv,ft]
   refine az (λh3=>?_) (λh3=>?_)
   .rw[if_pos (.inr h3)] at k;exact k
   rw[if_neg (λz=>z.elim (λy=>h2 (by omega)) h3)] at k
   refine az (λh4=>?_) (λh4=>?_)
   .rw[if_pos (by omega)] at k;exact k
   rw[if_neg (by omega)] at k
   refine⟨[(to:Int)],rfl,rfl,?_⟩
   obtain⟨u,hv⟩:=hvx (by omega)
   have hid:u.w.id=v:=by have:=rep.key hv;omega
   have ov:=ae.cA rep.vk hO hv
   have ok:=rep.at hv
   have hatg:bY (u.gates.map V.int) (q:Int)=some (V.int ((Vbcnab.gateOf s q u.w.id:Nat):Int)):=cS (by rw[List.getElem?_map,ok.n8 hq];rfl)
   have hats:bY (u.a_.map V.int) (q:Int)=some (V.int (bI (Vbcnab.isShut s q u.w.id))):=cS (by rw[List.getElem?_map,ok.rB hq];rfl)
   simp only[seval,List.getD_cons_zero,KP,hf,fv,ae.at t hO]
   refine az (λh5=>?_) (λh5=>?_)
   .rw[if_pos h5] at k;exact k
   rw[if_neg h5,<-hid] at k
   refine⟨_,by have z:=bu (ae.bJ t hO) (v:Int);rw[hv] at z;exact z,?_⟩
   simp only[seval,hf,fs,oI,af.at t ov,af.k9 t ov,hatg,af.jG t ov,hats]
   refine az (λh6=>?_) (λh6=>?_)
   .rw[if_pos (by omega)] at k;exact k
   rw[if_neg (by omega)] at k
   have n5:∀b:Bool,bI b=1↔b=true:=λb=>by cases b<;>simp[bI]
   refine az (λh7=>?_) (λh7=>?_)
   .rw[if_pos ((n5 _).mp h7)] at k;exact k
   .rw[if_neg (λz=>h7 ((n5 _).mpr z))] at k;exact k
def LR(t:Ad):Sp:=λvs H Q _=>∃(m:ae)(s:Vbcnab.State)(u:af)(q:Nat)(f:cQ)(to src:Nat),vs=[.ref m.a,.ref f.a]/\At t H m s u q f to src/\c4 t H m (behind s q u.w.id to) Q
theorem HP(T:Txt K mg t):aX P w K mg base aY 2 t.wB t.uI ["switch","frame"] (LR t):=by
 refine T.zZ.fn.ok BO (λvs H Q E h=>?_) (λcdv A outer s0 H vs Q E hr h=>?_)
 .obtain⟨m,s,u,q,f,to,src,rfl,_⟩:=h
  rfl
 .obtain⟨m,s,u,q,f,to,src,rfl,⟨hO,rep,hv,hq,hf,fs,ft,fa⟩,k⟩:=h
  have hu:=bC hr
  have nd:=BO.nd
  have ov:=ae.cA rep.vk hO hv
  have ok:=rep.at hv
  have hatg:bY (u.gates.map V.int) (q:Int)=some (V.int ((Vbcnab.gateOf s q u.w.id:Nat):Int)):=cS (by rw[List.getElem?_map,ok.n8 hq];rfl)
  obtain⟨_,_,aall,anow⟩:=rep.su hv to
  unfold behind at k
  refine⟨_,ai (bg (i:=2) nd rfl (Or.inl rfl) (bT hu (ak (pv 0) rfl) (ak (pv 1) rfl) (λ_ _=>rfl))) (ai (aw (aU bb (aO bP (ak (pv 2) rfl) (ak (pv 1) rfl) (λ_ _=>rfl)) (aI rfl T.CY) (aQ _)) (ao (aq (aI rfl T.Df))) (ay)) (ai (aw (bD (aD T.xT (HA T) (hr.mono (by decide)) rfl (aa (pv 2) (aa (ak (pv 1) rfl) ah)))) (ao (aq (aD T.tJ (Hv T) (hr.mono (by decide)) rfl (aa (pv 0) (aa (pv 2) (aa (ak (pv 1) rfl) ah)))))) (ay)) (ai (aw (aU bb (bW dN rfl T.len PySem.boot_len (aa (aD T.rD (yM T) (hr.mono (by decide)) rfl (aa (pv 0) (aa (pv 2) (aa (ak (pv 1) rfl) ah)))) ah)) (aj) (aQ _)) (ao (aq (aI rfl T.CV))) (ay)) (ao (aq (aI rfl T.fk)))))),?_⟩
  show aW _ _ _ [some (.ref m.a),some (.ref f.a),none] H
  simp only[seval,hf,ae.at t hO]
  refine⟨_,by have z:=bu (ae.bJ t hO) f.v;rw[hv] at z;exact z,?_⟩
  simp only[seval,hf,fs,ft,af.at t ov,af.k9 t ov,hatg]
  refine az (λh1=>?_) (λh1=>?_)
  .rw[if_pos (by omega)] at k;exact k H m (Step.refl hO) (Keeps.refl m) rep
  rw[if_neg (by omega)] at k
  refine⟨u,to,rfl,ov,?_⟩
  simp only[seval,hf,fs,ft]
  have isp:((lk u.groups (to:Int)).isNone&&(lk u.rows (to:Int)).isNone)=true↔(lk u.groups (to:Int)=none/\lk u.rows (to:Int)=none):=by
   rw[Bool.and_eq_true,Option.isNone_iff_eq_none,Option.isNone_iff_eq_none]
  refine az (λh2=>?_) (λh2=>?_)
  .have ea:=aall.mpr (isp.mp h2)
   rw[ea,if_neg (by intro z;cases z)] at k
   exact⟨m,s,f.v,u,q,rfl,hO,rep,hv,hq,k⟩
  .have h2':=λz=>h2 (isp.mpr z)
   have ena:¬Vbcnab.aim s u.w.id to=.all:=λz=>h2' (aall.mp z)
   refine⟨m,s,f.v,u,to,rfl,hO,rep,hv,λH1 p1 sm1 hp1=>?_⟩
   simp only[seval,hp1,List.length_map]
   refine az (λh3=>?_) (λh3=>?_)
   .rw[if_pos (anow.mpr ⟨List.length_eq_zero_iff.mp (by omega),h2'⟩)] at k
    exact k H1 m (Step.same hO sm1) (Keeps.refl m) rep
   .have nn:¬Vbcnab.aim s u.w.id to=.nowhere:=λz=>h3 (by rw[(anow.mp z).1];rfl)
    have es:Vbcnab.storming s q u.w.id (Vbcnab.aim s u.w.id to)=some s:=by unfold Vbcnab.storming;rw[if_neg ena]
    rw[if_neg nn,es] at k
    exact k H1 m (Step.same hO sm1) (Keeps.refl m) rep
theorem yb{s:Vbcnab.State}{q v a:Nat}{x:Nat×Vbcnab.State}(h:Vbcnab.learn s q v a=.error x):x.1≠0/\x.1<=13/\3<=x.1:=by
 unfold Vbcnab.learn at h
 simp only[] at h
 repeat' split at h
 all_goals first|(cases h;refine⟨?_,?_,?_⟩<;>simp)|cases h
theorem vv{s:Vbcnab.State}{sd:Option Nat}{v to src:Nat}{c:Nat}(h:dh s sd v to src=.error c):c≠0/\3<=c/\c<=9:=by
 unfold dh at h
 cases sd with
 |none=>cases h;decide
 |some q=>
  simp only[] at h
  repeat' split at h
  all_goals first|(cases h;decide)|cases h
theorem vy{s:Vbcnab.State}{sd:Option Nat}{v to src:Nat}{x:Nat×Nat}(h:dh s sd v to src=.ok x):sd=some x.1/\x.2=v/\v≠0/\Vbcnab.isGroup src=false:=by
 unfold dh at h
 cases sd with
 |none=>cases h
 |some q=>
  simp only[] at h
  split at h
  .cases h
  .split at h
   .cases h
   .rename_i h2
    split at h
    .cases h
    .rename_i h3
     split at h
     .cases h
     .split at h
      .cases h
      .split at h
       .cases h
       .cases h
        refine⟨rfl,rfl,h3,?_⟩
        cases e:Vbcnab.isGroup src with
        |false=>rfl
        |true=>exact absurd (.inr e) h2
theorem Keeps.lk{m m':ae}(k:Keeps m m'){v:Int}{u:af}(h:L2.lk m.vlans v=some u):∃u',L2.lk m'.vlans v=some u':=by
 cases e:L2.lk m'.vlans v with
 |some u'=>exact⟨u',rfl⟩
 |none=>
  have z:=gw.mp e
  rw[k.keys] at z
  exact absurd (List.mem_map.mpr ⟨_,b0 h,rfl⟩) z
def kO(t:Ad):Sp:=λvs H Q _=>∃(m:ae)(s:Vbcnab.State)(f:cQ)(sd:Option Nat)(v to src:Nat),vs=[.ref m.a,.ref f.a]/\Fr t H m s f sd v to src/\f.a∉adr (m.cells t)/\c4 t H m (pass s sd v to src) Q
theorem HL(T:Txt K mg t):aX P w K mg base aY 5 t.wu t.uD ["switch","frame"] (kO t):=by
 refine T.yY.fn.ok BJ (λvs H Q E h=>?_) (λcdv A outer s0 H vs Q E hr h=>?_)
 .obtain⟨m,s,f,sd,v,to,src,rfl,_⟩:=h
  rfl
 .obtain⟨m,s,f,sd,v,to,src,rfl,fr,hfn,k⟩:=h
  obtain⟨hO,rep,hf,fs,fv,ft,fa,lt,hvx⟩:=id fr
  have hu:=bC hr
  have nd:=BJ.nd
  unfold pass at k
  refine⟨_,ai (bg (i:=2) nd rfl (Or.inl rfl) (aD T.zY (HN T) (hr.mono (by decide)) rfl (aa (pv 0) (aa (pv 1) ah)))) (ai (aw (aU bb (pv 2) (aI rfl T.fk) (aQ _)) (ao (bg (i:=2) nd rfl (Or.inl rfl) (aD T.learn (HC T) (hr.mono (by decide)) rfl (aa (pv 0) (aa (pv 1) ah))))) (ay)) (ai (aw (aU bb (pv 2) (aI rfl T.fk) (aQ _)) (ao (bg (i:=2) nd rfl (Or.inl rfl) (aD T.zZ (HP T) (hr.mono (by decide)) rfl (aa (pv 0) (aa (pv 1) ah))))) (ay)) (ao (aq (pv 2))))),?_⟩
  show aW _ _ _ [some (.ref m.a),some (.ref f.a),none] H
  simp only[seval,aE]
  refine⟨m,s,f,sd,v,to,src,rfl,fr,?_⟩
  simp only[seval,aE]
  cases he:dh s sd v to src with
  |error c=>
   rw[he] at k
   have hc:=(vv he).1
   have k:c4 t H m (.error (c,s)) Q:=k
   show if((c:Nat):Int)=0 then _ else _
   rw[if_neg (by omega)]
   show if((c:Nat):Int)=0 then _ else _
   rw[if_neg (by omega)]
   exact k H m (Step.refl hO) (Keeps.refl m) rep
  |ok x=>
   rw[he] at k
   obtain⟨e1,e2,hv0,ng⟩:=vy he
   obtain⟨q,v'⟩:=x
   simp only[] at e1 e2
   subst e2
   have hq:=lt q e1
   obtain⟨u,hv⟩:=hvx hv0
   have hid:u.w.id=v':=by have:=rep.key hv;omega
   obtain⟨sdm,hsd⟩:∃sd,m.sides[q]? =some sd:=⟨_,List.getElem?_eq_getElem hq⟩
   have fsq:f.side=(q:Int):=by rw[fs,e1];rfl
   have k:c4 t H m (match Vbcnab.learn s q v' src with|.error e=>.error e|.ok t=>behind t q v' to) Q:=k
   show if(0:Int)=0 then _ else _
   rw[if_pos rfl]
   refine⟨m,s,u,q,sdm,f,src,rfl,⟨hO,rep,by rw[fv];exact hv,hsd,hf,fsq,fa,ng⟩,λH1 m1 st1 ks1 r1=>?_⟩
   simp only[seval,aE]
   rw[hid] at r1⊢
   cases hl:Vbcnab.learn s q v' src with
   |error x=>
    rw[hl] at k r1
    have hx:=(yb hl).1
    show if((x.1:Nat):Int)=0 then _ else _
    rw[if_neg (by omega)]
    exact k H1 m1 st1 ks1 r1
   |ok s1=>
    rw[hl] at k r1
    have r1:Rep m1 s1:=r1
    have k:c4 t H m (behind s1 q v' to) Q:=k
    show if(0:Int)=0 then _ else _
    rw[if_pos rfl]
    obtain⟨u1,hv1⟩:=ks1.lk hv
    have hid1:u1.w.id=v':=by have:=r1.key hv1;omega
    refine⟨m1,s1,u1,q,f,to,src,by rw[ks1.a],⟨st1.own,r1,by rw[fv];exact hv1,by rw[ks1.sides];exact hq,st1.keep hf hfn,fsq,ft,fa⟩,λH2 m2 st2 ks2 r2=>?_⟩
    rw[hid1] at r2
    rw[hid1]
    exact k H2 m2 (st1.trans st2) (ks1.trans ks2) r2
end
end Sw
namespace Sw
open PySem PySem.Spec PyProof.Rows L2
theorem CL{t:Vbcnab.State}{q v to:Nat}{x:Nat×Vbcnab.State}(h:behind t q v to=.error x):14<=x.1/\x.1<=16:=by
 unfold behind at h
 repeat' split at h
 all_goals first|(cases h;refine⟨?_,?_⟩<;>simp)|cases h
theorem IA{s:Vbcnab.State}{sd:Option Nat}{v to src:Nat}{x:Nat×Vbcnab.State}(h:pass s sd v to src=.error x):3<=x.1/\x.1<=16:=by
 unfold pass at h
 cases he:dh s sd v to src with
 |error c=>rw[he] at h;cases h;have:=vv he;exact⟨this.2.1,by have:=this.2.2;show c<=16;omega⟩
 |ok y=>
  rw[he] at h
  obtain⟨q,v'⟩:=y
  simp only[] at h
  cases hl:Vbcnab.learn s q v' src with
  |error e=>rw[hl] at h;cases h;have:=yb hl;omega
  |ok s1=>rw[hl] at h;have:=CL h;omega
def fL(to src tag rank:Int):Prop:=(0<=to/\to<=281474976710655)/\(0<=src/\src<=281474976710655)/\((tag=-1/\rank=0)\/(tag≠-1/\(0<=tag/\tag<=4095)/\(0<=rank/\rank<=7)))
instance(a b c d:Int):Decidable (fL a b c d):=by unfold fL;exact inferInstance
theorem CK(to src tag rank:Int):(Vbcnab.most48 to&&(Vbcnab.most48 src&&(decide (-1<=tag/\tag<=4095)&&(decide (0<=rank/\rank<=7)&&(tag != -1||rank==0)))))=decide (fL to src tag rank):=by
 unfold Vbcnab.most48
 rw[bS,bS,nW]
 have e:(tag != -1||rank==0)=decide (tag≠-1\/rank=0):=by
  by_cases a:tag=-1<;>by_cases b:rank=0<;>simp[a,b]
 rw[e,<-Bool.decide_and,<-Bool.decide_and,<-Bool.decide_and,<-Bool.decide_and]
 refine decide_eq_decide.mpr ⟨λh=>⟨h.1,h.2.1,?_⟩,λh=>⟨h.1,h.2.1,?_⟩⟩
 .by_cases z:tag=-1
  .exact .inl ⟨z,by have:=h.2.2.2.2;omega⟩
  .exact .inr ⟨z,by have:=h.2.2.1;omega,h.2.2.2.1⟩
 .rcases h.2.2 with z|z
  .exact⟨by omega,by omega,.inr z.2⟩
  .exact⟨by omega,z.2.2,.inl z.1⟩
section
variable{P:Program}{w:World}{K:PySem.W.Frag}{mg:Str->Option Value}{base:Heap}{t:Ad}
theorem HI(T:Txt K mg t):aX P w K mg base aY 2 t.wo t.uA ["to","source","tag","rank"] (kP 4 λxs=>decide (fL (xs.getD 0 0) (xs.getD 1 0) (xs.getD 2 0) (xs.getD 3 0))):=by
 refine T.yu.fn.ok Oi (λvs H Q E h=>?_) (λcdv A outer s0 H vs Q E hr h=>?_)
 .obtain⟨xs,hl,rfl,_⟩:=h
  simp[hl]
 .obtain⟨xs,hl,rfl,k⟩:=h
  obtain⟨to,src,tag,rank,rfl⟩:∃a b c d,xs=[a,b,c,d]:=match xs,hl with|[a,b,c,d],_=>⟨a,b,c,d,rfl⟩
  have k:Q (.bl (decide (fL to src tag rank))) H:=k
  have no:¬fL to src tag rank->Q (.bl false) H:=λz=>by rw[decide_eq_false z] at k;exact k
  refine⟨_,ai (aw (bF (PW.pt (eR (bD (aD T.j9 (l9 T) (hr.mono (by decide)) rfl (aa (pv 0) ah))) (eT (bD (aD T.j9 (l9 T) (hr.mono (by decide)) rfl (aa (pv 1) ah))))))) (ao (aq (ji))) (ay)) (ai (aw (aU bb (pv 2) (aI rfl T.lh) (aQ _)) (ao (aq (fC bb (pv 3) (aj) (aQ _)))) (ay)) (ao (aq (iC (jj bB bB (aj) (pv 2) (aI rfl T.C5)) (kD (jj bB bB (aj) (pv 3) (aI rfl T.sW))))))),?_⟩
  show aW _ _ _ [some (.int to),some (.int src),some (.int tag),some (.int rank)] H
  simp only[seval,aE]
  refine⟨[to],rfl,rfl,?_⟩
  simp only[seval,List.getD_cons_zero]
  refine az (λh0=>?_) (λh0=>no λz=>h0 z.1)
  refine⟨[src],rfl,rfl,?_⟩
  simp only[seval,List.getD_cons_zero]
  refine az (λh1=>no λz=>h1 z.2.1) (λh1=>?_)
  have h1:=Decidable.not_not.mp h1
  refine az (λh2=>?_) (λh2=>?_)
  .have e:decide (fL to src tag rank)=decide (rank=0):=decide_eq_decide.mpr ⟨λz=>z.2.2.elim (λy=>y.2) λy=>absurd h2 y.1,λz=>⟨h0,h1,.inl ⟨h2,z⟩⟩⟩
   rw[e] at k;exact k
  .refine az (λh3=>?_) (λh3=>no λz=>z.2.2.elim (λy=>h2 y.1) λy=>h3 y.2.1)
   have e:decide (fL to src tag rank)=(decide (0<=rank)&&decide (rank<=7)):=by
    rw[<-Bool.decide_and]
    exact decide_eq_decide.mpr ⟨λz=>z.2.2.elim (λy=>absurd y.1 h2) λy=>y.2.2,λz=>⟨h0,h1,.inr ⟨h2,h3,z⟩⟩⟩
   rw[e] at k;exact k
def LZ(t:Ad):Sp:=λvs H Q _=>∃(x:aA)(tag:Int),vs=[.ref x.a,.int tag]/\Own H (x.cells t)/\cI x/\ -1<=tag/\Q (.int ((Vbcnab.inner x.s tag).getD 0:Int)) H
theorem Iq(T:Txt K mg t):aX P w K mg base aY 1 t.xg t.vg ["side","tag"] (LZ t):=by
 refine T.Bf.fn.ok Ot (λvs H Q E h=>?_) (λcdv A outer s0 H vs Q E hr h=>?_)
 .obtain⟨x,tag,rfl,_⟩:=h
  rfl
 .obtain⟨x,tag,rfl,hO,ok,ht,k⟩:=h
  have hu:=bC hr
  refine⟨_,ai (aw (PW.pt (gC (aU bb (pv 1) (aI rfl T.lh) (aQ _)) (gD (aU bb (pv 1) (aI rfl T.CQ) (aQ _))))) (ao (aq (ak (pv 0) rfl))) (ay)) (ao (aq (ID hu (ak (pv 0) rfl) (pv 1) (aI rfl T.ie) ⟨rfl,rfl,rfl,rfl⟩))),?_⟩
  show aW _ _ _ [some (.ref x.a),some (.int tag)] H
  simp only[seval,aA.at t hO]
  have nat:tag<=0->Q (.int (x.s.native_:Int)) H:=λz=>by
   unfold Vbcnab.inner at k
   rw[if_pos z] at k
   by_cases y:x.s.native_=0
   .rw[if_pos y] at k;rw[y];exact k
   .rw[if_neg y] at k;exact k
  refine az (λh0=>nat (by omega)) (λh0=>?_)
  refine az (λh1=>nat (by omega)) (λh1=>?_)
  refine⟨.inl ⟨_,.inl (aA.dJ t hO)⟩,_,bu (aA.dJ t hO) tag,?_⟩
  unfold Vbcnab.inner at k
  rw[if_neg (by omega)] at k
  rw[ok.nA tag]
  cases hf:x.s.pairs.find? λy=>(y.1:Int)==tag with
  |none=>rw[hf] at k;exact k
  |some y=>rw[hf] at k;exact k
def Lq(t:Ad):Sp:=λvs H Q _=>∃(x d:Addr)(a b c e:Int),vs=[.ref x,.int a,.int b,.int c,.int e]/\H x=some (.ins t.Frame d [])/\∀H':Hp,H' x=some (.ins t.Frame d (cV ⟨x,d,a,b,c,e,-1,0⟩))->(∀b o,H b=some o->b≠x->H' b=some o)->Q .bj H'
theorem He(T:Txt K mg t):aX P w K mg base aY 1 t.jZ t.jQ ["self","to","source","tag","rank"] (Lq t):=by
 refine T.Ey.ok NY (λvs H Q E h=>?_) (λcdv A outer s0 H vs Q E hr h=>?_)
 .obtain⟨x,d,a,b,c,e,rfl,_⟩:=h
  rfl
 .obtain⟨x,d,a,b,c,e,rfl,hx,k⟩:=h
  refine⟨_,ai (bx (pv 0) (pv 1) rfl) (ai (bx (pv 0) (pv 2) rfl) (ai (bx (pv 0) (pv 3) rfl) (ai (bx (pv 0) (pv 4) rfl) (ai (bx (pv 0) (aI rfl T.fN) rfl) (ao (bx (pv 0) (aI rfl T.ie) rfl)))))),?_⟩
  show aW _ _ _ [some (.ref x),some (.int a),some (.int b),some (.int c),some (.int e)] H
  simp only[seval,hx]
  refine⟨by show 0<1000;decide,by show 1<1000;decide,by show 2<1000;decide,by show 3<1000;decide,by show 4<1000;decide,by show 5<1000;decide,?_⟩
  refine k _ (aN.trans rfl) λb o hb hne=>?_
  rw[aF hne,aF hne,aF hne,aF hne,aF hne,aF hne];exact hb
theorem Mc{H:Hp}{m:ae}{i:Nat}{x:ba}(h:Own H (m.cells t))(hi:m.ports[i]? =some x)(dr:List Nat):Step H (m.cells t) (upd H x.gh (.lst (dr.map λ(n:Nat)=>V.int n))) ((m.setPort i {x with p:={x.p with drops:=dr} }).cells t):=by
 have o:=ae.dZ h hi
 exact ae.Ar (y:={x with p:={x.p with drops:=dr} }) h hi rfl (Step.cell (A:=[(x.a,.ins t.Port x.d (cK x))]) (B:=[]) o rfl rfl)
theorem tw{α:Type}(f:α->α):∀{l:List α}{i:Nat}{x:α},l[i]? =some x->Vbcnab.changeAt l i f=l.set i (f x)
 |[],_,_,h=>by simp at h
 |a::l,0,x,h=>by
  have e:a=x:=Option.some.inj h
  rw[e];rfl
 |a::l,i+1,x,h=>congrArg (List.cons a) (tw f (l:=l) (i:=i) h)
def mG(K:PySem.W.Frag)(t:Ad)(Q:VK)(ma pa x:Addr)(no:Nat)(H4:Hp):Prop:=
 if¬(no:Int)=0 then i5 K "dropped" (.ref pa) H4 λv H4=>mE v (V.int ((no:Int) -3)) H4 λx3 H3=>lO (λi j=>i+j) x3 (V.int 1) H3 λz H5=>∃p,v=V.ref p/\∃xs,H5 p=some (.lst xs)/\∃j,eN xs.length ((no:Int) -3)=some j/\∀p1,upd H5 p (.lst (xs.set j z)) p1=none->Q (.ref p1) (upd (upd H5 p (.lst (xs.set j z))) p1 (.lst [V.int (-(no:Int))]))
 else∃C dx fs,H4 pa=some (.ins C dx fs)/\cp K C/\aT K C "passed"/\∃v,fs.lookup ("passed":Str)=some v/\pC v (V.int 1) H4 λz H3=>∃dx' fs',H3 pa=some (.ins C dx' fs')/\fs'.length<1000/\Ao t [V.ref ma,V.ref x] (upd H3 pa (.ins C dx' (bc "passed" z fs'))) Q E0
theorem zW(T:Txt K mg t){H H3 H4:Hp}{m m1 m4:ae}{s s1:Vbcnab.State}{Q:VK}{f:cQ}{n to src rank:Nat}{sd:Option Nat}{v:Nat}{pt1:ba}(am1:m1.a=m.a)(st3:Step H (m.cells t) H3 (m1.cells t))(r1:Rep m1 s1)(hs1:Vbcnab.onPort s n (λx=>{x with taken:=x.taken+1})=s1)(hpt1:m1.ports[n]? =some pt1)(fr:Fr t H3 m1 s1 f sd v to src)(xn:f.a∉adr (m1.cells t))(he:Vbcnab.enter s1 n to src f.tag=dh s1 sd v to src)(hrk:f.tag≠-1->((rank:Nat):Int)=f.rank)(k:Kt t H m (Vbcnab.frame s n to src f.tag rank) Q)(st4:Step H3 (m1.cells t) H4 (m4.cells t))(ks4:Keeps m1 m4)(r4:Rep m4 (Res.st (pass s1 sd v to src))):mG K t Q m.a pt1.a f.a (Res.no (pass s1 sd v to src)) H4:=by
 rw[Ek hs1.symm he] at k
 have st:=st3.trans st4
 have am4:m4.a=m.a:=ks4.a.trans am1
 have hpt4:m4.ports[n]? =some pt1:=by rw[ks4.ports];exact hpt1
 have o4:=st.own
 have op:=ae.dZ o4 hpt4
 have aP:=ba.at t op
 have dP:=r4.eQ hpt4
 unfold mG
 cases hp:pass s1 sd v to src with
 |error x=>
  rw[hp] at k r4
  obtain⟨c,t'⟩:=x
  have hc:=IA hp
  simp only[] at hc
  have r4:Rep m4 t':=r4
  have k:Kt t H m (Vbcnab.dropped t' n c) Q:=k
  show if¬((c:Nat):Int)=0 then _ else _
  rw[if_pos (by omega)]
  rw[zS,aP]
  refine⟨T.lu,T.oM,?_⟩
  have hlt:c -3<pt1.p.drops.length:=by rw[dP.dl];omega
  obtain⟨dn,hdn⟩:∃d,pt1.p.drops[c -3]? =some d:=⟨_,List.getElem?_eq_getElem hlt⟩
  have ei:((c:Nat):Int) -3=((c -3:Nat):Int):=by omega
  show mE _ (V.int (((c:Nat):Int) -3)) _ _
  rw[ei,zT]
  refine⟨_,ba.ny t op,by omega,V.int (dn:Int),by rw[Int.toNat_natCast,List.getElem?_map,hdn];rfl,?_⟩
  rw[pG]
  refine⟨_,rfl,_,ba.ny t op,c -3,?_,?_⟩
  .show eN _ (((c:Nat):Int) -3)=_
   rw[List.length_map,ei]
   have z:=j_ (n:=pt1.p.drops.length) (i:=((c -3:Nat):Int)) (by omega)
   rw[Int.toNat_natCast] at z;exact z
  .have em:(pt1.p.drops.map λ(n:Nat)=>V.int n).set (c -3) (V.int ((dn:Int)+1))=(Vbcnab.changeAt pt1.p.drops (c -3) λn=>n+1).map λ(n:Nat)=>V.int n:=by
    rw[tw _ hdn,List.map_set];rfl
   rw[em]
   have st5:=Mc (t:=t) o4 hpt4 (Vbcnab.changeAt pt1.p.drops (c -3) λn=>n+1)
   have r5:=r4.port hpt4 (λx=>{x with drops:=Vbcnab.changeAt x.drops (c -3) λn=>n+1}) ⟨dP.lt,by show(Vbcnab.changeAt _ _ _).length=14;rw[nM];exact dP.dl⟩
   exact k.fin (st.trans st5) am4 rfl r5 rfl
 |ok t'=>
  rw[hp] at k r4
  have r4:Rep m4 t':=r4
  show if¬(0:Int)=0 then _ else _
  rw[if_neg (λz=>z rfl)]
  have ho:∃q,sd=some q/\v≠0:=by
   unfold pass at hp
   cases he':dh s1 sd v to src with
   |error c=>rw[he'] at hp;cases hp
   |ok y=>have z:=vy he';exact⟨y.1,z.1,z.2.2.1⟩
  obtain⟨q,rfl,hv0⟩:=ho
  obtain⟨u0,hu0⟩:=fr.hv hv0
  obtain⟨u,hu⟩:=ks4.lk hu0
  have hid:u.w.id=v:=by have:=r4.key hu;omega
  have hq:q<m4.sides.length:=by rw[ks4.sides];exact fr.lt q rfl
  have k:Kt t H m (jm t' n q v to src (if f.tag=-1 then(Vbcnab.sideAt t' q).rank else rank)) Q:=k
  rw[K4] at k
  refine⟨_,_,_,aP,T.lu,T.yE,_,rfl,?_⟩
  rw[zU]
  refine⟨_,_,aP,by show 6<1000;decide,?_⟩
  have ef:bc "passed" (V.int ((pt1.p.passed:Int)+1)) (cK pt1)=cK {pt1 with p:={pt1.p with passed:=pt1.p.passed+1} }:=rfl
  rw[ef]
  have st5:=jn (t:=t) (y:={pt1 with p:={pt1.p with passed:=pt1.p.passed+1} }) o4 hpt4 rfl rfl rfl rfl rfl
  have r5:=r4.port hpt4 (λx=>{x with passed:=x.passed+1}) ⟨dP.lt,dP.dl⟩
  have hf4:=st4.keep fr.hf xn
  have xn4:f.a∉adr (m4.cells t):=λz=>by
   rcases st4.new _ z with y|y
   .exact xn y
   .rw[fr.hf] at y;cases y
  have hf5:=st5.keep hf4 xn4
  have xn5:f.a∉adr ((m4.setPort n {pt1 with p:={pt1.p with passed:=pt1.p.passed+1} }).cells t):=λz=>by
   rcases st5.new _ z with y|y
   .exact xn4 y
   .rw[hf4] at y;cases y
  refine⟨m4.setPort n {pt1 with p:={pt1.p with passed:=pt1.p.passed+1} },Vbcnab.onPort t' n λx=>{x with passed:=x.passed+1},u,q,f,to,src,if f.tag=-1 then(Vbcnab.sideAt t' q).rank else rank,by rw[am4],⟨st5.own,r5,by rw[fr.fv];exact hu,hq,hf5,fr.fs,fr.ft,fr.fa⟩,xn5,?_,λH' m' p st6 ha rr hp=>k H' m' p ((st.trans st5).trans st6) (ha.trans am4) (by rw[hid] at rr;exact rr) (by rw[hid] at hp;exact hp)⟩
  unfold gE
  by_cases z:f.tag=-1
  .rw[if_pos z,if_pos z];rfl
  .rw[if_neg z,if_neg z];exact(hrk z).symm
theorem Ic(T:Txt K mg t):aX P w K mg base aY 7 t.wW t.uZ ["switch","number","to","source","tag","rank"] (cn t 5 λxs=>.frame (xs.getD 0 0) (xs.getD 1 0) (xs.getD 2 0) (xs.getD 3 0) (xs.getD 4 0)):=by
 refine T.A3.fn.ok B4 (λvs H Q E h=>?_) (λcdv A outer s0 H vs Q E hr h=>?_)
 .obtain⟨m,s,xs,hl,rfl,_⟩:=h
  simp[hl]
 .obtain⟨m,s,xs,hl,rfl,hO,rep,k⟩:=h
  obtain⟨n,to,src,tag,rank,rfl⟩:=lX hl
  have hu:=bC hr
  have nd:=B4.nd
  have k:Kt t H m (Vbcnab.doing s (.frame n to src tag rank)) Q:=k
  simp only[Vbcnab.doing,ck rep,rep.isPort,rep.isVlan,bS] at k
  refine⟨_,ai (aw (bF (bD (aD T.i9 (kr T) (hr.mono (by decide)) rfl (aa (pv 0) (aa (pv 1) ah))))) (ao (aq (aB (aa (bf bh (aj)) ah)))) (ay)) (ai (aw (bF (bD (aD T.yu (HI T) (hr.mono (by decide)) rfl (aa (pv 2) (aa (pv 3) (aa (pv 4) (aa (pv 5) ah))))))) (ao (aq (aB (aa (bf bh (aj)) ah)))) (ay)) (ai (bg (i:=6) nd rfl (Or.inl rfl) (aO bP (ak (pv 0) rfl) (pv 1) (λ_ _=>rfl))) (ai (iH (pv 6) (aj) iu) (ai (bg (i:=7) nd rfl (Or.inl rfl) (fD T.Gg (He T) (hr.mono (by decide)) rfl T.F1 T.CG .nil eA (aa (pv 2) (aa (pv 3) (aa (pv 4) (aa (pv 5) ah)))))) (ai (aw (PW.pt (eR (aU bb (ak (pv 6) rfl) (aj) (aQ _)) (eT (aU fB (ak (pv 6) rfl) (aI rfl T.fN) (aQ _))))) (ai (bx (pv 7) (ak (pv 6) rfl) rfl) (ao (bx (pv 7) (aD T.Bf (Iq T) (hr.mono (by decide)) rfl (aa (aO bP (ak (pv 0) rfl) (ak (pv 6) rfl) (λ_ _=>rfl)) (aa (pv 4) ah))) rfl))) (ay)) (ai (bg (i:=8) nd rfl (Or.inl rfl) (aD T.yY (HL T) (hr.mono (by decide)) rfl (aa (pv 0) (aa (pv 7) ah)))) (ai (aw (aU fB (pv 8) (aI rfl T.fk) (aQ _)) (ai (zq (ak (pv 6) rfl) (cG mf (pv 8) (aI rfl T.CS)) xx (aj) lP set_list) (ao (aq (aB (aa (bf bh (pv 8)) ah))))) (ay)) (ai (iH (pv 6) (aj) iu) (ao (aq (aD T.z7 (HQ T) (hr.mono (by decide)) rfl (aa (pv 0) (aa (pv 7) ah))))))))))))),?_⟩
  show aW _ _ _ [some (.ref m.a),some (.int n),some (.int to),some (.int src),some (.int tag),some (.int rank),none,none,none] H
  simp only[seval,aE]
  rw[CK] at k
  refine⟨m,n,rfl,hO,?_⟩
  simp only[seval,aE]
  refine az (λh0=>k.fin (Step.refl hO) rfl (if_pos (decide_eq_false h0)) rep rfl) (λh0=>?_)
  have h0:=Decidable.not_not.mp h0
  rw[if_neg (by simp[h0])] at k
  refine⟨[to,src,tag,rank],rfl,rfl,?_⟩
  have eb:(λxs:List Int=>decide (fL (xs.getD 0 0) (xs.getD 1 0) (xs.getD 2 0) (xs.getD 3 0))) [to,src,tag,rank]=decide (fL to src tag rank):=rfl
  rw[eb]
  obtain⟨pt,hpt,hat⟩:=dM (f:=λp:ba=>V.ref p.a) h0.1 h0.2
  simp only[seval,ae.at t hO,ae.fK t hO,hat,ba.at t (ae.dZ hO hpt)]
  refine az (λh1=>k.fin (Step.refl hO) rfl (if_pos (decide_eq_false h1)) rep rfl) (λh1=>?_)
  have h1:=Decidable.not_not.mp h1
  rw[if_neg (by simp[h1])] at k
  have ef:bc "taken" (V.int ((pt.p.taken:Int)+1)) (cK pt)=cK {pt with p:={pt.p with taken:=pt.p.taken+1} }:=rfl
  rw[ef]
  have st1:=jn (t:=t) (y:={pt with p:={pt.p with taken:=pt.p.taken+1} }) hO hpt rfl rfl rfl rfl rfl
  have r1:=rep.port hpt (λx=>{x with taken:=x.taken+1}) ⟨(rep.eQ hpt).lt,(rep.eQ hpt).dl⟩
  obtain⟨s1,hs1⟩:∃s1,Vbcnab.onPort s n.toNat (λx=>{x with taken:=x.taken+1})=s1:=⟨_,rfl⟩
  rw[hs1] at r1
  obtain⟨pt1,hp1⟩:∃p1:ba,{pt with p:={pt.p with taken:=pt.p.taken+1} }=p1:=⟨_,rfl⟩
  rw[hp1] at st1 r1⊢
  have ea1:pt1.a=pt.a/\pt1.d=pt.d:=by rw[<-hp1];exact⟨rfl,rfl⟩
  obtain⟨m1,hm1⟩:∃m1,m.setPort n.toNat pt1=m1:=⟨_,rfl⟩
  rw[hm1] at st1 r1
  have am1:m1.a=m.a:=by rw[<-hm1]
  have hnl:n.toNat<m.ports.length:=by omega
  have hpt1:m1.ports[n.toNat]? =some pt1:=by rw[<-hm1];show(m.ports.set n.toNat pt1)[n.toNat]? =_;rw[List.getElem?_set_self hnl]
  generalize upd H pt.a (HO.ins t.Port pt.d (cK pt1))=H1 at st1⊢
  have o1:=st1.own
  intro x dx hx hdx hne
  refine⟨x,dx,to,src,tag,rank,rfl,aN,λH2 hH2 hkeep=>⟨rfl,?_⟩⟩
  have sm2:au H1 H2:=au.made hx hdx hkeep
  have o2:=o1.same sm2
  have xn:x∉adr (m1.cells t):=o1.none hx
  have aPt:H2 pt.a=some (.ins t.Port pt.d (cK pt1)):=by rw[<-ea1.1,<-ea1.2];exact ba.at t (ae.dZ o2 hpt1)
  have st2:=st1.trans (Step.same o1 sm2)
  simp only[seval,aPt]
  have et:((to.toNat:Nat):Int)=to:=by have:=h1.1;omega
  have ec:((src.toNat:Nat):Int)=src:=by have:=h1.2.1;omega
  have erk:tag≠-1->((rank.toNat:Nat):Int)=rank:=λz=>by rcases h1.2.2 with y|y;exact absurd y.1 z;have:=y.2.2;omega
  have port1:s1.ports[n.toNat]? =some pt1.p:=by rw[r1.ports,List.getElem?_map,hpt1];rfl
  have dead:(pt1.p.up=false\/pt1.p.side=none)->kO t [.ref m.a,.ref x] H2 (λrv H4=>rv=.int (Res.no (pass s1 none 0 to.toNat src.toNat):Int)/\mG K t Q m.a pt.a x (Res.no (pass s1 none 0 to.toNat src.toNat)) H4) E0:=λhd=>by
   have fr:Fr t H2 m1 s1 ⟨x,dx,to,src,tag,rank,-1,0⟩ none 0 to.toNat src.toNat:=⟨o2,r1,hH2,rfl,rfl,et.symm,ec.symm,(λq hq=>by cases hq),λz=>absurd rfl z⟩
   refine⟨m1,s1,⟨x,dx,to,src,tag,rank,-1,0⟩,none,0,to.toNat,src.toNat,by rw[am1],fr,xn,λH4 m4 st4 ks4 r4=>⟨rfl,?_⟩⟩
   rw[<-ea1.1]
   exact zW T (f:=⟨x,dx,to,src,tag,rank,-1,0⟩) am1 st2 r1 hs1 hpt1 fr xn (D3 port1 hd 0) erk k st4 ks4 r4
  have wk:∀{A B:V->Hp->Prop}{H3:Hp},kO t [.ref m.a,.ref x] H3 A E0->(∀rv H4,A rv H4->B rv H4)->kO t [.ref m.a,.ref x] H3 B E0:=λh g=>by
   obtain⟨m',s',f',sd',v',to',src',e1,e2,e3,e4⟩:=h
   exact⟨m',s',f',sd',v',to',src',e1,e2,e3,λH4 m4 a b c=>g _ _ (e4 H4 m4 a b c)⟩
  refine az (λh2=>?_) (λh2=>?_)
  .refine az (λh3=>?_) (λh3=>?_)
   .have hup:pt1.p.up=true:=by cases e:pt1.p.up with|true=>rfl|false=>rw[e] at h2;have h2:(0:Int)=1:=h2;omega
    cases hsd:pt1.p.side with
    |none=>rw[hsd] at h3;exact absurd rfl h3
    |some q=>
     have hq:=(r1.eQ hpt1).lt q hsd
     obtain⟨sq,hsq⟩:∃sd,m1.sides[q]? =some sd:=⟨_,List.getElem?_eq_getElem hq⟩
     have hatq:bY (m1.sides.map λp=>V.ref p.a) (q:Int)=some (V.ref sq.a):=cS (by rw[List.getElem?_map,hsq];rfl)
     have bL:=r1.d6 hsq
     have hoi:oI pt1.p.side=(q:Int):=by rw[hsd];rfl
     have hoi2:oI (some q)=(q:Int):=rfl
     simp only[seval,hH2,hoi,hoi2]
     refine⟨by show 6<1000;decide,?_⟩
     have ef2:bc "side" (V.int (q:Int)) (cV ⟨x,dx,to,src,tag,rank,-1,0⟩)=cV ⟨x,dx,to,src,tag,rank,q,0⟩:=rfl
     rw[ef2]
     have sm3:au H1 (upd H2 x (.ins t.Frame dx (cV ⟨x,dx,to,src,tag,rank,q,0⟩))):=bp sm2 hx
     have o3:=o1.same sm3
     have aPt3:upd H2 x (.ins t.Frame dx (cV ⟨x,dx,to,src,tag,rank,q,0⟩)) pt.a=some (.ins t.Port pt.d (cK pt1)):=by rw[<-ea1.1,<-ea1.2];exact ba.at t (ae.dZ o3 hpt1)
     have aM3:=ae.at t o3
     have aS3:=ae.bZ t o3
     rw[am1] at aM3
     simp only[seval,aM3,aPt3,hoi,aS3,hatq]
     have tg1: -1<=tag:=by rcases h1.2.2 with y|y;omega;have:=y.2.1;omega
     refine⟨sq,tag,rfl,ae.cx o3 hsq,bL,tg1,?_⟩
     simp only[seval,aE]
     obtain⟨vn,hvn⟩:∃vn,(Vbcnab.inner sq.s tag).getD 0=vn:=⟨_,rfl⟩
     rw[hvn]
     refine⟨by show 6<1000;decide,?_⟩
     have ef3:bc "v" (V.int (vn:Int)) (cV ⟨x,dx,to,src,tag,rank,q,0⟩)=cV ⟨x,dx,to,src,tag,rank,q,vn⟩:=rfl
     rw[ef3,h8]
     have sm4:au H1 (upd H2 x (.ins t.Frame dx (cV ⟨x,dx,to,src,tag,rank,q,vn⟩))):=bp sm2 hx
     have o4:=o1.same sm4
     have esd:=d4 r1 hsq
     have inn:∀w0,Vbcnab.inner sq.s tag=some w0->w0≠0/\∃u,lk m1.vlans (w0:Int)=some u:=λw0 hw0=>by
      unfold Vbcnab.inner at hw0
      split at hw0
      .split at hw0
       .cases hw0
       .rename_i hn
        have e0:sq.s.native_=w0:=Option.some.inj hw0
        exact⟨by omega,r1.sv sq (List.mem_of_getElem? hsq) w0 (by omega) (.inl e0)⟩
      .cases hff:sq.s.pairs.find? λy=>(y.1:Int)==tag with
       |none=>rw[hff] at hw0;cases hw0
       |some y=>
        rw[hff] at hw0
        have e0:y.2=w0:=Option.some.inj hw0
        have my:=List.mem_of_find?_eq_some hff
        have p2:=(bL.pos y my).2
        exact⟨by omega,r1.sv sq (List.mem_of_getElem? hsq) w0 (by omega) (.inr (List.mem_map.mpr ⟨y,my,e0⟩))⟩
     have fr:Fr t (upd H2 x (.ins t.Frame dx (cV ⟨x,dx,to,src,tag,rank,q,vn⟩))) m1 s1 ⟨x,dx,to,src,tag,rank,q,vn⟩ (some q) vn to.toNat src.toNat:=⟨o4,r1,aN,rfl,rfl,et.symm,ec.symm,(λy hy=>by cases hy;exact hq),λhv0=>by
      cases hi:Vbcnab.inner sq.s tag with
      |none=>rw[hi] at hvn;exact absurd hvn.symm hv0
      |some w0=>
       rw[hi] at hvn
       have e0:w0=vn:=hvn
       rw[<-e0];exact(inn w0 hi).2⟩
     have hen:Vbcnab.enter s1 n.toNat to.toNat src.toNat tag=dh s1 (some q) vn to.toNat src.toNat:=D4 port1 hsd hup (by rw[esd];exact hvn) (by rw[esd];exactλz=>(inn 0 z).1 rfl)
     have st4':=st1.trans (Step.same o1 sm4)
     have live:kO t [.ref m.a,.ref x] (upd H2 x (.ins t.Frame dx (cV ⟨x,dx,to,src,tag,rank,q,vn⟩))) (λrv H4=>rv=.int (Res.no (pass s1 (some q) vn to.toNat src.toNat):Int)/\mG K t Q m.a pt.a x (Res.no (pass s1 (some q) vn to.toNat src.toNat)) H4) E0:=by
      refine⟨m1,s1,⟨x,dx,to,src,tag,rank,q,vn⟩,some q,vn,to.toNat,src.toNat,by rw[am1],fr,xn,λH4 m4 st4 ks4 r4=>⟨rfl,?_⟩⟩
      rw[<-ea1.1]
      exact zW T (f:=⟨x,dx,to,src,tag,rank,q,vn⟩) am1 st4' r1 hs1 hpt1 fr xn hen erk k st4 ks4 r4
     refine wk live λrv H4 z=>?_
     obtain⟨rfl,z⟩:=z
     simp only[seval,aE]
     exact z
   .refine wk (dead (.inr ?_)) λrv H4 z=>?_
    .have h3:=Decidable.not_not.mp h3
     cases e:pt1.p.side with
     |none=>rfl
     |some q=>rw[e] at h3;have h3:(q:Int)=-1:=h3;omega
    .obtain⟨rfl,z⟩:=z
     simp only[seval,aE]
     exact z
  .refine wk (dead (.inl ?_)) λrv H4 z=>?_
   .cases e:pt1.p.up with
    |false=>rfl
    |true=>exact absurd (by rw[e];rfl) h2
   .obtain⟨rfl,z⟩:=z
    simp only[seval,aE]
    exact z
end
end Sw
namespace Sw
open PySem PySem.Spec PyProof.Rows L2
section
variable{P:Program}{w:World}{K:PySem.W.Frag}{mg:Str->Option Value}{base:Heap}{t:Ad}
theorem Eb(m:ae)(ids:List Int):m.dU [] ids=m:=by
 have e:(m.vlans.map λp=>(p.1,if p.1∈([]:List Int) then p.2.forget ids else p.2))=m.vlans:=(List.map_congr_left λp _=>by rw[if_neg (by simp)];rfl).trans (List.map_id _)
 show({m with vlans:=_}:ae)=m
 rw[e]
theorem Ec{m:ae}(vk:(m.vlans.map (·.1)).Nodup){ks:List Int}(nd:ks.Nodup)(ids:List Int){i:Nat}{k:Int}(hk:ks[i]? =some k){u:af}(hu:lk m.vlans k=some u):lk (m.dU (ks.take i) ids).vlans k=some u/\(m.dU (ks.take i) ids).cb k (u.forget ids)=m.dU (ks.take (i+1)) ids:=by
 have hn:k∉ks.take i:=λh=>by
  have z:ks.take (i+1)=ks.take i++[k]:=take_snoc hk
  have y:(ks.take (i+1)).Nodup:=(List.take_sublist _ _).nodup nd
  rw[z] at y
  exact(List.nodup_append.mp y).2.2 k h k (by simp) rfl
 have nd2:((m.dU (ks.take i) ids).vlans.map (·.1)).Nodup:=by
  show((m.vlans.map _).map _).Nodup
  rw[List.map_map];exact vk
 refine⟨iz nd2 (List.mem_map.mpr ⟨(k,u),b0 hu,by simp only[if_neg hn]⟩),?_⟩
 show({m with vlans:=bw (m.vlans.map λp=>(p.1,if p.1∈ks.take i then p.2.forget ids else p.2)) k (u.forget ids)}:ae)={m with vlans:=m.vlans.map λp=>(p.1,if p.1∈ks.take (i+1) then p.2.forget ids else p.2)}
 congr 1
 unfold bw
 rw[List.map_map]
 refine List.map_congr_left λp hp=>?_
 show(if p.1=k then(p.1,u.forget ids) else(p.1,if p.1∈ks.take i then p.2.forget ids else p.2))=(p.1,if p.1∈ks.take (i+1) then p.2.forget ids else p.2)
 rw[take_snoc hk]
 by_cases z:p.1=k
 .have l1:=dw vk hp
  rw[z,hu] at l1
  rw[if_pos z,if_pos (by rw[z];simp),Option.some.inj l1]
 .rw[if_neg z]
  by_cases y:p.1∈ks.take i
  .rw[if_pos y,if_pos (List.mem_append_left _ y)]
  .rw[if_neg y,if_neg (λw=>by rcases List.mem_append.mp w with w|w;exact y w;exact z (by simpa using w))]
theorem AB:∀l:List Nat,(l.map λ(n:Nat)=>(n:Int)).sum=((l.sum:Nat):Int)
 |[]=>rfl
 |x::l=>by rw[List.map_cons,List.sum_cons,List.sum_cons,AB l];omega
def dq(m:ae)(ids:List Int)(k:Int):Nat:=match lk m.vlans k with
 |some u=>cnt ids (k,u)
 |none=>0
theorem Hy(T:Txt K mg t):aX P w K mg base aY 3 t.vQ t.tZ ["switch","v","side"] (cn t 2 λxs=>.flush (xs.getD 0 0) (xs.getD 1 0)):=by
 refine T.xq.fn.ok Bu (λvs H Q E h=>?_) (λcdv A outer s0 H vs Q E hr h=>?_)
 .obtain⟨m,s,xs,hl,rfl,_⟩:=h
  simp[hl]
 .obtain⟨m,s,xs,hl,rfl,hO,rep,k⟩:=h
  obtain⟨v,q,rfl⟩:=cw hl
  have hu:=bC hr
  have nd:=Bu.nd
  have k:Kt t H m (Vbcnab.doing s (.flush v q)) Q:=k
  simp only[Vbcnab.doing,ck rep,rep.isPort,rep.isVlan,bS] at k
  refine⟨_,ai (aw (PW.pt (eR (aU fB (pv 1) (aI rfl T.ie) (aQ _)) (eT (cj (cF hu (pv 1) (ak (pv 0) rfl)))))) (ao (aq (aB (aa (bf bh (aj)) ah)))) (ay)) (ai (aw (bF (bD (aD T.lT (oV T) (hr.mono (by decide)) rfl (aa (pv 0) (aa (pv 2) ah))))) (ao (aq (aB (aa (bf bh (aj)) ah)))) (ay)) (ai (bg (i:=3) nd rfl (Or.inl rfl) (iE (aU bb (pv 1) (aI rfl T.ie) (aQ _)) (mj (lj rfl) rfl T.list boot_list (aa (ak (pv 0) rfl) ah)) (aB (aa (pv 1) ah)))) (ai (bg (i:=4) nd rfl (Or.inr rfl) (iE (aU bb (pv 2) (aI rfl T.fN) (aQ _)) (y_ rfl T.list rfl T.range (aa (bW dN rfl T.len PySem.boot_len (aa (ak (pv 0) rfl) ah)) ah)) (aB (aa (pv 2) ah)))) (ao (aq (aB (aa (bW (DF rfl) rfl T.sum boot_sum (aa (iF rfl nd (d3 (pv 3)) (eY (own:=[("number",5)]) (by show d_ ["switch","v","side","numbers","sides","number"] (aK mJ) _ _=true;decide+kernel)) (λ_ _ _ _ _=>cP (i:=5) nd rfl (Or.inl rfl)) (λ_ _ _ _ _=>kH) (λ_ _ _ _ _=>aD T.i6 (ko T) (hr.mono (by decide)) rfl (aa (bT hu (gz K (pv 0) rfl) (pv 5) (λ_ _=>rfl)) (aa (pv 4) ah)))) ah)) ah))))))),?_⟩
  show aW _ _ _ [some (.ref m.a),some (.int v),some (.int q),none,none,none] H
  simp only[seval,aE]
  simp only[seval,ae.at t hO]
  refine sy (bu (ae.bJ t hO) v) ?_
  refine az (λh1=>k.fin (Step.refl hO) rfl (if_pos ⟨h1.1,by cases e:lk m.vlans v with|none=>rfl|some x=>rw[e] at h1;cases h1.2⟩) rep rfl) (λh1=>?_)
  have hv:v=0\/∃u,lk m.vlans v=some u:=by
   by_cases z:v=0
   .exact .inl z
   .cases e:lk m.vlans v with
    |none=>exact absurd ⟨z,by rw[e];rfl⟩ h1
    |some x=>exact .inr ⟨x,rfl⟩
  rw[if_neg (λz=>hv.elim z.1 λ⟨u,hu⟩=>by rw[hu] at z;exact absurd z.2 (by simp))] at k
  refine⟨m,q,rfl,hO,?_⟩
  simp only[seval,ae.at t hO]
  refine az (λh2=>k.fin (Step.refl hO) rfl (if_pos ⟨λz=>h2 (.inl z),decide_eq_false λz=>h2 (.inr z)⟩) rep rfl) (λh2=>?_)
  have h2:=Decidable.not_not.mp h2
  rw[if_neg (λz=>by rcases h2 with y|y;exact z.1 y;exact absurd z.2 (by simp[y]))] at k
  have ff:=rep.ff
  have n64:=rep.cg
  have eL:sizeLine=2^24:=rfl
  have core:∀(ks ids:List Int)(l l1:Addr)(H1:Hp),au H H1->H1 l=some (.lst (ks.map V.int))->H1 l1=some (.lst (ids.map V.int))->l∉adr (m.cells t)->l1∉adr (m.cells t)->ks.Nodup->ks.length<=64->(∀k∈ks,∃u,lk m.vlans k=some u)->(∀p∈m.vlans,p.1∈ks↔v=0\/p.1=v)->(∀y:Nat,y<m.sides.length->((y:Int)∈ids↔q=-1\/(y:Int)=q))->((m.vlans.filter λp=>decide (p.1∈ks)).map (cnt ids)).sum=(ks.map (dq m ids)).sum->(∃xs,ax K H1 l xs)/\lV (gT 5) gH (jo (kN t) [] E0 (g_ (fH (fe K (dG 0) "vlans") (dG 5)) (g_ (dG 4) js))) (List.map (λx:Str×Nat=>x.2) [("number",5)]) [some (V.ref m.a),some (V.int v),some (V.int q),some (V.ref l),some (V.ref l1),none] (λx H1=>kI K [x] H1 λx H1=>∀p,H1 p=none->Q (V.ref p) (upd H1 p (.lst [x]))) (dR K l) H1:=by
   intro ks ids l l1 H1 sm hl' hl1 ln l1n ndk k64 hex hk hi hsum
   refine⟨⟨_,ax.of hl'⟩,λD hD=>x9 (K:=K) (a:=l) (xs:=ks.map V.int) (λi H'=>Step H1 (m.cells t) H' ((D,.lst ((ks.take i).map λk=>V.int (dq m ids k:Int)))::(m.dU (ks.take i) ids).cells t)) ?_ (λi H' _ s=>ax.of (s.keep hl' ln)) ?_ ?_⟩
   .show Step H1 (m.cells t) _ ((D,.lst [])::(m.dU [] ids).cells t)
    rw[Eb]
    exact Step.lay (hO.same sm) hD
   .intro i x H2 hx s
    rw[List.getElem?_map] at hx
    cases hp:ks[i]? with
    |none=>rw[hp] at hx;cases hx
    |some kk=>
     rw[hp] at hx
     obtain rfl:V.int kk=x:=Option.some.inj hx
     obtain⟨u,hu'⟩:=hex kk (List.mem_of_getElem? hp)
     obtain⟨g1,g2⟩:=Ec rep.vk ndk ids hp hu'
     have oi:Own H2 ((m.dU (ks.take i) ids).cells t):=Own.right (a:=[(D,_)]) s.own
     have vki:((m.dU (ks.take i) ids).vlans.map (·.1)).Nodup:=by
      show((m.vlans.map _).map _).Nodup
      rw[List.map_map];exact rep.vk
     have aM:H2 m.a=some (.ins t.Switch m.d (cC m)):=ae.at (m:=m.dU (ks.take i) ids) t oi
     have ov:=ae.cA vki oi g1
     have ok:=rep.at hu'
     have gv:=bu (ae.bJ t oi) kk
     have gv:cO H2 m.bN (V.int kk) ((lk (m.dU (ks.take i) ids).vlans kk).map bK):=gv
     simp only[seval,wipe,List.map_cons,List.map_nil,gH,aM]
     refine⟨_,by rw[g1] at gv;exact gv,?_⟩
     have l1o:l1∉adr (u.cells t):=λz=>by
      have z2:l1∈adr ((D,HO.lst ((ks.take i).map λk=>V.int (dq m ids k:Int)))::(m.dU (ks.take i) ids).cells t):=by
       refine List.mem_cons_of_mem _ ?_
       obtain⟨c,hc,e⟩:=List.mem_map.mp z
       refine List.mem_map.mpr ⟨c,?_,e⟩
       rw[ae.eI]
       exact List.mem_append_right _ (List.mem_cons_of_mem _ (List.mem_flatMap.mpr ⟨(kk,u),b0 g1,hc⟩))
      rcases s.new _ z2 with y|y
      .exact l1n y
      .rw[hl1] at y;cases y
     refine⟨u,l1,ids,rfl,ov,ok.rk,(ok.cY rep.c5).1,s.keep hl1 l1n,l1o,λH3 s3=>?_⟩
     have st2:=ae.d7 vki oi g1 s3
     rw[g2] at st2
     have st3:=Step.mid (A:=[(D,HO.lst ((ks.take i).map λk=>V.int (dq m ids k:Int)))]) (B:=[]) s.own (by rw[List.append_nil];rfl) (by rw[List.append_nil]) st2
     have s4:=s.trans st3
     refine⟨_,s4.own.at_ (D,_) List.mem_cons_self,by rw[List.length_map,List.length_take,eL];omega,?_⟩
     have ec:(u.rows.length:Int) -((u.forget ids).rows.length:Int)=(dq m ids kk:Int):=by
      unfold dq cnt
      rw[hu']
      have:=List.length_filter_le (keepR ids) u.rows
      show(u.rows.length:Int) -((u.rows.filter (keepR ids)).length:Int)=((u.rows.length -(u.rows.filter (keepR ids)).length:Nat):Int)
      omega
     rw[ec]
     have e5:(ks.take (i+1)).map (λk=>V.int (dq m ids k:Int))=(ks.take i).map (λk=>V.int (dq m ids k:Int))++[V.int (dq m ids kk:Int)]:=by rw[take_snoc hp,List.map_append];rfl
     rw[e5]
     exact s4.trans (Step.cell (A:=[]) s4.own rfl rfl)
   .intro H2 s
    rw[List.length_map,List.take_length] at s
    have rf:=rep.flush ks ids v q hk hi
    have fc:=D8 rep ks ids rf
    rw[hsum] at fc
    refine⟨D,ks.map λk=>(dq m ids k:Int),rfl,ax.of (by rw[List.map_map];exact s.own.at_ (D,_) List.mem_cons_self),?_⟩
    have e6:(ks.map λk=>(dq m ids k:Int)).sum=(((ks.map (dq m ids)).sum:Nat):Int):=by rw[<-AB,List.map_map];rfl
    rw[e6,<-fc]
    have st:=((Step.same hO sm).trans s).sub (cs2:=(m.dU ks ids).cells t) (List.sublist_cons_self _ _)
    exact k.fin st rfl rfl rf rfl
  have hks:∀{l:Addr}{H1:Hp},au H H1->H1 l=none->l∉adr (m.cells t):=λsm hl=>(hO.same sm).none hl
  have iR:q=-1->∀y:Nat,y<m.sides.length->((y:Int)∈((List.range m.sides.length).map λ(i:Nat)=>(i:Int))↔q=-1\/(y:Int)=q):=λhq y hy=>⟨λ_=>.inl hq,λ_=>List.mem_map.mpr ⟨y,List.mem_range.mpr hy,rfl⟩⟩
  have iQ:¬q=-1->∀y:Nat,y<m.sides.length->((y:Int)∈[q]↔q=-1\/(y:Int)=q):=λhq y hy=>⟨λz=>.inr (by simpa using z),λz=>by simpa using z.resolve_left hq⟩
  have fin:∀(ks:List Int)(l:Addr)(H1:Hp),au H H1->H1 l=some (.lst (ks.map V.int))->l∉adr (m.cells t)->ks.Nodup->ks.length<=64->(∀k∈ks,∃u,lk m.vlans k=some u)->(∀p∈m.vlans,p.1∈ks↔v=0\/p.1=v)->(∀ids,((m.vlans.filter λp=>decide (p.1∈ks)).map (cnt ids)).sum=(ks.map (dq m ids)).sum)->(q=-1->∀l1,H1 l1=none->(∃xs,ax K (upd H1 l1 (.lst ((List.range m.sides.length).map λ(i:Nat)=>V.int i))) l xs)/\lV (gT 5) gH (jo (kN t) [] E0 (g_ (fH (fe K (dG 0) "vlans") (dG 5)) (g_ (dG 4) js))) (List.map (λx:Str×Nat=>x.2) [("number",5)]) [some (V.ref m.a),some (V.int v),some (V.int q),some (V.ref l),some (V.ref l1),none] (λx H1=>kI K [x] H1 λx H1=>∀p,H1 p=none->Q (V.ref p) (upd H1 p (.lst [x]))) (dR K l) (upd H1 l1 (.lst ((List.range m.sides.length).map λ(i:Nat)=>V.int i))))/\(¬q=-1->∀l1,H1 l1=none->(∃xs,ax K (upd H1 l1 (.lst [V.int q])) l xs)/\lV (gT 5) gH (jo (kN t) [] E0 (g_ (fH (fe K (dG 0) "vlans") (dG 5)) (g_ (dG 4) js))) (List.map (λx:Str×Nat=>x.2) [("number",5)]) [some (V.ref m.a),some (V.int v),some (V.int q),some (V.ref l),some (V.ref l1),none] (λx H1=>kI K [x] H1 λx H1=>∀p,H1 p=none->Q (V.ref p) (upd H1 p (.lst [x]))) (dR K l) (upd H1 l1 (.lst [V.int q]))):=by
   intro ks l H1 sm hl' ln ndk k64 hex hk hsum
   refine⟨λhq l1 hl1=>?_,λhq l1 hl1=>?_⟩
   .have nl:l≠l1:=λz=>by rw[<-z,hl'] at hl1;cases hl1
    exact core ks ((List.range m.sides.length).map λ(i:Nat)=>(i:Int)) l l1 _ (bp sm (cT sm hl1)) (by rw[aF nl];exact hl') (by rw[aN,List.map_map];rfl) ln (hks sm hl1) ndk k64 hex hk (iR hq) (hsum _)
   .have nl:l≠l1:=λz=>by rw[<-z,hl'] at hl1;cases hl1
    exact core ks [q] l l1 _ (bp sm (cT sm hl1)) (by rw[aF nl];exact hl') aN ln (hks sm hl1) ndk k64 hex hk (iQ hq) (hsum _)
  have go:∀(ks:List Int)(l:Addr)(H1:Hp),au H H1->H1 l=some (.lst (ks.map V.int))->l∉adr (m.cells t)->ks.Nodup->ks.length<=64->(∀k∈ks,∃u,lk m.vlans k=some u)->(∀p∈m.vlans,p.1∈ks↔v=0\/p.1=v)->(∀ids,((m.vlans.filter λp=>decide (p.1∈ks)).map (cnt ids)).sum=(ks.map (dq m ids)).sum)->H1 m.a=some (.ins t.Switch m.d (cC m))/\H1 m.fV=some (.lst (m.sides.map λp=>V.ref p.a)):=λks l H1 sm _ _ _ _ _ _ _=>⟨sm _ _ (ae.at t hO),sm _ _ (ae.bZ t hO)⟩
  refine az (λh3=>?_) (λh3=>?_)
  .refine⟨_,.inl (ae.bJ t hO),λl hl=>?_⟩
   rw[gJ]
   have sm:au H (upd H l (.lst (m.vlans.map λp=>V.int p.1))):=bp (au.refl H) hl
   have F:=fin (m.vlans.map (·.1)) l _ sm (by rw[aN,List.map_map];rfl) (hO.none hl) rep.vk (by rw[List.length_map];exact ff) (λk hk=>by
    obtain⟨p,hp,e⟩:=List.mem_map.mp hk
    exact⟨p.2,by rw[<-e];exact dw rep.vk hp⟩) (λp hp=>⟨λ_=>.inl h3,λ_=>List.mem_map.mpr ⟨p,hp,rfl⟩⟩) λids=>by
    rw[List.filter_eq_self.mpr λp hp=>decide_eq_true (List.mem_map.mpr ⟨p,hp,rfl⟩),List.map_map]
    congr 1
    refine List.map_congr_left λp hp=>?_
    show cnt ids p=dq m ids p.1
    unfold dq
    rw[dw rep.vk hp]
   refine az (λh4=>?_) (λh4=>F.2 h4)
   simp only[seval,sm _ _ (ae.at t hO),sm _ _ (ae.bZ t hO),List.length_map,Int.toNat_natCast]
   exact⟨by omega,by omega,F.1 h4⟩
  .obtain⟨u,hu'⟩:=hv.resolve_left h3
   intro l hl
   have sm:au H (upd H l (.lst [V.int v])):=bp (au.refl H) hl
   have F:=fin [v] l _ sm aN (hO.none hl) (by simp) (by simp) (λk hk=>by
    have e:k=v:=by simpa using hk
    rw[e];exact⟨u,hu'⟩) (λp hp=>⟨λz=>.inr (by simpa using z),λz=>by simpa using z.resolve_left h3⟩) λids=>by
    have g:∀l:IM af,(l.map (·.1)).Nodup->lk l v=some u->(l.filter λp=>decide (p.1∈[v]))=[(v,u)]:=by
     intro l
     induction l with
     |nil=>intro _ h;rw[iy] at h;cases h
     |cons p l ih=>
      intro nd hlk
      have nd':p.1∉l.map (·.1)/\(l.map (·.1)).Nodup:=List.nodup_cons.mp nd
      rw[dv] at hlk
      rw[List.filter_cons]
      by_cases z:p.1=v
      .rw[if_pos z] at hlk
       rw[if_pos (by simp[z])]
       have e0:(l.filter λp=>decide (p.1∈[v]))=[]:=List.filter_eq_nil_iff.mpr λc hc hd=>nd'.1 (List.mem_map.mpr ⟨c,hc,by rw[z];simpa using hd⟩)
       rw[e0,<-Option.some.inj hlk,<-z]
      .rw[if_neg z] at hlk
       rw[if_neg (by simp[z])]
       exact ih nd'.2 hlk
    rw[g m.vlans rep.vk hu']
    show [cnt ids (v,u)].sum=[dq m ids v].sum
    unfold dq
    rw[hu']
   refine az (λh4=>?_) (λh4=>F.2 h4)
   simp only[seval,sm _ _ (ae.at t hO),sm _ _ (ae.bZ t hO),List.length_map,Int.toNat_natCast]
   exact⟨by omega,by omega,F.1 h4⟩
end
end Sw
namespace Sw
open PySem PySem.Spec PyProof.Rows L2
def lenOf(n:Nat):Nat:=[4,1,1,2,3,2,2,1,2,2,2,3,3,1,2,2,2,2,3,2,3,3,2,1,2,1,5,2,1,1,1,1].getD n 0
def fO(n:Nat)(xs:List Int):Vbcnab.Call:=(VbcnabNeutral.call [(n:Int)::xs]).getD (.begin_ 0 0 0 0)
section
variable{P:Program}{w:World}{K:PySem.W.Frag}{mg:Str->Option Value}{base:Heap}{t:Ad}
def kQ(t:Ad)(lo hi:Nat):Sp:=λvs H Q _=>∃(m:ae)(s:Vbcnab.State)(n:Nat)(xs:List Int)(ga:Addr),vs=[.ref m.a,.int n,.ref ga]/\lo<=n/\n<=hi/\xs.length=lenOf n/\H ga=some (.lst (xs.map V.int))/\Own H (m.cells t)/\Rep m s/\Kt t H m (Vbcnab.doing s (fO n xs)) Q
theorem Hr(T:Txt K mg t):aX P w K mg base aY 6 t.vI t.tS ["switch","number","given"] (kQ t 1 8):=by
 refine T.sG.fn.ok N8 (λvs H Q E h=>?_) (λcdv A outer s0 H vs Q E hr h=>?_)
 .obtain⟨m,s,n,xs,ga,rfl,_⟩:=h
  rfl
 .obtain⟨m,s,n,xs,ga,rfl,hlo,hhi,hl,hga,hO,rep,k⟩:=h
  refine⟨_,ai (aw (aU bb (pv 1) (aj) (aQ _)) (ao (aq (aD T.sr (Hj T) (hr.mono (by decide)) rfl (aa (pv 0) (aa (aO bq (pv 2) (aj) (λ_ _=>rfl)) ah))))) (ay)) (ai (aw (aU bb (pv 1) (aj) (aQ _)) (ao (aq (aD T.vp (Hw T) (hr.mono (by decide)) rfl (aa (pv 0) (aa (aO bq (pv 2) (aj) (λ_ _=>rfl)) ah))))) (ay)) (ai (aw (aU bb (pv 1) (aj) (aQ _)) (ao (aq (aD T.Ae (HX T) (hr.mono (by decide)) rfl (aa (pv 0) (aa (aO bq (pv 2) (aj) (λ_ _=>rfl)) (aa (aO bq (pv 2) (aj) (λ_ _=>rfl)) ah)))))) (ay)) (ai (aw (aU bb (pv 1) (aj) (aQ _)) (ao (aq (aD T.sk (Hi T) (hr.mono (by decide)) rfl (aa (pv 0) (aa (aO bq (pv 2) (aj) (λ_ _=>rfl)) (aa (aO bq (pv 2) (aj) (λ_ _=>rfl)) (aa (aO bq (pv 2) (aj) (λ_ _=>rfl)) ah))))))) (ay)) (ai (aw (aU bb (pv 1) (aj) (aQ _)) (ao (aq (aD T.A4 (Ie T) (hr.mono (by decide)) rfl (aa (pv 0) (aa (aO bq (pv 2) (aj) (λ_ _=>rfl)) (aa (aO bq (pv 2) (aj) (λ_ _=>rfl)) ah)))))) (ay)) (ai (aw (aU bb (pv 1) (aj) (aQ _)) (ao (aq (aD T.zk (HM T) (hr.mono (by decide)) rfl (aa (pv 0) (aa (aO bq (pv 2) (aj) (λ_ _=>rfl)) (aa (aO bq (pv 2) (aj) (λ_ _=>rfl)) ah)))))) (ay)) (ai (aw (aU bb (pv 1) (aj) (aQ _)) (ao (aq (aD T.Bc (Io T) (hr.mono (by decide)) rfl (aa (pv 0) (aa (aO bq (pv 2) (aj) (λ_ _=>rfl)) ah))))) (ay)) (ao (aq (aD T.Ab (HV T) (hr.mono (by decide)) rfl (aa (pv 0) (aa (aO bq (pv 2) (aj) (λ_ _=>rfl)) (aa (aO bq (pv 2) (aj) (λ_ _=>rfl)) ah)))))))))))),?_⟩
  show aW _ _ _ [some (.ref m.a),some (.int n),some (.ref ga)] H
  have hn:n=1\/n=2\/n=3\/n=4\/n=5\/n=6\/n=7\/n=8:=by omega
  rcases hn with rfl|rfl|rfl|rfl|rfl|rfl|rfl|rfl
  .obtain⟨a,rfl⟩:=bV (show xs.length=1 from hl)
   show aW _ _ _ [some (.ref m.a),some (.int 1),some (.ref ga)] H
   simp only[seval,aE]
   refine⟨_,_,_,_,rfl,rfl,ax.of hga,rfl,m,s,[a],rfl,rfl,hO,rep,k⟩
  .obtain⟨a,rfl⟩:=bV (show xs.length=1 from hl)
   show aW _ _ _ [some (.ref m.a),some (.int 2),some (.ref ga)] H
   simp only[seval,aE]
   refine⟨_,_,_,_,rfl,rfl,ax.of hga,rfl,m,s,[a],rfl,rfl,hO,rep,k⟩
  .obtain⟨a,b,rfl⟩:=cw (show xs.length=2 from hl)
   show aW _ _ _ [some (.ref m.a),some (.int 3),some (.ref ga)] H
   simp only[seval,aE]
   refine⟨_,_,_,_,rfl,rfl,ax.of hga,rfl,_,_,_,_,rfl,rfl,ax.of hga,rfl,m,s,[a,b],rfl,rfl,hO,rep,k⟩
  .obtain⟨a,b,c,rfl⟩:=ek (show xs.length=3 from hl)
   show aW _ _ _ [some (.ref m.a),some (.int 4),some (.ref ga)] H
   simp only[seval,aE]
   refine⟨_,_,_,_,rfl,rfl,ax.of hga,rfl,_,_,_,_,rfl,rfl,ax.of hga,rfl,_,_,_,_,rfl,rfl,ax.of hga,rfl,m,s,[a,b,c],rfl,rfl,hO,rep,k⟩
  .obtain⟨a,b,rfl⟩:=cw (show xs.length=2 from hl)
   show aW _ _ _ [some (.ref m.a),some (.int 5),some (.ref ga)] H
   simp only[seval,aE]
   refine⟨_,_,_,_,rfl,rfl,ax.of hga,rfl,_,_,_,_,rfl,rfl,ax.of hga,rfl,m,s,[a,b],rfl,rfl,hO,rep,k⟩
  .obtain⟨a,b,rfl⟩:=cw (show xs.length=2 from hl)
   show aW _ _ _ [some (.ref m.a),some (.int 6),some (.ref ga)] H
   simp only[seval,aE]
   refine⟨_,_,_,_,rfl,rfl,ax.of hga,rfl,_,_,_,_,rfl,rfl,ax.of hga,rfl,m,s,[a,b],rfl,rfl,hO,rep,k⟩
  .obtain⟨a,rfl⟩:=bV (show xs.length=1 from hl)
   show aW _ _ _ [some (.ref m.a),some (.int 7),some (.ref ga)] H
   simp only[seval,aE]
   refine⟨_,_,_,_,rfl,rfl,ax.of hga,rfl,m,s,[a],rfl,rfl,hO,rep,k⟩
  .obtain⟨a,b,rfl⟩:=cw (show xs.length=2 from hl)
   show aW _ _ _ [some (.ref m.a),some (.int 8),some (.ref ga)] H
   simp only[seval,aE]
   refine⟨_,_,_,_,rfl,rfl,ax.of hga,rfl,_,_,_,_,rfl,rfl,ax.of hga,rfl,m,s,[a,b],rfl,rfl,hO,rep,k⟩
theorem Hq(T:Txt K mg t):aX P w K mg base aY 5 t.vH t.tR ["switch","number","given"] (kQ t 9 15):=by
 refine T.sF.fn.ok N7 (λvs H Q E h=>?_) (λcdv A outer s0 H vs Q E hr h=>?_)
 .obtain⟨m,s,n,xs,ga,rfl,_⟩:=h
  rfl
 .obtain⟨m,s,n,xs,ga,rfl,hlo,hhi,hl,hga,hO,rep,k⟩:=h
  refine⟨_,ai (aw (aU bb (pv 1) (aj) (aQ _)) (ao (aq (aD T.z_ (HS T) (hr.mono (by decide)) rfl (aa (pv 0) (aa (aO bq (pv 2) (aj) (λ_ _=>rfl)) (aa (aO bq (pv 2) (aj) (λ_ _=>rfl)) ah)))))) (ay)) (ai (aw (aU bb (pv 1) (aj) (aQ _)) (ao (aq (aD T.Af (HY T) (hr.mono (by decide)) rfl (aa (pv 0) (aa (aO bq (pv 2) (aj) (λ_ _=>rfl)) (aa (aO bq (pv 2) (aj) (λ_ _=>rfl)) ah)))))) (ay)) (ai (aw (aU bb (pv 1) (aj) (aQ _)) (ao (aq (aD T.Aa (HU T) (hr.mono (by decide)) rfl (aa (pv 0) (aa (aO bq (pv 2) (aj) (λ_ _=>rfl)) (aa (aO bq (pv 2) (aj) (λ_ _=>rfl)) (aa (aO bq (pv 2) (aj) (λ_ _=>rfl)) ah))))))) (ay)) (ai (aw (aU bb (pv 1) (aj) (aQ _)) (ao (aq (aD T.yn (HF T) (hr.mono (by decide)) rfl (aa (pv 0) (aa (aO bq (pv 2) (aj) (λ_ _=>rfl)) (aa (aO bq (pv 2) (aj) (λ_ _=>rfl)) (aa (aO bq (pv 2) (aj) (λ_ _=>rfl)) ah))))))) (ay)) (ai (aw (aU bb (pv 1) (aj) (aQ _)) (ao (aq (aD T.Bb (Im T) (hr.mono (by decide)) rfl (aa (pv 0) (aa (aO bq (pv 2) (aj) (λ_ _=>rfl)) ah))))) (ay)) (ai (aw (aU bb (pv 1) (aj) (aQ _)) (ao (aq (aD T.unshut (Ip T) (hr.mono (by decide)) rfl (aa (pv 0) (aa (aO bq (pv 2) (aj) (λ_ _=>rfl)) (aa (aO bq (pv 2) (aj) (λ_ _=>rfl)) ah)))))) (ay)) (ao (aq (aD T.Ag (HZ T) (hr.mono (by decide)) rfl (aa (pv 0) (aa (aO bq (pv 2) (aj) (λ_ _=>rfl)) (aa (aO bq (pv 2) (aj) (λ_ _=>rfl)) ah))))))))))),?_⟩
  show aW _ _ _ [some (.ref m.a),some (.int n),some (.ref ga)] H
  have hn:n=9\/n=10\/n=11\/n=12\/n=13\/n=14\/n=15:=by omega
  rcases hn with rfl|rfl|rfl|rfl|rfl|rfl|rfl
  .obtain⟨a,b,rfl⟩:=cw (show xs.length=2 from hl)
   show aW _ _ _ [some (.ref m.a),some (.int 9),some (.ref ga)] H
   simp only[seval,aE]
   refine⟨_,_,_,_,rfl,rfl,ax.of hga,rfl,_,_,_,_,rfl,rfl,ax.of hga,rfl,m,s,[a,b],rfl,rfl,hO,rep,k⟩
  .obtain⟨a,b,rfl⟩:=cw (show xs.length=2 from hl)
   show aW _ _ _ [some (.ref m.a),some (.int 10),some (.ref ga)] H
   simp only[seval,aE]
   refine⟨_,_,_,_,rfl,rfl,ax.of hga,rfl,_,_,_,_,rfl,rfl,ax.of hga,rfl,m,s,[a,b],rfl,rfl,hO,rep,k⟩
  .obtain⟨a,b,c,rfl⟩:=ek (show xs.length=3 from hl)
   show aW _ _ _ [some (.ref m.a),some (.int 11),some (.ref ga)] H
   simp only[seval,aE]
   refine⟨_,_,_,_,rfl,rfl,ax.of hga,rfl,_,_,_,_,rfl,rfl,ax.of hga,rfl,_,_,_,_,rfl,rfl,ax.of hga,rfl,m,s,[a,b,c],rfl,rfl,hO,rep,k⟩
  .obtain⟨a,b,c,rfl⟩:=ek (show xs.length=3 from hl)
   show aW _ _ _ [some (.ref m.a),some (.int 12),some (.ref ga)] H
   simp only[seval,aE]
   refine⟨_,_,_,_,rfl,rfl,ax.of hga,rfl,_,_,_,_,rfl,rfl,ax.of hga,rfl,_,_,_,_,rfl,rfl,ax.of hga,rfl,m,s,[a,b,c],rfl,rfl,hO,rep,k⟩
  .obtain⟨a,rfl⟩:=bV (show xs.length=1 from hl)
   show aW _ _ _ [some (.ref m.a),some (.int 13),some (.ref ga)] H
   simp only[seval,aE]
   refine⟨_,_,_,_,rfl,rfl,ax.of hga,rfl,m,s,[a],rfl,rfl,hO,rep,k⟩
  .obtain⟨a,b,rfl⟩:=cw (show xs.length=2 from hl)
   show aW _ _ _ [some (.ref m.a),some (.int 14),some (.ref ga)] H
   simp only[seval,aE]
   refine⟨_,_,_,_,rfl,rfl,ax.of hga,rfl,_,_,_,_,rfl,rfl,ax.of hga,rfl,m,s,[a,b],rfl,rfl,hO,rep,k⟩
  .obtain⟨a,b,rfl⟩:=cw (show xs.length=2 from hl)
   show aW _ _ _ [some (.ref m.a),some (.int 15),some (.ref ga)] H
   simp only[seval,aE]
   refine⟨_,_,_,_,rfl,rfl,ax.of hga,rfl,_,_,_,_,rfl,rfl,ax.of hga,rfl,m,s,[a,b],rfl,rfl,hO,rep,k⟩
theorem Ho(T:Txt K mg t):aX P w K mg base aY 5 t.vG t.tQ ["switch","number","given"] (kQ t 16 22):=by
 refine T.sE.fn.ok N6 (λvs H Q E h=>?_) (λcdv A outer s0 H vs Q E hr h=>?_)
 .obtain⟨m,s,n,xs,ga,rfl,_⟩:=h
  rfl
 .obtain⟨m,s,n,xs,ga,rfl,hlo,hhi,hl,hga,hO,rep,k⟩:=h
  refine⟨_,ai (aw (aU bb (pv 1) (aj) (aQ _)) (ao (aq (aD T.z9 (HR T) (hr.mono (by decide)) rfl (aa (pv 0) (aa (aO bq (pv 2) (aj) (λ_ _=>rfl)) (aa (aO bq (pv 2) (aj) (λ_ _=>rfl)) ah)))))) (ay)) (ai (aw (aU bb (pv 1) (aj) (aQ _)) (ao (aq (aD T.Aj (Ia T) (hr.mono (by decide)) rfl (aa (pv 0) (aa (aO bq (pv 2) (aj) (λ_ _=>rfl)) (aa (aO bq (pv 2) (aj) (λ_ _=>rfl)) ah)))))) (ay)) (ai (aw (aU bb (pv 1) (aj) (aQ _)) (ao (aq (aD T.xk (Hx T) (hr.mono (by decide)) rfl (aa (pv 0) (aa (aO bq (pv 2) (aj) (λ_ _=>rfl)) (aa (aO bq (pv 2) (aj) (λ_ _=>rfl)) (aa (aO bq (pv 2) (aj) (λ_ _=>rfl)) ah))))))) (ay)) (ai (aw (aU bb (pv 1) (aj) (aQ _)) (ao (aq (aD T.A_ (Il T) (hr.mono (by decide)) rfl (aa (pv 0) (aa (aO bq (pv 2) (aj) (λ_ _=>rfl)) (aa (aO bq (pv 2) (aj) (λ_ _=>rfl)) ah)))))) (ay)) (ai (aw (aU bb (pv 1) (aj) (aQ _)) (ao (aq (aD T.xW (HB T) (hr.mono (by decide)) rfl (aa (pv 0) (aa (aO bq (pv 2) (aj) (λ_ _=>rfl)) (aa (aO bq (pv 2) (aj) (λ_ _=>rfl)) (aa (aO bq (pv 2) (aj) (λ_ _=>rfl)) ah))))))) (ay)) (ai (aw (aU bb (pv 1) (aj) (aQ _)) (ao (aq (aD T.yd (HE T) (hr.mono (by decide)) rfl (aa (pv 0) (aa (aO bq (pv 2) (aj) (λ_ _=>rfl)) (aa (aO bq (pv 2) (aj) (λ_ _=>rfl)) (aa (aO bq (pv 2) (aj) (λ_ _=>rfl)) ah))))))) (ay)) (ao (aq (aD T.xq (Hy T) (hr.mono (by decide)) rfl (aa (pv 0) (aa (aO bq (pv 2) (aj) (λ_ _=>rfl)) (aa (aO bq (pv 2) (aj) (λ_ _=>rfl)) ah))))))))))),?_⟩
  show aW _ _ _ [some (.ref m.a),some (.int n),some (.ref ga)] H
  have hn:n=16\/n=17\/n=18\/n=19\/n=20\/n=21\/n=22:=by omega
  rcases hn with rfl|rfl|rfl|rfl|rfl|rfl|rfl
  .obtain⟨a,b,rfl⟩:=cw (show xs.length=2 from hl)
   show aW _ _ _ [some (.ref m.a),some (.int 16),some (.ref ga)] H
   simp only[seval,aE]
   refine⟨_,_,_,_,rfl,rfl,ax.of hga,rfl,_,_,_,_,rfl,rfl,ax.of hga,rfl,m,s,[a,b],rfl,rfl,hO,rep,k⟩
  .obtain⟨a,b,rfl⟩:=cw (show xs.length=2 from hl)
   show aW _ _ _ [some (.ref m.a),some (.int 17),some (.ref ga)] H
   simp only[seval,aE]
   refine⟨_,_,_,_,rfl,rfl,ax.of hga,rfl,_,_,_,_,rfl,rfl,ax.of hga,rfl,m,s,[a,b],rfl,rfl,hO,rep,k⟩
  .obtain⟨a,b,c,rfl⟩:=ek (show xs.length=3 from hl)
   show aW _ _ _ [some (.ref m.a),some (.int 18),some (.ref ga)] H
   simp only[seval,aE]
   refine⟨_,_,_,_,rfl,rfl,ax.of hga,rfl,_,_,_,_,rfl,rfl,ax.of hga,rfl,_,_,_,_,rfl,rfl,ax.of hga,rfl,m,s,[a,b,c],rfl,rfl,hO,rep,k⟩
  .obtain⟨a,b,rfl⟩:=cw (show xs.length=2 from hl)
   show aW _ _ _ [some (.ref m.a),some (.int 19),some (.ref ga)] H
   simp only[seval,aE]
   refine⟨_,_,_,_,rfl,rfl,ax.of hga,rfl,_,_,_,_,rfl,rfl,ax.of hga,rfl,m,s,[a,b],rfl,rfl,hO,rep,k⟩
  .obtain⟨a,b,c,rfl⟩:=ek (show xs.length=3 from hl)
   show aW _ _ _ [some (.ref m.a),some (.int 20),some (.ref ga)] H
   simp only[seval,aE]
   refine⟨_,_,_,_,rfl,rfl,ax.of hga,rfl,_,_,_,_,rfl,rfl,ax.of hga,rfl,_,_,_,_,rfl,rfl,ax.of hga,rfl,m,s,[a,b,c],rfl,rfl,hO,rep,k⟩
  .obtain⟨a,b,c,rfl⟩:=ek (show xs.length=3 from hl)
   show aW _ _ _ [some (.ref m.a),some (.int 21),some (.ref ga)] H
   simp only[seval,aE]
   refine⟨_,_,_,_,rfl,rfl,ax.of hga,rfl,_,_,_,_,rfl,rfl,ax.of hga,rfl,_,_,_,_,rfl,rfl,ax.of hga,rfl,m,s,[a,b,c],rfl,rfl,hO,rep,k⟩
  .obtain⟨a,b,rfl⟩:=cw (show xs.length=2 from hl)
   show aW _ _ _ [some (.ref m.a),some (.int 22),some (.ref ga)] H
   simp only[seval,aE]
   refine⟨_,_,_,_,rfl,rfl,ax.of hga,rfl,_,_,_,_,rfl,rfl,ax.of hga,rfl,m,s,[a,b],rfl,rfl,hO,rep,k⟩
theorem Hn(T:Txt K mg t):aX P w K mg base aY 8 t.vF t.tP ["switch","number","given"] (kQ t 23 26):=by
 refine T.sD.fn.ok N5 (λvs H Q E h=>?_) (λcdv A outer s0 H vs Q E hr h=>?_)
 .obtain⟨m,s,n,xs,ga,rfl,_⟩:=h
  rfl
 .obtain⟨m,s,n,xs,ga,rfl,hlo,hhi,hl,hga,hO,rep,k⟩:=h
  refine⟨_,ai (aw (aU bb (pv 1) (aj) (aQ _)) (ao (aq (aD T.Ac (HW T) (hr.mono (by decide)) rfl (aa (pv 0) (aa (aO bq (pv 2) (aj) (λ_ _=>rfl)) ah))))) (ay)) (ai (aw (aU bb (pv 1) (aj) (aQ _)) (ao (aq (aD T.Ah (H_ T) (hr.mono (by decide)) rfl (aa (pv 0) (aa (aO bq (pv 2) (aj) (λ_ _=>rfl)) (aa (aO bq (pv 2) (aj) (λ_ _=>rfl)) ah)))))) (ay)) (ai (aw (aU bb (pv 1) (aj) (aQ _)) (ao (aq (aD T.tick (Ik T) (hr.mono (by decide)) rfl (aa (pv 0) (aa (aO bq (pv 2) (aj) (λ_ _=>rfl)) ah))))) (ay)) (ao (aq (aD T.A3 (Ic T) (hr.mono (by decide)) rfl (aa (pv 0) (aa (aO bq (pv 2) (aj) (λ_ _=>rfl)) (aa (aO bq (pv 2) (aj) (λ_ _=>rfl)) (aa (aO bq (pv 2) (aj) (λ_ _=>rfl)) (aa (aO bq (pv 2) (aj) (λ_ _=>rfl)) (aa (aO bq (pv 2) (aj) (λ_ _=>rfl)) ah))))))))))),?_⟩
  show aW _ _ _ [some (.ref m.a),some (.int n),some (.ref ga)] H
  have hn:n=23\/n=24\/n=25\/n=26:=by omega
  rcases hn with rfl|rfl|rfl|rfl
  .obtain⟨a,rfl⟩:=bV (show xs.length=1 from hl)
   show aW _ _ _ [some (.ref m.a),some (.int 23),some (.ref ga)] H
   simp only[seval,aE]
   refine⟨_,_,_,_,rfl,rfl,ax.of hga,rfl,m,s,[a],rfl,rfl,hO,rep,k⟩
  .obtain⟨a,b,rfl⟩:=cw (show xs.length=2 from hl)
   show aW _ _ _ [some (.ref m.a),some (.int 24),some (.ref ga)] H
   simp only[seval,aE]
   refine⟨_,_,_,_,rfl,rfl,ax.of hga,rfl,_,_,_,_,rfl,rfl,ax.of hga,rfl,m,s,[a,b],rfl,rfl,hO,rep,k⟩
  .obtain⟨a,rfl⟩:=bV (show xs.length=1 from hl)
   show aW _ _ _ [some (.ref m.a),some (.int 25),some (.ref ga)] H
   simp only[seval,aE]
   refine⟨_,_,_,_,rfl,rfl,ax.of hga,rfl,m,s,[a],rfl,rfl,hO,rep,k⟩
  .obtain⟨a,b,c,d,e,rfl⟩:=lX (show xs.length=5 from hl)
   show aW _ _ _ [some (.ref m.a),some (.int 26),some (.ref ga)] H
   simp only[seval,aE]
   refine⟨_,_,_,_,rfl,rfl,ax.of hga,rfl,_,_,_,_,rfl,rfl,ax.of hga,rfl,_,_,_,_,rfl,rfl,ax.of hga,rfl,_,_,_,_,rfl,rfl,ax.of hga,rfl,_,_,_,_,rfl,rfl,ax.of hga,rfl,m,s,[a,b,c,d,e],rfl,rfl,hO,rep,k⟩
theorem Hm(T:Txt K mg t):aX P w K mg base aY 3 t.vE t.tO ["switch","number","given"] (kQ t 27 31):=by
 refine T.sC.fn.ok N4 (λvs H Q E h=>?_) (λcdv A outer s0 H vs Q E hr h=>?_)
 .obtain⟨m,s,n,xs,ga,rfl,_⟩:=h
  rfl
 .obtain⟨m,s,n,xs,ga,rfl,hlo,hhi,hl,hga,hO,rep,k⟩:=h
  refine⟨_,ai (aw (aU bb (pv 1) (aj) (aQ _)) (ao (aq (aD T.yo (HG T) (hr.mono (by decide)) rfl (aa (pv 0) (aa (aO bq (pv 2) (aj) (λ_ _=>rfl)) (aa (aO bq (pv 2) (aj) (λ_ _=>rfl)) ah)))))) (ay)) (ai (aw (aU bb (pv 1) (aj) (aQ _)) (ao (aq (aD T.A6 (Ih T) (hr.mono (by decide)) rfl (aa (pv 0) (aa (aO bq (pv 2) (aj) (λ_ _=>rfl)) ah))))) (ay)) (ai (aw (aU bb (pv 1) (aj) (aQ _)) (ao (aq (aD T.A5 (Ig T) (hr.mono (by decide)) rfl (aa (pv 0) (aa (aO bq (pv 2) (aj) (λ_ _=>rfl)) ah))))) (ay)) (ai (aw (aU bb (pv 1) (aj) (aQ _)) (ao (aq (aD T.A8 (Ij T) (hr.mono (by decide)) rfl (aa (pv 0) (aa (aO bq (pv 2) (aj) (λ_ _=>rfl)) ah))))) (ay)) (ao (aq (aD T.A7 (Ii T) (hr.mono (by decide)) rfl (aa (pv 0) (aa (aO bq (pv 2) (aj) (λ_ _=>rfl)) ah)))))))),?_⟩
  show aW _ _ _ [some (.ref m.a),some (.int n),some (.ref ga)] H
  have hn:n=27\/n=28\/n=29\/n=30\/n=31:=by omega
  rcases hn with rfl|rfl|rfl|rfl|rfl
  .obtain⟨a,b,rfl⟩:=cw (show xs.length=2 from hl)
   show aW _ _ _ [some (.ref m.a),some (.int 27),some (.ref ga)] H
   simp only[seval,aE]
   refine⟨_,_,_,_,rfl,rfl,ax.of hga,rfl,_,_,_,_,rfl,rfl,ax.of hga,rfl,m,s,[a,b],rfl,rfl,hO,rep,k⟩
  .obtain⟨a,rfl⟩:=bV (show xs.length=1 from hl)
   show aW _ _ _ [some (.ref m.a),some (.int 28),some (.ref ga)] H
   simp only[seval,aE]
   refine⟨_,_,_,_,rfl,rfl,ax.of hga,rfl,m,s,[a],rfl,rfl,hO,rep,k⟩
  .obtain⟨a,rfl⟩:=bV (show xs.length=1 from hl)
   show aW _ _ _ [some (.ref m.a),some (.int 29),some (.ref ga)] H
   simp only[seval,aE]
   refine⟨_,_,_,_,rfl,rfl,ax.of hga,rfl,m,s,[a],rfl,rfl,hO,rep,k⟩
  .obtain⟨a,rfl⟩:=bV (show xs.length=1 from hl)
   show aW _ _ _ [some (.ref m.a),some (.int 30),some (.ref ga)] H
   simp only[seval,aE]
   refine⟨_,_,_,_,rfl,rfl,ax.of hga,rfl,m,s,[a],rfl,rfl,hO,rep,k⟩
  .obtain⟨a,rfl⟩:=bV (show xs.length=1 from hl)
   show aW _ _ _ [some (.ref m.a),some (.int 31),some (.ref ga)] H
   simp only[seval,aE]
   refine⟨_,_,_,_,rfl,rfl,ax.of hga,rfl,m,s,[a],rfl,rfl,hO,rep,k⟩
end
end Sw
namespace Sw
open PySem PySem.Spec PyProof.Rows L2
section
variable{P:Program}{w:World}{K:PySem.W.Frag}{mg:Str->Option Value}{base:Heap}{t:Ad}
def iM:Option ae->V
 |none=>.bj
 |some m=>.ref m.a
def nU(t:Ad):Option ae->Cells
 |none=>[]
 |some m=>m.cells t
def c6(t:Ad)(da dd:Addr)(o:Option ae):Cells:=(da,.ins t.dc dd [("switch",iM o)])::nU t o
def iT:Option ae->Vbcnab.State->Prop
 |none,s=>s=Vbcnab.start
 |some m,s=>Rep m s
def Kd(t:Ad)(H:Hp)(da dd:Addr)(o:Option ae)(res:Vbcnab.State×List Int)(Q:VK):Prop:=
 ∀(H':Hp)(o':Option ae)(p:Addr),Step H (c6 t da dd o) H' (c6 t da dd o')->iT o' res.1->H' p=some (.lst (res.2.map V.int))->Q (.ref p) H'
theorem DR{H:Hp}{da dd:Addr}{o:Option ae}(h:Own H (c6 t da dd o)):H da=some (.ins t.dc dd [("switch",iM o)]):=h.at_ (da,_) List.mem_cons_self
theorem Kd.fin{H H1:Hp}{da dd:Addr}{o o1:Option ae}{res:Vbcnab.State×List Int}{Q:VK}(k:Kd t H da dd o res Q)(st:Step H (c6 t da dd o) H1 (c6 t da dd o1)){s1:Vbcnab.State}{xs:List Int}(e:res=(s1,xs))(hr:iT o1 s1){zs:List V}(hz:zs=xs.map V.int):∀p,H1 p=Option.none->Q (.ref p) (upd H1 p (.lst zs)):=λp hp=>by
 subst e hz
 exact k _ o1 p (st.jv hp) hr aN
theorem Kd.down{H:Hp}{da dd:Addr}{m:ae}{res:Vbcnab.State×List Int}{Q:VK}(h:Own H (c6 t da dd (some m)))(k:Kd t H da dd (some m) res Q):Kt t H m res Q:=λH' m' p st ha rp hp=>by
 refine k H' (some m') p ?_ rp hp
 refine Step.focus (C:=m.cells t) (C':=m'.cells t) (R:=[(da,.ins t.dc dd [("switch",V.ref m.a)])]) h ?_ ?_ st
 .exact List.perm_append_comm (l₁:=[_])
 .show((da,HO.ins t.dc dd [("switch",V.ref m'.a)])::m'.cells t).Perm _
  rw[ha]
  exact List.perm_append_comm (l₁:=[_])
def Lp(t:Ad):Sp:=λvs H Q _=>∃(x d:Addr),vs=[.ref x]/\H x=some (.ins t.dc d [])/\∀(H':Hp),Step H [(x,.ins t.dc d [])] H' (c6 t x d none)->Q .bj H'
theorem Hd(T:Txt K mg t):aX P w K mg base aY 1 t.jY t.jP ["self"] (Lp t):=by
 refine T.Ex.ok NX (λvs H Q E h=>?_) (λcdv A outer s0 H vs Q E hr h=>?_)
 .obtain⟨x,d,rfl,_⟩:=h
  rfl
 .obtain⟨x,d,rfl,hx,k⟩:=h
  refine⟨_,ao (bx (pv 0) (IH) rfl),?_⟩
  show iJ _ _ _ _ _ [some (.ref x)] H
  have s0:Step H [(x,.ins t.dc d [])] H [(x,.ins t.dc d [])]:=Step.refl (kz hx)
  simp only[seval,hx]
  exact⟨by show 0<1000;decide,k _ s0.fld⟩
def Ln(t:Ad):Sp:=λvs H Q _=>∃(da dd:Addr)(o:Option ae)(s:Vbcnab.State)(a b c d:Int),vs=[.ref da,.int a,.int b,.int c,.int d]/\Own H (c6 t da dd o)/\iT o s/\Kd t H da dd o (Vbcnab.step s (.begin_ a b c d)) Q
theorem Ht(T:Txt K mg t):aX P w K mg base aY 5 t.vK t.tT ["desk","ports","cap","age","hold"] (Ln t):=by
 refine T.begin.fn.ok N9 (λvs H Q E h=>?_) (λcdv A outer s0 H vs Q E hr h=>?_)
 .obtain⟨da,dd,o,s,a,b,c,d,rfl,_⟩:=h
  rfl
 .obtain⟨da,dd,o,s,a,b,c,d,rfl,hO,ok,k⟩:=h
  have k:Kd t H da dd o (if(Vbcnab.within a 1 64&&(Vbcnab.within b 1 65536&&(Vbcnab.within c 1 1000000&&Vbcnab.within d 0 1000000)))=false then(s,[-1]) else(Vbcnab.fresh a.toNat b.toNat c.toNat d.toNat,[0])) Q:=k
  simp only[bS] at k
  refine⟨_,ai (aw (bF (PW.pt (eR (c9 bB bB (aj) (pv 1) (aI rfl T.C8)) (eT (c9 bB bB (aj) (pv 2) (aI rfl T.C3)))))) (ao (aq (aB (aa (bf bh (aj)) ah)))) (ay)) (ai (aw (bF (PW.pt (eR (c9 bB bB (aj) (pv 3) (aI rfl T.lb)) (eT (c9 bB bB (aj) (pv 4) (aI rfl T.lb)))))) (ao (aq (aB (aa (bf bh (aj)) ah)))) (ay)) (ai (bx (pv 0) (fD T.Gj (Hh T) (hr.mono (by decide)) rfl T.F4 T.CJ .nil eA (aa (pv 1) (aa (pv 2) (aa (pv 3) (aa (pv 4) ah))))) rfl) (ao (aq (aB (aa (aj) ah)))))),?_⟩
  show aW _ _ _ [some (.ref da),some (.int a),some (.int b),some (.int c),some (.int d)] H
  simp only[seval,aE]
  have no:¬(1<=a/\a<=64/\1<=b/\b<=65536/\1<=c/\c<=1000000/\0<=d/\d<=1000000)->∀p,H p=none->Q (.ref p) (upd H p (.lst [V.int (-1)])):=λhn=>
   k.fin (Step.refl hO) (if_pos (by
    rw[<-Bool.not_eq_true]
    intro z
    simp only[Bool.and_eq_true,decide_eq_true_eq] at z
    exact hn (by omega))) ok rfl
  refine az (λha=>?_) (λha=>no (by omega))
  refine az (λhb=>no (by omega)) (λhb=>?_)
  refine az (λhc=>?_) (λhc=>no (by omega))
  refine az (λhd=>no (by omega)) (λhd=>?_)
  rw[if_neg (by
   rw[Bool.not_eq_false]
   simp only[Bool.and_eq_true,decide_eq_true_eq]
   omega)] at k
  intro x dx hx hdx hne
  refine⟨x,dx,a.toNat,b.toNat,c.toNat,d.toNat,?_,aN,by omega,by omega,by omega,by omega,by omega,λH2 m ha2 s2 rp=>⟨rfl,?_⟩⟩
  .rw[Int.toNat_of_nonneg (by omega),Int.toNat_of_nonneg (by omega),Int.toNat_of_nonneg (by omega),Int.toNat_of_nonneg (by omega)]
  .have s3:=Step.made (Step.refl hO) hx hdx s2
   rw[show H2 da=_ from s3.own.at_ (da,.ins t.dc dd [("switch",iM o)]) (List.mem_append_right _ List.mem_cons_self)]
   refine⟨T.tD,T.yD,by show 1<1000;decide,?_⟩
   have s4:Step H (c6 t da dd o) (upd H2 da (.ins t.dc dd (bc "switch" (V.ref x) [("switch",iM o)]))) ((da,.ins t.dc dd (bc "switch" (V.ref x) [("switch",iM o)]))::(m.cells t++nU t o)):=Step.push s3
   have s5:=s4.sub (cs2:=c6 t da dd (some m)) (by
    unfold c6
    show List.Sublist ((da,HO.ins t.dc dd [("switch",V.ref m.a)])::m.cells t) ((da,HO.ins t.dc dd [("switch",V.ref x)])::(m.cells t++nU t o))
    rw[ha2]
    exact List.Sublist.cons₂ _ (List.sublist_append_left _ _))
   exact k.fin s5 rfl rp rfl
def Lo(t:Ad):Sp:=λvs H Q _=>∃(da dd:Addr)(o:Option ae)(s:Vbcnab.State)(n:Nat)(xs:List Int)(ga:Addr),vs=[.ref da,.int n,.ref ga]/\n<=31/\xs.length=lenOf n/\H ga=some (.lst (xs.map V.int))/\Own H (c6 t da dd o)/\iT o s/\Kd t H da dd o (Vbcnab.step s (fO n xs)) Q
theorem ye{xs:List Int}(h:xs.length=4):∃a b c d,xs=[a,b,c,d]:=match xs,h with|[a,b,c,d],_=>⟨a,b,c,d,rfl⟩
def om:Vbcnab.Call->Bool
 |.begin_ _ _ _ _=>true
 |_=>false
theorem xY{n:Nat}(h:n<=31):n=0\/n=1\/n=2\/n=3\/n=4\/n=5\/n=6\/n=7\/n=8\/n=9\/n=10\/n=11\/n=12\/n=13\/n=14\/n=15\/n=16\/n=17\/n=18\/n=19\/n=20\/n=21\/n=22\/n=23\/n=24\/n=25\/n=26\/n=27\/n=28\/n=29\/n=30\/n=31:=(by decide+kernel:∀m:Fin 32,m.1=0\/m.1=1\/m.1=2\/m.1=3\/m.1=4\/m.1=5\/m.1=6\/m.1=7\/m.1=8\/m.1=9\/m.1=10\/m.1=11\/m.1=12\/m.1=13\/m.1=14\/m.1=15\/m.1=16\/m.1=17\/m.1=18\/m.1=19\/m.1=20\/m.1=21\/m.1=22\/m.1=23\/m.1=24\/m.1=25\/m.1=26\/m.1=27\/m.1=28\/m.1=29\/m.1=30\/m.1=31) ⟨n,Nat.lt_succ_of_le h⟩
theorem Dr:∀{n:Nat}{xs:List Int},1<=n->n<=31->xs.length=lenOf n->om (fO n xs)=false:=by
 intro n xs h1 h2 hl
 rcases xY h2 with rfl|rfl|rfl|rfl|rfl|rfl|rfl|rfl|rfl|rfl|rfl|rfl|rfl|rfl|rfl|rfl|rfl|rfl|rfl|rfl|rfl|rfl|rfl|rfl|rfl|rfl|rfl|rfl|rfl|rfl|rfl|rfl<;>
  first
  |exact absurd h1 (by decide)
  |(obtain⟨a,rfl⟩:=bV hl;rfl)
  |(obtain⟨a,b,rfl⟩:=cw hl;rfl)
  |(obtain⟨a,b,c,rfl⟩:=ek hl;rfl)
  |(obtain⟨a,b,c,d,e,rfl⟩:=lX hl;rfl)
theorem Ay{s:Vbcnab.State}{c:Vbcnab.Call}(h:om c=false):Vbcnab.step s c=if s.on=false then(s,[-20]) else Vbcnab.doing s c:=by
 cases c<;>first|rfl|cases h
theorem Hk(T:Txt K mg t):aX P w K mg base aY 9 t.vD t.tN ["desk","number","given"] (Lo t):=by
 refine T.sA.fn.ok N3 (λvs H Q E h=>?_) (λcdv A outer s0 H vs Q E hr h=>?_)
 .obtain⟨da,dd,o,s,n,xs,ga,rfl,_⟩:=h
  rfl
 .obtain⟨da,dd,o,s,n,xs,ga,rfl,h31,hl,hga,hO,ok,k⟩:=h
  refine⟨_,ai (aw (aU bb (pv 1) (aI rfl T.CN) (aQ _)) (ao (aq (aD T.begin (Ht T) (hr.mono (by decide)) rfl (aa (pv 0) (aa (aO bq (pv 2) (aj) (λ_ _=>rfl)) (aa (aO bq (pv 2) (aj) (λ_ _=>rfl)) (aa (aO bq (pv 2) (aj) (λ_ _=>rfl)) (aa (aO bq (pv 2) (aj) (λ_ _=>rfl)) ah)))))))) (ay)) (ai (aw (cj (IB (ak (pv 0) rfl))) (ao (aq (aB (aa (aI rfl T.Dd) ah)))) (ay)) (ai (aw (aU bB (pv 1) (aj) (aQ _)) (ao (aq (aD T.sG (Hr T) (hr.mono (by decide)) rfl (aa (ak (pv 0) rfl) (aa (pv 1) (aa (pv 2) ah)))))) (ay)) (ai (aw (aU bB (pv 1) (aj) (aQ _)) (ao (aq (aD T.sF (Hq T) (hr.mono (by decide)) rfl (aa (ak (pv 0) rfl) (aa (pv 1) (aa (pv 2) ah)))))) (ay)) (ai (aw (aU bB (pv 1) (aj) (aQ _)) (ao (aq (aD T.sE (Ho T) (hr.mono (by decide)) rfl (aa (ak (pv 0) rfl) (aa (pv 1) (aa (pv 2) ah)))))) (ay)) (ai (aw (aU bB (pv 1) (aj) (aQ _)) (ao (aq (aD T.sD (Hn T) (hr.mono (by decide)) rfl (aa (ak (pv 0) rfl) (aa (pv 1) (aa (pv 2) ah)))))) (ay)) (ao (aq (aD T.sC (Hm T) (hr.mono (by decide)) rfl (aa (ak (pv 0) rfl) (aa (pv 1) (aa (pv 2) ah))))))))))),?_⟩
  show aW _ _ _ [some (.ref da),some (.int n),some (.ref ga)] H
  simp only[seval,aE]
  by_cases h0:n=0
  .subst h0
   refine az (λ_=>?_) (λz=>absurd (by rfl) z)
   obtain⟨a,b,c,d,rfl⟩:=ye hl
   refine⟨_,_,_,_,rfl,rfl,ax.of hga,rfl,_,_,_,_,rfl,rfl,ax.of hga,rfl,_,_,_,_,rfl,rfl,ax.of hga,rfl,_,_,_,_,rfl,rfl,ax.of hga,rfl,da,dd,o,s,a,b,c,d,rfl,hO,ok,k⟩
  rw[Ay (Dr (by omega) h31 hl)] at k
  refine az (λz=>absurd z (by omega)) (λ_=>?_)
  simp only[seval,DR hO]
  have eS:List.lookup ("switch":Str) [(("switch":Str),iM o)]=some (iM o):=rfl
  simp only[eS]
  cases o with
  |none=>
   have ok:s=Vbcnab.start:=ok
   subst ok
   refine az (λ_=>k.fin (Step.refl hO) (if_pos rfl) rfl rfl) (λz=>absurd rfl z)
  |some m=>
   have rep:Rep m s:=ok
   rw[if_neg (by rw[rep.on];decide)] at k
   have k2:=Kd.down hO k
   have hO2:Own H (m.cells t):=Own.right (a:=[_]) hO
   refine az (λz=>absurd z (by intro z;cases z)) (λ_=>?_)
   refine az (λh1=>⟨m,s,n,xs,ga,rfl,by omega,by omega,hl,hga,hO2,rep,k2⟩) (λh1=>?_)
   refine az (λh2=>⟨m,s,n,xs,ga,rfl,by omega,by omega,hl,hga,hO2,rep,k2⟩) (λh2=>?_)
   refine az (λh2=>⟨m,s,n,xs,ga,rfl,by omega,by omega,hl,hga,hO2,rep,k2⟩) (λh2=>?_)
   refine az (λh2=>⟨m,s,n,xs,ga,rfl,by omega,by omega,hl,hga,hO2,rep,k2⟩) (λh2=>?_)
   exact⟨m,s,n,xs,ga,rfl,by omega,by omega,hl,hga,hO2,rep,k2⟩
end
end Sw
namespace Sw
open PySem PySem.Spec PyProof.Rows L2
inductive Fl:List Int->List (Nat×List Int)->Prop
 |nil:Fl [] []
 |cons {n:Nat} {xs r:List Int} {cs:List (Nat×List Int)}:n<=31->xs.length=lenOf n->Fl r cs->Fl ((n:Int)::(xs++r)) ((n,xs)::cs)
theorem K6{p:Int}{a b:Nat}(h:PyVbcnab.shape p=some (a,b)):∃n:Nat,p=n/\n<=31/\a=lenOf n/\b=0:=by
 by_cases hp:0<=p/\p<=31
 .obtain⟨n,rfl⟩:∃n:Nat,p=n:=⟨p.toNat,by omega⟩
  refine⟨n,rfl,by omega,?_⟩
  have all:∀k:Nat,k<32->PyVbcnab.shape (k:Int)=some (lenOf k,0):=by decide
  rw[all n (by omega)] at h
  cases h
  exact⟨rfl,rfl⟩
 .exfalso
  have no:∀k:Int,0<=k->k<=31->¬p=k:=λk h1 h2 z=>hp (by omega)
  unfold PyVbcnab.shape at h
  simp only[no _ (show(0:Int)<=0 by decide) (by decide),no 1 (by decide) (by decide),no 2 (by decide) (by decide),no 3 (by decide) (by decide),no 4 (by decide) (by decide),no 5 (by decide) (by decide),no 6 (by decide) (by decide),no 7 (by decide) (by decide),no 8 (by decide) (by decide),no 9 (by decide) (by decide),no 10 (by decide) (by decide),no 11 (by decide) (by decide),no 12 (by decide) (by decide),no 13 (by decide) (by decide),no 14 (by decide) (by decide),no 15 (by decide) (by decide),no 16 (by decide) (by decide),no 17 (by decide) (by decide),no 18 (by decide) (by decide),no 19 (by decide) (by decide),no 20 (by decide) (by decide),no 21 (by decide) (by decide),no 22 (by decide) (by decide),no 23 (by decide) (by decide),no 24 (by decide) (by decide),no 25 (by decide) (by decide),no 26 (by decide) (by decide),no 27 (by decide) (by decide),no 28 (by decide) (by decide),no 29 (by decide) (by decide),no 30 (by decide) (by decide),no 31 (by decide) (by decide),if_false] at h
  cases h
def iq(c:Nat×List Int):List (List Int):=[(c.1:Int)::c.2]
theorem s_:∀(f:Nat)(l:List Int)(cs:List (List (List Int))),PyFlat.calls PyVbcnab.shape f l=some cs->∃fs,Fl l fs/\cs=fs.map iq
 |_,[],cs,h=>by
  have e:cs=[]:=by
   rw[PyFlat.calls] at h
   exact(Option.some.inj h).symm
  exact⟨[],.nil,e⟩
 |0,_::_,cs,h=>by rw[PyFlat.calls] at h;cases h
 |f+1,p::r,cs,h=>by
  rw[PyFlat.calls,PyFlat.call] at h
  cases hs:PyVbcnab.shape p with
  |none=>rw[hs] at h;cases h
  |some ab=>
   obtain⟨a,b⟩:=ab
   obtain⟨n,rfl,hn,rfl,rfl⟩:=K6 hs
   rw[hs] at h
   simp only[PyFlat.rows] at h
   by_cases hl:r.length<lenOf n
   .rw[if_pos hl] at h;cases h
   .rw[if_neg hl] at h
    simp only[] at h
    cases hc:PyFlat.calls PyVbcnab.shape f (r.drop (lenOf n)) with
    |none=>rw[hc] at h;cases h
    |some cs'=>
     rw[hc] at h
     obtain⟨fs,hf,rfl⟩:=s_ f _ _ hc
     refine⟨(n,r.take (lenOf n))::fs,?_,(Option.some.inj h).symm⟩
     have z:=Fl.cons (xs:=r.take (lenOf n)) hn (by rw[List.length_take];omega) hf
     rwa[List.take_append_drop] at z
theorem Fl.all{l:List Int}{fs:List (Nat×List Int)}(h:Fl l fs):∀c∈fs,c.1<=31/\c.2.length=lenOf c.1:=by
 induction h with
 |nil=>intro c hc;cases hc
 |cons h1 h2 _ ih=>
  intro c hc
  rcases List.mem_cons.mp hc with rfl|hc
  .exact⟨h1,h2⟩
  .exact ih c hc
theorem xm{n:Nat}{xs:List Int}(h2:n<=31)(hl:xs.length=lenOf n):PyVbcnab.whole (iq (n,xs))=iq (n,xs)/\VbcnabNeutral.call (iq (n,xs))=some (fO n xs):=by
 rcases xY h2 with rfl|rfl|rfl|rfl|rfl|rfl|rfl|rfl|rfl|rfl|rfl|rfl|rfl|rfl|rfl|rfl|rfl|rfl|rfl|rfl|rfl|rfl|rfl|rfl|rfl|rfl|rfl|rfl|rfl|rfl|rfl|rfl<;>
  first
  |(obtain⟨a,rfl⟩:=bV hl;exact⟨rfl,rfl⟩)
  |(obtain⟨a,b,rfl⟩:=cw hl;exact⟨rfl,rfl⟩)
  |(obtain⟨a,b,c,rfl⟩:=ek hl;exact⟨rfl,rfl⟩)
  |(obtain⟨a,b,c,d,rfl⟩:=ye hl;exact⟨rfl,rfl⟩)
  |(obtain⟨a,b,c,d,e,rfl⟩:=lX hl;exact⟨rfl,rfl⟩)
def ip(s:Vbcnab.State)(fs:List (Nat×List Int)):List Int:=PyFlat.told (PyFlat.played VbcnabNeutral.step s (fs.map iq))
theorem DX{s:Vbcnab.State}{n:Nat}{xs:List Int}{fs:List (Nat×List Int)}(h2:n<=31)(hl:xs.length=lenOf n):ip s ((n,xs)::fs)=((Vbcnab.step s (fO n xs)).2.length:Int)::((Vbcnab.step s (fO n xs)).2++ip (Vbcnab.step s (fO n xs)).1 fs):=by
 have e:VbcnabNeutral.step s (iq (n,xs))=Vbcnab.step s (fO n xs):=by
  unfold VbcnabNeutral.step
  rw[(xm h2 hl).2]
 unfold ip
 rw[List.map_cons,PyFlat.played,e]
 rfl
theorem CC{l:List Int}(h:PyVbcnab.answers_asked l=true):∃fs,Fl l fs/\fs.length<=400/\PyVbcnab.answers l=ip Vbcnab.start fs:=by
 unfold PyVbcnab.answers_asked at h
 unfold PyVbcnab.answers
 cases hc:PyVbcnab.calls l with
 |none=>rw[hc] at h;cases h
 |some cs=>
  rw[hc] at h
  have hc':=hc
  unfold PyVbcnab.calls at hc'
  cases hd:PyFlat.calls PyVbcnab.shape l.length l with
  |none=>rw[hd] at hc';cases hc'
  |some ds=>
   rw[hd] at hc'
   obtain⟨fs,hf,rfl⟩:=s_ _ _ _ hd
   have e:cs=fs.map iq:=by
    rw[<-Option.some.inj hc',List.map_map]
    refine List.map_congr_left λc hc=>?_
    have z:=hf.all c hc
    exact(xm z.1 z.2).1
   subst e
   refine⟨fs,hf,?_,rfl⟩
   have z:=(Bool.and_eq_true _ _▸h).1
   unfold PyFlat.atMost at z
   simpa using z
theorem Bd.Md:Bd Vbcnab.start 0:=⟨Nat.le_refl 0,Nat.le_refl 0,λd hd=>by cases hd⟩
theorem Bd.step{o:Option ae}{s:Vbcnab.State}{n:Nat}(ok:iT o s)(h:Bd s n)(c:Vbcnab.Call):Bd (Vbcnab.step s c).1 (n+3)/\(Vbcnab.step s c).2.length<=300+4*n:=by
 by_cases hb:om c=true
 .cases c<;>first|cases hb|skip
  rename_i a b c d
  unfold Vbcnab.step
  simp only[]
  by_cases hz:(Vbcnab.within a 1 64&&(Vbcnab.within b 1 65536&&(Vbcnab.within c 1 1000000&&Vbcnab.within d 0 1000000)))=false
  .rw[if_pos hz]
   exact⟨h.up (by omega),by show 1<=_;omega⟩
  .rw[if_neg hz]
   refine⟨⟨Nat.zero_le _,Nat.zero_le _,λx hx=>?_⟩,by show 1<=_;omega⟩
   have hx:x∈List.replicate a.toNat _:=hx
   rw[List.eq_of_mem_replicate hx]
   exact Nat.zero_le _
 .rw[Ay (by simpa using hb)]
  cases o with
  |none=>
   have ok:s=Vbcnab.start:=ok
   rw[if_pos (by rw[ok];rfl)]
   exact⟨h.up (by omega),by show 1<=_;omega⟩
  |some m=>
   have rep:Rep m s:=ok
   rw[if_neg (by rw[rep.on];decide)]
   refine⟨h.doing rep.dX c,DS h ?_ (λp hp=>?_) c⟩
   .rw[rep.ports,List.length_map,rep.dF];exact rep.cg
   .rw[rep.ports] at hp
    obtain⟨x,hx,rfl⟩:=List.mem_map.mp hp
    exact(rep.dP x hx).dl
end Sw
namespace Sw
open PySem PySem.Spec PyProof.Rows L2
section
variable{P:Program}{w:World}{K:PySem.W.Frag}{mg:Str->Option Value}{base:Heap}{t:Ad}
def rE(K:PySem.W.Frag):Sp:=λvs H Q _=>∃(a:Addr)(ns:List Int),vs=[.ref a]/\ax K H a (ns.map V.int)/\ns.length<=16000/\PyVbcnab.answers_asked ns=true/\∀(H':Hp)(p:Addr),H' p=some (.lst ((PyVbcnab.answers ns).map V.int))->Q (.ref p) H'
def Cf(t:Ad)(H:Hp)(ns:List Int)(fs0:List (Nat×List Int))(ca x dx ta:Addr)(σ:L2.St)(H':Hp):Prop:=∃(p q r:Option V)(place:Nat)(fs:List (Nat×List Int))(o:Option ae)(s:Vbcnab.State)(tl:List Int),σ=[some (.ref ca),some (.ref x),some (.ref ta),some (.int place),p,q,r]/\place<=ns.length/\Fl (ns.drop place) fs/\fs.length<=400/\iT o s/\Bd s (3*(400 -fs.length))/\tl++ip s fs=ip Vbcnab.start fs0/\tl.length<=(400 -fs.length)*5101/\Step H [] H' ((ta,.lst (tl.map V.int))::c6 t x dx o)
def intOf:Option (Option V)->Nat
 |some (some (V.int z))=>z.toNat
 |_=>0
def Cg(ns:List Int)(σ:L2.St)(_:Hp):Nat:=ns.length -intOf σ[3]?
theorem Fl.inv{l:List Int}{fs:List (Nat×List Int)}(h:Fl l fs):(l=[]/\fs=[])\/∃(n:Nat)(xs r:List Int)(cs:List (Nat×List Int)),l=(n:Int)::(xs++r)/\fs=(n,xs)::cs/\n<=31/\xs.length=lenOf n/\Fl r cs:=by
 cases h with
 |nil=>exact .inl ⟨rfl,rfl⟩
 |cons h1 h2 h3=>exact .inr ⟨_,_,_,_,rfl,rfl,h1,h2,h3⟩
theorem DH{ns xs rest:List Int}{place n:Nat}(h:ns.drop place=(n:Int)::(xs++rest)):i3 (ns.map V.int) (some ((place:Int)+1)) (some ((place:Int)+1+(xs.length:Nat)))=xs.map V.int:=by
 have hl:=congrArg List.length h
 rw[List.length_drop,List.length_cons,List.length_append] at hl
 have e1:HT.di (ns.map V.int).length 0 (some ((place:Int)+1))=place+1:=by
  unfold HT.di
  rw[List.length_map]
  show(if(place:Int)+1<0 then _ else min ((place:Int)+1).toNat ns.length)=_
  rw[if_neg (by omega)]
  omega
 have e2:HT.di (ns.map V.int).length (ns.map V.int).length (some ((place:Int)+1+(xs.length:Nat)))=place+1+xs.length:=by
  unfold HT.di
  rw[List.length_map]
  show(if(place:Int)+1+(xs.length:Nat)<0 then _ else min ((place:Int)+1+(xs.length:Nat)).toNat ns.length)=_
  rw[if_neg (by omega)]
  omega
 unfold i3
 rw[e1,e2,<-List.map_drop,<-List.drop_drop,h]
 show((xs++rest).map V.int).take _=_
 rw[show place+1+xs.length -(place+1)=xs.length by omega,List.map_append]
 exact List.take_left' (List.length_map _)
theorem FW:[V.int (4),V.int (1),V.int (1),V.int (2),V.int (3),V.int (2),V.int (2),V.int (1),V.int (2),V.int (2),V.int (2),V.int (3),V.int (3),V.int (1),V.int (2),V.int (2),V.int (2),V.int (2),V.int (3),V.int (2),V.int (3),V.int (3),V.int (2),V.int (1),V.int (2),V.int (1),V.int (5),V.int (2),V.int (1),V.int (1),V.int (1),V.int (1)]=(List.range 32).map λk=>V.int (lenOf k):=rfl
theorem Hs(T:Txt K mg t):aX P w K mg base aY 10 t.vJ t.nQ ["calls"] (rE K):=by
 refine T.answers.fn.ok Bo (λvs H Q E h=>?_) (λcdv A outer s0 H vs Q E hr h=>?_)
 .obtain⟨a,ns,rfl,_⟩:=h
  rfl
 .obtain⟨ca,ns,rfl,hS,hlen,hask,k⟩:=h
  obtain⟨fs0,hfl,h400,hdue⟩:=CC hask
  rw[hdue] at k
  have nd:=Bo.nd
  refine⟨_,ai (bg (i:=1) nd rfl (Or.inl rfl) (zb T.Gf (Hd T) (hr.mono (by decide)) rfl T.F0 T.CF .nil eA)) (ai (bg (i:=2) nd rfl (Or.inl rfl) (aB (ah))) (ai (bg (i:=3) nd rfl (Or.inl rfl) (aj)) (ai (Ji PassesOwn.never (aU iB (pv 3) (bW sZ rfl T.len PySem.boot_len (aa (pv 0) ah)) (aQ _)) (ai (bg (i:=4) nd rfl (Or.inl rfl) (aO bq (pv 0) (pv 3) (λ_ _=>rfl))) (ai (bg (i:=5) nd rfl (Or.inl rfl) (cG ez (cG ez (pv 3) (aj)) (aO EI (IF rfl T.C7) (pv 4) (λ_ _=>rfl)))) (ai (bg (i:=6) nd rfl (Or.inl rfl) (IG (aD T.sA (Hk T) (hr.mono (by decide)) rfl (aa (pv 1) (aa (pv 4) (aa (II Lh (pv 0) (zl (cG ez (pv 3) (aj))) (zl (pv 5))) ah)))))) (ai (cB (fS PySem.F.plainAttrs_list PySem.F.slot_list_append PySem.F.type_list_append ki (pv 2) (aa (bW dN rfl T.len PySem.boot_len (aa (pv 6) ah)) ah))) (ai (cB (fS PySem.F.plainAttrs_list PySem.F.slot_list_extend PySem.F.type_list_extend kj (pv 2) (aa (pv 6) ah))) (ao (bg (i:=3) nd rfl (Or.inl rfl) (pv 5))))))))) (ao (aq (pv 2)))))),?_⟩
  show aW _ _ _ [some (.ref ca),none,none,none,none,none,none] H
  simp only[seval,aE]
  intro x dx hx hdx hne
  refine⟨x,dx,rfl,aN,λH1 s1=>⟨rfl,Nat.zero_le _,λta hta=>?_⟩⟩
  have s2:Step H [] H1 (c6 t x dx none++[]):=Step.made (Step.refl ⟨λc hc=>(by cases hc),List.nodup_nil⟩) hx hdx s1
  rw[List.append_nil] at s2
  have s3:=s2.trans (Step.lay (o:=.lst (([]:List Int).map V.int)) s2.own hta)
  refine M9 (Cf t H ns fs0 ca x dx ta) (Cg ns) ⟨none,none,none,0,fs0,none,Vbcnab.start,[],rfl,Nat.zero_le _,hfl,h400,rfl,Bd.Md.up (Nat.zero_le _),rfl,Nat.zero_le _,s3⟩ ?_ ?_
  .rintro σ H' ⟨p,q,r,place,fs,o,s,tl,rfl,hpl,hf,h4,ok,bd,hd,htl,st⟩
   simp only[seval,aE]
   have hL:ax K H' ca (ns.map V.int):=st.seq hS (by intro z;cases z)
   refine⟨_,.inl hL,?_⟩
   rw[List.length_map]
   refine az (λhlt=>?_) (λhge=>?_)
   .have hlt:place<ns.length:=by omega
    have hdr:ns.drop place=ns[place]::ns.drop (place+1):=List.drop_eq_getElem_cons hlt
    have hat:bY (ns.map V.int) (place:Int)=some (V.int ns[place]):=cS (by rw[List.getElem?_map,List.getElem?_eq_getElem hlt];rfl)
    refine⟨ca,_,_,_,rfl,rfl,hL,hat,?_⟩
    rcases hf.inv with⟨z,_⟩|⟨n,xs,rest,cs,el,rfl,h31,hxl,hf2⟩
    .rw[hdr] at z;cases z
    rw[hdr] at el
    injection el with el1 el2
    rw[el1]
    have hln:bY _ (n:Int)=some (V.int (lenOf n:Nat)):=cS (xs:=(List.range 32).map λk=>V.int (lenOf k)) (j:=n) (by rw[List.getElem?_map,List.getElem?_range (by omega)];rfl)
    rw[<-FW] at hln
    refine⟨_,_,_,_,rfl,rfl,T.MQ H',hln,ta,_,st.hd,trivial,λod=>?_⟩
    simp only[seval,aE]
    have sm:au H H':=λb ob e=>st.fr b ob e (by intro z;cases z)
    have hta0:H ta=none:=(st.new ta List.mem_cons_self).resolve_left (by intro z;cases z)
    refine⟨_,rfl,_,rfl,ca,_,rfl,(bp sm hta0).seq hS,λga hga=>?_⟩
    have hO:Own H' (c6 t x dx o):=Own.right (a:=[_]) st.own
    have nta:ta∉adr (c6 t x dx o):=(List.nodup_cons.mp st.own.nd).1
    rw[<-hxl,DH (hdr.trans (by rw[el1,el2]))]
    generalize hHl:upd H' ta (.bz od (.lst (tl.map V.int)))=Hl at hga⊢
    have hlta:Hl ta=some (.bz od (.lst (tl.map V.int))):=by rw[<-hHl,aN]
    have hOl:Own Hl (c6 t x dx o):=⟨λc hc=>by rw[<-hHl,aF (by intro z;exact nta (by rw[<-z];exact gW hc))];exact hO.at_ c hc,hO.nd⟩
    refine⟨x,dx,o,s,n,xs,ga,rfl,h31,hxl,aN,hOl.same (bp (au.refl _) hga),ok,λH3 o3 ap s3 ok3 hap=>?_⟩
    have s5:Step Hl (c6 t x dx o) H3 (c6 t x dx o3):=((Step.refl hOl).jv hga).trans s3
    have h3ta:H3 ta=some (.bz od (.lst (tl.map V.int))):=s5.fr ta _ hlta nta
    have nap:ap≠ta:=by intro z;rw[z,h3ta] at hap;cases hap
    rw[<-hHl] at s5
    have s6:Step H [] (upd H3 ta (.lst (tl.map V.int))) ((ta,.lst (tl.map V.int))::c6 t x dx o3):=st.trans (Step.unlock (A:=[]) st.own s5)
    have bs:=Bd.step ok bd (fO n xs)
    have hdc:=DX (s:=s) (fs:=cs) h31 hxl
    generalize Vbcnab.step s (fO n xs)=res at ok3 hap bs hdc
    have hz:sizeLine=2^24:=rfl
    simp only[List.length_cons] at h4 bs htl
    have s7:=s6.trans (Step.cell (A:=[]) (o':=.lst (tl.map V.int++[V.int (res.2.map V.int).length])) s6.own rfl rfl)
    have s8:=s7.trans (Step.cell (A:=[]) (o':=.lst ((tl.map V.int++[V.int (res.2.map V.int).length])++res.2.map V.int)) s7.own rfl rfl)
    refine⟨h3ta,fX aN,ap,rfl,_,(aF nap).trans hap,by rw[List.length_map,hz];omega,fX aN,ta,ap,_,_,rfl,rfl,aN,(aF nap).trans ((aF nap).trans hap),?_,?_,?_⟩
    .have b2:=bs.2
     simp only[List.length_append,List.length_map,List.length_cons,List.length_nil]
     rw[hz];omega
    .have ec:(place:Int)+1+(xs.length:Nat)=((place+1+xs.length:Nat):Int):=by omega
     rw[ec]
     have hle:place+1+xs.length<=ns.length:=by
      have z:=congrArg List.length el2
      rw[List.length_drop,List.length_append] at z
      omega
     refine⟨_,_,_,place+1+xs.length,cs,o3,res.1,tl++((res.2.length:Int)::res.2),rfl,hle,?_,by omega,ok3,bs.1.up (by omega),?_,?_,?_⟩
     .rw[<-List.drop_drop,el2,List.drop_left];exact hf2
     .rw[<-hd,hdc,List.append_assoc];rfl
     .have b2:=bs.2
      simp only[List.length_append,List.length_cons]
      omega
     .have e:(tl++((res.2.length:Int)::res.2)).map V.int=(tl.map V.int++[V.int (res.2.map V.int).length])++res.2.map V.int:=by
       rw[List.map_append,List.append_assoc,List.length_map];rfl
      rw[e]
      exact s8
    .have ec:(place:Int)+1+(xs.length:Nat)=((place+1+xs.length:Nat):Int):=by omega
     rw[ec]
     show ns.length -(place+1+xs.length)<ns.length -place
     omega
   .have e:place=ns.length:=by omega
    subst e
    rw[List.drop_length] at hf
    rcases hf.inv with⟨_,rfl⟩|⟨n,xs,rest,cs,el,_⟩
    .refine k _ ta ?_
     have z:ip s []=[]:=rfl
     rw[z,List.append_nil] at hd
     rw[<-hd]
     exact st.hd
    .cases el
  .simp only[<-rO,A0,<-fU]
   rintro σ H Q Q' hq ⟨v,e1,w',e2,p,e3,xs,hs,i,j,e4,e5,b,e6,q⟩
   exact⟨v,e1,w',e2,p,e3,xs,hs,i,j,e4,e5,b,e6,hq _ _ q⟩
end
end Sw
section
namespace L2
open PySem PySem.Spec PyProof.Rows
open PySem.W (WData Codec OpenSpec Well WellAll ReadsW ReadsAllW)
mutual
inductive Dw(K:PySem.W.Frag)(H:Hp):V->WData->Prop
 |bj:Dw K H .bj .none
 |bl (b:Bool):Dw K H (.bl b) (.bool b)
 |int (i:Int):Dw K H (.int i) (.int i)
 |str (x:Str):Dw K H (.str x) (.str x)
 |dD (b:Array UInt8):Dw K H (.dD b) (.bytes b.toList)
 |lst {a:Addr} {xs:List V} {ds:List WData}:ax K H a xs->eW K H xs ds->Dw K H (.ref a) (.list ds)
 |tup {a:Addr} {xs:List V} {ds:List WData}:dk K H a xs->eW K H xs ds->Dw K H (.ref a) (.tuple ds)
inductive eW(K:PySem.W.Frag)(H:Hp):List V->List WData->Prop
 |nil:eW K H [] []
 |cons {v:V} {vs:List V} {d:WData} {ds:List WData}:Dw K H v d->eW K H vs ds->eW K H (v::vs) (d::ds)
end
theorem vq{K:PySem.W.Frag}{H:Hp}:∀ns:List Int,eW K H (ns.map V.int) (ns.map WData.int)
 |[]=>.nil
 |n::r=>.cons (.int n) (vq r)
theorem xQ{K:PySem.W.Frag}{H:Hp}:∀(ns:List Int)(xs:List V),eW K H xs (ns.map WData.int)->xs=ns.map V.int
 |[],xs,h=>by
  cases h
  rfl
 |n::r,xs,h=>by
  cases h with
  |cons h1 h2=>
   cases h1
   rw[xQ r _ h2]<;>rfl
section
variable{P:Program}{w:World}{K:PySem.W.Frag}{H:Hp}{h:Heap}{R:PySem.W.WRecords}{cl:Str->Option Addr}
theorem L4{a:Addr}{xs:List V}(aH:bU P w H h)(KX:K.In h)(q:ax K H a xs):∃(its:List Value)(o:Obj)(n:Nat),Vals xs its/\h.get? a=some o/\o.cls=.type "list"/\o.data=.seq its.toArray n:=by
 rcases q with q|⟨o,its,n,e,hc,_,hd,_,hv⟩
 .obtain⟨_,its,n,hv,e⟩:=(show cy P w H h a (.lst xs) from q.ok aH)
  exact⟨its,_,n,hv,e,rfl,rfl⟩
 .exact⟨its.toList,o,n,hv,KX _ _ e,hc,by simp[hd]⟩
theorem L5{a:Addr}{xs:List V}(aH:bU P w H h)(KX:K.In h)(q:dk K H a xs):∃(its:List Value)(o:Obj)(n:Nat),Vals xs its/\h.get? a=some o/\o.cls=.type "tuple"/\o.data=.seq its.toArray n:=by
 rcases q with q|⟨o,its,n,e,hc,hd,_,hv⟩
 .obtain⟨_,its,hv,o,e,hc,n,hd⟩:=(show cy P w H h a (.tup xs) from q.ok aH)
  exact⟨its,o,n,hv,e,hc,hd⟩
 .exact⟨its.toList,o,n,hv,KX _ _ e,hc,by simp[hd]⟩
mutual
theorem Dw.reads(aH:bU P w H h)(KX:K.In h):∀(d:WData)(v:V)(u:Value),Dw K H v d->RelV v u->∃as,ReadsW R cl h u d as
 |.none,_,_,x,r=>by
  cases x
  cases r
  exact⟨_,ReadsW.none⟩
 |.bool b,_,_,x,r=>by
  cases x
  cases r
  exact⟨_,ReadsW.bool b⟩
 |.int i,_,_,x,r=>by
  cases x
  obtain⟨t,rfl⟩:=r
  exact⟨_,ReadsW.int i t⟩
 |.str s,_,_,x,r=>by
  cases x
  obtain⟨t,rfl⟩:=r
  exact⟨_,ReadsW.str s t⟩
 |.bytes b,_,_,x,r=>by
  cases x
  obtain⟨t,rfl⟩:=r
  exact⟨_,ReadsW.bytes _ t⟩
 |.list ds,_,_,x,r=>by
  cases x with
  |lst hs ha=>
   cases r
   obtain⟨its,o,n,rv,ho,hc,hd⟩:=L4 aH KX hs
   obtain⟨as,hr⟩:=Dw.readsAll aH KX ds _ its ha rv
   exact⟨_,ReadsW.list ho hc hd hr⟩
 |.tuple ds,_,_,x,r=>by
  cases x with
  |tup hs ha=>
   cases r
   obtain⟨its,o,n,rv,ho,hc,hd⟩:=L5 aH KX hs
   obtain⟨as,hr⟩:=Dw.readsAll aH KX ds _ its ha rv
   exact⟨_,ReadsW.tuple ho hc hd hr⟩
 |.float _,_,_,x,_=>by cases x
 |.dict _,_,_,x,_=>by cases x
 |.bytearray _,_,_,x,_=>by cases x
 |.set _,_,_,x,_=>by cases x
 |.frozenset _,_,_,x,_=>by cases x
 |.obj _ _,_,_,x,_=>by cases x
theorem Dw.readsAll(aH:bU P w H h)(KX:K.In h):∀(ds:List WData)(vs:List V)(us:List Value),eW K H vs ds->Vals vs us->∃as,ReadsAllW R cl h us ds as
 |[],_,_,x,r=>by
  cases x
  cases r
  exact⟨_,ReadsAllW.nil⟩
 |d::ds,_,_,x,r=>by
  cases x with
  |cons h1 h2=>
   cases r with
   |cons r1 r2=>
    obtain⟨as,q1⟩:=Dw.reads aH KX d _ _ h1 r1
    obtain⟨bs,q2⟩:=Dw.readsAll aH KX ds _ _ h2 r2
    exact⟨_,ReadsAllW.cons q1 q2⟩
end
end
mutual
def eB:WData->Bool
 |.none=>true
 |.bool _=>true
 |.int _=>true
 |.str _=>true
 |.bytes _=>true
 |.list xs=>e_ xs
 |.tuple xs=>e_ xs
 |_=>false
def e_:List WData->Bool
 |[]=>true
 |x::r=>eB x&&e_ r
end
theorem zi{α:Type}{f:α->WData}(h:∀a,eB (f a)=true):∀l:List α,e_ (l.map f)=true
 |[]=>rfl
 |x::r=>by
  show(eB (f x)&&e_ (r.map f))=true
  rw[h x,zi h r]<;>rfl
theorem gX:∀(c:Codec)(a:c.denote),eB (c.enc a)=true
 |.unit,_=>rfl
 |.bool,_=>rfl
 |.int _ _,_=>rfl
 |.nat _ _,_=>rfl
 |.u8,_=>rfl
 |.bytes _ _,_=>rfl
 |.text _ _ _ _,_=>rfl
 |.list _ _ c,a=>zi (λx=>gX c x) a
 |.pair c d,a=>by
  show(eB (c.enc a.1)&&(eB (d.enc a.2)&&true))=true
  rw[gX c a.1,gX d a.2]<;>rfl
 |.triple c d e,a=>by
  show(eB (c.enc a.1)&&(eB (d.enc a.2.1)&&(eB (e.enc a.2.2)&&true)))=true
  rw[gX c a.1,gX d a.2.1,gX e a.2.2]<;>rfl
 |.option c,none=>rfl
 |.option c,some x=>gX c x
theorem zj:∀(cs:List Codec)(a:Codec.denoteAll cs),e_ (Codec.encAll cs a)=true
 |[],_=>rfl
 |c::cs,a=>by
  show(eB (c.enc a.1)&&e_ (Codec.encAll cs a.2))=true
  rw[gX c a.1,zj cs a.2]<;>rfl
theorem rT:∀{xs:List WData}{d:WData},d∈xs->d.weight<=WData.weightAll xs
 |[],d,h=>absurd h (by simp)
 |x::r,d,h=>by
  show d.weight<=x.weight+1+WData.weightAll r
  rcases List.mem_cons.mp h with e|m
  .rw[e]
   omega
  .have z:=rT m
   omega
def toV:Value->V
 |.none=>.bj
 |.bool b=>.bl b
 |.int i _=>.int i
 |.str x _=>.str x
 |.bytes b _=>.dD b
 |.ref a=>.ref a
 |_=>.bj
def eF(A:List Addr):Value->Prop
 |.none=>True
 |.bool _=>True
 |.int _ _=>True
 |.str _ _=>True
 |.bytes _ _=>True
 |.ref a=>a∈A
 |_=>False
theorem eF.mono{A B:List Addr}(h:∀a∈A,a∈B):∀{u:Value},eF A u->eF B u:=λ{u}x=>by
 cases u with
 |ref a=>exact h a x
 |none=>trivial
 |bool b=>trivial
 |int i t=>trivial
 |str s t=>trivial
 |bytes b t=>trivial
 |_=>exact False.elim x
theorem KN{A:List Addr}{u:Value}(x:eF A u):RelV (toV u) u:=by
 cases u with
 |ref a=>rfl
 |none=>rfl
 |bool b=>rfl
 |int i t=>exact⟨t,rfl⟩
 |str s t=>exact⟨t,rfl⟩
 |bytes b t=>exact⟨t,rfl⟩
 |_=>exact False.elim x
theorem jx{A:List Addr}:∀{vs:List Value},(∀u∈vs,eF A u)->Vals (vs.map toV) vs
 |[],_=>.nil
 |u::r,h=>.cons (KN (h u (List.mem_cons_self ..))) (jx λx hx=>h x (List.mem_cons_of_mem _ hx))
def eU(h:Heap)(A:List Addr)(a:Addr):Prop:=∃vs:List Value,vs.length<=sizeLine/\(∀u∈vs,eF A u)/\(h.get? a=some {cls:=.type "list",data:=.seq vs.toArray}\/h.get? a=some {cls:=.type "tuple",data:=.seq vs.toArray})
theorem eU.mono{h:Heap}{A B:List Addr}{a:Addr}(k:∀a∈A,a∈B)(x:eU h A a):eU h B a:=by
 obtain⟨vs,h1,h2,h3⟩:=x
 exact⟨vs,h1,λu hu=>(h2 u hu).mono k,h3⟩
theorem m9{P:Params}{h:Heap}:∀{vs:List Value}{ds:List WData},WellAll P h vs ds->vs.length=ds.length
 |_,_,.nil=>rfl
 |_,_,.cons _ b=>by
  show _+1=_+1
  rw[m9 b]
theorem Bj{P:Params}{h:Heap}{v:Value}{ds:List WData}(x:Well P h v (.list ds)):∃(a:Addr)(vs:List Value),v=.ref a/\h.get? a=some {cls:=.type "list",data:=.seq vs.toArray}/\WellAll P h vs ds:=by
 cases x with
 |list ho hall=>exact⟨_,_,rfl,ho,hall⟩
theorem Bk{P:Params}{h:Heap}{v:Value}{ds:List WData}(x:Well P h v (.tuple ds)):∃(a:Addr)(vs:List Value),v=.ref a/\h.get? a=some {cls:=.type "tuple",data:=.seq vs.toArray}/\WellAll P h vs ds:=by
 cases x with
 |tuple ho hall=>exact⟨_,_,rfl,ho,hall⟩
theorem Bi{P:Params}{h:Heap}{us:List Value}{d:WData}{ds:List WData}(x:WellAll P h us (d::ds)):∃(v:Value)(vs:List Value),us=v::vs/\Well P h v d/\WellAll P h vs ds:=by
 cases x with
 |cons a b=>exact⟨_,_,rfl,a,b⟩
theorem yi{n:Nat}(h:n<=1048576):n<=sizeLine:=Nat.le_trans h (by decide)
section
variable{P:Params}{h:Heap}
mutual
theorem Cw:∀(d:WData)(v:Value),Well P h v d->eB d=true->d.weight<=1048576->∃A:List Addr,eF A v/\∀a∈A,eU h A a
 |.none,_,x,_,_=>by
  cases x
  exact⟨[],trivial,λa m=>absurd m (by simp)⟩
 |.bool b,_,x,_,_=>by
  cases x
  exact⟨[],trivial,λa m=>absurd m (by simp)⟩
 |.int i,_,x,_,_=>by
  cases x
  exact⟨[],trivial,λa m=>absurd m (by simp)⟩
 |.str s,_,x,_,_=>by
  cases x
  exact⟨[],trivial,λa m=>absurd m (by simp)⟩
 |.bytes b,_,x,_,_=>by
  cases x
  exact⟨[],trivial,λa m=>absurd m (by simp)⟩
 |.list ds,_,x,p,z=>by
  obtain⟨a,vs,rfl,ho,hall⟩:=Bj x
  have z2:WData.weightAll ds<=1048576:=z
  obtain⟨A,h1,h2⟩:=k6 ds _ hall p λd hd=>Nat.le_trans (rT hd) z2
  have k:∀b∈A,b∈a::A:=λb hb=>List.mem_cons_of_mem _ hb
  refine⟨a::A,List.mem_cons_self ..,λb hb=>?_⟩
  rcases List.mem_cons.mp hb with e|m
  .rw[e]
   exact⟨vs,yi (by rw[m9 hall];exact Nat.le_trans (PySem.W.length_le_weightAllW ds) z2),λu hu=>(h1 u hu).mono k,.inl ho⟩
  .exact(h2 b m).mono k
 |.tuple ds,_,x,p,z=>by
  obtain⟨a,vs,rfl,ho,hall⟩:=Bk x
  have z2:WData.weightAll ds<=1048576:=z
  obtain⟨A,h1,h2⟩:=k6 ds _ hall p λd hd=>Nat.le_trans (rT hd) z2
  have k:∀b∈A,b∈a::A:=λb hb=>List.mem_cons_of_mem _ hb
  refine⟨a::A,List.mem_cons_self ..,λb hb=>?_⟩
  rcases List.mem_cons.mp hb with e|m
  .rw[e]
   exact⟨vs,yi (by rw[m9 hall];exact Nat.le_trans (PySem.W.length_le_weightAllW ds) z2),λu hu=>(h1 u hu).mono k,.inr ho⟩
  .exact(h2 b m).mono k
 |.float _,_,_,p,_=>Bool.noConfusion (show false=true from p)
 |.dict _,_,_,p,_=>Bool.noConfusion (show false=true from p)
 |.bytearray _,_,_,p,_=>Bool.noConfusion (show false=true from p)
 |.set _,_,_,p,_=>Bool.noConfusion (show false=true from p)
 |.frozenset _,_,_,p,_=>Bool.noConfusion (show false=true from p)
 |.obj _ _,_,_,p,_=>Bool.noConfusion (show false=true from p)
theorem k6:∀(ds:List WData)(vs:List Value),WellAll P h vs ds->e_ ds=true->(∀d∈ds,d.weight<=1048576)->∃A:List Addr,(∀u∈vs,eF A u)/\∀a∈A,eU h A a
 |[],_,x,_,_=>by
  cases x
  exact⟨[],λu m=>absurd m (by simp),λa m=>absurd m (by simp)⟩
 |d::ds,_,x,p,z=>by
  obtain⟨v,vs,rfl,x1,x2⟩:=Bi x
  have q:eB d=true/\e_ ds=true:=Bool.and_eq_true_iff.mp p
  obtain⟨A,a1,a2⟩:=Cw d v x1 q.1 (z d (List.mem_cons_self ..))
  obtain⟨B,b1,b2⟩:=k6 ds vs x2 q.2 λe he=>z e (List.mem_cons_of_mem _ he)
  have kA:∀b∈A,b∈A++B:=λb hb=>List.mem_append.mpr (.inl hb)
  have kB:∀b∈B,b∈A++B:=λb hb=>List.mem_append.mpr (.inr hb)
  refine⟨A++B,λu hu=>?_,λb hb=>?_⟩
  .rcases List.mem_cons.mp hu with e|m
   .rw[e]
    exact a1.mono kA
   .exact(b1 u m).mono kB
  .rcases List.mem_append.mp hb with m|m
   .exact(a2 b m).mono kA
   .exact(b2 b m).mono kB
end
end
def lM(o:Obj):Option HO:=match o.data with
 |.seq vs _=>if(o.cls==Value.type "list")=true then some (.bz o (.lst (vs.toList.map toV))) else some (.bz o (.tup (vs.toList.map toV)))
 |_=>none
def df(K:PySem.W.Frag)(h:Heap)(A:List Addr):Hp:=λb=>if b∈A then(if(K.lookup b).isNone=true then(h.get? b).bind lM else none) else none
def jB(H:Hp):Prop:=∀b,H b=none\/∃o u,H b=some (.bz o u)
theorem xG(vs:List Value):lM {cls:=.type "list",data:=.seq vs.toArray}=some (.bz {cls:=.type "list",data:=.seq vs.toArray} (.lst (vs.map toV))):=by
 show(if(Value.type "list"==Value.type "list")=true then some (HO.bz {cls:=.type "list",data:=.seq vs.toArray} (.lst (vs.toArray.toList.map toV))) else some (HO.bz {cls:=.type "list",data:=.seq vs.toArray} (.tup (vs.toArray.toList.map toV))))=_
 rw[if_pos (beq_self_eq_true _)]
theorem xH(vs:List Value):lM {cls:=.type "tuple",data:=.seq vs.toArray}=some (.bz {cls:=.type "tuple",data:=.seq vs.toArray} (.tup (vs.map toV))):=by
 show(if(Value.type "tuple"==Value.type "list")=true then some (HO.bz {cls:=.type "tuple",data:=.seq vs.toArray} (.lst (vs.toArray.toList.map toV))) else some (HO.bz {cls:=.type "tuple",data:=.seq vs.toArray} (.tup (vs.toArray.toList.map toV))))=_
 rw[if_neg (by decide)]
section
variable{P:Program}{w:World}{K:PySem.W.Frag}{h:Heap}{A:List Addr}
theorem k7{b:Addr}{o:Obj}(hb:b∈A)(hk:K.lookup b=none)(e:h.get? b=some o):df K h A b=lM o:=by
 unfold df
 rw[if_pos hb,hk,if_pos (show(none:Option Obj).isNone=true from rfl),e]<;>rfl
theorem Ha{b:Addr}{u:HO}(q:df K h A b=some u):b∈A/\K.lookup b=none:=by
 unfold df at q
 by_cases hb:b∈A
 .rw[if_pos hb] at q
  cases hk:K.lookup b with
  |none=>exact⟨hb,rfl⟩
  |some o=>
   rw[hk,if_neg (by simp)] at q
   cases q
 .rw[if_neg hb] at q
  cases q
theorem k8(ar:∀a∈A,eU h A a){b:Addr}{u:HO}(q:df K h A b=some u):K.lookup b=none/\∃vs:List Value,vs.length<=sizeLine/\(∀u∈vs,eF A u)/\((h.get? b=some {cls:=.type "list",data:=.seq vs.toArray}/\u=.bz {cls:=.type "list",data:=.seq vs.toArray} (.lst (vs.map toV)))\/
                                                                                                                                                 (h.get? b=some {cls:=.type "tuple",data:=.seq vs.toArray}/\u=.bz {cls:=.type "tuple",data:=.seq vs.toArray} (.tup (vs.map toV)))):=by
 obtain⟨hb,hk⟩:=Ha q
 obtain⟨vs,h1,h2,h3⟩:=ar b hb
 refine⟨hk,vs,h1,h2,?_⟩
 rcases h3 with e|e
 .rw[k7 hb hk e,xG] at q
  exact .inl ⟨e,(Option.some.inj q).symm⟩
 .rw[k7 hb hk e,xH] at q
  exact .inr ⟨e,(Option.some.inj q).symm⟩
theorem Cz(ar:∀a∈A,eU h A a):jB (df K h A):=λb=>by
 cases q:df K h A b with
 |none=>exact .inl rfl
 |some u=>
  obtain⟨_,vs,_,_,⟨_,e⟩|⟨_,e⟩⟩:=k8 ar q
  .exact .inr ⟨_,_,by rw[e]⟩
  .exact .inr ⟨_,_,by rw[e]⟩
theorem Cy(ar:∀a∈A,eU h A a):bU P w (df K h A) h:=λb u q=>by
 obtain⟨_,vs,h1,h2,⟨e,rfl⟩|⟨e,rfl⟩⟩:=k8 ar q
 .exact⟨e,by rw[List.length_map];exact h1,vs,_,jx h2,e⟩
 .exact⟨e,by rw[List.length_map];exact h1,vs,jx h2,_,e,rfl,_,rfl⟩
theorem mQ{c c':Value}{vs us:List Value}(e:(some {cls:=c,data:=.seq vs.toArray}:Option Obj)=some {cls:=c',data:=.seq us.toArray}):c=c'/\vs=us:=by
 have e1:=Option.some.inj e
 have e2:c=c':=congrArg Obj.cls e1
 have e3:Data.seq vs.toArray=Data.seq us.toArray:=congrArg Obj.data e1
 injection e3 with e4
 refine⟨e2,?_⟩
 have e5:=congrArg Array.toList e4
 simpa using e5
theorem CA(KX:K.In h)(ar:∀a∈A,eU h A a){a:Addr}{vs:List Value}(ha:a∈A)(e:h.get? a=some {cls:=.type "list",data:=.seq vs.toArray}):(∀u∈vs,eF A u)/\ax K (df K h A) a (vs.map toV):=by
 obtain⟨us,h1,h2,h3⟩:=ar a ha
 have hu:us=vs:=by
  rcases h3 with q|q
  .rw[e] at q
   exact(mQ q).2.symm
  .rw[e] at q
   exact absurd (Value.type.inj (mQ q).1) (by decide)
 subst hu
 refine⟨h2,?_⟩
 cases hk:K.lookup a with
 |none=>exact .inl (.inr ⟨_,by rw[k7 ha hk e,xG]⟩)
 |some o=>
  have e2:=KX a o hk
  rw[e] at e2
  obtain rfl:=Option.some.inj e2
  exact .inr ⟨_,us.toArray,_,hk,rfl,rfl,rfl,by rw[List.size_toArray];exact h1,by simpa using jx h2⟩
theorem CB(KX:K.In h)(ar:∀a∈A,eU h A a){a:Addr}{vs:List Value}(ha:a∈A)(e:h.get? a=some {cls:=.type "tuple",data:=.seq vs.toArray}):(∀u∈vs,eF A u)/\dk K (df K h A) a (vs.map toV):=by
 obtain⟨us,h1,h2,h3⟩:=ar a ha
 have hu:us=vs:=by
  rcases h3 with q|q
  .rw[e] at q
   exact absurd (Value.type.inj (mQ q).1) (by decide)
  .rw[e] at q
   exact(mQ q).2.symm
 subst hu
 refine⟨h2,?_⟩
 cases hk:K.lookup a with
 |none=>exact .inl (.inr ⟨_,by rw[k7 ha hk e,xH]⟩)
 |some o=>
  have e2:=KX a o hk
  rw[e] at e2
  obtain rfl:=Option.some.inj e2
  exact .inr ⟨_,us.toArray,_,hk,rfl,rfl,by rw[List.size_toArray];exact h1,by simpa using jx h2⟩
mutual
theorem DY{Pm:Params}(KX:K.In h)(ar:∀a∈A,eU h A a):∀(d:WData)(v:Value),Well Pm h v d->eB d=true->eF A v->Dw K (df K h A) (toV v) d
 |.none,_,x,_,_=>by
  cases x
  exact .bj
 |.bool b,_,x,_,_=>by
  cases x
  exact .bl b
 |.int i,_,x,_,_=>by
  cases x
  exact .int i
 |.str s,_,x,_,_=>by
  cases x
  exact .str s
 |.bytes b,_,x,_,_=>by
  cases x
  have z:=Dw.dD (K:=K) (H:=df K h A) b.toArray
  exact z
 |.list ds,_,x,p,hu=>by
  obtain⟨a,vs,rfl,ho,hall⟩:=Bj x
  obtain⟨h2,hs⟩:=CA KX ar hu ho
  exact .lst hs (lD KX ar ds _ hall p h2)
 |.tuple ds,_,x,p,hu=>by
  obtain⟨a,vs,rfl,ho,hall⟩:=Bk x
  obtain⟨h2,hs⟩:=CB KX ar hu ho
  exact .tup hs (lD KX ar ds _ hall p h2)
 |.float _,_,_,p,_=>Bool.noConfusion (show false=true from p)
 |.dict _,_,_,p,_=>Bool.noConfusion (show false=true from p)
 |.bytearray _,_,_,p,_=>Bool.noConfusion (show false=true from p)
 |.set _,_,_,p,_=>Bool.noConfusion (show false=true from p)
 |.frozenset _,_,_,p,_=>Bool.noConfusion (show false=true from p)
 |.obj _ _,_,_,p,_=>Bool.noConfusion (show false=true from p)
theorem lD{Pm:Params}(KX:K.In h)(ar:∀a∈A,eU h A a):∀(ds:List WData)(vs:List Value),WellAll Pm h vs ds->e_ ds=true->(∀u∈vs,eF A u)->eW K (df K h A) (vs.map toV) ds
 |[],_,x,_,_=>by
  cases x
  exact .nil
 |d::ds,_,x,p,hu=>by
  obtain⟨v,vs,rfl,x1,x2⟩:=Bi x
  have q:eB d=true/\e_ ds=true:=Bool.and_eq_true_iff.mp p
  exact .cons (DY KX ar d v x1 q.1 (hu _ (List.mem_cons_self ..))) (lD KX ar ds vs x2 q.2 λu m=>hu u (List.mem_cons_of_mem _ m))
end
end
theorem L0{P:Program}{w:World}{K:PySem.W.Frag}{mg mb:Str->Option Value}{CX:eV}{k:Nat}{fa:Addr}{fd:FuncData}{ps:List Str}{sp:Sp}{s₁:Shared}{vals:List Value}{ds:List WData}{R:PySem.W.WRecords}{cl:Str->Option Addr}{d0:WData}(KX:K.In s₁.heap)(hns:s₁.heap.Ns mainGlobals mg)(hb:s₁.heap.Ns builtinsNs mb)(hbb:∀x:Str,x≠"__name__"->mb x=bootBuiltins x)(hlim:s₁.heap.NoLimit)(hg:s₁.gens= #[])(hwl:WellAll w.params s₁.heap vals ds)(hpl:e_ ds=true)(hwt:∀d∈ds,d.weight<=1048576)(hr:cJ k callerA)(F:∀base:Heap,K.In base->base.Ns mainGlobals mg->aX P w K mg base CX k fa fd ps sp)(hbind:∀(s:Shared)(us:List Value),us.length=ps.length->BindsTo s fd ⟨us,[]⟩ (ps.zip us))(hlen:ds.length=ps.length)(hsp:∀(H:Hp)(xs:List V),jB H->eW K H xs ds->sp xs H (λv H'=>Dw K H' v d0) λ_ _ _=>False)(hCX:∀H e s',CX [] H s₁ (λ_ _ _=>False) e s'->False):codeAny (model P w) callerA (.call (.ref fa) ⟨vals,[]⟩) (λr s'=>∃u as,r=.ok (.ret u)/\ReadsW R cl s'.heap u d0 as/\OldK s₁.heap s'.heap/\s'.os=s₁.os/\AllBare s'.gens) s₁:=by
 obtain⟨A,ho,ar⟩:=k6 ds vals hwl hpl hwt
 have hO:jB (df K s₁.heap A):=Cz ar
 have aH:bU P w (df K s₁.heap A) s₁.heap:=Cy ar
 have hS:=lD KX ar ds vals hwl hpl ho
 have hV:=jx ho
 have hK:∀b u,df K s₁.heap A b=some u->K.lookup b=none:=λb u q=>(k8 ar q).1
 have noA:∀{b:Addr}{o:Obj}{es:Array DictEntry}{ep:Nat},s₁.heap.get? b=some o->o.data=.dict es ep->df K s₁.heap A b=none:=λ{b o es ep}e d=>by
  cases q:df K s₁.heap A b with
  |none=>rfl
  |some u=>
   obtain⟨_,vs,_,_,⟨e2,_⟩|⟨e2,_⟩⟩:=k8 ar q
   .rw[e2] at e
    cases e
    have d':Data.seq vs.toArray _=Data.dict es ep:=d
    cases d'
   .rw[e2] at e
    cases e
    have d':Data.seq vs.toArray _=Data.dict es ep:=d
    cases d'
 generalize df K s₁.heap A=H at hO aH hS hK noA
 have base_of:∀{b:Addr}{o:Obj},s₁.heap.get? b=some o->H b=none->(gp s₁.heap H).get? b=some o:=λe n=>Eu e n
 have nsK:∀{b:Addr}{m:Str->Option Value},s₁.heap.Ns b m->(gp s₁.heap H).Ns b m:=λ{b m}⟨o,es,ep,e,d,r⟩=>⟨o,es,ep,base_of e (noA e d),d,r⟩
 have nK:∀b o,K.lookup b=some o->H b=none:=λb o e=>by
  cases q:H b with
  |none=>rfl
  |some u=>
   rw[hK b u q] at e
   cases e
 have hKb:K.In (gp s₁.heap H):=λb o e=>base_of (KX b o e) (nK b o e)
 have hM:Mod K mg (gp s₁.heap H):=⟨hKb,nsK hns,⟨mb,nsK hb,hbb⟩,let ⟨mc,h1,h2⟩:=hlim;⟨mc,nsK h1,h2⟩⟩
 have e0:h_ P w K mg (gp s₁.heap H) callerA [] s₁ H:=⟨rfl,hM,λb o e=>Hb e,Nat.le_of_eq (Ew _ _),trivial,λb hb=>absurd (show b∈([]:List Addr) from hb) (by simp),aH,.of_eq hg⟩
 have hl:vals.length=ps.length:=by rw[m9 hwl];exact hlen
 refine codeAny_mono ((F _ hKb (nsK hns)).run callerA [] s₁ H ⟨vals,[]⟩ vals (vals.map toV) _ _ hr e0 (hbind s₁ vals hl) hV (hsp H _ hO hS)) λr s' x=>?_
 cases r with
 |error e=>exact(hCX H e s' x).elim
 |ok fl=>
  cases fl with
  |next=>exact False.elim x
  |brk=>exact False.elim x
  |cont=>exact False.elim x
  |ret u=>
   obtain⟨v,H',os,bare,un,hok',r',q⟩:=x
   have kept:∀b o,s₁.heap.get? b=some o->s'.heap.get? b=some o:=λb o e=>by
    cases q2:H b with
    |none=>exact un.keep b o e q2 (by intro z;exact absurd (show b∈([]:List Addr) from z) (by simp)) (by simp)
    |some u2=>
     rcases hO b with z|⟨ob,u3,z⟩
     .rw[q2] at z
      cases z
     .have z2:=un.fw b ob _ z
      obtain⟨e1,_⟩:=aH b _ z
      obtain⟨e2,_⟩:=hok' b _ z2
      rw[e] at e1
      cases e1
      exact e2
   have KX':K.In s'.heap:=λb o e=>kept b o (KX b o e)
   obtain⟨as,hrd⟩:=Dw.reads (R:=R) (cl:=cl) hok' KX' d0 v u q r'
   exact⟨u,as,rfl,hrd,OldK.of_keep kept,os,bare⟩
theorem FN{ds:List WData}(h:WData.layableAll ds=true):∀d∈ds,d.weight<=1048576:=λd hd=>
 (PySem.W.layableW_iff.mp (List.all_eq_true.mp h d hd)).2.2
theorem vt:∀(cs:List Codec)(a:Codec.denoteAll cs),(Codec.encAll cs a).length=cs.length
 |[],_=>rfl
 |c::cs,a=>by
  show(Codec.encAll cs a.2).length+1=cs.length+1
  rw[vt cs a.2]
theorem M7{r:OpenSpec}{k:Nat}{q:Program}{loose:List Str}{XP:(Str->Option Value)->Heap->Prop}{YP:World->Heap->Prop}{d:DefRec}{K:Params->PySem.W.Frag}{CX:World->eV}{ps:List Str}{sp:World->Sp}(hwell:r.wellSaid=true)(hdf:d.params.defaults=[])(hlen:r.args.length=ps.length)(hr:cJ k callerA)(hY:∀(w:World)(h:Heap),YP w h->(K w.params).In h)(F:∀(w:World)(mg:Str->Option Value)(fa:Addr)(h:Heap),YP w h->(K w.params).In h->h.Ns mainGlobals mg->mg d.name=some (.ref fa)->∃fd:FuncData,(∀(s:Shared)(us:List Value),us.length=ps.length->BindsTo s fd ⟨us,[]⟩ (ps.zip us))/\∀base:Heap,(K w.params).In base->base.Ns mainGlobals mg->aX r.prog w (K w.params) mg base (CX w) k fa fd ps (sp w))(hsp:∀(w:World)(H:Hp)(xs:List V)(a:Codec.denoteAll r.args),jB H->Codec.withinAll r.args a=true->Codec.app r.args r.asked a=true->eW (K w.params) H xs (Codec.encAll r.args a)->sp w xs H (λv H'=>Dw (K w.params) H' v (r.ret.enc (Codec.app r.args r.f a))) λ_ _ _=>False)(hCX:∀(w:World)(H:Hp)(s:Shared)(e:Value)(s':Shared),CX w [] H s (λ_ _ _=>False) e s'->False):PySem.W.WalkOS q loose XP YP r d [] (λf vs=>PySem.call f vs):=by
 intro w c_ s₁ mg mb G Y fa o pm cd doc dV kV ho hd hcd hD hmg hg args vals as hpre hlay hrd hwl hlo
 obtain⟨a,e1,e2⟩:=PySem.W.os_pre_some hpre
 obtain⟨e3,hwi⟩:=Codec.encAll_of_decAll r.args args a e1
 subst e3
 have KX:=hY w _ Y
 obtain⟨fd,hb,hF⟩:=F w mg fa _ Y KX G.T.g hmg
 refine PySem.W.enter_call (codeAny_mono (L0 (R:=[]) (cl:=classAt c_.heap) (d0:=r.ret.enc (Codec.app r.args r.f a)) KX G.T.g G.T.b G.T.builtins G.T.nolimit hg hwl (zj _ _) (FN hlay) hr hF hb (by rw[vt];exact hlen) (λH xs hO hS=>hsp w H xs a hO hwi e2 hS) λH e s'=>hCX w H s₁ e s') λr' s' hq=>?_)
 obtain⟨u,as',rfl,h1,h2,h3,h4⟩:=hq
 exact⟨.inl ⟨u,_,as',rfl,λ_=>rfl,h1,(OpenSpec.post_iff hwell hwi _ _).mpr rfl,λz=>Bool.noConfusion (show false=true from z)⟩,h2,h3,h4⟩
theorem M8{r:OpenSpec}{k:Nat}{q:Program}{loose:List Str}{XP:(Str->Option Value)->Heap->Prop}{YP:World->Heap->Prop}{d:DefRec}{K:Params->PySem.W.Frag}{CX:eV}{ps:List Str}{sp:PySem.W.Frag->Sp}(hwell:r.wellSaid=true)(hdf:d.params.defaults=[])(hlen:r.args.length=ps.length)(hr:cJ k callerA)(hY:∀(w:World)(h:Heap),YP w h->(K w.params).In h)(F:∀(w:World)(mg:Str->Option Value)(fa:Addr)(h:Heap),YP w h->(K w.params).In h->h.Ns mainGlobals mg->mg d.name=some (.ref fa)->∃fd:FuncData,(∀(s:Shared)(us:List Value),us.length=ps.length->BindsTo s fd ⟨us,[]⟩ (ps.zip us))/\∀base:Heap,(K w.params).In base->base.Ns mainGlobals mg->aX r.prog w (K w.params) mg base CX k fa fd ps (sp (K w.params)))(hsp:∀(K:PySem.W.Frag)(H:Hp)(xs:List V)(a:Codec.denoteAll r.args),jB H->Codec.withinAll r.args a=true->Codec.app r.args r.asked a=true->eW K H xs (Codec.encAll r.args a)->sp K xs H (λv H'=>Dw K H' v (r.ret.enc (Codec.app r.args r.f a))) λ_ _ _=>False)(hCX:∀(H:Hp)(s:Shared)(e:Value)(s':Shared),CX [] H s (λ_ _ _=>False) e s'->False):PySem.W.WalkOS q loose XP YP r d [] (λf vs=>PySem.call f vs):=
 M7 (K:=K) (CX:=λ_=>CX) (sp:=λw=>sp (K w.params)) hwell hdf hlen hr hY F (λw H xs a h1 h2 h3 h4=>hsp (K w.params) H xs a h1 h2 h3 h4) λ_ H s e s'=>hCX H s e s'
end L2
end
namespace Sw
open PySem PySem.Spec PyProof.Rows L2
section
variable{C0:Prop}{P:Program}{w:World}{K:PySem.W.Frag}{h:Heap}{mg:Str->Option Value}{oc:Value}{od an:Option Addr}{osl:Array (Option Value)}{kV doc pm cdv ct:Value}{x qual:Str}{st:Stmt}{ps:List Str}{C f:Addr}
def rY(x qual:Str)(st:Stmt)(ps:List Str):Prop:=∀(kV doc pm:Value)(an:Option Addr)(cdv ct:Value)(us:List Value),us.length=ps.length->bindArgs (PySem.W.fnOf x qual (ik st) (gQ st) (aK st) .none kV doc pm an cdv ct) ⟨us,[]⟩=pure (ps.zip us)
def rX(mg:Str->Option Value):List Str->Prop
 |[]=>True
 |x::l=>mg x=none/\rX mg l
def gL(mg:Str->Option Value):List (Str×Int)->Prop
 |[]=>True
 |x::l=>(∃k,mg x.1=some (Value.int x.2 k))/\gL mg l
theorem gL.cons{n:Int}{k:Tok}{l:List (Str×Int)}(X:K.In h)(G:h.Ns mainGlobals mg)(a:PySem.W.nsIn K mainGlobals x=some (some (Value.int n k)))(t:gL mg l):gL mg ((x,n)::l):=⟨⟨k,PySem.W.mg_of X G a⟩,t⟩
def eD(K:PySem.W.Frag)(mg:Str->Option Value):List (Str×Stmt×List Str)->Prop
 |[]=>True
 |e::l=>(∃(f:Addr)(d:FuncData),Fn K mg e.1 e.2.1 e.2.2 f d)/\eD K mg l
theorem eD.cons{l:List (Str×Stmt×List Str)}(X:K.In h)(G:h.Ns mainGlobals mg)(a:PySem.W.nsIn K mainGlobals x=some (some (.ref f)))(q:K.lookup f=some ⟨oc,od,.func (PySem.W.fnOf x x (ik st) (gQ st) (aK st) .none kV doc pm an cdv ct),osl⟩)(c:PySem.W.codeIn K cdv x=true)(k:PySem.W.keepIn K (.ref f)=true)(hb:rY x x st ps)(t:eD K mg l):eD K mg ((x,st,ps)::l):=
 ⟨⟨f,_,lI q c k,PySem.W.mg_of X G a,(lI q c k).binds hb⟩,t⟩
theorem iP(X:K.In h)(G:h.Ns mainGlobals mg)(l:List (Str×Stmt×List Str))(a:eD K mg l)(c:eD K mg l->C0):C0:=c a
structure Ck(K:PySem.W.Frag)(mg:Str->Option Value)(x qual:Str)(st:Stmt)(ps:List Str)(C f:Addr)(d:FuncData):Prop where
 cl:cp K C
 made:Mk K C f
 mg:mg x=some (.ref C)
 fn:d9 K "__init__" qual st f d
 bd:Binds K d ps []
def nh(K:PySem.W.Frag)(C:Addr):List Str->Prop
 |[]=>True
 |a::l=>PySem.W.findIn K (.ref C) a=some none/\nh K C l
theorem iS(as:List Str)(X:K.In h)(G:h.Ns mainGlobals mg)(aC:PySem.W.nsIn K mainGlobals x=some (some (.ref C)))(a1:PySem.W.findIn K (.ref C) "__init__"=some (some (.ref f)))(i1:PySem.W.isFn K (.ref f)=true)(l1:K.lookup f=some ⟨oc,od,.func (PySem.W.fnOf "__init__" qual (ik st) (gQ st) (aK st) .none kV doc pm an cdv ct),osl⟩)(c1:PySem.W.codeIn K cdv qual=true)(k1:PySem.W.keepIn K (.ref f)=true)(pg:PySem.W.plainGet K C Str.empty=true)(hd:PySem.W.hasDictIn K C=true)(po:PySem.W.plainOver K C=true)(sa:PySem.W.findIn K (.ref C) "__setattr__"=some (some (.builtin "object.__setattr__")))(mk:PySem.W.makesIn K C=true)(kc:PySem.W.keepIn K (.ref C)=true)(n:nh K C as)(hb:rY "__init__" qual st ps)(cont:∀(C f:Addr)(d:FuncData),Ck K mg x qual st ps C f d->nh K C as->C0):C0:=
 cont C f _ ⟨⟨pg,hd,po,sa⟩,⟨mk,a1,i1,kc⟩,PySem.W.mg_of X G aC,lI l1 c1 k1,(lI l1 c1 k1).binds hb⟩ n
theorem Na{a:Addr}{its:Array Value}{n:Nat}{xs:List V}(X:K.In h)(G:h.Ns mainGlobals mg)(ha:PySem.W.nsIn K mainGlobals x=some (some (.ref a)))(l:K.lookup a=some ⟨.type "tuple",od,.seq its n,osl⟩)(s:its.size<=sizeLine)(r:Vals xs its.toList)(cont:∀a:Addr,mg x=some (.ref a)->(∀H:Hp,dk K H a xs)->C0):C0:=
 cont a (PySem.W.mg_of X G ha) λ_=>.inr ⟨_,its,n,l,rfl,rfl,s,r⟩
end
theorem MR{t0 t1 t2 t3 t4 t5 t6 t7 t8 t9 t10 t11 t12 t13 t14 t15 t16 t17 t18 t19 t20 t21 t22 t23 t24 t25 t26 t27 t28 t29 t30 t31:Tok}:Vals [V.int (4),V.int (1),V.int (1),V.int (2),V.int (3),V.int (2),V.int (2),V.int (1),V.int (2),V.int (2),V.int (2),V.int (3),V.int (3),V.int (1),V.int (2),V.int (2),V.int (2),V.int (2),V.int (3),V.int (2),V.int (3),V.int (3),V.int (2),V.int (1),V.int (2),V.int (1),V.int (5),V.int (2),V.int (1),V.int (1),V.int (1),V.int (1)] [Value.int 4 t0,Value.int 1 t1,Value.int 1 t2,Value.int 2 t3,Value.int 3 t4,Value.int 2 t5,Value.int 2 t6,Value.int 1 t7,Value.int 2 t8,Value.int 2 t9,Value.int 2 t10,Value.int 3 t11,Value.int 3 t12,Value.int 1 t13,Value.int 2 t14,Value.int 2 t15,Value.int 2 t16,Value.int 2 t17,Value.int 3 t18,Value.int 2 t19,Value.int 3 t20,Value.int 3 t21,Value.int 2 t22,Value.int 1 t23,Value.int 2 t24,Value.int 1 t25,Value.int 5 t26,Value.int 2 t27,Value.int 1 t28,Value.int 1 t29,Value.int 1 t30,Value.int 1 t31]:=by
 repeat (first|exact .nil|refine .cons ⟨_,rfl⟩ ?_)
theorem fin{P:Program}{w:World}{K:PySem.W.Frag}{mg:Str->Option Value}{t:Ad}{fa:Addr}(T:Txt K mg t)(hmg:mg "answers"=some (.ref fa)):∃fd:FuncData,(∀(s:Shared)(us:List Value),us.length=(["calls"]:List Str).length->BindsTo s fd ⟨us,[]⟩ ((["calls"]:List Str).zip us))/\∀base:Heap,K.In base->base.Ns mainGlobals mg->aX P w K mg base aY 10 fa fd ["calls"] (rE K):=by
 have e:=hmg.symm.trans T.answers.mg
 cases e
 refine⟨t.nQ,λs us hu=>?_,λbase _ _=>Hs T⟩
 obtain⟨oc,od,kV,doc,pm,an,cdv,ct,osl,e,_⟩:=T.answers.fn.ex
 rw[e]
 exact .of_eq (match us,hu with|[_],_=>rfl)
end Sw
namespace Sw
theorem oJ{us:List PySem.Value}(hl:us.length=1):∃a,us=[a]:=match us,hl with|[a],_=>⟨a,rfl⟩
theorem yB{us:List PySem.Value}(hl:us.length=2):∃a b,us=[a,b]:=match us,hl with|[a,b],_=>⟨a,b,rfl⟩
theorem oK{us:List PySem.Value}(hl:us.length=3):∃a b c,us=[a,b,c]:=match us,hl with|[a,b,c],_=>⟨a,b,c,rfl⟩
theorem Gk{us:List PySem.Value}(hl:us.length=4):∃a b c d,us=[a,b,c,d]:=match us,hl with|[a,b,c,d],_=>⟨a,b,c,d,rfl⟩
theorem l5{us:List PySem.Value}(hl:us.length=5):∃a b c d e,us=[a,b,c,d,e]:=match us,hl with|[a,b,c,d,e],_=>⟨a,b,c,d,e,rfl⟩
theorem Gm{us:List PySem.Value}(hl:us.length=6):∃a b c d e f,us=[a,b,c,d,e,f]:=match us,hl with|[a,b,c,d,e,f],_=>⟨a,b,c,d,e,f,rfl⟩
end Sw
namespace PySem.W.Fast
def tw11492349868059763336:=0
def tw308650880983794203:=0
def tw5349379963132479060:=0
def tw7880476006861098109:=0
def tw13520605744576470438:=0
def tw16421680045010992302:=0
def tw7819542893689597932:=0
def tw9311095641136299545:=0
def tw3662933220711138527:=0
def tw1699904390296300237:=0
def tw8932359517125530117:=0
def tw9378871049858218668:=0
def tw5115166209529037880:=0
def tw7505860365803192097:=0
def tw8980237286605451442:=0
def tw1166851153400663248:=0
def tw8391627939229383196:=0
def tw7652127325771332958:=0
def tw9708777921281255597:=0
def tw1437788008066758864:=0
def tw2233201478788591:=0
def tw9380044639001283016:=0
def tw1500757677791831370:=0
def tw8689166205466301969:=0
def tw3030301571761956773:=0
def tw6221786026263277198:=0
def tw4721440908031854559:=0
def tw2960829648108201467:=0
def tw12270625112154487591:=0
def tw334646761216132295:=0
def tw9199501013222135088:=0
def tw15818916530511158441:=0
def tw16384215682575311552:=0
def tw7994080897283854146:=0
def tw14472454233080606475:=0
def tw4348821835297018716:=0
def tw5176710982950608840:=0
def tw17238233787570879704:=0
def tw13701396507638843312:=0
def tw12800738335457931421:=0
def tw10089404916665754928:=0
def tw12842606925513941179:=0
def tw11781797591234394212:=0
def tw211219188324556084:=0
def tw8004421215833112673:=0
def tw10845221024073899323:=0
def tw8683916860002090811:=0
def tw15329469129365102547:=0
def tw1509978278341378092:=0
def tw8274711286245870049:=0
def tw17214420367255136164:=0
def tw1413857653737650325:=0
def tw13771537292701458660:=0
def tw13385931630837075878:=0
def tw1536177448560990524:=0
def tw14390002453840374938:=0
def tw13443617318008878002:=0
def tw15950058793696377919:=0
def tw6230087984477752907:=0
def tw10209324812795436883:=0
def tw14127355501977492799:=0
def tw5036080124322959878:=0
def tw2539118144913679936:=0
def tw15185358169215362655:=0
def tw6353684446016435297:=0
def tw9410136941279295513:=0
def tw10336041172563788807:=0
def tw15602735464946200508:=0
def tw9888640362768768922:=0
def tw3374486850507523081:=0
def tw12765143191890477387:=0
def tw13760893833024594129:=0
def tw6396996625618949991:=0
def tw600592365714438542:=0
def tw13129708924485472410:=0
def tw7535343371836520956:=0
def tw11977454127882770732:=0
def tw5500027706290697701:=0
def tw11983822319292397739:=0
def tw15741005995571358601:=0
def tw6877569499389180315:=0
def tw12929025267759126450:=0
def tw17108387733400685182:=0
def tw2284847646006586614:=0
def tw11190326593603731986:=0
def tw7644626020839517089:=0
def tw15276589922335956685:=0
def tw4565232247489575934:=0
def tw13285788632265937293:=0
def tw5218257147195042618:=0
def tw11188255162195303503:=0
def tw5661224431789811233:=0
def tw8964034055417580424:=0
def tw10843882667831228891:=0
def tw3906265122532276260:=0
def tw7312376612183566602:=0
def tw12965743465891184189:=0
def tw13950099011314601645:=0
def tw15116392110451875329:=0
def tw1064824922350900232:=0
def tw3492958661652490522:=0
def tw615421977669037962:=0
def tw17413429041951894018:=0
def tw4371618656762014618:=0
def tw13714986166885464356:=0
def tw8900259123271121666:=0
def tw3123018014827990810:=0
def tw15109106901896816085:=0
def tw15574544297461436934:=0
def tw10247944731941446379:=0
def tw8528052708517254723:=0
def tw16236203983157917645:=0
def tw17584878178142779983:=0
def tw1493897212049130631:=0
def tw2099762133589458916:=0
def tw1726179080387884430:=0
def tw17590906270646637066:=0
def tw9141793364597266173:=0
def tw1646698874464920490:=0
def tw17613956722779578977:=0
def tw3687640708554770863:=0
def tw8761419396855547501:=0
def tw7971797977830243845:=0
def tw7996930688590105284:=0
def tw3533239986853771092:=0
def tw17938823534953010146:=0
def tw5585632158704355820:=0
def tw3646853344654246707:=0
def tw2364361053534740357:=0
def tw2828499091530178601:=0
def tw16757418532756389268:=0
def tw1646969130849178693:=0
def tw6525023867113148493:=0
def tw17130668596309346548:=0
def tw6587269792314049483:=0
def tw13697334077410797758:=0
def tw3717418148111748812:=0
def tw287623547557975675:=0
def tw13337424829777100311:=0
def tw644509923434429084:=0
def tw2708423572600808689:=0
def tw11352766837326983581:=0
def tw16546130432432058597:=0
def tw3221893823476126714:=0
def tw10544067456456441189:=0
def tw8443963719587437112:=0
def tw14863175051717309936:=0
def tw3954525091889441434:=0
def tw4285090241330598054:=0
def tw9805710444051826058:=0
def tw16418877433051477584:=0
def tw12231034950378035902:=0
def tw6049576646898258039:=0
def tw12210036827902975596:=0
def tw9404472849577501744:=0
def tw9571369448503655803:=0
def tw12574007959954586629:=0
def tw16543004498735783760:=0
def tw4848243454942138901:=0
def tw7720539624065055808:=0
def tw247947569663867558:=0
def tw15902686499164255081:=0
def tw8321674260212529078:=0
def tw16528999848592839656:=0
def tw1692896672830006334:=0
def tw1611399023238612148:=0
def tw10099878251290870173:=0
def tw6978773730132943384:=0
def tw2690981412329089826:=0
def tw9274959983983343587:=0
def tw14298270325432105936:=0
def tw15825008428496292210:=0
def tw12150646347360447647:=0
def tw4873107953391858157:=0
def tw11929429611964419503:=0
def tw8572349448338589975:=0
def tw5992230138359105859:=0
def tw3278275251728586742:=0
def tw2690754381735444513:=0
def tw1657358942934737759:=0
def tw12327412954140759242:=0
def tw11841878432328157721:=0
def tw2242745639720295812:=0
def tw10640855444934150710:=0
def tw17032652880885239356:=0
def tw745219238634267870:=0
def tw12346897508583053134:=0
def tw10080763912985840315:=0
def tw16271014543147235785:=0
def tw8859279108963941409:=0
def tw3408476905974545183:=0
def tw4081107243719509569:=0
def tw11504784878258646755:=0
def tw12069094086602228353:=0
def tw10073885911964885938:=0
def tw8354826345522367323:=0
def tw5581047765150705381:=0
def tw14199128815278166576:=0
def tw8233761583330740566:=0
def tw6978733752012531499:=0
def tw5236118876733193010:=0
def tw4220834062079153619:=0
def tw5635815275132604512:=0
def tw15171879338591841924:=0
def tw12631817477835212877:=0
def tw15889236427088916661:=0
def tw15309773230441414590:=0
def tw15656897270009579696:=0
def tw4617562286236861735:=0
def tw12028357512491065621:=0
def tw13822675626954062793:=0
def tw14809371053069621924:=0
def tw13690804609989046429:=0
def tw1075887764554404710:=0
def tw1387804512733735088:=0
def tw259077512158332969:=0
def tw1844154479647557782:=0
def tw1222672030581766858:=0
def tw1635210554264423545:=0
def tw7704498623913375021:=0
def tw12164048111321244496:=0
def tw2607376416606346232:=0
def tw1217246461142616884:=0
def tw115267958367050728:=0
def tw17015083086879100701:=0
def tw15215727164588141183:=0
def tw6322419943734417878:=0
def tw14685878907710119771:=0
def tw15977871386554302714:=0
def tw15356467977312847719:=0
def tw6580568805757014237:=0
def tw6849942091245207929:=0
def tw10220121155738094538:=0
def tw7808847326425778821:=0
def tw422817625581152194:=0
def tw18017917438100811689:=0
def tw1319284870180244909:=0
def tw4129188514409177230:=0
def tw6988134288464659903:=0
def tw1118966873632566676:=0
def tw213910531928449133:=0
def tw1788372466400042162:=0
def tw12382486245882938012:=0
def tw11625063660044968444:=0
def tw13423464745689291568:=0
def tw13943561996071109428:=0
def tw18162938256902439749:=0
def tw16273601115047863845:=0
def tw4541701686233067374:=0
def tw1396948124630371544:=0
def tw15462620309517401130:=0
def tw9143992214532227018:=0
def tw14484305817743915853:=0
def tw15712662155070169629:=0
def tw1697170659252149002:=0
def tw16046161470660731444:=0
def tw14369041759264757725:=0
def tw782505344813671757:=0
def tw15467971247366348153:=0
def tw16124114547247953048:=0
def tw9574525254049827440:=0
def tw15773037588660899201:=0
def tw17251788700533299422:=0
def tw1358103824755530900:=0
def tw12038567189347387445:=0
def tw15905108926954476895:=0
def tw15743654860666580213:=0
def tw9505335507264345546:=0
def tw18195196476408334484:=0
def tw13476695570310577496:=0
def tw10103334869281335688:=0
def tw12617847676904103427:=0
def tw9073862581389828619:=0
def tw3856974243391203358:=0
def tw34007130633330513:=0
def tw1258623057772332762:=0
def tw1890847498007746341:=0
def tw10447135404431421639:=0
def tw1714029915088749153:=0
def tw12179060969486968275:=0
def tw13927702415765832197:=0
def tw8534259712044868064:=0
def tw11834320137559998604:=0
def tw9617716114778341066:=0
def tw81422543557935390:=0
def tw15771853765347233517:=0
def tw1048341790359576314:=0
def tw9664956998258555515:=0
def tw12368516955910502703:=0
def tw9020751230511651486:=0
def tw7500973569710124750:=0
def tw3475163241373084057:=0
def tw9077958220129388366:=0
def tw2625115525164100232:=0
def tw11384920035365267218:=0
def tw11805149823595338936:=0
def tw1176378371112417364:=0
def tw6980886961892490210:=0
def tw13337695457661885586:=0
def tw1993332650818774727:=0
def tw13528879873589722292:=0
def tw8295624709535788014:=0
def tw2856945227994794549:=0
def tw4898954120504507392:=0
def tw14725658259399804592:=0
def tw9397571970736023455:=0
def tw14146781339034749177:=0
def tw16333533068709525863:=0
def tw132184758715609379:=0
def tw1036678684394187158:=0
def tw12266484207681699602:=0
def tw12604319612399991657:=0
def tw13919813675964393348:=0
def tw16583698541943756918:=0
def tw708503903349465356:=0
def tw14954625472331241913:=0
def tw14287081125341853809:=0
def tw9921714885705410487:=0
def tw2678201078754247051:=0
def tw14543835179872099439:=0
def tw5504420608737823976:=0
def tw9210085705402729967:=0
def tw11811684026490071420:=0
def tw9369211905556476691:=0
def tw10894630825536304079:=0
def tw179443532732846083:=0
def tw11974860463148859445:=0
def tw4733553751474171199:=0
def tw13372647999666011572:=0
def tw836796220060444629:=0
def tw1256531070549194455:=0
def tw2092095058760266758:=0
def tw12396358491381181773:=0
def tw5536870262926794578:=0
def tw354546289685489705:=0
def tw18004802380590701289:=0
def tw7831794303422351562:=0
def tw17679625212288170925:=0
def tw1355890027569520213:=0
def tw4240222581793217966:=0
def tw11486699362129821728:=0
def tw12110927978397379166:=0
def tw15348275624465074245:=0
def tw8176626944280552703:=0
def tw9707496376177660037:=0
def tw11030866054877919002:=0
def tw12784170471954867854:=0
def tw8523888951164624019:=0
def tw9084122831867295858:=0
def tw1651711868537610613:=0
def tw992919078472768724:=0
def tw17417747390720109125:=0
def tw8851537863241511960:=0
def tw6358286508454902084:=0
def tw16587956031196604859:=0
def tw14043231668886783322:=0
def tw5335941557532876582:=0
def tw12338160824882766828:=0
def tw1767355312539012758:=0
def tw8653942687546148332:=0
def tw5500812844839088525:=0
def tw8768745572570294955:=0
def tw5756875062934860363:=0
def tw6559324630515228129:=0
def tw10011701015220835584:=0
def tw2173697001986553114:=0
def tw11856240948908355223:=0
def tw17188981992713240858:=0
def tw7715556078378366260:=0
def tw364902174148669712:=0
def tw7852201035469567975:=0
def tw11394598842779558783:=0
def tw1557737785737794924:=0
def tw6270446804647587899:=0
def tw9021389048613300051:=0
def tw338490992938479341:=0
def tw12235812903425491156:=0
def tw6750189287703884508:=0
def tw18140454062083364649:=0
def tw3369621888076277523:=0
def tw4573950582041579915:=0
def tw7734929490203132025:=0
def tw7184184145380450941:=0
def tw15958567910212798974:=0
def tw16346923250475754893:=0
def tw14826455924534738085:=0
def tw1462730605004517500:=0
def tw5344979090259510840:=0
def tw10050496918675174286:=0
def tw17067558592059882561:=0
def tw17659167922252363564:=0
def tw10792962937884881375:=0
def tw12180386653180435214:=0
def tw821045388047300999:=0
def tw12076335505564673516:=0
def tw13251775011607024141:=0
def tw2934224137636229865:=0
def tw4574539520738874716:=0
def tw14214773806691781157:=0
def tw5719636404143012950:=0
def tw14192376106148967115:=0
def tw11433933595356759590:=0
def tw5220579914661571317:=0
def tw12139720728767832576:=0
def tw3724029880773841864:=0
def tw15048222833793382481:=0
def tw5373030108502962475:=0
def tw3928000921671120268:=0
def tw4989669598066178707:=0
def tw5236255798002168581:=0
def tw5167659392559602439:=0
end PySem.W.Fast
open PySem PySem.W PyProof.Rows
open PySem.W (Codec)
set_option maxRecDepth 100000 in
set_option maxHeartbeats 0 in
theorem PySem.Challenge.cw_learnswitch_s01_answers_holds : PySem.Challenge.rw_learnswitch_s01_answers.Holds := by
 w_on;k_headS;(case hw=>exact⟨[.list [.int 0,.int 1,.int 1,.int 1,.int 0]],by decide+kernel,by decide+kernel⟩)
 k_fillS
 refine L2.M8 (r:=PySem.Challenge.rw_learnswitch_s01_answers) (k:=10) (CX:=L2.aY) (ps:=["calls"]) (sp:=Sw.rE) (by decide+kernel) rfl rfl ⟨rfl,by decide,by decide⟩ (λw h Y=>PySem.W.kIn_of Y) ?F ?S (λ_ _ _ _ z=>z)
 case F=>
  intro w mg fa h Y KX G hmg
  k_fillS
  refine Sw.Na (x:="LENGTHS") KX G (by k_is) (by k_is) (by exact(by decide:32<=sizeLine)) (by exact Sw.MR) (λtA tB tC=>?_)
  refine Sw.iS (x:="Row") (qual:="Row.__init__") (st:=Sw.pP) (ps:=["self","kind","side","until","moves_at"]) ["kind","side","until","moves_at"] KX G (by k_is) (by k_is) (by k_is) (by k_is) (by k_is) (by k_is) (by k_is) (by k_is) (by k_is) (by k_is) (by k_is) (by k_is) (by repeat' first|exact trivial|refine And.intro (by k_is) ?_) (λ_ _ _ _ _ _ us hl=>by(obtain⟨_,_,_,_,_,rfl⟩:=Sw.l5 hl;exact rfl)) (λcRow j1 jS yRow zRow=>?_)
  refine Sw.iS (x:="Vlan") (qual:="Vlan.__init__") (st:=Sw.pR) (ps:=["self","age","sides"]) ["age","moves","missed","breaches","rows","groups","gates","shut","spread"] KX G (by k_is) (by k_is) (by k_is) (by k_is) (by k_is) (by k_is) (by k_is) (by k_is) (by k_is) (by k_is) (by k_is) (by k_is) (by repeat' first|exact trivial|refine And.intro (by k_is) ?_) (λ_ _ _ _ _ _ us hl=>by(obtain⟨_,_,_,rfl⟩:=Sw.oK hl;exact rfl)) (λcVlan j4 jV yVlan zVlan=>?_)
  refine Sw.iS (x:="Side") (qual:="Side.__init__") (st:=Sw.pQ) (ps:=["self"]) ["native","pairs","apart","rank","most","lock_shuts","storm","watched"] KX G (by k_is) (by k_is) (by k_is) (by k_is) (by k_is) (by k_is) (by k_is) (by k_is) (by k_is) (by k_is) (by k_is) (by k_is) (by repeat' first|exact trivial|refine And.intro (by k_is) ?_) (λ_ _ _ _ _ _ us hl=>by(obtain⟨_,rfl⟩:=Sw.oJ hl;exact rfl)) (λcSide j2 jT ySide zSide=>?_)
  refine Sw.iS (x:="Port") (qual:="Port.__init__") (st:=Sw.pO) (ps:=["self","side"]) ["side","up","taken","passed","given","dropped"] KX G (by k_is) (by k_is) (by k_is) (by k_is) (by k_is) (by k_is) (by k_is) (by k_is) (by k_is) (by k_is) (by k_is) (by k_is) (by repeat' first|exact trivial|refine And.intro (by k_is) ?_) (λ_ _ _ _ _ _ us hl=>by(obtain⟨_,_,rfl⟩:=Sw.yB hl;exact rfl)) (λcPort j0 jR yPort zPort=>?_)
  refine Sw.iS (x:="Switch") (qual:="Switch.__init__") (st:=Sw.kL) (ps:=["self","ports","cap","age","hold"]) ["ports","sides","vlans","cap","age","hold","mirror","now"] KX G (by k_is) (by k_is) (by k_is) (by k_is) (by k_is) (by k_is) (by k_is) (by k_is) (by k_is) (by k_is) (by k_is) (by k_is) (by repeat' first|exact trivial|refine And.intro (by k_is) ?_) (λ_ _ _ _ _ _ us hl=>by(obtain⟨_,_,_,_,_,rfl⟩:=Sw.l5 hl;exact rfl)) (λcSwitch j3 jU ySwitch zSwitch=>?_)
  refine Sw.iS (x:="Frame") (qual:="Frame.__init__") (st:=Sw.pN) (ps:=["self","to","source","tag","rank"]) ["to","source","tag","rank","side","v"] KX G (by k_is) (by k_is) (by k_is) (by k_is) (by k_is) (by k_is) (by k_is) (by k_is) (by k_is) (by k_is) (by k_is) (by k_is) (by repeat' first|exact trivial|refine And.intro (by k_is) ?_) (λ_ _ _ _ _ _ us hl=>by(obtain⟨_,_,_,_,_,rfl⟩:=Sw.l5 hl;exact rfl)) (λcFrame jZ jQ yFrame zFrame=>?_)
  refine Sw.iS (x:="Desk") (qual:="Desk.__init__") (st:=Sw.pM) (ps:=["self"]) ["switch"] KX G (by k_is) (by k_is) (by k_is) (by k_is) (by k_is) (by k_is) (by k_is) (by k_is) (by k_is) (by k_is) (by k_is) (by k_is) (by repeat' first|exact trivial|refine And.intro (by k_is) ?_) (λ_ _ _ _ _ _ us hl=>by(obtain⟨_,rfl⟩:=Sw.oJ hl;exact rfl)) (λcDesk jY jP yDesk zDesk=>?_)
  refine Sw.iP KX G [("is_hardware",Sw.qg,["number"]),("is_group",Sw.qf,["number"]),("is_reserved",Sw.qj,["number"]),("is_locked",Sw.qh,["side"]),("size_of",Sw.qR,["vlan"]),("settle",Sw.mN,["switch"]),("may_be_joined",Sw.qy,["g"]),("tell_group",Sw.qW,["group"]),("answers",Sw.p0,["calls"])] ?_ ?_
  .repeat' first|exact trivial|refine Sw.eD.cons KX G (by k_is) (by k_is) (by k_is) (by k_is) (λ_ _ _ _ _ _ us hl=>by(obtain⟨_,rfl⟩:=Sw.oJ hl;exact rfl)) ?_
  rintro⟨⟨f1,g1,y1⟩,⟨f2,g2,y2⟩,⟨f3,g3,y3⟩,⟨f7,g7,y7⟩,⟨f12,g12,y12⟩,⟨f35,g35,y35⟩,⟨f43,g43,y43⟩,⟨f56,g56,y56⟩,⟨f70,g70,y70⟩,-⟩
  refine Sw.iP KX G [("is_port",Sw.qi,["switch","number"]),("is_side",Sw.qk,["switch","number"]),("is_side_or_none",Sw.ql,["switch","number"]),("side_is_in",Sw.qP,["side","v"]),("ports_of",Sw.mM,["switch","side"]),("live_ports",Sw.mL,["switch","side"]),("has_live_port",Sw.qd,["switch","side"]),("is_full",Sw.qe,["switch","vlan"]),("learn",Sw.qp,["switch","frame"]),("is_spread",Sw.qm,["vlan","to"]),("send_out",Sw.kM,["switch","frame"]),("vlan_by_tag",Sw.rm,["side","tag"]),("pass_through",Sw.qA,["switch","frame"]),("reason_before_learning",Sw.qD,["switch","frame"]),("reason_behind_learning",Sw.qE,["switch","frame"]),("forget_of_vlan",Sw.qb,["vlan","sides"]),("forget_of_all",Sw.qa,["switch","sides"]),("set_mirror",Sw.qJ,["switch","number"]),("unplug_port",Sw.rh,["switch","number"]),("unlock_side",Sw.rb,["switch","number"]),("tell_rows",Sw.qX,["switch","v"]),("tell_counts",Sw.qV,["switch","number"]),("tell_vlan",Sw.qZ,["switch","v"]),("tell_side",Sw.qY,["switch","number"]),("tick",Sw.q_,["switch","n"]),("take_what_is_over",Sw.qU,["vlan","now"]),("add_vlan",Sw.pT,["switch","v"]),("drop_vlan",Sw.mI,["switch","v"])] ?_ ?_
  .repeat' first|exact trivial|refine Sw.eD.cons KX G (by k_is) (by k_is) (by k_is) (by k_is) (λ_ _ _ _ _ _ us hl=>by(obtain⟨_,_,rfl⟩:=Sw.yB hl;exact rfl)) ?_
  rintro⟨⟨f4,g4,y4⟩,⟨f5,g5,y5⟩,⟨f6,g6,y6⟩,⟨f8,g8,y8⟩,⟨f9,g9,y9⟩,⟨f10,g10,y10⟩,⟨f11,g11,y11⟩,⟨f13,g13,y13⟩,⟨f14,g14,y14⟩,⟨f19,g19,y19⟩,⟨f23,g23,y23⟩,⟨f28,g28,y28⟩,⟨f29,g29,y29⟩,⟨f30,g30,y30⟩,⟨f31,g31,y31⟩,⟨f33,g33,y33⟩,⟨f34,g34,y34⟩,⟨f36,g36,y36⟩,⟨f39,g39,y39⟩,⟨f51,g51,y51⟩,⟨f57,g57,y57⟩,⟨f58,g58,y58⟩,⟨f59,g59,y59⟩,⟨f60,g60,y60⟩,⟨f63,g63,y63⟩,⟨f64,g64,y64⟩,⟨f65,g65,y65⟩,⟨f66,g66,y66⟩,-⟩
  refine Sw.iP KX G [("learn_new",Sw.qr,["switch","vlan","frame"]),("move_row",Sw.qz,["switch","vlan","frame"]),("has_room",Sw.mK,["switch","vlan","number"]),("breach",Sw.p8,["switch","vlan","number"]),("sides_for",Sw.qQ,["switch","vlan","to"]),("goes_out_at",Sw.qc,["switch","frame","number"]),("port_by_place",Sw.qC,["switch","frame","number"]),("tag_and_rank",Sw.mO,["switch","frame","number"]),("copies_of",Sw.mH,["switch","frame","sides"]),("count_spread",Sw.p9,["switch","vlan","number"]),("set_watch",Sw.qN,["switch","number","d"]),("plug_port",Sw.qB,["switch","number","side"]),("set_link",Sw.qI,["switch","number","x"]),("unfix_row",Sw.ra,["switch","v","hw"]),("flush_rows",Sw.mJ,["switch","v","side"]),("set_apart",Sw.qG,["switch","number","x"]),("set_rank",Sw.qL,["switch","number","r"]),("loosen",Sw.qw,["vlan","side","now"]),("unshut",Sw.rj,["switch","number","v"]),("set_storm",Sw.qM,["switch","number","n"]),("look_up",Sw.qv,["switch","v","hw"]),("set_age",Sw.qF,["switch","v","a"]),("shorten_rows",Sw.qO,["switch","v","d"]),("set_native",Sw.qK,["switch","number","v"]),("take_pair",Sw.qT,["switch","number","tag"]),("answer_call",Sw.pU,["desk","number","given"]),("answer_on_ways",Sw.pZ,["switch","number","given"]),("answer_on_sides",Sw.pY,["switch","number","given"]),("answer_on_rows",Sw.pX,["switch","number","given"]),("answer_on_frames",Sw.pW,["switch","number","given"])] ?_ ?_
  .repeat' first|exact trivial|refine Sw.eD.cons KX G (by k_is) (by k_is) (by k_is) (by k_is) (λ_ _ _ _ _ _ us hl=>by(obtain⟨_,_,_,rfl⟩:=Sw.oK hl;exact rfl)) ?_
  rintro⟨⟨f15,g15,y15⟩,⟨f16,g16,y16⟩,⟨f17,g17,y17⟩,⟨f18,g18,y18⟩,⟨f20,g20,y20⟩,⟨f21,g21,y21⟩,⟨f22,g22,y22⟩,⟨f24,g24,y24⟩,⟨f25,g25,y25⟩,⟨f32,g32,y32⟩,⟨f37,g37,y37⟩,⟨f38,g38,y38⟩,⟨f40,g40,y40⟩,⟨f42,g42,y42⟩,⟨f46,g46,y46⟩,⟨f47,g47,y47⟩,⟨f48,g48,y48⟩,⟨f52,g52,y52⟩,⟨f53,g53,y53⟩,⟨f54,g54,y54⟩,⟨f55,g55,y55⟩,⟨f61,g61,y61⟩,⟨f62,g62,y62⟩,⟨f67,g67,y67⟩,⟨f69,g69,y69⟩,⟨f71,g71,y71⟩,⟨f73,g73,y73⟩,⟨f74,g74,y74⟩,⟨f75,g75,y75⟩,⟨f76,g76,y76⟩,-⟩
  refine Sw.iP KX G [("answer_on_all_held",Sw.pV,["switch","number","given"])] ?_ ?_
  .repeat' first|exact trivial|refine Sw.eD.cons KX G (by k_is) (by k_is) (by k_is) (by k_is) (λ_ _ _ _ _ _ us hl=>by(obtain⟨_,_,_,rfl⟩:=Sw.oK hl;exact rfl)) ?_
  rintro⟨⟨f77,g77,y77⟩,-⟩
  refine Sw.iP KX G [("may_be_borne",Sw.qx,["to","source","tag","rank"]),("fix_row",Sw.p_,["switch","v","hw","side"]),("join_group",Sw.qo,["switch","v","g","side"]),("leave_group",Sw.qt,["switch","v","g","side"]),("set_gate",Sw.qH,["switch","number","v","g"]),("lock_side",Sw.qu,["switch","number","most","shut"]),("add_pair",Sw.pS,["switch","number","tag","v"])] ?_ ?_
  .repeat' first|exact trivial|refine Sw.eD.cons KX G (by k_is) (by k_is) (by k_is) (by k_is) (λ_ _ _ _ _ _ us hl=>by(obtain⟨_,_,_,_,rfl⟩:=Sw.Gk hl;exact rfl)) ?_
  rintro⟨⟨f27,g27,y27⟩,⟨f41,g41,y41⟩,⟨f44,g44,y44⟩,⟨f45,g45,y45⟩,⟨f49,g49,y49⟩,⟨f50,g50,y50⟩,⟨f68,g68,y68⟩,-⟩
  refine Sw.iP KX G [("begin",Sw.p7,["desk","ports","cap","age","hold"])] ?_ ?_
  .repeat' first|exact trivial|refine Sw.eD.cons KX G (by k_is) (by k_is) (by k_is) (by k_is) (λ_ _ _ _ _ _ us hl=>by(obtain⟨_,_,_,_,_,rfl⟩:=Sw.l5 hl;exact rfl)) ?_
  rintro⟨⟨f72,g72,y72⟩,-⟩
  refine Sw.iP KX G [("take_frame",Sw.qS,["switch","number","to","source","tag","rank"])] ?_ ?_
  .repeat' first|exact trivial|refine Sw.eD.cons KX G (by k_is) (by k_is) (by k_is) (by k_is) (λ_ _ _ _ _ _ us hl=>by(obtain⟨_,_,_,_,_,_,rfl⟩:=Sw.Gm hl;exact rfl)) ?_
  rintro⟨⟨f26,g26,y26⟩,-⟩
  obtain⟨a1,a2,a3,a4,a5,a6,a7,a8,-⟩:Sw.rX mg ["len","list","range","enumerate","any","sorted","min","sum"]:=by
   repeat' first|exact trivial|refine And.intro (PySem.W.mg_none_of KX G (by k_is)) ?_
  obtain⟨b1,b2,b3,b4,b5,b6,b7,b8,b9,b10,b11,b12,b13,b14,b15,b16,b17,b18,b19,b20,b21,b22,b23,b24,b25,b26,b27,b28,b29,b30,-⟩:Sw.gL mg [("EVERYBODY",281474976710655),("GROUP_STEP",1099511627776),("FIRST_RESERVED",1652522221568),("LAST_RESERVED",1652522221583),("LEARNED",0),("SECURE",1),("FIXED",2),("NO_VLAN",0),("NO_SIDE",-1),("NO_BOUND",-1),("GATE_CLOSED",0),("GATE_LEARNS",1),("GATE_OPEN",2),("WATCH_NOTHING",0),("WATCH_IN",1),("WATCH_OUT",2),("WATCH_BOTH",3),("HIGHEST_RANK",7),("HIGHEST_TIME",1000000),("REASONS",14),("GOES_ON",0),("PORT_IS_DEAD",3),("CAME_BY_MIRROR",4),("WRONG_SOURCE",5),("OF_NO_VLAN",6),("TO_RESERVED",7),("GATE_IS_CLOSED",8),("WAY_IS_SHUT",9),("FIXED_ELSEWHERE",10),("SECURE_ELSEWHERE",11)]:=by
   repeat' first|exact trivial|refine Sw.gL.cons KX G (by k_is) ?_
  obtain⟨b31,b32,b33,b34,b35,b36,b37,b38,b39,b40,b41,b42,b43,b44,b45,b46,b47,b48,b49,b50,b51,-⟩:Sw.gL mg [("MOVES_TOO_SOON",12),("BREACH",13),("ONLY_LEARNED",14),("FOR_NOWHERE",15),("STORM",16),("FIRST_REASON",3),("NO_TAG",-1),("NO_PORT",-1),("HIGHEST_TAG_OF_FRAME",4095),("EMPTY_TAG",0),("MOST_PORTS_OF_SIDE",8),("HIGHEST_MOST",65536),("HIGHEST_BOUND",1000000000),("GROUP_KIND",3),("CLOCK_END",4611686018427387904),("HIGHEST",4094),("MOST_VLANS",64),("BEGIN",0),("NO_SWITCH",-20),("MOST_PORTS",64),("HIGHEST_CAP",65536)]:=by
   repeat' first|exact trivial|refine Sw.gL.cons KX G (by k_is) ?_
  exact Sw.fin (t:=⟨cRow,j1,jS,cVlan,j4,jV,cSide,j2,jT,cPort,j0,jR,cSwitch,j3,jU,cFrame,jZ,jQ,cDesk,jY,jP,f1,g1,f2,g2,f3,g3,f4,g4,f5,g5,f6,g6,f7,g7,f8,g8,f9,g9,f10,g10,f11,g11,f12,g12,f13,g13,f14,g14,f15,g15,f16,g16,f17,g17,f18,g18,f19,g19,f20,g20,f21,g21,f22,g22,f23,g23,f24,g24,f25,g25,f26,g26,f27,g27,f28,g28,f29,g29,f30,g30,f31,g31,f32,g32,f33,g33,f34,g34,f35,g35,f36,g36,f37,g37,f38,g38,f39,g39,f40,g40,f41,g41,f42,g42,f43,g43,f44,g44,f45,g45,f46,g46,f47,g47,f48,g48,f49,g49,f50,g50,f51,g51,f52,g52,f53,g53,f54,g54,f55,g55,f56,g56,f57,g57,f58,g58,f59,g59,f60,g60,f61,g61,f62,g62,f63,g63,f64,g64,f65,g65,f66,g66,f67,g67,f68,g68,f69,g69,f70,g70,f71,g71,f72,g72,f73,g73,f74,g74,f75,g75,f76,g76,f77,g77,tA⟩) ⟨a1,a2,a3,a4,a5,a6,a7,a8,b1,b2,b3,b4,b5,b6,b7,b8,b9,b10,b11,b12,b13,b14,b15,b16,b17,b18,b19,b20,b21,b22,b23,b24,b25,b26,b27,b28,b29,b30,b31,b32,b33,b34,b35,b36,b37,b38,b39,b40,b41,b42,b43,b44,b45,b46,b47,tB,tC,b48,b49,b50,b51,yRow.cl,yRow.made,yRow.mg,yRow.fn,yRow.bd,zRow.1,zRow.2.1,zRow.2.2.1,zRow.2.2.2.1,yVlan.cl,yVlan.made,yVlan.mg,yVlan.fn,yVlan.bd,zVlan.1,zVlan.2.1,zVlan.2.2.1,zVlan.2.2.2.1,zVlan.2.2.2.2.1,zVlan.2.2.2.2.2.1,zVlan.2.2.2.2.2.2.1,zVlan.2.2.2.2.2.2.2.1,zVlan.2.2.2.2.2.2.2.2.1,ySide.cl,ySide.made,ySide.mg,ySide.fn,ySide.bd,zSide.1,zSide.2.1,zSide.2.2.1,zSide.2.2.2.1,zSide.2.2.2.2.1,zSide.2.2.2.2.2.1,zSide.2.2.2.2.2.2.1,zSide.2.2.2.2.2.2.2.1,yPort.cl,yPort.made,yPort.mg,yPort.fn,yPort.bd,zPort.1,zPort.2.1,zPort.2.2.1,zPort.2.2.2.1,zPort.2.2.2.2.1,zPort.2.2.2.2.2.1,ySwitch.cl,ySwitch.made,ySwitch.mg,ySwitch.fn,ySwitch.bd,zSwitch.1,zSwitch.2.1,zSwitch.2.2.1,zSwitch.2.2.2.1,zSwitch.2.2.2.2.1,zSwitch.2.2.2.2.2.1,zSwitch.2.2.2.2.2.2.1,zSwitch.2.2.2.2.2.2.2.1,yFrame.cl,yFrame.made,yFrame.mg,yFrame.fn,yFrame.bd,zFrame.1,zFrame.2.1,zFrame.2.2.1,zFrame.2.2.2.1,zFrame.2.2.2.2.1,zFrame.2.2.2.2.2.1,yDesk.cl,yDesk.made,yDesk.mg,yDesk.fn,yDesk.bd,zDesk.1,y1,y2,y3,y4,y5,y6,y7,y8,y9,y10,y11,y12,y13,y14,y15,y16,y17,y18,y19,y20,y21,y22,y23,y24,y25,y26,y27,y28,y29,y30,y31,y32,y33,y34,y35,y36,y37,y38,y39,y40,y41,y42,y43,y44,y45,y46,y47,y48,y49,y50,y51,y52,y53,y54,y55,y56,y57,y58,y59,y60,y61,y62,y63,y64,y65,y66,y67,y68,y69,y70,y71,y72,y73,y74,y75,y76,y77⟩ hmg
 case S=>
  intro K H xs a hO hwi hask hx
  cases hx with
  |cons h1 h2=>
   cases h2
   cases h1 with
   |lst hs ha=>
    have e:=L2.xQ a.1 _ ha
    subst e
    have q:((Codec.inLen 0 16000 a.1&&a.1.all (Codec.inInt (Int.negSucc 9223372036854775807) (Int.ofNat 9223372036854775807)))&&true)=true:=hwi
    rw[Bool.and_eq_true,Bool.and_eq_true] at q
    exact⟨_,a.1,rfl,hs,(Codec.inNat_iff.mp q.1.1).2,hask,λH' p hp=>.lst (L2.ax.of hp) (L2.vq _)⟩
