import PyProof.Rows.All
import Wide.All
import OpenK.AllK
import Wide.FinOn
import PyProof.EqAt
import PyProof.EqKinds
import PyProof.TupleCall
import KE.BitLaws
import Open.SpecLaws
import KE.OsHead
import KE.OsGo
import PySem.Challenge.RW_patchrows_s01_answers
set_option Elab.async false
set_option linter.all false
set_option maxRecDepth 100000
namespace L2
open PySem PySem.Spec PyProof.Rows
abbrev Key:=Sum Int Str
def kW:Key->Value->Bool
 | .inl k,v=>Value.isInt k v
 | .inr x,v=>Value.isStrOf x v
def L9 (w:World):Key->Int
 | .inl k=>hashInt k
 | .inr x=>hashStr w x
theorem gY:∀{k:Key} {v:Value},kW k v=true->(∃i t,k=Sum.inl i/\v=Value.int i t)\/(∃x t,k=Sum.inr x/\v=Value.str x t)
 | .inl i,v,h=>by
   obtain⟨t,e⟩:=Value.isInt_shape (k:=i) (v:=v) h;exact .inl ⟨i,t,rfl,e⟩
 | .inr x,v,h=>by
   obtain⟨t,e⟩:=Value.isStrOf_shape (x:=x) (v:=v) h;exact .inr ⟨x,t,rfl,e⟩
theorem Ma (i:Int) (t:Tok):kW (.inl i) (.int i t)=true:=by simp[kW,Value.isInt]
theorem Mb (x:Str) (t:Tok):kW (.inr x) (.str x t)=true:=by simp[kW,Value.isStrOf]
theorem Mc (a b:Int):decide ((Sum.inl a:Key)=Sum.inl b)=(a==b):=by
 by_cases e:a=b
 ·subst e;simp
 ·have h:¬(Sum.inl a:Key)=Sum.inl b:=λq=>e (Sum.inl.inj q);rw[decide_eq_false h];exact(beq_eq_false_iff_ne.mpr e).symm
theorem Mf (a b:Str):decide ((Sum.inr a:Key)=Sum.inr b)=decide (a=b):=by
 by_cases e:a=b
 ·subst e;simp
 ·have h:¬(Sum.inr a:Key)=Sum.inr b:=λq=>e (Sum.inr.inj q);rw[decide_eq_false h,decide_eq_false e]
theorem Md (a:Int) (b:Str):decide ((Sum.inl a:Key)=Sum.inr b)=false:=decide_eq_false (λq=>nomatch q)
theorem Me (a:Str) (b:Int):decide ((Sum.inr a:Key)=Sum.inl b)=false:=decide_eq_false (λq=>nomatch q)
def dw (prog:Program) (w:World):PySem.KeyKind prog w Key where
 is:=kW
 hash:=L9 w
 inj:=λv a b ha hb=>by
  rcases gY ha with ⟨i,t,rfl,rfl⟩|⟨x,t,rfl,rfl⟩
  ·rcases gY hb with ⟨j,u,rfl,e⟩|⟨y,u,rfl,e⟩
   ·injection e with e1 _;rw[e1]
   ·exact nomatch e
  ·rcases gY hb with ⟨j,u,rfl,e⟩|⟨y,u,rfl,e⟩
   ·exact nomatch e
   ·injection e with e1 _;rw[e1]
 byValue:=λk v h=>by
  rcases gY h with ⟨i,t,rfl,rfl⟩|⟨x,t,rfl,rfl⟩<;>rfl
 pyHash:=λhv h=>by
  rcases gY hv with ⟨i,t,rfl,rfl⟩|⟨x,t,rfl,rfl⟩
  ·exact wpAny_pyHash_int h
  ·exact wpAny_pyHash_str h
 eqBool:=λhu hv h=>by
  rcases gY hu with ⟨i,t,rfl,rfl⟩|⟨x,t,rfl,rfl⟩
  ·rcases gY hv with ⟨j,u,rfl,rfl⟩|⟨y,u,rfl,rfl⟩
   ·rw[Mc] at h;exact wpAny_eqBool_int h
   ·rw[Md] at h;exact SeqAt.EqAt.int_str i t y u _ _ _ _ h
  ·rcases gY hv with ⟨j,u,rfl,rfl⟩|⟨y,u,rfl,rfl⟩
   ·rw[Me] at h;exact SeqAt.EqAt.str_int x t j u _ _ _ _ h
   ·rw[Mf] at h;exact wpAny_eqBool_str h
 «strs»:=λk x t v h=>by
  rcases gY h with ⟨i,u,rfl,e⟩|⟨y,u,rfl,e⟩
  ·exact nomatch e
  ·injection e with e1 _;subst e1;cases v<;>rfl
theorem Nn (prog:Program) (w:World) (i:Int) (t:Tok):(dw prog w).is (.inl i) (.int i t)=true:=Ma i t
theorem Np (prog:Program) (w:World) (x:Str) (t:Tok):(dw prog w).is (.inr x) (.str x t)=true:=Mb x t
end L2
namespace L2
open PySem PySem.Spec PyProof.Rows
inductive V where
 |aI|bl (b:Bool)|int (i:Int)|str (x:Str)|eS (b:Array UInt8)|kE (b:UInt64)|ref (a:Addr)|ty (n:String)
 deriving DecidableEq
def RelV:V->Value->Prop
 | .aI,u=>u=Value.none
 | .bl b,u=>u=Value.bool b
 | .int i,u=>∃t,u=Value.int i t
 | .str x,u=>∃t,u=Value.str x t
 | .eS b,u=>∃t,u=Value.bytes b t
 | .kE b,u=>∃t,u=Value.float b t
 | .ref a,u=>u=Value.ref a
 | .ty n,u=>u=Value.type n
abbrev Vals:List V->List Value->Prop:=Paired RelV
theorem Vals.length {xs:List V} {us:List Value} (r:Vals xs us):xs.length=us.length:=Paired.length r
theorem Vals.get:∀{xs:List V} {us:List Value} {i:Nat} {x:V},Vals xs us->xs[i]?=some x->∃u,us[i]?=some u/\RelV x u
 |_,_,_,_,.nil,e=>by simp at e
 |_,_,0,_,.cons r _,e=>by simp at e;subst e;exact⟨_,rfl,r⟩
 |_,_,i+1,x,.cons _ t,e=>by
  obtain⟨u,h1,h2⟩:=Vals.get (i:=i) (x:=x) t (by simpa using e);exact⟨u,by simpa using h1,h2⟩
theorem Vals.append:∀{xs ys:List V} {us ws:List Value},Vals xs us->Vals ys ws->Vals (xs++ys) (us++ws)
 |_,_,_,_,.nil,s=>s
 |_,_,_,_,.cons r t,s=> .cons r (Vals.append t s)
theorem Vals.take:∀{xs:List V} {us:List Value} (n:Nat),Vals xs us->Vals (xs.take n) (us.take n)
 |_,_,0,_=> .nil
 |_,_,_+1,.nil=> .nil
 |_,_,n+1,.cons r t=> .cons r (Vals.take n t)
theorem Vals.drop:∀{xs:List V} {us:List Value} (n:Nat),Vals xs us->Vals (xs.drop n) (us.drop n)
 |_,_,0,r=>r
 |_,_,_+1,.nil=> .nil
 |_,_,n+1,.cons _ t=>Vals.drop n t
def dt:Option V->Option Value->Prop
 |some v,some u=>RelV v u
 |none,none=>True
 |_,_=>False
def KV {κ:Type}:List (κ×V)->List (κ×Value)->Prop:=Paired λ(p:κ×V) (q:κ×Value)=>p.1=q.1/\RelV p.2 q.2
def kV:Key->V
 | .inl i=> .int i
 | .inr x=> .str x
inductive HO where
 |lst (xs:List V)
 |tup (xs:List V)
 |dK (kvs:List (Key×V))|dT (kvs:List (List Key×V))
 |set (S:Int->Bool) (n:Nat)
 |ins (C dx:Addr) (fs:List (Str×V))
 |own (x:Addr)
 |xd (fs:List (Str×V))
 |met (f x:Addr)
 |tD (lo hi:Int)
 |cP (o:Obj) (u:HO)
 |jg (ps:Array Value)
 |ext (φ:Heap->Prop)
abbrev Hp:=Addr->Option HO
def upd (H:Hp) (a:Addr) (o:HO):Hp:=λb=>if b=a then some o else H b
theorem az {H:Hp} {a:Addr} {o:HO}:upd H a o a=some o:=by unfold upd;rw[if_pos rfl]
theorem aT {H:Hp} {a b:Addr} {o:HO} (h:b≠a):upd H a o b=H b:=by unfold upd;rw[if_neg h]
theorem eF {H:Hp} {a:Addr} {o u:HO}:upd (upd H a o) a u=upd H a u:=by
 funext b;unfold upd;split<;>rfl
theorem bP {H:Hp} {a b:Addr} {o u:HO} (h:H a=some o) (h':H b=some u) (d:o≠u):a≠b:=by
 intro e;subst e;rw[h] at h';exact d (Option.some.inj h')
theorem bq {H:Hp} {a b:Addr} {o:HO} (h:H a=some o) (h':H b=none):a≠b:=by
 intro e;subst e;rw[h] at h';cases h'
section
variable (P:Program) (w:World)
def bO (H:Hp) (h:Heap) (a:Addr):HO->Prop
 | .lst xs=>xs.length<=sizeLine/\∃(its:List Value) (n:Nat),Vals xs its/\h.get? a=some {cls:= .type "list",data:= .seq its.toArray n}
 | .tup xs=>xs.length<=sizeLine/\∃its:List Value,Vals xs its/\IsTup h a its.toArray
 | .dK kvs=>kvs.length<=sizeLine/\(a==sysModules)=false/\∃vs,KV kvs vs/\h.DictOf (dw P w) a vs
 | .dT kvs=>kvs.length<=sizeLine/\(a==sysModules)=false/\∃xs:List (List Key×Addr×Value),
  Paired (λ(p:List Key×V) (q:List Key×Addr×Value)=>p.1=q.1/\H q.2.1=some (.tup (p.1.map kV))/\RelV p.2 q.2.2) kvs xs/\
  ∃o es ep,h.get? a=some o/\o.ExactDict/\o.data= .dict es ep/\es.toList=xs.map (entryOfKey (tupleKind (dw P w)))/\(xs.map (·.1)).Nodup
 | .set S n=>h.SetOf (intKind P w) a S n
 | .ins C dx fs=>H dx=some (.own a)/\fs.length<=1000/\dx≠a/\h.get? a=some (PySem.W.instObj C dx)/\
  ∃mA,h.Ns1 dx mA/\(∀f,dt (fs.lookup f) (mA f))/\PySem.Within mA (fs.map (·.1))
 | .own _=>∃o,h.get? a=some o
 | .xd fs=>∃mA,h.Ns1 a mA/\∀f,dt (fs.lookup f) (mA f)
 | .tD lo hi=>∃t u v,h.get? a=some {cls:= .type "range",data:= .fields #[.int lo t,.int hi u,.int 1 v]}
 | .cP o u=>h.get? a=some o/\bO H h a u
 | .jg ps=>h.get? a=some {cls:= .none,data:= .fields ps}
 | .met f x=>h.get? a=some (PySem.W.methodObj (.ref f) (.ref x))
 | .ext φ=>φ h/\(∃o,h.get? a=some o)/\∀h1 h2:Heap,φ h1->(∀o,h1.get? a=some o->h2.get? a=some o)->φ h2
def bI (H:Hp) (h:Heap):Prop:=∀a o,H a=some o->bO P w H h a o
end
section
variable {P:Program} {w:World} {H H':Hp} {h h':Heap} {a:Addr} {o:HO}
theorem bO.lt (x:bO P w H h a o):a<h.objs.size:=by
 cases o with
 |lst xs=>obtain⟨_,_,_,_,e⟩:=x;exact Heap.lt_size e
 |tup xs=>obtain⟨_,_,_,p⟩:=x;exact p.lt
 |dK kvs=>obtain⟨_,_,_,_,o,_,_,e,_⟩:=x;exact Heap.lt_size e
 |dT kvs=>obtain⟨_,_,_,_,o,_,_,e,_⟩:=x;exact Heap.lt_size e
 |set S n=>obtain⟨o,_,_,_,e,_⟩:=x;exact Heap.lt_size e
 |ins C dx fs=>obtain⟨_,_,_,e,_⟩:=x;exact Heap.lt_size e
 |own y=>obtain⟨_,e⟩:=x;exact Heap.lt_size e
 |xd fs=>obtain⟨_,⟨_,_,_,e,_⟩,_⟩:=x;exact Heap.lt_size e
 |tD lo hi=>obtain⟨_,_,_,e⟩:=x;exact Heap.lt_size e
 |cP ob u=>obtain⟨e,_⟩:=x;exact Heap.lt_size e
 |jg ps=>exact Heap.lt_size (show h.get? a=some _ from x)
 |met f y=>exact Heap.lt_size (show h.get? a=some _ from x)
 |ext φ=>obtain⟨_,⟨_,e⟩,_⟩:=x;exact Heap.lt_size e
theorem Paired.wN {α β:Type} {F G:α->β->Prop}:∀{l₁:List α} {l₂:List β},Paired F l₁ l₂->(∀a b,F a b->G a b)->Paired G l₁ l₂
 |_,_,.nil,_=> .nil
 |_,_,.cons r t,f=> .cons (f _ _ r) (Paired.wN t f)
theorem bO.jc (x:bO P w H h a o) (k:∀b u,(b=a\/H b=some (.own a))->h.get? b=some u->h'.get? b=some u)
 (ho:∀b,H b=some (.own a)->H' b=some (.own a)) (ht:∀b xs,H b=some (.tup xs)->H' b=some (.tup xs)):bO P w H' h' a o:=by
 induction o with
 |lst xs=>obtain⟨z,its,n,r,e⟩:=x;exact⟨z,its,n,r,k _ _ (.inl rfl) e⟩
 |tup xs=>obtain⟨z,its,r,ob,e,c⟩:=x;exact⟨z,its,r,ob,k _ _ (.inl rfl) e,c⟩
 |dK kvs=>obtain⟨z,y,vs,r,ob,es,ep,e,c⟩:=x;exact⟨z,y,vs,r,ob,es,ep,k _ _ (.inl rfl) e,c⟩
 |dT kvs=>
  obtain⟨z,y,xs,r,ob,es,ep,e,c⟩:=x;exact⟨z,y,xs,Paired.wN r λp q z=>⟨z.1,ht _ _ z.2.1,z.2.2⟩,ob,es,ep,k _ _ (.inl rfl) e,c⟩
 |set S n=>obtain⟨ob,es,ep,t,e,c⟩:=x;exact⟨ob,es,ep,t,k _ _ (.inl rfl) e,c⟩
 |ins C dx fs=>
  obtain⟨d,z,ne,e,mA,⟨od,es,ep,e2,c⟩,r⟩:=x;exact⟨ho _ d,z,ne,k _ _ (.inl rfl) e,mA,⟨od,es,ep,k _ _ (.inr d) e2,c⟩,r⟩
 |own y=>obtain⟨ob,e⟩:=x;exact⟨ob,k _ _ (.inl rfl) e⟩
 |xd fs=>obtain⟨mA,⟨od,es,ep,e,c⟩,r⟩:=x;exact⟨mA,⟨od,es,ep,k _ _ (.inl rfl) e,c⟩,r⟩
 |tD lo hi=>obtain⟨t,u,v,e⟩:=x;exact⟨t,u,v,k _ _ (.inl rfl) e⟩
 |cP ob u ih=>obtain⟨e,q⟩:=x;exact⟨k _ _ (.inl rfl) e,ih q⟩
 |jg ps=>
  have e:h.get? a=some {cls:= .none,data:= .fields ps}:=x;show h'.get? a=some {cls:= .none,data:= .fields ps};exact k a _ (.inl rfl) e
 |met f y=>
  have e:h.get? a=some (PySem.W.methodObj (.ref f) (.ref y)):=x;show h'.get? a=some (PySem.W.methodObj (.ref f) (.ref y));exact k a _ (.inl rfl) e
 |ext φ=>obtain⟨p,⟨o,e⟩,st⟩:=x;exact⟨st _ _ p λo q=>k _ _ (.inl rfl) q,⟨o,k _ _ (.inl rfl) e⟩,st⟩
theorem bI.lt (x:bI P w H h) (e:H a=some o):a<h.objs.size:=(x a o e).lt
theorem bI.fresh (x:bI P w H h) (e:h.objs.size<=a):H a=none:=by
 cases q:H a with
 |none=>rfl
 |some u=>exact absurd (Nat.lt_of_lt_of_le (x.lt q) e) (Nat.lt_irrefl _)
theorem bI.kept (x:bI P w H h) (k:∀b u,h.get? b=some u->h'.get? b=some u):bI P w H h':=λa o e=>
 (x a o e).jc (λb u _ q=>k b u q) (λ_ q=>q) λ_ _ q=>q
theorem bI.laid (x:bI P w H h) (k:∀b u,h.get? b=some u->h'.get? b=some u) (hp:h.objs.size<=a) (new:bO P w (upd H a o) h' a o):bI P w (upd H a o) h':=λb u e=>by
 have hn:=x.fresh hp;by_cases hb:b=a
 ·subst hb;rw[az] at e;cases e;exact new
 ·rw[aT hb] at e;exact(x b u e).jc (λc v _ q=>k c v q) (λc q=>by rw[aT (bq q hn)];exact q) λc xs q=>by rw[aT (bq q hn)];exact q
end
def Rd (H:Hp) (a:Addr) (u:HO):Prop:=H a=some u\/∃o,H a=some (.cP o u)
theorem Rd.ok {P:Program} {w:World} {H:Hp} {h:Heap} {a:Addr} {u:HO} (r:Rd H a u) (x:bI P w H h):bO P w H h a u:=by
 rcases r with r|⟨o,r⟩
 ·exact x a u r
 ·obtain⟨_,q⟩:=x a _ r;exact q
def oC:Option HO->Prop
 |some (.lst _)=>True
 |some (.dK _)=>True
 |some (.dT _)=>True
 |some (.set _ _)=>True
 |some (.ins _ _ _)=>True
 |some (.ext _)=>True
 |_=>False
section
variable {P:Program} {w:World} {H:Hp} {h h':Heap} {x e:Addr} {o':HO}
theorem bI.write (ok:bI P w H h) (mu:oC (H x)) (he:e=x\/H e=some (.own x)) (k:∀b u,b≠e->h.get? b=some u->h'.get? b=some u) (heo:∃u,h'.get? e=some u)
 (new:bO P w (upd H x o') h' x o'):bI P w (upd H x o') h':=λb u q=>by
 have nown:∀c y,H c=some (.own y)->c≠x:=λc y r z=>by subst z;rw[r] at mu;exact mu
 have ntup:∀c xs,H c=some (.tup xs)->c≠x:=λc xs r z=>by subst z;rw[r] at mu;exact mu
 by_cases hb:b=x
 ·subst hb;rw[az] at q;cases q;exact new
 ·rw[aT hb] at q;by_cases hbe:b=e
  ·have q':H b=some (.own x):=by
    rcases he with z|z
    ·exact absurd (hbe.trans z) hb
    ·rw[hbe];exact z
   rw[q] at q';cases q';obtain⟨v,hv⟩:=heo;exact⟨v,by rw[hbe];exact hv⟩
  ·refine(ok b u q).jc (λc v hc r=>k c v ?_ r) (λc r=>by rw[aT (nown c b r)];exact r) λc xs r=>by rw[aT (ntup c xs r)];exact r
   rcases hc with rfl|hc
   ·exact hbe
   ·rintro rfl;rcases he with z|z
    ·exact nown c b hc z
    ·rw[hc] at z;cases z;exact hb rfl
end
structure Un (fs ex:List Addr) (H H':Hp) (h h':Heap):Prop where
 keep:∀b o,h.get? b=some o->H b=none->b∉fs->b∉ex->h'.get? b=some o
 slot:∀b o,h.get? b=some o->H b=none->b∈fs->b∉ex->∃sl,h'.get? b=some {o with slots:=sl}
 free:∀b o,h.get? b=some o->H b=none->b∉ex->H' b=none
 there:∀b o,h.get? b=some o->b∉ex->∃o',h'.get? b=some o'
 iB:∀b xs,H b=some (.tup xs)->H' b=some (.tup xs)
 gv:∀b o u,H b=some (.cP o u)->H' b=some (.cP o u)
 iA:∀b ps,H b=some (.jg ps)->∃more,H' b=some (.jg (ps++more))
section
variable {fs fs' ex ex':List Addr} {H H1 H2:Hp} {h h1 h2 h':Heap} {a x e:Addr} {o:HO}
theorem Un.any (u:Un fs ex H H1 h h1) {b:Addr} {ob:Obj} (q:h.get? b=some ob) (n:H b=none) (hx:b∉ex):∃sl,h1.get? b=some {ob with slots:=sl}:=by
 by_cases hb:b∈fs
 ·exact u.slot b ob q n hb hx
 ·exact⟨ob.slots,u.keep b ob q n hb hx⟩
theorem Un.kept (k:∀b u,h.get? b=some u->h'.get? b=some u):Un fs ex H H h h':=
 ⟨λb ob q _ _ _=>k b ob q,λb ob q _ _ _=>⟨ob.slots,k b ob q⟩,λ_ _ _ n _=>n,λb ob q _=>⟨ob,k b ob q⟩,λ_ _ q=>q,λ_ _ _ q=>q,λ_ ps q=>⟨#[],by rw[q];simp⟩⟩
theorem Un.refl:Un fs ex H H h h:=Un.kept λ_ _ q=>q
theorem Un.laid (k:∀b u,h.get? b=some u->h'.get? b=some u) (hp:h.objs.size<=a) (hn:H a=none):Un fs ex H (upd H a o) h h' where
 keep:=λb u q _ _ _=>k b u q
 slot:=λb u q _ _ _=>⟨u.slots,k b u q⟩
 free:=λb u q n _=>by rw[aT (Nat.ne_of_lt (Nat.lt_of_lt_of_le (Heap.lt_size q) hp))];exact n
 there:=λb u q _=>⟨u,k b u q⟩
 iB:=λb xs q=>by rw[aT (bq q hn)];exact q
 gv:=λb u xs q=>by rw[aT (bq q hn)];exact q
 iA:=λb ps q=>⟨#[],by rw[aT (bq q hn),q];simp⟩
theorem Un.write (mu:oC (H x)) (he:e=x\/H e=some (.own x)) (k:∀b u,b≠e->h.get? b=some u->h'.get? b=some u) (heo:∃u,h'.get? e=some u):Un fs ex H (upd H x o) h h':=by
 have hx:∀b,H b=none->b≠x:=λb n z=>by subst z;rw[n] at mu;exact mu
 have hb:∀b,H b=none->b≠e:=λb n z=>by
  subst z;rcases he with r|r
  ·exact hx b n r
  ·rw[n] at r;cases r
 have hm:∀b u,H b=some u->¬oC (some u)->b≠x:=λb u q nm z=>by subst z;rw[q] at mu;exact nm mu
 refine⟨λb u q n _ _=>k b u (hb b n) q,λb u q n _ _=>⟨u.slots,k b u (hb b n) q⟩,λb u q n _=>by rw[aT (hx b n)];exact n,λb u q _=>?_,
  λb xs q=>by rw[aT (hm b _ q λz=>z)];exact q,λb u xs q=>by rw[aT (hm b _ q λz=>z)];exact q,λb ps q=>⟨#[],by rw[aT (hm b _ q λz=>z),q];simp⟩⟩
 by_cases hbe:b=e
 ·subst hbe;exact heo
 ·exact⟨u,k b u hbe q⟩
end
def gI (h:Heap) (H:Hp):List Addr:=(List.range h.objs.size).filter λa=>(H a).isSome
def gS (h:Heap) (H:Hp):Heap:=PySem.W.hideAll h (gI h H)
theorem Li (h:Heap) (H:Hp):(gS h H).objs.size=h.objs.size:=PySem.W.hideAll_size _ _
theorem Lh {h:Heap} {H:Hp} {b:Addr} {o:Obj} (e:h.get? b=some o) (n:H b=none):(gS h H).get? b=some o:=
 PySem.W.hideAll_get _ e λhm=>by
  have q:(H b).isSome=true:=(List.mem_filter.mp hm).2;rw[n] at q;simp at q
theorem NU {h:Heap} {H:Hp} {b:Addr} {o:Obj} (e:(gS h H).get? b=some o):h.get? b=some o/\H b=none:=by
 have e':h.get? b=some o:=PySem.W.of_hideAll (gI h H) e;refine⟨e',?_⟩;cases q:H b with
 |none=>rfl
 |some x=>
  have hm:b∈gI h H:=List.mem_filter.mpr ⟨List.mem_range.mpr (Heap.lt_size e'),by simp[q]⟩;have z:(gS h H).get? b=none:=PySem.W.hideAll_none (gI h H) hm;rw[z] at e;cases e
end L2
namespace L2
open PySem PySem.Spec PyProof.Rows
structure Mod (K:PySem.W.Frag) (mg:Str->Option Value) (base:Heap):Prop where
 kX:K.In base
 glob:base.Ns mainGlobals mg
 blt:∃mb,base.Ns builtinsNs mb/\∀x:Str,x≠"__name__"->mb x=bootBuiltins x
 nolimit:base.NoLimit
structure Cx where
 prog:Program
 w:World
 K:PySem.W.Frag
 mg:Str->Option Value
 base:Heap
 A:Around
 N:List Str
 cV:Shared
 ox:Hp
 env:Env
 outer:List Env
 stack:List Env
 ex:List Addr
 fn:Str->Bool
 calm:Bool
 pn:List (Addr×Obj)
 xe:Value->Shared->Prop
def cC (l:List Env):List Addr:=l.filterMap (·.frame)
abbrev Cx.fs (X:Cx):List Addr:=cC X.outer
def my (sc:Scope) (x:Str):Prop:=sc.names.lookup x=some .local\/sc.names.lookup x=some .cell\/sc.names.lookup x=some .free
def Loc (sc:Scope) (x:Str):Prop:=sc.names.lookup x=some .local\/sc.names.lookup x=some .cell
def Look (env:Env) (h:Heap) (m:Str->Option Value) (x:Str) (u:Value):Prop:=
 (env.kindOf x=some .local/\m x=some u)\/((env.kindOf x=some .cell\/env.kindOf x=some .free)/\∃c,env.cells.lookup x=some c/\h.IsCell c (some u))
structure Cx.Ok (X:Cx):Prop where
 mod:Mod X.K X.mg X.base
 kind:X.env.scope.kind= .function
 glob:X.env.globals=mainGlobals
 blt:X.env.builtins=builtinsNs
 above:X.cV.heap.objs.size<=X.env.locals
 inj:∀x y c,X.env.cells.lookup x=some c->X.env.cells.lookup y=some c->x=y
 has:∀x,(X.env.kindOf x=some .cell\/X.env.kindOf x=some .free)->∃c,X.env.cells.lookup x=some c
 ki:∀x c,X.fn x=true->X.env.cells.lookup x=some c->X.cV.heap.objs.size<=c
 hd:X.calm=true->X.A.handled=none
 frames:X.A.frames=some X.stack
 om:X.stack=X.outer\/(X.stack=X.env::X.outer/\X.env.frame=some X.env.locals)
 iH:∀b∈X.ex,b≠X.env.locals/\∀x c,X.env.cells.lookup x=some c->c≠b
 bs:∀b o,X.base.get? b=some o->X.cV.heap.get? b=some o/\X.ox b=none
 fX:X.base.objs.size<=X.cV.heap.objs.size
 lB:∀b o,X.base.get? b=some o->b∉X.ex
 iI:∀b∈X.ex,b∉X.fs
 ez:X.cV.heap.FunFrames X.base X.outer
 gP:∀b∈X.fs,X.ox b=none
structure Inv (X:Cx) (pins:List (Addr×Obj)) (σ:List (Option V)) (H:Hp) (s:Shared):Prop where
 ok:X.Ok
 os:s.os=X.cV.os
 bare:AllBare s.gens
 base:Un X.fs X.ex X.ox H X.cV.heap s.heap
 loc:∃m,s.heap.Ns X.env.locals m/\∀(i:Nat) (x:Str) (v:V),X.N[i]?=some x->σ[i]?=some (some v)->my X.env.scope x->∃u,RelV v u/\Look X.env s.heap m x u
 cell:∀x c,X.env.cells.lookup x=some c->∃v,s.heap.IsCell c v
 free:H X.env.locals=none
 eh:∀x c,X.env.cells.lookup x=some c->H c=none
 pin:∀p∈X.pn++pins,s.heap.get? p.1=some p.2/\H p.1=none/\p.1≠X.env.locals/\p.1∉X.fs/\∀v,p.2.data≠ .cell v
 aw:bI X.prog X.w H s.heap
 len:σ.length=X.N.length
section
variable {X:Cx} {pins:List (Addr×Obj)} {σ:List (Option V)} {H H':Hp} {s:Shared} {h':Heap}
theorem Cx.Ok.NN (ok:X.Ok) {b:Addr} {o:Obj} (e:X.base.get? b=some o):b∉X.fs:=λhb=>by
 have:=(ok.ez.mem hb).1;rw[e] at this;cases this
theorem Inv.bs (I:Inv X pins σ H s):∀b o,X.base.get? b=some o->s.heap.get? b=some o/\H b=none:=λb o e=>
 ⟨I.base.keep b o (I.ok.bs b o e).1 (I.ok.bs b o e).2 (I.ok.NN e) (I.ok.lB b o e),I.base.free b o (I.ok.bs b o e).1 (I.ok.bs b o e).2 (I.ok.lB b o e)⟩
theorem Inv.bk (I:Inv X pins σ H s):∀b o,X.base.get? b=some o->s.heap.get? b=some o:=λb o e=>(I.bs b o e).1
theorem Inv.mod (I:Inv X pins σ H s):Mod X.K X.mg X.base:=I.ok.mod
theorem Inv.cG (I:Inv X pins σ H s):X.K.In s.heap:=I.ok.mod.kX.keeps I.bk
theorem Inv.lt (I:Inv X pins σ H s):X.env.locals<s.heap.objs.size:=let ⟨_,hn,_⟩:=I.loc;hn.lt
theorem Inv.sz (I:Inv X pins σ H s):X.cV.heap.objs.size<=s.heap.objs.size:=Nat.le_trans I.ok.above (Nat.le_of_lt I.lt)
theorem Inv.NP (I:Inv X pins σ H s) {a:Addr} (h:s.heap.objs.size<=a):a∉X.fs:=λhb=>by
 obtain⟨_,o,ho,_⟩:=I.ok.ez.mem hb;exact absurd (Nat.lt_of_lt_of_le (Heap.lt_size ho) (Nat.le_trans I.sz h)) (Nat.lt_irrefl _)
theorem Inv.km (I:Inv X pins σ H s):∀x c,X.env.cells.lookup x=some c->c≠X.env.locals:=λx c e z=>by
 obtain⟨v,o,ho,hd⟩:=I.cell x c e;obtain⟨m,⟨o',es,ep,ho',hd',_⟩,_⟩:=I.loc;rw[z,ho'] at ho;cases ho;rw[hd'] at hd;cases hd
theorem Inv.ez (I:Inv X pins σ H s):s.heap.FunFrames X.base X.outer:=by
 have all:∀(l:List Env),(∀b∈cC l,b∈X.fs)->X.cV.heap.FunFrames X.base l->s.heap.FunFrames X.base l:=by
  intro l
  induction l with
  |nil=>intro _ _;trivial
  |cons env r ih=>
   intro hs hl;obtain⟨hk,⟨L,o,hf,hn,ho,hd⟩,hr⟩:=hl;have hL:L∈X.fs:=hs L (by unfold cC;rw[List.filterMap_cons,hf];exact List.mem_cons_self);obtain⟨sl,e⟩:=I.base.slot L o ho (I.ok.gP L hL) hL λz=>I.ok.iI L z hL;exact⟨hk,⟨L,_,hf,hn,e,hd⟩,ih (λb hb=>hs b (by unfold cC;rw[List.filterMap_cons,hf];exact List.mem_cons_of_mem _ hb)) hr⟩
 exact all X.outer (λ_ hb=>hb) I.ok.ez
theorem Inv.stack (I:Inv X pins σ H s):s.heap.FunFrames X.base X.stack:=by
 rcases I.ok.om with e|⟨e,hf⟩
 ·rw[e];exact I.ez
 ·rw[e];obtain⟨m,hn,_⟩:=I.loc;refine .cons (by rw[I.ok.kind];decide) hf hn ?_ I.ez;exact Heap.get?_none_of_le (Nat.le_trans I.ok.fX I.ok.above)
theorem Inv.mf (I:Inv X pins σ H s):∀b∈cC X.stack,b∈X.env.locals::X.fs:=λb hb=>by
 rcases I.ok.om with e|⟨e,hf⟩
 ·rw[e] at hb;exact List.mem_cons_of_mem _ hb
 ·rw[e] at hb;unfold cC at hb;rw[List.filterMap_cons,hf] at hb;exact hb
theorem Inv.Aa (I:Inv X pins σ H s):∀b∈cC X.stack,H b=none:=λb hb=>by
 rcases List.mem_cons.mp (I.mf b hb) with e|hb
 ·rw[e];exact I.free
 ·obtain⟨_,o,ho,_⟩:=I.ok.ez.mem hb;exact I.base.free b o ho (I.ok.gP b hb) λz=>I.ok.iI b z hb
theorem Inv.step {g':Array GenState} {t':Nat} {d':Drawn} {ch:List Addr} (I:Inv X pins σ H s)
 (hch:∀b∈ch,(b∈X.ex\/X.cV.heap.objs.size<=b)/\b≠X.env.locals/\(∀x c,X.env.cells.lookup x=some c->c≠b)/\∀p∈X.pn++pins,p.1≠b)
 (keep:∀b o,b≠X.env.locals->b∉X.fs->b∉ch->s.heap.get? b=some o->H b=none->h'.get? b=some o)
 (slot:∀b o,b≠X.env.locals->b∈X.fs->b∉ch->s.heap.get? b=some o->H b=none->∃sl,h'.get? b=some {o with slots:=sl}) (free:∀b o,b∉ch->s.heap.get? b=some o->H b=none->H' b=none)
 (there:∀b o,b∉ch->s.heap.get? b=some o->∃o',h'.get? b=some o')
 (iB:∀b xs,H b=some (.tup xs)->H' b=some (.tup xs)) (gv:∀b o u,H b=some (.cP o u)->H' b=some (.cP o u)) (iA:∀b ps,H b=some (.jg ps)->∃more,H' b=some (.jg (ps++more)))
 (ns:∀m,s.heap.Ns X.env.locals m->h'.Ns X.env.locals m) (aw:bI X.prog X.w H' h') (hg:AllBare g'):
 Inv X pins σ H' {s with heap:=h',gens:=g',drawn:=d',toks:=t'}:=by
 have neL:∀b o,X.cV.heap.get? b=some o->b≠X.env.locals:=λb o e=>Nat.ne_of_lt (Nat.lt_of_lt_of_le (Heap.lt_size e) I.ok.above);have neC:∀b o,X.cV.heap.get? b=some o->b∉X.ex->b∉ch:=λb o e hx hb=>by
  rcases(hch b hb).1 with z|z
  ·exact hx z
  ·exact absurd (Nat.lt_of_lt_of_le (Heap.lt_size e) z) (Nat.lt_irrefl _)
 have cellK:∀x c,X.env.cells.lookup x=some c->∀v,s.heap.IsCell c v->h'.IsCell c v:=λx c e v ⟨o,ho,hd⟩=>by
  have nch:c∉ch:=λz=>(hch c z).2.2.1 x c e rfl;by_cases hc:c∈X.fs
  ·obtain⟨sl,q⟩:=slot c o (I.km x c e) hc nch ho (I.eh x c e);exact⟨_,q,hd⟩
  ·exact⟨o,keep c o (I.km x c e) hc nch ho (I.eh x c e),hd⟩
 refine⟨I.ok,I.os,hg,⟨λb o e n hb hx=>?_,λb o e n hb hx=>?_,λb o e n hx=>?_,λb o e hx=>?_,λb xs e=>iB b xs (I.base.iB b xs e),λb o xs e=>gv b o xs (I.base.gv b o xs e),λb ps e=>?_⟩,?_,λx c e=>?_,?_,λx c e=>?_,λp hp=>?_,aw,I.len⟩
 ·exact keep b o (neL b o e) hb (neC b o e hx) (I.base.keep b o e n hb hx) (I.base.free b o e n hx)
 ·obtain⟨sl,e1⟩:=I.base.slot b o e n hb hx;obtain⟨sl',e2⟩:=slot b _ (neL b o e) hb (neC b o e hx) e1 (I.base.free b o e n hx);exact⟨sl',e2⟩
 ·obtain⟨o',e1⟩:=I.base.there b o e hx;exact free b o' (neC b o e hx) e1 (I.base.free b o e n hx)
 ·obtain⟨o',e1⟩:=I.base.there b o e hx;exact there b o' (neC b o e hx) e1
 ·obtain⟨m1,e1⟩:=I.base.iA b ps e;obtain⟨m2,e2⟩:=iA b _ e1;exact⟨m1++m2,by rw[e2,Array.append_assoc]⟩
 ·obtain⟨m,hn,hl⟩:=I.loc;refine⟨m,ns m hn,λi x v e1 e2 e3=>?_⟩;obtain⟨u,r,l⟩:=hl i x v e1 e2 e3;refine⟨u,r,?_⟩;rcases l with l|⟨k,c,e,z⟩
  ·exact .inl l
  ·exact .inr ⟨k,c,e,cellK x c e _ z⟩
 ·obtain⟨v,z⟩:=I.cell x c e;exact⟨v,cellK x c e v z⟩
 ·obtain⟨m,⟨o,_,_,ho,_⟩,_⟩:=I.loc;exact free _ o (λz=>(hch _ z).2.1 rfl) ho I.free
 ·obtain⟨v,o,ho,hd⟩:=I.cell x c e;exact free c o (λz=>(hch c z).2.2.1 x c e rfl) ho (I.eh x c e)
 ·obtain⟨e,n,ne,nf,d⟩:=I.pin p hp;have nch:p.1∉ch:=λz=>(hch p.1 z).2.2.2 p hp rfl;exact⟨keep p.1 p.2 ne nf nch e n,free p.1 p.2 nch e n,ne,nf,d⟩
theorem Inv.un {t':Nat} (I:Inv X pins σ H s) (u:Un X.fs [] H H' s.heap h') (aw:bI X.prog X.w H' h'):Inv X pins σ H' {s with heap:=h',toks:=t'}:=by
 obtain⟨m,⟨o,es,ep,ho,r⟩,_⟩:=id I.loc;obtain⟨sl,hL⟩:=u.any ho I.free (by simp);exact I.step (g':=s.gens) (d':=s.drawn) (ch:=[]) (λ_ z=>nomatch z) (λb o _ hb _ e n=>u.keep b o e n hb (by simp)) (λb o _ hb _ e n=>u.slot b o e n hb (by simp)) (λb o _ e n=>u.free b o e n (by simp)) (λb o _ e=>u.there b o e (by simp)) u.iB u.gv u.iA (λm' hm=>by
  obtain⟨o',es',ep',ho',r'⟩:=hm;rw[ho] at ho';cases ho';exact⟨_,es',ep',hL,r'⟩) aw I.bare
theorem Inv.call {g':Array GenState} {t':Nat} {d':Drawn} {ch:List Addr} (I:Inv X pins σ H s) (u:Un (cC X.stack) ch H H' s.heap h') (aw:bI X.prog X.w H' h') (hg:AllBare g')
 (hch:∀b∈ch,(b∈X.ex\/X.cV.heap.objs.size<=b)/\b≠X.env.locals/\(∀x c,X.env.cells.lookup x=some c->c≠b)/\∀p∈X.pn++pins,p.1≠b):
 Inv X pins σ H' {s with heap:=h',gens:=g',drawn:=d',toks:=t'}:=by
 obtain⟨m,⟨o,es,ep,ho,r⟩,_⟩:=id I.loc;obtain⟨sl,hL⟩:=u.any ho I.free λz=>(hch _ z).2.1 rfl;exact I.step (ch:=ch) hch (λb o hL hb hc e n=>u.keep b o e n (λz=>(List.mem_cons.mp (I.mf b z)).elim hL hb) hc) (λb o _ _ hc e n=>u.any e n hc) (λb o hc e n=>u.free b o e n hc) (λb o hc e=>u.there b o e hc) u.iB u.gv u.iA (λm' hm=>by
  obtain⟨o',es',ep',ho',r'⟩:=hm;rw[ho] at ho';cases ho';exact⟨_,es',ep',hL,r'⟩) aw hg
theorem Inv.turned {t':Nat} {it:Addr} (I:Inv X pins σ H s) (k:∀b o,b≠it->s.heap.get? b=some o->h'.get? b=some o) (hn:H it=none) (hL:it≠X.env.locals)
 (h1:it∈X.ex\/X.cV.heap.objs.size<=it) (h2:∀x c,X.env.cells.lookup x=some c->c≠it) (h3:∀p∈X.pn++pins,p.1≠it):Inv X pins σ H {s with heap:=h',toks:=t'}:=by
 have nit:∀b u,H b=some u->b≠it:=λb u e z=>by rw[z,hn] at e;cases e
 refine I.step (g':=s.gens) (d':=s.drawn) (ch:=[it]) (λb hb=>?_) (λb o _ _ hc e _=>k b o (λz=>hc (by simp[z])) e) (λb o _ _ hc e _=>⟨o.slots,k b o (λz=>hc (by simp[z])) e⟩) (λ_ _ _ _ n=>n)
  (λb o hc e=>⟨o,k b o (λz=>hc (by simp[z])) e⟩) (λ_ _ e=>e) (λ_ _ _ e=>e) (λb ps e=>⟨#[],by rw[e];simp⟩) (λm hm=>?_) (λb u e=>?_) I.bare
 ·have e:b=it:=by simpa using hb
  subst e;exact⟨h1,hL,h2,h3⟩
 ·obtain⟨o,es,ep,ho,r⟩:=hm;exact⟨o,es,ep,k _ o (Ne.symm hL) ho,r⟩
 ·refine(I.aw b u e).jc (λc v hc q=>k c v ?_ q) (λ_ q=>q) λ_ _ q=>q;rcases hc with z|z
  ·rw[z];exact nit b u e
  ·exact nit c _ z
theorem Inv.tok (I:Inv X pins σ H s) (t:Nat):Inv X pins σ H {s with toks:=t}:=I.un (h':=s.heap) (t':=t) Un.refl I.aw
theorem Inv.kept {t':Nat} (I:Inv X pins σ H s) (k:∀b u,s.heap.get? b=some u->h'.get? b=some u):Inv X pins σ H {s with heap:=h',toks:=t'}:=I.un (Un.kept k) (I.aw.kept k)
theorem Inv.laid {a:Addr} {o:HO} {t':Nat} (I:Inv X pins σ H s) (k:∀b u,s.heap.get? b=some u->h'.get? b=some u) (hp:s.heap.objs.size<=a) (new:bO X.prog X.w (upd H a o) h' a o):
 Inv X pins σ (upd H a o) {s with heap:=h',toks:=t'}:=I.un (Un.laid k hp (I.aw.fresh hp)) (I.aw.laid k hp new)
theorem Inv.write {x e:Addr} {o:HO} {t':Nat} (I:Inv X pins σ H s) (mu:oC (H x)) (he:e=x\/H e=some (.own x)) (k:∀b u,b≠e->s.heap.get? b=some u->h'.get? b=some u) (heo:∃u,h'.get? e=some u)
 (new:bO X.prog X.w (upd H x o) h' x o):Inv X pins σ (upd H x o) {s with heap:=h',toks:=t'}:=I.un (Un.write mu he k heo) (I.aw.write mu he k heo new)
theorem Inv.weak {σ':List (Option V)} (I:Inv X pins σ H s) (hl:σ'.length=σ.length) (w:∀(i:Nat) v,σ'[i]?=some (some v)->σ[i]?=some (some v)):Inv X pins σ' H s:=
 ⟨I.ok,I.os,I.bare,I.base,let ⟨m,hn,hl'⟩:=I.loc;⟨m,hn,λi x v e1 e2 e3=>hl' i x v e1 (w i v e2) e3⟩,I.cell,I.free,I.eh,I.pin,I.aw,hl.trans I.len⟩
theorem Inv.Ff {pins':List (Addr×Obj)} (I:Inv X pins σ H s) (h:∀p∈pins',s.heap.get? p.1=some p.2/\H p.1=none/\p.1≠X.env.locals/\p.1∉X.fs/\∀v,p.2.data≠ .cell v):Inv X pins' σ H s:=
 ⟨I.ok,I.os,I.bare,I.base,I.loc,I.cell,I.free,I.eh,λp hp=>(List.mem_append.mp hp).elim (λz=>I.pin p (List.mem_append_left _ z)) (h p),I.aw,I.len⟩
theorem xy {N:List Str} (hN:N.Nodup) {i j:Nat} {x:Str} (a:N[i]?=some x) (b:N[j]?=some x):i=j:=by
 obtain⟨h1,e1⟩:=List.getElem?_eq_some_iff.mp a;obtain⟨h2,e2⟩:=List.getElem?_eq_some_iff.mp b;exact(List.getElem_inj hN).mp (e1.trans e2.symm)
theorem Gh {M:Model} {A:Around} {E:Value->Shared->Prop} {i:Nat} {x:Str} {v:V} {u:Value} {Q:Unit->Shared->Prop} (I:Inv X pins σ H s) (hN:X.N.Nodup) (hi:X.N[i]?=some x) (hx:Loc X.env.scope x) (r:RelV v u)
 (h:∀s',Inv X pins (σ.set i (some v)) H s'->(∃a,Heap.SameBut a s.heap s'.heap/\(a=X.env.locals\/X.env.cells.lookup x=some a))->Q () s') (hf:X.fn x=true\/X.env.scope.names.lookup x=some .local:=by first|exact .inl rfl|exact .inr rfl|assumption):wpAny M A (storeName X.env x u) Q E s:=by
 obtain⟨m,hn,hl⟩:=id I.loc;have hcls:(X.env.scope.kind== .class||(X.env.scope.kind== .module&&X.env.locals !=X.env.globals))=false:=by rw[I.ok.kind];rfl
 have hiσ:i<σ.length:=by rw[I.len];exact(List.getElem?_eq_some_iff.mp hi).1
 have km:=I.km;have tracked:∀{a:Addr} {h':Heap},(∃o,s.heap.get? a=some o/\H a=none)->Heap.SameBut a s.heap h'->bI X.prog X.w H h':=λ{a h'} ha hs b ob e=>by
  obtain⟨_,_,hfree⟩:=ha;refine(I.aw b ob e).jc (λc w' hc q=>(hs.2 c ?_).trans q) (λ_ q=>q) λ_ _ q=>q;rintro rfl;rcases hc with rfl|hc
  ·rw[hfree] at e;cases e
  ·rw[hfree] at hc;cases hc
 rcases hx with hk|hk
 ·refine wpAny_storeName_local hk hn (λh' hn' hs=>?_) hcls;obtain⟨oL,_,_,hoL,_⟩:=id hn;refine h _ ⟨I.ok,I.os,I.bare,⟨λb o e n hb hx=>?_,λb o e n hb hx=>?_,I.base.free,λb o e hx=>?_,I.base.iB,I.base.gv,I.base.iA⟩,⟨_,hn',λj y v' e1 e2 e3=>?_⟩,λy c e=>?_,I.free,I.eh,λp hp=>?_,tracked ⟨oL,hoL,I.free⟩ hs,by simpa using I.len⟩ ⟨_,hs,.inl rfl⟩
  ·exact(hs.2 b (Nat.ne_of_lt (Nat.lt_of_lt_of_le (Heap.lt_size e) I.ok.above))).trans (I.base.keep b o e n hb hx)
  ·obtain⟨sl,e1⟩:=I.base.slot b o e n hb hx;exact⟨sl,(hs.2 b (Nat.ne_of_lt (Nat.lt_of_lt_of_le (Heap.lt_size e) I.ok.above))).trans e1⟩
  ·obtain⟨o',e1⟩:=I.base.there b o e hx;exact⟨o',(hs.2 b (Nat.ne_of_lt (Nat.lt_of_lt_of_le (Heap.lt_size e) I.ok.above))).trans e1⟩
  ·by_cases hj:j=i
   ·subst hj;rw[hi] at e1;cases e1;rw[List.getElem?_set_self hiσ] at e2;cases e2;exact⟨u,r,.inl ⟨hk,by simp⟩⟩
   ·rw[List.getElem?_set_ne (Ne.symm hj)] at e2;obtain⟨u',r',q⟩:=hl j y v' e1 e2 e3;refine⟨u',r',?_⟩;rcases q with ⟨k,e⟩|⟨k,c,e,z⟩
    ·refine .inl ⟨k,?_⟩;have:y≠x:=λe=>hj (xy hN e1 (e▸hi));simp[this,e]
    ·exact .inr ⟨k,c,e,z.sameBut hs (km y c e)⟩
  ·obtain⟨w',z⟩:=I.cell y c e;exact⟨w',z.sameBut hs (km y c e)⟩
  ·obtain⟨e,n,ne,nf,d⟩:=I.pin p hp;exact⟨(hs.2 p.1 ne).trans e,n,ne,nf,d⟩
 ·have hfn:X.fn x=true:=by
   rcases hf with z|z
   ·exact z
   ·rw[z] at hk;cases hk
  obtain⟨c,hc⟩:=I.ok.has x (.inl hk);obtain⟨w',z⟩:=I.cell x c hc;refine wpAny_storeName_cell I.ok.kind hk hc z (λh' hc' hs=>?_);obtain⟨oc,hoc,hocd⟩:=id z;refine h {s with heap:=h'} ⟨I.ok,I.os,I.bare,⟨λb o e n hb hx=>?_,λb o e n hb hx=>?_,I.base.free,λb o e hx=>?_,I.base.iB,I.base.gv,I.base.iA⟩,⟨m,hn.sameBut hs (Ne.symm (km x c hc)),λj y v' e1 e2 e3=>?_⟩,λy c' e=>?_,I.free,I.eh,λp hp=>?_,tracked ⟨oc,hoc,I.eh x c hc⟩ hs,by simpa using I.len⟩ ⟨c,hs,.inr hc⟩
  ·exact(hs.2 b (Nat.ne_of_lt (Nat.lt_of_lt_of_le (Heap.lt_size e) (I.ok.ki x c hfn hc)))).trans (I.base.keep b o e n hb hx)
  ·obtain⟨sl,e1⟩:=I.base.slot b o e n hb hx;exact⟨sl,(hs.2 b (Nat.ne_of_lt (Nat.lt_of_lt_of_le (Heap.lt_size e) (I.ok.ki x c hfn hc)))).trans e1⟩
  ·obtain⟨o',e1⟩:=I.base.there b o e hx;exact⟨o',(hs.2 b (Nat.ne_of_lt (Nat.lt_of_lt_of_le (Heap.lt_size e) (I.ok.ki x c hfn hc)))).trans e1⟩
  ·by_cases hj:j=i
   ·subst hj;rw[hi] at e1;cases e1;rw[List.getElem?_set_self hiσ] at e2;cases e2;exact⟨u,r,.inr ⟨.inl hk,c,hc,hc'⟩⟩
   ·rw[List.getElem?_set_ne (Ne.symm hj)] at e2;obtain⟨u',r',q⟩:=hl j y v' e1 e2 e3;refine⟨u',r',?_⟩;rcases q with q|⟨k,c',e,z'⟩
    ·exact .inl q
    ·refine .inr ⟨k,c',e,z'.sameBut hs ?_⟩;rintro rfl;exact hj (xy hN e1 (I.ok.inj _ _ _ e hc▸hi))
  ·by_cases hcc:c'=c
   ·subst hcc;exact⟨_,hc'⟩
   ·obtain⟨w2,z2⟩:=I.cell y c' e;exact⟨w2,z2.sameBut hs hcc⟩
  ·obtain⟨e,n,ne,nf,d⟩:=I.pin p hp;refine⟨(hs.2 p.1 ?_).trans e,n,ne,nf,d⟩;intro q;rw[q,hoc] at e;have q':oc=p.2:=Option.some.inj e;exact d w' (by rw[<-q'];exact hocd)
theorem Ab {M:Model} {A:Around} {E:Value->Shared->Prop} {i:Nat} {x:Str} {v:V} {u:Value} {Q:Unit->Shared->Prop} (I:Inv X pins σ H s) (hN:X.N.Nodup) (hi:X.N[i]?=some x) (hx:Loc X.env.scope x) (r:RelV v u)
 (h:∀s',Inv X pins (σ.set i (some v)) H s'->Q () s') (hf:X.fn x=true\/X.env.scope.names.lookup x=some .local:=by first|exact .inl rfl|exact .inr rfl|assumption):wpAny M A (storeName X.env x u) Q E s:=
 Gh I hN hi hx r (λs' I' _=>h s' I') hf
theorem Inv.qH {s':Shared} {ch:List Addr} (I:Inv X pins σ H s) (ho:s'.os=s.os) (u:Un (cC X.stack) ch H H' s.heap s'.heap) (aw:bI X.prog X.w H' s'.heap) (hg:AllBare s'.gens)
 (hch:∀b∈ch,(b∈X.ex\/X.cV.heap.objs.size<=b)/\b≠X.env.locals/\(∀x c,X.env.cells.lookup x=some c->c≠b)/\∀p∈X.pn++pins,p.1≠b):Inv X pins σ H' s':=by
 obtain⟨h',g',d',t',o'⟩:=s';have e:o'=s.os:=ho;subst e;exact I.call (g':=g') (t':=t') (d':=d') u aw hg hch
end
abbrev XK:=Value->Option Addr->Hp->Prop
abbrev St:=List (Option V)
abbrev VK:=V->Hp->Prop
abbrev TE:=St->Hp->VK->Prop
abbrev TT:=St->Hp->(Bool->Hp->Prop)->Prop
abbrev TA:=St->Hp->(List V->Hp->Prop)->Prop
structure Ends where
 nx:St->Hp->Prop
 rt:VK
 bk:St->Hp->Prop:=λ_ _=>False
 ct:St->Hp->Prop:=λ_ _=>False
abbrev TS:=Ends->St->Hp->Prop
def EP (X:Cx) (pins:List (Addr×Obj)) (σ:St) (Q:VK) (u:Value) (s':Shared):Prop:=∃v H',Inv X pins σ H' s'/\RelV v u/\Q v H'
def TP (X:Cx) (pins:List (Addr×Obj)) (σ:St) (Q:Bool->Hp->Prop) (b:Bool) (s':Shared):Prop:=∃H',Inv X pins σ H' s'/\Q b H'
def AP (X:Cx) (pins:List (Addr×Obj)) (σ:St) (Q:List V->Hp->Prop) (us:List Value) (s':Shared):Prop:=∃vs H',Inv X pins σ H' s'/\Vals vs us/\Q vs H'
def SP (X:Cx) (pins:List (Addr×Obj)) (D:Ends) (f:Flow) (s':Shared):Prop:=
 match f with
 | .next=>∃σ' H',Inv X pins σ' H' s'/\D.nx σ' H'
 | .brk=>∃σ' H',Inv X pins σ' H' s'/\D.bk σ' H'
 | .cont=>∃σ' H',Inv X pins σ' H' s'/\D.ct σ' H'
 | .ret u=>∃v σ' H',Inv X pins σ' H' s'/\RelV v u/\D.rt v H'
def PE (X:Cx) (e:Expr) (t:TE):Prop:=
 ∀(pins:List (Addr×Obj)) (s:Shared) (σ:St) (H:Hp) (Q:VK),Inv X pins σ H s->t σ H Q->wpAny (model X.prog X.w) X.A (eval e X.env) (EP X pins σ Q) X.xe s
def PT (X:Cx) (e:Expr) (t:TT):Prop:=
 ∀(pins:List (Addr×Obj)) (s:Shared) (σ:St) (H:Hp) (Q:Bool->Hp->Prop),Inv X pins σ H s->t σ H Q->wpAny (model X.prog X.w) X.A (isTrue e X.env (eval e X.env)) (TP X pins σ Q) X.xe s
def PW (X:Cx) (e:Expr) (t:TT):Prop:=
 ∀(whole:Sem Value) (pins:List (Addr×Obj)) (s:Shared) (σ:St) (H:Hp) (Q:Bool->Hp->Prop),Inv X pins σ H s->t σ H Q->wpAny (model X.prog X.w) X.A (isTrue e X.env whole) (TP X pins σ Q) X.xe s
theorem PW.pt {X:Cx} {e:Expr} {t:TT} (h:PW X e t):PT X e t:=h _
def PA (X:Cx) (es:List Expr) (t:TA):Prop:=
 ∀(pos:Pos) (pins:List (Addr×Obj)) (s:Shared) (σ:St) (H:Hp) (Q:List V->Hp->Prop),Inv X pins σ H s->t σ H Q->wpAny (model X.prog X.w) X.A (spliced (backTo pos (starEach es X.env))) (AP X pins σ Q) X.xe s
def PS (X:Cx) (st:Stmt) (t:TS):Prop:=
 ∀(pins:List (Addr×Obj)) (s:Shared) (σ:St) (H:Hp) (D:Ends),Inv X pins σ H s->t D σ H->wpAny (model X.prog X.w) X.A (exec st X.env) (SP X pins D) X.xe s
def dY (X:Cx) (st:List Stmt) (t:TS):Prop:=
 ∀(pins:List (Addr×Obj)) (s:Shared) (σ:St) (H:Hp) (D:Ends),Inv X pins σ H s->t D σ H->wpAny (model X.prog X.w) X.A (execs st X.env) (SP X pins D) X.xe s
theorem aK {α:Type} {t:Sem α} {Q Q':α->Shared->Prop} {M:Model} {A:Around} {E:Value->Shared->Prop} {s:Shared} (h:wpAny M A t Q E s) (hQ:∀a s,Q a s->Q' a s):wpAny M A t Q' E s:=wpAny_mono h hQ λ_ _ x=>x
end L2
namespace L2
open PySem PySem.Spec PyProof.Rows
section
variable {X:Cx}
def aY (i:Nat):TE:=λσ H Q=>∃v,σ[i]?=some (some v)/\Q v H
def tC (v:V):TE:=λ_ H Q=>Q v H
theorem O7 {i:Nat} {x:Str} {pos:Pos} (hN:X.N[i]?=some x) (hv:my X.env.scope x) (hd:(x==("__debug__":Str))=false:=by decide) (hcd:(x==("__classdict__":Str))=false:=by decide):PE X (.Name x pos) (aY i):=by
 intro pins s σ H Q I h;obtain⟨v,e,h⟩:=h;obtain⟨m,hn,hl⟩:=I.loc;obtain⟨u,r,l⟩:=hl i x v hN e hv;have fin:EP X pins σ Q u s:=⟨v,H,I,r,h⟩
 rcases l with ⟨hk,hm⟩|⟨hk,c,hc,hcell⟩
 ·exact wpAny_Name (wpAny_loadName_local I.ok.kind hk hn hm fin) hd
 ·rcases hk with hk|hk
  ·exact wpAny_Name (wpAny_loadName_cell I.ok.kind hk hc hcell fin) hd
  ·exact wpAny_Name (wpAny_loadName_free I.ok.kind hk hc hcell fin hcd) hd
theorem aR {i j pos}:PE X (.Constant (.int i) j pos) (tC (.int i)):=λ_ _ _ H _ I h=>wpAny_Constant_int ⟨.int i,H,I.tok _,⟨_,rfl⟩,h⟩
theorem O0 {b j pos}:PE X (.Constant (.bool b) j pos) (tC (.bl b)):=λ_ _ _ H _ I h=>Constant_bool ⟨.bl b,H,I,rfl,h⟩
theorem cS {j pos}:PE X (.Constant .none j pos) (tC .aI):=λ_ _ _ H _ I h=>Constant_none ⟨.aI,H,I,rfl,h⟩
theorem iW {x j pos}:PE X (.Constant (.str x) j pos) (tC (.str x)):=λ_ _ _ H _ I h=>Calls.Constant_str ⟨.str x,H,I.tok _,⟨_,rfl⟩,h⟩
def Gl (X:Cx) (x:Str):Prop:=X.env.kindOf x=some .globalImplicit
theorem mW {E:Value->Shared->Prop} {pins:List (Addr×Obj)} {s:Shared} {σ:St} {H:Hp} {x:Str} {u:Value} {pos:Pos} {Q:Value->Shared->Prop} (I:Inv X pins σ H s) (hg:Gl X x) (hm:X.mg x=some u) (h:Q u s)
 (hd:(x==("__debug__":Str))=false:=by decide):wpAny (model X.prog X.w) X.A (eval (.Name x pos) X.env) Q E s:=
 Calls.Name_function_global I.ok.kind hg (Calls.loadGlobal_global (by rw[I.ok.glob];exact I.mod.glob.keeps I.bk) hm h) hd
theorem kY {E:Value->Shared->Prop} {pins:List (Addr×Obj)} {s:Shared} {σ:St} {H:Hp} {x:Str} {u:Value} {pos:Pos} {Q:Value->Shared->Prop} (I:Inv X pins σ H s) (hg:Gl X x) (hm:X.mg x=none) (hv:bootBuiltins x=some u) (h:Q u s)
 (hn:x≠"__name__":=by decide) (hd:(x==("__debug__":Str))=false:=by decide):wpAny (model X.prog X.w) X.A (eval (.Name x pos) X.env) Q E s:=by
 obtain⟨mb,h1,h2⟩:=I.mod.blt;exact Calls.Name_function_global I.ok.kind hg (Calls.loadGlobal_builtin (by rw[I.ok.glob];exact I.mod.glob.keeps I.bk) hm (by rw[I.ok.blt];exact h1.keeps I.bk) ((h2 x hn).trans hv) h) hd
theorem aU {x:Str} {v:V} {u:Value} {pos:Pos} (hg:Gl X x) (hm:X.mg x=some u) (r:RelV v u) (hd:(x==("__debug__":Str))=false:=by decide):PE X (.Name x pos) (tC v):=
 λ_ _ _ H _ I h=>mW I hg hm ⟨v,H,I,r,h⟩ hd
variable {a b:Expr} {ta tb:TE} {pos:Pos}
def PC (X:Cx) (op:CmpOp) (a b:Expr) (t:TE):Prop:=
 ∀(pins:List (Addr×Obj)) (s:Shared) (σ:St) (H:Hp) (Q:VK),Inv X pins σ H s->t σ H Q->
  wpAny (model X.prog X.w) X.A (eval a X.env) (λv s₁=>wpAny (model X.prog X.w) X.A (eval b X.env) (λu s₂=>wpAny (model X.prog X.w) X.A (compareOp op v u) (EP X pins σ Q) X.xe s₂) X.xe s₁) X.xe s
def tB (t:TE):TT:=λσ H Q=>t σ H λx H1=>∃c,x= .bl c/\Q c H1
theorem nF {op:CmpOp} {t:TE} (h:PC X op a b t) (h1:behindInMarks op b=false:=by first|exact TM _ (by decide) (by decide)|rfl):PE X (.Compare a [op] [b] pos) t:=λpins s σ H Q I hw=>wpAny_Compare1 (h pins s σ H Q I hw) h1
theorem eD {e:Expr} {t:TE} (h:PE X e t) (he:∀whole,isTrue e X.env whole=(do let v<-whole;standAt e.pos;holding [v] (truthy v)):=by intro _;rfl):PT X e (tB t):=by
 intro pins s σ H Q I hw;refine isTrue_plain (aK (h pins s σ H _ I hw) λv s1 ⟨x,H1,I1,r1,q1⟩=>?_) (he _);obtain⟨d,rfl,q⟩:=q1;cases r1;exact wpAny_truthy_bool ⟨H1,I1,q⟩
variable {tA tB':TT} {rest:List Expr}
def Sk (t u:TT):TT:=λσ H Q=>t σ H λc H1=>if c=true then u σ H1 Q else Q false H1
def SD (t u:TT):TT:=λσ H Q=>t σ H λc H1=>if c=true then Q true H1 else u σ H1 Q
def SA (t:TT):TT:=λσ H Q=>t σ H λc H1=>Q (!c) H1
theorem pR (ha:PT X a tA):PW X (.BoolOp .And [a] pos) tA:=by
 intro wh pins s σ H Q I h;refine isTrue_and (aK (ha pins s σ H Q I h) λc s1 e=>?_);cases c with
 |true=>exact isTrue_and_nil e
 |false=>exact e
theorem yf (ha:PT X a tA):PW X (.BoolOp .Or [a] pos) tA:=by
 intro wh pins s σ H Q I h;refine isTrue_or (aK (ha pins s σ H Q I h) λc s1 e=>?_);cases c with
 |false=>exact isTrue_or_nil e
 |true=>exact e
theorem lN (ha:PT X a tA) (hb:PW X (.BoolOp .And (b::rest) pos) tB'):PW X (.BoolOp .And (a::b::rest) pos) (Sk tA tB'):=by
 intro wh pins s σ H Q I h;refine isTrue_and (aK (ha pins s σ H _ I h) λc s1 ⟨H1,I1,q1⟩=>?_);cases c with
 |true=>exact hb wh pins s1 σ H1 Q I1 q1
 |false=>exact⟨H1,I1,q1⟩
theorem ye (ha:PT X a tA) (hb:PW X (.BoolOp .Or (b::rest) pos) tB'):PW X (.BoolOp .Or (a::b::rest) pos) (SD tA tB'):=by
 intro wh pins s σ H Q I h;refine isTrue_or (aK (ha pins s σ H _ I h) λc s1 ⟨H1,I1,q1⟩=>?_);cases c with
 |true=>exact⟨H1,I1,q1⟩
 |false=>exact hb wh pins s1 σ H1 Q I1 q1
theorem pP (ha:PT X a tA):PT X (.UnaryOp .Not a pos) (SA tA):=by
 intro pins s σ H Q I h;exact isTrue_not (ha pins s σ H (λc H1=>Q (!c) H1) I h)
def Sl (ta tb:TE):TE:=λσ H Q=>ta σ H λx H1=>∃c,x= .bl c/\if c=true then tb σ H1 Q else Q (.bl false) H1
def SE (ta tb:TE):TE:=λσ H Q=>ta σ H λx H1=>∃c,x= .bl c/\if c=true then Q (.bl true) H1 else tb σ H1 Q
theorem nH {op} {t:TE} (h:PE X a t):PE X (.BoolOp op [a] pos) t:=λpins s σ H Q I hw=>BoolOp_one (h pins s σ H Q I hw)
theorem pN (ha:PE X a ta) (hb:PE X (.BoolOp .And (b::rest) pos) tb):PE X (.BoolOp .And (a::b::rest) pos) (Sl ta tb):=by
 intro pins s σ H Q I h;refine BoolOp_and (aK (ha pins s σ H _ I h) λv s1 ⟨x,H1,I1,r1,q1⟩=>?_);obtain⟨c,rfl,q1⟩:=q1;cases r1;refine wpAny_truthy_bool ?_;cases c with
 |true=>exact hb pins s1 σ H1 Q I1 q1
 |false=>exact⟨.bl false,H1,I1,rfl,q1⟩
theorem O6 (ha:PE X a ta) (hb:PE X (.BoolOp .Or (b::rest) pos) tb):PE X (.BoolOp .Or (a::b::rest) pos) (SE ta tb):=by
 intro pins s σ H Q I h;refine BoolOp_or (aK (ha pins s σ H _ I h) λv s1 ⟨x,H1,I1,r1,q1⟩=>?_);obtain⟨c,rfl,q1⟩:=q1;cases r1;refine wpAny_truthy_bool ?_;cases c with
 |false=>exact hb pins s1 σ H1 Q I1 q1
 |true=>exact⟨.bl true,H1,I1,rfl,q1⟩
def Sy (t:TT) (ta tb:TE):TE:=λσ H Q=>t σ H λc H1=>if c=true then ta σ H1 Q else tb σ H1 Q
theorem O3 {c:Expr} (hc:PT X c tA) (ha:PE X a ta) (hb:PE X b tb):PE X (.IfExp c a b pos) (Sy tA ta tb):=by
 intro pins s σ H Q I h;refine wpAny_IfExp (aK (hc pins s σ H _ I h) λd s1 ⟨H1,I1,q1⟩=>?_);cases d with
 |true=>exact ha pins s1 σ H1 Q I1 q1
 |false=>exact hb pins s1 σ H1 Q I1 q1
end
end L2
namespace L2
open PySem PySem.Spec PyProof.Rows
def ak (K:PySem.W.Frag) (H:Hp) (a:Addr) (xs:List V):Prop:=
 Rd H a (.lst xs)\/
  ∃(o:Obj) (its:Array Value) (n:Nat),K.lookup a=some o/\o.cls= .type "list"/\o.dict=none/\o.data= .seq its n/\its.size<=sizeLine/\Vals xs its.toList
def ba (K:PySem.W.Frag) (H:Hp) (a:Addr) (xs:List V):Prop:=
 Rd H a (.tup xs)\/
  ∃(o:Obj) (its:Array Value) (n:Nat),K.lookup a=some o/\o.cls= .type "tuple"/\o.data= .seq its n/\its.size<=sizeLine/\Vals xs its.toList
def GQ:Value->Option V
 | .none=>some .aI
 | .bool b=>some (.bl b)
 | .int i _=>some (.int i)
 | .str x _=>some (.str x)
 | .bytes b _=>some (.eS b)
 | .float b _=>some (.kE b)
 | .ref a=>some (.ref a)
 | .type n=>some (.ty n)
 |_=>none
theorem RelV.abs {x:V} {u:Value} (r:RelV x u):GQ u=some x:=by
 cases x with
 |aI=>cases r;rfl
 |bl _=>cases r;rfl
 |int _=>obtain⟨t,rfl⟩:=r;rfl
 |str _=>obtain⟨t,rfl⟩:=r;rfl
 |eS _=>obtain⟨t,rfl⟩:=r;rfl
 |kE _=>obtain⟨t,rfl⟩:=r;rfl
 |ref _=>cases r;rfl
 |ty _=>cases r;rfl
theorem RelV.inj {x y:V} {u:Value} (r:RelV x u) (q:RelV y u):x=y:=Option.some.inj (r.abs.symm.trans q.abs)
theorem Vals.inj:∀{xs ys:List V} {us:List Value},Vals xs us->Vals ys us->xs=ys
 |_,_,_,.nil,.nil=>rfl
 |_,_,_,.cons r t,.cons r' t'=>by rw[r.inj r',Vals.inj t t']
section
variable {X:Cx} {pins:List (Addr×Obj)} {σ:St} {H:Hp} {s:Shared} {a:Addr} {xs ys:List V}
theorem ak.of {K:PySem.W.Frag} (h:H a=some (.lst xs)):ak K H a xs:= .inl (.inl h)
theorem ba.of {K:PySem.W.Frag} (h:H a=some (.tup xs)):ba K H a xs:= .inl (.inl h)
theorem Inv.list (I:Inv X pins σ H s) (h:ak X.K H a xs):∃its:List Value,Vals xs its/\PlainL s.heap a its.toArray/\xs.length<=sizeLine:=by
 rcases h with h|⟨o,its,n,hk,hc,hd,hs,hz,r⟩
 ·obtain⟨z,its,n,r,e⟩:=h.ok I.aw;exact⟨its,r,⟨_,n,e,rfl,rfl,rfl⟩,z⟩
 ·refine⟨its.toList,r,⟨o,n,I.cG a o hk,hc,hd,by simpa using hs⟩,?_⟩;have e:=r.length;simp only[Array.length_toList] at e;omega
theorem Inv.tuple (I:Inv X pins σ H s) (h:ba X.K H a xs):∃its:List Value,Vals xs its/\IsTup s.heap a its.toArray/\xs.length<=sizeLine:=by
 rcases h with h|⟨o,its,n,hk,hc,hs,hz,r⟩
 ·obtain⟨z,its,r,p⟩:=h.ok I.aw;exact⟨its,r,p,z⟩
 ·refine⟨its.toList,r,⟨o,I.cG a o hk,hc,n,by simpa using hs⟩,?_⟩;have e:=r.length;simp only[Array.length_toList] at e;omega
theorem Inv.wK (I:Inv X pins σ H s) (h:ak X.K H a xs) (h':ak X.K H a ys):xs=ys:=by
 obtain⟨its,r,⟨o,n,e,_,_,d⟩,_⟩:=I.list h;obtain⟨its',r',⟨o',n',e',_,_,d'⟩,_⟩:=I.list h';rw[e] at e';cases e';rw[d] at d';injection d' with d1 _;have:its=its':=by simpa using congrArg Array.toList d1
 subst this;exact r.inj r'
theorem Inv.SU (I:Inv X pins σ H s) (h:ba X.K H a xs) (h':ba X.K H a ys):xs=ys:=by
 obtain⟨its,r,⟨o,e,_,n,d⟩,_⟩:=I.tuple h;obtain⟨its',r',⟨o',e',_,n',d'⟩,_⟩:=I.tuple h';rw[e] at e';cases e';rw[d] at d';injection d' with d1 _;have:its=its':=by simpa using congrArg Array.toList d1
 subst this;exact r.inj r'
end
abbrev Cx.bW (X:Cx) (E:Value->Shared->Prop):Cx:={X with xe:=E}
abbrev Cx.sG (X:Cx):Cx:=X.bW λ_ _=>False
theorem Cx.Ok.bW {X:Cx} (ok:X.Ok) (E:Value->Shared->Prop):(X.bW E).Ok:=
 ⟨ok.mod,ok.kind,ok.glob,ok.blt,ok.above,ok.inj,ok.has,ok.ki,ok.hd,ok.frames,ok.om,ok.iH,ok.bs,ok.fX,ok.lB,ok.iI,ok.ez,ok.gP⟩
theorem Cx.Ok.jh {X:Cx} {E:Value->Shared->Prop} (ok:(X.bW E).Ok):X.Ok:=
 ⟨ok.mod,ok.kind,ok.glob,ok.blt,ok.above,ok.inj,ok.has,ok.ki,ok.hd,ok.frames,ok.om,ok.iH,ok.bs,ok.fX,ok.lB,ok.iI,ok.ez,ok.gP⟩
section
variable {X:Cx} {pins:List (Addr×Obj)} {σ:St} {H:Hp} {s:Shared} {E:Value->Shared->Prop}
theorem Inv.bW (I:Inv X pins σ H s) (E:Value->Shared->Prop):Inv (X.bW E) pins σ H s:=⟨I.ok.bW E,I.os,I.bare,I.base,I.loc,I.cell,I.free,I.eh,I.pin,I.aw,I.len⟩
theorem Inv.jh (I:Inv (X.bW E) pins σ H s):Inv X pins σ H s:=⟨I.ok.jh,I.os,I.bare,I.base,I.loc,I.cell,I.free,I.eh,I.pin,I.aw,I.len⟩
theorem SP.jh {D:Ends} {f:Flow} {s':Shared} (h:SP (X.bW E) pins D f s'):SP X pins D f s':=by
 cases f with
 |next=>obtain⟨σ',H',I,q⟩:=h;exact⟨σ',H',I.jh,q⟩
 |brk=>obtain⟨σ',H',I,q⟩:=h;exact⟨σ',H',I.jh,q⟩
 |cont=>obtain⟨σ',H',I,q⟩:=h;exact⟨σ',H',I.jh,q⟩
 |ret u=>obtain⟨v,σ',H',I,r,q⟩:=h;exact⟨v,σ',H',I.jh,r,q⟩
theorem dY.sG {st:List Stmt} {t:TS} (h:dY X.sG st t):dY X st t:=λpins s σ H D I hw=>
 wpAny_mono (h pins s σ H D (I.bW _) hw) (λ_ _ q=>q.jh) λ_ _ z=>False.elim z
end
section
variable {X:Cx} {st:Stmt} {rest:List Stmt} {t u:TS} {e:Expr} {te:TE} {pos:Pos}
def Gp:TS:=λD σ H=>D.nx σ H
def qa (t u:TS):TS:=λD σ H=>t {D with nx:=u D} σ H
theorem aP:dY X [] Gp:=λ_ _ σ H _ I h=>wpAny_execs_nil ⟨σ,H,I,h⟩
theorem ah (h1:PS X st t) (h2:dY X rest u):dY X (st::rest) (qa t u):=by
 intro pins s σ H D I h;refine wpAny_execs_cons (aK (h1 pins s σ H {D with nx:=u D} I h) λf s1 q=>?_);cases f with
 |next=>
  obtain⟨σ',H',I',q⟩:=q;exact h2 pins s1 σ' H' D I' q
 |ret v=>exact q
 |brk=>exact q
 |cont=>exact q
theorem aj (h1:PS X st t):dY X [st] t:=by
 intro pins s σ H D I h;refine wpAny_execs_cons (aK (h1 pins s σ H D I h) λf s1 q=>?_);cases f with
 |next=>exact wpAny_execs_nil q
 |ret v=>exact q
 |brk=>exact q
 |cont=>exact q
theorem Inv.quiet {pins:List (Addr×Obj)} {σ:St} {H:Hp} {s:Shared} (I:Inv X pins σ H s):interactive X.env=false:=by simp[interactive,I.ok.kind]
def Sw (te:TE):TS:=λD σ H=>te σ H λ_ H1=>D.nx σ H1
theorem dH (he:PE X e te) (hs:swapsWith e none pos.line X.env=pure false:=by rfl):PS X (.Expr e pos) (Sw te):=by
 intro pins s σ H D I h;exact wpAny_Expr_any (aK (he pins s σ H _ I h) λv s1 ⟨x,H1,I1,r1,q1⟩=>⟨σ,H1,I1,q1⟩) I.quiet hs
def Ah (te:TE):TS:=λD σ H=>te σ H D.rt
theorem aq (he:PE X e te):PS X (.Return (some e) pos) (Ah te):=by
 intro pins s σ H D I h;exact wpAny_Return_some (aK (he pins s σ H _ I h) λv s1 ⟨x,H1,I1,r1,q1⟩=>⟨x,σ,H1,I1,r1,q1⟩)
def Gm (c:TT) (t u:TS):TS:=λD σ H=>c σ H λb H1=>if b=true then t D σ H1 else u D σ H1
theorem aO {c:Expr} {a b:List Stmt} {tc:TT} (hc:PT X c tc) (ha:dY X a t) (hb:dY X b u):PS X (.If c a b pos) (Gm tc t u):=by
 intro pins s σ H D I h;refine wpAny_If (aK (hc pins s σ H _ I h) λd s1 ⟨H1,I1,q1⟩=>?_);cases d with
 |true=>exact ha pins s1 σ H1 D I1 q1
 |false=>exact hb pins s1 σ H1 D I1 q1
end
abbrev TG:=V->St->Hp->(St->Hp->Prop)->Prop
abbrev jV:=List V->St->Hp->(St->Hp->Prop)->Prop
def PG (X:Cx) (target:Expr) (t:TG):Prop:=
 ∀(pins:List (Addr×Obj)) (s:Shared) (σ:St) (H:Hp) (v:V) (u:Value) (Q:St->Hp->Prop),Inv X pins σ H s->RelV v u->t v σ H Q->
  wpAny (model X.prog X.w) X.A (assign target X.env u) (λ_ s'=>∃σ' H',Inv X pins σ' H' s'/\Q σ' H') X.xe s
def qi (X:Cx) (ts:List Expr) (t:jV):Prop:=
 ∀(pins:List (Addr×Obj)) (s:Shared) (σ:St) (H:Hp) (vs:List V) (us:List Value) (Q:St->Hp->Prop),Inv X pins σ H s->Vals vs us->t vs σ H Q->
  wpAny (model X.prog X.w) X.A (assignInOrder ((assignEach ts X.env).map (·.2)) us) (λ_ s'=>∃σ' H',Inv X pins σ' H' s'/\Q σ' H') X.xe s
abbrev ql:=V->V->Hp->VK->Prop
def uA (X:Cx) (op:Operator) (t:ql):Prop:=
 ∀(pins:List (Addr×Obj)) (s:Shared) (σ:St) (H:Hp) (x y:V) (v u:Value) (Q:VK),Inv X pins σ H s->RelV x v->RelV y u->t x y H Q->
  wpAny (model X.prog X.w) X.A (inplaceOp op v u) (EP X pins σ Q) X.xe s
section
variable {X:Cx} {pos:Pos}
def kI (i:Nat):TG:=λv σ H Q=>Q (σ.set i (some v)) H
theorem cj {i:Nat} {x:Str} (hN:X.N.Nodup) (hi:X.N[i]?=some x) (hx:Loc X.env.scope x) (hf:X.fn x=true\/X.env.scope.names.lookup x=some .local:=by first|exact .inl rfl|exact .inr rfl|assumption):PG X (.Name x pos) (kI i):=by
 intro pins s σ H v u Q I r h;exact wpAny_assign_Name (Ab I hN hi hx r (λs' I'=>⟨_,H,I',h⟩) hf)
def K5:jV:=λvs σ H Q=>vs=[]/\Q σ H
def K4 (t:TG) (u:jV):jV:=λvs σ H Q=>∃v r,vs=v::r/\t v σ H λσ' H'=>u r σ' H' Q
theorem O9:qi X [] K5:=by
 intro pins s σ H vs us Q I r h;obtain⟨e,h⟩:=h;subst e;cases r;exact assignInOrder_nil ⟨σ,H,I,h⟩
theorem E6 {e:Expr} {es:List Expr} {t:TG} {u:jV} (h1:PG X e t) (h2:qi X es u)
 (hs:(assignEach (e::es) X.env).map (·.2)=assign e X.env::(assignEach es X.env).map (·.2):=by rfl):qi X (e::es) (K4 t u):=by
 intro pins s σ H vs us Q I r h;obtain⟨v,vr,e1,h⟩:=h;subst e1;cases r with
 |cons r rr=>
  rw[hs];refine assignInOrder_cons (aK (h1 pins s σ H _ _ _ I r h) λ_ s1 ⟨σ1,H1,I1,q1⟩=>?_);exact h2 pins s1 σ1 H1 _ _ Q I1 rr q1
def K7 (K:PySem.W.Frag) (n:Nat) (t:jV):TG:=λv σ H Q=>∃a xs,v= .ref a/\ba K H a xs/\xs.length=n/\t xs σ H Q
theorem O8 {es:List Expr} {k:Nat} {t:jV} {n:Nat} (hc:X.calm=true) (h:qi X es t)
 (hn:(assignEach es X.env).length=n:=by rfl) (hst:(assignEach es X.env).findIdx? (·.1)=none:=by rfl):PG X (.Tuple es k pos) (K7 X.K n t):=by
 intro pins s σ H v u Q I r hw;obtain⟨a,xs,e1,hq,hl,hw⟩:=hw;subst e1;cases r;obtain⟨its,rv,ht,hz⟩:=I.tuple hq;refine assign_Tuple_tuple (I.ok.hd hc) ht (by simp[hn,<-hl,rv.length]) hst λh' hx=>?_;have I1:Inv X pins σ H {s with heap:=h'}:=I.kept (t':=s.toks) λb o e=>hx b o (Nat.ne_of_lt (Heap.lt_size e)) e;exact h pins _ σ H xs _ Q I1 (by simpa using rv) hw
def p9 (te:TE) (g:TG):TS:=λD σ H=>te σ H λx H1=>g x σ H1 D.nx
theorem aF {i:Nat} {x:Str} {e:Expr} {te:TE} {pos':Pos} (hN:X.N.Nodup) (hi:X.N[i]?=some x) (hx:Loc X.env.scope x) (he:PE X e te) (hs:swapsWith e (some (.Name x pos')) pos.line X.env=pure false:=by rfl) (hf:X.fn x=true\/X.env.scope.names.lookup x=some .local:=by first|exact .inl rfl|exact .inr rfl|assumption):
 PS X (.Assign [.Name x pos'] e pos) (p9 te (kI i)):=by
 intro pins s σ H D I h;refine wpAny_Assign_Name (aK (he pins s σ H _ I h) λv s1 ⟨y,H1,I1,r1,q1⟩=>?_) hs;exact Ab I1 hN hi hx r1 (λs2 I2=>⟨_,H1,I2,q1⟩) hf
def Gj (i:Nat) (te:TE) (ti:ql):TS:=λD σ H=>∃x,σ[i]?=some (some x)/\te σ H λy H1=>ti x y H1 λz H2=>D.nx (σ.set i (some z)) H2
theorem nP {i:Nat} {x:Str} {e:Expr} {te:TE} {op:Operator} {ti:ql} {pos':Pos} (hN:X.N.Nodup) (hi:X.N[i]?=some x) (hx:Loc X.env.scope x) (he:PE X e te) (ho:uA X op ti) (hf:X.fn x=true\/X.env.scope.names.lookup x=some .local:=by first|exact .inl rfl|exact .inr rfl|assumption):
 PS X (.AugAssign (.Name x pos') op e pos) (Gj i te ti):=by
 intro pins s σ H D I h;obtain⟨v,e1,h⟩:=h;obtain⟨m,hn,hl⟩:=I.loc;have vis:my X.env.scope x:=by rcases hx with k|k;exact .inl k;exact .inr (.inl k)
 obtain⟨u,r,l⟩:=hl i x v hi e1 vis;refine wpAny_AugAssign_Name ?_;have go:wpAny (model X.prog X.w) X.A (eval e X.env) (λw s₂=>wpAny (model X.prog X.w) X.A (inplaceOp op u w) (λr s₃=>wpAny (model X.prog X.w) X.A (storeName X.env x r) (λ_=>SP X pins D .next) X.xe s₃) X.xe s₂) X.xe s:=by
  refine aK (he pins s σ H _ I h) λw s1 ⟨y,H1,I1,r1,q1⟩=>?_;refine aK (ho pins s1 σ H1 v y u w _ I1 r r1 q1) λz s2 ⟨zv,H2,I2,r2,q2⟩=>?_;exact Ab I2 hN hi hx r2 (λs3 I3=>⟨_,H2,I3,q2⟩) hf
 rcases l with ⟨hk,hm⟩|⟨hk,c,hc,hcell⟩
 ·exact wpAny_loadName_local I.ok.kind hk hn hm go
 ·rcases hk with hk|hk
  ·exact wpAny_loadName_cell I.ok.kind hk hc hcell go
  ·rcases hx with k|k
   ·have:X.env.scope.names.lookup x=some .free:=hk;rw[k] at this;cases this
   ·have:X.env.scope.names.lookup x=some .free:=hk;rw[k] at this;cases this
def wG (f:Int->Int->Int):ql:=λx y H Q=>∃i j,x= .int i/\y= .int j/\Q (.int (f i j)) H
theorem pB:uA X .Add (wG λi j=>i+j):=by
 intro pins s σ H x y v u Q I r1 r2 h;obtain⟨i,j,e1,e2,q⟩:=h;subst e1;subst e2;obtain⟨t,rfl⟩:=r1;obtain⟨t',rfl⟩:=r2;exact iadd_int ⟨.int _,H,I.tok _,⟨_,rfl⟩,q⟩
theorem Lx:uA X .Sub (wG λi j=>i-j):=by
 intro pins s σ H x y v u Q I r1 r2 h;obtain⟨i,j,e1,e2,q⟩:=h;subst e1;subst e2;obtain⟨t,rfl⟩:=r1;obtain⟨t',rfl⟩:=r2;exact isub_int ⟨.int _,H,I.tok _,⟨_,rfl⟩,q⟩
end
section
variable {X:Cx} {pos:Pos}
def Gr (c:TT) (tb:TS):TS:=λD σ H=>∃W:Nat->St->Hp->Prop,(∃m,W m σ H)/\∀m σ H,W m σ H->
 c σ H λb H1=>if b=true then ∃N:St->Hp->Prop,(∀σ' H',N σ' H'->∃m',m'<m/\W m' σ' H')/\tb {D with nx:=N,ct:=N,bk:=D.nx} σ H1 else D.nx σ H1
theorem x9 {c:Expr} {body:List Stmt} {tc:TT} {tb:TS} (hp:PassesOwn (model X.prog X.w) X.A X.env X.xe) (hc:PT X c tc) (hb:dY X body tb):PS X (.While c body [] pos) (Gr tc tb):=by
 intro pins s σ H D I h;obtain⟨W,⟨m0,w0⟩,turn⟩:=h;refine wpAny_While (codeAny_whileLoop (λn s'=>∃σ' H',Inv X pins σ' H' s'/\W n σ' H') ?_ m0 ⟨σ,H,I,w0⟩);rintro n s1 ⟨σ1,H1,I1,w1⟩;refine wpAny_passesOwn hp (aK (hc pins s1 σ1 H1 _ I1 (turn n σ1 H1 w1)) λb s2 ⟨H2,I2,q2⟩=>?_);cases b with
 |true=>
  obtain⟨N,hN,q2⟩:=q2;rw[if_pos rfl];refine wpAny_passesOwn hp (aK (hb pins s2 σ1 H2 _ I2 q2) λf s3 q3=>?_);cases f with
  |next=>
   obtain⟨σ3,H3,I3,n3⟩:=q3;obtain⟨m',hm,w3⟩:=hN σ3 H3 n3;exact⟨m',hm,σ3,H3,I3,w3⟩
  |cont=>
   obtain⟨σ3,H3,I3,n3⟩:=q3;obtain⟨m',hm,w3⟩:=hN σ3 H3 n3;exact⟨m',hm,σ3,H3,I3,w3⟩
  |brk=>exact q3
  |ret v=>exact q3
 |false=>
  rw[if_neg Bool.false_ne_true];exact wpAny_execs_nil ⟨σ1,H2,I2,q2⟩
end
structure It where
 go:Nat->Hp->Prop
 fF:Nat->Hp->V->Hp->Prop
 stop:Nat->Hp->Prop
def dU (X:Cx) (pins:List (Addr×Obj)) (H:Hp) (b:Addr):Prop:=
 H b=none/\b≠X.env.locals/\b∉X.fs/\(b∈X.ex\/X.cV.heap.objs.size<=b)/\(∀x c,X.env.cells.lookup x=some c->c≠b)/\∀p∈X.pn++pins,p.1≠b
theorem Inv.iJ {X:Cx} {pins:List (Addr×Obj)} {σ:St} {H H':Hp} {s:Shared} {b:Addr} (I:Inv X pins σ H s) (hb:s.heap.objs.size<=b) (hn:H' b=none):dU X pins H' b:=by
 refine⟨hn,Nat.ne_of_gt (Nat.lt_of_lt_of_le I.lt hb),I.NP hb,.inr (Nat.le_trans I.sz hb),λx c e z=>?_,λp hp z=>?_⟩
 ·obtain⟨v,q⟩:=I.cell x c e;exact absurd (Nat.lt_of_lt_of_le q.lt (by rw[z];exact hb)) (Nat.lt_irrefl _)
 ·exact absurd (Nat.lt_of_lt_of_le (Heap.lt_size (I.pin p hp).1) (by rw[z];exact hb)) (Nat.lt_irrefl _)
structure Turn (P:Program) (w:World) (K:PySem.W.Frag) (tg:Expr) (J:It) (fp:List Addr) (it:Addr) (tn:Nat->Heap->Prop):Prop where
 mem:it∈fp
 obj:∀i h,tn i h->∀b∈fp,∃o,h.get? b=some o/\∀v,o.data≠ .cell v
 keep:∀i h h',tn i h->(∀b∈fp,∀o,h.get? b=some o->h'.get? b=some o)->tn i h'
 item:∀(X:Cx),X.prog=P->X.w=w->X.K=K->X.calm=true->∀(i:Nat) (pins:List (Addr×Obj)) (s:Shared) (σ:St) (H:Hp) (E:Value->Shared->Prop),Inv X pins σ H s->(∀b∈fp,dU X pins H b)->tn i s.heap->J.go i H->
  wpAny (model P w) X.A (pyNext (.ref it)) (λr s1=>∃u,r=some u/\
   wpAny (model P w) X.A (letOwnedTupleGo tg (.ref it) u) (λ_ s2=>∃x H',Inv X pins σ H' s2/\RelV x u/\J.fF i H x H'/\tn (i+1) s2.heap/\∀b∈fp,H' b=none) E s1) E s
 done:∀(X:Cx),X.prog=P->X.w=w->X.K=K->X.calm=true->∀(i:Nat) (pins:List (Addr×Obj)) (s:Shared) (σ:St) (H:Hp) (E:Value->Shared->Prop),Inv X pins σ H s->(∀b∈fp,dU X pins H b)->tn i s.heap->J.stop i H->
  wpAny (model P w) X.A (pyNext (.ref it)) (λr s1=>r=none/\Inv X pins σ H s1) E s
 self:∀(A:Around) (i:Nat) (s:Shared) (Q:Value->Shared->Prop) (E:Value->Shared->Prop),tn i s.heap->Q (.ref it) s->wpAny (model P w) A (pyIter (.ref it)) Q E s
abbrev TI:=St->Hp->(It->Hp->Prop)->Prop
def uz (X:Cx) (pins:List (Addr×Obj)) (σ:St) (tg:Expr) (R:It->Hp->Prop) (itv:Value) (s2:Shared):Prop:=
 ∃(it:Addr) (fp:List Addr) (tn:Nat->Heap->Prop) (J:It) (H':Hp),itv= .ref it/\Inv X pins σ H' s2/\Turn X.prog X.w X.K tg J fp it tn/\tn 0 s2.heap/\(∀b∈fp,dU X pins H' b)/\R J H'
def PI (X:Cx) (tg iter:Expr) (wi:TI):Prop:=
 ∀(pins:List (Addr×Obj)) (s:Shared) (σ:St) (H:Hp) (R:It->Hp->Prop),Inv X pins σ H s->wi σ H R->
  wpAny (model X.prog X.w) X.A (eval iter X.env) (λv s1=>wpAny (model X.prog X.w) X.A (pyIter v) (uz X pins σ tg R) X.xe s1) X.xe s
theorem pz {M:Model} {A:Around} {E:Value->Shared->Prop} {s:Shared} {tg:Expr} {it:Addr} {u:Value} {o:Obj} {n:String} {vs:Array Value} {Q:Unit->Shared->Prop} (ho:s.heap.get? it=some o) (hc:o.cls= .type n) (hd:o.data= .fields vs)
 (hn:["enumerate","zip","dict_itemiterator","dict_reverseitemiterator","odict_iterator","itertools.zip_longest","itertools.pairwise"].contains n=false) (hQ:Q () s):wpAny M A (letOwnedTupleGo tg (.ref it) u) Q E s:=by
 unfold letOwnedTupleGo;cases tg<;>first
  |exact wpAny_pure hQ
  |(cases u<;>first
   |exact wpAny_pure hQ
   |(refine wpAny_bind (wpAny_load ho ?_)
     rw[hc,hd];show wpAny M A (if (["enumerate","zip","dict_itemiterator","dict_reverseitemiterator","odict_iterator","itertools.zip_longest","itertools.pairwise"].contains n&&vs[0]?==some (rawInt _))=true then _ else _) Q E s;rw[if_neg (by intro h;rw[hn,Bool.false_and] at h;cases h)];exact wpAny_pure hQ))
def fV (K:PySem.W.Frag) (a:Addr):It:=
 ⟨λi H=>∃xs x,ak K H a xs/\xs[i]?=some x,λi H x H'=>H'=H/\∀xs,ak K H a xs->xs[i]?=some x,λi H=>∃xs,ak K H a xs/\xs.length<=i⟩
def oA (K:PySem.W.Frag) (a:Addr):It:=
 ⟨λi H=>∃xs x,ba K H a xs/\xs[i]?=some x,λi H x H'=>H'=H/\∀xs,ba K H a xs->xs[i]?=some x,λi H=>∃xs,ba K H a xs/\xs.length<=i⟩
def fj (lo:Int) (n:Nat):It:=⟨λi _=>i<n,λi H x H'=>H'=H/\x= .int (lo+i),λi _=>n<=i⟩
theorem SW {P:Program} {w:World} {K:PySem.W.Frag} {tg:Expr} (a it:Addr):Turn P w K tg (fV K a) [it] it (λi h=>h.IsListIter it a i) where
 mem:=by simp
 obj:=λi h st b hb=>by
  have e:b=it:=by simpa using hb
  subst e;obtain⟨o,e,c,d⟩:=st;exact⟨o,e,λv z=>by rw[d] at z;cases z⟩
 keep:=λi h h' st k=>st.at λo e=>k it (by simp) o e
 item:=by
  intro X hP hw hK hc i pins s σ H E I hf st hg;subst hP hw hK;obtain⟨xs,x,hq,hx⟩:=hg;obtain⟨its,rv,p,hz⟩:=I.list hq;obtain⟨u,hu,ru⟩:=rv.get hx;obtain⟨f0,f1,f2,f3,f4,f5⟩:=hf it (by simp);refine wpAny_pyNext_list_item st p.isList (x:=u) (by simpa using hu) λh' st' sb=>?_;have I1:Inv X pins σ H {s with heap:=h'}:=I.turned (t':=s.toks) (λb o hb e=>(sb.2 b hb).trans e) f0 f1 f3 f4 f5;obtain⟨o,e,c,d⟩:=id st';exact⟨u,rfl,pz (s:={s with heap:=h'}) e c d (by decide) ⟨x,H,I1,ru,⟨rfl,λys hy=>by rw[I.wK hy hq];exact hx⟩,st',λb hb=>(hf b hb).1⟩⟩
 done:=by
  intro X hP hw hK hc i pins s σ H E I hf st hg;subst hP hw hK;obtain⟨xs,hq,hx⟩:=hg;obtain⟨its,rv,p,hz⟩:=I.list hq;obtain⟨f0,f1,f2,f3,f4,f5⟩:=hf it (by simp);have hl:=rv.length;exact wpAny_pyNext_list_end (I.ok.hd hc) st p.isList (by simp;omega) λh' eb=>⟨rfl,I.turned (t':=s.toks) (λb o hb e=>eb b o hb e) f0 f1 f3 f4 f5⟩
 self:=λ_ _ _ _ _ st h=>wpAny_pyIter_listiter st h
theorem Tb {P:Program} {w:World} {K:PySem.W.Frag} {tg:Expr} (a it:Addr):Turn P w K tg (oA K a) [it] it (λi h=>h.IsTupleIter it a i) where
 mem:=by simp
 obj:=λi h st b hb=>by
  have e:b=it:=by simpa using hb
  subst e;obtain⟨o,e,c,d⟩:=st;exact⟨o,e,λv z=>by rw[d] at z;cases z⟩
 keep:=λi h h' st k=>st.at λo e=>k it (by simp) o e
 item:=by
  intro X hP hw hK hc i pins s σ H E I hf st hg;subst hP hw hK;obtain⟨xs,x,hq,hx⟩:=hg;obtain⟨its,rv,p,hz⟩:=I.tuple hq;obtain⟨u,hu,ru⟩:=rv.get hx;obtain⟨f0,f1,f2,f3,f4,f5⟩:=hf it (by simp);refine wpAny_pyNext_tuple_item st (show s.heap.IsTuple a its.toArray from p) (x:=u) (by simpa using hu) λh' st' sb=>?_;have I1:Inv X pins σ H {s with heap:=h'}:=I.turned (t':=s.toks) (λb o hb e=>(sb.2 b hb).trans e) f0 f1 f3 f4 f5;obtain⟨o,e,c,d⟩:=id st';exact⟨u,rfl,pz (s:={s with heap:=h'}) e c d (by decide) ⟨x,H,I1,ru,⟨rfl,λys hy=>by rw[I.SU hy hq];exact hx⟩,st',λb hb=>(hf b hb).1⟩⟩
 done:=by
  intro X hP hw hK hc i pins s σ H E I hf st hg;subst hP hw hK;obtain⟨xs,hq,hx⟩:=hg;obtain⟨its,rv,p,hz⟩:=I.tuple hq;obtain⟨f0,f1,f2,f3,f4,f5⟩:=hf it (by simp);have hl:=rv.length;exact wpAny_pyNext_tuple_end (I.ok.hd hc) st (show s.heap.IsTuple a its.toArray from p) (by simp;omega) λh' eb=>⟨rfl,I.turned (t':=s.toks) (λb o hb e=>eb b o hb e) f0 f1 f3 f4 f5⟩
 self:=λ_ _ _ _ _ st h=>wpAny_pyIter_tupleiter st h
theorem SY {P:Program} {w:World} {K:PySem.W.Frag} {tg:Expr} (it:Addr) (lo:Int) (n:Nat):Turn P w K tg (fj lo n) [it] it (λi h=>IsRangeIter h it (lo+(i:Nat)*1) ((n:Int)-(i:Nat)) 1) where
 mem:=by simp
 obj:=λi h st b hb=>by
  have e:b=it:=by simpa using hb
  subst e;exact⟨_,st,λv z=>by
   have z':Data.fields _=Data.cell v:=z;cases z'⟩
 keep:=λi h h' st k=>k it (by simp) _ st
 item:=by
  intro X hP hw hK hc i pins s σ H E I hf st hg;subst hP hw hK;obtain⟨f0,f1,f2,f3,f4,f5⟩:=hf it (by simp);have W:=Walks.range (prog:=X.prog) (w:=X.w) (I.ok.hd hc) it lo 1 n;refine W.item i s _ _ hg st λv h' tk hv st' kk=>?_;obtain⟨t,rfl⟩:=hv;have I1:Inv X pins σ H {s with heap:=h',toks:=tk}:=I.turned (λb o hb e=>kk b o (by simpa using hb) e) f0 f1 f3 f4 f5;refine⟨_,rfl,pz (s:={s with heap:=h',toks:=tk}) (n:="range_iterator") st' rfl rfl (by decide) ⟨.int (lo+i),H,I1,⟨t,?_⟩,⟨rfl,rfl⟩,st',λb hb=>(hf b hb).1⟩⟩;rw[Int.mul_one]
 done:=by
  intro X hP hw hK hc i pins s σ H E I hf st hg;subst hP hw hK;obtain⟨f0,f1,f2,f3,f4,f5⟩:=hf it (by simp);exact wpAny_pyNext_range_end (I.ok.hd hc) st (by have:n<=i:=hg;omega) λh' eb=>⟨rfl,I.turned (t':=s.toks) (λb o hb e=>eb b o hb e) f0 f1 f3 f4 f5⟩
 self:=λ_ _ _ _ _ st h=>wpAny_pyIter_rangeiter st h
end L2
namespace L2
open PySem PySem.Spec PyProof.Rows
section
variable {X:Cx} {tg:Expr}
def Lk (K:PySem.W.Frag) (tl:TE):TI:=λσ H R=>tl σ H λx H1=>∃a,x= .ref a/\(∃xs,ak K H1 a xs)/\R (fV K a) H1
def Lp (K:PySem.W.Frag) (tl:TE):TI:=λσ H R=>tl σ H λx H1=>∃a,x= .ref a/\(∃xs,ba K H1 a xs)/\R (oA K a) H1
theorem dQ {l:Expr} {tl:TE} (hl:PE X l tl):PI X tg l (Lk X.K tl):=by
 intro pins s σ H R I h;refine aK (hl pins s σ H _ I h) λv s1 ⟨x,H1,I1,r1,q1⟩=>?_;obtain⟨a,e,⟨xs,hq⟩,q⟩:=q1;subst e;cases r1;obtain⟨its,rv,p,hz⟩:=I1.list hq;refine wpAny_pyIter_list p.isList ?_;refine⟨s1.heap.objs.size,[s1.heap.objs.size],_,_,H1,rfl,I1.kept (t':=s1.toks) λb o e=>Heap.get?_push_of_some _ e,SW a _,⟨_,Heap.get?_push_size _ rfl,rfl,rfl⟩,λb hb=>?_,q⟩;have e:b=s1.heap.objs.size:=by simpa using hb
 subst e;exact I1.iJ (Nat.le_refl _) (I1.aw.fresh (Nat.le_refl _))
theorem E9 {l:Expr} {tl:TE} (hl:PE X l tl):PI X tg l (Lp X.K tl):=by
 intro pins s σ H R I h;refine aK (hl pins s σ H _ I h) λv s1 ⟨x,H1,I1,r1,q1⟩=>?_;obtain⟨a,e,⟨xs,hq⟩,q⟩:=q1;subst e;cases r1;obtain⟨its,rv,p,hz⟩:=I1.tuple hq;refine wpAny_pyIter_tuple (show s1.heap.IsTuple a its.toArray from p) ?_;refine⟨s1.heap.objs.size,[s1.heap.objs.size],_,_,H1,rfl,I1.kept (t':=s1.toks) λb o e=>Heap.get?_push_of_some _ e,Tb a _,⟨_,Heap.get?_push_size _ rfl,rfl,rfl⟩,λb hb=>?_,q⟩;have e:b=s1.heap.objs.size:=by simpa using hb
 subst e;exact I1.iJ (Nat.le_refl _) (I1.aw.fresh (Nat.le_refl _))
theorem Fq {pins:List (Addr×Obj)} {σ:St} {H:Hp} {s:Shared} {R:It->Hp->Prop} {E:Value->Shared->Prop} {lo hi:Int} {t u v:Tok} {tk:Nat} (I:Inv X pins σ H s) (h1: -(2^62)<=lo) (h2:lo<2^62) (h3: -(2^62)<=hi) (h4:hi<2^62)
 (q:R (fj lo (hi-lo).toNat) H):wpAny (model X.prog X.w) X.A (pyIter (.ref s.heap.objs.size)) (uz X pins σ tg R) E {s with heap:=s.heap.push {cls:= .type "range",data:= .fields #[.int lo t,.int hi u,.int 1 v]},toks:=tk}:=by
 refine wpAny_pyIter_range (IsRange.new ..) (small_one h1 h2 h3 h4) ?_;have I1:Inv X pins σ H {s with heap:=s.heap.push {cls:= .type "range",data:= .fields #[.int lo t,.int hi u,.int 1 v]},toks:=tk}:=I.kept λb o e=>Heap.get?_push_of_some _ e;refine⟨(s.heap.push {cls:= .type "range",data:= .fields #[.int lo t,.int hi u,.int 1 v]}).objs.size,[(s.heap.push {cls:= .type "range",data:= .fields #[.int lo t,.int hi u,.int 1 v]}).objs.size],_,_,H,rfl,
  I1.kept (t':=tk) λb o e=>Heap.get?_push_of_some _ e,SY _ lo (hi-lo).toNat,?_,λb hb=>?_,q⟩
 ·have e1:lo+((0:Nat):Int)*1=lo:=by simp
  have e2:(((hi-lo).toNat:Nat):Int)-((0:Nat):Int)=Builtin.Range.rangeSize lo hi 1:=by rw[rangeSize_one];split<;>omega
  show IsRangeIter _ _ (lo+((0:Nat):Int)*1) ((((hi-lo).toNat:Nat):Int)-((0:Nat):Int)) 1;rw[e1,e2];exact Heap.get?_push_size _ rfl
 ·have e:b=(s.heap.push {cls:= .type "range",data:= .fields #[.int lo t,.int hi u,.int 1 v]}).objs.size:=by simpa using hb
  subst e;exact I1.iJ (Nat.le_refl _) (I1.aw.fresh (Nat.le_refl _))
def Lm (ta:TA):TI:=λσ H R=>ta σ H λvs H1=>∃j:Int,vs=[.int j]/\ -(2^62)<=j/\j<2^62/\R (fj 0 j.toNat) H1
def Ln (ta:TA):TI:=λσ H R=>ta σ H λvs H1=>∃i j:Int,vs=[.int i,.int j]/\(-(2^62)<=i/\i<2^62/\ -(2^62)<=j/\j<2^62)/\R (fj i (j-i).toNat) H1
theorem pO {a:Expr} {ta:TA} {p pos:Pos} (hg:Gl X "range") (hm:X.mg "range"=none) (ha:PA X [a] ta) (hs:starEach [a] X.env=[(false,eval a X.env)]:=by rfl):PI X tg (.Call (.Name "range" p) [a] [] pos) (Lm ta):=by
 intro pins s σ H R I h;refine Call_ (kY I hg hm boot_range (PyProof.Rows.callWith_type1 (aK (ha pos pins s σ H _ I h) λus s1 ⟨vs,H1,I1,r1,q1⟩=>?_) hs rfl));obtain⟨j,e,q1,q2,q⟩:=q1;subst e;cases r1 with
 |cons r rr=>
  cases rr;obtain⟨t,rfl⟩:=r;exact call_range_1 (Fq I1 (by omega) (by omega) q1 q2 (by simpa using q))
theorem Pb {a b:Expr} {ta:TA} {p pos:Pos} (hg:Gl X "range") (hm:X.mg "range"=none) (ha:PA X [a,b] ta) (hs:starEach [a,b] X.env=[(false,eval a X.env),(false,eval b X.env)]:=by rfl) (hs2:starEach [b] X.env=[(false,eval b X.env)]:=by rfl):
 PI X tg (.Call (.Name "range" p) [a,b] [] pos) (Ln ta):=by
 intro pins s σ H R I h;refine Call_ (kY I hg hm boot_range (PyProof.Rows.callWith_type1 (aK (ha pos pins s σ H _ I h) λus s1 ⟨vs,H1,I1,r1,q1⟩=>?_) (by rw[hs,hs2]) (by rw[hs2];rfl)));obtain⟨i,j,e,⟨q1,q2,q3,q4⟩,q⟩:=q1;subst e;cases r1 with
 |cons r rr=>
  cases rr with
  |cons r' rr=>
   cases rr;obtain⟨t,rfl⟩:=r;obtain⟨t',rfl⟩:=r';exact call_range_2 (Fq I1 q1 q2 q3 q4 q)
def Sx (wi:TI) (g:TG) (tb:TS):TS:=λD σ H=>wi σ H λJ H1=>∃W:Nat->Nat->St->Hp->Prop,(∃m,W 0 m σ H1)/\∀i m σ H,W i m σ H->
 (J.stop i H/\D.nx σ H)\/(J.go i H/\∃N:St->Hp->Prop,(∀σ' H',N σ' H'->∃m',m'<m/\W (i+1) m' σ' H')/\∀x H',J.fF i H x H'->g x σ H' λσ2 H2=>tb {D with nx:=N,ct:=N,bk:=D.nx} σ2 H2)
def nM (fp:List Addr) (h:Heap):List (Addr×Obj):=fp.filterMap λb=>(h.get? b).map λo=>(b,o)
theorem rQ {fp:List Addr} {h:Heap} {b:Addr} {o:Obj} (hb:b∈fp) (e:h.get? b=some o):(b,o)∈nM fp h:=List.mem_filterMap.mpr ⟨b,hb,by rw[e];rfl⟩
theorem NV {fp:List Addr} {h:Heap} {p:Addr×Obj} (hp:p∈nM fp h):p.1∈fp/\h.get? p.1=some p.2:=by
 obtain⟨b,hb,e⟩:=List.mem_filterMap.mp hp;cases q:h.get? b with
 |none=>rw[q] at e;cases e
 |some o=>
  rw[q] at e;have e':(b,o)=p:=Option.some.inj e;subst e';exact⟨hb,q⟩
theorem Inv.pinned {pins:List (Addr×Obj)} {σ:St} {H:Hp} {s:Shared} {fp:List Addr} (I:Inv X pins σ H s) (hf:∀b∈fp,dU X pins H b) (ho:∀b∈fp,∃o,s.heap.get? b=some o/\∀v,o.data≠ .cell v):Inv X (pins++nM fp s.heap) σ H s:=
 I.Ff λp hp=>(List.mem_append.mp hp).elim (λz=>I.pin p (List.mem_append_right _ z)) λz=>by
  obtain⟨hb,e⟩:=NV z;obtain⟨f0,f1,f2,_⟩:=hf p.1 hb;obtain⟨o,e',d⟩:=ho p.1 hb;rw[e] at e';cases e';exact⟨e,f0,f1,f2,d⟩
theorem Inv.qb {pins pl:List (Addr×Obj)} {σ:St} {H:Hp} {s:Shared} (I:Inv X (pins++pl) σ H s):Inv X pins σ H s:=I.Ff λp hp=>I.pin p (List.mem_append_right _ (List.mem_append_left _ hp))
theorem fD {iter:Expr} {body:List Stmt} {wi:TI} {g:TG} {tb:TS} {pos:Pos} (hp:PassesOwn (model X.prog X.w) X.A X.env X.xe) (hc:X.calm=true) (hi:PI X tg iter wi) (hg:PG X tg g) (hb:dY X body tb)
 (hs:∀x,foldedSetIterable iter X.env x=pure x:=by intro _;rfl):PS X (.For tg iter body [] pos) (Sx wi g tb):=by
 intro pins s σ H D I h;refine wpAny_For (aK (hi pins s σ H _ I h) λv s1 h1=>aK h1 λitv s2 h2=>?_) hs;obtain⟨it,fp,tn,J,H2,e,I2,T,st2,f2,W,⟨m0,w0⟩,turn⟩:=h2;subst e;have stat:∀{H':Hp},(∀b∈fp,H' b=none)->∀b∈fp,dU X pins H' b:=λhn b hb=>⟨hn b hb,(f2 b hb).2⟩
 refine codeAny_forLoop_any (λn s'=>∃i σ' H',Inv X pins σ' H' s'/\tn i s'.heap/\(∀b∈fp,H' b=none)/\W i n σ' H') ?_ m0 ⟨0,σ,H2,I2,st2,λb hb=>(f2 b hb).1,w0⟩;rintro n s3 ⟨i,σ3,H3,I3,st3,fr3,w3⟩;rcases turn i n σ3 H3 w3 with ⟨stop,qn⟩|⟨go,N,hN,step⟩
 ·refine wpAny_passesOwn hp (aK (T.done X rfl rfl rfl hc i pins s3 σ3 H3 X.xe I3 (stat fr3) st3 stop) λr s4 ⟨hr,I4⟩=>?_);subst hr;exact wpAny_execs_nil ⟨σ3,H3,I4,qn⟩
 ·refine wpAny_passesOwn hp (aK (T.item X rfl rfl rfl hc i pins s3 σ3 H3 X.xe I3 (stat fr3) st3 go) λr s4 ⟨u,hr,h4⟩=>?_);subst hr;refine wpAny_passesOwn hp (aK h4 λ_ s5 ⟨x,H5,I5,r5,y5,st5,fr5⟩=>?_);have I5':=I5.pinned (stat fr5) (T.obj _ _ st5);refine wpAny_passesOwn hp (aK (hg _ s5 σ3 H5 x u _ I5' r5 (step x H5 y5)) λ_ s6 ⟨σ6,H6,I6,q6⟩=>?_);refine wpAny_passesOwn hp (aK (hb _ s6 σ6 H6 _ I6 q6) λf s7 q7=>?_);have again:∀{σ7:St} {H7:Hp},Inv X (pins++nM fp s5.heap) σ7 H7 s7->N σ7 H7->∃m,m<n/\∃i σ' H',Inv X pins σ' H' s7/\tn i s7.heap/\(∀b∈fp,H' b=none)/\W i m σ' H':=λ{σ7 H7} I7 n7=>by
   obtain⟨m',hm,w7⟩:=hN σ7 H7 n7;refine⟨m',hm,i+1,σ7,H7,I7.qb,T.keep _ _ _ st5 λb hb o e=>(I7.pin (b,o) (List.mem_append_right _ (List.mem_append_right _ (rQ hb e)))).1,λb hb=>?_,w7⟩;obtain⟨o,e,d⟩:=T.obj _ _ st5 b hb;exact(I7.pin (b,o) (List.mem_append_right _ (List.mem_append_right _ (rQ hb e)))).2.1
  cases f with
  |next=>obtain⟨σ7,H7,I7,n7⟩:=q7;exact again I7 n7
  |cont=>obtain⟨σ7,H7,I7,n7⟩:=q7;exact again I7 n7
  |brk=>obtain⟨σ7,H7,I7,q7⟩:=q7;exact⟨σ7,H7,I7.qb,q7⟩
  |ret v=>obtain⟨x7,σ7,H7,I7,r7,q7⟩:=q7;exact⟨x7,σ7,H7,I7.qb,r7,q7⟩
end
theorem kG {K:PySem.W.Frag} {a:Addr} {xs:List V} {g:TG} {tb:TS} {D:Ends} {σ:St} {H:Hp} (Pv:Nat->St->Hp->Prop) (h0:Pv 0 σ H) (hl:∀i σ H,i<=xs.length->Pv i σ H->ak K H a xs)
 (hs:∀i x σ H,xs[i]?=some x->Pv i σ H->g x σ H λσ2 H2=>tb {D with nx:=Pv (i+1),ct:=Pv (i+1),bk:=D.nx} σ2 H2) (hd:∀σ H,Pv xs.length σ H->D.nx σ H):
 ∃W:Nat->Nat->St->Hp->Prop,(∃m,W 0 m σ H)/\∀i m σ H,W i m σ H->
  ((fV K a).stop i H/\D.nx σ H)\/((fV K a).go i H/\∃N:St->Hp->Prop,(∀σ' H',N σ' H'->∃m',m'<m/\W (i+1) m' σ' H')/\∀x H',(fV K a).fF i H x H'->g x σ H' λσ2 H2=>tb {D with nx:=N,ct:=N,bk:=D.nx} σ2 H2):=by
 refine⟨λi m σ H=>m=xs.length-i/\i<=xs.length/\Pv i σ H,⟨xs.length,by simp,Nat.zero_le _,h0⟩,?_⟩;rintro i m σ H ⟨rfl,hi,p⟩;have q:=hl i σ H hi p;by_cases hlt:i<xs.length
 ·refine .inr ⟨⟨xs,xs[i],q,by simp[hlt]⟩,Pv (i+1),λσ' H' p'=>⟨xs.length-(i+1),by omega,rfl,hlt,p'⟩,λx H' y=>?_⟩;obtain⟨e,y⟩:=y;subst e;exact hs i x σ _ (y xs q) p
 ·have e:i=xs.length:=by omega
  subst e;exact .inl ⟨⟨xs,q,Nat.le_refl _⟩,hd σ H p⟩
theorem CP {lo:Int} {n:Nat} {g:TG} {tb:TS} {D:Ends} {σ:St} {H:Hp} (Pv:Nat->St->Hp->Prop) (h0:Pv 0 σ H)
 (hs:∀i σ H,i<n->Pv i σ H->g (.int (lo+i)) σ H λσ2 H2=>tb {D with nx:=Pv (i+1),ct:=Pv (i+1),bk:=D.nx} σ2 H2) (hd:∀σ H,Pv n σ H->D.nx σ H):
 ∃W:Nat->Nat->St->Hp->Prop,(∃m,W 0 m σ H)/\∀i m σ H,W i m σ H->
  ((fj lo n).stop i H/\D.nx σ H)\/((fj lo n).go i H/\∃N:St->Hp->Prop,(∀σ' H',N σ' H'->∃m',m'<m/\W (i+1) m' σ' H')/\∀x H',(fj lo n).fF i H x H'->g x σ H' λσ2 H2=>tb {D with nx:=N,ct:=N,bk:=D.nx} σ2 H2):=by
 refine⟨λi m σ H=>m=n-i/\i<=n/\Pv i σ H,⟨n,by simp,Nat.zero_le _,h0⟩,?_⟩;rintro i m σ H ⟨rfl,hi,p⟩;by_cases hlt:i<n
 ·refine .inr ⟨hlt,Pv (i+1),λσ' H' p'=>⟨n-(i+1),by omega,rfl,hlt,p'⟩,λx H' y=>?_⟩;obtain⟨e,y⟩:=y;subst e y;exact hs i σ _ hlt p
 ·have e:i=n:=by omega
  subst e;exact .inl ⟨Nat.le_refl _,hd σ H p⟩
end L2
namespace L2
open PySem PySem.Spec PyProof.Rows
abbrev R2:=V->V->Hp->VK->Prop
def cq (X:Cx) (f:Value->Value->Sem Value) (r:R2):Prop:=
 ∀(pins:List (Addr×Obj)) (s:Shared) (σ:St) (H:Hp) (x y:V) (v u:Value) (Q:VK),Inv X pins σ H s->RelV x v->RelV y u->r x y H Q->
  wpAny (model X.prog X.w) X.A (f v u) (EP X pins σ Q) X.xe s
def uB (X:Cx) (f:Value->Sem Value) (r:V->Hp->VK->Prop):Prop:=
 ∀(pins:List (Addr×Obj)) (s:Shared) (σ:St) (H:Hp) (x:V) (v:Value) (Q:VK),Inv X pins σ H s->RelV x v->r x H Q->
  wpAny (model X.prog X.w) X.A (f v) (EP X pins σ Q) X.xe s
def cR (X:Cx) (f:Value) (r:List V->Hp->VK->Prop):Prop:=
 ∀(pins:List (Addr×Obj)) (s:Shared) (σ:St) (H:Hp) (xs:List V) (us:List Value) (Q:VK),Inv X pins σ H s->Vals xs us->r xs H Q->
  wpAny (model X.prog X.w) X.A (call f us) (EP X pins σ Q) X.xe s
def cW (r:R2) (ta tb:TE):TE:=λσ H Q=>ta σ H λx H1=>tb σ H1 λy H2=>r x y H2 Q
def SI (r:V->Hp->VK->Prop) (ta:TE):TE:=λσ H Q=>ta σ H λx H1=>r x H1 Q
def rI (C:Int->Int->Prop) (g:Int->Int->V):R2:=λx y H Q=>∃i j,x= .int i/\y= .int j/\C i j/\Q (g i j) H
def dI (g:Int->Int->V):R2:=λx y H Q=>∃i j,x= .int i/\y= .int j/\Q (g i j) H
def rU (g:Int->V):V->Hp->VK->Prop:=λx H Q=>∃i,x= .int i/\Q (g i) H
section
variable {X:Cx} {a b c:Expr} {ta tb tc:TE} {pos:Pos}
theorem u5 (ha:PE X a ta) (hb:PE X b tb) {pins:List (Addr×Obj)} {s:Shared} {σ:St} {H:Hp} {R:V->V->Hp->Prop} (I:Inv X pins σ H s)
 (h:ta σ H λx H1=>tb σ H1 λy H2=>R x y H2) {Q:Value->Shared->Prop} {f:Value->Value->Sem Value}
 (hf:∀v u s2 x y H2,Inv X pins σ H2 s2->RelV x v->RelV y u->R x y H2->wpAny (model X.prog X.w) X.A (f v u) Q X.xe s2):
 wpAny (model X.prog X.w) X.A (eval a X.env) (λv s₁=>wpAny (model X.prog X.w) X.A (eval b X.env) (λu s₂=>wpAny (model X.prog X.w) X.A (f v u) Q X.xe s₂) X.xe s₁) X.xe s:=by
 refine aK (ha pins s σ H _ I h) λv s1 ⟨x,H1,I1,r1,q1⟩=>?_;refine aK (hb pins s1 σ H1 _ I1 q1) λu s2 ⟨y,H2,I2,r2,q2⟩=>?_;exact hf v u s2 x y H2 I2 r1 r2 q2
theorem bt {op:Operator} {r:R2} (ho:cq X (binaryOp op) r) (ha:PE X a ta) (hb:PE X b tb):PE X (.BinOp a op b pos) (cW r ta tb):=by
 intro pins s σ H Q I h;exact wpAny_BinOp (u5 ha hb I h λv u s2 x y H2 I2 rx ry q=>ho pins s2 σ H2 x y v u Q I2 rx ry q)
theorem xX {op:UnaryOp} {r:V->Hp->VK->Prop} (ho:uB X (unaryOp op) r) (ha:PE X a ta):PE X (.UnaryOp op a pos) (SI r ta):=by
 intro pins s σ H Q I h;exact UnaryOp_ (aK (ha pins s σ H _ I h) λv s1 ⟨x,H1,I1,r1,q1⟩=>ho pins s1 σ H1 x v Q I1 r1 q1)
theorem EK {f:Value->Value->Sem Value} {C:Int->Int->Prop} {g:Int->Int->Int}
 (rule:∀(i j:Int) (t u:Tok) (s:Shared) (Q:Value->Shared->Prop) (E:Value->Shared->Prop),C i j->Q (.int (g i j) s.toks) {s with toks:=s.toks+1}->wpAny (model X.prog X.w) X.A (f (.int i t) (.int j u)) Q E s):
 cq X f (rI C λi j=> .int (g i j)):=by
 intro pins s σ H x y v u Q I rx ry h;obtain⟨i,j,rfl,rfl,hc,q⟩:=h;obtain⟨t,rfl⟩:=rx;obtain⟨t',rfl⟩:=ry;exact rule i j t t' s _ _ hc ⟨.int (g i j),H,I.tok _,⟨_,rfl⟩,q⟩
theorem sR {f:Value->Value->Sem Value} {g:Int->Int->Int}
 (rule:∀(i j:Int) (t u:Tok) (s:Shared) (Q:Value->Shared->Prop) (E:Value->Shared->Prop),Q (.int (g i j) s.toks) {s with toks:=s.toks+1}->wpAny (model X.prog X.w) X.A (f (.int i t) (.int j u)) Q E s):
 cq X f (dI λi j=> .int (g i j)):=by
 intro pins s σ H x y v u Q I rx ry h;obtain⟨i,j,rfl,rfl,q⟩:=h;obtain⟨t,rfl⟩:=rx;obtain⟨t',rfl⟩:=ry;exact rule i j t t' s _ _ ⟨.int (g i j),H,I.tok _,⟨_,rfl⟩,q⟩
theorem sQ {f:Value->Value->Sem Value} {g:Int->Int->Bool}
 (rule:∀(i j:Int) (t u:Tok) (s:Shared) (Q:Value->Shared->Prop) (E:Value->Shared->Prop),Q (.bool (g i j)) s->wpAny (model X.prog X.w) X.A (f (.int i t) (.int j u)) Q E s):
 cq X f (dI λi j=> .bl (g i j)):=by
 intro pins s σ H x y v u Q I rx ry h;obtain⟨i,j,rfl,rfl,q⟩:=h;obtain⟨t,rfl⟩:=rx;obtain⟨t',rfl⟩:=ry;exact rule i j t t' s _ _ ⟨.bl (g i j),H,I,rfl,q⟩
def ow (i j:Int):Prop:=0<=j/\j<=1000000/\i.natAbs<2^64
theorem Td (k:Nat):(0:Int)<=2^k:=by
 rw[two_pow_cast];exact Int.natCast_nonneg _
theorem eO:cq X (binaryOp .Add) (dI λi j=> .int (i+j)):=sR λ_ _ _ _ _ _ _ q=>add_int q
theorem pL:cq X (binaryOp .Sub) (dI λi j=> .int (i-j)):=sR λ_ _ _ _ _ _ _ q=>sub_int q
theorem nB:cq X (binaryOp .LShift) (rI ow λi j=> .int (i*2^j.toNat)):=EK λ_ _ _ _ _ _ _ hc q=>lshift_int_small hc.1 hc.2.1 hc.2.2 q
theorem OV:cq X (binaryOp .RShift) (rI (λ_ j=>0<=j) λi j=> .int (i / 2^j.toNat)):=EK λi j _ _ _ _ _ hc q=>
 rshift_int hc (by rw[Int.fdiv_eq_ediv_of_nonneg i (Td _)];exact q)
theorem EL:cq X (binaryOp .BitAnd) (dI λi j=> .int (Builtin.bitAnd i j)):=sR λ_ _ _ _ _ _ _ q=>and_int q
theorem EO:cq X (binaryOp .BitOr) (dI λi j=> .int (Builtin.bitOr i j)):=sR λ_ _ _ _ _ _ _ q=>or_int q
theorem Tp {f:Value->Sem Value} {g:Int->Int}
 (rule:∀(i:Int) (t:Tok) (s:Shared) (Q:Value->Shared->Prop) (E:Value->Shared->Prop),Q (.int (g i) s.toks) {s with toks:=s.toks+1}->wpAny (model X.prog X.w) X.A (f (.int i t)) Q E s):
 uB X f (rU λi=> .int (g i)):=by
 intro pins s σ H x v Q I rx h;obtain⟨i,rfl,q⟩:=h;obtain⟨t,rfl⟩:=rx;exact rule i t s _ _ ⟨.int (g i),H,I.tok _,⟨_,rfl⟩,q⟩
theorem Ak:uB X (unaryOp .USub) (rU λi=> .int (-i)):=Tp λ_ _ _ _ _ q=>neg_int q
end
def QT:V->V->Bool
 | .aI,.aI=>true| .aI,.int _=>true| .int _,.aI=>true| .aI,.bl _=>true| .bl _,.aI=>true| .aI,.str _=>true| .str _,.aI=>true
 | .int _,.int _=>true| .bl _,.bl _=>true| .str _,.str _=>true| .eS _,.eS _=>true
 | .int _,.str _=>true| .str _,.int _=>true| .bl _,.str _=>true| .str _,.bl _=>true
 |_,_=>false
def Pt:R2:=λx y H Q=>QT x y=true/\Q (.bl (decide (x=y))) H
theorem Jq {i j:Int}:decide (V.int i=V.int j)=(i==j):=by
 rw[Bool.eq_iff_iff];simp
theorem Jo {i j:Bool}:decide (V.bl i=V.bl j)=(i==j):=by
 rw[Bool.eq_iff_iff];simp
theorem Jr {i j:Str}:decide (V.str i=V.str j)=(i==j):=by
 rw[Bool.eq_iff_iff];simp
theorem Jp {i j:Array UInt8}:decide (V.eS i=V.eS j)=(i.toList==j.toList):=by
 rw[Bool.eq_iff_iff];cases i;cases j;simp
section
variable {X:Cx} {a b c:Expr} {ta tb tc:TE} {pos:Pos}
theorem dN {pins:List (Addr×Obj)} {σ:St} {H:Hp} {s:Shared} {Q:VK} {k k':Bool} (I:Inv X pins σ H s) (q:Q (.bl k) H) (e:k=k'):EP X pins σ Q (.bool k') s:=by
 subst e;exact⟨.bl k,H,I,rfl,q⟩
theorem cH:cq X (compareOp .Eq) Pt:=by
 intro pins s σ H x y v u Q I rx ry h;obtain⟨hs,q⟩:=h;cases x with
 |aI=>
  cases rx;cases y with
  |aI=>cases ry;exact PySem.EqNone.eq_none_none (dN I q (by simp))
  |bl j=>cases ry;exact PySem.EqNone.eq_none_bool (dN I q (by simp))
  |int j=>obtain⟨t',rfl⟩:=ry;exact PySem.EqNone.eq_none_int (dN I q (by simp))
  |str j=>obtain⟨t',rfl⟩:=ry;exact PySem.EqNone.eq_none_str (dN I q (by simp))
  |_=>exact absurd (show false=true from hs) Bool.false_ne_true
 |bl i=>
  cases rx;cases y with
  |aI=>cases ry;exact PySem.EqNone.eq_bool_none (dN I q (by simp))
  |bl j=>cases ry;exact eq_bool (dN I q Jo)
  |str j=>obtain⟨t',rfl⟩:=ry;exact PySem.EqMixed.eq_bool_str (dN I q (by simp))
  |_=>exact absurd (show false=true from hs) Bool.false_ne_true
 |int i=>
  obtain⟨t,rfl⟩:=rx;cases y with
  |aI=>cases ry;exact PySem.EqNone.eq_int_none (dN I q (by simp))
  |int j=>obtain⟨t',rfl⟩:=ry;exact eq_int (dN I q Jq)
  |str j=>obtain⟨t',rfl⟩:=ry;exact PySem.EqMixed.eq_int_str (dN I q (by simp))
  |_=>exact absurd (show false=true from hs) Bool.false_ne_true
 |str i=>
  obtain⟨t,rfl⟩:=rx;cases y with
  |aI=>cases ry;exact PySem.EqNone.eq_str_none (dN I q (by simp))
  |bl j=>cases ry;exact PySem.EqMixed.eq_str_bool (dN I q (by simp))
  |int j=>obtain⟨t',rfl⟩:=ry;exact PySem.EqMixed.eq_str_int (dN I q (by simp))
  |str j=>obtain⟨t',rfl⟩:=ry;exact eq_str (dN I q Jr)
  |_=>exact absurd (show false=true from hs) Bool.false_ne_true
 |eS i=>
  obtain⟨t,rfl⟩:=rx;cases y with
  |eS j=>obtain⟨t',rfl⟩:=ry;exact PySem.W.eq_bytes (dN I q Jp)
  |_=>exact absurd (show false=true from hs) Bool.false_ne_true
 |_=>cases y<;>exact absurd (show false=true from hs) Bool.false_ne_true
theorem ie:cq X (compareOp .Lt) (dI λi j=> .bl (decide (i<j))):=sQ λ_ _ _ _ _ _ _ q=>lt_int q
theorem OU:cq X (compareOp .LtE) (dI λi j=> .bl (decide (i<=j))):=sQ λ_ _ _ _ _ _ _ q=>le_int q
theorem nA:cq X (compareOp .Gt) (dI λi j=> .bl (decide (j<i))):=sQ λ_ _ _ _ _ _ _ q=>gt_int q
theorem xP:cq X (compareOp .GtE) (dI λi j=> .bl (decide (j<=i))):=sQ λ_ _ _ _ _ _ _ q=>ge_int q
theorem gj:cq X (compareOp .Is) (λx y H Q=>y= .aI/\Q (.bl (decide (x= .aI))) H):=by
 intro pins s σ H x y v u Q I rx ry h;obtain⟨rfl,q⟩:=h;cases ry;refine is_none_gen (dN I q ?_);cases x<;>first
  |(cases rx;rfl)
  |(obtain⟨t,rfl⟩:=rx;rfl)
theorem xQ:cq X (compareOp .IsNot) (λx y H Q=>y= .aI/\Q (.bl (!decide (x= .aI))) H):=by
 intro pins s σ H x y v u Q I rx ry h;obtain⟨rfl,q⟩:=h;cases ry;refine isnot_none_gen (dN I q ?_);cases x<;>first
  |(cases rx;rfl)
  |(obtain⟨t,rfl⟩:=rx;rfl)
theorem aV (b:Expr) {op:CmpOp} (h:op≠ .In:=by decide) (h2:op≠ .NotIn:=by decide):behindInMarks op b=false:=by
 have e1:(op==CmpOp.In)=false:=by cases op<;>first|rfl|exact absurd rfl h
 have e2:(op==CmpOp.NotIn)=false:=by cases op<;>first|rfl|exact absurd rfl h2
 cases b<;>simp[behindInMarks,e1,e2]
theorem gA {op:CmpOp} {r:R2} (ho:cq X (compareOp op) r) (ha:PE X a ta) (hb:PE X b tb) (hm:behindInMarks op b=false):PE X (.Compare a [op] [b] pos) (cW r ta tb):=by
 intro pins s σ H Q I h;exact wpAny_Compare1 (u5 ha hb I h λv u s2 x y H2 I2 rx ry q=>ho pins s2 σ H2 x y v u Q I2 rx ry q) hm
def oq (t:TE):TT:=λσ H Q=>t σ H λx H'=>∃k,x= .bl k/\Q k H'
theorem aX {op:CmpOp} {r:R2} (ho:cq X (compareOp op) r) (ha:PE X a ta) (hb:PE X b tb) (hm:behindInMarks op b=false):PT X (.Compare a [op] [b] pos) (oq (cW r ta tb)):=by
 intro pins s σ H Q I h;refine wpAny_isTrue_Compare1 (aK (ha pins s σ H _ I h) λv s1 ⟨x,H1,I1,r1,q1⟩=>aK (hb pins s1 σ H1 _ I1 q1) λu s2 ⟨y,H2,I2,r2,q2⟩=>
  aK (ho pins s2 σ H2 x y v u _ I2 r1 r2 q2) λc s3 ⟨z,H3,I3,r3,k,e,q3⟩=>?_) hm
 subst e;cases r3;exact wpAny_truthy_bool ⟨H3,I3,q3⟩
theorem wJ:(sizeLine:Nat)<2^63:=by rw[sizeLine_eq];decide
theorem vals1 {x:V} {us:List Value} (r:Vals [x] us):∃u,us=[u]/\RelV x u:=by
 cases r with
 |cons r1 r2=>cases r2;exact⟨_,rfl,r1⟩
end
end L2
namespace L2
open PySem PySem.Spec PyProof.Rows
structure jF (h:Heap) (x dx C:Addr) (mA:Str->Option Value):Prop where
 obj:h.get? x=some (PySem.W.instObj C dx)
 ns:h.Ns1 dx mA
 ne:dx≠x
theorem Mq {h:Heap} {dx:Addr} {mA:Str->Option Value} (n:h.Ns1 dx mA):∃od,h.get? dx=some od/\∀name,PySem.W.lookIn name od=some (mA name):=by
 obtain⟨o,es,ep,ho,hd,hk,_,hm⟩:=n;refine⟨o,ho,λname=>?_⟩;have e:=hm name;unfold nsFind findBy at e;rw[<-Array.find?_toList] at e;unfold PySem.W.lookIn;rw[hd];dsimp only
 split
 ·rename_i y q
  rw[q] at e;exact congrArg some e
 ·rename_i q
  rw[q] at e;have a:es.toList.any (·.refKey)=false:=by
   rw[List.any_eq_false];intro y hy;obtain⟨z,t,hkey⟩:=hk y (Array.mem_toList_iff.mp hy);simp[DictEntry.refKey,hkey]
  have a':¬es.toList.any (·.refKey)=true:=by rw[a];exact Bool.false_ne_true
  rw[if_neg a'];exact congrArg some e
theorem jF.look {h:Heap} {x dx C:Addr} {mA:Str->Option Value} (I:jF h x dx C mA):∃od,PySem.W.InstAt h x (PySem.W.instObj C dx) C (some od)/\∀name,PySem.W.lookIn name od=some (mA name):=
 let ⟨od,ho,hl⟩:=Mq I.ns
 ⟨od,⟨I.obj,rfl,rfl,ho⟩,hl⟩
section
variable {prog:Program} {w:World} {A:Around} {E:Value->Shared->Prop} {s:Shared} {K:PySem.W.Frag} {x dx C f:Addr} {mA:Str->Option Value} {name:Str} {v:Value}
theorem get_map {expr:Bool} {Q:Value->Shared->Prop} (X:K.In s.heap) (I:jF s.heap x dx C mA) (hg:PySem.W.plainGet K C name=true) (hh:PySem.W.hasDictIn K C=true)
 (ha:PySem.W.findIn K (.ref C) name=some none) (hv:mA name=some v) (hv':PySem.W.handedIn v=true) (h:Q v {s with toks:=s.toks+1}):
 wpAny (model prog w) A (getAttr (.ref x) name expr) Q E s:=by
 obtain⟨od,J,hl⟩:=I.look;exact PySem.W.get_value X J (PySem.W.plainGet_of hg).1 (PySem.W.findObj_own hh ha rfl (by rw[hl,hv])) hv' h
theorem Lb {pl:Sem Bool} {Q:Value×List Value->Shared->Prop} (X:K.In s.heap) (I:jF s.heap x dx C mA) (hg:PySem.W.plainGet K C name=true)
 (hf:PySem.W.findIn K (.ref C) name=some (some (.ref f))) (ht:PySem.W.isFn K (.ref f)=true) (hv:mA name=none) (h:Q (.ref f,[.ref x]) s):
 wpAny (model prog w) A (getMethod (.ref x) name pl) Q E s:=by
 obtain⟨od,J,hl⟩:=I.look;exact PySem.W.method_fn X J (PySem.W.plainGet_of hg).1 (PySem.W.plainGet_of hg).2 hf (beq_iff_eq.mp ht) (by show(PySem.W.lookIn name od).map (·.isSome)=some false;rw[hl,hv];rfl) h
theorem QU {ns:List Str} {Q:Unit->Shared->Prop} (X:K.In s.heap) (I:jF s.heap x dx C mA)
 (hs:PySem.W.findIn K (.ref C) "__setattr__"=some (some (.builtin "object.__setattr__"))) (hp:PySem.W.plainOver K C=true) (ht:PySem.W.takerIn K C name=some none) (hh:PySem.W.hasDictIn K C=true)
 (hw:PySem.Within mA ns) (hsz:ns.length<=sizeLine)
 (h:∀h',jF h' x dx C (λy=>if y=name then some v else mA y)->Heap.SameBut dx s.heap h'->Q () {s with heap:=h',toks:=s.toks+2}):
 wpAny (model prog w) A (setAttr (.ref x) name v) Q E s:=by
 obtain⟨od,J,hl⟩:=I.look;refine PySem.W.set_plain X J hs (PySem.W.osa_open (s:={s with toks:=s.toks+1}) (r:=none) X J hp ht λb=>?_);obtain⟨cd,hc,hd'⟩:=PySem.W.any_some hh;have hx:s.heap.get? x=some ⟨.ref C,some dx,.plain,#[]⟩:=I.obj;refine wpAny_bind (wpAny_pure (wpAny_bind (wpAny_bind (wpAny_loadPart hx (wpAny_bind (PySem.W.Looks.here (s:={s with toks:=s.toks+1}) (PySem.W.looks_clsIn X hc) ?_))))));rw[hd'];refine wpAny_pure (a:=some dx) (wpAny_bind (wpAny_pure (wpAny_bind ?_)));refine wpAny_nsSet1 (s:={s with toks:=s.toks+1}) I.ns λh' hn2 hs2=>?_;obtain⟨oD,esD,epD,hoD,hdD,hcD⟩:=hn2.count (PySem.Within.cons name v hw);refine wpAny_bind (wpAny_lookBehind hoD (by rw[hdD];exact pastItsLine_dict (Nat.le_trans hcD (by rw[List.length_cons];omega))) ?_);exact wpAny_pure (h _ ⟨(hs2.2 _ (Ne.symm I.ne)).trans I.obj,hn2,I.ne⟩ hs2)
theorem Ms {R:Result->Shared->Prop} {vs:List Value} {kw:List (Str×Value)} (X:K.In s.heap) (hm:PySem.W.makesIn K C=true)
 (hi:PySem.W.findIn K (.ref C) "__init__"=some (some (.ref f))) (hf:PySem.W.typeIn K (.ref f)=some (.type "function"))
 (h:codeAny (model prog w) (A.under (.builtin "type.__call__" ⟨.ref C::vs,kw⟩)) (.call (.ref f) ⟨.ref (s.heap.objs.size+1)::vs,kw⟩) (PySem.W.InitBack (s.heap.objs.size+1) R)
  {s with heap:=(s.heap.push PySem.W.emptyDict).push (PySem.W.instObj C s.heap.objs.size)}):
 codeAny (model prog w) A (.call (.ref C) ⟨vs,kw⟩) R s:=by
 obtain⟨hh,g,d,t,os⟩:=s;exact PySem.W.make_core (PySem.W.makes_of X hm) (PySem.W.looks_findIn X hi) (λself=>PySem.W.bind_fn X self hf) (.inl rfl) h
end
def aQ (f:Str) (v:V):List (Str×V)->List (Str×V)
 |[]=>[(f,v)]
 |(g,x)::r=>if g=f then (g,v)::r else (g,x)::aQ f v r
theorem aD (f g:Str) (v:V):∀fs:List (Str×V),(aQ f v fs).lookup g=if g=f then some v else fs.lookup g
 |[]=>by
  show List.lookup g [(f,v)]=_;by_cases h:g=f
  ·have hb:(g==f)=true:=beq_iff_eq.mpr h;simp only[List.lookup,hb,if_pos h]
  ·have hb:(g==f)=false:=beq_eq_false_iff_ne.mpr h;simp only[List.lookup,hb,if_neg h]
 |(k,x)::r=>by
  have ih:=aD f g v r;rw[show aQ f v ((k,x)::r)=(if k=f then (k,v)::r else (k,x)::aQ f v r) from rfl];by_cases hk:k=f
  ·rw[if_pos hk];by_cases h:g=k
   ·have hb:(g==k)=true:=beq_iff_eq.mpr h;simp only[List.lookup,hb,if_pos (h.trans hk)]
   ·have hb:(g==k)=false:=beq_eq_false_iff_ne.mpr h;simp only[List.lookup,hb,if_neg (λe:g=f=>h (e.trans hk.symm))]
  ·rw[if_neg hk];by_cases h:g=k
   ·have hb:(g==k)=true:=beq_iff_eq.mpr h;simp only[List.lookup,hb,if_neg (λe:g=f=>hk (h.symm.trans e))]
   ·have hb:(g==k)=false:=beq_eq_false_iff_ne.mpr h;simp only[List.lookup,hb];exact ih
theorem wH (f:Str) (v:V):∀fs:List (Str×V),f∈(aQ f v fs).map (·.1)/\∀g,g∈fs.map (·.1)->g∈(aQ f v fs).map (·.1)
 |[]=>⟨by simp[aQ],λg h=>by simp at h⟩
 |(k,x)::r=>by
  obtain⟨i1,i2⟩:=wH f v r;rw[show aQ f v ((k,x)::r)=(if k=f then (k,v)::r else (k,x)::aQ f v r) from rfl];by_cases hk:k=f
  ·rw[if_pos hk];subst hk;exact⟨by simp,λg h=>by simpa using h⟩
  ·rw[if_neg hk];refine⟨?_,λg h=>?_⟩
   ·rw[List.map_cons];exact List.mem_cons_of_mem _ i1
   ·rw[List.map_cons] at h⊢;rcases List.mem_cons.mp h with e|e
    ·exact List.mem_cons.mpr (.inl e)
    ·exact List.mem_cons_of_mem _ (i2 g e)
theorem wI (f:Str) (v:V):∀fs:List (Str×V),(aQ f v fs).length<=fs.length+1
 |[]=>by simp[aQ]
 |(k,x)::r=>by
  have ih:=wI f v r;rw[show aQ f v ((k,x)::r)=(if k=f then (k,v)::r else (k,x)::aQ f v r) from rfl];by_cases hk:k=f
  ·rw[if_pos hk,List.length_cons,List.length_cons];omega
  ·rw[if_neg hk,List.length_cons,List.length_cons];omega
theorem dt.some_of {v:V} {o:Option Value} (r:dt (some v) o):∃u,o=some u/\RelV v u:=by
 cases o with
 |none=>exact(show False from r).elim
 |some u=>exact⟨u,rfl,r⟩
theorem dt.none_of {o:Option Value} (r:dt none o):o=none:=by
 cases o with
 |none=>rfl
 |some u=>exact(show False from r).elim
theorem Lf {v:V} {u:Value} (r:RelV v u):PySem.W.handedIn u=true:=by
 cases v with
 |aI=>cases(show u=Value.none from r);rfl
 |bl b=>cases(show u=Value.bool b from r);rfl
 |int i=>obtain⟨t,e⟩:=(show ∃t,u=Value.int i t from r);cases e;rfl
 |str x=>obtain⟨t,e⟩:=(show ∃t,u=Value.str x t from r);cases e;rfl
 |eS b=>obtain⟨t,e⟩:=(show ∃t,u=Value.bytes b t from r);cases e;rfl
 |kE b=>obtain⟨t,e⟩:=(show ∃t,u=Value.float b t from r);cases e;rfl
 |ref a=>cases(show u=Value.ref a from r);rfl
 |ty n=>cases(show u=Value.type n from r);rfl
section
variable {P:Program} {w:World} {H H':Hp} {h h':Heap} {a C dx:Addr} {fs fs':List (Str×V)}
theorem rJ (aw:bI P w H h) (e:H a=some (.ins C dx fs)):∃mA,jF h a dx C mA/\(∀f,dt (fs.lookup f) (mA f))/\PySem.Within mA (fs.map (·.1))/\fs.length<=1000/\H dx=some (.own a):=by
 obtain⟨d,z,ne,ob,mA,n,r,q⟩:=(show bO P w H h a (.ins C dx fs) from aw a _ e)
 exact⟨mA,⟨ob,n,ne⟩,r,q,z,d⟩
end
structure bV (K:PySem.W.Frag) (C:Addr):Prop where
 pg:PySem.W.plainGet K C Str.empty=true
 hd:PySem.W.hasDictIn K C=true
 po:PySem.W.plainOver K C=true
 sa:PySem.W.findIn K (.ref C) "__setattr__"=some (some (.builtin "object.__setattr__"))
theorem bV.get {K:PySem.W.Frag} {C:Addr} (c:bV K C) (f:Str):PySem.W.plainGet K C f=true:=c.pg
def aZ (K:PySem.W.Frag) (C:Addr) (f:Str):Prop:=PySem.W.findIn K (.ref C) f=some none
theorem aZ.SK {K:PySem.W.Frag} {C:Addr} {f:Str} (n:aZ K C f):PySem.W.takerIn K C f=some none:=by
 unfold PySem.W.takerIn;rw[show PySem.W.findIn K (.ref C) f=some none from n];rfl
structure Meth (K:PySem.W.Frag) (C:Addr) (m:Str) (f:Addr):Prop where
 at_:PySem.W.findIn K (.ref C) m=some (some (.ref f))
 fn:PySem.W.isFn K (.ref f)=true
 kp:PySem.W.keepIn K (.ref f)=true
section
variable {X:Cx} {pins:List (Addr×Obj)} {σ:St} {H:Hp} {s:Shared} {a C dx:Addr} {fs:List (Str×V)} {f:Str} {v:V} {A:Around} {E:Value->Shared->Prop}
theorem C8 {b:Bool} {Q:Value->Shared->Prop} (I:Inv X pins σ H s) (e:H a=some (.ins C dx fs)) (c:bV X.K C) (n:aZ X.K C f) (l:fs.lookup f=some v)
 (h:∀u s',Inv X pins σ H s'->RelV v u->Q u s'):wpAny (model X.prog X.w) A (getAttr (.ref a) f b) Q E s:=by
 obtain⟨mA,O,r,_,_,_⟩:=rJ I.aw e;obtain⟨u,hu,ru⟩:=dt.some_of (v:=v) (o:=mA f) (by rw[<-l];exact r f);exact get_map I.cG O (c.get f) c.hd n hu (Lf ru) (h u _ (I.tok _) ru)
theorem C9 {m:Str} {g:Addr} {pl:Sem Bool} {Q:Value×List Value->Shared->Prop} (I:Inv X pins σ H s) (e:H a=some (.ins C dx fs)) (c:bV X.K C) (k:Meth X.K C m g) (l:fs.lookup m=none)
 (h:Q (.ref g,[.ref a]) s):wpAny (model X.prog X.w) A (getMethod (.ref a) m pl) Q E s:=by
 obtain⟨mA,O,r,_,_,_⟩:=rJ I.aw e;have hn:mA m=none:=dt.none_of (by rw[<-l];exact r m);exact Lb I.cG O (c.get m) k.at_ k.fn hn h
theorem FW {y:V} {u:Value} {Q:Unit->Shared->Prop} (I:Inv X pins σ H s) (e:H a=some (.ins C dx fs)) (c:bV X.K C) (n:aZ X.K C f) (hl:fs.length<1000) (ry:RelV y u)
 (h:∀s',Inv X pins σ (upd H a (.ins C dx (aQ f y fs))) s'->Q () s'):wpAny (model X.prog X.w) A (setAttr (.ref a) f u) Q E s:=by
 obtain⟨mA,O,r,wi,_,ho⟩:=rJ I.aw e;have hz:(fs.map (·.1)).length<=sizeLine:=by rw[List.length_map,sizeLine_eq];omega
 refine QU I.cG O c.sa c.po n.SK c.hd wi hz λh' O' sb=>h _ ?_;have hd:∃o,h'.get? dx=some o:=let ⟨o,_,_,e',_⟩:=O'.ns;⟨o,e'⟩;refine I.write (x:=a) (e:=dx) (by rw[e];exact True.intro) (.inr ho) (λb q hb z=>(sb.2 b hb).trans z) hd ?_;refine⟨by rw[aT O.ne];exact ho,?_,O.ne,O'.obj,_,O'.ns,λg=>?_,λg hg=>?_⟩
 ·have:=wI f y fs;omega
 ·show dt ((aQ f y fs).lookup g) (if g=f then some u else mA g);rw[aD];by_cases q:g=f
  ·rw[if_pos q,if_pos q];exact ry
  ·rw[if_neg q,if_neg q];exact r g
 ·by_cases q:g=f
  ·rw[q];exact(wH f y fs).1
  ·refine(wH f y fs).2 g (wi g λz=>hg ?_);show(if g=f then some u else mA g)=none;rw[if_neg q];exact z
theorem Inv.made (I:Inv X pins σ H s):Inv X pins σ (upd (upd H s.heap.objs.size (.own (s.heap.objs.size+1))) (s.heap.objs.size+1) (.ins C s.heap.objs.size []))
 {s with heap:=(s.heap.push PySem.W.emptyDict).push (PySem.W.instObj C s.heap.objs.size)}:=by
 have e1:(s.heap.push PySem.W.emptyDict).get? s.heap.objs.size=some PySem.W.emptyDict:=Heap.get?_push_size s.heap rfl;have e2:((s.heap.push PySem.W.emptyDict).push (PySem.W.instObj C s.heap.objs.size)).get? (s.heap.objs.size+1)=some (PySem.W.instObj C s.heap.objs.size):=by
  have:=Heap.get?_push_size (s.heap.push PySem.W.emptyDict) (o:=PySem.W.instObj C s.heap.objs.size) rfl
  rwa [Heap.size_push] at this
 have e3:(s.heap.push PySem.W.emptyDict).Ns s.heap.objs.size (λ_=>none):=⟨PySem.W.emptyDict,#[],_,e1,rfl,(λe he=>absurd he (by simp)),λ_=>rfl⟩
 have I1:=I.laid (a:=s.heap.objs.size) (o:= .own (s.heap.objs.size+1)) (h':=s.heap.push PySem.W.emptyDict) (t':=s.toks) (λb u q=>Heap.get?_push_of_some _ q) (Nat.le_refl _) ⟨_,e1⟩;refine I1.laid (a:=s.heap.objs.size+1) (o:= .ins C s.heap.objs.size []) (t':=s.toks) (λb u q=>Heap.get?_push_of_some _ q) (Nat.le_of_eq (Heap.size_push _ _)) ?_;have ne:s.heap.objs.size≠s.heap.objs.size+1:=Nat.ne_of_lt (Nat.lt_succ_self _);refine⟨by rw[aT ne,az],Nat.zero_le _,ne,e2,λ_=>none,(Heap.Ns1.of_empty e3).at λo q=>Heap.get?_push_of_some _ q,λ_=>True.intro,λy hy=>absurd rfl hy⟩
theorem G4 {prog:Program} {w:World} {env:Env} {e:Expr} {f:Str} {pos:Pos} {s:Shared} {Q:Value->Shared->Prop} (hb:attributeBase e f env (eval e env)=eval e env)
 (h:wpAny (model prog w) A (eval e env) (λo s₁=>wpAny (model prog w) A (getAttr o f true) Q E s₁) E s):wpAny (model prog w) A (eval (.Attribute e f pos) env) Q E s:=
 Attribute_any_ h (by rw[arm_eval_Attribute,hb])
end
def iz (K:PySem.W.Frag) (ta:TE) (f:Str):TE:=λσ H Q=>ta σ H λx H1=>∃a C dx fs v,x= .ref a/\H1 a=some (.ins C dx fs)/\bV K C/\aZ K C f/\fs.lookup f=some v/\Q v H1
def P7 (K:PySem.W.Frag) (ta tv:TE) (f:Str):TS:=λD σ H=>tv σ H λy H1=>ta σ H1 λx H2=>∃a C dx fs,x= .ref a/\H2 a=some (.ins C dx fs)/\bV K C/\aZ K C f/\fs.length<1000/\
 D.nx σ (upd H2 a (.ins C dx (aQ f y fs)))
def Av (X:Cx) (op:Operator) (rd:V->V->Hp->VK->Prop):Prop:=
 ∀(pins:List (Addr×Obj)) (s:Shared) (σ:St) (H:Hp) (x y:V) (u v:Value) (Q:VK),Inv X pins σ H s->RelV x u->RelV y v->rd x y H Q->wpAny (model X.prog X.w) X.A (inplaceOp op u v) (EP X pins σ Q) X.xe s
def P8 (K:PySem.W.Frag) (ta tv:TE) (rd:V->V->Hp->VK->Prop) (f:Str):TS:=λD σ H=>ta σ H λx H1=>∃a C dx fs v,x= .ref a/\H1 a=some (.ins C dx fs)/\bV K C/\aZ K C f/\fs.lookup f=some v/\
 tv σ H1 λy H2=>rd v y H2 λz H3=>∃dx' fs',H3 a=some (.ins C dx' fs')/\fs'.length<1000/\D.nx σ (upd H3 a (.ins C dx' (aQ f z fs')))
section
variable {X:Cx} {o e value:Expr} {f:Str} {pos pos' tpos:Pos} {ta tv:TE}
theorem ao (he:PE X e ta) (hb:attributeBase e f X.env (eval e X.env)=eval e X.env):PE X (.Attribute e f pos) (iz X.K ta f):=by
 intro pins s σ H Q I h;refine G4 hb (aK (he pins s σ H _ I h) λu s1 ⟨x,H1,I1,rx,a,C,dx,fs,v,ex,ea,c,n,l,q⟩=>?_);subst ex;obtain rfl:u=Value.ref a:=rx;exact C8 I1 ea c n l λu' s2 I2 ru=>⟨v,H1,I2,ru,q⟩
theorem ck (ha:PE X o ta) (hv:PE X value tv) (hs:swapsWith value (some (.Attribute o f pos')) pos.line X.env=pure false):PS X (.Assign [.Attribute o f pos'] value pos) (P7 X.K ta tv f):=by
 intro pins s σ H D I h;refine plainObj_wpAny_Assign_Attribute (aK (hv pins s σ H _ I h) λu s1 ⟨y,H1,I1,ry,q⟩=>aK (ha pins s1 σ H1 _ I1 q) λov s2 ⟨x,H2,I2,rx,a,C,dx,fs,ex,ea,c,n,l,q2⟩=>?_) hs;subst ex;obtain rfl:ov=Value.ref a:=rx;exact FW I2 ea c n l ry λs3 I3=>⟨σ,_,I3,q2⟩
theorem Pj {op:Operator} {rd:V->V->Hp->VK->Prop} (ha:PE X o ta) (hv:PE X value tv) (hop:Av X op rd):PS X (.AugAssign (.Attribute o f tpos) op value pos) (P8 X.K ta tv rd f):=by
 intro pins s σ H D I h;refine wpAny_AugAssign_AttributeAny (aK (ha pins s σ H _ I h) λov s1 ⟨x,H1,I1,rx,a,C,dx,fs,v,ex,ea,c,n,l,q⟩=>?_);subst ex;obtain rfl:ov=Value.ref a:=rx;refine C8 I1 ea c n l λu s2 I2 ru=>aK (hv pins s2 σ H1 _ I2 q) λw3 s3 ⟨y,H2,I3,ry,q3⟩=>aK (hop pins s3 σ H2 v y u w3 _ I3 ru ry q3) λw4 s4 ⟨z,H3,I4,rz,dx',fs',ea',l',q4⟩=>?_;exact FW I4 ea' c n l' rz λs5 I5=>⟨σ,_,I5,q4⟩
def Pl:V->V->Hp->VK->Prop:=λx y H Q=>∃i j,x= .int i/\y= .int j/\Q (.int (i+j)) H
theorem Lq:Av X .Add Pl:=by
 rintro pins s σ H x y u v Q I rx ry ⟨i,j,rfl,rfl,q⟩;obtain⟨t,rfl⟩:=(show ∃t,u=Value.int i t from rx)
 obtain⟨t',rfl⟩:=(show ∃t',v=Value.int j t' from ry)
 exact PyProof.Rows.iadd_int ⟨.int (i+j),H,I.tok _,⟨_,rfl⟩,q⟩
end
section
variable {X:Cx} {pins:List (Addr×Obj)} {σ:St} {H:Hp} {s:Shared} {A:Around} {E:Value->Shared->Prop} {Q:Value->Shared->Prop} {c:Value} {b:Bool}
inductive cX (K:PySem.W.Frag) (H:Hp):V->Value->Prop where
 |aI:cX K H .aI (.type "NoneType")
 |bl (x:Bool):cX K H (.bl x) (.type "bool")
 |int (i:Int):cX K H (.int i) (.type "int")
 |str (x:Str):cX K H (.str x) (.type "str")
 |kE (x:UInt64):cX K H (.kE x) (.type "float")
 |lst {a:Addr} {xs:List V} (e:H a=some (.lst xs)):cX K H (.ref a) (.type "list")
 |cP {a:Addr} {o:Obj} {xs:List V} (e:H a=some (.cP o (.lst xs))):cX K H (.ref a) (.type "list")
 |tup {a:Addr} {xs:List V} (e:H a=some (.tup xs)):cX K H (.ref a) (.type "tuple")
 |dK {a:Addr} {kvs:List (Key×V)} (e:H a=some (.dK kvs)):cX K H (.ref a) (.type "dict")
 |dT {a:Addr} {kvs:List (List Key×V)} (e:H a=some (.dT kvs)):cX K H (.ref a) (.type "dict")
 |ins {a C dx:Addr} {fs:List (Str×V)} (e:H a=some (.ins C dx fs)) (cl:bV K C) (ha:PySem.W.findIn K (.ref C) "__class__"=some (some (.builtin "object.__class__")))
  (hn:PySem.W.specialIn K (.builtin "object.__class__") "__get__"=some (some (.builtin "getset_descriptor.__get__"))) (iM:PySem.W.takesIn K (.builtin "object.__class__")=some true)
  (hm:PySem.W.mroIn K C (.type "object")=some true):cX K H (.ref a) (.ref C)
theorem L7 {x:V} {u t:Value} (I:Inv X pins σ H s) (rx:RelV x u) (ty:cX X.K H x t) (e:PySem.W.kitOne X.K t c=some b) (h:∀tk,Q (.bool b) {s with toks:=tk}):
 wpAny (model X.prog X.w) A (call (.builtin "isinstance") [u,c]) Q E s:=by
 cases ty with
 |aI=>cases(show u=Value.none from rx);exact PySem.W.kia_one PySem.W.kitx_none I.cG True.intro e (λz=>nomatch z) h
 |bl y=>cases(show u=Value.bool y from rx);exact PySem.W.kia_one PySem.W.kitx_bool I.cG True.intro e (λz=>nomatch z) h
 |int i=>obtain⟨t,q⟩:=(show ∃t,u=Value.int i t from rx);cases q;exact PySem.W.kia_one PySem.W.kitx_int I.cG True.intro e (λz=>nomatch z) h
 |str y=>obtain⟨t,q⟩:=(show ∃t,u=Value.str y t from rx);cases q;exact PySem.W.kia_one PySem.W.kitx_str I.cG True.intro e (λz=>nomatch z) h
 |kE y=>obtain⟨t,q⟩:=(show ∃t,u=Value.float y t from rx);cases q;exact PySem.W.kia_one PySem.W.kitx_float I.cG True.intro e (λz=>nomatch z) h
 |@lst a xs ea=>
  cases(show u=Value.ref a from rx);obtain⟨_,_,n,_,h1⟩:=(show bO X.prog X.w H s.heap a (.lst xs) from I.aw a _ ea)
  exact PySem.W.kia_one PySem.W.kitx_list I.cG ⟨_,h1,rfl⟩ e (λz=>nomatch z) h
 |@cP a ob xs ea=>
  cases(show u=Value.ref a from rx);obtain⟨_,_,_,n,_,h1⟩:=(show bO X.prog X.w H s.heap a (.cP ob (.lst xs)) from I.aw a _ ea)
  exact PySem.W.kia_one PySem.W.kitx_list I.cG ⟨_,h1,rfl⟩ e (λz=>nomatch z) h
 |@tup a xs ea=>
  cases(show u=Value.ref a from rx);obtain⟨_,_,_,p⟩:=(show bO X.prog X.w H s.heap a (.tup xs) from I.aw a _ ea)
  obtain⟨o,h1,h2,_⟩:=p;exact PySem.W.kia_one PySem.W.kitx_tuple I.cG ⟨o,h1,h2⟩ e (λz=>nomatch z) h
 |@dK a kvs ea=>
  cases(show u=Value.ref a from rx);obtain⟨_,_,vs,_,p⟩:=(show bO X.prog X.w H s.heap a (.dK kvs) from I.aw a _ ea)
  obtain⟨o,es,ep,h1,h2,_⟩:=p;exact PySem.W.kia_one PySem.W.kitx_dict I.cG ⟨o,h1,h2.1⟩ e (λz=>nomatch z) h
 |@dT a kvs ea=>
  cases(show u=Value.ref a from rx);obtain⟨_,_,xs,_,o,es,ep,h1,h2,_⟩:=(show bO X.prog X.w H s.heap a (.dT kvs) from I.aw a _ ea)
  exact PySem.W.kia_one PySem.W.kitx_dict I.cG ⟨o,h1,h2.1⟩ e (λz=>nomatch z) h
 |@ins a C dx fs ea cl ha hn iM hm=>
  cases(show u=Value.ref a from rx);obtain⟨mA,O,_⟩:=rJ I.aw ea;obtain⟨od,J,_⟩:=O.look;exact PySem.W.kia_one (PySem.W.kitx_own (cl.get _) cl.hd ha hn iM hm) I.cG J e (λz=>nomatch z) h
end
end L2
namespace L2
open PySem PySem.Spec PyProof.Rows
structure cy (k:Nat) (A:Around):Prop where
 hd:A.handled=none
 dp:A.depth+3*k+5<recursionLimit
 un:A.units+16*k+200<cLine
theorem cy.mono {j k:Nat} {A:Around} (r:cy k A) (h:j<=k):cy j A:=⟨r.hd,by have:=r.dp;omega,by have:=r.un;omega⟩
theorem cy.deeper {k:Nat} {A:Around} (r:cy (k+1) A) (env:Env):cy k (A.deeper env):=
 ⟨r.hd,by have:=r.dp;show A.depth+1+3*k+5<_;omega,by have:=r.un;show A.units+3+16*k+200<_;omega⟩
theorem Mr {A:Around} {C:Addr} {us:List Value} {kw:List (Str×Value)}:(A.under (.builtin "type.__call__" ⟨.ref C::us,kw⟩)).depth=A.depth+1:=by
 first|rfl|simp[Around.under,Code.weight,Code.isCreation,Code.isGuard,Code.isCaller,Code.frames,Code.isFrame,guardIds]
theorem Mt {A:Around} {C:Addr} {us:List Value} {kw:List (Str×Value)}:(A.under (.builtin "type.__call__" ⟨.ref C::us,kw⟩)).units=A.units+1:=by
 first|rfl|simp[Around.under,Code.cUnits,Code.frames,Code.isFrame]
theorem cy.make {k:Nat} {A:Around} (r:cy (k+1) A) (C:Addr) (us:List Value) (kw:List (Str×Value)):cy k (A.under (.builtin "type.__call__" ⟨.ref C::us,kw⟩)):=
 ⟨r.hd,by have:=r.dp;rw[Mr];omega,by have:=r.un;rw[Mt];omega⟩
theorem cy.depth {k:Nat} {A:Around} (r:cy k A):A.depth<recursionLimit:=by have:=r.dp;omega
theorem cy.units {k:Nat} {A:Around} (r:cy k A):A.units+64<cLine:=by have:=r.un;omega
def dS:TA:=λ_ H Q=>Q [] H
def cn (ta:TE) (tr:TA):TA:=λσ H Q=>ta σ H λx H1=>tr σ H1 λxs H2=>Q (x::xs) H2
section
variable {X:Cx} {e:Expr} {es:List Expr} {te:TE} {t:TA} {pos:Pos}
theorem ae:PA X [] dS:=λ_ _ _ _ H Q I h=>Calls.spliced_nil ⟨[],H,I,.nil,h⟩
theorem aa (ha:PE X e te) (hr:PA X es t) (hs:starEach (e::es) X.env=(false,eval e X.env)::starEach es X.env:=by rfl):PA X (e::es) (cn te t):=by
 intro pos pins s σ H Q I h;rw[hs];show wpAny _ _ (spliced ((false,eval e X.env)::backTo pos (starEach es X.env))) _ _ s;refine Calls.spliced_cons (aK (ha pins s σ H _ I h) λu s1 ⟨x,H1,I1,r1,q1⟩=>?_);exact aK (hr pos pins s1 σ H1 _ I1 q1) λus s2 ⟨xs,H2,I2,r2,q2⟩=>⟨x::xs,H2,I2,.cons r1 r2,q2⟩
end
abbrev Sp:=List V->Hp->VK->XK->Prop
abbrev eR:=List Env->Hp->Shared->XK->Value->Shared->Prop
structure jl (P:Program) (w:World) (K:PySem.W.Frag) (mg:Str->Option Value) (base:Heap) (A:Around) (outer:List Env) (s:Shared) (H:Hp):Prop where
 frames:A.frames=some outer
 mod:Mod K mg base
 bs:∀b o,base.get? b=some o->s.heap.get? b=some o/\H b=none
 fX:base.objs.size<=s.heap.objs.size
 ez:s.heap.FunFrames base outer
 gP:∀b∈cC outer,H b=none
 aw:bI P w H s.heap
 bare:AllBare s.gens
def CE (outer:List Env) (P:Program) (w:World) (H:Hp) (s:Shared) (Q:VK) (u:Value) (s':Shared):Prop:=
 ∃v H',s'.os=s.os/\AllBare s'.gens/\Un (cC outer) [] H H' s.heap s'.heap/\bI P w H' s'.heap/\RelV v u/\Q v H'
def CR (CX:eR) (outer:List Env) (P:Program) (w:World) (H:Hp) (s:Shared) (Q:VK) (E:XK) (r:Result) (s':Shared):Prop:=
 match r with
 | .ok (.ret u)=>CE outer P w H s Q u s'
 | .ok _=>False
 | .error e=>CX outer H s E e s'
structure aA (P:Program) (w:World) (K:PySem.W.Frag) (mg:Str->Option Value) (base:Heap) (CX:eR) (k:Nat) (f:Addr) (fd:FuncData) (ps:List Str) (sp:Sp):Prop where
 len:∀vs H Q E,sp vs H Q E->vs.length=ps.length
 run:∀(A:Around) (outer:List Env) (s:Shared) (H:Hp) (args:Args) (us:List Value) (vs:List V) (Q:VK) (E:XK),cy k A->jl P w K mg base A outer s H->BindsTo s fd args (ps.zip us)->Vals vs us->sp vs H Q E->
  codeAny (model P w) A (.call (.ref f) args) (CR CX outer P w H s Q E) s
theorem aA.mono {P:Program} {w:World} {K:PySem.W.Frag} {mg:Str->Option Value} {base:Heap} {CX:eR} {j k:Nat} {f:Addr} {fd:FuncData} {ps:List Str} {sp:Sp} (F:aA P w K mg base CX j f fd ps sp) (h:j<=k):
 aA P w K mg base CX k f fd ps sp:=⟨F.len,λA outer s H args us vs Q E hr=>F.run A outer s H args us vs Q E (hr.mono h)⟩
theorem jl.make {P:Program} {w:World} {K:PySem.W.Frag} {mg:Str->Option Value} {base:Heap} {A:Around} {outer:List Env} {s:Shared} {H:Hp} (e:jl P w K mg base A outer s H) (C:Addr) (us:List Value) (kw:List (Str×Value)):
 jl P w K mg base (A.under (.builtin "type.__call__" ⟨.ref C::us,kw⟩)) outer s H:=⟨by first|exact e.frames|(simpa [Around.under,Code.envs,Code.isFrame,pushEnvs] using e.frames),e.mod,e.bs,e.fX,e.ez,e.gP,e.aw,e.bare⟩
section
variable {X:Cx} {pins:List (Addr×Obj)} {σ:St} {H:Hp} {s s':Shared}
theorem Inv.B4 (I:Inv X pins σ H s):jl X.prog X.w X.K X.mg X.base X.A X.stack s H:=
 ⟨I.ok.frames,I.ok.mod,I.bs,Nat.le_trans I.ok.fX I.sz,I.stack,I.Aa,I.aw,I.bare⟩
theorem Inv.after {Q:VK} {u:Value} (I:Inv X pins σ H s) (h:CE X.stack X.prog X.w H s Q u s'):EP X pins σ Q u s':=by
 obtain⟨v,H',os,bare,un,aw,r,q⟩:=h;obtain⟨hh,g,d,t,os'⟩:=s';obtain rfl:os'=s.os:=os;exact⟨v,H',I.call (h':=hh) (g':=g) (d':=d) (t':=t) (ch:=[]) un aw bare (λb z=>absurd z (by simp)),r,q⟩
end
def jf (sp:Sp) (dvs:List V) (E:XK) (t:TA):TE:=λσ H Q=>t σ H λvs H1=>sp (vs++dvs) H1 Q E
def Ae (C:Addr) (m:Str) (sp:Sp) (dvs:List V) (E:XK) (ta:TE) (t:TA):TE:=λσ H Q=>ta σ H λx H1=>∃a dx fs,x= .ref a/\H1 a=some (.ins C dx fs)/\fs.lookup m=none/\
 t σ H1 λvs H2=>sp (x::(vs++dvs)) H2 Q E
def ug (C:Addr) (sp:Sp) (dvs:List V) (E:XK) (t:TA):TE:=λσ H Q=>t σ H λvs H1=>∀x dx,H1 x=none->H1 dx=none->dx≠x->
 sp (.ref x::(vs++dvs)) (upd (upd H1 dx (.own x)) x (.ins C dx [])) (λv H2=>v= .aI/\Q (.ref x) H2) E
def Binds (K:PySem.W.Frag) (fd:FuncData) (ps:List Str) (ds:List Value):Prop:=
 ∀(s:Shared) (us:List Value),K.In s.heap->(us++ds).length=ps.length->BindsTo s fd ⟨us,[]⟩ (ps.zip (us++ds))
theorem Binds.all {K:PySem.W.Frag} {fd:FuncData} {ps:List Str} (h:∀us:List Value,us.length=ps.length->bindArgs fd ⟨us,[]⟩=pure (ps.zip us)):Binds K fd ps []:=λs us _ hl=>by
 rw[List.append_nil] at hl⊢;exact .of_eq (h us hl)
def Passes (CX:eR) (X:Cx) (E:XK):Prop:=∀(pins:List (Addr×Obj)) (σ:St) (H:Hp) (s:Shared) (e:Value) (s':Shared),Inv X pins σ H s->CX X.stack H s E e s'->X.xe e s'
section
variable {X:Cx} {CX:eR} {k:Nat} {f C:Addr} {fd:FuncData} {ps:List Str} {sp:Sp} {dvs:List V} {ds:List Value} {E:XK} {x m:Str} {p pos apos:Pos} {e o:Expr} {es:List Expr} {ta:TE} {t:TA}
theorem yl {pins:List (Addr×Obj)} {σ:St} {H:Hp} {s:Shared} {Q:VK} {us:List Value} {vs:List V} (F:aA X.prog X.w X.K X.mg X.base CX k f fd ps sp) (hr:cy k X.A) (hb:Binds X.K fd ps ds) (hd:Vals dvs ds) (hx:Passes CX X E)
 (I:Inv X pins σ H s) (r:Vals vs us) (h:sp (vs++dvs) H Q E):wpAny (model X.prog X.w) X.A (call (.ref f) us) (EP X pins σ Q) X.xe s:=by
 have r2:Vals (vs++dvs) (us++ds):=r.append hd;have hl:(us++ds).length=ps.length:=by rw[<-r2.length];exact F.len _ _ _ _ h
 refine wpAny_call (codeAny_mono (F.run X.A X.stack s H ⟨us,[]⟩ (us++ds) (vs++dvs) Q E hr I.B4 (hb s us I.cG hl) r2 h) λr s' hq=>?_);cases r with
 |error e=>exact hx pins σ H s e s' I hq
 |ok fl=>
  cases fl with
  |ret u=>exact I.after hq
  |next=>exact False.elim hq
  |brk=>exact False.elim hq
  |cont=>exact False.elim hq
theorem aB (F:aA X.prog X.w X.K X.mg X.base CX k f fd ps sp) (hr:cy k X.A) (hg:Gl X x) (hm:X.mg x=some (.ref f)) (hk:PySem.W.keepIn X.K (.ref f)=true) (hb:Binds X.K fd ps ds) (hd:Vals dvs ds) (hx:Passes CX X E)
 (ha:PA X (e::es) t) (hdb:(x==("__debug__":Str))=false:=by decide) (he:starEach (e::es) X.env=(false,eval e X.env)::starEach es X.env:=by rfl) (hpl:(backTo pos (starEach es X.env)).any (·.1)=false:=by rfl):
 PE X (.Call (.Name x p) (e::es) [] pos) (jf sp dvs E t):=by
 intro pins s σ H Q I h;refine wpAny_Call_Name_kw (mW I hg hm ?_ hdb);refine PySem.W.callWith_K (h₀:=X.base) I.ok.mod.kX hk (aK (ha pos pins s σ H _ I h) λus s1 ⟨vs,H1,I1,r,q⟩=>⟨I1.cG,?_⟩) he hpl;exact yl F hr hb hd hx I1 r q
theorem cI {pl:Sem Bool} (he:PE X o ta) (c:bV X.K C) (hm:Meth X.K C m f) (F:aA X.prog X.w X.K X.mg X.base CX k f fd ps sp) (hr:cy k X.A) (hb:Binds X.K fd ps ds) (hd:Vals dvs ds) (hx:Passes CX X E) (ha:PA X (e::es) t)
 (hst:starEach (e::es) X.env=(false,eval e X.env)::starEach es X.env:=by rfl) (hpl:(backTo pos (starEach es X.env)).any (·.1)=false:=by rfl)
 (ht:eval (.Call (.Attribute o m apos) (e::es) [] pos) X.env=(do
  let ov<-eval o X.env
  standAt apos.atName
  let (f,first)<-holding [ov] (getMethod ov m pl)
  callWith pos f first (backTo pos (starEach (e::es) X.env)) (backToKw pos (keywordEach [] X.env))):=by rfl):
 PE X (.Call (.Attribute o m apos) (e::es) [] pos) (Ae C m sp dvs E ta t):=by
 intro pins s σ H Q I h;refine PySem.W.methodCall_KW (pl:=pl) (aK (he pins s σ H _ I h) λu s1 ⟨x,H1,I1,rx,a,dx,fs,ex,ea,l,q⟩=>?_) ht;subst ex;obtain rfl:u=Value.ref a:=rx;refine C9 I1 ea c hm l ?_;refine PySem.W.callWith_K (first:=[.ref a]) (h₀:=X.base) I.ok.mod.kX hm.kp (aK (ha pos pins s1 σ H1 _ I1 q) λus s2 ⟨vs,H2,I2,r,q2⟩=>⟨I2.cG,?_⟩) hst hpl;exact yl (us:= .ref a::us) (vs:= .ref a::vs) F hr hb hd hx I2 (.cons rfl r) q2
theorem dk {pl:Sem Bool} (he:PE X o ta) (c:bV X.K C) (hm:Meth X.K C m f) (F:aA X.prog X.w X.K X.mg X.base CX k f fd ps sp) (hr:cy k X.A) (hb:Binds X.K fd ps ds) (hd:Vals dvs ds) (hx:Passes CX X E)
 (ht:eval (.Call (.Attribute o m apos) [] [] pos) X.env=(do
  let ov<-eval o X.env
  standAt apos.atName
  let (f,first)<-holding [ov] (getMethod ov m pl)
  callWith pos f first (backTo pos (starEach [] X.env)) (backToKw pos (keywordEach [] X.env))):=by rfl):
 PE X (.Call (.Attribute o m apos) [] [] pos) (Ae C m sp dvs E ta dS):=by
 intro pins s σ H Q I h;refine PySem.W.methodCall_KW (pl:=pl) (aK (he pins s σ H _ I h) λu s1 ⟨x,H1,I1,rx,a,dx,fs,ex,ea,l,q⟩=>?_) ht;subst ex;obtain rfl:u=Value.ref a:=rx;refine C9 I1 ea c hm l ?_;exact PySem.W.callWith_K0 (first:=[.ref a]) I1.cG hm.kp (yl (us:=[.ref a]) (vs:=[.ref a]) F hr hb hd hx I1 (.cons rfl .nil) q)
structure Mk (K:PySem.W.Frag) (C f:Addr):Prop where
 makes:PySem.W.makesIn K C=true
 init:PySem.W.findIn K (.ref C) "__init__"=some (some (.ref f))
 fn:PySem.W.isFn K (.ref f)=true
 kp:PySem.W.keepIn K (.ref C)=true
theorem FE {pins:List (Addr×Obj)} {σ:St} {H:Hp} {s:Shared} {Q:VK} {us:List Value} {vs:List V} (M:Mk X.K C f) (F:aA X.prog X.w X.K X.mg X.base CX k f fd ps sp) (hr:cy (k+1) X.A) (hb:Binds X.K fd ps ds) (hd:Vals dvs ds)
 (hx:Passes CX X E) (I:Inv X pins σ H s) (r:Vals vs us)
 (h:∀x dx,H x=none->H dx=none->dx≠x->sp (.ref x::(vs++dvs)) (upd (upd H dx (.own x)) x (.ins C dx [])) (λv H2=>v= .aI/\Q (.ref x) H2) E):
 wpAny (model X.prog X.w) X.A (call (.ref C) us) (EP X pins σ Q) X.xe s:=by
 have hq:=h (s.heap.objs.size+1) s.heap.objs.size (I.aw.fresh (Nat.le_succ _)) (I.aw.fresh (Nat.le_refl _)) (Nat.ne_of_lt (Nat.lt_succ_self _));have I2:=Inv.made (C:=C) I;have r2:Vals (V.ref (s.heap.objs.size+1)::(vs++dvs)) (Value.ref (s.heap.objs.size+1)::(us++ds)):= .cons rfl (r.append hd);have hl:(Value.ref (s.heap.objs.size+1)::us++ds).length=ps.length:=by
  have e:=r2.length;rw[F.len _ _ _ _ hq] at e;exact e.symm
 refine wpAny_call (Ms (f:=f) I.cG M.makes M.init (beq_iff_eq.mp M.fn) (codeAny_mono (F.run _ X.stack _ _ ⟨Value.ref (s.heap.objs.size+1)::us,[]⟩ (Value.ref (s.heap.objs.size+1)::(us++ds)) _ _ E (hr.make C us [])
  (I2.B4.make C us []) (hb _ (Value.ref (s.heap.objs.size+1)::us) I2.cG hl) r2 hq) λr s' hq'=>?_))
 cases r with
 |error e=>exact hx pins σ _ _ e s' I2 hq'
 |ok fl=>
  cases fl with
  |ret u=>
   obtain⟨v,H',I3,rv,ev,q3⟩:=I2.after hq';subst ev;exact⟨rv,⟨V.ref (s.heap.objs.size+1),H',I3,rfl,q3⟩⟩
  |next=>exact False.elim hq'
  |brk=>exact False.elim hq'
  |cont=>exact False.elim hq'
theorem di (M:Mk X.K C f) (F:aA X.prog X.w X.K X.mg X.base CX k f fd ps sp) (hr:cy (k+1) X.A) (hg:Gl X x) (hm:X.mg x=some (.ref C)) (hb:Binds X.K fd ps ds) (hd:Vals dvs ds) (hx:Passes CX X E)
 (ha:PA X (e::es) t) (hdb:(x==("__debug__":Str))=false:=by decide) (he:starEach (e::es) X.env=(false,eval e X.env)::starEach es X.env:=by rfl) (hpl:(backTo pos (starEach es X.env)).any (·.1)=false:=by rfl):
 PE X (.Call (.Name x p) (e::es) [] pos) (ug C sp dvs E t):=by
 intro pins s σ H Q I h;refine wpAny_Call_Name_kw (mW I hg hm ?_ hdb);refine PySem.W.callWith_K (h₀:=X.base) I.ok.mod.kX M.kp (aK (ha pos pins s σ H _ I h) λus s1 ⟨vs,H1,I1,r,q⟩=>⟨I1.cG,?_⟩) he hpl;exact FE M F hr hb hd hx I1 r q
theorem O5 (M:Mk X.K C f) (F:aA X.prog X.w X.K X.mg X.base CX k f fd ps sp) (hr:cy (k+1) X.A) (hg:Gl X x) (hm:X.mg x=some (.ref C)) (hb:Binds X.K fd ps ds) (hd:Vals dvs ds) (hx:Passes CX X E)
 (hdb:(x==("__debug__":Str))=false:=by decide):PE X (.Call (.Name x p) [] [] pos) (ug C sp dvs E dS):=by
 intro pins s σ H Q I h;refine wpAny_Call_Name_kw (mW I hg hm ?_ hdb);exact PySem.W.callWith_K0 I.cG M.kp (FE (us:=[]) M F hr hb hd hx I .nil h)
end
section
variable {X:Cx} {CX:eR} {k:Nat} {f C:Addr} {fd:FuncData} {ps ks:List Str} {sp:Sp} {E:XK} {x m:Str} {p pos apos kpos:Pos} {e o:Expr} {es:List Expr} {kws:List Keyword} {te ta:TE} {t tk:TA} {nm:Option Str}
variable {g:List Value->List Value->List Value} {gV:List V->List V->List V}
end
structure aG (N P:List Str) (sc:Scope):Prop where
 kind:sc.kind= .function
 co:sc.isCoroutine=false
 gen:sc.isGenerator=false
 nd:N.Nodup
 pre:N.take P.length=P
 par:∀x∈P,sc.names.lookup x=some .local\/sc.names.lookup x=some .cell
 NO:∀y∈sc.names,y.2≠ .free
theorem Bg {kindOf:Str->Option NameKind} {x:Str}:∀{binds:List (Str×Value)} {m:Str->Option Value},(∀v,(x,v)∉binds)->bindL kindOf binds m x=m x
 |[],_,_=>rfl
 |(n,v)::r,m,h=>by
  unfold bindL;rw[Bg λw hw=>h w (List.mem_cons_of_mem _ hw)]
  split
  ·have:x≠n:=by rintro rfl;exact h v List.mem_cons_self
   simp[this]
  ·rfl
theorem Be {kindOf:Str->Option NameKind} {x:Str}:∀{binds:List (Str×Value)} {m:Str->Option Value},(∀v,(x,v)∉binds)->bindC kindOf binds m x=m x
 |[],_,_=>rfl
 |(n,v)::r,m,h=>by
  unfold bindC;rw[Be λw hw=>h w (List.mem_cons_of_mem _ hw)]
  split
  ·rfl
  ·have:x≠n:=by rintro rfl;exact h v List.mem_cons_self
   simp[this]
theorem Bf {kindOf:Str->Option NameKind} {x:Str} {v:Value}:∀{P:List Str} {vs:List Value} {i:Nat} {m:Str->Option Value},P.Nodup->P[i]?=some x->vs[i]?=some v->kindOf x=some .local->
 bindL kindOf (P.zip vs) m x=some v
 |[],_,_,_,_,h,_,_=>by simp at h
 |_::_,[],_,_,_,_,h,_=>by simp at h
 |p::P,w::vs,0,m,nd,h1,h2,hk=>by
  simp at h1 h2;subst h1;subst h2;show bindL kindOf ((p,w)::P.zip vs) m p=_;unfold bindL;rw[Bg λv hv=>(List.nodup_cons.mp nd).1 (List.of_mem_zip hv).1,if_pos hk];simp
 |p::P,w::vs,i+1,m,nd,h1,h2,hk=>by
  show bindL kindOf ((p,w)::P.zip vs) m x=_;unfold bindL;exact Bf (i:=i) (List.nodup_cons.mp nd).2 (by simpa using h1) (by simpa using h2) hk
theorem Bd {kindOf:Str->Option NameKind} {x:Str} {v:Value}:∀{P:List Str} {vs:List Value} {i:Nat} {m:Str->Option Value},P.Nodup->P[i]?=some x->vs[i]?=some v->kindOf x≠some .local->
 bindC kindOf (P.zip vs) m x=some v
 |[],_,_,_,_,h,_,_=>by simp at h
 |_::_,[],_,_,_,_,h,_=>by simp at h
 |p::P,w::vs,0,m,nd,h1,h2,hk=>by
  simp at h1 h2;subst h1;subst h2;show bindC kindOf ((p,w)::P.zip vs) m p=_;unfold bindC;rw[Be λv hv=>(List.nodup_cons.mp nd).1 (List.of_mem_zip hv).1,if_neg hk];simp
 |p::P,w::vs,i+1,m,nd,h1,h2,hk=>by
  show bindC kindOf ((p,w)::P.zip vs) m x=_;unfold bindC;exact Bd (i:=i) (List.nodup_cons.mp nd).2 (by simpa using h1) (by simpa using h2) hk
def start (N:List Str) (vs:List V):St:=vs.map some++List.replicate (N.length-vs.length) none
def iF (CX:eR) (P:Program) (w:World) (K:PySem.W.Frag) (mg:Str->Option Value) (base:Heap) (N:List Str) (qual:Str) (scope:Scope) (f:Addr) (cd:Value) (A:Around) (outer:List Env) (s:Shared) (H:Hp) (E:XK):Cx where
 prog:=P
 w:=w
 K:=K
 mg:=mg
 base:=base
 A:=A.deeper (envOfC qual scope s.heap.objs.size f cd)
 N:=N
 cV:=s
 ox:=H
 env:=envOfC qual scope s.heap.objs.size f cd
 outer:=outer
 stack:=envOfC qual scope s.heap.objs.size f cd::outer
 ex:=[]
 calm:=true
 fn:=λ_=>true
 pn:=[]
 xe:=λe s'=>wpAny (model P w) (A.deeper (envOfC qual scope s.heap.objs.size f cd)) (leaving (envOfC qual scope s.heap.objs.size f cd) e) (λ_ s''=>CX outer H s E e s'') (λe' s''=>CX outer H s E e' s'') s'
theorem Bt {sc:Scope} {n:Nat} {x:Str} (h:sc.names.lookup x=some .cell):∃c,(cellsFrom n sc.names []).lookup x=some c:=by
 have q:=PySem.W.cellsFrom_some sc.names n [] (.inl h);exact Option.isSome_iff_exists.mp q
theorem Lw {CX:eR} {P:Program} {w:World} {K:PySem.W.Frag} {mg:Str->Option Value} {base:Heap} {N ps:List Str} {qual:Str} {scope:Scope} {f:Addr} {cd:Value} {A:Around} {outer:List Env} {s s1:Shared} {H:Hp} {E:XK} {us:List Value} {vs:List V}
 (S:aG N ps scope) (hd:A.handled=none) (e0:jl P w K mg base A outer s H) (hl:vs.length=ps.length) (r:Vals vs us)
 (x:InCallC s s.heap.objs.size (bindL (envOfC qual scope s.heap.objs.size f cd).kindOf (ps.zip us) λ_=>none) (cellsFrom (s.heap.objs.size+1) scope.names []) (bindC (envOfC qual scope s.heap.objs.size f cd).kindOf (ps.zip us) λ_=>none) s1):
 Inv (iF CX P w K mg base N qual scope f cd A outer s H E) [] (start N vs) H s1:=by
 have hpl:ps.length<=N.length:=by have:=congrArg List.length S.pre;rw[List.length_take] at this;omega
 obtain⟨h1,tk,rfl,hk⟩:=x.done;have noA:∀b:Addr,b∉(iF CX P w K mg base N qual scope f cd A outer s H E).ex:=λb z=>absurd (show b∈([]:List Addr) from z) (by simp);refine⟨⟨e0.mod,S.kind,rfl,rfl,Nat.le_refl _,λy z c h1 h2=>?_,λy hy=>?_,λy c _ h=>?_,λ_=>hd,Around.frames_deeper e0.frames,.inr ⟨rfl,rfl⟩,λb z=>absurd z (noA b),e0.bs,e0.fX,λb _ _=>noA b,λb z=>absurd z (noA b),e0.ez,e0.gP⟩,
  rfl,e0.bare,Un.kept hk,⟨_,x.toInCall.ns,λi y v h1 h2 h3=>?_⟩,λy c h=>⟨_,x.cell y c h⟩,e0.aw.fresh (Nat.le_refl _),λy c h=>?_,λp hp=>absurd (show p∈([]:List (Addr×Obj)) from hp) (by simp),e0.aw.kept hk,?_⟩
 ·exact name_of_addr x.apart (PySem.mem_of_lookup h1) (PySem.mem_of_lookup h2)
 ·have hy:scope.names.lookup y=some .cell\/scope.names.lookup y=some .free:=hy;rcases hy with hy|hy
  ·exact Bt hy
  ·exact absurd rfl (S.NO _ (PySem.mem_of_lookup hy))
 ·exact Nat.le_of_lt (x.above y c (PySem.mem_of_lookup h))
 ·have hi:i<vs.length:=by
   unfold start at h2;by_cases hi:i<vs.length
   ·exact hi
   ·rw[List.getElem?_append_right (by simpa using hi)] at h2;rw[List.getElem?_replicate] at h2
    split at h2<;>cases h2
  have ha:vs[i]?=some v:=by
   unfold start at h2;rw[List.getElem?_append_left (by simpa using hi),List.getElem?_map] at h2;cases e:vs[i]? with
   |none=>rw[e] at h2;cases h2
   |some a=>rw[e] at h2;cases h2;rfl
  obtain⟨u,hu,rv⟩:=r.get ha;have hp:ps[i]?=some y:=by
   rw[<-S.pre,List.getElem?_take_of_lt (by omega)];exact h1
  have ndP:ps.Nodup:=by rw[<-S.pre];exact S.nd.sublist (List.take_sublist _ _)
  refine⟨u,rv,?_⟩;rcases S.par y (List.mem_of_getElem? hp) with k|k
  ·exact .inl ⟨k,Bf ndP hp hu k⟩
  ·obtain⟨c,e⟩:=Bt (n:=s.heap.objs.size+1) k;refine .inr ⟨.inl k,c,e,?_⟩;have q:=x.cell y c e;rw[Bd ndP hp hu (by show scope.names.lookup y≠_;rw[k];decide)] at q;exact q
 ·exact e0.aw.fresh (Nat.le_of_lt (x.above y c (PySem.mem_of_lookup h)))
 ·unfold start;show _=N.length;rw[List.length_append,List.length_map,List.length_replicate];omega
theorem Cy {CX:eR} {P:Program} {w:World} {K:PySem.W.Frag} {mg:Str->Option Value} {base:Heap} {k:Nat} {f:Addr} {name qual:Str} {params:Arguments} {body:List Stmt} {scope:Scope} {dV kV doc pm cdv ct oc:Value} {an od:Option Addr}
 {osl:Array (Option Value)} {N ps:List Str} {sp:Sp} (lk:K.lookup f=some ⟨oc,od,.func (PySem.W.fnOf name qual params body scope dV kV doc pm an cdv ct),osl⟩) (hcd:PySem.W.codeIn K cdv qual=true) (S:aG N ps scope)
 (len:∀vs H Q E,sp vs H Q E->vs.length=ps.length)
 (hbody:∀(A:Around) (outer:List Env) (s:Shared) (H:Hp) (vs:List V) (Q:VK) (E:XK),cy k (A.deeper (envOfC qual scope s.heap.objs.size f cdv))->sp vs H Q E->
  ∃t,dY (iF CX P w K mg base N qual scope f cdv A outer s H E) body t/\t {nx:=λ_ H'=>Q .aI H',rt:=Q} (start N vs) H):
 aA P w K mg base CX (k+1) f (PySem.W.fnOf name qual params body scope dV kV doc pm an cdv ct) ps sp:=by
 refine⟨len,λA outer s H args us vs Q E hr e0 hb r hsp=>?_⟩;have hl:=len _ _ _ _ hsp;have KX:K.In s.heap:=e0.mod.kX.keeps λb o e=>(e0.bs b o e).1;have lim:s.heap.NoLimit:=e0.mod.nolimit.keeps λb o e=>(e0.bs b o e).1;have hkind:∀y∈ps.zip us,scope.names.lookup y.1=some .local\/(scope.names.lookup y.1=some .cell/\((cellsFrom (s.heap.objs.size+1) scope.names []).lookup y.1).isSome=true):=λ⟨n,v⟩ hy=>by
  rcases S.par n (List.of_mem_zip hy).1 with q|q
  ·exact .inl q
  ·exact .inr ⟨q,PySem.W.cellsFrom_some _ _ _ (.inl q)⟩
 refine codeAny_call_function hr.depth (KX _ _ lk) rfl S.co S.gen rfl (PySem.W.codeRec_of KX hcd) (hb _ _ _ _ ?_);refine wpAny_newFunctionEnv_cells S.kind hkind λenv he s1 x=>?_;subst he;refine⟨lim.keeps x.toInCall.keep,codeAny_func ?_⟩;obtain⟨t,ht,hq⟩:=hbody A outer s H vs Q E (hr.deeper _) hsp;have I:Inv (iF CX P w K mg base N qual scope f cdv A outer s H E) [] (start N vs) H s1:=Lw S hr.hd e0 hl r x;refine wpAny_mono (ht [] s1 (start N vs) H _ I hq) (λfl s' hs=>?_) λe s' hs=>hs;have fin:∀{σ':St} {H':Hp} {v:V} {u:Value},Inv (iF CX P w K mg base N qual scope f cdv A outer s H E) [] σ' H' s'->RelV v u->Q v H'->CE outer P w H s Q u s':=
  λ{σ' H' v u} J rv q=>⟨v,H',J.os,J.bare,J.base,J.aw,rv,q⟩
 cases fl with
 |ret u=>
  obtain⟨v,σ',H',J,rv,q⟩:=hs;exact fin J rv q
 |next=>
  obtain⟨σ',H',J,q⟩:=hs;exact fin (v:=V.aI) (u:=Value.none) J rfl q
 |brk=>
  obtain⟨_,_,_,q⟩:=hs;exact False.elim q
 |cont=>
  obtain⟨_,_,_,q⟩:=hs;exact False.elim q
end L2
namespace L2
open PySem PySem.Spec PyProof.Rows
section
variable {X:Cx} {x:Str} {p pos:Pos} {e:Expr} {es:List Expr} {t:TA} {id T:String} {r:List V->Hp->VK->Prop}
def ue (r:List V->Hp->VK->Prop) (t:TA):TE:=λσ H Q=>t σ H λvs H1=>r vs H1 Q
theorem bh (hc:cR X (.builtin id) r) (hg:Gl X x) (hm:X.mg x=none) (hv:bootBuiltins x=some (.builtin id)) (ha:PA X (e::es) t) (hn:x≠"__name__":=by decide) (hdb:(x==("__debug__":Str))=false:=by decide)
 (he:starEach (e::es) X.env=(false,eval e X.env)::starEach es X.env:=by rfl) (hpl:(backTo pos (starEach es X.env)).any (·.1)=false:=by rfl):PE X (.Call (.Name x p) (e::es) [] pos) (ue r t):=by
 intro pins s σ H Q I h;refine wpAny_Call_Name_kw (kY I hg hm hv ?_ hn hdb);exact PyProof.Rows.callWith_builtin1 (aK (ha pos pins s σ H _ I h) λus s1 ⟨vs,H1,I1,r1,q1⟩=>hc pins s1 σ H1 vs us Q I1 r1 q1) he hpl
theorem lH (hc:cR X (.type T) r) (hg:Gl X x) (hm:X.mg x=none) (hv:bootBuiltins x=some (.type T)) (ha:PA X (e::es) t) (hn:x≠"__name__":=by decide) (hdb:(x==("__debug__":Str))=false:=by decide)
 (he:starEach (e::es) X.env=(false,eval e X.env)::starEach es X.env:=by rfl) (hpl:(backTo pos (starEach es X.env)).any (·.1)=false:=by rfl):PE X (.Call (.Name x p) (e::es) [] pos) (ue r t):=by
 intro pins s σ H Q I h;refine wpAny_Call_Name_kw (kY I hg hm hv ?_ hn hdb);exact PyProof.Rows.callWith_type1 (aK (ha pos pins s σ H _ I h) λus s1 ⟨vs,H1,I1,r1,q1⟩=>hc pins s1 σ H1 vs us Q I1 r1 q1) he hpl
end
end L2
namespace HT
open PySem PyProof.Rows
section
open PySem.SeqAt
open PySem.AutoSeq1 (wpAny_loadPart')
open PySem.MeetsSeq PySem.MeetsSeq2 PySem.MeetsSeq3
end
section
variable {prog:Program} {w:World} {A:Around} {E:Value->Shared->Prop} {s:Shared}
theorem Ip {t b:Addr} {vs ws:List Value} {Q:Value->Shared->Prop} (ht:IsTup s.heap t vs.toArray) (hb:IsTup s.heap b ws.toArray) (hv:vs≠[])
 (h1:ws=[]->Q (.ref t) s) (h2:ws≠[]->Q (.ref s.heap.objs.size) {s with heap:=s.heap.push {cls:= .type "tuple",data:= .seq (vs++ws).toArray}})
 (hsz:vs.length+ws.length<=sizeLine):wpAny (model prog w) A (binaryOp .Add (.ref t) (.ref b)) Q E s:=by
 obtain⟨⟨cls,dd,data,sl⟩,ho,hc,n,hd⟩:=id ht;obtain⟨⟨cls2,dd2,data2,sl2⟩,ho2,hc2,n2,hd2⟩:=id hb;simp only at hc hd hc2 hd2;subst hc hd hc2 hd2;have e:vs.toArray++ws.toArray=(vs++ws).toArray:=by simp
 by_cases hw:ws=[]
 ·exact concat_meets ⟨_,ho,rfl⟩ ⟨_,ho2,rfl⟩ noFill_tuple_add seq_tuple_add PySem.F.slot_tuple_add PySem.F.entry_tuple_add (PySem.F.args_tuple_add_2 _ _)
   (tuple_addW1 t b vs.toArray ws.toArray n n2 dd dd2 sl sl2 (by simpa using hv) (by simp[hw])) ⟨ho,ho2,h1 hw⟩
 ·refine concat_meets ⟨_,ho,rfl⟩ ⟨_,ho2,rfl⟩ noFill_tuple_add seq_tuple_add PySem.F.slot_tuple_add PySem.F.entry_tuple_add (PySem.F.args_tuple_add_2 _ _)
   (tuple_addW2 t b vs.toArray ws.toArray n n2 dd dd2 sl sl2 (by simpa using hv) (by simpa using hw) (by rw[List.size_toArray,List.size_toArray];exact hsz)) ⟨ho,ho2,?_⟩
  rw[e];exact h2 hw
def aW (n d:Nat):Option Int->Nat
 |none=>d
 |some v=>if v<0 then (v+(n:Int)).toNat else min v.toNat n
theorem pT (n d:Nat):aW n d none=d:=rfl
theorem iZ (n d k:Nat):aW n d (some (k:Int))=min k n:=by
 show(if (k:Int)<0 then ((k:Int)+(n:Int)).toNat else min (k:Int).toNat n)=min k n;rw[if_neg (by omega),Int.toNat_natCast]
theorem P9 (n d:Nat) (hd:d<=n) (o:Option Int):aW n d o<=n:=by
 cases o with
 |none=>exact hd
 |some v=>
  show(if v<0 then (v+(n:Int)).toNat else min v.toNat n)<=n;by_cases hv:v<0
  ·rw[if_pos hv];omega
  ·rw[if_neg hv];exact Nat.min_le_right _ _
theorem Bu (v:Int) (n d:Nat):(if v<0 then max (v+(n:Int)) 0 else min v (n:Int))=((aW n d (some v):Nat):Int):=by
 show(if v<0 then max (v+(n:Int)) 0 else min v (n:Int))=(((if v<0 then (v+(n:Int)).toNat else min v.toNat n):Nat):Int)
 by_cases hv:v<0
 ·simp only[if_pos hv];omega
 ·simp only[if_neg hv];omega
theorem GV (lo hi:Option Int) (n:Nat):Builtin.Slice.sliceAdjust lo hi 1 (n:Int)=(((aW n 0 lo:Nat):Int),((aW n n hi:Nat):Int)):=by
 have h1:¬((1:Int)<0):=by omega
 unfold Builtin.Slice.sliceAdjust;simp only[h1,if_false];refine Prod.ext ?_ ?_
 ·cases lo with
  |none=>rfl
  |some v=>exact Bu v n 0
 ·cases hi with
  |none=>rfl
  |some v=>exact Bu v n n
theorem Ph (i j:Nat):Builtin.Slice.slicePlaces (i:Int) (j:Int) 1=j-i:=by
 unfold Builtin.Slice.slicePlaces;have h1:(1:Int)>0:=by omega
 simp only[h1,if_true,Int.ediv_one]
 split<;>omega
theorem F1 {v:Value} {o:Option Int} {Q:Option Int->Shared->Prop} (p:IsPart v o) (h:Q o s):wpAny (model prog w) A (Builtin.Slice.slicePartIndex v) Q E s:=by
 cases p with
 |none=>exact slicePart_none h
 |int i t=>exact slicePart_int h
theorem F0 {sl:Addr} {vl vu:Value} {lo hi:Option Int} {n:Nat} {Q:Int×Int×Nat->Shared->Prop} (hs:s.heap.IsSliceOf sl vl vu .none) (pl:IsPart vl lo) (pu:IsPart vu hi)
 (h:Q (((aW n 0 lo:Nat):Int),1,aW n n hi-aW n 0 lo) s):wpAny (model prog w) A (Builtin.Slice.sliceApplied (.ref sl) (pure (n:Int))) Q E s:=by
 obtain⟨os,hos,hcs,hds⟩:=id hs;unfold Builtin.Slice.sliceApplied Builtin.Slice.sliceFields;refine wpAny_bind (wpAny_bind (wpAny_field hos hds (x:=vl) rfl (wpAny_bind (wpAny_field hos hds (x:=vu) rfl (wpAny_bind (wpAny_field hos hds (x:= .none) rfl (wpAny_pure ?_)))))));refine wpAny_bind (slicePart_none ?_);show wpAny _ _ (if ((1:Int)==0)=true then _ else _) _ _ s;rw[if_neg (by decide)];refine wpAny_bind (F1 pl (wpAny_bind (F1 pu (wpAny_bind (wpAny_pure ?_)))));show wpAny _ _ (match Builtin.Slice.sliceAdjust lo hi 1 (n:Int) with|(lo,hi)=>pure (lo,(1:Int),Builtin.Slice.slicePlaces lo hi 1)) _ _ s;rw[GV lo hi n];show wpAny _ _ (pure (((aW n 0 lo:Nat):Int),(1:Int),Builtin.Slice.slicePlaces ((aW n 0 lo:Nat):Int) ((aW n n hi:Nat):Int) 1)) _ _ s;rw[Ph];exact wpAny_pure h
theorem Pf (xs:Array Value) (i k:Nat):((List.range k).filterMap λ(m:Nat)=>xs[((i:Int)+(m:Int)*1).toNat]?).toArray=((xs.toList.drop i).take k).toArray:=by
 have e:(λ(m:Nat)=>xs[((i:Int)+(m:Int)*1).toNat]?)=λm=>xs[i+m]?:=by
  funext m;have:((i:Int)+(m:Int)*1).toNat=i+m:=by omega
  rw[this]
 rw[e];have:=pick_run xs i k;rw[List.filterMap_map] at this;have e2:((λx=>xs[x]?)∘λx=>i+x)=λm=>xs[i+m]?:=rfl;rw[e2] at this;rw[this]
theorem La {t sl:Addr} {items:Array Value} {vl vu:Value} {lo hi:Option Int} {Q:Value->Shared->Prop} (ht:IsTup s.heap t items) (hs:s.heap.IsSliceOf sl vl vu .none) (pl:IsPart vl lo) (pu:IsPart vu hi)
 (hw:¬(aW items.size 0 lo=0/\aW items.size items.size hi=items.size))
 (h:Q (.ref s.heap.objs.size) {s with heap:=s.heap.push {cls:= .type "tuple",data:= .seq ((items.toList.drop (aW items.size 0 lo)).take (aW items.size items.size hi-aW items.size 0 lo)).toArray}})
 (hsz:items.size<=sizeLine):wpAny (model prog w) A (getItem (.ref t) (.ref sl)) Q E s:=by
 have htake:sizeOk (.seq ((items.toList.drop (aW items.size 0 lo)).take (aW items.size items.size hi-aW items.size 0 lo)).toArray):=by
  show((items.toList.drop (aW items.size 0 lo)).take (aW items.size items.size hi-aW items.size 0 lo)).toArray.size<=sizeLine;rw[List.size_toArray,List.length_take,List.length_drop,Array.length_toList];omega
 have hj:aW items.size items.size hi<=items.size:=P9 _ _ (Nat.le_refl _) hi;obtain⟨os,hos,hcs,hds⟩:=id hs;have hTs:s.TypeIs (.ref sl) "slice":=⟨os,hos,hcs⟩
 unfold getItem
 try with_reducible refine wpAny_holding ?_
 first|refine wpAny_bind (wpAny_pure ?_)|skip
 refine wpAny_bind (wpAny_sequenceKey ht.typeIs (by decide) ?_);refine wpAny_bind (wpAny_callSpecial?_slot (name:=Str.ofString "__getitem__") ht.typeIs PyProof.Rows.slot_tuple_getitem
  (wpAny_call_entry PyProof.Rows.slot_tuple_getitem ht.typeIs entry_tuple_getitem ?_ (args_tuple_getitem _ _)))
 show wpAny _ _ (Builtin.Tuple.tupleItemsOf (.ref t) >>=_) _ _ s;refine wpAny_bind (tupleItemsOf_ ht ?_);refine wpAny_bind (wpAny_typeOf hTs ?_);rw[if_pos (by decide)];refine wpAny_bind (F0 hs pl pu ?_);have hno:¬((((aW items.size 0 lo:Nat):Int)==0&&(1:Int)==1&&(aW items.size items.size hi-aW items.size 0 lo)==items.size)=true):=by
  intro q;rw[Bool.and_eq_true,Bool.and_eq_true] at q;have q1:((aW items.size 0 lo:Nat):Int)=0:=eq_of_beq q.1.1;have q2:aW items.size items.size hi-aW items.size 0 lo=items.size:=eq_of_beq q.2;exact hw ⟨by omega,by omega⟩
 show wpAny _ _ (if (((aW items.size 0 lo:Nat):Int)==0&&(1:Int)==1&&(aW items.size items.size hi-aW items.size 0 lo)==items.size)=true then _ else _) _ _ s;rw[if_neg hno,Pf]
 first
  |exact wpAny_bind (m:=Builtin.Tuple.tupleExact _) (wpAny_newObj_type (wpAny_pure ⟨_,rfl,wpAny_pure h⟩) htake)
  |exact wpAny_bind (m:=Builtin.Tuple.tupleExact _) (wpAny_newObj_type (wpAny_bind (wpAny_pure (wpAny_pure ⟨_,rfl,wpAny_pure h⟩))) htake)
  |exact wpAny_bind (wpAny_bind (m:=Builtin.Tuple.tupleExact _) (wpAny_newObj_type (wpAny_pure (wpAny_pure ⟨_,rfl,wpAny_pure h⟩)) htake))
  |exact wpAny_bind (wpAny_bind (m:=Builtin.Tuple.tupleExact _) (wpAny_newObj_type (wpAny_pure ⟨_,rfl,wpAny_pure h⟩) htake))
end
end HT
namespace L2
open PySem PySem.Spec PyProof.Rows
abbrev TO:=St->Hp->(Option Int->Hp->Prop)->Prop
def PO (X:Cx) (e:Option Expr) (t:TO):Prop:=
 ∀(pins:List (Addr×Obj)) (s:Shared) (σ:St) (H:Hp) (Q:Option Int->Hp->Prop),Inv X pins σ H s->t σ H Q->
  wpAny (model X.prog X.w) X.A (evalPart e X.env) (λu s'=>∃o H',Inv X pins σ H' s'/\IsPart u o/\Q o H') X.xe s
def Sz:TO:=λ_ H Q=>Q none H
def Ag (t:TE):TO:=λσ H Q=>t σ H λx H1=>∃i,x= .int i/\Q (some i) H1
section
variable {X:Cx} {e:Expr} {te:TE} {lo hi:Option Expr} {tl th:TO} {pos p2:Pos}
theorem gC:PO X none Sz:=by
 intro pins s σ H Q I h;rw[evalPart_none];exact wpAny_pure ⟨none,H,I,.none,h⟩
theorem fe (h:PE X e te):PO X (some e) (Ag te):=by
 intro pins s σ H Q I hw;rw[evalPart_some];refine aK (h pins s σ H _ I hw) λu s1 ⟨x,H1,I1,r1,q1⟩=>?_;obtain⟨i,rfl,q⟩:=q1;obtain⟨t,rfl⟩:=r1;exact⟨some i,H1,I1,.int i t,q⟩
def oF (X:Cx) (r:V->Option Int->Option Int->Hp->VK->Prop):Prop:=
 ∀(pins:List (Addr×Obj)) (s:Shared) (σ:St) (H:Hp) (x:V) (v vl vu:Value) (lo hi:Option Int) (sl:Addr) (Q:VK),Inv X pins σ H s->RelV x v->s.heap.IsSliceOf sl vl vu .none->IsPart vl lo->IsPart vu hi->r x lo hi H Q->
  ∃T id,typeLookup (.type T) "__getitem__"=pure (some (.builtin id))/\s.TypeIs v T/\wpAny (model X.prog X.w) X.A (getItem v (.ref sl)) (EP X pins σ Q) X.xe s
def Gq (r:V->Option Int->Option Int->Hp->VK->Prop) (te:TE) (tl th:TO):TE:=λσ H Q=>te σ H λx H1=>tl σ H1 λl H2=>th σ H2 λu H3=>r x l u H3 Q
theorem fP {r:V->Option Int->Option Int->Hp->VK->Prop} (hr:oF X r) (he:PE X e te) (hl:PO X lo tl) (hu:PO X hi th):PE X (.Subscript e (.Slice lo hi none p2) pos) (Gq r te tl th):=by
 intro pins s σ H Q I h;refine Subscript_ (aK (he pins s σ H _ I h) λv s1 ⟨x,H1,I1,r1,q1⟩=>?_);refine wpAny_Slice (aK (hl pins s1 σ H1 _ I1 q1) λvl s2 ⟨l,H2,I2,pl,q2⟩=>aK (hu pins s2 σ H2 _ I2 q2) λvu s3 ⟨u,H3,I3,pu,q3⟩=>?_);rw[evalPart_none];refine wpAny_pure ?_;have I4:Inv X pins σ H3 {s3 with heap:=s3.heap.push {cls:= .type "slice",data:= .fields #[vl,vu,.none]}}:=I3.kept (t':=s3.toks) λb ob q=>Heap.get?_push_of_some _ q;obtain⟨T,id,hT,ht,hg⟩:=hr pins {s3 with heap:=s3.heap.push {cls:= .type "slice",data:= .fields #[vl,vu,.none]}} σ H3 x v vl vu l u s3.heap.objs.size Q I4 r1 (Heap.IsSliceOf.new ..) pl pu q3;show wpAny (model X.prog X.w) X.A (subscriptTail e (.Slice lo hi none p2) v (.ref s3.heap.objs.size)) (EP X pins σ Q) X.xe {s3 with heap:=s3.heap.push {cls:= .type "slice",data:= .fields #[vl,vu,.none]}};exact tail_any (ops:=[.ref s3.heap.objs.size,v]) ht hT hg (by with_unfolding_all rfl)
def cM (xs:List V) (lo hi:Option Int):List V:=(xs.drop (HT.aW xs.length 0 lo)).take (HT.aW xs.length xs.length hi-HT.aW xs.length 0 lo)
theorem BU (xs:List V) (lo hi:Option Int):(cM xs lo hi).length<=xs.length:=by
 unfold cM;rw[List.length_take,List.length_drop];omega
def PB (K:PySem.W.Frag):V->Option Int->Option Int->Hp->VK->Prop:=λx lo hi H Q=>∃a xs,x= .ref a/\ba K H a xs/\
 ¬(HT.aW xs.length 0 lo=0/\HT.aW xs.length xs.length hi=xs.length)/\∀p,H p=none->Q (.ref p) (upd H p (.tup (cM xs lo hi)))
theorem QZ:oF X (PB X.K):=by
 intro pins s σ H x v vl vu lo hi sl Q I rx hs pl pu h;obtain⟨a,xs,rfl,hx,hw,q⟩:=h;cases rx;obtain⟨its,r,ht,hz⟩:=I.tuple hx;have hlen:its.toArray.size=xs.length:=by rw[List.size_toArray];exact r.length.symm
 refine⟨"tuple",_,PyProof.Rows.slot_tuple_getitem.lookup,ht.typeIs,?_⟩;refine HT.La ht hs pl pu (by rw[hlen];exact hw) ?_ (by rw[hlen];exact hz);rw[hlen];refine⟨.ref s.heap.objs.size,_,I.laid (t':=s.toks) (o:= .tup (cM xs lo hi)) (λb ob q=>Heap.get?_push_of_some _ q) (Nat.le_refl _) ?_,rfl,q _ (I.aw.fresh (Nat.le_refl _))⟩;exact⟨Nat.le_trans (BU xs lo hi) hz,_,(r.drop (HT.aW xs.length 0 lo)).take (HT.aW xs.length xs.length hi-HT.aW xs.length 0 lo),IsTup.new _ _⟩
def Pr (K:PySem.W.Frag):R2:=λx y H Q=>∃a b xs ys,x= .ref a/\y= .ref b/\ba K H a xs/\ba K H b ys/\xs≠[]/\xs.length+ys.length<=sizeLine/\
 (ys=[]->Q (.ref a) H)/\(ys≠[]->∀p,H p=none->Q (.ref p) (upd H p (.tup (xs++ys))))
theorem Vals.xt {xs:List V} {us:List Value} (r:Vals xs us):us=[]↔xs=[]:=by
 cases r with
 |nil=>simp
 |cons _ _=>simp
theorem OT:cq X (binaryOp .Add) (Pr X.K):=by
 intro pins s σ H x y v u Q I rx ry h;obtain⟨a,b,xs,ys,rfl,rfl,ha,hb,hx,hz,q1,q2⟩:=h;cases rx;cases ry;obtain⟨its,r1,p1,_⟩:=I.tuple ha;obtain⟨its2,r2,p2,_⟩:=I.tuple hb;refine HT.Ip p1 p2 (λz=>hx (r1.xt.mp z)) (λz=>⟨.ref a,H,I,rfl,q1 (r2.xt.mp z)⟩) (λz=>?_) (by rw[<-r1.length,<-r2.length];exact hz);refine⟨.ref s.heap.objs.size,_,I.laid (t':=s.toks) (o:= .tup (xs++ys)) (λb ob q=>Heap.get?_push_of_some _ q) (Nat.le_refl _) ?_,rfl,q2 (λw=>z (r2.xt.mpr w)) _ (I.aw.fresh (Nat.le_refl _))⟩;exact⟨by rw[List.length_append];exact hz,_,r1.append r2,IsTup.new _ _⟩
end
end L2
namespace L2
open PySem PySem.Spec PyProof.Rows
def mT (n:Nat) (i:Int):Option Nat:=if 0<=i then (if i<n then some i.toNat else none) else if -(n:Int)<=i then some (i+n).toNat else none
def mB {α:Type} (xs:List α) (i:Int):Option α:=(mT xs.length i).bind λj=>xs[j]?
theorem L8 {n:Nat} {i:Int} {j:Nat} (h:mT n i=some j):seqIndex? i n=some j/\j<n/\ -(n:Int)<=i/\i<n:=by
 unfold mT at h;by_cases h0:0<=i
 ·rw[if_pos h0] at h;by_cases h1:i<n
  ·rw[if_pos h1] at h;have e:i.toNat=j:=Option.some.inj h;exact⟨by rw[seqIndex_of h0 h1,e],by omega,by omega,h1⟩
  ·rw[if_neg h1] at h;cases h
 ·rw[if_neg h0] at h;by_cases h1: -(n:Int)<=i
  ·rw[if_pos h1] at h;have e:(i+n).toNat=j:=Option.some.inj h;exact⟨by rw[seqIndex_neg (by omega) h1,e],by omega,h1,by omega⟩
  ·rw[if_neg h1] at h;cases h
theorem AN {α:Type} {xs:List α} {i:Int} {v:α} (h:mB xs i=some v):∃j,seqIndex? i xs.length=some j/\xs[j]?=some v/\j<xs.length/\ -(xs.length:Int)<=i/\i<xs.length:=by
 unfold mB at h;cases e:mT xs.length i with
 |none=>rw[e] at h;cases h
 |some j=>
  rw[e] at h;obtain⟨h1,h2,h3,h4⟩:=L8 e;exact⟨j,h1,h,h2,h3,h4⟩
theorem cK {α:Type} {xs:List α} {j:Nat} {v:α} (h:xs[j]?=some v):mB xs (j:Int)=some v:=by
 have hj:j<xs.length:=(List.getElem?_eq_some_iff.mp h).1;have e:mT xs.length (j:Int)=some j:=by
  unfold mT;rw[if_pos (by omega),if_pos (by omega)];simp
 unfold mB;rw[e];exact h
def GP (b:Expr):Prop:=∀o i,subscripted b false o i=operate [o,i] (getItem o i)
def ux (X:Cx) (r:R2):Prop:=
 ∀(value slice:Expr) (pins:List (Addr×Obj)) (s:Shared) (σ:St) (H:Hp) (x y:V) (v u:Value) (Q:VK),Inv X pins σ H s->RelV x v->RelV y u->r x y H Q->
  subscripted slice false v u=operate [v,u] (getItem v u)->wpAny (model X.prog X.w) X.A (subscriptTail value slice v u) (EP X pins σ Q) X.xe s
def Ax (X:Cx) (id:String) (r:V->List V->Hp->VK->Prop):Prop:=
 ∀(pins:List (Addr×Obj)) (s:Shared) (σ:St) (H:Hp) (x:V) (xs:List V) (v:Value) (us:List Value) (Q:VK),Inv X pins σ H s->RelV x v->Vals xs us->r x xs H Q->
  wpAny (model X.prog X.w) X.A (call (.builtin id) (v::us)) (EP X pins σ Q) X.xe s
section
variable {X:Cx} {a b:Expr} {ta tb:TE} {pos:Pos}
theorem cN {r:R2} (hr:ux X r) (ha:PE X a ta) (hb:PE X b tb) (hs:GP b):PE X (.Subscript a b pos) (cW r ta tb):=by
 intro pins s σ H Q I h;exact Subscript_ (u5 ha hb I h λv u s2 x y H2 I2 rx ry q=>hr a b pins s2 σ H2 x y v u Q I2 rx ry q (hs _ _))
def sY (K:PySem.W.Frag):R2:=λx y H Q=>∃p xs i v,x= .ref p/\y= .int i/\ak K H p xs/\mB xs i=some v/\Q v H
def Px (K:PySem.W.Frag):R2:=λx y H Q=>∃p xs i v,x= .ref p/\y= .int i/\ba K H p xs/\mB xs i=some v/\Q v H
theorem eA:ux X (sY X.K):=by
 intro value slice pins s σ H x y v u Q I rx ry h hs;obtain⟨p,xs,i,z,rfl,rfl,hq,he,q⟩:=h;cases rx;obtain⟨t,rfl⟩:=ry;obtain⟨its,r,pl,hz⟩:=I.list hq;obtain⟨j,h1,h2,h3,h4,h5⟩:=AN he;obtain⟨w,ew,rw'⟩:=r.get h2;have hl:=r.length;have hn:=wJ;have fin:EP X pins σ Q w s:=⟨z,H,I,rw',q⟩
 by_cases h0:0<=i
 ·have hj:i.toNat=j:=by
   rw[seqIndex_of h0 h5] at h1;exact Option.some.inj h1
  exact item_listR pl.isList h0 (by omega) (by rw[hj];simpa using ew) fin hs
 ·have hj:(i+(its.toArray.size:Int)).toNat=j:=by
   rw[seqIndex_neg (by omega) h4] at h1;rw[List.size_toArray,<-hl];exact Option.some.inj h1
  exact subscriptTail_builtinR (x:=w) pl.isList.typeIs slot_list_getitem.lookup
   (wpAny_getItem_list_neg (Q:=λr s'=>r=w/\EP X pins σ Q r s') pl.isList (by omega) (by rw[List.size_toArray]<;>omega) (by omega) (by rw[hj];simpa using ew) ⟨rfl,fin⟩) hs
theorem gX:ux X (Px X.K):=by
 intro value slice pins s σ H x y v u Q I rx ry h hs;obtain⟨p,xs,i,z,rfl,rfl,hq,he,q⟩:=h;cases rx;obtain⟨t,rfl⟩:=ry;obtain⟨its,r,pl,hz⟩:=I.tuple hq;obtain⟨j,h1,h2,h3,h4,h5⟩:=AN he;obtain⟨w,ew,rw'⟩:=r.get h2;have hl:=r.length;have hn:=wJ;have fin:EP X pins σ Q w s:=⟨z,H,I,rw',q⟩
 exact subscriptTail_builtinR (x:=w) pl.typeIs slot_tuple_getitem.lookup
  (getItem_tuple (j:=j) (Q:=λr s'=>r=w/\EP X pins σ Q r s') pl (by omega) (by omega) (by rw[List.size_toArray,<-hl];exact h1) (by simpa using ew) ⟨rfl,fin⟩) hs
theorem Q2 (lo hi:Option Int) (n:Nat):(sliceBounds lo hi none n).1=((HT.aW n 0 lo:Nat):Int)/\(sliceBounds lo hi none n).2.1=((HT.aW n n hi:Nat):Int)/\(sliceBounds lo hi none n).2.2=1:=by
 refine⟨?_,?_,rfl⟩
 ·cases lo with
  |none=>simp[sliceBounds,HT.aW]
  |some i=>
   simp only[sliceBounds,HT.aW,Option.getD_none,show(1:Int)>0 by decide,if_true];by_cases h:i<0
   ·simp only[h,if_true]<;>omega
   ·simp only[h,if_false]<;>omega
 ·cases hi with
  |none=>simp[sliceBounds,HT.aW]
  |some i=>
   simp only[sliceBounds,HT.aW,Option.getD_none,show(1:Int)>0 by decide,if_true];by_cases h:i<0
   ·simp only[h,if_true]<;>omega
   ·simp only[h,if_false]<;>omega
theorem Q0 (its:List Value) (lo hi:Option Int):slicePick its.toArray lo hi none=((its.drop (HT.aW its.length 0 lo)).take (HT.aW its.length its.length hi-HT.aW its.length 0 lo)).toArray:=by
 obtain⟨h1,h2,h3⟩:=Q2 lo hi its.toArray.size;unfold slicePick;rw[h1,h2,h3];simp only[sliceRange_one,pick_run,List.size_toArray]<;>rfl
def Pz (K:PySem.W.Frag):V->Option Int->Option Int->Hp->VK->Prop:=λx lo hi H Q=>∃a xs,x= .ref a/\ak K H a xs/\∀p,H p=none->Q (.ref p) (upd H p (.lst (cM xs lo hi)))
theorem QY:oF X (Pz X.K):=by
 intro pins s σ H x v vl vu lo hi sl Q I rx hs pl pu h;obtain⟨a,xs,rfl,hx,q⟩:=h;cases rx;obtain⟨its,r,ht,hz⟩:=I.list hx;have hlen:=r.length;refine⟨"list",_,slot_list_getitem.lookup,ht.isList.typeIs,?_⟩;refine wpAny_getItem_list_slice ht.isList hs pl pu .none (by simp) ?_ (by rw[List.size_toArray]<;>omega);rw[Q0,<-hlen];refine⟨.ref s.heap.objs.size,_,I.laid (t':=s.toks) (o:= .lst (cM xs lo hi)) (λb ob q=>Heap.get?_push_of_some _ q) (Nat.le_refl _) ?_,rfl,q _ (I.aw.fresh (Nat.le_refl _))⟩;exact⟨Nat.le_trans (BU xs lo hi) hz,_,0,(r.drop (HT.aW xs.length 0 lo)).take (HT.aW xs.length xs.length hi-HT.aW xs.length 0 lo),Heap.get?_push_size _ rfl⟩
def eT:V->Bool
 | .aI=>true
 | .bl _=>true
 | .int _=>true
 | .str _=>true
 |_=>false
def fY:V->V->Bool
 | .aI,.aI=>true
 | .bl a,.bl b=>a==b
 | .bl a,.int b=>(if a then 1 else 0)==b
 | .int a,.bl b=>a==(if b then 1 else 0)
 | .int a,.int b=>a==b
 | .str a,.str b=>a==b
 |_,_=>false
theorem JC {A:Around} {s:Shared} {y x:V} {u v:Value} (ry:RelV y u) (rx:RelV x v) (fy:eT y=true) (fx:eT x=true):SeqAt.EqAt A s u v (fY y x):=by
 cases y with
 |aI=>
  cases ry;cases x with
  |aI=>cases rx;exact SeqAt.EqAt.same _
  |bl b=>cases rx;exact SeqAt.EqAt.none_bool b
  |int b=>obtain⟨t,rfl⟩:=rx;exact SeqAt.EqAt.none_int b t
  |str b=>obtain⟨t,rfl⟩:=rx;exact SeqAt.EqAt.none_str b t
  |_=>exact absurd (show false=true from fx) Bool.false_ne_true
 |bl a=>
  cases ry;cases x with
  |aI=>cases rx;exact SeqAt.EqAt.bool_none a
  |bl b=>cases rx;exact SeqAt.EqAt.bool_bool a b
  |int b=>obtain⟨t,rfl⟩:=rx;exact SeqAt.EqAt.bool_int a b t
  |str b=>obtain⟨t,rfl⟩:=rx;exact SeqAt.EqAt.bool_str a b t
  |_=>exact absurd (show false=true from fx) Bool.false_ne_true
 |int a=>
  obtain⟨t',rfl⟩:=ry;cases x with
  |aI=>cases rx;exact SeqAt.EqAt.int_none a t'
  |bl b=>cases rx;exact SeqAt.EqAt.int_bool a t' b
  |int b=>obtain⟨t,rfl⟩:=rx;exact SeqAt.EqAt.int_int a t' b t
  |str b=>obtain⟨t,rfl⟩:=rx;exact SeqAt.EqAt.int_str a t' b t
  |_=>exact absurd (show false=true from fx) Bool.false_ne_true
 |str a=>
  obtain⟨t',rfl⟩:=ry;cases x with
  |aI=>cases rx;exact SeqAt.EqAt.str_none a t'
  |bl b=>cases rx;exact SeqAt.EqAt.str_bool a t' b
  |int b=>obtain⟨t,rfl⟩:=rx;exact SeqAt.EqAt.str_int a t' b t
  |str b=>obtain⟨t,rfl⟩:=rx;exact SeqAt.EqAt.str_str a t' b t
  |_=>exact absurd (show false=true from fx) Bool.false_ne_true
 |_=>exact absurd (show false=true from fy) Bool.false_ne_true
def gr (x:V) (u:Value):Bool:=match u with
 | .none=>fY .aI x
 | .bool b=>fY (.bl b) x
 | .int i _=>fY (.int i) x
 | .str z _=>fY (.str z) x
 |_=>false
theorem qW {x y:V} {u:Value} (r:RelV y u) (f:eT y=true):gr x u=fY y x:=by
 cases y with
 |aI=>cases r;rfl
 |bl b=>cases r;rfl
 |int i=>obtain⟨t,rfl⟩:=r;rfl
 |str z=>obtain⟨t,rfl⟩:=r;rfl
 |_=>exact absurd (show false=true from f) Bool.false_ne_true
theorem uH {x:V}:∀{xs:List V} {us:List Value},Vals xs us->xs.all eT=true->us.any (gr x)=xs.any λy=>fY y x
 |_,_,.nil,_=>rfl
 |y::xs,u::us,.cons r t,f=>by
  rw[List.all_cons,Bool.and_eq_true] at f;rw[List.any_cons,List.any_cons,qW r f.1,uH t f.2]
theorem rO {A:Around} {s:Shared} {x:V} {v:Value} (rx:RelV x v) (fx:eT x=true):∀{xs:List V} {us:List Value},Vals xs us->xs.all eT=true->∀u∈us,SeqAt.EqAt A s u v (gr x u)
 |_,_,.nil,_=>λu hu=>by cases hu
 |y::xs,u::us,.cons r t,f=>λu' hu=>by
  rw[List.all_cons,Bool.and_eq_true] at f;rcases List.mem_cons.mp hu with rfl|hu
  ·rw[qW r f.1];exact JC r rx f.1 fx
  ·exact rO rx fx t f.2 u' hu
def dc (x:V) (xs:List V):Bool:=xs.any λy=>fY y x
def il (K:PySem.W.Frag) (neg:Bool):R2:=λx y H Q=>∃p xs,y= .ref p/\(ak K H p xs\/ba K H p xs)/\eT x=true/\xs.all eT=true/\Q (.bl (if neg then !dc x xs else dc x xs)) H
theorem iV:cq X (compareOp .In) (il X.K false):=by
 intro pins s σ H x y v u Q I rx ry h;obtain⟨p,xs,rfl,hq,fx,fs,q⟩:=h;cases ry;rcases hq with hq|hq
 ·obtain⟨its,r,pl,hz⟩:=I.list hq;refine SeqAt.in_listAt (gr x) pl.isList (λw hw=>rO rx fx r fs w (by simpa using hw)) ⟨.bl _,H,I,rfl,?_⟩;rw[show its.toArray.any (gr x)=its.any (gr x) by simp,uH r fs];exact q
 ·obtain⟨its,r,pl,hz⟩:=I.tuple hq;refine SeqAt.in_tupleAt (gr x) pl (λw hw=>rO rx fx r fs w (by simpa using hw)) ⟨.bl _,H,I,rfl,?_⟩;rw[show its.toArray.any (gr x)=its.any (gr x) by simp,uH r fs];exact q
theorem bH:cR X (.builtin "len") (λxs H Q=>∃p ys,xs=[.ref p]/\(ak X.K H p ys\/ba X.K H p ys)/\Q (.int ys.length) H):=by
 intro pins s σ H xs us Q I r h;obtain⟨p,ys,rfl,hq,q⟩:=h;obtain⟨u,rfl,rx⟩:=vals1 r;cases rx;have hn:=wJ;rcases hq with hq|hq
 ·obtain⟨its,r',pl,hz⟩:=I.list hq;have hlen:=r'.length;exact Calls.call_len_list pl.isList (by simp only[List.size_toArray]<;>omega) ⟨.int ys.length,H,I.tok _,⟨s.toks+1,by rw[List.size_toArray,hlen]⟩,q⟩
 ·obtain⟨its,r',pl,hz⟩:=I.tuple hq;have hlen:=r'.length;exact len_tuple pl (by simp only[List.size_toArray]<;>omega) ⟨.int ys.length,H,I.tok _,⟨s.toks+1,by rw[List.size_toArray,hlen]⟩,q⟩
theorem Il:cR X (.type "list") (λxs H Q=>∃p ys,xs=[.ref p]/\(ak X.K H p ys\/ba X.K H p ys)/\∀l,H l=none->Q (.ref l) (upd H l (.lst ys))):=by
 intro pins s σ H xs us Q I r h;obtain⟨p,ys,rfl,hq,q⟩:=h;obtain⟨u,rfl,rx⟩:=vals1 r;cases rx;have fin:∀(its:List Value),Vals ys its->ys.length<=sizeLine->∀(h':Heap) (c':Nat),(∀b o',s.heap.get? b=some o'->h'.get? b=some o')->
  h'.get? s.heap.objs.size=some {cls:= .type "list",dict:=none,data:= .seq its.toArray c',slots:=#[]}->EP X pins σ Q (.ref s.heap.objs.size) {s with heap:=h'}:=λits r' hz h' c' kp e=>
  ⟨.ref s.heap.objs.size,_,I.laid (t':=s.toks) kp (Nat.le_refl _) (show bO X.prog X.w _ h' _ (.lst ys) from ⟨hz,its,c',r',e⟩),rfl,q _ (I.aw.fresh (Nat.le_refl _))⟩
 rcases hq with hq|hq
 ·obtain⟨its,r',pl,hz⟩:=I.list hq;have hlen:=r'.length;obtain⟨o,ho,hc,n,hd⟩:=pl.isList;exact call_list_seq p (.inl rfl) ho hc hd (λh' c' kp e=>fin its r' hz h' c' kp e) (by simp only[List.size_toArray]<;>omega)
 ·obtain⟨its,r',pl,hz⟩:=I.tuple hq;have hlen:=r'.length;obtain⟨o,ho,hc,n,hd⟩:=pl;exact call_list_seq p (.inr rfl) ho hc hd (λh' c' kp e=>fin its r' hz h' c' kp e) (by simp only[List.size_toArray]<;>omega)
theorem Br:cR X (.type "tuple") (λxs H Q=>∃p ys,xs=[.ref p]/\((ak X.K H p ys/\∀l,H l=none->Q (.ref l) (upd H l (.tup ys)))\/(ba X.K H p ys/\Q (.ref p) H))):=by
 intro pins s σ H xs us Q I r h;obtain⟨p,ys,rfl,h⟩:=h;obtain⟨u,rfl,rx⟩:=vals1 r;cases rx;rcases h with ⟨hq,q⟩|⟨hq,q⟩
 ·obtain⟨its,r',pl,hz⟩:=I.list hq;have hlen:=r'.length;refine call_tuple_list pl.isList (λh' kp=>?_) (by simp only[List.size_toArray]<;>omega);have I1:Inv X pins σ H {s with heap:=h'}:=I.kept (t':=s.toks) kp;have I2:Inv X pins σ (upd H h'.objs.size (.tup ys)) {s with heap:=h'.push {cls:= .type "tuple",data:= .seq its.toArray}}:=
   I1.laid (t':=s.toks) (λb o e=>Heap.get?_push_of_some _ e) (Nat.le_refl _) (show bO X.prog X.w _ _ _ (.tup ys) from ⟨hz,its,r',IsTup.new _ _⟩)
  exact⟨.ref h'.objs.size,_,I2,rfl,q _ (I1.aw.fresh (Nat.le_refl _))⟩
 ·obtain⟨its,r',pl,hz⟩:=I.tuple hq;exact call_tuple_same pl ⟨.ref p,H,I,rfl,q⟩
def GB (K:PySem.W.Frag) (T:String) (x:V) (H:Hp):Prop:=match x with
 | .str _=>T="str"
 | .int _=>T="int"
 | .ref p=>(T="list"/\∃xs,ak K H p xs)\/(T="tuple"/\∃o,K.lookup p=some o/\o.cls= .type "tuple"/\o.dict=none)\/
  (T="dict"/\((∃kvs,H p=some (.dK kvs))\/∃kvs,H p=some (.dT kvs)))\/(T="set"/\∃S n,H p=some (.set S n))
 |_=>False
theorem To {pins:List (Addr×Obj)} {σ:St} {H:Hp} {s:Shared} {T:String} {x:V} {v:Value} (I:Inv X pins σ H s) (r:RelV x v) (ty:GB X.K T x H):
 s.TypeIs v T/\∀a,v= .ref a->∃ob,s.heap.get? a=some ob/\ob.dict=none:=by
 cases x with
 |str z=>
  obtain⟨t,rfl⟩:=r;cases(show T="str" from ty);exact⟨typeIs_str s z t,λ_ e=>nomatch e⟩
 |int i=>
  obtain⟨t,rfl⟩:=r;cases(show T="int" from ty);exact⟨typeIs_int s i t,λ_ e=>nomatch e⟩
 |ref p=>
  cases r;rcases ty with ⟨rfl,xs,hq⟩|⟨rfl,o,hk,hc,hd⟩|⟨rfl,hk⟩|⟨rfl,S,n,hk⟩
  ·obtain⟨its,_,pl,_⟩:=I.list hq;refine⟨pl.isList.typeIs,λa e=>?_⟩;cases e;obtain⟨o,n,e,c,hd,_⟩:=pl;exact⟨o,e,hd⟩
  ·refine⟨⟨o,I.cG p o hk,hc⟩,λa e=>?_⟩;cases e;exact⟨o,I.cG _ o hk,hd⟩
  ·have z:∃o,s.heap.get? p=some o/\o.ExactDict:=by
    rcases hk with ⟨kvs,hk⟩|⟨kvs,hk⟩
    ·obtain⟨_,_,_,_,o,_,_,e,ex,_⟩:=I.aw p _ hk;exact⟨o,e,ex⟩
    ·obtain⟨_,_,_,_,o,_,_,e,ex,_⟩:=I.aw p _ hk;exact⟨o,e,ex⟩
   obtain⟨o,e,ex⟩:=z;refine⟨⟨o,e,ex.1⟩,λa e2=>?_⟩;cases e2;exact⟨o,e,ex.2.1⟩
  ·obtain⟨o,_,_,_,e,ex,_⟩:=I.aw p _ hk;refine⟨⟨o,e,ex.1⟩,λa e2=>?_⟩;cases e2;exact⟨o,e,ex.2.1⟩
 |_=>exact False.elim ty
def Gk (K:PySem.W.Frag) (T:String) (r:V->List V->Hp->VK->Prop) (to:TE) (t:TA):TE:=λσ H Q=>to σ H λx H1=>GB K T x H1/\t σ H1 λxs H2=>r x xs H2 Q
variable {o e:Expr} {es:List Expr} {to:TE} {t:TA} {name:Str} {apos cpos:Pos} {T id:String} {r:V->List V->Hp->VK->Prop}
theorem eC (pa:PlainAttrs T) (slot:Slot T name id) (hty:typeOf (.builtin id)=pure (.type "method_descriptor")) (hm:Ax X id r) (ho:PE X o to) (ha:PA X (e::es) t)
 (hbase:attributeBase o name X.env (eval o X.env)=eval o X.env:=by rfl)
 (hfew:((backTo cpos (starEach (e::es) X.env)).all (λx=>!x.1)&&(backToKw cpos (keywordEach [] X.env)).all (λx=>x.1.isSome)
  &&decide ((e::es).length+([]:List Keyword).length+(if ([]:List Keyword).isEmpty then 0 else 1)<30))=true:=by rfl)
 (hline:(apos.endLine==cpos.line)=true:=by rfl) (hs:starEach (e::es) X.env=(false,eval e X.env)::starEach es X.env:=by rfl) (hplain:(backTo cpos (starEach es X.env)).any (·.1)=false:=by rfl):
 PE X (.Call (.Attribute o name apos) (e::es) [] cpos) (Gk X.K T r to t):=by
 intro pins s σ H Q I h;refine wpAny_Call_method_late hbase hfew hline rfl (aK (ho pins s σ H _ I h) λv s1 ⟨x,H1,I1,r1,ty,q1⟩=>?_);obtain⟨h1,h2⟩:=To I1 r1 ty;refine⟨T,id,pa,slot,hty,h1,h2,?_⟩;have hA:=ha cpos pins s1 σ H1 _ I1 q1;rw[hs] at hA⊢;refine Calls.callWith_builtin (by show(false||(backTo cpos (starEach es X.env)).any (·.1))=false;rw[hplain]<;>rfl) (Calls.evalArgs_plain ?_);exact aK hA λus s2 ⟨vs,H2,I2,r2,q2⟩=>hm pins s2 σ H2 x vs v us Q I2 r1 r2 q2
end
end L2
namespace L2
open PySem PySem.Spec PyProof.Rows
def qh (X:Cx) (id:String) (r:V->List V->Hp->VK->Prop):Prop:=
 ∀(pins:List (Addr×Obj)) (s:Shared) (σ:St) (H:Hp) (x:V) (xs:List V) (v:Value) (us:List Value) (Q:VK),Inv X pins σ H s->RelV x v->Vals xs us->r x xs H Q->
  wpAny (model X.prog X.w) X.A (call (.builtin id) (v::us)) (EP X pins σ Q) X.xe s
theorem Vals.one:∀{x:V} {us:List Value},Vals [x] us->∃u,us=[u]/\RelV x u
 |_,_,.cons r .nil=>⟨_,rfl,r⟩
theorem Vals.two:∀{x y:V} {us:List Value},Vals [x,y] us->∃u v,us=[u,v]/\RelV x u/\RelV y v
 |_,_,_,.cons r (.cons q .nil)=>⟨_,_,rfl,r,q⟩
section
variable {X:Cx} {pins:List (Addr×Obj)} {σ:St} {H:Hp} {s:Shared} {l b:Addr} {xs ys zs:List V}
theorem Inv.rN {its its':List Value} {n:Nat} {f:Array Value->Array Value} {t':Nat} (I:Inv X pins σ H s) (hH:H l=some (.lst xs))
 (e:s.heap.get? l=some {cls:= .type "list",data:= .seq its.toArray n}) (hf:f its.toArray=its'.toArray) (hv:Vals ys its') (hz:ys.length<=sizeLine):
 Inv X pins σ (upd H l (.lst ys)) {s with heap:=s.heap.update l (Obj.mapSeq f),toks:=t'}:=by
 have q:=PySem.IsL.update e f;rw[hf] at q;refine I.write (x:=l) (e:=l) (by rw[hH];exact trivial) (.inl rfl) (λb' u hb hu=>(Heap.get?_update_other s.heap (Obj.mapSeq f) (Ne.symm hb)).trans hu) ⟨_,q⟩ ?_;exact⟨hz,its',_,hv,q⟩
theorem Inv.Mp {its:List Value} {t':Nat} (I:Inv X pins σ H s) (hv:Vals ys its) (hz:ys.length<=sizeLine):
 Inv X pins σ (upd H s.heap.objs.size (.lst ys)) {s with heap:=s.heap.push {cls:= .type "list",data:= .seq its.toArray},toks:=t'}:=
 I.laid (λ_ _ q=>Heap.get?_push_of_some _ q) (Nat.le_refl _) ⟨hz,its,0,hv,Heap.get?_push_size _ rfl⟩
theorem Inv.fresh (I:Inv X pins σ H s):H s.heap.objs.size=none:=I.aw.fresh (Nat.le_refl _)
theorem Inv.kZ (I:Inv X pins σ H s) (hH:H l=some (.lst xs)):xs.length<=sizeLine/\∃(its:List Value) (n:Nat),Vals xs its/\xs.length=its.length/\s.heap.get? l=some {cls:= .type "list",data:= .seq its.toArray n}:=by
 obtain⟨z,its,n,r,e⟩:=I.aw l _ hH;exact⟨z,its,n,r,r.length,e⟩
theorem Eh {n:Nat} (h:n<=sizeLine):Builtin.List.listTooLong n=false:=by
 unfold Builtin.List.listTooLong;exact decide_eq_false (by omega)
end
section
variable {X:Cx}
def Pp:V->List V->Hp->VK->Prop:=λx vs H Q=>∃l xs y,x= .ref l/\vs=[y]/\H l=some (.lst xs)/\xs.length<sizeLine/\Q .aI (upd H l (.lst (xs++[y])))
theorem hJ:qh X "list.append" Pp:=by
 intro pins s σ H x vs v us Q I rx rv h;obtain⟨l,xs,y,rfl,rfl,hH,hz,q⟩:=h;cases rx;obtain⟨u,rfl,ru⟩:=rv.one;obtain⟨z,its,n,r,hl,e⟩:=I.kZ hH;refine call_meets F.slot_list_append ⟨_,e,rfl⟩ F.entry_list_append (F.args_list_append_2 _ _) (PySem.list_append l its.toArray n u (by rw[List.size_toArray];omega)) ⟨e,?_⟩;refine⟨.aI,_,I.rN (its':=its++[u]) hH e (by simp) (r.append (.cons ru .nil)) ?_,rfl,q⟩;rw[List.length_append,List.length_singleton];omega
def Pw:V->List V->Hp->VK->Prop:=λx vs H Q=>∃l b xs zs,x= .ref l/\vs=[.ref b]/\H l=some (.lst xs)/\H b=some (.lst zs)/\xs.length+zs.length<=sizeLine/\Q .aI (upd H l (.lst (xs++zs)))
theorem xj:qh X "list.extend" Pw:=by
 intro pins s σ H x vs v us Q I rx rv h;obtain⟨l,b,xs,zs,rfl,rfl,hH,hB,hz,q⟩:=h;cases rx;obtain⟨u,rfl,ru⟩:=rv.one;cases ru;obtain⟨z,its,n,r,hl,e⟩:=I.kZ hH;obtain⟨z2,its2,n2,r2,hl2,e2⟩:=I.kZ hB;have hsz:its.toArray.size+its2.toArray.size<=sizeLine:=by rw[List.size_toArray,List.size_toArray];omega
 have hlong:¬(!its.toArray.isEmpty&&Builtin.List.listTooLong (its.toArray.size+its2.toArray.size))=true:=by
  rw[Eh hsz,Bool.and_false];exact Bool.false_ne_true
 refine call_meets F.slot_list_extend ⟨_,e,rfl⟩ F.entry_list_extend (F.args_list_extend_2 _ _)
  (AutoSeq1.list_extend_list_list_0 l its.toArray n b its2.toArray n2 hlong (by rw[List.size_toArray];omega) (by omega)) ⟨e,e2,?_⟩
 refine⟨.aI,_,I.rN (its':=its++its2) hH e (by simp) (r.append r2) ?_,rfl,q⟩;rw[List.length_append];omega
def Pq:R2:=λx y H Q=>∃l b xs zs,x= .ref l/\y= .ref b/\H l=some (.lst xs)/\H b=some (.lst zs)/\xs.length+zs.length<=sizeLine/\∀p,H p=none->Q (.ref p) (upd H p (.lst (xs++zs)))
theorem OS:cq X (binaryOp .Add) Pq:=by
 intro pins s σ H x y v u Q I rx ry h;obtain⟨l,b,xs,zs,rfl,rfl,hH,hB,hz,q⟩:=h;cases rx;cases ry;obtain⟨z,its,n,r,hl,e⟩:=I.kZ hH;obtain⟨z2,its2,n2,r2,hl2,e2⟩:=I.kZ hB;refine PySem.P.add_list e e2 ?_ (by rw[List.size_toArray,List.size_toArray];omega);have ea:its.toArray++its2.toArray=(its++its2).toArray:=by simp
 rw[ea];exact⟨.ref _,_,I.Mp (t':=s.toks) (r.append r2) (by rw[List.length_append];omega),rfl,q _ I.fresh⟩
end
section
variable {prog:Program} {w:World} {A:Around} {E:Value->Shared->Prop} {s:Shared}
end
section
variable {X:Cx}
end
end L2
namespace L2
open PySem PySem.Spec PyProof.Rows
theorem Vals.ints:∀{ns:List Int} {us:List Value},Vals (ns.map V.int) us->IntsAre us ns
 |[],us,h=>by
  rw[List.map_nil] at h;cases h;exact IntsAre.nil
 |n::ns,us,h=>by
  rw[List.map_cons] at h;cases h with
  |cons r t=>
   obtain⟨k,rfl⟩:=r;exact IntsAre.cons n k (Vals.ints t)
theorem Al:∀{us:List Value} {ns:List Int},IntsAre us ns->Vals (ns.map V.int) us
 |_,_,.nil=>by rw[List.map_nil];exact Paired.nil
 |_,_,.cons n t h=>by rw[List.map_cons];exact Paired.cons (show RelV (V.int n) (Value.int n t) from ⟨t,rfl⟩) (Al h)
theorem Vals.u7:∀{bs:List Bool} {us:List Value},Vals (bs.map V.bl) us->us=bs.map Value.bool
 |[],us,h=>by
  rw[List.map_nil] at h;cases h;rfl
 |b::bs,us,h=>by
  rw[List.map_cons] at h;cases h with
  |cons r t=>
   cases r;rw[Vals.u7 t,List.map_cons]
theorem Vals.ir {a:Addr} {us:List Value} (r:Vals [V.ref a] us):us=[Value.ref a]:=by
 cases r with
 |cons r t=>
  cases t;cases r;rfl
section
variable {prog:Program} {w:World} {A:Around} {E:Value->Shared->Prop} {s:Shared} {l:Addr} {its:List Value} {ns:List Int} {Q:Value->Shared->Prop}
theorem Sh (hh:A.handled=none) (hl:s.heap.IsList l its.toArray) (hi:IntsAre its ns)
 (h:∀h' tk t',(∀b o,s.heap.get? b=some o->h'.get? b=some o)->Q (.int ns.sum t') {s with heap:=h',toks:=tk}):wpAny (model prog w) A (call (.builtin "sum") [.ref l]) Q E s:=by
 obtain⟨xs,e⟩:=hi.allInts.items;have hn:numsOf (intItems xs).toList=ns:=by rw[<-e];exact hi.numsOf
 rw[nums_intItems] at hn;rw[e] at hl;refine PySem.sum_intListG hh hl λh' tk t' hk=>?_;have:=h h' tk t' hk;rw[preSum_eq,List.take_of_length_le (by simp),hn];exact this
theorem Mu (hh:A.handled=none) (hl:s.heap.IsList l its.toArray) (hi:IntsAre its ns) (hne:0<ns.length)
 (h:∀h' tk M t',(∀b o,s.heap.get? b=some o->h'.get? b=some o)->M∈ns->(∀a,a∈ns->a<=M)->Q (.int M t') {s with heap:=h',toks:=tk}):wpAny (model prog w) A (call (.builtin "max") [.ref l]) Q E s:=by
 obtain⟨xs,e⟩:=hi.allInts.items;have hn:numsOf (intItems xs).toList=ns:=by rw[<-e];exact hi.numsOf
 rw[nums_intItems] at hn;subst hn;rw[e] at hl;have hsz:0<xs.size:=by simpa using hne
 refine PySem.max_intList hh hl hsz λv h' tk hv hk=>?_;obtain⟨t,rfl⟩:=intItems_at hv;obtain⟨h1,h2⟩:=argBest_gt (numAt xs) (xs.size-1);refine h h' tk _ t hk ?_ λa ha=>?_
 ·rw[numAt_eq];exact PySem.getD_mem (by rw[List.length_map,Array.length_toList];omega)
 ·obtain⟨j,hj,rfl⟩:=mem_getD ha;rw[List.length_map,Array.length_toList] at hj;rw[<-numAt_eq];exact h2 j (by omega)
end
section
variable {X:Cx}
def PF (K:PySem.W.Frag):List V->Hp->VK->Prop:=λvs H Q=>∃(a:Addr) (ns:List Int),vs=[V.ref a]/\ak K H a (ns.map V.int)/\Q (.int ns.sum) H
def Py (K:PySem.W.Frag):List V->Hp->VK->Prop:=λvs H Q=>∃(a:Addr) (ns:List Int),vs=[V.ref a]/\ak K H a (ns.map V.int)/\0<ns.length/\∀m,m∈ns->(∀y,y∈ns->y<=m)->Q (.int m) H
theorem vC (hc:X.calm=true):cR X (.builtin "sum") (PF X.K):=by
 intro pins s σ H vs us Q I r h;obtain⟨a,ns,rfl,hs,q⟩:=h;obtain⟨its,rv,hl,_⟩:=I.list hs;rw[Vals.ir r];exact Sh (I.ok.hd hc) hl.isList rv.ints λh' tk t' hk=>⟨.int _,H,I.kept hk,⟨_,rfl⟩,q⟩
theorem Iz (hc:X.calm=true):cR X (.builtin "max") (Py X.K):=by
 intro pins s σ H vs us Q I r h;obtain⟨a,ns,rfl,hs,hne,q⟩:=h;obtain⟨its,rv,hl,_⟩:=I.list hs;rw[Vals.ir r];exact Mu (I.ok.hd hc) hl.isList rv.ints hne λh' tk m t' hk h1 h2=>⟨.int _,H,I.kept hk,⟨_,rfl⟩,q m h1 h2⟩
def PD (K:PySem.W.Frag):List V->Hp->VK->Prop:=λvs H Q=>∃(a:Addr) (ns:List Int),vs=[V.ref a]/\ak K H a (ns.map V.int)/\ns.length<64/\
 ∀(ns':List Int) (p:Addr),ns'.Perm ns->ns'.Pairwise (·<=·)->H p=none->Q (.ref p) (upd H p (.lst (ns'.map V.int)))
theorem F2 {n:Nat} (h:n<64):n<=sizeLine:=by rw[sizeLine_eq];omega
theorem IB:cR X (.builtin "sorted") (PD X.K):=by
 intro pins s σ H vs us Q I r h;obtain⟨a,ns,rfl,hs,h64,q⟩:=h;obtain⟨its,rv,hl,_⟩:=I.list hs;rw[Vals.ir r];have hi:=rv.ints;refine PyProof.Rows.sorted_ints hl.isList hi (by rw[hi.length];exact h64) λout ns' h1 h2 h3=>?_;obtain⟨ep,he'⟩:=PyProof.Rows.sortedAll_at s.heap its out;have hlen:(ns'.map V.int).length<=sizeLine:=by rw[List.length_map,h2.length_eq];exact F2 h64
 exact⟨.ref _,upd H (s.heap.objs.size+1) (.lst (ns'.map V.int)),I.laid (t':=s.toks) (λ_ _=>PyProof.Rows.sortedAll_old) (Nat.le_succ _) ⟨hlen,out.toList,ep,Al h1,he'⟩,rfl,q ns' _ h2 h3 (I.aw.fresh (Nat.le_succ _))⟩
end
section
variable {X:Cx}
def Fp (K:PySem.W.Frag):V->List V->Hp->VK->Prop:=λx xs H Q=>∃(a:Addr) (ys:List V) (y:V) (j:Nat) (z:V),x=V.ref a/\xs=[y]/\ak K H a ys/\eT y=true/\ys.all eT=true/\ys[j]?=some z/\fY z y=true/\
 (∀(m:Nat) (z':V),m<j->ys[m]?=some z'->fY z' y=false)/\Q (.int (j:Nat)) H
theorem Cb {ys:List V} (f:ys.all eT=true) {j:Nat} {z:V} (h:ys[j]?=some z):eT z=true:=List.all_eq_true.mp f z (List.mem_of_getElem? h)
theorem DZ:Ax X "list.index" (Fp X.K):=by
 intro pins s σ H x xs v us Q I rx rxs h;obtain⟨a,ys,y,j,z,rfl,rfl,hs,fy,fys,hz,hzj,hno,q⟩:=h;cases rx;cases rxs with
 |cons ry rt=>
  rename_i uy ut
  cases rt;obtain⟨its,rv,⟨⟨cls,dd,data,sl⟩,n,ho,hc,hdn,hd⟩,hlen⟩:=I.list hs;simp only at hc hd;subst hc hd;obtain⟨u,hu,ru⟩:=rv.get hz;obtain⟨hjl,hje⟩:=List.getElem?_eq_some_iff.mp hu;have hvl:=rv.length;have hj:j<its.toArray.size:=by simpa using hjl
  have hsl:=sizeLine_eq;refine call_meets PySem.F.slot_list_index ⟨_,ho,rfl⟩ PySem.F.entry_list_index (PySem.F.args_list_index_2 _ _)
   (SeqAt.list_indexAt a its.toArray n dd sl uy (gr y) j hj (by omega) ?_ ?_) ⟨ho,λu' hu'=>rO ry fy rv fys u' (by simpa using hu'),?_⟩
  ·have e1:its.toArray[j]=u:=by simpa using hje
   rw[e1,qW ru (Cb fys hz)];exact hzj
  ·intro m hm hmj;have hml:m<its.length:=by simpa using hm
   have hmy:m<ys.length:=by omega
   have hy':ys[m]?=some ys[m]:=List.getElem?_eq_getElem hmy;obtain⟨u2,hu2,ru2⟩:=rv.get hy';obtain⟨_,hme⟩:=List.getElem?_eq_some_iff.mp hu2;have e1:its.toArray[m]=u2:=by simpa using hme
   rw[e1,qW ru2 (Cb fys hy')];exact hno m _ hmj hy'
  ·exact⟨.int (j:Nat),H,I.tok _,⟨_,rfl⟩,q⟩
end
section
variable {X:Cx}
end
theorem Dq {prog:Program} {w:World} {A:Around} {E:Value->Shared->Prop} {s:Shared} {l:Addr} {items:Array Value} {Q:Value->Shared->Prop} (hl:s.heap.IsList l items)
 (h:∀s₂:Shared,s₂={s with heap:=s.heap.push {cls:= .type "list_iterator",data:= .fields #[.ref l,.int 0 0]}}->
  (s₂.heap.IsListIter s.heap.objs.size l 0/\s₂.heap.IsList l items)->l≠s.heap.objs.size->Q (.ref s.heap.objs.size) s₂):wpAny (model prog w) A (pyIter (.ref l)) Q E s:=by
 have hlt:l<s.heap.objs.size:=by obtain⟨_,e,_⟩:=hl;exact Heap.lt_size e
 exact wpAny_pyIter_list hl (h _ rfl ⟨⟨_,Heap.get?_push_size _ rfl,rfl,rfl⟩,hl.push _⟩ (Nat.ne_of_lt hlt))
theorem GA {prog:Program} {w:World} {A:Around} {bs:List Bool} {its:List Value} (e:its=bs.map Value.bool):
 TruthOf prog w A (λi v=>its.toArray[i]?=some v) (λi=>bs.getD i false):=λi v s Q E hv hq=>by
 have hv':its[i]?=some v:=by simpa using hv
 rw[e,List.getElem?_map] at hv';obtain⟨b,hb,rfl⟩:=Option.map_eq_some_iff.mp hv';have hg:bs.getD i false=b:=by rw[List.getD_eq_getElem?_getD,hb]<;>rfl
 have hq':Q (bs.getD i false) s:=hq;rw[hg] at hq';exact wpAny_truthy_bool hq'
theorem any_range:∀bs:List Bool,(List.range bs.length).any (λi=>bs.getD i false)=bs.any id
 |[]=>rfl
 |b::bs=>by
  rw[List.length_cons,List.range_succ_eq_map,List.any_cons,List.any_map,List.any_cons,<-any_range bs]
  all_goals rfl
theorem all_range:∀bs:List Bool,(List.range bs.length).all (λi=>bs.getD i false)=bs.all id
 |[]=>rfl
 |b::bs=>by
  rw[List.length_cons,List.range_succ_eq_map,List.all_cons,List.all_map,List.all_cons,<-all_range bs]
  all_goals rfl
section
variable {X:Cx}
def Po (K:PySem.W.Frag):List V->Hp->VK->Prop:=λvs H Q=>∃(a:Addr) (bs:List Bool),vs=[V.ref a]/\ak K H a (bs.map V.bl)/\Q (.bl (bs.any id)) H
def Pn (K:PySem.W.Frag):List V->Hp->VK->Prop:=λvs H Q=>∃(a:Addr) (bs:List Bool),vs=[V.ref a]/\ak K H a (bs.map V.bl)/\Q (.bl (bs.all id)) H
theorem Iy (hc:X.calm=true):cR X (.builtin "any") (Po X.K):=by
 intro pins s σ H vs us Q I r h;obtain⟨a,bs,rfl,hs,q⟩:=h;obtain⟨its,rv,hl,_⟩:=I.list hs;rw[Vals.ir r];have hb:=rv.u7;refine call_any_walk (Dq hl.isList λs₂ e2 st hne=>?_);subst e2;refine⟨_,_,_,_,_,_,_,rfl,Walks.list (A:=X.A.in1) (I.ok.hd hc) _ a hne its.toArray,st,GA hb,λh' tk hk=>?_⟩;refine⟨.bl _,H,I.kept λb o eo=>hk b o (λhmem=>?_) (Heap.get?_push_of_some _ eo),?_,q⟩
 ·rcases List.mem_cons.mp hmem with e1|hmem
  ·exact absurd (e1▸Heap.lt_size eo) (Nat.lt_irrefl _)
  ·cases hmem
 ·show Value.bool _=Value.bool _;rw[<-any_range,hb,List.size_toArray,List.length_map]
theorem Iw (hc:X.calm=true):cR X (.builtin "all") (Pn X.K):=by
 intro pins s σ H vs us Q I r h;obtain⟨a,bs,rfl,hs,q⟩:=h;obtain⟨its,rv,hl,_⟩:=I.list hs;rw[Vals.ir r];have hb:=rv.u7;refine call_all_walk (Dq hl.isList λs₂ e2 st hne=>?_);subst e2;refine⟨_,_,_,_,_,_,_,rfl,Walks.list (A:=X.A.in1) (I.ok.hd hc) _ a hne its.toArray,st,GA hb,λh' tk hk=>?_⟩;refine⟨.bl _,H,I.kept λb o eo=>hk b o (λhmem=>?_) (Heap.get?_push_of_some _ eo),?_,q⟩
 ·rcases List.mem_cons.mp hmem with e1|hmem
  ·exact absurd (e1▸Heap.lt_size eo) (Nat.lt_irrefl _)
  ·cases hmem
 ·show Value.bool _=Value.bool _;rw[<-all_range,hb,List.size_toArray,List.length_map]
end
mutual
inductive Dp (K:PySem.W.Frag) (H:Hp):V->PyData->Prop
 |aI:Dp K H .aI .none
 |bl (b:Bool):Dp K H (.bl b) (.bool b)
 |int (i:Int):Dp K H (.int i) (.int i)
 |str (x:Str):Dp K H (.str x) (.str x)
 |lst {a:Addr} {xs:List V} {ds:List PyData}:ak K H a xs->jk K H xs ds->Dp K H (.ref a) (.list ds)
 |tup {a:Addr} {xs:List V} {ds:List PyData}:ba K H a xs->jk K H xs ds->Dp K H (.ref a) (.tuple ds)
inductive jk (K:PySem.W.Frag) (H:Hp):List V->List PyData->Prop
 |nil:jk K H [] []
 |cons {v:V} {vs:List V} {d:PyData} {ds:List PyData}:Dp K H v d->jk K H vs ds->jk K H (v::vs) (d::ds)
end
section
variable {X:Cx} {pins:List (Addr×Obj)} {σ:St} {H:Hp} {s:Shared}
mutual
theorem Dp.reads (I:Inv X pins σ H s):∀(d:PyData) (v:V) (u:Value),Dp X.K H v d->RelV v u->∃as,Reads s.heap u d as
 | .none,_,_,h,r=>by
   cases h;cases r;exact⟨_,Reads.none⟩
 | .bool b,_,_,h,r=>by
   cases h;cases r;exact⟨_,Reads.bool b⟩
 | .int i,_,_,h,r=>by
   cases h;obtain⟨t,rfl⟩:=r;exact⟨_,Reads.int i t⟩
 | .str x,_,_,h,r=>by
   cases h;obtain⟨t,rfl⟩:=r;exact⟨_,Reads.str x t⟩
 | .list ds,_,_,h,r=>by
   cases h with
   |lst hs ha=>
    cases r;obtain⟨its,rv,⟨o,n,ho,hc,_,hd⟩,_⟩:=I.list hs;obtain⟨as,hr⟩:=Dp.readsAll I ds _ its ha rv;exact⟨_,Reads.list ho hc hd hr⟩
 | .tuple ds,_,_,h,r=>by
   cases h with
   |tup hs ha=>
    cases r;obtain⟨its,rv,⟨o,ho,hc,n,hd⟩,_⟩:=I.tuple hs;obtain⟨as,hr⟩:=Dp.readsAll I ds _ its ha rv;exact⟨_,Reads.tuple ho hc hd hr⟩
 | .dict _,_,_,h,_=>by cases h
theorem Dp.readsAll (I:Inv X pins σ H s):∀(ds:List PyData) (vs:List V) (us:List Value),jk X.K H vs ds->Vals vs us->∃as,ReadsAll s.heap us ds as
 |[],_,_,h,r=>by
  cases h;cases r;exact⟨_,ReadsAll.nil⟩
 |d::ds,_,_,h,r=>by
  cases h with
  |cons h1 h2=>
   cases r with
   |cons r1 r2=>
    obtain⟨as,q1⟩:=Dp.reads I d _ _ h1 r1;obtain⟨bs,q2⟩:=Dp.readsAll I ds _ _ h2 r2;exact⟨_,ReadsAll.cons q1 q2⟩
end
end
section
variable {X:Cx}
def Pu (K:PySem.W.Frag):R2:=λx y H Q=>∃d e,Dp K H x d/\Dp K H y e/\SeqAt.shaped d=true/\SeqAt.shaped e=true/\Q (.bl (PyData.eqv d e)) H
theorem EN (hu:X.A.units+64<cLine):cq X (compareOp .Eq) (Pu X.K):=by
 intro pins s σ H x y v u Q I rx ry h;obtain⟨d,e,hd,he,sd,se,q⟩:=h;obtain⟨as,r1⟩:=Dp.reads I d x v hd rx;obtain⟨bs,r2⟩:=Dp.reads I e y u he ry;exact SeqAt.compareEq_shaped r1 r2 sd se hu ⟨.bl _,H,I,rfl,q⟩
end
end L2
namespace L2
open PySem PySem.Spec PyProof.Rows
abbrev Ar (h:Heap) (c:Addr) (v:Option Value):Prop:=h.IsCell c v
def PZ (scope sc:Scope):Scope:=
 {scope with names:=scope.names.map λ(n,k)=>if (k== .free&&sc.kind== .function&&sc.names.lookup n==some .cell) then (n,.cell) else (n,k)}
def cB (cells:List (Str×Addr)):List (Str×NameKind)->List (Str×Addr)->List (Str×Addr)
 |[],acc=>acc
 |(n,k)::r,acc=>if k== .free then cB cells r ((n,(cells.lookup n).getD 0)::acc) else cB cells r acc
theorem Bv (env:Env) (f:Str×NameKind->List (Str×Addr)->Sem (ForInStep (List (Str×Addr))))
 (hf:∀n k c,f (n,k) c=if k== .free then (do let a<-cellOf env n;pure (.yield ((n,a)::c))) else pure (.yield c)):
 ∀(names:List (Str×NameKind)) (acc:List (Str×Addr)),(∀y∈names,y.2= .free->∃c,env.cells.lookup y.1=some c)->forIn names acc f=pure (cB env.cells names acc)
 |[],acc,_=>by rw[List.forIn_nil];rfl
 |(n,k)::r,acc,h=>by
  rw[List.forIn_cons,hf];have ih:=λacc=>Bv env f hf r acc λy hy=>h y (List.mem_cons_of_mem _ hy);unfold cB;by_cases hk:(k==NameKind.free)=true
  ·rw[if_pos hk,if_pos hk];obtain⟨c,hc⟩:=h (n,k) List.mem_cons_self (by simpa using hk);have e:cellOf env n=pure c:=by unfold cellOf;rw[hc]
   rw[e];have e2:(env.cells.lookup n).getD 0=c:=by rw[hc];rfl
   rw[e2];exact ih _
  ·rw[if_neg hk,if_neg hk];exact ih _
theorem Bw {scope:Scope} {env:Env} (h:∀y∈scope.names,y.2= .free->∃c,env.cells.lookup y.1=some c):closureFor scope env=pure (cB env.cells scope.names []):=by
 simp only[closureFor];rw[Bv env _ (λn k c=>rfl) scope.names [] h];rfl
theorem mem_lookup {α:Type}:∀{l:List (Str×α)} {n:Str} {c:α},(n,c)∈l->∃c',l.lookup n=some c'
 |(k,v)::r,n,c,h=>by
  rw[List.lookup_cons];cases hb:n==k with
  |true=>exact⟨_,rfl⟩
  |false=>
   rcases List.mem_cons.mp h with e|h
   ·cases e;simp at hb
   ·exact mem_lookup h
theorem qO {cells:List (Str×Addr)}:∀{names:List (Str×NameKind)} {acc:List (Str×Addr)} {n:Str} {c:Addr},(n,c)∈cB cells names acc->(n,c)∈acc\/((n,.free)∈names/\c=(cells.lookup n).getD 0)
 |[],_,_,_,h=> .inl h
 |(m,k)::r,acc,n,c,h=>by
  unfold cB at h
  split at h
  ·rename_i hk
   have hk:k= .free:=by simpa using hk
   rcases qO h with h|⟨h1,h2⟩
   ·rcases List.mem_cons.mp h with e|h
    ·cases e;exact .inr ⟨hk▸List.mem_cons_self,rfl⟩
    ·exact .inl h
   ·exact .inr ⟨List.mem_cons_of_mem _ h1,h2⟩
  ·rcases qO h with h|⟨h1,h2⟩
   ·exact .inl h
   ·exact .inr ⟨List.mem_cons_of_mem _ h1,h2⟩
theorem vv {cells:List (Str×Addr)}:∀{names:List (Str×NameKind)} {acc:List (Str×Addr)} {p:Str×Addr},p∈acc->p∈cB cells names acc
 |[],_,_,h=>h
 |(m,k)::r,acc,p,h=>by
  unfold cB
  split
  ·exact vv (List.mem_cons_of_mem _ h)
  ·exact vv h
theorem vx {cells:List (Str×Addr)}:∀{names:List (Str×NameKind)} {acc:List (Str×Addr)} {n:Str},(n,.free)∈names->(n,(cells.lookup n).getD 0)∈cB cells names acc
 |(m,k)::r,acc,n,h=>by
  unfold cB;rcases List.mem_cons.mp h with e|h
  ·cases e;exact vv List.mem_cons_self
  ·split
   ·exact vx h
   ·exact vx h
theorem oM:∀{names:List (Str×NameKind)} {h:Heap} {acc:List (Str×Addr)} {x:Str} {c:Addr},(x,c)∈cellsFrom h.objs.size names acc->
 (x,c)∈acc\/((x,.cell)∈names/\h.objs.size<=c/\Ar (pushCells h names) c none)
 |[],_,_,_,_,h=> .inl h
 |(n,k)::r,h,acc,x,c,hm=>by
  unfold cellsFrom at hm;unfold pushCells
  split at hm
  ·rename_i hk
   rw[if_pos hk];have hk:k= .cell:=by simpa using hk
   rw[<-Heap.size_push h {cls:= .type "cell",data:= .cell none}] at hm;rcases oM hm with hm|⟨h1,h2,h3⟩
   ·rcases List.mem_cons.mp hm with e|hm
    ·cases e;exact .inr ⟨hk▸List.mem_cons_self,Nat.le_refl _,_,pushCells_keeps r _ _ _ (Heap.get?_push_size _ rfl),rfl⟩
    ·exact .inl hm
   ·rw[Heap.size_push] at h2;exact .inr ⟨List.mem_cons_of_mem _ h1,Nat.le_of_succ_le h2,h3⟩
  ·rename_i hk
   rw[if_neg hk];rcases oM hm with hm|⟨h1,h2,h3⟩
   ·exact .inl hm
   ·exact .inr ⟨List.mem_cons_of_mem _ h1,h2,h3⟩
theorem qI:∀{names:List (Str×NameKind)} {n:Nat} {acc:List (Str×Addr)} {p:Str×Addr},p∈acc->p∈cellsFrom n names acc
 |[],_,_,_,h=>h
 |(m,k)::r,n,acc,p,h=>by
  unfold cellsFrom
  split
  ·exact qI (List.mem_cons_of_mem _ h)
  ·exact qI h
theorem vk:∀{names:List (Str×NameKind)} {n:Nat} {acc:List (Str×Addr)} {x:Str},(x,.cell)∈names->∃c,(x,c)∈cellsFrom n names acc
 |(m,k)::r,n,acc,x,h=>by
  unfold cellsFrom;rcases List.mem_cons.mp h with e|h
  ·cases e;exact⟨n,qI List.mem_cons_self⟩
  ·split
   ·exact vk h
   ·exact vk h
theorem vm:∀{names:List (Str×NameKind)} {h:Heap} {acc:List (Str×Addr)} {x y:Str} {c:Addr},(∀p∈acc,p.2<h.objs.size)->(∀x y c,(x,c)∈acc->(y,c)∈acc->x=y)->
 (x,c)∈cellsFrom h.objs.size names acc->(y,c)∈cellsFrom h.objs.size names acc->x=y
 |[],_,_,_,_,_,_,hi,h1,h2=>hi _ _ _ h1 h2
 |(n,k)::r,h,acc,x,y,c,hl,hi,h1,h2=>by
  unfold cellsFrom at h1 h2
  split at h1
  ·rename_i hk
   rw[if_pos hk] at h2;rw[<-Heap.size_push h {cls:= .type "cell",data:= .cell none}] at h1 h2;refine vm (h:=h.push _) (λp hp=>?_) (λx y c a b=>?_) h1 h2
   ·rw[Heap.size_push];rcases List.mem_cons.mp hp with rfl|hp
    ·exact Nat.lt_succ_self _
    ·exact Nat.lt_succ_of_lt (hl p hp)
   ·rcases List.mem_cons.mp a with e|a<;>rcases List.mem_cons.mp b with e'|b
    ·cases e;cases e';rfl
    ·cases e;exact absurd (hl _ b) (Nat.lt_irrefl _)
    ·cases e';exact absurd (hl _ a) (Nat.lt_irrefl _)
    ·exact hi _ _ _ a b
  ·rename_i hk
   rw[if_neg hk] at h2;exact vm hl hi h1 h2
theorem D8 {M:Model} {A:Around} {E:Value->Shared->Prop} {s:Shared} {scope:Scope} {globals:Addr} {closure:List (Str×Addr)} {qual:Str} {func:Option Addr} {code:Value} {around:Env} {builtins:Addr} {Q:Env->Shared->Prop}
 (h:Q (newEnv scope s.heap.objs.size globals (cellsFrom (s.heap.objs.size+1) scope.names closure) qual func code (some around) builtins)
  {s with heap:=pushCells (s.heap.push {cls:= .type "dict",data:= .dict #[]}) scope.names}):
 wpAny M A (newFunctionEnv scope globals closure [] qual func code (some around) builtins) Q E s:=by
 simp only[newFunctionEnv,Option.isSome_some,if_true];refine wpAny_bind (wpAny_alloc ?_);refine wpAny_bind (wpAny_layCells _ (λn k c=>rfl) scope.names closure _ _ ?_);rw[show({s with heap:=s.heap.push {cls:= .type "dict",data:= .dict #[]}}:Shared).heap.objs.size=s.heap.objs.size+1 from Heap.size_push ..];rw[List.forIn_nil];exact wpAny_bind (wpAny_pure (wpAny_pure h))
theorem wM {sc:Scope}:∀{names:List (Str×NameKind)} {x:Str} {k:NameKind},
 (names.map λ(n,k)=>if (k==NameKind.free&&sc.kind== .function&&sc.names.lookup n==some .cell) then (n,NameKind.cell) else (n,k)).lookup x=some k->
 ∃k',names.lookup x=some k'/\(k=k'\/(k'= .free/\k= .cell))
 |[],_,_,h=>by simp at h
 |(n,k₀)::r,x,k,h=>by
  have ih:=@wM sc r x k;have h':List.lookup x ((if (k₀==NameKind.free&&sc.kind== .function&&sc.names.lookup n==some .cell)=true then (n,NameKind.cell) else (n,k₀))::(r.map _))=some k:=h;cases hx:x==n with
  |true=>
   simp only[List.lookup_cons,hx];by_cases hc:(k₀==NameKind.free&&sc.kind== .function&&sc.names.lookup n==some .cell)=true
   ·rw[if_pos hc] at h';simp only[List.lookup_cons,hx] at h';cases h';simp only[Bool.and_eq_true,beq_iff_eq] at hc;exact⟨k₀,rfl,.inr ⟨hc.1.1,rfl⟩⟩
   ·rw[if_neg hc] at h';simp only[List.lookup_cons,hx] at h';cases h';exact⟨_,rfl,.inl rfl⟩
  |false=>
   simp only[List.lookup_cons,hx];by_cases hc:(k₀==NameKind.free&&sc.kind== .function&&sc.names.lookup n==some .cell)=true
   ·rw[if_pos hc] at h';simp only[List.lookup_cons,hx] at h';exact ih h'
   ·rw[if_neg hc] at h';simp only[List.lookup_cons,hx] at h';exact ih h'
structure iC (N:List Str) (sc scope:Scope) (own:List (Str×Nat)):Prop where
 kind:scope.kind= .function
 uniq:∀y∈scope.names,scope.names.lookup y.1=some y.2
 ix:∀p∈own,N[p.2]?=some p.1
 free:∀y∈scope.names,y.2= .free->sc.names.lookup y.1=some .cell\/sc.names.lookup y.1=some .free
 own:∀y∈scope.names,y.2= .local\/y.2= .cell->y.1∈own.map (·.1)\/y.1∉N
def wipe (σ:St):List Nat->St
 |[]=>σ
 |v::vs=>(wipe σ vs).set v none
theorem uo (σ:St):∀vs:List Nat,(wipe σ vs).length=σ.length
 |[]=>rfl
 |v::vs=>by unfold wipe;rw[List.length_set,uo σ vs]
theorem uq {σ:St} {i:Nat} {x:V}:∀{vs:List Nat},(wipe σ vs)[i]?=some (some x)->σ[i]?=some (some x)/\i∉vs
 |[],h=>⟨h,by simp⟩
 |v::vs,h=>by
  unfold wipe at h;by_cases hi:v=i
  ·subst hi;by_cases hv:v<(wipe σ vs).length
   ·rw[List.getElem?_set_self hv] at h;cases h
   ·rw[List.getElem?_eq_none (by simpa using hv)] at h;cases h
  ·rw[List.getElem?_set_ne hi] at h;obtain⟨h1,h2⟩:=uq h;exact⟨h1,by simp only[List.mem_cons,not_or];exact⟨λe=>hi e.symm,h2⟩⟩
abbrev Cx.bB (X:Cx) (s:Shared) (H:Hp) (scope:Scope) (cenv:Env) (fp:List Addr):Cx:={X with cV:=s,ox:=H,env:=cenv,outer:=X.stack,ex:=fp,fn:=λx=>scope.names.lookup x==some .cell,pn:=[],xe:=λ_ _=>False}
section
variable {X:Cx} {pins:List (Addr×Obj)} {σ:St} {H:Hp} {s:Shared}
theorem Bl {scope:Scope} {own:List (Str×Nat)} {fp:List Addr} (I:Inv X pins σ H s) (ok:iC X.N X.env.scope scope own) (hN:X.N.Nodup) (hfp:∀b∈fp,dU X pins H b/\b<s.heap.objs.size):
 Inv (X.bB s H scope (compEnvC scope (cellsFrom (s.heap.objs.size+1) scope.names (cB X.env.cells scope.names [])) s.heap.objs.size X.env) fp) [] (wipe σ (own.map (·.2))) H {s with heap:=pushCells (s.heap.push {cls:= .type "dict",data:= .dict #[]}) scope.names}:=by
 have hfree:∀y∈scope.names,y.2= .free->∃c,X.env.cells.lookup y.1=some c:=λy hy e=>by
  rcases ok.free y hy e with k|k
  ·exact I.ok.has _ (.inl k)
  ·exact I.ok.has _ (.inr k)
 generalize hcenv:compEnvC scope (cellsFrom (s.heap.objs.size+1) scope.names (cB X.env.cells scope.names [])) s.heap.objs.size X.env=cenv;have kp:∀b o,s.heap.get? b=some o->(pushCells (s.heap.push {cls:= .type "dict",data:= .dict #[]}) scope.names).get? b=some o:=λb o e=>pushCells_keeps _ _ _ _ (Heap.get?_push_of_some _ e);have hL:cenv.locals=s.heap.objs.size:=by rw[<-hcenv];rfl
 have hcl:cenv.cells=cellsFrom (s.heap.objs.size+1) scope.names (cB X.env.cells scope.names []):=by rw[<-hcenv];rfl
 have hsc:cenv.scope=PZ scope X.env.scope:=by rw[<-hcenv];rfl
 rw[<-Heap.size_push s.heap {cls:= .type "dict",data:= .dict #[]}] at hcl;have cm:∀{y c},(y,c)∈cB X.env.cells scope.names []->X.env.cells.lookup y=some c/\c<s.heap.objs.size:=λ{y c} hm=>by
  rcases qO hm with hm|⟨h1,rfl⟩
  ·cases hm
  ·obtain⟨c,hc⟩:=hfree _ h1 rfl;rw[hc];obtain⟨w,z⟩:=I.cell _ _ hc;exact⟨rfl,z.lt⟩
 have mem:∀{y c},cenv.cells.lookup y=some c->(X.env.cells.lookup y=some c/\c<s.heap.objs.size)\/(s.heap.objs.size+1<=c/\Ar (pushCells (s.heap.push {cls:= .type "dict",data:= .dict #[]}) scope.names) c none):=λ{y c} e=>by
  rw[hcl] at e;rcases oM (PySem.mem_of_lookup e) with hm|⟨_,h2,h3⟩
  ·exact .inl (cm hm)
  ·rw[Heap.size_push] at h2;exact .inr ⟨h2,h3⟩
 have look:∀{y},scope.names.lookup y=some .free->∃c,cenv.cells.lookup y=some c/\X.env.cells.lookup y=some c:=λ{y} hl=>by
  have hy:(y,NameKind.free)∈scope.names:=PySem.mem_of_lookup hl;obtain⟨c',e'⟩:=mem_lookup (qI (names:=scope.names) (n:=(s.heap.push {cls:= .type "dict",data:= .dict #[]}).objs.size) (vx (cells:=X.env.cells) (acc:=[]) hy));rw[<-hcl] at e';refine⟨c',e',?_⟩;rw[hcl] at e';rcases oM (PySem.mem_of_lookup e') with hm|⟨h1,_,_⟩
  ·exact(cm hm).1
  ·have:=ok.uniq _ h1;rw[hl] at this;cases this
 have okB:(X.bB s H scope cenv fp).Ok:=by
  refine⟨I.ok.mod,by show cenv.scope.kind=_;rw[hsc];exact ok.kind,by show cenv.globals=_;rw[<-hcenv];exact I.ok.glob,by show cenv.builtins=_;rw[<-hcenv];exact I.ok.blt,by show s.heap.objs.size<=cenv.locals;rw[hL];exact Nat.le_refl _,
   λy z c e1 e2=>?_,λy hy=>?_,λy c z e=>?_,I.ok.hd,I.ok.frames,.inl rfl,λb hb=>⟨?_,λy c e z=>?_⟩,I.bs,Nat.le_trans I.ok.fX I.sz,λb o e hb=>?_,λb hb z=>?_,I.stack,I.Aa⟩
  ·have e1:cenv.cells.lookup y=some c:=e1;have e2:cenv.cells.lookup z=some c:=e2;rw[hcl] at e1 e2;refine vm (λp hp=>?_) (λy z c a b=>I.ok.inj y z c (cm a).1 (cm b).1) (PySem.mem_of_lookup e1) (PySem.mem_of_lookup e2);rw[Heap.size_push];exact Nat.lt_succ_of_lt (cm (y:=p.1) (c:=p.2) hp).2
  ·show ∃c,cenv.cells.lookup y=some c;have key:∀k,cenv.kindOf y=some k->(k= .cell\/k= .free)->∃c,cenv.cells.lookup y=some c:=λk hk hk'=>by
    unfold Env.kindOf at hk;rw[hsc] at hk;obtain⟨k',e,r⟩:=wM hk;have:k'= .cell\/k'= .free:=by
     rcases r with rfl|⟨rfl,_⟩
     ·exact hk'
     ·exact .inr rfl
    rcases this with rfl|rfl
    ·obtain⟨c,hm⟩:=vk (n:=(s.heap.push {cls:= .type "dict",data:= .dict #[]}).objs.size) (acc:=cB X.env.cells scope.names []) (PySem.mem_of_lookup e);obtain⟨c',e'⟩:=mem_lookup hm;exact⟨c',by rw[hcl];exact e'⟩
    ·obtain⟨c,h1,_⟩:=look e;exact⟨c,h1⟩
   rcases hy with hy|hy
   ·exact key _ hy (.inl rfl)
   ·exact key _ hy (.inr rfl)
  ·have z:(scope.names.lookup y==some NameKind.cell)=true:=z;have z:scope.names.lookup y=some .cell:=by simpa using z
   have e:cenv.cells.lookup y=some c:=e;rw[hcl] at e;rcases oM (PySem.mem_of_lookup e) with hm|⟨_,h2,_⟩
   ·rcases qO hm with hm|⟨h1,_⟩
    ·cases hm
    ·have q:=ok.uniq _ h1;rw[z] at q;cases q
   ·rw[Heap.size_push] at h2;exact Nat.le_of_succ_le h2
  ·show b≠cenv.locals;rw[hL];exact Nat.ne_of_lt (hfp b hb).2
  ·have e:cenv.cells.lookup y=some c:=e;rcases mem e with ⟨h1,_⟩|⟨h1,_⟩
   ·exact(hfp b hb).1.2.2.2.2.1 y c h1 z
   ·have h2:s.heap.objs.size+1<=b:=by rw[<-z];exact h1
    exact absurd (Nat.lt_of_lt_of_le (hfp b hb).2 (Nat.le_of_succ_le h2)) (Nat.lt_irrefl _)
  ·rcases(hfp b hb).1.2.2.2.1 with z|z
   ·exact I.ok.lB b o e z
   ·exact absurd (Nat.lt_of_lt_of_le (Heap.lt_size e) (Nat.le_trans I.ok.fX z)) (Nat.lt_irrefl _)
  ·rcases List.mem_cons.mp (I.mf b z) with z|z
   ·exact(hfp b hb).1.2.1 z
   ·exact(hfp b hb).1.2.2.1 z
 refine⟨okB,rfl,I.bare,Un.kept kp,⟨λ_=>none,?_,λi y av e1 e2 e3=>?_⟩,λy c e=>?_,?_,λy c e=>?_,λp hp=>?_,I.aw.kept kp,by rw[uo];exact I.len⟩
 ·show Heap.Ns _ cenv.locals _;rw[hL];exact Heap.Ns.keeps (Heap.Ns.new ..) λb o e=>pushCells_keeps _ _ _ _ e
 ·obtain⟨e2,hne⟩:=uq e2;have hfr:scope.names.lookup y=some .free/\(cenv.kindOf y=some .cell\/cenv.kindOf y=some .free):=by
   have key:∀k,cenv.scope.names.lookup y=some k->k= .local\/k= .cell\/k= .free->scope.names.lookup y=some .free/\(cenv.kindOf y=some .cell\/cenv.kindOf y=some .free):=λk hk hk'=>by
    have hk0:=hk;rw[hsc] at hk;obtain⟨k',e,r⟩:=wM hk;have no:¬(k'= .local\/k'= .cell):=λhh=>by
     rcases ok.own _ (PySem.mem_of_lookup e) hh with e'|e'
     ·obtain⟨p,hp,hpy⟩:=List.mem_map.mp e';have e3:=ok.ix p hp;have:p.1=y:=hpy;rw[this] at e3;exact hne (List.mem_map.mpr ⟨p,hp,xy hN e3 e1⟩)
     ·exact e' (List.mem_of_getElem? e1)
    rcases r with rfl|⟨rfl,rfl⟩
    ·rcases hk' with rfl|rfl|rfl
     ·exact absurd (.inl rfl) no
     ·exact absurd (.inr rfl) no
     ·exact⟨e,.inr hk0⟩
    ·exact⟨e,.inl hk0⟩
   have e3:my cenv.scope y:=e3;rcases e3 with e3|e3|e3
   ·exact key _ e3 (.inl rfl)
   ·exact key _ e3 (.inr (.inl rfl))
   ·exact key _ e3 (.inr (.inr rfl))
  obtain⟨m,hn,hl⟩:=I.loc;have hvis:my X.env.scope y:=(ok.free _ (PySem.mem_of_lookup hfr.1) rfl).elim (λk=> .inr (.inl k)) (λk=> .inr (.inr k));obtain⟨w,r,q⟩:=hl i y av e1 e2 hvis;refine⟨w,r,.inr ⟨hfr.2,?_⟩⟩;obtain⟨c,h1,h2⟩:=look hfr.1;rcases q with ⟨k,_⟩|⟨_,c',e',z⟩
  ·have k:X.env.scope.names.lookup y=some .local:=k;rcases ok.free _ (PySem.mem_of_lookup hfr.1) rfl with k'|k'<;>rw[show X.env.scope.names.lookup y=_ from k'] at k<;>cases k
  ·rw[h2] at e';cases e';exact⟨c,h1,z.keeps kp⟩
 ·have e:cenv.cells.lookup y=some c:=e;rcases mem e with ⟨h1,_⟩|⟨_,z⟩
  ·obtain⟨w,z⟩:=I.cell y c h1;exact⟨w,z.keeps kp⟩
  ·exact⟨_,z⟩
 ·show H cenv.locals=none;rw[hL];exact I.aw.fresh (Nat.le_refl _)
 ·have e:cenv.cells.lookup y=some c:=e;rcases mem e with ⟨h1,_⟩|⟨h1,_⟩
  ·exact I.eh y c h1
  ·exact I.aw.fresh (Nat.le_of_succ_le h1)
 ·exact absurd (show p∈([]:List (Addr×Obj))++[] from hp) (by simp)
theorem AL {E:Value->Shared->Prop} {D:Addr} {xs:List V} {y:V} {v:Value} {Q:Value->Shared->Prop} (I:Inv X pins σ H s) (hD:H D=some (.lst xs)) (hz:xs.length<sizeLine) (r:RelV y v)
 (h:∀s',Inv X pins σ (upd H D (.lst (xs++[y]))) s'->Q .none s'):wpAny (model X.prog X.w) X.A (call (.builtin "list.append") [.ref D,v]) Q E s:=by
 obtain⟨hz',its,n,ri,e⟩:=I.aw D _ hD;have hl:=ri.length;refine append_at (hsz:=by rw[List.size_toArray];omega) e λh' sb ho'=>?_;refine h {s with heap:=h'} (I.write (t':=s.toks) (by rw[hD];trivial) (.inl rfl) (λb u hb q=>(sb.2 b hb).trans q) ⟨_,ho'⟩ ⟨by rw[List.length_append];exact hz,its++[v],n+1,ri.append (.cons r .nil),?_⟩);rw[ho'];simp
def jL (X:Cx) (ifs:List Expr) (t:TT):Prop:=
 ∀(pins:List (Addr×Obj)) (s:Shared) (σ:St) (H:Hp) (Q:Bool->Hp->Prop),Inv X pins σ H s->t σ H Q->
  wpAny (model X.prog X.w) X.A (forIn ifs true λc r=>if r=true then do let ok<-isTrue c X.env (eval c X.env);pure (ForInStep.yield ok) else pure (ForInStep.yield r)) (TP X pins σ Q) X.xe s
def SJ:TT:=λ_ H Q=>Q true H
theorem gD:jL X [] SJ:=λ_ _ _ H _ I h=>wpAny_tests_nil ⟨H,I,h⟩
theorem nR {c:Expr} {t:TT} (h:PT X c t):jL X [c] t:=λpins s σ H Q I hw=>wpAny_tests_one (h pins s σ H Q I hw)
end
theorem gH {α:Type} {t:Sem α} {Q Q':α->Shared->Prop} {M:Model} {A:Around} {E:Value->Shared->Prop} {s:Shared} (h:wpAny M A t Q (λ_ _=>False) s) (hQ:∀a s,Q a s->Q' a s):wpAny M A t Q' E s:=wpAny_mono h hQ λ_ _ z=>False.elim z
theorem BC {prog:Program} {w:World} {A:Around} {R:Result->Shared->Prop} {s:Shared} {elt target iter:Expr} {ifs:List Expr} {scope:Scope} {pos:Pos} {it acc:Value} {env:Env} (I:Nat->Shared->Prop)
 (turn:∀n s,I n s->wpAny (model prog w) A (pyNext it) (λr s₁=>match r with
  |none=>R (.ok .next) s₁
  |some v=>wpAny (model prog w) A (letOwnedTupleGo target it v) (λ_ s₁'=>wpAny (model prog w) A (assign target env v) (λ_ s₂=>
   wpAny (model prog w) A (forIn ifs true λc r=>if r=true then do let ok<-isTrue c env (eval c env);pure (ForInStep.yield ok) else pure (ForInStep.yield r)) (λok s₃=>
    if ok=true then wpAny (model prog w) A (eval elt env) (λx s₄=>
     wpAny (model prog w) A (call (.builtin "list.append") [acc,x]) (λ_ s₅=>∃m,m<n/\I m s₅) (notedBy (model prog w) A env λe s'=>R (.error e) s') s₄) (notedBy (model prog w) A env λe s'=>R (.error e) s') s₃
    else ∃m,m<n/\I m s₃) (notedBy (model prog w) A env λe s'=>R (.error e) s') s₂) (notedBy (model prog w) A env λe s'=>R (.error e) s') s₁') (notedBy (model prog w) A env λe s'=>R (.error e) s') s₁) (notedBy (model prog w) A env λe s'=>R (.error e) s') s)
 (n:Nat) (h:I n s):
 codeAny (model prog w) A (.compLoop (.ListComp elt [⟨target,iter,ifs,0⟩] scope pos) 0 it acc env) R s:=by
 refine codeAny_loop rfl I (λn s hI=>?_) n h;show wpAny _ A ((compTurn (.ListComp elt [⟨target,iter,ifs,0⟩] scope pos) 0 it acc env).onRaise (λx=>do noteFrame x env;theTreesLotGoes x)) _ _ s;refine wpAny_noted ?_;rw[compTurn_list];refine wpAny_bind (wpAny_standAt (wpAny_bind (wpAny_mono (turn n s hI) (λr s₁ h₁=>?_) λ_ _ h'=>h')));cases r with
 |none=>exact wpAny_pure h₁
 |some v=>
  refine wpAny_bind (wpAny_mono h₁ (λ_ s₁' h₁'=>?_) λ_ _ h'=>h');refine wpAny_bind (wpAny_mono h₁' (λ_ s₂ h₂=>wpAny_bind (wpAny_mono h₂ (λok s₃ h₃=>?_) λ_ _ h'=>h')) λ_ _ h'=>h');cases ok with
  |false=>exact wpAny_pure ⟨rfl,h₃⟩
  |true=>
   exact wpAny_bind (wpAny_bind (wpAny_mono h₃ (λx s₄ h₄=>wpAny_bind (wpAny_mono h₄ (λ_ s₅ h₅=>wpAny_pure (wpAny_pure ⟨rfl,h₅⟩)) λ_ _ h'=>h')) λ_ _ h'=>h'))
section
variable {X:Cx}
def oo (wi:TI) (g:TG) (tt:TT) (te:TE) (vs:List Nat):TE:=λσ H Q=>wi σ H λJ H1=>∀D,H1 D=none->∃W:Nat->Nat->Hp->Prop,(∃m,W 0 m (upd H1 D (.lst [])))/\∀i m H,W i m H->
 (J.stop i H/\Q (.ref D) H)\/(J.go i H/\∃Nx:Hp->Prop,(∀H',Nx H'->∃m',m'<m/\W (i+1) m' H')/\∀x H',J.fF i H x H'->g x (wipe σ vs) H' λσ2 H2=>wipe σ2 vs=wipe σ vs/\tt σ2 H2 λb H3=>
  if b=true then te σ2 H3 λy H4=>∃acc,H4 D=some (.lst acc)/\acc.length<sizeLine/\Nx (upd H4 D (.lst (acc++[y]))) else Nx H3)
theorem Dx {pins:List (Addr×Obj)} {s:Shared} {σ:St} {H:Hp} {Q:VK} {elt tg iter:Expr} {ifs:List Expr} {scope:Scope} {own:List (Str×Nat)} {pos pos':Pos} {wi:TI} {g:TG} {tt:TT} {te:TE} {use:Option (Value->Sem Unit)} {Qf:Value->Shared->Prop}
 (hc:X.calm=true) (hN:X.N.Nodup) (I:Inv X pins σ H s) (hi:PI X tg iter wi) (ok:iC X.N X.env.scope scope own)
 (hg:∀(s:Shared) (H:Hp) (C:Addr) (cl:List (Str×Addr)) (fp:List Addr),PG (X.bB s H scope (compEnvC scope cl C X.env) fp) tg g) (ht:∀(s:Shared) (H:Hp) (C:Addr) (cl:List (Str×Addr)) (fp:List Addr),jL (X.bB s H scope (compEnvC scope cl C X.env) fp) ifs tt)
 (he:∀(s:Shared) (H:Hp) (C:Addr) (cl:List (Str×Addr)) (fp:List Addr),PE (X.bB s H scope (compEnvC scope cl C X.env) fp) elt te) (hs:∀x,foldedSetIterable iter X.env x=pure x)
 (h:oo wi g tt te (own.map (·.2)) σ H Q)
 (hRR:∀D C s' m H',Inv X pins σ H' s'->Q (.ref D) H'->s'.heap.Ns C m->dU X pins H' C->compPost (model X.prog X.w) X.A X.xe use Qf (.ref D) C (.ok .next) s'):
 wpAny (model X.prog X.w) X.A (comprehension (.ListComp elt [⟨tg,iter,ifs,0⟩] scope pos) scope X.env pos' (newList []) false (eval iter X.env) use) Qf X.xe s:=by
 have hfree:∀y∈scope.names,y.2= .free->∃c,X.env.cells.lookup y.1=some c:=λy hy e=>by
  rcases ok.free y hy e with k|k
  ·exact I.ok.has _ (.inl k)
  ·exact I.ok.has _ (.inr k)
 refine wpAny_comprehension_free (use:=use) rfl hs (Bw hfree) ok.kind (λy hy e=>by rw[ok.uniq y hy,e])
  (aK (hi pins s σ H _ I h) λxv s1 hx=>aK hx λitv s2 h2=>?_)
 obtain⟨it,fp,tn,J,H2,e,I2,T,st2,f2,q⟩:=h2;subst e;refine wpAny_newObj_type (D8 ?_) (by show 0<=sizeLine;decide);generalize hD:s2.heap.objs.size=D;have hDn:H2 D=none:=I2.aw.fresh (Nat.le_of_eq hD);obtain⟨W,⟨m0,w0⟩,turn⟩:=q D hDn;generalize hs3:({s2 with heap:=s2.heap.push {cls:= .type "list",data:= .seq ([]:List Value).toArray}}:Shared)=s3;have I3:Inv X pins σ (upd H2 D (.lst [])) s3:=by
  rw[<-hs3];refine I2.laid (t':=s2.toks) (λb o e=>Heap.get?_push_of_some _ e) (Nat.le_of_eq hD) ⟨Nat.zero_le _,[],0,.nil,?_⟩;rw[<-hD];exact Heap.get?_push_size _ rfl
 have h3:s3.heap=s2.heap.push {cls:= .type "list",data:= .seq ([]:List Value).toArray}:=by rw[<-hs3]
 have sz:∀b∈fp,b<s2.heap.objs.size:=λb hb=>by
  obtain⟨o,e,_⟩:=T.obj _ _ st2 b hb;exact Heap.lt_size e
 have f3:∀b∈fp,dU X pins (upd H2 D (.lst [])) b/\b<s3.heap.objs.size:=λb hb=>by
  have hlt:=sz b hb;refine⟨⟨?_,(f2 b hb).2⟩,by rw[h3,Heap.size_push];exact Nat.lt_succ_of_lt hlt⟩;rw[aT (by rw[<-hD];exact Nat.ne_of_lt hlt)];exact(f2 b hb).1
 have st3:tn 0 s3.heap:=T.keep _ _ _ st2 λb _ o e=>by rw[h3];exact Heap.get?_push_of_some _ e
 have I4:=Bl I3 ok hN f3;have pg:=hg s3 (upd H2 D (.lst [])) s3.heap.objs.size (cellsFrom (s3.heap.objs.size+1) scope.names (cB X.env.cells scope.names [])) fp;have pt:=ht s3 (upd H2 D (.lst [])) s3.heap.objs.size (cellsFrom (s3.heap.objs.size+1) scope.names (cB X.env.cells scope.names [])) fp;have pe:=he s3 (upd H2 D (.lst [])) s3.heap.objs.size (cellsFrom (s3.heap.objs.size+1) scope.names (cB X.env.cells scope.names [])) fp;show codeAny _ _ (.compStart (.ListComp elt [⟨tg,iter,ifs,0⟩] scope pos) 0 (.ref it) (.ref D) (compEnvC scope (cellsFrom (s3.heap.objs.size+1) scope.names (cB X.env.cells scope.names [])) s3.heap.objs.size X.env)) (compPost (model X.prog X.w) X.A X.xe use Qf (.ref D) s3.heap.objs.size) {s3 with heap:=pushCells (s3.heap.push {cls:= .type "dict",data:= .dict #[]}) scope.names};have nfp:∀b∈fp,(upd H2 D (.lst [])) b=none:=λb hb=>(f3 b hb).1.1;generalize hce:compEnvC scope (cellsFrom (s3.heap.objs.size+1) scope.names (cB X.env.cells scope.names [])) s3.heap.objs.size X.env=ce at I4 pg pt pe⊢;have cL:ce.locals=s3.heap.objs.size:=by subst hce;rfl
 generalize hH3:upd H2 D (.lst [])=H3 at I3 I4 pg pt pe w0 nfp f3;generalize hs4:({s3 with heap:=pushCells (s3.heap.push {cls:= .type "dict",data:= .dict #[]}) scope.names}:Shared)=s4 at I4⊢;have st4:tn 0 s4.heap:=T.keep _ _ _ st3 λb _ o e=>by rw[<-hs4];exact pushCells_keeps _ _ _ _ (Heap.get?_push_of_some _ e)
 have stat:∀{σ':St} {H':Hp} {s':Shared},Inv (X.bB s3 H3 scope ce fp) [] σ' H' s'->(∀b∈fp,H' b=none)->∀b∈fp,dU (X.bB s3 H3 scope ce fp) [] H' b:=λ{σ' H' s'} I' hn b hb=>
  ⟨hn b hb,(I'.ok.iH b hb).1,I'.ok.iI b hb,.inl hb,λx c e=>(I'.ok.iH b hb).2 x c e,λp hp=>absurd (show p∈([]:List (Addr×Obj))++[] from hp) (by simp)⟩
 have loop:codeAny (model X.prog X.w) X.A (.compLoop (.ListComp elt [⟨tg,iter,ifs,0⟩] scope pos) 0 (.ref it) (.ref D) ce) (compPost (model X.prog X.w) X.A X.xe use Qf (.ref D) s3.heap.objs.size) s4:=by
  refine BC (λn s'=>∃i H',Inv (X.bB s3 H3 scope ce fp) [] (wipe σ (own.map (·.2))) H' s'/\tn i s'.heap/\(∀b∈fp,H' b=none)/\W i n H') ?_ m0 ⟨0,H3,I4,st4,nfp,w0⟩;rintro n s5 ⟨i,H5,I5,st5,n5,w5⟩;rcases turn i n H5 w5 with ⟨stop,qq⟩|⟨go,Nx,hNx,step⟩
  ·have td:=T.done (X.bB s3 H3 scope ce fp) rfl rfl rfl hc i [] s5 _ H5 (λ_ _=>False) I5 (stat I5 n5) st5 stop;refine gH td λr s6 ⟨hr,I6⟩=>?_;subst hr;have I7:Inv X pins σ H5 s6:=I3.qH (ch:=fp) I6.os I6.base I6.aw I6.bare λb hb=>⟨(f3 b hb).1.2.2.2.1,(f3 b hb).1.2.1,(f3 b hb).1.2.2.2.2.1,(f3 b hb).1.2.2.2.2.2⟩
   have nC:H5 s3.heap.objs.size=none:=by
    have z:H5 ce.locals=none:=I6.free;rw[cL] at z;exact z
   obtain⟨m,hn,_⟩:=I6.loc;have hn:s6.heap.Ns ce.locals m:=hn;rw[cL] at hn;exact hRR D s3.heap.objs.size s6 m H5 I7 qq hn (I3.iJ (Nat.le_refl _) nC)
  ·have ti:=T.item (X.bB s3 H3 scope ce fp) rfl rfl rfl hc i [] s5 _ H5 (λ_ _=>False) I5 (stat I5 n5) st5 go;refine gH ti λr s6 ⟨u,hr,h6⟩=>?_;subst hr;refine gH h6 λ_ s7 ⟨x,H7,I7,r7,y7,st7,n7⟩=>?_;have I7':=I7.pinned (stat I7 n7) (T.obj _ _ st7);refine gH (pg _ s7 _ H7 x u _ I7' r7 (step x H7 y7)) λ_ s8 ⟨σ8,H8,I8,hw8,q8⟩=>?_;refine gH (pt _ s8 σ8 H8 _ I8 q8) λb s9 ⟨H9,I9,q9⟩=>?_;have fin:∀{s':Shared} {H':Hp},Inv (X.bB s3 H3 scope ce fp) ([]++nM fp s7.heap) σ8 H' s'->Nx H'->∃m,m<n/\∃i H',Inv (X.bB s3 H3 scope ce fp) [] (wipe σ (own.map (·.2))) H' s'/\tn i s'.heap/\(∀b∈fp,H' b=none)/\W i m H':=λ{s' H'} I' nx=>by
    obtain⟨m',hm,w'⟩:=hNx H' nx;have pin':∀b∈fp,∀o,s7.heap.get? b=some o->s'.heap.get? b=some o/\H' b=none:=λb hb o e=>
     let z:=I'.pin (b,o) (List.mem_append_right _ (List.mem_append_right _ (rQ hb e)))
     ⟨z.1,z.2.1⟩
    have hl:(wipe σ (own.map (·.2))).length=σ8.length:=by rw[<-hw8,uo]
    refine⟨m',hm,i+1,H',(I'.qb (pins:=[])).weak hl (λj v e=>?_),T.keep _ _ _ st7 λb hb o e=>(pin' b hb o e).1,λb hb=>?_,w'⟩
    ·rw[<-hw8] at e;exact(uq e).1
    ·obtain⟨o,e,_⟩:=T.obj _ _ st7 b hb;exact(pin' b hb o e).2
   cases b with
   |false=>
    simp only[Bool.false_eq_true,if_false] at q9⊢;exact fin I9 q9
   |true=>
    simp only[if_true] at q9⊢;refine gH (pe _ s9 σ8 H9 _ I9 q9) λz s10 ⟨yv,H10,I10,r10,acc,hD10,hz10,nx⟩=>?_;exact AL (X:=X.bB s3 H3 scope ce fp) I10 hD10 hz10 r10 λs11 I11=>fin I11 nx
 exact codeAny_compStart_list loop (T.self X.A 0 _ _ _ st4 loop)
theorem fB {elt tg iter:Expr} {ifs:List Expr} {scope:Scope} {own:List (Str×Nat)} {pos:Pos} {wi:TI} {g:TG} {tt:TT} {te:TE} (hc:X.calm=true) (hN:X.N.Nodup) (hi:PI X tg iter wi) (ok:iC X.N X.env.scope scope own)
 (hg:∀(s:Shared) (H:Hp) (C:Addr) (cl:List (Str×Addr)) (fp:List Addr),PG (X.bB s H scope (compEnvC scope cl C X.env) fp) tg g) (ht:∀(s:Shared) (H:Hp) (C:Addr) (cl:List (Str×Addr)) (fp:List Addr),jL (X.bB s H scope (compEnvC scope cl C X.env) fp) ifs tt)
 (he:∀(s:Shared) (H:Hp) (C:Addr) (cl:List (Str×Addr)) (fp:List Addr),PE (X.bB s H scope (compEnvC scope cl C X.env) fp) elt te) (hs:∀x,foldedSetIterable iter X.env x=pure x:=by intro _;rfl):
 PE X (.ListComp elt [⟨tg,iter,ifs,0⟩] scope pos) (oo wi g tt te (own.map (·.2))):=by
 intro pins s σ H Q I h;rw[eval_ListComp];refine Dx hc hN I hi ok hg ht he hs h λD C s' m H' I' q hn f=>⟨m,hn,λh'' sb=>?_⟩
 obtain⟨f0,f1,f2,f3,f4,f5⟩:=f;exact⟨.ref D,H',I'.turned (t':=s'.toks) (λb o hb e=>(sb.2 b hb).trans e) f0 f1 f3 f4 f5,rfl,q⟩
theorem Fm {i:Nat} {y:Str} {py:Pos} {elt tg iter:Expr} {ifs:List Expr} {scope:Scope} {own:List (Str×Nat)} {pos spos:Pos} {wi:TI} {g:TG} {tt:TT} {te:TE} (hc:X.calm=true) (hN:X.N.Nodup) (hy:X.N[i]?=some y) (hyl:X.env.scope.names.lookup y=some .local)
 (hsw:swapsWith (.ListComp elt [⟨tg,iter,ifs,0⟩] scope pos) (some (.Name y py)) spos.line X.env=pure true) (hi:PI X tg iter wi) (ok:iC X.N X.env.scope scope own)
 (hg:∀(s:Shared) (H:Hp) (C:Addr) (cl:List (Str×Addr)) (fp:List Addr),PG (X.bB s H scope (compEnvC scope cl C X.env) fp) tg g) (ht:∀(s:Shared) (H:Hp) (C:Addr) (cl:List (Str×Addr)) (fp:List Addr),jL (X.bB s H scope (compEnvC scope cl C X.env) fp) ifs tt)
 (he:∀(s:Shared) (H:Hp) (C:Addr) (cl:List (Str×Addr)) (fp:List Addr),PE (X.bB s H scope (compEnvC scope cl C X.env) fp) elt te) (hs:∀x,foldedSetIterable iter X.env x=pure x:=by intro _;rfl):
 PS X (.Assign [.Name y py] (.ListComp elt [⟨tg,iter,ifs,0⟩] scope pos) spos) (p9 (oo wi g tt te (own.map (·.2))) (kI i)):=by
 intro pins s σ H D I h;rw[exec_Assign_Name_used _ _ _ _ hsw];refine wpAny_bind (wpAny_standAt (wpAny_bind ?_));show wpAny _ X.A (do let _<-comprehension (.ListComp elt [⟨tg,iter,ifs,0⟩] scope pos) scope X.env (firstIterPos [⟨tg,iter,ifs,0⟩] pos) (newList []) false (eval iter X.env) (some (assign (.Name y py) X.env))) _ _ s;have h:oo wi g tt te (own.map (·.2)) σ H (λx H1=>kI i x σ H1 D.nx):=h;refine wpAny_bind (aK (Dx (Qf:=λ_ s'=>SP X pins D .next s') hc hN I hi ok hg ht he hs h λL C s' m H' I' q hn f=>?_) λ_ s' hq=>wpAny_pure (wpAny_pure hq));show wpAny _ _ (assign (.Name y py) X.env (.ref L)) _ _ _;refine wpAny_assign_Name (Gh (v:=V.ref L) I' hN hy (.inl hyl) rfl (λs2 I2 ⟨a,sb,ha⟩=>?_) (.inr hyl));obtain⟨f0,f1,f2,f3,f4,f5⟩:=f;have haC:C≠a:=by
  rcases ha with z|z
  ·rw[z];exact f1
  ·exact λe=>f4 y a z e.symm
 refine⟨m,hn.sameBut sb haC,λh3 sb3=>?_⟩;exact⟨_,H',I2.turned (t':=s2.toks) (λb o hb e=>(sb3.2 b hb).trans e) f0 f1 f3 f4 f5,q⟩
theorem Gi {elt:Expr} {gs:List Comprehension} {scope:Scope} {pos py:Pos} {y:Str} {l:Nat} {env:Env} (hk:env.scope.kind= .function) (hy:env.scope.names.lookup y=some .local) (hl:(py.line==pos.line)=true)
 (ha:(scope.names.any λ(n,k)=>n==y&&(k== .local||k== .cell))=false):swapsWith (.ListComp elt gs scope pos) (some (.Name y py)) l env=pure true:=by
 have ky:env.kindOf y=some .local:=hy;have hb:env.blockKind= .function:=by unfold Env.blockKind;rw[hk];rfl
 unfold swapsWith;simp only[hb,ky,ha,Expr.pos,hl];rfl
end
theorem rL {lo:Int} {n:Nat} {g:TG} {tt:TT} {te:TE} {vs:List Nat} {σ:St} {H1:Hp} {D:Addr} {Qd:Hp->Prop} (Pv:Nat->Hp->Prop) (h0:Pv 0 (upd H1 D (.lst [])))
 (hs:∀i H,i<n->Pv i H->g (.int (lo+i)) (wipe σ vs) H λσ2 H2=>wipe σ2 vs=wipe σ vs/\tt σ2 H2 λb H3=>
  if b=true then te σ2 H3 λy H4=>∃acc,H4 D=some (.lst acc)/\acc.length<sizeLine/\Pv (i+1) (upd H4 D (.lst (acc++[y]))) else Pv (i+1) H3) (hd:∀H,Pv n H->Qd H):
 ∃W:Nat->Nat->Hp->Prop,(∃m,W 0 m (upd H1 D (.lst [])))/\∀i m H,W i m H->
  ((fj lo n).stop i H/\Qd H)\/((fj lo n).go i H/\∃Nx:Hp->Prop,(∀H',Nx H'->∃m',m'<m/\W (i+1) m' H')/\∀x H',(fj lo n).fF i H x H'->g x (wipe σ vs) H' λσ2 H2=>wipe σ2 vs=wipe σ vs/\tt σ2 H2 λb H3=>
    if b=true then te σ2 H3 λy H4=>∃acc,H4 D=some (.lst acc)/\acc.length<sizeLine/\Nx (upd H4 D (.lst (acc++[y]))) else Nx H3):=by
 refine⟨λi m H=>m=n-i/\i<=n/\Pv i H,⟨n,by simp,Nat.zero_le _,h0⟩,?_⟩;rintro i m H ⟨rfl,hi,p⟩;by_cases hlt:i<n
 ·refine .inr ⟨hlt,Pv (i+1),λH' p'=>⟨n-(i+1),by omega,rfl,hlt,p'⟩,λx H' y=>?_⟩;obtain⟨e,y⟩:=y;subst e y;exact hs i _ hlt p
 ·have e:i=n:=by omega
  subst e;exact .inl ⟨Nat.le_refl _,hd H p⟩
theorem pE {K:PySem.W.Frag} {a:Addr} {xs:List V} {g:TG} {tt:TT} {te:TE} {vs:List Nat} {σ:St} {H1:Hp} {D:Addr} {Qd:Hp->Prop} (Pv:Nat->Hp->Prop) (h0:Pv 0 (upd H1 D (.lst []))) (hl:∀i H,i<=xs.length->Pv i H->ak K H a xs)
 (hs:∀i x H,xs[i]?=some x->Pv i H->g x (wipe σ vs) H λσ2 H2=>wipe σ2 vs=wipe σ vs/\tt σ2 H2 λb H3=>
  if b=true then te σ2 H3 λy H4=>∃acc,H4 D=some (.lst acc)/\acc.length<sizeLine/\Pv (i+1) (upd H4 D (.lst (acc++[y]))) else Pv (i+1) H3) (hd:∀H,Pv xs.length H->Qd H):
 ∃W:Nat->Nat->Hp->Prop,(∃m,W 0 m (upd H1 D (.lst [])))/\∀i m H,W i m H->
  ((fV K a).stop i H/\Qd H)\/((fV K a).go i H/\∃Nx:Hp->Prop,(∀H',Nx H'->∃m',m'<m/\W (i+1) m' H')/\∀x H',(fV K a).fF i H x H'->g x (wipe σ vs) H' λσ2 H2=>wipe σ2 vs=wipe σ vs/\tt σ2 H2 λb H3=>
    if b=true then te σ2 H3 λy H4=>∃acc,H4 D=some (.lst acc)/\acc.length<sizeLine/\Nx (upd H4 D (.lst (acc++[y]))) else Nx H3):=by
 refine⟨λi m H=>m=xs.length-i/\i<=xs.length/\Pv i H,⟨xs.length,by simp,Nat.zero_le _,h0⟩,?_⟩;rintro i m H ⟨rfl,hi,p⟩;have q:=hl i H hi p;by_cases hlt:i<xs.length
 ·refine .inr ⟨⟨xs,xs[i],q,by simp[hlt]⟩,Pv (i+1),λH' p'=>⟨xs.length-(i+1),by omega,rfl,hlt,p'⟩,λx H' y=>?_⟩;obtain⟨e,y⟩:=y;subst e;exact hs i x _ (y xs q) p
 ·have e:i=xs.length:=by omega
  subst e;exact .inl ⟨⟨xs,q,Nat.le_refl _⟩,hd H p⟩
theorem Dy {K:PySem.W.Frag} {a:Addr} {xs:List V} {g:TG} {tt:TT} {te:TE} {vs:List Nat} {σ:St} {H1:Hp} {D:Addr} {Qd:Hp->Prop} (Pv:Nat->Hp->Prop) (h0:Pv 0 (upd H1 D (.lst []))) (hl:∀i H,i<=xs.length->Pv i H->ba K H a xs)
 (hs:∀i x H,xs[i]?=some x->Pv i H->g x (wipe σ vs) H λσ2 H2=>wipe σ2 vs=wipe σ vs/\tt σ2 H2 λb H3=>
  if b=true then te σ2 H3 λy H4=>∃acc,H4 D=some (.lst acc)/\acc.length<sizeLine/\Pv (i+1) (upd H4 D (.lst (acc++[y]))) else Pv (i+1) H3) (hd:∀H,Pv xs.length H->Qd H):
 ∃W:Nat->Nat->Hp->Prop,(∃m,W 0 m (upd H1 D (.lst [])))/\∀i m H,W i m H->
  ((oA K a).stop i H/\Qd H)\/((oA K a).go i H/\∃Nx:Hp->Prop,(∀H',Nx H'->∃m',m'<m/\W (i+1) m' H')/\∀x H',(oA K a).fF i H x H'->g x (wipe σ vs) H' λσ2 H2=>wipe σ2 vs=wipe σ vs/\tt σ2 H2 λb H3=>
    if b=true then te σ2 H3 λy H4=>∃acc,H4 D=some (.lst acc)/\acc.length<sizeLine/\Nx (upd H4 D (.lst (acc++[y]))) else Nx H3):=by
 refine⟨λi m H=>m=xs.length-i/\i<=xs.length/\Pv i H,⟨xs.length,by simp,Nat.zero_le _,h0⟩,?_⟩;rintro i m H ⟨rfl,hi,p⟩;have q:=hl i H hi p;by_cases hlt:i<xs.length
 ·refine .inr ⟨⟨xs,xs[i],q,by simp[hlt]⟩,Pv (i+1),λH' p'=>⟨xs.length-(i+1),by omega,rfl,hlt,p'⟩,λx H' y=>?_⟩;obtain⟨e,y⟩:=y;subst e;exact hs i x _ (y xs q) p
 ·have e:i=xs.length:=by omega
  subst e;exact .inl ⟨⟨xs,q,Nat.le_refl _⟩,hd H p⟩
def Bk (N:List Str) (sc scope:Scope) (own:List (Str×Nat)):Bool:=
 (match scope.kind with| .function=>true|_=>false)&&(scope.names.all λy=>decide (scope.names.lookup y.1=some y.2))&&(own.all λp=>decide (N[p.2]?=some p.1))&&
  (scope.names.all λy=>match y.2 with
   | .free=>(match sc.names.lookup y.1 with|some .cell=>true|some .free=>true|_=>false)
   | .local=>decide (y.1∈own.map (·.1))||decide (y.1∉N)
   | .cell=>decide (y.1∈own.map (·.1))||decide (y.1∉N)
   |_=>true)
theorem eG {N:List Str} {sc scope:Scope} {own:List (Str×Nat)} (h:Bk N sc scope own=true):iC N sc scope own:=by
 unfold Bk at h;simp only[Bool.and_eq_true,List.all_eq_true,decide_eq_true_eq] at h;obtain⟨⟨⟨h1,h2⟩,h3⟩,h4⟩:=h;refine⟨?_,h2,h3,λy hy e=>?_,λy hy e=>?_⟩
 ·split at h1
  ·assumption
  ·cases h1
 ·have q:=h4 y hy;simp only[e] at q
  split at q<;>first|exact .inl (by assumption)|exact .inr (by assumption)|cases q
 ·have q:=h4 y hy;rcases e with e|e<;>(simp only[e,Bool.or_eq_true,decide_eq_true_eq] at q;exact q)
end L2
namespace L2
open PySem PySem.Spec PyProof.Rows
section
variable {prog:Program} {w:World} {A:Around} {R:Result->Shared->Prop} {s:Shared} {elt t0 i0 t1 i1:Expr} {ifs0 ifs1:List Expr} {scope:Scope} {pos:Pos} {it acc:Value} {env:Env}
end
section
variable {X:Cx}
end
end L2
namespace L2
open PySem PySem.Spec PyProof.Rows
section
variable {κ:Type} [DecidableEq κ]
def bL (kvs:List (κ×V)) (k:κ):Option V:=(kvs.find? λkv=>decide (kv.1=k)).map (·.2)
def putK (kvs:List (κ×V)) (k:κ) (v:V):List (κ×V):=
 if (kvs.any λkv=>decide (kv.1=k))=true then kvs.map (λkv=>if kv.1=k then (kv.1,v) else kv) else kvs++[(k,v)]
def dZ (kvs:List (κ×V)) (k:κ):List (κ×V):=kvs.filter λkv=>decide (kv.1≠k)
theorem Tt {k:κ}:bL ([]:List (κ×V)) k=none:=rfl
theorem fi {p:κ×V} {r:List (κ×V)} {k:κ} (e:p.1=k):bL (p::r) k=some p.2:=by simp[bL,List.find?_cons,e]
theorem fh {p:κ×V} {r:List (κ×V)} {k:κ} (e:¬p.1=k):bL (p::r) k=bL r k:=by simp[bL,List.find?_cons,e]
theorem mw (k:κ):∀kvs:List (κ×V),(kvs.any λkv=>decide (kv.1=k))=(bL kvs k).isSome
 |[]=>rfl
 |p::r=>by
  rw[List.any_cons];by_cases e:p.1=k
  ·simp only[fi e,decide_eq_true e,Bool.true_or,Option.isSome_some]
  ·rw[fh e,decide_eq_false e,Bool.false_or];exact mw k r
theorem GD (k j:κ) (y:V):∀kvs:List (κ×V),bL (kvs.map λkv=>if kv.1=k then (kv.1,y) else kv) j=(bL kvs j).map λx=>if j=k then y else x
 |[]=>rfl
 |p::r=>by
  have ih:=GD k j y r;rw[List.map_cons];by_cases h:p.1=k
  ·rw[if_pos h];by_cases e:p.1=j
   ·rw[fi (p:=(p.1,y)) e,fi e,Option.map_some,if_pos (e.symm.trans h)]
   ·rw[fh (p:=(p.1,y)) e,fh e,ih]
  ·rw[if_neg h];by_cases e:p.1=j
   ·rw[fi (p:=p) e,fi e,Option.map_some,if_neg (λz=>h (e.trans z))]
   ·rw[fh (p:=p) e,fh e,ih]
theorem GF (k j:κ) (y:V):∀kvs:List (κ×V),bL kvs k=none->bL (kvs++[(k,y)]) j=if j=k then some y else bL kvs j
 |[],_=>by
  by_cases e:k=j
  ·rw[if_pos e.symm];exact fi (p:=(k,y)) e
  ·rw[if_neg (λz=>e z.symm)];exact fh (p:=(k,y)) e
 |p::r,hn=>by
  rw[List.cons_append];have hk:¬p.1=k:=λz=>by rw[fi z] at hn;cases hn
  rw[fh hk] at hn;have ih:=GF k j y r hn;by_cases e:p.1=j
  ·rw[fi e,fi e,if_neg (λz=>hk (e.trans z))]
  ·rw[fh e,fh e,ih]
theorem uj (kvs:List (κ×V)) (k j:κ) (y:V):bL (putK kvs k y) j=if j=k then some y else bL kvs j:=by
 unfold putK;by_cases a:(kvs.any λkv=>decide (kv.1=k))=true
 ·rw[if_pos a,GD];rw[mw] at a;by_cases e:j=k
  ·obtain⟨x,hx⟩:=Option.isSome_iff_exists.mp a;rw[if_pos e,e,hx,Option.map_some,if_pos rfl]
  ·rw[if_neg e];cases bL kvs j with
   |none=>rfl
   |some x=>rw[Option.map_some,if_neg e]
 ·rw[if_neg a];refine GF k j y kvs ?_;rw[mw] at a;cases q:bL kvs k with
  |none=>rfl
  |some x=>rw[q] at a;exact(a rfl).elim
theorem rM (kvs:List (κ×V)) (k:κ) (v:V):(putK kvs k v).length<=kvs.length+1:=by
 unfold putK
 split
 ·rw[List.length_map];omega
 ·rw[List.length_append,List.length_cons,List.length_nil];omega
theorem Pk {kvs:List (κ×V)} {k:κ} (v:V) (h:bL kvs k=none):putK kvs k v=kvs++[(k,v)]:=by
 unfold putK;rw[mw,h];exact if_neg (by decide)
theorem dt.pC {o:Option V} {u:Option Value} (r:dt o u):o.isSome=u.isSome:=by
 cases o with
 |none=>cases u with
  |none=>rfl
  |some _=>exact(show False from r).elim
 |some _=>cases u with
  |none=>exact(show False from r).elim
  |some _=>rfl
theorem dt.getD {o:Option V} {u:Option Value} {d:V} {d':Value} (r:dt o u) (rd:RelV d d'):RelV (o.getD d) (u.getD d'):=by
 cases o with
 |none=>cases u with
  |none=>exact rd
  |some _=>exact(show False from r).elim
 |some _=>cases u with
  |none=>exact(show False from r).elim
  |some _=>exact r
theorem KV.val {kvs:List (κ×V)} {vs:List (κ×Value)} (r:KV kvs vs) (k:κ):dt (bL kvs k) (valueAt vs k):=by
 unfold KV at r
 induction r with
 |nil=>exact True.intro
 |@cons p q ps qs h t ih=>
  obtain⟨h1,h2⟩:=h;by_cases e:p.1=k
  ·have e':q.1=k:=h1.symm.trans e;have b:valueAt (q::qs) k=some q.2:=by simp[valueAt,List.find?_cons,e']
   rw[fi e,b];exact h2
  ·have e':¬q.1=k:=λz=>e (h1.trans z);have b:valueAt (q::qs) k=valueAt qs k:=by simp[valueAt,List.find?_cons,e']
   rw[fh e,b];exact ih
theorem KV.any {kvs:List (κ×V)} {vs:List (κ×Value)} (r:KV kvs vs) (k:κ):(kvs.any λkv=>decide (kv.1=k))=vs.any λkv=>decide (kv.1=k):=by
 unfold KV at r
 induction r with
 |nil=>rfl
 |cons h t ih=>rw[List.any_cons,List.any_cons,ih,h.1]
theorem KV.yg {kvs:List (κ×V)} {vs:List (κ×Value)} (r:KV kvs vs) (k:κ) {y:V} {u:Value} (ry:RelV y u):
 KV (kvs.map λkv=>if kv.1=k then (kv.1,y) else kv) (vs.map λkv=>if kv.1=k then (kv.1,u) else kv):=by
 unfold KV at r⊢
 induction r with
 |nil=>exact .nil
 |@cons p q ps qs h t ih=>
  rw[List.map_cons,List.map_cons];refine .cons ?_ ih;obtain⟨h1,h2⟩:=h;by_cases e:p.1=k
  ·rw[if_pos e,if_pos (h1.symm.trans e)];exact⟨h1,ry⟩
  ·rw[if_neg e,if_neg (λz=>e (h1.trans z))];exact⟨h1,h2⟩
theorem KV.put {kvs:List (κ×V)} {vs:List (κ×Value)} (r:KV kvs vs) (k:κ) {y:V} {u:Value} (ry:RelV y u):KV (putK kvs k y) (stored vs k u):=by
 unfold putK stored;rw[r.any k];by_cases e:(vs.any λkv=>decide (kv.1=k))=true
 ·rw[if_pos e,if_pos e];exact r.yg k ry
 ·rw[if_neg e,if_neg e];exact Paired.snoc r ⟨rfl,ry⟩
theorem KV.drop {kvs:List (κ×V)} {vs:List (κ×Value)} (r:KV kvs vs) (k:κ):KV (dZ kvs k) (without vs k):=by
 unfold KV at r⊢;unfold dZ without
 induction r with
 |nil=>exact .nil
 |@cons p q ps qs h t ih=>
  obtain⟨h1,h2⟩:=h;rw[List.filter_cons,List.filter_cons];by_cases e:p.1=k
  ·have a:¬decide (p.1≠k)=true:=by simp[e]
   have b:¬decide (q.1≠k)=true:=by simp[h1.symm.trans e]
   rw[if_neg a,if_neg b];exact ih
  ·have e':¬q.1=k:=λz=>e (h1.trans z);have a:decide (p.1≠k)=true:=by simp[e]
   have b:decide (q.1≠k)=true:=by simp[e']
   rw[if_pos a,if_pos b];exact .cons ⟨h1,h2⟩ ih
theorem KV.length {kvs:List (κ×V)} {vs:List (κ×Value)} (r:KV kvs vs):kvs.length=vs.length:=Paired.length r
theorem Jw (kvs:List (κ×V)) (k:κ):(dZ kvs k).length<=kvs.length:=List.length_filter_le _ _
end
theorem iP {P:Program} {w:World} {k:Key} {u:Value} (r:RelV (kV k) u):(dw P w).is k u=true:=by
 cases k with
 |inl i=>obtain⟨t,e⟩:=(show ∃t,u=Value.int i t from r);subst e;exact Nn P w i t
 |inr x=>obtain⟨t,e⟩:=(show ∃t,u=Value.str x t from r);subst e;exact Np P w x t
theorem Dn {P:Program} {w:World}:∀{ks:List Key} {us:List Value},Vals (ks.map kV) us->ItemsAre (dw P w) ks us
 |[],_,r=>by rw[List.map_nil] at r;cases r;exact .nil
 |k::ks,_,r=>by
  rw[List.map_cons] at r;cases r with
  |cons h t=>exact .cons (iP h) (Dn t)
abbrev KT (H:Hp):List (List Key×V)->List (List Key×Addr×Value)->Prop:=Paired λp q=>p.1=q.1/\H q.2.1=some (.tup (p.1.map kV))/\RelV p.2 q.2.2
theorem KT.val {H:Hp} {kvs:List (List Key×V)} {xs:List (List Key×Addr×Value)} (r:KT H kvs xs) (k:List Key):dt (bL kvs k) ((atKey xs k).map (·.2)):=by
 induction r with
 |nil=>exact True.intro
 |@cons p q ps qs h t ih=>
  obtain⟨h1,_,h2⟩:=h;by_cases e:p.1=k
  ·have e':q.1=k:=h1.symm.trans e;have b:atKey (q::qs) k=some q.2:=by simp[atKey,List.find?_cons,e']
   rw[fi e,b];exact h2
  ·have e':¬q.1=k:=λz=>e (h1.trans z);have b:atKey (q::qs) k=atKey qs k:=by simp[atKey,List.find?_cons,e']
   rw[fh e,b];exact ih
theorem KT.yg {H:Hp} {kvs:List (List Key×V)} {xs:List (List Key×Addr×Value)} (r:KT H kvs xs) (k:List Key) {y:V} {u:Value} (ry:RelV y u):
 KT H (kvs.map λkv=>if kv.1=k then (kv.1,y) else kv) (xs.map (putAt k u)):=by
 induction r with
 |nil=>exact .nil
 |@cons p q ps qs h t ih=>
  rw[List.map_cons,List.map_cons];refine .cons ?_ ih;obtain⟨h1,h2,h3⟩:=h;unfold putAt;by_cases e:p.1=k
  ·rw[if_pos e,if_pos (h1.symm.trans e)];exact⟨h1,h2,ry⟩
  ·rw[if_neg e,if_neg (λz=>e (h1.trans z))];exact⟨h1,h2,h3⟩
theorem KT.put {H:Hp} {kvs:List (List Key×V)} {xs:List (List Key×Addr×Value)} (r:KT H kvs xs) (k:List Key) {b:Addr} {y:V} {u:Value} (hb:H b=some (.tup (k.map kV))) (ry:RelV y u):
 KT H (putK kvs k y) (storedH xs k b u):=by
 have e:(kvs.any λkv=>decide (kv.1=k))=(atKey xs k).isSome:=by
  rw[mw,(r.val k).pC,Option.isSome_map]
 unfold putK storedH;rw[e];by_cases q:(atKey xs k).isSome=true
 ·rw[if_pos q,if_pos q];exact r.yg k ry
 ·rw[if_neg q,if_neg q];exact Paired.snoc r ⟨rfl,hb,ry⟩
theorem KT.keeps {H H':Hp} {kvs:List (List Key×V)} {xs:List (List Key×Addr×Value)} (r:KT H kvs xs) (ht:∀b ys,H b=some (.tup ys)->H' b=some (.tup ys)):KT H' kvs xs:=
 Paired.wN r λ_ _ z=>⟨z.1,ht _ _ z.2.1,z.2.2⟩
section
variable {P:Program} {w:World} {H:Hp} {h:Heap} {a:Addr}
theorem Fv {u:HO} (ok:bI P w H h) (e:Rd H a u):bO P w H h a u:=e.ok ok
theorem gO {kvs:List (Key×V)} (ok:bI P w H h) (e:Rd H a (.dK kvs)):kvs.length<=sizeLine/\(a==sysModules)=false/\∃vs,KV kvs vs/\h.DictOf (dw P w) a vs:=
 show bO P w H h a (.dK kvs) from Fv ok e
theorem qU {kvs:List (Key×V)} (ok:bI P w H h) (e:H a=some (.dK kvs)):kvs.length<=sizeLine/\(a==sysModules)=false/\∃vs,KV kvs vs/\h.DictOf (dw P w) a vs:=gO ok (.inl e)
theorem mU {ks:List Key} (ok:bI P w H h) (e:H a=some (.tup (ks.map kV))):(tupleKind (dw P w)).is h ks a:=by
 obtain⟨_,its,r,o,h1,h2,n,h3⟩:=(show bO P w H h a (.tup (ks.map kV)) from ok a _ e)
 exact⟨o,its.toArray,n,h1,h2,h3,by simpa using Dn r⟩
theorem kC {kvs:List (List Key×V)} (ok:bI P w H h) (e:Rd H a (.dT kvs)):kvs.length<=sizeLine/\(a==sysModules)=false/\
 ∃xs,KT H kvs xs/\h.DictOfH (tupleKind (dw P w)) a xs:=by
 obtain⟨z,y,xs,r,o,es,ep,h1,h2,h3,h4,h5⟩:=(show bO P w H h a (.dT kvs) from Fv ok e)
 refine⟨z,y,xs,r,o,es,ep,h1,h2,h3,h4,λx hx=>?_,h5⟩;have all:∀{l:List (List Key×V)} {m:List (List Key×Addr×Value)},KT H l m->∀x∈m,(tupleKind (dw P w)).is h x.1 x.2.1:=by
  intro l m q
  induction q with
  |nil=>intro x hx;exact nomatch hx
  |@cons p q ps qs hq t ih=>
   intro x hx;rcases List.mem_cons.mp hx with e|hx
   ·subst e;exact mU ok (by rw[<-hq.1];exact hq.2.1)
   ·exact ih x hx
 exact all r x hx
theorem JA {kvs:List (List Key×V)} (ok:bI P w H h) (e:H a=some (.dT kvs)):kvs.length<=sizeLine/\(a==sysModules)=false/\
 ∃xs,KT H kvs xs/\h.DictOfH (tupleKind (dw P w)) a xs:=kC ok (.inl e)
end
def cA (H:Hp) (a:Addr) (y:V) (r:Option V):Prop:=
 (∃kvs k,Rd H a (.dK kvs)/\y=kV k/\r=bL kvs k)\/∃kvs k b,Rd H a (.dT kvs)/\y= .ref b/\H b=some (.tup (k.map kV))/\r=bL kvs k
def gn (H:Hp) (a:Addr) (y v:V) (H':Hp):Prop:=
 (∃kvs k,H a=some (.dK kvs)/\y=kV k/\kvs.length<sizeLine/\H'=upd H a (.dK (putK kvs k v)))\/
 ∃kvs k b,H a=some (.dT kvs)/\y= .ref b/\H b=some (.tup (k.map kV))/\kvs.length<sizeLine/\H'=upd H a (.dT (putK kvs k v))
theorem cA.k {H:Hp} {a:Addr} {kvs:List (Key×V)} {k:Key} (e:H a=some (.dK kvs)):cA H a (kV k) (bL kvs k):= .inl ⟨kvs,k,.inl e,rfl,rfl⟩
theorem gn.k {H:Hp} {a:Addr} {kvs:List (Key×V)} {k:Key} {v:V} (e:H a=some (.dK kvs)) (hl:kvs.length<sizeLine):gn H a (kV k) v (upd H a (.dK (putK kvs k v))):= .inl ⟨kvs,k,e,rfl,hl,rfl⟩
section
variable {X:Cx} {pins:List (Addr×Obj)} {σ:St} {H:Hp} {s:Shared} {a:Addr} {y v:V} {u r:Value} {o:Option V} {A:Around} {E:Value->Shared->Prop}
theorem Inv.big (I:Inv X pins σ H s):sysModules<s.heap.objs.size:=by
 have h:mainGlobals<s.heap.objs.size:=(I.mod.glob.keeps I.bk).lt;exact Nat.lt_trans (by decide) h
theorem Ji {Q:Value->Shared->Prop} (hu:A.units+1<cLine) (I:Inv X pins σ H s) (g:cA H a y (some v)) (ry:RelV y u) (h:∀w' s',Inv X pins σ H s'->RelV v w'->Q w' s'):
 wpAny (model X.prog X.w) A (getItem (.ref a) u) Q E s:=by
 rcases g with ⟨kvs,k,e,ey,l⟩|⟨kvs,k,b,e,ey,eb,l⟩
 ·subst ey;obtain⟨z,hd,vs,rel,dd⟩:=gO I.aw e;obtain⟨w',hw,rw'⟩:=dt.some_of (v:=v) (o:=valueAt vs k) (by rw[l];exact rel.val k);exact wpAny_getItem_of (iP ry) dd.mapOf hw (h w' _ (I.tok _) rw')
 ·subst ey;cases(show u=Value.ref b from ry);obtain⟨z,hd,xs,rel,dd⟩:=kC I.aw e;obtain⟨w',hw,rw'⟩:=dt.some_of (v:=v) (o:=(atKey xs k).map (·.2)) (by rw[l];exact rel.val k);obtain⟨p,hp,hp2⟩:=Option.map_eq_some_iff.mp hw;refine wpAny_getItem_heap (tupleKind_room_in1 hu) (mU I.aw eb) dd hp ?_;rw[hp2];exact h w' _ (I.tok _) rw'
theorem Jj {Q:Value->Shared->Prop} (hu:A.units+1<cLine) (I:Inv X pins σ H s) (g:cA H a y o) (ry:RelV y u) (h:∀s',Inv X pins σ H s'->Q (.bool o.isSome) s'):
 wpAny (model X.prog X.w) A (compareOp .In u (.ref a)) Q E s:=by
 rcases g with ⟨kvs,k,e,ey,l⟩|⟨kvs,k,b,e,ey,eb,l⟩
 ·subst ey;obtain⟨z,hd,vs,rel,dd⟩:=gO I.aw e;refine wpAny_in_of (iP ry) hd dd.mapOf ?_;rw[<-(rel.val k).pC,<-l];exact h _ (I.tok _)
 ·subst ey;cases(show u=Value.ref b from ry);obtain⟨z,hd,xs,rel,dd⟩:=kC I.aw e;refine wpAny_in_heap (tupleKind_room_in1 hu) (mU I.aw eb) hd dd ?_;have q:=(rel.val k).pC;rw[Option.isSome_map] at q;rw[<-q,<-l];exact h _ (I.tok _)
theorem Jl {Q:Value->Shared->Prop} (hu:A.units+1<cLine) (I:Inv X pins σ H s) (g:cA H a y o) (ry:RelV y u) (h:∀s',Inv X pins σ H s'->Q (.bool (!o.isSome)) s'):
 wpAny (model X.prog X.w) A (compareOp .NotIn u (.ref a)) Q E s:=by
 rcases g with ⟨kvs,k,e,ey,l⟩|⟨kvs,k,b,e,ey,eb,l⟩
 ·subst ey;obtain⟨z,hd,vs,rel,dd⟩:=gO I.aw e;refine wpAny_notIn_of (iP ry) hd dd.mapOf ?_;rw[<-(rel.val k).pC,<-l];exact h _ (I.tok _)
 ·subst ey;cases(show u=Value.ref b from ry);obtain⟨z,hd,xs,rel,dd⟩:=kC I.aw e;refine wpAny_notIn_heap (tupleKind_room_in1 hu) (mU I.aw eb) hd dd ?_;have q:=(rel.val k).pC;rw[Option.isSome_map] at q;rw[<-q,<-l];exact h _ (I.tok _)
theorem qS {h':Heap} {t':Nat} {ob:HO} (I:Inv X pins σ H s) (mu:oC (H a)) (hs:Heap.SameBut a s.heap h') (he:∃q,h'.get? a=some q) (new:bO X.prog X.w (upd H a ob) h' a ob):
 Inv X pins σ (upd H a ob) {s with heap:=h',toks:=t'}:=
 I.write (x:=a) (e:=a) mu (.inl rfl) (λb q hb z=>(hs.2 b hb).trans z) he new
theorem qT {P:Program} {w:World} {H':Hp} {h':Heap} {kvs:List (Key×V)} {vs:List (Key×Value)} (z:kvs.length<=sizeLine) (hd:(a==sysModules)=false) (rel:KV kvs vs) (dd:h'.DictOf (dw P w) a vs):
 bO P w H' h' a (.dK kvs):=⟨z,hd,vs,rel,dd⟩
theorem Jn {H':Hp} {Q:Unit->Shared->Prop} (hu:A.units+1<cLine) (I:Inv X pins σ H s) (g:gn H a y v H') (ry:RelV y u) (rv:RelV v r) (h:∀s',Inv X pins σ H' s'->Q () s'):
 wpAny (model X.prog X.w) A (setItem (.ref a) u r) Q E s:=by
 rcases g with ⟨kvs,k,e,ey,l,eH⟩|⟨kvs,k,b,e,ey,eb,l,eH⟩
 ·subst ey eH;obtain⟨z,hd,vs,rel,dd⟩:=qU I.aw e;have hz:vs.length<=sizeLine:=by rw[<-rel.length];exact z
  have hl:(putK kvs k v).length<=sizeLine:=by have:=rM kvs k v;omega
  refine wpAny_setItem_pairs (hsz:=hz) (iP ry) dd λh' dd' hs=>h _ ?_;have he:∃q,h'.get? a=some q:=let ⟨q,_,_,hq,_⟩:=dd';⟨q,hq⟩;exact qS I (by rw[e];exact True.intro) hs he (qT hl hd (rel.put k rv) dd')
 ·subst ey eH;cases(show u=Value.ref b from ry);obtain⟨z,hd,xs,rel,dd⟩:=JA I.aw e;have hz:xs.length<=sizeLine:=by rw[<-Paired.length rel];exact z
  have hl:(putK kvs k v).length<=sizeLine:=by have:=rM kvs k v;omega
  refine wpAny_setItem_heap (hsz:=hz) (tupleKind_room_in1 hu) (mU I.aw eb) dd λh' dd' hs=>h _ ?_;obtain⟨q,es,ep,hq,h2,h3,h4,_,h5⟩:=dd';refine qS I (by rw[e];exact True.intro) hs ⟨q,hq⟩ ⟨hl,hd,_,(rel.put k eb rv).keeps λc ys ec=>?_,q,es,ep,hq,h2,h3,h4,h5⟩;rw[aT (bP ec e (λz=>nomatch z))];exact ec
end
section
variable {X:Cx} {pins:List (Addr×Obj)} {σ:St} {H:Hp} {s:Shared} {a:Addr} {kvs:List (Key×V)} {k:Key} {u:Value} {A:Around} {E:Value->Shared->Prop}
theorem Jm {v:V} {more:List Value} {Q:Value->Shared->Prop} (I:Inv X pins σ H s) (e:H a=some (.dK kvs)) (ry:RelV (kV k) u) (l:bL kvs k=some v) (hm:more=[]\/∃x,more=[x])
 (h:∀w' s',Inv X pins σ (upd H a (.dK (dZ kvs k))) s'->RelV v w'->Q w' s'):wpAny (model X.prog X.w) A (call (.builtin "dict.pop") (.ref a::u::more)) Q E s:=by
 obtain⟨z,hd,vs,rel,dd⟩:=qU I.aw e;obtain⟨w',hw,rw'⟩:=dt.some_of (v:=v) (o:=valueAt vs k) (by rw[<-l];exact rel.val k);have hp:(keyPart u).isSome=true:=by
  cases k with
  |inl i=>obtain⟨t,q⟩:=(show ∃t,u=Value.int i t from ry);subst q;rfl
  |inr x=>obtain⟨t,q⟩:=(show ∃t,u=Value.str x t from ry);subst q;rfl
 have ha:argsOk "dict.pop" ⟨.ref a::u::more,[]⟩:=by
  rcases hm with q|⟨x,q⟩
  ·subst q;exact PySem.F.args_dict_pop_2 _ _
  ·subst q;exact PySem.F.args_dict_pop_3 _ _ _
 refine call_meetsIn PySem.F.slot_dict_pop dd.typeIs PySem.F.entry_dict_pop ha (meets_dict_pop_there (dw X.prog X.w) a (iP ry) more hm hp)
  ⟨vs,w',dd,by rw[<-rel.length];exact z,hw,λh' dd' hs=>h w' _ ?_ rw'⟩
 have he:∃q,h'.get? a=some q:=let ⟨q,_,_,hq,_⟩:=dd';⟨q,hq⟩;exact qS I (by rw[e];exact True.intro) hs he (qT (Nat.le_trans (Jw kvs k) z) hd (rel.drop k) dd')
theorem Jk {Q:Value->Shared->Prop} (I:Inv X pins σ H s) (e:Rd H a (.dK kvs)) (h:∀t s',Inv X pins σ H s'->Q (.int kvs.length t) s'):wpAny (model X.prog X.w) A (call (.builtin "len") [.ref a]) Q E s:=by
 obtain⟨z,hd,vs,rel,dd⟩:=gO I.aw e;refine call_len_dict hd dd (by rw[<-rel.length];rw[sizeLine_eq] at z;omega) ?_;rw[<-rel.length];exact h _ _ (I.tok _)
end
def Ay (i:Expr):Prop:=∀ov iv,subscripted i false ov iv=operate [ov,iv] (getItem ov iv)
theorem Sf {prog:Program} {w:World} {A:Around} {E:Value->Shared->Prop} {s:Shared} {env:Env} {value slice:Expr} {pos:Pos} {T id:String} {Q:Value->Shared->Prop}
 (hl:typeLookup (.type T) "__getitem__"=pure (some (.builtin id))) (hs:Ay slice)
 (h:wpAny (model prog w) A (eval value env) (λo s₁=>wpAny (model prog w) A (eval slice env) (λi s₂=>s₂.TypeIs o T/\wpAny (model prog w) A (getItem o i) Q E s₂) E s₁) E s):
 wpAny (model prog w) A (eval (.Subscript value slice pos) env) Q E s:=by
 refine Subscript_ (wpAny_mono h (λo s₁ h₁=>wpAny_mono h₁ (λi s₂ h₂=>?_) λ_ _ x=>x) λ_ _ x=>x);obtain⟨hT,h₂⟩:=h₂;unfold subscriptTail;refine wpAny_bind ?_;rw[getitemInPython_of_ne hT.not_modules];refine wpAny_bind (wpAny_specialOf hT hl ?_);have fin:wpAny (model prog w) A (subscripted slice false o i) (λr s₃=>wpAny (model prog w) A (letTemporaryGo value o r >>=λ_=>pure r) Q E s₃) E s₂:=by
  rw[hs o i];exact wpAny_operating (wpAny_mono h₂ (λr s₃ h₃=>wpAny_bind (wpAny_letTemporaryGo (wpAny_pure h₃))) λ_ _ x=>x)
 first
  |exact wpAny_pure (wpAny_bind fin)
  |exact wpAny_bind (wpAny_pure (wpAny_bind fin))
  |exact wpAny_bind fin
theorem Js {X:Cx} {pins:List (Addr×Obj)} {σ:St} {H:Hp} {s:Shared} {a:Addr} {y:V} {o:Option V} (I:Inv X pins σ H s) (g:cA H a y o):s.TypeIs (.ref a) "dict":=by
 rcases g with ⟨kvs,k,e,_,_⟩|⟨kvs,k,b,e,_,_,_⟩
 ·obtain⟨_,_,vs,_,dd⟩:=gO I.aw e;exact dd.typeIs
 ·obtain⟨_,_,xs,_,dd⟩:=kC I.aw e;exact dd.typeIs
def Ac (td ty:TE):TE:=λσ H Q=>td σ H λx H1=>ty σ H1 λy H2=>∃a v,x= .ref a/\cA H2 a y (some v)/\Q v H2
def Sn (ty td:TE):TE:=λσ H Q=>ty σ H λy H1=>td σ H1 λx H2=>∃a o,x= .ref a/\cA H2 a y o/\Q (.bl o.isSome) H2
def Sr (ty td:TE):TE:=λσ H Q=>ty σ H λy H1=>td σ H1 λx H2=>∃a o,x= .ref a/\cA H2 a y o/\Q (.bl (!o.isSome)) H2
def P6 (td ty tv:TE):TS:=λD σ H=>tv σ H λv H1=>td σ H1 λx H2=>ty σ H2 λy H3=>∃a H4,x= .ref a/\gn H3 a y v H4/\D.nx σ H4
section
variable {X:Cx} {o i e value:Expr} {pos pos' tpos:Pos} {td ty tv:TE}
theorem ik (hu:X.A.units+1<cLine) (ho:PE X o td) (hi:PE X i ty) (hs:Ay i):PE X (.Subscript o i pos) (Ac td ty):=by
 intro pins s σ H Q I h;refine Sf PySem.F.slot_dict_getitem.lookup hs (aK (ho pins s σ H _ I h) λu s1 ⟨x,H1,I1,rx,q1⟩=>aK (hi pins s1 σ H1 _ I1 q1) λiv s2 ⟨y,H2,I2,ry,a,v,ex,g,q2⟩=>?_);subst ex;obtain rfl:u=Value.ref a:=rx;exact⟨Js I2 g,Ji hu I2 g ry λw' s3 I3 rw'=>⟨v,H2,I3,rw',q2⟩⟩
theorem sU (hu:X.A.units+1<cLine) (hi:PE X i ty) (ho:PE X o td):PC X .In i o (Sn ty td):=by
 intro pins s σ H Q I h;refine aK (hi pins s σ H _ I h) λiv s1 ⟨y,H1,I1,ry,q1⟩=>aK (ho pins s1 σ H1 _ I1 q1) λu s2 ⟨x,H2,I2,rx,a,ov,ex,g,q2⟩=>?_;subst ex;obtain rfl:u=Value.ref a:=rx;exact Jj hu I2 g ry λs3 I3=>⟨.bl ov.isSome,H2,I3,rfl,q2⟩
theorem E2 (hu:X.A.units+1<cLine) (hi:PE X i ty) (ho:PE X o td):PC X .NotIn i o (Sr ty td):=by
 intro pins s σ H Q I h;refine aK (hi pins s σ H _ I h) λiv s1 ⟨y,H1,I1,ry,q1⟩=>aK (ho pins s1 σ H1 _ I1 q1) λu s2 ⟨x,H2,I2,rx,a,ov,ex,g,q2⟩=>?_;subst ex;obtain rfl:u=Value.ref a:=rx;exact Jl hu I2 g ry λs3 I3=>⟨.bl (!ov.isSome),H2,I3,rfl,q2⟩
theorem nQ (hu:X.A.units+1<cLine) (ho:PE X o td) (hi:PE X i ty) (hv:PE X value tv) (hs:swapsWith value (some (.Subscript o i pos')) pos.line X.env=pure false):
 PS X (.Assign [.Subscript o i pos'] value pos) (P6 td ty tv):=by
 intro pins s σ H D I h;refine wpAny_Assign_Subscript (aK (hv pins s σ H _ I h) λr s1 ⟨v,H1,I1,rv,q1⟩=>aK (ho pins s1 σ H1 _ I1 q1) λu s2 ⟨x,H2,I2,rx,q2⟩=>aK (hi pins s2 σ H2 _ I2 q2) λiv s3 ⟨y,H3,I3,ry,a,H4,ex,g,q3⟩=>?_) hs;subst ex;obtain rfl:u=Value.ref a:=rx;exact Jn hu I3 g ry rv λs4 I4=>⟨σ,H4,I4,q3⟩
end
theorem BW {P:Program} {w:World} {H:Hp} (h:Heap) (hb:sysModules<h.objs.size):bO P w H (h.push {cls:= .type "dict",data:= .dict #[]}) h.objs.size (.dK []):=
 ⟨Nat.zero_le _,beq_eq_false_iff_ne.mpr (Ne.symm (Nat.ne_of_lt hb)),[],.nil,Heap.DictOf.new h⟩
def So:TE:=λ_ H Q=>∀p,H p=none->Q (.ref p) (upd H p (.dK []))
section
variable {X:Cx} {pos:Pos}
theorem O2:PE X (.Dict [] [] pos) So:=λpins s σ H Q I h=>
 wpAny_Dict_empty ⟨.ref s.heap.objs.size,_,I.laid (a:=s.heap.objs.size) (o:= .dK []) (t':=s.toks) (λ_ _ q=>Heap.get?_push_of_some _ q) (Nat.le_refl _) (BW s.heap I.big),rfl,h _ (I.aw.fresh (Nat.le_refl _))⟩
end
def Af:List (TE×TE)->St->Hp->(List (V×V)->Hp->Prop)->Prop
 |[],_,H,Q=>Q [] H
 |(tk,tv)::r,σ,H,Q=>tk σ H λx H1=>tv σ H1 λy H2=>Af r σ H2 λps H3=>Q ((x,y)::ps) H3
abbrev VV:List (V×V)->List (Value×Value)->Prop:=Paired λp q=>RelV p.1 q.1/\RelV p.2 q.2
def qj (X:Cx) (pos:Pos) (keys:List (Option Expr)) (values:List Expr) (trs:List (TE×TE)):Prop:=
 ∀(pins:List (Addr×Obj)) (s:Shared) (σ:St) (H:Hp) (Q:List (V×V)->Hp->Prop),Inv X pins σ H s->Af trs σ H Q->
  wpAny (model X.prog X.w) X.A (evalPairs (pairTrees keys values X.env pos)) (λvs s'=>∃ps H',Inv X pins σ H' s'/\VV ps vs/\Q ps H') X.xe s
theorem Fl {X:Cx} {pos:Pos}:qj X pos [] [] []:=λpins s σ H Q I h=>pairTrees_nil_walk ⟨[],H,I,.nil,h⟩
theorem x6 {X:Cx} {pos:Pos} {k v:Expr} {ks:List (Option Expr)} {vs:List Expr} {tk tv:TE} {trs:List (TE×TE)} (hk:PE X k tk) (hv:PE X v tv) (hr:qj X pos ks vs trs):
 qj X pos (some k::ks) (v::vs) ((tk,tv)::trs):=λpins s σ H Q I h=>
 pairTrees_cons_walk (aK (hk pins s σ H _ I h) λu s1 ⟨x,H1,I1,rx,q1⟩=>aK (hv pins s1 σ H1 _ I1 q1) λw2 s2 ⟨y,H2,I2,ry,q2⟩=>
  aK (hr pins s2 σ H2 _ I2 q2) λws s3 ⟨ps,H3,I3,rel,q3⟩=>⟨(x,y)::ps,H3,I3,.cons ⟨rx,ry⟩ rel,q3⟩)
def fu (kvs more:List (Key×V)):List (Key×V):=more.foldl (λacc kv=>putK acc kv.1 kv.2) kvs
theorem KV.merge:∀{more:List (Key×V)} {rs:List (Key×Value)} {kvs:List (Key×V)} {vs:List (Key×Value)},KV more rs->KV kvs vs->KV (fu kvs more) (merged vs rs):=by
 intro more rs kvs vs r;unfold KV at r
 induction r generalizing kvs vs with
 |nil=>intro q;exact q
 |@cons p q ps qs h t ih=>
  intro r0;have e:KV (putK kvs p.1 p.2) (stored vs q.1 q.2):=by
   have:=r0.put p.1 h.2;rw[<-h.1];exact this
  exact ih e
theorem Dz:∀(more kvs:List (Key×V)),(fu kvs more).length<=kvs.length+more.length
 |[],kvs=>by show kvs.length<=kvs.length+0;omega
 |p::r,kvs=>by
  have h1:=Dz r (putK kvs p.1 p.2);have h2:=rM kvs p.1 p.2;show(fu (putK kvs p.1 p.2) r).length<=_;rw[List.length_cons];omega
theorem Bs {P:Program} {w:World}:∀{kvs:List (Key×V)} {ws:List (Value×Value)},VV (kvs.map λkv=>(kV kv.1,kv.2)) ws->∃rs,Carries (dw P w) ws rs/\KV kvs rs
 |[],_,r=>by rw[List.map_nil] at r;cases r;exact⟨[],True.intro,.nil⟩
 |p::kvs,_,r=>by
  rw[List.map_cons] at r;cases r with
  |@cons a b as bs h t=>
   obtain⟨rs,c,q⟩:=Bs (P:=P) (w:=w) t;obtain⟨b1,b2⟩:=b;exact⟨(p.1,b2)::rs,⟨iP h.1,rfl,c⟩,.cons ⟨rfl,h.2⟩ q⟩
def Su (trs:List (TE×TE)):TE:=λσ H Q=>∀p,H p=none->Af trs σ (upd H p (.dK [])) λps H2=>H2 p=some (.dK [])/\∃kvs:List (Key×V),ps=kvs.map (λkv=>(kV kv.1,kv.2))/\kvs.length<=15/\Q (.ref p) (upd H2 p (.dK (fu [] kvs)))
theorem E3 {X:Cx} {pos:Pos} {keys:List (Option Expr)} {values:List Expr} {trs:List (TE×TE)} (h:qj X pos keys values trs) (hall:keys.all (·.isSome)=true) (hl:keys.length=values.length) (h0:keys≠[])
 (h15:keys.length<=15):PE X (.Dict keys values pos) (Su trs):=by
 intro pins s σ H Q I q;have hn:=I.aw.fresh (Nat.le_refl s.heap.objs.size);have I1:=I.laid (a:=s.heap.objs.size) (o:= .dK []) (h':=s.heap.push {cls:= .type "dict",data:= .dict #[]}) (t':=s.toks) (λ_ _ q=>Heap.get?_push_of_some _ q) (Nat.le_refl _) (BW s.heap I.big);refine wpAny_Dict_walk (knd:=dw X.prog X.w) hall hl h0 h15 (aK (h pins _ σ _ _ I1 (q _ hn)) λws s2 ⟨ps,H2,I2,rel,e,kvs,ep,lk,q2⟩=>?_);subst ep;obtain⟨rs,c,rk⟩:=Bs (P:=X.prog) (w:=X.w) rel;obtain⟨z,hd,vs0,r0,dd⟩:=qU I2.aw e;cases r0;refine⟨rs,c,dd,λh' dd' hs=>⟨.ref s.heap.objs.size,_,?_,rfl,q2⟩⟩;have hz:(fu [] kvs).length<=sizeLine:=by
  have h1:=Dz kvs [];rw[List.length_nil] at h1;rw[sizeLine_eq];omega
 have he:∃q,h'.get? s.heap.objs.size=some q:=let ⟨q,_,_,hq,_⟩:=dd';⟨q,hq⟩;exact qS I2 (by rw[e];exact True.intro) hs he (qT hz hd (rk.merge .nil) dd')
structure M1 (X:Cx) (o:Expr) (m:Str) (apos:Pos) (e:Expr) (cpos:Pos):Prop where
 base:attributeBase o m X.env (eval o X.env)=eval o X.env
 vL:((backTo cpos (starEach [e] X.env)).all (λx=>!x.1)&&(backToKw cpos (keywordEach [] X.env)).all (λx=>x.1.isSome)
  &&decide (([e]:List Expr).length+([]:List Keyword).length+(if ([]:List Keyword).isEmpty then 0 else 1)<30))=true
 line:(apos.endLine==cpos.line)=true
 trees:backTo cpos (starEach [e] X.env)=[(false,eval e X.env)]
structure M2 (X:Cx) (o:Expr) (m:Str) (apos:Pos) (e f:Expr) (cpos:Pos):Prop where
 base:attributeBase o m X.env (eval o X.env)=eval o X.env
 vL:((backTo cpos (starEach [e,f] X.env)).all (λx=>!x.1)&&(backToKw cpos (keywordEach [] X.env)).all (λx=>x.1.isSome)
  &&decide (([e,f]:List Expr).length+([]:List Keyword).length+(if ([]:List Keyword).isEmpty then 0 else 1)<30))=true
 line:(apos.endLine==cpos.line)=true
 trees:backTo cpos (starEach [e,f] X.env)=[(false,eval e X.env),(false,eval f X.env)]
def uw (H:Hp) (a:Addr):Prop:=(∃kvs,Rd H a (.dK kvs))\/∃kvs,Rd H a (.dT kvs)
theorem Dm {X:Cx} {pins:List (Addr×Obj)} {σ:St} {H:Hp} {s:Shared} {a:Addr} (I:Inv X pins σ H s) (d:uw H a):
 s.TypeIs (.ref a) "dict"/\(∀b,Value.ref a= .ref b->∃ob,s.heap.get? b=some ob/\ob.dict=none)/\(a==sysModules)=false:=by
 rcases d with ⟨kvs,e⟩|⟨kvs,e⟩
 ·obtain⟨_,hd,vs,_,dd⟩:=gO I.aw e;refine⟨dd.typeIs,λb q=>?_,hd⟩;cases q;obtain⟨ob,_,_,h1,h2,_⟩:=dd;exact⟨ob,h1,h2.2.1⟩
 ·obtain⟨_,hd,xs,_,dd⟩:=kC I.aw e;refine⟨dd.typeIs,λb q=>?_,hd⟩;cases q;obtain⟨ob,_,_,h1,h2,_⟩:=dd;exact⟨ob,h1,h2.2.1⟩
section
variable {X:Cx} {pins:List (Addr×Obj)} {σ:St} {H:Hp} {s:Shared} {a:Addr} {y d:V} {u r:Value} {o:Option V} {A:Around} {E:Value->Shared->Prop}
theorem Jh {Q:Value->Shared->Prop} (hu:A.units+1<cLine) (I:Inv X pins σ H s) (g:cA H a y o) (ry:RelV y u) (rd:RelV d r) (h:∀w' s',Inv X pins σ H s'->RelV (o.getD d) w'->Q w' s'):
 wpAny (model X.prog X.w) A (call (.builtin "dict.get") [.ref a,u,r]) Q E s:=by
 rcases g with ⟨kvs,k,e,ey,l⟩|⟨kvs,k,b,e,ey,eb,l⟩
 ·subst ey;obtain⟨z,hd,vs,rel,dd⟩:=gO I.aw e;refine call_meetsIn PySem.F.slot_dict_get dd.typeIs PySem.F.entry_dict_get (PySem.F.args_dict_get_3 _ _ _) (meets_dict_get_default (dw X.prog X.w) a (iP ry) hd r) ⟨_,dd.mapOf,h _ _ (I.tok _) ?_⟩;rw[l];exact(rel.val k).getD rd
 ·subst ey;cases(show u=Value.ref b from ry);obtain⟨z,hd,xs,rel,dd⟩:=kC I.aw e;refine call_meetsIn PySem.F.slot_dict_get dd.typeIs PySem.F.entry_dict_get (PySem.F.args_dict_get_3 _ _ _) (meetsH_dict_get_default (tupleKind (dw X.prog X.w)) a b hd r) ⟨tupleKind_room_in1 hu,k,xs,mU I.aw eb,dd,h _ _ (I.tok _) ?_⟩;rw[l];exact(rel.val k).getD rd
end
def Sm (td ty tx:TE):TE:=λσ H Q=>td σ H λx H1=>∃a,x= .ref a/\uw H1 a/\ty σ H1 λy H2=>tx σ H2 λz H3=>∃o,cA H3 a y o/\Q (o.getD z) H3
def Ss (td ty:TE):TE:=λσ H Q=>td σ H λx H1=>∃a,x= .ref a/\uw H1 a/\ty σ H1 λy H2=>∃kvs k v,H2 a=some (.dK kvs)/\y=kV k/\bL kvs k=some v/\Q v (upd H2 a (.dK (dZ kvs k)))
section
variable {X:Cx} {o e f:Expr} {apos cpos:Pos} {td ty tx:TE}
theorem O1 (hu:X.A.units+1<cLine) (ho:PE X o td) (he:PE X e ty) (hf:PE X f tx) (m:M2 X o "get" apos e f cpos):PE X (.Call (.Attribute o "get" apos) [e,f] [] cpos) (Sm td ty tx):=by
 intro pins s σ H Q I h;refine wpAny_Call_method m.base m.vL m.line PySem.F.plainAttrs_dict PySem.F.slot_dict_get PySem.F.type_dict_get (aK (ho pins s σ H _ I h) λu s1 ⟨x,H1,I1,rx,a,ex,d,q1⟩=>?_);subst ex;obtain rfl:u=Value.ref a:=rx;obtain⟨t1,t2,_⟩:=Dm I1 d;refine⟨t1,t2,?_⟩;rw[m.trees];refine Calls.callWith_builtin rfl (Calls.evalArgs_plain (Calls.spliced_cons (aK (he pins s1 σ H1 _ I1 q1) λiv s2 ⟨y,H2,I2,ry,q2⟩=>
  Calls.spliced_cons (aK (hf pins s2 σ H2 _ I2 q2) λfv s3 ⟨z,H3,I3,rz,ov,g,q3⟩=>Calls.spliced_nil ?_))))
 exact Jh hu I3 g ry rz λw' s4 I4 rw'=>⟨_,H3,I4,rw',q3⟩
theorem E4 (ho:PE X o td) (he:PE X e ty) (m:M1 X o "pop" apos e cpos):PE X (.Call (.Attribute o "pop" apos) [e] [] cpos) (Ss td ty):=by
 intro pins s σ H Q I h;refine wpAny_Call_method m.base m.vL m.line PySem.F.plainAttrs_dict PySem.F.slot_dict_pop PySem.F.type_dict_pop (aK (ho pins s σ H _ I h) λu s1 ⟨x,H1,I1,rx,a,ex,d,q1⟩=>?_);subst ex;obtain rfl:u=Value.ref a:=rx;obtain⟨t1,t2,_⟩:=Dm I1 d;refine⟨t1,t2,?_⟩;rw[m.trees];refine Calls.callWith_builtin rfl (Calls.evalArgs_plain (Calls.spliced_cons (aK (he pins s1 σ H1 _ I1 q1) λiv s2 ⟨y,H2,I2,ry,kvs,k,v,ea,ey,l,q2⟩=>Calls.spliced_nil ?_)));subst ey;exact Jm I2 ea ry l (.inl rfl) λw' s3 I3 rw'=>⟨v,_,I3,rw',q2⟩
end
section
variable {X:Cx} {pins:List (Addr×Obj)} {σ:St} {H:Hp} {s:Shared} {a:Addr} {kvs:List (Key×V)} {A:Around} {E:Value->Shared->Prop}
theorem Jg {Q:Value->Shared->Prop} (I:Inv X pins σ H s) (e:Rd H a (.dK kvs)) (h:∀p s',H p=none->Inv X pins σ (upd H p (.dK kvs)) s'->Q (.ref p) s'):wpAny (model X.prog X.w) A (call (.type "dict") [.ref a]) Q E s:=by
 obtain⟨z,hd,vs,rel,dd⟩:=gO I.aw e;refine kt_call_dict hd dd (by rw[<-rel.length];exact z) λh' dd' hs=>?_;refine h _ _ (I.aw.fresh (Nat.le_refl _)) (I.laid (a:=s.heap.objs.size) (o:= .dK kvs) (t':=s.toks) (λb q hq=>?_) (Nat.le_refl _) (qT z (beq_eq_false_iff_ne.mpr (Ne.symm (Nat.ne_of_lt I.big))) rel dd'));exact(hs.2 b (Nat.ne_of_lt (Heap.lt_size hq))).trans (Heap.get?_push_of_some _ hq)
end
section
variable {X:Cx} {pins:List (Addr×Obj)} {σ:St} {H:Hp} {s:Shared} {a:Addr} {y:V} {u:Value} {A:Around} {E:Value->Shared->Prop}
end
end L2
namespace L2
open PySem PySem.Spec PyProof.Rows
section
variable {prog:Program} {w:World} {A:Around} {E:Value->Shared->Prop}
end
section
variable {X:Cx}
end
end L2
namespace L2
open PySem PySem.Spec PyProof.Rows
theorem Ig:bootBuiltins "reversed"=some (.type "reversed"):=by decide+kernel
section
variable {X:Cx} {pins:List (Addr×Obj)} {σ:St} {H:Hp} {s:Shared} {h':Heap}
theorem Inv.Tc {t':Nat} {ch:List Addr} {T:Addr} {ob:HO} (I:Inv X pins σ H s) (k:∀b o,b∉ch->s.heap.get? b=some o->h'.get? b=some o) (hf:∀b∈ch,dU X pins H b) (hT:s.heap.objs.size<=T)
 (new:bO X.prog X.w (upd H T ob) h' T ob):Inv X pins σ (upd H T ob) {s with heap:=h',toks:=t'}:=by
 have hn:H T=none:=I.aw.fresh hT;have nit:∀b u,H b=some u->b∉ch:=λb u e z=>by
  have q:=(hf b z).1;rw[q] at e;cases e
 refine I.step (g':=s.gens) (d':=s.drawn) (ch:=ch) (λb hb=>⟨(hf b hb).2.2.2.1,(hf b hb).2.1,(hf b hb).2.2.2.2.1,(hf b hb).2.2.2.2.2⟩) (λb o _ _ hc e _=>k b o hc e) (λb o _ _ hc e _=>⟨o.slots,k b o hc e⟩)
  (λb o _ e n=>?_) (λb o hc e=>⟨o,k b o hc e⟩) (λb xs e=>?_) (λb o u e=>?_) (λb ps e=>⟨#[],?_⟩) (λm hm=>?_) (λb u e=>?_) I.bare
 ·rw[aT (Nat.ne_of_lt (Nat.lt_of_lt_of_le (Heap.lt_size e) hT))];exact n
 ·rw[aT (bq e hn)];exact e
 ·rw[aT (bq e hn)];exact e
 ·rw[aT (bq e hn),e];simp
 ·obtain⟨o,es,ep,ho,r⟩:=hm;exact⟨o,es,ep,k _ o (λz=>(hf _ z).2.1 rfl) ho,r⟩
 ·by_cases hb:b=T
  ·subst hb;rw[az] at e;cases e;exact new
  ·rw[aT hb] at e;refine(I.aw b u e).jc (λc v hc q=>k c v ?_ q) (λc q=>by rw[aT (bq q hn)];exact q) λc xs q=>by rw[aT (bq q hn)];exact q
   rcases hc with z|z
   ·rw[z];exact nit b u e
   ·exact nit c _ z
end
section
variable {X:Cx}
theorem E7 {tg:Expr} {pins:List (Addr×Obj)} {σ:St} {H:Hp} {s:Shared} {R:It->Hp->Prop} {J:It} {tn:Nat->Heap->Prop} {tk:Nat} (I:Inv X pins σ H s) (o:Obj)
 (T:Turn X.prog X.w X.K tg J [s.heap.objs.size] s.heap.objs.size tn) (st:tn 0 (s.heap.push o)) (q:R J H):uz X pins σ tg R (.ref s.heap.objs.size) {s with heap:=s.heap.push o,toks:=tk}:=by
 refine⟨s.heap.objs.size,[s.heap.objs.size],tn,J,H,rfl,I.kept λb ob e=>Heap.get?_push_of_some _ e,T,st,λb hb=>?_,q⟩;have e:b=s.heap.objs.size:=by simpa using hb
 subst e;exact I.iJ (Nat.le_refl _) (I.aw.fresh (Nat.le_refl _))
end
def oy (lo c:Int) (n:Nat):It:=⟨λi _=>i<n,λi H x H'=>H'=H/\x= .int (lo+(i:Nat)*c),λi _=>n<=i⟩
theorem S0 {P:Program} {w:World} {K:PySem.W.Frag} {tg:Expr} (it:Addr) (lo c:Int) (n:Nat):Turn P w K tg (oy lo c n) [it] it (λi h=>IsRangeIter h it (lo+(i:Nat)*c) ((n:Int)-(i:Nat)) c) where
 mem:=by simp
 obj:=λi h st b hb=>by
  have e:b=it:=by simpa using hb
  subst e;exact⟨_,st,λv z=>nomatch z⟩
 keep:=λi h h' st k=>k it (by simp) _ st
 item:=by
  intro X hP hw hK hc i pins s σ H E I hf st hg;subst hP hw hK;obtain⟨f0,f1,f2,f3,f4,f5⟩:=hf it (by simp);have W:=Walks.range (prog:=X.prog) (w:=X.w) (I.ok.hd hc) it lo c n;refine W.item i s _ _ hg st λv h' tk hv st' kk=>?_;obtain⟨t,rfl⟩:=hv;have I1:Inv X pins σ H {s with heap:=h',toks:=tk}:=I.turned (λb o hb e=>kk b o (by simpa using hb) e) f0 f1 f3 f4 f5;exact⟨_,rfl,pz (s:={s with heap:=h',toks:=tk}) (n:="range_iterator") st' rfl rfl (by decide) ⟨.int (lo+(i:Nat)*c),H,I1,⟨t,rfl⟩,⟨rfl,rfl⟩,st',λb hb=>(hf b hb).1⟩⟩
 done:=by
  intro X hP hw hK hc i pins s σ H E I hf st hg;subst hP hw hK;obtain⟨f0,f1,f2,f3,f4,f5⟩:=hf it (by simp);exact wpAny_pyNext_range_end (I.ok.hd hc) st (by have:n<=i:=hg;omega) λh' eb=>⟨rfl,I.turned (t':=s.toks) (λb o hb e=>eb b o hb e) f0 f1 f3 f4 f5⟩
 self:=λA i s Q E st h=>wpAny_pyIter_rangeiter st h
def qk (i j c:Int) (n:Nat):Prop:=c≠0/\c.natAbs<1073741824/\Builtin.Range.small i j c=true/\Builtin.Range.rangeSize i j c=n
theorem qk.neg {i j:Int} (ha: -(2^62)<=i) (ha':i<2^62) (hb: -(2^62)<=j) (hb':j<2^62):qk i j (-1) (i-j).toNat:=
 ⟨by decide,by decide,PySem.W.small_down ha ha' hb hb',PySem.W.rangeSize_downNat i j⟩
def Lo (ta:TA):TI:=λσ H R=>ta σ H λvs H1=>∃(i j c:Int) (n:Nat),vs=[.int i,.int j,.int c]/\qk i j c n/\R (oy i c n) H1
section
variable {X:Cx} {tg:Expr}
theorem Pc {a b c:Expr} {ta:TA} {p pos:Pos} (hg:Gl X "range") (hm:X.mg "range"=none) (ha:PA X [a,b,c] ta)
 (hs:starEach [a,b,c] X.env=(false,eval a X.env)::starEach [b,c] X.env:=by rfl) (hpl:(backTo pos (starEach [b,c] X.env)).any (·.1)=false:=by rfl):
 PI X tg (.Call (.Name "range" p) [a,b,c] [] pos) (Lo ta):=by
 intro pins s σ H R I h;refine Call_ (kY I hg hm boot_range (PyProof.Rows.callWith_type1 (aK (ha pos pins s σ H _ I h) λus s1 ⟨vs,H1,I1,r1,q1⟩=>?_) hs hpl));obtain⟨i,j,k,n,e,⟨c0,c1,c2,c3⟩,q⟩:=q1;subst e;cases r1 with
 |cons r rr=>
  cases rr with
  |cons r' rr=>
   cases rr with
   |cons r'' rr=>
    cases rr;obtain⟨t,rfl⟩:=r;obtain⟨t',rfl⟩:=r';obtain⟨t'',rfl⟩:=r'';refine call_range_3 c0 ?_ (.inl (PyProof.noPylong_small c1));refine wpAny_pyIter_range (IsRange.new ..) c2 ?_;have I2:Inv X pins σ H1 {s1 with heap:=s1.heap.push {cls:= .type "range",data:= .fields #[.int i t,.int j t',.int k t'']}}:=I1.kept (t':=s1.toks) λb o e=>Heap.get?_push_of_some _ e;refine E7 (tk:=s1.toks) I2 _ (S0 _ i k n) ?_ q;have e1:i+((0:Nat):Int)*k=i:=by simp
    have e2:(n:Int)-((0:Nat):Int)=Builtin.Range.rangeSize i j k:=by rw[c3];simp
    show IsRangeIter _ _ (i+((0:Nat):Int)*k) ((n:Int)-((0:Nat):Int)) k;rw[e1,e2];exact Heap.get?_push_size _ rfl
end
theorem Kp {lo c:Int} {n:Nat} {g:TG} {tb:TS} {D:Ends} {σ:St} {H:Hp} (Pv:Nat->St->Hp->Prop) (h0:Pv 0 σ H)
 (hs:∀i σ H,i<n->Pv i σ H->g (.int (lo+(i:Nat)*c)) σ H λσ2 H2=>tb {D with nx:=Pv (i+1),ct:=Pv (i+1),bk:=D.nx} σ2 H2) (hd:∀σ H,Pv n σ H->D.nx σ H):
 ∃W:Nat->Nat->St->Hp->Prop,(∃m,W 0 m σ H)/\∀i m σ H,W i m σ H->
  ((oy lo c n).stop i H/\D.nx σ H)\/((oy lo c n).go i H/\∃N:St->Hp->Prop,(∀σ' H',N σ' H'->∃m',m'<m/\W (i+1) m' σ' H')/\∀x H',(oy lo c n).fF i H x H'->g x σ H' λσ2 H2=>tb {D with nx:=N,ct:=N,bk:=D.nx} σ2 H2):=by
 refine⟨λi m σ H=>m=n-i/\i<=n/\Pv i σ H,⟨n,by simp,Nat.zero_le _,h0⟩,?_⟩;rintro i m σ H ⟨rfl,hi,p⟩;by_cases hlt:i<n
 ·refine .inr ⟨hlt,Pv (i+1),λσ' H' p'=>⟨n-(i+1),by omega,rfl,hlt,p'⟩,λx H' y=>?_⟩;obtain⟨e,y⟩:=y;subst e y;exact hs i σ _ hlt p
 ·have e:i=n:=by omega
  subst e;exact .inl ⟨Nat.le_refl _,hd σ H p⟩
def oB (K:PySem.W.Frag) (a:Addr) (n:Nat):It:=
 ⟨λi H=>i<n/\∃(xs:List V) (x:V),ak K H a xs/\xs[n-1-i]?=some x,λi H x H'=>H'=H/\∀xs,ak K H a xs->xs[n-1-i]?=some x,λi _=>n<=i⟩
theorem Ta {P:Program} {w:World} {K:PySem.W.Frag} {tg:Expr} (a it:Addr) (n:Nat):Turn P w K tg (oB K a n) [it] it (λi h=>i<=n/\h.IsRevIter it a ((n:Int)-1-(i:Nat))) where
 mem:=by simp
 obj:=λi h st b hb=>by
  have e:b=it:=by simpa using hb
  subst e;obtain⟨_,o,e,c,d⟩:=st;exact⟨o,e,λv z=>by rw[d] at z;cases z⟩
 keep:=λi h h' st k=>⟨st.1,st.2.at λo e=>k it (by simp) o e⟩
 item:=by
  intro X hP hw hK hc i pins s σ H E I hf st hg;subst hP hw hK;obtain⟨hin,xs,x,hq,hx⟩:=hg;obtain⟨its,rv,p,hz⟩:=I.list hq;obtain⟨u,hu,ru⟩:=rv.get hx;obtain⟨f0,f1,f2,f3,f4,f5⟩:=hf it (by simp);obtain⟨_,hit⟩:=st;have e1:(n:Int)-1-((i:Nat):Int)=((n-1-i:Nat):Int):=by omega
  rw[e1] at hit;refine wpAny_pyNext_rev_item hit p.isList (x:=u) (by simpa using hu) λh' st' sb=>?_;have e2:((n-1-i:Nat):Int)-1=(n:Int)-1-((i+1:Nat):Int):=by omega
  rw[e2] at st';have I1:Inv X pins σ H {s with heap:=h'}:=I.turned (t':=s.toks) (λb o hb e=>(sb.2 b hb).trans e) f0 f1 f3 f4 f5;obtain⟨o,e,c,d⟩:=id st';exact⟨u,rfl,pz (s:={s with heap:=h'}) e c d (by decide) ⟨x,H,I1,ru,⟨rfl,λys hy=>by rw[I.wK hy hq];exact hx⟩,⟨hin,st'⟩,λb hb=>(hf b hb).1⟩⟩
 done:=by
  intro X hP hw hK hc i pins s σ H E I hf st hg;subst hP hw hK;obtain⟨f0,f1,f2,f3,f4,f5⟩:=hf it (by simp);obtain⟨hin,hit⟩:=st;have hge:n<=i:=hg;have e1:(n:Int)-1-((i:Nat):Int)= -1:=by omega
  rw[e1] at hit;exact wpAny_pyNext_rev_end (I.ok.hd hc) hit λh' eb=>⟨rfl,I.turned (t':=s.toks) (λb o hb e=>eb b o hb e) f0 f1 f3 f4 f5⟩
 self:=λA i s Q E st h=>wpAny_pyIter_revIter st.2 h
def Ll (K:PySem.W.Frag) (ta:TA):TI:=λσ H R=>ta σ H λvs H1=>∃(a:Addr) (xs:List V),vs=[.ref a]/\ak K H1 a xs/\R (oB K a xs.length) H1
section
variable {X:Cx} {tg:Expr}
theorem E8 {e:Expr} {ta:TA} {p pos:Pos} (hg:Gl X "reversed") (hm:X.mg "reversed"=none) (ha:PA X [e] ta) (hs:starEach [e] X.env=[(false,eval e X.env)]:=by rfl):PI X tg (.Call (.Name "reversed" p) [e] [] pos) (Ll X.K ta):=by
 intro pins s σ H R I h;refine Call_ (kY I hg hm Ig (PyProof.Rows.callWith_type1 (aK (ha pos pins s σ H _ I h) λus s1 ⟨vs,H1,I1,r1,q1⟩=>?_) hs rfl));obtain⟨a,xs,e,hq,q⟩:=q1;subst e;cases r1 with
 |cons r rr=>
  cases rr;cases r;obtain⟨its,rv,p',hz⟩:=I1.list hq;have hl:=rv.length;have e1:((its.toArray.size:Nat):Int)-1=(xs.length:Int)-1-((0:Nat):Int):=by simp only[List.size_toArray];omega
  refine call_reversed_list p'.isList (wpAny_pyIter_revIter (l:=a) (i:=((its.toArray.size:Nat):Int)-1) ⟨_,Heap.get?_push_size _ rfl,rfl,rfl⟩ ?_);refine E7 (tk:=s1.toks) I1 _ (Ta a _ xs.length) ⟨Nat.zero_le _,?_⟩ q;rw[<-e1];exact⟨_,Heap.get?_push_size _ rfl,rfl,rfl⟩
end
section
variable {prog:Program} {w:World} {A:Around} {E:Value->Shared->Prop} {s:Shared}
end
section
variable {X:Cx} {pins:List (Addr×Obj)} {σ:St} {H:Hp} {s:Shared} {d:Addr} {o:Obj}
end
section
variable {P:Program} {w:World} {K:PySem.W.Frag} {tg:Expr} {d:Addr} {o:Obj} {es:Array DictEntry} {ep:Nat}
end
section
variable {X:Cx} {tg e:Expr} {td:TE} {apos cpos:Pos}
end
def oz (K:PySem.W.Frag) (a:Addr):It:=
 ⟨λi H=>∃(xs:List V) (x:V),ak K H a xs/\xs[i]?=some x,λi H v H'=>∃T x,v= .ref T/\H T=none/\H'=upd H T (.tup [.int (i:Nat),x])/\∀xs,ak K H a xs->xs[i]?=some x,λi H=>∃xs:List V,ak K H a xs/\xs.length<=i⟩
theorem SV {P:Program} {w:World} {K:PySem.W.Frag} {elts:List Expr} {kk:Nat} {tpos:Pos} (a e it:Addr):
 Turn P w K (.Tuple elts kk tpos) (oz K a) [e,it] e (λi h=>(∃old,IsEnum h e it ((i:Nat):Int) old)/\h.IsListIter it a i/\e≠it) where
 mem:=by simp
 obj:=λi h st b hb=>by
  obtain⟨⟨old,he⟩,⟨o,ho,hc,hd⟩,_⟩:=st;have e':b=e\/b=it:=by simpa using hb
  rcases e' with z|z
  ·rw[z];exact⟨_,he,λv q=>nomatch q⟩
  ·rw[z];exact⟨o,ho,λv q=>by rw[hd] at q;cases q⟩
 keep:=λi h h' st k=>let ⟨⟨old,he⟩,hi,hne⟩:=st;⟨⟨old,k e (by simp) _ he⟩,hi.at λo q=>k it (by simp) o q,hne⟩
 item:=by
  intro X hP hw hK hc i pins s σ H E I hf st hg;subst hP hw hK;obtain⟨⟨old,he⟩,hit,hne⟩:=st;obtain⟨xs,x,hq,hx⟩:=hg;obtain⟨its,rv,p,hz⟩:=I.list hq;obtain⟨u,hu,ru⟩:=rv.get hx;have hel:e<s.heap.objs.size:=Heap.lt_size he;have hil:it<s.heap.objs.size:=by obtain⟨_,q,_⟩:=hit;exact Heap.lt_size q
  refine wpAny_pyNext_enum_item he hit p.isList (x:=u) (by simpa using hu) hne λh' ho hit' hT hsz hk=>?_;refine⟨_,rfl,wpAny_letOwnedTupleGo_enum (s:={s with heap:=h',toks:=s.toks+1}) ho λh'' he' sb=>?_⟩;have hT2:h''.get? s.heap.objs.size=some {cls:= .type "tuple",data:= .seq #[.int i s.toks,u]}:=(sb.2 _ (Nat.ne_of_gt hel)).trans hT;have new:bO X.prog X.w (upd H s.heap.objs.size (.tup [.int (i:Nat),x])) h'' s.heap.objs.size (.tup [.int (i:Nat),x]):=
   ⟨by show 2<=sizeLine;decide,[.int i s.toks,u],.cons ⟨_,rfl⟩ (.cons ru .nil),⟨_,hT2,rfl,_,rfl⟩⟩
  have I1:Inv X pins σ (upd H s.heap.objs.size (.tup [.int (i:Nat),x])) {s with heap:=h'',toks:=s.toks+1}:=
   I.Tc (ch:=[e,it]) (λb ob hb q=>(sb.2 b (λz=>hb (by simp[z]))).trans (hk b ob (λz=>hb (by simp[z])) (λz=>hb (by simp[z])) q)) hf (Nat.le_refl _) new
  refine⟨.ref s.heap.objs.size,_,I1,rfl,⟨_,x,rfl,I.aw.fresh (Nat.le_refl _),rfl,λys hy=>by rw[I.wK hy hq];exact hx⟩,⟨⟨u,?_⟩,hit'.at λo q=>(sb.2 it (Ne.symm hne)).trans q,hne⟩,λb hb=>?_⟩
  ·have e1:((i+1:Nat):Int)=(i:Int)+1:=by omega
   rw[e1];exact he'
  ·have hb':b<s.heap.objs.size:=by
    have e':b=e\/b=it:=by simpa using hb
    rcases e' with z|z
    ·rw[z];exact hel
    ·rw[z];exact hil
   rw[aT (Nat.ne_of_lt hb')];exact(hf b hb).1
 done:=by
  intro X hP hw hK hc i pins s σ H E I hf st hg;subst hP hw hK;obtain⟨⟨old,he⟩,hit,hne⟩:=st;obtain⟨xs,hq,hx⟩:=hg;obtain⟨its,rv,p,hz⟩:=I.list hq;obtain⟨f0,f1,f2,f3,f4,f5⟩:=hf it (by simp);have hl:=rv.length;exact wpAny_pyNext_enum_end (I.ok.hd hc) he hit p.isList (by simp;omega) λh' eb=>⟨rfl,I.turned (t':=s.toks) (λb o hb q=>eb b o hb q) f0 f1 f3 f4 f5⟩
 self:=λA i s Q E st h=>let ⟨⟨_,he⟩,_⟩:=st;wpAny_pyIter_enum he h
def Lj (K:PySem.W.Frag) (ta:TA):TI:=λσ H R=>ta σ H λvs H1=>∃a xs,vs=[.ref a]/\ak K H1 a xs/\R (oz K a) H1
theorem Pa {X:Cx} {e:Expr} {ta:TA} {p pos tpos:Pos} {elts:List Expr} {kk:Nat} (hg:Gl X "enumerate") (hm:X.mg "enumerate"=none) (ha:PA X [e] ta) (hs:starEach [e] X.env=[(false,eval e X.env)]:=by rfl):
 PI X (.Tuple elts kk tpos) (.Call (.Name "enumerate" p) [e] [] pos) (Lj X.K ta):=by
 intro pins s σ H R I h;refine Call_ (kY I hg hm boot_enumerate (PyProof.Rows.callWith_type1 (aK (ha pos pins s σ H _ I h) λus s1 ⟨vs,H1,I1,r1,q1⟩=>?_) hs rfl));obtain⟨a,xs,ex,hq,q⟩:=q1;subst ex;cases r1 with
 |cons r rr=>
  cases rr;cases r;obtain⟨its,rv,p',hz⟩:=I1.list hq;refine call_enumerate_list p'.isList λh' he hit hsz hk=>wpAny_pyIter_enum he ?_;have I2:Inv X pins σ H1 {s1 with heap:=h'}:=I1.kept (t':=s1.toks) hk;refine⟨s1.heap.objs.size+1,[s1.heap.objs.size+1,s1.heap.objs.size],_,_,H1,rfl,I2,SV a (s1.heap.objs.size+1) s1.heap.objs.size,⟨⟨.none,he⟩,hit,Nat.succ_ne_self _⟩,λb hb=>?_,q⟩;have e':b=s1.heap.objs.size+1\/b=s1.heap.objs.size:=by simpa using hb
  have hle:s1.heap.objs.size<=b:=by
   rcases e' with z|z
   ·rw[z];exact Nat.le_add_right _ _
   ·rw[z];exact Nat.le_refl _
  exact I1.iJ hle (I1.aw.fresh hle)
end L2
section
namespace GN
open PySem PyProof.Rows
end GN
end
section
namespace TL
open PySem PySem.Builtin PySem.Builtin.Str PySem.StrLaws
end TL
end
namespace L2
open PySem PySem.Spec PyProof.Rows
section
variable {X:Cx} {pins:List (Addr×Obj)} {σ:St} {H:Hp} {s:Shared} {Q:VK}
end
section
variable {X:Cx}
end
section
variable {X:Cx} {o e:Expr} {to te:TE}
end
end L2
namespace L2
open PySem PySem.Spec PyProof.Rows
section
variable {X:Cx}
end
end L2
namespace GL
open PySem PySem.W PySem.Calls PyProof.Rows
section
variable {prog:Program} {w:World} {A:Around} {E:Value->Shared->Prop} {s:Shared} {K:Frag}
end
end GL
namespace L2
open PySem PySem.Spec PyProof.Rows
end L2
namespace L2
open PySem PySem.Spec PyProof.Rows
abbrev Aw {K:PySem.W.Frag} {h:Heap} (_:K.In h):PySem.W.Frag:=K
end L2
namespace L2
open PySem PySem.Spec PyProof.Rows
def inClass (s:Stmt) (j:Nat):Stmt:=match s with
 | .ClassDef _ _ _ body _ _ _ _ _ _ _=>body.getD j (.Pass ⟨0,0,0,0⟩)
 |_=> .Pass ⟨0,0,0,0⟩
def oP (s:Stmt):Arguments:=match s with
 | .FunctionDef _ a _ _ _ _ _ _ _ _=>a
 |_=>{posonlyargs:=[],args:=[],vararg:=none,kwonlyargs:=[],kw_defaults:=[],kwarg:=none,defaults:=[]}
def kz (s:Stmt):List Stmt:=match s with
 | .FunctionDef _ _ b _ _ _ _ _ _ _=>b
 |_=>[]
def ay (s:Stmt):Scope:=match s with
 | .FunctionDef _ _ _ _ _ _ sc _ _ _=>sc
 |_=>{kind:= .function,names:=[],isGenerator:=false,isCoroutine:=false}
abbrev aL:eR:=λ_ _ _ _ _ _=>False
abbrev E0:XK:=λ_ _ _=>False
theorem au {X:Cx}:Passes aL X E0:=λ_ _ _ _ _ _ _ h=>h.elim
structure aE (K:PySem.W.Frag) (x qual:Str) (st:Stmt) (f:Addr) (fd:FuncData):Prop where
 ex:∃(oc:Value) (od:Option Addr) (kV doc pm:Value) (an:Option Addr) (cdv ct:Value) (osl:Array (Option Value)),
  fd=PySem.W.fnOf x qual (oP st) (kz st) (ay st) .none kV doc pm an cdv ct/\K.lookup f=some ⟨oc,od,.func fd,osl⟩/\PySem.W.codeIn K cdv qual=true
 kp:PySem.W.keepIn K (.ref f)=true
section
variable {P:Program} {w:World} {K:PySem.W.Frag} {mg:Str->Option Value} {base:Heap}
theorem aE.ok {x qual:Str} {st:Stmt} {f:Addr} {fd:FuncData} {N ps:List Str} {k:Nat} {sp:Sp} (F:aE K x qual st f fd) (S:aG N ps (ay st)) (len:∀vs H Q E,sp vs H Q E->vs.length=ps.length)
 (hbody:∀(cdv:Value) (A:Around) (outer:List Env) (s:Shared) (H:Hp) (vs:List V) (Q:VK) (E:XK),cy k (A.deeper (envOfC qual (ay st) s.heap.objs.size f cdv))->sp vs H Q E->
  ∃t,dY (iF aL P w K mg base N qual (ay st) f cdv A outer s H E).sG (kz st) t/\t {nx:=λ_ H'=>Q .aI H',rt:=Q} (start N vs) H):aA P w K mg base aL (k+1) f fd ps sp:=by
 obtain⟨oc,od,kV,doc,pm,an,cdv,ct,osl,rfl,lk,hcd⟩:=F.ex;refine Cy lk hcd S len λA outer s H vs Q E hr hsp=>?_;obtain⟨t,h,q⟩:=hbody cdv A outer s H vs Q E hr hsp;exact⟨t,h.sG,q⟩
theorem aE.binds {x qual:Str} {st:Stmt} {f:Addr} {fd:FuncData} {ps:List Str} (F:aE K x qual st f fd)
 (h:∀(kV doc pm:Value) (an:Option Addr) (cdv ct:Value) (us:List Value),us.length=ps.length->bindArgs (PySem.W.fnOf x qual (oP st) (kz st) (ay st) .none kV doc pm an cdv ct) ⟨us,[]⟩=pure (ps.zip us)):Binds K fd ps []:=by
 obtain⟨oc,od,kV,doc,pm,an,cdv,ct,osl,rfl,lk,hcd⟩:=F.ex;exact .all (h kV doc pm an cdv ct)
theorem K1 {x qual:Str} {st:Stmt} {f:Addr} {oc:Value} {od an:Option Addr} {osl:Array (Option Value)} {kV doc pm cdv ct:Value} (l:K.lookup f=some ⟨oc,od,.func (PySem.W.fnOf x qual (oP st) (kz st) (ay st) .none kV doc pm an cdv ct),osl⟩)
 (c:PySem.W.codeIn K cdv qual=true) (k:PySem.W.keepIn K (.ref f)=true):aE K x qual st f (PySem.W.fnOf x qual (oP st) (kz st) (ay st) .none kV doc pm an cdv ct):=⟨⟨oc,od,kV,doc,pm,an,cdv,ct,osl,rfl,l,c⟩,k⟩
end
theorem iN {A:Around} {k:Nat} (hr:cy k A):A.units+1<cLine:=Nat.lt_of_le_of_lt (Nat.add_le_add_left (by decide:1<=64) _) hr.units
theorem bU {n:Nat} (h:n<=1000):n<sizeLine:=Nat.lt_of_le_of_lt h (by decide)
section
variable {X:Cx}
theorem pv (i:Nat) {x:Str} {pos:Pos} (hN:X.N[i]?=some x:=by rfl) (hv:my X.env.scope x:=by first|exact Or.inl rfl|exact Or.inr (Or.inl rfl)|exact Or.inr (Or.inr rfl)) (hd:(x==("__debug__":Str))=false:=by decide)
 (hcd:(x==("__classdict__":Str))=false:=by decide):PE X (.Name x pos) (aY i):=O7 hN hv hd hcd
theorem Bq:cR X (.builtin "len") (λxs H Q=>∃a kvs,xs=[V.ref a]/\H a=some (.dK kvs)/\Q (.int kvs.length) H):=by
 intro pins s σ H xs us Q I r h;obtain⟨a,kvs,rfl,ha,q⟩:=h;obtain⟨u,rfl,ru⟩:=vals1 r;cases ru;exact Jk I (.inl ha) λt s' I'=>⟨.int kvs.length,H,I',⟨t,rfl⟩,q⟩
end
theorem gW {A B:Prop} (h:B):if false=true then A else B:=by
 rw[if_neg Bool.false_ne_true];exact h
theorem fJ {A B:Prop} (h:A):if true=true then A else B:=by
 rw[if_pos rfl];exact h
theorem bE {c A B:Prop} [Decidable c] (h1:c->A) (h2:¬c->B):if c then A else B:=by
 by_cases h:c
 ·rw[if_pos h];exact h1 h
 ·rw[if_neg h];exact h2 h
def af (H H':Hp):Prop:=∀b o,H b=some o->H' b=some o
theorem af.refl (H:Hp):af H H:=λ_ _ h=>h
theorem af.trans {H H1 H2:Hp} (a:af H H1) (b:af H1 H2):af H H2:=λc o h=>b c o (a c o h)
theorem af.free {H H':Hp} (e:af H H') {l:Addr} (h:H' l=Option.none):H l=Option.none:=by
 cases q:H l with
 |none=>rfl
 |some o=>
  rw[e l o q] at h;cases h
theorem af.seq {K:PySem.W.Frag} {H H':Hp} {a:Addr} {xs:List V} (e:af H H') (h:ak K H a xs):ak K H' a xs:=by
 rcases h with (h|⟨o,h⟩)|h
 ·exact .inl (.inl (e _ _ h))
 ·exact .inl (.inr ⟨o,e _ _ h⟩)
 ·exact .inr h
section
variable {κ:Type} [DecidableEq κ]
theorem Ts {kvs:List (κ×V)} {k:κ} {v:V} (h:bL kvs k=some v):k∈kvs.map (·.1):=by
 have q:(kvs.any λkv=>decide (kv.1=k))=true:=by
  rw[mw,h]
  all_goals rfl
 obtain⟨p,hp,e⟩:=List.any_eq_true.mp q;exact List.mem_map.mpr ⟨p,hp,of_decide_eq_true e⟩
theorem Jy {p:κ×V} {r:List (κ×V)} {k:κ} (e:p.1=k):dZ (p::r) k=dZ r k:=by
 unfold dZ;rw[List.filter_cons,if_neg (by simp[e])]
theorem Jx {p:κ×V} {r:List (κ×V)} {k:κ} (e:¬p.1=k):dZ (p::r) k=p::dZ r k:=by
 unfold dZ;rw[List.filter_cons,if_pos (by simp[e])]
end
end L2
section
set_option maxHeartbeats 2000000
namespace L2
open PySem PySem.Spec PyProof.Rows
open PySem.W (WData Codec OpenSpec Well WellAll ReadsW ReadsAllW)
mutual
inductive Dw (K:PySem.W.Frag) (H:Hp):V->WData->Prop
 |aI:Dw K H .aI .none
 |bl (b:Bool):Dw K H (.bl b) (.bool b)
 |int (i:Int):Dw K H (.int i) (.int i)
 |str (x:Str):Dw K H (.str x) (.str x)
 |eS (b:Array UInt8):Dw K H (.eS b) (.bytes b.toList)
 |lst {a:Addr} {xs:List V} {ds:List WData}:ak K H a xs->fH K H xs ds->Dw K H (.ref a) (.list ds)
 |tup {a:Addr} {xs:List V} {ds:List WData}:ba K H a xs->fH K H xs ds->Dw K H (.ref a) (.tuple ds)
inductive fH (K:PySem.W.Frag) (H:Hp):List V->List WData->Prop
 |nil:fH K H [] []
 |cons {v:V} {vs:List V} {d:WData} {ds:List WData}:Dw K H v d->fH K H vs ds->fH K H (v::vs) (d::ds)
end
theorem B2 {K:PySem.W.Frag} {H:Hp}:∀ns:List Int,fH K H (ns.map V.int) (ns.map WData.int)
 |[]=> .nil
 |n::r=> .cons (.int n) (B2 r)
theorem Dj {K:PySem.W.Frag} {H:Hp}:∀(ns:List Int) (xs:List V),fH K H xs (ns.map WData.int)->xs=ns.map V.int
 |[],xs,h=>by
  cases h;rfl
 |n::r,xs,h=>by
  cases h with
  |cons h1 h2=>
   cases h1;rw[Dj r _ h2]<;>rfl
section
variable {P:Program} {w:World} {K:PySem.W.Frag} {H:Hp} {h:Heap} {R:PySem.W.WRecords} {cl:Str->Option Addr}
theorem Sa {a:Addr} {xs:List V} (aw:bI P w H h) (KX:K.In h) (q:ak K H a xs):∃(its:List Value) (o:Obj) (n:Nat),Vals xs its/\h.get? a=some o/\o.cls= .type "list"/\o.data= .seq its.toArray n:=by
 rcases q with q|⟨o,its,n,e,hc,_,hd,_,hv⟩
 ·obtain⟨_,its,n,hv,e⟩:=(show bO P w H h a (.lst xs) from q.ok aw)
  exact⟨its,_,n,hv,e,rfl,rfl⟩
 ·exact⟨its.toList,o,n,hv,KX _ _ e,hc,by simp[hd]⟩
theorem Sb {a:Addr} {xs:List V} (aw:bI P w H h) (KX:K.In h) (q:ba K H a xs):∃(its:List Value) (o:Obj) (n:Nat),Vals xs its/\h.get? a=some o/\o.cls= .type "tuple"/\o.data= .seq its.toArray n:=by
 rcases q with q|⟨o,its,n,e,hc,hd,_,hv⟩
 ·obtain⟨_,its,hv,o,e,hc,n,hd⟩:=(show bO P w H h a (.tup xs) from q.ok aw)
  exact⟨its,o,n,hv,e,hc,hd⟩
 ·exact⟨its.toList,o,n,hv,KX _ _ e,hc,by simp[hd]⟩
mutual
theorem Dw.reads (aw:bI P w H h) (KX:K.In h):∀(d:WData) (v:V) (u:Value),Dw K H v d->RelV v u->∃as,ReadsW R cl h u d as
 | .none,_,_,x,r=>by
   cases x;cases r;exact⟨_,ReadsW.none⟩
 | .bool b,_,_,x,r=>by
   cases x;cases r;exact⟨_,ReadsW.bool b⟩
 | .int i,_,_,x,r=>by
   cases x;obtain⟨t,rfl⟩:=r;exact⟨_,ReadsW.int i t⟩
 | .str s,_,_,x,r=>by
   cases x;obtain⟨t,rfl⟩:=r;exact⟨_,ReadsW.str s t⟩
 | .bytes b,_,_,x,r=>by
   cases x;obtain⟨t,rfl⟩:=r;exact⟨_,ReadsW.bytes _ t⟩
 | .list ds,_,_,x,r=>by
   cases x with
   |lst hs ha=>
    cases r;obtain⟨its,o,n,rv,ho,hc,hd⟩:=Sa aw KX hs;obtain⟨as,hr⟩:=Dw.readsAll aw KX ds _ its ha rv;exact⟨_,ReadsW.list ho hc hd hr⟩
 | .tuple ds,_,_,x,r=>by
   cases x with
   |tup hs ha=>
    cases r;obtain⟨its,o,n,rv,ho,hc,hd⟩:=Sb aw KX hs;obtain⟨as,hr⟩:=Dw.readsAll aw KX ds _ its ha rv;exact⟨_,ReadsW.tuple ho hc hd hr⟩
 | .float _,_,_,x,_=>by cases x
 | .dict _,_,_,x,_=>by cases x
 | .bytearray _,_,_,x,_=>by cases x
 | .set _,_,_,x,_=>by cases x
 | .frozenset _,_,_,x,_=>by cases x
 | .obj _ _,_,_,x,_=>by cases x
theorem Dw.readsAll (aw:bI P w H h) (KX:K.In h):∀(ds:List WData) (vs:List V) (us:List Value),fH K H vs ds->Vals vs us->∃as,ReadsAllW R cl h us ds as
 |[],_,_,x,r=>by
  cases x;cases r;exact⟨_,ReadsAllW.nil⟩
 |d::ds,_,_,x,r=>by
  cases x with
  |cons h1 h2=>
   cases r with
   |cons r1 r2=>
    obtain⟨as,q1⟩:=Dw.reads aw KX d _ _ h1 r1;obtain⟨bs,q2⟩:=Dw.readsAll aw KX ds _ _ h2 r2;exact⟨_,ReadsAllW.cons q1 q2⟩
end
end
mutual
def fc:WData->Bool
 | .none=>true
 | .bool _=>true
 | .int _=>true
 | .str _=>true
 | .bytes _=>true
 | .list xs=>fQ xs
 | .tuple xs=>fQ xs
 |_=>false
def fQ:List WData->Bool
 |[]=>true
 |x::r=>fc x&&fQ r
end
theorem Fg {α:Type} {f:α->WData} (h:∀a,fc (f a)=true):∀l:List α,fQ (l.map f)=true
 |[]=>rfl
 |x::r=>by
  show(fc (f x)&&fQ (r.map f))=true;rw[h x,Fg h r]<;>rfl
theorem iX:∀(c:Codec) (a:c.denote),fc (c.enc a)=true
 | .unit,_=>rfl
 | .bool,_=>rfl
 | .int _ _,_=>rfl
 | .nat _ _,_=>rfl
 | .u8,_=>rfl
 | .bytes _ _,_=>rfl
 | .text _ _ _ _,_=>rfl
 | .list _ _ c,a=>Fg (λx=>iX c x) a
 | .pair c d,a=>by
   show(fc (c.enc a.1)&&(fc (d.enc a.2)&&true))=true;rw[iX c a.1,iX d a.2]<;>rfl
 | .triple c d e,a=>by
   show(fc (c.enc a.1)&&(fc (d.enc a.2.1)&&(fc (e.enc a.2.2)&&true)))=true;rw[iX c a.1,iX d a.2.1,iX e a.2.2]<;>rfl
 | .option c,none=>rfl
 | .option c,some x=>iX c x
theorem Fh:∀(cs:List Codec) (a:Codec.denoteAll cs),fQ (Codec.encAll cs a)=true
 |[],_=>rfl
 |c::cs,a=>by
  show(fc (c.enc a.1)&&fQ (Codec.encAll cs a.2))=true;rw[iX c a.1,Fh cs a.2]<;>rfl
theorem Ap:∀{xs:List WData} {d:WData},d∈xs->d.weight<=WData.weightAll xs
 |[],d,h=>absurd h (by simp)
 |x::r,d,h=>by
  show d.weight<=x.weight+1+WData.weightAll r;rcases List.mem_cons.mp h with e|m
  ·rw[e];omega
  ·have z:=Ap m;omega
def toV:Value->V
 | .none=> .aI
 | .bool b=> .bl b
 | .int i _=> .int i
 | .str x _=> .str x
 | .bytes b _=> .eS b
 | .ref a=> .ref a
 |_=> .aI
def fk (A:List Addr):Value->Prop
 | .none=>True
 | .bool _=>True
 | .int _ _=>True
 | .str _ _=>True
 | .bytes _ _=>True
 | .ref a=>a∈A
 |_=>False
theorem fk.mono {A B:List Addr} (h:∀a∈A,a∈B):∀{u:Value},fk A u->fk B u:=λ{u} x=>by
 cases u with
 |ref a=>exact h a x
 |none=>trivial
 |bool b=>trivial
 |int i t=>trivial
 |str s t=>trivial
 |bytes b t=>trivial
 |_=>exact False.elim x
theorem P0 {A:List Addr} {u:Value} (x:fk A u):RelV (toV u) u:=by
 cases u with
 |ref a=>rfl
 |none=>rfl
 |bool b=>rfl
 |int i t=>exact⟨t,rfl⟩
 |str s t=>exact⟨t,rfl⟩
 |bytes b t=>exact⟨t,rfl⟩
 |_=>exact False.elim x
theorem ou {A:List Addr}:∀{vs:List Value},(∀u∈vs,fk A u)->Vals (vs.map toV) vs
 |[],_=> .nil
 |u::r,h=> .cons (P0 (h u (List.mem_cons_self ..))) (ou λx hx=>h x (List.mem_cons_of_mem _ hx))
def fG (h:Heap) (A:List Addr) (a:Addr):Prop:=∃vs:List Value,vs.length<=sizeLine/\(∀u∈vs,fk A u)/\
 (h.get? a=some {cls:= .type "list",data:= .seq vs.toArray}\/h.get? a=some {cls:= .type "tuple",data:= .seq vs.toArray})
theorem fG.mono {h:Heap} {A B:List Addr} {a:Addr} (k:∀a∈A,a∈B) (x:fG h A a):fG h B a:=by
 obtain⟨vs,h1,h2,h3⟩:=x;exact⟨vs,h1,λu hu=>(h2 u hu).mono k,h3⟩
theorem um {P:Params} {h:Heap}:∀{vs:List Value} {ds:List WData},WellAll P h vs ds->vs.length=ds.length
 |_,_,.nil=>rfl
 |_,_,.cons _ b=>by
  show _+1=_+1;rw[um b]
theorem GI {P:Params} {h:Heap} {v:Value} {ds:List WData} (x:Well P h v (.list ds)):∃(a:Addr) (vs:List Value),v= .ref a/\h.get? a=some {cls:= .type "list",data:= .seq vs.toArray}/\WellAll P h vs ds:=by
 cases x with
 |list ho hall=>exact⟨_,_,rfl,ho,hall⟩
theorem GJ {P:Params} {h:Heap} {v:Value} {ds:List WData} (x:Well P h v (.tuple ds)):∃(a:Addr) (vs:List Value),v= .ref a/\h.get? a=some {cls:= .type "tuple",data:= .seq vs.toArray}/\WellAll P h vs ds:=by
 cases x with
 |tuple ho hall=>exact⟨_,_,rfl,ho,hall⟩
theorem GH {P:Params} {h:Heap} {us:List Value} {d:WData} {ds:List WData} (x:WellAll P h us (d::ds)):∃(v:Value) (vs:List Value),us=v::vs/\Well P h v d/\WellAll P h vs ds:=by
 cases x with
 |cons a b=>exact⟨_,_,rfl,a,b⟩
theorem DC {n:Nat} (h:n<=1048576):n<=sizeLine:=Nat.le_trans h (by decide)
section
variable {P:Params} {h:Heap}
mutual
theorem GZ:∀(d:WData) (v:Value),Well P h v d->fc d=true->d.weight<=1048576->∃A:List Addr,fk A v/\∀a∈A,fG h A a
 | .none,_,x,_,_=>by
   cases x;exact⟨[],trivial,λa m=>absurd m (by simp)⟩
 | .bool b,_,x,_,_=>by
   cases x;exact⟨[],trivial,λa m=>absurd m (by simp)⟩
 | .int i,_,x,_,_=>by
   cases x;exact⟨[],trivial,λa m=>absurd m (by simp)⟩
 | .str s,_,x,_,_=>by
   cases x;exact⟨[],trivial,λa m=>absurd m (by simp)⟩
 | .bytes b,_,x,_,_=>by
   cases x;exact⟨[],trivial,λa m=>absurd m (by simp)⟩
 | .list ds,_,x,p,z=>by
   obtain⟨a,vs,rfl,ho,hall⟩:=GI x;have z2:WData.weightAll ds<=1048576:=z;obtain⟨A,h1,h2⟩:=qv ds _ hall p λd hd=>Nat.le_trans (Ap hd) z2;have k:∀b∈A,b∈a::A:=λb hb=>List.mem_cons_of_mem _ hb;refine⟨a::A,List.mem_cons_self ..,λb hb=>?_⟩;rcases List.mem_cons.mp hb with e|m
   ·rw[e];exact⟨vs,DC (by rw[um hall];exact Nat.le_trans (PySem.W.length_le_weightAllW ds) z2),λu hu=>(h1 u hu).mono k,.inl ho⟩
   ·exact(h2 b m).mono k
 | .tuple ds,_,x,p,z=>by
   obtain⟨a,vs,rfl,ho,hall⟩:=GJ x;have z2:WData.weightAll ds<=1048576:=z;obtain⟨A,h1,h2⟩:=qv ds _ hall p λd hd=>Nat.le_trans (Ap hd) z2;have k:∀b∈A,b∈a::A:=λb hb=>List.mem_cons_of_mem _ hb;refine⟨a::A,List.mem_cons_self ..,λb hb=>?_⟩;rcases List.mem_cons.mp hb with e|m
   ·rw[e];exact⟨vs,DC (by rw[um hall];exact Nat.le_trans (PySem.W.length_le_weightAllW ds) z2),λu hu=>(h1 u hu).mono k,.inr ho⟩
   ·exact(h2 b m).mono k
 | .float _,_,_,p,_=>Bool.noConfusion (show false=true from p)
 | .dict _,_,_,p,_=>Bool.noConfusion (show false=true from p)
 | .bytearray _,_,_,p,_=>Bool.noConfusion (show false=true from p)
 | .set _,_,_,p,_=>Bool.noConfusion (show false=true from p)
 | .frozenset _,_,_,p,_=>Bool.noConfusion (show false=true from p)
 | .obj _ _,_,_,p,_=>Bool.noConfusion (show false=true from p)
theorem qv:∀(ds:List WData) (vs:List Value),WellAll P h vs ds->fQ ds=true->(∀d∈ds,d.weight<=1048576)->∃A:List Addr,(∀u∈vs,fk A u)/\∀a∈A,fG h A a
 |[],_,x,_,_=>by
  cases x;exact⟨[],λu m=>absurd m (by simp),λa m=>absurd m (by simp)⟩
 |d::ds,_,x,p,z=>by
  obtain⟨v,vs,rfl,x1,x2⟩:=GH x;have q:fc d=true/\fQ ds=true:=Bool.and_eq_true_iff.mp p;obtain⟨A,a1,a2⟩:=GZ d v x1 q.1 (z d (List.mem_cons_self ..));obtain⟨B,b1,b2⟩:=qv ds vs x2 q.2 λe he=>z e (List.mem_cons_of_mem _ he);have kA:∀b∈A,b∈A++B:=λb hb=>List.mem_append.mpr (.inl hb);have kB:∀b∈B,b∈A++B:=λb hb=>List.mem_append.mpr (.inr hb);refine⟨A++B,λu hu=>?_,λb hb=>?_⟩
  ·rcases List.mem_cons.mp hu with e|m
   ·rw[e];exact a1.mono kA
   ·exact(b1 u m).mono kB
  ·rcases List.mem_append.mp hb with m|m
   ·exact(a2 b m).mono kA
   ·exact(b2 b m).mono kB
end
end
def rE (o:Obj):Option HO:=match o.data with
 | .seq vs _=>if (o.cls==Value.type "list")=true then some (.cP o (.lst (vs.toList.map toV))) else some (.cP o (.tup (vs.toList.map toV)))
 |_=>none
def du (K:PySem.W.Frag) (h:Heap) (A:List Addr):Hp:=λb=>if b∈A then (if (K.lookup b).isNone=true then (h.get? b).bind rE else none) else none
def oE (H:Hp):Prop:=∀b,H b=none\/∃o u,H b=some (.cP o u)
theorem Dd (vs:List Value):rE {cls:= .type "list",data:= .seq vs.toArray}=some (.cP {cls:= .type "list",data:= .seq vs.toArray} (.lst (vs.map toV))):=by
 show(if (Value.type "list"==Value.type "list")=true then some (HO.cP {cls:= .type "list",data:= .seq vs.toArray} (.lst (vs.toArray.toList.map toV))) else some (HO.cP {cls:= .type "list",data:= .seq vs.toArray} (.tup (vs.toArray.toList.map toV))))=_;rw[if_pos (beq_self_eq_true _)]
theorem De (vs:List Value):rE {cls:= .type "tuple",data:= .seq vs.toArray}=some (.cP {cls:= .type "tuple",data:= .seq vs.toArray} (.tup (vs.map toV))):=by
 show(if (Value.type "tuple"==Value.type "list")=true then some (HO.cP {cls:= .type "tuple",data:= .seq vs.toArray} (.lst (vs.toArray.toList.map toV))) else some (HO.cP {cls:= .type "tuple",data:= .seq vs.toArray} (.tup (vs.toArray.toList.map toV))))=_;rw[if_neg (by decide)]
section
variable {P:Program} {w:World} {K:PySem.W.Frag} {h:Heap} {A:List Addr}
theorem qw {b:Addr} {o:Obj} (hb:b∈A) (hk:K.lookup b=none) (e:h.get? b=some o):du K h A b=rE o:=by
 unfold du;rw[if_pos hb,hk,if_pos (show(none:Option Obj).isNone=true from rfl),e]<;>rfl
theorem NS {b:Addr} {u:HO} (q:du K h A b=some u):b∈A/\K.lookup b=none:=by
 unfold du at q;by_cases hb:b∈A
 ·rw[if_pos hb] at q;cases hk:K.lookup b with
  |none=>exact⟨hb,rfl⟩
  |some o=>
   rw[hk,if_neg (by simp)] at q;cases q
 ·rw[if_neg hb] at q;cases q
theorem qx (ar:∀a∈A,fG h A a) {b:Addr} {u:HO} (q:du K h A b=some u):K.lookup b=none/\∃vs:List Value,vs.length<=sizeLine/\(∀u∈vs,fk A u)/\
 ((h.get? b=some {cls:= .type "list",data:= .seq vs.toArray}/\u= .cP {cls:= .type "list",data:= .seq vs.toArray} (.lst (vs.map toV)))\/
  (h.get? b=some {cls:= .type "tuple",data:= .seq vs.toArray}/\u= .cP {cls:= .type "tuple",data:= .seq vs.toArray} (.tup (vs.map toV)))):=by
 obtain⟨hb,hk⟩:=NS q;obtain⟨vs,h1,h2,h3⟩:=ar b hb;refine⟨hk,vs,h1,h2,?_⟩;rcases h3 with e|e
 ·rw[qw hb hk e,Dd] at q;exact .inl ⟨e,(Option.some.inj q).symm⟩
 ·rw[qw hb hk e,De] at q;exact .inr ⟨e,(Option.some.inj q).symm⟩
theorem G1 (ar:∀a∈A,fG h A a):oE (du K h A):=λb=>by
 cases q:du K h A b with
 |none=>exact .inl rfl
 |some u=>
  obtain⟨_,vs,_,_,⟨_,e⟩|⟨_,e⟩⟩:=qx ar q
  ·exact .inr ⟨_,_,by rw[e]⟩
  ·exact .inr ⟨_,_,by rw[e]⟩
theorem G0 (ar:∀a∈A,fG h A a):bI P w (du K h A) h:=λb u q=>by
 obtain⟨_,vs,h1,h2,⟨e,rfl⟩|⟨e,rfl⟩⟩:=qx ar q
 ·exact⟨e,by rw[List.length_map];exact h1,vs,_,ou h2,e⟩
 ·exact⟨e,by rw[List.length_map];exact h1,vs,ou h2,_,e,rfl,_,rfl⟩
theorem tZ {c c':Value} {vs us:List Value} (e:(some {cls:=c,data:= .seq vs.toArray}:Option Obj)=some {cls:=c',data:= .seq us.toArray}):c=c'/\vs=us:=by
 have e1:=Option.some.inj e;have e2:c=c':=congrArg Obj.cls e1;have e3:Data.seq vs.toArray=Data.seq us.toArray:=congrArg Obj.data e1;injection e3 with e4;refine⟨e2,?_⟩;have e5:=congrArg Array.toList e4
 simpa using e5
theorem G2 (KX:K.In h) (ar:∀a∈A,fG h A a) {a:Addr} {vs:List Value} (ha:a∈A) (e:h.get? a=some {cls:= .type "list",data:= .seq vs.toArray}):(∀u∈vs,fk A u)/\ak K (du K h A) a (vs.map toV):=by
 obtain⟨us,h1,h2,h3⟩:=ar a ha;have hu:us=vs:=by
  rcases h3 with q|q
  ·rw[e] at q;exact(tZ q).2.symm
  ·rw[e] at q;exact absurd (Value.type.inj (tZ q).1) (by decide)
 subst hu;refine⟨h2,?_⟩;cases hk:K.lookup a with
 |none=>exact .inl (.inr ⟨_,by rw[qw ha hk e,Dd]⟩)
 |some o=>
  have e2:=KX a o hk;rw[e] at e2;obtain rfl:=Option.some.inj e2;exact .inr ⟨_,us.toArray,_,hk,rfl,rfl,rfl,by rw[List.size_toArray];exact h1,by simpa using ou h2⟩
theorem G3 (KX:K.In h) (ar:∀a∈A,fG h A a) {a:Addr} {vs:List Value} (ha:a∈A) (e:h.get? a=some {cls:= .type "tuple",data:= .seq vs.toArray}):(∀u∈vs,fk A u)/\ba K (du K h A) a (vs.map toV):=by
 obtain⟨us,h1,h2,h3⟩:=ar a ha;have hu:us=vs:=by
  rcases h3 with q|q
  ·rw[e] at q;exact absurd (Value.type.inj (tZ q).1) (by decide)
  ·rw[e] at q;exact(tZ q).2.symm
 subst hu;refine⟨h2,?_⟩;cases hk:K.lookup a with
 |none=>exact .inl (.inr ⟨_,by rw[qw ha hk e,De]⟩)
 |some o=>
  have e2:=KX a o hk;rw[e] at e2;obtain rfl:=Option.some.inj e2;exact .inr ⟨_,us.toArray,_,hk,rfl,rfl,by rw[List.size_toArray];exact h1,by simpa using ou h2⟩
mutual
theorem JB {Pm:Params} (KX:K.In h) (ar:∀a∈A,fG h A a):∀(d:WData) (v:Value),Well Pm h v d->fc d=true->fk A v->Dw K (du K h A) (toV v) d
 | .none,_,x,_,_=>by
   cases x;exact .aI
 | .bool b,_,x,_,_=>by
   cases x;exact .bl b
 | .int i,_,x,_,_=>by
   cases x;exact .int i
 | .str s,_,x,_,_=>by
   cases x;exact .str s
 | .bytes b,_,x,_,_=>by
   cases x;have z:=Dw.eS (K:=K) (H:=du K h A) b.toArray;exact z
 | .list ds,_,x,p,hu=>by
   obtain⟨a,vs,rfl,ho,hall⟩:=GI x;obtain⟨h2,hs⟩:=G2 KX ar hu ho;exact .lst hs (qV KX ar ds _ hall p h2)
 | .tuple ds,_,x,p,hu=>by
   obtain⟨a,vs,rfl,ho,hall⟩:=GJ x;obtain⟨h2,hs⟩:=G3 KX ar hu ho;exact .tup hs (qV KX ar ds _ hall p h2)
 | .float _,_,_,p,_=>Bool.noConfusion (show false=true from p)
 | .dict _,_,_,p,_=>Bool.noConfusion (show false=true from p)
 | .bytearray _,_,_,p,_=>Bool.noConfusion (show false=true from p)
 | .set _,_,_,p,_=>Bool.noConfusion (show false=true from p)
 | .frozenset _,_,_,p,_=>Bool.noConfusion (show false=true from p)
 | .obj _ _,_,_,p,_=>Bool.noConfusion (show false=true from p)
theorem qV {Pm:Params} (KX:K.In h) (ar:∀a∈A,fG h A a):∀(ds:List WData) (vs:List Value),WellAll Pm h vs ds->fQ ds=true->(∀u∈vs,fk A u)->fH K (du K h A) (vs.map toV) ds
 |[],_,x,_,_=>by
  cases x;exact .nil
 |d::ds,_,x,p,hu=>by
  obtain⟨v,vs,rfl,x1,x2⟩:=GH x;have q:fc d=true/\fQ ds=true:=Bool.and_eq_true_iff.mp p;exact .cons (JB KX ar d v x1 q.1 (hu _ (List.mem_cons_self ..))) (qV KX ar ds vs x2 q.2 λu m=>hu u (List.mem_cons_of_mem _ m))
end
end
theorem R9 {P:Program} {w:World} {K:PySem.W.Frag} {mg mb:Str->Option Value} {CX:eR} {k:Nat} {fa:Addr} {fd:FuncData} {ps:List Str} {sp:Sp} {s₁:Shared} {vals:List Value} {ds:List WData} {R:PySem.W.WRecords} {cl:Str->Option Addr} {d0:WData}
 (KX:K.In s₁.heap) (hns:s₁.heap.Ns mainGlobals mg) (hb:s₁.heap.Ns builtinsNs mb) (hbb:∀x:Str,x≠"__name__"->mb x=bootBuiltins x) (hlim:s₁.heap.NoLimit) (hg:s₁.gens=#[])
 (hwl:WellAll w.params s₁.heap vals ds) (hpl:fQ ds=true) (hwt:∀d∈ds,d.weight<=1048576) (hr:cy k callerA)
 (F:∀base:Heap,K.In base->base.Ns mainGlobals mg->aA P w K mg base CX k fa fd ps sp) (hbind:∀(s:Shared) (us:List Value),us.length=ps.length->BindsTo s fd ⟨us,[]⟩ (ps.zip us)) (hlen:ds.length=ps.length)
 (hsp:∀(H:Hp) (xs:List V),oE H->fH K H xs ds->sp xs H (λv H'=>Dw K H' v d0) λ_ _ _=>False)
 (hCX:∀H e s',CX [] H s₁ (λ_ _ _=>False) e s'->False):
 codeAny (model P w) callerA (.call (.ref fa) ⟨vals,[]⟩) (λr s'=>∃u as,r= .ok (.ret u)/\ReadsW R cl s'.heap u d0 as/\OldK s₁.heap s'.heap/\s'.os=s₁.os/\AllBare s'.gens) s₁:=by
 obtain⟨A,ho,ar⟩:=qv ds vals hwl hpl hwt;have hO:oE (du K s₁.heap A):=G1 ar;have aw:bI P w (du K s₁.heap A) s₁.heap:=G0 ar;have hS:=qV KX ar ds vals hwl hpl ho;have hV:=ou ho;have hK:∀b u,du K s₁.heap A b=some u->K.lookup b=none:=λb u q=>(qx ar q).1;have noA:∀{b:Addr} {o:Obj} {es:Array DictEntry} {ep:Nat},s₁.heap.get? b=some o->o.data= .dict es ep->du K s₁.heap A b=none:=λ{b o es ep} e d=>by
  cases q:du K s₁.heap A b with
  |none=>rfl
  |some u=>
   obtain⟨_,vs,_,_,⟨e2,_⟩|⟨e2,_⟩⟩:=qx ar q
   ·rw[e2] at e;cases e;have d':Data.seq vs.toArray _=Data.dict es ep:=d;cases d'
   ·rw[e2] at e;cases e;have d':Data.seq vs.toArray _=Data.dict es ep:=d;cases d'
 generalize du K s₁.heap A=H at hO aw hS hK noA;have base_of:∀{b:Addr} {o:Obj},s₁.heap.get? b=some o->H b=none->(gS s₁.heap H).get? b=some o:=λe n=>Lh e n;have nsK:∀{b:Addr} {m:Str->Option Value},s₁.heap.Ns b m->(gS s₁.heap H).Ns b m:=λ{b m} ⟨o,es,ep,e,d,r⟩=>⟨o,es,ep,base_of e (noA e d),d,r⟩
 have nK:∀b o,K.lookup b=some o->H b=none:=λb o e=>by
  cases q:H b with
  |none=>rfl
  |some u=>
   rw[hK b u q] at e;cases e
 have hKb:K.In (gS s₁.heap H):=λb o e=>base_of (KX b o e) (nK b o e);have hM:Mod K mg (gS s₁.heap H):=⟨hKb,nsK hns,⟨mb,nsK hb,hbb⟩,let ⟨mc,h1,h2⟩:=hlim;⟨mc,nsK h1,h2⟩⟩
 have e0:jl P w K mg (gS s₁.heap H) callerA [] s₁ H:=⟨rfl,hM,λb o e=>NU e,Nat.le_of_eq (Li _ _),trivial,λb hb=>absurd (show b∈([]:List Addr) from hb) (by simp),aw,.of_eq hg⟩
 have hl:vals.length=ps.length:=by rw[um hwl];exact hlen
 refine codeAny_mono ((F _ hKb (nsK hns)).run callerA [] s₁ H ⟨vals,[]⟩ vals (vals.map toV) _ _ hr e0 (hbind s₁ vals hl) hV (hsp H _ hO hS)) λr s' x=>?_;cases r with
 |error e=>exact(hCX H e s' x).elim
 |ok fl=>
  cases fl with
  |next=>exact False.elim x
  |brk=>exact False.elim x
  |cont=>exact False.elim x
  |ret u=>
   obtain⟨v,H',os,bare,un,hok',r',q⟩:=x;have kept:∀b o,s₁.heap.get? b=some o->s'.heap.get? b=some o:=λb o e=>by
    cases q2:H b with
    |none=>exact un.keep b o e q2 (by intro z;exact absurd (show b∈([]:List Addr) from z) (by simp)) (by simp)
    |some u2=>
     rcases hO b with z|⟨ob,u3,z⟩
     ·rw[q2] at z;cases z
     ·have z2:=un.gv b ob _ z;obtain⟨e1,_⟩:=aw b _ z;obtain⟨e2,_⟩:=hok' b _ z2;rw[e] at e1;cases e1;exact e2
   have KX':K.In s'.heap:=λb o e=>kept b o (KX b o e);obtain⟨as,hrd⟩:=Dw.reads (R:=R) (cl:=cl) hok' KX' d0 v u q r';exact⟨u,as,rfl,hrd,OldK.of_keep kept,os,bare⟩
theorem Ml {ds:List WData} (h:WData.layableAll ds=true):∀d∈ds,d.weight<=1048576:=λd hd=>
 (PySem.W.layableW_iff.mp (List.all_eq_true.mp h d hd)).2.2
theorem B3:∀(cs:List Codec) (a:Codec.denoteAll cs),(Codec.encAll cs a).length=cs.length
 |[],_=>rfl
 |c::cs,a=>by
  show(Codec.encAll cs a.2).length+1=cs.length+1;rw[B3 cs a.2]
theorem Tu {r:OpenSpec} {k:Nat} {q:Program} {loose:List Str} {XP:(Str->Option Value)->Heap->Prop} {YP:World->Heap->Prop} {d:DefRec} {K:Params->PySem.W.Frag} {CX:World->eR} {ps:List Str} {sp:World->Sp}
 (hwell:r.wellSaid=true) (hdf:d.params.defaults=[]) (hlen:r.args.length=ps.length) (hr:cy k callerA)
 (hY:∀(w:World) (h:Heap),YP w h->(K w.params).In h)
 (F:∀(w:World) (mg:Str->Option Value) (fa:Addr) (h:Heap),YP w h->(K w.params).In h->h.Ns mainGlobals mg->mg d.name=some (.ref fa)->
  ∃fd:FuncData,(∀(s:Shared) (us:List Value),us.length=ps.length->BindsTo s fd ⟨us,[]⟩ (ps.zip us))/\
   ∀base:Heap,(K w.params).In base->base.Ns mainGlobals mg->aA r.prog w (K w.params) mg base (CX w) k fa fd ps (sp w))
 (hsp:∀(w:World) (H:Hp) (xs:List V) (a:Codec.denoteAll r.args),oE H->Codec.withinAll r.args a=true->Codec.app r.args r.asked a=true->fH (K w.params) H xs (Codec.encAll r.args a)->
  sp w xs H (λv H'=>Dw (K w.params) H' v (r.ret.enc (Codec.app r.args r.f a))) λ_ _ _=>False)
 (hCX:∀(w:World) (H:Hp) (s:Shared) (e:Value) (s':Shared),CX w [] H s (λ_ _ _=>False) e s'->False):
 PySem.W.WalkOS q loose XP YP r d [] (λf vs=>PySem.call f vs):=by
 intro w cV s₁ mg mb G Y fa o pm cd doc dV kV ho hd hcd hD hmg hg args vals as hpre hlay hrd hwl hlo;obtain⟨a,e1,e2⟩:=PySem.W.os_pre_some hpre;obtain⟨e3,hwi⟩:=Codec.encAll_of_decAll r.args args a e1;subst e3;have KX:=hY w _ Y;obtain⟨fd,hb,hF⟩:=F w mg fa _ Y KX G.T.g hmg;refine PySem.W.enter_call (codeAny_mono (R9 (R:=[]) (cl:=classAt cV.heap) (d0:=r.ret.enc (Codec.app r.args r.f a)) KX G.T.g G.T.b G.T.builtins G.T.nolimit hg hwl (Fh _ _) (Ml hlay) hr hF hb (by rw[B3];exact hlen)
  (λH xs hO hS=>hsp w H xs a hO hwi e2 hS) λH e s'=>hCX w H s₁ e s') λr' s' hq=>?_)
 obtain⟨u,as',rfl,h1,h2,h3,h4⟩:=hq;exact⟨.inl ⟨u,_,as',rfl,λ_=>rfl,h1,(OpenSpec.post_iff hwell hwi _ _).mpr rfl,λz=>Bool.noConfusion (show false=true from z)⟩,h2,h3,h4⟩
theorem Tv {r:OpenSpec} {k:Nat} {q:Program} {loose:List Str} {XP:(Str->Option Value)->Heap->Prop} {YP:World->Heap->Prop} {d:DefRec} {K:Params->PySem.W.Frag} {CX:eR} {ps:List Str} {sp:PySem.W.Frag->Sp}
 (hwell:r.wellSaid=true) (hdf:d.params.defaults=[]) (hlen:r.args.length=ps.length) (hr:cy k callerA)
 (hY:∀(w:World) (h:Heap),YP w h->(K w.params).In h)
 (F:∀(w:World) (mg:Str->Option Value) (fa:Addr) (h:Heap),YP w h->(K w.params).In h->h.Ns mainGlobals mg->mg d.name=some (.ref fa)->
  ∃fd:FuncData,(∀(s:Shared) (us:List Value),us.length=ps.length->BindsTo s fd ⟨us,[]⟩ (ps.zip us))/\
   ∀base:Heap,(K w.params).In base->base.Ns mainGlobals mg->aA r.prog w (K w.params) mg base CX k fa fd ps (sp (K w.params)))
 (hsp:∀(K:PySem.W.Frag) (H:Hp) (xs:List V) (a:Codec.denoteAll r.args),oE H->Codec.withinAll r.args a=true->Codec.app r.args r.asked a=true->fH K H xs (Codec.encAll r.args a)->
  sp K xs H (λv H'=>Dw K H' v (r.ret.enc (Codec.app r.args r.f a))) λ_ _ _=>False)
 (hCX:∀(H:Hp) (s:Shared) (e:Value) (s':Shared),CX [] H s (λ_ _ _=>False) e s'->False):
 PySem.W.WalkOS q loose XP YP r d [] (λf vs=>PySem.call f vs):=
 Tu (K:=K) (CX:=λ_=>CX) (sp:=λw=>sp (K w.params)) hwell hdf hlen hr hY F (λw H xs a h1 h2 h3 h4=>hsp (K w.params) H xs a h1 h2 h3 h4) λ_ H s e s'=>hCX H s e s'
end L2
end
namespace L2
open PySem PySem.Spec PyProof.Rows
def iD (base:Heap) (l:List Env) (e:Addr) (cls:Value) (h:Heap):Prop:=
 base.StaysIn h/\base.get? e=none/\h.FunFrames base l/\
  ((∃oe vs a0,h.get? e=some oe/\oe.cls=cls/\oe.data= .fields vs/\vs[0]?=some a0/\vs[1]?=some .none)\/∃a0 fl,h.TracedAtW base e cls a0 fl)
theorem iD.NT {base h:Heap} {l:List Env} {e:Addr} {cls a0:Value} (x:Heap.FlyingW base l e cls a0 h):iD base l e cls h:=⟨x.1,x.2.1,x.2.2.1,.inr ⟨_,_,x.2.2.2.at⟩⟩
section
variable {M:Model} {A:Around} {E:Value->Shared->Prop} {s:Shared}
theorem NR {e:Value} {env cenv:Env} (h:cenv.frame=env.frame):noteFrame e cenv=noteFrame e env:=by
 unfold noteFrame PySem.frameOf;rw[h]
theorem wL {base:Heap} {env cenv:Env} {outer:List Env} {L e:Addr} {cls:Value} {Q:Unit->Shared->Prop}
 (hfr:A.frames=some (env::outer)) (hf:env.frame=some L) (hc:cenv.frame=env.frame) (x:iD base (env::outer) e cls s.heap)
 (hQ:∀h' a0,Heap.HeldW base (env::outer) e cls a0 L h'->s.heap.UpToSlots h'->Q () {s with heap:=h'}):wpAny M A (noteFrame (.ref e) cenv) Q E s:=by
 rw[NR hc];obtain⟨hkb,hen,hl,x⟩:=x;rcases x with ⟨oe,vs,a0,he,rfl,hd,h0,h1⟩|⟨a0,fl,ht⟩
 ·have hsz:1<vs.size:=(Array.getElem?_eq_some_iff.mp h1).1;unfold noteFrame;simp only[hf];refine wpAny_bind (wpAny_field he hd h1 ?_);rw[if_neg (by decide)];exact wpAny_entryW hfr hl hf he hkb hen hd hsz h0 λh' ⟨k1,k2,k3,k4⟩=>hQ h' a0 ⟨k1,hen,k2,k3⟩ k4
 ·by_cases hfl:fl=rawInt L
  ·subst hfl;exact wpAny_noteFrame_againW hf ht (hQ s.heap a0 ⟨hkb,hen,hl,ht⟩ (.refl _))
  ·obtain⟨oe,vs,T,oT,ts,he,⟨hcls,h0⟩,hd,h1,hnT,hTe,hT,hdT,h3⟩:=ht;subst hcls;unfold noteFrame;simp only[hf];refine wpAny_bind (wpAny_field he hd h1 ?_);rw[if_pos (show(Value.ref T !=Value.none)=true from by simp)];refine wpAny_bind (wpAny_field hT hdT h3 ?_);rw[if_neg (show ¬((fl==rawInt L)=true) from λq=>hfl (eq_of_beq q))];refine wpAny_bind (wpAny_setField hT hdT (Array.getElem?_eq_some_iff.mp h3).1 ?_);have other:∀b,b≠T->(s.heap.update T (Obj.mapFields (·.setIfInBounds 3 Value.none))).get? b=s.heap.get? b:=λb hb=>Heap.get?_update_other _ _ (Ne.symm hb);have noRecord:∀b o,s.heap.get? b=some o->(∀vs,o.data≠ .fields vs)->b≠T:=λb o hb hnf q=>by
    rw[q,hT] at hb;injection hb with hb;subst hb;exact hnf ts hdT
   refine wpAny_entryW hfr (hl.of_keeps λb o hb hnf=>⟨o,(other b (noRecord b o hb hnf)).trans hb,rfl⟩) hf ((other e (Ne.symm hTe)).trans he)
    (λb o hbo=>(other b λq=>by rw[q,hnT] at hbo;cases hbo).trans (hkb b o hbo)) hen hd (Array.getElem?_eq_some_iff.mp h1).1 h0
    λh' ⟨x1,x2,x3,x4⟩=>hQ h' a0 ⟨x1,hen,x2,x3⟩ λb o hb hnf=>x4 b o ((other b (noRecord b o hb hnf)).trans hb) hnf
end
structure qg (X:Cx) (pins:List (Addr×Obj)) (H:Hp) (B:Heap):Prop where
 old:∀b o,X.cV.heap.get? b=some o->b∉cC X.stack->b∉X.ex->∃o',B.get? b=some o'
 gI:∀b u,H b=some u->∃o',B.get? b=some o'
 pin:∀p∈X.pn++pins,∃o',B.get? p.1=some o'
section
variable {X:Cx} {pins:List (Addr×Obj)} {σ:St} {H:Hp} {s:Shared} {B h':Heap}
theorem Inv.xA (I:Inv X pins σ H s) {b:Addr} {o:Obj} (e:X.cV.heap.get? b=some o) (hb:b∉X.fs):b∉cC X.stack:=λz=>by
 rcases List.mem_cons.mp (I.mf b z) with q|q
 ·exact absurd (Nat.lt_of_lt_of_le (Heap.lt_size e) I.ok.above) (by rw[q];exact Nat.lt_irrefl _)
 ·exact hb q
theorem Inv.kD (I:Inv X pins σ H s) (ib:qg X pins H B) (k0:B.StaysIn s.heap) (k1:B.StaysIn h') (u:s.heap.UpToSlots h'):Inv X pins σ H {s with heap:=h'}:=by
 have go:∀b o,s.heap.get? b=some o->(∃o',B.get? b=some o')->h'.get? b=some o:=λb o e ⟨o',e'⟩=>by
  have:=k0 b o' e';rw[e] at this;cases this;exact k1 b o e'
 have cellK:∀c v,s.heap.IsCell c v->h'.IsCell c v:=λc v ⟨o,ho,hd⟩=>by
  obtain⟨sl,q⟩:=u c o ho λvs z=>by rw[hd] at z;cases z
  exact⟨_,q,hd⟩
 refine⟨I.ok,I.os,I.bare,⟨λb o e n hb hx=>?_,λb o e n hb hx=>?_,I.base.free,λb o e hx=>?_,I.base.iB,I.base.gv,I.base.iA⟩,?_,λx c e=>?_,I.free,I.eh,λp hp=>?_,λa o e=>?_,I.len⟩
 ·exact go b o (I.base.keep b o e n hb hx) (ib.old b o e (I.xA e hb) hx)
 ·obtain⟨sl,e1⟩:=I.base.slot b o e n hb hx;obtain⟨_,o2,ho2,hd2⟩:=I.ez.mem hb;rw[e1] at ho2;cases ho2;obtain⟨sl',e2⟩:=u b _ e1 hd2;exact⟨sl',e2⟩
 ·obtain⟨o',e1⟩:=I.base.there b o e hx;by_cases hb:b∈X.fs
  ·obtain⟨_,o2,ho2,hd2⟩:=I.ez.mem hb;rw[e1] at ho2;cases ho2;obtain⟨sl',e2⟩:=u b _ e1 hd2;exact⟨_,e2⟩
  ·exact⟨o',go b o' e1 (ib.old b o e (I.xA e hb) hx)⟩
 ·obtain⟨m,hn,hl⟩:=I.loc;refine⟨m,u.ns hn,λi x v e1 e2 e3=>?_⟩;obtain⟨w,r,l⟩:=hl i x v e1 e2 e3;refine⟨w,r,?_⟩;rcases l with l|⟨k,c,e,z⟩
  ·exact .inl l
  ·exact .inr ⟨k,c,e,cellK c _ z⟩
 ·obtain⟨v,z⟩:=I.cell x c e;exact⟨v,cellK c v z⟩
 ·obtain⟨e,r⟩:=I.pin p hp;exact⟨go p.1 p.2 e (ib.pin p hp),r⟩
 ·refine(I.aw a o e).jc (λb v hb q=>go b v q ?_) (λ_ q=>q) λ_ _ q=>q;rcases hb with z|z
  ·rw[z];exact ib.gI a o e
  ·exact ib.gI b _ z
def Au (X:Cx) (pins:List (Addr×Obj)) (σ:St) (E:XK) (e:Value) (s:Shared):Prop:=∃(a:Addr) (cls:Value) (H:Hp) (B:Heap),e= .ref a/\Inv X pins σ H s/\qg X pins H B/\iD B X.stack a cls s.heap/\E cls none H
def Lets (X:Cx) (E:XK):Prop:=∀(pins:List (Addr×Obj)) (σ:St) (e:Value) (s:Shared),Au X pins σ E e s->X.xe e s
end
def dJ (P:Program) (w:World):eR:=λouter H s E e s'=>∃(a:Addr) (cls a0:Value) (H':Hp) (B:Heap),e= .ref a/\s'.os=s.os/\AllBare s'.gens/\Un (cC outer) [] H H' s.heap s'.heap/\bI P w H' s'.heap/\
 (∀b o,s.heap.get? b=some o->b∉cC outer->∃o',B.get? b=some o')/\(∀b u,H' b=some u->∃o',B.get? b=some o')/\Heap.FlyingW B outer a cls a0 s'.heap/\E cls none H'
section
variable {X:Cx} {E:XK}
theorem Lets.passes (h:Lets X E):Passes (dJ X.prog X.w) X E:=λpins σ H s e s' I ⟨a,cls,a0,H',B,he,os,bare,un,aw,b1,b2,fl,q⟩=>by
 have I':Inv X pins σ H' s':=I.qH (ch:=[]) os un aw bare λb z=>absurd z (by simp);refine h pins σ e s' ⟨a,cls,H',B,he,I',⟨λb o e hb hx=>?_,b2,λp hp=>?_⟩,iD.NT fl,q⟩
 ·obtain⟨o',e1⟩:=I.base.there b o e hx;exact b1 b o' e1 hb
 ·obtain⟨e,n,ne,nf,d⟩:=I.pin p hp;exact b1 p.1 p.2 e λz=>(List.mem_cons.mp (I.mf p.1 z)).elim ne nf
end
theorem bF {P:Program} {w:World} {K:PySem.W.Frag} {mg:Str->Option Value} {base:Heap} {N:List Str} {qual:Str} {scope:Scope} {f:Addr} {cd:Value} {A:Around} {outer:List Env} {s:Shared} {H:Hp} {E:XK}:
 Lets (iF (dJ P w) P w K mg base N qual scope f cd A outer s H E) E:=λpins σ e s1 ⟨a,cls,H1,B,he,I,ib,fl,q⟩=>by
 subst he;show wpAny _ _ (leaving _ _) _ _ _;unfold leaving;refine wpAny_bind (wL (outer:=outer) I.ok.frames rfl rfl fl λh1 a0 hh u1=>?_);have k0:B.StaysIn s1.heap:=fl.1;have I1:=I.kD ib k0 hh.1 u1;refine wpAny_landsW hh λh2 ff u2=>?_;have I2:=I1.kD (h':=h2) ib hh.1 ff.1 u2;obtain⟨f1,f2,⟨_,_,f3⟩,f4⟩:=ff;exact⟨a,cls,a0,H1,B,rfl,I2.os,I2.bare,I2.base,I2.aw,λb o e hb=>ib.old b o e (I.xA e hb) (by show b∉([]:List Addr);simp),ib.gI,⟨f1,f2,f3,f4⟩,q⟩
theorem bO.get {P:Program} {w:World} {H:Hp} {h:Heap} {a:Addr} {o:HO} (x:bO P w H h a o):∃ob,h.get? a=some ob:=by
 cases o with
 |lst xs=>obtain⟨_,_,_,_,e⟩:=x;exact⟨_,e⟩
 |tup xs=>obtain⟨_,_,_,ob,e,_⟩:=x;exact⟨ob,e⟩
 |dK kvs=>obtain⟨_,_,_,_,o,_,_,e,_⟩:=x;exact⟨_,e⟩
 |dT kvs=>obtain⟨_,_,_,_,o,_,_,e,_⟩:=x;exact⟨_,e⟩
 |set S n=>obtain⟨o,_,_,_,e,_⟩:=x;exact⟨_,e⟩
 |ins C dx fs=>obtain⟨_,_,_,e,_⟩:=x;exact⟨_,e⟩
 |own y=>exact x
 |xd fs=>obtain⟨_,⟨_,_,_,e,_⟩,_⟩:=x;exact⟨_,e⟩
 |tD lo hi=>obtain⟨_,_,_,e⟩:=x;exact⟨_,e⟩
 |cP ob u=>obtain⟨e,_⟩:=x;exact⟨_,e⟩
 |jg ps=>exact⟨_,x⟩
 |met f y=>exact⟨_,x⟩
 |ext φ=>obtain⟨_,q,_⟩:=x;exact q
structure oG (K:PySem.W.Frag) (C:Addr) (B newId initId:String) (bmB:List Value):Prop where
 ok:PySem.W.excIn K C bmB newId=true
 fb:ExcBaseFacts B newId initId bmB
theorem oG.own {K:PySem.W.Frag} {C:Addr} {B newId initId:String} {bmB:List Value} {h:Heap} {mg:Str->Option Value} {x:Str} (c:oG K C B newId initId bmB) (X:K.In h) (hm:mg x=some (.ref C)):OwnCls x C bmB newId mg h:=by
 refine⟨hm,?_⟩;have q:=c.ok;unfold PySem.W.excIn at q
 split at q
 ·rename_i dd cd sl ho
  split at q
  ·rename_i C' bm k0 k1 k2 k3 n k5 hm hs
   simp only[Bool.and_eq_true,beq_iff_eq,Bool.not_eq_true'] at q;obtain⟨⟨⟨⟨⟨rfl,rfl⟩,hdel⟩,ht⟩,aw⟩,hni⟩:=q;obtain⟨nm,bs,mro,ns,qn,hd,sn,sub,ab,col,del⟩:=cd;dsimp only at hm hdel aw hni;subst hm hdel;have hsl:sl=#[k0,k1,k2,k3,some (.builtin n),k5]:=by
    obtain⟨l⟩:=sl;simp only at hs;rw[hs]
   subst hsl;exact⟨bm,ns,nm,qn,bs,hd,sn,sub,ab,col,dd,k0,k1,k2,k3,k5,_,X _ _ ho,.of_isNs (PySem.W.isNs_of_in X aw),PySem.W.nsMap_none_of_in X aw hni,PySem.W.tail_of_in X ht⟩
  ·cases q
 ·cases q
section
variable {X:Cx} {E:XK}
theorem JK {pins:List (Addr×Obj)} {σ:St} {H:Hp} {s:Shared} {h':Heap} {e:Addr} {cls:Value} {args:List Value} (I:Inv X pins σ H s) (mk:Heap.MadeExcOf s.heap h' e cls args) (q:E cls none H):
 Au X pins σ E (.ref e) {s with heap:=h'}:=by
 have I':Inv X pins σ H {s with heap:=h'}:=I.kept (t':=s.toks) mk.keeps;have inB:∀b o,s.heap.get? b=some o->b∉cC X.stack->∃o',(PySem.W.hideAll s.heap (cC X.stack)).get? b=some o':=λb o e hb=>⟨o,PySem.W.hideAll_get _ e hb⟩
 obtain⟨t,he,htn,ht⟩:=mk.there;refine⟨e,cls,H,PySem.W.hideAll s.heap (cC X.stack),rfl,I',⟨λb o e hb hx=>?_,λb u e=>?_,λp hp=>?_⟩,⟨λb o q=>mk.keeps b o (PySem.W.of_hideAll _ q),?_,?_,.inl ⟨_,_,_,he,rfl,rfl,rfl,rfl⟩⟩,q⟩
 ·obtain⟨o',e1⟩:=I.base.there b o e hx;exact inB b o' e1 hb
 ·obtain⟨o',e1⟩:=(I.aw b u e).get;exact inB b o' e1 λz=>by rw[I.Aa b z] at e;cases e
 ·obtain⟨e,n,ne,nf,d⟩:=I.pin p hp;exact inB p.1 p.2 e λz=>(List.mem_cons.mp (I.mf p.1 z)).elim ne nf
 ·cases q:(PySem.W.hideAll s.heap (cC X.stack)).get? e with
  |none=>rfl
  |some o=>have:=PySem.W.of_hideAll _ q;rw[mk.new] at this;cases this
 ·exact(PySem.W.funFrames_hide I.stack λenv he b hb=>List.mem_filterMap.mpr ⟨env,he,hb⟩).of_keeps λb o hb _=>⟨o,mk.keeps b o hb,rfl⟩
def SF (C:Addr) (E:XK) (t:TA):TS:=λ_ σ H=>t σ H λvs H1=>vs.length<=sizeLine/\E (.ref C) none H1
theorem iY {C:Addr} {B newId initId:String} {bmB:List Value} {x:Str} {np cpos pos:Pos} {e0:Expr} {rest:List Expr} {t:TA} (c:oG X.K C B newId initId bmB) (hg:Gl X x) (hm:X.mg x=some (.ref C)) (hc:X.calm=true) (hl:Lets X E)
 (ha:PA X (e0::rest) t) (hd:(x==("__debug__":Str))=false:=by decide) (he:starEach (e0::rest) X.env=(false,eval e0 X.env)::starEach rest X.env:=by rfl) (hpl:(backTo cpos (starEach rest X.env)).any (·.1)=false:=by rfl):
 PS X (.Raise (some (.Call (.Name x np) (e0::rest) [] cpos)) none pos) (SF C E t):=by
 intro pins s σ H D I h;obtain⟨tl,N,nm,q,bs,hdct,sn,sub,ab,col,dd,k0,k1,k2,k3,k5,mN,hC,hN,hni,T⟩:=(c.own I.mod.kX hm).obj;refine wpAny_Raise_call_subT (C:=C) (nm:=nm) (q:=q) (N:=N) (bs:=bs) (bm:=tl) (hdct:=hdct) (sn:=sn) (sub:=sub) (ab:=ab) (col:=col) (dd:=dd) (k0:=k0) (k1:=k1) (k2:=k2) (k3:=k3) (k5:=k5)
  c.fb (mN:=mN) (T.hasType c.fb.hasBase) (I.ok.hd hc) (by rw[he];show(false||(backTo cpos (starEach rest X.env)).any (·.1))=false;rw[hpl];rfl) hni (mW I hg hm ⟨rfl,?_⟩ hd)
 have h2:=ha cpos pins s σ H _ I h;rw[he] at h2⊢;exact Calls.evalArgs_plain (wpAny_mono h2 (λvs s₂ ⟨xs,H1,I1,r,hlen,q⟩=>⟨rfl,by rw[<-r.length];exact hlen,I1.bk _ _ hC,hN.keeps I1.bk,T.keeps I1.bk,λh' e mk=>hl pins σ _ _ (JK I1 mk q)⟩) λ_ _ y=>y)
end
theorem aE.fz {P:Program} {w:World} {K:PySem.W.Frag} {mg:Str->Option Value} {base:Heap} {x qual:Str} {st:Stmt} {f:Addr} {fd:FuncData} {N ps:List Str} {k:Nat} {sp:Sp} (F:aE K x qual st f fd) (S:aG N ps (ay st))
 (len:∀vs H Q E,sp vs H Q E->vs.length=ps.length)
 (hbody:∀(cdv:Value) (A:Around) (outer:List Env) (s:Shared) (H:Hp) (vs:List V) (Q:VK) (E:XK),cy k (A.deeper (envOfC qual (ay st) s.heap.objs.size f cdv))->sp vs H Q E->
  ∃t,dY (iF (dJ P w) P w K mg base N qual (ay st) f cdv A outer s H E) (kz st) t/\t {nx:=λ_ H'=>Q .aI H',rt:=Q} (start N vs) H):aA P w K mg base (dJ P w) (k+1) f fd ps sp:=by
 obtain⟨oc,od,kV,doc,pm,an,cdv,ct,osl,rfl,lk,hcd⟩:=F.ex;exact Cy lk hcd S len λA outer s H vs Q E hr hsp=>hbody cdv A outer s H vs Q E hr hsp
abbrev Cx.eX (X:Cx) (a:Addr):Cx:={X with A:=X.A.mark (some (.ref a)),calm:=false,xe:=λ_ _=>False}
abbrev Cx.mr (X:Cx) (pn:List (Addr×Obj)) (xe:Value->Shared->Prop):Cx:={X with pn:=pn,xe:=xe}
section
variable {X:Cx} {pins:List (Addr×Obj)} {σ:St} {H:Hp} {s:Shared} {a:Addr}
theorem Cx.Ok.eX (ok:X.Ok) (a:Addr):(X.eX a).Ok:=
 ⟨ok.mod,ok.kind,ok.glob,ok.blt,ok.above,ok.inj,ok.has,ok.ki,(λz=>by cases z),ok.frames,ok.om,ok.iH,ok.bs,ok.fX,ok.lB,ok.iI,ok.ez,ok.gP⟩
theorem Inv.eX (I:Inv X pins σ H s) (a:Addr):Inv (X.eX a) pins σ H s:=⟨I.ok.eX a,I.os,I.bare,I.base,I.loc,I.cell,I.free,I.eh,I.pin,I.aw,I.len⟩
theorem Inv.ot (I:Inv (X.eX a) pins σ H s) (ok:X.Ok):Inv X pins σ H s:=⟨ok,I.os,I.bare,I.base,I.loc,I.cell,I.free,I.eh,I.pin,I.aw,I.len⟩
theorem SP.ot {D:Ends} {f:Flow} {s':Shared} (h:SP (X.eX a) pins D f s') (ok:X.Ok):SP X pins D f s':=by
 cases f with
 |next=>obtain⟨σ',H',I,q⟩:=h;exact⟨σ',H',I.ot ok,q⟩
 |brk=>obtain⟨σ',H',I,q⟩:=h;exact⟨σ',H',I.ot ok,q⟩
 |cont=>obtain⟨σ',H',I,q⟩:=h;exact⟨σ',H',I.ot ok,q⟩
 |ret u=>obtain⟨v,σ',H',I,r,q⟩:=h;exact⟨v,σ',H',I.ot ok,r,q⟩
variable {xe:Value->Shared->Prop}
theorem Inv.mr (I:Inv X pins σ H s) (xe:Value->Shared->Prop):Inv (X.mr (X.pn++pins) xe) [] σ H s:=
 ⟨⟨I.ok.mod,I.ok.kind,I.ok.glob,I.ok.blt,I.ok.above,I.ok.inj,I.ok.has,I.ok.ki,I.ok.hd,I.ok.frames,I.ok.om,I.ok.iH,I.ok.bs,I.ok.fX,I.ok.lB,I.ok.iI,I.ok.ez,I.ok.gP⟩,I.os,I.bare,I.base,I.loc,I.cell,I.free,I.eh,λp hp=>I.pin p (by simpa using hp),I.aw,I.len⟩
theorem Inv.gJ {pl:List (Addr×Obj)} (I:Inv (X.mr (X.pn++pins) xe) pl σ H s) (ok:X.Ok):Inv X pins σ H s:=
 ⟨ok,I.os,I.bare,I.base,I.loc,I.cell,I.free,I.eh,λp hp=>I.pin p (List.mem_append_left _ hp),I.aw,I.len⟩
theorem SP.gJ {D:Ends} {f:Flow} {s':Shared} {pl:List (Addr×Obj)} (h:SP (X.mr (X.pn++pins) xe) pl D f s') (ok:X.Ok):SP X pins D f s':=by
 cases f with
 |next=>obtain⟨σ',H',I,q⟩:=h;exact⟨σ',H',I.gJ ok,q⟩
 |brk=>obtain⟨σ',H',I,q⟩:=h;exact⟨σ',H',I.gJ ok,q⟩
 |cont=>obtain⟨σ',H',I,q⟩:=h;exact⟨σ',H',I.gJ ok,q⟩
 |ret u=>obtain⟨v,σ',H',I,r,q⟩:=h;exact⟨v,σ',H',I.gJ ok,r,q⟩
end
def SG (C:Addr) (Et:XK) (tb th:TS):TS:=λD σ H=>tb D σ H/\∀(σ':St) (cls:Value) (H':Hp),σ'.length=σ.length->Et cls none H'->cls= .ref C/\th D σ' H'
theorem x8 {X:Cx} {C:Addr} {B newId initId:String} {bmB:List Value} {x:Str} {np hpos pos:Pos} {body suite:List Stmt} {b0:Stmt} {Et:XK} {tb th:TS} (c:oG X.K C B newId initId bmB) (hg:Gl X x) (hm:X.mg x=some (.ref C))
 (hst:X.stack=X.env::X.outer) (hf:X.env.frame=some X.env.locals)
 (hb:∀(pn:List (Addr×Obj)) (xe:Value->Shared->Prop),PassesOwn (model X.prog X.w) X.A X.env xe->Lets (X.mr pn xe) Et->dY (X.mr pn xe) body tb) (hh:∀a:Addr,dY (X.eX a) (b0::suite) th)
 (hd:(x==("__debug__":Str))=false:=by decide):
 PS X (.Try body [.ExceptHandler (some (.Name x np)) none (b0::suite) hpos] [] [] pos) (SG C Et tb th):=by
 intro pins s σ H D I h;obtain⟨h1,h2⟩:=h;refine wpAny_Try_except (wpAny_mono (hb (X.pn++pins) _ PassesOwn.looking ?lets [] s σ H D (I.mr _) h1) (λf s1 q1=>?_) λe s1 q=>q)
 case lets=>
  rintro pl σ' e s1 ⟨a,cls,H1,B,he,I1,ib,fl,q⟩;subst he;have J0:Inv X pins σ' H1 s1:=I1.gJ I.ok;have jb:qg X pins H1 B:=⟨ib.old,ib.gI,λp hp=>ib.pin p (List.mem_append_left _ hp)⟩
  obtain⟨rfl,hth⟩:=h2 σ' cls H1 (by rw[J0.len,I.len]) q;have fl:iD B (X.env::X.outer) a (.ref C) s1.heap:=by rw[<-hst];exact fl
  refine wL (outer:=X.outer) (by rw[<-hst];exact I.ok.frames) hf rfl fl λh1 a0 hh1 u1=>?_;have J1:=J0.kD jb fl.1 hh1.1 u1;refine wpAny_landsW hh1 λh2 ff u2=>?_;have J2:=J1.kD (h':=h2) jb hh1.1 ff.1 u2;obtain⟨ob,hob,hobc⟩:=ff.there;refine wpAny_handleBy_cons (codeAny_handlers_test (mW (J2.eX a) hg hm ?_ hd)) (by intro q;cases q);obtain⟨tl,N,nm,q,bs,hdct,sn,sub,ab,col,dd,k0,k1,k2,k3,k5,mN,hC,hN,hni,T⟩:=((c.own I.mod.kX hm).keeps J2.bk).obj;refine wpAny_excMatches_sub_self hC hob hobc (T.hasType c.fb.hasBase) (codeAny_handlers_suite ?_);refine lands_againW ff λh3 ff3 u3=>?_;have J3:=J2.kD (h':=h3) jb ff.1 ff3.1 u3;refine gH (hh a pins _ σ' H1 D (J3.eX a) hth) λf s4 q4=>?_;exact q4.ot I.ok
 cases f with
 |next=>
  obtain⟨σ',H',I',q⟩:=q1;exact wpAny_execs_nil ⟨σ',H',I'.gJ I.ok,q⟩
 |brk=>exact q1.gJ I.ok
 |cont=>exact q1.gJ I.ok
 |ret u=>exact q1.gJ I.ok
theorem C6 {h h' B B':Heap}:∀{l:List Env},(∀L∈cC l,∀o,h.get? L=some o->(∀vs,o.data≠ .fields vs)->∃o',h'.get? L=some o'/\o'.data=o.data)->(∀L∈cC l,B.get? L=none->B'.get? L=none)->h.FunFrames B l->h'.FunFrames B' l
 |[],_,_,_=>trivial
 |env::r,k,b,⟨hk,⟨L,o,hf,hn,ho,hd⟩,hr⟩=>by
  have hL:L∈cC (env::r):=by unfold cC;rw[List.filterMap_cons,hf];exact List.mem_cons_self
  have sub:∀M∈cC r,M∈cC (env::r):=λM hM=>by unfold cC;rw[List.filterMap_cons,hf];exact List.mem_cons_of_mem _ hM
  obtain⟨o',e1,e2⟩:=k L hL o ho hd;exact⟨hk,⟨L,o',hf,b L hL hn,e1,λvs q=>hd vs (e2▸q)⟩,C6 (λM hM=>k M (sub M hM)) (λM hM=>b M (sub M hM)) hr⟩
theorem OZ {α:Type} {M:Model} {A:Around} {E:Value->Shared->Prop} {s:Shared} {base:Heap} {l:List Env} {e:Addr} {cls a0 fl:Value} {what:String} {env:Env} {Q:α->Shared->Prop}
 (hkb:base.StaysIn s.heap) (hen:base.get? e=none) (hl:s.heap.FunFrames base l) (ht:s.heap.TracedAtW base e cls a0 fl)
 (hE:∀h',iD base l e cls h'->s.heap.UpToSlots h'->E (.ref e) {s with heap:=h'}):wpAny M A (PySem.passOn what (.ref e) env:Sem α) Q E s:=by
 obtain⟨oe,vs,T,oT,ts,he,hcls,hd,h1,hnT,hTe,hT,hdT,h3⟩:=ht;have hsz3:3<ts.size:=(Array.getElem?_eq_some_iff.mp h3).1;have step:wpAny M A (do setFlight (.ref e) env.frame;throw (Value.ref e):Sem α) Q E s:=by
  refine wpAny_bind ?_;unfold setFlight;refine wpAny_bind (wpAny_field he hd h1 ?_);rw[if_pos (show(Value.ref T !=Value.none)=true from by simp)];refine wpAny_setField hT hdT hsz3 (wpAny_throw (hE _ ?_ λb o hb hnf=>⟨o.slots,?_⟩))
  ·have other:∀b,b≠T->(s.heap.update T (Obj.mapFields (·.setIfInBounds 3 (env.frame.elim Value.none λf=>rawInt f)))).get? b=s.heap.get? b:=λb hb=>Heap.get?_update_other _ _ (Ne.symm hb);refine⟨λb o hbo=>(other b λq=>by rw[q,hnT] at hbo;cases hbo).trans (hkb b o hbo),hen,hl.of_keeps λb o hb hnf=>⟨o,(other b λq=>?_).trans hb,rfl⟩,.inr ⟨a0,env.frame.elim Value.none λf=>rawInt f,oe,vs,T,_,_,(other e (Ne.symm hTe)).trans he,hcls,hd,h1,hnT,hTe,Heap.get?_update_self _ hT (Obj.isFreed_of_fields (Obj.data_mapFields hdT _)),Obj.data_mapFields hdT _,by simp[hsz3]⟩⟩;rw[q,hT] at hb;injection hb with hb;subst hb;exact hnf ts hdT
  ·refine(Heap.get?_update_other _ _ λq=>?_).trans hb;rw[<-q,hT] at hb;injection hb with hb;subst hb;exact hnf ts hdT
 unfold PySem.passOn;refine wpAny_bind (wpAny_field he hd h1 ?_);rw[if_neg (show ¬((Value.ref T==Value.none)=true) from by simp)]
 first
  |exact wpAny_bind (wpAny_pure step)
  |exact step
section
variable {X:Cx}
theorem u6 {E:XK} {pins:List (Addr×Obj)} {σ:St} {H3:Hp} {s3:Shared} {scope:Scope} {ce:Env} {fp:List Addr} {use:Option (Value->Sem Unit)} {Qf:Value->Shared->Prop} {acc:Value}
 (hst:X.stack=X.env::X.outer) (hfr:X.env.frame=some X.env.locals) (hlets:Lets X E) (I3:Inv X pins σ H3 s3) (cf:ce.frame=X.env.frame) (cL:ce.locals=s3.heap.objs.size) (f3:∀b∈fp,dU X pins H3 b/\b<s3.heap.objs.size):
 Lets ((X.bB s3 H3 scope ce fp).bW (notedBy (model X.prog X.w) X.A ce λe s'=>compPost (model X.prog X.w) X.A X.xe use Qf acc s3.heap.objs.size (.error e) s')) E:=by
 rintro pl σ' e s5 ⟨a,cls,H1,B,he,I1,ib,fl,q⟩;subst he;show wpAny _ _ (noteFrame (.ref a) ce) _ _ _;have fl:iD B (X.env::X.outer) a cls s5.heap:=by rw[<-hst];exact fl
 refine wL (outer:=X.outer) (by rw[<-hst];exact I3.ok.frames) hfr cf fl λh1 a0 hh u1=>?_;have J1:=I1.kD (h':=h1) ib fl.1 hh.1 u1;have nC:H1 s3.heap.objs.size=none:=by
  have z:H1 ce.locals=none:=J1.free;rw[cL] at z;exact z
 have fC:dU X pins H1 s3.heap.objs.size:=I3.iJ (Nat.le_refl _) nC;obtain⟨m,hn,_⟩:=J1.loc;have hn:h1.Ns ce.locals m:=hn;rw[cL] at hn;have I7:Inv X pins σ H1 {s5 with heap:=h1}:=I3.qH (s':={s5 with heap:=h1}) (ch:=fp) J1.os J1.base J1.aw J1.bare λb hb=>⟨(f3 b hb).1.2.2.2.1,(f3 b hb).1.2.1,(f3 b hb).1.2.2.2.2.1,(f3 b hb).1.2.2.2.2.2⟩
 have main:∃m,h1.Ns s3.heap.objs.size m/\∀h',Heap.SameBut s3.heap.objs.size h1 h'->∀cenv:Env,cenv.locals=s3.heap.objs.size->wpAny (model X.prog X.w) X.A (PySem.passOn "comprehension.variables-let-go" (.ref a) cenv:Sem Value) (λ_ _=>False) X.xe {s5 with heap:=h'}:=by
  refine⟨m,hn,λh' sb cenv _=>?_⟩;obtain⟨f0,f1,f2,f3',f4,f5⟩:=fC;have I8:Inv X pins σ H1 {s5 with heap:=h'}:=I7.turned (t':=s5.toks) (λb o hb e=>(sb.2 b hb).trans e) f0 f1 f3' f4 f5;obtain⟨g1,g2,g3,oe,vs,T,oT,ts,e1,e2,e3,e4,e5,e6,e7,e8,e9⟩:=hh;obtain⟨on,esn,epn,hon,hdn,_⟩:=hn;have aC:a≠s3.heap.objs.size:=λz=>by rw[z,hon] at e1;cases e1;rw[hdn] at e3;cases e3
  have TC:T≠s3.heap.objs.size:=λz=>by rw[z,hon] at e7;cases e7;rw[hdn] at e8;cases e8
  have hidB:∀b o,B.get? b=some o->b≠s3.heap.objs.size->(PySem.W.hideAll B [s3.heap.objs.size]).get? b=some o:=λb o e hb=>PySem.W.hideAll_get _ e (by simpa using hb);have ofB:∀b o,(PySem.W.hideAll B [s3.heap.objs.size]).get? b=some o->B.get? b=some o/\b≠s3.heap.objs.size:=λb o e=>by
   refine⟨PySem.W.of_hideAll _ e,λz=>?_⟩;have:(PySem.W.hideAll B [s3.heap.objs.size]).get? b=none:=PySem.W.hideAll_none _ (by simpa using z);rw[this] at e;cases e
  have noneB:∀b,B.get? b=none->(PySem.W.hideAll B [s3.heap.objs.size]).get? b=none:=λb hb=>by
   cases q:(PySem.W.hideAll B [s3.heap.objs.size]).get? b with
   |none=>rfl
   |some o=>rw[(ofB b o q).1] at hb;cases hb
  have frC:∀L∈cC (X.env::X.outer),L≠s3.heap.objs.size:=λL hL z=>by
   rw[<-hst] at hL;obtain⟨_,o,ho,_⟩:=I3.stack.mem hL;exact absurd (Heap.lt_size ho) (by rw[z];exact Nat.lt_irrefl _)
  have stB:(PySem.W.hideAll B [s3.heap.objs.size]).StaysIn h':=λb o e=>(sb.2 b (ofB b o e).2).trans (g1 b o (ofB b o e).1);have jb:qg X pins H1 (PySem.W.hideAll B [s3.heap.objs.size]):=by
   refine⟨λb o e hb hx=>?_,λb u e=>?_,λp hp=>?_⟩
   ·obtain⟨o',e'⟩:=I3.base.there b o e hx;have hlt:=Heap.lt_size e';obtain⟨o2,e2⟩:=ib.old b o' e' hb λhf=>by
     rcases(f3 b hf).1.2.2.2.1 with z|z
     ·exact hx z
     ·exact absurd (Nat.lt_of_lt_of_le (Heap.lt_size e) z) (Nat.lt_irrefl _)
    exact⟨o2,hidB b o2 e2 (Nat.ne_of_lt hlt)⟩
   ·obtain⟨o2,e2⟩:=ib.gI b u e;exact⟨o2,hidB b o2 e2 λz=>by rw[z,nC] at e;cases e⟩
   ·obtain⟨e',n',ne',nf',d'⟩:=I3.pin p hp;have hlt:=Heap.lt_size e';obtain⟨o2,e2⟩:=ib.old p.1 p.2 e' (λz=>(List.mem_cons.mp (I3.mf p.1 z)).elim ne' nf') λhf=>(f3 p.1 hf).1.2.2.2.2.2 p hp rfl;exact⟨o2,hidB p.1 o2 e2 (Nat.ne_of_lt hlt)⟩
  refine OZ (base:=PySem.W.hideAll B [s3.heap.objs.size]) (l:=X.env::X.outer) (cls:=cls) (a0:=a0) (fl:=rawInt X.env.locals) stB (noneB a g2)
   (C6 (λL hL o e _=>⟨o,(sb.2 L (frC L hL)).trans e,rfl⟩) (λL _ e=>noneB L e) g3) ⟨oe,vs,T,oT,ts,(sb.2 a aC).trans e1,e2,e3,e4,noneB T e5,e6,(sb.2 T TC).trans e7,e8,e9⟩ λh2 fl2 u2=>?_
  exact hlets pins σ _ _ ⟨a,cls,H1,_,rfl,I8.kD (h':=h2) jb stB fl2.1 u2,jb,by rw[hst];exact fl2,q⟩
 cases use<;>exact main
theorem Mm {E:XK} {pins:List (Addr×Obj)} {s:Shared} {σ:St} {H:Hp} {Q:VK} {elt tg iter:Expr} {ifs:List Expr} {scope:Scope} {own:List (Str×Nat)} {pos pos':Pos} {wi:TI} {g:TG} {tt:TT} {te:TE} {use:Option (Value->Sem Unit)} {Qf:Value->Shared->Prop}
 (hc:X.calm=true) (hst:X.stack=X.env::X.outer) (hfr:X.env.frame=some X.env.locals) (hlets:Lets X E) (hN:X.N.Nodup) (I:Inv X pins σ H s) (hi:PI X tg iter wi) (ok:iC X.N X.env.scope scope own)
 (hg:∀(s:Shared) (H:Hp) (C:Addr) (cl:List (Str×Addr)) (fp:List Addr) (xe:Value->Shared->Prop),Lets ((X.bB s H scope (compEnvC scope cl C X.env) fp).bW xe) E->PG ((X.bB s H scope (compEnvC scope cl C X.env) fp).bW xe) tg g) (ht:∀(s:Shared) (H:Hp) (C:Addr) (cl:List (Str×Addr)) (fp:List Addr) (xe:Value->Shared->Prop),Lets ((X.bB s H scope (compEnvC scope cl C X.env) fp).bW xe) E->jL ((X.bB s H scope (compEnvC scope cl C X.env) fp).bW xe) ifs tt)
 (he:∀(s:Shared) (H:Hp) (C:Addr) (cl:List (Str×Addr)) (fp:List Addr) (xe:Value->Shared->Prop),Lets ((X.bB s H scope (compEnvC scope cl C X.env) fp).bW xe) E->PE ((X.bB s H scope (compEnvC scope cl C X.env) fp).bW xe) elt te) (hs:∀x,foldedSetIterable iter X.env x=pure x)
 (h:oo wi g tt te (own.map (·.2)) σ H Q)
 (hRR:∀D C s' m H',Inv X pins σ H' s'->Q (.ref D) H'->s'.heap.Ns C m->dU X pins H' C->compPost (model X.prog X.w) X.A X.xe use Qf (.ref D) C (.ok .next) s'):
 wpAny (model X.prog X.w) X.A (comprehension (.ListComp elt [⟨tg,iter,ifs,0⟩] scope pos) scope X.env pos' (newList []) false (eval iter X.env) use) Qf X.xe s:=by
 have hfree:∀y∈scope.names,y.2= .free->∃c,X.env.cells.lookup y.1=some c:=λy hy e=>by
  rcases ok.free y hy e with k|k
  ·exact I.ok.has _ (.inl k)
  ·exact I.ok.has _ (.inr k)
 refine wpAny_comprehension_free (use:=use) rfl hs (Bw hfree) ok.kind (λy hy e=>by rw[ok.uniq y hy,e])
  (aK (hi pins s σ H _ I h) λxv s1 hx=>aK hx λitv s2 h2=>?_)
 obtain⟨it,fp,tn,J,H2,e,I2,T,st2,f2,q⟩:=h2;subst e;refine wpAny_newObj_type (D8 ?_) (by show 0<=sizeLine;decide);generalize hD:s2.heap.objs.size=D;have hDn:H2 D=none:=I2.aw.fresh (Nat.le_of_eq hD);obtain⟨W,⟨m0,w0⟩,turn⟩:=q D hDn;generalize hs3:({s2 with heap:=s2.heap.push {cls:= .type "list",data:= .seq ([]:List Value).toArray}}:Shared)=s3;have I3:Inv X pins σ (upd H2 D (.lst [])) s3:=by
  rw[<-hs3];refine I2.laid (t':=s2.toks) (λb o e=>Heap.get?_push_of_some _ e) (Nat.le_of_eq hD) ⟨Nat.zero_le _,[],0,.nil,?_⟩;rw[<-hD];exact Heap.get?_push_size _ rfl
 have h3:s3.heap=s2.heap.push {cls:= .type "list",data:= .seq ([]:List Value).toArray}:=by rw[<-hs3]
 have sz:∀b∈fp,b<s2.heap.objs.size:=λb hb=>by
  obtain⟨o,e,_⟩:=T.obj _ _ st2 b hb;exact Heap.lt_size e
 have f3:∀b∈fp,dU X pins (upd H2 D (.lst [])) b/\b<s3.heap.objs.size:=λb hb=>by
  have hlt:=sz b hb;refine⟨⟨?_,(f2 b hb).2⟩,by rw[h3,Heap.size_push];exact Nat.lt_succ_of_lt hlt⟩;rw[aT (by rw[<-hD];exact Nat.ne_of_lt hlt)];exact(f2 b hb).1
 have st3:tn 0 s3.heap:=T.keep _ _ _ st2 λb _ o e=>by rw[h3];exact Heap.get?_push_of_some _ e
 have I4:=(Bl I3 ok hN f3).bW (notedBy (model X.prog X.w) X.A (compEnvC scope (cellsFrom (s3.heap.objs.size+1) scope.names (cB X.env.cells scope.names [])) s3.heap.objs.size X.env) λe s'=>compPost (model X.prog X.w) X.A X.xe use Qf (.ref D) s3.heap.objs.size (.error e) s');have pg:=hg s3 (upd H2 D (.lst [])) s3.heap.objs.size (cellsFrom (s3.heap.objs.size+1) scope.names (cB X.env.cells scope.names [])) fp _ (u6 (use:=use) (Qf:=Qf) (acc:= .ref D) (scope:=scope) hst hfr hlets I3 (by rfl) (by rfl) f3);have pt:=ht s3 (upd H2 D (.lst [])) s3.heap.objs.size (cellsFrom (s3.heap.objs.size+1) scope.names (cB X.env.cells scope.names [])) fp _ (u6 (use:=use) (Qf:=Qf) (acc:= .ref D) (scope:=scope) hst hfr hlets I3 (by rfl) (by rfl) f3);have pe:=he s3 (upd H2 D (.lst [])) s3.heap.objs.size (cellsFrom (s3.heap.objs.size+1) scope.names (cB X.env.cells scope.names [])) fp _ (u6 (use:=use) (Qf:=Qf) (acc:= .ref D) (scope:=scope) hst hfr hlets I3 (by rfl) (by rfl) f3);show codeAny _ _ (.compStart (.ListComp elt [⟨tg,iter,ifs,0⟩] scope pos) 0 (.ref it) (.ref D) (compEnvC scope (cellsFrom (s3.heap.objs.size+1) scope.names (cB X.env.cells scope.names [])) s3.heap.objs.size X.env)) (compPost (model X.prog X.w) X.A X.xe use Qf (.ref D) s3.heap.objs.size) {s3 with heap:=pushCells (s3.heap.push {cls:= .type "dict",data:= .dict #[]}) scope.names};have nfp:∀b∈fp,(upd H2 D (.lst [])) b=none:=λb hb=>(f3 b hb).1.1;generalize hce:compEnvC scope (cellsFrom (s3.heap.objs.size+1) scope.names (cB X.env.cells scope.names [])) s3.heap.objs.size X.env=ce at I4 pg pt pe⊢;have cL:ce.locals=s3.heap.objs.size:=by subst hce;rfl
 generalize hH3:upd H2 D (.lst [])=H3 at I3 I4 pg pt pe w0 nfp f3;generalize hs4:({s3 with heap:=pushCells (s3.heap.push {cls:= .type "dict",data:= .dict #[]}) scope.names}:Shared)=s4 at I4⊢;have st4:tn 0 s4.heap:=T.keep _ _ _ st3 λb _ o e=>by rw[<-hs4];exact pushCells_keeps _ _ _ _ (Heap.get?_push_of_some _ e)
 have stat:∀{σ':St} {H':Hp} {s':Shared},Inv ((X.bB s3 H3 scope ce fp).bW (notedBy (model X.prog X.w) X.A ce λe s'=>compPost (model X.prog X.w) X.A X.xe use Qf (.ref D) s3.heap.objs.size (.error e) s')) [] σ' H' s'->(∀b∈fp,H' b=none)->∀b∈fp,dU ((X.bB s3 H3 scope ce fp).bW (notedBy (model X.prog X.w) X.A ce λe s'=>compPost (model X.prog X.w) X.A X.xe use Qf (.ref D) s3.heap.objs.size (.error e) s')) [] H' b:=λ{σ' H' s'} I' hn b hb=>
  ⟨hn b hb,(I'.ok.iH b hb).1,I'.ok.iI b hb,.inl hb,λx c e=>(I'.ok.iH b hb).2 x c e,λp hp=>absurd (show p∈([]:List (Addr×Obj))++[] from hp) (by simp)⟩
 have loop:codeAny (model X.prog X.w) X.A (.compLoop (.ListComp elt [⟨tg,iter,ifs,0⟩] scope pos) 0 (.ref it) (.ref D) ce) (compPost (model X.prog X.w) X.A X.xe use Qf (.ref D) s3.heap.objs.size) s4:=by
  refine BC (λn s'=>∃i H',Inv ((X.bB s3 H3 scope ce fp).bW (notedBy (model X.prog X.w) X.A ce λe s'=>compPost (model X.prog X.w) X.A X.xe use Qf (.ref D) s3.heap.objs.size (.error e) s')) [] (wipe σ (own.map (·.2))) H' s'/\tn i s'.heap/\(∀b∈fp,H' b=none)/\W i n H') ?_ m0 ⟨0,H3,I4,st4,nfp,w0⟩;rintro n s5 ⟨i,H5,I5,st5,n5,w5⟩;rcases turn i n H5 w5 with ⟨stop,qq⟩|⟨go,Nx,hNx,step⟩
  ·have td:=T.done ((X.bB s3 H3 scope ce fp).bW (notedBy (model X.prog X.w) X.A ce λe s'=>compPost (model X.prog X.w) X.A X.xe use Qf (.ref D) s3.heap.objs.size (.error e) s')) rfl rfl rfl hc i [] s5 _ H5 (λ_ _=>False) I5 (stat I5 n5) st5 stop;refine gH td λr s6 ⟨hr,I6⟩=>?_;subst hr;have I7:Inv X pins σ H5 s6:=I3.qH (ch:=fp) I6.os I6.base I6.aw I6.bare λb hb=>⟨(f3 b hb).1.2.2.2.1,(f3 b hb).1.2.1,(f3 b hb).1.2.2.2.2.1,(f3 b hb).1.2.2.2.2.2⟩
   have nC:H5 s3.heap.objs.size=none:=by
    have z:H5 ce.locals=none:=I6.free;rw[cL] at z;exact z
   obtain⟨m,hn,_⟩:=I6.loc;have hn:s6.heap.Ns ce.locals m:=hn;rw[cL] at hn;exact hRR D s3.heap.objs.size s6 m H5 I7 qq hn (I3.iJ (Nat.le_refl _) nC)
  ·have ti:=T.item ((X.bB s3 H3 scope ce fp).bW (notedBy (model X.prog X.w) X.A ce λe s'=>compPost (model X.prog X.w) X.A X.xe use Qf (.ref D) s3.heap.objs.size (.error e) s')) rfl rfl rfl hc i [] s5 _ H5 (λ_ _=>False) I5 (stat I5 n5) st5 go;refine gH ti λr s6 ⟨u,hr,h6⟩=>?_;subst hr;refine gH h6 λ_ s7 ⟨x,H7,I7,r7,y7,st7,n7⟩=>?_;have I7':=I7.pinned (stat I7 n7) (T.obj _ _ st7);refine aK (pg _ s7 _ H7 x u _ I7' r7 (step x H7 y7)) λ_ s8 ⟨σ8,H8,I8,hw8,q8⟩=>?_;refine aK (pt _ s8 σ8 H8 _ I8 q8) λb s9 ⟨H9,I9,q9⟩=>?_;have fin:∀{s':Shared} {H':Hp},Inv ((X.bB s3 H3 scope ce fp).bW (notedBy (model X.prog X.w) X.A ce λe s'=>compPost (model X.prog X.w) X.A X.xe use Qf (.ref D) s3.heap.objs.size (.error e) s')) ([]++nM fp s7.heap) σ8 H' s'->Nx H'->∃m,m<n/\∃i H',Inv ((X.bB s3 H3 scope ce fp).bW (notedBy (model X.prog X.w) X.A ce λe s'=>compPost (model X.prog X.w) X.A X.xe use Qf (.ref D) s3.heap.objs.size (.error e) s')) [] (wipe σ (own.map (·.2))) H' s'/\tn i s'.heap/\(∀b∈fp,H' b=none)/\W i m H':=λ{s' H'} I' nx=>by
    obtain⟨m',hm,w'⟩:=hNx H' nx;have pin':∀b∈fp,∀o,s7.heap.get? b=some o->s'.heap.get? b=some o/\H' b=none:=λb hb o e=>
     let z:=I'.pin (b,o) (List.mem_append_right _ (List.mem_append_right _ (rQ hb e)))
     ⟨z.1,z.2.1⟩
    have hl:(wipe σ (own.map (·.2))).length=σ8.length:=by rw[<-hw8,uo]
    refine⟨m',hm,i+1,H',(I'.qb (pins:=[])).weak hl (λj v e=>?_),T.keep _ _ _ st7 λb hb o e=>(pin' b hb o e).1,λb hb=>?_,w'⟩
    ·rw[<-hw8] at e;exact(uq e).1
    ·obtain⟨o,e,_⟩:=T.obj _ _ st7 b hb;exact(pin' b hb o e).2
   cases b with
   |false=>
    simp only[Bool.false_eq_true,if_false] at q9⊢;exact fin I9 q9
   |true=>
    simp only[if_true] at q9⊢;refine aK (pe _ s9 σ8 H9 _ I9 q9) λz s10 ⟨yv,H10,I10,r10,acc,hD10,hz10,nx⟩=>?_;exact AL (X:=(X.bB s3 H3 scope ce fp).bW _) I10 hD10 hz10 r10 λs11 I11=>fin I11 nx
 exact codeAny_compStart_list loop (T.self X.A 0 _ _ _ st4 loop)
theorem O4 {E:XK} {elt tg iter:Expr} {ifs:List Expr} {scope:Scope} {own:List (Str×Nat)} {pos:Pos} {wi:TI} {g:TG} {tt:TT} {te:TE} (hc:X.calm=true) (hst:X.stack=X.env::X.outer) (hfr:X.env.frame=some X.env.locals) (hlets:Lets X E) (hN:X.N.Nodup) (hi:PI X tg iter wi) (ok:iC X.N X.env.scope scope own)
 (hg:∀(s:Shared) (H:Hp) (C:Addr) (cl:List (Str×Addr)) (fp:List Addr) (xe:Value->Shared->Prop),Lets ((X.bB s H scope (compEnvC scope cl C X.env) fp).bW xe) E->PG ((X.bB s H scope (compEnvC scope cl C X.env) fp).bW xe) tg g) (ht:∀(s:Shared) (H:Hp) (C:Addr) (cl:List (Str×Addr)) (fp:List Addr) (xe:Value->Shared->Prop),Lets ((X.bB s H scope (compEnvC scope cl C X.env) fp).bW xe) E->jL ((X.bB s H scope (compEnvC scope cl C X.env) fp).bW xe) ifs tt)
 (he:∀(s:Shared) (H:Hp) (C:Addr) (cl:List (Str×Addr)) (fp:List Addr) (xe:Value->Shared->Prop),Lets ((X.bB s H scope (compEnvC scope cl C X.env) fp).bW xe) E->PE ((X.bB s H scope (compEnvC scope cl C X.env) fp).bW xe) elt te) (hs:∀x,foldedSetIterable iter X.env x=pure x:=by intro _;rfl):
 PE X (.ListComp elt [⟨tg,iter,ifs,0⟩] scope pos) (oo wi g tt te (own.map (·.2))):=by
 intro pins s σ H Q I h;rw[eval_ListComp];refine Mm hc hst hfr hlets hN I hi ok hg ht he hs h λD C s' m H' I' q hn f=>⟨m,hn,λh'' sb=>?_⟩
 obtain⟨f0,f1,f2,f3,f4,f5⟩:=f;exact⟨.ref D,H',I'.turned (t':=s'.toks) (λb o hb e=>(sb.2 b hb).trans e) f0 f1 f3 f4 f5,rfl,q⟩
end
end L2
namespace PR
open PySem PySem.Spec PyProof.Rows L2
def top (i:Nat):Stmt:=PySem.Challenge.pw_patchrows_s01_answers.main.body.getD i (.Pass ⟨0,0,0,0⟩)
abbrev yM:Stmt:=inClass (top 4) 0
abbrev yP:Stmt:=inClass (top 4) 1
abbrev yO:Stmt:=inClass (top 4) 2
abbrev yQ:Stmt:=inClass (top 4) 3
abbrev tI:Stmt:=inClass (top 4) 4
abbrev yN:Stmt:=inClass (top 4) 5
abbrev yH:Stmt:=inClass (top 13) 0
abbrev yS:Stmt:=inClass (top 14) 0
abbrev yn:Stmt:=inClass (top 15) 0
abbrev yR:Stmt:=inClass (top 16) 0
abbrev yI:Stmt:=inClass (top 17) 0
abbrev zz:Stmt:=top 18
abbrev zD:Stmt:=top 19
abbrev zA:Stmt:=top 20
abbrev zC:Stmt:=top 21
abbrev zH:Stmt:=top 22
abbrev zm:Stmt:=top 23
abbrev zI:Stmt:=top 24
abbrev tQ:Stmt:=top 25
abbrev zq:Stmt:=top 27
abbrev zp:Stmt:=top 28
abbrev tL:Stmt:=top 29
abbrev zG:Stmt:=top 30
abbrev zJ:Stmt:=top 31
abbrev zo:Stmt:=top 32
abbrev zc:Stmt:=top 33
abbrev zf:Stmt:=top 34
abbrev zd:Stmt:=top 35
abbrev zb:Stmt:=top 36
abbrev zL:Stmt:=top 40
abbrev zM:Stmt:=top 41
abbrev zl:Stmt:=top 42
abbrev zh:Stmt:=top 43
abbrev zk:Stmt:=top 44
abbrev yZ:Stmt:=top 45
abbrev yL:Stmt:=inClass (top 49) 0
abbrev tM:Stmt:=top 50
abbrev zx:Stmt:=top 51
abbrev zF:Stmt:=top 52
abbrev zB:Stmt:=top 53
abbrev zE:Stmt:=top 54
abbrev zu:Stmt:=top 55
abbrev ze:Stmt:=top 56
abbrev y9:Stmt:=top 57
abbrev zw:Stmt:=top 58
abbrev pV:Stmt:=top 59
abbrev zt:Stmt:=top 60
abbrev y6:Stmt:=top 61
abbrev y8:Stmt:=top 62
abbrev zr:Stmt:=top 63
abbrev tN:Stmt:=top 64
abbrev tO:Stmt:=top 65
abbrev zK:Stmt:=top 66
abbrev tK:Stmt:=top 68
abbrev za:Stmt:=top 69
abbrev tP:Stmt:=top 70
abbrev tR:Stmt:=top 71
abbrev tG:Stmt:=inClass (top 72) 0
abbrev yJ:Stmt:=inClass (top 72) 1
abbrev pU:Stmt:=inClass (top 72) 2
abbrev tH:Stmt:=inClass (top 72) 3
abbrev yK:Stmt:=inClass (top 72) 4
abbrev yx:Stmt:=inClass (top 97) 0
abbrev yG:Stmt:=inClass (top 97) 1
abbrev yp:Stmt:=inClass (top 97) 2
abbrev yF:Stmt:=inClass (top 97) 3
abbrev yC:Stmt:=inClass (top 97) 4
abbrev yA:Stmt:=inClass (top 97) 5
abbrev yz:Stmt:=inClass (top 97) 6
abbrev yw:Stmt:=inClass (top 97) 7
abbrev yu:Stmt:=inClass (top 97) 8
abbrev yt:Stmt:=inClass (top 97) 9
abbrev yq:Stmt:=inClass (top 97) 10
abbrev yy:Stmt:=inClass (top 97) 11
abbrev yE:Stmt:=inClass (top 97) 12
abbrev yB:Stmt:=inClass (top 97) 13
abbrev yD:Stmt:=inClass (top 97) 14
abbrev yr:Stmt:=inClass (top 97) 15
abbrev yo:Stmt:=inClass (top 98) 0
abbrev zg:Stmt:=top 99
abbrev tJ:Stmt:=top 100
abbrev zj:Stmt:=top 101
abbrev zi:Stmt:=top 102
abbrev zy:Stmt:=top 103
abbrev yU:Stmt:=top 104
abbrev yW:Stmt:=top 105
abbrev yV:Stmt:=top 106
abbrev yX:Stmt:=top 107
abbrev yT:Stmt:=top 108
abbrev yY:Stmt:=top 109
theorem Qs:aG ["self","numbers"] ["self","numbers"] (ay yM):=⟨rfl,rfl,rfl,by decide+kernel,rfl,by decide+kernel,by decide+kernel⟩
theorem FN:aG ["self","least","most","number"] ["self","least","most"] (ay yP):=⟨rfl,rfl,rfl,by decide+kernel,rfl,by decide+kernel,by decide+kernel⟩
theorem Qu:aG ["self"] ["self"] (ay yO):=⟨rfl,rfl,rfl,by decide+kernel,rfl,by decide+kernel,by decide+kernel⟩
theorem Qv:aG ["self"] ["self"] (ay yQ):=⟨rfl,rfl,rfl,by decide+kernel,rfl,by decide+kernel,by decide+kernel⟩
theorem tS:aG ["self","most","count","place"] ["self","most"] (ay tI):=⟨rfl,rfl,rfl,by decide+kernel,rfl,by decide+kernel,by decide+kernel⟩
theorem Qt:aG ["self"] ["self"] (ay yN):=⟨rfl,rfl,rfl,by decide+kernel,rfl,by decide+kernel,by decide+kernel⟩
theorem Qo:aG ["self","file","place","old","new"] ["self","file","place","old","new"] (ay yH):=⟨rfl,rfl,rfl,by decide+kernel,rfl,by decide+kernel,by decide+kernel⟩
theorem Qx:aG ["self","file","first","second"] ["self","file","first","second"] (ay yS):=⟨rfl,rfl,rfl,by decide+kernel,rfl,by decide+kernel,by decide+kernel⟩
theorem Qe:aG ["self","file"] ["self","file"] (ay yn):=⟨rfl,rfl,rfl,by decide+kernel,rfl,by decide+kernel,by decide+kernel⟩
theorem Qw:aG ["self","file"] ["self","file"] (ay yR):=⟨rfl,rfl,rfl,by decide+kernel,rfl,by decide+kernel,by decide+kernel⟩
theorem Qp:aG ["self","old_name","new_name"] ["self","old_name","new_name"] (ay yI):=⟨rfl,rfl,rfl,by decide+kernel,rfl,by decide+kernel,by decide+kernel⟩
theorem pZ:aG ["reader","file","place","old","new"] ["reader"] (ay zz):=⟨rfl,rfl,rfl,by decide+kernel,rfl,by decide+kernel,by decide+kernel⟩
theorem tX:aG ["reader","file","first","second"] ["reader"] (ay zD):=⟨rfl,rfl,rfl,by decide+kernel,rfl,by decide+kernel,by decide+kernel⟩
theorem zV:aG ["reader","old_name","new_name"] ["reader"] (ay zA):=⟨rfl,rfl,rfl,by decide+kernel,rfl,by decide+kernel,by decide+kernel⟩
theorem FU:aG ["reader","kind"] ["reader"] (ay zC):=⟨rfl,rfl,rfl,by decide+kernel,rfl,by decide+kernel,by decide+kernel⟩
theorem zX:aG ["numbers","reader","step"] ["numbers"] (ay zH):=⟨rfl,rfl,rfl,by decide+kernel,rfl,by decide+kernel,by decide+kernel⟩
theorem zR:aG ["hunk","old","new"] ["hunk"] (ay zm):=⟨rfl,rfl,rfl,by decide+kernel,rfl,by decide+kernel,by decide+kernel⟩
theorem QR:aG ["step"] ["step"] (ay zI):=⟨rfl,rfl,rfl,by decide+kernel,rfl,by decide+kernel,by decide+kernel⟩
theorem tY:aG ["tokens","swap","other","token"] ["tokens","swap"] (ay tQ):=⟨rfl,rfl,rfl,by decide+kernel,rfl,by decide+kernel,by decide+kernel⟩
theorem QP:aG ["step"] ["step"] (ay zq):=⟨rfl,rfl,rfl,by decide+kernel,rfl,by decide+kernel,by decide+kernel⟩
theorem QO:aG ["step"] ["step"] (ay zp):=⟨rfl,rfl,rfl,by decide+kernel,rfl,by decide+kernel,by decide+kernel⟩
theorem tU:aG ["p","q","names","name"] ["p","q"] (ay tL):=⟨rfl,rfl,rfl,by decide+kernel,rfl,by decide+kernel,by decide+kernel⟩
theorem QQ:aG ["hunk","by"] ["hunk","by"] (ay zG):=⟨rfl,rfl,rfl,by decide+kernel,rfl,by decide+kernel,by decide+kernel⟩
theorem QS:aG ["hunk","swap"] ["hunk","swap"] (ay zJ):=⟨rfl,rfl,rfl,by decide+kernel,rfl,by decide+kernel,by decide+kernel⟩
theorem QN:aG ["step","file"] ["step","file"] (ay zo):=⟨rfl,rfl,rfl,by decide+kernel,rfl,by decide+kernel,by decide+kernel⟩
theorem QF:aG ["p","q"] ["p","q"] (ay zc):=⟨rfl,rfl,rfl,by decide+kernel,rfl,by decide+kernel,by decide+kernel⟩
theorem FR:aG ["p","q","tokens"] ["p","q"] (ay zf):=⟨rfl,rfl,rfl,by decide+kernel,rfl,by decide+kernel,by decide+kernel⟩
theorem QG:aG ["p","q"] ["p","q"] (ay zd):=⟨rfl,rfl,rfl,by decide+kernel,rfl,by decide+kernel,by decide+kernel⟩
theorem QE:aG ["p","q"] ["p","q"] (ay zb):=⟨rfl,rfl,rfl,by decide+kernel,rfl,by decide+kernel,by decide+kernel⟩
theorem lZ:aG ["numbers","reader","tree","least","file","name"] ["numbers"] (ay zL):=⟨rfl,rfl,rfl,by decide+kernel,rfl,by decide+kernel,by decide+kernel⟩
theorem zY:aG ["tree","numbers","name"] ["tree"] (ay zM):=⟨rfl,rfl,rfl,by decide+kernel,rfl,by decide+kernel,by decide+kernel⟩
theorem QM:aG ["hunk","tokens"] ["hunk","tokens"] (ay zl):=⟨rfl,rfl,rfl,by decide+kernel,rfl,by decide+kernel,by decide+kernel⟩
theorem QI:aG ["step","tree"] ["step","tree"] (ay zh):=⟨rfl,rfl,rfl,by decide+kernel,rfl,by decide+kernel,by decide+kernel⟩
theorem QL:aG ["hunk","tokens"] ["hunk","tokens"] (ay zk):=⟨rfl,rfl,rfl,by decide+kernel,rfl,by decide+kernel,by decide+kernel⟩
theorem FO:aG ["step","tree","changed"] ["step","tree"] (ay yZ):=⟨rfl,rfl,rfl,by decide+kernel,rfl,by decide+kernel,by decide+kernel⟩
theorem Qr:aG ["self","name","step"] ["self","name","step"] (ay yL):=⟨rfl,rfl,rfl,by decide+kernel,rfl,by decide+kernel,by decide+kernel⟩
theorem zS:aG ["row","patch"] ["row"] (ay tM):=⟨rfl,rfl,rfl,by decide+kernel,rfl,by decide+kernel,by decide+kernel⟩
theorem zT:aG ["row","name","place","patch"] ["row","name"] (ay zx):=⟨rfl,rfl,rfl,by decide+kernel,rfl,by decide+kernel,by decide+kernel⟩
theorem zW:aG ["row","numbers","patch"] ["row"] (ay zF):=⟨rfl,rfl,rfl,by decide+kernel,rfl,by decide+kernel,by decide+kernel⟩
theorem FT:aG ["reader","name"] ["reader"] (ay zB):=⟨rfl,rfl,rfl,by decide+kernel,rfl,by decide+kernel,by decide+kernel⟩
theorem lY:aG ["numbers","tree","reader","row","there","place","patch"] ["numbers","tree"] (ay zE):=⟨rfl,rfl,rfl,by decide+kernel,rfl,by decide+kernel,by decide+kernel⟩
theorem tW:aG ["tree","row","outcome","patch"] ["tree","row"] (ay zu):=⟨rfl,rfl,rfl,by decide+kernel,rfl,by decide+kernel,by decide+kernel⟩
theorem FQ:aG ["p","q","steps"] ["p","q"] (ay ze):=⟨rfl,rfl,rfl,by decide+kernel,rfl,by decide+kernel,by decide+kernel⟩
theorem nU:aG ["row","place","front","passed","ahead","pair"] ["row","place"] (ay y9):=⟨rfl,rfl,rfl,by decide+kernel,rfl,by decide+kernel,by decide+kernel⟩
theorem nX:aG ["patch","others","behind","passed","other","pair"] ["patch","others"] (ay zw):=⟨rfl,rfl,rfl,by decide+kernel,rfl,by decide+kernel,by decide+kernel⟩
theorem pX:aG ["row","places","place"] ["row"] (ay pV):=⟨rfl,rfl,rfl,by decide+kernel,rfl,by decide+kernel,by decide+kernel⟩
theorem nW:aG ["row","form","rest","least"] ["row"] (ay zt):=⟨rfl,rfl,rfl,by decide+kernel,rfl,by decide+kernel,by decide+kernel⟩
theorem QD:aG ["row","other"] ["row","other"] (ay y6):=⟨rfl,rfl,rfl,by decide+kernel,rfl,by decide+kernel,by decide+kernel⟩
theorem nT:aG ["row","names","placed","rest","name","then"] ["row","names"] (ay y8):=⟨rfl,rfl,rfl,by decide+kernel,rfl,by decide+kernel,by decide+kernel⟩
theorem nV:aG ["row","place","group","ahead","passed"] ["row","place"] (ay zr):=⟨rfl,rfl,rfl,by decide+kernel,rfl,by decide+kernel,by decide+kernel⟩
theorem tV:aG ["row","place","name","later"] ["row","place"] (ay tN):=⟨rfl,rfl,rfl,by decide+kernel,rfl,by decide+kernel,by decide+kernel⟩
theorem pY:aG ["row","names","picked","name","patch"] ["row","names"] (ay tO):=⟨rfl,rfl,rfl,by decide+kernel,rfl,by decide+kernel,by decide+kernel⟩
theorem FV:aG ["row","place","passed"] ["row","place"] (ay zK):=⟨rfl,rfl,rfl,by decide+kernel,rfl,by decide+kernel,by decide+kernel⟩
theorem zQ:aG ["names","some","name"] ["names","some"] (ay tK):=⟨rfl,rfl,rfl,by decide+kernel,rfl,by decide+kernel,by decide+kernel⟩
theorem FP:aG ["needed","group","place","stands"] ["needed","group","place"] (ay za):=⟨rfl,rfl,rfl,by decide+kernel,rfl,by decide+kernel,by decide+kernel⟩
theorem zU:aG ["needed","group","place"] ["needed","group"] (ay tP):=⟨rfl,rfl,rfl,by decide+kernel,rfl,by decide+kernel,by decide+kernel⟩
theorem nY:aG ["needed","everything","ways","group","place"] ["needed"] (ay tR):=⟨rfl,rfl,rfl,by decide+kernel,rfl,by decide+kernel,by decide+kernel⟩
theorem zP:aG ["self","row","name"] ["self","row"] (ay tG):=⟨rfl,rfl,rfl,by decide+kernel,rfl,by decide+kernel,by decide+kernel⟩
theorem Qq:aG ["self"] ["self"] (ay yJ):=⟨rfl,rfl,rfl,by decide+kernel,rfl,by decide+kernel,by decide+kernel⟩
theorem pW:aG ["self","group","place","below","lower"] ["self","group","place"] (ay pU):=⟨rfl,rfl,rfl,by decide+kernel,rfl,by decide+kernel,by decide+kernel⟩
theorem gE:aG ["self","number","order","group","left","free","place","next_one"] ["self","number"] (ay tH):=⟨rfl,rfl,rfl,by decide+kernel,rfl,by decide+kernel,by decide+kernel⟩
theorem lW:aG ["self","order","number","group","name","place"] ["self","order"] (ay yK):=⟨rfl,rfl,rfl,by decide+kernel,rfl,by decide+kernel,by decide+kernel⟩
theorem Qk:aG ["self"] ["self"] (ay yx):=⟨rfl,rfl,rfl,by decide+kernel,rfl,by decide+kernel,by decide+kernel⟩
theorem FL:aG ["self","files_told","start"] ["self","files_told"] (ay yG):=⟨rfl,rfl,rfl,by decide+kernel,rfl,by decide+kernel,by decide+kernel⟩
theorem FF:aG ["self","name","step_told","step"] ["self","name","step_told"] (ay yp):=⟨rfl,rfl,rfl,by decide+kernel,rfl,by decide+kernel,by decide+kernel⟩
theorem Qn:aG ["self"] ["self"] (ay yF):=⟨rfl,rfl,rfl,by decide+kernel,rfl,by decide+kernel,by decide+kernel⟩
theorem Ql:aG ["self"] ["self"] (ay yC):=⟨rfl,rfl,rfl,by decide+kernel,rfl,by decide+kernel,by decide+kernel⟩
theorem FJ:aG ["self","name","place"] ["self","name"] (ay yA):=⟨rfl,rfl,rfl,by decide+kernel,rfl,by decide+kernel,by decide+kernel⟩
theorem FI:aG ["self","name","place"] ["self","name"] (ay yz):=⟨rfl,rfl,rfl,by decide+kernel,rfl,by decide+kernel,by decide+kernel⟩
theorem Qj:aG ["self"] ["self"] (ay yw):=⟨rfl,rfl,rfl,by decide+kernel,rfl,by decide+kernel,by decide+kernel⟩
theorem Qi:aG ["self"] ["self"] (ay yu):=⟨rfl,rfl,rfl,by decide+kernel,rfl,by decide+kernel,by decide+kernel⟩
theorem FG:aG ["self","row_told","other"] ["self","row_told"] (ay yt):=⟨rfl,rfl,rfl,by decide+kernel,rfl,by decide+kernel,by decide+kernel⟩
theorem Qh:aG ["self"] ["self"] (ay yq):=⟨rfl,rfl,rfl,by decide+kernel,rfl,by decide+kernel,by decide+kernel⟩
theorem FH:aG ["self","number","orders"] ["self","number"] (ay yy):=⟨rfl,rfl,rfl,by decide+kernel,rfl,by decide+kernel,by decide+kernel⟩
theorem Qm:aG ["self"] ["self"] (ay yE):=⟨rfl,rfl,rfl,by decide+kernel,rfl,by decide+kernel,by decide+kernel⟩
theorem FK:aG ["self","names","placed"] ["self","names"] (ay yB):=⟨rfl,rfl,rfl,by decide+kernel,rfl,by decide+kernel,by decide+kernel⟩
theorem zO:aG ["self","names","picked","brought"] ["self","names"] (ay yD):=⟨rfl,rfl,rfl,by decide+kernel,rfl,by decide+kernel,by decide+kernel⟩
theorem zN:aG ["self","name","place","left"] ["self","name"] (ay yr):=⟨rfl,rfl,rfl,by decide+kernel,rfl,by decide+kernel,by decide+kernel⟩
theorem Qg:aG ["self","kind","number","told","after"] ["self","kind","number","told","after"] (ay yo):=⟨rfl,rfl,rfl,by decide+kernel,rfl,by decide+kernel,by decide+kernel⟩
theorem QH:aG ["names"] ["names"] (ay zg):=⟨rfl,rfl,rfl,by decide+kernel,rfl,by decide+kernel,by decide+kernel⟩
theorem tT:aG ["row","names","known","name"] ["row","names"] (ay tJ):=⟨rfl,rfl,rfl,by decide+kernel,rfl,by decide+kernel,by decide+kernel⟩
theorem QK:aG ["kind"] ["kind"] (ay zj):=⟨rfl,rfl,rfl,by decide+kernel,rfl,by decide+kernel,by decide+kernel⟩
theorem QJ:aG ["kind"] ["kind"] (ay zi):=⟨rfl,rfl,rfl,by decide+kernel,rfl,by decide+kernel,by decide+kernel⟩
theorem gF:aG ["calls","at","kind","after","number","told","count"] ["calls","at"] (ay zy):=⟨rfl,rfl,rfl,by decide+kernel,rfl,by decide+kernel,by decide+kernel⟩
theorem Qz:aG ["history","kind"] ["history","kind"] (ay yU):=⟨rfl,rfl,rfl,by decide+kernel,rfl,by decide+kernel,by decide+kernel⟩
theorem QB:aG ["history","kind","number"] ["history","kind","number"] (ay yW):=⟨rfl,rfl,rfl,by decide+kernel,rfl,by decide+kernel,by decide+kernel⟩
theorem QA:aG ["history","kind","told"] ["history","kind","told"] (ay yV):=⟨rfl,rfl,rfl,by decide+kernel,rfl,by decide+kernel,by decide+kernel⟩
theorem QC:aG ["history","call"] ["history","call"] (ay yX):=⟨rfl,rfl,rfl,by decide+kernel,rfl,by decide+kernel,by decide+kernel⟩
theorem Qy:aG ["history","call"] ["history","call"] (ay yT):=⟨rfl,rfl,rfl,by decide+kernel,rfl,by decide+kernel,by decide+kernel⟩
theorem lX:aG ["calls","history","answered","at","call","answer"] ["calls"] (ay yY):=⟨rfl,rfl,rfl,by decide+kernel,rfl,by decide+kernel,by decide+kernel⟩
def cw (a0 a1:V):List (Str×V):=aQ "at" a1 (aQ "numbers" a0 [])
theorem wy {a0 a1:V}:(cw a0 a1).lookup ("numbers":Str)=some a0:=by unfold cw;rw[aD,if_neg (by decide+kernel),aD,if_pos rfl]
theorem rC {a0 a1:V}:(cw a0 a1).lookup ("at":Str)=some a1:=by unfold cw;rw[aD,if_pos rfl]
theorem gR {a0 a1:V}:(cw a0 a1).lookup ("read_number":Str)=none:=by unfold cw;rw[aD,if_neg (by decide+kernel),aD,if_neg (by decide+kernel)];rfl
theorem mQ {a0 a1:V}:(cw a0 a1).lookup ("read_file":Str)=none:=by unfold cw;rw[aD,if_neg (by decide+kernel),aD,if_neg (by decide+kernel)];rfl
theorem wu {a0 a1:V}:(cw a0 a1).lookup ("read_token":Str)=none:=by unfold cw;rw[aD,if_neg (by decide+kernel),aD,if_neg (by decide+kernel)];rfl
theorem wx {a0 a1:V}:(cw a0 a1).lookup ("read_tokens":Str)=none:=by unfold cw;rw[aD,if_neg (by decide+kernel),aD,if_neg (by decide+kernel)];rfl
theorem wt {a0 a1:V}:(cw a0 a1).lookup ("read_end":Str)=none:=by unfold cw;rw[aD,if_neg (by decide+kernel),aD,if_neg (by decide+kernel)];rfl
theorem K0 {a0 a1 y:V}:aQ "at" y (cw a0 a1)=cw a0 y:=by
 unfold cw;simp only[aQ]
 repeat (first|rw[if_pos rfl]|rw[if_neg (by decide+kernel)])
 all_goals rfl
def fm (a0 a1 a2 a3:V):List (Str×V):=aQ "new" a3 (aQ "old" a2 (aQ "place" a1 (aQ "file" a0 [])))
theorem iK {a0 a1 a2 a3:V}:(fm a0 a1 a2 a3).lookup ("file":Str)=some a0:=by unfold fm;rw[aD,if_neg (by decide+kernel),aD,if_neg (by decide+kernel),aD,if_neg (by decide+kernel),aD,if_pos rfl]
theorem fo {a0 a1 a2 a3:V}:(fm a0 a1 a2 a3).lookup ("place":Str)=some a1:=by unfold fm;rw[aD,if_neg (by decide+kernel),aD,if_neg (by decide+kernel),aD,if_pos rfl]
theorem gc {a0 a1 a2 a3:V}:(fm a0 a1 a2 a3).lookup ("old":Str)=some a2:=by unfold fm;rw[aD,if_neg (by decide+kernel),aD,if_pos rfl]
theorem gQ {a0 a1 a2 a3:V}:(fm a0 a1 a2 a3).lookup ("new":Str)=some a3:=by unfold fm;rw[aD,if_pos rfl]
def gf (a0 a1 a2:V):List (Str×V):=aQ "second" a2 (aQ "first" a1 (aQ "file" a0 []))
theorem pk {a0 a1 a2:V}:(gf a0 a1 a2).lookup ("file":Str)=some a0:=by unfold gf;rw[aD,if_neg (by decide+kernel),aD,if_neg (by decide+kernel),aD,if_pos rfl]
theorem mR {a0 a1 a2:V}:(gf a0 a1 a2).lookup ("first":Str)=some a1:=by unfold gf;rw[aD,if_neg (by decide+kernel),aD,if_pos rfl]
theorem mS {a0 a1 a2:V}:(gf a0 a1 a2).lookup ("second":Str)=some a2:=by unfold gf;rw[aD,if_pos rfl]
def oZ (a0:V):List (Str×V):=aQ "file" a0 []
theorem rA {a0:V}:(oZ a0).lookup ("file":Str)=some a0:=by unfold oZ;rw[aD,if_pos rfl]
def ph (a0:V):List (Str×V):=aQ "file" a0 []
theorem pj {a0:V}:(ph a0).lookup ("file":Str)=some a0:=by unfold ph;rw[aD,if_pos rfl]
def iL (a0 a1:V):List (Str×V):=aQ "new_name" a1 (aQ "old_name" a0 [])
theorem mO {a0 a1:V}:(iL a0 a1).lookup ("old_name":Str)=some a0:=by unfold iL;rw[aD,if_neg (by decide+kernel),aD,if_pos rfl]
theorem mM {a0 a1:V}:(iL a0 a1).lookup ("new_name":Str)=some a1:=by unfold iL;rw[aD,if_pos rfl]
def cZ (a0 a1:V):List (Str×V):=aQ "step" a1 (aQ "name" a0 [])
theorem gd {a0 a1:V}:(cZ a0 a1).lookup ("name":Str)=some a0:=by unfold cZ;rw[aD,if_neg (by decide+kernel),aD,if_pos rfl]
theorem mP {a0 a1:V}:(cZ a0 a1).lookup ("step":Str)=some a1:=by unfold cZ;rw[aD,if_pos rfl]
def eJ (a0 a1 a2:V):List (Str×V):=aQ "ways" a2 (aQ "needed" a1 (aQ "names" a0 []))
theorem wo {a0 a1 a2:V}:(eJ a0 a1 a2).lookup ("names":Str)=some a0:=by unfold eJ;rw[aD,if_neg (by decide+kernel),aD,if_neg (by decide+kernel),aD,if_pos rfl]
theorem C3 {a0 a1 a2:V}:(eJ a0 a1 a2).lookup ("needed":Str)=some a1:=by unfold eJ;rw[aD,if_neg (by decide+kernel),aD,if_pos rfl]
theorem C5 {a0 a1 a2:V}:(eJ a0 a1 a2).lookup ("ways":Str)=some a2:=by unfold eJ;rw[aD,if_pos rfl]
theorem C4 {a0 a1 a2:V}:(eJ a0 a1 a2).lookup ("how_many":Str)=none:=by unfold eJ;rw[aD,if_neg (by decide+kernel),aD,if_neg (by decide+kernel),aD,if_neg (by decide+kernel)];rfl
theorem wq {a0 a1 a2:V}:(eJ a0 a1 a2).lookup ("how_many_below":Str)=none:=by unfold eJ;rw[aD,if_neg (by decide+kernel),aD,if_neg (by decide+kernel),aD,if_neg (by decide+kernel)];rfl
theorem KZ {a0 a1 a2:V}:(eJ a0 a1 a2).lookup ("numbered":Str)=none:=by unfold eJ;rw[aD,if_neg (by decide+kernel),aD,if_neg (by decide+kernel),aD,if_neg (by decide+kernel)];rfl
theorem KY {a0 a1 a2:V}:(eJ a0 a1 a2).lookup ("number_of":Str)=none:=by unfold eJ;rw[aD,if_neg (by decide+kernel),aD,if_neg (by decide+kernel),aD,if_neg (by decide+kernel)];rfl
def aS (a0 a1:V):List (Str×V):=aQ "patches" a1 (aQ "start" a0 [])
theorem rB {a0 a1:V}:(aS a0 a1).lookup ("start":Str)=some a0:=by unfold aS;rw[aD,if_neg (by decide+kernel),aD,if_pos rfl]
theorem cD {a0 a1:V}:(aS a0 a1).lookup ("patches":Str)=some a1:=by unfold aS;rw[aD,if_pos rfl]
theorem KU {a0 a1:V}:(aS a0 a1).lookup ("tree":Str)=none:=by unfold aS;rw[aD,if_neg (by decide+kernel),aD,if_neg (by decide+kernel)];rfl
theorem KA {a0 a1:V}:(aS a0 a1).lookup ("add":Str)=none:=by unfold aS;rw[aD,if_neg (by decide+kernel),aD,if_neg (by decide+kernel)];rfl
theorem KS {a0 a1:V}:(aS a0 a1).lookup ("row":Str)=none:=by unfold aS;rw[aD,if_neg (by decide+kernel),aD,if_neg (by decide+kernel)];rfl
theorem KP {a0 a1:V}:(aS a0 a1).lookup ("outcome":Str)=none:=by unfold aS;rw[aD,if_neg (by decide+kernel),aD,if_neg (by decide+kernel)];rfl
theorem KN {a0 a1:V}:(aS a0 a1).lookup ("needs":Str)=none:=by unfold aS;rw[aD,if_neg (by decide+kernel),aD,if_neg (by decide+kernel)];rfl
theorem KL {a0 a1:V}:(aS a0 a1).lookup ("neededby":Str)=none:=by unfold aS;rw[aD,if_neg (by decide+kernel),aD,if_neg (by decide+kernel)];rfl
theorem KI {a0 a1:V}:(aS a0 a1).lookup ("fronts":Str)=none:=by unfold aS;rw[aD,if_neg (by decide+kernel),aD,if_neg (by decide+kernel)];rfl
theorem KH {a0 a1:V}:(aS a0 a1).lookup ("form":Str)=none:=by unfold aS;rw[aD,if_neg (by decide+kernel),aD,if_neg (by decide+kernel)];rfl
theorem KG {a0 a1:V}:(aS a0 a1).lookup ("equal":Str)=none:=by unfold aS;rw[aD,if_neg (by decide+kernel),aD,if_neg (by decide+kernel)];rfl
theorem KC {a0 a1:V}:(aS a0 a1).lookup ("count":Str)=none:=by unfold aS;rw[aD,if_neg (by decide+kernel),aD,if_neg (by decide+kernel)];rfl
theorem KJ {a0 a1:V}:(aS a0 a1).lookup ("kth":Str)=none:=by unfold aS;rw[aD,if_neg (by decide+kernel),aD,if_neg (by decide+kernel)];rfl
theorem KR {a0 a1:V}:(aS a0 a1).lookup ("rank":Str)=none:=by unfold aS;rw[aD,if_neg (by decide+kernel),aD,if_neg (by decide+kernel)];rfl
theorem KO {a0 a1:V}:(aS a0 a1).lookup ("order":Str)=none:=by unfold aS;rw[aD,if_neg (by decide+kernel),aD,if_neg (by decide+kernel)];rfl
theorem KQ {a0 a1:V}:(aS a0 a1).lookup ("pick":Str)=none:=by unfold aS;rw[aD,if_neg (by decide+kernel),aD,if_neg (by decide+kernel)];rfl
theorem KD {a0 a1:V}:(aS a0 a1).lookup ("drop":Str)=none:=by unfold aS;rw[aD,if_neg (by decide+kernel),aD,if_neg (by decide+kernel)];rfl
theorem KW {a0 a1 y:V}:aQ "start" y (aS a0 a1)=aS y a1:=by
 unfold aS;simp only[aQ]
 repeat (first|rw[if_pos rfl]|rw[if_neg (by decide+kernel)])
 all_goals rfl
theorem pd {a0 a1 y:V}:aQ "patches" y (aS a0 a1)=aS a0 y:=by
 unfold aS;simp only[aQ]
 repeat (first|rw[if_pos rfl]|rw[if_neg (by decide+kernel)])
 all_goals rfl
def gb (a0 a1 a2 a3:V):List (Str×V):=aQ "after" a3 (aQ "told" a2 (aQ "number" a1 (aQ "kind" a0 [])))
theorem kH {a0 a1 a2 a3:V}:(gb a0 a1 a2 a3).lookup ("kind":Str)=some a0:=by unfold gb;rw[aD,if_neg (by decide+kernel),aD,if_neg (by decide+kernel),aD,if_neg (by decide+kernel),aD,if_pos rfl]
theorem C1 {a0 a1 a2 a3:V}:(gb a0 a1 a2 a3).lookup ("number":Str)=some a1:=by unfold gb;rw[aD,if_neg (by decide+kernel),aD,if_neg (by decide+kernel),aD,if_pos rfl]
theorem wm {a0 a1 a2 a3:V}:(gb a0 a1 a2 a3).lookup ("told":Str)=some a2:=by unfold gb;rw[aD,if_neg (by decide+kernel),aD,if_pos rfl]
theorem Kz {a0 a1 a2 a3:V}:(gb a0 a1 a2 a3).lookup ("after":Str)=some a3:=by unfold gb;rw[aD,if_pos rfl]
structure Ad where
 dX:Addr
 Reader:Addr
 aN:Addr
 bo:Addr
 bZ:Addr
 bX:Addr
 Moved:Addr
 Patch:Addr
 bD:Addr
 aH:Addr
 Call:Addr
 jN:Addr
 jQ:Addr
 jP:Addr
 jR:Addr
 jS:Addr
 jO:Addr
 jD:Addr
 jU:Addr
 ji:Addr
 jT:Addr
 jE:Addr
 lP:Addr
 lT:Addr
 lQ:Addr
 lS:Addr
 md:Addr
 kQ:Addr
 me:Addr
 mj:Addr
 lb:Addr
 kT:Addr
 kM:Addr
 shifted:Addr
 mi:Addr
 kR:Addr
 ko:Addr
 ku:Addr
 kq:Addr
 commuted:Addr
 mm:Addr
 mn:Addr
 kP:Addr
 fits:Addr
 kO:Addr
 applied:Addr
 jM:Addr
 k9:Addr
 lK:Addr
 lV:Addr
 lR:Addr
 lU:Addr
 lD:Addr
 kr:Addr
 kd:Addr
 lG:Addr
 k8:Addr
 lC:Addr
 j7:Addr
 kc:Addr
 ll:Addr
 la:Addr
 lh:Addr
 ml:Addr
 kJ:Addr
 kj:Addr
 lL:Addr
 mx:Addr
 jI:Addr
 jG:Addr
 jH:Addr
 jK:Addr
 jJ:Addr
 jt:Addr
 jC:Addr
 jm:Addr
 jB:Addr
 jy:Addr
 jw:Addr
 jv:Addr
 js:Addr
 jr:Addr
 jq:Addr
 jn:Addr
 ju:Addr
 jA:Addr
 jx:Addr
 jz:Addr
 jo:Addr
 jj:Addr
 kx:Addr
 j8:Addr
 kK:Addr
 has_list:Addr
 lO:Addr
 jX:Addr
 jZ:Addr
 jY:Addr
 j0:Addr
 gL:Addr
 answers:Addr
structure Fd where
 jN:FuncData
 jQ:FuncData
 jP:FuncData
 jR:FuncData
 jS:FuncData
 jO:FuncData
 jD:FuncData
 jU:FuncData
 ji:FuncData
 jT:FuncData
 jE:FuncData
 lP:FuncData
 lT:FuncData
 lQ:FuncData
 lS:FuncData
 md:FuncData
 kQ:FuncData
 me:FuncData
 mj:FuncData
 lb:FuncData
 kT:FuncData
 kM:FuncData
 shifted:FuncData
 mi:FuncData
 kR:FuncData
 ko:FuncData
 ku:FuncData
 kq:FuncData
 commuted:FuncData
 mm:FuncData
 mn:FuncData
 kP:FuncData
 fits:FuncData
 kO:FuncData
 applied:FuncData
 jM:FuncData
 k9:FuncData
 lK:FuncData
 lV:FuncData
 lR:FuncData
 lU:FuncData
 lD:FuncData
 kr:FuncData
 kd:FuncData
 lG:FuncData
 k8:FuncData
 lC:FuncData
 j7:FuncData
 kc:FuncData
 ll:FuncData
 la:FuncData
 lh:FuncData
 ml:FuncData
 kJ:FuncData
 kj:FuncData
 lL:FuncData
 mx:FuncData
 jI:FuncData
 jG:FuncData
 jH:FuncData
 jK:FuncData
 jJ:FuncData
 jt:FuncData
 jC:FuncData
 jm:FuncData
 jB:FuncData
 jy:FuncData
 jw:FuncData
 jv:FuncData
 js:FuncData
 jr:FuncData
 jq:FuncData
 jn:FuncData
 ju:FuncData
 jA:FuncData
 jx:FuncData
 jz:FuncData
 jo:FuncData
 jj:FuncData
 kx:FuncData
 j8:FuncData
 kK:FuncData
 has_list:FuncData
 lO:FuncData
 jX:FuncData
 jZ:FuncData
 jY:FuncData
 j0:FuncData
 gL:FuncData
 answers:FuncData
structure gm (K:PySem.W.Frag) (C:Addr):Prop where
 ha:PySem.W.findIn K (.ref C) "__class__"=some (some (.builtin "object.__class__"))
 hn:PySem.W.specialIn K (.builtin "object.__class__") "__get__"=some (some (.builtin "getset_descriptor.__get__"))
 iM:PySem.W.takesIn K (.builtin "object.__class__")=some true
 hm:PySem.W.mroIn K C (.type "object")=some true
structure Tx (K:PySem.W.Frag) (mg:Str->Option Value) (a:Ad) (d:Fd):Prop where
 bR:bV K a.Reader
 wW:mg "Reader"=some (.ref a.Reader)
 xc:Mk K a.Reader a.jN
 sF:aZ K a.Reader "numbers"
 pK:aZ K a.Reader "at"
 gZ:Meth K a.Reader "read_number" a.jQ
 mZ:Meth K a.Reader "read_file" a.jP
 wR:Meth K a.Reader "read_token" a.jR
 wU:Meth K a.Reader "read_tokens" a.jS
 wQ:Meth K a.Reader "read_end" a.jO
 bu:bV K a.aN
 fK:mg "Hunk"=some (.ref a.aN)
 iR:Mk K a.aN a.jD
 hU:aZ K a.aN "file"
 eY:aZ K a.aN "place"
 fN:aZ K a.aN "old"
 gz:aZ K a.aN "new"
 cY:bV K a.bo
 iQ:mg "Swap"=some (.ref a.bo)
 sh:Mk K a.bo a.jU
 nu:aZ K a.bo "file"
 lz:aZ K a.bo "first"
 lA:aZ K a.bo "second"
 mF:bV K a.bZ
 rS:mg "Added"=some (.ref a.bZ)
 Nq:Mk K a.bZ a.ji
 pJ:aZ K a.bZ "file"
 kl:bV K a.bX
 rW:mg "Removed"=some (.ref a.bX)
 Nu:Mk K a.bX a.jT
 nj:aZ K a.bX "file"
 eI:bV K a.Moved
 rT:mg "Moved"=some (.ref a.Moved)
 Nt:Mk K a.Moved a.jE
 lx:aZ K a.Moved "old_name"
 lq:aZ K a.Moved "new_name"
 dv:bV K a.Patch
 rV:mg "Patch"=some (.ref a.Patch)
 sg:Mk K a.Patch a.jM
 fO:aZ K a.Patch "name"
 ly:aZ K a.Patch "step"
 df:bV K a.bD
 wV:mg "Orders"=some (.ref a.bD)
 xb:Mk K a.bD a.jI
 nh:aZ K a.bD "names"
 sE:aZ K a.bD "needed"
 xx:aZ K a.bD "ways"
 DG:Meth K a.bD "how_many" a.jG
 wO:Meth K a.bD "how_many_below" a.jH
 ML:Meth K a.bD "numbered" a.jK
 MK:Meth K a.bD "number_of" a.jJ
 bb:bV K a.aH
 MP:mg "History"=some (.ref a.aH)
 Nr:Mk K a.aH a.jt
 ng:aZ K a.aH "start"
 bS:aZ K a.aH "patches"
 MJ:Meth K a.aH "tree" a.jC
 Mv:Meth K a.aH "add" a.jm
 MI:Meth K a.aH "row" a.jB
 MF:Meth K a.aH "outcome" a.jy
 MD:Meth K a.aH "needs" a.jw
 MC:Meth K a.aH "neededby" a.jv
 MA:Meth K a.aH "fronts" a.js
 Mz:Meth K a.aH "form" a.jr
 My:Meth K a.aH "equal" a.jq
 Mw:Meth K a.aH "count" a.jn
 MB:Meth K a.aH "kth" a.ju
 MH:Meth K a.aH "rank" a.jA
 ME:Meth K a.aH "order" a.jx
 MG:Meth K a.aH "pick" a.jz
 Mx:Meth K a.aH "drop" a.jo
 dM:bV K a.Call
 MO:mg "Call"=some (.ref a.Call)
 w9:Mk K a.Call a.jj
 iU:aZ K a.Call "kind"
 xw:aZ K a.Call "number"
 sD:aZ K a.Call "told"
 Ef:aZ K a.Call "after"
 qK:gm K a.aN
 LI:PySem.W.kitOne K (.ref a.aN) (.ref a.aN)=some true
 LL:PySem.W.kitOne K (.ref a.aN) (.ref a.bo)=some false
 LH:PySem.W.kitOne K (.ref a.aN) (.ref a.bZ)=some false
 LK:PySem.W.kitOne K (.ref a.aN) (.ref a.bX)=some false
 LJ:PySem.W.kitOne K (.ref a.aN) (.ref a.Moved)=some false
 qN:gm K a.bo
 LY:PySem.W.kitOne K (.ref a.bo) (.ref a.aN)=some false
 L6:PySem.W.kitOne K (.ref a.bo) (.ref a.bo)=some true
 LX:PySem.W.kitOne K (.ref a.bo) (.ref a.bZ)=some false
 L5:PySem.W.kitOne K (.ref a.bo) (.ref a.bX)=some false
 LZ:PySem.W.kitOne K (.ref a.bo) (.ref a.Moved)=some false
 qJ:gm K a.bZ
 LC:PySem.W.kitOne K (.ref a.bZ) (.ref a.aN)=some false
 LG:PySem.W.kitOne K (.ref a.bZ) (.ref a.bo)=some false
 LB:PySem.W.kitOne K (.ref a.bZ) (.ref a.bZ)=some true
 LF:PySem.W.kitOne K (.ref a.bZ) (.ref a.bX)=some false
 LD:PySem.W.kitOne K (.ref a.bZ) (.ref a.Moved)=some false
 qM:gm K a.bX
 LS:PySem.W.kitOne K (.ref a.bX) (.ref a.aN)=some false
 LW:PySem.W.kitOne K (.ref a.bX) (.ref a.bo)=some false
 LR:PySem.W.kitOne K (.ref a.bX) (.ref a.bZ)=some false
 LV:PySem.W.kitOne K (.ref a.bX) (.ref a.bX)=some true
 LU:PySem.W.kitOne K (.ref a.bX) (.ref a.Moved)=some false
 qL:gm K a.Moved
 LN:PySem.W.kitOne K (.ref a.Moved) (.ref a.aN)=some false
 LQ:PySem.W.kitOne K (.ref a.Moved) (.ref a.bo)=some false
 LM:PySem.W.kitOne K (.ref a.Moved) (.ref a.bZ)=some false
 LP:PySem.W.kitOne K (.ref a.Moved) (.ref a.bX)=some false
 LO:PySem.W.kitOne K (.ref a.Moved) (.ref a.Moved)=some true
 gi:mg "NotWhole"=some (.ref a.dX)
 gk:oG K a.dX "ValueError" "ValueError.__new__" "ValueError.__init__" [.type "ValueError",.type "Exception",.type "BaseException",.type "object"]
 Kf:aE K "__init__" "Reader.__init__" yM a.jN d.jN
 uT:Binds K d.jN ["self","numbers"] []
 Ki:aE K "read_number" "Reader.read_number" yP a.jQ d.jQ
 gM:Binds K d.jQ ["self","least","most"] []
 Kh:aE K "read_file" "Reader.read_file" yO a.jP d.jP
 mD:Binds K d.jP ["self"] []
 Kj:aE K "read_token" "Reader.read_token" yQ a.jR d.jR
 uV:Binds K d.jR ["self"] []
 Kk:aE K "read_tokens" "Reader.read_tokens" tI a.jS d.jS
 uW:Binds K d.jS ["self","most"] []
 Kg:aE K "read_end" "Reader.read_end" yN a.jO d.jO
 uU:Binds K d.jO ["self"] []
 J7:aE K "__init__" "Hunk.__init__" yH a.jD d.jD
 qz:Binds K d.jD ["self","file","place","old","new"] []
 Km:aE K "__init__" "Swap.__init__" yS a.jU d.jU
 AS:Binds K d.jU ["self","file","first","second"] []
 JL:aE K "__init__" "Added.__init__" yn a.ji d.ji
 G8:Binds K d.ji ["self","file"] []
 Kl:aE K "__init__" "Removed.__init__" yR a.jT d.jT
 Hu:Binds K d.jT ["self","file"] []
 J8:aE K "__init__" "Moved.__init__" yI a.jE d.jE
 Hr:Binds K d.jE ["self","old_name","new_name"] []
 CA:aE K "read_hunk" "read_hunk" zz a.lP d.lP
 HQ:Binds K d.lP ["reader"] []
 Nb:mg "read_hunk"=some (.ref a.lP)
 CD:aE K "read_swap" "read_swap" zD a.lT d.lT
 HU:Binds K d.lT ["reader"] []
 Nf:mg "read_swap"=some (.ref a.lT)
 CB:aE K "read_moved" "read_moved" zA a.lQ d.lQ
 HR:Binds K d.lQ ["reader"] []
 Nc:mg "read_moved"=some (.ref a.lQ)
 wb:aE K "read_step" "read_step" zC a.lS d.lS
 A9:Binds K d.lS ["reader"] []
 DV:mg "read_step"=some (.ref a.lS)
 CG:aE K "step_from_numbers" "step_from_numbers" zH a.md d.md
 HW:Binds K d.md ["numbers"] []
 Nh:mg "step_from_numbers"=some (.ref a.md)
 Cv:aE K "hunk_numbers" "hunk_numbers" zm a.kQ d.kQ
 HM:Binds K d.kQ ["hunk"] []
 M8:mg "hunk_numbers"=some (.ref a.kQ)
 CH:aE K "step_numbers" "step_numbers" zI a.me d.me
 HX:Binds K d.me ["step"] []
 Ni:mg "step_numbers"=some (.ref a.me)
 rm:aE K "swapped_tokens" "swapped_tokens" tQ a.mj d.mj
 u4:Binds K d.mj ["tokens","swap"] []
 w8:mg "swapped_tokens"=some (.ref a.mj)
 vZ:aE K "names_of" "names_of" zq a.lb d.lb
 A6:Binds K d.lb ["step"] []
 DS:mg "names_of"=some (.ref a.lb)
 oS:aE K "is_inside" "is_inside" zp a.kT d.kT
 qB:Binds K d.kT ["step"] []
 rX:mg "is_inside"=some (.ref a.kT)
 Cs:aE K "have_common_name" "have_common_name" tL a.kM d.kM
 HI:Binds K d.kM ["p","q"] []
 M5:mg "have_common_name"=some (.ref a.kM)
 wc:aE K "shifted" "shifted" zG a.shifted d.shifted
 Ba:Binds K d.shifted ["hunk","by"] []
 DW:mg "shifted"=some (.ref a.shifted)
 wd:aE K "swapped_hunk" "swapped_hunk" zJ a.mi d.mi
 Bb:Binds K d.mi ["hunk","swap"] []
 DX:mg "swapped_hunk"=some (.ref a.mi)
 vW:aE K "inside_file" "inside_file" zo a.kR d.kR
 A3:Binds K d.kR ["step","file"] []
 DP:mg "inside_file"=some (.ref a.kR)
 Co:aE K "commuted_hunks" "commuted_hunks" zc a.ko d.ko
 HE:Binds K d.ko ["p","q"] []
 MZ:mg "commuted_hunks"=some (.ref a.ko)
 Cq:aE K "commuted_swaps" "commuted_swaps" zf a.ku d.ku
 HG:Binds K d.ku ["p","q"] []
 M3:mg "commuted_swaps"=some (.ref a.ku)
 Cp:aE K "commuted_inside" "commuted_inside" zd a.kq d.kq
 HF:Binds K d.kq ["p","q"] []
 M0:mg "commuted_inside"=some (.ref a.kq)
 Cn:aE K "commuted" "commuted" zb a.commuted d.commuted
 HC:Binds K d.commuted ["p","q"] []
 MY:mg "commuted"=some (.ref a.commuted)
 CJ:aE K "tree_from_numbers" "tree_from_numbers" zL a.mm d.mm
 HZ:Binds K d.mm ["numbers"] []
 Nk:mg "tree_from_numbers"=some (.ref a.mm)
 CK:aE K "tree_numbers" "tree_numbers" zM a.mn d.mn
 Ia:Binds K d.mn ["tree"] []
 Nl:mg "tree_numbers"=some (.ref a.mn)
 Cu:aE K "hunk_fits" "hunk_fits" zl a.kP d.kP
 HK:Binds K d.kP ["hunk","tokens"] []
 M7:mg "hunk_fits"=some (.ref a.kP)
 vT:aE K "fits" "fits" zh a.fits d.fits
 AY:Binds K d.fits ["step","tree"] []
 DM:mg "fits"=some (.ref a.fits)
 Ct:aE K "hunk_applied" "hunk_applied" zk a.kO d.kO
 HJ:Binds K d.kO ["hunk","tokens"] []
 M6:mg "hunk_applied"=some (.ref a.kO)
 vP:aE K "applied" "applied" yZ a.applied d.applied
 AU:Binds K d.applied ["step","tree"] []
 DI:mg "applied"=some (.ref a.applied)
 Ke:aE K "__init__" "Patch.__init__" yL a.jM d.jM
 qA:Binds K d.jM ["self","name","step"] []
 oU:aE K "names_in" "names_in" tM a.k9 d.k9
 qC:Binds K d.k9 ["row"] []
 rY:mg "names_in"=some (.ref a.k9)
 gu:aE K "place_of" "place_of" zx a.lK d.lK
 gN:Binds K d.lK ["row","name"] []
 g0:mg "place_of"=some (.ref a.lK)
 oW:aE K "row_numbers" "row_numbers" zF a.lV d.lV
 qE:Binds K d.lV ["row"] []
 sf:mg "row_numbers"=some (.ref a.lV)
 CC:aE K "read_patch" "read_patch" zB a.lR d.lR
 HS:Binds K d.lR ["reader"] []
 Nd:mg "read_patch"=some (.ref a.lR)
 CF:aE K "row_from_numbers" "row_from_numbers" zE a.lU d.lU
 HV:Binds K d.lU ["numbers","tree"] []
 Ng:mg "row_from_numbers"=some (.ref a.lU)
 v9:aE K "outcome_of" "outcome_of" zu a.lD d.lD
 A7:Binds K d.lD ["tree","row"] []
 DT:mg "outcome_of"=some (.ref a.lD)
 vS:aE K "commuted_patches" "commuted_patches" ze a.kr d.kr
 AX:Binds K d.kr ["p","q"] []
 DL:mg "commuted_patches"=some (.ref a.kr)
 rf:aE K "brought_to_front" "brought_to_front" y9 a.kd d.kd
 uX:Binds K d.kd ["row","place"] []
 wX:mg "brought_to_front"=some (.ref a.kd)
 wa:aE K "passed_by" "passed_by" zw a.lG d.lG
 A8:Binds K d.lG ["patch","others"] []
 DU:mg "passed_by"=some (.ref a.lG)
 vX:aE K "names_at_front" "names_at_front" pV a.k8 d.k8
 A4:Binds K d.k8 ["row"] []
 DQ:mg "names_at_front"=some (.ref a.k8)
 rh:aE K "one_form" "one_form" zt a.lC d.lC
 uY:Binds K d.lC ["row"] []
 wY:mg "one_form"=some (.ref a.lC)
 Ck:aE K "are_equal" "are_equal" y6 a.j7 d.j7
 HA:Binds K d.j7 ["row","other"] []
 MW:mg "are_equal"=some (.ref a.j7)
 vR:aE K "brought_in_order" "brought_in_order" y8 a.kc d.kc
 AW:Binds K d.kc ["row","names"] []
 DK:mg "brought_in_order"=some (.ref a.kc)
 oV:aE K "needed_names" "needed_names" zr a.ll d.ll
 qD:Binds K d.ll ["row","place"] []
 rZ:mg "needed_names"=some (.ref a.ll)
 vY:aE K "names_needing" "names_needing" tN a.la d.la
 A5:Binds K d.la ["row","place"] []
 DR:mg "names_needing"=some (.ref a.la)
 Cw:aE K "names_with_needed" "names_with_needed" tO a.lh d.lh
 HN:Binds K d.lh ["row","names"] []
 M9:mg "names_with_needed"=some (.ref a.lh)
 CI:aE K "taken_out" "taken_out" zK a.ml d.ml
 HY:Binds K d.ml ["row","place"] []
 Nj:mg "taken_out"=some (.ref a.ml)
 Cr:aE K "group_of" "group_of" tK a.kJ d.kJ
 HH:Binds K d.kJ ["names","some"] []
 M4:mg "group_of"=some (.ref a.kJ)
 Cm:aE K "can_be_next" "can_be_next" za a.kj d.kj
 HB:Binds K d.kj ["needed","group","place"] []
 MX:mg "can_be_next"=some (.ref a.kj)
 rj:aE K "places_next" "places_next" tP a.lL d.lL
 uZ:Binds K d.lL ["needed","group"] []
 wZ:mg "places_next"=some (.ref a.lL)
 CL:aE K "ways_behind" "ways_behind" tR a.mx d.mx
 Ib:Binds K d.mx ["needed"] []
 Nm:mg "ways_behind"=some (.ref a.mx)
 Kb:aE K "__init__" "Orders.__init__" tG a.jI d.jI
 uS:Binds K d.jI ["self","row"] []
 J9:aE K "how_many" "Orders.how_many" yJ a.jG d.jG
 AR:Binds K d.jG ["self"] []
 Ka:aE K "how_many_below" "Orders.how_many_below" pU a.jH d.jH
 uR:Binds K d.jH ["self","group","place"] []
 Kd:aE K "numbered" "Orders.numbered" tH a.jK d.jK
 Ht:Binds K d.jK ["self","number"] []
 Kc:aE K "number_of" "Orders.number_of" yK a.jJ d.jJ
 Hs:Binds K d.jJ ["self","order"] []
 JT:aE K "__init__" "History.__init__" yx a.jt d.jt
 Hg:Binds K d.jt ["self"] []
 J6:aE K "tree" "History.tree" yG a.jC d.jC
 Hq:Binds K d.jC ["self","files_told"] []
 JN:aE K "add" "History.add" yp a.jm d.jm
 Ha:Binds K d.jm ["self","name","step_told"] []
 J5:aE K "row" "History.row" yF a.jB d.jB
 Ho:Binds K d.jB ["self"] []
 JY:aE K "outcome" "History.outcome" yC a.jy d.jy
 Hl:Binds K d.jy ["self"] []
 JW:aE K "needs" "History.needs" yA a.jw d.jw
 Hj:Binds K d.jw ["self","name"] []
 JV:aE K "neededby" "History.neededby" yz a.jv d.jv
 Hi:Binds K d.jv ["self","name"] []
 JS:aE K "fronts" "History.fronts" yw a.js d.js
 Hf:Binds K d.js ["self"] []
 JR:aE K "form" "History.form" yu a.jr d.jr
 He:Binds K d.jr ["self"] []
 JQ:aE K "equal" "History.equal" yt a.jq d.jq
 Hd:Binds K d.jq ["self","row_told"] []
 JO:aE K "count" "History.count" yq a.jn d.jn
 Hb:Binds K d.jn ["self"] []
 JU:aE K "kth" "History.kth" yy a.ju d.ju
 Hh:Binds K d.ju ["self","number"] []
 J4:aE K "rank" "History.rank" yE a.jA d.jA
 Hn:Binds K d.jA ["self"] []
 JX:aE K "order" "History.order" yB a.jx d.jx
 Hk:Binds K d.jx ["self","names"] []
 JZ:aE K "pick" "History.pick" yD a.jz d.jz
 Hm:Binds K d.jz ["self","names"] []
 JP:aE K "drop" "History.drop" yr a.jo d.jo
 Hc:Binds K d.jo ["self","name"] []
 JM:aE K "__init__" "Call.__init__" yo a.jj d.jj
 G9:Binds K d.jj ["self","kind","number","told","after"] []
 kF:aE K "counted" "counted" zg a.kx d.kx
 mE:Binds K d.kx ["names"] []
 m4:mg "counted"=some (.ref a.kx)
 vQ:aE K "are_own_names" "are_own_names" tJ a.j8 d.j8
 AV:Binds K d.j8 ["row","names"] []
 DJ:mg "are_own_names"=some (.ref a.j8)
 vV:aE K "has_number" "has_number" zj a.kK d.kK
 A0:Binds K d.kK ["kind"] []
 DO:mg "has_number"=some (.ref a.kK)
 vU:aE K "has_list" "has_list" zi a.has_list d.has_list
 AZ:Binds K d.has_list ["kind"] []
 DN:mg "has_list"=some (.ref a.has_list)
 Cz:aE K "read_call" "read_call" zy a.lO d.lO
 HP:Binds K d.lO ["calls","at"] []
 Na:mg "read_call"=some (.ref a.lO)
 Ce:aE K "answer_to_kind" "answer_to_kind" yU a.jX d.jX
 Hw:Binds K d.jX ["history","kind"] []
 MR:mg "answer_to_kind"=some (.ref a.jX)
 Cg:aE K "answer_to_number" "answer_to_number" yW a.jZ d.jZ
 Hy:Binds K d.jZ ["history","kind","number"] []
 MT:mg "answer_to_number"=some (.ref a.jZ)
 Cf:aE K "answer_to_list" "answer_to_list" yV a.jY d.jY
 Hx:Binds K d.jY ["history","kind","told"] []
 MS:mg "answer_to_list"=some (.ref a.jY)
 Ci:aE K "answer_with_tree" "answer_with_tree" yX a.j0 d.j0
 Hz:Binds K d.j0 ["history","call"] []
 MU:mg "answer_with_tree"=some (.ref a.j0)
 Cd:aE K "answer_of" "answer_of" yT a.gL d.gL
 Hv:Binds K d.gL ["history","call"] []
 MQ:mg "answer_of"=some (.ref a.gL)
 Cj:aE K "answers" "answers" yY a.answers d.answers
 TK:Binds K d.answers ["calls"] []
 MV:mg "answers"=some (.ref a.answers)
 distinct:[a.Reader,a.aN,a.bo,a.bZ,a.bX,a.Moved,a.Patch,a.bD,a.aH,a.Call].Nodup
 BI:∃t,mg "LAST_FILE"=some (.int (9) t)
 IJ:∃t,mg "LAST_TOKEN"=some (.int (99) t)
 BG:∃t,mg "HUNK"=some (.int (0) t)
 BR:∃t,mg "SWAP"=some (.int (1) t)
 BE:∃t,mg "ADDED"=some (.int (2) t)
 BQ:∃t,mg "REMOVED"=some (.int (3) t)
 BL:∃t,mg "MOVED"=some (.int (4) t)
 IL:∃t,mg "MOST_HUNK_TOKENS"=some (.int (8) t)
 IK:∃t,mg "LAST_TOLD_PLACE"=some (.int (1000) t)
 IM:∃t,mg "MOST_TOLD_FILES"=some (.int (6) t)
 IP:∃t,mg "MOST_TOLD_TOKENS"=some (.int (12) t)
 BJ:∃t,mg "LAST_PATCH_NAME"=some (.int (99) t)
 BK:∃t,mg "MOST_PATCHES"=some (.int (10) t)
 BS:∃t,mg "TREE"=some (.int (0) t)
 vD:∃t,mg "ADD"=some (.int (1) t)
 IX:∃t,mg "ROW"=some (.int (2) t)
 IV:∃t,mg "OUTCOME"=some (.int (3) t)
 BN:∃t,mg "NEEDS"=some (.int (4) t)
 BM:∃t,mg "NEEDEDBY"=some (.int (5) t)
 II:∃t,mg "FRONTS"=some (.int (6) t)
 IH:∃t,mg "FORM"=some (.int (7) t)
 BF:∃t,mg "EQUAL"=some (.int (8) t)
 IF:∃t,mg "COUNT"=some (.int (9) t)
 BH:∃t,mg "KTH"=some (.int (10) t)
 BP:∃t,mg "ORDER"=some (.int (12) t)
 IW:∃t,mg "PICK"=some (.int (13) t)
 IG:∃t,mg "DROP"=some (.int (14) t)
 BO:∃t,mg "NOT_AS_TOLD"=some (.int (-1) t)
 oO:∃t,mg "NO_SUCH_PATCH"=some (.int (-2) t)
 ID:∃t,mg "BAD_NAME"=some (.int (-3) t)
 IS:∃t,mg "NO_FIT"=some (.int (-4) t)
 IE:∃t,mg "BAD_NUMBER"=some (.int (-4) t)
 IT:∃t,mg "NO_ROW"=some (.int (-5) t)
 IY:∃t,mg "ROW_FULL"=some (.int (-6) t)
 IQ:∃t,mg "NOT_ALL"=some (.int (-7) t)
 IU:∃t,mg "NO_TREE"=some (.int (-8) t)
 bC:mg "len"=none
 oK:mg "tuple"=none
 kf:mg "range"=none
 ke:mg "list"=none
 cF:mg "isinstance"=none
 vd:mg "any"=none
 kg:mg "sorted"=none
 ve:mg "dict"=none
 Ih:mg "enumerate"=none
 Bo:mg "reversed"=none
 kh:mg "sum"=none
 vh:mg "max"=none
 u9:mg "all"=none
 vi:mg "set"=none
end PR
variable {P:PySem.Program} {w:PySem.World} {K:PySem.W.Frag} {mg:PySem.Str->Option PySem.Value} {base:PySem.Heap} {a:PR.Ad} {d:PR.Fd}
namespace PR
open PySem PySem.Spec PyProof.Rows L2
theorem lp {f:Str} {v:V} {fs:List (Str×V)} {n:Nat} (h:fs.length<=n):(aQ f v fs).length<=n+1:=Nat.le_trans (wI f v fs) (Nat.succ_le_succ h)
theorem cb:([]:List (Str×V)).length<=0:=Nat.le_refl _
theorem cg {fs:List (Str×V)} {n:Nat} (h:fs.length<=n) (q:n<1000:=by decide):fs.length<1000:=Nat.lt_of_le_of_lt h q
theorem eK {H:Hp} {x dx:Addr} {o1 o2 o3:HO} (nx:H x=none) (nd:H dx=none):af H (upd (upd (upd H dx o1) x o2) x o3):=λb o e=>by
 rw[aT (bq e nx),aT (bq e nx),aT (bq e nd)];exact e
theorem af.new {p:Addr} {H:Hp} {o:HO} (h:H p=none):af H (L2.upd H p o):=λb u e=>by rw[aT (bq e h)];exact e
def Ri (a:Ad):Sp:=λvs H Q _=>∃(p dx:Addr) (v1:V),vs=[.ref p,v1]/\H p=some (.ins a.Reader dx [])/\Q .aI (upd H p (.ins a.Reader dx (cw v1 (.int 0))))
theorem xF (T:Tx K mg a d):aA P w K mg base aL 1 a.jN d.jN ["self","numbers"] (Ri a):=by
 refine T.Kf.ok Qs (λvs H Q E h=>?_) (λcdv A outer s H vs Q E hr h=>?_)
 ·obtain⟨p,dx,v1,rfl,_⟩:=h;rfl
 ·obtain⟨p,dx,v1,rfl,hp,k⟩:=h;refine⟨_,(ah (ck (pv 0) (pv 1) rfl) (aj (ck (pv 0) aR rfl))),?_⟩;refine⟨_,rfl,_,rfl,p,a.Reader,dx,_,rfl,hp,T.bR,T.sF,cg (cb),?_⟩;refine⟨_,rfl,p,a.Reader,dx,_,rfl,az,T.bR,T.pK,cg (lp (cb)),?_⟩;rw[eF];exact k
def F4 (a:Ad):Sp:=λvs H Q _=>∃(p dx:Addr) (v1 v2 v3 v4:V),vs=[.ref p,v1,v2,v3,v4]/\H p=some (.ins a.aN dx [])/\Q .aI (upd H p (.ins a.aN dx (fm v1 v2 v3 v4)))
theorem sI (T:Tx K mg a d):aA P w K mg base aL 1 a.jD d.jD ["self","file","place","old","new"] (F4 a):=by
 refine T.J7.ok Qo (λvs H Q E h=>?_) (λcdv A outer s H vs Q E hr h=>?_)
 ·obtain⟨p,dx,v1,v2,v3,v4,rfl,_⟩:=h;rfl
 ·obtain⟨p,dx,v1,v2,v3,v4,rfl,hp,k⟩:=h;refine⟨_,(ah (ck (pv 0) (pv 1) rfl) (ah (ck (pv 0) (pv 2) rfl) (ah (ck (pv 0) (pv 3) rfl) (aj (ck (pv 0) (pv 4) rfl))))),?_⟩;refine⟨_,rfl,_,rfl,p,a.aN,dx,_,rfl,hp,T.bu,T.hU,cg (cb),?_⟩;refine⟨_,rfl,_,rfl,p,a.aN,dx,_,rfl,az,T.bu,T.eY,cg (lp (cb)),?_⟩;refine⟨_,rfl,_,rfl,p,a.aN,dx,_,rfl,az,T.bu,T.fN,cg (lp (lp (cb))),?_⟩;refine⟨_,rfl,_,rfl,p,a.aN,dx,_,rfl,az,T.bu,T.gz,cg (lp (lp (lp (cb)))),?_⟩;rw[eF,eF,eF];exact k
theorem iR {H:Hp} {Q:VK} {E:XK} {v1 v2 v3 v4:V} (k:∀(x dx:Addr) (H':Hp),H x=none->af H H'->H' x=some (.ins a.aN dx (fm v1 v2 v3 v4))->Q (.ref x) H'):
 ∀x dx,H x=none->H dx=none->dx≠x->F4 a (.ref x::([v1,v2,v3,v4]++[])) (upd (upd H dx (.own x)) x (.ins a.aN dx [])) (λv H2=>v= .aI/\Q (.ref x) H2) E:=λx dx nx nd _=>
 ⟨x,dx,_,_,_,_,rfl,az,rfl,k x dx _ nx (eK nx nd) az⟩
def F7 (a:Ad):Sp:=λvs H Q _=>∃(p dx:Addr) (v1 v2 v3:V),vs=[.ref p,v1,v2,v3]/\H p=some (.ins a.bo dx [])/\Q .aI (upd H p (.ins a.bo dx (gf v1 v2 v3)))
theorem Er (T:Tx K mg a d):aA P w K mg base aL 1 a.jU d.jU ["self","file","first","second"] (F7 a):=by
 refine T.Km.ok Qx (λvs H Q E h=>?_) (λcdv A outer s H vs Q E hr h=>?_)
 ·obtain⟨p,dx,v1,v2,v3,rfl,_⟩:=h;rfl
 ·obtain⟨p,dx,v1,v2,v3,rfl,hp,k⟩:=h;refine⟨_,(ah (ck (pv 0) (pv 1) rfl) (ah (ck (pv 0) (pv 2) rfl) (aj (ck (pv 0) (pv 3) rfl)))),?_⟩;refine⟨_,rfl,_,rfl,p,a.bo,dx,_,rfl,hp,T.cY,T.nu,cg (cb),?_⟩;refine⟨_,rfl,_,rfl,p,a.bo,dx,_,rfl,az,T.cY,T.lz,cg (lp (cb)),?_⟩;refine⟨_,rfl,_,rfl,p,a.bo,dx,_,rfl,az,T.cY,T.lA,cg (lp (lp (cb))),?_⟩;rw[eF,eF];exact k
theorem sh {H:Hp} {Q:VK} {E:XK} {v1 v2 v3:V} (k:∀(x dx:Addr) (H':Hp),H x=none->af H H'->H' x=some (.ins a.bo dx (gf v1 v2 v3))->Q (.ref x) H'):
 ∀x dx,H x=none->H dx=none->dx≠x->F7 a (.ref x::([v1,v2,v3]++[])) (upd (upd H dx (.own x)) x (.ins a.bo dx [])) (λv H2=>v= .aI/\Q (.ref x) H2) E:=λx dx nx nd _=>
 ⟨x,dx,_,_,_,rfl,az,rfl,k x dx _ nx (eK nx nd) az⟩
def Q3 (a:Ad):Sp:=λvs H Q _=>∃(p dx:Addr) (v1:V),vs=[.ref p,v1]/\H p=some (.ins a.bZ dx [])/\Q .aI (upd H p (.ins a.bZ dx (oZ v1)))
theorem NW (T:Tx K mg a d):aA P w K mg base aL 1 a.ji d.ji ["self","file"] (Q3 a):=by
 refine T.JL.ok Qe (λvs H Q E h=>?_) (λcdv A outer s H vs Q E hr h=>?_)
 ·obtain⟨p,dx,v1,rfl,_⟩:=h;rfl
 ·obtain⟨p,dx,v1,rfl,hp,k⟩:=h;refine⟨_,(aj (ck (pv 0) (pv 1) rfl)),?_⟩;refine⟨_,rfl,_,rfl,p,a.bZ,dx,_,rfl,hp,T.mF,T.pJ,cg (cb),?_⟩;exact k
def Rm (a:Ad):Sp:=λvs H Q _=>∃(p dx:Addr) (v1:V),vs=[.ref p,v1]/\H p=some (.ins a.bX dx [])/\Q .aI (upd H p (.ins a.bX dx (ph v1)))
theorem Oh (T:Tx K mg a d):aA P w K mg base aL 1 a.jT d.jT ["self","file"] (Rm a):=by
 refine T.Kl.ok Qw (λvs H Q E h=>?_) (λcdv A outer s H vs Q E hr h=>?_)
 ·obtain⟨p,dx,v1,rfl,_⟩:=h;rfl
 ·obtain⟨p,dx,v1,rfl,hp,k⟩:=h;refine⟨_,(aj (ck (pv 0) (pv 1) rfl)),?_⟩;refine⟨_,rfl,_,rfl,p,a.bX,dx,_,rfl,hp,T.kl,T.nj,cg (cb),?_⟩;exact k
def Ra (a:Ad):Sp:=λvs H Q _=>∃(p dx:Addr) (v1 v2:V),vs=[.ref p,v1,v2]/\H p=some (.ins a.Moved dx [])/\Q .aI (upd H p (.ins a.Moved dx (iL v1 v2)))
theorem Oe (T:Tx K mg a d):aA P w K mg base aL 1 a.jE d.jE ["self","old_name","new_name"] (Ra a):=by
 refine T.J8.ok Qp (λvs H Q E h=>?_) (λcdv A outer s H vs Q E hr h=>?_)
 ·obtain⟨p,dx,v1,v2,rfl,_⟩:=h;rfl
 ·obtain⟨p,dx,v1,v2,rfl,hp,k⟩:=h;refine⟨_,(ah (ck (pv 0) (pv 1) rfl) (aj (ck (pv 0) (pv 2) rfl))),?_⟩;refine⟨_,rfl,_,rfl,p,a.Moved,dx,_,rfl,hp,T.eI,T.lx,cg (cb),?_⟩;refine⟨_,rfl,_,rfl,p,a.Moved,dx,_,rfl,az,T.eI,T.lq,cg (lp (cb)),?_⟩;rw[eF];exact k
def Rh (a:Ad):Sp:=λvs H Q _=>∃(p dx:Addr) (v1 v2:V),vs=[.ref p,v1,v2]/\H p=some (.ins a.Patch dx [])/\Q .aI (upd H p (.ins a.Patch dx (cZ v1 v2)))
theorem sJ (T:Tx K mg a d):aA P w K mg base aL 1 a.jM d.jM ["self","name","step"] (Rh a):=by
 refine T.Ke.ok Qr (λvs H Q E h=>?_) (λcdv A outer s H vs Q E hr h=>?_)
 ·obtain⟨p,dx,v1,v2,rfl,_⟩:=h;rfl
 ·obtain⟨p,dx,v1,v2,rfl,hp,k⟩:=h;refine⟨_,(ah (ck (pv 0) (pv 1) rfl) (aj (ck (pv 0) (pv 2) rfl))),?_⟩;refine⟨_,rfl,_,rfl,p,a.Patch,dx,_,rfl,hp,T.dv,T.fO,cg (cb),?_⟩;refine⟨_,rfl,_,rfl,p,a.Patch,dx,_,rfl,az,T.dv,T.ly,cg (lp (cb)),?_⟩;rw[eF];exact k
def ub (a:Ad):Sp:=λvs H Q _=>∃(p dx:Addr) (v1 v2 v3 v4:V),vs=[.ref p,v1,v2,v3,v4]/\H p=some (.ins a.Call dx [])/\Q .aI (upd H p (.ins a.Call dx (gb v1 v2 v3 v4)))
theorem NX (T:Tx K mg a d):aA P w K mg base aL 1 a.jj d.jj ["self","kind","number","told","after"] (ub a):=by
 refine T.JM.ok Qg (λvs H Q E h=>?_) (λcdv A outer s H vs Q E hr h=>?_)
 ·obtain⟨p,dx,v1,v2,v3,v4,rfl,_⟩:=h;rfl
 ·obtain⟨p,dx,v1,v2,v3,v4,rfl,hp,k⟩:=h;refine⟨_,(ah (ck (pv 0) (pv 1) rfl) (ah (ck (pv 0) (pv 2) rfl) (ah (ck (pv 0) (pv 3) rfl) (aj (ck (pv 0) (pv 4) rfl))))),?_⟩;refine⟨_,rfl,_,rfl,p,a.Call,dx,_,rfl,hp,T.dM,T.iU,cg (cb),?_⟩;refine⟨_,rfl,_,rfl,p,a.Call,dx,_,rfl,az,T.dM,T.xw,cg (lp (cb)),?_⟩;refine⟨_,rfl,_,rfl,p,a.Call,dx,_,rfl,az,T.dM,T.sD,cg (lp (lp (cb))),?_⟩;refine⟨_,rfl,_,rfl,p,a.Call,dx,_,rfl,az,T.dM,T.Ef,cg (lp (lp (lp (cb)))),?_⟩;rw[eF,eF,eF];exact k
theorem w9 {H:Hp} {Q:VK} {E:XK} {v1 v2 v3 v4:V} (k:∀(x dx:Addr) (H':Hp),H x=none->af H H'->H' x=some (.ins a.Call dx (gb v1 v2 v3 v4))->Q (.ref x) H'):
 ∀x dx,H x=none->H dx=none->dx≠x->ub a (.ref x::([v1,v2,v3,v4]++[])) (upd (upd H dx (.own x)) x (.ins a.Call dx [])) (λv H2=>v= .aI/\Q (.ref x) H2) E:=λx dx nx nd _=>
 ⟨x,dx,_,_,_,_,rfl,az,rfl,k x dx _ nx (eK nx nd) az⟩
end PR
namespace PR
open PySem PySem.Spec PyProof.Rows L2
def fI (H:Hp) (o:HO) (Q:VK):Prop:=∀(p:Addr) (H':Hp),H p=none->af H H'->H' p=some o->Q (.ref p) H'
theorem fI.old {H:Hp} {o:HO} {Q:VK} (h:fI H o Q):∀p,H p=none->Q (.ref p) (upd H p o):=λp n=>h p _ n (af.new n) az
section
variable {X:Cx}
theorem cq.imp {f:Value->Value->Sem Value} {r r':R2} (h:cq X f r) (i:∀x y H Q,r' x y H Q->r x y H Q):cq X f r':=λpins s σ H x y v u Q I rx ry q=>h pins s σ H x y v u Q I rx ry (i _ _ _ _ q)
theorem cR.imp {f:Value} {r r':List V->Hp->VK->Prop} (h:cR X f r) (i:∀xs H Q,r' xs H Q->r xs H Q):cR X f r':=λpins s σ H xs us Q I rx q=>h pins s σ H xs us Q I rx (i _ _ _ q)
def Gn (t:TA):TE:=λσ H Q=>t σ H λxs H1=>xs.length<=sizeLine/\fI H1 (.lst xs) Q
def SH (t:TA):TE:=λσ H Q=>t σ H λxs H1=>xs.length<=sizeLine/\fI H1 (.tup xs) Q
theorem bj {es:List Expr} {t:TA} {pos:Pos} (h:PA X es t):PE X (.List es pos) (Gn t):=by
 intro pins s σ H Q I hq;refine wpAny_List_spliced (aK (h pos pins s σ H _ I hq) λus s1 ⟨xs,H1,I1,r,z,q⟩=>⟨by rw[<-r.length];exact z,?_⟩);have hf:H1 s1.heap.objs.size=none:=I1.aw.fresh (Nat.le_refl _);exact⟨.ref s1.heap.objs.size,upd H1 s1.heap.objs.size (.lst xs),I1.laid (t':=s1.toks) (λb u e=>Heap.get?_push_of_some _ e) (Nat.le_refl _) ⟨z,us,0,r,Heap.get?_push_size _ rfl⟩,rfl,q.old _ hf⟩
theorem dP {es:List Expr} {t:TA} {pos:Pos} {x1} (h:PA X es t):PE X (.Tuple es x1 pos) (SH t):=by
 intro pins s σ H Q I hq;refine wpAny_Tuple_spliced (aK (h pos pins s σ H _ I hq) λus s1 ⟨xs,H1,I1,r,z,q⟩=>⟨by rw[<-r.length];exact z,?_⟩);have hf:H1 s1.heap.objs.size=none:=I1.aw.fresh (Nat.le_refl _);exact⟨.ref s1.heap.objs.size,upd H1 s1.heap.objs.size (.tup xs),I1.laid (t':=s1.toks) (λb u e=>Heap.get?_push_of_some _ e) (Nat.le_refl _) ⟨z,us,r,⟨_,Heap.get?_push_size _ rfl,rfl,_,rfl⟩⟩,rfl,q.old _ hf⟩
theorem eZ:cq X (binaryOp .Add) (λx y H Q=>∃l b xs zs,x= .ref l/\y= .ref b/\H l=some (.lst xs)/\H b=some (.lst zs)/\xs.length+zs.length<=sizeLine/\fI H (.lst (xs++zs)) Q):=
 cq.imp OS λx y H Q ⟨l,b,xs,zs,e1,e2,h1,h2,hz,q⟩=>⟨l,b,xs,zs,e1,e2,h1,h2,hz,q.old⟩
theorem vj:cR X (.type "list") (λxs H Q=>∃p ys,xs=[.ref p]/\(ak X.K H p ys\/ba X.K H p ys)/\fI H (.lst ys) Q):=
 cR.imp Il λxs H Q ⟨p,ys,e,h,q⟩=>⟨p,ys,e,h,q.old⟩
theorem iw:oF X (λx lo hi H Q=>∃a xs,x= .ref a/\ak X.K H a xs/\fI H (.lst (cM xs lo hi)) Q):=by
 intro pins s σ H x v vl vu lo hi sl Q I rx hs pl pu h;obtain⟨a,xs,e,hx,q⟩:=h;exact QY pins s σ H x v vl vu lo hi sl Q I rx hs pl pu ⟨a,xs,e,hx,q.old⟩
theorem BD:cR X (.builtin "sorted") (λvs H Q=>∃(a:Addr) (ns:List Int),vs=[V.ref a]/\ak X.K H a (ns.map V.int)/\ns.length<64/\∀(ns':List Int),ns'.Perm ns->ns'.Pairwise (·<=·)->fI H (.lst (ns'.map V.int)) Q):=
 cR.imp IB λxs H Q ⟨a,ns,e,h,l,q⟩=>⟨a,ns,e,h,l,λns' p h1 h2 h3=>(q ns' h1 h2).old p h3⟩
end
end PR
namespace PR
open PySem PySem.Spec PyProof.Rows L2
def gK (K:PySem.W.Frag) (H:Hp) (xs:List V) (Q:VK):Prop:=∀(p:Addr) (H':Hp),af H H'->ba K H' p xs->Q (.ref p) H'
section
variable {X:Cx}
theorem NA:qh X "list.insert" (λx vs H Q=>∃l xs y,x= .ref l/\vs=[.int 0,y]/\H l=some (.lst xs)/\xs.length<sizeLine/\Q .aI (upd H l (.lst (y::xs)))):=by
 intro pins s σ H x vs v us Q I rx rv h;obtain⟨l,xs,y,rfl,rfl,hH,hz,q⟩:=h;cases rx;obtain⟨u,v,rfl,ru,rw2⟩:=rv.two;obtain⟨t,rfl⟩:=ru;obtain⟨z,its,n,r,hl,e⟩:=I.kZ hH;refine call_meets F.slot_list_insert ⟨_,e,rfl⟩ F.entry_list_insert (F.args_list_insert_3 _ _ _)
  (AutoSeq1.list_insert_list_int_val_1 l its.toArray n 0 t v (by decide) (by rw[List.size_toArray];omega)) ⟨e,?_⟩
 refine⟨.aI,_,I.rN (its':=v::its) hH e ?_ (.cons rw2 r) ?_,rfl,q⟩
 ·show((its.toArray.extract 0 (if (0:Int)<0 then _ else min (0:Int).toNat its.toArray.size)).push v++its.toArray.extract (if (0:Int)<0 then _ else min (0:Int).toNat its.toArray.size))=(v::its).toArray;rw[if_neg (by decide)];simp
 ·rw[List.length_cons];omega
theorem Nz:qh X "list.extend" (λx vs H Q=>∃l b xs zs,x= .ref l/\vs=[.ref b]/\H l=some (.lst xs)/\ba X.K H b zs/\xs.length+zs.length<=sizeLine/\Q .aI (upd H l (.lst (xs++zs)))):=by
 intro pins s σ H x vs v us Q I rx rv h;obtain⟨l,b,xs,zs,rfl,rfl,hH,hB,hz,q⟩:=h;cases rx;obtain⟨u,rfl,ru⟩:=rv.one;cases ru;obtain⟨z,its,n,r,hl,e⟩:=I.kZ hH;obtain⟨its2,r2,hb,z2⟩:=I.tuple hB;obtain⟨ob,hob,hcb,nb,hdb⟩:=id hb;have l2:=r2.length;refine wpAny_call_entry F.slot_list_extend ⟨_,e,rfl⟩ F.entry_list_extend ?_ (F.args_list_extend_2 _ _);show wpAny _ _ (Builtin.List.listExtendWith (.ref l) (.ref b) .none) _ _ s;unfold Builtin.List.listExtendWith;refine wpAny_bind (wpAny_typeOf (T:="tuple") ⟨ob,hob,hcb⟩ ?_);rw[if_pos (by simp)];refine wpAny_bind (listItems_at hob hdb ?_);refine wpAny_bind (listItems_at e rfl ?_);rw[if_neg (by rw[Eh (by rw[List.size_toArray,List.size_toArray];omega),Bool.and_false];exact Bool.false_ne_true)];refine wpAny_bind (listUpdate_at e rfl ?_ (by rw[List.size_toArray];omega) (by rw[Array.size_append,List.size_toArray,List.size_toArray];omega));refine wpAny_pure ⟨_,rfl,?_⟩;refine⟨.aI,_,I.rN (its':=its++its2) hH e (by simp) (r.append r2) ?_,rfl,q⟩;rw[List.length_append];omega
theorem EM:cq X (binaryOp .Add) (λx y H Q=>∃a b xs ys,x= .ref a/\y= .ref b/\ba X.K H a xs/\ba X.K H b ys/\xs.length+ys.length<=sizeLine/\gK X.K H (xs++ys) Q):=by
 intro pins s σ H x y v u Q I rx ry h;obtain⟨a,b,xs,ys,rfl,rfl,ha,hb,hz,q⟩:=h;by_cases hx:xs=[]
 ·subst hx;cases rx;cases ry;obtain⟨its,r1,p1,_⟩:=I.tuple ha;obtain⟨its2,r2,p2,_⟩:=I.tuple hb;cases r1;obtain⟨⟨cls,dd,data,sl⟩,ho,hc,n,hd⟩:=id p1;obtain⟨⟨cls2,dd2,data2,sl2⟩,ho2,hc2,n2,hd2⟩:=id p2;simp only at hc hd hc2 hd2;subst hc hd hc2 hd2;exact concat_meets ⟨_,ho,rfl⟩ ⟨_,ho2,rfl⟩ noFill_tuple_add seq_tuple_add PySem.F.slot_tuple_add PySem.F.entry_tuple_add (PySem.F.args_tuple_add_2 _ _)
   (tuple_addW0 a b _ its2.toArray n n2 dd dd2 sl sl2 (by simp)) ⟨ho,ho2,⟨.ref b,H,I,rfl,q b H (af.refl _) hb⟩⟩
 ·refine OT pins s σ H _ _ v u Q I rx ry ⟨a,b,xs,ys,rfl,rfl,ha,hb,hx,hz,λhy=>?_,λhy p hp=>q p _ (af.new hp) (ba.of az)⟩;subst hy;exact q a H (af.refl _) (by rw[List.append_nil];exact ha)
theorem K9 {prog:Program} {w:World} {A:Around} {E:Value->Shared->Prop} {s:Shared} {t sl:Addr} {items:Array Value} {vl vu:Value} {lo hi:Option Int} {Q:Value->Shared->Prop} (ht:IsTup s.heap t items) (hs:s.heap.IsSliceOf sl vl vu .none) (pl:IsPart vl lo) (pu:IsPart vu hi)
 (hw:HT.aW items.size 0 lo=0/\HT.aW items.size items.size hi=items.size) (h:Q (.ref t) s):wpAny (model prog w) A (getItem (.ref t) (.ref sl)) Q E s:=by
 obtain⟨os,hos,hcs,hds⟩:=id hs;have hTs:s.TypeIs (.ref sl) "slice":=⟨os,hos,hcs⟩
 unfold getItem
 try with_reducible refine wpAny_holding ?_
 first|refine wpAny_bind (wpAny_pure ?_)|skip
 refine wpAny_bind (wpAny_sequenceKey ht.typeIs (by decide) ?_);refine wpAny_bind (wpAny_callSpecial?_slot (name:=Str.ofString "__getitem__") ht.typeIs PyProof.Rows.slot_tuple_getitem
  (wpAny_call_entry PyProof.Rows.slot_tuple_getitem ht.typeIs entry_tuple_getitem ?_ (args_tuple_getitem _ _)))
 show wpAny _ _ (Builtin.Tuple.tupleItemsOf (.ref t) >>=_) _ _ s;refine wpAny_bind (tupleItemsOf_ ht ?_);refine wpAny_bind (wpAny_typeOf hTs ?_);rw[if_pos (by decide)];refine wpAny_bind (HT.F0 hs pl pu ?_);show wpAny _ _ (if (((HT.aW items.size 0 lo:Nat):Int)==0&&(1:Int)==1&&(HT.aW items.size items.size hi-HT.aW items.size 0 lo)==items.size)=true then _ else _) _ _ s;rw[if_pos (by rw[hw.1,hw.2,Nat.sub_zero];simp)];unfold Builtin.Tuple.tupleIsExact;refine wpAny_bind (wpAny_bind (wpAny_typeOf ht.typeIs (wpAny_pure ?_)));rw[if_pos (by decide)]
 first
  |exact wpAny_bind (wpAny_rule (wpAny_pure ⟨_,rfl,wpAny_pure h⟩))
  |exact wpAny_bind (wpAny_rule (wpAny_bind (wpAny_pure (wpAny_pure ⟨_,rfl,wpAny_pure h⟩))))
theorem zZ:oF X (λx lo hi H Q=>∃a xs,x= .ref a/\ba X.K H a xs/\gK X.K H (cM xs lo hi) Q):=by
 intro pins s σ H x v vl vu lo hi sl Q I rx hs pl pu h;obtain⟨a,xs,rfl,hx,q⟩:=h;by_cases hw:HT.aW xs.length 0 lo=0/\HT.aW xs.length xs.length hi=xs.length
 ·cases rx;obtain⟨its,r,ht,hz⟩:=I.tuple hx;have hlen:its.toArray.size=xs.length:=by rw[List.size_toArray];exact r.length.symm
  refine⟨"tuple",_,PyProof.Rows.slot_tuple_getitem.lookup,ht.typeIs,K9 ht hs pl pu (by rw[hlen];exact hw) ⟨.ref a,H,I,rfl,q a H (af.refl _) ?_⟩⟩;have e:cM xs lo hi=xs:=by
   unfold cM;rw[hw.1,hw.2];simp
  rw[e];exact hx
 ·exact QZ pins s σ H _ v vl vu lo hi sl Q I rx hs pl pu ⟨a,xs,rfl,hx,hw,λp hp=>q p _ (af.new hp) (ba.of az)⟩
theorem Ij:cR X (.type "dict") (λxs H Q=>∃a kvs,xs=[.ref a]/\H a=some (.dK kvs)/\fI H (.dK kvs) Q):=by
 intro pins s σ H xs us Q I r h;obtain⟨a,kvs,rfl,ha,q⟩:=h;rw[Vals.ir r];exact Jg I (.inl ha) λp s' hp I'=>⟨.ref p,_,I',rfl,q.old p hp⟩
theorem Dv:∀{kvs:List (Key×V)} {ws:List (Key×Value)} {j:Nat} {k:Key} {x:Value},KV kvs ws->ws[j]?=some (k,x)->∃y,kvs[j]?=some y/\y.1=k
 |_,_,_,_,_,.nil,h=>by simp at h
 |p::_,_::_,0,k,x,.cons r _,h=>by
  cases(Option.some.inj h);exact⟨p,rfl,r.1⟩
 |_::_,_::_,j+1,k,x,.cons _ t,h=>Dv (j:=j) t h
theorem Lv {pins:List (Addr×Obj)} {σ:L2.St} {H:Hp} {s:Shared} {h':Heap} {a:Addr} {o:HO} {t':Nat} (I:L2.Inv X pins σ H s) (k:∀b u,s.heap.get? b=some u->h'.get? b=some u) (hp:s.heap.get? a=none) (new:bO X.prog X.w (upd H a o) h' a o):
 H a=none/\L2.Inv X pins σ (upd H a o) {s with heap:=h',toks:=t'}:=by
 have hn:H a=none:=by
  cases q:H a with
  |none=>rfl
  |some u=>
   obtain⟨ob,e⟩:=(I.aw a u q).get;rw[hp] at e;cases e
 refine⟨hn,I.un ⟨λb u q _ _ _=>k b u q,λb u q _ _ _=>⟨u.slots,k b u q⟩,λb u q n _=>?_,λb u q _=>⟨u,k b u q⟩,λb xs q=>?_,λb u xs q=>?_,λb ps q=>⟨#[],?_⟩⟩ λb u e=>?_⟩
 ·rw[aT (λz=>by rw[z,hp] at q;cases q)];exact n
 ·rw[aT (bq q hn)];exact q
 ·rw[aT (bq q hn)];exact q
 ·rw[aT (bq q hn),q];simp
 ·by_cases hb:b=a
  ·subst hb;rw[az] at e;cases e;exact new
  ·rw[aT hb] at e;exact(I.aw b u e).jc (λc v _ q=>k c v q) (λc q=>by rw[aT (bq q hn)];exact q) λc xs q=>by rw[aT (bq q hn)];exact q
theorem Dl {P:Program} {w:World}:∀{ns:List Int} {vs:List Value},vs.length=ns.length->(∀(j:Nat) (v:Value),vs[j]?=some v->∃n,ns[j]?=some n/\kW (.inl n) v=true)->IntsAre vs ns
 |[],[],_,_=> .nil
 |[],_::_,h,_=>by cases h
 |_::_,[],h,_=>by cases h
 |n::ns,v::vs,h,k=>by
  obtain⟨m,e,q⟩:=k 0 v rfl;have e:n=m:=Option.some.inj e;subst e;obtain⟨t,rfl⟩:=Value.isInt_shape (k:=n) (v:=v) q;exact .cons n t (Dl (P:=P) (w:=w) (Nat.succ.inj h) λj v' hv=>k (j+1) v' hv)
theorem IC (hcalm:X.calm=true):cR X (.builtin "sorted") (λvs H Q=>∃(a:Addr) (kvs:List (Key×V)) (ns:List Int),vs=[V.ref a]/\H a=some (.dK kvs)/\kvs.map (·.1)=ns.map Sum.inl/\ns.length<64/\
 ∀(ns':List Int),ns'.Perm ns->ns'.Pairwise (·<=·)->fI H (.lst (ns'.map V.int)) Q):=by
 intro pins s σ H vs us Q I r h;obtain⟨a,kvs,ns,rfl,ha,hk,h64,q⟩:=h;rw[Vals.ir r];obtain⟨z,hd,ws,rel,dd⟩:=qU I.aw ha;obtain⟨ep,hat⟩:=dd.dictAt;have hlen:kvs.length=ns.length:=by have:=congrArg List.length hk;rw[List.length_map,List.length_map] at this;exact this
 have hws:ws.length=kvs.length:=rel.length.symm;refine Calls.call_function_entry kind_sorted plain_sorted entry_sorted (args_sorted1 _) ?_;unfold Builtin.«sorted»;refine wpAny_bind (m:=checkCount "sorted" 1 1 _) (wpAny_pure ?_);refine wpAny_bind (PySem.W.kdu_collect (A:=X.A.in1) (PySem.W.kdl_dict (knd:=dw X.prog X.w) (kvs:=ws) (ep:=ep) hd) (I.ok.hd hcalm) hat (by rw[hws];exact z) λh' tk acc hkp hacc=>?_);have hl:acc.toList.length=ws.length:=by rw[Array.length_toList];exact hacc.1
 have hI:IntsAre acc.toList ns:=Dl (P:=X.prog) (w:=X.w) (by omega) λj v hv=>by
  obtain⟨k,x,hx,hkv⟩:=hacc.2 j v (by rw[<-Array.getElem?_toList];exact hv);obtain⟨y,hy,ey⟩:=Dv rel hx;have:(kvs.map (·.1))[j]?=some k:=by rw[List.getElem?_map,hy,<-ey];rfl
  rw[hk,List.getElem?_map] at this;cases en:ns[j]? with
  |none=>rw[en] at this;cases this
  |some n=>
   rw[en] at this;have ek:Sum.inl n=k:=Option.some.inj this;rw[<-ek] at hkv;exact⟨n,rfl,hkv⟩
 refine wpAny_bind (wpAny_newList ?_ (by rw[hl,hws];exact z));have hoL:(h'.push (seqObj "list" acc.toList.toArray 0)).get? h'.objs.size=some (seqObj "list" acc.toList.toArray 0):=Heap.get?_push_size _ rfl;show wpAny _ _ _ _ _ {s with heap:=h'.push (seqObj "list" acc.toList.toArray 0),toks:=tk};refine wpAny_bind (wpAny_holding (wpAny_call_entry slot_list_sort ⟨_,hoL,rfl⟩ entry_list_sort (list_sort_tree hoL hI (by rw[hl,hws,hlen];exact h64) λout ns' a1 a2 a3=>⟨_,rfl,?_⟩) (args_list_sort _)));refine wpAny_pure ⟨_,rfl,?_⟩;obtain⟨e2,he'⟩:=sortedHeap_at (vs:=acc.toList) (out:=out) hoL;have hsz:s.heap.get? h'.objs.size=none:=by
  cases q:s.heap.get? h'.objs.size with
  |none=>rfl
  |some o=>exact absurd (Heap.lt_size (hkp _ o q)) (Nat.lt_irrefl _)
 have hlen':(ns'.map V.int).length<=sizeLine:=by rw[List.length_map,a2.length_eq];exact F2 h64
 have I2:=Lv I (t':=tk) (o:= .lst (ns'.map V.int)) (h':=sortedHeap (h'.push (seqObj "list" acc.toList.toArray 0)) h'.objs.size acc.toList out) (λb o eo=>?_) hsz ⟨hlen',out.toList,e2,Al a1,he'⟩
 ·exact⟨.ref h'.objs.size,upd H h'.objs.size (.lst (ns'.map V.int)),I2.2,rfl,(q ns' a2 a3).old _ I2.1⟩
 have e1:=hkp b o eo;rw[sortedHeap_old (Nat.ne_of_lt (Heap.lt_size e1)) (by rw[Heap.size_push];exact Nat.lt_succ_of_lt (Heap.lt_size e1))];exact Heap.get?_push_of_some _ e1
end
end PR
namespace PR
open PySem PySem.Spec PyProof.Rows L2
def fw (ns:List Int):List Int:=ns.foldl step_dedup []
theorem JG (ns:List Int):firstMet (λi=>ns.getD i 0) ns.length=fw ns:=by
 unfold firstMet fw;congr 1;refine List.ext_getElem? λj=>?_;rw[List.getElem?_map];by_cases h:j<ns.length
 ·rw[List.getElem?_range h,List.getElem?_eq_getElem h];simp[h]
 ·rw[List.getElem?_eq_none (by rw[List.length_range];omega),List.getElem?_eq_none (by omega)];rfl
theorem rR:∀(ns σ:List Int),σ.Nodup->((ns.foldl step_dedup σ).length=σ.length+ns.length↔(σ++ns).Nodup)/\(ns.foldl step_dedup σ).length<=σ.length+ns.length
 |[],σ,h=>by rw[List.append_nil];exact⟨⟨λ_=>h,λ_=>rfl⟩,Nat.le_refl _⟩
 |n::ns,σ,h=>by
  rw[List.foldl_cons];by_cases hc:σ.any (·==n)=true
  ·have e:step_dedup σ n=σ:=by unfold step_dedup;rw[if_pos hc]
   rw[e];obtain⟨_,h2⟩:=rR ns σ h;refine⟨⟨λz=>?_,λz=>?_⟩,by rw[List.length_cons];omega⟩
   ·rw[List.length_cons] at z;omega
   ·exfalso;obtain⟨x,hx,e⟩:=List.any_eq_true.mp hc;have e:x=n:=eq_of_beq e;subst e;exact(List.nodup_append.mp z).2.2 x hx x List.mem_cons_self rfl
  ·have e:step_dedup σ n=σ++[n]:=by unfold step_dedup;rw[if_neg hc]
   have hn:n∉σ:=λz=>hc (List.any_eq_true.mpr ⟨n,z,beq_self_eq_true n⟩);have h':(σ++[n]).Nodup:=List.nodup_append.mpr ⟨h,List.nodup_cons.mpr ⟨by simp,List.nodup_nil⟩,λx hx y hy=>by rw[List.mem_singleton.mp hy];exact λz=>hn (z▸hx)⟩;rw[e];obtain⟨h1,h2⟩:=rR ns (σ++[n]) h';rw[List.length_append,List.length_singleton] at h1 h2;rw[List.append_assoc] at h1;rw[List.length_cons];refine⟨⟨λz=>h1.mp (by omega),λz=>?_⟩,by omega⟩;have:=h1.mpr z;omega
theorem DH (ns:List Int):(fw ns).length=ns.length↔ns.Nodup:=by
 have:=(rR ns [] List.nodup_nil).1;rw[List.length_nil,Nat.zero_add,List.nil_append] at this;exact this
theorem MN (ns:List Int):(fw ns).length<=ns.length:=by
 have:=(rR ns [] List.nodup_nil).2;rw[List.length_nil,Nat.zero_add] at this;exact this
section
variable {X:Cx}
theorem IA (hc:X.calm=true):cR X (.type "set") (λvs H Q=>∃(a:Addr) (ns:List Int),vs=[V.ref a]/\ak X.K H a (ns.map V.int)/\ns.length<=100/\∀S,fI H (.set S (fw ns).length) Q):=by
 intro pins s σ H vs us Q I r h;obtain⟨a,ns,rfl,ha,hl,q⟩:=h;rw[Vals.ir r];obtain⟨its,rv,hp,_⟩:=I.list ha;have hn:its.length=ns.length:=by rw[<-rv.length,List.length_map]
 refine PySem.call_set_list (items:=its.toArray) (ns:=ns) (I.ok.hd hc) hp.isList (by simpa using rv.ints) (by rw[List.size_toArray];unfold scanBound;omega) λh' tk hS hk=>?_;have hz:its.toArray.size=ns.length:=by rw[List.size_toArray];exact hn
 rw[hz,JG] at hS;have hf:H s.heap.objs.size=none:=I.aw.fresh (Nat.le_refl _);exact⟨.ref s.heap.objs.size,upd H s.heap.objs.size (.set (λk'=>(fw ns).any (·==k')) (fw ns).length),I.laid (t':=tk) (λb u e=>hk b u (Heap.lt_size e) e) (Nat.le_refl _) hS,rfl,(q _).old _ hf⟩
theorem Ik:cR X (.builtin "len") (λxs H Q=>∃a S n,xs=[V.ref a]/\H a=some (.set S n)/\n<=100/\Q (.int n) H):=by
 intro pins s σ H xs us Q I r h;obtain⟨a,S,n,rfl,ha,hn,q⟩:=h;rw[Vals.ir r];have hs:s.heap.SetOf (intKind X.prog X.w) a S n:=I.aw a _ ha;obtain⟨o,ho,hex,es,ep,t,hd,_,_,hn2,hf⟩:=hs.objOf;subst hn2;exact call_len_set ho hex hd hf (by omega) ⟨.int _,H,I.tok _,⟨_,rfl⟩,q⟩
end
end PR
namespace PR
open PySem PySem.Spec PyProof.Rows L2
theorem oK:bootBuiltins "tuple"=some (.type "tuple"):=by decide+kernel
def ax (r:Addr) (H H':Hp):Prop:=∀b o,H b=some o->b≠r->H' b=some o
theorem ax.refl (r:Addr) (H:Hp):ax r H H:=λ_ _ e _=>e
theorem ax.trans {r:Addr} {H H1 H2:Hp} (a:ax r H H1) (b:ax r H1 H2):ax r H H2:=λc o e n=>b c o (a c o e n) n
theorem ax.upd {r:Addr} {H:Hp} {o:HO}:ax r H (upd H r o):=λb u e n=>by rw[aT n];exact e
theorem ax.new {r p:Addr} {H:Hp} {o:HO} (h:H p=none):ax r H (L2.upd H p o):=λb u e _=>by rw[aT (bq e h)];exact e
theorem ax.p5 {K:PySem.W.Frag} {r a:Addr} {H H':Hp} {xs:List V} (e:ax r H H') (n:a≠r) (h:ak K H a xs):ak K H' a xs:=by
 rcases h with (h|⟨o,h⟩)|h
 ·exact .inl (.inl (e _ _ h n))
 ·exact .inl (.inr ⟨o,e _ _ h n⟩)
 ·exact .inr h
theorem ax.free {r p:Addr} {H H':Hp} (S:ax r H H') (n:p≠r) (h:H' p=none):H p=none:=by
 cases q:H p with
 |none=>rfl
 |some o=>rw[S p o q n] at h;cases h
theorem ax.write {r p:Addr} {H H':Hp} {o:HO} (S:ax r H H') (h:H p=none):ax r H (L2.upd H' p o):=λb u e n=>by rw[aT (bq e h)];exact S b u e n
theorem af.x {r:Addr} {H H':Hp} (s:af H H'):ax r H H':=λb o e _=>s b o e
structure cJ (K:PySem.W.Frag) (a:Ad) (H:Hp) (r l:Addr) (ns:List Int) (i:Nat):Prop where
 ins:∃dx,H r=some (.ins a.Reader dx (cw (.ref l) (.int i)))
 lst:ak K H l (ns.map V.int)
 ne:l≠r
def bx {A:Type} (K:PySem.W.Frag) (a:Ad) (rd:VapatBase.Reader A) (res:A->V->Hp->Prop) (H:Hp) (r l:Addr) (ns:List Int) (i:Nat) (Q:VK) (E:XK):Prop:=
 match rd (ns.drop i) with
 |some (x,rest)=>∀(H':Hp) (v:V) (j:Nat),cJ K a H' r l ns j->ns.drop j=rest->j<=ns.length->ax r H H'->res x v H'->Q v H'
 |none=>∀H':Hp,ax r H H'->E (.ref a.dX) none H'
def isNat (n:Nat) (v:V) (_:Hp):Prop:=v= .int n
def Rk (K:PySem.W.Frag) (a:Ad):Sp:=λvs H Q E=>∃(r l:Addr) (ns:List Int) (i lo hi:Nat),vs=[.ref r,.int lo,.int hi]/\cJ K a H r l ns i/\i<=ns.length/\bx K a (VapatBase.readNat lo hi) isNat H r l ns i Q E
theorem h9 (T:Tx K mg a d):aA P w K mg base (dJ P w) 1 a.jQ d.jQ ["self","least","most"] (Rk K a):=by
 refine T.Ki.fz FN (λvs H Q E h=>?_) (λcdv A outer s H vs Q E hr h=>?_)
 ·obtain⟨r,l,ns,i,lo,hi,rfl,_⟩:=h;rfl
 ·obtain⟨r,l,ns,i,lo,hi,rfl,⟨⟨dx,hr1⟩,hl,hne⟩,hi1,k⟩:=h;refine⟨_,ah (aO (aX xP (ao (pv 0) rfl) (bh bH (by rfl) T.bC PySem.boot_len (aa (ao (pv 0) rfl) ae)) (aV _))
   (aj (iY T.gk (by rfl) T.gi rfl bF (aa iW ae))) aP)
   (ah (aF (i:=3) FN.nd rfl (Or.inl rfl) (cN eA (ao (pv 0) rfl) (ao (pv 0) rfl) (λ_ _=>rfl)))
   (ah (aO (ye (aX ie (pv 3) (pv 1) (aV _)) (yf (aX nA (pv 3) (pv 2) (aV _)))).pt
    (aj (iY T.gk (by rfl) T.gi rfl bF (aa iW ae))) aP)
   (ah (Pj (pv 0) aR Lq)
   (aj (aq (pv 3)))))),?_⟩
  refine⟨_,rfl,r,a.Reader,dx,_,_,rfl,hr1,T.bR,T.pK,rC,_,rfl,r,a.Reader,dx,_,_,rfl,hr1,T.bR,T.sF,wy,l,_,rfl,.inl hl,_,_,rfl,rfl,_,rfl,?_⟩;have hlen:(ns.map V.int).length=ns.length:=List.length_map _;refine bE (λhge=>?_) (λhlt=>?_)
  ·have hge:ns.length<=i:=by have:=of_decide_eq_true hge;omega
   unfold bx at k;rw[List.drop_eq_nil_of_le hge] at k;exact⟨(by show 1<=sizeLine;decide),k _ (ax.refl _ _)⟩
  ·have hlt:i<ns.length:=by
    have:¬((ns.map V.int).length:Int)<=(i:Int):=λz=>hlt (decide_eq_true z);omega
   have hz:ns.drop i=ns[i]::ns.drop (i+1):=List.drop_eq_getElem_cons hlt;have hget:(ns.map V.int)[i]?=some (.int ns[i]):=by rw[List.getElem?_map,List.getElem?_eq_getElem hlt];rfl
   generalize ns[i]=z at hz hget;unfold bx at k;rw[hz] at k;refine⟨_,rfl,r,a.Reader,dx,_,_,rfl,hr1,T.bR,T.sF,wy,_,rfl,r,a.Reader,dx,_,_,rfl,hr1,T.bR,T.pK,rC,l,_,_,_,rfl,rfl,hl,cK hget,?_⟩;refine⟨_,rfl,_,rfl,_,_,rfl,rfl,_,rfl,bE (λh1=>?_) (λh1=>?_)⟩
   ·have h1:z<lo:=of_decide_eq_true h1;have k:∀H':Hp,ax r H H'->E (.ref a.dX) none H':=by
     have e:VapatBase.readNat lo hi (z::ns.drop (i+1))=none:=if_neg (λq=>absurd q.1 (by show ¬(lo:Int)<=z;omega));rw[e] at k;exact k
    exact fJ ⟨(by show 1<=sizeLine;decide),k _ (ax.refl _ _)⟩
   ·refine⟨_,rfl,_,rfl,_,_,rfl,rfl,_,rfl,bE (λh2=>?_) (λh2=>?_)⟩
    ·have h2:(hi:Int)<z:=of_decide_eq_true h2;have k:∀H':Hp,ax r H H'->E (.ref a.dX) none H':=by
      have e:VapatBase.readNat lo hi (z::ns.drop (i+1))=none:=if_neg (λq=>absurd q.2 (by show ¬z<=(hi:Int);omega));rw[e] at k;exact k
     exact⟨(by show 1<=sizeLine;decide),k _ (ax.refl _ _)⟩
    ·have h1:¬z<lo:=λq=>h1 (decide_eq_true q);have h2:¬(hi:Int)<z:=λq=>h2 (decide_eq_true q);have e:VapatBase.readNat lo hi (z::ns.drop (i+1))=some (z.toNat,ns.drop (i+1)):=if_pos (⟨(by show(lo:Int)<=z;omega),(by show z<=(hi:Int);omega)⟩);rw[e] at k;refine⟨_,rfl,r,a.Reader,dx,_,_,rfl,hr1,T.bR,T.pK,rC,_,_,rfl,rfl,_,_,hr1,(by show 2<1000;decide),_,rfl,?_⟩;rw[K0];refine k _ _ (i+1) ⟨⟨dx,az⟩,?_,hne⟩ rfl hlt ax.upd ?_
     ·exact ax.p5 ax.upd hne hl
     ·show V.int z=V.int (z.toNat:Int);rw[Int.toNat_of_nonneg (by omega)]
def F6 (K:PySem.W.Frag) (a:Ad) (hi:Nat):Sp:=λvs H Q E=>∃(r l:Addr) (ns:List Int) (i:Nat),vs=[.ref r]/\cJ K a H r l ns i/\i<=ns.length/\bx K a (VapatBase.readNat 0 hi) isNat H r l ns i Q E
theorem nv (T:Tx K mg a d):aA P w K mg base (dJ P w) 2 a.jP d.jP ["self"] (F6 K a 9):=by
 refine T.Kh.fz Qu (λvs H Q E h=>?_) (λcdv A outer s H vs Q E hr h=>?_)
 ·obtain⟨r,l,ns,i,rfl,_⟩:=h;rfl
 ·obtain⟨r,l,ns,i,rfl,R,hi1,k⟩:=h;obtain⟨dx,hr1⟩:=R.ins;obtain⟨t,ht⟩:=T.BI;refine⟨_,aj (aq (cI (pv 0) T.bR T.gZ (h9 T) hr T.gM .nil bF.passes (aa aR (aa (aU (v:= .int 9) (by rfl) ht ⟨_,rfl⟩) ae)))),?_⟩;exact⟨_,rfl,r,dx,_,rfl,hr1,gR,r,l,ns,i,0,9,rfl,R,hi1,k⟩
theorem xH (T:Tx K mg a d):aA P w K mg base (dJ P w) 2 a.jR d.jR ["self"] (F6 K a 99):=by
 refine T.Kj.fz Qv (λvs H Q E h=>?_) (λcdv A outer s H vs Q E hr h=>?_)
 ·obtain⟨r,l,ns,i,rfl,_⟩:=h;rfl
 ·obtain⟨r,l,ns,i,rfl,R,hi1,k⟩:=h;obtain⟨dx,hr1⟩:=R.ins;obtain⟨t,ht⟩:=T.IJ;refine⟨_,aj (aq (cI (pv 0) T.bR T.gZ (h9 T) hr T.gM .nil bF.passes (aa aR (aa (aU (v:= .int 99) (by rfl) ht ⟨_,rfl⟩) ae)))),?_⟩;exact⟨_,rfl,r,dx,_,rfl,hr1,gR,r,l,ns,i,0,99,rfl,R,hi1,k⟩
section
variable {A:Type} {rd:VapatBase.Reader A} {x x':List Int} {n i:Nat} {t:A} {ts:List A} {R:Option (List A×List Int)}
theorem FD (h:i<n):VapatBase.readTimes rd (n-i) x=(rd x).bind λu=>(VapatBase.readTimes rd (n-(i+1)) u.2).map λv=>(u.1::v.1,v.2):=by
 have e:n-i=(n-(i+1))+1:=by omega
 rw[e];rfl
theorem tF (h:i<n) (e:rd x=some (t,x')) (q:R=(VapatBase.readTimes rd (n-i) x).map λv=>(ts++v.1,v.2)):R=(VapatBase.readTimes rd (n-(i+1)) x').map λv=>((ts++[t])++v.1,v.2):=by
 rw[q,FD h,e];show((VapatBase.readTimes rd (n-(i+1)) x').map λv=>(t::v.1,v.2)).map (λv=>(ts++v.1,v.2))=_;rw[Option.map_map];congr 1;funext v;simp
theorem pS (h:i<n) (e:rd x=none) (q:R=(VapatBase.readTimes rd (n-i) x).map λv=>(ts++v.1,v.2)):R=none:=by
 rw[q,FD h,e];rfl
theorem yj (q:R=(VapatBase.readTimes rd (n-n) x).map λv=>(ts++v.1,v.2)):R=some (ts,x):=by
 rw[q,Nat.sub_self];show some (ts++[],x)=_;rw[List.append_nil]
theorem yk:VapatBase.readTimes rd n x=(VapatBase.readTimes rd (n-0) x).map λv=>(([]:List A)++v.1,v.2):=by
 simp
theorem FC:∀{n:Nat} {x x':List Int} {ts:List A},VapatBase.readTimes rd n x=some (ts,x')->ts.length=n
 |0,x,x',ts,h=>by cases h;rfl
 |n+1,x,x',ts,h=>by
  have h:((rd x).bind λu=>(VapatBase.readTimes rd n u.2).map λv=>(u.1::v.1,v.2))=some (ts,x'):=h;cases e:rd x with
  |none=>rw[e] at h;cases h
  |some u=>
   rw[e] at h;have h:((VapatBase.readTimes rd n u.2).map λv=>(u.1::v.1,v.2))=some (ts,x'):=h;cases e2:VapatBase.readTimes rd n u.2 with
   |none=>rw[e2] at h;cases h
   |some v=>
    rw[e2] at h;cases h;show v.1.length+1=n+1;rw[FC e2]
end
theorem fg {lo hi n:Nat} {x rest:List Int} (h:VapatBase.readNat lo hi x=some (n,rest)):lo<=n/\n<=hi:=by
 cases x with
 |nil=>cases h
 |cons z r=>
  have h:(if (lo:Int)<=z/\z<=(hi:Int) then some (z.toNat,r) else none)=some (n,rest):=h;by_cases q:(lo:Int)<=z/\z<=(hi:Int)
  ·rw[if_pos q] at h;cases h;omega
  ·rw[if_neg q] at h;cases h
def bA (K:PySem.W.Frag) (H:Hp) (v:V) (ts:List Nat):Prop:=∃p,v= .ref p/\ba K H p (ts.map λ(n:Nat)=>V.int n)
def Rl (K:PySem.W.Frag) (a:Ad):Sp:=λvs H Q E=>∃(r l:Addr) (ns:List Int) (i most:Nat),vs=[.ref r,.int most]/\cJ K a H r l ns i/\i<=ns.length/\most<=1000/\bx K a (VapatBase.readTokens most) (λts v H=>bA K H v ts) H r l ns i Q E
theorem xJ (T:Tx K mg a d):aA P w K mg base (dJ P w) 3 a.jS d.jS ["self","most"] (Rl K a):=by
 refine T.Kk.fz tS (λvs H Q E h=>?_) (λcdv A outer s H vs Q E hr h=>?_)
 ·obtain⟨r,l,ns,i,most,rfl,_⟩:=h;rfl
 ·obtain⟨r,l,ns,i,most,rfl,R,hi1,hm,k⟩:=h;obtain⟨dx,hr1⟩:=R.ins;refine⟨_,ah (aF (i:=2) tS.nd rfl (Or.inl rfl) (cI (pv 0) T.bR T.gZ (h9 T) (hr.mono (by decide)) T.gM .nil bF.passes (aa aR (aa (pv 1) ae))))
   (aj (aq (lH Br (by rfl) T.oK oK (aa (O4 (own:=[("place",3)]) rfl rfl rfl bF tS.nd (pO rfl T.kf (aa (pv 2) ae)) (iC.mk (N:=["self","most","count","place"]) (sc:=ay tI) rfl (by decide+kernel) (by decide+kernel) (by decide+kernel) (by decide+kernel))
    (λ_ _ _ _ _ _ _=>cj (i:=3) tS.nd rfl (Or.inl rfl)) (λ_ _ _ _ _ _ _=>gD)
    (λ_ _ _ _ _ _ hl=>dk (pv 0) T.bR T.wR (xH T) hr T.uV .nil hl.passes)) ae)))),?_⟩
  refine⟨_,rfl,r,dx,_,rfl,hr1,gR,_,rfl,r,l,ns,i,0,most,rfl,R,hi1,?_⟩;unfold bx;cases e:VapatBase.readNat 0 most (ns.drop i) with
  |none=>
   intro H' hS;have e2:VapatBase.readTokens most (ns.drop i)=none:=by
    show(VapatBase.readNat 0 most (ns.drop i)).bind _=none;rw[e];rfl
   unfold bx at k;rw[e2] at k;exact k H' hS
  |some u=>
   obtain⟨n,rest⟩:=u;intro H1 v j R1 hd hj S1 hv;have hv:v= .int n:=hv;subst hv;have hn:=(fg e).2;have e2:VapatBase.readTokens most (ns.drop i)=VapatBase.readTimes (VapatBase.readNat 0 99) n (ns.drop j):=by
    show(VapatBase.readNat 0 most (ns.drop i)).bind _=_;rw[e,hd];rfl
   unfold bx at k;rw[e2] at k;clear e2 e;refine⟨_,rfl,(n:Int),rfl,by omega,by omega,λD hD=>rL (λm H2=>∃(ts:List Nat) (j2:Nat),ts.length=m/\cJ K a H2 r l ns j2/\j2<=ns.length/\ax r H H2/\H2 D=some (.lst (ts.map λ(n:Nat)=>V.int n))/\
    VapatBase.readTimes (VapatBase.readNat 0 99) n (ns.drop j)=(VapatBase.readTimes (VapatBase.readNat 0 99) (n-m) (ns.drop j2)).map λv=>(ts++v.1,v.2)) ?_ ?_ ?_⟩
   ·obtain⟨⟨dx1,h1⟩,l1,ne1⟩:=R1;refine⟨[],j,rfl,⟨⟨dx1,?_⟩,(ax.new hD).p5 ne1 l1,ne1⟩,hj,S1.trans (ax.new hD),az,yk⟩;rw[aT (bq h1 hD)];exact h1
   ·rintro m H2 hm ⟨ts,j2,hts,R2,hj2,S2,hD2,eq⟩;have hm:m<n:=by omega
    obtain⟨dx2,h2⟩:=R2.ins;have nD:D≠r:=bP hD2 h2 (by intro z;cases z);have HD:H D=none:=S1.free nD hD;refine⟨rfl,_,rfl,r,dx2,_,rfl,h2,wu,r,l,ns,j2,rfl,R2,hj2,?_⟩;unfold bx;cases e3:VapatBase.readNat 0 99 (ns.drop j2) with
    |none=>
     intro H' hS;rw[pS hm e3 eq] at k;exact k H' (S2.trans hS)
    |some u=>
     obtain⟨t,rest3⟩:=u;intro H3 v j3 R3 hd3 hj3 S3 hv;have hv:v= .int t:=hv;subst hv;have hD3:=S3 _ _ hD2 nD;obtain⟨⟨dx3,h3⟩,l3,ne3⟩:=R3;refine⟨_,hD3,?_,ts++[t],j3,?_,⟨⟨dx3,?_⟩,?_,ne3⟩,hj3,?_,?_,?_⟩
     ·rw[List.length_map,hts];exact bU (by omega)
     ·rw[List.length_append,hts];rfl
     ·rw[aT (Ne.symm nD)];exact h3
     ·exact((S2.trans S3).write HD).p5 R.ne R.lst
     ·exact(S2.trans S3).write HD
     ·rw[az,List.map_append];rfl
     ·subst hd3;exact tF hm e3 eq
   ·rintro H2 ⟨ts,j2,hts,R2,hj2,S2,hD2,eq⟩;rw[show(n:Int).toNat=n from rfl] at eq;rw[yj eq] at k;obtain⟨dx2,h2⟩:=R2.ins;have nD:D≠r:=bP hD2 h2 (by intro z;cases z);refine⟨D,_,rfl,.inl ⟨ak.of hD2,λq hq=>?_⟩⟩;have nq:q≠r:=Ne.symm (bq h2 hq);have Sq:=S2.write (o:= .tup (ts.map λ(n:Nat)=>V.int n)) (S2.free nq hq);exact k _ (.ref q) j2 ⟨⟨dx2,by rw[aT (Ne.symm nq)];exact h2⟩,Sq.p5 R.ne R.lst,R.ne⟩ rfl hj2 Sq ⟨q,rfl,ba.of az⟩
end PR
namespace PR
open PySem PySem.Spec PyProof.Rows L2
open VapatBase (readNat readPair readTokens readListed readTimes readStep okStep okTokens)
abbrev ai:=VapatBase.Step
theorem bx.step {A B:Type} {rd:VapatBase.Reader A} {rd1:VapatBase.Reader B} {g:B->VapatBase.Reader A} {res:A->V->Hp->Prop} {res1:B->V->Hp->Prop} {H:Hp} {r l:Addr} {ns:List Int} {i:Nat} {Q Q1:VK} {E:XK}
 (k:bx K a rd res H r l ns i Q E) (h:∀x,rd x=(rd1 x).bind λu=>g u.1 u.2)
 (c:∀(x:B) (v:V) (H':Hp) (j:Nat),cJ K a H' r l ns j->j<=ns.length->ax r H H'->res1 x v H'->bx K a (g x) res H' r l ns j Q E->Q1 v H'):bx K a rd1 res1 H r l ns i Q1 E:=by
 unfold bx at k⊢;rw[h] at k;cases e:rd1 (ns.drop i) with
 |none=>rw[e] at k;exact k
 |some u=>
  obtain⟨x,rest⟩:=u;rw[e] at k;intro H' v j R hd hj S hv;refine c x v H' j R hj S hv ?_;unfold bx;rw[hd];have k:match g x rest with
   |some (x,rest)=>∀(H':Hp) (v:V) (j:Nat),cJ K a H' r l ns j->ns.drop j=rest->j<=ns.length->ax r H H'->res x v H'->Q v H'
   |none=>∀H':Hp,ax r H H'->E (.ref a.dX) none H':=k
  cases e2:g x rest with
  |none=>rw[e2] at k;exact λH2 S2=>k H2 (S.trans S2)
  |some u=>rw[e2] at k;exact λH2 v2 j2 R2 d2 l2 S2 q2=>k H2 v2 j2 R2 d2 l2 (S.trans S2) q2
theorem bx.ret {A:Type} {rd:VapatBase.Reader A} {res:A->V->Hp->Prop} {H H':Hp} {r l:Addr} {ns:List Int} {i:Nat} {Q:VK} {E:XK} {x:A} {v:V}
 (k:bx K a rd res H r l ns i Q E) (h:rd (ns.drop i)=some (x,ns.drop i)) (R:cJ K a H' r l ns i) (hi:i<=ns.length) (S:ax r H H') (q:res x v H'):Q v H':=by
 unfold bx at k;rw[h] at k;exact k H' v i R rfl hi S q
theorem bx.fail {A:Type} {rd:VapatBase.Reader A} {res:A->V->Hp->Prop} {H H':Hp} {r l:Addr} {ns:List Int} {i:Nat} {Q:VK} {E:XK}
 (k:bx K a rd res H r l ns i Q E) (h:rd (ns.drop i)=none) (S:ax r H H'):E (.ref a.dX) none H':=by
 unfold bx at k;rw[h] at k;exact k H' S
def bz (K:PySem.W.Frag) (a:Ad) (H:Hp) (v:V):ai->Prop
 | .hunk f p o n=>∃x dx vo vn,v= .ref x/\H x=some (.ins a.aN dx (fm (.int f) (.int p) vo vn))/\bA K H vo o/\bA K H vn n/\o.length<=8/\n.length<=8
 | .swap f p q=>∃x dx,v= .ref x/\H x=some (.ins a.bo dx (gf (.int f) (.int p) (.int q)))
 | .add f=>∃x dx,v= .ref x/\H x=some (.ins a.bZ dx (oZ (.int f)))
 | .remove f=>∃x dx,v= .ref x/\H x=some (.ins a.bX dx (ph (.int f)))
 | .move f g=>∃x dx,v= .ref x/\H x=some (.ins a.Moved dx (iL (.int f) (.int g)))
theorem bA.same {H H':Hp} {v:V} {ts:List Nat} (h:bA K H v ts) (s:af H H'):bA K H' v ts:=by
 obtain⟨p,e,q⟩:=h;refine⟨p,e,?_⟩;rcases q with (q|⟨o,q⟩)|q
 ·exact .inl (.inl (s _ _ q))
 ·exact .inl (.inr ⟨o,s _ _ q⟩)
 ·exact .inr q
theorem bA.x {H H':Hp} {r C dx:Addr} {fs:List (Str×V)} {v:V} {ts:List Nat} (h:bA K H v ts) (s:ax r H H') (hr:H r=some (.ins C dx fs)):bA K H' v ts:=by
 obtain⟨p,e,q⟩:=h;refine⟨p,e,?_⟩;rcases q with (q|⟨o,q⟩)|q
 ·exact .inl (.inl (s _ _ q (bP q hr (by intro z;cases z))))
 ·exact .inl (.inr ⟨o,s _ _ q (bP q hr (by intro z;cases z))⟩)
 ·exact .inr q
theorem bz.same {H H':Hp} {v:V} {p:ai} (h:bz K a H v p) (s:af H H'):bz K a H' v p:=by
 cases p with
 |hunk f p o n=>obtain⟨x,dx,vo,vn,e,q,t1,t2,b⟩:=h;exact⟨x,dx,vo,vn,e,s _ _ q,t1.same s,t2.same s,b⟩
 |swap f p q=>obtain⟨x,dx,e,q⟩:=h;exact⟨x,dx,e,s _ _ q⟩
 |add f=>obtain⟨x,dx,e,q⟩:=h;exact⟨x,dx,e,s _ _ q⟩
 |remove f=>obtain⟨x,dx,e,q⟩:=h;exact⟨x,dx,e,s _ _ q⟩
 |move f g=>obtain⟨x,dx,e,q⟩:=h;exact⟨x,dx,e,s _ _ q⟩
theorem ft {H:Hp} {x y C D dx dy:Addr} {fs gs:List (Str×V)} (h:H x=some (.ins C dx fs)) (h':H y=some (.ins D dy gs)) (n:C≠D):x≠y:=bP h h' (by intro z;cases z;exact n rfl)
structure As (a:Ad):Prop where
 dh:a.aN≠a.Reader
 ds:a.bo≠a.Reader
 da:a.bZ≠a.Reader
 dr:a.bX≠a.Reader
 dm:a.Moved≠a.Reader
 dp:a.Patch≠a.Reader
theorem Tx.dist (T:Tx K mg a d):As a:=by
 have:=T.distinct;simp only[List.nodup_cons,List.mem_cons,List.not_mem_nil,or_false,not_or] at this;exact⟨Ne.symm this.1.1,Ne.symm this.1.2.1,Ne.symm this.1.2.2.1,Ne.symm this.1.2.2.2.1,Ne.symm this.1.2.2.2.2.1,Ne.symm this.1.2.2.2.2.2.1⟩
theorem bz.x {H H':Hp} {r dr:Addr} {fs:List (Str×V)} {v:V} {p:ai} (D:As a) (h:bz K a H v p) (s:ax r H H') (hr:H r=some (.ins a.Reader dr fs)):bz K a H' v p:=by
 cases p with
 |hunk f p o n=>obtain⟨x,dx,vo,vn,e,q,t1,t2,b⟩:=h;exact⟨x,dx,vo,vn,e,s _ _ q (ft q hr D.dh),t1.x s hr,t2.x s hr,b⟩
 |swap f p q=>obtain⟨x,dx,e,q⟩:=h;exact⟨x,dx,e,s _ _ q (ft q hr D.ds)⟩
 |add f=>obtain⟨x,dx,e,q⟩:=h;exact⟨x,dx,e,s _ _ q (ft q hr D.da)⟩
 |remove f=>obtain⟨x,dx,e,q⟩:=h;exact⟨x,dx,e,s _ _ q (ft q hr D.dr)⟩
 |move f g=>obtain⟨x,dx,e,q⟩:=h;exact⟨x,dx,e,s _ _ q (ft q hr D.dm)⟩
def cQ (p:ai):VapatBase.Reader ai:=λx=>if okStep p then some (p,x) else none
def sZ:VapatBase.Reader ai:=λx=>(readNat 0 9 x).bind λf=>(readNat 0 1000 f.2).bind λp=>(readTokens 8 p.2).bind λo=>(readTokens 8 o.2).bind λn=>cQ (.hunk f.1 p.1 o.1 n.1) n.2
def tj:VapatBase.Reader ai:=λx=>(readNat 0 9 x).bind λf=>(readNat 0 99 f.2).bind λp=>(readNat 0 99 p.2).bind λq=>cQ (.swap f.1 p.1 q.1) q.2
def tf:VapatBase.Reader ai:=λx=>(readNat 0 9 x).bind λf=>(readNat 0 9 f.2).bind λg=>cQ (.move f.1 g.1) g.2
theorem PQ (x:List Int):readStep (0::x)=sZ x:=by
 show((readPair (readNat 0 9) (readPair (readNat 0 1000) (readPair (readTokens 8) (readTokens 8))) x).bind λu=>cQ (.hunk u.1.1 u.1.2.1 u.1.2.2.1 u.1.2.2.2) u.2)=_;unfold sZ readPair;cases readNat 0 9 x with
 |none=>rfl
 |some f=>
  simp only[Option.bind_some];cases readNat 0 1000 f.2 with
  |none=>rfl
  |some p=>
   simp only[Option.bind_some];cases readTokens 8 p.2 with
   |none=>rfl
   |some o=>
    simp only[Option.bind_some];cases readTokens 8 o.2 with
    |none=>rfl
    |some n=>rfl
theorem PU (x:List Int):readStep (1::x)=tj x:=by
 show((readPair (readNat 0 9) (readPair (readNat 0 99) (readNat 0 99)) x).bind λu=>cQ (.swap u.1.1 u.1.2.1 u.1.2.2) u.2)=_;unfold tj readPair;cases readNat 0 9 x with
 |none=>rfl
 |some f=>
  simp only[Option.bind_some];cases readNat 0 99 f.2 with
  |none=>rfl
  |some p=>
   simp only[Option.bind_some];cases readNat 0 99 p.2 with
   |none=>rfl
   |some o=>rfl
theorem PV (x:List Int):readStep (4::x)=tf x:=by
 show((readPair (readNat 0 9) (readNat 0 9) x).bind λu=>cQ (.move u.1.1 u.1.2) u.2)=_;unfold tf readPair;cases readNat 0 9 x with
 |none=>rfl
 |some f=>
  simp only[Option.bind_some];cases readNat 0 9 f.2 with
  |none=>rfl
  |some p=>rfl
def uc (K:PySem.W.Frag) (a:Ad) (rd:VapatBase.Reader ai):Sp:=λvs H Q E=>∃(r l:Addr) (ns:List Int) (i:Nat),vs=[.ref r]/\cJ K a H r l ns i/\i<=ns.length/\bx K a rd (λp v H=>bz K a H v p) H r l ns i Q E
end PR
namespace PR
open PySem PySem.Spec PyProof.Rows L2
open VapatBase (readNat readPair readTokens readListed readTimes readStep okStep okTokens)
theorem Gx {n:Nat} {x rest:List Int} {ts:List Nat} (h:readTokens n x=some (ts,rest)):okTokens n ts=true:=by
 have h:((readNat 0 n x).bind λu=>readTimes (readNat 0 99) u.1 u.2)=some (ts,rest):=h;cases e:readNat 0 n x with
 |none=>rw[e] at h;cases h
 |some u=>
  obtain⟨m,r1⟩:=u;rw[e] at h;have h:readTimes (readNat 0 99) m r1=some (ts,rest):=h;have hl:=FC h;have hm:=(fg e).2;have all:∀{m:Nat} {x rest:List Int} {ts:List Nat},readTimes (readNat 0 99) m x=some (ts,rest)->(ts.all λt=>decide (t<VapatBase.TOKENS))=true:=by
   intro m
   induction m with
   |zero=>intro x rest ts h;cases h;rfl
   |succ m ih=>
    intro x rest ts h;have h:((readNat 0 99 x).bind λu=>(readTimes (readNat 0 99) m u.2).map λv=>(u.1::v.1,v.2))=some (ts,rest):=h;cases e:readNat 0 99 x with
    |none=>rw[e] at h;cases h
    |some u=>
     obtain⟨t,r2⟩:=u;rw[e] at h;have h:((readTimes (readNat 0 99) m r2).map λv=>(t::v.1,v.2))=some (ts,rest):=h;cases e2:readTimes (readNat 0 99) m r2 with
     |none=>rw[e2] at h;cases h
     |some v=>
      obtain⟨t2,r3⟩:=v;rw[e2] at h;cases h;show(decide (t<100)&&_)=true;rw[ih e2,Bool.and_true];exact decide_eq_true (by have:=(fg e).2;omega)
  unfold okTokens;rw[all h,Bool.and_true];exact decide_eq_true (by omega)
theorem Gw {n:Nat} {ts:List Nat} (h:okTokens n ts=true):ts.length<=n:=by
 unfold okTokens at h;rw[Bool.and_eq_true] at h;exact of_decide_eq_true h.1
theorem Ek {f p:Nat} {o n:List Nat} (hf:f<=9) (hp:p<=1000) (ho:okTokens 8 o=true) (hn:okTokens 8 n=true):okStep (.hunk f p o n)= !(o.isEmpty&&n.isEmpty):=by
 show(decide (f<10)&&(decide (p<=1000)&&(okTokens 8 o&&(okTokens 8 n&&!(o.isEmpty&&n.isEmpty)))))=_;rw[ho,hn,decide_eq_true (show f<10 by omega),decide_eq_true hp];rfl
theorem bx.gy {A:Type} {rd:VapatBase.Reader A} {res:A->V->Hp->Prop} {kn:A->Prop} {H:Hp} {r l:Addr} {ns:List Int} {i:Nat} {Q:VK} {E:XK}
 (k:bx K a rd (λx v H=>kn x/\res x v H) H r l ns i Q E) (h:∀x rest,rd (ns.drop i)=some (x,rest)->kn x):bx K a rd res H r l ns i Q E:=by
 unfold bx at k⊢;cases e:rd (ns.drop i) with
 |none=>rw[e] at k;exact k
 |some u=>rw[e] at k;exact λH' v j R d l S z=>k H' v j R d l S ⟨h _ _ e,z⟩
theorem cJ.same {H H':Hp} {r l:Addr} {ns:List Int} {i:Nat} (R:cJ K a H r l ns i) (s:af H H'):cJ K a H' r l ns i:=by
 obtain⟨⟨dx,h⟩,hl,ne⟩:=R;exact⟨⟨dx,s _ _ h⟩,s.seq hl,ne⟩
theorem OH (T:Tx K mg a d):aA P w K mg base (dJ P w) 4 a.lP d.lP ["reader"] (uc K a sZ):=by
 refine T.CA.fz pZ (λvs H Q E h=>?_) (λcdv A outer s H vs Q E hr h=>?_)
 ·obtain⟨r,l,ns,i,rfl,_⟩:=h;rfl
 ·obtain⟨r,l,ns,i,rfl,R,hi,k⟩:=h;obtain⟨t1,ht1⟩:=T.IK;obtain⟨t2,ht2⟩:=T.IL;refine⟨_,ah (aF (i:=1) pZ.nd rfl (Or.inl rfl) (dk (pv 0) T.bR T.mZ (nv T) (hr.mono (by decide)) T.mD .nil bF.passes))
   (ah (aF (i:=2) pZ.nd rfl (Or.inl rfl) (cI (pv 0) T.bR T.gZ (h9 T) (hr.mono (by decide)) T.gM .nil bF.passes (aa aR (aa (aU (v:= .int 1000) (by rfl) ht1 ⟨_,rfl⟩) ae))))
   (ah (aF (i:=3) pZ.nd rfl (Or.inl rfl) (cI (pv 0) T.bR T.wU (xJ T) hr T.uW .nil bF.passes (aa (aU (v:= .int 8) (by rfl) ht2 ⟨_,rfl⟩) ae)))
   (ah (aF (i:=4) pZ.nd rfl (Or.inl rfl) (cI (pv 0) T.bR T.wU (xJ T) hr T.uW .nil bF.passes (aa (aU (v:= .int 8) (by rfl) ht2 ⟨_,rfl⟩) ae)))
   (ah (aO (aX cH (bt eO (bh bH (by rfl) T.bC PySem.boot_len (aa (pv 3) ae)) (bh bH (by rfl) T.bC PySem.boot_len (aa (pv 4) ae))) aR (aV _))
    (aj (iY T.gk (by rfl) T.gi rfl bF (aa iW ae))) aP)
   (aj (aq (di T.iR (sI T) (hr.mono (by decide)) (by rfl) T.fK T.qz .nil au (aa (pv 1) (aa (pv 2) (aa (pv 3) (aa (pv 4) ae))))))))))),?_⟩
  obtain⟨dx,h0⟩:=R.ins;refine⟨_,rfl,r,dx,_,rfl,h0,mQ,r,l,ns,i,rfl,R,hi,bx.gy (kn:=λf=>f<=9) (k.step (g:=λf x=>(readNat 0 1000 x).bind λp=>(readTokens 8 p.2).bind λo=>(readTokens 8 o.2).bind λn=>cQ (.hunk f p.1 o.1 n.1) n.2) (λ_=>rfl) ?_) λ_ _ e=>(fg e).2⟩;rintro f v H1 j1 R1 hj1 S1 ⟨hf,hv⟩ k1;have hv:v= .int f:=hv;subst hv;obtain⟨dx1,h1⟩:=R1.ins;refine⟨_,rfl,r,dx1,_,rfl,h1,gR,r,l,ns,j1,0,1000,rfl,R1,hj1,bx.gy (kn:=λf=>f<=1000) (k1.step (g:=λp x=>(readTokens 8 x).bind λo=>(readTokens 8 o.2).bind λn=>cQ (.hunk f p o.1 n.1) n.2) (λ_=>rfl) ?_) λ_ _ e=>(fg e).2⟩;rintro p v H2 j2 R2 hj2 S2 ⟨hp,hv⟩ k2;have hv:v= .int p:=hv;subst hv;obtain⟨dx2,h2⟩:=R2.ins;refine⟨_,rfl,r,dx2,_,rfl,h2,wx,r,l,ns,j2,8,rfl,R2,hj2,by decide,bx.gy (kn:=λo=>okTokens 8 o=true) (k2.step (g:=λo x=>(readTokens 8 x).bind λn=>cQ (.hunk f p o n.1) n.2) (λ_=>rfl) ?_) λ_ _ e=>Gx e⟩;rintro o vo H3 j3 R3 hj3 S3 ⟨ho,to⟩ k3;obtain⟨dx3,h3⟩:=R3.ins;refine⟨_,rfl,r,dx3,_,rfl,h3,wx,r,l,ns,j3,8,rfl,R3,hj3,by decide,bx.gy (kn:=λo=>okTokens 8 o=true) (k3.step (g:=λn=>cQ (.hunk f p o n)) (λ_=>rfl) ?_) λ_ _ e=>Gx e⟩;rintro n vn H4 j4 R4 hj4 S4 ⟨hn,tn⟩ k4;have to4:=to.x S4 h3;obtain⟨po,rfl,qo⟩:=id to4;obtain⟨pn,rfl,qn⟩:=id tn;refine⟨_,rfl,po,_,rfl,.inr qo,_,rfl,pn,_,rfl,.inr qn,_,_,rfl,rfl,rfl,_,rfl,bE (λhz=>?_) (λhz=>?_)⟩
  ·have hz:(((o.map λ(n:Nat)=>V.int n).length:Int)+((n.map λ(n:Nat)=>V.int n).length:Int))=0:=V.int.inj (of_decide_eq_true hz);rw[List.length_map,List.length_map] at hz;have e1:o=[]:=List.eq_nil_of_length_eq_zero (by omega);have e2:n=[]:=List.eq_nil_of_length_eq_zero (by omega);refine⟨(by show 1<=sizeLine;decide),k4.fail ?_ (ax.refl _ _)⟩;unfold cQ;rw[Ek hf hp ho hn,e1,e2];rfl
  ·have hz:¬(((o.map λ(n:Nat)=>V.int n).length:Int)+((n.map λ(n:Nat)=>V.int n).length:Int))=0:=λe=>hz (decide_eq_true (congrArg V.int e));rw[List.length_map,List.length_map] at hz;have e0:cQ (.hunk f p o n) (ns.drop j4)=some (.hunk f p o n,ns.drop j4):=by
    unfold cQ;rw[Ek hf hp ho hn,if_pos];cases o with
    |nil=>
     cases n with
     |nil=>exact absurd rfl hz
     |cons _ _=>rfl
    |cons _ _=>rfl
   refine⟨_,rfl,_,rfl,_,rfl,_,rfl,?_⟩;intro x dx nx nd ne;refine⟨x,dx,_,_,_,_,rfl,az,rfl,?_⟩;have sm:=eK (o1:= .own x) (o2:= .ins a.aN dx []) (o3:= .ins a.aN dx (fm (.int f) (.int p) (.ref po) (.ref pn))) nx nd;exact k4.ret e0 (R4.same sm) hj4 (af.x sm) ⟨x,dx,_,_,rfl,az,to4.same sm,tn.same sm,Gw ho,Gw hn⟩
end PR
namespace PR
open PySem PySem.Spec PyProof.Rows L2
open VapatBase (readNat readPair readTokens readListed readTimes readStep okStep okTokens whole)
theorem Eo {f p q:Nat} (hf:f<=9) (hp:p<=99) (hq:q<=99):okStep (.swap f p q)=(p !=q):=by
 show(decide (f<10)&&(decide (p<100)&&(decide (q<100)&&p !=q)))=_;rw[decide_eq_true (show f<10 by omega),decide_eq_true (show p<100 by omega),decide_eq_true (show q<100 by omega)];rfl
theorem El {f g:Nat} (hf:f<=9) (hg:g<=9):okStep (.move f g)=(f !=g):=by
 show(decide (f<10)&&(decide (g<10)&&f !=g))=_;rw[decide_eq_true (show f<10 by omega),decide_eq_true (show g<10 by omega)];rfl
theorem OK (T:Tx K mg a d):aA P w K mg base (dJ P w) 3 a.lT d.lT ["reader"] (uc K a tj):=by
 refine T.CD.fz tX (λvs H Q E h=>?_) (λcdv A outer s H vs Q E hr h=>?_)
 ·obtain⟨r,l,ns,i,rfl,_⟩:=h;rfl
 ·obtain⟨r,l,ns,i,rfl,R,hi,k⟩:=h;refine⟨_,ah (aF (i:=1) tX.nd rfl (Or.inl rfl) (dk (pv 0) T.bR T.mZ (nv T) hr T.mD .nil bF.passes))
   (ah (aF (i:=2) tX.nd rfl (Or.inl rfl) (dk (pv 0) T.bR T.wR (xH T) hr T.uV .nil bF.passes))
   (ah (aF (i:=3) tX.nd rfl (Or.inl rfl) (dk (pv 0) T.bR T.wR (xH T) hr T.uV .nil bF.passes))
   (ah (aO (aX cH (pv 2) (pv 3) (aV _)) (aj (iY T.gk (by rfl) T.gi rfl bF (aa iW ae))) aP)
   (aj (aq (di T.sh (Er T) hr (by rfl) T.iQ T.AS .nil au (aa (pv 1) (aa (pv 2) (aa (pv 3) ae))))))))),?_⟩
  obtain⟨dx,h0⟩:=R.ins;refine⟨_,rfl,r,dx,_,rfl,h0,mQ,r,l,ns,i,rfl,R,hi,bx.gy (kn:=λf=>f<=9) (k.step (g:=λf x=>(readNat 0 99 x).bind λp=>(readNat 0 99 p.2).bind λq=>cQ (.swap f p.1 q.1) q.2) (λ_=>rfl) ?_) λ_ _ e=>(fg e).2⟩;rintro f v H1 j1 R1 hj1 S1 ⟨hf,hv⟩ k1;have hv:v= .int f:=hv;subst hv;obtain⟨dx1,h1⟩:=R1.ins;refine⟨_,rfl,r,dx1,_,rfl,h1,wu,r,l,ns,j1,rfl,R1,hj1,bx.gy (kn:=λf=>f<=99) (k1.step (g:=λp x=>(readNat 0 99 x).bind λq=>cQ (.swap f p q.1) q.2) (λ_=>rfl) ?_) λ_ _ e=>(fg e).2⟩;rintro p v H2 j2 R2 hj2 S2 ⟨hp,hv⟩ k2;have hv:v= .int p:=hv;subst hv;obtain⟨dx2,h2⟩:=R2.ins;refine⟨_,rfl,r,dx2,_,rfl,h2,wu,r,l,ns,j2,rfl,R2,hj2,bx.gy (kn:=λf=>f<=99) (k2.step (g:=λq=>cQ (.swap f p q)) (λ_=>rfl) ?_) λ_ _ e=>(fg e).2⟩;rintro q v H3 j3 R3 hj3 S3 ⟨hq,hv⟩ k3;have hv:v= .int q:=hv;subst hv;refine⟨_,rfl,_,rfl,rfl,_,rfl,bE (λhz=>?_) (λhz=>?_)⟩
  ·have hz:(p:Int)=q:=V.int.inj (of_decide_eq_true hz);have hz:p=q:=by omega
   refine⟨(by show 1<=sizeLine;decide),k3.fail ?_ (ax.refl _ _)⟩;unfold cQ;rw[Eo hf hp hq,hz,if_neg (by simp)]
  ·have hz:¬p=q:=λe=>hz (decide_eq_true (by rw[e]));have e0:cQ (.swap f p q) (ns.drop j3)=some (.swap f p q,ns.drop j3):=by
    unfold cQ;rw[Eo hf hp hq,if_pos (by simpa using hz)]
   refine⟨_,rfl,_,rfl,_,rfl,?_⟩;intro x dx nx nd ne;refine⟨x,dx,_,_,_,rfl,az,rfl,?_⟩;have sm:=eK (o1:= .own x) (o2:= .ins a.bo dx []) (o3:= .ins a.bo dx (gf (.int f) (.int p) (.int q))) nx nd;exact k3.ret e0 (R3.same sm) hj3 (af.x sm) ⟨x,dx,rfl,az⟩
theorem OI (T:Tx K mg a d):aA P w K mg base (dJ P w) 3 a.lQ d.lQ ["reader"] (uc K a tf):=by
 refine T.CB.fz zV (λvs H Q E h=>?_) (λcdv A outer s H vs Q E hr h=>?_)
 ·obtain⟨r,l,ns,i,rfl,_⟩:=h;rfl
 ·obtain⟨r,l,ns,i,rfl,R,hi,k⟩:=h;refine⟨_,ah (aF (i:=1) zV.nd rfl (Or.inl rfl) (dk (pv 0) T.bR T.mZ (nv T) hr T.mD .nil bF.passes))
   (ah (aF (i:=2) zV.nd rfl (Or.inl rfl) (dk (pv 0) T.bR T.mZ (nv T) hr T.mD .nil bF.passes))
   (ah (aO (aX cH (pv 1) (pv 2) (aV _)) (aj (iY T.gk (by rfl) T.gi rfl bF (aa iW ae))) aP)
   (aj (aq (di T.Nt (Oe T) hr (by rfl) T.rT T.Hr .nil au (aa (pv 1) (aa (pv 2) ae))))))),?_⟩
  obtain⟨dx,h0⟩:=R.ins;refine⟨_,rfl,r,dx,_,rfl,h0,mQ,r,l,ns,i,rfl,R,hi,bx.gy (kn:=λf=>f<=9) (k.step (g:=λf x=>(readNat 0 9 x).bind λq=>cQ (.move f q.1) q.2) (λ_=>rfl) ?_) λ_ _ e=>(fg e).2⟩;rintro f v H1 j1 R1 hj1 S1 ⟨hf,hv⟩ k1;have hv:v= .int f:=hv;subst hv;obtain⟨dx1,h1⟩:=R1.ins;refine⟨_,rfl,r,dx1,_,rfl,h1,mQ,r,l,ns,j1,rfl,R1,hj1,bx.gy (kn:=λf=>f<=9) (k1.step (g:=λq=>cQ (.move f q)) (λ_=>rfl) ?_) λ_ _ e=>(fg e).2⟩;rintro q v H3 j3 R3 hj3 S3 ⟨hq,hv⟩ k3;have hv:v= .int q:=hv;subst hv;refine⟨_,rfl,_,rfl,rfl,_,rfl,bE (λhz=>?_) (λhz=>?_)⟩
  ·have hz:(f:Int)=q:=V.int.inj (of_decide_eq_true hz);have hz:f=q:=by omega
   refine⟨(by show 1<=sizeLine;decide),k3.fail ?_ (ax.refl _ _)⟩;unfold cQ;rw[El hf hq,hz,if_neg (by simp)]
  ·have hz:¬f=q:=λe=>hz (decide_eq_true (by rw[e]));have e0:cQ (.move f q) (ns.drop j3)=some (.move f q,ns.drop j3):=by
    unfold cQ;rw[El hf hq,if_pos (by simpa using hz)]
   refine⟨_,rfl,_,rfl,?_⟩;intro x dx nx nd ne;refine⟨x,dx,_,_,rfl,az,rfl,?_⟩;have sm:=eK (o1:= .own x) (o2:= .ins a.Moved dx []) (o3:= .ins a.Moved dx (iL (.int f) (.int q))) nx nd;exact k3.ret e0 (R3.same sm) hj3 (af.x sm) ⟨x,dx,rfl,az⟩
def Fu (k:Nat):VapatBase.Reader ai:=λx=>if k=0 then sZ x else if k=1 then tj x else if k=2 then (readNat 0 9 x).map (λu=>(.add u.1,u.2)) else if k=3 then (readNat 0 9 x).map (λu=>(.remove u.1,u.2)) else tf x
theorem PX (x:List Int):readStep x=(readNat 0 4 x).bind λu=>Fu u.1 u.2:=by
 cases x with
 |nil=>rfl
 |cons z r=>
  by_cases h:(0:Int)<=z/\z<=4
  ·have e:readNat 0 4 (z::r)=some (z.toNat,r):=if_pos h;rw[e];have:z=0\/z=1\/z=2\/z=3\/z=4:=by omega
   rcases this with rfl|rfl|rfl|rfl|rfl
   ·exact PQ r
   ·exact PU r
   ·rfl
   ·rfl
   ·exact PV r
  ·have e:readNat 0 4 (z::r)=none:=if_neg h;rw[e];show readStep (z::r)=none;unfold readStep
   split
   ·rename_i q;cases q;exact absurd ⟨by decide,by decide⟩ h
   ·rename_i q;cases q;exact absurd ⟨by decide,by decide⟩ h
   ·rename_i q;cases q;exact absurd ⟨by decide,by decide⟩ h
   ·rename_i q;cases q;exact absurd ⟨by decide,by decide⟩ h
   ·rename_i q;cases q;exact absurd ⟨by decide,by decide⟩ h
   ·rfl
theorem EH (T:Tx K mg a d):aA P w K mg base (dJ P w) 5 a.lS d.lS ["reader"] (uc K a readStep):=by
 refine T.wb.fz FU (λvs H Q E h=>?_) (λcdv A outer s H vs Q E hr h=>?_)
 ·obtain⟨r,l,ns,i,rfl,_⟩:=h;rfl
 ·obtain⟨r,l,ns,i,rfl,R,hi,k⟩:=h;obtain⟨t0,ht0⟩:=T.BG;obtain⟨t1,ht1⟩:=T.BR;obtain⟨t2,ht2⟩:=T.BE;obtain⟨t3,ht3⟩:=T.BQ;obtain⟨t4,ht4⟩:=T.BL;refine⟨_,ah (aF (i:=1) FU.nd rfl (Or.inl rfl) (cI (pv 0) T.bR T.gZ (h9 T) (hr.mono (by decide)) T.gM .nil bF.passes (aa (aU (v:= .int 0) (by rfl) ht0 ⟨_,rfl⟩) (aa (aU (v:= .int 4) (by rfl) ht4 ⟨_,rfl⟩) ae))))
   (ah (aO (aX cH (pv 1) (aU (v:= .int 0) (by rfl) ht0 ⟨_,rfl⟩) (aV _)) (aj (aq (aB (OH T) hr (by rfl) T.Nb T.CA.kp T.HQ .nil bF.passes (aa (pv 0) ae)))) aP)
   (ah (aO (aX cH (pv 1) (aU (v:= .int 1) (by rfl) ht1 ⟨_,rfl⟩) (aV _)) (aj (aq (aB (OK T) (hr.mono (by decide)) (by rfl) T.Nf T.CD.kp T.HU .nil bF.passes (aa (pv 0) ae)))) aP)
   (ah (aO (aX cH (pv 1) (aU (v:= .int 2) (by rfl) ht2 ⟨_,rfl⟩) (aV _)) (aj (aq (di T.Nq (NW T) (hr.mono (by decide)) (by rfl) T.rS T.G8 .nil au (aa (dk (pv 0) T.bR T.mZ (nv T) (hr.mono (by decide)) T.mD .nil bF.passes) ae)))) aP)
   (ah (aO (aX cH (pv 1) (aU (v:= .int 3) (by rfl) ht3 ⟨_,rfl⟩) (aV _)) (aj (aq (di T.Nu (Oh T) (hr.mono (by decide)) (by rfl) T.rW T.Hu .nil au (aa (dk (pv 0) T.bR T.mZ (nv T) (hr.mono (by decide)) T.mD .nil bF.passes) ae)))) aP)
   (aj (aq (aB (OI T) (hr.mono (by decide)) (by rfl) T.Nc T.CB.kp T.HR .nil bF.passes (aa (pv 0) ae)))))))),?_⟩
  obtain⟨dx,h0⟩:=R.ins;refine⟨_,rfl,r,dx,_,rfl,h0,gR,r,l,ns,i,0,4,rfl,R,hi,bx.gy (kn:=λf=>f<=4) (k.step (g:=Fu) PX ?_) λ_ _ e=>(fg e).2⟩;rintro f v H1 j R1 hj S1 ⟨hf,hv⟩ k1;have hv:v= .int f:=hv;subst hv;obtain⟨dx1,h1⟩:=R1.ins;refine⟨_,rfl,rfl,_,rfl,bE (λhz=>?_) (λhz0=>?_)⟩
  ·have hz:(f:Int)=0:=V.int.inj (of_decide_eq_true hz);have hz:f=0:=by omega
   subst hz;exact⟨_,rfl,r,l,ns,j,rfl,R1,hj,k1⟩
  have hz0:¬f=0:=λe=>hz0 (decide_eq_true (by rw[e];rfl));refine⟨_,rfl,rfl,_,rfl,bE (λhz=>?_) (λhz1=>?_)⟩
  ·have hz:(f:Int)=1:=V.int.inj (of_decide_eq_true hz);have hz:f=1:=by omega
   subst hz;exact⟨_,rfl,r,l,ns,j,rfl,R1,hj,k1⟩
  have hz1:¬f=1:=λe=>hz1 (decide_eq_true (by rw[e];rfl));refine⟨_,rfl,rfl,_,rfl,bE (λhz=>?_) (λhz2=>?_)⟩
  ·have hz:(f:Int)=2:=V.int.inj (of_decide_eq_true hz);have hz:f=2:=by omega
   subst hz;refine⟨_,rfl,r,dx1,_,rfl,h1,mQ,r,l,ns,j,rfl,R1,hj,k1.step (g:=λu x=>some (.add u,x)) (λx=>by show(readNat 0 9 x).map _=_;cases readNat 0 9 x<;>rfl) ?_⟩;rintro g v H2 j2 R2 hj2 S2 hv k2;have hv:v= .int g:=hv;subst hv;intro x dx nx nd ne;refine⟨x,dx,_,rfl,az,rfl,?_⟩;have sm:=eK (o1:= .own x) (o2:= .ins a.bZ dx []) (o3:= .ins a.bZ dx (oZ (.int g))) nx nd;exact k2.ret rfl (R2.same sm) hj2 (af.x sm) ⟨x,dx,rfl,az⟩
  have hz2:¬f=2:=λe=>hz2 (decide_eq_true (by rw[e];rfl));refine⟨_,rfl,rfl,_,rfl,bE (λhz=>?_) (λhz3=>?_)⟩
  ·have hz:(f:Int)=3:=V.int.inj (of_decide_eq_true hz);have hz:f=3:=by omega
   subst hz;refine⟨_,rfl,r,dx1,_,rfl,h1,mQ,r,l,ns,j,rfl,R1,hj,k1.step (g:=λu x=>some (.remove u,x)) (λx=>by show(readNat 0 9 x).map _=_;cases readNat 0 9 x<;>rfl) ?_⟩;rintro g v H2 j2 R2 hj2 S2 hv k2;have hv:v= .int g:=hv;subst hv;intro x dx nx nd ne;refine⟨x,dx,_,rfl,az,rfl,?_⟩;have sm:=eK (o1:= .own x) (o2:= .ins a.bX dx []) (o3:= .ins a.bX dx (ph (.int g))) nx nd;exact k2.ret rfl (R2.same sm) hj2 (af.x sm) ⟨x,dx,rfl,az⟩
  have hz3:¬f=3:=λe=>hz3 (decide_eq_true (by rw[e];rfl));have e4:f=4:=by omega
  subst e4;exact⟨_,rfl,r,l,ns,j,rfl,R1,hj,k1⟩
end PR
namespace PR
open PySem PySem.Spec PyProof.Rows L2
open VapatBase (readNat readPair readTokens readListed readTimes readStep okStep okTokens whole swapToken swapAll flatStep)
theorem cF:bootBuiltins "isinstance"=some (.builtin "isinstance"):=by decide+kernel
theorem ke:bootBuiltins "list"=some (.type "list"):=by decide+kernel
section
variable {X:Cx}
theorem Bp:cR X (.builtin "isinstance") (λxs H Q=>∃(x:V) (c:Addr) (t:Value) (b:Bool),xs=[x,.ref c]/\cX X.K H x t/\PySem.W.kitOne X.K t (.ref c)=some b/\Q (.bl b) H):=by
 intro pins s σ H xs us Q I r h;obtain⟨x,c,t,b,rfl,ty,e,q⟩:=h;cases r with
 |cons r1 r2=>
  cases r2 with
  |cons r2 r3=>
   cases r3;cases r2;exact L7 I r1 ty e λtk=>⟨.bl b,H,I.tok tk,rfl,q⟩
end
def Rj (K:PySem.W.Frag) (a:Ad):Sp:=λvs H Q E=>∃(r l:Addr) (ns:List Int) (i:Nat),vs=[.ref r]/\cJ K a H r l ns i/\(i<ns.length->E (.ref a.dX) none H)/\(¬i<ns.length->Q .aI H)
theorem xG (T:Tx K mg a d):aA P w K mg base (dJ P w) 1 a.jO d.jO ["self"] (Rj K a):=by
 refine T.Kg.fz Qt (λvs H Q E h=>?_) (λcdv A outer s H vs Q E hr h=>?_)
 ·obtain⟨r,l,ns,i,rfl,_⟩:=h;rfl
 ·obtain⟨r,l,ns,i,rfl,⟨⟨dx,h0⟩,hl,hne⟩,k1,k2⟩:=h;refine⟨_,aj (aO (aX ie (ao (pv 0) rfl) (bh bH (by rfl) T.bC PySem.boot_len (aa (ao (pv 0) rfl) ae)) (aV _))
   (aj (iY T.gk (by rfl) T.gi rfl bF (aa iW ae))) aP),?_⟩
  refine⟨_,rfl,r,a.Reader,dx,_,_,rfl,h0,T.bR,T.pK,rC,_,rfl,r,a.Reader,dx,_,_,rfl,h0,T.bR,T.sF,wy,l,_,rfl,.inl hl,_,_,rfl,rfl,_,rfl,bE (λhz=>?_) (λhz=>?_)⟩
  ·have hz:(i:Int)<((ns.map V.int).length:Int):=of_decide_eq_true hz;rw[List.length_map] at hz;exact⟨(by show 1<=sizeLine;decide),k1 (by omega)⟩
  ·have hz:¬(i:Int)<((ns.map V.int).length:Int):=λe=>hz (decide_eq_true e);rw[List.length_map] at hz;exact k2 (by omega)
def Gg {A:Type} (a:Ad) (rd:List Int->Option A) (res:A->V->Hp->Prop):Sp:=λvs H Q E=>∃(l:Addr) (ns:List Int),vs=[.ref l]/\H l=some (.lst (ns.map V.int))/\
 match rd ns with
 |some x=>∀(H':Hp) (v:V),af H H'->res x v H'->Q v H'
 |none=>∀H':Hp,af H H'->E (.ref a.dX) none H'
theorem af.bY {r:Addr} {H H1 H2:Hp} (s:af H H1) (S:ax r H1 H2) (h:H r=none):af H H2:=λb o e=>S b o (s b o e) (bq e h)
theorem OM (T:Tx K mg a d):aA P w K mg base (dJ P w) 6 a.md d.md ["numbers"] (Gg a (whole readStep) λp v H=>bz K a H v p):=by
 refine T.CG.fz zX (λvs H Q E h=>?_) (λcdv A outer s H vs Q E hr h=>?_)
 ·obtain⟨l,ns,rfl,_⟩:=h;rfl
 ·obtain⟨l,ns,rfl,hl,k⟩:=h;refine⟨_,ah (aF (i:=1) zX.nd rfl (Or.inl rfl) (di T.xc (xF T) (hr.mono (by decide)) (by rfl) T.wW T.uT .nil au (aa (pv 0) ae)))
   (ah (aF (i:=2) zX.nd rfl (Or.inl rfl) (aB (EH T) hr (by rfl) T.DV T.wb.kp T.A9 .nil bF.passes (aa (pv 1) ae)))
   (ah (dH (dk (pv 1) T.bR T.wQ (xG T) (hr.mono (by decide)) T.uU .nil bF.passes))
   (aj (aq (pv 2))))),?_⟩
  refine⟨_,rfl,?_⟩;intro r dx nr nd ne;refine⟨r,dx,_,rfl,az,rfl,?_⟩;have sm:=eK (o1:= .own r) (o2:= .ins a.Reader dx []) (o3:= .ins a.Reader dx (cw (.ref l) (.int 0))) nr nd;have R:cJ K a (upd (upd (upd H dx (.own r)) r (.ins a.Reader dx [])) r (.ins a.Reader dx (cw (.ref l) (.int 0)))) r l ns 0:=⟨⟨dx,az⟩,ak.of (sm _ _ hl),bq hl nr⟩
  refine⟨_,rfl,r,l,ns,0,rfl,R,Nat.zero_le _,?_⟩;unfold bx;rw[List.drop_zero];unfold whole at k;cases e:readStep ns with
  |none=>rw[e] at k;exact λH' S=>k H' (af.bY sm S nr)
  |some u=>
   obtain⟨p,rest⟩:=u;rw[e] at k;intro H1 v j R1 hd hj S1 hv;have s1:=af.bY sm S1 nr;obtain⟨dx1,h1⟩:=R1.ins;refine⟨_,rfl,r,dx1,_,rfl,h1,wt,r,l,ns,j,rfl,R1,λhlt=>?_,λhlt=>?_⟩
   ·cases rest with
    |nil=>exact absurd (List.drop_eq_nil_iff.mp hd) (by omega)
    |cons z r'=>exact k H1 s1
   ·have hr:rest=[]:=by rw[<-hd];exact List.drop_eq_nil_of_le (by omega)
    subst hr;exact⟨_,rfl,k H1 v s1 hv⟩
theorem take_snoc {α:Type}:∀{l:List α} {i:Nat} {x:α},l[i]?=some x->l.take (i+1)=l.take i++[x]
 |[],i,x,h=>by simp at h
 |a::l,0,x,h=>by
  have e:a=x:=Option.some.inj h;subst e;rfl
 |a::l,i+1,x,h=>by
  have ih:=take_snoc (l:=l) (i:=i) (x:=x) h;show a::l.take (i+1)=a::l.take i++[x]
  rw[ih];rfl
def RZ (K:PySem.W.Frag) (a:Ad):Sp:=λvs H Q _=>∃(v v2:V) (ts:List Nat) (f x y:Nat),vs=[v,v2]/\bA K H v ts/\ts.length<=1000/\bz K a H v2 (.swap f x y)/\
 ∀(H':Hp) (v':V),af H H'->bA K H' v' (swapAll x y ts)->Q v' H'
theorem Sj {x y t:Nat}:(bL (fu [] [(Sum.inl (x:Int),V.int y),(Sum.inl (y:Int),V.int x)]) (Sum.inl (t:Int))).getD (V.int t)=V.int (swapToken x y t:Nat):=by
 show(bL (putK (putK [] (Sum.inl (x:Int)) (V.int y)) (Sum.inl (y:Int)) (V.int x)) (Sum.inl (t:Int))).getD (V.int t)=_;rw[uj,uj,Tt];unfold swapToken;by_cases h1:t=x
 ·subst h1;rw[if_pos (rfl:t=t)];by_cases h2:(Sum.inl (t:Int):Key)=Sum.inl (y:Int)
  ·rw[if_pos h2];have:(t:Int)=y:=Sum.inl.inj h2;show V.int t=V.int y;rw[this]
  ·rw[if_neg h2,if_pos rfl];rfl
 ·have n1:¬(Sum.inl (t:Int):Key)=Sum.inl (x:Int):=λe=>h1 (by have:(t:Int)=x:=Sum.inl.inj e;omega);rw[if_neg h1];by_cases h2:t=y
  ·subst h2;rw[if_pos rfl,if_pos rfl];rfl
  ·have n2:¬(Sum.inl (t:Int):Key)=Sum.inl (y:Int):=λe=>h2 (by have:(t:Int)=y:=Sum.inl.inj e;omega);rw[if_neg n2,if_neg n1,if_neg h2];rfl
theorem xO (T:Tx K mg a d):aA P w K mg base aL 1 a.mj d.mj ["tokens","swap"] (RZ K a):=by
 refine T.rm.ok tY (λvs H Q E h=>?_) (λcdv A outer s H vs Q E hr h=>?_)
 ·obtain⟨v,v2,ts,f,x,y,rfl,_⟩:=h;rfl
 ·obtain⟨v,v2,ts,f,x,y,rfl,⟨p,rfl,hp⟩,hlen,⟨q,dq,rfl,hq⟩,k⟩:=h;have hu:=iN hr;refine⟨_,ah (aF (i:=2) tY.nd rfl (Or.inr rfl) (E3 (x6 (ao (pv 1) rfl) (ao (pv 1) rfl) (x6 (ao (pv 1) rfl) (ao (pv 1) rfl) Fl)) rfl rfl (by intro z;cases z) (by decide)))
   (aj (aq (lH Br (by rfl) T.oK oK (aa (fB (own:=[("token",3)]) rfl tY.nd (E9 (pv 0)) (eG (N:=["tokens","swap","other","token"]) (sc:=ay tQ) (by decide+kernel))
    (λ_ _ _ _ _=>cj (i:=3) tY.nd rfl (Or.inl rfl)) (λ_ _ _ _ _=>gD)
    (λ_ _ _ _ _=>O1 hu (pv 2) (pv 3) (pv 3) ⟨rfl,rfl,rfl,rfl⟩)) ae)))),?_⟩
  intro dd hd;have hq1:(upd H dd (.dK [])) q=some (.ins a.bo dq (gf (.int f) (.int x) (.int y))):=by rw[aT (bq hq hd)];exact hq
  refine⟨_,rfl,q,a.bo,dq,_,_,rfl,hq1,T.cY,T.lz,mR,_,rfl,q,a.bo,dq,_,_,rfl,hq1,T.cY,T.lA,mS,
   _,rfl,q,a.bo,dq,_,_,rfl,hq1,T.cY,T.lA,mS,_,rfl,q,a.bo,dq,_,_,rfl,hq1,T.cY,T.lz,mR,az,
   [(Sum.inl (x:Int),V.int y),(Sum.inl (y:Int),V.int x)],rfl,(by show 2<=15;decide),?_⟩
  rw[eF];have s1:af H (upd H dd (.dK (fu [] [(Sum.inl (x:Int),V.int y),(Sum.inl (y:Int),V.int x)]))):=af.new hd;have tp:bA K (upd H dd (.dK (fu [] [(Sum.inl (x:Int),V.int y),(Sum.inl (y:Int),V.int x)]))) (.ref p) ts:=bA.same ⟨p,rfl,hp⟩ s1;generalize hH1:upd H dd (.dK (fu [] [(Sum.inl (x:Int),V.int y),(Sum.inl (y:Int),V.int x)]))=H1 at s1 tp⊢;have hdd:H1 dd=some (.dK (fu [] [(Sum.inl (x:Int),V.int y),(Sum.inl (y:Int),V.int x)])):=by rw[<-hH1];exact az
  obtain⟨p',ep,hp1⟩:=tp;cases ep;refine⟨_,rfl,p,rfl,⟨_,hp1⟩,λD hD=>Dy (K:=K) (a:=p) (xs:=ts.map λ(n:Nat)=>V.int n) (λm H2=>af H1 H2/\H2 D=some (.lst ((swapAll x y (ts.take m)).map λ(n:Nat)=>V.int n))) ?_ ?_ ?_ ?_⟩
  ·exact⟨af.new hD,az⟩
  ·rintro m H2 _ ⟨s2,_⟩;obtain⟨_,e,h⟩:=bA.same (ts:=ts) ⟨p,rfl,hp1⟩ s2;cases e;exact h
  ·rintro m z H2 hz ⟨s2,hD2⟩;obtain⟨t,ht,rfl⟩:∃t,ts[m]?=some t/\z=V.int (t:Nat):=by
    rw[List.getElem?_map] at hz;cases e:ts[m]? with
    |none=>rw[e] at hz;cases hz
    |some t=>rw[e] at hz;exact⟨t,rfl,(Option.some.inj hz).symm⟩
   refine⟨rfl,_,rfl,dd,rfl,.inl ⟨_,.inl (s2 _ _ hdd)⟩,_,rfl,_,rfl,_,cA.k (k:=Sum.inl (t:Int)) (s2 _ _ hdd),_,hD2,?_,?_⟩
   ·rw[List.length_map];unfold swapAll;rw[List.length_map,List.length_take];exact bU (by omega)
   ·have hDn:H1 D=none:=hD;refine⟨λb o e=>by rw[aT (bq e hDn)];exact s2 b o e,?_⟩;rw[az,Sj,take_snoc ht];unfold swapAll;rw[List.map_append,List.map_append];rfl
  ·rintro H2 ⟨s2,hD2⟩;rw[List.length_map,List.take_length] at hD2;refine⟨D,_,rfl,.inl ⟨ak.of hD2,λq hq=>?_⟩⟩;exact k _ (.ref q) ((s1.trans s2).trans (af.new hq)) ⟨q,rfl,ba.of az⟩
end PR
namespace PR
open PySem PySem.Spec PyProof.Rows L2
open VapatBase (readNat readPair readTokens readListed readTimes readStep okStep okTokens whole swapToken swapAll flatStep)
def bN (H:Hp) (v:V) (ns:List Int):Prop:=∃l,v= .ref l/\H l=some (.lst (ns.map V.int))
def bG (H:Hp) (v:V):Prop:=∀l,v= .ref l->H l=none
theorem bG.of {H H':Hp} {l:Addr} (s:af H H') (n:H' l=none):bG H (.ref l):=λl2 e=>by
 cases e;cases h:H l with
 |none=>rfl
 |some o=>rw[s _ _ h] at n;cases n
theorem bG.mono {H H':Hp} {v:V} (s:af H H') (n:bG H' v):bG H v:=λl e=>by
 subst e;exact bG.of s (n l rfl) l rfl
def dW (H H':Hp) (v:V) (ns:List Int):Prop:=bG H v/\bN H' v ns
theorem dW.mono {H H1 H':Hp} {v:V} {ns:List Int} (s:af H H1) (n:dW H1 H' v ns):dW H H' v ns:=⟨n.1.mono s,n.2⟩
theorem bN.same {H H':Hp} {v:V} {ns:List Int} (h:bN H v ns) (s:af H H'):bN H' v ns:=by
 obtain⟨l,e,q⟩:=h;exact⟨l,e,s _ _ q⟩
theorem wF (ts:List Nat):(ts.map λ(n:Nat)=>V.int n)=(VapatBase.ints ts).map V.int:=by
 unfold VapatBase.ints;rw[List.map_map];rfl
def RG (K:PySem.W.Frag) (a:Ad):Sp:=λvs H Q _=>∃(v:V) (f p:Nat) (o n:List Nat),vs=[v]/\bz K a H v (.hunk f p o n)/\
 ∀(H':Hp) (v':V),af H H'->bN H' v' (flatStep (.hunk f p o n))->Q v' H'
theorem OE (T:Tx K mg a d):aA P w K mg base aL 1 a.kQ d.kQ ["hunk"] (RG K a):=by
 refine T.Cv.ok zR (λvs H Q E h=>?_) (λcdv A outer s H vs Q E hr h=>?_)
 ·obtain⟨v,f,p,o,n,rfl,_⟩:=h;rfl
 ·obtain⟨v,f,p,o,n,rfl,⟨x,dx,vo,vn,rfl,hx,⟨po,rfl,to⟩,⟨pn,rfl,tn⟩,lo,ln⟩,k⟩:=h;obtain⟨t0,ht0⟩:=T.BG;refine⟨_,ah (aF (i:=1) zR.nd rfl (Or.inl rfl) (bt eZ (bj (aa (bh bH (by rfl) T.bC PySem.boot_len (aa (ao (pv 0) rfl) ae)) ae)) (lH vj (by rfl) T.ke ke (aa (ao (pv 0) rfl) ae))))
   (ah (aF (i:=2) zR.nd rfl (Or.inl rfl) (bt eZ (bj (aa (bh bH (by rfl) T.bC PySem.boot_len (aa (ao (pv 0) rfl) ae)) ae)) (lH vj (by rfl) T.ke ke (aa (ao (pv 0) rfl) ae))))
   (aj (aq (bt eZ (bt eZ (bj (aa (aU (v:= .int 0) (by rfl) ht0 ⟨_,rfl⟩) (aa (ao (pv 0) rfl) (aa (ao (pv 0) rfl) ae)))) (pv 1)) (pv 2))))),?_⟩
  refine⟨_,rfl,x,a.aN,dx,_,_,rfl,hx,T.bu,T.fN,gc,po,_,rfl,.inr to,(by show 1<=sizeLine;decide),λl1 H1 n1 s1 e1=>?_⟩;obtain⟨_,q,to1⟩:=bA.same (ts:=o) ⟨po,rfl,to⟩ s1;cases q;refine⟨_,rfl,x,a.aN,dx,_,_,rfl,s1 _ _ hx,T.bu,T.fN,gc,po,_,rfl,.inr to1,λl2 H2 n2 s2 e2=>?_⟩;refine⟨l1,l2,_,_,rfl,rfl,s2 _ _ e1,e2,?_,λl3 H3 n3 s3 e3=>?_⟩
  ·rw[List.length_map];exact Nat.le_of_lt (bU (by show 1+o.length<=1000;omega))
  have s13:=(s1.trans s2).trans s3;obtain⟨_,q,tn3⟩:=bA.same (ts:=n) ⟨pn,rfl,tn⟩ s13;cases q;refine⟨_,rfl,x,a.aN,dx,_,_,rfl,s13 _ _ hx,T.bu,T.gz,gQ,pn,_,rfl,.inr tn3,(by show 1<=sizeLine;decide),λl4 H4 n4 s4 e4=>?_⟩;obtain⟨_,q,tn4⟩:=bA.same (ts:=n) ⟨pn,rfl,tn3⟩ s4;cases q;refine⟨_,rfl,x,a.aN,dx,_,_,rfl,s4 _ _ (s13 _ _ hx),T.bu,T.gz,gQ,pn,_,rfl,.inr tn4,λl5 H5 n5 s5 e5=>?_⟩;refine⟨l4,l5,_,_,rfl,rfl,s5 _ _ e4,e5,?_,λl6 H6 n6 s6 e6=>?_⟩
  ·rw[List.length_map];exact Nat.le_of_lt (bU (by show 1+n.length<=1000;omega))
  have s36:=(s4.trans s5).trans s6;have hx6:=s36 _ _ (s13 _ _ hx);refine⟨_,rfl,x,a.aN,dx,_,_,rfl,hx6,T.bu,T.hU,iK,_,rfl,x,a.aN,dx,_,_,rfl,hx6,T.bu,T.eY,fo,(by show 3<=sizeLine;decide),λl7 H7 n7 s7 e7=>?_⟩;refine⟨_,rfl,l7,l3,_,_,rfl,rfl,e7,s7 _ _ (s36 _ _ e3),?_,λl8 H8 n8 s8 e8=>?_⟩
  ·exact Nat.le_of_lt (bU (by rw[List.length_append,List.length_map];show 3+(1+o.length)<=1000;omega))
  refine⟨_,rfl,l8,l6,_,_,rfl,rfl,e8,s8 _ _ (s7 _ _ e6),?_,λl9 H9 n9 s9 e9=>?_⟩
  ·exact Nat.le_of_lt (bU (by rw[List.length_append,List.length_append,List.length_append,List.length_map,List.length_map];show(3+(1+o.length))+(1+n.length)<=1000;omega))
  refine k H9 (.ref l9) (((((s13.trans s36).trans s7).trans s8).trans s9)) ⟨l9,rfl,?_⟩;rw[e9,List.length_map,List.length_map,wF,wF];show some (HO.lst _)=some (HO.lst (([0,(f:Int),(p:Int)]++((((o.length:Nat):Int)::VapatBase.ints o)++(((n.length:Nat):Int)::VapatBase.ints n))).map V.int));simp only[List.map_append,List.map_cons,List.map_nil,List.append_assoc,List.cons_append,List.nil_append]
def RX (K:PySem.W.Frag) (a:Ad):Sp:=λvs H Q _=>∃(v:V) (p:ai),vs=[v]/\bz K a H v p/\∀(H':Hp) (v':V),af H H'->bN H' v' (flatStep p)->Q v' H'
theorem Th (T:Tx K mg a d) {H:Hp} {x dx:Addr} {fs:List (Str×V)} (h:H x=some (.ins a.aN dx fs)):cX K H (.ref x) (.ref a.aN):= .ins h T.bu T.qK.ha T.qK.hn T.qK.iM T.qK.hm
theorem Tn (T:Tx K mg a d) {H:Hp} {x dx:Addr} {fs:List (Str×V)} (h:H x=some (.ins a.bo dx fs)):cX K H (.ref x) (.ref a.bo):= .ins h T.cY T.qN.ha T.qN.hn T.qN.iM T.qN.hm
theorem Tg (T:Tx K mg a d) {H:Hp} {x dx:Addr} {fs:List (Str×V)} (h:H x=some (.ins a.bZ dx fs)):cX K H (.ref x) (.ref a.bZ):= .ins h T.mF T.qJ.ha T.qJ.hn T.qJ.iM T.qJ.hm
theorem Tj (T:Tx K mg a d) {H:Hp} {x dx:Addr} {fs:List (Str×V)} (h:H x=some (.ins a.bX dx fs)):cX K H (.ref x) (.ref a.bX):= .ins h T.kl T.qM.ha T.qM.hn T.qM.iM T.qM.hm
theorem Ti (T:Tx K mg a d) {H:Hp} {x dx:Addr} {fs:List (Str×V)} (h:H x=some (.ins a.Moved dx fs)):cX K H (.ref x) (.ref a.Moved):= .ins h T.eI T.qL.ha T.qL.hn T.qL.iM T.qL.hm
def Ly:ai->Bool| .hunk ..=>true|_=>false
def LA:ai->Bool| .swap ..=>true|_=>false
def isAdd:ai->Bool| .add ..=>true|_=>false
def Lz:ai->Bool| .remove ..=>true|_=>false
def gx:ai->Bool| .move ..=>true|_=>false
theorem bz.hunk (T:Tx K mg a d) {H:Hp} {v:V} {p:ai} (h:bz K a H v p):∃x t,v= .ref x/\cX K H (.ref x) t/\PySem.W.kitOne K t (.ref a.aN)=some (Ly p)/\PySem.W.kitOne K t (.ref a.bo)=some (LA p)/\PySem.W.kitOne K t (.ref a.bZ)=some (isAdd p)/\PySem.W.kitOne K t (.ref a.bX)=some (Lz p)/\PySem.W.kitOne K t (.ref a.Moved)=some (gx p):=by
 cases p with
 |hunk f p o n=>obtain⟨x,dx,vo,vn,e,q,_⟩:=h;exact⟨x,_,e,Th T q,T.LI,T.LL,T.LH,T.LK,T.LJ⟩
 |swap f p q=>obtain⟨x,dx,e,q⟩:=h;exact⟨x,_,e,Tn T q,T.LY,T.L6,T.LX,T.L5,T.LZ⟩
 |add f=>obtain⟨x,dx,e,q⟩:=h;exact⟨x,_,e,Tg T q,T.LC,T.LG,T.LB,T.LF,T.LD⟩
 |remove f=>obtain⟨x,dx,e,q⟩:=h;exact⟨x,_,e,Tj T q,T.LS,T.LW,T.LR,T.LV,T.LU⟩
 |move f g=>obtain⟨x,dx,e,q⟩:=h;exact⟨x,_,e,Ti T q,T.LN,T.LQ,T.LM,T.LP,T.LO⟩
end PR
namespace PR
open PySem PySem.Spec PyProof.Rows L2
open VapatBase (readNat readPair readTokens readListed readTimes readStep okStep okTokens whole swapToken swapAll flatStep)
section
variable {X:Cx}
theorem de {e:Expr} {te:TE} {c:Addr} {x:Str} {p1 p2 pos:Pos} (he:PE X e te) (hm:X.mg "isinstance"=none) (hg:Gl X "isinstance") (hg2:Gl X x) (hm2:X.mg x=some (.ref c)) (hd:(x==("__debug__":Str))=false:=by decide)
 (hs:starEach [e,.Name x p2] X.env=(false,eval e X.env)::starEach [.Name x p2] X.env:=by rfl) (hpl:(backTo pos (starEach [.Name x p2] X.env)).any (·.1)=false:=by rfl)
 (ht:∀whole,isTrue (.Call (.Name "isinstance" p1) [e,.Name x p2] [] pos) X.env whole=(do let v<-whole;standAt (Expr.pos (.Call (.Name "isinstance" p1) [e,.Name x p2] [] pos));holding [v] (truthy v)):=by intro _;rfl):
 PT X (.Call (.Name "isinstance" p1) [e,.Name x p2] [] pos) (tB (ue (λxs H Q=>∃(x:V) (c:Addr) (t:Value) (b:Bool),xs=[x,.ref c]/\cX X.K H x t/\PySem.W.kitOne X.K t (.ref c)=some b/\Q (.bl b) H) (cn te (cn (tC (.ref c)) dS)))):=
 eD (bh Bp hg hm cF (aa he (aa (aU (v:= .ref c) hg2 hm2 rfl hd) ae) hs) (by decide) (by decide) hs hpl) ht
theorem E5 {e:Expr} {te:TE} {c:Addr} {x:Str} {p1 p2 pos:Pos} (he:PE X e te) (hm:X.mg "isinstance"=none) (hg:Gl X "isinstance") (hg2:Gl X x) (hm2:X.mg x=some (.ref c)) (hd:(x==("__debug__":Str))=false:=by decide)
 (hs:starEach [e,.Name x p2] X.env=(false,eval e X.env)::starEach [.Name x p2] X.env:=by rfl) (hpl:(backTo pos (starEach [.Name x p2] X.env)).any (·.1)=false:=by rfl):
 PE X (.Call (.Name "isinstance" p1) [e,.Name x p2] [] pos) (ue (λxs H Q=>∃(x:V) (c:Addr) (t:Value) (b:Bool),xs=[x,.ref c]/\cX X.K H x t/\PySem.W.kitOne X.K t (.ref c)=some b/\Q (.bl b) H) (cn te (cn (tC (.ref c)) dS))):=
 bh Bp hg hm cF (aa he (aa (aU (v:= .ref c) hg2 hm2 rfl hd) ae) hs) (by decide) (by decide) hs hpl
end
theorem ON (T:Tx K mg a d):aA P w K mg base aL 2 a.me d.me ["step"] (RX K a):=by
 refine T.CH.ok QR (λvs H Q E h=>?_) (λcdv A outer s H vs Q E hr h=>?_)
 ·obtain⟨v,p,rfl,_⟩:=h;rfl
 ·obtain⟨v,p,rfl,hs,k⟩:=h;obtain⟨t1,ht1⟩:=T.BR;obtain⟨t2,ht2⟩:=T.BE;obtain⟨t3,ht3⟩:=T.BQ;obtain⟨t4,ht4⟩:=T.BL;refine⟨_,ah (aO (de (pv 0) T.cF (by rfl) (by rfl) T.fK) (aj (aq (aB (OE T) hr (by rfl) T.M8 T.Cv.kp T.HM .nil au (aa (pv 0) ae)))) aP)
   (ah (aO (de (pv 0) T.cF (by rfl) (by rfl) T.iQ) (aj (aq (bj (aa (aU (v:= .int 1) (by rfl) ht1 ⟨_,rfl⟩) (aa (ao (pv 0) rfl) (aa (ao (pv 0) rfl) (aa (ao (pv 0) rfl) ae))))))) aP)
   (ah (aO (de (pv 0) T.cF (by rfl) (by rfl) T.rS) (aj (aq (bj (aa (aU (v:= .int 2) (by rfl) ht2 ⟨_,rfl⟩) (aa (ao (pv 0) rfl) ae))))) aP)
   (ah (aO (de (pv 0) T.cF (by rfl) (by rfl) T.rW) (aj (aq (bj (aa (aU (v:= .int 3) (by rfl) ht3 ⟨_,rfl⟩) (aa (ao (pv 0) rfl) ae))))) aP)
   (aj (aq (bj (aa (aU (v:= .int 4) (by rfl) ht4 ⟨_,rfl⟩) (aa (ao (pv 0) rfl) (aa (ao (pv 0) rfl) ae))))))))),?_⟩
  obtain⟨x,t,rfl,ty,i1,i2,i3,i4,i5⟩:=hs.hunk T;cases p with
  |hunk f p o n=>exact⟨_,rfl,_,_,t,_,rfl,ty,i1,_,rfl,_,rfl,_,f,p,o,n,rfl,hs,k⟩
  |swap f p q=>
   obtain⟨_,dx,e,hx⟩:=hs;cases e;refine⟨_,rfl,_,_,t,_,rfl,ty,i1,_,rfl,_,rfl,_,_,t,_,rfl,ty,i2,_,rfl,_,rfl,x,a.bo,dx,_,_,rfl,hx,T.cY,T.nu,pk,_,rfl,x,a.bo,dx,_,_,rfl,hx,T.cY,T.lz,mR,
    _,rfl,x,a.bo,dx,_,_,rfl,hx,T.cY,T.lA,mS,(by show 4<=sizeLine;decide),λl H' _ s e=>k H' (.ref l) s ⟨l,rfl,e⟩⟩
  |add f=>
   obtain⟨_,dx,e,hx⟩:=hs;cases e;refine⟨_,rfl,_,_,t,_,rfl,ty,i1,_,rfl,_,rfl,_,_,t,_,rfl,ty,i2,_,rfl,_,rfl,_,_,t,_,rfl,ty,i3,_,rfl,_,rfl,x,a.bZ,dx,_,_,rfl,hx,T.mF,T.pJ,rA,
    (by show 2<=sizeLine;decide),λl H' _ s e=>k H' (.ref l) s ⟨l,rfl,e⟩⟩
  |remove f=>
   obtain⟨_,dx,e,hx⟩:=hs;cases e;refine⟨_,rfl,_,_,t,_,rfl,ty,i1,_,rfl,_,rfl,_,_,t,_,rfl,ty,i2,_,rfl,_,rfl,_,_,t,_,rfl,ty,i3,_,rfl,_,rfl,_,_,t,_,rfl,ty,i4,_,rfl,_,rfl,x,a.bX,dx,_,_,rfl,hx,T.kl,T.nj,pj,
    (by show 2<=sizeLine;decide),λl H' _ s e=>k H' (.ref l) s ⟨l,rfl,e⟩⟩
  |move f g=>
   obtain⟨_,dx,e,hx⟩:=hs;cases e;refine⟨_,rfl,_,_,t,_,rfl,ty,i1,_,rfl,_,rfl,_,_,t,_,rfl,ty,i2,_,rfl,_,rfl,_,_,t,_,rfl,ty,i3,_,rfl,_,rfl,_,_,t,_,rfl,ty,i4,_,rfl,_,rfl,x,a.Moved,dx,_,_,rfl,hx,T.eI,T.lx,mO,
    _,rfl,x,a.Moved,dx,_,_,rfl,hx,T.eI,T.lq,mM,(by show 3<=sizeLine;decide),λl H' _ s e=>k H' (.ref l) s ⟨l,rfl,e⟩⟩
end PR
namespace PR
open PySem PySem.Spec PyProof.Rows L2
open VapatBase (swapToken swapAll flatStep namesOf isInside inFile disjoint commutedInside commuted)
theorem vd:bootBuiltins "any"=some (.builtin "any"):=by decide+kernel
theorem bA.tup {K:PySem.W.Frag} {H:Hp} {p:Addr} {ts:List Nat} {xs:List V} (h:H p=some (.tup xs)) (e:xs=ts.map λ(n:Nat)=>V.int n):bA K H (.ref p) ts:=⟨p,rfl,by rw[<-e];exact ba.of h⟩
theorem rH (n:Nat):∀l:List Nat,dc (.int n) (l.map λ(n:Nat)=>V.int n)=l.contains n
 |[]=>rfl
 |m::l=>by
  have ih:=rH n l;unfold dc at ih⊢;rw[List.map_cons,List.any_cons,ih,List.contains_cons];congr 1;show((m:Int)==(n:Int))=(n==m)
  by_cases h:n=m
  ·subst h;simp
  ·have h2:¬(m:Int)=(n:Int):=by omega
   rw[beq_eq_false_iff_ne.mpr h,beq_eq_false_iff_ne.mpr h2]
theorem mK:∀l:List Nat,(l.map λ(n:Nat)=>V.int n).all eT=true
 |[]=>rfl
 |m::l=>by rw[List.map_cons,List.all_cons,mK l];rfl
theorem NC (p:ai):(namesOf p).length<=2:=by cases p<;>simp[VapatBase.namesOf]
def fileOf:ai->Nat
 | .hunk f _ _ _=>f
 | .swap f _ _=>f
 | .add f=>f
 | .remove f=>f
 | .move f _=>f
theorem bz.file (T:Tx K mg a d) {H:Hp} {x:Addr} {p:ai} (h:bz K a H (.ref x) p) (hm:gx p=false):∃C dx fs,H x=some (.ins C dx fs)/\bV K C/\aZ K C "file"/\fs.lookup ("file":Str)=some (.int (fileOf p)):=by
 cases p with
 |hunk f p o n=>obtain⟨_,dx,vo,vn,e,q,_⟩:=h;cases e;exact⟨_,_,_,q,T.bu,T.hU,iK⟩
 |swap f p q=>obtain⟨_,dx,e,q⟩:=h;cases e;exact⟨_,_,_,q,T.cY,T.nu,pk⟩
 |add f=>obtain⟨_,dx,e,q⟩:=h;cases e;exact⟨_,_,_,q,T.mF,T.pJ,rA⟩
 |remove f=>obtain⟨_,dx,e,q⟩:=h;cases e;exact⟨_,_,_,q,T.kl,T.nj,pj⟩
 |move f g=>cases hm
def RM (K:PySem.W.Frag) (a:Ad):Sp:=λvs H Q _=>∃(v:V) (p:ai),vs=[v]/\bz K a H v p/\∀(H':Hp) (v':V),af H H'->bA K H' v' (namesOf p)->Q v' H'
theorem EE (T:Tx K mg a d):aA P w K mg base aL 1 a.lb d.lb ["step"] (RM K a):=by
 refine T.vZ.ok QP (λvs H Q E h=>?_) (λcdv A outer s H vs Q E hr h=>?_)
 ·obtain⟨v,p,rfl,_⟩:=h;rfl
 ·obtain⟨v,p,rfl,hs,k⟩:=h;refine⟨_,ah (aO (de (pv 0) T.cF (by rfl) (by rfl) T.rT) (aj (aq (dP (aa (ao (pv 0) rfl) (aa (ao (pv 0) rfl) ae))))) aP)
   (aj (aq (dP (aa (ao (pv 0) rfl) ae)))),?_⟩
  obtain⟨x,t,rfl,ty,i1,i2,i3,i4,i5⟩:=hs.hunk T;cases hm:gx p with
  |true=>
   rw[hm] at i5;cases p with
   |move f g=>
    obtain⟨_,dx,e,hx⟩:=hs;cases e;exact⟨_,rfl,_,_,t,_,rfl,ty,i5,_,rfl,_,rfl,x,a.Moved,dx,_,_,rfl,hx,T.eI,T.lx,mO,
     _,rfl,x,a.Moved,dx,_,_,rfl,hx,T.eI,T.lq,mM,(by show 2<=sizeLine;decide),λl H' _ s e=>k H' (.ref l) s (bA.tup e rfl)⟩
   |_=>cases hm
  |false=>
   rw[hm] at i5;obtain⟨C,dx,fs,hx,cl,no,lk⟩:=hs.file T hm;refine⟨_,rfl,_,_,t,_,rfl,ty,i5,_,rfl,_,rfl,x,C,dx,fs,_,rfl,hx,cl,no,lk,(by show 1<=sizeLine;decide),λl H' _ s e=>k H' (.ref l) s (bA.tup e ?_)⟩;cases p<;>first|rfl|cases hm
def RI (K:PySem.W.Frag) (a:Ad):Sp:=λvs H Q _=>∃(v:V) (p:ai),vs=[v]/\bz K a H v p/\Q (.bl (isInside p)) H
theorem sL (T:Tx K mg a d):aA P w K mg base aL 1 a.kT d.kT ["step"] (RI K a):=by
 refine T.oS.ok QO (λvs H Q E h=>?_) (λcdv A outer s H vs Q E hr h=>?_)
 ·obtain⟨v,p,rfl,_⟩:=h;rfl
 ·obtain⟨v,p,rfl,hs,k⟩:=h;refine⟨_,aj (aq (O6 (E5 (pv 0) T.cF (by rfl) (by rfl) T.fK) (nH (E5 (pv 0) T.cF (by rfl) (by rfl) T.iQ)))),?_⟩;obtain⟨x,t,rfl,ty,i1,i2,i3,i4,i5⟩:=hs.hunk T;refine⟨_,rfl,_,_,t,_,rfl,ty,i1,_,rfl,?_⟩;cases p with
  |hunk f p o n=>exact k
  |swap f p q=>exact⟨_,rfl,_,_,t,_,rfl,ty,i2,k⟩
  |add f=>exact⟨_,rfl,_,_,t,_,rfl,ty,i2,k⟩
  |remove f=>exact⟨_,rfl,_,_,t,_,rfl,ty,i2,k⟩
  |move f g=>exact⟨_,rfl,_,_,t,_,rfl,ty,i2,k⟩
def RD (K:PySem.W.Frag) (a:Ad):Sp:=λvs H Q _=>∃(v v2:V) (p q:ai),vs=[v,v2]/\bz K a H v p/\bz K a H v2 q/\∀H':Hp,af H H'->Q (.bl (!disjoint (namesOf p) (namesOf q))) H'
theorem GY (l m:List Nat):(l.map λx=>m.contains x).any id= !disjoint l m:=by
 unfold disjoint
 induction l with
 |nil=>rfl
 |cons x l ih=>
  rw[List.map_cons,List.any_cons,ih,List.all_cons];cases m.contains x<;>rfl
theorem OB (T:Tx K mg a d):aA P w K mg base aL 2 a.kM d.kM ["p","q"] (RD K a):=by
 refine T.Cs.ok tU (λvs H Q E h=>?_) (λcdv A outer s H vs Q E hr h=>?_)
 ·obtain⟨v,v2,p,q,rfl,_⟩:=h;rfl
 ·obtain⟨v,v2,p,q,rfl,hp,hq,k⟩:=h;refine⟨_,ah (aF (i:=2) tU.nd rfl (Or.inr rfl) (aB (EE T) hr (by rfl) T.DS T.vZ.kp T.A6 .nil au (aa (pv 1) ae)))
   (aj (aq (bh (Iy rfl) (by rfl) T.vd vd (aa (fB (own:=[("name",3)]) rfl tU.nd (E9 (aB (EE T) hr (by rfl) T.DS T.vZ.kp T.A6 .nil au (aa (pv 0) ae)))
    (eG (N:=["p","q","names","name"]) (sc:=ay tL) (by decide+kernel)) (λ_ _ _ _ _=>cj (i:=3) tU.nd rfl (Or.inl rfl)) (λ_ _ _ _ _=>gD)
    (λ_ _ _ _ _=>gA (r:=il K false) iV (pv 3) (pv 2) (by with_unfolding_all rfl))) ae)))),?_⟩
  refine⟨_,rfl,_,q,rfl,hq,λH1 vn s1 tn=>?_⟩;refine⟨_,rfl,_,p,rfl,hp.same s1,λH2 vp s2 tp=>?_⟩;obtain⟨tp1,rfl,hp2⟩:=id tp;refine⟨tp1,rfl,⟨_,hp2⟩,λD hD=>Dy (K:=K) (a:=tp1) (xs:=(namesOf p).map λ(n:Nat)=>V.int n) (λm H3=>af H2 H3/\H3 D=some (.lst ((((namesOf p).take m).map λx=>(namesOf q).contains x).map V.bl))) ?_ ?_ ?_ ?_⟩
  ·exact⟨af.new hD,az⟩
  ·rintro m H3 _ ⟨s3,_⟩;obtain⟨_,e,h⟩:=tp.same s3;cases e;exact h
  ·rintro m z H3 hz ⟨s3,hD3⟩;obtain⟨t,ht,rfl⟩:∃t,(namesOf p)[m]?=some t/\z=V.int (t:Nat):=by
    rw[List.getElem?_map] at hz;cases e:(namesOf p)[m]? with
    |none=>rw[e] at hz;cases hz
    |some t=>rw[e] at hz;exact⟨t,rfl,(Option.some.inj hz).symm⟩
   obtain⟨tq,rfl,hq3⟩:=(tn.same s2).same s3;refine⟨rfl,_,rfl,_,rfl,tq,_,rfl,.inr hq3,rfl,mK _,_,hD3,?_,?_⟩
   ·rw[List.length_map,List.length_map,List.length_take];exact bU (by have:=NC p;omega)
   ·have hDn:H2 D=none:=hD;refine⟨λb o e=>by rw[aT (bq e hDn)];exact s3 b o e,?_⟩;rw[az,take_snoc ht,List.map_append,List.map_append];show some (HO.lst (_++[V.bl (dc (V.int t) _)]))=_;rw[rH];rfl
  ·rintro H3 ⟨s3,hD3⟩;rw[List.length_map,List.take_length] at hD3;refine⟨D,_,rfl,ak.of hD3,?_⟩;rw[GY];exact k H3 ((s1.trans s2).trans s3)
end PR
namespace PR
open PySem PySem.Spec PyProof.Rows L2
open VapatBase (swapToken swapAll flatStep namesOf isInside inFile disjoint commutedInside commuted)
def Az (K:PySem.W.Frag) (a:Ad) (H:Hp) (v:V) (p q:ai):Prop:=∃t v1 v2,v= .ref t/\ba K H t [v1,v2]/\bz K a H v1 p/\bz K a H v2 q
theorem cO (x y:Nat) (l:List Nat):(swapAll x y l).length=l.length:=by unfold swapAll;rw[List.length_map]
def Pairs (K:PySem.W.Frag) (a:Ad) (r:Option (ai×ai)) (H:Hp) (Q:VK):Prop:=
 (r=none->∀H':Hp,af H H'->Q .aI H')/\∀q p,r=some (q,p)->∀(H':Hp) (v:V),af H H'->Az K a H' v q p->Q v H'
theorem Pairs.no {r:Option (ai×ai)} {H H':Hp} {Q:VK} (k:Pairs K a r H Q) (e:r=none) (s:af H H'):Q .aI H':=k.1 e H' s
theorem Pairs.yes {r:Option (ai×ai)} {H H':Hp} {Q:VK} {q p:ai} {v:V} (k:Pairs K a r H Q) (e:r=some (q,p)) (s:af H H') (h:Az K a H' v q p):Q v H':=k.2 q p e H' v s h
theorem Pairs.mono {r r':Option (ai×ai)} {H H':Hp} {Q:VK} (k:Pairs K a r H Q) (e:r=r') (s:af H H'):Pairs K a r' H' Q:=by
 subst e;exact⟨λe H2 s2=>k.1 e H2 (s.trans s2),λq p e H2 v s2 h=>k.2 q p e H2 v (s.trans s2) h⟩
def RW (K:PySem.W.Frag) (a:Ad):Sp:=λvs H Q _=>∃(v:V) (z:Int) (f p p':Nat) (o n:List Nat),vs=[v,.int z]/\bz K a H v (.hunk f p o n)/\(p:Int)+z=p'/\∀(H':Hp) (v':V),af H H'->bz K a H' v' (.hunk f p' o n)->Q v' H'
theorem EI (T:Tx K mg a d):aA P w K mg base aL 3 a.shifted d.shifted ["hunk","by"] (RW K a):=by
 refine T.wc.ok QQ (λvs H Q E h=>?_) (λcdv A outer s H vs Q E hr h=>?_)
 ·obtain⟨v,z,f,p,p',o,n,rfl,_⟩:=h;rfl
 ·obtain⟨v,z,f,p,p',o,n,rfl,⟨x,dx,vo,vn,rfl,hx,to,tn,lo,ln⟩,e,k⟩:=h;refine⟨_,aj (aq (di T.iR (sI T) hr (by rfl) T.fK T.qz .nil au (aa (ao (pv 0) rfl) (aa (bt eO (ao (pv 0) rfl) (pv 1)) (aa (ao (pv 0) rfl) (aa (ao (pv 0) rfl) ae)))))),?_⟩;refine⟨_,rfl,x,a.aN,dx,_,_,rfl,hx,T.bu,T.hU,iK,_,rfl,x,a.aN,dx,_,_,rfl,hx,T.bu,T.eY,fo,_,rfl,_,_,rfl,rfl,
   _,rfl,x,a.aN,dx,_,_,rfl,hx,T.bu,T.fN,gc,_,rfl,x,a.aN,dx,_,_,rfl,hx,T.bu,T.gz,gQ,?_⟩
  refine iR λy dy H' _ sm hy=>?_;have hy:H' y=some (.ins a.aN dy (fm (.int f) (.int ((p:Int)+z)) vo vn)):=hy;rw[e] at hy;exact k H' _ sm ⟨y,dy,vo,vn,rfl,hy,to.same sm,tn.same sm,lo,ln⟩
def RY (K:PySem.W.Frag) (a:Ad):Sp:=λvs H Q _=>∃(v v2:V) (f p g x y:Nat) (o n:List Nat),vs=[v,v2]/\bz K a H v (.hunk f p o n)/\bz K a H v2 (.swap g x y)/\∀(H':Hp) (v':V),af H H'->bz K a H' v' (.hunk f p (swapAll x y o) (swapAll x y n))->Q v' H'
theorem EJ (T:Tx K mg a d):aA P w K mg base aL 3 a.mi d.mi ["hunk","swap"] (RY K a):=by
 refine T.wd.ok QS (λvs H Q E h=>?_) (λcdv A outer s H vs Q E hr h=>?_)
 ·obtain⟨v,v2,f,p,g,x,y,o,n,rfl,_⟩:=h;rfl
 ·obtain⟨v,v2,f,p,g,p1,p2,o,n,rfl,⟨x,dx,vo,vn,rfl,hx,to,tn,lo,ln⟩,hs,k⟩:=h;refine⟨_,aj (aq (di T.iR (sI T) hr (by rfl) T.fK T.qz .nil au (aa (ao (pv 0) rfl) (aa (ao (pv 0) rfl)
   (aa (aB (xO T) (hr.mono (by decide)) (by rfl) T.w8 T.rm.kp T.u4 .nil au (aa (ao (pv 0) rfl) (aa (pv 1) ae)))
   (aa (aB (xO T) (hr.mono (by decide)) (by rfl) T.w8 T.rm.kp T.u4 .nil au (aa (ao (pv 0) rfl) (aa (pv 1) ae))) ae)))))),?_⟩
  refine⟨_,rfl,x,a.aN,dx,_,_,rfl,hx,T.bu,T.hU,iK,_,rfl,x,a.aN,dx,_,_,rfl,hx,T.bu,T.eY,fo,
   _,rfl,x,a.aN,dx,_,_,rfl,hx,T.bu,T.fN,gc,_,rfl,_,_,o,g,p1,p2,rfl,to,by omega,hs,λH1 vo' s1 to'=>?_⟩
  refine⟨_,rfl,x,a.aN,dx,_,_,rfl,s1 _ _ hx,T.bu,T.gz,gQ,_,rfl,_,_,n,g,p1,p2,rfl,tn.same s1,by omega,hs.same s1,λH2 vn' s2 tn'=>?_⟩;refine iR λy dy H' _ sm hy=>?_;exact k H' _ ((s1.trans s2).trans sm) ⟨y,dy,vo',vn',rfl,hy,(to'.same s2).same sm,tn'.same sm,by rw[cO];exact lo,by rw[cO];exact ln⟩
def RH (K:PySem.W.Frag) (a:Ad):Sp:=λvs H Q _=>∃(v:V) (g:Nat) (p:ai),vs=[v,.int g]/\bz K a H v p/\isInside p=true/\∀(H':Hp) (v':V),af H H'->bz K a H' v' (inFile g p)->Q v' H'
theorem EB (T:Tx K mg a d):aA P w K mg base aL 3 a.kR d.kR ["step","file"] (RH K a):=by
 refine T.vW.ok QN (λvs H Q E h=>?_) (λcdv A outer s H vs Q E hr h=>?_)
 ·obtain⟨v,g,p,rfl,_⟩:=h;rfl
 ·obtain⟨v,g,p,rfl,hs,hin,k⟩:=h;refine⟨_,ah (aO (de (pv 0) T.cF (by rfl) (by rfl) T.fK) (aj (aq (di T.iR (sI T) hr (by rfl) T.fK T.qz .nil au (aa (pv 1) (aa (ao (pv 0) rfl) (aa (ao (pv 0) rfl) (aa (ao (pv 0) rfl) ae))))))) aP)
   (aj (aq (di T.sh (Er T) hr (by rfl) T.iQ T.AS .nil au (aa (pv 1) (aa (ao (pv 0) rfl) (aa (ao (pv 0) rfl) ae)))))),?_⟩
  obtain⟨x,t,rfl,ty,i1,i2,i3,i4,i5⟩:=hs.hunk T;cases p with
  |hunk f p o n=>
   obtain⟨_,dx,vo,vn,e,hx,to,tn,lo,ln⟩:=hs;cases e;refine⟨_,rfl,_,_,t,_,rfl,ty,i1,_,rfl,_,rfl,_,rfl,x,a.aN,dx,_,_,rfl,hx,T.bu,T.eY,fo,_,rfl,x,a.aN,dx,_,_,rfl,hx,T.bu,T.fN,gc,_,rfl,x,a.aN,dx,_,_,rfl,hx,T.bu,T.gz,gQ,?_⟩;exact iR λy dy H' _ sm hy=>k H' _ sm ⟨y,dy,vo,vn,rfl,hy,to.same sm,tn.same sm,lo,ln⟩
  |swap f p q=>
   obtain⟨_,dx,e,hx⟩:=hs;cases e;refine⟨_,rfl,_,_,t,_,rfl,ty,i1,_,rfl,_,rfl,_,rfl,x,a.bo,dx,_,_,rfl,hx,T.cY,T.lz,mR,_,rfl,x,a.bo,dx,_,_,rfl,hx,T.cY,T.lA,mS,?_⟩;exact sh λy dy H' _ sm hy=>k H' _ sm ⟨y,dy,rfl,hy⟩
  |_=>cases hin
def Rx (K:PySem.W.Frag) (a:Ad):Sp:=λvs H Q _=>∃(v v2:V) (f p q:Nat) (o n u t:List Nat),vs=[v,v2]/\bz K a H v (.hunk f p o n)/\bz K a H v2 (.hunk f q u t)/\Pairs K a (commutedInside (.hunk f p o n) (.hunk f q u t)) H Q
theorem Ox (T:Tx K mg a d):aA P w K mg base aL 4 a.ko d.ko ["p","q"] (Rx K a):=by
 refine T.Co.ok QF (λvs H Q E h=>?_) (λcdv A outer s H vs Q E hr h=>?_)
 ·obtain⟨v,v2,f,p,q,o,n,u,t,rfl,_⟩:=h;rfl
 ·obtain⟨v,v2,f,p,q,o,n,u,t,rfl,hp,hq,k⟩:=h;obtain⟨x,dx,vo,vn,rfl,hx,⟨po,rfl,to⟩,⟨pn,rfl,tn⟩,lo,ln⟩:=id hp;obtain⟨y,dy,vu,vt,rfl,hy,⟨pu,rfl,tu⟩,⟨pt,rfl,tt⟩,lu,lt⟩:=id hq;refine⟨_,ah (aO (aX nA (ao (pv 1) rfl) (bt eO (ao (pv 0) rfl) (bh bH (by rfl) T.bC PySem.boot_len (aa (ao (pv 0) rfl) ae))) (aV _))
   (aj (aq (dP (aa (aB (EI T) hr (by rfl) T.DW T.wc.kp T.Ba .nil au (aa (pv 1) (aa (bt pL (bh bH (by rfl) T.bC PySem.boot_len (aa (ao (pv 0) rfl) ae)) (bh bH (by rfl) T.bC PySem.boot_len (aa (ao (pv 0) rfl) ae))) ae))) (aa (pv 0) ae))))) aP)
   (ah (aO (aX nA (ao (pv 0) rfl) (bt eO (ao (pv 1) rfl) (bh bH (by rfl) T.bC PySem.boot_len (aa (ao (pv 1) rfl) ae))) (aV _))
    (aj (aq (dP (aa (pv 1) (aa (aB (EI T) hr (by rfl) T.DW T.wc.kp T.Ba .nil au (aa (pv 0) (aa (bt pL (bh bH (by rfl) T.bC PySem.boot_len (aa (ao (pv 1) rfl) ae)) (bh bH (by rfl) T.bC PySem.boot_len (aa (ao (pv 1) rfl) ae))) ae))) ae))))) aP)
   (aj (aq cS))),?_⟩
  have lm:∀l:List Nat,(l.map λ(n:Nat)=>V.int n).length=l.length:=λl=>List.length_map _;refine⟨_,rfl,y,a.aN,dy,_,_,rfl,hy,T.bu,T.eY,fo,_,rfl,x,a.aN,dx,_,_,rfl,hx,T.bu,T.eY,fo,_,rfl,x,a.aN,dx,_,_,rfl,hx,T.bu,T.gz,gQ,pn,_,rfl,.inr tn,_,_,rfl,rfl,_,_,rfl,rfl,_,rfl,bE (λhz=>?_) (λhz=>?_)⟩
  ·have hz:(p:Int)+((n.map λ(n:Nat)=>V.int n).length:Int)<q:=of_decide_eq_true hz;rw[lm] at hz;refine⟨_,rfl,_,rfl,x,a.aN,dx,_,_,rfl,hx,T.bu,T.fN,gc,po,_,rfl,.inr to,_,rfl,x,a.aN,dx,_,_,rfl,hx,T.bu,T.gz,gQ,pn,_,rfl,.inr tn,_,_,rfl,rfl,
    _,_,f,q,q-n.length+o.length,u,t,rfl,hq,(by rw[lm,lm];omega),λH1 v1 s1 h1=>⟨_,rfl,(by show 2<=sizeLine;decide),λl H2 _ s2 e2=>?_⟩⟩
   exact k.yes (if_pos (by omega)) (s1.trans s2) ⟨l,_,_,rfl,ba.of e2,h1.same s2,(hp.same s1).same s2⟩
  ·have hz:¬(p:Int)+((n.map λ(n:Nat)=>V.int n).length:Int)<q:=λe=>hz (decide_eq_true e);rw[lm] at hz;refine⟨_,rfl,x,a.aN,dx,_,_,rfl,hx,T.bu,T.eY,fo,_,rfl,y,a.aN,dy,_,_,rfl,hy,T.bu,T.eY,fo,_,rfl,y,a.aN,dy,_,_,rfl,hy,T.bu,T.fN,gc,pu,_,rfl,.inr tu,_,_,rfl,rfl,_,_,rfl,rfl,_,rfl,bE (λhy2=>?_) (λhy2=>?_)⟩
   ·have hy2:(q:Int)+((u.map λ(n:Nat)=>V.int n).length:Int)<p:=of_decide_eq_true hy2;rw[lm] at hy2;refine⟨_,rfl,_,rfl,_,rfl,y,a.aN,dy,_,_,rfl,hy,T.bu,T.gz,gQ,pt,_,rfl,.inr tt,_,rfl,y,a.aN,dy,_,_,rfl,hy,T.bu,T.fN,gc,pu,_,rfl,.inr tu,_,_,rfl,rfl,
     _,_,f,p,p-u.length+t.length,o,n,rfl,hp,(by rw[lm,lm];omega),λH1 v1 s1 h1=>⟨(by show 2<=sizeLine;decide),λl H2 _ s2 e2=>?_⟩⟩
    exact k.yes ((if_neg (by omega)).trans (if_pos (by omega))) (s1.trans s2) ⟨l,_,_,rfl,ba.of e2,(hq.same s1).same s2,h1.same s2⟩
   ·have hy2:¬(q:Int)+((u.map λ(n:Nat)=>V.int n).length:Int)<p:=λe=>hy2 (decide_eq_true e);rw[lm] at hy2;exact k.no ((if_neg (by omega)).trans (if_neg (by omega))) (af.refl _)
end PR
namespace PR
open PySem PySem.Spec PyProof.Rows L2
open VapatBase (swapToken swapAll flatStep namesOf isInside inFile disjoint commutedInside commuted)
theorem Jt {x y u v:Nat}:disjoint [x,y] [u,v]= !((u==x||v==x)||(u==y||v==y)):=by
 unfold disjoint;simp only[List.all_cons,List.all_nil,List.contains_cons,List.contains_nil,Bool.or_false,Bool.and_true];rw[show(x==u)=(u==x) from Bool.beq_comm,show(x==v)=(v==x) from Bool.beq_comm,show(y==u)=(u==y) from Bool.beq_comm,show(y==v)=(v==y) from Bool.beq_comm];cases(u==x)<;>cases(v==x)<;>cases(u==y)<;>cases(v==y)<;>rfl
def RA (K:PySem.W.Frag) (a:Ad):Sp:=λvs H Q _=>∃(v v2:V) (f x y z t:Nat),vs=[v,v2]/\bz K a H v (.swap f x y)/\bz K a H v2 (.swap f z t)/\Pairs K a (commutedInside (.swap f x y) (.swap f z t)) H Q
theorem uQ (m n:Nat):((m:Int)==(n:Int))=(m==n):=by
 by_cases h:m=n
 ·subst h;simp
 ·have h2:¬(m:Int)=(n:Int):=by omega
  rw[beq_eq_false_iff_ne.mpr h,beq_eq_false_iff_ne.mpr h2]
theorem Oz (T:Tx K mg a d):aA P w K mg base aL 1 a.ku d.ku ["p","q"] (RA K a):=by
 refine T.Cq.ok FR (λvs H Q E h=>?_) (λcdv A outer s H vs Q E hr h=>?_)
 ·obtain⟨v,v2,f,x,y,z,t,rfl,_⟩:=h;rfl
 ·obtain⟨v,v2,f,x,y,z,t,rfl,hp,hq,k⟩:=h;obtain⟨p,dp,rfl,ep⟩:=id hp;obtain⟨q,dq,rfl,eq⟩:=id hq;refine⟨_,ah (aF (i:=2) FR.nd rfl (Or.inl rfl) (dP (aa (ao (pv 1) rfl) (aa (ao (pv 1) rfl) ae))))
   (ah (aO (ye (aX (r:=il K false) iV (ao (pv 0) rfl) (pv 2) (by with_unfolding_all rfl)) (yf (aX (r:=il K false) iV (ao (pv 0) rfl) (pv 2) (by with_unfolding_all rfl)))).pt (aj (aq cS)) aP)
   (aj (aq (dP (aa (pv 1) (aa (pv 0) ae)))))),?_⟩
  refine⟨_,rfl,q,a.bo,dq,_,_,rfl,eq,T.cY,T.lz,mR,_,rfl,q,a.bo,dq,_,_,rfl,eq,T.cY,T.lA,mS,(by show 2<=sizeLine;decide),λl H1 _ s1 e1=>?_⟩;have e:∀m:Nat,dc (.int m) [.int z,.int t]=(z==m||t==m):=λm=>by
   show(((z:Int)==(m:Int))||(((t:Int)==(m:Int))||false))=_;rw[uQ,uQ,Bool.or_false]
  have dj:disjoint [x,y] [z,t]= !(dc (.int x) [.int z,.int t]||dc (.int y) [.int z,.int t]):=by rw[e,e,Jt]
  have ci:commutedInside (.swap f x y) (.swap f z t)=if disjoint [x,y] [z,t] then some (.swap f z t,.swap f x y) else none:=rfl
  refine⟨_,rfl,p,a.bo,dp,_,_,rfl,s1 _ _ ep,T.cY,T.lz,mR,_,rfl,l,_,rfl,.inr (ba.of e1),rfl,rfl,_,rfl,bE (λh1=>?_) (λh1=>?_)⟩
  ·have h1:dc (.int x) [.int z,.int t]=true:=h1;refine fJ (k.no ?_ s1);rw[ci,dj,h1,Bool.true_or];rfl
  ·have h1:dc (.int x) [.int z,.int t]=false:=by
    cases q:dc (.int x) [.int z,.int t] with
    |false=>rfl
    |true=>exact absurd q h1
   refine⟨_,rfl,p,a.bo,dp,_,_,rfl,s1 _ _ ep,T.cY,T.lA,mS,_,rfl,l,_,rfl,.inr (ba.of e1),rfl,rfl,_,rfl,bE (λh2=>?_) (λh2=>?_)⟩
   ·have h2:dc (.int y) [.int z,.int t]=true:=h2;refine k.no ?_ s1;rw[ci,dj,h1,h2];rfl
   ·have h2:dc (.int y) [.int z,.int t]=false:=by
     cases q:dc (.int y) [.int z,.int t] with
     |false=>rfl
     |true=>exact absurd q h2
    refine⟨_,rfl,_,rfl,(by show 2<=sizeLine;decide),λl2 H2 _ s2 e2=>k.yes ?_ (s1.trans s2) ⟨l2,_,_,rfl,ba.of e2,hq.same (s1.trans s2),hp.same (s1.trans s2)⟩⟩;rw[ci,dj,h1,h2];rfl
def Ry (K:PySem.W.Frag) (a:Ad):Sp:=λvs H Q _=>∃(v v2:V) (p q:ai),vs=[v,v2]/\bz K a H v p/\bz K a H v2 q/\isInside p=true/\isInside q=true/\fileOf p=fileOf q/\Pairs K a (commutedInside p q) H Q
theorem Oy (T:Tx K mg a d):aA P w K mg base aL 5 a.kq d.kq ["p","q"] (Ry K a):=by
 refine T.Cp.ok QG (λvs H Q E h=>?_) (λcdv A outer s H vs Q E hr h=>?_)
 ·obtain⟨v,v2,p,q,rfl,_⟩:=h;rfl
 ·obtain⟨v,v2,p,q,rfl,hp,hq,ip,iq,hf,k⟩:=h;refine⟨_,ah (aO (lN (de (pv 0) T.cF (by rfl) (by rfl) T.fK) (pR (de (pv 1) T.cF (by rfl) (by rfl) T.fK))).pt (aj (aq (aB (Ox T) hr (by rfl) T.MZ T.Co.kp T.HE .nil au (aa (pv 0) (aa (pv 1) ae))))) aP)
   (ah (aO (lN (de (pv 0) T.cF (by rfl) (by rfl) T.iQ) (pR (de (pv 1) T.cF (by rfl) (by rfl) T.iQ))).pt (aj (aq (aB (Oz T) (hr.mono (by decide)) (by rfl) T.M3 T.Cq.kp T.HG .nil au (aa (pv 0) (aa (pv 1) ae))))) aP)
   (ah (aO (de (pv 0) T.cF (by rfl) (by rfl) T.fK) (aj (aq (dP (aa (pv 1) (aa (aB (EJ T) (hr.mono (by decide)) (by rfl) T.DX T.wd.kp T.Bb .nil au (aa (pv 0) (aa (pv 1) ae))) ae))))) aP)
   (aj (aq (dP (aa (aB (EJ T) (hr.mono (by decide)) (by rfl) T.DX T.wd.kp T.Bb .nil au (aa (pv 1) (aa (pv 0) ae))) (aa (pv 0) ae))))))),?_⟩
  obtain⟨x,t,rfl,ty,i1,i2,i3,i4,i5⟩:=hp.hunk T;obtain⟨y,u,rfl,ty2,j1,j2,j3,j4,j5⟩:=hq.hunk T;cases p with
  |hunk f p o n=>
   cases q with
   |hunk g q uu tt=>
    have hf:f=g:=hf;subst hf;exact⟨_,rfl,_,_,t,_,rfl,ty,i1,_,rfl,_,rfl,_,_,u,_,rfl,ty2,j1,_,rfl,_,rfl,_,rfl,_,_,f,p,q,o,n,uu,tt,rfl,hp,hq,k⟩
   |swap g b c=>
    have hf:f=g:=hf;subst hf;refine⟨_,rfl,_,_,t,_,rfl,ty,i1,_,rfl,_,rfl,_,_,u,_,rfl,ty2,j1,_,rfl,_,rfl,_,_,t,_,rfl,ty,i2,_,rfl,_,rfl,_,_,t,_,rfl,ty,i1,_,rfl,_,rfl,_,rfl,_,rfl,_,_,f,p,f,b,c,o,n,rfl,hp,hq,λH1 v1 s1 h1=>⟨(by show 2<=sizeLine;decide),λl H2 _ s2 e2=>?_⟩⟩;exact k.yes rfl (s1.trans s2) ⟨l,_,_,rfl,ba.of e2,(hq.same s1).same s2,h1.same s2⟩
   |_=>cases iq
  |swap f b c=>
   cases q with
   |hunk g q uu tt=>
    have hf:f=g:=hf;subst hf;refine⟨_,rfl,_,_,t,_,rfl,ty,i1,_,rfl,_,rfl,_,_,t,_,rfl,ty,i2,_,rfl,_,rfl,_,_,u,_,rfl,ty2,j2,_,rfl,_,rfl,_,_,t,_,rfl,ty,i1,_,rfl,_,rfl,_,rfl,_,_,f,q,f,b,c,uu,tt,rfl,hq,hp,λH1 v1 s1 h1=>⟨_,rfl,(by show 2<=sizeLine;decide),λl H2 _ s2 e2=>?_⟩⟩;exact k.yes rfl (s1.trans s2) ⟨l,_,_,rfl,ba.of e2,h1.same s2,(hp.same s1).same s2⟩
   |swap g b2 c2=>
    have hf:f=g:=hf;subst hf;exact⟨_,rfl,_,_,t,_,rfl,ty,i1,_,rfl,_,rfl,_,_,t,_,rfl,ty,i2,_,rfl,_,rfl,_,_,u,_,rfl,ty2,j2,_,rfl,_,rfl,_,rfl,_,_,f,b,c,b2,c2,rfl,hp,hq,k⟩
   |_=>cases iq
  |_=>cases ip
end PR
namespace PR
open PySem PySem.Spec PyProof.Rows L2
open VapatBase (swapToken swapAll flatStep namesOf isInside inFile disjoint commutedInside commuted)
theorem Dh {p:ai} (h:isInside p=true):gx p=false:=by cases p<;>first|rfl|cases h
theorem m5 {p:ai} (h:isInside p=true):namesOf p=[fileOf p]:=by cases p<;>first|rfl|cases h
theorem Ir {p q:ai} (h:disjoint (namesOf p) (namesOf q)=true):commuted p q=some (q,p):=if_pos h
theorem Iu {p q:ai} (h:disjoint (namesOf p) (namesOf q)=false) (ip:isInside p=true) (iq:isInside q=true):commuted p q=commutedInside p q:=by
 unfold commuted;rw[if_neg (by rw[h];decide),if_pos (by rw[ip,iq];rfl)]
theorem Qc {p q:ai} (h:disjoint (namesOf p) (namesOf q)=false) (ip:isInside p=true) (iq:isInside q=true):fileOf p=fileOf q:=by
 rw[m5 ip,m5 iq] at h;unfold disjoint at h;simp at h;exact h
theorem vy {f g:Nat} {q:ai} (h:disjoint (namesOf (.move f g)) (namesOf q)=false):commuted (.move f g) q=if isInside q&&namesOf q==[g] then some (inFile f q,.move f g) else none:=by
 unfold commuted;rw[if_neg (by rw[h];decide),if_neg (by show ¬(false&&isInside q)=true;simp)]
theorem vz {f g:Nat} {p:ai} (h:disjoint (namesOf p) (namesOf (.move f g))=false) (hm:gx p=false):commuted p (.move f g)=if isInside p&&namesOf p==[f] then some (.move f g,inFile g p) else none:=by
 unfold commuted;rw[if_neg (by rw[h];decide),if_neg (by show ¬(isInside p&&false)=true;simp)];cases p<;>first|rfl|cases hm
theorem BA {p q:ai} (h:disjoint (namesOf p) (namesOf q)=false) (hi:(isInside p&&isInside q)=false) (hm:gx p=false) (hm2:gx q=false):commuted p q=none:=by
 unfold commuted;rw[if_neg (by rw[h];decide),if_neg (by rw[hi];decide)];cases p with
 |move f g=>cases hm
 |_=>
  cases q with
  |move f g=>cases hm2
  |_=>rfl
theorem qy (m n:Nat):([m]==[n])=decide (m=n):=by
 by_cases h:m=n
 ·subst h;simp
 ·rw[decide_eq_false h];simpa using h
def Rw (K:PySem.W.Frag) (a:Ad):Sp:=λvs H Q _=>∃(v v2:V) (p q:ai),vs=[v,v2]/\bz K a H v p/\bz K a H v2 q/\Pairs K a (commuted p q) H Q
theorem Ow (T:Tx K mg a d):aA P w K mg base aL 6 a.commuted d.commuted ["p","q"] (Rw K a):=by
 refine T.Cn.ok QE (λvs H Q E h=>?_) (λcdv A outer s H vs Q E hr h=>?_)
 ·obtain⟨v,v2,p,q,rfl,_⟩:=h;rfl
 ·obtain⟨v,v2,p,q,rfl,hp,hq,k⟩:=h;refine⟨_,ah (aO (pP (eD (aB (OB T) (hr.mono (by decide)) (by rfl) T.M5 T.Cs.kp T.HI .nil au (aa (pv 0) (aa (pv 1) ae))))) (aj (aq (dP (aa (pv 1) (aa (pv 0) ae))))) aP)
   (ah (aO (lN (eD (aB (sL T) (hr.mono (by decide)) (by rfl) T.rX T.oS.kp T.qB .nil au (aa (pv 0) ae))) (pR (eD (aB (sL T) (hr.mono (by decide)) (by rfl) T.rX T.oS.kp T.qB .nil au (aa (pv 1) ae))))).pt
    (aj (aq (aB (Oy T) hr (by rfl) T.M0 T.Cp.kp T.HF .nil au (aa (pv 0) (aa (pv 1) ae))))) aP)
   (ah (aO (lN (de (pv 0) T.cF (by rfl) (by rfl) T.rT) (lN (eD (aB (sL T) (hr.mono (by decide)) (by rfl) T.rX T.oS.kp T.qB .nil au (aa (pv 1) ae))) (pR (aX cH (ao (pv 1) rfl) (ao (pv 0) rfl) (aV _))))).pt
    (aj (aq (dP (aa (aB (EB T) (hr.mono (by decide)) (by rfl) T.DP T.vW.kp T.A3 .nil au (aa (pv 1) (aa (ao (pv 0) rfl) ae))) (aa (pv 0) ae))))) aP)
   (ah (aO (lN (eD (aB (sL T) (hr.mono (by decide)) (by rfl) T.rX T.oS.kp T.qB .nil au (aa (pv 0) ae))) (lN (de (pv 1) T.cF (by rfl) (by rfl) T.rT) (pR (aX cH (ao (pv 0) rfl) (ao (pv 1) rfl) (aV _))))).pt
    (aj (aq (dP (aa (pv 1) (aa (aB (EB T) (hr.mono (by decide)) (by rfl) T.DP T.vW.kp T.A3 .nil au (aa (pv 0) (aa (ao (pv 1) rfl) ae))) ae))))) aP)
   (aj (aq cS))))),?_⟩
  refine⟨_,rfl,_,rfl,v,v2,p,q,rfl,hp,hq,λH1 s1=>⟨_,rfl,?_⟩⟩
  replace k:=k.mono rfl s1
  replace hp:=hp.same s1
  replace hq:=hq.same s1
  cases hd:disjoint (namesOf p) (namesOf q) with
  |true=>exact⟨_,rfl,_,rfl,(by show 2<=sizeLine;decide),λl H2 _ s2 e2=>k.yes (Ir hd) s2 ⟨l,_,_,rfl,ba.of e2,hq.same s2,hp.same s2⟩⟩
  |false=>
   obtain⟨x,t,rfl,ty,i1,i2,i3,i4,i5⟩:=hp.hunk T;obtain⟨y,u,rfl,ty2,j1,j2,j3,j4,j5⟩:=hq.hunk T;cases ip:isInside p with
   |true=>
    have mp:=Dh ip;cases iq:isInside q with
    |true=>exact⟨_,rfl,_,p,rfl,hp,true,congrArg V.bl ip,_,rfl,_,q,rfl,hq,true,congrArg V.bl iq,_,rfl,_,rfl,_,_,p,q,rfl,hp,hq,ip,iq,Qc hd ip iq,k.mono (Iu hd ip iq) (af.refl _)⟩
    |false=>
     cases mq:gx q with
     |false=>
      exact⟨_,rfl,_,p,rfl,hp,true,congrArg V.bl ip,_,rfl,_,q,rfl,hq,false,congrArg V.bl iq,_,rfl,_,_,t,false,rfl,ty,i5.trans (congrArg some mp),_,rfl,
       _,rfl,_,p,rfl,hp,true,congrArg V.bl ip,_,rfl,_,_,u,false,rfl,ty2,j5.trans (congrArg some mq),_,rfl,k.no (BA hd (by rw[ip,iq];rfl) mp mq) (af.refl _)⟩
     |true=>
      cases q with
      |move f g=>
       obtain⟨_,dy,e,hy⟩:=id hq;cases e;obtain⟨C,dx,fs,hx,cl,no,lk⟩:=hp.file T mp;refine⟨_,rfl,_,p,rfl,hp,true,congrArg V.bl ip,_,rfl,_,_,rfl,hq,false,congrArg V.bl iq,_,rfl,_,_,t,false,rfl,ty,i5.trans (congrArg some mp),_,rfl,
        _,rfl,_,p,rfl,hp,true,congrArg V.bl ip,_,rfl,_,_,u,true,rfl,ty2,j5,_,rfl,_,rfl,x,C,dx,fs,_,rfl,hx,cl,no,lk,_,rfl,y,a.Moved,dy,_,_,rfl,hy,T.eI,T.lx,mO,rfl,_,rfl,bE (λhz=>?_) (λhz=>?_)⟩
       ·have hz:(fileOf p:Int)=f:=V.int.inj (of_decide_eq_true hz);have hz:fileOf p=f:=by omega
        refine⟨_,rfl,_,rfl,_,rfl,y,a.Moved,dy,_,_,rfl,hy,T.eI,T.lq,mM,_,g,p,rfl,hp,ip,λH2 v2 s2 h2=>⟨(by show 2<=sizeLine;decide),λl H3 _ s3 e3=>k.yes ?_ (s2.trans s3) ⟨l,_,_,rfl,ba.of e3,(hq.same s2).same s3,h2.same s3⟩⟩⟩;rw[vz hd mp,ip,m5 ip,qy,hz,decide_eq_true rfl];rfl
       ·have hz:¬fileOf p=f:=λe=>hz (decide_eq_true (by rw[e]));refine k.no ?_ (af.refl _);rw[vz hd mp,ip,m5 ip,qy,decide_eq_false hz];rfl
      |_=>cases mq
   |false=>
    cases mp:gx p with
    |false=>
     have hn:commuted p q=none:=by
      cases mq:gx q with
      |false=>exact BA hd (by rw[ip];rfl) mp mq
      |true=>
       cases q with
       |move f g=>
        rw[vz hd mp,ip];rfl
       |_=>cases mq
     exact⟨_,rfl,_,p,rfl,hp,false,congrArg V.bl ip,_,rfl,_,_,t,false,rfl,ty,i5.trans (congrArg some mp),_,rfl,_,rfl,_,p,rfl,hp,false,congrArg V.bl ip,k.no hn (af.refl _)⟩
    |true=>
     cases p with
     |move f g=>
      obtain⟨_,dx,e,hx⟩:=id hp;cases e;cases iq:isInside q with
      |false=>
       refine⟨_,rfl,_,_,rfl,hp,false,rfl,_,rfl,_,_,t,true,rfl,ty,i5,_,rfl,_,rfl,_,q,rfl,hq,false,congrArg V.bl iq,_,rfl,_,_,rfl,hp,false,rfl,k.no ?_ (af.refl _)⟩;rw[vy hd,iq];rfl
      |true=>
       obtain⟨C,dy,fs,hy,cl,no,lk⟩:=hq.file T (Dh iq);refine⟨_,rfl,_,_,rfl,hp,false,rfl,_,rfl,_,_,t,true,rfl,ty,i5,_,rfl,_,rfl,_,q,rfl,hq,true,congrArg V.bl iq,_,rfl,y,C,dy,fs,_,rfl,hy,cl,no,lk,_,rfl,x,a.Moved,dx,_,_,rfl,hx,T.eI,T.lq,mM,rfl,_,rfl,bE (λhz=>?_) (λhz=>?_)⟩
       ·have hz:(fileOf q:Int)=g:=V.int.inj (of_decide_eq_true hz);have hz:fileOf q=g:=by omega
        refine⟨_,rfl,_,rfl,x,a.Moved,dx,_,_,rfl,hx,T.eI,T.lx,mO,_,f,q,rfl,hq,iq,λH2 v2 s2 h2=>⟨_,rfl,(by show 2<=sizeLine;decide),λl H3 _ s3 e3=>k.yes ?_ (s2.trans s3) ⟨l,_,_,rfl,ba.of e3,h2.same s3,(hp.same s2).same s3⟩⟩⟩;rw[vy hd,iq,m5 iq,qy,hz,decide_eq_true rfl];rfl
       ·have hz:¬fileOf q=g:=λe=>hz (decide_eq_true (by rw[e]));refine⟨_,rfl,_,_,rfl,hp,false,rfl,k.no ?_ (af.refl _)⟩;rw[vy hd,iq,m5 iq,qy,decide_eq_false hz];rfl
     |_=>cases mp
end PR
namespace PR
open PySem PySem.Spec PyProof.Rows L2
open VapatBase (fileIn putFile dropFile)
abbrev aJ:=VapatBase.Tree
def br (t:aJ):Prop:=(t.map (·.1)).Pairwise (· < ·)
theorem br.tail {x:Nat×List Nat} {t:aJ} (h:br (x::t)):br t:=(List.pairwise_cons.mp h).2
theorem br.head {x:Nat×List Nat} {t:aJ} (h:br (x::t)):∀y∈t,x.1<y.1:=λy hy=>(List.pairwise_cons.mp h).1 y.1 (List.mem_map.mpr ⟨y,hy,rfl⟩)
theorem JF (x:Nat×List Nat) (t:aJ) (f:Nat):fileIn (x::t) f=if x.1=f then some x.2 else fileIn t f:=by
 unfold fileIn;rw[List.find?_cons];by_cases h:x.1=f
 ·rw[if_pos h,beq_iff_eq.mpr h];rfl
 ·rw[if_neg h,beq_eq_false_iff_ne.mpr h]
theorem fZ:∀{t:aJ},br t->∀{f:Nat} {c:List Nat},fileIn t f=some c↔(f,c)∈t
 |[],_,f,c=>by simp[fileIn]
 |x::t,h,f,c=>by
  rw[JF,List.mem_cons];by_cases e:x.1=f
  ·rw[if_pos e];constructor
   ·intro q;cases q;left;rw[<-e]
   ·rintro(q|q)
    ·rw[<-q]
    ·exact absurd (h.head _ q) (by show ¬x.1<f;omega)
  ·rw[if_neg e,fZ h.tail];constructor
   ·exact .inr
   ·rintro(q|q)
    ·exact absurd (by rw[<-q]) e
    ·exact q
theorem vM {t:aJ} {f:Nat}:fileIn t f=none↔f∉t.map (·.1):=by
 unfold fileIn;rw[Option.map_eq_none_iff,List.find?_eq_none];constructor
 ·intro h m;obtain⟨x,hx,e⟩:=List.mem_map.mp m;exact h x hx (beq_iff_eq.mpr e)
 ·intro h x hx e;exact h (List.mem_map.mpr ⟨x,hx,eq_of_beq e⟩)
theorem pQ:∀{t:aJ},br t->∀{f:Nat} {c:List Nat} {y:Nat×List Nat},y∈putFile f c t↔y=(f,c)\/(y∈t/\y.1≠f)
 |[],_,f,c,y=>by simp[putFile]
 |x::t,h,f,c,y=>by
  unfold putFile;by_cases h1:f<x.1
  ·rw[if_pos h1,List.mem_cons];have:∀z∈x::t,z.1≠f:=λz hz=>by
    rcases List.mem_cons.mp hz with q|q
    ·rw[q];omega
    ·have:=h.head z q;omega
   constructor
   ·rintro(q|q)
    ·exact .inl q
    ·exact .inr ⟨q,this y q⟩
   ·rintro(q|q)
    ·exact .inl q
    ·exact .inr q.1
  ·rw[if_neg h1];by_cases h2:f=x.1
   ·rw[if_pos h2,List.mem_cons];have:∀z∈t,z.1≠f:=λz hz=>by have:=h.head z hz;omega
    constructor
    ·rintro(q|q)
     ·exact .inl q
     ·exact .inr ⟨List.mem_cons_of_mem _ q,this y q⟩
    ·rintro(q|⟨q,n⟩)
     ·exact .inl q
     ·rcases List.mem_cons.mp q with z|z
      ·exact absurd (by rw[z,h2]) n
      ·exact .inr z
   ·rw[if_neg h2,List.mem_cons,pQ h.tail,List.mem_cons];constructor
    ·rintro(q|q|q)
     ·exact .inr ⟨.inl q,by rw[q];exact Ne.symm h2⟩
     ·exact .inl q
     ·exact .inr ⟨.inr q.1,q.2⟩
    ·rintro(q|⟨q|q,n⟩)
     ·exact .inr (.inl q)
     ·exact .inl q
     ·exact .inr (.inr ⟨q,n⟩)
theorem lM:∀{t:aJ},br t->∀{f:Nat} {c:List Nat},br (putFile f c t)
 |[],_,f,c=>by simp[putFile,br]
 |x::t,h,f,c=>by
  unfold putFile;by_cases h1:f<x.1
  ·rw[if_pos h1];refine List.pairwise_cons.mpr ⟨λy hy=>?_,h⟩;obtain⟨z,hz,e⟩:=List.mem_map.mp hy;rcases List.mem_cons.mp hz with q|q
   ·rw[<-e,q];exact h1
   ·have:=h.head z q;rw[<-e];show f<z.1;omega
  ·rw[if_neg h1];by_cases h2:f=x.1
   ·rw[if_pos h2];refine List.pairwise_cons.mpr ⟨λy hy=>?_,h.tail⟩;obtain⟨z,hz,e⟩:=List.mem_map.mp hy;have:=h.head z hz;rw[<-e];show f<z.1;omega
   ·rw[if_neg h2];refine List.pairwise_cons.mpr ⟨λy hy=>?_,lM h.tail⟩;obtain⟨z,hz,e⟩:=List.mem_map.mp hy;rcases(pQ h.tail).mp hz with q|q
    ·rw[<-e,q];show x.1<f;omega
    ·have:=h.head z q.1;rw[<-e];exact this
theorem yb:∀{t:aJ} {f:Nat} {c:List Nat},f∉t.map (·.1)->((putFile f c t).map (·.1)).Perm (t.map (·.1)++[f])
 |[],f,c,_=>by simp[putFile]
 |x::t,f,c,h=>by
  unfold putFile;by_cases h1:f<x.1
  ·rw[if_pos h1];show(f::(x::t).map (·.1)).Perm _;exact(List.perm_append_singleton f _).symm
  ·rw[if_neg h1];have h2:¬f=x.1:=λe=>h (List.mem_map.mpr ⟨x,List.mem_cons_self,e.symm⟩);rw[if_neg h2];show(x.1::(putFile f c t).map (·.1)).Perm (x.1::(t.map (·.1)++[f]));exact(yb λm=>h (by rw[List.map_cons];exact List.mem_cons_of_mem _ m)).cons _
theorem ya:∀{t:aJ},br t->∀{f:Nat} {c:List Nat},f∈t.map (·.1)->(putFile f c t).map (·.1)=t.map (·.1)
 |[],_,f,c,h=>by simp at h
 |x::t,hr,f,c,h=>by
  unfold putFile;by_cases h1:f<x.1
  ·exfalso;obtain⟨z,hz,e⟩:=List.mem_map.mp h;rcases List.mem_cons.mp hz with q|q
   ·rw[q] at e;omega
   ·have:=hr.head z q;omega
  ·rw[if_neg h1];by_cases h2:f=x.1
   ·rw[if_pos h2];show f::t.map (·.1)=x.1::t.map (·.1);rw[h2]
   ·rw[if_neg h2];show x.1::(putFile f c t).map (·.1)=x.1::t.map (·.1);rw[ya hr.tail];obtain⟨z,hz,e⟩:=List.mem_map.mp h;rcases List.mem_cons.mp hz with q|q
    ·rw[q] at e;exact absurd e.symm h2
    ·exact List.mem_map.mpr ⟨z,q,e⟩
theorem vK {t:aJ} {f:Nat} {y:Nat×List Nat}:y∈dropFile f t↔y∈t/\y.1≠f:=by
 unfold dropFile;rw[List.mem_filter];simp
theorem mI {t:aJ} (h:br t) {f:Nat}:br (dropFile f t):=by
 unfold br dropFile;exact h.sublist (List.Sublist.map _ List.filter_sublist)
theorem Ju {t:aJ} {f:Nat}:(dropFile f t).map (·.1)=(t.map (·.1)).filter λg=>g !=f:=by
 unfold dropFile
 induction t with
 |nil=>rfl
 |cons x t ih=>
  rw[List.filter_cons,List.map_cons,List.filter_cons];cases hx:x.1!=f with
  |true=>simp[hx,ih]
  |false=>simp[hx,ih]
def bc (n:Nat):Key:=Sum.inl (n:Int)
theorem pG {m n:Nat} (h:bc m=bc n):m=n:=by have:(m:Int)=n:=Sum.inl.inj h;omega
structure cE (K:PySem.W.Frag) (H:Hp) (kvs:List (Key×V)) (t:aJ):Prop where
 perm:(kvs.map (·.1)).Perm ((t.map (·.1)).map bc)
 rise:br t
 val:∀f c,(f,c)∈t->∃u,bL kvs (bc f)=some u/\bA K H u c
section
variable {K:PySem.W.Frag} {H H':Hp} {kvs:List (Key×V)} {t:aJ}
theorem cE.same (h:cE K H kvs t) (s:af H H'):cE K H' kvs t:=⟨h.perm,h.rise,λf c m=>let ⟨u,e,q⟩:=h.val f c m;⟨u,e,q.same s⟩⟩
theorem cE.some (h:cE K H kvs t) {f:Nat} {c:List Nat} (e:fileIn t f=some c):∃u,bL kvs (bc f)=some u/\bA K H u c:=h.val f c ((fZ h.rise).mp e)
theorem cE.none (h:cE K H kvs t) {f:Nat} (e:fileIn t f=none):bL kvs (bc f)=none:=by
 cases q:bL kvs (bc f) with
 |none=>rfl
 |some u=>
  have m:=h.perm.mem_iff.mp (Ts q);obtain⟨g,hg,e2⟩:=List.mem_map.mp m;rw[pG e2] at hg;exact absurd hg (vM.mp e)
theorem cE.len (h:cE K H kvs t):kvs.length=t.length:=by
 have:=h.perm.length_eq;rw[List.length_map,List.length_map,List.length_map] at this;exact this
theorem cE.put (h:cE K H kvs t) {f:Nat} {c:List Nat} {u:V} (q:bA K H u c):cE K H (putK kvs (bc f) u) (putFile f c t):=by
 refine⟨?_,lM h.rise,λg c' m=>?_⟩
 ·cases e:fileIn t f with
  |none=>
   rw[Pk u (h.none e),List.map_append];have p:=(yb (c:=c) (vM.mp e)).map bc;rw[List.map_append] at p;exact(h.perm.append_right _).trans p.symm
  |some c0=>
   have hm:f∈t.map (·.1):=List.mem_map.mpr ⟨(f,c0),(fZ h.rise).mp e,rfl⟩;rw[ya h.rise hm];obtain⟨u0,e0,_⟩:=h.some e;have:(putK kvs (bc f) u).map (·.1)=kvs.map (·.1):=by
    unfold putK;rw[if_pos (by rw[mw,e0];rfl),List.map_map];apply List.map_congr_left;intro x _;show(if x.1=bc f then (x.1,u) else x).1=x.1
    split<;>rfl
   rw[this];exact h.perm
 ·rw[uj];rcases(pQ h.rise).mp m with e|⟨m,n⟩
  ·cases e;exact⟨u,if_pos rfl,q⟩
  ·obtain⟨u0,e0,q0⟩:=h.val g c' m;exact⟨u0,(if_neg λz=>n (pG z)).trans e0,q0⟩
theorem Tr {kvs:List (Key×V)} {k j:Key} (h:j≠k):bL (dZ kvs k) j=bL kvs j:=by
 induction kvs with
 |nil=>rfl
 |cons p r ih=>
  by_cases e:p.1=k
  ·rw[Jy e,ih,fh (λz=>h (z.symm.trans e))]
  ·rw[Jx e];by_cases e2:p.1=j
   ·rw[fi e2,fi e2]
   ·rw[fh e2,fh e2,ih]
theorem Jv (kvs:List (Key×V)) (k:Key):(dZ kvs k).map (·.1)=(kvs.map (·.1)).filter λj=>decide (j≠k):=by
 unfold dZ
 induction kvs with
 |nil=>rfl
 |cons p r ih=>
  rw[List.filter_cons,List.map_cons,List.filter_cons];cases hx:decide (p.1≠k) with
  |true=>simp only[if_true,List.map_cons,ih]
  |false=>simp only[Bool.false_eq_true,if_false,ih]
theorem cE.drop (h:cE K H kvs t) {f:Nat}:cE K H (dZ kvs (bc f)) (dropFile f t):=by
 refine⟨?_,mI h.rise,λg c m=>?_⟩
 ·rw[Jv,Ju];have p:=h.perm.filter λj=>decide (j≠bc f);have e:((t.map (·.1)).map bc).filter (λj=>decide (j≠bc f))=((t.map (·.1)).filter λg=>g !=f).map bc:=by
   rw[List.filter_map];congr 1;apply List.filter_congr;intro g _;show decide (bc g≠bc f)=(g !=f)
   by_cases q:g=f
   ·subst q;simp
   ·rw[decide_eq_true (show bc g≠bc f from λz=>q (pG z))];simp[q]
  rw[e] at p;exact p
 ·obtain⟨m,n⟩:=vK.mp m;obtain⟨u,e,q⟩:=h.val g c m;exact⟨u,(Tr λz=>n (pG z)).trans e,q⟩
end
end PR
namespace PR
open PySem PySem.Spec PyProof.Rows L2
open VapatBase (fileIn putFile dropFile spliced applied swapAll)
def bJ (K:PySem.W.Frag) (H:Hp) (v:V) (t:aJ):Prop:=∃p kvs,v= .ref p/\H p=some (.dK kvs)/\cE K H kvs t
theorem bJ.same {H H':Hp} {v:V} {t:aJ} (h:bJ K H v t) (s:af H H'):bJ K H' v t:=by
 obtain⟨p,kvs,e,q,z⟩:=h;exact⟨p,kvs,e,s _ _ q,z.same s⟩
structure Small (b n:Nat) (t:aJ):Prop where
 toks:∀x∈t,x.2.length<=b
 files:t.length<=n
theorem Small.at {b n:Nat} {t:aJ} (h:Small b n t) (r:br t) {f:Nat} {c:List Nat} (e:fileIn t f=some c):c.length<=b:=h.toks (f,c) ((fZ r).mp e)
theorem BZ {H:Hp} {v:V} {ts:List Nat} (h:bA K H v ts):Dp K H v (.tuple (ts.map λ(n:Nat)=>PyData.int n)):=by
 obtain⟨p,rfl,q⟩:=h;refine .tup q ?_;clear q
 induction ts with
 |nil=>exact .nil
 |cons n ts ih=>exact .cons (.int _) ih
theorem FZ (ts:List Nat):SeqAt.shaped (.tuple (ts.map λ(n:Nat)=>PyData.int n))=true:=by
 unfold SeqAt.shaped;have h1:∀ts:List Nat,PyData.canLayAll0 (ts.map λ(n:Nat)=>PyData.int n)=true:=by
  intro ts
  induction ts with
  |nil=>rfl
  |cons n ts ih=>show(true&&_)=true;rw[ih];rfl
 have h2:∀ts:List Nat,PyData.depthAll (ts.map λ(n:Nat)=>PyData.int n)=0:=by
  intro ts
  induction ts with
  |nil=>rfl
  |cons n ts ih=>show max 0 _=0;rw[ih];rfl
 show(PyData.canLayAll0 (ts.map λ(n:Nat)=>PyData.int n)&&decide (PyData.depthAll (ts.map λ(n:Nat)=>PyData.int n)+1<=64))=true;rw[h1,h2];decide
theorem B6:∀ts us:List Nat,PyData.eqvAll (ts.map λ(n:Nat)=>PyData.int n) (us.map λ(n:Nat)=>PyData.int n)=decide (ts=us)
 |[],[]=>rfl
 |[],_::_=>rfl
 |_::_,[]=>rfl
 |t::ts,u::us=>by
  show(((t:Int)==(u:Int))&&PyData.eqvAll _ _)=_;rw[B6 ts us,uQ];by_cases h:t=u
  ·subst h;by_cases h2:ts=us
   ·subst h2;simp
   ·rw[decide_eq_false h2,Bool.and_false];exact(decide_eq_false λz=>h2 (List.cons.inj z).2).symm
  ·rw[beq_eq_false_iff_ne.mpr h,Bool.false_and];exact(decide_eq_false λz=>h (List.cons.inj z).1).symm
theorem Jd (ts:List Nat) (p q:Nat):cM (ts.map λ(n:Nat)=>V.int n) (some (p:Int)) (some (q:Int))=((ts.drop (min p ts.length)).take (min q ts.length-min p ts.length)).map λ(n:Nat)=>V.int n:=by
 unfold cM;rw[HT.iZ,HT.iZ,List.length_map,List.map_take,List.map_drop]
theorem Ja {c:List Nat} {p m:Nat} (h:p<=c.length):(c.drop (min p c.length)).take (min (p+m) c.length-min p c.length)=(c.drop p).take m:=by
 rw[show min p c.length=p by omega];by_cases hq:p+m<=c.length
 ·rw[show min (p+m) c.length-p=m by omega]
 ·rw[List.take_of_length_le (i:=min (p+m) c.length-p) (by rw[List.length_drop];omega),List.take_of_length_le (by rw[List.length_drop];omega)]
theorem Jb (ts:List Nat) (p:Nat):cM (ts.map λ(n:Nat)=>V.int n) (some (p:Int)) none=(ts.drop p).map λ(n:Nat)=>V.int n:=by
 unfold cM;rw[HT.iZ,HT.pT,List.length_map,List.map_drop];by_cases h:p<=ts.length
 ·rw[Nat.min_eq_left h];exact List.take_of_length_le (by rw[List.length_drop,List.length_map];omega)
 ·rw[Nat.min_eq_right (by omega),Nat.sub_self,List.take_zero,List.drop_eq_nil_of_le (by rw[List.length_map];omega)]
theorem Jc (ts:List Nat) (p:Nat):cM (ts.map λ(n:Nat)=>V.int n) none (some (p:Int))=(ts.take p).map λ(n:Nat)=>V.int n:=by
 unfold cM;rw[HT.iZ,HT.pT,List.length_map,List.map_take,List.drop_zero,Nat.sub_zero];by_cases h:p<=ts.length
 ·rw[Nat.min_eq_left h]
 ·rw[Nat.min_eq_right (by omega),List.take_of_length_le (by rw[List.length_map];omega),List.take_of_length_le (by rw[List.length_map];omega)]
theorem gK.tok {H:Hp} {xs:List V} {Q:VK} {ts:List Nat} (e:xs=ts.map λ(n:Nat)=>V.int n) (k:∀(v:V) (H':Hp),af H H'->bA K H' v ts->Q v H'):gK K H xs Q:=λp H' s h=>k _ H' s ⟨p,rfl,by rw[<-e];exact h⟩
def RF (K:PySem.W.Frag) (a:Ad):Sp:=λvs H Q _=>∃(v v2:V) (f p:Nat) (o n c:List Nat),vs=[v,v2]/\bz K a H v (.hunk f p o n)/\bA K H v2 c/\∀H':Hp,af H H'->Q (.bl (decide (p<=c.length/\(c.drop p).take o.length=o))) H'
theorem OD (T:Tx K mg a d):aA P w K mg base aL 1 a.kP d.kP ["hunk","tokens"] (RF K a):=by
 refine T.Cu.ok QM (λvs H Q E h=>?_) (λcdv A outer s H vs Q E hr h=>?_)
 ·obtain⟨v,v2,f,p,o,n,c,rfl,_⟩:=h;rfl
 ·obtain⟨v,v2,f,p,o,n,c,rfl,hs,hc,k⟩:=h;obtain⟨x,dx,vo,vn,rfl,hx,to,tn,lo,ln⟩:=id hs;obtain⟨po,rfl,qo⟩:=id to;obtain⟨pc,rfl,qc⟩:=id hc;have lm:∀l:List Nat,(l.map λ(n:Nat)=>V.int n).length=l.length:=λl=>List.length_map _;refine⟨_,ah (aO (aX nA (ao (pv 0) rfl) (bh bH (by rfl) T.bC PySem.boot_len (aa (pv 1) ae)) (aV _)) (aj (aq O0)) aP)
   (aj (aq (gA (EN hr.units) (fP zZ (pv 1) (fe (ao (pv 0) rfl)) (fe (bt eO (ao (pv 0) rfl) (bh bH (by rfl) T.bC PySem.boot_len (aa (ao (pv 0) rfl) ae))))) (ao (pv 0) rfl) (aV _)))),?_⟩
  refine⟨_,rfl,x,a.aN,dx,_,_,rfl,hx,T.bu,T.eY,fo,_,rfl,pc,_,rfl,.inr qc,_,_,rfl,rfl,_,rfl,bE (λhz=>?_) (λhz=>?_)⟩
  ·have hz:((c.map λ(n:Nat)=>V.int n).length:Int)<p:=of_decide_eq_true hz;rw[lm] at hz;have:decide (p<=c.length/\(c.drop p).take o.length=o)=false:=decide_eq_false (by omega);rw[this] at k;exact k H (af.refl _)
  ·have hz:¬((c.map λ(n:Nat)=>V.int n).length:Int)<p:=λe=>hz (decide_eq_true e);rw[lm] at hz;refine⟨_,rfl,_,rfl,x,a.aN,dx,_,_,rfl,hx,T.bu,T.eY,fo,_,rfl,_,rfl,x,a.aN,dx,_,_,rfl,hx,T.bu,T.eY,fo,_,rfl,x,a.aN,dx,_,_,rfl,hx,T.bu,T.fN,gc,po,_,rfl,.inr qo,_,_,rfl,rfl,_,rfl,pc,_,rfl,qc,?_⟩;refine gK.tok (ts:=(c.drop p).take o.length) ?_ λv H1 s1 t1=>?_
   ·rw[lm];have:=Jd c p (p+o.length);rw[show((p+o.length:Nat):Int)=(p:Int)+(o.length:Int) from rfl] at this;rw[this,Ja (by omega)]
   ·refine⟨_,rfl,x,a.aN,dx,_,_,rfl,s1 _ _ hx,T.bu,T.fN,gc,_,_,BZ t1,BZ (to.same s1),FZ _,FZ _,?_⟩;show Q (.bl (PyData.eqvAll _ _)) H1;rw[B6];have:decide ((c.drop p).take o.length=o)=decide (p<=c.length/\(c.drop p).take o.length=o):=by
     by_cases q:(c.drop p).take o.length=o
     ·rw[decide_eq_true q,decide_eq_true ⟨by omega,q⟩]
     ·rw[decide_eq_false q,decide_eq_false λz=>q z.2]
    rw[this];exact k H1 s1
def RE (K:PySem.W.Frag) (a:Ad):Sp:=λvs H Q _=>∃(v v2:V) (f p:Nat) (o n c:List Nat),vs=[v,v2]/\bz K a H v (.hunk f p o n)/\bA K H v2 c/\c.length<=1000/\
 ∀(H':Hp) (v':V),af H H'->bA K H' v' (c.take p++(n++c.drop (p+o.length)))->Q v' H'
theorem OC (T:Tx K mg a d):aA P w K mg base aL 1 a.kO d.kO ["hunk","tokens"] (RE K a):=by
 refine T.Ct.ok QL (λvs H Q E h=>?_) (λcdv A outer s H vs Q E hr h=>?_)
 ·obtain⟨v,v2,f,p,o,n,c,rfl,_⟩:=h;rfl
 ·obtain⟨v,v2,f,p,o,n,c,rfl,hs,hc,hlen,k⟩:=h;obtain⟨x,dx,vo,vn,rfl,hx,to,tn,lo,ln⟩:=id hs;obtain⟨po,rfl,qo⟩:=id to;obtain⟨pn,rfl,qn⟩:=id tn;obtain⟨pc,rfl,qc⟩:=id hc;have lm:∀l:List Nat,(l.map λ(n:Nat)=>V.int n).length=l.length:=λl=>List.length_map _;refine⟨_,aj (aq (bt EM (bt EM (fP zZ (pv 1) gC (fe (ao (pv 0) rfl))) (ao (pv 0) rfl))
   (fP zZ (pv 1) (fe (bt eO (ao (pv 0) rfl) (bh bH (by rfl) T.bC PySem.boot_len (aa (ao (pv 0) rfl) ae)))) gC))),?_⟩
  refine⟨_,rfl,_,rfl,x,a.aN,dx,_,_,rfl,hx,T.bu,T.eY,fo,_,rfl,pc,_,rfl,qc,gK.tok (Jc c p) λv1 H1 s1 t1=>?_⟩;obtain⟨p1,rfl,q1⟩:=id t1;obtain⟨_,e,qn1⟩:=tn.same s1;cases e;refine⟨_,rfl,x,a.aN,dx,_,_,rfl,s1 _ _ hx,T.bu,T.gz,gQ,p1,pn,_,_,rfl,rfl,q1,qn1,?_,gK.tok (ts:=c.take p++n) (List.map_append).symm λv2 H2 s2 t2=>?_⟩
  ·rw[lm,lm,List.length_take];exact Nat.le_trans (show _<=1000+8 by omega) (by rw[sizeLine_eq];decide)
  obtain⟨p2,rfl,q2⟩:=id t2;have s12:=s1.trans s2;obtain⟨_,e,qo2⟩:=to.same s12;cases e;obtain⟨_,e,qc2⟩:=hc.same s12;cases e;refine⟨_,rfl,_,rfl,x,a.aN,dx,_,_,rfl,s12 _ _ hx,T.bu,T.eY,fo,_,rfl,x,a.aN,dx,_,_,rfl,s12 _ _ hx,T.bu,T.fN,gc,po,_,rfl,.inr qo2,_,_,rfl,rfl,_,rfl,pc,_,rfl,qc2,gK.tok (ts:=c.drop (p+o.length)) ?_ λv3 H3 s3 t3=>?_⟩
  ·rw[lm];exact Jb c (p+o.length)
  obtain⟨p3,rfl,q3⟩:=id t3;obtain⟨_,e,q23⟩:=t2.same s3;cases e;refine⟨p2,p3,_,_,rfl,rfl,q23,q3,?_,gK.tok (ts:=c.take p++(n++c.drop (p+o.length))) ?_ λv4 H4 s4 t4=>k H4 v4 ((s12.trans s3).trans s4) t4⟩
  ·rw[lm,lm,List.length_append,List.length_take,List.length_drop];exact Nat.le_trans (show _<=1000+1000+8 by omega) (by rw[sizeLine_eq];decide)
  ·rw[<-List.map_append,List.append_assoc]
end PR
namespace PR
open PySem PySem.Spec PyProof.Rows L2
open VapatBase (fileIn putFile dropFile spliced applied swapAll)
section
variable {t:aJ} {f g p x y:Nat} {o n c c':List Nat}
theorem AH (e:fileIn t f=none):VapatBase.applied t (.hunk f p o n)=none:=by show(fileIn t f).bind _=none;rw[e];rfl
theorem AG (e:fileIn t f=some c):VapatBase.applied t (.hunk f p o n)=(VapatBase.spliced c p o n).map λd=>putFile f d t:=by show(fileIn t f).bind _=_;rw[e];rfl
theorem AJ (e:fileIn t f=none):VapatBase.applied t (.swap f x y)=none:=by show(fileIn t f).map _=none;rw[e];rfl
theorem AI (e:fileIn t f=some c):VapatBase.applied t (.swap f x y)=some (putFile f (swapAll x y c) t):=by show(fileIn t f).map _=_;rw[e];rfl
theorem uI (e:fileIn t f=none):VapatBase.applied t (.add f)=some (putFile f [] t):=by
 show(match fileIn t f with|none=>some (putFile f [] t)|some _=>none)=_;rw[e]
theorem uJ (e:fileIn t f=some c):VapatBase.applied t (.add f)=none:=by
 show(match fileIn t f with|none=>some (putFile f [] t)|some _=>none)=_;rw[e]
theorem uN (e:fileIn t f=some []):VapatBase.applied t (.remove f)=some (dropFile f t):=if_pos e
theorem qt (e:¬fileIn t f=some []):VapatBase.applied t (.remove f)=none:=if_neg e
theorem uK (e:fileIn t f=some c) (e2:fileIn t g=none):VapatBase.applied t (.move f g)=some (putFile g c (dropFile f t)):=by
 show(match fileIn t f,fileIn t g with|some c,none=>some (putFile g c (dropFile f t))|_,_=>none)=_;rw[e,e2]
theorem uL (e:fileIn t f=none):VapatBase.applied t (.move f g)=none:=by
 show(match fileIn t f,fileIn t g with|some c,none=>some (putFile g c (dropFile f t))|_,_=>none)=_;rw[e]
theorem uM (e:fileIn t g=some c):VapatBase.applied t (.move f g)=none:=by
 show(match fileIn t f,fileIn t g with|some c,none=>some (putFile g c (dropFile f t))|_,_=>none)=_;rw[e];cases fileIn t f<;>rfl
end
def RC (K:PySem.W.Frag) (a:Ad):Sp:=λvs H Q _=>∃(v v2:V) (p:ai) (t:aJ),vs=[v,v2]/\bz K a H v p/\bJ K H v2 t/\∀H':Hp,af H H'->Q (.bl (applied t p).isSome) H'
theorem Ey (T:Tx K mg a d):aA P w K mg base aL 2 a.fits d.fits ["step","tree"] (RC K a):=by
 refine T.vT.ok QI (λvs H Q E h=>?_) (λcdv A outer s H vs Q E hr h=>?_)
 ·obtain⟨v,v2,p,t,rfl,_⟩:=h;rfl
 ·obtain⟨v,v2,p,t,rfl,hs,ht,k⟩:=h;have hu:=iN hr;refine⟨_,ah (aO (de (pv 0) T.cF (by rfl) (by rfl) T.fK) (aj (aq (pN (nF (sU hu (ao (pv 0) rfl) (pv 1))) (nH (aB (OD T) hr (by rfl) T.M7 T.Cu.kp T.HK .nil au (aa (pv 0) (aa (ik hu (pv 1) (ao (pv 0) rfl) (λ_ _=>rfl)) ae))))))) aP)
   (ah (aO (de (pv 0) T.cF (by rfl) (by rfl) T.iQ) (aj (aq (nF (sU hu (ao (pv 0) rfl) (pv 1))))) aP)
   (ah (aO (de (pv 0) T.cF (by rfl) (by rfl) T.rS) (aj (aq (nF (E2 hu (ao (pv 0) rfl) (pv 1))))) aP)
   (ah (aO (de (pv 0) T.cF (by rfl) (by rfl) T.rW) (aj (aq (pN (nF (sU hu (ao (pv 0) rfl) (pv 1))) (nH (gA cH (bh bH (by rfl) T.bC PySem.boot_len (aa (ik hu (pv 1) (ao (pv 0) rfl) (λ_ _=>rfl)) ae)) aR (aV _)))))) aP)
   (aj (aq (pN (nF (sU hu (ao (pv 0) rfl) (pv 1))) (nH (nF (E2 hu (ao (pv 0) rfl) (pv 1)))))))))),?_⟩
  obtain⟨x,ty0,rfl,ty,i1,i2,i3,i4,i5⟩:=hs.hunk T;obtain⟨pt,kvs,rfl,hk,tk⟩:=id ht;cases p with
  |hunk f p o n=>
   obtain⟨_,dx,vo,vn,e,hx,_⟩:=id hs;cases e;refine⟨_,rfl,_,_,ty0,_,rfl,ty,i1,_,rfl,_,rfl,x,a.aN,dx,_,_,rfl,hx,T.bu,T.hU,iK,_,rfl,pt,_,rfl,cA.k (k:=bc f) hk,?_⟩;cases e:fileIn t f with
   |none=>
    have ea:applied t (.hunk f p o n)=none:=by show(fileIn t f).bind _=none;rw[e];rfl
    rw[tk.none e];rw[ea] at k;exact⟨false,rfl,k H (af.refl _)⟩
   |some c=>
    obtain⟨u,e2,q⟩:=tk.some e;have ea:(applied t (.hunk f p o n)).isSome=decide (p<=c.length/\(c.drop p).take o.length=o):=by
     show((fileIn t f).bind λc=>(spliced c p o n).map _).isSome=_;rw[e];show((spliced c p o n).map _).isSome=_;unfold VapatBase.spliced;by_cases q:p<=c.length/\(c.drop p).take o.length=o
     ·rw[if_pos q,decide_eq_true q];rfl
     ·rw[if_neg q,decide_eq_false q];rfl
    rw[e2];rw[ea] at k;exact⟨true,rfl,_,rfl,_,rfl,_,rfl,x,a.aN,dx,_,_,rfl,hx,T.bu,T.hU,iK,pt,u,rfl,by rw[<-e2];exact cA.k (k:=bc f) hk,_,_,f,p,o,n,c,rfl,hs,q,k⟩
  |swap f b c=>
   obtain⟨_,dx,e,hx⟩:=id hs;cases e;refine⟨_,rfl,_,_,ty0,_,rfl,ty,i1,_,rfl,_,rfl,_,_,ty0,_,rfl,ty,i2,_,rfl,_,rfl,x,a.bo,dx,_,_,rfl,hx,T.cY,T.nu,pk,_,rfl,pt,_,rfl,cA.k (k:=bc f) hk,?_⟩;cases e:fileIn t f with
   |none=>
    have ea:applied t (.swap f b c)=none:=by show(fileIn t f).map _=none;rw[e];rfl
    rw[tk.none e];rw[ea] at k;exact k H (af.refl _)
   |some c0=>
    obtain⟨u,e2,q⟩:=tk.some e;have ea:(applied t (.swap f b c)).isSome=true:=by show((fileIn t f).map _).isSome=true;rw[e];rfl
    rw[e2];rw[ea] at k;exact k H (af.refl _)
  |add f=>
   obtain⟨_,dx,e,hx⟩:=id hs;cases e;refine⟨_,rfl,_,_,ty0,_,rfl,ty,i1,_,rfl,_,rfl,_,_,ty0,_,rfl,ty,i2,_,rfl,_,rfl,_,_,ty0,_,rfl,ty,i3,_,rfl,_,rfl,x,a.bZ,dx,_,_,rfl,hx,T.mF,T.pJ,rA,_,rfl,pt,_,rfl,cA.k (k:=bc f) hk,?_⟩;cases e:fileIn t f with
   |none=>
    have ea:(applied t (.add f)).isSome=true:=by rw[uI e];rfl
    rw[tk.none e];rw[ea] at k;exact k H (af.refl _)
   |some c0=>
    obtain⟨u,e2,q⟩:=tk.some e;have ea:(applied t (.add f)).isSome=false:=by rw[uJ e];rfl
    rw[e2];rw[ea] at k;exact k H (af.refl _)
  |remove f=>
   obtain⟨_,dx,e,hx⟩:=id hs;cases e;refine⟨_,rfl,_,_,ty0,_,rfl,ty,i1,_,rfl,_,rfl,_,_,ty0,_,rfl,ty,i2,_,rfl,_,rfl,_,_,ty0,_,rfl,ty,i3,_,rfl,_,rfl,_,_,ty0,_,rfl,ty,i4,_,rfl,_,rfl,x,a.bX,dx,_,_,rfl,hx,T.kl,T.nj,pj,_,rfl,pt,_,rfl,cA.k (k:=bc f) hk,?_⟩;cases e:fileIn t f with
   |none=>
    have ea:(applied t (.remove f)).isSome=false:=by rw[qt (by rw[e];intro z;cases z)];rfl
    rw[tk.none e];rw[ea] at k;exact⟨false,rfl,k H (af.refl _)⟩
   |some c0=>
    obtain⟨u,e2,⟨pu,rfl,q⟩⟩:=tk.some e;have ea:(applied t (.remove f)).isSome=decide (c0.length=0):=by
     cases c0 with
     |nil=>rw[uN e];rfl
     |cons z zs=>rw[qt (by rw[e];intro z;cases z)];rfl
    rw[e2];rw[ea] at k;refine⟨true,rfl,_,rfl,_,rfl,x,a.bX,dx,_,_,rfl,hx,T.kl,T.nj,pj,pt,.ref pu,rfl,(by rw[<-e2];exact cA.k (k:=bc f) hk),pu,_,rfl,.inr q,rfl,?_⟩;have:decide (V.int ((c0.map λ(n:Nat)=>V.int n).length:Nat)=V.int 0)=decide (c0.length=0):=by
     rw[List.length_map];by_cases z:c0.length=0
     ·rw[z];rfl
     ·rw[decide_eq_false z,decide_eq_false λy=>z (by have:((c0.length:Nat):Int)=0:=V.int.inj y;omega)]
    rw[<-this] at k;exact k H (af.refl _)
  |move f g=>
   obtain⟨_,dx,e,hx⟩:=id hs;cases e;refine⟨_,rfl,_,_,ty0,_,rfl,ty,i1,_,rfl,_,rfl,_,_,ty0,_,rfl,ty,i2,_,rfl,_,rfl,_,_,ty0,_,rfl,ty,i3,_,rfl,_,rfl,_,_,ty0,_,rfl,ty,i4,_,rfl,_,rfl,x,a.Moved,dx,_,_,rfl,hx,T.eI,T.lx,mO,_,rfl,pt,_,rfl,cA.k (k:=bc f) hk,?_⟩;cases e:fileIn t f with
   |none=>
    have ea:(applied t (.move f g)).isSome=false:=by rw[uL e];rfl
    rw[tk.none e];rw[ea] at k;exact⟨false,rfl,k H (af.refl _)⟩
   |some c0=>
    obtain⟨u,e2,q⟩:=tk.some e;rw[e2];refine⟨true,rfl,_,rfl,x,a.Moved,dx,_,_,rfl,hx,T.eI,T.lq,mM,_,rfl,pt,_,rfl,cA.k (k:=bc g) hk,?_⟩;cases e3:fileIn t g with
    |none=>
     have ea:(applied t (.move f g)).isSome=true:=by rw[uK e e3];rfl
     rw[tk.none e3];rw[ea] at k;exact k H (af.refl _)
    |some c1=>
     obtain⟨u2,e4,q2⟩:=tk.some e3;have ea:(applied t (.move f g)).isSome=false:=by rw[uM e3];rfl
     rw[e4];rw[ea] at k;exact k H (af.refl _)
end PR
namespace PR
open PySem PySem.Spec PyProof.Rows L2
open VapatBase (fileIn putFile dropFile spliced applied swapAll)
theorem af.write {H H':Hp} {p:Addr} {o:HO} (s:af H H') (n:H p=none):af H (L2.upd H' p o):=λb u e=>by rw[aT (bq e n)];exact s b u e
theorem bA.eQ {H:Hp} {v:V} {ts:List Nat} {p:Addr} {kvs:List (Key×V)} {o:HO} (h:bA K H v ts) (hp:H p=some (.dK kvs)):bA K (upd H p o) v ts:=by
 obtain⟨q,e,z⟩:=h;refine⟨q,e,?_⟩;rcases z with (z|⟨ob,z⟩)|z
 ·exact .inl (.inl (by rw[aT (bP z hp (by intro y;cases y))];exact z))
 ·exact .inl (.inr ⟨ob,by rw[aT (bP z hp (by intro y;cases y))];exact z⟩)
 ·exact .inr z
theorem cE.eQ {H:Hp} {kvs kvs':List (Key×V)} {t:aJ} {p:Addr} {o:HO} (h:cE K H kvs t) (hp:H p=Option.some (HO.dK kvs')):cE K (upd H p o) kvs t:=⟨h.perm,h.rise,λf c m=>let ⟨u,e,q⟩:=h.val f c m;⟨u,e,q.eQ hp⟩⟩
theorem vN {n:Nat} (h:n<=100):n<sizeLine:=bU (by omega)
theorem ve:bootBuiltins "dict"=some (.type "dict"):=by decide+kernel
def Rr (K:PySem.W.Frag) (a:Ad):Sp:=λvs H Q _=>∃(v v2:V) (p:ai) (t u:aJ),vs=[v,v2]/\bz K a H v p/\bJ K H v2 t/\Small 1000 100 t/\applied t p=some u/\∀(H':Hp) (v':V),af H H'->bJ K H' v' u->Q v' H'
theorem Es (T:Tx K mg a d):aA P w K mg base aL 2 a.applied d.applied ["step","tree"] (Rr K a):=by
 refine T.vP.ok FO (λvs H Q E h=>?_) (λcdv A outer s H vs Q E hr h=>?_)
 ·obtain⟨v,v2,p,t,u,rfl,_⟩:=h;rfl
 ·obtain⟨v,v2,p,t,u,rfl,hs,ht,hsm,hap,k⟩:=h;have hu:=iN hr;refine⟨_,ah (aF (i:=2) FO.nd rfl (Or.inl rfl) (lH Ij (by rfl) T.ve ve (aa (pv 1) ae)))
   (ah (aO (de (pv 0) T.cF (by rfl) (by rfl) T.fK) (aj (nQ hu (pv 2) (ao (pv 0) rfl) (aB (OC T) hr (by rfl) T.M6 T.Ct.kp T.HJ .nil au (aa (pv 0) (aa (ik hu (pv 1) (ao (pv 0) rfl) (λ_ _=>rfl)) ae))) rfl))
    (aj (aO (de (pv 0) T.cF (by rfl) (by rfl) T.iQ) (aj (nQ hu (pv 2) (ao (pv 0) rfl) (aB (xO T) hr (by rfl) T.w8 T.rm.kp T.u4 .nil au (aa (ik hu (pv 1) (ao (pv 0) rfl) (λ_ _=>rfl)) (aa (pv 0) ae))) rfl))
    (aj (aO (de (pv 0) T.cF (by rfl) (by rfl) T.rS) (aj (nQ hu (pv 2) (ao (pv 0) rfl) (dP ae) rfl))
    (aj (aO (de (pv 0) T.cF (by rfl) (by rfl) T.rW) (aj (dH (E4 (pv 2) (ao (pv 0) rfl) ⟨rfl,rfl,rfl,rfl⟩)))
    (aj (nQ hu (pv 2) (ao (pv 0) rfl) (E4 (pv 2) (ao (pv 0) rfl) ⟨rfl,rfl,rfl,rfl⟩) rfl)))))))))
   (aj (aq (pv 2)))),?_⟩
  obtain⟨pt,kvs,rfl,hk,tk⟩:=id ht;refine⟨_,rfl,pt,kvs,rfl,hk,λc H1 nc s1 hc=>?_⟩
  replace hs:=hs.same s1
  replace hk:=s1 _ _ hk
  replace tk:=tk.same s1
  have nlen:kvs.length<sizeLine:=vN (by rw[tk.len];exact hsm.files);obtain⟨x,ty0,rfl,ty,i1,i2,i3,i4,i5⟩:=hs.hunk T;cases p with
  |hunk f p o n=>
   obtain⟨_,dx,vo,vn,e,hx,_⟩:=id hs;cases e;cases e:fileIn t f with
   |none=>rw[AH e] at hap;cases hap
   |some cc=>
    rw[AG e] at hap;obtain⟨uf,e2,q⟩:=tk.some e;have hsp:(p<=cc.length/\(cc.drop p).take o.length=o):=by
     by_cases z:p<=cc.length/\(cc.drop p).take o.length=o
     ·exact z
     ·unfold VapatBase.spliced at hap;rw[if_neg z] at hap;cases hap
    have hap:putFile f (cc.take p++(n++cc.drop (p+o.length))) t=u:=by
     unfold VapatBase.spliced at hap;rw[if_pos hsp] at hap;exact Option.some.inj hap
    refine⟨_,rfl,_,_,ty0,_,rfl,ty,i1,_,rfl,_,rfl,_,rfl,_,rfl,x,a.aN,dx,_,_,rfl,hx,T.bu,T.hU,iK,pt,uf,rfl,(by rw[<-e2];exact cA.k (k:=bc f) hk),_,_,f,p,o,n,cc,rfl,hs,q,hsm.at tk.rise e,λH2 v2 s2 t2=>?_⟩;have hc2:=s2 _ _ hc;refine⟨_,rfl,_,rfl,x,a.aN,dx,_,_,rfl,s2 _ _ hx,T.bu,T.hU,iK,c,_,rfl,gn.k (k:=bc f) hc2 nlen,_,rfl,?_⟩;refine k _ _ (af.write (s1.trans s2) nc) ⟨c,_,rfl,az,?_⟩;rw[<-hap];exact((tk.same s2).eQ hc2).put (t2.eQ hc2)
  |swap f b1 b2=>
   obtain⟨_,dx,e,hx⟩:=id hs;cases e;cases e:fileIn t f with
   |none=>rw[AJ e] at hap;cases hap
   |some cc=>
    rw[AI e] at hap;have hap:=Option.some.inj hap;obtain⟨uf,e2,q⟩:=tk.some e;refine⟨_,rfl,_,_,ty0,_,rfl,ty,i1,_,rfl,_,rfl,_,_,ty0,_,rfl,ty,i2,_,rfl,_,rfl,_,rfl,x,a.bo,dx,_,_,rfl,hx,T.cY,T.nu,pk,pt,uf,rfl,(by rw[<-e2];exact cA.k (k:=bc f) hk),_,rfl,_,_,cc,f,b1,b2,rfl,q,hsm.at tk.rise e,hs,λH2 v2 s2 t2=>?_⟩;have hc2:=s2 _ _ hc;refine⟨_,rfl,_,rfl,x,a.bo,dx,_,_,rfl,s2 _ _ hx,T.cY,T.nu,pk,c,_,rfl,gn.k (k:=bc f) hc2 nlen,_,rfl,?_⟩;refine k _ _ (af.write (s1.trans s2) nc) ⟨c,_,rfl,az,?_⟩;rw[<-hap];exact((tk.same s2).eQ hc2).put (t2.eQ hc2)
  |add f=>
   obtain⟨_,dx,e,hx⟩:=id hs;cases e;cases e:fileIn t f with
   |some cc=>rw[uJ e] at hap;cases hap
   |none=>
    rw[uI e] at hap;have hap:=Option.some.inj hap;refine⟨_,rfl,_,_,ty0,_,rfl,ty,i1,_,rfl,_,rfl,_,_,ty0,_,rfl,ty,i2,_,rfl,_,rfl,_,_,ty0,_,rfl,ty,i3,_,rfl,Nat.zero_le _,λp2 H2 n2 s2 e2=>?_⟩;have hc2:=s2 _ _ hc;refine⟨_,rfl,_,rfl,x,a.bZ,dx,_,_,rfl,s2 _ _ hx,T.mF,T.pJ,rA,c,_,rfl,gn.k (k:=bc f) hc2 nlen,_,rfl,?_⟩;refine k _ _ (af.write (s1.trans s2) nc) ⟨c,_,rfl,az,?_⟩;rw[<-hap];exact((tk.same s2).eQ hc2).put (bA.eQ (bA.tup (ts:=[]) e2 rfl) hc2)
  |remove f=>
   obtain⟨_,dx,e,hx⟩:=id hs;cases e;by_cases e:fileIn t f=some []
   ·rw[uN e] at hap;have hap:=Option.some.inj hap;obtain⟨uf,e2,q⟩:=tk.some e;refine⟨_,rfl,_,_,ty0,_,rfl,ty,i1,_,rfl,_,rfl,_,_,ty0,_,rfl,ty,i2,_,rfl,_,rfl,_,_,ty0,_,rfl,ty,i3,_,rfl,_,rfl,_,_,ty0,_,rfl,ty,i4,_,rfl,_,rfl,c,rfl,.inl ⟨_,.inl hc⟩,_,rfl,x,a.bX,dx,_,_,rfl,hx,T.kl,T.nj,pj,kvs,bc f,uf,hc,rfl,e2,_,rfl,?_⟩;refine k _ _ (af.write s1 nc) ⟨c,_,rfl,az,?_⟩;rw[<-hap];exact(tk.eQ hc).drop
   ·rw[qt e] at hap;cases hap
  |move f g=>
   obtain⟨_,dx,e,hx⟩:=id hs;cases e;cases e:fileIn t f with
   |none=>rw[uL e] at hap;cases hap
   |some cc=>
    cases e3:fileIn t g with
    |some c1=>rw[uM e3] at hap;cases hap
    |none=>
     rw[uK e e3] at hap;have hap:=Option.some.inj hap;obtain⟨uf,e2,q⟩:=tk.some e;have nxc:x≠c:=bP hx hc (by intro z;cases z);have hx2:(upd H1 c (.dK (dZ kvs (bc f)))) x=some (.ins a.Moved dx (iL (.int f) (.int g))):=by rw[aT nxc];exact hx
     refine⟨_,rfl,_,_,ty0,_,rfl,ty,i1,_,rfl,_,rfl,_,_,ty0,_,rfl,ty,i2,_,rfl,_,rfl,_,_,ty0,_,rfl,ty,i3,_,rfl,_,rfl,_,_,ty0,_,rfl,ty,i4,_,rfl,_,rfl,c,rfl,.inl ⟨_,.inl hc⟩,_,rfl,x,a.Moved,dx,_,_,rfl,hx,T.eI,T.lx,mO,kvs,bc f,uf,hc,rfl,e2,
      _,rfl,_,rfl,x,a.Moved,dx,_,_,rfl,hx2,T.eI,T.lq,mM,c,_,rfl,gn.k (k:=bc g) az ?_,_,rfl,?_⟩
     ·have:=(tk.drop (f:=f)).len;rw[this];exact vN (Nat.le_trans (by unfold VapatBase.dropFile;exact List.length_filter_le _ _) hsm.files)
     ·rw[eF];refine k _ _ (af.write s1 nc) ⟨c,_,rfl,az,?_⟩;rw[<-hap];exact((tk.eQ hc).drop).put (q.eQ hc)
end PR
namespace PR
open PySem PySem.Spec PyProof.Rows L2
open VapatBase (fileIn putFile dropFile flatTree listed)
theorem kg:bootBuiltins "sorted"=some (.builtin "sorted"):=by decide+kernel
theorem z6:∀{l m:List Int},l.Perm m->l.Pairwise (·<=·)->m.Pairwise (·<=·)->l=m
 |[],m,p,_,_=>by rw[List.Perm.eq_nil p.symm]
 |x::l,[],p,_,_=>absurd p.length_eq (by simp)
 |x::l,y::m,p,h1,h2=>by
  have a1:=(List.pairwise_cons.mp h1).1;have a2:=(List.pairwise_cons.mp h2).1;have e:x=y:=by
   have m1:x∈y::m:=p.mem_iff.mp List.mem_cons_self;have m2:y∈x::l:=p.mem_iff.mpr List.mem_cons_self;rcases List.mem_cons.mp m1 with q|q
   ·exact q
   ·rcases List.mem_cons.mp m2 with q2|q2
    ·exact q2.symm
    ·have:=a1 y q2;have:=a2 x q;omega
  subst e;rw[z6 ((List.perm_cons x).mp p) (List.pairwise_cons.mp h1).2 (List.pairwise_cons.mp h2).2]
theorem JJ {t:aJ} {i:Nat} {x:Nat×List Nat} (h:t[i]?=some x):((t.take (i+1)).flatMap λx=>VapatBase.int x.1::listed x.2)=((t.take i).flatMap λx=>VapatBase.int x.1::listed x.2)++(VapatBase.int x.1::listed x.2):=by
 rw[take_snoc h,List.flatMap_append];simp
theorem Cc {b:Nat}:∀{t:aJ},(∀x∈t,x.2.length<=b)->(t.flatMap λx=>VapatBase.int x.1::listed x.2).length<=t.length*(b+2)
 |[],_=>by simp
 |x::t,h=>by
  have ih:=Cc (t:=t) λy hy=>h y (List.mem_cons_of_mem _ hy);have hx:=h x List.mem_cons_self;rw[List.flatMap_cons,List.length_append,List.length_cons,List.length_cons];have:(VapatBase.listed x.2).length=x.2.length+1:=by unfold VapatBase.listed VapatBase.ints;simp
  rw[this,Nat.succ_mul];omega
def uh:Key->Int
 | .inl i=>i
 | .inr _=>0
theorem Mg {l:List Key} {m:List Int} (h:l.Perm (m.map Sum.inl)):∃ns:List Int,l=ns.map Sum.inl/\ns.Perm m:=by
 refine⟨l.map uh,?_,?_⟩
 ·rw[List.map_map];refine Eq.trans (List.map_id _).symm (List.map_congr_left λk hk=>?_);obtain⟨i,_,e⟩:=List.mem_map.mp (h.mem_iff.mp hk);subst e;rfl
 ·have:=h.map uh;rw[List.map_map] at this;have e:m.map (uh∘Sum.inl)=m:=by
   rw[show(uh∘Sum.inl:Int->Int)=id from rfl,List.map_id]
  rw[e] at this;exact this
theorem P1 {t:aJ} (h:br t):(t.map λx=>(x.1:Int)).Pairwise (·<=·):=by
 have:(t.map λx=>(x.1:Int))=(t.map (·.1)).map λ(n:Nat)=>(n:Int):=by rw[List.map_map];rfl
 rw[this,List.pairwise_map];exact List.Pairwise.imp (λ{a b} (q:a<b)=>by show(a:Int)<=b;omega) h
theorem bA.Tq {H:Hp} {v:V} {ts:List Nat} {p:Addr} {xs:List V} {o:HO} (h:bA K H v ts) (hp:H p=Option.some (HO.lst xs)):bA K (upd H p o) v ts:=by
 obtain⟨q,e,z⟩:=h;refine⟨q,e,?_⟩;rcases z with (z|⟨ob,z⟩)|z
 ·exact .inl (.inl (by rw[aT (bP z hp (by intro y;cases y))];exact z))
 ·exact .inl (.inr ⟨ob,by rw[aT (bP z hp (by intro y;cases y))];exact z⟩)
 ·exact .inr z
theorem bA.xL {H H':Hp} {v:V} {ts:List Nat} {p:Addr} {xs:List V} (h:bA K H v ts) (S:ax p H H') (hp:H p=Option.some (HO.lst xs)):bA K H' v ts:=by
 obtain⟨q,e,z⟩:=h;refine⟨q,e,?_⟩;rcases z with (z|⟨ob,z⟩)|z
 ·exact .inl (.inl (S _ _ z (bP z hp (by intro y;cases y))))
 ·exact .inl (.inr ⟨ob,S _ _ z (bP z hp (by intro y;cases y))⟩)
 ·exact .inr z
theorem mX {n:Nat} (h:n<=100000):n<sizeLine:=Nat.lt_of_le_of_lt h (by rw[sizeLine_eq];decide)
def R7 (K:PySem.W.Frag) (a:Ad):Sp:=λvs H Q _=>∃(v:V) (t:aJ),vs=[v]/\bJ K H v t/\Small 1000 60 t/\∀(H':Hp) (v':V),af H H'->dW H H' v' (flatTree t)->Q v' H'
theorem ax.sq {L:Addr} {H H':Hp} {p:Addr} {xs ys:List V} (S:ax L H H') (h:ba K H p xs) (hL:H L=some (.lst ys)):ba K H' p xs:=by
 rcases h with (z|⟨ob,z⟩)|z
 ·exact .inl (.inl (S _ _ z (bP z hL (by intro y;cases y))))
 ·exact .inl (.inr ⟨ob,S _ _ z (bP z hL (by intro y;cases y))⟩)
 ·exact .inr z
theorem OQ (T:Tx K mg a d):aA P w K mg base aL 1 a.mn d.mn ["tree"] (R7 K a):=by
 refine T.CK.ok zY (λvs H Q E h=>?_) (λcdv A outer s H vs Q E hr h=>?_)
 ·obtain⟨v,t,rfl,_⟩:=h;rfl
 ·obtain⟨v,t,rfl,⟨p,kvs,rfl,hp,tk⟩,hsm,k⟩:=h;have hu:=iN hr;refine⟨_,ah (aF (i:=1) zY.nd rfl (Or.inl rfl) (bj (aa (bh Bq (by rfl) T.bC PySem.boot_len (aa (pv 0) ae)) ae)))
   (ah (fD PassesOwn.never rfl (dQ (bh (IC rfl) (by rfl) T.kg kg (aa (pv 0) ae))) (cj (i:=2) zY.nd rfl (Or.inl rfl))
    (ah (dH (eC PySem.F.plainAttrs_list PySem.F.slot_list_append PySem.F.type_list_append hJ (pv 1) (aa (pv 2) ae)))
    (ah (dH (eC PySem.F.plainAttrs_list PySem.F.slot_list_append PySem.F.type_list_append hJ (pv 1) (aa (bh bH (by rfl) T.bC PySem.boot_len (aa (ik hu (pv 0) (pv 2) (λ_ _=>rfl)) ae)) ae)))
    (aj (dH (eC PySem.F.plainAttrs_list PySem.F.slot_list_extend PySem.F.type_list_extend Nz (pv 1) (aa (ik hu (pv 0) (pv 2) (λ_ _=>rfl)) ae)))))))
   (aj (aq (pv 1)))),?_⟩
  refine⟨_,rfl,p,kvs,rfl,hp,(by show 1<=sizeLine;decide),λL H1 nL s1 hL=>?_⟩;have hkeys:(kvs.map (·.1)).Perm ((t.map λx=>(x.1:Int)).map Sum.inl):=by
   have:=tk.perm;rw[List.map_map] at this⊢;exact this
  obtain⟨ns,hns,pns⟩:=Mg hkeys;refine⟨_,rfl,p,kvs,ns,rfl,s1 _ _ hp,hns,?_,λns' h1 h2 S H2 nS s2 hS=>?_⟩
  ·rw[pns.length_eq,List.length_map];have:=hsm.files;omega
  have e:ns'=t.map λx=>(x.1:Int):=z6 (h1.trans pns) h2 (P1 tk.rise);subst e;have nSL:S≠L:=Ne.symm (bq hL nS);have npL:p≠L:=bq hp nL;have tk2:=(tk.same s1).same s2;have hp2:=s2 _ _ (s1 _ _ hp);have flen:∀i,((t.take i).flatMap λx=>VapatBase.int x.1::listed x.2).length<=61000:=λi=>by
   have h1:=Cc (b:=1000) (t:=t.take i) λx hx=>hsm.toks x (List.mem_of_mem_take hx);have h2:(t.take i).length<=60:=by rw[List.length_take];have:=hsm.files;omega
   have h3:(t.take i).length*(1000+2)<=60*(1000+2):=Nat.mul_le_mul_right _ h2;omega
  refine⟨S,rfl,⟨_,ak.of hS⟩,kG (K:=K) (a:=S) (xs:=(t.map λx=>(x.1:Int)).map V.int) (λi σ H'=>∃v2:Option V,σ=[some (.ref p),some (.ref L),v2]/\ax L H2 H'/\
   H' L=some (.lst ((VapatBase.int t.length::((t.take i).flatMap λx=>VapatBase.int x.1::listed x.2)).map V.int))) ?_ ?_ ?_ ?_⟩
  ·exact⟨none,rfl,ax.refl _ _,by rw[s2 _ _ hL,tk.len];rfl⟩
  ·rintro i σ H' _ ⟨_,_,S3,_⟩;exact ak.of (S3 _ _ hS nSL)
  ·rintro i y σ H' hy ⟨v2,rfl,S3,hL3⟩;obtain⟨x,hx,rfl⟩:∃x,t[i]?=some x/\y=V.int (x.1:Nat):=by
    rw[List.getElem?_map,List.getElem?_map] at hy;cases e:t[i]? with
    |none=>rw[e] at hy;cases hy
    |some x=>rw[e] at hy;exact⟨x,rfl,(Option.some.inj hy).symm⟩
   obtain⟨u,eu,qu⟩:=tk2.val x.1 x.2 (List.mem_of_getElem? hx);have qu3:=qu.xL S3 (s2 _ _ hL);have hp3:=S3 _ _ hp2 npL;have hxl:=hsm.toks x (List.mem_of_getElem? hx);have hfl:=flen i;refine⟨_,rfl,.inl ⟨rfl,_,ak.of hL3⟩,_,rfl,L,_,_,rfl,rfl,hL3,?_,?_⟩
   ·rw[List.length_map,List.length_cons];exact mX (by omega)
   have hp4:∀o,(upd H' L o) p=some (.dK kvs):=λo=>by rw[aT npL];exact hp3
   have qu4:∀o,bA K (upd H' L o) u x.2:=λo=>qu3.Tq hL3;obtain⟨pu,rfl,qs⟩:=id (qu4 (.lst (((VapatBase.int t.length::((t.take i).flatMap λx=>VapatBase.int x.1::listed x.2)).map V.int)++[V.int (x.1:Nat)])));refine⟨_,rfl,.inl ⟨rfl,_,ak.of az⟩,_,rfl,_,rfl,p,.ref pu,rfl,(by rw[<-eu];exact cA.k (k:=bc x.1) (hp4 _)),pu,_,rfl,.inr qs,L,_,_,rfl,rfl,az,?_,?_⟩
   ·rw[List.length_append,List.length_map,List.length_cons];exact mX (by show _+1+1<=_;omega)
   rw[eF];obtain⟨_,e5,qs5⟩:=id (qu4 (.lst ((((VapatBase.int t.length::((t.take i).flatMap λx=>VapatBase.int x.1::listed x.2)).map V.int)++[V.int (x.1:Nat)])++[V.int ((x.2.map λ(n:Nat)=>V.int n).length:Nat)])));cases e5;refine⟨_,rfl,.inl ⟨rfl,_,ak.of az⟩,_,rfl,_,rfl,p,.ref pu,rfl,(by rw[<-eu];exact cA.k (k:=bc x.1) (hp4 _)),L,pu,_,_,rfl,rfl,az,qs5,?_,?_⟩
   ·rw[List.length_append,List.length_append,List.length_map,List.length_cons,List.length_map];exact Nat.le_of_lt (mX (by show _+1+1+1+_<=_;omega))
   rw[eF];refine⟨_,rfl,λb o eb nb=>by rw[aT nb];exact S3 b o eb nb,?_⟩;rw[az,JJ hx,List.length_map,wF];show some (HO.lst _)=some (HO.lst ((VapatBase.int t.length::(((t.take i).flatMap λx=>VapatBase.int x.1::listed x.2)++((x.1:Int)::((x.2.length:Nat):Int)::VapatBase.ints x.2))).map V.int));simp only[List.map_append,List.map_cons,List.map_nil,List.append_assoc,List.cons_append,List.nil_append]
  ·rintro σ H' ⟨v2,rfl,S3,hL3⟩;rw[List.length_map,List.length_map,List.take_length] at hL3;exact⟨_,rfl,k H' (.ref L) (af.bY (s1.trans s2) S3 nL) ⟨λl e=>by cases e;exact nL,L,rfl,hL3⟩⟩
end PR
namespace PR
open PySem PySem.Spec PyProof.Rows L2
open VapatBase (fileIn putFile dropFile readNat readPair readTokens readListed readTimes whole)
def fS:VapatBase.Reader (Nat×List Nat):=readPair (readNat 0 9) (readTokens 12)
theorem Fn:∀{t:aJ} {f:Nat} {c:List Nat},(∀x∈t,x.1<f)->putFile f c t=t++[(f,c)]
 |[],f,c,_=>rfl
 |x::t,f,c,h=>by
  have hx:=h x List.mem_cons_self;unfold putFile;rw[if_neg (by omega),if_neg (by omega),Fn λy hy=>h y (List.mem_cons_of_mem _ hy)];rfl
theorem yh:∀l:List Nat,Vapatb.rises l=true↔l.Pairwise (· < ·)
 |[]=>by simp[Vapatb.rises]
 |[x]=>by simp[Vapatb.rises]
 |x::y::l=>by
  show(decide (x<y)&&Vapatb.rises (y::l))=true↔_;rw[Bool.and_eq_true,decide_eq_true_eq,yh (y::l),List.pairwise_cons (a:=x)];constructor
  ·rintro⟨h,p⟩;refine⟨λz hz=>?_,p⟩;rcases List.mem_cons.mp hz with q|q
   ·rw[q];exact h
   ·exact Nat.lt_trans h ((List.pairwise_cons.mp p).1 z q)
  ·rintro⟨h,p⟩;exact⟨h y List.mem_cons_self,p⟩
theorem PY (x:List Int):Vapatb.readTree x=(readNat 0 6 x).bind λn=>(readTimes fS n.1 n.2).bind λu=>if Vapatb.rises (u.1.map λy=>y.1) then some u else none:=by
 show((readNat 0 6 x).bind λn=>readTimes fS n.1 n.2).bind _=_;cases readNat 0 6 x<;>rfl
theorem NQ {R:Option (aJ×List Int)} {fs:aJ} {f:Nat} {c:List Nat} {X:Option (aJ×List Int)} (h:∃y∈fs,¬y.1<f) (e:R=X.map λv=>(fs++(f,c)::v.1,v.2)):
 (R.bind λu=>if Vapatb.rises (u.1.map λy=>y.1) then some u else none)=none:=by
 subst e;cases X with
 |none=>rfl
 |some v=>
  show(if Vapatb.rises ((fs++(f,c)::v.1).map λy=>y.1) then _ else none)=none;rw[if_neg];intro q;have:=(yh _).mp q;rw[List.map_append,List.pairwise_append] at this;obtain⟨y,hy,n⟩:=h;exact n (this.2.2 y.1 (List.mem_map.mpr ⟨y,hy,rfl⟩) f (by simp))
theorem PM {lo hi f:Nat} {x r:List Int} (h:readNat lo hi x=some (f,r)):readNat 0 hi x=some (f,r):=by
 cases x with
 |nil=>cases h
 |cons z y=>
  have h:(if (lo:Int)<=z/\z<=(hi:Int) then some (z.toNat,y) else none)=some (f,r):=h;by_cases q:(lo:Int)<=z/\z<=(hi:Int)
  ·rw[if_pos q] at h;rw[<-h];exact if_pos ⟨by show(0:Int)<=z;omega,q.2⟩
  ·rw[if_neg q] at h;cases h
theorem PL {lo hi f:Nat} {x r:List Int} (h:readNat lo hi x=none) (h0:readNat 0 hi x=some (f,r)):f<lo:=by
 cases x with
 |nil=>cases h0
 |cons z y=>
  have h:(if (lo:Int)<=z/\z<=(hi:Int) then some (z.toNat,y) else none)=none:=h;have h0:(if (0:Int)<=z/\z<=(hi:Int) then some (z.toNat,y) else none)=some (f,r):=h0;by_cases q:(0:Int)<=z/\z<=(hi:Int)
  ·rw[if_pos q] at h0;cases h0;by_cases q2:(lo:Int)<=z/\z<=(hi:Int)
   ·rw[if_pos q2] at h;cases h
   ·omega
  ·rw[if_neg q] at h0;cases h0
theorem PK {x:List Int} (h:readNat 0 9 x=none):fS x=none:=by
 show(readNat 0 9 x).bind _=none;rw[h];rfl
theorem Fs {x r:List Int} {f:Nat} (h:readNat 0 9 x=some (f,r)) (h2:readTokens 12 r=none):fS x=none:=by
 show(readNat 0 9 x).bind (λu=>(readTokens 12 u.2).map _)=none;rw[h];show(readTokens 12 r).map _=none;rw[h2];rfl
theorem Ft {x r r2:List Int} {f:Nat} {c:List Nat} (h:readNat 0 9 x=some (f,r)) (h2:readTokens 12 r=some (c,r2)):fS x=some ((f,c),r2):=by
 show(readNat 0 9 x).bind (λu=>(readTokens 12 u.2).map _)=_;rw[h];show(readTokens 12 r).map _=_;rw[h2];rfl
theorem cE.x {H H':Hp} {kvs:List (Key×V)} {t:aJ} {r C dx:Addr} {fs:List (Str×V)} (h:cE K H kvs t) (S:ax r H H') (hr:H r=Option.some (HO.ins C dx fs)):cE K H' kvs t:=
 ⟨h.perm,h.rise,λf c m=>let ⟨u,e,q⟩:=h.val f c m;⟨u,e,q.x S hr⟩⟩
theorem cE.nil {H:Hp}:cE K H [] []:=⟨List.Perm.refl _,List.Pairwise.nil,λf c m=>by cases m⟩
theorem cJ.eQ {H:Hp} {r l D:Addr} {ns:List Int} {j:Nat} {kvs:List (Key×V)} {o:HO} (R:cJ K a H r l ns j) (hD:H D=some (.dK kvs)):cJ K a (upd H D o) r l ns j:=by
 obtain⟨⟨dx,h⟩,hl,ne⟩:=R;refine⟨⟨dx,by rw[aT (bP h hD (by intro z;cases z))];exact h⟩,?_,ne⟩;rcases hl with (h|⟨ob,h⟩)|h
 ·exact .inl (.inl (by rw[aT (bP h hD (by intro z;cases z))];exact h))
 ·exact .inl (.inr ⟨ob,by rw[aT (bP h hD (by intro z;cases z))];exact h⟩)
 ·exact .inr h
theorem OP (T:Tx K mg a d):aA P w K mg base (dJ P w) 4 a.mm d.mm ["numbers"] (Gg a (whole Vapatb.readTree) λt v H=>bJ K H v t):=by
 refine T.CJ.fz lZ (λvs H Q E h=>?_) (λcdv A outer s H vs Q E hr h=>?_)
 ·obtain⟨l,ns,rfl,_⟩:=h;rfl
 ·obtain⟨l,ns,rfl,hl,k⟩:=h;have hu:=iN hr;obtain⟨t1,ht1⟩:=T.IM;obtain⟨t2,ht2⟩:=T.BI;obtain⟨t3,ht3⟩:=T.IP;refine⟨_,ah (aF (i:=1) lZ.nd rfl (Or.inl rfl) (di T.xc (xF T) (hr.mono (by decide)) (by rfl) T.wW T.uT .nil au (aa (pv 0) ae)))
   (ah (aF (i:=2) lZ.nd rfl (Or.inl rfl) O2)
   (ah (aF (i:=3) lZ.nd rfl (Or.inl rfl) aR)
   (ah (fD PassesOwn.leaving rfl (pO (by rfl) T.kf (aa (cI (pv 1) T.bR T.gZ (h9 T) (hr.mono (by decide)) T.gM .nil bF.passes (aa aR (aa (aU (v:= .int 6) (by rfl) ht1 ⟨_,rfl⟩) ae))) ae))
    (cj (i:=4) lZ.nd rfl (Or.inl rfl))
    (ah (aF (i:=5) lZ.nd rfl (Or.inl rfl) (cI (pv 1) T.bR T.gZ (h9 T) (hr.mono (by decide)) T.gM .nil bF.passes (aa (pv 3) (aa (aU (v:= .int 9) (by rfl) ht2 ⟨_,rfl⟩) ae))))
    (ah (nQ hu (pv 2) (pv 5) (cI (pv 1) T.bR T.wU (xJ T) hr T.uW .nil bF.passes (aa (aU (v:= .int 12) (by rfl) ht3 ⟨_,rfl⟩) ae)) rfl)
    (aj (aF (i:=3) lZ.nd rfl (Or.inl rfl) (bt eO (pv 5) aR))))))
   (ah (dH (dk (pv 1) T.bR T.wQ (xG T) (hr.mono (by decide)) T.uU .nil bF.passes))
   (aj (aq (pv 2))))))),?_⟩
  refine⟨_,rfl,?_⟩;intro r dx nr nd ne;refine⟨r,dx,_,rfl,az,rfl,?_⟩;have s1:=eK (o1:= .own r) (o2:= .ins a.Reader dx []) (o3:= .ins a.Reader dx (cw (.ref l) (.int 0))) nr nd;have h1:(upd (upd (upd H dx (.own r)) r (.ins a.Reader dx [])) r (.ins a.Reader dx (cw (.ref l) (.int 0)))) r=some (.ins a.Reader dx (cw (.ref l) (.int 0))):=az;generalize upd (upd (upd H dx (.own r)) r (.ins a.Reader dx [])) r (.ins a.Reader dx (cw (.ref l) (.int 0)))=H1 at s1 h1⊢;intro D nD;have s2:af H1 (upd H1 D (.dK [])):=af.new nD;have hD:(upd H1 D (.dK [])) D=some (.dK []):=az;generalize upd H1 D (.dK [])=H2 at s2 hD⊢;have R2:cJ K a H2 r l ns 0:=⟨⟨dx,s2 _ _ h1⟩,ak.of (s2 _ _ (s1 _ _ hl)),bq hl nr⟩
  have HD:H D=none:=s1.free nD;have nDr:D≠r:=Ne.symm (bq h1 nD);have s02:=s1.trans s2;unfold whole at k;rw[PY] at k;refine⟨_,rfl,r,dx,_,rfl,s2 _ _ h1,gR,r,l,ns,0,0,6,rfl,R2,Nat.zero_le _,?_⟩;unfold bx;rw[List.drop_zero];cases e:readNat 0 6 ns with
  |none=>
   rw[e] at k;exact λH' S=>k H' (af.bY s02 S nr)
  |some u=>
   obtain⟨n,rest⟩:=u;rw[e] at k;have hn:=(fg e).2;intro H3 v j R3 hd hj S3 hv;have hv:v= .int n:=hv;subst hv hd;have kN:((readTimes fS n (ns.drop j)).bind λu=>if Vapatb.rises (u.1.map λy=>y.1) then some u else none)=none->∀H':Hp,af H H'->E (.ref a.dX) none H':=λz=>by
    simp only[Option.bind_some] at k;rw[z] at k;exact k
   have kL:∀u z0 zs,((readTimes fS n (ns.drop j)).bind λu=>if Vapatb.rises (u.1.map λy=>y.1) then some u else none)=some (u,z0::zs)->∀H':Hp,af H H'->E (.ref a.dX) none H':=λu z0 zs z=>by
    simp only[Option.bind_some] at k;rw[z] at k;exact k
   have kS:∀u,((readTimes fS n (ns.drop j)).bind λu=>if Vapatb.rises (u.1.map λy=>y.1) then some u else none)=some (u,[])->∀(H':Hp) (v:V),af H H'->bJ K H' v u->Q v H':=λu z=>by
    simp only[Option.bind_some] at k;rw[z] at k;exact k
   have hD3:=S3 _ _ hD nDr;have s03:=af.bY s02 S3 nr;refine⟨(n:Int),rfl,by omega,by omega,CP (λm σ H4=>∃(fs:aJ) (kvs:List (Key×V)) (j4 least:Nat) (v4 v5:Option V),σ=[some (.ref l),some (.ref r),some (.ref D),some (.int (least:Nat)),v4,v5]/\fs.length=m/\cJ K a H4 r l ns j4/\j4<=ns.length/\
    af H H4/\H4 D=some (.dK kvs)/\cE K H4 kvs fs/\(∀x∈fs,x.1<least)/\(∀f,f<least->fs≠[]->∃x∈fs,¬x.1<f)/\(fs=[]->least=0)/\
    readTimes fS n (ns.drop j)=(readTimes fS (n-m) (ns.drop j4)).map λv=>(fs++v.1,v.2)) ?_ ?_ ?_⟩
   ·exact⟨[],[],j,0,none,none,rfl,rfl,R3,hj,s03,hD3,cE.nil,by simp,λ_ _ h=>absurd rfl h,λ_=>rfl,yk⟩
   ·rintro m σ H4 hm ⟨fs,kvs,j4,least,v4,v5,rfl,hfs,R4,hj4,s04,hD4,tk4,hlt,hnr,h0,eq⟩;have hm:m<n:=by omega
    obtain⟨dx4,h4⟩:=R4.ins;have lenk:kvs.length<sizeLine:=by rw[tk4.len,hfs];exact vN (by omega)
    refine⟨_,rfl,r,dx4,_,rfl,h4,gR,_,rfl,r,l,ns,j4,least,9,rfl,R4,hj4,?_⟩;unfold bx;cases e4:readNat least 9 (ns.drop j4) with
    |none=>
     intro H' S;refine kN ?_ H' (af.bY s04 S nr);cases e5:readNat 0 9 (ns.drop j4) with
     |none=>rw[pS hm (PK e5) eq];rfl
     |some u=>
      obtain⟨f,r5⟩:=u;have hfl:=PL e4 e5;cases e6:readTokens 12 r5 with
      |none=>rw[pS hm (Fs e5 e6) eq];rfl
      |some u=>
       obtain⟨c,r6⟩:=u;refine NQ (fs:=fs) (f:=f) (c:=c) (X:=readTimes fS (n-(m+1)) r6) (hnr f hfl λz=>by have:=h0 z;omega) ?_;have:=tF hm (Ft e5 e6) eq;rw[this];congr 1;funext v;rw[List.append_assoc];rfl
    |some u=>
     obtain⟨f,r4⟩:=u;intro H5 v j5 R5 hd5 hj5 S5 hv;have hv:v= .int f:=hv;subst hv hd5;have hle:=fg e4;have e40:=PM e4;obtain⟨dx5,h5⟩:=R5.ins;have hD5:=S5 _ _ hD4 nDr;have s05:=af.bY s04 S5 nr;refine⟨_,rfl,r,dx5,_,rfl,h5,wx,r,l,ns,j5,12,rfl,R5,hj5,by decide,?_⟩;unfold bx;cases e5:readTokens 12 (ns.drop j5) with
     |none=>
      intro H' S;refine kN ?_ H' (af.bY s05 S nr);rw[pS hm (Fs e40 e5) eq];rfl
     |some u=>
      obtain⟨c,r5⟩:=u;intro H6 v6 j6 R6 hd6 hj6 S6 t6;subst hd6;have hD6:=S6 _ _ hD5 nDr;have s06:=af.bY s05 S6 nr;refine⟨_,rfl,_,rfl,D,_,rfl,gn.k (k:=bc f) hD6 lenk,_,rfl,_,_,rfl,rfl,fs++[(f,c)],_,j6,f+1,_,_,rfl,by rw[List.length_append,hfs];rfl,R6.eQ hD6,hj6,af.write s06 HD,az,?_,?_,?_,?_,?_⟩
      ·have:=(((tk4.x S5 h4).x S6 h5).eQ (o:= .dK (putK kvs (bc f) v6)) hD6).put (f:=f) (c:=c) (t6.eQ hD6);rw[Fn λx hx=>by have:=hlt x hx;omega] at this;exact this
      ·intro x hx;rcases List.mem_append.mp hx with q|q
       ·have:=hlt x q;omega
       ·rw[List.mem_singleton.mp q];exact Nat.lt_succ_self _
      ·intro g hg _;exact⟨(f,c),by simp,by show ¬f<g;omega⟩
      ·intro z;simp at z
      ·exact tF hm (Ft e40 e5) eq
   ·rintro σ H4 ⟨fs,kvs,j4,least,v4,v5,rfl,hfs,R4,hj4,s04,hD4,tk4,hlt,hnr,h0,eq⟩;rw[show(n:Int).toNat=n from rfl] at eq;have eq:=yj eq;have hW:((readTimes fS n (ns.drop j)).bind λu=>if Vapatb.rises (u.1.map λy=>y.1) then some u else none)=some (fs,ns.drop j4):=by
     rw[eq];show(if Vapatb.rises (fs.map λy=>y.1) then some (fs,ns.drop j4) else none)=_;rw[if_pos ((yh _).mpr tk4.rise)]
    obtain⟨dx4,h4⟩:=R4.ins;refine⟨_,rfl,r,dx4,_,rfl,h4,wt,r,l,ns,j4,rfl,R4,λhlt=>?_,λhge=>⟨_,rfl,?_⟩⟩
    ·cases ed:ns.drop j4 with
     |nil=>exact absurd (List.drop_eq_nil_iff.mp ed) (by omega)
     |cons z zs=>rw[ed] at hW;exact kL _ _ _ hW H4 s04
    ·have ed:ns.drop j4=[]:=List.drop_eq_nil_of_le (by omega);rw[ed] at hW;exact kS _ hW H4 _ s04 ⟨D,kvs,rfl,hD4,tk4⟩
end PR
namespace PR
open PySem PySem.Spec PyProof.Rows L2
theorem CQ {K:PySem.W.Frag} {a:Addr} {xs:List V} {g:TG} {tb:TS} {D:Ends} {σ:L2.St} {H:Hp} (Pv:Nat->L2.St->Hp->Prop) (h0:Pv 0 σ H) (hl:∀i σ H,i<=xs.length->Pv i σ H->ak K H a xs)
 (hs:∀i x σ H,i<xs.length->xs[xs.length-1-i]?=some x->Pv i σ H->g x σ H λσ2 H2=>tb {D with nx:=Pv (i+1),ct:=Pv (i+1),bk:=D.nx} σ2 H2) (hd:∀σ H,Pv xs.length σ H->D.nx σ H):
 ∃W:Nat->Nat->L2.St->Hp->Prop,(∃m,W 0 m σ H)/\∀i m σ H,W i m σ H->
  ((oB K a xs.length).stop i H/\D.nx σ H)\/((oB K a xs.length).go i H/\∃N:L2.St->Hp->Prop,(∀σ' H',N σ' H'->∃m',m'<m/\W (i+1) m' σ' H')/\∀x H',(oB K a xs.length).fF i H x H'->g x σ H' λσ2 H2=>tb {D with nx:=N,ct:=N,bk:=D.nx} σ2 H2):=by
 refine⟨λi m σ H=>m=xs.length-i/\i<=xs.length/\Pv i σ H,⟨xs.length,by simp,Nat.zero_le _,h0⟩,?_⟩;rintro i m σ H ⟨rfl,hi,p⟩;have q:=hl i σ H hi p;by_cases hlt:i<xs.length
 ·refine .inr ⟨⟨hlt,xs,xs[xs.length-1-i]'(by omega),q,List.getElem?_eq_getElem (by omega)⟩,Pv (i+1),λσ' H' p'=>⟨xs.length-(i+1),by omega,rfl,hlt,p'⟩,λx H' y=>?_⟩;obtain⟨e,y⟩:=y;subst e;exact hs i x σ _ hlt (y xs q) p
 ·have e:i=xs.length:=by omega
  subst e;exact .inl ⟨Nat.le_refl _,hd σ H p⟩
theorem Ko {K:PySem.W.Frag} {a:Addr} {xs:List V} {g:TG} {tb:TS} {D:Ends} {σ:L2.St} {H:Hp} (Pv:Nat->L2.St->Hp->Prop) (h0:Pv 0 σ H) (hl:∀i σ H,i<=xs.length->Pv i σ H->ak K H a xs)
 (hs:∀i x T σ H H',xs[i]?=some x->Pv i σ H->H T=none->af H H'->H' T=some (.tup [.int (i:Nat),x])->g (.ref T) σ H' λσ2 H2=>tb {D with nx:=Pv (i+1),ct:=Pv (i+1),bk:=D.nx} σ2 H2) (hd:∀σ H,Pv xs.length σ H->D.nx σ H):
 ∃W:Nat->Nat->L2.St->Hp->Prop,(∃m,W 0 m σ H)/\∀i m σ H,W i m σ H->
  ((oz K a).stop i H/\D.nx σ H)\/((oz K a).go i H/\∃N:L2.St->Hp->Prop,(∀σ' H',N σ' H'->∃m',m'<m/\W (i+1) m' σ' H')/\∀x H',(oz K a).fF i H x H'->g x σ H' λσ2 H2=>tb {D with nx:=N,ct:=N,bk:=D.nx} σ2 H2):=by
 refine⟨λi m σ H=>m=xs.length-i/\i<=xs.length/\Pv i σ H,⟨xs.length,by simp,Nat.zero_le _,h0⟩,?_⟩;rintro i m σ H ⟨rfl,hi,p⟩;have q:=hl i σ H hi p;by_cases hlt:i<xs.length
 ·refine .inr ⟨⟨xs,xs[i],q,by simp[hlt]⟩,Pv (i+1),λσ' H' p'=>⟨xs.length-(i+1),by omega,rfl,hlt,p'⟩,λx H' y=>?_⟩;obtain⟨T,z,rfl,hT,rfl,y⟩:=y;exact hs i z T σ _ _ (y xs q) p hT (af.new hT) az
 ·have e:i=xs.length:=by omega
  subst e;exact .inl ⟨⟨xs,q,Nat.le_refl _⟩,hd σ H p⟩
abbrev bp:=Vapatc.Patch
abbrev ag:=Vapatc.Row
def cU (K:PySem.W.Frag) (a:Ad) (H:Hp) (v:V) (p:bp):Prop:=∃x dx vs,v= .ref x/\H x=some (.ins a.Patch dx (cZ (.int p.name) vs))/\bz K a H vs p.step
def bf (K:PySem.W.Frag) (a:Ad) (H:Hp) (vs:List V) (r:ag):Prop:=Paired (cU K a H) vs r
def bw (K:PySem.W.Frag) (a:Ad) (H:Hp) (v:V) (r:ag):Prop:=∃l vs,v= .ref l/\H l=some (.lst vs)/\bf K a H vs r
theorem cU.same {H H':Hp} {v:V} {p:bp} (h:cU K a H v p) (s:af H H'):cU K a H' v p:=by
 obtain⟨x,dx,vs,e,q,z⟩:=h;exact⟨x,dx,vs,e,s _ _ q,z.same s⟩
theorem pM {α β:Type} {F G:α->β->Prop} (f:∀a b,F a b->G a b):∀{l:List α} {m:List β},Paired F l m->Paired G l m
 |_,_,.nil=> .nil
 |_,_,.cons r t=> .cons (f _ _ r) (pM f t)
theorem ij {α β:Type} {F:α->β->Prop}:∀{l:List α} {m:List β} {i:Nat} {x:α},Paired F l m->l[i]?=some x->∃y,m[i]?=some y/\F x y
 |_,_,_,_,.nil,h=>by simp at h
 |_,_,0,x,.cons r t,h=>by cases(Option.some.inj h);exact⟨_,rfl,r⟩
 |_,_,i+1,x,.cons r t,h=>ij (i:=i) t h
theorem lE {α β:Type} {F:α->β->Prop}:∀{l:List α} {m:List β} {i:Nat} {y:β},Paired F l m->m[i]?=some y->∃x,l[i]?=some x/\F x y
 |_,_,_,_,.nil,h=>by simp at h
 |_,_,0,x,.cons r t,h=>by cases(Option.some.inj h);exact⟨_,rfl,r⟩
 |_,_,i+1,x,.cons r t,h=>lE (i:=i) t h
theorem ig {α β:Type} {F:α->β->Prop}:∀{l l':List α} {m m':List β},Paired F l m->Paired F l' m'->Paired F (l++l') (m++m')
 |_,_,_,_,.nil,s=>s
 |_,_,_,_,.cons r t,s=> .cons r (ig t s)
theorem xU {α β:Type} {F:α->β->Prop}:∀{l:List α} {m:List β} (n:Nat),Paired F l m->Paired F (l.take n) (m.take n)
 |_,_,0,_=> .nil
 |_,_,_+1,.nil=> .nil
 |_,_,n+1,.cons r t=> .cons r (xU n t)
theorem xT {α β:Type} {F:α->β->Prop}:∀{l:List α} {m:List β} (n:Nat),Paired F l m->Paired F (l.drop n) (m.drop n)
 |_,_,0,r=>r
 |_,_,_+1,.nil=> .nil
 |_,_,n+1,.cons _ t=>xT n t
theorem bf.same {H H':Hp} {vs:List V} {r:ag} (h:bf K a H vs r) (s:af H H'):bf K a H' vs r:=pM (λ_ _ q=>q.same s) h
theorem bf.len {H:Hp} {vs:List V} {r:ag} (h:bf K a H vs r):vs.length=r.length:=Paired.length h
theorem bw.same {H H':Hp} {v:V} {r:ag} (h:bw K a H v r) (s:af H H'):bw K a H' v r:=by
 obtain⟨l,vs,e,q,z⟩:=h;exact⟨l,vs,e,s _ _ q,z.same s⟩
theorem I0 (xs:List V) (p q:Nat) (h:p<=xs.length) (h2:q<=xs.length):cM xs (some (p:Int)) (some (q:Int))=(xs.drop p).take (q-p):=by
 unfold cM;rw[HT.iZ,HT.iZ,Nat.min_eq_left h,Nat.min_eq_left h2]
theorem vE (xs:List V) (q:Nat) (h2:q<=xs.length):cM xs none (some (q:Int))=xs.take q:=by
 unfold cM;rw[HT.iZ,HT.pT,Nat.min_eq_left h2,List.drop_zero,Nat.sub_zero]
theorem qQ (xs:List V) (p:Nat) (h:p<=xs.length):cM xs (some (p:Int)) none=xs.drop p:=by
 unfold cM;rw[HT.iZ,HT.pT,Nat.min_eq_left h];exact List.take_of_length_le (by rw[List.length_drop];omega)
def RK (K:PySem.W.Frag) (a:Ad):Sp:=λvs H Q _=>∃(v:V) (r:ag),vs=[v]/\bw K a H v r/\r.length<=100/\∀(H':Hp) (v':V),af H H'->bN H' v' (Vapatc.ints (Vapatc.namesOf r))->Q v' H'
theorem sM (T:Tx K mg a d):aA P w K mg base aL 1 a.k9 d.k9 ["row"] (RK K a):=by
 refine T.oU.ok zS (λvs H Q E h=>?_) (λcdv A outer s H vs Q E hr h=>?_)
 ·obtain⟨v,r,rfl,_⟩:=h;rfl
 ·obtain⟨v,r,rfl,⟨l,us,rfl,hl,rv⟩,hlen,k⟩:=h;refine⟨_,aj (aq (fB (te:=iz K (aY 1) "name") (own:=[("patch",1)]) rfl zS.nd (dQ (pv 0)) (eG (N:=["row","patch"]) (sc:=ay tM) (by decide+kernel)) (λ_ _ _ _ _=>cj (i:=1) zS.nd rfl (Or.inl rfl)) (λ_ _ _ _ _=>gD)
   (λ_ _ _ _ _=>ao (pv 1) rfl))),?_⟩
  refine⟨_,rfl,l,rfl,⟨_,ak.of hl⟩,λD hD=>pE (K:=K) (a:=l) (xs:=us) (λm H2=>af H H2/\H2 D=some (.lst ((Vapatc.ints (Vapatc.namesOf (r.take m))).map V.int))) ?_ ?_ ?_ ?_⟩
  ·exact⟨af.new hD,az⟩
  ·rintro m H2 _ ⟨s2,_⟩;exact ak.of (s2 _ _ hl)
  ·rintro m z H2 hz ⟨s2,hD2⟩;obtain⟨p,hp,x,dx,vs,rfl,hx,hst⟩:=ij rv hz;refine⟨rfl,_,rfl,x,a.Patch,dx,_,_,rfl,s2 _ _ hx,T.dv,T.fO,gd,_,hD2,?_,?_⟩
   ·rw[List.length_map];unfold Vapatc.ints Vapatc.namesOf;rw[List.length_map,List.length_map,List.length_take];exact bU (by omega)
   ·refine⟨af.write s2 hD,?_⟩;rw[az,take_snoc hp];unfold Vapatc.ints Vapatc.namesOf;rw[List.map_append,List.map_append,List.map_append];rfl
  ·rintro H2 ⟨s2,hD2⟩;rw[bf.len rv,List.take_length] at hD2;exact k H2 (.ref D) s2 ⟨D,rfl,hD2⟩
end PR
namespace PR
open PySem PySem.Spec PyProof.Rows L2
open VapatBase (flatStep appliedAll)
open Vapatc (namesOf stepsOf placeOf rowTold named)
def fR (r:ag) (z:Int):Option Nat:=r.findIdx? λp=>decide ((p.name:Int)=z)
theorem x5 (r:ag) (n:Nat):fR r (n:Int)=placeOf r n:=by
 unfold fR Vapatc.placeOf;congr 1;funext p;by_cases h:p.name=n
 ·rw[decide_eq_true (by omega),beq_iff_eq.mpr h]
 ·rw[decide_eq_false (by omega),beq_eq_false_iff_ne.mpr h]
theorem find_some:∀{r:ag} {f:bp->Bool} {i:Nat} {p:bp},r[i]?=some p->f p=true->(∀(j:Nat) q,j<i->r[j]?=some q->f q=false)->r.findIdx? f=some i
 |[],_,_,_,h,_,_=>by simp at h
 |x::r,f,0,p,h,hp,_=>by
  cases(Option.some.inj h);rw[List.findIdx?_cons,hp];rfl
 |x::r,f,i+1,p,h,hp,hn=>by
  rw[List.findIdx?_cons,hn 0 x (Nat.succ_pos _) rfl,find_some (r:=r) (i:=i) h hp λj q hj hq=>hn (j+1) q (Nat.succ_lt_succ hj) hq];rfl
theorem find_none:∀{r:ag} {f:bp->Bool},(∀(j:Nat) q,r[j]?=some q->f q=false)->r.findIdx? f=none
 |[],_,_=>rfl
 |x::r,f,h=>by
  rw[List.findIdx?_cons,h 0 x rfl,find_none (r:=r) λj q hq=>h (j+1) q hq];rfl
theorem xZ:∀{r:ag} {z:Int} {k:Nat},fR r z=some k->∃p,r[k]?=some p/\(p.name:Int)=z
 |[],z,k,h=>by cases h
 |x::r,z,k,h=>by
  unfold fR at h;rw[List.findIdx?_cons] at h;by_cases q:(x.name:Int)=z
  ·rw[decide_eq_true q] at h;cases h;exact⟨x,rfl,q⟩
  ·rw[decide_eq_false q] at h;cases e:List.findIdx? (λp=>decide ((p.name:Int)=z)) r with
   |none=>rw[e] at h;cases h
   |some j=>
    rw[e] at h;cases h;obtain⟨p,hp,hz⟩:=xZ (r:=r) (z:=z) (k:=j) e;exact⟨p,hp,hz⟩
def Gf (K:PySem.W.Frag) (a:Ad):Sp:=λvs H Q _=>∃(v:V) (r:ag) (z:Int),vs=[v,.int z]/\bw K a H v r/\(∀k:Nat,fR r z=some k->∀H':Hp,af H H'->Q (.int (k:Nat)) H')/\(fR r z=none->∀H':Hp,af H H'->Q .aI H')
theorem ic (T:Tx K mg a d):aA P w K mg base aL 1 a.lK d.lK ["row","name"] (Gf K a):=by
 refine T.gu.ok zT (λvs H Q E h=>?_) (λcdv A outer s H vs Q E hr h=>?_)
 ·obtain⟨v,r,z,rfl,_⟩:=h;rfl
 ·obtain⟨v,r,z,rfl,⟨l,us,rfl,hl,rv⟩,k1,k2⟩:=h;refine⟨_,ah (fD PassesOwn.never rfl (Pa (by rfl) T.Ih (aa (pv 0) ae)) (O8 rfl (E6 (cj (i:=2) zT.nd rfl (Or.inl rfl)) (E6 (cj (i:=3) zT.nd rfl (Or.inl rfl)) O9)))
   (aj (aO (aX cH (ao (pv 3) rfl) (pv 1) (aV _)) (aj (aq (pv 2))) aP)))
   (aj (aq cS)),?_⟩
  refine⟨_,rfl,l,us,rfl,ak.of hl,Ko (K:=K) (a:=l) (xs:=us) (λi σ H'=>∃v2 v3:Option V,σ=[some (.ref l),some (.int z),v2,v3]/\af H H'/\∀(j:Nat) p,j<i->r[j]?=some p->¬(p.name:Int)=z) ?_ ?_ ?_ ?_⟩
  ·exact⟨none,none,rfl,af.refl _,λj p hj=>absurd hj (Nat.not_lt_zero _)⟩
  ·rintro i σ H' _ ⟨_,_,_,s1,_⟩;exact ak.of (s1 _ _ hl)
  ·rintro i x t σ H1 H2 hx ⟨v2,v3,rfl,s1,hn⟩ nt s2 ht;obtain⟨p,hp,y,dy,vs,rfl,hy,hst⟩:=ij rv hx;have s12:=s1.trans s2;refine⟨t,_,rfl,ba.of ht,rfl,_,_,rfl,_,_,rfl,rfl,?_⟩;refine⟨_,rfl,y,a.Patch,dy,_,_,rfl,s12 _ _ hy,T.dv,T.fO,gd,_,rfl,rfl,_,rfl,bE (λhz=>?_) (λhz=>?_)⟩
   ·have hz:(p.name:Int)=z:=V.int.inj (of_decide_eq_true hz);exact⟨_,rfl,k1 i (find_some hp (decide_eq_true hz) λj q hj hq=>decide_eq_false (hn j q hj hq)) H2 s12⟩
   ·have hz:¬(p.name:Int)=z:=λe=>hz (decide_eq_true (by rw[e]));refine⟨_,_,rfl,s12,λj q hj hq=>?_⟩;rcases Nat.lt_succ_iff_lt_or_eq.mp hj with h1|h1
    ·exact hn j q h1 hq
    ·subst h1;rw[hp] at hq;cases hq;exact hz
  ·rintro σ H' ⟨v2,v3,rfl,s1,hn⟩;refine k2 (find_none λj q hq=>decide_eq_false (hn j q ?_ hq)) H' s1;have:=(List.getElem?_eq_some_iff.mp hq).1;rw[bf.len rv];exact this
theorem SO {p:ai} (h:∀f q o n,p= .hunk f q o n->o.length<=8/\n.length<=8):(flatStep p).length<=21:=by
 cases p with
 |hunk f q o n=>
  obtain⟨h1,h2⟩:=h f q o n rfl;show([0,(f:Int),(q:Int)]++(VapatBase.listed o++VapatBase.listed n)).length<=21;unfold VapatBase.listed VapatBase.ints;simp only[List.length_append,List.length_cons,List.length_nil,List.length_map];omega
 |swap f x y=>show 4<=21;decide
 |add f=>show 2<=21;decide
 |remove f=>show 2<=21;decide
 |move f g=>show 3<=21;decide
theorem bz.small {H:Hp} {v:V} {p:ai} (h:bz K a H v p):∀f q o n,p= .hunk f q o n->o.length<=8/\n.length<=8:=by
 rintro f q o n rfl;obtain⟨_,_,_,_,_,_,_,_,b⟩:=h;exact b
theorem Gy (r:ag) (p:bp):((r++[p]).flatMap λp=>Vapatc.int p.name::flatStep p.step)=(r.flatMap λp=>Vapatc.int p.name::flatStep p.step)++(Vapatc.int p.name::flatStep p.step):=by
 rw[List.flatMap_append];simp
def RV (K:PySem.W.Frag) (a:Ad):Sp:=λvs H Q _=>∃(v:V) (r:ag),vs=[v]/\bw K a H v r/\r.length<=100/\∀(H':Hp) (v':V),af H H'->dW H H' v' (rowTold r)->Q v' H'
theorem cU.xL {H H':Hp} {L:Addr} {xs:List V} {v:V} {p:bp} (h:cU K a H v p) (S:ax L H H') (hL:H L=some (.lst xs)):cU K a H' v p:=by
 obtain⟨x,dx,vs,e,q,st⟩:=h;refine⟨x,dx,vs,e,S _ _ q (bP q hL (by intro z;cases z)),?_⟩;cases hp:p.step with
 |hunk f p o n=>rw[hp] at st;obtain⟨x,dx,vo,vn,e,q,t1,t2,b⟩:=st;exact⟨x,dx,vo,vn,e,S _ _ q (bP q hL (by intro z;cases z)),t1.xL S hL,t2.xL S hL,b⟩
 |swap f p q=>rw[hp] at st;obtain⟨x,dx,e,q⟩:=st;exact⟨x,dx,e,S _ _ q (bP q hL (by intro z;cases z))⟩
 |add f=>rw[hp] at st;obtain⟨x,dx,e,q⟩:=st;exact⟨x,dx,e,S _ _ q (bP q hL (by intro z;cases z))⟩
 |remove f=>rw[hp] at st;obtain⟨x,dx,e,q⟩:=st;exact⟨x,dx,e,S _ _ q (bP q hL (by intro z;cases z))⟩
 |move f g=>rw[hp] at st;obtain⟨x,dx,e,q⟩:=st;exact⟨x,dx,e,S _ _ q (bP q hL (by intro z;cases z))⟩
theorem bf.xL {H H':Hp} {L:Addr} {xs vs:List V} {r:ag} (h:bf K a H vs r) (S:ax L H H') (hL:H L=some (.lst xs)):bf K a H' vs r:=pM (λ_ _ q=>q.xL S hL) h
theorem sP (T:Tx K mg a d):aA P w K mg base aL 3 a.lV d.lV ["row"] (RV K a):=by
 refine T.oW.ok zW (λvs H Q E h=>?_) (λcdv A outer s H vs Q E hr h=>?_)
 ·obtain⟨v,r,rfl,_⟩:=h;rfl
 ·obtain⟨v,r,rfl,⟨l,us,rfl,hl,rv⟩,hlen,k⟩:=h;refine⟨_,ah (aF (i:=1) zW.nd rfl (Or.inl rfl) (bj (aa (bh bH (by rfl) T.bC PySem.boot_len (aa (pv 0) ae)) ae)))
   (ah (fD PassesOwn.never rfl (dQ (pv 0)) (cj (i:=2) zW.nd rfl (Or.inl rfl))
    (ah (dH (eC PySem.F.plainAttrs_list PySem.F.slot_list_append PySem.F.type_list_append hJ (pv 1) (aa (ao (pv 2) rfl) ae)))
    (aj (dH (eC PySem.F.plainAttrs_list PySem.F.slot_list_extend PySem.F.type_list_extend xj (pv 1) (aa (aB (ON T) hr (by rfl) T.Ni T.CH.kp T.HX .nil au (aa (ao (pv 2) rfl) ae)) ae))))))
   (aj (aq (pv 1)))),?_⟩
  refine⟨_,rfl,l,_,rfl,.inl (ak.of hl),(by show 1<=sizeLine;decide),λL H1 nL s1 hL=>?_⟩;have nlL:l≠L:=bq hl nL;have rv1:=rv.same s1;refine⟨_,rfl,l,rfl,⟨_,ak.of (s1 _ _ hl)⟩,kG (K:=K) (a:=l) (xs:=us) (λi σ H'=>∃v2:Option V,σ=[some (.ref l),some (.ref L),v2]/\ax L H1 H'/\((r.take i).flatMap λp=>Vapatc.int p.name::flatStep p.step).length<=22*i/\
   H' L=some (.lst ((Vapatc.int r.length::((r.take i).flatMap λp=>Vapatc.int p.name::flatStep p.step)).map V.int))) ?_ ?_ ?_ ?_⟩
  ·exact⟨none,rfl,ax.refl _ _,Nat.le_refl _,by rw[hL,bf.len rv];rfl⟩
  ·rintro i σ H' _ ⟨_,_,S3,_⟩;exact ak.of (S3 _ _ (s1 _ _ hl) nlL)
  ·rintro i y σ H3 hy ⟨v2,rfl,S3,hb,hL3⟩;obtain⟨p,hp,pa⟩:=ij rv1 hy;have hi:i<100:=by have:=(List.getElem?_eq_some_iff.mp hp).1;omega
   have pa3:=pa.xL S3 hL;obtain⟨x,dx,vs,rfl,hx,hst⟩:=id pa3;have nxL:x≠L:=bP hx hL3 (by intro z;cases z);have hfl:=SO hst.small;refine⟨_,rfl,.inl ⟨rfl,_,ak.of hL3⟩,_,rfl,x,a.Patch,dx,_,_,rfl,hx,T.dv,T.fO,gd,L,_,_,rfl,rfl,hL3,?_,?_⟩
   ·rw[List.length_map,List.length_cons];exact mX (by omega)
   have S4:ax L H3 (upd H3 L (.lst (((Vapatc.int r.length::((r.take i).flatMap λp=>Vapatc.int p.name::flatStep p.step)).map V.int)++[V.int p.name]))):=ax.upd;have pa4:=pa3.xL S4 hL3;have hL4:(upd H3 L (.lst (((Vapatc.int r.length::((r.take i).flatMap λp=>Vapatc.int p.name::flatStep p.step)).map V.int)++[V.int p.name]))) L=some (.lst (((Vapatc.int r.length::((r.take i).flatMap λp=>Vapatc.int p.name::flatStep p.step)).map V.int)++[V.int p.name])):=az;generalize upd H3 L (.lst (((Vapatc.int r.length::((r.take i).flatMap λp=>Vapatc.int p.name::flatStep p.step)).map V.int)++[V.int p.name]))=H4 at S4 pa4 hL4⊢;obtain⟨_,dx4,vs4,e4,hx4,hst4⟩:=pa4;cases e4;refine⟨_,rfl,.inl ⟨rfl,_,ak.of hL4⟩,_,rfl,x,a.Patch,dx4,_,_,rfl,hx4,T.dv,T.ly,mP,_,p.step,rfl,hst4,λH5 v5 s5 i5=>?_⟩;obtain⟨l5,rfl,h5⟩:=i5;refine⟨L,l5,_,_,rfl,rfl,s5 _ _ hL4,h5,?_,?_⟩
   ·rw[List.length_append,List.length_map,List.length_cons,List.length_map];exact Nat.le_of_lt (mX (by show _+1+1+_<=_;omega))
   refine⟨_,rfl,λb o eb nb=>by rw[aT nb];exact s5 b o (S4 b o (S3 b o eb nb) nb),?_,?_⟩
   ·rw[take_snoc hp,Gy,List.length_append,List.length_cons];omega
   ·rw[az,take_snoc hp,Gy];show some (HO.lst _)=some (HO.lst ((Vapatc.int r.length::(((r.take i).flatMap λp=>Vapatc.int p.name::flatStep p.step)++((p.name:Int)::flatStep p.step))).map V.int));simp only[List.map_append,List.map_cons,List.map_nil,List.append_assoc,List.cons_append,List.nil_append]
  ·rintro σ H3 ⟨v2,rfl,S3,hb,hL3⟩;rw[bf.len rv,List.take_length] at hL3;exact⟨_,rfl,k H3 (.ref L) (af.bY s1 S3 nL) ⟨λl e=>by cases e;exact nL,L,rfl,hL3⟩⟩
end PR
namespace PR
open PySem PySem.Spec PyProof.Rows L2
open VapatBase (flatStep appliedAll commuted fileIn)
open Vapatc (namesOf stepsOf rowTold named frontAt)
def Sd (p:ai):Prop:=∀f q o n,p= .hunk f q o n->o.length<=8/\n.length<=8
theorem sX {b n f:Nat} {c:List Nat} {t:aJ} (r:br t) (h:Small b n t) (hc:c.length<=b):Small b (n+1) (VapatBase.putFile f c t):=by
 refine⟨λx hx=>?_,?_⟩
 ·rcases(pQ r).mp hx with q|q
  ·rw[q];exact hc
  ·exact h.toks x q.1
 ·have hf:=h.files;cases e:fileIn t f with
  |none=>
   have:=(yb (c:=c) (vM.mp e)).length_eq;rw[List.length_map,List.length_append,List.length_map] at this;rw[this];show t.length+1<=n+1;omega
  |some c0=>
   have hm:f∈t.map (·.1):=List.mem_map.mpr ⟨(f,c0),(fZ r).mp e,rfl⟩;have:=congrArg List.length (ya (c:=c) r hm);rw[List.length_map,List.length_map] at this;rw[this];omega
theorem Small.mono {b b' n n':Nat} {t:aJ} (h:Small b n t) (hb:b<=b') (hn:n<=n'):Small b' n' t:=⟨λx hx=>Nat.le_trans (h.toks x hx) hb,Nat.le_trans h.files hn⟩
theorem B0 {b n f:Nat} {t:aJ} (h:Small b n t):Small b n (VapatBase.dropFile f t):=⟨λx hx=>h.toks x (vK.mp hx).1,Nat.le_trans (by unfold VapatBase.dropFile;exact List.length_filter_le _ _) h.files⟩
theorem AM {b n:Nat} {t u:aJ} {p:ai} (r:br t) (h:Small b n t) (hp:Sd p) (e:VapatBase.applied t p=some u):Small (b+8) (n+1) u:=by
 cases p with
 |hunk f q o nw=>
  cases ef:fileIn t f with
  |none=>rw[AH ef] at e;cases e
  |some c=>
   rw[AG ef] at e;unfold VapatBase.spliced at e;by_cases z:q<=c.length/\(c.drop q).take o.length=o
   ·rw[if_pos z] at e;cases(Option.some.inj e);have hc:=h.at r ef;refine sX r (h.mono (by omega) (Nat.le_refl _)) ?_;have:=(hp f q o nw rfl).2;rw[List.length_append,List.length_append,List.length_take,List.length_drop];omega
   ·rw[if_neg z] at e;cases e
 |swap f x y=>
  cases ef:fileIn t f with
  |none=>rw[AJ ef] at e;cases e
  |some c=>
   rw[AI ef] at e;cases(Option.some.inj e);have hc:=h.at r ef;exact sX r (h.mono (by omega) (Nat.le_refl _)) (by rw[cO];omega)
 |add f=>
  cases ef:fileIn t f with
  |some c=>rw[uJ ef] at e;cases e
  |none=>
   rw[uI ef] at e;cases(Option.some.inj e);exact sX r (h.mono (by omega) (Nat.le_refl _)) (Nat.zero_le _)
 |remove f=>
  by_cases ef:fileIn t f=some []
  ·rw[uN ef] at e;cases(Option.some.inj e);exact(B0 h).mono (by omega) (by omega)
  ·rw[qt ef] at e;cases e
 |move f g=>
  cases ef:fileIn t f with
  |none=>rw[uL ef] at e;cases e
  |some c=>
   cases eg:fileIn t g with
   |some c1=>rw[uM eg] at e;cases e
   |none=>
    rw[uK ef eg] at e;cases(Option.some.inj e);have hc:=h.at r ef;exact sX (mI r) ((B0 h).mono (by omega) (Nat.le_refl _)) (by omega)
def RP (K:PySem.W.Frag) (a:Ad):Sp:=λvs H Q _=>∃(v v2:V) (t u:aJ) (r:ag),vs=[v,v2]/\bJ K H v t/\bw K a H v2 r/\Small 12 6 t/\r.length<=10/\appliedAll t (stepsOf r)=some u/\∀(H':Hp) (v':V),af H H'->bJ K H' v' u->Small 100 20 u->Q v' H'
theorem EF (T:Tx K mg a d):aA P w K mg base aL 3 a.lD d.lD ["tree","row"] (RP K a):=by
 refine T.v9.ok tW (λvs H Q E h=>?_) (λcdv A outer s H vs Q E hr h=>?_)
 ·obtain⟨v,v2,t,u,r,rfl,_⟩:=h;rfl
 ·obtain⟨v,v2,t,u,r,rfl,ht,⟨l,us,rfl,hl,rv⟩,hsm,hlen,hap,k⟩:=h;refine⟨_,ah (aF (i:=2) tW.nd rfl (Or.inl rfl) (pv 0))
   (ah (fD PassesOwn.never rfl (dQ (pv 1)) (cj (i:=3) tW.nd rfl (Or.inl rfl))
    (aj (aF (i:=2) tW.nd rfl (Or.inl rfl) (aB (Es T) hr (by rfl) T.DI T.vP.kp T.AU .nil au (aa (ao (pv 3) rfl) (aa (pv 2) ae))))))
   (aj (aq (pv 2)))),?_⟩
  refine⟨_,rfl,_,rfl,l,rfl,⟨_,ak.of hl⟩,kG (K:=K) (a:=l) (xs:=us) (λi σ H'=>∃(v2:V) (v3:Option V) (ti:aJ),σ=[some v,some (.ref l),some v2,v3]/\af H H'/\bJ K H' v2 ti/\Small (12+8*i) (6+i) ti/\appliedAll ti (stepsOf (r.drop i))=some u) ?_ ?_ ?_ ?_⟩
  ·exact⟨v,none,t,rfl,af.refl _,ht,hsm,hap⟩
  ·rintro i σ H' _ ⟨_,_,_,_,s1,_⟩;exact ak.of (s1 _ _ hl)
  ·rintro i y σ H1 hy ⟨v2,v3,ti,rfl,s1,ht1,hs1,ha1⟩;obtain⟨p,hp,x,dx,vs,rfl,hx,hst⟩:=ij rv hy;have hi:=(List.getElem?_eq_some_iff.mp hp).1;have ed:r.drop i=p::r.drop (i+1):=by rw[List.drop_eq_getElem_cons hi,(List.getElem?_eq_some_iff.mp hp).2]
   rw[ed] at ha1;have ha1:((VapatBase.applied ti p.step).bind λu=>appliedAll u (stepsOf (r.drop (i+1))))=some u:=ha1;cases eu:VapatBase.applied ti p.step with
   |none=>rw[eu] at ha1;cases ha1
   |some ui=>
    rw[eu] at ha1;have rise1:br ti:=by obtain⟨_,_,_,_,tk⟩:=ht1;exact tk.rise
    refine⟨_,rfl,x,a.Patch,dx,_,_,rfl,s1 _ _ hx,T.dv,T.ly,mP,_,rfl,_,_,p.step,ti,ui,rfl,hst.same s1,ht1,hs1.mono (by omega) (by omega),eu,λH2 v' s2 t2=>?_⟩;exact⟨v',_,ui,rfl,s1.trans s2,t2,(AM rise1 hs1 hst.small eu).mono (by omega) (by omega),ha1⟩
  ·rintro σ H1 ⟨v2,v3,ti,rfl,s1,ht1,hs1,ha1⟩;rw[bf.len rv,List.drop_length] at ha1;have ha1:ti=u:=Option.some.inj ha1;subst ha1;rw[bf.len rv] at hs1;exact⟨_,rfl,k H1 v2 s1 ht1 (hs1.mono (by omega) (by omega))⟩
def GO (K:PySem.W.Frag) (a:Ad) (H:Hp) (v:V) (p q:bp):Prop:=∃t v1 v2,v= .ref t/\ba K H t [v1,v2]/\cU K a H v1 p/\cU K a H v2 q
def Rz (K:PySem.W.Frag) (a:Ad):Sp:=λvs H Q _=>∃(v v2:V) (p q:bp),vs=[v,v2]/\cU K a H v p/\cU K a H v2 q/\(commuted p.step q.step=none->∀H':Hp,af H H'->Q .aI H')/\
 ∀q' p',commuted p.step q.step=some (q',p')->∀(H':Hp) (v':V),af H H'->GO K a H' v' ⟨q.name,q'⟩ ⟨p.name,p'⟩->Q v' H'
theorem Ex (T:Tx K mg a d):aA P w K mg base aL 7 a.kr d.kr ["p","q"] (Rz K a):=by
 refine T.vS.ok FQ (λvs H Q E h=>?_) (λcdv A outer s H vs Q E hr h=>?_)
 ·obtain⟨v,v2,p,q,rfl,_⟩:=h;rfl
 ·obtain⟨v,v2,p,q,rfl,⟨x,dx,sx,rfl,hx,stx⟩,⟨y,dy,sy,rfl,hy,sty⟩,k1,k2⟩:=h;refine⟨_,ah (aF (i:=2) FQ.nd rfl (Or.inl rfl) (aB (Ow T) hr (by rfl) T.MY T.Cn.kp T.HC .nil au (aa (ao (pv 0) rfl) (aa (ao (pv 1) rfl) ae))))
   (ah (aO (aX gj (pv 2) cS (aV _)) (aj (aq cS)) aP)
   (aj (aq (dP (aa (di T.sg (sJ T) (hr.mono (by decide)) (by rfl) T.rV T.qA .nil au (aa (ao (pv 1) rfl) (aa (cN gX (pv 2) aR (λ_ _=>rfl)) ae)))
    (aa (di T.sg (sJ T) (hr.mono (by decide)) (by rfl) T.rV T.qA .nil au (aa (ao (pv 0) rfl) (aa (cN gX (pv 2) aR (λ_ _=>rfl)) ae))) ae)))))),?_⟩
  refine⟨_,rfl,x,a.Patch,dx,_,_,rfl,hx,T.dv,T.ly,mP,_,rfl,y,a.Patch,dy,_,_,rfl,hy,T.dv,T.ly,mP,_,_,p.step,q.step,rfl,stx,sty,λe H1 s1=>?_,λq' p' e H1 v1 s1 ⟨t,u1,u2,ev,ht,h1,h2⟩=>?_⟩
  ·exact⟨_,rfl,rfl,_,rfl,k1 e H1 s1⟩
  ·subst ev;refine⟨_,rfl,rfl,_,rfl,_,rfl,y,a.Patch,dy,_,_,rfl,s1 _ _ hy,T.dv,T.fO,gd,_,rfl,t,_,_,_,rfl,rfl,ht,cK (j:=0) rfl,?_⟩;intro z1 dz1 nz1 nd1 _;refine⟨z1,dz1,_,_,rfl,az,rfl,?_⟩;have sm:=eK (o1:= .own z1) (o2:= .ins a.Patch dz1 []) (o3:= .ins a.Patch dz1 (cZ (.int q.name) u1)) nz1 nd1;have hz1:(upd (upd (upd H1 dz1 (.own z1)) z1 (.ins a.Patch dz1 [])) z1 (.ins a.Patch dz1 (cZ (.int q.name) u1))) z1=some (.ins a.Patch dz1 (cZ (.int q.name) u1)):=az;generalize upd (upd (upd H1 dz1 (.own z1)) z1 (.ins a.Patch dz1 [])) z1 (.ins a.Patch dz1 (cZ (.int q.name) u1))=H2 at sm hz1⊢;have ht2:ba K H2 t [u1,u2]:=by
    rcases ht with (z|⟨ob,z⟩)|z
    ·exact .inl (.inl (sm _ _ z))
    ·exact .inl (.inr ⟨ob,sm _ _ z⟩)
    ·exact .inr z
   refine⟨_,rfl,x,a.Patch,dx,_,_,rfl,sm _ _ (s1 _ _ hx),T.dv,T.fO,gd,_,rfl,t,_,_,_,rfl,rfl,ht2,cK (j:=1) rfl,?_⟩;intro z2 dz2 nz2 nd2 _;refine⟨z2,dz2,_,_,rfl,az,rfl,?_⟩;have sm2:=eK (o1:= .own z2) (o2:= .ins a.Patch dz2 []) (o3:= .ins a.Patch dz2 (cZ (.int p.name) u2)) nz2 nd2;have hz2:(upd (upd (upd H2 dz2 (.own z2)) z2 (.ins a.Patch dz2 [])) z2 (.ins a.Patch dz2 (cZ (.int p.name) u2))) z2=some (.ins a.Patch dz2 (cZ (.int p.name) u2)):=az;generalize upd (upd (upd H2 dz2 (.own z2)) z2 (.ins a.Patch dz2 [])) z2 (.ins a.Patch dz2 (cZ (.int p.name) u2))=H3 at sm2 hz2⊢;refine⟨(by show 2<=sizeLine;decide),λl H4 _ s4 e4=>?_⟩;have s24:=sm2.trans s4;exact k2 q' p' e H4 (.ref l) ((s1.trans sm).trans s24) ⟨l,_,_,rfl,ba.of e4,⟨z1,dz1,u1,rfl,s24 _ _ hz1,(h1.same sm).same s24⟩,⟨z2,dz2,u2,rfl,s4 _ _ hz2,((h2.same sm).same sm2).same s4⟩⟩
end PR
namespace PR
open PySem PySem.Spec PyProof.Rows L2
open VapatBase (flatStep appliedAll commuted fileIn)
open Vapatc (namesOf stepsOf rowTold named frontAt)
open Vapatb (aheadOf)
theorem mz {l:List ai} {q:ai} {n:Nat} (h:aheadOf l q= .error n):∀pre:List ai,aheadOf (pre++l) q= .error n
 |[]=>h
 |p::pre=>by
  rw[List.cons_append];simp only[Vapatb.aheadOf,mz h pre]
theorem oH {l l1:List ai} {p q q1:ai} (h:aheadOf l q= .ok (q1,l1)) (hc:commuted p q1=none):aheadOf (p::l) q= .error l.length:=by
 simp only[Vapatb.aheadOf,h,hc]
theorem oI {l l1:List ai} {p q q1 q2 p1:ai} (h:aheadOf l q= .ok (q1,l1)) (hc:commuted p q1=some (q2,p1)):aheadOf (p::l) q= .ok (q2,p1::l1):=by
 simp only[Vapatb.aheadOf,h,hc]
theorem qr:∀{l l1:List ai} {q q1:ai},aheadOf l q= .ok (q1,l1)->l1.length=l.length
 |[],l1,q,q1,h=>by cases h;rfl
 |p::l,l1,q,q1,h=>by
  cases e:aheadOf l q with
  |error n=>
   have h2:aheadOf (p::l) q= .error n:=mz e [p];rw[h2] at h;cases h
  |ok x=>
   obtain⟨q2,l2⟩:=x;cases c:commuted p q2 with
   |none=>rw[oH e c] at h;cases h
   |some y=>
    obtain⟨q3,p1⟩:=y;rw[oI e c] at h;cases h;rw[List.length_cons,List.length_cons,qr e]
theorem wg {r:ag} {k:Nat} {p:bp} {n:Nat} (hk:r[k]?=some p) (h:aheadOf (stepsOf (r.take k)) p.step= .error n):frontAt r k=none:=by
 unfold Vapatc.frontAt;simp only[hk,h]
theorem wj {r:ag} {k:Nat} {p:bp} {q1:ai} {l1:List ai} (hk:r[k]?=some p) (h:aheadOf (stepsOf (r.take k)) p.step= .ok (q1,l1)):frontAt r k=some (⟨p.name,q1⟩,named (namesOf (r.take k)) l1++r.drop (k+1)):=by
 unfold Vapatc.frontAt;simp only[hk,h]
theorem Se (r:ag) (m:Nat):stepsOf (r.drop m)=(stepsOf r).drop m:=by unfold Vapatc.stepsOf;rw[List.map_drop]
theorem Jz {r:ag} {k i:Nat} {p:bp} (hk:k<=r.length) (hi:i<k) (hp:r[k-1-i]?=some p):(r.take k).drop (k-(i+1))=p::(r.take k).drop (k-i):=by
 have hl:k-(i+1)<(r.take k).length:=by rw[List.length_take];omega
 rw[List.drop_eq_getElem_cons hl];have e1:k-(i+1)=k-1-i:=by omega
 have e2:k-(i+1)+1=k-i:=by omega
 rw[e2];congr 1;have:(r.take k)[k-(i+1)]?=some p:=by rw[List.getElem?_take_of_lt (by omega),e1];exact hp
 exact(List.getElem?_eq_some_iff.mp this).2
theorem D0 (n:Nat) (ns:List Nat) (p:ai) (l:List ai):named (n::ns) (p::l)=⟨n,p⟩::named ns l:=rfl
def F9 (K:PySem.W.Frag) (a:Ad):Sp:=λvs H Q _=>∃(v:V) (r:ag) (k:Nat),vs=[v,.int (k:Nat)]/\bw K a H v r/\k<r.length/\r.length<=100/\(frontAt r k=none->∀H':Hp,af H H'->Q .aI H')/\
 ∀p rest,frontAt r k=some (p,rest)->∀(H':Hp) (v':V),af H H'->bG H v'->bw K a H' v' (p::rest)->Q v' H'
theorem xK (T:Tx K mg a d):aA P w K mg base aL 8 a.kd d.kd ["row","place"] (F9 K a):=by
 refine T.rf.ok nU (λvs H Q E h=>?_) (λcdv A outer s H vs Q E hr h=>?_)
 ·obtain⟨v,r,k,rfl,_⟩:=h;rfl
 ·obtain⟨v,r,k,rfl,⟨l,us,rfl,hl,rv⟩,hk,hlen,k1,k2⟩:=h;refine⟨_,ah (aF (i:=2) nU.nd rfl (Or.inl rfl) (cN eA (pv 0) (pv 1) (λ_ _=>rfl)))
   (ah (aF (i:=3) nU.nd rfl (Or.inl rfl) (bj ae))
   (ah (fD PassesOwn.never rfl (E8 (by rfl) T.Bo (aa (fP iw (pv 0) gC (fe (pv 1))) ae)) (cj (i:=4) nU.nd rfl (Or.inl rfl))
    (ah (aF (i:=5) nU.nd rfl (Or.inl rfl) (aB (Ex T) hr (by rfl) T.DL T.vS.kp T.AX .nil au (aa (pv 4) (aa (pv 2) ae))))
    (ah (aO (aX gj (pv 5) cS (aV _)) (aj (aq cS)) aP)
    (ah (aF (i:=2) nU.nd rfl (Or.inl rfl) (cN gX (pv 5) aR (λ_ _=>rfl)))
    (aj (dH (eC PySem.F.plainAttrs_list PySem.F.slot_list_insert PySem.F.type_list_insert NA (pv 3) (aa aR (aa (cN gX (pv 5) aR (λ_ _=>rfl)) ae)))))))))
   (aj (aq (bt eZ (bt eZ (bj (aa (pv 2) ae)) (pv 3)) (fP iw (pv 0) (fe (bt eO (pv 1) aR)) gC)))))),?_⟩
  have ul:=bf.len rv;obtain⟨p,hp⟩:∃p,r[k]?=some p:=⟨_,List.getElem?_eq_getElem hk⟩
  obtain⟨vf,hvf,paf⟩:=lE rv hp;refine⟨_,rfl,_,rfl,l,us,_,vf,rfl,rfl,ak.of hl,cK hvf,Nat.zero_le _,λL H1 nL s1 hL=>?_⟩;have nlL:l≠L:=bq hl nL;refine⟨_,rfl,_,rfl,_,rfl,l,us,rfl,ak.of (s1 _ _ hl),λS H2 nS s2 hS=>?_⟩;rw[vE us k (by omega)] at hS;have nSL:S≠L:=Ne.symm (bq hL nS);have s12:=s1.trans s2;have hL2:=s2 _ _ hL;have rv2:=rv.same s12;have lt:(us.take k).length=k:=by rw[List.length_take];omega
  refine⟨S,us.take k,rfl,ak.of hS,CQ (K:=K) (a:=S) (xs:=us.take k) (λi σ H'=>∃(vf:V) (v4 v5:Option V) (fs:ai) (ps:List ai) (pvs:List V),σ=[some (.ref l),some (.int (k:Nat)),some vf,some (.ref L),v4,v5]/\ax L H2 H'/\
   cU K a H' vf ⟨p.name,fs⟩/\H' L=some (.lst pvs)/\bf K a H' pvs (named (namesOf ((r.take k).drop (k-i))) ps)/\aheadOf (stepsOf ((r.take k).drop (k-i))) p.step= .ok (fs,ps)/\pvs.length=i) ?_ ?_ ?_ ?_⟩
  ·refine⟨vf,none,none,p.step,[],[],rfl,ax.refl _ _,paf.same s12,hL2,?_,?_,rfl⟩
   ·rw[Nat.sub_zero,List.drop_eq_nil_of_le (by rw[List.length_take];omega)];exact .nil
   ·rw[Nat.sub_zero,List.drop_eq_nil_of_le (by rw[List.length_take];omega)];rfl
  ·rintro i σ H' _ ⟨_,_,_,_,_,_,_,S3,_⟩;exact ak.of (S3 _ _ hS nSL)
  ·rintro i y σ H3 hi hy ⟨vf,v4,v5,fs,ps,pvs,rfl,S3,pf,hL3,rp,ha,hpl⟩;rw[lt] at hi hy;rw[List.getElem?_take_of_lt (by omega)] at hy;obtain⟨q,hq,pq⟩:=ij rv2 hy;have pq3:=pq.xL S3 hL2;have ed:=Jz (by omega) hi hq;refine⟨_,rfl,_,rfl,_,_,q,⟨p.name,fs⟩,rfl,pq3,pf,λhc H4 s4=>?_,λq' p' hc H4 v4 s4 ⟨t,u1,u2,ev,ht,h1,h2⟩=>?_⟩
   ·refine⟨_,rfl,rfl,_,rfl,?_⟩;refine k1 (wg (n:=(stepsOf ((r.take k).drop (k-i))).length) hp ?_) H4 (af.bY s12 (S3.trans (af.x s4)) nL);have e0:stepsOf (r.take k)=(stepsOf (r.take k)).take (k-(i+1))++stepsOf ((r.take k).drop (k-(i+1))):=by rw[Se,List.take_append_drop]
    rw[e0,ed];exact mz (oH ha hc) _
   ·subst ev;have hL4:=s4 _ _ hL3;refine⟨_,rfl,rfl,_,rfl,_,rfl,t,_,_,_,rfl,rfl,ht,cK (j:=0) rfl,_,rfl,.inl ⟨rfl,_,ak.of hL4⟩,_,rfl,t,_,_,_,rfl,rfl,ht,cK (j:=1) rfl,L,_,_,rfl,rfl,hL4,bU (by omega),?_⟩;have S5:ax L H4 (upd H4 L (.lst (u2::pvs))):=ax.upd;refine⟨u1,_,_,q',p'::ps,u2::pvs,rfl,(S3.trans (af.x s4)).trans S5,h1.xL S5 hL4,az,?_,?_,by rw[List.length_cons,hpl]⟩
    ·rw[ed];exact .cons (h2.xL S5 hL4) ((rp.same s4).xL S5 hL4)
    ·rw[ed];exact oI ha hc
  ·rintro σ H3 ⟨vf,v4,v5,fs,ps,pvs,rfl,S3,pf,hL3,rp,ha,hpl⟩;rw[lt] at hpl;rw[lt,Nat.sub_self,List.drop_zero] at rp ha;refine⟨_,rfl,(by show 1<=sizeLine;decide),λl5 H5 n5 s5 e5=>?_⟩;refine⟨_,rfl,l5,L,_,_,rfl,rfl,e5,s5 _ _ hL3,Nat.le_of_lt (bU (by show 1+_<=_;omega)),λl6 H6 n6 s6 e6=>?_⟩;have s36:=s5.trans s6;have hl6:=s36 _ _ (S3 _ _ (s12 _ _ hl) nlL);refine⟨_,rfl,_,rfl,_,_,rfl,rfl,_,rfl,l,us,rfl,ak.of hl6,λl7 H7 n7 s7 e7=>?_⟩;have e7:H7 l7=some (.lst (us.drop (k+1))):=by
    rw[e7];have:=qQ us (k+1) (by omega);exact congrArg (λz=>some (HO.lst z)) this
   refine⟨l6,l7,_,_,rfl,rfl,s7 _ _ e6,e7,?_,λl8 H8 n8 s8 e8=>?_⟩
   ·rw[List.length_append,List.length_drop];exact Nat.le_of_lt (bU (by show 1+_+_<=_;omega))
   have s38:=(s36.trans s7).trans s8;have SX:ax L H2 H8:=S3.trans (af.x s38);refine k2 ⟨p.name,fs⟩ _ (wj hp ha) H8 (.ref l8) (af.bY s12 SX nL) (bG.of (af.bY s12 (S3.trans (af.x (s36.trans s7))) nL) n8) ⟨l8,_,rfl,e8,?_⟩;have rdrop:bf K a H8 (us.drop (k+1)) (r.drop (k+1)):=xT (k+1) (rv2.xL SX hL2);show bf K a H8 (vf::pvs++us.drop (k+1)) (⟨p.name,fs⟩::(named (namesOf (r.take k)) ps++r.drop (k+1)));exact .cons (pf.same s38) (ig (rp.same s38) rdrop)
end PR
namespace PR
open PySem PySem.Spec PyProof.Rows L2
open VapatBase (commuted)
open Vapatc (namesOf stepsOf named)
open Vapatb (behind needsFrom)
theorem ka {p q:ai} {l:List ai} (h:commuted p q=none):behind p (q::l)= .error 0:=by simp only[Vapatb.behind,h]
theorem mC {p q q1 p1:ai} {l:List ai} {n:Nat} (h:commuted p q=some (q1,p1)) (h2:behind p1 l= .error n):behind p (q::l)= .error (n+1):=by simp only[Vapatb.behind,h,h2]
theorem dC {p q q1 p1 p2:ai} {l l1:List ai} (h:commuted p q=some (q1,p1)) (h2:behind p1 l= .ok (l1,p2)):behind p (q::l)= .ok (q1::l1,p2):=by simp only[Vapatb.behind,h,h2]
theorem gq:∀{l l1:List ai} {p p2:ai},behind p l= .ok (l1,p2)->l1.length=l.length
 |[],l1,p,p2,h=>by cases h;rfl
 |q::l,l1,p,p2,h=>by
  cases c:commuted p q with
  |none=>rw[ka c] at h;cases h
  |some x=>
   obtain⟨q1,p1⟩:=x;cases e:behind p1 l with
   |error n=>rw[mC c e] at h;cases h
   |ok y=>
    obtain⟨l2,p3⟩:=y;rw[dC c e] at h;cases h;rw[List.length_cons,List.length_cons,gq e]
theorem oj:∀(ns:List Nat) (l:List ai),ns.length=l.length->stepsOf (named ns l)=l
 |[],[],_=>rfl
 |n::ns,p::l,h=>by
  rw[D0];show p::stepsOf (named ns l)=p::l;rw[oj ns l (Nat.succ.inj h)]
 |[],_::_,h=>by cases h
 |_::_,[],h=>by cases h
theorem k7:∀(ns:List Nat) (l:List ai),ns.length=l.length->namesOf (named ns l)=ns
 |[],[],_=>rfl
 |n::ns,p::l,h=>by
  rw[D0];show n::namesOf (named ns l)=n::ns;rw[k7 ns l (Nat.succ.inj h)]
 |[],_::_,h=>by cases h
 |_::_,[],h=>by cases h
theorem cz (r:ag):(namesOf r).length=r.length:=by unfold Vapatc.namesOf;rw[List.length_map]
theorem iy (r:ag):(stepsOf r).length=r.length:=by unfold Vapatc.stepsOf;rw[List.length_map]
def RQ (K:PySem.W.Frag) (a:Ad):Sp:=λvs H Q _=>∃(v v2:V) (p:bp) (r:ag),vs=[v,v2]/\cU K a H v p/\bw K a H v2 r/\r.length<=100/\(∀n,behind p.step (stepsOf r)= .error n->∀H':Hp,af H H'->Q .aI H')/\
 ∀l1 p2,behind p.step (stepsOf r)= .ok (l1,p2)->∀(H':Hp) (v':V),af H H'->bw K a H' v' (named (namesOf r) l1)->Q v' H'
theorem EG (T:Tx K mg a d):aA P w K mg base aL 8 a.lG d.lG ["patch","others"] (RQ K a):=by
 refine T.wa.ok nX (λvs H Q E h=>?_) (λcdv A outer s H vs Q E hr h=>?_)
 ·obtain⟨v,v2,p,r,rfl,_⟩:=h;rfl
 ·obtain⟨v,v2,p,r,rfl,hp,⟨l,us,rfl,hl,rv⟩,hlen,k1,k2⟩:=h;refine⟨_,ah (aF (i:=2) nX.nd rfl (Or.inl rfl) (pv 0))
   (ah (aF (i:=3) nX.nd rfl (Or.inl rfl) (bj ae))
   (ah (fD PassesOwn.never rfl (dQ (pv 1)) (cj (i:=4) nX.nd rfl (Or.inl rfl))
    (ah (aF (i:=5) nX.nd rfl (Or.inl rfl) (aB (Ex T) hr (by rfl) T.DL T.vS.kp T.AX .nil au (aa (pv 2) (aa (pv 4) ae))))
    (ah (aO (aX gj (pv 5) cS (aV _)) (aj (aq cS)) aP)
    (ah (dH (eC PySem.F.plainAttrs_list PySem.F.slot_list_append PySem.F.type_list_append hJ (pv 3) (aa (cN gX (pv 5) aR (λ_ _=>rfl)) ae)))
    (aj (aF (i:=2) nX.nd rfl (Or.inl rfl) (cN gX (pv 5) aR (λ_ _=>rfl))))))))
   (aj (aq (pv 3))))),?_⟩
  have ul:=bf.len rv;refine⟨_,rfl,Nat.zero_le _,λL H1 nL s1 hL=>?_⟩;have nlL:l≠L:=bq hl nL;have rv1:=rv.same s1;refine⟨_,rfl,l,rfl,⟨_,ak.of (s1 _ _ hl)⟩,kG (K:=K) (a:=l) (xs:=us) (λi σ H'=>∃(vb:V) (v4 v5:Option V) (b:ai) (ps:List ai) (pvs:List V),σ=[some v,some (.ref l),some vb,some (.ref L),v4,v5]/\ax L H1 H'/\cU K a H' vb ⟨p.name,b⟩/\
   H' L=some (.lst pvs)/\bf K a H' pvs (named (namesOf (r.take i)) ps)/\pvs.length=i/\ps.length=i/\i<=r.length/\(∀n,behind b (stepsOf (r.drop i))= .error n->∃m,behind p.step (stepsOf r)= .error m)/\
   (∀l1 p2,behind b (stepsOf (r.drop i))= .ok (l1,p2)->behind p.step (stepsOf r)= .ok (ps++l1,p2))) ?_ ?_ ?_ ?_⟩
  ·exact⟨v,none,none,p.step,[],[],rfl,ax.refl _ _,hp.same s1,hL,.nil,rfl,rfl,Nat.zero_le _,λn h=>⟨n,h⟩,λl1 p2 h=>h⟩
  ·rintro i σ H' _ ⟨_,_,_,_,_,_,_,S3,_⟩;exact ak.of (S3 _ _ (s1 _ _ hl) nlL)
  ·rintro i y σ H3 hy ⟨vb,v4,v5,b,ps,pvs,rfl,S3,pb,hL3,rp,hpl,hps,hir,e1,e2⟩;obtain⟨q,hq,pq⟩:=ij rv1 hy;have hi:=(List.getElem?_eq_some_iff.mp hq).1;have ed:r.drop i=q::r.drop (i+1):=by rw[List.drop_eq_getElem_cons hi,(List.getElem?_eq_some_iff.mp hq).2]
   have es:stepsOf (r.drop i)=q.step::stepsOf (r.drop (i+1)):=by rw[ed];rfl
   rw[es] at e1 e2;have pq3:=pq.xL S3 hL;refine⟨_,rfl,_,rfl,_,_,⟨p.name,b⟩,q,rfl,pb,pq3,λhc H4 s4=>?_,λq' p' hc H4 v4 s4 ⟨t,u1,u2,ev,ht,h1,h2⟩=>?_⟩
   ·refine⟨_,rfl,rfl,_,rfl,?_⟩;obtain⟨m,hm⟩:=e1 0 (ka hc);exact k1 m hm H4 (af.bY s1 (S3.trans (af.x s4)) nL)
   ·subst ev;have hL4:=s4 _ _ hL3;refine⟨_,rfl,rfl,_,rfl,_,rfl,.inl ⟨rfl,_,ak.of hL4⟩,_,rfl,t,_,_,_,rfl,rfl,ht,cK (j:=0) rfl,L,_,_,rfl,rfl,hL4,bU (by omega),?_⟩;have S5:ax L H4 (upd H4 L (.lst (pvs++[u1]))):=ax.upd;have ht5:=S5.sq ht hL4;have hL5:(upd H4 L (.lst (pvs++[u1]))) L=some (.lst (pvs++[u1])):=az;generalize upd H4 L (.lst (pvs++[u1]))=H5 at S5 ht5 hL5⊢;refine⟨_,rfl,t,_,_,_,rfl,rfl,ht5,cK (j:=1) rfl,u2,_,_,p',ps++[q'],pvs++[u1],rfl,(S3.trans (af.x s4)).trans S5,h2.xL S5 hL4,hL5,?_,?_,?_,hi,λn h=>?_,λl1 p2 h=>?_⟩
    ·rw[take_snoc hq];have:named (namesOf (r.take i++[q])) (ps++[q'])=named (namesOf (r.take i)) ps++[⟨q.name,q'⟩]:=by
      unfold Vapatc.named Vapatc.namesOf;rw[List.map_append,List.zip_append (by rw[List.length_map,List.length_take,hps];omega),List.map_append];rfl
     rw[this];exact ig ((rp.same s4).xL S5 hL4) (.cons (h1.xL S5 hL4) .nil)
    ·rw[List.length_append,hpl];rfl
    ·rw[List.length_append,hps];rfl
    ·exact e1 (n+1) (mC hc h)
    ·have:=e2 (q'::l1) p2 (dC hc h);rw[List.append_assoc];exact this
  ·rintro σ H3 ⟨vb,v4,v5,b,ps,pvs,rfl,S3,pb,hL3,rp,hpl,hps,hir,e1,e2⟩;rw[ul,List.drop_length] at e2;rw[ul,List.take_length] at rp;have h:=e2 [] b rfl;rw[List.append_nil] at h;exact⟨_,rfl,k2 ps b h H3 (.ref L) (af.bY s1 S3 nL) ⟨L,pvs,rfl,hL3,rp⟩⟩
def nameAt (r:ag) (j:Nat):Nat:=((r[j]?).map λp=>p.name).getD 0
theorem dF {x:ai×Nat} {l:List (ai×Nat)} {bl b:List ai} {k:List Nat} {y:ai} (h:behind x.1 bl= .ok (b,y)):needsFrom (x::l) bl k=needsFrom l b k:=by simp only[Vapatb.needsFrom,h]
theorem dE {x:ai×Nat} {l:List (ai×Nat)} {bl:List ai} {k:List Nat} {n:Nat} (h:behind x.1 bl= .error n):needsFrom (x::l) bl k=needsFrom l (x.1::bl) (x.2::k):=by simp only[Vapatb.needsFrom,h]
theorem pH {l:List ai} {k:Nat} {q:ai} (h:l[k]?=some q):Vapatb.needs l k=needsFrom (l.take k).zipIdx.reverse [q] []:=by unfold Vapatb.needs;simp only[h]
theorem TJ {l:List ai} {k i:Nat} {p:ai} (hk:k<=l.length) (hi:i<k) (hp:l[k-1-i]?=some p):((l.take k).zipIdx.reverse).drop i=(p,k-1-i)::((l.take k).zipIdx.reverse).drop (i+1):=by
 have hl:(l.take k).zipIdx.reverse.length=k:=by rw[List.length_reverse,List.length_zipIdx,List.length_take];omega
 rw[List.drop_eq_getElem_cons (by rw[hl];exact hi)];congr 1;have:(l.take k).zipIdx.reverse[i]?=some (p,k-1-i):=by
  rw[List.getElem?_reverse (by rw[List.length_zipIdx,List.length_take];omega),List.length_zipIdx,List.length_take,Nat.min_eq_left hk,List.getElem?_zipIdx,List.getElem?_take_of_lt (by omega),hp];simp
 exact(List.getElem?_eq_some_iff.mp this).2
theorem IZ (xs:List V) (h:xs≠[]):cM xs none (some (-1))=xs.dropLast:=by
 unfold cM;have hl:0<xs.length:=List.length_pos_iff.mpr h;have e:HT.aW xs.length xs.length (some (-1))=xs.length-1:=by
  show(if (-1:Int)<0 then ((-1:Int)+(xs.length:Int)).toNat else min (-1:Int).toNat xs.length)=xs.length-1;rw[if_pos (by decide)];omega
 rw[e,HT.pT,List.drop_zero,Nat.sub_zero,List.dropLast_eq_take]
def z8 (K:PySem.W.Frag) (a:Ad):Sp:=λvs H Q _=>∃(v:V) (r:ag) (k:Nat),vs=[v,.int (k:Nat)]/\bw K a H v r/\k<r.length/\r.length<=50/\∀(H':Hp) (v':V),af H H'->bN H' v' (Vapatc.ints ((Vapatb.needs (stepsOf r) k).map (nameAt r)))->Q v' H'
theorem sO (T:Tx K mg a d):aA P w K mg base aL 9 a.ll d.ll ["row","place"] (z8 K a):=by
 refine T.oV.ok nV (λvs H Q E h=>?_) (λcdv A outer s H vs Q E hr h=>?_)
 ·obtain⟨v,r,k,rfl,_⟩:=h;rfl
 ·obtain⟨v,r,k,rfl,⟨l,us,rfl,hl,rv⟩,hk,hlen,kk⟩:=h;refine⟨_,ah (aF (i:=2) nV.nd rfl (Or.inl rfl) (bj (aa (cN eA (pv 0) (pv 1) (λ_ _=>rfl)) ae)))
   (ah (fD PassesOwn.never rfl (E8 (by rfl) T.Bo (aa (fP iw (pv 0) gC (fe (pv 1))) ae)) (cj (i:=3) nV.nd rfl (Or.inl rfl))
    (ah (aF (i:=4) nV.nd rfl (Or.inl rfl) (aB (EG T) hr (by rfl) T.DU T.wa.kp T.A8 .nil au (aa (pv 3) (aa (pv 2) ae))))
    (aj (aO (aX gj (pv 4) cS (aV _)) (aj (aF (i:=2) nV.nd rfl (Or.inl rfl) (bt eZ (bj (aa (pv 3) ae)) (pv 2)))) (aj (aF (i:=2) nV.nd rfl (Or.inl rfl) (pv 4)))))))
   (aj (aq (aB (sM T) (hr.mono (by decide)) (by rfl) T.rY T.oU.kp T.qC .nil au (aa (fP iw (pv 2) gC (fe (xX Ak aR))) ae))))),?_⟩
  have ul:=bf.len rv;obtain⟨p,hp⟩:∃p,r[k]?=some p:=⟨_,List.getElem?_eq_getElem hk⟩
  obtain⟨vf,hvf,paf⟩:=lE rv hp;have hps:(stepsOf r)[k]?=some p.step:=by unfold Vapatc.stepsOf;rw[List.getElem?_map,hp];rfl
  refine⟨_,rfl,_,rfl,l,us,_,vf,rfl,rfl,ak.of hl,cK hvf,(by show 1<=sizeLine;decide),λG H1 nG s1 hG=>?_⟩;refine⟨_,rfl,_,rfl,_,rfl,l,us,rfl,ak.of (s1 _ _ hl),λS H2 nS s2 hS=>?_⟩;rw[vE us k (by omega)] at hS;have s12:=s1.trans s2;have rv2:=rv.same s12;have lt:(us.take k).length=k:=by rw[List.length_take];omega
  refine⟨S,us.take k,rfl,ak.of hS,CQ (K:=K) (a:=S) (xs:=us.take k) (λi σ H'=>∃(vg:V) (v3 v4:Option V) (g:ag) (ks:List Nat),σ=[some (.ref l),some (.int (k:Nat)),some vg,v3,v4]/\af H2 H'/\bw K a H' vg g/\namesOf g=ks.map (nameAt r)++[p.name]/\g.length<=i+1/\
   Vapatb.needs (stepsOf r) k=needsFrom ((((stepsOf r).take k).zipIdx.reverse).drop i) (stepsOf g) ks) ?_ ?_ ?_ ?_⟩
  ·refine⟨.ref G,none,none,[p],[],rfl,af.refl _,⟨G,[vf],rfl,s2 _ _ hG,.cons (paf.same s12) .nil⟩,rfl,Nat.le_refl _,?_⟩;rw[List.drop_zero];exact pH hps
  ·rintro i σ H' _ ⟨_,_,_,_,_,_,s3,_⟩;exact ak.of (s3 _ _ hS)
  ·rintro i y σ H3 hi hy ⟨vg,v3,v4,g,ks,rfl,s3,rg,hn,hgl,eq⟩;rw[lt] at hi hy;rw[List.getElem?_take_of_lt (by omega)] at hy;obtain⟨q,hq,pq⟩:=ij rv2 hy;have hqs:(stepsOf r)[k-1-i]?=some q.step:=by unfold Vapatc.stepsOf;rw[List.getElem?_map,hq];rfl
   rw[TJ (by rw[iy];omega) hi hqs] at eq;refine⟨_,rfl,_,rfl,_,_,q,g,rfl,pq.same s3,rg,by omega,λn hb H4 s4=>?_,λl1 p2 hb H4 v' s4 rg4=>?_⟩
   ·refine⟨_,rfl,rfl,_,rfl,_,rfl,(by show 1<=sizeLine;decide),λl5 H5 n5 s5 e5=>?_⟩;obtain⟨lg,gs,rfl,hg,rgv⟩:=(rg.same s4).same s5;refine⟨_,rfl,l5,lg,_,_,rfl,rfl,e5,hg,?_,λl6 H6 n6 s6 e6=>?_⟩
    ·have:=bf.len rgv;exact Nat.le_of_lt (bU (by show 1+_<=_;omega))
    refine⟨.ref l6,_,_,q::g,(k-1-i)::ks,rfl,((s3.trans s4).trans s5).trans s6,⟨l6,_,rfl,e6,.cons (((pq.same s3).same s4).same (s5.trans s6)) (rgv.same s6)⟩,?_,by rw[List.length_cons];omega,?_⟩
    ·show q.name::namesOf g=nameAt r (k-1-i)::(ks.map (nameAt r))++[p.name]
     rw[hn];unfold nameAt;rw[hq];rfl
    ·rw[eq,dE (x:=(q.step,k-1-i)) hb];rfl
   ·have hne:∃lg gs,v'= .ref lg/\H4 lg=some (.lst gs)/\bf K a H4 gs (named (namesOf g) l1):=rg4;obtain⟨lg,gs,rfl,hg,rgv⟩:=hne;refine⟨_,rfl,rfl,_,rfl,_,rfl,.ref lg,_,_,named (namesOf g) l1,ks,rfl,s3.trans s4,⟨lg,gs,rfl,hg,rgv⟩,?_,?_,?_⟩
    ·rw[k7 _ _ (by rw[gq hb,cz,iy]),hn]
    ·unfold Vapatc.named;rw[List.length_map,List.length_zip,cz];omega
    ·rw[eq,dF (x:=(q.step,k-1-i)) hb,oj _ _ (by rw[gq hb,cz,iy])]
  ·rintro σ H3 ⟨vg,v3,v4,g,ks,rfl,s3,⟨lg,gs,rfl,hg,rgv⟩,hn,hgl,eq⟩;rw[lt] at hgl eq;have ed:(((stepsOf r).take k).zipIdx.reverse).drop k=[]:=List.drop_eq_nil_of_le (by rw[List.length_reverse,List.length_zipIdx,List.length_take];omega);rw[ed] at eq;have eq:Vapatb.needs (stepsOf r) k=ks:=eq;have gl:g.length=ks.length+1:=by have:=congrArg List.length hn;rw[cz,List.length_append,List.length_map] at this;exact this
   have gne:gs≠[]:=λz=>by have:=bf.len rgv;rw[z] at this;simp at this;omega
   refine⟨_,rfl,_,rfl,_,rfl,lg,gs,rfl,ak.of hg,λl4 H4 n4 s4 e4=>?_⟩;have e4:H4 l4=some (.lst gs.dropLast):=by rw[e4];exact congrArg (λz=>some (HO.lst z)) (IZ gs gne)
   refine⟨_,g.dropLast,rfl,⟨l4,_,rfl,e4,?_⟩,by rw[List.length_dropLast];omega,λH5 v5 s5 i5=>?_⟩
   ·have:=xU (g.length-1) (rgv.same s4);rw[List.dropLast_eq_take,List.dropLast_eq_take,bf.len rgv];exact this
   ·refine kk H5 v5 ((s12.trans (s3.trans s4)).trans s5) ?_;rw[eq];have:namesOf g.dropLast=ks.map (nameAt r):=by
     unfold Vapatc.namesOf;rw[List.map_dropLast];have hn':(g.map λp=>p.name)=ks.map (nameAt r)++[p.name]:=hn;rw[hn',List.dropLast_concat]
    rw[this] at i5;exact i5
end PR
namespace PR
open PySem PySem.Spec PyProof.Rows L2
open Vapatc (namesOf stepsOf named frontAt front put rising fronts placeOf)
theorem yd (n:Nat):∀l:List Nat,(put n l).Perm (n::l)
 |[]=> .refl _
 |x::l=>by
  unfold Vapatc.put
  split
  ·exact .refl _
  ·exact((yd n l).cons x).trans (.swap n x l)
theorem Fo {n:Nat}:∀{l:List Nat},l.Pairwise (·<=·)->(put n l).Pairwise (·<=·)
 |[],_=>List.pairwise_singleton _ _
 |x::l,h=>by
  unfold Vapatc.put;have h1:∀y∈l,x<=y:=(List.pairwise_cons.mp h).1;have h2:=(List.pairwise_cons.mp h).2
  split
  ·rename_i hlt
   refine List.Pairwise.cons (λy hy=>?_) h;rcases List.mem_cons.mp hy with e|e
   ·omega
   ·have:=h1 y e;omega
  ·rename_i hge
   refine List.Pairwise.cons (λy hy=>?_) (Fo h2);rcases List.mem_cons.mp ((yd n l).mem_iff.mp hy) with e|e
   ·omega
   ·exact h1 y e
theorem CN:∀(l k:List Nat),(l.foldl (λk x=>put x k) k).Perm (l++k)
 |[],k=> .refl _
 |x::l,k=>(CN l (put x k)).trans (((yd x k).append_left l).trans List.perm_middle)
theorem CO:∀(l:List Nat) {k:List Nat},k.Pairwise (·<=·)->(l.foldl (λk x=>put x k) k).Pairwise (·<=·)
 |[],_,h=>h
 |x::l,_,h=>CO l (Fo h)
theorem fT (l:List Nat):(rising l).Perm l:=by
 have:=CN l [];rw[List.append_nil] at this;exact this
theorem tw (l:List Nat):(rising l).Pairwise (·<=·):=CO l List.Pairwise.nil
theorem Lu {l:List Nat} (h:l.Pairwise (·<=·)):(Vapatc.ints l).Pairwise (·<=·):=by
 unfold Vapatc.ints;rw[List.pairwise_map];exact h.imp λq=>by show((_:Nat):Int)<=((_:Nat):Int);omega
theorem sorted_ints {l:List Nat} {ns:List Int} (h:ns.Perm (Vapatc.ints l)) (h2:ns.Pairwise (·<=·)):ns=Vapatc.ints (rising l):=
 z6 (h.trans ((fT l).map _).symm) h2 (Lu (tw l))
def aM (r:ag):Prop:=(namesOf r).Nodup
theorem lJ {r:ag} (hn:aM r) {k:Nat} {p:bp} (h:r[k]?=some p):placeOf r p.name=some k:=by
 unfold Vapatc.placeOf;rw[List.findIdx?_eq_some_iff_getElem];obtain⟨hk,e⟩:=List.getElem?_eq_some_iff.mp h;refine⟨hk,by rw[e];exact beq_self_eq_true _,λj hj=>?_⟩;intro z;have z:r[j].name=p.name:=by simpa using z
 have hn':(r.map λp=>p.name).Nodup:=hn;have hp:=List.pairwise_iff_getElem.mp hn' j k (by rw[List.length_map];omega) (by rw[List.length_map];omega) hj;rw[List.getElem_map,List.getElem_map,z,e] at hp;exact hp rfl
theorem CW {r:ag} (hn:aM r) {k:Nat} {p:bp} (h:r[k]?=some p):front r p.name=frontAt r k:=by
 unfold Vapatc.front;rw[lJ hn h];rfl
def et (r:ag) (m:Nat):List Nat:=(List.range m).filter λk=>(frontAt r k).isSome
theorem CU (r:ag) (m:Nat):et r (m+1)=et r m++(if (frontAt r m).isSome then [m] else []):=by
 unfold et;rw[List.range_succ,List.filter_append];congr 1;cases h:(frontAt r m).isSome<;>simp[List.filter,h]
theorem Kr {r:ag} {m k:Nat} (h:k∈et r m):k<m:=by
 unfold et at h;exact List.mem_range.mp (List.mem_filter.mp h).1
theorem wk (r:ag) (m:Nat):(et r m).length<=m:=by
 unfold et;have:=List.length_filter_le (λk=>(frontAt r k).isSome) (List.range m);rw[List.length_range] at this;exact this
theorem m6 (r:ag):namesOf r=(List.range r.length).map (nameAt r):=by
 refine List.ext_getElem? λk=>?_;unfold Vapatc.namesOf nameAt;rw[List.getElem?_map,List.getElem?_map];by_cases h:k<r.length
 ·rw[List.getElem?_range h,List.getElem?_eq_getElem h];simp[h]
 ·rw[List.getElem?_eq_none (by omega),List.getElem?_eq_none (by rw[List.length_range];omega)];rfl
theorem Kt {r:ag} (hn:aM r) {k:Nat} (h:k<r.length):front r (nameAt r k)=frontAt r k:=by
 have e:=List.getElem?_eq_getElem h;have:=CW hn e;unfold nameAt;rw[e];exact this
theorem Ky {r:ag} (hn:aM r):(namesOf r).filter (λn=>(front r n).isSome)=(et r r.length).map (nameAt r):=by
 rw[m6,List.filter_map];unfold et;congr 1;refine List.filter_congr λk hk=>?_;show(front r (nameAt r k)).isSome=_;rw[Kt hn (List.mem_range.mp hk)]
theorem CZ {r:ag} (hn:aM r):fronts r=rising ((et r r.length).map (nameAt r)):=by
 unfold Vapatc.fronts;rw[Ky hn]
def RJ (K:PySem.W.Frag) (a:Ad):Sp:=λvs H Q _=>∃(v:V) (r:ag),vs=[v]/\bw K a H v r/\r.length<=50/\aM r/\∀(H':Hp) (v':V),af H H'->bN H' v' (Vapatc.ints (fronts r))->Q v' H'
theorem EC (T:Tx K mg a d):aA P w K mg base aL 9 a.k8 d.k8 ["row"] (RJ K a):=by
 refine T.vX.ok pX (λvs H Q E h=>?_) (λcdv A outer s H vs Q E hr h=>?_)
 ·obtain⟨v,r,rfl,_⟩:=h;rfl
 ·obtain⟨v,r,rfl,⟨l,us,rfl,hl,rv⟩,hlen,hn,kk⟩:=h;refine⟨_,ah (Fm (i:=1) (own:=[("place",2)]) (te:=aY 2) (tt:=oq (cW (λx y H Q=>y= .aI/\Q (.bl (!decide (x= .aI))) H) (jf (F9 K a) [] E0 (cn (aY 0) (cn (aY 2) dS))) (tC .aI))) rfl pX.nd rfl rfl (Gi rfl rfl rfl rfl)
   (pO (by rfl) T.kf (aa (bh bH (by rfl) T.bC PySem.boot_len (aa (pv 0) ae)) ae)) (eG (N:=["row","places","place"]) (sc:=ay pV) (by decide+kernel)) (λ_ _ _ _ _=>cj (i:=2) pX.nd rfl (Or.inl rfl))
   (λ_ _ _ _ _=>nR (aX xQ (aB (xK T) hr (by rfl) T.wX T.rf.kp T.uX .nil au (aa (pv 0) (aa (pv 2) ae))) cS (aV _))) (λ_ _ _ _ _=>pv 2))
   (aj (aq (bh BD (by rfl) T.kg kg (aa (fB (te:=iz K (cW (sY K) (aY 0) (aY 2)) "name") (own:=[("place",2)]) rfl pX.nd (dQ (pv 1)) (eG (N:=["row","places","place"]) (sc:=ay pV) (by decide+kernel)) (λ_ _ _ _ _=>cj (i:=2) pX.nd rfl (Or.inl rfl)) (λ_ _ _ _ _=>gD)
    (λ_ _ _ _ _=>ao (cN eA (pv 0) (pv 2) (λ_ _=>rfl)) rfl)) ae)))),?_⟩
  have ul:=bf.len rv;refine⟨_,rfl,l,us,rfl,.inl (ak.of hl),_,rfl,by omega,by omega,λD hD=>rL (λm H2=>af H H2/\H2 D=some (.lst ((et r m).map λ(k:Nat)=>V.int k))) ?_ ?_ ?_⟩
  ·exact⟨af.new hD,az⟩
  ·rintro m H2 hm ⟨s2,hD2⟩;rw[Int.zero_add];have hm:m<r.length:=by rw[<-ul];exact hm
   have hlen2:=wk r m;refine⟨rfl,_,rfl,_,rfl,_,r,m,rfl,⟨l,us,rfl,s2 _ _ hl,rv.same s2⟩,hm,by omega,λhf H3 s3=>?_,λp rest hf H3 v3 s3 _ r3=>?_⟩
   ·refine⟨rfl,_,rfl,s2.trans s3,?_⟩;rw[CU,hf];exact s3 _ _ (by rw[hD2];simp)
   ·obtain⟨l3,us3,rfl,_⟩:=r3;refine⟨rfl,_,rfl,_,rfl,_,s3 _ _ hD2,?_,?_,?_⟩
    ·rw[List.length_map];exact bU (by omega)
    ·exact af.write (s2.trans s3) hD
    ·rw[az,CU,hf];simp
  ·rintro H2 ⟨s2,hD2⟩;have:(Int.ofNat us.length).toNat=r.length:=by show us.length=_;exact ul
   rw[ul] at hD2;have hD2:H2 D=some (.lst ((et r r.length).map λ(k:Nat)=>V.int k)):=hD2;have hlen2:=wk r r.length;have rv2:=rv.same s2;have hl2:=s2 _ _ hl;refine⟨_,rfl,D,rfl,⟨_,ak.of hD2⟩,λD2 hDn=>pE (K:=K) (a:=D) (xs:=(et r r.length).map λ(k:Nat)=>V.int k) (λm H3=>af H2 H3/\H3 D2=some (.lst ((Vapatc.ints (((et r r.length).take m).map (nameAt r))).map V.int))) ?_ ?_ ?_ ?_⟩
   ·exact⟨af.new hDn,az⟩
   ·rintro m H3 _ ⟨s3,_⟩;exact ak.of (s3 _ _ hD2)
   ·rintro m z H3 hz ⟨s3,hD3⟩;obtain⟨k,hk,rfl⟩:∃k,(et r r.length)[m]?=some k/\z=V.int (k:Nat):=by
     rw[List.getElem?_map] at hz;cases e:(et r r.length)[m]? with
     |none=>rw[e] at hz;cases hz
     |some t=>rw[e] at hz;exact⟨t,rfl,(Option.some.inj hz).symm⟩
    have hkl:=Kr (List.mem_of_getElem? hk);obtain⟨p,hp⟩:∃p,r[k]?=some p:=⟨_,List.getElem?_eq_getElem hkl⟩
    obtain⟨vf,hvf,x,dx,vs,rfl,hx,hst⟩:=lE rv2 hp;refine⟨rfl,_,rfl,_,rfl,l,us,_,.ref x,rfl,rfl,ak.of (s3 _ _ hl2),cK hvf,x,a.Patch,dx,_,_,rfl,s3 _ _ hx,T.dv,T.fO,gd,_,hD3,?_,?_⟩
    ·rw[List.length_map];unfold Vapatc.ints;rw[List.length_map,List.length_map,List.length_take];exact bU (by omega)
    ·refine⟨af.write s3 hDn,?_⟩;rw[az,take_snoc hk];unfold Vapatc.ints;rw[List.map_append,List.map_append,List.map_append];have:nameAt r k=p.name:=by unfold nameAt;rw[hp];rfl
     show _=some (HO.lst (_++[V.int (nameAt r k:Nat)]));rw[this]
   ·rintro H3 ⟨s3,hD3⟩;rw[List.length_map,List.take_length] at hD3;refine⟨D2,_,rfl,ak.of hD3,?_,λns' hp hs L H4 n4 s4 e4=>?_⟩
    ·unfold Vapatc.ints;rw[List.length_map,List.length_map];omega
    ·refine kk H4 (.ref L) ((s2.trans s3).trans s4) ⟨L,rfl,?_⟩;rw[e4,sorted_ints hp hs,CZ hn]
end PR
namespace PR
open PySem PySem.Spec PyProof.Rows L2
open Vapatc (namesOf stepsOf placeOf)
open Vapatb (behind needsFrom)
theorem so:∀{l:List (ai×Nat)} {b:List ai} {ks:List Nat} {x:Nat},x∈needsFrom l b ks->x∈ks\/x∈l.map (·.2)
 |[],_,_,_,h=> .inl h
 |y::l,b,ks,x,h=>by
  cases e:behind y.1 b with
  |ok z=>
   obtain⟨l1,p2⟩:=z;rw[dF e] at h;rcases so h with q|q
   ·exact .inl q
   ·exact .inr (List.mem_cons_of_mem _ q)
  |error n=>
   rw[dE e] at h;rcases so h with q|q
   ·rcases List.mem_cons.mp q with z|z
    ·exact .inr (by rw[z];exact List.mem_cons_self)
    ·exact .inl z
   ·exact .inr (List.mem_cons_of_mem _ q)
theorem m8 {l:List ai} {j x:Nat} (h:x∈Vapatb.needs l j):x<j:=by
 cases e:l[j]? with
 |none=>unfold Vapatb.needs at h;rw[e] at h;cases h
 |some q=>
  rw[pH e] at h;rcases so h with z|z
  ·cases z
  ·rw[List.map_reverse,List.mem_reverse] at z;obtain⟨y,hy,rfl⟩:=List.mem_map.mp z;have:=(List.mem_zipIdx hy).2.1;rw[List.length_take] at this;omega
theorem xm {r:ag} (hn:aM r) {i j:Nat} (hi:i<r.length) (hj:j<r.length) (h:nameAt r i=nameAt r j):i=j:=by
 have hi':=List.getElem?_eq_getElem hi;have hj':=List.getElem?_eq_getElem hj;have e1:=lJ hn hi';have e2:=lJ hn hj';unfold nameAt at h;rw[hi',hj'] at h;have h:r[i].name=r[j].name:=h;rw[h,e2] at e1;exact(Option.some.inj e1).symm
theorem iT {r:ag} (hn:aM r) {j:Nat} (h:j<r.length):Vapatc.needs r (nameAt r j)=(Vapatb.needs (stepsOf r) j).map (nameAt r):=by
 have e:=List.getElem?_eq_getElem h;have e2:=lJ hn e;have e3:nameAt r j=r[j].name:=by unfold nameAt;rw[e];rfl
 unfold Vapatc.needs;rw[e3,e2];rfl
def lj (r:ag) (k m:Nat):List Nat:=((List.range m).map λi=>k+1+i).filter λj=>((Vapatb.needs (stepsOf r) j).map (nameAt r)).contains (nameAt r k)
theorem D5 (r:ag) (k m:Nat):lj r k (m+1)=lj r k m++(if ((Vapatb.needs (stepsOf r) (k+1+m)).map (nameAt r)).contains (nameAt r k) then [k+1+m] else []):=by
 unfold lj;rw[List.range_succ,List.map_append,List.filter_append];congr 1;show List.filter _ [k+1+m]=_;cases h:((Vapatb.needs (stepsOf r) (k+1+m)).map (nameAt r)).contains (nameAt r k)<;>simp only[List.filter,h]<;>rfl
theorem NG (r:ag) (k m:Nat):(lj r k m).length<=m:=by
 unfold lj;refine Nat.le_trans (List.length_filter_le _ _) ?_;rw[List.length_map,List.length_range];exact Nat.le_refl _
theorem NJ {r:ag} (hn:aM r) {k:Nat} (hk:k<r.length):Vapatc.neededBy r (nameAt r k)=(lj r k (r.length-(k+1))).map (nameAt r):=by
 unfold Vapatc.neededBy;rw[m6,List.filter_map];congr 1;have e1:(List.range r.length).filter ((λm=>(Vapatc.needs r m).contains (nameAt r k))∘nameAt r)=(List.range r.length).filter λj=>((Vapatb.needs (stepsOf r) j).map (nameAt r)).contains (nameAt r k):=by
  refine List.filter_congr λj hj=>?_;show(Vapatc.needs r (nameAt r j)).contains (nameAt r k)=_;rw[iT hn (List.mem_range.mp hj)]
 rw[e1];have e2:List.range r.length=List.range (k+1)++(List.range (r.length-(k+1))).map λi=>k+1+i:=by
  obtain⟨n,e⟩:∃n,r.length=k+1+n:=⟨r.length-(k+1),by omega⟩
  rw[e,Nat.add_sub_cancel_left,List.range_add]
 rw[e2,List.filter_append];have e3:(List.range (k+1)).filter (λj=>((Vapatb.needs (stepsOf r) j).map (nameAt r)).contains (nameAt r k))=[]:=by
  rw[List.filter_eq_nil_iff];intro j hj hc;have hj:=List.mem_range.mp hj;have hc:nameAt r k∈(Vapatb.needs (stepsOf r) j).map (nameAt r):=List.contains_iff_mem.mp hc;obtain⟨x,hx,e⟩:=List.mem_map.mp hc;have hl:=m8 hx;have:=xm hn (by omega) hk e;omega
 rw[e3,List.nil_append];rfl
theorem dD (l:List Nat):(Vapatc.ints l).map V.int=l.map λ(n:Nat)=>V.int n:=by unfold Vapatc.ints;rw[List.map_map];rfl
def RL (K:PySem.W.Frag) (a:Ad):Sp:=λvs H Q _=>∃(v:V) (r:ag) (k:Nat),vs=[v,.int (k:Nat)]/\bw K a H v r/\k<r.length/\r.length<=50/\aM r/\∀(H':Hp) (v':V),af H H'->bN H' v' (Vapatc.ints (Vapatc.neededBy r (nameAt r k)))->Q v' H'
theorem ED (T:Tx K mg a d):aA P w K mg base aL 10 a.la d.la ["row","place"] (RL K a):=by
 refine T.vY.ok tV (λvs H Q E h=>?_) (λcdv A outer s H vs Q E hr h=>?_)
 ·obtain⟨v,r,k,rfl,_⟩:=h;rfl
 ·obtain⟨v,r,k,rfl,⟨l,us,rfl,hl,rv⟩,hk,hlen,hn,kk⟩:=h;refine⟨_,ah (aF (i:=2) tV.nd rfl (Or.inr rfl) (ao (cN eA (pv 0) (pv 1) (λ_ _=>rfl)) rfl))
   (aj (aq (fB (own:=[("later",3)]) (te:=iz K (cW (sY K) (aY 0) (aY 3)) "name") (tt:=oq (cW (il K false) (aY 2) (jf (z8 K a) [] E0 (cn (aY 0) (cn (aY 3) dS))))) rfl tV.nd
    (Pb (by rfl) T.kf (aa (bt eO (pv 1) aR) (aa (bh bH (by rfl) T.bC PySem.boot_len (aa (pv 0) ae)) ae))) (eG (N:=["row","place","name","later"]) (sc:=ay tN) (by decide+kernel)) (λ_ _ _ _ _=>cj (i:=3) tV.nd rfl (Or.inl rfl))
    (λ_ _ _ _ _=>nR (aX iV (pv 2) (aB (sO T) hr (by rfl) T.rZ T.oV.kp T.qD .nil au (aa (pv 0) (aa (pv 3) ae))) (by with_unfolding_all rfl)))
    (λ_ _ _ _ _=>ao (cN eA (pv 0) (pv 3) (λ_ _=>rfl)) rfl)))),?_⟩
  have ul:=bf.len rv;obtain⟨p,hp⟩:∃p,r[k]?=some p:=⟨_,List.getElem?_eq_getElem hk⟩
  obtain⟨vf,hvf,x,dx,vs,rfl,hx,hst⟩:=lE rv hp;have hnk:nameAt r k=p.name:=by unfold nameAt;rw[hp];rfl
  refine⟨_,rfl,_,rfl,l,us,_,.ref x,rfl,rfl,ak.of hl,cK hvf,x,a.Patch,dx,_,_,rfl,hx,T.dv,T.fO,gd,?_⟩;refine⟨_,rfl,_,_,rfl,rfl,_,rfl,l,us,rfl,.inl (ak.of hl),_,_,rfl,⟨by omega,by omega,by omega,by omega⟩,λD hD=>?_⟩;have en:((us.length:Int)-((k:Int)+1)).toNat=r.length-(k+1):=by rw[ul];omega
  rw[en];refine rL (λm H2=>af H H2/\H2 D=some (.lst ((Vapatc.ints ((lj r k m).map (nameAt r))).map V.int))) ?_ ?_ ?_
  ·exact⟨af.new hD,az⟩
  ·rintro m H2 hm ⟨s2,hD2⟩;have ej:(k:Int)+1+(m:Int)=((k+1+m:Nat):Int):=by omega
   rw[ej];have hl2:=s2 _ _ hl;have hlen2:=NG r k m;refine⟨rfl,_,rfl,_,rfl,_,rfl,_,r,k+1+m,rfl,⟨l,us,rfl,hl2,rv.same s2⟩,by omega,hlen,λH3 v3 s3 ⟨L3,e3,h3⟩=>?_⟩;subst e3;rw[dD] at h3;refine⟨L3,_,rfl,.inl (ak.of h3),rfl,mK _,?_⟩;refine⟨_,rfl,?_⟩;show if (dc (V.int (p.name:Nat)) _)=true then _ else _
   rw[rH,<-hnk]
   split
   ·rename_i hc
    obtain⟨q,hq⟩:∃q,r[k+1+m]?=some q:=⟨_,List.getElem?_eq_getElem (by omega)⟩
    obtain⟨vq,hvq,y,dy,vs2,rfl,hy,hst2⟩:=lE rv hq;have s23:=s2.trans s3;refine⟨_,rfl,_,rfl,l,us,_,.ref y,rfl,rfl,ak.of (s23 _ _ hl),cK hvq,y,a.Patch,dy,_,_,rfl,s23 _ _ hy,T.dv,T.fO,gd,_,s3 _ _ hD2,?_,?_⟩
    ·rw[List.length_map];unfold Vapatc.ints;rw[List.length_map,List.length_map];exact bU (by omega)
    ·refine⟨af.write s23 hD,?_⟩;rw[az,D5,if_pos hc];unfold Vapatc.ints;rw[List.map_append,List.map_append,List.map_append];have:nameAt r (k+1+m)=q.name:=by unfold nameAt;rw[hq];rfl
     show _=some (HO.lst (_++[V.int (nameAt r (k+1+m):Nat)]));rw[this]
   ·rename_i hc
    refine⟨s2.trans s3,?_⟩;rw[D5,if_neg hc,List.append_nil];exact s3 _ _ hD2
  ·rintro H2 ⟨s2,hD2⟩;rw[<-NJ hn hk] at hD2;exact kk H2 (.ref D) s2 ⟨D,rfl,hD2⟩
end PR
namespace PR
open PySem PySem.Spec PyProof.Rows L2
open Vapatc (namesOf stepsOf named frontAt front fronts formBy form placeOf rising)
open Vapatb (aheadOf)
theorem ja {α:Type} {l:List α} {k:Nat} {x:α} (h:l[k]?=some x):l=l.take k++x::l.drop (k+1):=by
 obtain⟨hk,e⟩:=List.getElem?_eq_some_iff.mp h;rw[<-e,List.getElem_cons_drop,List.take_append_drop]
theorem oY {r rest:ag} {k:Nat} {p:bp} (h:frontAt r k=some (p,rest)):∃p0 q1 l1,r[k]?=some p0/\aheadOf (stepsOf (r.take k)) p0.step= .ok (q1,l1)/\p=⟨p0.name,q1⟩/\rest=named (namesOf (r.take k)) l1++r.drop (k+1):=by
 cases e:r[k]? with
 |none=>unfold Vapatc.frontAt at h;rw[e] at h;cases h
 |some p0=>
  cases e2:aheadOf (stepsOf (r.take k)) p0.step with
  |error n=>rw[wg e e2] at h;cases h
  |ok x=>
   obtain⟨q1,l1⟩:=x;rw[wj e e2] at h;cases h;exact⟨p0,q1,l1,rfl,e2,rfl,rfl⟩
theorem dA (r r':ag):namesOf (r++r')=namesOf r++namesOf r':=by unfold Vapatc.namesOf;rw[List.map_append]
theorem CT {r rest:ag} {k:Nat} {p:bp} (h:frontAt r k=some (p,rest)):namesOf rest=namesOf (r.take k)++namesOf (r.drop (k+1))/\namesOf r=namesOf (r.take k)++p.name::namesOf (r.drop (k+1)):=by
 obtain⟨p0,q1,l1,h0,h1,rfl,rfl⟩:=oY h;refine⟨?_,?_⟩
 ·rw[dA,k7 _ _ (by rw[qr h1,cz,iy])]
 ·have:=congrArg (λz=>Vapatc.namesOf z) (ja h0);have this:namesOf r=namesOf (r.take k++p0::r.drop (k+1)):=this;rw[dA] at this;exact this
theorem oX {r rest:ag} {k:Nat} {p:bp} (h:frontAt r k=some (p,rest)):(namesOf (p::rest)).Perm (namesOf r):=by
 obtain⟨e1,e2⟩:=CT h;show(p.name::namesOf rest).Perm _;rw[e1,e2];exact List.perm_middle.symm
theorem ro {r rest:ag} {k:Nat} {p:bp} (h:frontAt r k=some (p,rest)) (hn:aM r):aM (p::rest):=(oX h).nodup_iff.mpr hn
theorem rn {r rest:ag} {k:Nat} {p:bp} (h:frontAt r k=some (p,rest)):r.length=rest.length+1:=by
 have:=(oX h).length_eq;rw[cz,cz] at this;exact this.symm
theorem C0 {r:ag} {n:Nat}:n∈fronts r↔n∈namesOf r/\(front r n).isSome=true:=by
 unfold Vapatc.fronts;rw[(fT _).mem_iff,List.mem_filter]
theorem Kx {r:ag} (h:r≠[]):∃n l,fronts r=n::l:=by
 cases r with
 |nil=>exact absurd rfl h
 |cons p r=>
  have:p.name∈fronts (p::r):=by
   rw[C0];refine⟨List.mem_cons_self,?_⟩;unfold Vapatc.front Vapatc.placeOf;rw[List.findIdx?_cons,beq_self_eq_true];rfl
  cases e:fronts (p::r) with
  |nil=>rw[e] at this;cases this
  |cons n l=>exact⟨n,l,rfl⟩
theorem Kw {r:ag} {n:Nat} {l:List Nat} (h:fronts r=n::l):∃k p rest,placeOf r n=some k/\k<r.length/\frontAt r k=some (p,rest)/\front r n=some (p,rest):=by
 have hm:n∈fronts r:=by rw[h];exact List.mem_cons_self
 obtain⟨h1,h2⟩:=C0.mp hm;cases e:placeOf r n with
 |none=>unfold Vapatc.front at h2;rw[e] at h2;cases h2
 |some k=>
  have e2:front r n=frontAt r k:=by unfold Vapatc.front;rw[e];rfl
  rw[e2] at h2;obtain⟨x,hx⟩:=Option.isSome_iff_exists.mp h2;obtain⟨p,rest⟩:=x;refine⟨k,p,rest,rfl,?_,hx,e2.trans hx⟩;obtain⟨p0,_,_,h0,_⟩:=oY hx;exact(List.getElem?_eq_some_iff.mp h0).1
theorem Kq {r rest:ag} {n f:Nat} {l:List Nat} {p:bp} (h:fronts r=n::l) (h2:front r n=some (p,rest)):formBy (f+1) r=p::formBy f rest:=by
 simp only[Vapatc.formBy,h,List.head?_cons,h2]
theorem Aq {c:TT} {tb:TS} {D:Ends} {σ:L2.St} {H:Hp} (Pv:Nat->L2.St->Hp->Prop) (m0:Nat) (h0:Pv m0 σ H)
 (hs:∀m σ H,Pv m σ H->∃b H1,(∀Q:Bool->Hp->Prop,Q b H1->c σ H Q)/\(b=true->tb {D with nx:=λσ' H'=>∃m',m'<m/\Pv m' σ' H',ct:=λσ' H'=>∃m',m'<m/\Pv m' σ' H',bk:=D.nx} σ H1)/\(b=false->D.nx σ H1)):Gr c tb D σ H:=by
 refine⟨Pv,⟨m0,h0⟩,λm σ H p=>?_⟩;obtain⟨b,H1,hc,h1,h2⟩:=hs m σ H p;refine hc _ ?_;cases b with
 |true=>exact⟨_,λ_ _ h=>h,h1 rfl⟩
 |false=>exact h2 rfl
def RO (K:PySem.W.Frag) (a:Ad):Sp:=λvs H Q _=>∃(v:V) (r:ag),vs=[v]/\bw K a H v r/\r.length<=50/\aM r/\∀(H':Hp) (v':V),af H H'->bw K a H' v' (form r)->Q v' H'
theorem xM (T:Tx K mg a d):aA P w K mg base aL 10 a.lC d.lC ["row"] (RO K a):=by
 refine T.rh.ok nW (λvs H Q E h=>?_) (λcdv A outer s H vs Q E hr h=>?_)
 ·obtain⟨v,r,rfl,_⟩:=h;rfl
 ·obtain⟨v,r,rfl,rv,hlen,hn,kk⟩:=h;refine⟨_,ah (aF (i:=1) nW.nd rfl (Or.inl rfl) (bj ae))
   (ah (aF (i:=2) nW.nd rfl (Or.inl rfl) (pv 0))
   (ah (x9 PassesOwn.never (aX nA (bh bH (by rfl) T.bC PySem.boot_len (aa (pv 2) ae)) aR (aV _))
    (ah (aF (i:=3) nW.nd rfl (Or.inl rfl) (cN eA (aB (EC T) hr (by rfl) T.DQ T.vX.kp T.A4 .nil au (aa (pv 2) ae)) aR (λ_ _=>rfl)))
    (ah (aF (i:=2) nW.nd rfl (Or.inl rfl) (aB (xK T) (hr.mono (by decide)) (by rfl) T.wX T.rf.kp T.uX .nil au (aa (pv 2) (aa (aB (ic T) (hr.mono (by decide)) (by rfl) T.g0 T.gu.kp T.gN .nil au (aa (pv 2) (aa (pv 3) ae))) ae))))
    (ah (dH (eC PySem.F.plainAttrs_list PySem.F.slot_list_append PySem.F.type_list_append hJ (pv 1) (aa (cN eA (pv 2) aR (λ_ _=>rfl)) ae)))
    (aj (aF (i:=2) nW.nd rfl (Or.inl rfl) (fP iw (pv 2) (fe aR) gC)))))))
   (aj (aq (pv 1))))),?_⟩
  refine⟨Nat.zero_le _,λL H1 nL s1 hL=>?_⟩;refine⟨_,rfl,Aq (λm σ H2=>∃(vr:V) (v3:Option V) (rest done:ag) (pvs:List V),σ=[some v,some (.ref L),some vr,v3]/\ax L H1 H2/\bw K a H2 vr rest/\vr≠ .ref L/\aM rest/\H2 L=some (.lst pvs)/\bf K a H2 pvs done/\form r=done++formBy rest.length rest/\rest.length=m/\rest.length+done.length<=50) r.length ?_ ?_⟩
  ·refine⟨v,none,r,[],[],rfl,ax.refl _ _,rv.same s1,?_,hn,hL,.nil,rfl,rfl,by rw[List.length_nil];omega⟩;obtain⟨l,us,rfl,hl,_⟩:=rv;intro e;cases e;rw[nL] at hl;cases hl
  ·rintro m σ H2 ⟨vr,v3,rest,done,pvs,rfl,S2,rr,nvr,hn2,hL2,rd,eq,rfl,hb⟩;obtain⟨lr,us,rfl,hlr,rvr⟩:=rr;have ul:=bf.len rvr;have nlr:lr≠L:=λe=>nvr (by rw[e]);refine⟨decide ((0:Int)<(us.length:Int)),H2,λQ q=>⟨_,rfl,lr,us,rfl,.inl (ak.of hlr),_,_,rfl,rfl,_,rfl,q⟩,λz=>?_,λz=>?_⟩
   ·have hpos:0<rest.length:=by have:=of_decide_eq_true z;omega
    obtain⟨n,fl,hf⟩:=Kx (r:=rest) (λe=>by rw[e] at hpos;cases hpos);obtain⟨k,p,rest',hk,hkl,hfa,hfr⟩:=Kw hf;have hlf:=rn hfa;refine⟨_,rfl,_,rest,rfl,⟨lr,us,rfl,hlr,rvr⟩,by omega,hn2,λH3 v3 s3 ⟨L3,e3,h3⟩=>?_⟩;subst e3;rw[hf] at h3;refine⟨L3,_,_,V.int (n:Nat),rfl,rfl,ak.of h3,cK (j:=0) rfl,?_⟩;have rr3:bw K a H3 (.ref lr) rest:=⟨lr,us,rfl,s3 _ _ hlr,rvr.same s3⟩
    refine⟨_,rfl,_,rfl,_,rfl,_,rest,(n:Int),rfl,rr3,λk' hk' H4 s4=>?_,λhno=>?_⟩
    ·rw[x5,hk] at hk';cases hk';refine⟨_,rest,k,rfl,rr3.same s4,hkl,by omega,λhno=>?_,λp' rest2 hfa' H5 v5 s5 fr5 r5=>?_⟩
     ·rw[hfa] at hno;cases hno
     ·rw[hfa] at hfa';cases hfa';obtain⟨l5,us5,rfl,h5,rv5⟩:=r5;have s25:=(s3.trans s4).trans s5;have hL5:=s25 _ _ hL2;have pl:=bf.len rd;cases rv5 with
      |@cons u _ us6 _ pu rv6=>
       refine⟨_,rfl,.inl ⟨rfl,_,ak.of hL5⟩,_,rfl,l5,_,_,u,rfl,rfl,ak.of h5,cK (j:=0) rfl,L,_,_,rfl,rfl,hL5,bU (by omega),?_⟩;have S6:ax L H5 (upd H5 L (.lst (pvs++[u]))):=ax.upd;have hL6:(upd H5 L (.lst (pvs++[u]))) L=some (.lst (pvs++[u])):=az;have nl5:l5≠L:=λe=>by
        have:=fr5 l5 rfl;rw[e,(s3.trans s4) _ _ hL2] at this;cases this
       have h6:=S6 _ _ h5 nl5;have pu6:=pu.xL S6 hL5;have rv66:=bf.xL rv6 S6 hL5;have rd6:=(rd.same s25).xL S6 hL5;generalize upd H5 L (.lst (pvs++[u]))=H6 at S6 hL6 h6 pu6 rv66 rd6⊢;refine⟨_,rfl,_,rfl,l5,_,rfl,ak.of h6,λl7 H7 n7 s7 e7=>?_⟩;have e7:H7 l7=some (.lst us6):=by
        rw[e7];have:=qQ (u::us6) 1 (by rw[List.length_cons];omega);exact congrArg (λz=>some (HO.lst z)) this
       refine⟨rest'.length,by omega,.ref l7,_,rest',done++[p],pvs++[u],rfl,((S2.trans (af.x s25)).trans S6).trans (af.x s7),⟨l7,us6,rfl,e7,rv66.same s7⟩,λe=>?_,(List.nodup_cons.mp (ro hfa hn2)).2,s7 _ _ hL6,ig (rd6.same s7) (.cons (pu6.same s7) .nil),?_,rfl,?_⟩
       ·cases e;rw[n7] at hL6;cases hL6
       ·rw[eq,hlf,Kq hf hfr,List.append_assoc];rfl
       ·rw[List.length_append,List.length_singleton];omega
    ·rw[x5,hk] at hno;cases hno
   ·have e0:rest=[]:=List.eq_nil_of_length_eq_zero (by have:=of_decide_eq_false z;omega);subst e0;refine⟨_,rfl,kk H2 (.ref L) (af.bY s1 S2 nL) ⟨L,pvs,rfl,hL2,?_⟩⟩;rw[eq];show bf K a H2 pvs (done++[]);rw[List.append_nil];exact rd
end PR
namespace PR
open VapatBase (fileIn putFile dropFile applied appliedAll spliced swapAll swapToken isInside inFile disjoint commutedInside commuted)
abbrev FS:=Nat->Option (List Nat)
def dR (g:FS) (f:Nat) (o:Option (List Nat)):FS:=λx=>if x=f then o else g x
theorem cT (g:FS) (f:Nat) (o:Option (List Nat)):dR g f o f=o:=if_pos rfl
theorem eP (g:FS) {f x:Nat} (o:Option (List Nat)) (h:x≠f):dR g f o x=g x:=if_neg h
theorem B8 {t:aJ} {f:Nat} {o:Option (List Nat)} (h:br t) (h2:∀c,o=some c↔(f,c)∈t):fileIn t f=o:=by
 cases o with
 |none=>
  cases e:fileIn t f with
  |none=>rfl
  |some c=>have:=(h2 c).mpr ((fZ h).mp e);cases this
 |some c=>exact(fZ h).mpr ((h2 c).mp rfl)
theorem qY {t:aJ} (h:br t) (f:Nat) (c:List Nat):fileIn (putFile f c t)=dR (fileIn t) f (some c):=by
 funext x;refine B8 (lM h) λc'=>?_;rw[pQ h];by_cases e:x=f
 ·subst e;rw[cT];constructor
  ·intro q;left;rw[Option.some.inj q]
  ·rintro(q|⟨_,q⟩)
   ·rw[(Prod.mk.injEq ..▸q:x=x/\c'=c).2]
   ·exact absurd rfl q
 ·rw[eP _ _ e,fZ h];constructor
  ·intro q;exact .inr ⟨q,e⟩
  ·rintro(q|⟨q,_⟩)
   ·exact absurd (congrArg Prod.fst q) e
   ·exact q
theorem B7 {t:aJ} (h:br t) (f:Nat):fileIn (dropFile f t)=dR (fileIn t) f none:=by
 funext x;refine B8 (mI h) λc'=>?_;rw[vK];by_cases e:x=f
 ·subst e;rw[cT];constructor
  ·intro q;cases q
  ·rintro⟨_,q⟩;exact absurd rfl q
 ·rw[eP _ _ e,fZ h];exact⟨λq=>⟨q,e⟩,λq=>q.1⟩
theorem Gz:∀{t u:aJ},br t->br u->(∀y,y∈t↔y∈u)->t=u
 |[],[],_,_,_=>rfl
 |[],y::u,_,_,h=>by have:=(h y).mpr List.mem_cons_self;cases this
 |x::t,[],_,_,h=>by have:=(h x).mp List.mem_cons_self;cases this
 |x::t,y::u,ht,hu,h=>by
  have e:x=y:=by
   rcases List.mem_cons.mp ((h x).mp List.mem_cons_self) with q|q
   ·exact q
   ·rcases List.mem_cons.mp ((h y).mpr List.mem_cons_self) with r|r
    ·exact r.symm
    ·have h1:=hu.head x q;have h2:=ht.head y r;omega
  subst e;rw[Gz ht.tail hu.tail λz=>?_];constructor
  ·intro q;rcases List.mem_cons.mp ((h z).mp (List.mem_cons_of_mem _ q)) with r|r
   ·subst r;exact absurd (ht.head z q) (Nat.lt_irrefl _)
   ·exact r
  ·intro q;rcases List.mem_cons.mp ((h z).mpr (List.mem_cons_of_mem _ q)) with r|r
   ·subst r;exact absurd (hu.head z q) (Nat.lt_irrefl _)
   ·exact r
theorem SQ {t u:aJ} (ht:br t) (hu:br u) (h:fileIn t=fileIn u):t=u:=
 Gz ht hu λy=>by rw[<-fZ ht,<-fZ hu,h]
def cu (g:FS):ai->Option FS
 | .hunk f a o n=>(g f).bind λc=>(spliced c a o n).map λd=>dR g f (some d)
 | .swap f x y=>(g f).map λc=>dR g f (some (swapAll x y c))
 | .add f=>match g f with
   |none=>some (dR g f (some []))
   |some _=>none
 | .remove f=>if g f=some [] then some (dR g f none) else none
 | .move f h=>match g f,g h with
   |some c,none=>some (dR (dR g f none) h (some c))
   |_,_=>none
theorem uC {t:aJ} (ht:br t) (p:ai):(applied t p).map fileIn=cu (fileIn t) p/\∀u,applied t p=some u->br u:=by
 cases p with
 |hunk f a o n=>
  simp only[VapatBase.applied,cu];cases fileIn t f with
  |none=>exact⟨rfl,λu h=>by cases h⟩
  |some c=>
   simp only[Option.bind_some];cases spliced c a o n with
   |none=>exact⟨rfl,λu h=>by cases h⟩
   |some d=>exact⟨congrArg some (qY ht f d),λu h=>by cases h;exact lM ht⟩
 |swap f x y=>
  simp only[VapatBase.applied,cu];cases fileIn t f with
  |none=>exact⟨rfl,λu h=>by cases h⟩
  |some c=>exact⟨congrArg some (qY ht f _),λu h=>by cases h;exact lM ht⟩
 |add f=>
  simp only[VapatBase.applied,cu];cases fileIn t f with
  |none=>exact⟨congrArg some (qY ht f _),λu h=>by cases h;exact lM ht⟩
  |some c=>exact⟨rfl,λu h=>by cases h⟩
 |remove f=>
  simp only[VapatBase.applied,cu];by_cases e:fileIn t f=some []
  ·rw[if_pos e,if_pos e];exact⟨congrArg some (B7 ht f),λu h=>by cases h;exact mI ht⟩
  ·rw[if_neg e,if_neg e];exact⟨rfl,λu h=>by cases h⟩
 |move f h=>
  simp only[VapatBase.applied,cu];cases fileIn t f with
  |none=>exact⟨rfl,λu h=>by cases h⟩
  |some c=>
   cases fileIn t h with
   |some c'=>exact⟨rfl,λu h=>by cases h⟩
   |none=>
    refine⟨congrArg some ?_,λu h=>by cases h;exact lM (mI ht)⟩;rw[qY (mI ht),B7 ht]
theorem AD {t u:aJ} {p:ai} (ht:br t) (h:applied t p=some u):cu (fileIn t) p=some (fileIn u):=by
 rw[<-(uC ht p).1,h];rfl
theorem gp {t u:aJ} {p:ai} (ht:br t) (h:applied t p=some u):br u:=(uC ht p).2 u h
theorem AB {t:aJ} {p:ai} {g:FS} (ht:br t) (h:cu (fileIn t) p=some g):∃u,applied t p=some u/\fileIn u=g:=by
 rw[<-(uC ht p).1] at h;cases e:applied t p with
 |none=>rw[e] at h;cases h
 |some u=>rw[e] at h;exact⟨u,rfl,Option.some.inj h⟩
theorem uD {g g' g1:FS} {p:ai} (h:∀x∈VapatBase.namesOf p,g x=g' x) (e:cu g p=some g1):∃g1',cu g' p=some g1'/\(∀x∈VapatBase.namesOf p,g1 x=g1' x)/\(∀x,x∉VapatBase.namesOf p->g1' x=g' x):=by
 cases p with
 |hunk f a o n=>
  have hf:g f=g' f:=h f List.mem_cons_self;simp only[cu] at e⊢;rw[<-hf];cases q:g f with
  |none=>rw[q] at e;cases e
  |some c=>
   rw[q] at e;simp only[Option.bind_some] at e⊢;cases q2:spliced c a o n with
   |none=>rw[q2] at e;cases e
   |some d=>
    rw[q2] at e;cases e;exact⟨_,rfl,λx hx=>by rw[List.mem_singleton.mp hx];exact(cT _ _ _).trans (cT _ _ _).symm,λx hx=>eP _ _ λz=>hx (by rw[z];exact List.mem_cons_self)⟩
 |swap f y z=>
  have hf:g f=g' f:=h f List.mem_cons_self;simp only[cu] at e⊢;rw[<-hf];cases q:g f with
  |none=>rw[q] at e;cases e
  |some c=>
   rw[q] at e;cases e;exact⟨_,rfl,λx hx=>by rw[List.mem_singleton.mp hx];exact(cT _ _ _).trans (cT _ _ _).symm,λx hx=>eP _ _ λz=>hx (by rw[z];exact List.mem_cons_self)⟩
 |add f=>
  have hf:g f=g' f:=h f List.mem_cons_self;simp only[cu] at e⊢;rw[<-hf];cases q:g f with
  |some c=>rw[q] at e;cases e
  |none=>
   rw[q] at e;cases e;exact⟨_,rfl,λx hx=>by rw[List.mem_singleton.mp hx];exact(cT _ _ _).trans (cT _ _ _).symm,λx hx=>eP _ _ λz=>hx (by rw[z];exact List.mem_cons_self)⟩
 |remove f=>
  have hf:g f=g' f:=h f List.mem_cons_self;simp only[cu] at e⊢;rw[<-hf];by_cases q:g f=some []
  ·rw[if_pos q] at e⊢;cases e;exact⟨_,rfl,λx hx=>by rw[List.mem_singleton.mp hx];exact(cT _ _ _).trans (cT _ _ _).symm,λx hx=>eP _ _ λz=>hx (by rw[z];exact List.mem_cons_self)⟩
  ·rw[if_neg q] at e;cases e
 |move f k=>
  have hf:g f=g' f:=h f List.mem_cons_self;have hk:g k=g' k:=h k (List.mem_cons_of_mem _ List.mem_cons_self);simp only[cu] at e⊢;rw[<-hf,<-hk];cases q:g f with
  |none=>rw[q] at e;cases e
  |some c=>
   cases q2:g k with
   |some c'=>rw[q,q2] at e;cases e
   |none=>
    rw[q,q2] at e;cases e;refine⟨_,rfl,λx hx=>?_,λx hx=>?_⟩
    ·by_cases z:x=k
     ·rw[z,cT,cT]
     ·rw[eP _ _ z,eP _ _ z];rcases List.mem_cons.mp hx with y|y
      ·rw[y,cT,cT]
      ·exact absurd (List.mem_singleton.mp y) z
    ·rw[eP _ _ λz=>hx (by rw[z];exact List.mem_cons_of_mem _ List.mem_cons_self),eP _ _ λz=>hx (by rw[z];exact List.mem_cons_self)]
theorem qp {g g1:FS} {p:ai} (e:cu g p=some g1):∀x,x∉VapatBase.namesOf p->g1 x=g x:=by
 obtain⟨g1',e',_,h⟩:=uD (g':=g) (λ_ _=>rfl) e;rw[e] at e';cases e';exact h
theorem oR {l m:List Nat}:disjoint l m=true↔∀x∈l,x∉m:=by
 unfold VapatBase.disjoint;rw[List.all_eq_true];constructor
 ·intro h x hx hm;have:=h x hx;rw[Bool.not_eq_true',<-Bool.not_eq_true,List.contains_iff_mem] at this;exact this hm
 ·intro h x hx;rw[Bool.not_eq_true',<-Bool.not_eq_true,List.contains_iff_mem];exact h x hx
theorem GU {g g1 g2:FS} {p q:ai} (hd:disjoint (VapatBase.namesOf p) (VapatBase.namesOf q)=true) (h1:cu g p=some g1) (h2:cu g1 q=some g2):∃g',cu g q=some g'/\cu g' p=some g2:=by
 have hd:=oR.mp hd;obtain⟨g',e1,a1,o1⟩:=uD (g':=g) (λx hx=>qp h1 x λz=>hd x z hx) h2;obtain⟨g'',e2,a2,o2⟩:=uD (g':=g') (λx hx=>(o1 x (hd x hx)).symm) h1;refine⟨g',e1,?_⟩;rw[e2];congr 1;funext x;by_cases hp:x∈VapatBase.namesOf p
 ·rw[<-a2 x hp,qp h2 x (hd x hp)]
 ·rw[o2 x hp];by_cases hq:x∈VapatBase.namesOf q
  ·rw[<-a1 x hq]
  ·rw[o1 x hq,qp h2 x hq,qp h1 x hp]
theorem gG {c d o n:List Nat} {a:Nat}:spliced c a o n=some d↔∃A C,A.length=a/\c=A++(o++C)/\d=A++(n++C):=by
 unfold VapatBase.spliced;constructor
 ·intro h
  split at h
  ·rename_i hc
   obtain⟨h1,h2⟩:=hc;cases h;refine⟨c.take a,c.drop (a+o.length),by rw[List.length_take];omega,?_,rfl⟩;have:c.drop a=o++c.drop (a+o.length):=by
    rw[<-List.drop_drop]
    conv=>lhs;rw[<-List.take_append_drop o.length (c.drop a),h2]
   rw[<-this,List.take_append_drop]
  ·cases h
 ·rintro⟨A,C,rfl,rfl,rfl⟩;rw[if_pos]
  ·congr 1;rw[List.take_left,<-List.drop_drop,List.drop_left,List.drop_left]
  ·refine⟨by rw[List.length_append];omega,?_⟩;rw[List.drop_left,List.take_left]
theorem Si (x y t:Nat):swapToken x y (swapToken x y t)=t:=by
 unfold VapatBase.swapToken;by_cases h1:t=x
 ·rw[if_pos h1];by_cases h2:y=x
  ·rw[if_pos h2,h1,h2]
  ·rw[if_neg h2,if_pos rfl,h1]
 ·rw[if_neg h1];by_cases h2:t=y
  ·rw[if_pos h2,if_pos rfl,h2]
  ·rw[if_neg h2,if_neg h1,if_neg h2]
theorem je (x y:Nat) (l:List Nat):swapAll x y (swapAll x y l)=l:=by
 unfold VapatBase.swapAll;rw[List.map_map]
 conv=>rhs;rw[<-List.map_id l]
 exact List.map_congr_left λt _=>Si x y t
theorem jd (x y:Nat) (l m:List Nat):swapAll x y (l++m)=swapAll x y l++swapAll x y m:=by unfold VapatBase.swapAll;rw[List.map_append]
theorem mh {x y u v:Nat} (h:disjoint [x,y] [u,v]=true) (l:List Nat):swapAll x y (swapAll u v l)=swapAll u v (swapAll x y l):=by
 have h:=oR.mp h;have hx:=h x List.mem_cons_self;have hy:=h y (List.mem_cons_of_mem _ List.mem_cons_self);simp only[List.mem_cons,List.not_mem_nil,or_false,not_or] at hx hy;obtain⟨a1,a2⟩:=hx;obtain⟨a3,a4⟩:=hy;unfold VapatBase.swapAll;rw[List.map_map,List.map_map];refine List.map_congr_left λt _=>?_;show swapToken x y (swapToken u v t)=swapToken u v (swapToken x y t);unfold VapatBase.swapToken;by_cases q1:t=u
 ·subst q1;rw[if_pos rfl,if_neg (Ne.symm a2),if_neg (Ne.symm a4),if_neg (Ne.symm a1),if_neg (Ne.symm a3),if_pos rfl]
 ·rw[if_neg q1];by_cases q2:t=v
  ·subst q2;rw[if_pos rfl,if_neg (Ne.symm a1),if_neg (Ne.symm a3),if_neg (Ne.symm a2),if_neg (Ne.symm a4),if_neg q1,if_pos rfl]
  ·rw[if_neg q2];by_cases q3:t=x
   ·rw[if_pos q3,if_neg a3,if_neg a4]
   ·rw[if_neg q3];by_cases q4:t=y
    ·rw[if_pos q4,if_neg a1,if_neg a2]
    ·rw[if_neg q4,if_neg q1,if_neg q2]
theorem split_le {α:Type} {X Y X' Y':List α} (h:X++Y=X'++Y') (hl:X.length<=X'.length):∃B,X'=X++B/\Y=B++Y':=by
 rcases List.append_eq_append_iff.mp h with ⟨B,e1,e2⟩|⟨B,e1,e2⟩
 ·exact⟨B,e1,e2⟩
 ·have:B=[]:=by
   have:=congrArg List.length e1;rw[List.length_append] at this;exact List.eq_nil_of_length_eq_zero (by omega)
  subst this;rw[List.append_nil] at e1;exact⟨[],by rw[List.append_nil,e1],by rw[e2];rfl⟩
def gw:ai->List Nat->Option (List Nat)
 | .hunk _ a o n,c=>spliced c a o n
 | .swap _ x y,c=>some (swapAll x y c)
 |_,_=>none
theorem GS {g:FS} {p:ai} {f:Nat} (h:isInside p=true) (hf:VapatBase.namesOf p=[f]):cu g p=(g f).bind λc=>(gw p c).map λd=>dR g f (some d):=by
 cases p with
 |hunk f' a o n=>cases hf;rfl
 |swap f' x y=>cases hf;cases e:g f<;>simp[cu,e,gw]
 |add f'=>cases h
 |remove f'=>cases h
 |move f' g'=>cases h
theorem Lr {p q p' q':ai} {c d e:List Nat} (h:commutedInside p q=some (q',p')) (h1:gw p c=some d) (h2:gw q d=some e):∃d',gw q' c=some d'/\gw p' d'=some e:=by
 cases p with
 |hunk f a o n=>
  cases q with
  |hunk f2 b u v=>
   obtain⟨A,C,ha,ec,ed⟩:=gG.mp h1;obtain⟨A2,C2,hb,ed2,ee⟩:=gG.mp h2;simp only[VapatBase.commutedInside] at h
   split at h
   ·rename_i hlt
    cases h;rw[ed,<-List.append_assoc] at ed2;obtain⟨B,e1,e2⟩:=split_le ed2 (by rw[List.length_append];omega);subst e1 e2;rw[List.length_append,List.length_append] at hb;refine⟨(A++o++B)++(v++C2),gG.mpr ⟨A++o++B,C2,?_,?_,rfl⟩,gG.mpr ⟨A,B++(v++C2),ha,?_,?_⟩⟩
    ·rw[List.length_append,List.length_append];omega
    ·rw[ec];simp only[List.append_assoc]
    ·simp only[List.append_assoc]
    ·rw[ee];simp only[List.append_assoc]
   ·split at h
    ·rename_i hlt
     cases h;rw[ed,<-List.append_assoc A2] at ed2;obtain⟨B,e1,e2⟩:=split_le ed2.symm (by rw[List.length_append];omega);subst e1 e2;rw[List.length_append,List.length_append] at ha;refine⟨A2++(v++(B++(o++C))),gG.mpr ⟨A2,B++(o++C),hb,?_,rfl⟩,gG.mpr ⟨A2++v++B,C,?_,?_,?_⟩⟩
     ·rw[ec];simp only[List.append_assoc]
     ·rw[List.length_append,List.length_append];omega
     ·simp only[List.append_assoc]
     ·rw[ee];simp only[List.append_assoc]
    ·cases h
  |swap f2 x y=>
   obtain⟨A,C,ha,ec,ed⟩:=gG.mp h1;cases h;cases h2;refine⟨swapAll x y c,rfl,gG.mpr ⟨swapAll x y A,swapAll x y C,by rw[cO,ha],?_,?_⟩⟩
   ·rw[ec,jd,jd]
   ·rw[ed,jd,jd]
  |add f2=>cases h
  |remove f2=>cases h
  |move f2 g2=>cases h
 |swap f x y=>
  cases q with
  |hunk f2 b u v=>
   cases h;cases h1;obtain⟨A,C,ha,ec,ed⟩:=gG.mp h2;have ec':c=swapAll x y A++(swapAll x y u++swapAll x y C):=by rw[<-je x y c,ec,jd,jd]
   refine⟨swapAll x y A++(swapAll x y v++swapAll x y C),gG.mpr ⟨swapAll x y A,swapAll x y C,by rw[cO,ha],ec',rfl⟩,?_⟩;show some (swapAll x y _)=some e;rw[jd,jd,je,je,je,ed]
  |swap f2 u v=>
   simp only[VapatBase.commutedInside] at h
   split at h
   ·rename_i hd
    cases h;cases h1;cases h2;exact⟨_,rfl,congrArg some (mh hd c)⟩
   ·cases h
  |add f2=>cases h
  |remove f2=>cases h
  |move f2 g2=>cases h
 |add f=>cases h
 |remove f=>cases h
 |move f g=>cases h
theorem Ls {p q p' q':ai} {f:Nat} (h:commutedInside p q=some (q',p')) (hp:VapatBase.namesOf p=[f]):isInside q'=true/\VapatBase.namesOf q'=[f]/\isInside p'=true/\VapatBase.namesOf p'=[f]:=by
 cases p with
 |hunk f' a o n=>
  cases q with
  |hunk f2 b u v=>
   simp only[VapatBase.commutedInside] at h
   split at h
   ·cases h;exact⟨rfl,hp,rfl,hp⟩
   ·split at h
    ·cases h;exact⟨rfl,hp,rfl,hp⟩
    ·cases h
  |swap f2 x y=>cases h;exact⟨rfl,hp,rfl,hp⟩
  |add f2=>cases h
  |remove f2=>cases h
  |move f2 g2=>cases h
 |swap f' x y=>
  cases q with
  |hunk f2 b u v=>cases h;exact⟨rfl,hp,rfl,hp⟩
  |swap f2 u v=>
   simp only[VapatBase.commutedInside] at h
   split at h
   ·cases h;exact⟨rfl,hp,rfl,hp⟩
   ·cases h
  |add f2=>cases h
  |remove f2=>cases h
  |move f2 g2=>cases h
 |add f=>cases h
 |remove f=>cases h
 |move f g=>cases h
theorem Di {p:ai} (h:isInside p=true):∃f,VapatBase.namesOf p=[f]:=by
 cases p with
 |hunk f a o n=>exact⟨f,rfl⟩
 |swap f x y=>exact⟨f,rfl⟩
 |add f=>cases h
 |remove f=>cases h
 |move f g=>cases h
theorem Dg {p:ai} (h:isInside p=true) (g:Nat):isInside (inFile g p)=true/\VapatBase.namesOf (inFile g p)=[g]/\∀c,gw (inFile g p) c=gw p c:=by
 cases p with
 |hunk f a o n=>exact⟨rfl,rfl,λ_=>rfl⟩
 |swap f x y=>exact⟨rfl,rfl,λ_=>rfl⟩
 |add f=>cases h
 |remove f=>cases h
 |move f g=>cases h
theorem iE {g g1:FS} {p:ai} {f:Nat} (h:isInside p=true) (hf:VapatBase.namesOf p=[f]):cu g p=some g1↔∃c d,g f=some c/\gw p c=some d/\g1=dR g f (some d):=by
 rw[GS h hf];cases e:g f with
 |none=>exact⟨λq=>(by cases q),λ⟨_,_,q,_⟩=>by cases q⟩
 |some c=>
  simp only[Option.bind_some];cases e2:gw p c with
  |none=>exact⟨λq=>(by cases q),λ⟨c',_,q,q2,_⟩=>by cases q;rw[e2] at q2;cases q2⟩
  |some d=>exact⟨λq=>by cases q;exact⟨c,d,rfl,e2,rfl⟩,λ⟨c',d',q,q2,q3⟩=>by cases q;rw[e2] at q2;cases q2;rw[q3];rfl⟩
theorem qm {g g1:FS} {f h:Nat}:cu g (.move f h)=some g1↔∃c,g f=some c/\g h=none/\g1=dR (dR g f none) h (some c):=by
 simp only[cu];cases e:g f with
 |none=>exact⟨λq=>(by cases q),λ⟨_,q,_⟩=>by cases q⟩
 |some c=>
  cases e2:g h with
  |some c'=>exact⟨λq=>(by cases q),λ⟨_,_,q,_⟩=>by cases q⟩
  |none=>exact⟨λq=>by cases q;exact⟨c,rfl,rfl,rfl⟩,λ⟨c',q,_,q3⟩=>by cases q;rw[q3]⟩
theorem nZ (g:FS) (f:Nat) (o o':Option (List Nat)):dR (dR g f o) f o'=dR g f o':=by
 funext x;by_cases h:x=f
 ·rw[h,cT,cT]
 ·rw[eP _ _ h,eP _ _ h,eP _ _ h]
theorem Iv {p q p' q':ai} (h:commuted p q=some (q',p')):
 (disjoint (VapatBase.namesOf p) (VapatBase.namesOf q)=true/\q'=q/\p'=p)\/(isInside p=true/\isInside q=true/\commutedInside p q=some (q',p')/\∃f,VapatBase.namesOf p=[f]/\VapatBase.namesOf q=[f])\/
 (∃f g,p= .move f g/\isInside q=true/\VapatBase.namesOf q=[g]/\q'=inFile f q/\p'= .move f g)\/(∃f g,q= .move f g/\isInside p=true/\VapatBase.namesOf p=[f]/\q'= .move f g/\p'=inFile g p):=by
 unfold VapatBase.commuted at h
 split at h
 ·rename_i hd
  cases h;exact .inl ⟨hd,rfl,rfl⟩
 ·rename_i hd
  split at h
  ·rename_i hi
   rw[Bool.and_eq_true] at hi;obtain⟨f,hf⟩:=Di hi.1;obtain⟨f2,hf2⟩:=Di hi.2;refine .inr (.inl ⟨hi.1,hi.2,h,f,hf,?_⟩);by_cases e:f=f2
   ·rw[hf2,e]
   ·exfalso;apply hd;rw[hf,hf2,oR];intro x hx hm;rw[List.mem_singleton] at hx hm;exact e (hx.symm.trans hm)
  ·split at h
   ·rename_i f g q
    split at h
    ·rename_i hi
     rw[Bool.and_eq_true] at hi;cases h;exact .inr (.inr (.inl ⟨f,g,rfl,hi.1,eq_of_beq hi.2,rfl,rfl⟩))
    ·cases h
   ·rename_i f g _ _
    split at h
    ·rename_i hi
     rw[Bool.and_eq_true] at hi;cases h;exact .inr (.inr (.inr ⟨f,g,rfl,hi.1,eq_of_beq hi.2,rfl,rfl⟩))
    ·cases h
   ·cases h
theorem GR {g g1 g2:FS} {p q p' q':ai} (h:commuted p q=some (q',p')) (h1:cu g p=some g1) (h2:cu g1 q=some g2):∃g',cu g q'=some g'/\cu g' p'=some g2:=by
 rcases Iv h with ⟨hd,rfl,rfl⟩|⟨ip,iq,hc,f,hp,hq⟩|⟨f,k,rfl,iq,hq,rfl,rfl⟩|⟨f,k,rfl,ip,hp,rfl,rfl⟩
 ·exact GU hd h1 h2
 ·obtain⟨c,d,e1,e2,rfl⟩:=(iE ip hp).mp h1;obtain⟨d',e,e3,e4,rfl⟩:=(iE iq hq).mp h2;rw[cT] at e3;cases e3;obtain⟨iq',hq',ip',hp'⟩:=Ls hc hp;obtain⟨m,m1,m2⟩:=Lr hc e2 e4;refine⟨_,(iE iq' hq').mpr ⟨c,m,e1,m1,rfl⟩,(iE ip' hp').mpr ⟨m,e,cT _ _ _,m2,?_⟩⟩;rw[nZ,nZ]
 ·obtain⟨c,e1,e2,rfl⟩:=qm.mp h1;obtain⟨c',d,e3,e4,rfl⟩:=(iE iq hq).mp h2;rw[cT] at e3;cases e3;have hne:k≠f:=λz=>by rw[z,e1] at e2;cases e2
  obtain⟨i',n',c'⟩:=Dg iq f;refine⟨_,(iE i' n').mpr ⟨c,d,e1,by rw[c'];exact e4,rfl⟩,qm.mpr ⟨d,cT _ _ _,by rw[eP _ _ hne];exact e2,?_⟩⟩;rw[nZ,nZ]
 ·obtain⟨c,d,e1,e2,rfl⟩:=(iE ip hp).mp h1;obtain⟨c',e3,e4,rfl⟩:=qm.mp h2;rw[cT] at e3;cases e3;have hne:k≠f:=λz=>by rw[z,cT] at e4;cases e4
  rw[eP _ _ hne] at e4;obtain⟨i',n',c'⟩:=Dg ip k;refine⟨_,qm.mpr ⟨c,e1,e4,rfl⟩,(iE i' n').mpr ⟨c,d,cT _ _ _,by rw[c'];exact e2,?_⟩⟩;rw[nZ,nZ]
theorem AK {t u v:aJ} {p q p' q':ai} (ht:br t) (h:commuted p q=some (q',p')) (h1:applied t p=some u) (h2:applied u q=some v):∃u',applied t q'=some u'/\applied u' p'=some v:=by
 obtain⟨g',e1,e2⟩:=GR h (AD ht h1) (AD (gp ht h1) h2);obtain⟨u',a1,rfl⟩:=AB ht e1;obtain⟨v',a2,e3⟩:=AB (gp ht a1) e2;refine⟨u',a1,?_⟩;rw[a2,SQ (gp (gp ht a1) a2) (gp (gp ht h1) h2) e3]
theorem all_cons {t v:aJ} {p:ai} {l:List ai}:appliedAll t (p::l)=some v↔∃u,applied t p=some u/\appliedAll u l=some v:=by
 simp only[VapatBase.appliedAll];cases applied t p with
 |none=>exact⟨λq=>(by cases q),λ⟨_,q,_⟩=>by cases q⟩
 |some u=>exact⟨λq=>⟨u,rfl,q⟩,λ⟨u',q,q2⟩=>by cases q;exact q2⟩
theorem all_append {v:aJ}:∀{l m:List ai} {t:aJ},appliedAll t (l++m)=some v↔∃u,appliedAll t l=some u/\appliedAll u m=some v
 |[],m,t=>⟨λq=>⟨t,rfl,q⟩,λ⟨u,q,q2⟩=>by cases q;exact q2⟩
 |p::l,m,t=>by
  rw[List.cons_append,all_cons];constructor
  ·rintro⟨u,q,q2⟩;obtain⟨u2,q3,q4⟩:=all_append.mp q2;exact⟨u2,all_cons.mpr ⟨u,q,q3⟩,q4⟩
  ·rintro⟨u2,q,q2⟩;obtain⟨u,q3,q4⟩:=all_cons.mp q;exact⟨u,q3,all_append.mpr ⟨u2,q4,q2⟩⟩
theorem uG:∀{l:List ai} {t v:aJ},br t->appliedAll t l=some v->br v
 |[],t,v,ht,h=>by cases h;exact ht
 |p::l,t,v,ht,h=>by
  obtain⟨u,q,q2⟩:=all_cons.mp h;exact uG (gp ht q) q2
end PR
namespace PR
open VapatBase (applied appliedAll commuted)
open Vapatb (aheadOf behind)
open Vapatc (stepsOf named frontAt front ordered placeOf)
theorem AF:∀{l l1:List ai} {q q1:ai} {t v:aJ},aheadOf l q= .ok (q1,l1)->br t->appliedAll t (l++[q])=some v->appliedAll t (q1::l1)=some v
 |[],l1,q,q1,t,v,h,ht,ha=>by cases h;exact ha
 |p::l,l1,q,q1,t,v,h,ht,ha=>by
  cases e:aheadOf l q with
  |error n=>
   have h2:aheadOf (p::l) q= .error n:=mz e [p];rw[h2] at h;cases h
  |ok x=>
   obtain⟨q2,l2⟩:=x;cases c:commuted p q2 with
   |none=>rw[oH e c] at h;cases h
   |some y=>
    obtain⟨q3,p1⟩:=y;rw[oI e c] at h;cases h;obtain⟨u,a1,a2⟩:=all_cons.mp ha;obtain⟨u2,a3,a4⟩:=all_cons.mp (AF e (gp ht a1) a2);obtain⟨u',b1,b2⟩:=AK ht c a1 a3;exact all_cons.mpr ⟨u',b1,all_cons.mpr ⟨u2,b2,a4⟩⟩
theorem AQ:∀{l l1:List ai} {p p2:ai} {t v:aJ},behind p l= .ok (l1,p2)->br t->appliedAll t (p::l)=some v->appliedAll t (l1++[p2])=some v
 |[],l1,p,p2,t,v,h,ht,ha=>by cases h;exact ha
 |q::l,l1,p,p2,t,v,h,ht,ha=>by
  cases c:commuted p q with
  |none=>rw[ka c] at h;cases h
  |some x=>
   obtain⟨q1,p1⟩:=x;cases e:behind p1 l with
   |error n=>rw[mC c e] at h;cases h
   |ok y=>
    obtain⟨l2,p3⟩:=y;rw[dC c e] at h;cases h;obtain⟨u,a1,a2⟩:=all_cons.mp ha;obtain⟨u2,a3,a4⟩:=all_cons.mp a2;obtain⟨u',b1,b2⟩:=AK ht c a1 a3;exact all_cons.mpr ⟨u',b1,AQ e (gp ht b1) (all_cons.mpr ⟨u2,b2,a4⟩)⟩
theorem fU (r r':ag):stepsOf (r++r')=stepsOf r++stepsOf r':=by unfold Vapatc.stepsOf;rw[List.map_append]
theorem z9 (p:bp) (r:ag):stepsOf (p::r)=p.step::stepsOf r:=rfl
theorem CV {r rest:ag} {k:Nat} {p:bp} {t v:aJ} (h:frontAt r k=some (p,rest)) (ht:br t) (ha:appliedAll t (stepsOf r)=some v):appliedAll t (stepsOf (p::rest))=some v:=by
 obtain⟨p0,q1,l1,h0,h1,rfl,rfl⟩:=oY h;rw[ja h0,fU,z9,<-List.singleton_append,<-List.append_assoc] at ha;obtain⟨u,a1,a2⟩:=all_append.mp ha;have:=AF h1 ht a1;rw[z9,fU,oj _ _ (by rw[qr h1,cz,iy]),<-List.cons_append];exact all_append.mpr ⟨u,this,a2⟩
theorem mL {r rest:ag} {n:Nat} {p:bp} (h:front r n=some (p,rest)):∃k,placeOf r n=some k/\frontAt r k=some (p,rest):=by
 unfold Vapatc.front at h;cases e:placeOf r n with
 |none=>rw[e] at h;cases h
 |some k=>rw[e] at h;exact⟨k,rfl,h⟩
def qf (t:aJ) (r:ag):Prop:=aM r/\∃v,appliedAll t (stepsOf r)=some v
theorem TB {r r':ag} {n:Nat} {t:aJ} (h:Vapatc.without r n=some r') (ht:br t) (ha:qf t r):qf t r':=by
 unfold Vapatc.without at h;cases e:placeOf r n with
 |none=>rw[e] at h;cases h
 |some k=>
  rw[e] at h;simp only[Option.bind_some] at h;cases e2:r.drop k with
  |nil=>rw[e2] at h;cases h
  |cons p l=>
   rw[e2] at h;simp only at h;cases e3:behind p.step (stepsOf l) with
   |error m=>rw[e3] at h;cases h
   |ok x=>
    obtain⟨l1,p2⟩:=x;rw[e3] at h;cases h;obtain⟨hn,v,hv⟩:=ha;have er:r=r.take k++p::l:=by rw[<-e2,List.take_append_drop]
    have hl:=gq e3;rw[iy] at hl;have e4:=k7 (Vapatc.namesOf l) l1 (by rw[cz,hl]);have e5:=oj (Vapatc.namesOf l) l1 (by rw[cz,hl]);refine⟨?_,?_⟩
    ·unfold aM at hn⊢;rw[er,dA] at hn;rw[dA,e4];have hs:(Vapatc.namesOf (r.take k)++Vapatc.namesOf l).Sublist (Vapatc.namesOf (r.take k)++Vapatc.namesOf (p::l)):=List.Sublist.append (List.Sublist.refl _) (List.sublist_cons_self _ _);exact List.Nodup.sublist hs hn
    ·rw[er,fU,z9] at hv;obtain⟨u,a1,a2⟩:=all_append.mp hv;obtain⟨u2,b1,_⟩:=all_append.mp (AQ e3 (uG ht a1) a2);exact⟨u2,by rw[fU,e5];exact all_append.mpr ⟨u,a1,b1⟩⟩
end PR
namespace PR
open VapatBase (swapAll isInside inFile disjoint commutedInside commuted)
inductive Op where
 |hunk (a:Nat) (o n:List Nat)
 |swap (x y:Nat)
inductive Sv where
 |add (f:Nat)
 |remove (f:Nat)
 |move (f g:Nat)
inductive Vw where
 |ins (f:Nat) (a:Op)
 |str (s:Sv)
def vw:ai->Vw
 | .hunk f a o n=> .ins f (.hunk a o n)
 | .swap f x y=> .ins f (.swap x y)
 | .add f=> .str (.add f)
 | .remove f=> .str (.remove f)
 | .move f g=> .str (.move f g)
def un:Vw->ai
 | .ins f (.hunk a o n)=> .hunk f a o n
 | .ins f (.swap x y)=> .swap f x y
 | .str (.add f)=> .add f
 | .str (.remove f)=> .remove f
 | .str (.move f g)=> .move f g
theorem mv (p:ai):un (vw p)=p:=by cases p<;>rfl
theorem Am (v:Vw):vw (un v)=v:=by
 cases v with
 |ins f a=>cases a<;>rfl
 |str s=>cases s<;>rfl
def cx:Op->Op->Option (Op×Op)
 | .hunk a o n,.hunk b u v=>
   if a+n.length<b then some (.hunk (b-n.length+o.length) u v,.hunk a o n)
   else if b+u.length<a then some (.hunk b u v,.hunk (a-u.length+v.length) o n) else none
 | .hunk a o n,.swap x y=>some (.swap x y,.hunk a (swapAll x y o) (swapAll x y n))
 | .swap x y,.hunk b u v=>some (.hunk b (swapAll x y u) (swapAll x y v),.swap x y)
 | .swap x y,.swap u v=>if disjoint [x,y] [u,v] then some (.swap u v,.swap x y) else none
def bK:Sv->List Nat
 | .add f=>[f]
 | .remove f=>[f]
 | .move f g=>[f,g]
def back:Sv->Nat->Option Nat
 | .add f,y=>if y=f then none else some y
 | .remove f,y=>if y=f then none else some y
 | .move f g,y=>if y=g then some f else if y=f then none else some y
def fwd:Sv->Nat->Option Nat
 | .add f,y=>if y=f then none else some y
 | .remove f,y=>if y=f then none else some y
 | .move f g,y=>if y=f then some g else if y=g then none else some y
def cv:Vw->Vw->Option (Vw×Vw)
 | .ins x a,.ins y b=>if x=y then (cx a b).map λz=>(.ins x z.1,.ins x z.2) else some (.ins y b,.ins x a)
 | .str s,.ins y b=>(back s y).map λz=>(.ins z b,.str s)
 | .ins x a,.str s=>(fwd s x).map λz=>(.str s,.ins z a)
 | .str s,.str s'=>if disjoint (bK s) (bK s') then some (.str s',.str s) else none
theorem mH (x y:Nat) (a b:Op):cv (.ins x a) (.ins y b)=if x=y then (cx a b).map λz=>(.ins x z.1,.ins x z.2) else some (.ins y b,.ins x a):=rfl
theorem oQ {f g:Nat}:disjoint [f] [g]=decide (f≠g):=by
 unfold VapatBase.disjoint;by_cases h:f=g<;>simp[h]
theorem qP {p q:ai} {f g:Nat} {a b:Op} (hp:vw p= .ins f a) (hq:vw q= .ins g b):(commuted p q).map (λz=>(vw z.1,vw z.2))=cv (.ins f a) (.ins g b):=by
 rw[<-mv p,<-mv q,hp,hq];rw[mH];unfold VapatBase.commuted;by_cases h:f=g
 ·subst h;rw[if_pos rfl];cases a with
  |hunk a o n=>
   cases b with
   |hunk b u v=>
    simp only[un,VapatBase.namesOf,oQ,VapatBase.isInside,VapatBase.commutedInside,cx];simp only[ne_eq,not_true_eq_false,decide_false,Bool.false_eq_true,if_false,Bool.and_self,if_true]
    split
    ·rfl
    ·split<;>rfl
   |swap x y=>
    simp only[un,VapatBase.namesOf,oQ,VapatBase.isInside,VapatBase.commutedInside,cx];simp[vw]
  |swap x y=>
   cases b with
   |hunk b u v=>
    simp only[un,VapatBase.namesOf,oQ,VapatBase.isInside,VapatBase.commutedInside,cx];simp[vw]
   |swap u v=>
    simp only[un,VapatBase.namesOf,oQ,VapatBase.isInside,VapatBase.commutedInside,cx];simp only[ne_eq,not_true_eq_false,decide_false,Bool.false_eq_true,if_false,Bool.and_self,if_true]
    split<;>rfl
 ·rw[if_neg h];have e:disjoint (VapatBase.namesOf (un (.ins f a))) (VapatBase.namesOf (un (.ins g b)))=true:=by
   cases a<;>cases b<;>simp[un,VapatBase.namesOf,oQ,h]
  rw[if_pos e];show some (vw (un _),vw (un _))=_;rw[Am,Am]
theorem vA (p q:ai):(commuted p q).map (λz=>(vw z.1,vw z.2))=cv (vw p) (vw q):=by
 cases p with
 |hunk f a o n=>
  cases q with
  |hunk g b u v=>exact qP rfl rfl
  |swap g x y=>exact qP rfl rfl
  |add g=>
   by_cases h:f=g<;>simp[VapatBase.commuted,VapatBase.namesOf,VapatBase.disjoint,VapatBase.isInside,vw,cv,fwd,h]
  |remove g=>
   by_cases h:f=g<;>simp[VapatBase.commuted,VapatBase.namesOf,VapatBase.disjoint,VapatBase.isInside,vw,cv,fwd,h]
  |move g k=>
   by_cases h:f=g<;>by_cases h2:f=k<;>simp[VapatBase.commuted,VapatBase.namesOf,VapatBase.disjoint,VapatBase.isInside,VapatBase.inFile,vw,cv,fwd,h,h2]<;>simp_all
 |swap f a o=>
  cases q with
  |hunk g b u v=>exact qP rfl rfl
  |swap g x y=>exact qP rfl rfl
  |add g=>
   by_cases h:f=g<;>simp[VapatBase.commuted,VapatBase.namesOf,VapatBase.disjoint,VapatBase.isInside,vw,cv,fwd,h]
  |remove g=>
   by_cases h:f=g<;>simp[VapatBase.commuted,VapatBase.namesOf,VapatBase.disjoint,VapatBase.isInside,vw,cv,fwd,h]
  |move g k=>
   by_cases h:f=g<;>by_cases h2:f=k<;>simp[VapatBase.commuted,VapatBase.namesOf,VapatBase.disjoint,VapatBase.isInside,VapatBase.inFile,vw,cv,fwd,h,h2]<;>simp_all
 |add f=>
  cases q with
  |hunk g b u v=>by_cases h:f=g<;>simp[VapatBase.commuted,VapatBase.namesOf,VapatBase.disjoint,VapatBase.isInside,vw,cv,back,h]<;>simp_all [eq_comm]
  |swap g x y=>by_cases h:f=g<;>simp[VapatBase.commuted,VapatBase.namesOf,VapatBase.disjoint,VapatBase.isInside,vw,cv,back,h]<;>simp_all [eq_comm]
  |add g=>by_cases h:f=g<;>simp[VapatBase.commuted,VapatBase.namesOf,VapatBase.disjoint,VapatBase.isInside,vw,cv,bK,h]
  |remove g=>by_cases h:f=g<;>simp[VapatBase.commuted,VapatBase.namesOf,VapatBase.disjoint,VapatBase.isInside,vw,cv,bK,h]
  |move g k=>by_cases h:f=g<;>by_cases h2:f=k<;>simp[VapatBase.commuted,VapatBase.namesOf,VapatBase.disjoint,VapatBase.isInside,vw,cv,bK,h,h2]<;>simp_all
 |remove f=>
  cases q with
  |hunk g b u v=>by_cases h:f=g<;>simp[VapatBase.commuted,VapatBase.namesOf,VapatBase.disjoint,VapatBase.isInside,vw,cv,back,h]<;>simp_all [eq_comm]
  |swap g x y=>by_cases h:f=g<;>simp[VapatBase.commuted,VapatBase.namesOf,VapatBase.disjoint,VapatBase.isInside,vw,cv,back,h]<;>simp_all [eq_comm]
  |add g=>by_cases h:f=g<;>simp[VapatBase.commuted,VapatBase.namesOf,VapatBase.disjoint,VapatBase.isInside,vw,cv,bK,h]
  |remove g=>by_cases h:f=g<;>simp[VapatBase.commuted,VapatBase.namesOf,VapatBase.disjoint,VapatBase.isInside,vw,cv,bK,h]
  |move g k=>by_cases h:f=g<;>by_cases h2:f=k<;>simp[VapatBase.commuted,VapatBase.namesOf,VapatBase.disjoint,VapatBase.isInside,vw,cv,bK,h,h2]<;>simp_all
 |move f l=>
  cases q with
  |hunk g b u v=>by_cases h:f=g<;>by_cases h2:l=g<;>simp[VapatBase.commuted,VapatBase.namesOf,VapatBase.disjoint,VapatBase.isInside,VapatBase.inFile,vw,cv,back,h,h2]<;>simp_all [eq_comm]
  |swap g x y=>by_cases h:f=g<;>by_cases h2:l=g<;>simp[VapatBase.commuted,VapatBase.namesOf,VapatBase.disjoint,VapatBase.isInside,VapatBase.inFile,vw,cv,back,h,h2]<;>simp_all [eq_comm]
  |add g=>by_cases h:f=g<;>by_cases h2:l=g<;>simp[VapatBase.commuted,VapatBase.namesOf,VapatBase.disjoint,VapatBase.isInside,vw,cv,bK,h,h2]<;>simp_all
  |remove g=>by_cases h:f=g<;>by_cases h2:l=g<;>simp[VapatBase.commuted,VapatBase.namesOf,VapatBase.disjoint,VapatBase.isInside,vw,cv,bK,h,h2]<;>simp_all
  |move g k=>
   show(commuted (.move f l) (.move g k)).map _=if disjoint [f,l] [g,k] then some (Vw.str (.move g k),Vw.str (.move f l)) else none
   unfold VapatBase.commuted;by_cases hd:disjoint [f,l] [g,k]=true
   ·have hd':disjoint (VapatBase.namesOf (VapatBase.Step.move f l)) (VapatBase.namesOf (VapatBase.Step.move g k))=true:=hd;rw[if_pos hd',if_pos hd];rfl
   ·have hd':¬disjoint (VapatBase.namesOf (VapatBase.Step.move f l)) (VapatBase.namesOf (VapatBase.Step.move g k))=true:=hd;rw[if_neg hd',if_neg hd];rfl
theorem eW {a b b':Nat} {o n u v:List Nat} (h:a+n.length<b) (hb:b'=b-n.length+o.length):cx (.hunk a o n) (.hunk b u v)=some (.hunk b' u v,.hunk a o n):=by
 subst hb;simp only[cx];rw[if_pos h]
theorem eV {a b a':Nat} {o n u v:List Nat} (h:b+u.length<a) (ha:a'=a-u.length+v.length):cx (.hunk a o n) (.hunk b u v)=some (.hunk b u v,.hunk a' o n):=by
 subst ha;simp only[cx];rw[if_neg (by omega),if_pos h]
theorem wC {a b:Nat} {o n u v:List Nat} (h:¬a+n.length<b) (h2:¬b+u.length<a):cx (.hunk a o n) (.hunk b u v)=none:=by
 simp only[cx];rw[if_neg h,if_neg h2]
theorem gg {a b:Nat} {o n u v:List Nat} {X Y:Op} (h:cx (.hunk a o n) (.hunk b u v)=some (X,Y)):
 (a+n.length<b/\X= .hunk (b-n.length+o.length) u v/\Y= .hunk a o n)\/(b+u.length<a/\X= .hunk b u v/\Y= .hunk (a-u.length+v.length) o n):=by
 by_cases h1:a+n.length<b
 ·rw[eW h1 rfl] at h;cases h;exact .inl ⟨h1,rfl,rfl⟩
 ·by_cases h2:b+u.length<a
  ·rw[eV h2 rfl] at h;cases h;exact .inr ⟨h2,rfl,rfl⟩
  ·rw[wC h1 h2] at h;cases h
theorem rD {a b:Nat} {o n u v:List Nat} (h:cx (.hunk a o n) (.hunk b u v)=none):¬a+n.length<b/\¬b+u.length<a:=by
 refine⟨λz=>?_,λz=>?_⟩
 ·rw[eW z rfl] at h;cases h
 ·rw[eV z rfl] at h;cases h
theorem oi {x y u v:Nat} {X Y:Op} (h:cx (.swap x y) (.swap u v)=some (X,Y)):disjoint [x,y] [u,v]=true/\X= .swap u v/\Y= .swap x y:=by
 simp only[cx] at h
 split at h
 ·rename_i hd;cases h;exact⟨hd,rfl,rfl⟩
 ·cases h
theorem p8 {x y u v:Nat} (h:disjoint [x,y] [u,v]=true):cx (.swap x y) (.swap u v)=some (.swap u v,.swap x y):=by simp only[cx];rw[if_pos h]
theorem vH {l m:List Nat} (h:disjoint l m=true):disjoint m l=true:=by
 rw[oR] at h⊢;exact λx hx hl=>h x hl hx
theorem OX {a b a' b':Op} (h:cx a b=some (b',a')):cx b' a'=some (a,b):=by
 cases a with
 |hunk i o n=>
  cases b with
  |hunk j u v=>
   rcases gg h with ⟨h1,rfl,rfl⟩|⟨h1,rfl,rfl⟩
   ·exact eV (by omega) (by omega)
   ·exact eW (by omega) (by omega)
  |swap x y=>
   cases h;show some (Op.hunk i (swapAll x y (swapAll x y o)) (swapAll x y (swapAll x y n)),Op.swap x y)=_;rw[je,je]
 |swap x y=>
  cases b with
  |hunk j u v=>
   cases h;show some (Op.swap x y,Op.hunk j (swapAll x y (swapAll x y u)) (swapAll x y (swapAll x y v)))=_;rw[je,je]
  |swap u v=>
   obtain⟨hd,rfl,rfl⟩:=oi h;exact p8 (vH hd)
def uv {α:Type} (c:α->α->Option (α×α)) (p q r q1 r1 p2:α):Prop:=
 (∀r' q',c q r=some (r',q')->∃r1' q1' p',c q1 r1=some (r1',q1')/\c p r'=some (r1',p')/\c p' q'=some (q1',p2))/\(c q r=none->c q1 r1=none)
theorem OW {p q r q1 p1 r1 p2:Op} (h1:cx p q=some (q1,p1)) (h2:cx p1 r=some (r1,p2)):uv cx p q r q1 r1 p2:=by
 cases p with
 |hunk a o n=>
  cases q with
  |hunk b u v=>
   cases r with
   |hunk d w z=>
    rcases gg h1 with ⟨k1,rfl,rfl⟩|⟨k1,rfl,rfl⟩
    ·rcases gg h2 with ⟨k2,rfl,rfl⟩|⟨k2,rfl,rfl⟩
     ·refine⟨λr' q' h=>?_,λh=>?_⟩
      ·rcases gg h with ⟨k3,rfl,rfl⟩|⟨k3,rfl,rfl⟩
       ·exact⟨.hunk (d-v.length+u.length-n.length+o.length) w z,.hunk (b-n.length+o.length) u v,.hunk a o n,eW (by omega) (by omega),eW (by omega) (by omega),eW (by omega) (by omega)⟩
       ·exact⟨.hunk (d-n.length+o.length) w z,.hunk (b-w.length+z.length-n.length+o.length) u v,.hunk a o n,eV (by omega) (by omega),eW (by omega) (by omega),eW (by omega) (by omega)⟩
      ·obtain⟨k3,k4⟩:=rD h;exact wC (by omega) (by omega)
     ·refine⟨λr' q' h=>?_,λh=>?_⟩
      ·rcases gg h with ⟨k3,rfl,rfl⟩|⟨k3,rfl,rfl⟩
       ·omega
       ·exact⟨.hunk d w z,.hunk (b-n.length+o.length-w.length+z.length) u v,.hunk (a-w.length+z.length) o n,eV (by omega) (by omega),eV (by omega) (by omega),eW (by omega) (by omega)⟩
      ·obtain⟨k3,k4⟩:=rD h;omega
    ·rcases gg h2 with ⟨k2,rfl,rfl⟩|⟨k2,rfl,rfl⟩
     ·refine⟨λr' q' h=>?_,λh=>?_⟩
      ·rcases gg h with ⟨k3,rfl,rfl⟩|⟨k3,rfl,rfl⟩
       ·exact⟨.hunk (d-v.length+u.length-n.length+o.length) w z,.hunk b u v,.hunk a o n,eW (by omega) (by omega),eW (by omega) (by omega),eV (by omega) (by omega)⟩
       ·omega
      ·obtain⟨k3,k4⟩:=rD h;omega
     ·refine⟨λr' q' h=>?_,λh=>h⟩;rcases gg h with ⟨k3,rfl,rfl⟩|⟨k3,rfl,rfl⟩
      ·exact⟨.hunk (d-v.length+u.length) w z,.hunk b u v,.hunk (a-w.length+z.length) o n,h,eV (by omega) (by omega),by rw[eV (a':=a-u.length+v.length-w.length+z.length) (by omega) (by omega)]⟩
      ·exact⟨.hunk d w z,.hunk (b-w.length+z.length) u v,.hunk (a-w.length+z.length) o n,h,eV (by omega) (by omega),by rw[eV (a':=a-u.length+v.length-w.length+z.length) (by omega) (by omega)]⟩
   |swap x y=>
    rcases gg h1 with ⟨k1,rfl,rfl⟩|⟨k1,rfl,rfl⟩
    ·cases h2;refine⟨λr' q' h=>?_,λh=>by cases h⟩;cases h;exact⟨_,_,_,rfl,rfl,eW (by rw[cO];exact k1) (by rw[cO,cO])⟩
    ·cases h2;refine⟨λr' q' h=>?_,λh=>by cases h⟩;cases h;exact⟨_,_,_,rfl,rfl,eV (by rw[cO];exact k1) (by rw[cO,cO])⟩
  |swap x y=>
   cases h1;cases r with
   |hunk d w z=>
    rcases gg h2 with ⟨k2,rfl,rfl⟩|⟨k2,rfl,rfl⟩
    ·rw[cO] at k2;refine⟨λr' q' h=>?_,λh=>by cases h⟩;cases h;refine⟨_,_,.hunk a o n,rfl,eW k2 (by rw[cO,cO]),rfl⟩
    ·refine⟨λr' q' h=>?_,λh=>by cases h⟩;cases h;refine⟨_,_,.hunk (a-w.length+z.length) o n,rfl,eV (by rw[cO];exact k2) (by rw[cO,cO]),rfl⟩
   |swap x2 y2=>
    cases h2;refine⟨λr' q' h=>?_,λh=>h⟩;obtain⟨hd,rfl,rfl⟩:=oi h;refine⟨_,_,_,h,rfl,?_⟩;show some (Op.swap x y,Op.hunk a (swapAll x y (swapAll x2 y2 o)) (swapAll x y (swapAll x2 y2 n)))=_;rw[mh hd,mh hd]
 |swap x y=>
  cases q with
  |hunk b u v=>
   cases h1;cases r with
   |hunk d w z=>
    cases h2;refine⟨λr' q' h=>?_,λh=>?_⟩
    ·rcases gg h with ⟨k3,rfl,rfl⟩|⟨k3,rfl,rfl⟩
     ·exact⟨_,_,_,eW (by rw[cO];exact k3) rfl,by show some _=_;rw[cO,cO],rfl⟩
     ·exact⟨_,_,_,eV (by rw[cO];exact k3) rfl,rfl,by show some _=_;rw[cO,cO]⟩
    ·obtain⟨k3,k4⟩:=rD h;exact wC (by rw[cO];exact k3) (by rw[cO];exact k4)
   |swap x2 y2=>
    obtain⟨hd,rfl,rfl⟩:=oi h2;refine⟨λr' q' h=>?_,λh=>by cases h⟩;cases h;refine⟨_,_,_,rfl,p8 hd,?_⟩;show some (Op.hunk b (swapAll x y (swapAll x2 y2 u)) (swapAll x y (swapAll x2 y2 v)),Op.swap x y)=_;rw[mh hd,mh hd]
  |swap x2 y2=>
   obtain⟨hd,rfl,rfl⟩:=oi h1;cases r with
   |hunk d w z=>
    cases h2;refine⟨λr' q' h=>?_,λh=>by cases h⟩;cases h;refine⟨_,_,_,rfl,?_,p8 hd⟩;show some (Op.hunk d (swapAll x y (swapAll x2 y2 w)) (swapAll x y (swapAll x2 y2 z)),Op.swap x y)=_;rw[mh hd,mh hd]
   |swap x3 y3=>
    obtain⟨hd2,rfl,rfl⟩:=oi h2;refine⟨λr' q' h=>?_,λh=>h⟩;obtain⟨hd3,rfl,rfl⟩:=oi h;exact⟨_,_,_,h,p8 hd2,p8 hd⟩
end PR
namespace PR
open VapatBase (disjoint commuted)
theorem j9 {s:Sv} {y z:Nat} (h:back s y=some z):fwd s z=some y:=by
 cases s with
 |add f=>simp only[back] at h;split at h<;>simp_all [fwd]
 |remove f=>simp only[back] at h;split at h<;>simp_all [fwd]
 |move f g=>
  simp only[back] at h;simp only[fwd]
  split at h
  ·cases h;rw[if_pos rfl];simp_all
  ·split at h
   ·cases h
   ·cases h;rename_i h1 h2;rw[if_neg h2,if_neg h1]
theorem pw {s:Sv} {y z:Nat} (h:fwd s y=some z):back s z=some y:=by
 cases s with
 |add f=>simp only[fwd] at h;split at h<;>simp_all [back]
 |remove f=>simp only[fwd] at h;split at h<;>simp_all [back]
 |move f g=>
  simp only[fwd] at h;simp only[back]
  split at h
  ·cases h;rw[if_pos rfl];simp_all
  ·split at h
   ·cases h
   ·cases h;rename_i h1 h2;rw[if_neg h2,if_neg h1]
theorem AO {s:Sv} {y y' z z':Nat} (h:back s y=some z) (h':back s y'=some z'):y=y'↔z=z':=by
 constructor
 ·intro e;rw[e,h'] at h;exact(Option.some.inj h).symm
 ·intro e;have:=j9 h;rw[e,j9 h'] at this;exact(Option.some.inj this).symm
theorem wz {s:Sv} {y y' z z':Nat} (h:fwd s y=some z) (h':fwd s y'=some z'):y=y'↔z=z':=(AO (pw h) (pw h')).symm
theorem uP {s:Sv} {y:Nat} (h:y∉bK s):back s y=some y:=by
 cases s with
 |add f=>simp only[bK,List.mem_singleton] at h;simp only[back,if_neg h]
 |remove f=>simp only[bK,List.mem_singleton] at h;simp only[back,if_neg h]
 |move f g=>simp only[bK,List.mem_cons,List.not_mem_nil,or_false,not_or] at h;simp only[back,if_neg h.1,if_neg h.2]
theorem K3 {s:Sv} {y:Nat} (h:y∉bK s):fwd s y=some y:=j9 (uP h)
theorem G5 {s:Sv} {y z:Nat} (h:back s y=some z) (hy:y∈bK s):z∈bK s:=by
 cases s with
 |add f=>simp only[bK,List.mem_singleton] at hy;simp only[back,if_pos hy] at h;cases h
 |remove f=>simp only[bK,List.mem_singleton] at hy;simp only[back,if_pos hy] at h;cases h
 |move f g=>
  simp only[back] at h
  split at h
  ·cases h;exact List.mem_cons_self
  ·split at h
   ·cases h
   ·cases h;exact hy
theorem K2 {s:Sv} {y z:Nat} (h:fwd s y=some z) (hy:y∈bK s):z∈bK s:=by
 by_cases e:z∈bK s
 ·exact e
 ·have:=pw h;rw[uP e] at this;cases this;exact hy
def Way (w:Sv->Nat->Option Nat):Prop:=w=back\/w=fwd
theorem qd {w:Sv->Nat->Option Nat} (hw:Way w) {s:Sv} {y:Nat} (h:y∉bK s):w s y=some y:=by
 rcases hw with rfl|rfl
 ·exact uP h
 ·exact K3 h
theorem GG {w:Sv->Nat->Option Nat} (hw:Way w) {s:Sv} {y z:Nat} (h:w s y=some z) (hy:y∈bK s):z∈bK s:=by
 rcases hw with rfl|rfl
 ·exact G5 h hy
 ·exact K2 h hy
theorem An {w w':Sv->Nat->Option Nat} (hw:Way w) (hw':Way w') {s s':Sv} (hd:disjoint (bK s) (bK s')=true) {y y1:Nat} (h:w s y=some y1):(w' s' y=none->w' s' y1=none)/\∀y2,w' s' y=some y2->∃y3,w' s' y1=some y3/\w s y2=some y3:=by
 have hd:=oR.mp hd;by_cases hy:y∈bK s
 ·have h1:=GG hw h hy;have e:=qd hw' (hd y hy);refine⟨λz=>(by rw[e] at z;cases z),λy2 z=>?_⟩;rw[e] at z;cases z;exact⟨y1,qd hw' (hd y1 h1),h⟩
 ·rw[qd hw hy] at h;cases h;refine⟨λz=>z,λy2 z=>⟨y2,z,qd hw λq=>?_⟩⟩;by_cases hy':y∈bK s'
  ·exact hd y2 q (GG hw' z hy')
  ·rw[qd hw' hy'] at z;cases z;exact hy q
theorem vG (s:Sv) (y:Nat) (b:Op):cv (.str s) (.ins y b)=(back s y).map λz=>(.ins z b,.str s):=rfl
theorem vF (s:Sv) (x:Nat) (a:Op):cv (.ins x a) (.str s)=(fwd s x).map λz=>(.str s,.ins z a):=rfl
theorem BV (s s':Sv):cv (.str s) (.str s')=if disjoint (bK s) (bK s') then some (.str s',.str s) else none:=rfl
theorem gh {x y:Nat} {a b:Op} {X Y:Vw} (h:cv (.ins x a) (.ins y b)=some (X,Y)):(x≠y/\X= .ins y b/\Y= .ins x a)\/(x=y/\∃b' a',cx a b=some (b',a')/\X= .ins x b'/\Y= .ins x a'):=by
 rw[mH] at h
 split at h
 ·rename_i e
  cases e2:cx a b with
  |none=>rw[e2] at h;cases h
  |some z=>rw[e2] at h;cases h;exact .inr ⟨e,z.1,z.2,rfl,rfl,rfl⟩
 ·rename_i e
  cases h;exact .inl ⟨e,rfl,rfl⟩
theorem fq {x y:Nat} {a b:Op} (h:x≠y):cv (.ins x a) (.ins y b)=some (.ins y b,.ins x a):=by rw[mH,if_neg h]
theorem gT {x:Nat} {a b a' b':Op} (h:cx a b=some (b',a')):cv (.ins x a) (.ins x b)=some (.ins x b',.ins x a'):=by rw[mH,if_pos rfl,h];rfl
theorem Df {x:Nat} {a b:Op} (h:cx a b=none):cv (.ins x a) (.ins x b)=none:=by rw[mH,if_pos rfl,h];rfl
theorem rF {x y:Nat} {a b:Op} (h:cv (.ins x a) (.ins y b)=none):x=y/\cx a b=none:=by
 by_cases e:x=y
 ·subst e;rw[mH,if_pos rfl] at h;cases e2:cx a b with
  |none=>exact⟨rfl,rfl⟩
  |some z=>rw[e2] at h;cases h
 ·rw[fq e] at h;cases h
theorem ma {s:Sv} {y:Nat} {b:Op} {X Y:Vw} (h:cv (.str s) (.ins y b)=some (X,Y)):∃z,back s y=some z/\X= .ins z b/\Y= .str s:=by
 rw[vG] at h;cases e:back s y with
 |none=>rw[e] at h;cases h
 |some z=>rw[e] at h;cases h;exact⟨z,rfl,rfl,rfl⟩
theorem iu {s:Sv} {y z:Nat} {b:Op} (h:back s y=some z):cv (.str s) (.ins y b)=some (.ins z b,.str s):=by rw[vG,h];rfl
theorem ua {s:Sv} {y:Nat} {b:Op}:cv (.str s) (.ins y b)=none↔back s y=none:=by
 rw[vG];cases back s y with
 |none=>exact⟨λ_=>rfl,λ_=>rfl⟩
 |some z=>exact⟨λq=>(by cases q),λq=>(by cases q)⟩
theorem iO {s:Sv} {x:Nat} {a:Op} {X Y:Vw} (h:cv (.ins x a) (.str s)=some (X,Y)):∃z,fwd s x=some z/\X= .str s/\Y= .ins z a:=by
 rw[vF] at h;cases e:fwd s x with
 |none=>rw[e] at h;cases h
 |some z=>rw[e] at h;cases h;exact⟨z,rfl,rfl,rfl⟩
theorem gU {s:Sv} {x z:Nat} {a:Op} (h:fwd s x=some z):cv (.ins x a) (.str s)=some (.str s,.ins z a):=by rw[vF,h];rfl
theorem rK {s:Sv} {x:Nat} {a:Op}:cv (.ins x a) (.str s)=none↔fwd s x=none:=by
 rw[vF];cases fwd s x with
 |none=>exact⟨λ_=>rfl,λ_=>rfl⟩
 |some z=>exact⟨λq=>(by cases q),λq=>(by cases q)⟩
theorem oh {s s':Sv} {X Y:Vw} (h:cv (.str s) (.str s')=some (X,Y)):disjoint (bK s) (bK s')=true/\X= .str s'/\Y= .str s:=by
 rw[BV] at h
 split at h
 ·rename_i hd;cases h;exact⟨hd,rfl,rfl⟩
 ·cases h
theorem p7 {s s':Sv} (h:disjoint (bK s) (bK s')=true):cv (.str s) (.str s')=some (.str s',.str s):=by rw[BV,if_pos h]
theorem Jf {p q q' p':Vw} (h:cv p q=some (q',p')):cv q' p'=some (p,q):=by
 cases p with
 |ins x a=>
  cases q with
  |ins y b=>
   rcases gh h with ⟨e,rfl,rfl⟩|⟨rfl,b',a',e,rfl,rfl⟩
   ·exact fq (Ne.symm e)
   ·exact gT (OX e)
  |str s=>
   obtain⟨z,e,rfl,rfl⟩:=iO h;exact iu (pw e)
 |str s=>
  cases q with
  |ins y b=>
   obtain⟨z,e,rfl,rfl⟩:=ma h;exact gU (j9 e)
  |str s'=>
   obtain⟨hd,rfl,rfl⟩:=oh h;exact p7 (vH hd)
theorem Je {p q r q1 p1 r1 p2:Vw} (h1:cv p q=some (q1,p1)) (h2:cv p1 r=some (r1,p2)):uv cv p q r q1 r1 p2:=by
 cases p with
 |ins x a=>
  cases q with
  |ins y b=>
   cases r with
   |ins z c=>
    rcases gh h1 with ⟨e1,rfl,rfl⟩|⟨rfl,b1,a1,e1,rfl,rfl⟩
    ·rcases gh h2 with ⟨e2,rfl,rfl⟩|⟨rfl,c1,a2,e2,rfl,rfl⟩
     ·refine⟨λr' q' h=>?_,λh=>h⟩;rcases gh h with ⟨e3,rfl,rfl⟩|⟨rfl,c',b',e3,rfl,rfl⟩
      ·exact⟨_,_,_,h,fq e2,fq e1⟩
      ·exact⟨_,_,_,h,fq e1,fq e1⟩
     ·refine⟨λr' q' h=>?_,λh=>?_⟩
      ·rcases gh h with ⟨e3,rfl,rfl⟩|⟨rfl,c',b',e3,rfl,rfl⟩
       ·exact⟨_,_,_,fq e3,gT e2,fq e1⟩
       ·exact absurd rfl e1
      ·exact absurd (rF h).1.symm e1
    ·rcases gh h2 with ⟨e2,rfl,rfl⟩|⟨rfl,c1,a2,e2,rfl,rfl⟩
     ·refine⟨λr' q' h=>?_,λh=>?_⟩
      ·rcases gh h with ⟨e3,rfl,rfl⟩|⟨rfl,c',b',e3,rfl,rfl⟩
       ·exact⟨_,_,_,fq e3,fq e2,gT e1⟩
       ·exact absurd rfl e2
      ·exact absurd (rF h).1 e2
     ·obtain⟨k1,k2⟩:=OW e1 e2;refine⟨λr' q' h=>?_,λh=>Df (k2 (rF h).2)⟩;rcases gh h with ⟨e3,rfl,rfl⟩|⟨_,c',b',e3,rfl,rfl⟩
      ·exact absurd rfl e3
      ·obtain⟨r1',q1',p',m1,m2,m3⟩:=k1 _ _ e3;exact⟨_,_,_,gT m1,gT m2,gT m3⟩
   |str s=>
    rcases gh h1 with ⟨e1,rfl,rfl⟩|⟨rfl,b1,a1,e1,rfl,rfl⟩
    ·obtain⟨x1,e2,rfl,rfl⟩:=iO h2;refine⟨λr' q' h=>?_,λh=>h⟩;obtain⟨y1,e3,rfl,rfl⟩:=iO h;exact⟨_,_,_,h,gU e2,fq λz=>e1 ((wz e2 e3).mpr z)⟩
    ·obtain⟨x1,e2,rfl,rfl⟩:=iO h2;refine⟨λr' q' h=>?_,λh=>rK.mpr (rK.mp h)⟩;obtain⟨y1,e3,rfl,rfl⟩:=iO h;rw[e2] at e3;cases e3;exact⟨_,_,_,gU e2,gU e2,gT e1⟩
  |str s=>
   obtain⟨x1,e1,rfl,rfl⟩:=iO h1;cases r with
   |ins z c=>
    rcases gh h2 with ⟨e2,rfl,rfl⟩|⟨rfl,c1,a2,e2,rfl,rfl⟩
    ·refine⟨λr' q' h=>?_,λh=>h⟩;obtain⟨z1,e3,rfl,rfl⟩:=ma h;exact⟨_,_,_,h,fq λq=>e2 ((wz e1 (j9 e3)).mp q),gU e1⟩
    ·refine⟨λr' q' h=>?_,λh=>ua.mpr (ua.mp h)⟩;obtain⟨z1,e3,rfl,rfl⟩:=ma h;have:z1=x:=((wz e1 (j9 e3)).mpr rfl).symm;subst this;exact⟨_,_,_,iu e3,gT e2,gU e1⟩
   |str s'=>
    obtain⟨x2,e2,rfl,rfl⟩:=iO h2;refine⟨λr' q' h=>?_,λh=>h⟩;obtain⟨hd,rfl,rfl⟩:=oh h;have hd':=vH hd;obtain⟨k1,k2⟩:=An (.inl rfl) (.inr rfl) hd (pw e1);obtain⟨x3,m1,m2⟩:=k2 _ e2;exact⟨_,_,_,h,gU m1,gU (j9 m2)⟩
 |str s=>
  cases q with
  |ins y b=>
   obtain⟨y1,e1,rfl,rfl⟩:=ma h1;cases r with
   |ins z c=>
    obtain⟨z1,e2,rfl,rfl⟩:=ma h2;refine⟨λr' q' h=>?_,λh=>?_⟩
    ·rcases gh h with ⟨e3,rfl,rfl⟩|⟨rfl,c',b',e3,rfl,rfl⟩
     ·exact⟨_,_,_,fq λq=>e3 ((AO e1 e2).mpr q),iu e2,iu e1⟩
     ·rw[e1] at e2;cases e2;exact⟨_,_,_,gT e3,iu e1,iu e1⟩
    ·obtain⟨rfl,e3⟩:=rF h;rw[e1] at e2;cases e2;exact Df e3
   |str s'=>
    obtain⟨hd,rfl,rfl⟩:=oh h2;obtain⟨k1,k2⟩:=An (.inl rfl) (.inr rfl) hd e1;refine⟨λr' q' h=>?_,λh=>rK.mpr (k1 (rK.mp h))⟩;obtain⟨y2,e3,rfl,rfl⟩:=iO h;obtain⟨y3,m1,m2⟩:=k2 _ e3;exact⟨_,_,_,gU m1,p7 hd,iu m2⟩
  |str s'=>
   obtain⟨hd,rfl,rfl⟩:=oh h1;cases r with
   |ins z c=>
    obtain⟨z1,e2,rfl,rfl⟩:=ma h2;obtain⟨k1,k2⟩:=An (.inl rfl) (.inl rfl) hd e2;refine⟨λr' q' h=>?_,λh=>ua.mpr (k1 (ua.mp h))⟩;obtain⟨z2,e3,rfl,rfl⟩:=ma h;obtain⟨z3,m1,m2⟩:=k2 _ e3;exact⟨_,_,_,iu m1,iu m2,p7 hd⟩
   |str s2=>
    obtain⟨hd2,rfl,rfl⟩:=oh h2;refine⟨λr' q' h=>?_,λh=>h⟩;obtain⟨hd3,rfl,rfl⟩:=oh h;exact⟨_,_,_,h,p7 hd2,p7 hd⟩
theorem qR {p q q' p':ai} (h:commuted p q=some (q',p')):cv (vw p) (vw q)=some (vw q',vw p'):=by rw[<-vA,h];rfl
theorem sH {p q:ai} {X Y:Vw} (h:cv (vw p) (vw q)=some (X,Y)):commuted p q=some (un X,un Y):=by
 rw[<-vA] at h;cases e:commuted p q with
 |none=>rw[e] at h;cases h
 |some z=>
  rw[e] at h;cases h;rw[mv,mv]
theorem Ej {p q:ai}:cv (vw p) (vw q)=none↔commuted p q=none:=by
 rw[<-vA];cases commuted p q with
 |none=>exact⟨λ_=>rfl,λ_=>rfl⟩
 |some z=>exact⟨λq=>(by cases q),λq=>(by cases q)⟩
theorem oN {p q q' p':ai} (h:commuted p q=some (q',p')):commuted q' p'=some (p,q):=by
 have:=sH (Jf (qR h));rw[mv,mv] at this;exact this
theorem BB {p q r q1 p1 r1 p2:ai} (h1:commuted p q=some (q1,p1)) (h2:commuted p1 r=some (r1,p2)):uv commuted p q r q1 r1 p2:=by
 obtain⟨k1,k2⟩:=Je (qR h1) (qR h2);refine⟨λr' q' h=>?_,λh=>Ej.mp (k2 (Ej.mpr h))⟩;obtain⟨X,Y,Z,m1,m2,m3⟩:=k1 _ _ (qR h);refine⟨un X,un Y,un Z,sH m1,sH m2,?_⟩;have m3':cv (vw (un Z)) (vw q')=some (Y,vw p2):=by rw[Am];exact m3
 have:=sH m3';rw[mv] at this;exact this
end PR
namespace PR
open VapatBase (commuted)
open Vapatb (aheadOf behind needsFrom)
theorem fA {p x p2:ai} {l m:List ai}:behind p (x::l)= .ok (m,p2)↔∃x1 p1 l1,commuted p x=some (x1,p1)/\behind p1 l= .ok (l1,p2)/\m=x1::l1:=by
 constructor
 ·intro h;cases c:commuted p x with
  |none=>rw[ka c] at h;cases h
  |some y=>
   obtain⟨x1,p1⟩:=y;cases e:behind p1 l with
   |error n=>rw[mC c e] at h;cases h
   |ok y=>
    obtain⟨l1,p3⟩:=y;rw[dC c e] at h;cases h;exact⟨x1,p1,l1,rfl,e,rfl⟩
 ·rintro⟨x1,p1,l1,c,e,rfl⟩;exact dC c e
theorem dG:∀{l m n:List ai} {p p2:ai},behind p (l++m)= .ok (n,p2)↔∃l1 p1 m1,behind p l= .ok (l1,p1)/\behind p1 m= .ok (m1,p2)/\n=l1++m1
 |[],m,n,p,p2=>⟨λh=>⟨[],p,n,rfl,h,rfl⟩,λ⟨l1,p1,m1,h1,h2,e⟩=>by cases h1;rw[e];exact h2⟩
 |x::l,m,n,p,p2=>by
  rw[List.cons_append,fA];constructor
  ·rintro⟨x1,p1,n1,c,h,rfl⟩;obtain⟨l1,p3,m1,h1,h2,rfl⟩:=dG.mp h;exact⟨x1::l1,p3,m1,dC c h1,h2,rfl⟩
  ·rintro⟨l1,p3,m1,h1,h2,rfl⟩;obtain⟨x1,p1,l2,c,h3,rfl⟩:=fA.mp h1;exact⟨x1,p1,l2++m1,c,dG.mpr ⟨l2,p3,m1,h3,h2,rfl⟩,rfl⟩
theorem EZ {l m:List ai} {p:ai} {k:Nat} (h:behind p l= .error k):∃k',behind p (l++m)= .error k':=by
 cases e:behind p (l++m) with
 |error k'=>exact⟨k',rfl⟩
 |ok y=>
  obtain⟨n,p2⟩:=y;obtain⟨l1,p1,m1,h1,_⟩:=dG.mp e;rw[h] at h1;cases h1
theorem E1 {l l1 m:List ai} {p p1:ai} {k:Nat} (h1:behind p l= .ok (l1,p1)) (h:behind p1 m= .error k):∃k',behind p (l++m)= .error k':=by
 cases e:behind p (l++m) with
 |error k'=>exact⟨k',rfl⟩
 |ok y=>
  obtain⟨n,p2⟩:=y;obtain⟨l2,p3,m1,h3,h4,_⟩:=dG.mp e;rw[h1] at h3;cases h3;rw[h] at h4;cases h4
theorem uF:∀{l l1:List ai} {q q1:ai},aheadOf l q= .ok (q1,l1)->behind q1 l1= .ok (l,q)
 |[],l1,q,q1,h=>by cases h;rfl
 |p::l,l1,q,q1,h=>by
  cases e:aheadOf l q with
  |error n=>
   have h2:aheadOf (p::l) q= .error n:=mz e [p];rw[h2] at h;cases h
  |ok x=>
   obtain⟨q2,l2⟩:=x;cases c:commuted p q2 with
   |none=>rw[oH e c] at h;cases h
   |some y=>
    obtain⟨q3,p1⟩:=y;rw[oI e c] at h;cases h;exact dC (oN c) (uF e)
theorem xV:∀{l l1:List ai} {q q1:ai},behind q1 l1= .ok (l,q)->aheadOf l q= .ok (q1,l1)
 |l,[],q,q1,h=>by cases h;rfl
 |l,x::l1,q,q1,h=>by
  obtain⟨x1,p1,l2,c,h2,rfl⟩:=fA.mp h;exact oI (xV h2) (oN c)
theorem yi:∀{l l1:List ai} {p x x1 p2:ai},behind p (x::l)= .ok (x1::l1,p2)->
 (∀l' x',behind x l= .ok (l',x')->∃l1' x1',behind x1 l1= .ok (l1',x1')/\behind p (l'++[x'])= .ok (l1'++[x1'],p2))/\(∀n,behind x l= .error n->∃m,behind x1 l1= .error m)
 |[],l1,p,x,x1,p2,h=>by
  obtain⟨x2,p1,l2,c,h2,e⟩:=fA.mp h;cases h2;cases e;exact⟨λl' x' h=>by cases h;exact⟨[],x1,rfl,Le c⟩,λn h=>by cases h⟩
 |y::l,l1,p,x,x1,p2,h=>by
  obtain⟨x2,p1,l2,c,h2,e⟩:=fA.mp h;cases e;obtain⟨y1,p3,l3,c2,h3,rfl⟩:=fA.mp h2;obtain⟨k1,k2⟩:=BB c c2;cases e:commuted x y with
  |none=>
   refine⟨λl' x' h=>?_,λn _=>⟨0,ka (k2 e)⟩⟩;rw[ka e] at h;cases h
  |some z=>
   obtain⟨y',x'⟩:=z;obtain⟨y1',x1',p',m1,m2,m3⟩:=k1 _ _ e;obtain⟨r1,r2⟩:=yi (dC m3 h3);refine⟨λl' x2' h=>?_,λn h=>?_⟩
   ·obtain⟨y2,x3,l4,c4,h4,rfl⟩:=fA.mp h;rw[e] at c4;cases c4;obtain⟨l1',x1'',s1,s2⟩:=r1 _ _ h4;exact⟨y1'::l1',x1'',dC m1 s1,dC m2 s2⟩
   ·cases e4:behind x' l with
    |ok z=>obtain⟨l4,z⟩:=z;rw[dC e e4] at h;cases h
    |error n'=>
     obtain⟨m,hm⟩:=r2 _ e4;exact⟨m+1,mC m1 hm⟩
where Le {p x x1 p2:ai} (c:commuted p x=some (x1,p2)):behind p ([]++[x])= .ok ([]++[x1],p2):=dC c rfl
theorem fM:∀(X:List (ai×Nat)) (B:List ai) (ks:List Nat),needsFrom X B ks=needsFrom X B []++ks
 |[],B,ks=>rfl
 |x::X,B,ks=>by
  cases e:behind x.1 B with
  |ok z=>obtain⟨b,z⟩:=z;rw[dF e,dF e];exact fM X b ks
  |error n=>
   rw[dE e,dE e,fM X (x.1::B) (x.2::ks),fM X (x.1::B) [x.2],List.append_assoc];rfl
theorem sv:∀{X1 X:List (ai×Nat)} {B1 B:List ai} {ks:List Nat} {q0 q:ai},X1.map (·.2)=X.map (·.2)->behind q0 ((X1.map (·.1)).reverse++B1)= .ok ((X.map (·.1)).reverse++B,q)->needsFrom X1 B1 ks=needsFrom X B ks
 |[],[],B1,B,ks,q0,q,_,_=>rfl
 |[],_::_,_,_,_,_,_,h,_=>by cases h
 |_::_,[],_,_,_,_,_,h,_=>by cases h
 |(x1,i1)::X1,(x,i)::X,B1,B,ks,q0,q,hl,h=>by
  have hi:i1=i:=(List.cons.inj hl).1;have hl2:=(List.cons.inj hl).2;subst hi;simp only[List.map_cons,List.reverse_cons,List.append_assoc,List.singleton_append] at h;obtain⟨l1,q',m1,h1,h2,e⟩:=dG.mp h;have hlen:((X.map (·.1)).reverse).length=l1.length:=by
   rw[gq h1,List.length_reverse,List.length_reverse,List.length_map,List.length_map];have:=congrArg List.length hl2;rw[List.length_map,List.length_map] at this;exact this.symm
  obtain⟨e1,e2⟩:=List.append_inj e hlen;subst e1 e2;obtain⟨k1,k2⟩:=yi h2;cases e3:behind x1 B1 with
  |ok z=>
   obtain⟨B1',x1'⟩:=z;obtain⟨B',x',s1,s2⟩:=k1 _ _ e3;rw[dF (x:=(x1,i1)) e3,dF (x:=(x,i1)) s1];obtain⟨l2,q'',m2,t1,t2,t3⟩:=dG.mp s2;obtain⟨t4,t5⟩:=List.append_inj t3 (by
    have a1:=gq t1;have a2:=congrArg List.length t3;have a3:=gq t2;rw[List.length_append,List.length_append,a3] at a2;simp at a2;omega)
   subst t4;exact sv hl2 (dG.mpr ⟨_,q',_,h1,t1,rfl⟩)
  |error n=>
   obtain⟨m,hm⟩:=k2 _ e3;rw[dE (x:=(x1,i1)) e3,dE (x:=(x,i1)) hm];exact sv hl2 h
theorem xq:∀{X1 X:List (ai×Nat)} {D1 D E:List ai} {ks:List Nat} {q0 z z':ai},X1.map (·.2)=X.map (·.2)->behind q0 (X1.map (·.1)).reverse= .ok ((X.map (·.1)).reverse,z)->behind z D1= .ok (D,z')->needsFrom X1 (D1++E) ks=needsFrom X (D++z'::E) ks
 |[],[],_,_,_,_,_,_,_,_,_,_=>rfl
 |[],_::_,_,_,_,_,_,_,_,h,_,_=>by cases h
 |_::_,[],_,_,_,_,_,_,_,h,_,_=>by cases h
 |(x1,i1)::X1,(x,i)::X,D1,D,E,ks,q0,z,z',hl,h,hD=>by
  have hi:i1=i:=(List.cons.inj hl).1;have hl2:=(List.cons.inj hl).2;subst hi;simp only[List.map_cons,List.reverse_cons] at h;obtain⟨l1,z0,m1,h1,h2,e⟩:=dG.mp h;obtain⟨x2,z2,l2,c,h3,e2⟩:=fA.mp h2;cases h3;subst e2;obtain⟨e1,e2⟩:=List.append_inj' e rfl;cases e2;subst e1;have hz:behind z0 (x1::D1)= .ok (x::D,z'):=dC c hD;obtain⟨k1,k2⟩:=yi hz;have bad:∀n m,behind x1 (D1++E)= .error n->behind x (D++z'::E)= .error m->needsFrom ((x1,i1)::X1) (D1++E) ks=needsFrom ((x,i1)::X) (D++z'::E) ks:=by
   intro n m b1 b2;rw[dE (x:=(x1,i1)) b1,dE (x:=(x,i1)) b2];exact xq (D1:=x1::D1) (D:=x::D) (E:=E) hl2 h1 hz
  cases e3:behind x1 D1 with
  |error n=>
   obtain⟨m,hm⟩:=k2 _ e3;obtain⟨n',b1⟩:=EZ (m:=E) e3;obtain⟨m',b2⟩:=EZ (m:=z'::E) hm;exact bad _ _ b1 b2
  |ok y=>
   obtain⟨D1',x1'⟩:=y;obtain⟨D',x',s1,s2⟩:=k1 _ _ e3;obtain⟨l3,z'',m2,t1,t2,t3⟩:=dG.mp s2;obtain⟨x3,z3,l4,c3,t4,t5⟩:=fA.mp t2;cases t4;subst t5;obtain⟨t6,t7⟩:=List.append_inj' t3 rfl;cases t7;subst t6;have ci:=oN c3;cases e4:behind x1' E with
   |ok y=>
    obtain⟨E',e'⟩:=y;rw[dF (x:=(x1,i1)) (dG.mpr ⟨D1',x1',E',e3,e4,rfl⟩),dF (x:=(x,i1)) (dG.mpr ⟨D',x',z''::E',s1,dC ci e4,rfl⟩)];exact xq hl2 h1 t1
   |error n=>
    obtain⟨n',b1⟩:=E1 e3 e4;obtain⟨m',b2⟩:=E1 s1 (mC ci e4);exact bad _ _ b1 b2
def dO:List (ai×Nat)->List ai->List Nat->List ai×List Nat
 |[],B,k=>(B,k)
 |x::l,B,k=>match behind x.1 B with
  | .ok (b,_)=>dO l b k
  | .error _=>dO l (x.1::B) (x.2::k)
theorem pA {x:ai×Nat} {l:List (ai×Nat)} {B b:List ai} {k:List Nat} {p:ai} (h:behind x.1 B= .ok (b,p)):dO (x::l) B k=dO l b k:=by simp only[dO,h]
theorem px {x:ai×Nat} {l:List (ai×Nat)} {B:List ai} {k:List Nat} {n:Nat} (h:behind x.1 B= .error n):dO (x::l) B k=dO l (x.1::B) (x.2::k):=by simp only[dO,h]
theorem pI:∀(X Y:List (ai×Nat)) (B:List ai) (k:List Nat),needsFrom (X++Y) B k=needsFrom Y (dO X B k).1 (dO X B k).2
 |[],Y,B,k=>rfl
 |x::X,Y,B,k=>by
  cases e:behind x.1 B with
  |ok z=>obtain⟨b,z⟩:=z;rw[List.cons_append,dF e,pA e];exact pI X Y b k
  |error n=>rw[List.cons_append,dE e,px e];exact pI X Y _ _
theorem xr (φ:Nat->Nat):∀(X:List (ai×Nat)) (B:List ai) (k:List Nat),needsFrom (X.map λx=>(x.1,φ x.2)) B (k.map φ)=(needsFrom X B k).map φ
 |[],B,k=>rfl
 |x::X,B,k=>by
  cases e:behind x.1 B with
  |ok z=>obtain⟨b,z⟩:=z;rw[List.map_cons,dF (x:=(x.1,φ x.2)) e,dF e];exact xr φ X b k
  |error n=>rw[List.map_cons,dE (x:=(x.1,φ x.2)) e,dE e];exact xr φ X (x.1::B) (x.2::k)
theorem Ea:∀{X:List (ai×Nat)} {B:List ai} {y:Nat},y∈needsFrom X B []->y∈X.map (·.2):=λh=>by
 rcases so h with z|z
 ·cases z
 ·exact z
theorem wB:∀{X:List (ai×Nat)} {B:List ai} {k:List Nat} {y:Nat},y∈(dO X B k).2->y∈k\/y∈X.map (·.2)
 |[],_,_,_,h=> .inl h
 |x::X,B,k,y,h=>by
  cases e:behind x.1 B with
  |ok z=>
   obtain⟨b,z⟩:=z;rw[pA e] at h;rcases wB h with q|q
   ·exact .inl q
   ·exact .inr (List.mem_cons_of_mem _ q)
  |error n=>
   rw[px e] at h;rcases wB h with q|q
   ·rcases List.mem_cons.mp q with z|z
    ·exact .inr (by rw[z];exact List.mem_cons_self)
    ·exact .inl z
   ·exact .inr (List.mem_cons_of_mem _ q)
end PR
namespace PR
open VapatBase (commuted)
open Vapatb (aheadOf behind needsFrom)
open Vapatc (namesOf stepsOf named frontAt front placeOf)
def pairs (r:ag):List (ai×Nat):=r.map λp=>(p.step,p.name)
def fL (r:ag) (q:ai):List Nat:=needsFrom (pairs r).reverse [q] []
theorem EW (r r':ag):pairs (r++r')=pairs r++pairs r':=by unfold pairs;rw[List.map_append]
theorem nE (r:ag):(pairs r).map (·.1)=stepsOf r:=by unfold pairs Vapatc.stepsOf;rw[List.map_map];rfl
theorem lF (r:ag):(pairs r).map (·.2)=namesOf r:=by unfold pairs Vapatc.namesOf;rw[List.map_map];rfl
theorem NF {r:ag} {k:Nat} {p:bp} (h:r[k]?=some p):(Vapatb.needs (stepsOf r) k).map (nameAt r)=fL (r.take k) p.step:=by
 have hs:(stepsOf r)[k]?=some p.step:=by unfold Vapatc.stepsOf;rw[List.getElem?_map,h];rfl
 rw[pH hs];have e:(((stepsOf r).take k).zipIdx.map λx=>(x.1,nameAt r x.2))=pairs (r.take k):=by
  refine List.ext_getElem? λi=>?_;unfold pairs;rw[List.getElem?_map,List.getElem?_map,List.getElem?_zipIdx,List.getElem?_take,List.getElem?_take]
  split
  ·unfold Vapatc.stepsOf;rw[List.getElem?_map];cases e:r[i]? with
   |none=>rfl
   |some q=>
    simp only[Option.map_some,Nat.zero_add];unfold nameAt;rw[e];rfl
  ·rfl
 have:=xr (nameAt r) ((stepsOf r).take k).zipIdx.reverse [p.step] [];rw[<-this];unfold fL;rw[<-e,<-List.map_reverse];rfl
theorem m7 {r:ag} (hn:aM r) {k:Nat} {p:bp} (h:r[k]?=some p):Vapatc.needs r p.name=fL (r.take k) p.step:=by
 have hk:=(List.getElem?_eq_some_iff.mp h).1;have e:nameAt r k=p.name:=by unfold nameAt;rw[h];rfl
 rw[<-e,iT hn hk,NF h]
theorem Eb:∀{X:List (ai×Nat)} {q:ai},needsFrom X [q] []=[]↔∃q1 l1,behind q1 l1= .ok ((X.map (·.1)).reverse,q)
 |[],q=>⟨λ_=>⟨q,[],rfl⟩,λ_=>rfl⟩
 |(x,i)::X,q=>by
  simp only[List.map_cons,List.reverse_cons];cases c:commuted x q with
  |none=>
   have e:behind x [q]= .error 0:=ka c;rw[dE (x:=(x,i)) e,fM];constructor
   ·intro z;have:=congrArg List.length z;simp at this
   ·rintro⟨q1,l1,h⟩;have h:=xV h;have e2:aheadOf [x] q= .error 0:=oH (l:=[]) rfl c;rw[mz e2] at h;cases h
  |some y=>
   obtain⟨q',x'⟩:=y;have e:behind x [q]= .ok ([q'],x'):=dC c rfl;rw[dF (x:=(x,i)) e,Eb];constructor
   ·rintro⟨q1,l1,h⟩;exact⟨q1,l1++[x'],dG.mpr ⟨_,q',[x],h,dC (oN c) rfl,rfl⟩⟩
   ·rintro⟨q1,l1,h⟩;have hl:=gq h;rcases List.eq_nil_or_concat l1 with rfl|⟨l2,y,e2⟩
    ·simp at hl
    ·rw[e2,List.concat_eq_append] at h;obtain⟨A,q2,m1,h1,h2,e3⟩:=dG.mp h;obtain⟨y1,p1,l3,c2,h3,e4⟩:=fA.mp h2;cases h3;subst e4;obtain⟨e5,e6⟩:=List.append_inj' e3 rfl;cases e6;subst e5;have:=oN c2;rw[c] at this;cases this;exact⟨q1,l2,h1⟩
theorem Ks {r:ag} {k:Nat} {p:bp} (h:r[k]?=some p):(frontAt r k).isSome=true↔fL (r.take k) p.step=[]:=by
 unfold fL;rw[Eb,List.map_reverse,List.reverse_reverse,nE];cases e:aheadOf (stepsOf (r.take k)) p.step with
 |error n=>
  rw[wg h e];constructor
  ·intro z;cases z
  ·rintro⟨q1,l1,z⟩;rw[xV z] at e;cases e
 |ok x=>
  obtain⟨q1,l1⟩:=x;rw[wj h e];exact⟨λ_=>⟨q1,l1,uF e⟩,λ_=>rfl⟩
theorem mJ {l:List Nat} {n:Nat} (h:n∉l):l.filter (λm=>m !=n)=l:=by
 rw[List.filter_eq_self];intro m hm;simp only[bne_iff_ne,ne_eq];intro e;exact h (by rw[<-e];exact hm)
theorem D4 {r:ag} {q:ai} {n:Nat} (h:n∈fL r q):n∈namesOf r:=by
 have:=Ea h;rw[List.map_reverse,List.mem_reverse,lF] at this;exact this
theorem EX (ns:List Nat) (l:List ai) (h:ns.length=l.length):(pairs (named ns l)).map (·.1)=l/\(pairs (named ns l)).map (·.2)=ns:=by
 rw[nE,lF];exact⟨oj ns l h,k7 ns l h⟩
theorem NK {r rest:ag} {k:Nat} {p:bp} (hn:aM r) (h:frontAt r k=some (p,rest)) {i:Nat} {x:bp} (hx:rest[i]?=some x):
 ∃j y,r[j]?=some y/\y.name=x.name/\fL (rest.take i) x.step=(fL (r.take j) y.step).filter (λm=>m !=p.name)/\j=if i<k then i else i+1:=by
 obtain⟨p0,q1,l1,h0,h1,rfl,rfl⟩:=oY h;have hk:=(List.getElem?_eq_some_iff.mp h0).1;have hp:=uF h1;have hl1:l1.length=k:=by rw[qr h1,iy,List.length_take];omega
 have hnl:(namesOf (r.take k)).length=l1.length:=by rw[cz,List.length_take];omega
 have hLk:(named (namesOf (r.take k)) l1).length=k:=by
  unfold Vapatc.named;rw[List.length_map,List.length_zip,cz,List.length_take];omega
 have er:=ja h0;by_cases hi:i<k
 ·rw[List.getElem?_append_left (by omega)] at hx;obtain⟨y,hy⟩:∃y,r[i]?=some y:=⟨_,List.getElem?_eq_getElem (by omega)⟩
  have hty:(r.take k)[i]?=some y:=by rw[List.getElem?_take_of_lt hi];exact hy
  have hsx:=ja hx;have hsy:=ja hty;have htt:(r.take k).take i=r.take i:=by rw[List.take_take,Nat.min_eq_left (by omega)]
  have hti:(named (namesOf (r.take k)) l1++r.drop (k+1)).take i=(named (namesOf (r.take k)) l1).take i:=by rw[List.take_append_of_le_length (by omega)]
  have e1:=EX _ _ hnl;have en:namesOf (named (namesOf (r.take k)) l1)=namesOf (r.take k):=k7 _ _ hnl;have es:stepsOf (named (namesOf (r.take k)) l1)=l1:=oj _ _ hnl;generalize named (namesOf (r.take k)) l1=L1 at hx hsx hti e1 en es hLk;have enx:y.name=x.name/\namesOf (L1.take i)=namesOf (r.take i):=by
   have:=en;rw[hsx,hsy,dA,dA,htt] at this;obtain⟨a1,a2⟩:=List.append_inj this (by rw[cz,cz,List.length_take,List.length_take];omega);exact⟨(List.cons.inj a2).1.symm,a1⟩
  refine⟨i,y,hy,enx.1,?_,by rw[if_pos hi]⟩;rw[hti,mJ]
  ·
   have hp2:behind q1 (stepsOf (L1.take i)++([x.step]++stepsOf (L1.drop (i+1))))= .ok (stepsOf (r.take i)++([y.step]++stepsOf ((r.take k).drop (i+1))),p0.step):=by
    have a1:stepsOf L1=stepsOf (L1.take i)++([x.step]++stepsOf (L1.drop (i+1))):=by
     have:=congrArg (λz=>stepsOf z) hsx;rw[fU] at this;exact this
    have a2:stepsOf (r.take k)=stepsOf (r.take i)++([y.step]++stepsOf ((r.take k).drop (i+1))):=by
     have:=congrArg (λz=>stepsOf z) hsy;rw[fU,htt] at this;exact this
    rw[<-a1,<-a2,es];exact hp
   rw[<-List.append_assoc] at hp2;obtain⟨A,q2,m1,b1,b2,b3⟩:=dG.mp hp2;have hA:=gq b1;rw[<-List.append_assoc] at b3;obtain⟨b4,b5⟩:=List.append_inj b3 (by
    rw[hA];simp only[List.length_append,iy,List.length_take,List.length_singleton];omega)
   subst b4;unfold fL;refine sv (q0:=q1) (q:=q2) ?_ ?_
   ·rw[List.map_reverse,List.map_reverse,lF,lF,enx.2]
   ·rw[List.map_reverse,List.reverse_reverse,List.map_reverse,List.reverse_reverse,nE,nE];exact b1
  ·intro hm;have:=D4 hm;have hn':(namesOf r).Nodup:=hn;rw[er,dA] at hn';have hd:=(List.nodup_append.mp hn').2.2;have hin:p0.name∈namesOf (r.take k):=by
    rw[hsy,htt,dA];exact List.mem_append_left _ this
   exact hd _ hin _ List.mem_cons_self rfl
 ·rw[List.getElem?_append_right (by omega),hLk] at hx;have hx2:r[i+1]?=some x:=by
   rw[List.getElem?_drop] at hx;rw[<-hx];congr 1;omega
  refine⟨i+1,x,hx2,rfl,?_,by rw[if_neg hi]⟩;have ht1:(named (namesOf (r.take k)) l1++r.drop (k+1)).take i=named (namesOf (r.take k)) l1++(r.drop (k+1)).take (i-k):=by
   rw[List.take_append,List.take_of_length_le (by omega),hLk]
  have ht2:r.take (i+1)=r.take k++(p0::(r.drop (k+1)).take (i-k)):=by
   have:i+1=k+(1+(i-k)):=by omega
   rw[this,List.take_add];congr 1;have e3:r.drop k=p0::r.drop (k+1):=by rw[List.drop_eq_getElem_cons hk,(List.getElem?_eq_some_iff.mp h0).2]
   rw[e3,Nat.add_comm 1,List.take_succ_cons]
  generalize hM:(r.drop (k+1)).take (i-k)=M at ht1 ht2;have hMsub:∀m∈namesOf M,m∈namesOf (r.drop (k+1)):=by
   intro m hm;rw[<-hM] at hm;unfold Vapatc.namesOf at hm⊢;rw[List.map_take] at hm;exact List.mem_of_mem_take hm
  have hn':(namesOf r).Nodup:=hn;rw[er,dA] at hn';have hd:=(List.nodup_append.mp hn').2.2;have hnotL:p0.name∉namesOf (r.take k):=λz=>hd _ z _ List.mem_cons_self rfl;have hnotM:p0.name∉namesOf M:=λz=>(List.nodup_cons.mp (List.nodup_append.mp hn').2.1).1 (hMsub _ z);rw[ht1,ht2];unfold fL;rw[EW,EW];show needsFrom ((pairs _++pairs M).reverse) _ _=List.filter _ (needsFrom ((pairs (r.take k)++((p0.step,p0.name)::pairs M)).reverse) _ _);rw[List.reverse_append,List.reverse_append,List.reverse_cons,List.append_assoc,pI,pI (pairs M).reverse];have hks:p0.name∉(dO (pairs M).reverse [x.step] []).2:=by
   intro z;rcases wB z with q|q
   ·cases q
   ·rw[List.map_reverse,List.mem_reverse,lF] at q;exact hnotM q
  generalize dO (pairs M).reverse [x.step] []=st at hks;obtain⟨B,ks⟩:=st;simp only at hks⊢;obtain⟨e1,e2⟩:=EX _ _ hnl;have labels:((pairs (named (namesOf (r.take k)) l1)).reverse.map (·.2))=(pairs (r.take k)).reverse.map (·.2):=by
   rw[List.map_reverse,List.map_reverse,e2,lF]
  show needsFrom _ B ks=List.filter _ (needsFrom ((p0.step,p0.name)::(pairs (r.take k)).reverse) B ks);have hnf:∀C,p0.name∉needsFrom (pairs (r.take k)).reverse C []:=by
   intro C z;have:=Ea z;rw[List.map_reverse,List.mem_reverse,lF] at this;exact hnotL this
  cases e:behind p0.step B with
  |ok z=>
   obtain⟨B',p'⟩:=z;rw[dF (x:=(p0.step,p0.name)) e];rw[mJ]
   ·refine sv (q0:=q1) (q:=p') labels ?_;rw[List.map_reverse,List.reverse_reverse,List.map_reverse,List.reverse_reverse,e1,nE];exact dG.mpr ⟨_,_,_,hp,e,rfl⟩
   ·rw[fM];intro z;rcases List.mem_append.mp z with q|q
    ·exact hnf _ q
    ·exact hks q
  |error n=>
   rw[dE (x:=(p0.step,p0.name)) e,fM _ _ (p0.name::ks),List.filter_append,mJ (hnf _)];have e5:(p0.name::ks).filter (λm=>m !=p0.name)=ks:=by
    rw[List.filter_cons_of_neg (by simp),mJ hks]
   rw[e5,fM _ B ks];congr 1;have:=xq (X1:=(pairs (named (namesOf (r.take k)) l1)).reverse) (X:=(pairs (r.take k)).reverse) (D1:=[]) (D:=[]) (E:=B) (ks:=[]) (q0:=q1) (z:=p0.step) (z':=p0.step) labels (by
    rw[List.map_reverse,List.reverse_reverse,List.map_reverse,List.reverse_reverse,e1,nE];exact hp) rfl
   exact this
end PR
namespace PR
open VapatBase (commuted)
open Vapatb (aheadOf behind needsFrom)
open Vapatc (namesOf stepsOf named frontAt front placeOf)
inductive Eqv:List ai->List ai->Prop
 |refl (l:List ai):Eqv l l
 |swap (A C:List ai) {q r r' q':ai} (h:commuted q r=some (r',q')):Eqv (A++q::r::C) (A++r'::q'::C)
 |trans {l m n:List ai} (h1:Eqv l m) (h2:Eqv m n):Eqv l n
theorem Eqv.cons (p:ai) {l m:List ai} (h:Eqv l m):Eqv (p::l) (p::m):=by
 induction h with
 |refl l=>exact .refl _
 |swap A C h=>exact .swap (p::A) C h
 |trans _ _ i1 i2=>exact .trans i1 i2
theorem Eqv.behind (R:List ai) {l m:List ai} (h:Eqv l m):Eqv (l++R) (m++R):=by
 induction h with
 |refl l=>exact .refl _
 |swap A C h=>
  rw[List.append_assoc,List.append_assoc];exact .swap A (C++R) h
 |trans _ _ i1 i2=>exact .trans i1 i2
theorem EY:∀{l m:List ai} {y y1:ai},behind y l= .ok (m,y1)->Eqv (y::l) (m++[y1])
 |[],m,y,y1,h=>by cases h;exact .refl _
 |x::l,m,y,y1,h=>by
  obtain⟨x1,y2,l1,c,h2,rfl⟩:=fA.mp h;exact .trans (.swap [] l c) ((EY h2).cons x1)
theorem JD {l l':List ai} (h:Eqv l l'):∀{y y1:ai} {m:List ai},behind y l= .ok (m,y1)->∃m',behind y l'= .ok (m',y1)/\Eqv m m':=by
 induction h with
 |refl l=>exact λh=>⟨_,h,.refl _⟩
 |trans _ _ i1 i2=>
  intro y y1 m h;obtain⟨m1,a1,a2⟩:=i1 h;obtain⟨m2,b1,b2⟩:=i2 a1;exact⟨m2,b1,a2.trans b2⟩
 |@swap A C q r r' q' hc=>
  intro y y1 m h;obtain⟨A1,y2,m1,h1,h2,rfl⟩:=dG.mp h;obtain⟨q1,y3,m2,c1,h3,rfl⟩:=fA.mp h2;obtain⟨r1,y4,m3,c2,h4,rfl⟩:=fA.mp h3;obtain⟨k1,_⟩:=BB c1 c2;obtain⟨r1',q1',p',n1,n2,n3⟩:=k1 _ _ hc;exact⟨A1++r1'::q1'::m3,dG.mpr ⟨A1,y2,_,h1,dC n2 (dC n3 h4),rfl⟩,.swap A1 m3 n1⟩
theorem sr:∀{X:List (ai×Nat)} {Bc Bx R:List ai} {n:Nat},Eqv Bc (Bx++R)->n∈needsFrom X Bx []->n∈needsFrom X Bc []
 |[],_,_,_,_,_,h=>by cases h
 |(y,i)::X,Bc,Bx,R,n,he,h=>by
  cases e:behind y Bc with
  |ok z=>
   obtain⟨Bc',y1⟩:=z;obtain⟨m',a1,a2⟩:=JD he e;obtain⟨Bx',y2,R',b1,b2,rfl⟩:=dG.mp a1;rw[dF (x:=(y,i)) e];rw[dF (x:=(y,i)) b1] at h;exact sr a2 h
  |error k=>
   rw[dE (x:=(y,i)) e,fM];cases e2:behind y Bx with
   |error k2=>
    rw[dE (x:=(y,i)) e2,fM] at h;rcases List.mem_append.mp h with q|q
    ·exact List.mem_append_left _ (sr (Bx:=y::Bx) (he.cons y) q)
    ·exact List.mem_append_right _ q
   |ok z=>
    obtain⟨Bx',y1⟩:=z;rw[dF (x:=(y,i)) e2] at h;refine List.mem_append_left _ (sr (R:=y1::R) ?_ h);have:=(EY e2).behind R;rw[List.append_assoc] at this;exact(he.cons y).trans this
theorem wA:∀{X:List (ai×Nat)} {B:List ai} {n:Nat},n∈needsFrom X B []->∃X2 x X1,X=X2++(x,n)::X1/\∃k,behind x (dO X2 B []).1= .error k
 |[],_,_,h=>by cases h
 |(y,i)::X,B,n,h=>by
  cases e:behind y B with
  |ok z=>
   obtain⟨B',y1⟩:=z;rw[dF (x:=(y,i)) e] at h;obtain⟨X2,x,X1,e1,k,e2⟩:=wA h;refine⟨(y,i)::X2,x,X1,by rw[e1];rfl,k,?_⟩;rw[pA (x:=(y,i)) e];exact e2
  |error k=>
   rw[dE (x:=(y,i)) e,fM] at h;rcases List.mem_append.mp h with q|q
   ·obtain⟨X2,x,X1,e1,k2,e2⟩:=wA q;refine⟨(y,i)::X2,x,X1,by rw[e1];rfl,k2,?_⟩;rw[px (x:=(y,i)) e];have:∀(X:List (ai×Nat)) (B:List ai) (ks ks':List Nat),(dO X B ks).1=(dO X B ks').1:=by
     intro X
     induction X with
     |nil=>intros;rfl
     |cons x X ih=>
      intro B ks ks';cases e:behind x.1 B with
      |ok z=>obtain⟨b,z⟩:=z;rw[pA e,pA e];exact ih _ _ _
      |error n=>rw[px e,px e];exact ih _ _ _
    rw[this _ _ _ []];exact e2
   ·rw[List.mem_singleton] at q;subst q;exact⟨[],y,X,rfl,k,e⟩
theorem NI {r:ag} (hn:aM r) {c b n:Nat} (h:b∈Vapatc.needs r c) (h2:n∈Vapatc.needs r b):n∈Vapatc.needs r c:=by
 cases e:placeOf r c with
 |none=>unfold Vapatc.needs at h;rw[e] at h;cases h
 |some j=>
  have hj:∃pc,r[j]?=some pc/\pc.name=c:=by
   unfold Vapatc.placeOf at e;obtain⟨hj,a1,_⟩:=List.findIdx?_eq_some_iff_getElem.mp e;exact⟨r[j],List.getElem?_eq_getElem hj,by simpa using a1⟩
  obtain⟨pc,hpc,rfl⟩:=hj;rw[m7 hn hpc] at h⊢;have hjl:=(List.getElem?_eq_some_iff.mp hpc).1;unfold fL at h⊢;obtain⟨X2,x,X1,e1,k,e2⟩:=wA h;have er:pairs (r.take j)=X1.reverse++(x,b)::X2.reverse:=by
   have:=congrArg List.reverse e1;rw[List.reverse_reverse] at this;rw[this];simp
  obtain⟨pb,hpb,hpe⟩:∃pb,(r.take j)[X1.length]?=some pb/\(pb.step,pb.name)=(x,b):=by
   have:(pairs (r.take j))[X1.length]?=some (x,b):=by
    rw[er,List.getElem?_append_right (by rw[List.length_reverse];omega),List.length_reverse,Nat.sub_self];rfl
   unfold pairs at this;rw[List.getElem?_map] at this;cases e5:(r.take j)[X1.length]? with
   |none=>rw[e5] at this;cases this
   |some pb=>rw[e5] at this;exact⟨pb,rfl,Option.some.inj this⟩
  obtain⟨rfl,rfl⟩:=Prod.mk.inj hpe;have hlt:X1.length<j:=by
   have:=(List.getElem?_eq_some_iff.mp hpb).1;rw[List.length_take] at this;omega
  have hpb':r[X1.length]?=some pb:=by rw[List.getElem?_take_of_lt hlt] at hpb;exact hpb
  rw[m7 hn hpb'] at h2;unfold fL at h2;have ex:(pairs (r.take X1.length)).reverse=X1:=by
   have a1:pairs (r.take X1.length)=(pairs (r.take j)).take X1.length:=by
    unfold pairs;rw[<-List.map_take,List.take_take,Nat.min_eq_left (by omega)]
   rw[a1,er,List.take_append_of_le_length (by rw[List.length_reverse];omega),List.take_of_length_le (by rw[List.length_reverse];omega),List.reverse_reverse]
  rw[ex] at h2;rw[e1,pI,dE (x:=(pb.step,pb.name)) e2,fM];refine List.mem_append_left _ (sr (Bx:=[pb.step]) (R:=(dO X2 [pc.step] []).1) (.refl _) h2)
end PR
namespace PR
open VapatBase (commuted)
open Vapatb (aheadOf behind needsFrom)
open Vapatc (namesOf stepsOf named frontAt front placeOf)
theorem k6 {r:ag} {n:Nat} (h:n∈namesOf r):∃(k:Nat) (p:bp),r[k]?=some p/\p.name=n:=by
 unfold Vapatc.namesOf at h;obtain⟨p,hp,rfl⟩:=List.mem_map.mp h;obtain⟨k,hk⟩:=List.mem_iff_getElem?.mp hp;exact⟨k,p,hk,rfl⟩
theorem Fi {r:ag} {k:Nat} {p:bp} (h:r[k]?=some p):p.name∈namesOf r:=List.mem_map.mpr ⟨p,List.mem_of_getElem? h,rfl⟩
theorem Ku {r:ag} (hn:aM r) {n:Nat} (h:n∈namesOf r):(front r n).isSome=true↔Vapatc.needs r n=[]:=by
 obtain⟨k,p,hk,rfl⟩:=k6 h;rw[CW hn hk,m7 hn hk];exact Ks hk
theorem rq {r rest:ag} {n:Nat} {p:bp} (h:front r n=some (p,rest)):p.name=n/\n∈namesOf r:=by
 obtain⟨k,h1,h2⟩:=mL h;obtain⟨p0,q1,l1,h0,_,rfl,_⟩:=oY h2;have:p0.name=n:=by
  unfold Vapatc.placeOf at h1;obtain⟨hj,a1,_⟩:=List.findIdx?_eq_some_iff_getElem.mp h1;rw[List.getElem?_eq_getElem hj] at h0;cases h0
  simpa using a1
 exact⟨this,by rw[<-this];exact Fi h0⟩
theorem Kv {r rest:ag} {n:Nat} {p:bp} (hn:aM r) (h:front r n=some (p,rest)):namesOf rest=(namesOf r).filter (λm=>m !=n)/\∀m∈namesOf rest,Vapatc.needs rest m=(Vapatc.needs r m).filter λx=>x !=n:=by
 obtain⟨e,_⟩:=rq h;obtain⟨k,h1,h2⟩:=mL h;have hu:=ro h2 hn;have hr:aM rest:=(List.nodup_cons.mp hu).2;refine⟨?_,λm hm=>?_⟩
 ·obtain⟨e1,e2⟩:=CT h2;have hn':(namesOf r).Nodup:=hn;rw[e2] at hn'⊢;rw[e1,List.filter_append,<-e];have hd:=(List.nodup_append.mp hn').2.2;have h3:=(List.nodup_cons.mp (List.nodup_append.mp hn').2.1).1;rw[mJ λz=>hd _ z _ List.mem_cons_self rfl,List.filter_cons_of_neg (by simp),mJ h3]
 ·obtain⟨i,x,hi,rfl⟩:=k6 hm;obtain⟨j,y,hj,ey,en,_⟩:=NK hn h2 hi;rw[m7 hr hi,<-ey,m7 hn hj,en,e]
theorem xo {r:ag} {b n k:Nat} {p:bp} (hn:aM r) (hk:r[k]?=some p) (h:b∈Vapatc.needs r p.name):b∈namesOf (r.take k):=by
 rw[m7 hn hk] at h;exact D4 h
theorem drop_cons {r:ag} {k:Nat} {p:bp} (h:r[k]?=some p):r.drop k=p::r.drop (k+1):=by
 rw[List.drop_eq_getElem_cons (List.getElem?_eq_some_iff.mp h).1,(List.getElem?_eq_some_iff.mp h).2]
theorem Tz {r:ag} (hn:aM r) {k:Nat} {p:bp} (hk:r[k]?=some p):Vapatc.without r p.name=match behind p.step (stepsOf (r.drop (k+1))) with
 | .error _=>none
 | .ok x=>some (r.take k++named (namesOf (r.drop (k+1))) x.1):=by
 unfold Vapatc.without;rw[lJ hn hk];simp only[Option.bind_some,drop_cons hk];cases behind p.step (stepsOf (r.drop (k+1)))<;>rfl
theorem Iq {r:ag} (hn:aM r) {l:List Nat} {n b:Nat} (h:n∈Vapatc.closure r l) (hb:b∈Vapatc.needs r n):b∈Vapatc.closure r l:=by
 unfold Vapatc.closure at h⊢;rw[List.mem_filter] at h⊢;obtain⟨h1,h2⟩:=h;obtain⟨k,p,hk,rfl⟩:=k6 h1;have hbn:=xo (n:=0) hn hk hb;have hbr:b∈namesOf r:=by
  unfold Vapatc.namesOf at hbn⊢;rw[List.map_take] at hbn;exact List.mem_of_mem_take hbn
 refine⟨hbr,?_⟩;rw[Bool.or_eq_true] at h2⊢;right;rw[List.any_eq_true];rcases h2 with h2|h2
 ·exact⟨p.name,List.contains_iff_mem.mp h2,List.contains_iff_mem.mpr hb⟩
 ·obtain⟨m,hm,hc⟩:=List.any_eq_true.mp h2;exact⟨m,hm,List.contains_iff_mem.mpr (NI hn (List.contains_iff_mem.mp hc) hb)⟩
theorem Te {A C:List Nat} {n b:Nat} (hn:(A++n::C).Nodup) (h:[n,b].Sublist (A++n::C)):b∈C:=by
 have hd:=(List.nodup_append.mp hn).2.2;obtain⟨l1,l2,e,h1,h2⟩:=List.sublist_append_iff.mp h;cases l1 with
 |nil=>
  rw[List.nil_append] at e;subst e;rcases List.sublist_cons_iff.mp h2 with q|⟨r,e,q⟩
  ·exact q.subset (List.mem_cons_of_mem _ List.mem_cons_self)
  ·rw[<-(List.cons.inj e).2] at q;exact q.subset List.mem_cons_self
 |cons y l1=>
  have:y=n:=by rw[List.cons_append] at e;exact(List.cons.inj e).1.symm
  subst this;exact absurd rfl (hd _ (h1.subset List.mem_cons_self) _ List.mem_cons_self)
def less (D l:List Nat):List Nat:=l.filter λm=>!D.contains m
theorem DA (l:List Nat):less [] l=l:=by unfold less;rw[List.filter_eq_self];intro m _;rfl
theorem DB (D l:List Nat) (n:Nat):less (D++[n]) l=(less D l).filter λm=>m !=n:=by
 unfold less;rw[List.filter_filter];refine List.filter_congr λm _=>?_;by_cases h1:m∈D<;>by_cases h2:m=n<;>simp[h1,h2]
theorem MM {D l:List Nat} {m:Nat}:m∈less D l↔m∈l/\m∉D:=by
 unfold less;rw[List.mem_filter];simp
structure Left (r:ag) (D:List Nat) (x y:ag):Prop where
 un:aM y
 nx:namesOf x=D
 ny:namesOf y=less D (namesOf r)
 nd:∀m∈namesOf y,Vapatc.needs y m=less D (Vapatc.needs r m)
 app:∀t v,br t->VapatBase.appliedAll t (stepsOf r)=some v->VapatBase.appliedAll t (stepsOf (x++y))=some v
 pm:(namesOf (x++y)).Perm (namesOf r)
theorem Left.start {r:ag} (hn:aM r):Left r [] [] r:=⟨hn,rfl,(DA _).symm,λm _=>(DA _).symm,λt v _ h=>h,.refl _⟩
theorem Left.step {r x y y':ag} {D:List Nat} {n:Nat} {p:bp} (h:Left r D x y) (hf:front y n=some (p,y')):Left r (D++[n]) (x++[p]) y':=by
 obtain⟨e,hm⟩:=rq hf;obtain⟨k,_,hk⟩:=mL hf;obtain⟨e1,e2⟩:=Kv h.un hf;refine⟨(List.nodup_cons.mp (ro hk h.un)).2,?_,?_,λm hm=>?_,λt v ht ha=>?_,?_⟩
 ·rw[dA,h.nx,<-e];rfl
 ·rw[e1,h.ny,DB]
 ·have hm':m∈namesOf y:=by rw[e1] at hm;exact(List.mem_filter.mp hm).1
  rw[e2 m hm,h.nd m hm',DB]
 ·have:=h.app t v ht ha;rw[fU] at this;obtain⟨u,a1,a2⟩:=all_append.mp this;have:=CV hk (uG ht a1) a2;rw[List.append_assoc,fU];exact all_append.mpr ⟨u,a1,this⟩
 ·rw[List.append_assoc,dA];refine List.Perm.trans ?_ h.pm;rw[dA x y];exact(oX hk).append_left _
theorem Left.next {r x y:ag} {D:List Nat} {n:Nat} (h:Left r D x y) (hm:n∈namesOf r) (hD:n∉D):(front y n).isSome=true↔less D (Vapatc.needs r n)=[]:=by
 have hy:n∈namesOf y:=by rw[h.ny];exact MM.mpr ⟨hm,hD⟩
 rw[Ku h.un hy,h.nd n hy]
def gB (x:Option (ag×ag)) (n:Nat):Option (ag×ag):=x.bind λy=>(front y.2 n).map λz=>(y.1++[z.1],z.2)
theorem Fb {r:ag} (hn:aM r) (cl:List Nat) (hs:cl.Sublist (namesOf r)) (hd:∀n∈cl,∀b∈Vapatc.needs r n,b∈cl):∀(E D:List Nat) (x y:ag),cl=D++E->Left r D x y->∃x' y',E.foldl gB (some (x,y))=some (x',y')/\Left r cl x' y'
 |[],D,x,y,e,h=>by rw[List.append_nil] at e;subst e;exact⟨x,y,rfl,h⟩
 |n::E,D,x,y,e,h=>by
  have hcn:cl.Nodup:=List.Nodup.sublist hs hn;have hncl:n∈cl:=by rw[e];exact List.mem_append_right _ List.mem_cons_self
  have hD:n∉D:=by
   rw[e] at hcn;exact λz=>(List.nodup_append.mp hcn).2.2 _ z _ List.mem_cons_self rfl
  have hnr:=hs.subset hncl;have hempty:less D (Vapatc.needs r n)=[]:=by
   unfold less;rw[List.filter_eq_nil_iff];intro b hb hc;have hbD:b∉D:=by simpa using hc
   have hbc:=hd n hncl b hb;rw[e] at hbc;rcases List.mem_append.mp hbc with q|q
   ·exact hbD q
   ·rcases List.mem_cons.mp q with q2|q2
    ·subst q2;obtain⟨k,p,hk,rfl⟩:=k6 hnr;have hb2:=xo (n:=0) hn hk hb;have hr:(namesOf r).Nodup:=hn;rw[ja hk,dA] at hr;exact(List.nodup_append.mp hr).2.2 _ hb2 _ List.mem_cons_self rfl
    ·obtain⟨k,p,hk,rfl⟩:=k6 hnr;have hb2:=xo (n:=0) hn hk hb;have hr:(namesOf r).Nodup:=hn;have hsub:[p.name,b].Sublist (namesOf r):=by
      refine List.Sublist.trans ?_ hs;rw[e];refine List.Sublist.trans ?_ (List.sublist_append_right D _);exact List.Sublist.cons_cons _ (List.singleton_sublist.mpr q2)
     have er:namesOf r=namesOf (r.take k)++p.name::namesOf (r.drop (k+1)):=by
      have:=congrArg (λz=>Vapatc.namesOf z) (ja hk);rw[dA] at this;exact this
     rw[er] at hr hsub;have:=Te hr hsub;exact(List.nodup_append.mp hr).2.2 _ hb2 _ (List.mem_cons_of_mem _ this) rfl
  have hf:=(h.next hnr hD).mpr hempty;obtain⟨z,hz⟩:=Option.isSome_iff_exists.mp hf;obtain⟨p,y'⟩:=z;obtain⟨x',y'',e1,e2⟩:=Fb hn cl hs hd E (D++[n]) (x++[p]) y' (by rw[List.append_assoc];exact e) (h.step hz);refine⟨x',y'',?_,e2⟩;rw[List.foldl_cons];have:gB (some (x,y)) n=some (x++[p],y'):=by
   unfold gB;simp only[Option.bind_some,hz,Option.map_some]
  rw[this];exact e1
theorem Fe {r:ag} (hn:aM r) (l:List Nat):∃x y,Vapatc.picked r l=some (x,y)/\Left r (Vapatc.closure r l) x y:=by
 refine Fb hn (Vapatc.closure r l) ?_ (λn h b hb=>Iq hn h hb) _ [] [] r rfl (.start hn);unfold Vapatc.closure;exact List.filter_sublist
end PR
namespace PR
open Vapatb (behind needsFrom)
open Vapatc (namesOf stepsOf front placeOf needSets has firsts countTable)
def cnt (ns:List Nat) (s:Nat):Nat:=if h:s=0 then 1 else ((firsts ns s).map λk=>cnt ns (s-2^k)).foldl (λa b=>a+b) 0
termination_by s
decreasing_by
 have:0<2^k:=Nat.two_pow_pos k;omega
theorem Bz (ns:List Nat):cnt ns 0=1:=by rw[cnt];rfl
theorem By {ns:List Nat} {s:Nat} (h:s≠0):cnt ns s=((firsts ns s).map λk=>cnt ns (s-2^k)).foldl (λa b=>a+b) 0:=by rw[cnt,dif_neg h]
def Ai (ns:List Nat) (t:List Nat) (s:Nat):List Nat:=t++[if s=0 then 1 else ((firsts ns s).map λk=>(t[s-2^k]?).getD 0).foldl (λa b=>a+b) 0]
theorem Gu (ns:List Nat):∀m,(List.range m).foldl (Ai ns) []=(List.range m).map (cnt ns)
 |0=>rfl
 |m+1=>by
  rw[List.range_succ,List.foldl_append,Gu ns m,List.map_append];show Ai ns _ m=_;unfold Ai;congr 1;show[_]=[cnt ns m]
  congr 1;by_cases h:m=0
  ·rw[if_pos h,h,Bz]
  ·rw[if_neg h,By h];congr 1;refine List.map_congr_left λk _=>?_;have:0<2^k:=Nat.two_pow_pos k;rw[List.getElem?_map,List.getElem?_range (by omega)];rfl
theorem Gs (ns:List Nat):countTable ns=(List.range (2^ns.length)).map (cnt ns):=Gu ns _
theorem table_at {ns:List Nat} {s:Nat} (h:s<2^ns.length):((countTable ns)[s]?).getD 0=cnt ns s:=by
 rw[Gs,List.getElem?_map,List.getElem?_range h];rfl
theorem count_eq (r:ag):Vapatc.count r=cnt (needSets r) (2^r.length-1):=by
 unfold Vapatc.count;have hl:(needSets r).length=r.length:=by unfold Vapatc.needSets;rw[List.length_map,List.length_range]
 have hp:0<2^r.length:=Nat.two_pow_pos _;rw[Gs,hl];obtain⟨m,e⟩:∃m,2^r.length=m+1:=⟨2^r.length-1,by omega⟩
 rw[e,List.range_succ,List.map_append];show(_++[cnt _ m]).getLastD 1=cnt _ (m+1-1);rw[List.getLastD_concat];rfl
def mk (c:Nat->Bool):Nat->Nat
 |0=>0
 |m+1=>mk c m+if c m then 2^m else 0
theorem si (c:Nat->Bool):∀m,mk c m<2^m
 |0=>Nat.one_pos
 |m+1=>by
  have:=si c m;rw[mk,Nat.pow_succ]
  split<;>omega
theorem mk_congr {c c':Nat->Bool}:∀{m:Nat},(∀j,j<m->c j=c' j)->mk c m=mk c' m
 |0,_=>rfl
 |m+1,h=>by rw[mk,mk,mk_congr λj hj=>h j (by omega),h m (by omega)]
theorem xf {c c':Nat->Bool} {k:Nat} (h0:c' k=false) (h:∀j,c j=(c' j||j==k)):∀{m:Nat},k<m->mk c m=mk c' m+2^k
 |0,hk=>by omega
 |m+1,hk=>by
  rw[mk,mk];by_cases e:k=m
  ·subst e;have:mk c k=mk c' k:=mk_congr λj hj=>by
    rw[h j];have:(j==k)=false:=by simp;omega
    rw[this,Bool.or_false]
   rw[this,h k,h0];simp
  ·have:=xf h0 h (m:=m) (by omega);rw[this,h m];have:(m==k)=false:=by simp;omega
   rw[this,Bool.or_false];omega
theorem iS (c:Nat->Bool):∀(m j:Nat),has (mk c m) j=(decide (j<m)&&c j)
 |0,j=>by
  unfold Vapatc.has mk;rw[Nat.zero_div];simp
 |m+1,j=>by
  have hl:=si c m;have ih:=iS c m j;unfold Vapatc.has at ih⊢;rw[mk];by_cases e:j=m
  ·subst e;rw[decide_eq_true (Nat.lt_succ_self j),Bool.true_and];cases c j with
   |false=>
    rw[if_neg (by decide),Nat.add_zero,Nat.div_eq_of_lt hl];rfl
   |true=>
    rw[if_pos rfl,Nat.add_div_right _ (Nat.two_pow_pos j),Nat.div_eq_of_lt hl];rfl
  ·by_cases hj:j<m
   ·rw[decide_eq_true hj,Bool.true_and] at ih;rw[decide_eq_true (show j<m+1 by omega),Bool.true_and];rw[<-ih];cases c m with
    |false=>rfl
    |true=>
     rw[if_pos rfl];congr 1;obtain⟨d,rfl⟩:∃d,m=j+(d+1):=⟨m-j-1,by omega⟩
     rw[Nat.pow_add,Nat.mul_comm,Nat.add_mul_div_right _ _ (Nat.two_pow_pos j),Nat.pow_succ,Nat.mul_comm _ 2,Nat.add_mul_mod_self_left]
   ·rw[decide_eq_false (show ¬j<m+1 by omega),Bool.false_and];have:mk c m+(if c m then 2^m else 0)<2^j:=by
     have:=si c (m+1);rw[mk] at this;exact Nat.lt_of_lt_of_le this (Nat.pow_le_pow_right (by decide) (by omega))
    rw[Nat.div_eq_of_lt this];rfl
theorem DY:∀m,mk (λ_=>true) m=2^m-1
 |0=>rfl
 |m+1=>by
  have:=Nat.two_pow_pos m;rw[mk,DY m,if_pos rfl,Nat.pow_succ];omega
theorem xg {c:Nat->Bool}:∀{m:Nat},(∀j,j<m->c j=false)->mk c m=0
 |0,_=>rfl
 |m+1,h=>by rw[mk,xg λj hj=>h j (by omega),h m (by omega)];rfl
theorem mk_zero {c:Nat->Bool} {m:Nat} (h:mk c m=0):∀j,j<m->c j=false:=by
 intro j hj;have:=iS c m j;rw[h,decide_eq_true hj,Bool.true_and] at this;rw[<-this];unfold Vapatc.has;rw[Nat.zero_div];rfl
theorem sum_mk:∀{l:List Nat} {m a:Nat},l.Nodup->(∀j∈l,j<m)->l.foldl (λs j=>s+2^j) a=a+mk (λj=>l.contains j) m
 |[],m,a,_,_=>by
  have e:mk (λj=>([]:List Nat).contains j) m=0:=xg λj _=>rfl;rw[e];rfl
 |j::l,m,a,hn,h=>by
  obtain⟨h1,h2⟩:=List.nodup_cons.mp hn;rw[List.foldl_cons,sum_mk h2 λi hi=>h i (List.mem_cons_of_mem _ hi)];have:=xf (c:=λi=>(j::l).contains i) (c':=λi=>l.contains i) (k:=j) (by simpa using h1) (λi=>by
   rw[List.contains_cons,Bool.or_comm]) (h j List.mem_cons_self)
  rw[this];omega
theorem sA:∀(X:List (ai×Nat)) (B:List ai),(needsFrom X B []).reverse.Sublist (X.map (·.2))
 |[],B=>List.Sublist.refl _
 |x::X,B=>by
  cases e:behind x.1 B with
  |ok z=>obtain⟨b,z⟩:=z;rw[dF e];exact(sA X b).cons _
  |error n=>
   rw[dE e,fM,List.reverse_append];exact(sA X (x.1::B)).cons_cons x.2
theorem Eg {l:List Nat}:l.reverse.Nodup↔l.Nodup:=(List.reverse_perm l).nodup_iff
theorem D6 (l:List ai) (k:Nat):(Vapatb.needs l k).Nodup:=by
 cases e:l[k]? with
 |none=>unfold Vapatb.needs;rw[e];exact List.nodup_nil
 |some q=>
  rw[pH e];have h:=sA (l.take k).zipIdx.reverse [q];have h2:((l.take k).zipIdx.reverse.map (·.2)).Nodup:=by
   rw[List.map_reverse,Eg];have:(l.take k).zipIdx.map (·.2)=List.range (l.take k).length:=by
    rw[List.zipIdx_map_snd,List.range_eq_range']
   rw[this];exact List.nodup_range
  exact Eg.mp (List.Nodup.sublist h h2)
theorem NH {r:ag} {k:Nat} (h:k<r.length):((needSets r)[k]?).getD 0=mk (λj=>(Vapatb.needs (stepsOf r) k).contains j) r.length:=by
 unfold Vapatc.needSets;rw[List.getElem?_map,List.getElem?_range h];show(Vapatb.needs (stepsOf r) k).foldl (λs j=>s+2^j) 0=_;rw[sum_mk (m:=r.length) (D6 _ _) λj hj=>Nat.lt_trans (m8 hj) h,Nat.zero_add]
def bg (r:ag) (D:List Nat):Nat:=mk (λj=>!D.contains (nameAt r j)) r.length
theorem xh (r:ag):bg r []=2^r.length-1:=DY _
theorem Ny {r:ag} (hn:aM r) {D:List Nat} {k:Nat} (hk:k<r.length) (hD:nameAt r k∉D):bg r D=bg r (D++[nameAt r k])+2^k:=by
 unfold bg;have:=xf (c:=λj=>if j<r.length then !D.contains (nameAt r j) else j==k) (c':=λj=>if j<r.length then !(D++[nameAt r k]).contains (nameAt r j) else false) (k:=k) (by rw[if_pos hk];simp) (λj=>by
  by_cases hj:j<r.length
  ·rw[if_pos hj,if_pos hj];by_cases e:j=k
   ·subst e;simp[hD]
   ·have:nameAt r j≠nameAt r k:=λz=>e (xm hn hj hk z);simp[this,e]
  ·rw[if_neg hj,if_neg hj];rfl) hk
 rw[mk_congr (c:=λj=>!D.contains (nameAt r j)) (c':=λj=>if j<r.length then !D.contains (nameAt r j) else j==k) λj hj=>by rw[if_pos hj],this];congr 1;exact mk_congr λj hj=>by rw[if_pos hj]
theorem JH {r:ag} (hn:aM r) (D:List Nat):firsts (needSets r) (bg r D)=(List.range r.length).filter λk=>!D.contains (nameAt r k)&&(less D (Vapatc.needs r (nameAt r k))).isEmpty:=by
 unfold Vapatc.firsts;have hl:(needSets r).length=r.length:=by unfold Vapatc.needSets;rw[List.length_map,List.length_range]
 rw[hl];refine List.filter_congr λk hk=>?_;have hk:=List.mem_range.mp hk;have e1:has (bg r D) k= !D.contains (nameAt r k):=by unfold bg;rw[iS,decide_eq_true hk,Bool.true_and]
 rw[e1];congr 1;rw[NH hk,Bool.eq_iff_iff,List.all_eq_true,List.isEmpty_iff];unfold less;rw[List.filter_eq_nil_iff,iT hn hk];constructor
 ·intro h b hb hc;obtain⟨j,hj,rfl⟩:=List.mem_map.mp hb;have hjk:=m8 hj;have hjl:j<r.length:=by omega
  have:=h j (List.mem_range.mpr hjl);have e2:has (bg r D) j= !D.contains (nameAt r j):=by unfold bg;rw[iS,decide_eq_true hjl,Bool.true_and]
  rw[e2,iS,decide_eq_true hjl,Bool.true_and,List.contains_iff_mem.mpr hj,hc] at this;cases this
 ·intro h j hj;have hjl:=List.mem_range.mp hj;have e2:has (bg r D) j= !D.contains (nameAt r j):=by unfold bg;rw[iS,decide_eq_true hjl,Bool.true_and]
  rw[e2,iS,decide_eq_true hjl,Bool.true_and];cases hc: !D.contains (nameAt r j) with
  |false=>rfl
  |true=>
   cases hm:(Vapatb.needs (stepsOf r) k).contains j with
   |false=>rfl
   |true=>exact absurd hc (h _ (List.mem_map.mpr ⟨j,List.contains_iff_mem.mp hm,rfl⟩))
end PR
namespace PR
open PySem PySem.Spec PyProof.Rows L2
open VapatBase (appliedAll flatTree)
open Vapatc (stepsOf rowTold placeOf)
def cp (K:PySem.W.Frag) (a:Ad) (H:Hp) (v vp:V) (st:Vapatc.State):Prop:=∃x dx vs,v= .ref x/\H x=some (.ins a.aH dx (aS vs vp))/\bw K a H vp st.row/\
 match st.tree with
 |none=>vs= .aI
 |some t=>bJ K H vs t
def Good (st:Vapatc.State):Prop:=match st.tree with
 |none=>st.row=[]
 |some t=>Small 12 6 t/\br t/\qf t st.row/\st.row.length<=10/\∀p∈st.row,p.name<=99
theorem Good.unlike {st:Vapatc.State} (h:Good st):aM st.row:=by
 unfold Good at h;cases e:st.tree with
 |none=>
  rw[e] at h;have h:st.row=[]:=h;rw[h];exact List.nodup_nil
 |some t=>rw[e] at h;exact h.2.2.1.1
theorem Good.len {st:Vapatc.State} (h:Good st):st.row.length<=10:=by
 unfold Good at h;cases e:st.tree with
 |none=>
  rw[e] at h;have h:st.row=[]:=h;rw[h];exact Nat.zero_le _
 |some t=>rw[e] at h;exact h.2.2.2.1
theorem cp.same {K:PySem.W.Frag} {a:Ad} {H H':Hp} {v vp:V} {st:Vapatc.State} (h:cp K a H v vp st) (s:af H H'):cp K a H' v vp st:=by
 obtain⟨x,dx,vs,e,hx,hr,ht⟩:=h;refine⟨x,dx,vs,e,s _ _ hx,hr.same s,?_⟩;cases e2:st.tree with
 |none=>rw[e2] at ht;exact ht
 |some t=>
  rw[e2] at ht;have ht:bJ K H vs t:=ht;exact ht.same s
theorem xp (l:List ai) (k:Nat):(Vapatb.needs l k).length<=k:=by
 cases e:l[k]? with
 |none=>unfold Vapatb.needs;rw[e];exact Nat.zero_le _
 |some q=>
  rw[pH e];have h:=(sA (l.take k).zipIdx.reverse [q]).length_le;rw[List.length_reverse,List.length_map,List.length_reverse,List.length_zipIdx,List.length_take] at h;omega
theorem CS:∀(f:Nat) (r:ag),(Vapatc.formBy f r).length=r.length
 |0,r=>rfl
 |f+1,r=>by
  simp only[Vapatc.formBy]
  split
  ·rfl
  ·split
   ·rfl
   ·rename_i x hx
    obtain⟨p,rest⟩:=x;obtain⟨k,_,h2⟩:=mL hx;rw[List.length_cons,CS f rest,rn h2]
theorem we (r:ag):(Vapatc.form r).length=r.length:=CS _ _
theorem nO {r:ag} (hn:aM r) {z:Int} {k:Nat} (h:fR r z=some k):0<=z/\(Vapatc.namesOf r).contains z.toNat=true/\z.toNat=nameAt r k/\k<r.length:=by
 obtain⟨p,hp,e⟩:=xZ h;have e2:nameAt r k=p.name:=by unfold nameAt;rw[hp];rfl
 refine⟨by omega,?_,by rw[e2];omega,(List.getElem?_eq_some_iff.mp hp).1⟩;have:z.toNat=p.name:=by omega
 rw[this];exact List.contains_iff_mem.mpr (Fi hp)
theorem sW {r:ag} {z:Int} (h:fR r z=none):¬(0<=z/\(Vapatc.namesOf r).contains z.toNat=true):=by
 rintro⟨h0,hc⟩;obtain⟨k,p,hk,e⟩:=k6 (List.contains_iff_mem.mp hc);unfold fR at h;rw[List.findIdx?_eq_none_iff] at h;have:=h p (List.mem_of_getElem? hk);have:¬(p.name:Int)=z:=by simpa using this
 omega
def RB:Sp:=λvs H Q _=>∃(v:V) (ns:List Nat),vs=[v]/\bN H v (Vapatc.ints ns)/\ns.length<=100/\∀(H':Hp) (v':V),af H H'->dW H H' v' (Vapatc.listed ns)->Q v' H'
theorem nz (T:Tx K mg a d):aA P w K mg base aL 1 a.kx d.kx ["names"] RB:=by
 refine T.kF.ok QH (λvs H Q E h=>?_) (λcdv A outer s H vs Q E hr h=>?_)
 ·obtain⟨v,ns,rfl,_⟩:=h;rfl
 ·obtain⟨v,ns,rfl,⟨l,rfl,hl⟩,hlen,k⟩:=h;refine⟨_,aj (aq (bt eZ (bj (aa (bh bH (by rfl) T.bC PySem.boot_len (aa (pv 0) ae)) ae)) (pv 0))),?_⟩;have hlen2:((Vapatc.ints ns).map V.int).length=ns.length:=by unfold Vapatc.ints;rw[List.length_map,List.length_map]
  refine⟨_,rfl,l,_,rfl,.inl (ak.of hl),(by show 1<=sizeLine;decide),λl5 H5 n5 s5 e5=>?_⟩;refine⟨_,rfl,l5,l,_,_,rfl,rfl,e5,s5 _ _ hl,Nat.le_of_lt (bU (by show 1+_<=_;omega)),λl6 H6 n6 s6 e6=>?_⟩;refine k H6 (.ref l6) (s5.trans s6) ⟨bG.of s5 n6,l6,rfl,?_⟩;rw[e6,hlen2];rfl
def og (K:PySem.W.Frag) (a:Ad) (f:Vapatc.State->aJ->List Int):Sp:=λvs H Q _=>∃(v vp:V) (st:Vapatc.State) (t:aJ),vs=[v]/\cp K a H v vp st/\Good st/\st.tree=some t/\∀(H':Hp) (v':V),af H H'->dW H H' v' (f st t)->Q v' H'
theorem Oc (T:Tx K mg a d):aA P w K mg base aL 4 a.jB d.jB ["self"] (og K a λst _=>rowTold st.row):=by
 refine T.J5.ok Qn (λvs H Q E h=>?_) (λcdv A outer s H vs Q E hr h=>?_)
 ·obtain⟨v,vp,st,t,rfl,_⟩:=h;rfl
 ·obtain⟨v,vp,st,t,rfl,⟨x,dx,vs,rfl,hx,hrow,htr⟩,hg,ht,k⟩:=h;refine⟨_,aj (aq (aB (sP T) hr (by rfl) T.sf T.oW.kp T.qE .nil au (aa (ao (pv 0) rfl) ae))),?_⟩;have:=hg.len;exact⟨_,rfl,x,a.aH,dx,_,_,rfl,hx,T.bb,T.bS,cD,_,st.row,rfl,hrow,by omega,k⟩
theorem N2 (T:Tx K mg a d):aA P w K mg base aL 11 a.jr d.jr ["self"] (og K a λst _=>rowTold (Vapatc.form st.row)):=by
 refine T.JR.ok Qi (λvs H Q E h=>?_) (λcdv A outer s H vs Q E hr h=>?_)
 ·obtain⟨v,vp,st,t,rfl,_⟩:=h;rfl
 ·obtain⟨v,vp,st,t,rfl,⟨x,dx,vs,rfl,hx,hrow,htr⟩,hg,ht,k⟩:=h;refine⟨_,aj (aq (aB (sP T) (hr.mono (by decide)) (by rfl) T.sf T.oW.kp T.qE .nil au (aa (aB (xM T) hr (by rfl) T.wY T.rh.kp T.uY .nil au (aa (ao (pv 0) rfl) ae)) ae))),?_⟩;have:=hg.len;refine⟨_,rfl,x,a.aH,dx,_,_,rfl,hx,T.bb,T.bS,cD,_,st.row,rfl,hrow,by omega,hg.unlike,λH1 v1 s1 r1=>?_⟩;exact⟨_,Vapatc.form st.row,rfl,r1,by rw[we];omega,λH2 v2 s2 i2=>k H2 v2 (s1.trans s2) (i2.mono s1)⟩
theorem N3 (T:Tx K mg a d):aA P w K mg base aL 10 a.js d.js ["self"] (og K a λst _=>Vapatc.listed (Vapatc.fronts st.row)):=by
 refine T.JS.ok Qj (λvs H Q E h=>?_) (λcdv A outer s H vs Q E hr h=>?_)
 ·obtain⟨v,vp,st,t,rfl,_⟩:=h;rfl
 ·obtain⟨v,vp,st,t,rfl,⟨x,dx,vs,rfl,hx,hrow,htr⟩,hg,ht,k⟩:=h;refine⟨_,aj (aq (aB (nz T) (hr.mono (by decide)) (by rfl) T.m4 T.kF.kp T.mE .nil au (aa (aB (EC T) hr (by rfl) T.DQ T.vX.kp T.A4 .nil au (aa (ao (pv 0) rfl) ae)) ae))),?_⟩;have hl:=hg.len;refine⟨_,rfl,x,a.aH,dx,_,_,rfl,hx,T.bb,T.bS,cD,_,st.row,rfl,hrow,by omega,hg.unlike,λH1 v1 s1 i1=>?_⟩;refine⟨_,Vapatc.fronts st.row,rfl,i1,?_,λH2 v2 s2 i2=>k H2 v2 (s1.trans s2) (i2.mono s1)⟩;rw[CZ hg.unlike,(fT _).length_eq,List.length_map];have:=wk st.row st.row.length;omega
theorem N9 (T:Tx K mg a d):aA P w K mg base aL 4 a.jy d.jy ["self"] (og K a λst t=>match appliedAll t (stepsOf st.row) with
 |none=>[0]
 |some u=>flatTree u):=by
 refine T.JY.ok Ql (λvs H Q E h=>?_) (λcdv A outer s H vs Q E hr h=>?_)
 ·obtain⟨v,vp,st,t,rfl,_⟩:=h;rfl
 ·obtain⟨v,vp,st,t,rfl,⟨x,dx,vs,rfl,hx,hrow,htr⟩,hg,ht,k⟩:=h;refine⟨_,aj (aq (aB (OQ T) (hr.mono (by decide)) (by rfl) T.Nl T.CK.kp T.Ia .nil au (aa (aB (EF T) hr (by rfl) T.DT T.v9.kp T.A7 .nil au (aa (ao (pv 0) rfl) (aa (ao (pv 0) rfl) ae))) ae))),?_⟩;have hl:=hg.len;rw[ht] at htr;have htr:bJ K H vs t:=htr;unfold Good at hg;rw[ht] at hg;obtain⟨hsm,hri,⟨hun,u,hu⟩,_,_⟩:=hg;refine⟨_,rfl,x,a.aH,dx,_,_,rfl,hx,T.bb,T.ng,rB,_,rfl,x,a.aH,dx,_,_,rfl,hx,T.bb,T.bS,cD,_,_,t,u,st.row,rfl,htr,hrow,hsm,hl,hu,λH1 v1 s1 t1 m1=>?_⟩;refine⟨_,u,rfl,t1,m1.mono (by decide) (by decide),λH2 v2 s2 i2=>k H2 v2 (s1.trans s2) ?_⟩;show dW H H2 v2 (match appliedAll t (stepsOf st.row) with
   |none=>[0]
   |some u=>flatTree u)
  rw[hu];exact i2.mono s1
def Gd (K:PySem.W.Frag) (a:Ad) (f:Vapatc.State->Nat->List Int):Sp:=λvs H Q _=>∃(v vp:V) (st:Vapatc.State) (z:Int),vs=[v,.int z]/\cp K a H v vp st/\Good st/\∀(H':Hp) (v':V),af H H'->dW H H' v' (if 0<=z/\(Vapatc.namesOf st.row).contains z.toNat=true then f st z.toNat else [-2])->Q v' H'
theorem N7 (T:Tx K mg a d):aA P w K mg base aL 10 a.jw d.jw ["self","name"] (Gd K a λst n=>Vapatc.listed (Vapatc.needs st.row n)):=by
 refine T.JW.ok FJ (λvs H Q E h=>?_) (λcdv A outer s H vs Q E hr h=>?_)
 ·obtain⟨v,vp,st,z,rfl,_⟩:=h;rfl
 ·obtain⟨v,vp,st,z,rfl,⟨x,dx,vs,rfl,hx,hrow,htr⟩,hg,k⟩:=h;obtain⟨t2,ht2⟩:=T.oO;refine⟨_,ah (aF (i:=2) FJ.nd rfl (Or.inl rfl) (aB (ic T) (hr.mono (by decide)) (by rfl) T.g0 T.gu.kp T.gN .nil au (aa (ao (pv 0) rfl) (aa (pv 1) ae))))
   (ah (aO (aX gj (pv 2) cS (aV _)) (aj (aq (bj (aa (aU (v:= .int (-2)) (by rfl) ht2 ⟨_,rfl⟩) ae)))) aP)
   (aj (aq (aB (nz T) (hr.mono (by decide)) (by rfl) T.m4 T.kF.kp T.mE .nil au (aa (aB (sO T) hr (by rfl) T.rZ T.oV.kp T.qD .nil au (aa (ao (pv 0) rfl) (aa (pv 2) ae))) ae))))),?_⟩
  have hl:=hg.len;have hu:=hg.unlike;refine⟨_,rfl,x,a.aH,dx,_,_,rfl,hx,T.bb,T.bS,cD,_,rfl,_,st.row,z,rfl,hrow,λj hj H1 s1=>?_,λhj H1 s1=>?_⟩
  ·obtain⟨z0,z1,z2,z3⟩:=nO hu hj;refine⟨_,rfl,rfl,_,rfl,?_⟩;refine⟨_,rfl,x,a.aH,dx,_,_,rfl,s1 _ _ hx,T.bb,T.bS,cD,_,rfl,_,st.row,j,rfl,hrow.same s1,z3,by omega,λH2 v2 s2 i2=>?_⟩;refine⟨_,_,rfl,i2,?_,λH3 v3 s3 i3=>k H3 v3 ((s1.trans s2).trans s3) ?_⟩
   ·rw[List.length_map];have:=xp (stepsOf st.row) j;omega
   ·rw[if_pos ⟨z0,z1⟩];show dW H H3 v3 (Vapatc.listed (Vapatc.needs st.row z.toNat));rw[z2,iT hu z3];exact i3.mono (s1.trans s2)
  ·refine⟨_,rfl,rfl,_,rfl,(by show 1<=sizeLine;decide),λl2 H2 n2 s2 e2=>k H2 (.ref l2) (s1.trans s2) ?_⟩;rw[if_neg (sW hj)];exact⟨bG.of s1 n2,l2,rfl,e2⟩
theorem N6 (T:Tx K mg a d):aA P w K mg base aL 11 a.jv d.jv ["self","name"] (Gd K a λst n=>Vapatc.listed (Vapatc.neededBy st.row n)):=by
 refine T.JV.ok FI (λvs H Q E h=>?_) (λcdv A outer s H vs Q E hr h=>?_)
 ·obtain⟨v,vp,st,z,rfl,_⟩:=h;rfl
 ·obtain⟨v,vp,st,z,rfl,⟨x,dx,vs,rfl,hx,hrow,htr⟩,hg,k⟩:=h;obtain⟨t2,ht2⟩:=T.oO;refine⟨_,ah (aF (i:=2) FI.nd rfl (Or.inl rfl) (aB (ic T) (hr.mono (by decide)) (by rfl) T.g0 T.gu.kp T.gN .nil au (aa (ao (pv 0) rfl) (aa (pv 1) ae))))
   (ah (aO (aX gj (pv 2) cS (aV _)) (aj (aq (bj (aa (aU (v:= .int (-2)) (by rfl) ht2 ⟨_,rfl⟩) ae)))) aP)
   (aj (aq (aB (nz T) (hr.mono (by decide)) (by rfl) T.m4 T.kF.kp T.mE .nil au (aa (aB (ED T) hr (by rfl) T.DR T.vY.kp T.A5 .nil au (aa (ao (pv 0) rfl) (aa (pv 2) ae))) ae))))),?_⟩
  have hl:=hg.len;have hu:=hg.unlike;refine⟨_,rfl,x,a.aH,dx,_,_,rfl,hx,T.bb,T.bS,cD,_,rfl,_,st.row,z,rfl,hrow,λj hj H1 s1=>?_,λhj H1 s1=>?_⟩
  ·obtain⟨z0,z1,z2,z3⟩:=nO hu hj;refine⟨_,rfl,rfl,_,rfl,?_⟩;refine⟨_,rfl,x,a.aH,dx,_,_,rfl,s1 _ _ hx,T.bb,T.bS,cD,_,rfl,_,st.row,j,rfl,hrow.same s1,z3,by omega,hu,λH2 v2 s2 i2=>?_⟩;refine⟨_,_,rfl,i2,?_,λH3 v3 s3 i3=>k H3 v3 ((s1.trans s2).trans s3) ?_⟩
   ·unfold Vapatc.neededBy;refine Nat.le_trans (List.length_filter_le _ _) ?_;rw[cz];omega
   ·rw[if_pos ⟨z0,z1⟩];show dW H H3 v3 (Vapatc.listed (Vapatc.neededBy st.row z.toNat));rw[z2];exact i3.mono (s1.trans s2)
  ·refine⟨_,rfl,rfl,_,rfl,(by show 1<=sizeLine;decide),λl2 H2 n2 s2 e2=>k H2 (.ref l2) (s1.trans s2) ?_⟩;rw[if_neg (sW hj)];exact⟨bG.of s1 n2,l2,rfl,e2⟩
end PR
namespace PR
open PySem PySem.Spec PyProof.Rows L2
open VapatBase (appliedAll applied flatTree readListed readTimes readNat readPair readTokens whole readStep)
open Vapatc (stepsOf rowTold placeOf okRow)
structure qe (a:Ad) (C:Addr):Prop where
 dh:a.aN≠C
 ds:a.bo≠C
 da:a.bZ≠C
 dr:a.bX≠C
 dm:a.Moved≠C
 dp:a.Patch≠C
theorem Tx.vI (T:Tx K mg a d):qe a a.aH/\qe a a.bD:=by
 have:=T.distinct;simp only[List.nodup_cons,List.mem_cons,List.not_mem_nil,or_false,not_or] at this;obtain⟨_,h2,h3,h4,h5,h6,h7,_⟩:=this;exact⟨⟨h2.2.2.2.2.2.2.1,h3.2.2.2.2.2.1,h4.2.2.2.2.1,h5.2.2.2.1,h6.2.2.1,h7.2.1⟩,⟨h2.2.2.2.2.2.1,h3.2.2.2.2.1,h4.2.2.2.1,h5.2.2.1,h6.2.1,h7.1⟩⟩
theorem cU.xI {H H':Hp} {r dr C:Addr} {fs:List (Str×V)} {v:V} {p:bp} (D:qe a C) (h:cU K a H v p) (s:ax r H H') (hr:H r=some (.ins C dr fs)):cU K a H' v p:=by
 obtain⟨x,dx,vs,e,q,st⟩:=h;refine⟨x,dx,vs,e,s _ _ q (ft q hr D.dp),?_⟩;cases hp:p.step with
 |hunk f p o n=>rw[hp] at st;obtain⟨x,dx,vo,vn,e,q,t1,t2,b⟩:=st;exact⟨x,dx,vo,vn,e,s _ _ q (ft q hr D.dh),t1.x s hr,t2.x s hr,b⟩
 |swap f p q=>rw[hp] at st;obtain⟨x,dx,e,q⟩:=st;exact⟨x,dx,e,s _ _ q (ft q hr D.ds)⟩
 |add f=>rw[hp] at st;obtain⟨x,dx,e,q⟩:=st;exact⟨x,dx,e,s _ _ q (ft q hr D.da)⟩
 |remove f=>rw[hp] at st;obtain⟨x,dx,e,q⟩:=st;exact⟨x,dx,e,s _ _ q (ft q hr D.dr)⟩
 |move f g=>rw[hp] at st;obtain⟨x,dx,e,q⟩:=st;exact⟨x,dx,e,s _ _ q (ft q hr D.dm)⟩
theorem bw.xI {H H':Hp} {r dr C:Addr} {fs:List (Str×V)} {v:V} {p:ag} (D:qe a C) (h:bw K a H v p) (s:ax r H H') (hr:H r=some (.ins C dr fs)):bw K a H' v p:=by
 obtain⟨l,vs,e,q,z⟩:=h;exact⟨l,vs,e,s _ _ q (bP q hr (by intro y;cases y)),pM (λ_ _ y=>y.xI D s hr) z⟩
theorem bJ.xI {H H':Hp} {r dr C:Addr} {fs:List (Str×V)} {v:V} {t:aJ} (h:bJ K H v t) (s:ax r H H') (hr:H r=some (.ins C dr fs)):bJ K H' v t:=by
 obtain⟨p,kvs,e,q,z⟩:=h;exact⟨p,kvs,e,s _ _ q (bP q hr (by intro y;cases y)),z.perm,z.rise,λf c m=>let ⟨u,e,y⟩:=z.val f c m;⟨u,e,y.x s hr⟩⟩
theorem bw.xL {H H':Hp} {L:Addr} {xs:List V} {v:V} {p:ag} (h:bw K a H v p) (s:ax L H H') (hL:H L=some (.lst xs)) (hne:v≠ .ref L):bw K a H' v p:=by
 obtain⟨l,vs,e,q,z⟩:=h;exact⟨l,vs,e,s _ _ q (λy=>hne (by rw[e,y])),bf.xL z s hL⟩
theorem bJ.xL {H H':Hp} {L:Addr} {xs:List V} {v:V} {t:aJ} (h:bJ K H v t) (s:ax L H H') (hL:H L=some (.lst xs)):bJ K H' v t:=by
 obtain⟨p,kvs,e,q,z⟩:=h;exact⟨p,kvs,e,s _ _ q (bP q hL (by intro y;cases y)),z.perm,z.rise,λf c m=>let ⟨u,e,y⟩:=z.val f c m;⟨u,e,y.xL s hL⟩⟩
theorem cp.xL {H H':Hp} {L:Addr} {xs:List V} {v vp:V} {st:Vapatc.State} (h:cp K a H v vp st) (s:ax L H H') (hL:H L=some (.lst xs)) (hne:vp≠ .ref L):cp K a H' v vp st:=by
 obtain⟨x,dx,vs,e,hx,hr,ht⟩:=h;refine⟨x,dx,vs,e,s _ _ hx (bP hx hL (by intro y;cases y)),hr.xL s hL hne,?_⟩;cases e2:st.tree with
 |none=>rw[e2] at ht;exact ht
 |some t=>
  rw[e2] at ht;have ht:bJ K H vs t:=ht;exact ht.xL s hL
theorem Gv {A:Type} {rd:VapatBase.Reader A} {R:A->Prop} (hR:∀x u,rd x=some u->R u.1):∀{n:Nat} {x y:List Int} {l:List A},readTimes rd n x=some (l,y)->l.length=n/\∀z∈l,R z
 |0,x,y,l,h=>by cases h;exact⟨rfl,λz hz=>by cases hz⟩
 |n+1,x,y,l,h=>by
  simp only[VapatBase.readTimes] at h;cases e:rd x with
  |none=>rw[e] at h;cases h
  |some u=>
   rw[e] at h;simp only[Option.bind_some] at h;cases e2:readTimes rd n u.2 with
   |none=>rw[e2] at h;cases h
   |some v=>
    rw[e2] at h;cases h;obtain⟨h1,h2⟩:=Gv hR (l:=v.1) (y:=v.2) e2;refine⟨by rw[List.length_cons,h1],λz hz=>?_⟩;rcases List.mem_cons.mp hz with q|q
    ·rw[q];exact hR x u e
    ·exact h2 z q
theorem D3 {lo hi:Nat} {x:List Int} {u:Nat×List Int} (h:readNat lo hi x=some u):u.1<=hi:=by
 cases x with
 |nil=>cases h
 |cons z r=>
  simp only[VapatBase.readNat] at h
  split at h
  ·rename_i hz
   cases h;have:=hz.2;show z.toNat<=hi;unfold VapatBase.int at this;omega
  ·cases h
theorem DD {A:Type} {rd:VapatBase.Reader A} {R:A->Prop} (hR:∀x u,rd x=some u->R u.1) {lo hi:Nat} {x:List Int} {u:List A×List Int} (h:readListed lo hi rd x=some u):u.1.length<=hi/\∀z∈u.1,R z:=by
 unfold VapatBase.readListed at h;cases e:readNat lo hi x with
 |none=>rw[e] at h;cases h
 |some n=>
  rw[e] at h;simp only[Option.bind_some] at h;obtain⟨h1,h2⟩:=Gv hR (l:=u.1) (y:=u.2) h;exact⟨by rw[h1];exact D3 e,h2⟩
theorem OY {A B:Type} {ra:VapatBase.Reader A} {rb:VapatBase.Reader B} {x:List Int} {u:(A×B)×List Int} (h:readPair ra rb x=some u):(∃y z,ra y=some z/\z.1=u.1.1)/\∃y z,rb y=some z/\z.1=u.1.2:=by
 unfold VapatBase.readPair at h;cases e:ra x with
 |none=>rw[e] at h;cases h
 |some z=>
  rw[e] at h;simp only[Option.bind_some] at h;cases e2:rb z.2 with
  |none=>rw[e2] at h;cases h
  |some y=>rw[e2] at h;cases h;exact⟨⟨x,z,e,rfl⟩,z.2,y,e2,rfl⟩
theorem GK {A:Type} {rd:VapatBase.Reader A} {x:List Int} {u:A} (h:whole rd x=some u):rd x=some (u,[]):=by
 unfold VapatBase.whole at h
 split at h
 ·rename_i v e;cases h;exact e
 ·cases h
theorem SS {x:List Int} {t:aJ} (h:whole Vapatb.readTree x=some t):Small 12 6 t:=by
 have h:=GK h;unfold Vapatb.readTree at h;cases e:readListed 0 Vapatb.FILES (readPair (readNat 0 (VapatBase.NAMES-1)) (readTokens Vapatb.FILE)) x with
 |none=>rw[e] at h;cases h
 |some u=>
  rw[e] at h;simp only[Option.bind_some] at h
  split at h
  ·cases h;obtain⟨h1,h2⟩:=DD (R:=λz:Nat×List Nat=>z.2.length<=12) (λy v hv=>by
    obtain⟨_,y2,z2,h3,h4⟩:=OY hv;rw[<-h4];exact(DD (R:=λ_=>True) (λ_ _ _=>trivial) h3).1) e
   exact⟨h2,h1⟩
  ·cases h
def Q7 (a:Ad):Sp:=λvs H Q _=>∃(p dx:Addr),vs=[.ref p]/\H p=some (.ins a.aH dx [])/\∀(l:Addr) (H':Hp),ax p H H'->H l=none->H' l=some (.lst [])->H' p=some (.ins a.aH dx (aS .aI (.ref l)))->Q .aI H'
theorem N4 (T:Tx K mg a d):aA P w K mg base aL 1 a.jt d.jt ["self"] (Q7 a):=by
 refine T.JT.ok Qk (λvs H Q E h=>?_) (λcdv A outer s H vs Q E hr h=>?_)
 ·obtain⟨p,dx,rfl,_⟩:=h;rfl
 ·obtain⟨p,dx,rfl,hp,k⟩:=h;refine⟨_,(ah (ck (pv 0) cS rfl) (aj (ck (pv 0) (bj ae) rfl))),?_⟩;refine⟨_,rfl,p,a.aH,dx,_,rfl,hp,T.bb,T.ng,cg (cb),?_⟩;have S1:ax p H (upd H p (.ins a.aH dx (aQ "start" .aI []))):=ax.upd;have h1:(upd H p (.ins a.aH dx (aQ "start" .aI []))) p=some (.ins a.aH dx (aQ "start" .aI [])):=az;generalize upd H p (.ins a.aH dx (aQ "start" .aI []))=H1 at S1 h1⊢;refine⟨Nat.zero_le _,λl H2 n2 s2 e2=>?_⟩;have h2:=s2 _ _ h1;have hlp:l≠p:=λz=>by rw[z,h1] at n2;cases n2
  refine⟨_,rfl,p,a.aH,dx,_,rfl,h2,T.bb,T.bS,cg (lp (cb)),?_⟩;refine k l _ ((S1.trans (af.x s2)).trans ax.upd) (S1.free hlp n2) ?_ az;rw[aT hlp];exact e2
def After (K:PySem.W.Frag) (a:Ad) (H:Hp) (v vp:V) (r:Vapatc.State×List Int) (Q:VK):Prop:=∀(H':Hp) (v' vp':V),(∀x,v= .ref x->ax x H H')->cp K a H' v vp' r.1->(vp'=vp\/bG H vp')->dW H H' v' r.2->Q v' H'
def Q9 (K:PySem.W.Frag) (a:Ad):Sp:=λvs H Q _=>∃(v vp:V) (st:Vapatc.State) (l:Addr) (ns:List Int),vs=[v,.ref l]/\cp K a H v vp st/\H l=some (.lst (ns.map V.int))/\After K a H v vp (Vapatc.step st (.tree ns)) Q
theorem Od (T:Tx K mg a d):aA P w K mg base aL 5 a.jC d.jC ["self","files_told"] (Q9 K a):=by
 refine T.J6.ok FL (λvs H Q E h=>?_) (λcdv A outer s H vs Q E hr h=>?_)
 ·obtain⟨v,vp,st,l,ns,rfl,_⟩:=h;rfl
 ·obtain⟨v,vp,st,l,ns,rfl,hh,hl,k⟩:=h;obtain⟨t1,ht1⟩:=T.BO;refine⟨_,ah (x8 (Et:=λcls _ H'=>cls= .ref a.dX/\af H H'/\whole Vapatb.readTree ns=none) T.gk (by rfl) T.gi rfl rfl (λpn xe hp L=>aj (aF (i:=2) FL.nd rfl (Or.inl rfl) (aB (OP T) hr (by rfl) T.Nk T.CJ.kp T.HZ .nil L.passes (aa (pv 1) ae))))
   (λ_=>aj (aq (bj (aa (aU (v:= .int (-1)) (by rfl) ht1 ⟨_,rfl⟩) ae)))))
   (ah (ck (pv 0) (pv 2) rfl)
   (ah (ck (pv 0) (bj ae) rfl)
   (aj (aq (bj (aa (bh Bq (by rfl) T.bC PySem.boot_len (aa (pv 2) ae)) ae)))))),?_⟩
  obtain⟨x,dx,vs,rfl,hx,hrow,htr⟩:=hh;refine⟨⟨_,rfl,l,ns,rfl,hl,?_⟩,λσ' cls H1 _ ⟨e1,s1,e2⟩=>⟨e1,(by show 1<=sizeLine;decide),λl2 H2 n2 s2 h2=>?_⟩⟩
  ·cases e:whole Vapatb.readTree ns with
   |none=>exact λH1 s1=>⟨rfl,s1,rfl⟩
   |some t=>
    intro H1 v1 s1 tr1;obtain⟨p,kvs,rfl,hp,tk⟩:=tr1;refine⟨_,rfl,_,rfl,x,a.aH,dx,_,rfl,s1 _ _ hx,T.bb,T.ng,cg (lp (lp cb)),?_⟩;rw[KW];have S12:ax x H1 (upd H1 x (.ins a.aH dx (aS (.ref p) vp))):=ax.upd;have S2:ax x H (upd H1 x (.ins a.aH dx (aS (.ref p) vp))):=(af.x s1).trans ax.upd;have h2:(upd H1 x (.ins a.aH dx (aS (.ref p) vp))) x=some (.ins a.aH dx (aS (.ref p) vp)):=az;have tr2:bJ K (upd H1 x (.ins a.aH dx (aS (.ref p) vp))) (.ref p) t:=bJ.xI ⟨p,kvs,rfl,hp,tk⟩ ax.upd (s1 _ _ hx);generalize upd H1 x (.ins a.aH dx (aS (.ref p) vp))=H2 at S12 S2 h2 tr2⊢;refine⟨Nat.zero_le _,λL H3 n3 s3 e3=>⟨_,rfl,x,a.aH,dx,_,rfl,s3 _ _ h2,T.bb,T.bS,cg (lp (lp cb)),?_⟩⟩;rw[pd];have hLx:L≠x:=λz=>by rw[z,h2] at n3;cases n3
    have S4:ax x H3 (upd H3 x (.ins a.aH dx (aS (.ref p) (.ref L)))):=ax.upd;have h4:(upd H3 x (.ins a.aH dx (aS (.ref p) (.ref L)))) x=some (.ins a.aH dx (aS (.ref p) (.ref L))):=az;have tr4:=bJ.xI (tr2.same s3) S4 (s3 _ _ h2);have e4:=S4 _ _ e3 hLx;generalize upd H3 x (.ins a.aH dx (aS (.ref p) (.ref L)))=H4 at S4 h4 tr4 e4⊢;obtain⟨p4,kvs4,ep,hp4,tk4⟩:=tr4;cases ep;refine⟨_,rfl,p,kvs4,rfl,hp4,(by show 1<=sizeLine;decide),λl5 H5 n5 s5 e5=>?_⟩;refine k H5 (.ref l5) (.ref L) (λy ey=>?_) ?_ (.inr ?_) ?_
    ·cases ey;exact((S2.trans (af.x s3)).trans S4).trans (af.x s5)
    ·simp only[Vapatc.step,e];exact⟨x,dx,.ref p,rfl,s5 _ _ h4,⟨L,[],rfl,s5 _ _ e4,.nil⟩,⟨p,kvs4,rfl,s5 _ _ hp4,tk4.same s5⟩⟩
    ·intro y ey;cases ey;exact S2.free hLx n3
    ·simp only[Vapatc.step,e];have h5x:l5≠x:=λz=>by rw[z,h4] at n5;cases n5
     refine⟨bG.of s1 (((S12.trans (af.x s3)).trans S4).free h5x n5),l5,rfl,?_⟩;rw[e5,tk4.len];rfl
  ·refine k H2 (.ref l2) vp (λy ey=>af.x (s1.trans s2)) ?_ (.inl rfl) ?_
   ·simp only[Vapatc.step,e2];exact cp.same ⟨x,dx,vs,rfl,hx,hrow,htr⟩ (s1.trans s2)
   ·simp only[Vapatc.step,e2];exact⟨bG.of s1 n2,l2,rfl,h2⟩
end PR
namespace PR
open PySem PySem.Spec PyProof.Rows L2
open VapatBase (appliedAll applied whole readStep)
open Vapatc (stepsOf placeOf okRow)
theorem Em {t:aJ} {r:ag} (hu:aM r) (hl:r.length<=10) (hm:∀p∈r,p.name<=99):okRow t r=(appliedAll t (stepsOf r)).isSome:=by
 unfold Vapatc.okRow;have e1:decide (r.length<=Vapatc.ROW)=true:=decide_eq_true hl;have e2:r.zipIdx.all (λp=>decide (p.1.name<=Vapatc.NAME)&&!(Vapatc.namesOf (r.take p.2)).contains p.1.name)=true:=by
  rw[List.all_eq_true];rintro⟨p,i⟩ hp;have hi:=List.mem_zipIdx hp;have hg:r[i]?=some p:=by
   obtain⟨_,h2,h3⟩:=hi;rw[List.getElem?_eq_getElem (by omega)];simp only[Nat.sub_zero] at h3;rw[<-h3]
  rw[Bool.and_eq_true];refine⟨decide_eq_true (hm p (List.mem_of_getElem? hg)),?_⟩;rw[Bool.not_eq_true',<-Bool.not_eq_true,List.contains_iff_mem];intro z;have hn':(Vapatc.namesOf r).Nodup:=hu;rw[ja hg,dA] at hn';exact(List.nodup_append.mp hn').2.2 _ z _ List.mem_cons_self rfl
 rw[e1,e2];simp
theorem GC {r:ag} {p:bp} (hu:aM r) (h:p.name∉Vapatc.namesOf r):aM (r++[p]):=by
 unfold aM;rw[dA];refine List.nodup_append.mpr ⟨hu,List.nodup_cons.mpr ⟨by simp,List.nodup_nil⟩,λx hx y hy=>?_⟩;have hy:y=p.name:=List.mem_singleton.mp hy;rw[hy];exact λz=>h (by rw[<-z];exact hx)
theorem uE {st:Vapatc.State} {t:aJ} {z:Int} {ns:List Int} (ht:st.tree=some t) (hz:¬(0<=z/\z<=99)):Vapatc.step st (.add z ns)=(st,[-3]):=by
 have e:Vapatc.upTo z Vapatc.NAME=none:=by
  show(if 0<=z/\z<=(99:Int) then some z.toNat else none)=none;rw[if_neg hz]
 simp only[Vapatc.step,Vapatc.doAdd,Vapatc.onTree,ht,e];rfl
theorem AE {st:Vapatc.State} {t:aJ} {z:Int} {ns:List Int} (ht:st.tree=some t) (hz:0<=z/\z<=99):Vapatc.step st (.add z ns)=match whole readStep ns with
 |none=>(st,[-1])
 |some p=>if (Vapatc.namesOf st.row).contains z.toNat=true then (st,[-3]) else if 10<=st.row.length then (st,[-6]) else if okRow t (st.row++[⟨z.toNat,p⟩]) then ({st with row:=st.row++[⟨z.toNat,p⟩]},[(st.row.length:Int)]) else (st,[-4]):=by
 have e:Vapatc.upTo z Vapatc.NAME=some z.toNat:=by
  show(if 0<=z/\z<=(99:Int) then some z.toNat else none)=some z.toNat;rw[if_pos hz]
 obtain⟨tr,row⟩:=st;cases ht;simp only[Vapatc.step,Vapatc.doAdd,Vapatc.onTree,e];cases whole readStep ns<;>rfl
theorem good_add {st:Vapatc.State} {t u:aJ} {n:Nat} {p:ai} (hg:Good st) (ht:st.tree=some t) (hn:n<=99) (hc:n∉Vapatc.namesOf st.row) (hl:st.row.length<10) (hu:appliedAll t (stepsOf st.row)=some u):
 okRow t (st.row++[⟨n,p⟩])=(applied u p).isSome/\∀v,applied u p=some v->Good {st with row:=st.row++[⟨n,p⟩]}:=by
 have hg':=hg;unfold Good at hg';rw[ht] at hg';obtain⟨hsm,hri,⟨hun,_⟩,_,hnm⟩:=hg';have hun':aM (st.row++[⟨n,p⟩]):=GC hun hc;have hl':(st.row++[(⟨n,p⟩:bp)]).length<=10:=by rw[List.length_append,List.length_singleton];omega
 have hnm':∀q∈st.row++[(⟨n,p⟩:bp)],q.name<=99:=by
  intro q hq;rcases List.mem_append.mp hq with z|z
  ·exact hnm q z
  ·rw[List.mem_singleton.mp z];exact hn
 have happ:∀v,applied u p=some v->appliedAll t (stepsOf (st.row++[⟨n,p⟩]))=some v:=by
  intro v hv;rw[fU];exact all_append.mpr ⟨u,hu,all_cons.mpr ⟨v,hv,rfl⟩⟩
 refine⟨?_,λv hv=>?_⟩
 ·rw[Em hun' hl' hnm'];cases e:applied u p with
  |some v=>rw[happ v e]
  |none=>
   cases e2:appliedAll t (stepsOf (st.row++[⟨n,p⟩])) with
   |none=>rfl
   |some v=>
    rw[fU] at e2;obtain⟨u',a1,a2⟩:=all_append.mp e2;rw[hu] at a1;cases a1;obtain⟨v',a3,_⟩:=all_cons.mp a2;have a3:applied u p=some v':=a3;rw[e] at a3;cases a3
 ·unfold Good;simp only[ht];exact⟨hsm,hri,⟨hun',v,happ v hv⟩,hl',hnm'⟩
def Q4 (K:PySem.W.Frag) (a:Ad):Sp:=λvs H Q _=>∃(v vp:V) (st:Vapatc.State) (t:aJ) (z:Int) (l:Addr) (ns:List Int),vs=[v,.int z,.ref l]/\cp K a H v vp st/\Good st/\st.tree=some t/\H l=some (.lst (ns.map V.int))/\After K a H v vp (Vapatc.step st (.add z ns)) Q
theorem NY (T:Tx K mg a d):aA P w K mg base aL 7 a.jm d.jm ["self","name","step_told"] (Q4 K a):=by
 refine T.JN.ok FF (λvs H Q E h=>?_) (λcdv A outer s H vs Q E hr h=>?_)
 ·obtain⟨v,vp,st,t,z,l,ns,rfl,_⟩:=h;rfl
 ·obtain⟨v,vp,st,t,z,l,ns,rfl,hh,hg,ht,hl,k⟩:=h;obtain⟨t1,ht1⟩:=T.BJ;obtain⟨t2,ht2⟩:=T.ID;obtain⟨t3,ht3⟩:=T.BO;obtain⟨t4,ht4⟩:=T.BK;obtain⟨t5,ht5⟩:=T.IY;obtain⟨t6,ht6⟩:=T.IS;refine⟨_,ah (aO (ye (aX ie (pv 1) aR (aV _)) (yf (aX nA (pv 1) (aU (v:= .int 99) (by rfl) ht1 ⟨_,rfl⟩) (aV _)))).pt (aj (aq (bj (aa (aU (v:= .int (-3)) (by rfl) ht2 ⟨_,rfl⟩) ae)))) aP)
   (ah (x8 (Et:=λcls _ H'=>cls= .ref a.dX/\af H H'/\whole readStep ns=none/\0<=z/\z<=99) T.gk (by rfl) T.gi rfl rfl (λpn xe hp L=>aj (aF (i:=3) FF.nd rfl (Or.inl rfl) (aB (OM T) hr (by rfl) T.Nh T.CG.kp T.HW .nil L.passes (aa (pv 2) ae))))
    (λ_=>aj (aq (bj (aa (aU (v:= .int (-1)) (by rfl) ht3 ⟨_,rfl⟩) ae)))))
   (ah (aO (aX xQ (aB (ic T) (hr.mono (by decide)) (by rfl) T.g0 T.gu.kp T.gN .nil au (aa (ao (pv 0) rfl) (aa (pv 1) ae))) cS (aV _)) (aj (aq (bj (aa (aU (v:= .int (-3)) (by rfl) ht2 ⟨_,rfl⟩) ae)))) aP)
   (ah (aO (aX xP (bh bH (by rfl) T.bC PySem.boot_len (aa (ao (pv 0) rfl) ae)) (aU (v:= .int 10) (by rfl) ht4 ⟨_,rfl⟩) (aV _)) (aj (aq (bj (aa (aU (v:= .int (-6)) (by rfl) ht5 ⟨_,rfl⟩) ae)))) aP)
   (ah (aO (pP (eD (aB (Ey T) (hr.mono (by decide)) (by rfl) T.DM T.vT.kp T.AY .nil au (aa (pv 3) (aa (aB (EF T) (hr.mono (by decide)) (by rfl) T.DT T.v9.kp T.A7 .nil au (aa (ao (pv 0) rfl) (aa (ao (pv 0) rfl) ae))) ae))))) (aj (aq (bj (aa (aU (v:= .int (-4)) (by rfl) ht6 ⟨_,rfl⟩) ae)))) aP)
   (ah (ck (pv 0) (bt eZ (ao (pv 0) rfl) (bj (aa (di T.sg (sJ T) (hr.mono (by decide)) (by rfl) T.rV T.qA .nil au (aa (pv 1) (aa (pv 3) ae))) ae))) rfl)
   (aj (aq (bj (aa (bt pL (bh bH (by rfl) T.bC PySem.boot_len (aa (ao (pv 0) rfl) ae)) aR) ae))))))))),?_⟩
  obtain⟨x,dx,vs,rfl,hx,hrow,htr⟩:=hh;have hlen:=hg.len;have hu:=hg.unlike;have hh:cp K a H (.ref x) vp st:=⟨x,dx,vs,rfl,hx,hrow,htr⟩
  rw[ht] at htr;have htr:bJ K H vs t:=htr;have hg':=hg;unfold Good at hg';rw[ht] at hg';obtain⟨hsm,hri,⟨_,u,hu2⟩,_,hnm⟩:=hg';have no:∀(n:Int),Vapatc.step st (.add z ns)=(st,[n])->∀(H1:Hp),af H H1->∀(l2:Addr) (H2:Hp),H1 l2=none->af H1 H2->H2 l2=some (.lst [.int n])->Q (.ref l2) H2:=by
   intro n e H1 s1 l2 H2 n2 s2 h2;refine k H2 (.ref l2) vp (λy _=>af.x (s1.trans s2)) ?_ (.inl rfl) ?_
   ·rw[e];exact hh.same (s1.trans s2)
   ·rw[e];exact⟨bG.of s1 n2,l2,rfl,h2⟩
  have lst1:∀{Q':Prop},Q'->(1<=sizeLine/\Q'):=λh=>⟨(by decide),h⟩
  refine⟨_,rfl,_,_,rfl,rfl,_,rfl,bE (λh1=>?_) (λh1=>?_)⟩
  ·have h1:z<0:=of_decide_eq_true h1;exact fJ ⟨(by show 1<=sizeLine;decide),λl2 H2 n2 s2 e2=>no (-3) (uE ht (by omega)) H (af.refl _) l2 H2 n2 s2 e2⟩
  refine⟨_,rfl,_,_,rfl,rfl,_,rfl,bE (λh2=>?_) (λh2=>?_)⟩
  ·have h2:99<z:=of_decide_eq_true h2;exact⟨(by show 1<=sizeLine;decide),λl2 H2 n2 s2 e2=>no (-3) (uE ht (by omega)) H (af.refl _) l2 H2 n2 s2 e2⟩
  have h1:¬z<0:=λq=>h1 (decide_eq_true q);have h2:¬99<z:=λq=>h2 (decide_eq_true q);have hz:0<=z/\z<=99:=by omega
  have stepE:=AE (ns:=ns) ht hz;refine⟨⟨_,rfl,l,ns,rfl,hl,?_⟩,λσ' cls H1 _ ⟨e1,s1,e2,_⟩=>⟨e1,(by show 1<=sizeLine;decide),λl2 H2 n2 s2 h2=>no (-1) (by rw[stepE,e2]) H1 s1 l2 H2 n2 s2 h2⟩⟩;cases e:whole readStep ns with
  |none=>exact λH1 s1=>⟨rfl,s1,rfl,hz⟩
  |some p=>
   rw[e] at stepE;simp only at stepE;intro H1 v1 s1 st1;have hrow1:=hrow.same s1;refine⟨_,rfl,x,a.aH,dx,_,_,rfl,s1 _ _ hx,T.bb,T.bS,cD,_,rfl,_,st.row,z,rfl,hrow1,λj hj H2 s2=>?_,λhj H2 s2=>?_⟩
   ·obtain⟨_,z1,_,_⟩:=nO hu hj;refine⟨rfl,_,rfl,(by show 1<=sizeLine;decide),λl3 H3 n3 s3 e3=>no (-3) ?_ H2 (s1.trans s2) l3 H3 n3 s3 e3⟩;rw[stepE,if_pos z1]
   ·have hc:=sW hj;have hc:¬(Vapatc.namesOf st.row).contains z.toNat=true:=λq=>hc ⟨hz.1,q⟩;rw[if_neg hc] at stepE;obtain⟨lr,us,rfl,hlr,rv⟩:=hrow;have ul:=bf.len rv;have s12:=s1.trans s2;refine⟨rfl,_,rfl,?_⟩;refine⟨_,rfl,x,a.aH,dx,_,_,rfl,s12 _ _ hx,T.bb,T.bS,cD,lr,us,rfl,.inl (ak.of (s12 _ _ hlr)),_,_,rfl,rfl,_,rfl,bE (λh3=>?_) (λh3=>?_)⟩
    ·have h3:(10:Int)<=(us.length:Int):=of_decide_eq_true h3;refine⟨(by show 1<=sizeLine;decide),λl3 H3 n3 s3 e3=>no (-6) ?_ H2 s12 l3 H3 n3 s3 e3⟩;rw[stepE,if_pos (by omega)]
    ·have h3:¬(10:Int)<=(us.length:Int):=λq=>h3 (decide_eq_true q);rw[if_neg (by omega)] at stepE;have hrow2:bw K a H2 (.ref lr) st.row:=⟨lr,us,rfl,s12 _ _ hlr,rv.same s12⟩
     obtain⟨ok1,ok2⟩:=good_add (n:=z.toNat) (p:=p) hg ht (by omega) (λq=>hc (List.contains_iff_mem.mpr q)) (by omega) hu2;rw[ok1] at stepE;refine⟨_,rfl,_,rfl,x,a.aH,dx,_,_,rfl,s12 _ _ hx,T.bb,T.ng,rB,_,rfl,x,a.aH,dx,_,_,rfl,s12 _ _ hx,T.bb,T.bS,cD,_,_,t,u,st.row,rfl,htr.same s12,hrow2,hsm,hlen,hu2,λH3 v3 s3 t3 _=>?_⟩;refine⟨_,_,p,u,rfl,(st1.same s2).same s3,t3,λH4 s4=>?_⟩;have s14:=(s12.trans s3).trans s4;refine⟨_,rfl,?_⟩;show if (!(applied u p).isSome)=true then _ else _
     cases ea:applied u p with
     |none=>
      rw[ea] at stepE;refine fJ ⟨(by show 1<=sizeLine;decide),λl5 H5 n5 s5 e5=>no (-4) ?_ H4 s14 l5 H5 n5 s5 e5⟩;rw[stepE];rfl
     |some v4=>
      rw[ea] at stepE;have stepE:Vapatc.step st (.add z ns)=({st with row:=st.row++[⟨z.toNat,p⟩]},[(st.row.length:Int)]):=stepE;refine gW ?_;have hx4:=s14 _ _ hx;refine⟨_,rfl,x,a.aH,dx,_,_,rfl,hx4,T.bb,T.bS,cD,_,rfl,_,rfl,?_⟩;intro y dy ny nd _;refine⟨y,dy,_,_,rfl,az,rfl,?_⟩;have sm:=eK (o1:= .own y) (o2:= .ins a.Patch dy []) (o3:= .ins a.Patch dy (cZ (.int z) v1)) ny nd;have hy:(upd (upd (upd H4 dy (.own y)) y (.ins a.Patch dy [])) y (.ins a.Patch dy (cZ (.int z) v1))) y=some (.ins a.Patch dy (cZ (.int z) v1)):=az;generalize upd (upd (upd H4 dy (.own y)) y (.ins a.Patch dy [])) y (.ins a.Patch dy (cZ (.int z) v1))=H5 at sm hy⊢;have s15:=s14.trans sm;refine⟨(by show 1<=sizeLine;decide),λl6 H6 n6 s6 e6=>?_⟩;have s16:=s15.trans s6;refine⟨lr,l6,us,_,rfl,rfl,s16 _ _ hlr,e6,Nat.le_of_lt (bU (by show us.length+1<=_;omega)),λl7 H7 n7 s7 e7=>?_⟩;have s17:=s16.trans s7;have hx7:=s17 _ _ hx;refine⟨_,rfl,x,a.aH,dx,_,rfl,hx7,T.bb,T.bS,cg (lp (lp cb)),?_⟩;rw[pd];have hl7:l7≠x:=λq=>by rw[q,s16 _ _ hx] at n7;cases n7
      have S8:ax x H7 (upd H7 x (.ins a.aH dx (aS vs (.ref l7)))):=ax.upd;have h8:(upd H7 x (.ins a.aH dx (aS vs (.ref l7)))) x=some (.ins a.aH dx (aS vs (.ref l7))):=az;have e8:=S8 _ _ e7 hl7;have z0:((z.toNat:Nat):Int)=z:=Int.toNat_of_nonneg hz.1;have pn7:cU K a H7 (.ref y) ⟨z.toNat,p⟩:=⟨y,dy,v1,rfl,by rw[(s6.trans s7) _ _ hy];show some (HO.ins a.Patch dy (cZ (.int z) v1))=some (HO.ins a.Patch dy (cZ (.int ((z.toNat:Nat):Int)) v1));rw[z0],((((st1.same s2).same s3).same s4).same sm).same (s6.trans s7)⟩
      have row7:bw K a H7 (.ref l7) (st.row++[⟨z.toNat,p⟩]):=⟨l7,_,rfl,e7,ig (rv.same s17) (.cons pn7 .nil)⟩
      have row8:=row7.xI T.vI.1 S8 hx7;have tr8:=(htr.same s17).xI S8 hx7;generalize upd H7 x (.ins a.aH dx (aS vs (.ref l7)))=H8 at S8 h8 e8 row8 tr8⊢;refine⟨_,rfl,x,a.aH,dx,_,_,rfl,h8,T.bb,T.bS,cD,l7,_,rfl,.inl (ak.of e8),_,_,rfl,rfl,(by show 1<=sizeLine;decide),λl9 H9 n9 s9 e9=>?_⟩;refine k H9 (.ref l9) (.ref l7) (λq eq=>?_) ?_ (.inr (bG.of s16 n7)) ?_
      ·cases eq;exact((af.x s17).trans S8).trans (af.x s9)
      ·rw[stepE];refine⟨x,dx,vs,rfl,s9 _ _ h8,row8.same s9,?_⟩;show match st.tree with
        |none=>vs= .aI
        |some t=>bJ K H9 vs t
       rw[ht];exact tr8.same s9
      ·rw[stepE];have h9x:l9≠x:=λq=>by rw[q,h8] at n9;cases n9
       refine⟨bG.of s17 (S8.free h9x n9),l9,rfl,?_⟩;rw[e9];show some (HO.lst [V.int (((us++[V.ref y]).length:Int)-1)])=some (HO.lst [V.int (st.row.length:Int)]);rw[List.length_append,ul];congr 4;show((st.row.length+1:Nat):Int)-1=_;omega
end PR
namespace PR
open PySem PySem.Spec PyProof.Rows L2
theorem rG (z:Int):∀l:List Int,dc (.int z) (l.map V.int)=l.contains z
 |[]=>rfl
 |m::l=>by
  have ih:=rG z l;unfold dc at ih⊢;rw[List.map_cons,List.any_cons,ih,List.contains_cons];congr 1;show(m==z)=(z==m)
  by_cases h:z=m
  ·subst h;rfl
  ·rw[beq_eq_false_iff_ne.mpr h,beq_eq_false_iff_ne.mpr (Ne.symm h)]
theorem qZ:∀l:List Int,(l.map V.int).all eT=true
 |[]=>rfl
 |m::l=>by rw[List.map_cons,List.all_cons,qZ l];rfl
theorem p6 {H H':Hp} {p:Addr} {xs:List V} (h:ak K H p xs) (s:af H H'):ak K H' p xs:=by
 rcases h with (h|⟨o,h⟩)|h
 ·exact .inl (.inl (s _ _ h))
 ·exact .inl (.inr ⟨o,s _ _ h⟩)
 ·exact .inr h
def z7 (ks:List Int):Sp:=λvs H Q _=>∃z:Int,vs=[.int z]/\∀H':Hp,af H H'->Q (.bl (ks.contains z)) H'
theorem EA (T:Tx K mg a d):aA P w K mg base aL 1 a.kK d.kK ["kind"] (z7 [1,4,5,10,14]):=by
 refine T.vV.ok QK (λvs H Q E h=>?_) (λcdv A outer s H vs Q E hr h=>?_)
 ·obtain⟨z,rfl,_⟩:=h;rfl
 ·obtain⟨z,rfl,k⟩:=h;obtain⟨t1,ht1⟩:=T.vD;obtain⟨t2,ht2⟩:=T.BN;obtain⟨t3,ht3⟩:=T.BM;obtain⟨t4,ht4⟩:=T.BH;obtain⟨t5,ht5⟩:=T.IG;refine⟨_,aj (aq (gA (r:=il K false) iV (pv 0) (dP (aa (aU (v:= .int 1) (by rfl) ht1 ⟨_,rfl⟩) (aa (aU (v:= .int 4) (by rfl) ht2 ⟨_,rfl⟩) (aa (aU (v:= .int 5) (by rfl) ht3 ⟨_,rfl⟩) (aa (aU (v:= .int 10) (by rfl) ht4 ⟨_,rfl⟩) (aa (aU (v:= .int 14) (by rfl) ht5 ⟨_,rfl⟩) ae)))))) (by with_unfolding_all rfl))),?_⟩;refine⟨_,rfl,(by show 5<=sizeLine;decide),λl2 H2 n2 s2 e2=>?_⟩;refine⟨l2,([1,4,5,10,14]:List Int).map V.int,rfl,.inr (ba.of e2),rfl,qZ _,?_⟩;have:=rG z [1,4,5,10,14];show Q (.bl (dc (.int z) (([1,4,5,10,14]:List Int).map V.int))) H2;rw[this];exact k H2 s2
theorem Ez (T:Tx K mg a d):aA P w K mg base aL 1 a.has_list d.has_list ["kind"] (z7 [0,1,8,12,13]):=by
 refine T.vU.ok QJ (λvs H Q E h=>?_) (λcdv A outer s H vs Q E hr h=>?_)
 ·obtain⟨z,rfl,_⟩:=h;rfl
 ·obtain⟨z,rfl,k⟩:=h;obtain⟨t1,ht1⟩:=T.BS;obtain⟨t2,ht2⟩:=T.vD;obtain⟨t3,ht3⟩:=T.BF;obtain⟨t4,ht4⟩:=T.BP;obtain⟨t5,ht5⟩:=T.IW;refine⟨_,aj (aq (gA (r:=il K false) iV (pv 0) (dP (aa (aU (v:= .int 0) (by rfl) ht1 ⟨_,rfl⟩) (aa (aU (v:= .int 1) (by rfl) ht2 ⟨_,rfl⟩) (aa (aU (v:= .int 8) (by rfl) ht3 ⟨_,rfl⟩) (aa (aU (v:= .int 12) (by rfl) ht4 ⟨_,rfl⟩) (aa (aU (v:= .int 13) (by rfl) ht5 ⟨_,rfl⟩) ae)))))) (by with_unfolding_all rfl))),?_⟩;refine⟨_,rfl,(by show 5<=sizeLine;decide),λl2 H2 n2 s2 e2=>?_⟩;refine⟨l2,([0,1,8,12,13]:List Int).map V.int,rfl,.inr (ba.of e2),rfl,qZ _,?_⟩;have:=rG z [0,1,8,12,13];show Q (.bl (dc (.int z) (([0,1,8,12,13]:List Int).map V.int))) H2;rw[this];exact k H2 s2
structure AA (L:List Int) (p x:Int) (r t:List Int) (n:Nat):Prop where
 kind:∃L',L=p::L'
 num:([1,4,5,10,14]:List Int).contains p=true->L[1]?=some x
 NM:([1,4,5,10,14]:List Int).contains p=false->x=0
 lst:([0,1,8,12,13]:List Int).contains p=true->∃m:Nat,L[if ([1,4,5,10,14]:List Int).contains p then 2 else 1]?=some (m:Int)/\r=(L.drop ((if ([1,4,5,10,14]:List Int).contains p then 2 else 1)+1)).take m/\n=(if ([1,4,5,10,14]:List Int).contains p then 2 else 1)+1+m/\n<=L.length
 Ee:([0,1,8,12,13]:List Int).contains p=false->r=[]/\n=(if ([1,4,5,10,14]:List Int).contains p then 2 else 1)
 rest:t=L.drop n
def dB (p x:Int) (r:List Int):List (List Int):=(if ([1,4,5,10,14]:List Int).contains p then [p,x] else [p])::(if ([0,1,8,12,13]:List Int).contains p then [r] else [])
theorem QW {p:Int} {nk:Nat×Nat} (h:PyVapatc.shape p=some nk):nk=(if ([1,4,5,10,14]:List Int).contains p then 1 else 0,if ([0,1,8,12,13]:List Int).contains p then 1 else 0):=by
 by_cases e0:p=0
 ·subst e0;cases h;rfl
 by_cases e1:p=1
 ·subst e1;cases h;rfl
 by_cases e2:p=2
 ·subst e2;cases h;rfl
 by_cases e3:p=3
 ·subst e3;cases h;rfl
 by_cases e4:p=4
 ·subst e4;cases h;rfl
 by_cases e5:p=5
 ·subst e5;cases h;rfl
 by_cases e6:p=6
 ·subst e6;cases h;rfl
 by_cases e7:p=7
 ·subst e7;cases h;rfl
 by_cases e8:p=8
 ·subst e8;cases h;rfl
 by_cases e9:p=9
 ·subst e9;cases h;rfl
 by_cases e10:p=10
 ·subst e10;cases h;rfl
 by_cases e11:p=11
 ·subst e11;cases h;rfl
 by_cases e12:p=12
 ·subst e12;cases h;rfl
 by_cases e13:p=13
 ·subst e13;cases h;rfl
 by_cases e14:p=14
 ·subst e14;cases h;rfl
 unfold PyVapatc.shape at h;rw[if_neg e0,if_neg e1,if_neg e2,if_neg e3,if_neg e4,if_neg e5,if_neg e6,if_neg e7,if_neg e8,if_neg e9,if_neg e10,if_neg e11,if_neg e12,if_neg e13,if_neg e14] at h;cases h
theorem FA {X:List Int} {xs:List (List Int)} {t:List Int} (h:PyFlat.rows 1 X=some (xs,t)):∃(m:Nat) (r:List Int),X=(m:Int)::r/\m<=r.length/\xs=[r.take m]/\t=r.drop m:=by
 cases X with
 |nil=>cases h
 |cons m r=>
  simp only[PyFlat.rows,PyFlat.row] at h;by_cases hm:0<=m/\m.toNat<=r.length
  ·rw[if_pos hm] at h;cases h;exact⟨m.toNat,r,by rw[Int.toNat_of_nonneg hm.1],hm.2,rfl,rfl⟩
  ·rw[if_neg hm] at h;cases h
theorem Im {L:List Int} {c:List (List Int)} {t:List Int} (h:PyFlat.call PyVapatc.shape L=some (c,t)):∃p x r n,AA L p x r t n/\c=dB p x r/\0<n:=by
 cases L with
 |nil=>cases h
 |cons p L=>
  simp only[PyFlat.call] at h;cases e:PyVapatc.shape p with
  |none=>rw[e] at h;cases h
  |some nk=>
   have es:=QW e;rw[e] at h;obtain⟨n,k⟩:=nk;simp only at h
   split at h
   ·cases h
   ·rename_i hl
    cases e2:PyFlat.rows k (L.drop n) with
    |none=>rw[e2] at h;cases h
    |some y=>
     obtain⟨xs,t'⟩:=y;rw[e2] at h;cases h;obtain⟨en,ek⟩:=Prod.mk.inj es;cases c1:([1,4,5,10,14]:List Int).contains p<;>cases c2:([0,1,8,12,13]:List Int).contains p<;>rw[c1] at en<;>rw[c2] at ek<;>subst en ek
     ·
      cases e2;refine⟨p,0,[],1,⟨⟨_,rfl⟩,λq=>(by rw[c1] at q;cases q),λ_=>rfl,λq=>(by rw[c2] at q;cases q),λ_=>⟨rfl,by rw[c1];rfl⟩,rfl⟩,?_,Nat.one_pos⟩;unfold dB;rw[c1,c2];rfl
     ·
      obtain⟨m,r,e3,hm,rfl,rfl⟩:=FA e2;have e3:L=(m:Int)::r:=e3;subst e3;refine⟨p,0,r.take m,2+m,⟨⟨_,rfl⟩,λq=>(by rw[c1] at q;cases q),λ_=>rfl,λ_=>⟨m,?_,?_,?_,?_⟩,λq=>(by rw[c2] at q;cases q),?_⟩,?_,by omega⟩
      ·rw[c1];rfl
      ·rw[c1];rfl
      ·rw[c1];rfl
      ·simp only[List.length_cons];omega
      ·rw[Nat.add_comm 2 m];rfl
      ·unfold dB;rw[c1,c2];rfl
     ·
      cases e2;cases L with
      |nil=>exact absurd (by decide) hl
      |cons x L=>
       refine⟨p,x,[],2,⟨⟨_,rfl⟩,λ_=>rfl,λq=>(by rw[c1] at q;cases q),λq=>(by rw[c2] at q;cases q),λ_=>⟨rfl,by rw[c1];rfl⟩,rfl⟩,?_,by omega⟩;unfold dB;rw[c1,c2];rfl
     ·
      cases L with
      |nil=>exact absurd (by decide) hl
      |cons x L=>
       obtain⟨m,r,e3,hm,rfl,rfl⟩:=FA e2;have e3:L=(m:Int)::r:=e3;subst e3;refine⟨p,x,r.take m,3+m,⟨⟨_,rfl⟩,λ_=>rfl,λq=>(by rw[c1] at q;cases q),λ_=>⟨m,?_,?_,?_,?_⟩,λq=>(by rw[c2] at q;cases q),?_⟩,?_,by omega⟩
       ·rw[c1];rfl
       ·rw[c1];rfl
       ·rw[c1];rfl
       ·simp only[List.length_cons];omega
       ·rw[Nat.add_comm 3 m];rfl
       ·unfold dB;rw[c1,c2];rfl
end PR
namespace PR
open PySem PySem.Spec PyProof.Rows L2
def ur (a:Ad) (H:Hp) (v:V) (p x:Int) (r:List Int) (after:Nat):Prop:=∃y dy lr,v= .ref y/\H y=some (.ins a.Call dy (gb (.int p) (.int x) (.ref lr) (.int after)))/\H lr=some (.lst (r.map V.int))
def RS (K:PySem.W.Frag) (a:Ad):Sp:=λvs H Q _=>∃(l:Addr) (cs:List Int) (i:Nat) (p x:Int) (r t:List Int) (n:Nat),vs=[.ref l,.int (i:Nat)]/\ak K H l (cs.map V.int)/\AA (cs.drop i) p x r t n/\∀(H':Hp) (v:V),af H H'->ur a H' v p x r (i+n)->Q v H'
theorem uO {cs:List Int} {i:Nat} {z:Int} (h:cs[i]?=some z):(cs.map V.int)[i]?=some (V.int z):=by rw[List.getElem?_map,h];rfl
theorem OG (T:Tx K mg a d):aA P w K mg base aL 3 a.lO d.lO ["calls","at"] (RS K a):=by
 refine T.Cz.ok gF (λvs H Q E h=>?_) (λcdv A outer s H vs Q E hr h=>?_)
 ·obtain⟨l,cs,i,p,x,r,t,n,rfl,_⟩:=h;rfl
 ·obtain⟨l,cs,i,p,x,r,t,n,rfl,hl,rd,k⟩:=h;refine⟨_,ah (aF (i:=2) gF.nd rfl (Or.inl rfl) (cN eA (pv 0) (pv 1) (λ_ _=>rfl)))
   (ah (aF (i:=3) gF.nd rfl (Or.inl rfl) (bt eO (pv 1) aR))
   (ah (aF (i:=4) gF.nd rfl (Or.inl rfl) aR)
   (ah (aO (eD (aB (EA T) (hr.mono (by decide)) (by rfl) T.DO T.vV.kp T.A0 .nil au (aa (pv 2) ae)))
    (ah (aF (i:=4) gF.nd rfl (Or.inl rfl) (cN eA (pv 0) (pv 3) (λ_ _=>rfl)))
    (aj (nP (i:=3) gF.nd rfl (Or.inl rfl) aR pB))) aP)
   (ah (aF (i:=5) gF.nd rfl (Or.inl rfl) (bj ae))
   (ah (aO (eD (aB (Ez T) (hr.mono (by decide)) (by rfl) T.DN T.vU.kp T.AZ .nil au (aa (pv 2) ae)))
    (ah (aF (i:=6) gF.nd rfl (Or.inl rfl) (cN eA (pv 0) (pv 3) (λ_ _=>rfl)))
    (ah (aF (i:=5) gF.nd rfl (Or.inl rfl) (fP iw (pv 0) (fe (bt eO (pv 3) aR)) (fe (bt eO (bt eO (pv 3) aR) (pv 6)))))
    (aj (nP (i:=3) gF.nd rfl (Or.inl rfl) (bt eO aR (pv 6)) pB)))) aP)
   (aj (aq (di T.w9 (NX T) (hr.mono (by decide)) (by rfl) T.MO T.G9 .nil au (aa (pv 2) (aa (pv 4) (aa (pv 5) (aa (pv 3) ae)))))))))))),?_⟩
  obtain⟨L',eL⟩:=rd.kind;have hp:cs[i]?=some p:=by
   have:(cs.drop i)[0]?=some p:=by rw[eL];rfl
   rw[List.getElem?_drop] at this;exact this
  have fin:∀(m:Nat) (H':Hp) (lr:Addr) (v6:Option V),m=i+n->af H H'->H' lr=some (.lst (r.map V.int))->Ah (ug a.Call (ub a) [] E0 (cn (aY 2) (cn (aY 4) (cn (aY 5) (cn (aY 3) dS))))) {nx:=λ_ H'=>Q .aI H',rt:=Q} [some (.ref l),some (.int (i:Nat)),some (.int p),some (.int (m:Nat)),some (.int x),some (.ref lr),v6] H':=by
   intro m H' lr v6 em s1 h1;refine⟨_,rfl,_,rfl,_,rfl,_,rfl,w9 λy dy H2 ny s2 e2=>k H2 (.ref y) (s1.trans s2) ⟨y,dy,lr,rfl,?_,s2 _ _ h1⟩⟩;rw[e2,em]
  refine⟨_,rfl,_,rfl,l,_,_,_,rfl,rfl,hl,cK (uO hp),_,rfl,_,_,rfl,rfl,_,rfl,p,rfl,λH1 s1=>⟨_,rfl,?_⟩⟩;have two:∀(m:Nat) (H':Hp),m=i+(if ([1,4,5,10,14]:List Int).contains p then 2 else 1)->af H H'->qa (p9 (Gn dS) (kI 5)) (qa (Gm (tB (jf (z7 [0,1,8,12,13]) [] E0 (cn (aY 2) dS)))
   (qa (p9 (cW (sY K) (aY 0) (aY 3)) (kI 6)) (qa (p9 (Gq (λx lo hi H Q=>∃a xs,x= .ref a/\ak K H a xs/\fI H (.lst (cM xs lo hi)) Q) (aY 0) (Ag (cW (dI λi j=>V.int (i+j)) (aY 3) (tC (.int 1)))) (Ag (cW (dI λi j=>V.int (i+j)) (cW (dI λi j=>V.int (i+j)) (aY 3) (tC (.int 1))) (aY 6)))) (kI 5))
    (Gj 3 (cW (dI λi j=>V.int (i+j)) (tC (.int 1)) (aY 6)) (wG λi j=>i+j)))) Gp)
   (Ah (ug a.Call (ub a) [] E0 (cn (aY 2) (cn (aY 4) (cn (aY 5) (cn (aY 3) dS))))))) {nx:=λ_ H'=>Q .aI H',rt:=Q} [some (.ref l),some (.int (i:Nat)),some (.int p),some (.int (m:Nat)),some (.int x),none,none] H':=by
   intro m H' em s1;refine⟨Nat.zero_le _,λL2 H2 n2 s2 e2=>?_⟩;refine⟨_,rfl,p,rfl,λH3 s3=>⟨_,rfl,?_⟩⟩;have s13:=(s1.trans s2).trans s3;cases c2:([0,1,8,12,13]:List Int).contains p with
   |false=>
    obtain⟨er,en⟩:=rd.Ee c2;refine gW (fin m H3 L2 none (by rw[em,en]) s13 ?_);rw[er];exact s3 _ _ e2
   |true=>
    obtain⟨c,hc,er,en,hle⟩:=rd.lst c2;generalize (if ([1,4,5,10,14]:List Int).contains p then 2 else 1)=o at em hc er en;have hcs:cs[m]?=some (c:Int):=by
     rw[List.getElem?_drop] at hc;rw[em];exact hc
    have hle2:i+n<=cs.length:=by rw[List.length_drop] at hle;omega
    refine fJ ?_;refine⟨_,rfl,_,rfl,l,_,_,_,rfl,rfl,p6 hl s13,cK (uO hcs),?_⟩;refine⟨_,rfl,_,rfl,_,_,rfl,rfl,_,rfl,_,rfl,_,_,rfl,rfl,_,rfl,_,_,rfl,rfl,_,rfl,l,_,rfl,p6 hl s13,λL4 H4 n4 s4 e4=>?_⟩;have e4:H4 L4=some (.lst (r.map V.int)):=by
     rw[e4];have:=I0 (cs.map V.int) (m+1) (m+1+c) (by rw[List.length_map];omega) (by rw[List.length_map];omega);refine(congrArg (λz=>some (HO.lst z)) this).trans ?_;rw[er,List.drop_drop,List.map_take,List.map_drop];congr 3
     ·omega
     ·congr 1;omega
    refine⟨_,rfl,_,rfl,_,_,rfl,rfl,_,_,rfl,rfl,?_⟩;exact fin (m+(1+c)) H4 L4 _ (by omega) (s13.trans s4) e4
  cases c1:([1,4,5,10,14]:List Int).contains p with
  |true=>
   rw[c1] at two;have hx:cs[i+1]?=some x:=by
    have:=rd.num c1;rw[List.getElem?_drop] at this;exact this
   refine fJ ?_;refine⟨_,rfl,_,rfl,l,_,_,_,rfl,rfl,p6 hl s1,cK (j:=i+1) (uO hx),?_⟩;refine⟨_,rfl,_,_,rfl,rfl,?_⟩;exact two (i+1+1) H1 rfl s1
  |false=>
   rw[c1] at two;have ex:=rd.NM c1;subst ex;exact gW (two (i+1) H1 rfl s1)
end PR
namespace PR
open VapatBase (appliedAll applied whole readStep)
open Vapatc (stepsOf namesOf placeOf okRow front ordered)
theorem Fx:∀{t:aJ},Vapatb.rises (t.map λx=>x.1)=true->br t
 |[],_=>List.Pairwise.nil
 |[x],_=>List.pairwise_singleton _ _
 |x::y::t,h=>by
  have h:(decide (x.1<y.1)&&Vapatb.rises ((y::t).map λx=>x.1))=true:=h;rw[Bool.and_eq_true] at h;have ih:=Fx h.2;have hxy:=of_decide_eq_true h.1;refine List.Pairwise.cons (λz hz=>?_) ih;rcases List.mem_cons.mp hz with q|q
  ·rw[q];exact hxy
  ·obtain⟨w,hw,rfl⟩:=List.mem_map.mp q;exact Nat.lt_trans hxy (ih.head w hw)
theorem SR {x:List Int} {t:aJ} (h:whole Vapatb.readTree x=some t):br t:=by
 have h:=GK h;unfold Vapatb.readTree at h;cases e:VapatBase.readListed 0 Vapatb.FILES (VapatBase.readPair (VapatBase.readNat 0 (VapatBase.NAMES-1)) (VapatBase.readTokens Vapatb.FILE)) x with
 |none=>rw[e] at h;cases h
 |some u=>
  rw[e] at h;simp only[Option.bind_some] at h
  split at h
  ·rename_i hr
   cases h;exact Fx hr
  ·cases h
theorem ET:∀{ns:List Nat} {r r':ag} {m:Nat},ordered ns r=(m,some r')->namesOf r'=ns/\(namesOf r').Perm (namesOf r)/\∀t v,br t->appliedAll t (stepsOf r)=some v->appliedAll t (stepsOf r')=some v
 |[],r,r',m,h=>by
  simp only[Vapatc.ordered] at h;cases r with
  |nil=>cases h;exact⟨rfl,.refl _,λt v _ h=>h⟩
  |cons p r=>cases h
 |n::ns,r,r',m,h=>by
  simp only[Vapatc.ordered] at h;cases e:front r n with
  |none=>rw[e] at h;cases h
  |some x=>
   obtain⟨p,rest⟩:=x;rw[e] at h;simp only at h;cases e2:ordered ns rest with
   |mk m2 o=>
    rw[e2] at h;cases o with
    |none=>cases h
    |some z=>
     cases h;obtain⟨h1,h2,h3⟩:=ET e2;obtain⟨k,_,hk⟩:=mL e;obtain⟨ep,_⟩:=rq e;refine⟨?_,?_,λt v ht ha=>?_⟩
     ·show p.name::namesOf z=n::ns;rw[h1,ep]
     ·exact(List.Perm.cons p.name h2).trans (oX hk)
     ·obtain⟨u,a1,a2⟩:=all_cons.mp (CV hk ht ha);exact all_cons.mpr ⟨u,a1,h3 u v (gp ht a1) a2⟩
theorem Dc {st:Vapatc.State} {t:aJ} {r:ag} (hg:Good st) (ht:st.tree=some t) (hp:(namesOf r).Perm (namesOf st.row)) (ha:∀v,br t->appliedAll t (stepsOf st.row)=some v->∃v',appliedAll t (stepsOf r)=some v'):Good {st with row:=r}:=by
 unfold Good at hg⊢;rw[ht] at hg;simp only[ht];obtain⟨hsm,hri,⟨hun,v,hv⟩,hl,hnm⟩:=hg;refine⟨hsm,hri,⟨hp.nodup_iff.mpr hun,ha v hri hv⟩,?_,λp hpm=>?_⟩
 ·have:=hp.length_eq;rw[cz,cz] at this;omega
 ·have:p.name∈namesOf st.row:=hp.mem_iff.mp (List.mem_map.mpr ⟨p,hpm,rfl⟩);obtain⟨q,hq,e⟩:=List.mem_map.mp this;rw[<-e];exact hnm q hq
theorem TF {r r':ag} {n:Nat} (h:Vapatc.without r n=some r'):(namesOf r').Sublist (namesOf r):=by
 unfold Vapatc.without at h;cases e:placeOf r n with
 |none=>rw[e] at h;cases h
 |some k=>
  rw[e] at h;simp only[Option.bind_some] at h;cases e2:r.drop k with
  |nil=>rw[e2] at h;cases h
  |cons p l=>
   rw[e2] at h;simp only at h;cases e3:Vapatb.behind p.step (stepsOf l) with
   |error m=>rw[e3] at h;cases h
   |ok x=>
    obtain⟨l1,p2⟩:=x;rw[e3] at h;cases h;have hl:=gq e3;rw[iy] at hl;rw[dA,k7 _ _ (by rw[cz,hl])];have er:r=r.take k++p::l:=by rw[<-e2,List.take_append_drop]
    conv=>rhs;rw[er,dA]
    exact List.Sublist.append (List.Sublist.refl _) (List.sublist_cons_self _ _)
theorem Ld {st:Vapatc.State} {t:aJ} {r:ag} (hg:Good st) (ht:st.tree=some t) (hs:(namesOf r).Sublist (namesOf st.row)) (hf:qf t r):Good {st with row:=r}:=by
 unfold Good at hg⊢;rw[ht] at hg;simp only[ht];obtain⟨hsm,hri,_,hl,hnm⟩:=hg;refine⟨hsm,hri,hf,?_,λp hpm=>?_⟩
 ·have:=hs.length_le;rw[cz,cz] at this;omega
 ·have:p.name∈namesOf st.row:=hs.subset (List.mem_map.mpr ⟨p,hpm,rfl⟩);obtain⟨q,hq,e⟩:=List.mem_map.mp this;rw[<-e];exact hnm q hq
theorem Good.start:Good Vapatc.start:=rfl
theorem Lc {st:Vapatc.State} (hg:Good st) (c:Vapatc.Call):Good (Vapatc.step st c).1:=by
 cases c with
 |tree l=>
  simp only[Vapatc.step];cases e:whole Vapatb.readTree l with
  |none=>exact hg
  |some t=>exact⟨SS e,SR e,⟨List.nodup_nil,t,rfl⟩,Nat.zero_le _,λp hp=>by cases hp⟩
 |add n l=>
  cases ht:st.tree with
  |none=>
   have:Vapatc.step st (.add n l)=(st,[-8]):=by simp only[Vapatc.step,Vapatc.doAdd,Vapatc.onTree,ht];rfl
   rw[this];exact hg
  |some t=>
   by_cases hz:0<=n/\n<=99
   ·rw[AE ht hz];cases e:whole readStep l with
    |none=>exact hg
    |some p=>
     simp only
     split
     ·exact hg
     ·rename_i hc
      split
      ·exact hg
      ·rename_i hl
       have hg':=hg;unfold Good at hg';rw[ht] at hg';obtain⟨_,_,⟨_,u,hu⟩,_,_⟩:=hg';obtain⟨k1,k2⟩:=good_add (n:=n.toNat) (p:=p) hg ht (by omega) (λq=>hc (List.contains_iff_mem.mpr q)) (by omega) hu;rw[k1];cases e2:applied u p with
       |none=>exact hg
       |some v=>exact k2 v e2
   ·rw[uE ht hz];exact hg
 |row=>simp only[Vapatc.step,Vapatc.look,Vapatc.onTree];split<;>exact hg
 |outcome=>simp only[Vapatc.step,Vapatc.onTree];split<;>exact hg
 |needs n=>simp only[Vapatc.step,Vapatc.onPatch,Vapatc.onTree];split<;>first|exact hg|(split<;>exact hg)
 |neededBy n=>simp only[Vapatc.step,Vapatc.onPatch,Vapatc.onTree];split<;>first|exact hg|(split<;>exact hg)
 |fronts=>simp only[Vapatc.step,Vapatc.look,Vapatc.onTree];split<;>exact hg
 |form=>simp only[Vapatc.step,Vapatc.look,Vapatc.onTree];split<;>exact hg
 |equal l=>simp only[Vapatc.step,Vapatc.onTree];split<;>exact hg
 |count=>simp only[Vapatc.step,Vapatc.look,Vapatc.onTree];split<;>exact hg
 |kth k=>simp only[Vapatc.step,Vapatc.onTree];split<;>first|exact hg|(split<;>exact hg)
 |rank=>simp only[Vapatc.step,Vapatc.look,Vapatc.onTree];split<;>exact hg
 |order l=>
  cases ht:st.tree with
  |none=>
   have:Vapatc.step st (.order l)=(st,[-8]):=by simp only[Vapatc.step,Vapatc.onNames,Vapatc.onTree,ht];rfl
   rw[this];exact hg
  |some t=>
   simp only[Vapatc.step,Vapatc.onNames,Vapatc.onTree,ht]
   split
   ·split
    ·exact hg
    ·split
     ·rename_i m r e
      obtain⟨_,h2,h3⟩:=ET e;exact Dc hg ht h2 λv hr ha=>⟨v,h3 t v hr ha⟩
     ·exact hg
   ·exact hg
 |pick l=>
  cases ht:st.tree with
  |none=>
   have:Vapatc.step st (.pick l)=(st,[-8]):=by simp only[Vapatc.step,Vapatc.onNames,Vapatc.onTree,ht];rfl
   rw[this];exact hg
  |some t=>
   simp only[Vapatc.step,Vapatc.onNames,Vapatc.onTree,ht]
   split
   ·obtain⟨x,y,e,hL⟩:=Fe hg.unlike (l.map Int.toNat);rw[e];exact Dc hg ht hL.pm λv hr ha=>⟨v,hL.app t v hr ha⟩
   ·exact hg
 |drop n=>
  cases ht:st.tree with
  |none=>
   have:Vapatc.step st (.drop n)=(st,[-8]):=by simp only[Vapatc.step,Vapatc.onPatch,Vapatc.onTree,ht];rfl
   rw[this];exact hg
  |some t=>
   simp only[Vapatc.step,Vapatc.onPatch,Vapatc.onTree,ht]
   split
   ·cases e:Vapatc.without st.row n.toNat with
    |none=>exact hg
    |some r=>
     have hg':=hg;unfold Good at hg';rw[ht] at hg';exact Ld hg ht (TF e) (TB e hg'.2.1 hg'.2.2.1)
   ·exact hg
end PR
namespace PR
open PySem PySem.Spec PyProof.Rows L2
theorem Tw (c:List (List Int)):PyVapatc.whole c=c:=by
 unfold PyVapatc.whole
 split<;>rfl
theorem Io {p:Int} {L:List Int} {y:List (List Int)×List Int} (h:PyFlat.call PyVapatc.shape (p::L)=some y):∃nk,PyVapatc.shape p=some nk:=by
 simp only[PyFlat.call] at h;cases e:PyVapatc.shape p with
 |none=>rw[e] at h;cases h
 |some nk=>exact⟨nk,rfl⟩
theorem NL {st:Vapatc.State} (h:Good st) (c:List (List Int)):Good (VapatcNeutral.step st c).1:=by
 unfold VapatcNeutral.step;cases VapatcNeutral.callOf c with
 |none=>exact h
 |some k=>exact Lc h k
def F8 (K:PySem.W.Frag) (a:Ad):Sp:=λvs H Q _=>∃(v vp vc:V) (st:Vapatc.State) (p x:Int) (r:List Int) (n:Nat) (nk:Nat×Nat),vs=[v,vc]/\cp K a H v vp st/\Good st/\ur a H vc p x r n/\PyVapatc.shape p=some nk/\PyInside.call PyVapatc.bound (dB p x r)=true/\After K a H v vp (VapatcNeutral.step st (dB p x r)) Q
def F3 (K:PySem.W.Frag):Sp:=λvs H Q _=>∃(l:Addr) (ns:List Int),vs=[.ref l]/\ak K H l (ns.map V.int)/\ns.length<=17000/\PyVapatc.answers_asked ns=true/\∀(H':Hp) (p:Addr),H' p=some (.lst ((PyVapatc.answers ns).map V.int))->Q (.ref p) H'
theorem Tx.Ii (T:Tx K mg a d):a.Call≠a.aH:=by
 have:=T.distinct;simp only[List.nodup_cons,List.mem_cons,List.not_mem_nil,or_false,not_or] at this;obtain⟨_,_,_,_,_,_,_,_,h8,_⟩:=this;exact λz=>h8 z.symm
theorem Ot (T:Tx K mg a d) {k:Nat} (hk:3<=k) (hao:aA P w K mg base aL k a.gL d.gL ["history","call"] (F8 K a)):aA P w K mg base aL (k+1) a.answers d.answers ["calls"] (F3 K):=by
 refine T.Cj.ok lX (λvs H Q E h=>?_) (λcdv A outer s H vs Q E hr h=>?_)
 ·obtain⟨l,ns,rfl,_⟩:=h;rfl
 ·obtain⟨l,cs,rfl,hl,hlen,hask,fin⟩:=h;refine⟨_,ah (aF (i:=1) lX.nd rfl (Or.inl rfl) (O5 T.Nr (N4 T) (hr.mono (by omega)) (by rfl) T.MP T.Hg .nil au))
   (ah (aF (i:=2) lX.nd rfl (Or.inl rfl) (bj ae))
   (ah (aF (i:=3) lX.nd rfl (Or.inl rfl) aR)
   (ah (x9 PassesOwn.never (aX ie (pv 3) (bh bH (by rfl) T.bC PySem.boot_len (aa (pv 0) ae)) (aV _))
    (ah (aF (i:=4) lX.nd rfl (Or.inl rfl) (aB (OG T) (hr.mono hk) (by rfl) T.Na T.Cz.kp T.HP .nil au (aa (pv 0) (aa (pv 3) ae))))
    (ah (aF (i:=5) lX.nd rfl (Or.inl rfl) (aB hao hr (by rfl) T.MQ T.Cd.kp T.Hv .nil au (aa (pv 1) (aa (pv 4) ae))))
    (ah (dH (eC PySem.F.plainAttrs_list PySem.F.slot_list_append PySem.F.type_list_append hJ (pv 2) (aa (bh bH (by rfl) T.bC PySem.boot_len (aa (pv 5) ae)) ae)))
    (ah (dH (eC PySem.F.plainAttrs_list PySem.F.slot_list_extend PySem.F.type_list_extend xj (pv 2) (aa (pv 5) ae)))
    (aj (aF (i:=3) lX.nd rfl (Or.inl rfl) (ao (pv 4) rfl))))))))
   (aj (aq (pv 2)))))),?_⟩
  have hraw:∃raw,PyFlat.calls PyVapatc.shape cs.length cs=some raw/\raw.all (PyInside.call PyVapatc.bound)=true/\PyVapatc.answers cs=PyFlat.told (PyFlat.played VapatcNeutral.step VapatcNeutral.start raw)/\(PyVapatc.answers cs).length<=10000000:=by
   unfold PyVapatc.answers_asked at hask;cases e:PyFlat.calls PyVapatc.shape cs.length cs with
   |none=>rw[e] at hask;cases hask
   |some raw=>
    rw[e] at hask;simp only[Bool.and_eq_true] at hask;refine⟨raw,rfl,hask.1.1.2,?_,of_decide_eq_true hask.2⟩;unfold PyVapatc.answers PyVapatc.calls;rw[e];have:raw.map PyVapatc.whole=raw:=by
     conv=>rhs;rw[<-List.map_id raw]
     exact List.map_congr_left λc _=>Tw c
    simp only[this]
  obtain⟨raw0,hraw,hin,hans,htot⟩:=hraw;intro x dx nx nd _;refine⟨x,dx,rfl,az,λl0 H1 S1 n1 e1 h1=>⟨rfl,?_⟩⟩;have s01:af H H1:=λb o e=>S1 b o (by rw[aT (bq e nx),aT (bq e nd)];exact e) (bq e nx);refine⟨Nat.zero_le _,λL H2 n2 s2 e2=>?_⟩;have hist2:cp K a H2 (.ref x) (.ref l0) Vapatc.start:=cp.same (st:=Vapatc.start) ⟨x,dx,.aI,rfl,h1,⟨l0,[],rfl,e1,.nil⟩,rfl⟩ s2;have nl0:V.ref l0≠ .ref L:=λz=>by cases z;rw[e1] at n2;cases n2
  have nxL:x≠L:=λz=>by rw[z] at h1;rw[h1] at n2;cases n2
  have hLn:H L=none:=by
   cases q:H L with
   |none=>rfl
   |some o=>rw[s01 _ _ q] at n2;cases n2
  refine Aq (λm σ H'=>∃(i:Nat) (st:Vapatc.State) (vp:V) (acc:List Int) (raw:List (List (List Int))) (f:Nat) (v4 v5:Option V),σ=[some (.ref l),some (.ref x),some (.ref L),some (.int (i:Nat)),v4,v5]/\i<=cs.length/\cs.length-i=m/\af H H'/\cp K a H' (.ref x) vp st/\Good st/\vp≠ .ref L/\
   H' L=some (.lst (acc.map V.int))/\PyFlat.calls PyVapatc.shape f (cs.drop i)=some raw/\raw.all (PyInside.call PyVapatc.bound)=true/\acc++PyFlat.told (PyFlat.played VapatcNeutral.step st raw)=PyVapatc.answers cs) cs.length ?_ ?_
  ·exact⟨0,Vapatc.start,.ref l0,[],raw0,cs.length,none,none,rfl,Nat.zero_le _,rfl,s01.trans s2,hist2,Good.start,nl0,e2,hraw,hin,hans.symm⟩
  ·rintro m σ H3 ⟨i,st,vp,acc,raw,f,v4,v5,rfl,hi,rfl,s3,hh,hg,nvp,hL3,hcalls,hin,hacc⟩;refine⟨decide ((i:Int)<((cs.map V.int).length:Int)),H3,λQ q=>⟨_,rfl,_,rfl,l,_,rfl,.inl (p6 hl s3),_,_,rfl,rfl,_,rfl,q⟩,λz=>?_,λz=>?_⟩
   ·have hilt:i<cs.length:=by have:=of_decide_eq_true z;rw[List.length_map] at this;omega
    obtain⟨p0,L0,eL⟩:∃p0 L0,cs.drop i=p0::L0:=⟨_,_,List.drop_eq_getElem_cons hilt⟩
    cases f with
    |zero=>rw[eL] at hcalls;cases hcalls
    |succ f=>
     rw[eL] at hcalls;simp only[PyFlat.calls] at hcalls;rw[<-eL] at hcalls;cases ec:PyFlat.call PyVapatc.shape (cs.drop i) with
     |none=>rw[ec] at hcalls;cases hcalls
     |some ct=>
      obtain⟨c,t⟩:=ct;rw[ec] at hcalls;simp only at hcalls;cases ec2:PyFlat.calls PyVapatc.shape f t with
      |none=>rw[ec2] at hcalls;cases hcalls
      |some raw'=>
       rw[ec2] at hcalls;cases hcalls;obtain⟨p,y,r,n,rd,rfl,hn⟩:=Im ec;obtain⟨L',eL'⟩:=rd.kind;obtain⟨nk,hshape⟩:=Io (by rw[<-eL'];exact ec);rw[List.all_cons,Bool.and_eq_true] at hin;have hg':=NL hg (dB p y r);have hacc2:acc++(((VapatcNeutral.step st (dB p y r)).2.length:Int)::(VapatcNeutral.step st (dB p y r)).2)++PyFlat.told (PyFlat.played VapatcNeutral.step (VapatcNeutral.step st (dB p y r)).1 raw')=PyVapatc.answers cs:=by
        rw[<-hacc,List.append_assoc];rfl
       have hnle:i+n<=cs.length:=by
        cases c2:([0,1,8,12,13]:List Int).contains p with
        |true=>
         obtain⟨_,_,_,_,hle⟩:=rd.lst c2;rw[List.length_drop] at hle;omega
        |false=>
         obtain⟨_,en⟩:=rd.Ee c2;cases c1:([1,4,5,10,14]:List Int).contains p with
         |false=>rw[c1] at en;have:n=1:=en;omega
         |true=>
          rw[c1] at en;have en:n=2:=en;have h1:=rd.num c1;have:=(List.getElem?_eq_some_iff.mp h1).1;rw[List.length_drop] at this;omega
       have hrest:cs.drop (i+n)=t:=by rw[rd.rest,List.drop_drop]
       refine⟨_,rfl,_,rfl,l,cs,i,p,y,r,t,n,rfl,p6 hl s3,rd,λH4 vc s4 ca=>?_⟩;refine⟨_,rfl,_,rfl,.ref x,vp,vc,st,p,y,r,i+n,nk,rfl,hh.same s4,hg,ca,hshape,hin.1,λH5 va vp' S5 h5 hvp i5=>?_⟩;have S5:=S5 x rfl;generalize VapatcNeutral.step st (dB p y r)=rs at hg' hacc2 h5 i5;obtain⟨st',an⟩:=rs;simp only at hg' hacc2 h5 i5;obtain⟨fr5,l5,rfl,hl5⟩:=i5;have hL4:=s4 _ _ hL3;have n5L:l5≠L:=λq=>by have:=fr5 l5 rfl;rw[q,hL4] at this;cases this
       have hL5:=S5 _ _ hL4 (Ne.symm nxL);have s5:af H H5:=af.bY (s3.trans s4) S5 nx;obtain⟨yc,dy,lr,rfl,hyc,hlr⟩:=ca;obtain⟨x4,dx4,vs4,ex4,hx4,_⟩:=hh.same s4;cases ex4;have nyx:yc≠x:=ft hyc hx4 T.Ii;have hyc5:=S5 _ _ hyc nyx;have nyL:yc≠L:=bP hyc hL4 (by intro q;cases q);have htl:=congrArg List.length hacc2;rw[List.length_append,List.length_append,List.length_cons] at htl;have hsl:sizeLine=16777216:=sizeLine_eq;have nvp':vp'≠ .ref L:=by
        rcases hvp with q|q
        ·rw[q];exact nvp
        ·intro z;have:=q L z;rw[hL4] at this;cases this
       have hlan:(an.map V.int).length=an.length:=List.length_map _;refine⟨_,rfl,.inl ⟨rfl,_,ak.of hL5⟩,_,rfl,l5,_,rfl,.inl (ak.of hl5),L,_,_,rfl,rfl,hL5,(by rw[List.length_map];omega),?_⟩;have S6:ax L H5 (upd H5 L (.lst (acc.map V.int++[V.int ((an.map V.int).length:Int)]))):=ax.upd;have hL6:(upd H5 L (.lst (acc.map V.int++[V.int ((an.map V.int).length:Int)]))) L=some (.lst (acc.map V.int++[V.int ((an.map V.int).length:Int)])):=az;generalize upd H5 L (.lst (acc.map V.int++[V.int ((an.map V.int).length:Int)]))=H6 at S6 hL6⊢;have hl6:=S6 _ _ hl5 n5L;refine⟨_,rfl,.inl ⟨rfl,_,ak.of hL6⟩,_,rfl,L,l5,_,_,rfl,rfl,hL6,hl6,(by rw[List.length_append,List.length_map,List.length_map];show acc.length+1+_<=_;omega),?_⟩;have S7:ax L H6 (upd H6 L (.lst ((acc.map V.int++[V.int ((an.map V.int).length:Int)])++an.map V.int))):=ax.upd;have hL7:(upd H6 L (.lst ((acc.map V.int++[V.int ((an.map V.int).length:Int)])++an.map V.int))) L=some (.lst ((acc.map V.int++[V.int ((an.map V.int).length:Int)])++an.map V.int)):=az;generalize upd H6 L (.lst ((acc.map V.int++[V.int ((an.map V.int).length:Int)])++an.map V.int))=H7 at S7 hL7⊢;have S57:=S6.trans S7;refine⟨_,rfl,yc,a.Call,dy,_,_,rfl,S57 _ _ hyc5 nyL,T.dM,T.Ef,Kz,?_⟩;refine⟨cs.length-(i+n),by omega,i+n,st',vp',acc++((an.length:Int)::an),raw',f,_,_,rfl,hnle,rfl,af.bY s5 S57 hLn,h5.xL S57 hL5 nvp',hg',nvp',?_,by rw[hrest];exact ec2,hin.2,hacc2⟩;rw[hL7,hlan];simp only[List.map_append,List.map_cons,List.append_assoc,List.cons_append,List.nil_append]
   ·have hie:i=cs.length:=by have:=of_decide_eq_false z;rw[List.length_map] at this;omega
    rw[hie,List.drop_length] at hcalls;have:raw=[]:=by cases f<;>(cases hcalls;rfl)
    subst this;have hacc:acc=PyVapatc.answers cs:=by rw[<-hacc];simp[PyFlat.played,PyFlat.told]
    refine⟨_,rfl,fin H3 L ?_⟩;rw[<-hacc];exact hL3
end PR
namespace PR
open PySem PySem.Spec PyProof.Rows L2
open Vapatc (namesOf stepsOf named frontAt front placeOf)
open Vapatb (behind aheadOf)
def bQ:List Nat->ag->ag×ag
 |[],r=>([],r)
 |n::ns,r=>match front r n with
  |none=>([],r)
  |some x=>(x.1::(bQ ns x.2).1,(bQ ns x.2).2)
theorem qF {n:Nat} {ns:List Nat} {r:ag} (h:front r n=none):bQ (n::ns) r=([],r):=by simp only[bQ,h]
theorem oJ {n:Nat} {ns:List Nat} {r rest:ag} {p:bp} (h:front r n=some (p,rest)):bQ (n::ns) r=(p::(bQ ns rest).1,(bQ ns rest).2):=by simp only[bQ,h]
theorem sV {r:ag} {n:Nat} (h:n∈namesOf r):∃k,fR r (n:Int)=some k/\placeOf r n=some k/\k<r.length:=by
 cases e:placeOf r n with
 |none=>
  exfalso;unfold Vapatc.placeOf at e;rw[List.findIdx?_eq_none_iff] at e;obtain⟨p,hp,hn⟩:=List.mem_map.mp h;have:=e p hp;rw[hn] at this;simp at this
 |some k=>
  refine⟨k,by rw[x5,e],rfl,?_⟩;unfold Vapatc.placeOf at e;exact(List.findIdx?_eq_some_iff_getElem.mp e).1
def R0 (K:PySem.W.Frag) (a:Ad):Sp:=λvs H Q _=>∃(v:V) (r:ag) (k:Nat) (p:bp),vs=[v,.int (k:Nat)]/\bw K a H v r/\r[k]?=some p/\r.length<=50/\(∀n,behind p.step (stepsOf (r.drop (k+1)))= .error n->∀H':Hp,af H H'->Q .aI H')/\
 ∀l1 p2,behind p.step (stepsOf (r.drop (k+1)))= .ok (l1,p2)->∀(H':Hp) (v':V),af H H'->bG H v'->bw K a H' v' (r.take k++named (namesOf (r.drop (k+1))) l1)->Q v' H'
theorem OO (T:Tx K mg a d):aA P w K mg base aL 9 a.ml d.ml ["row","place"] (R0 K a):=by
 refine T.CI.ok FV (λvs H Q E h=>?_) (λcdv A outer s H vs Q E hr h=>?_)
 ·obtain⟨v,r,k,p,rfl,_⟩:=h;rfl
 ·obtain⟨v,r,k,p,rfl,⟨l,us,rfl,hl,rv⟩,hp,hlen,k1,k2⟩:=h;refine⟨_,ah (aF (i:=2) FV.nd rfl (Or.inl rfl) (aB (EG T) hr (by rfl) T.DU T.wa.kp T.A8 .nil au (aa (cN eA (pv 0) (pv 1) (λ_ _=>rfl)) (aa (fP iw (pv 0) (fe (bt eO (pv 1) aR)) gC) ae))))
   (ah (aO (aX gj (pv 2) cS (aV _)) (aj (aq cS)) aP)
   (aj (aq (bt eZ (fP iw (pv 0) gC (fe (pv 1))) (pv 2))))),?_⟩
  have ul:=bf.len rv;have hk:=(List.getElem?_eq_some_iff.mp hp).1;obtain⟨vf,hvf,paf⟩:=lE rv hp;refine⟨_,rfl,_,rfl,l,us,_,vf,rfl,rfl,ak.of hl,cK hvf,_,rfl,_,rfl,_,_,rfl,rfl,_,rfl,l,us,rfl,ak.of hl,λS H1 nS s1 hS=>?_⟩;have hS:H1 S=some (.lst (us.drop (k+1))):=by
   rw[hS];exact congrArg (λz=>some (HO.lst z)) (qQ us (k+1) (by omega))
  refine⟨_,_,p,r.drop (k+1),rfl,paf.same s1,⟨S,_,rfl,hS,xT (k+1) (rv.same s1)⟩,by rw[List.length_drop];omega,λn hn H2 s2=>?_,λl1 p2 hb H2 v2 s2 r2=>?_⟩
  ·exact⟨_,rfl,rfl,_,rfl,k1 n hn H2 (s1.trans s2)⟩
  ·obtain⟨l2,ws,rfl,h2,rv2⟩:=r2;have s12:=s1.trans s2;refine⟨_,rfl,rfl,_,rfl,_,rfl,_,rfl,_,rfl,l,us,rfl,ak.of (s12 _ _ hl),λl3 H3 n3 s3 e3=>?_⟩;rw[vE us k (by omega)] at e3;have lw:=bf.len rv2;have hl1:(named (namesOf (r.drop (k+1))) l1).length<=r.length:=by
    unfold Vapatc.named;rw[List.length_map,List.length_zip,cz,List.length_drop];omega
   refine⟨_,rfl,l3,l2,_,_,rfl,rfl,e3,s3 _ _ h2,?_,λl4 H4 n4 s4 e4=>?_⟩
   ·rw[List.length_take];exact Nat.le_of_lt (bU (by omega))
   have s13:=s12.trans s3;refine k2 l1 p2 hb H4 (.ref l4) (s13.trans s4) (bG.of s13 n4) ⟨l4,_,rfl,e4,?_⟩;exact ig (xU k (rv.same (s13.trans s4))) (rv2.same (s3.trans s4))
def Rv (K:PySem.W.Frag) (a:Ad):Sp:=λvs H Q _=>∃(v v2:V) (r:ag) (ns:List Nat),vs=[v,v2]/\bw K a H v r/\bN H v2 (Vapatc.ints ns)/\r.length<=50/\aM r/\ns.Nodup/\(∀n∈ns,n∈namesOf r)/\
 ∀(H':Hp) (t L:Addr) (u:V),af H H'->ba K H' t [.ref L,u]->H L=none->bw K a H' (.ref L) (bQ ns r).1->bw K a H' u (bQ ns r).2->Q (.ref t) H'
theorem Ew (T:Tx K mg a d):aA P w K mg base aL 9 a.kc d.kc ["row","names"] (Rv K a):=by
 refine T.vR.ok nT (λvs H Q E h=>?_) (λcdv A outer s H vs Q E hr h=>?_)
 ·obtain⟨v,v2,r,ns,rfl,_⟩:=h;rfl
 ·obtain⟨v,v2,r,ns,rfl,rv,⟨l,rfl,hl⟩,hlen,hn,eX,hmem,kk⟩:=h;refine⟨_,ah (aF (i:=2) nT.nd rfl (Or.inl rfl) (bj ae))
   (ah (aF (i:=3) nT.nd rfl (Or.inl rfl) (pv 0))
   (ah (fD PassesOwn.never rfl (dQ (pv 1)) (cj (i:=4) nT.nd rfl (Or.inl rfl))
    (ah (aF (i:=5) nT.nd rfl (Or.inl rfl) (aB (xK T) hr (by rfl) T.wX T.rf.kp T.uX .nil au (aa (pv 3) (aa (aB (ic T) (hr.mono (by decide)) (by rfl) T.g0 T.gu.kp T.gN .nil au (aa (pv 3) (aa (pv 4) ae))) ae))))
    (ah (aO (aX gj (pv 5) cS (aV _)) (aj (aq (dP (aa (pv 2) (aa (pv 3) ae))))) aP)
    (ah (dH (eC PySem.F.plainAttrs_list PySem.F.slot_list_append PySem.F.type_list_append hJ (pv 2) (aa (cN eA (pv 5) aR (λ_ _=>rfl)) ae)))
    (aj (aF (i:=3) nT.nd rfl (Or.inl rfl) (fP iw (pv 5) (fe aR) gC)))))))
   (aj (aq (dP (aa (pv 2) (aa (pv 3) ae))))))),?_⟩
  refine⟨Nat.zero_le _,λL H1 nL s1 hL=>?_⟩;have nlL:l≠L:=bq hl nL;have hl1:=s1 _ _ hl;refine⟨_,rfl,_,rfl,l,rfl,⟨_,ak.of hl1⟩,kG (K:=K) (a:=l) (xs:=(Vapatc.ints ns).map V.int) (λi σ H2=>∃(vr:V) (v4 v5:Option V) (rest done:ag) (pvs:List V),σ=[some v,some (.ref l),some (.ref L),some vr,v4,v5]/\ax L H1 H2/\bw K a H2 vr rest/\vr≠ .ref L/\aM rest/\H2 L=some (.lst pvs)/\bf K a H2 pvs done/\
   bQ ns r=(done++(bQ (ns.drop i) rest).1,(bQ (ns.drop i) rest).2)/\rest.length+done.length<=50/\∀n∈ns.drop i,n∈namesOf rest) ?_ ?_ ?_ ?_⟩
  ·refine⟨v,none,none,r,[],[],rfl,ax.refl _ _,rv.same s1,?_,hn,hL,.nil,rfl,by rw[List.length_nil];omega,hmem⟩;obtain⟨l',us,rfl,hl',_⟩:=rv;intro e;cases e;rw[nL] at hl';cases hl'
  ·rintro i σ H' _ ⟨_,_,_,_,_,_,_,S3,_⟩;exact ak.of (S3 _ _ hl1 nlL)
  ·rintro i y σ H2 hy ⟨vr,v4,v5,rest,done,pvs,rfl,S2,rr,nvr,hn2,hL2,rd,eq,hb,hm⟩;obtain⟨n,hni,rfl⟩:∃n,ns[i]?=some n/\y=V.int (n:Nat):=by
    rw[dD,List.getElem?_map] at hy;cases e:ns[i]? with
    |none=>rw[e] at hy;cases hy
    |some t=>rw[e] at hy;exact⟨t,rfl,(Option.some.inj hy).symm⟩
   have ed:ns.drop i=n::ns.drop (i+1):=by
    obtain⟨hi,e⟩:=List.getElem?_eq_some_iff.mp hni;rw[List.drop_eq_getElem_cons hi,e]
   rw[ed] at eq hm;obtain⟨k,hk1,hk2,hk3⟩:=sV (hm n List.mem_cons_self);have hfe:front rest n=frontAt rest k:=by unfold Vapatc.front;rw[hk2];rfl
   refine⟨_,rfl,_,rfl,_,rfl,_,rest,(n:Int),rfl,rr,λk' hk' H4 s4=>?_,λhno=>by rw[hk1] at hno;cases hno⟩;rw[hk1] at hk';cases hk';have hL4:=s4 _ _ hL2;have S4:=S2.trans (af.x s4);refine⟨_,rest,k,rfl,rr.same s4,hk3,by omega,λhno H5 s5=>?_,λp rest2 hfa H5 v5 s5 fr5 r5=>?_⟩
   ·refine⟨_,rfl,rfl,_,rfl,_,rfl,_,rfl,(by show 2<=sizeLine;decide),λt H6 n6 s6 e6=>?_⟩;have s26:=(s4.trans s5).trans s6;rw[qF (hfe.trans hno),List.append_nil] at eq;refine kk H6 t L vr (af.bY s1 (S2.trans (af.x s26)) nL) (ba.of e6) nL ?_ ?_
    ·rw[eq];exact⟨L,pvs,rfl,s26 _ _ hL2,rd.same s26⟩
    ·rw[eq];exact rr.same s26
   ·obtain⟨l5,us5,rfl,h5,rv5⟩:=r5;have s25:=s4.trans s5;have hL5:=s25 _ _ hL2;have pl:=bf.len rd;have hlf:=rn hfa;have nl5:l5≠L:=λe=>by
     have:=fr5 l5 rfl;rw[e,hL4] at this;cases this
    cases rv5 with
    |@cons u _ us6 _ pu rv6=>
     refine⟨_,rfl,rfl,_,rfl,_,rfl,.inl ⟨rfl,_,ak.of hL5⟩,_,rfl,l5,_,_,u,rfl,rfl,ak.of h5,cK (j:=0) rfl,L,_,_,rfl,rfl,hL5,bU (by omega),?_⟩;have S6:ax L H5 (upd H5 L (.lst (pvs++[u]))):=ax.upd;have hL6:(upd H5 L (.lst (pvs++[u]))) L=some (.lst (pvs++[u])):=az;have h6:=S6 _ _ h5 nl5;have pu6:=pu.xL S6 hL5;have rv66:=bf.xL rv6 S6 hL5;have rd6:=(rd.same s25).xL S6 hL5;generalize upd H5 L (.lst (pvs++[u]))=H6 at S6 hL6 h6 pu6 rv66 rd6⊢;refine⟨_,rfl,_,rfl,l5,_,rfl,ak.of h6,λl7 H7 n7 s7 e7=>?_⟩;have e7:H7 l7=some (.lst us6):=by
      rw[e7];have:=qQ (u::us6) 1 (by rw[List.length_cons];omega);exact congrArg (λz=>some (HO.lst z)) this
     refine⟨.ref l7,_,_,rest2,done++[p],pvs++[u],rfl,((S2.trans (af.x s25)).trans S6).trans (af.x s7),⟨l7,us6,rfl,e7,rv66.same s7⟩,λe=>?_,(List.nodup_cons.mp (ro hfa hn2)).2,s7 _ _ hL6,ig (rd6.same s7) (.cons (pu6.same s7) .nil),?_,?_,λm hm2=>?_⟩
     ·cases e;rw[n7] at hL6;cases hL6
     ·rw[eq,oJ (hfe.trans hfa),List.append_assoc];rfl
     ·rw[List.length_append,List.length_singleton];omega
     ·have h1:=hm m (List.mem_cons_of_mem _ hm2);have hne:m≠n:=by
       intro e;have hd:(ns.drop i).Nodup:=List.Nodup.sublist (List.drop_sublist _ _) eX;rw[ed] at hd;exact(List.nodup_cons.mp hd).1 (e▸hm2)
      have hp:=(oX hfa).mem_iff.mpr h1;rcases List.mem_cons.mp hp with q|q
      ·exfalso;have:p.name=n:=(rq (hfe.trans hfa)).1;exact hne (q.trans this)
      ·exact q
  ·rintro σ H2 ⟨vr,v4,v5,rest,done,pvs,rfl,S2,rr,nvr,hn2,hL2,rd,eq,hb,hm⟩;rw[List.length_map,show(Vapatc.ints ns).length=ns.length from List.length_map ..,List.drop_length] at eq;have eq:bQ ns r=(done++[],rest):=eq;rw[List.append_nil] at eq;refine⟨_,rfl,_,rfl,(by show 2<=sizeLine;decide),λt H6 n6 s6 e6=>?_⟩;refine kk H6 t L vr (af.bY s1 (S2.trans (af.x s6)) nL) (ba.of e6) nL ?_ ?_
   ·rw[eq];exact⟨L,pvs,rfl,s6 _ _ hL2,rd.same s6⟩
   ·rw[eq];exact rr.same s6
def RN (K:PySem.W.Frag) (a:Ad):Sp:=λvs H Q _=>∃(v v2:V) (r:ag) (ns:List Nat),vs=[v,v2]/\bw K a H v r/\bN H v2 (Vapatc.ints ns)/\r.length<=10/\aM r/\ns.length<=10/\(∀n∈ns,n∈namesOf r)/\
 ∀(H':Hp) (v':V),af H H'->dW H H' v' (Vapatc.ints (Vapatc.closure r ns))->Q v' H'
def gathered (r:ag) (ns:List Nat) (i:Nat):List Nat:=ns++(ns.take i).flatMap (Vapatc.needs r)
theorem K8 (r:ag) (ns:List Nat) (m:Nat):(gathered r ns ns.length).contains m=(ns.contains m||ns.any λx=>(Vapatc.needs r x).contains m):=by
 unfold gathered;rw[List.take_length];rw[Bool.eq_iff_iff,Bool.or_eq_true,List.contains_iff_mem,List.mem_append,List.mem_flatMap,List.contains_iff_mem,List.any_eq_true];simp only[List.contains_iff_mem]
theorem OF (T:Tx K mg a d):aA P w K mg base aL 10 a.lh d.lh ["row","names"] (RN K a):=by
 refine T.Cw.ok pY (λvs H Q E h=>?_) (λcdv A outer s H vs Q E hr h=>?_)
 ·obtain⟨v,v2,r,ns,rfl,_⟩:=h;rfl
 ·obtain⟨v,v2,r,ns,rfl,rv,⟨l,rfl,hl⟩,hlen,hn,hnl,hmem,kk⟩:=h;refine⟨_,ah (aF (i:=2) pY.nd rfl (Or.inr rfl) (lH vj (by rfl) T.ke ke (aa (pv 1) ae)))
   (ah (fD PassesOwn.never rfl (dQ (pv 1)) (cj (i:=3) pY.nd rfl (Or.inl rfl))
    (aj (dH (eC PySem.F.plainAttrs_list PySem.F.slot_list_extend PySem.F.type_list_extend xj (pv 2) (aa (aB (sO T) hr (by rfl) T.rZ T.oV.kp T.qD .nil au (aa (pv 0) (aa (aB (ic T) (hr.mono (by decide)) (by rfl) T.g0 T.gu.kp T.gN .nil au (aa (pv 0) (aa (pv 3) ae))) ae))) ae)))))
   (aj (aq (fB (own:=[("patch",4)]) (te:=iz K (aY 4) "name") (tt:=oq (cW (il K false) (iz K (aY 4) "name") (aY 2))) rfl pY.nd (dQ (pv 0)) (eG (N:=["row","names","picked","name","patch"]) (sc:=ay tO) (by decide+kernel)) (λ_ _ _ _ _=>cj (i:=4) pY.nd rfl (Or.inl rfl))
    (λ_ _ _ _ _=>nR (aX iV (ao (pv 4) rfl) (pv 2) (by with_unfolding_all rfl)))
    (λ_ _ _ _ _=>ao (pv 4) rfl))))),?_⟩
  refine⟨_,rfl,l,_,rfl,.inl (ak.of hl),λL H1 nL s1 hL=>?_⟩;have nlL:l≠L:=bq hl nL;have hl1:=s1 _ _ hl;obtain⟨lr,us,rfl,hlr,rv⟩:=rv;have nrL:lr≠L:=bq hlr nL;have hlr1:=s1 _ _ hlr;have rv1:=rv.same s1;refine⟨_,rfl,l,rfl,⟨_,ak.of hl1⟩,kG (K:=K) (a:=l) (xs:=(Vapatc.ints ns).map V.int) (λi σ H2=>∃(v3 v4:Option V),σ=[some (.ref lr),some (.ref l),some (.ref L),v3,v4]/\ax L H1 H2/\(gathered r ns i).length<=10+10*i/\H2 L=some (.lst ((gathered r ns i).map λ(n:Nat)=>V.int n))) ?_ ?_ ?_ ?_⟩
  ·refine⟨none,none,rfl,ax.refl _ _,?_,?_⟩
   ·show(ns++[]).length<=_;rw[List.append_nil];omega
   ·rw[hL,dD];show _=some (HO.lst ((ns++[]).map _));rw[List.append_nil]
  ·rintro i σ H' _ ⟨_,_,_,S3,_⟩;exact ak.of (S3 _ _ hl1 nlL)
  ·rintro i y σ H2 hy ⟨v3,v4,rfl,S2,hgl,hL2⟩;obtain⟨n,hni,rfl⟩:∃n,ns[i]?=some n/\y=V.int (n:Nat):=by
    rw[dD,List.getElem?_map] at hy;cases e:ns[i]? with
    |none=>rw[e] at hy;cases hy
    |some t=>rw[e] at hy;exact⟨t,rfl,(Option.some.inj hy).symm⟩
   have hi:=(List.getElem?_eq_some_iff.mp hni).1;obtain⟨k,hk1,hk2,hk3⟩:=sV (hmem n (List.mem_of_getElem? hni));have rr2:bw K a H2 (.ref lr) r:=⟨lr,us,rfl,S2 _ _ hlr1 nrL,bf.xL rv1 S2 hL⟩
   refine⟨_,rfl,.inl ⟨rfl,_,ak.of hL2⟩,_,rfl,_,rfl,_,rfl,_,r,(n:Int),rfl,rr2,λk' hk' H4 s4=>?_,λhno=>by rw[hk1] at hno;cases hno⟩;rw[hk1] at hk';cases hk';refine⟨_,r,k,rfl,rr2.same s4,hk3,by omega,λH5 v5 s5 ⟨l5,e5,h5⟩=>?_⟩;subst e5;have hL5:=s5 _ _ (s4 _ _ hL2);have en:nameAt r k=n:=by
    have:=(nO hn hk1).2.2.1;rw[<-this];rfl
   rw[<-iT hn hk3,en,dD] at h5;have hnn:(Vapatc.needs r n).length<=10:=by
    rw[<-en,iT hn hk3,List.length_map];have:=xp (stepsOf r) k;omega
   have egs:gathered r ns (i+1)=gathered r ns i++Vapatc.needs r n:=by
    unfold gathered;rw[take_snoc hni,List.flatMap_append,List.append_assoc];simp
   refine⟨L,l5,_,_,rfl,rfl,hL5,h5,?_,?_⟩
   ·rw[List.length_map,List.length_map];exact Nat.le_of_lt (bU (by omega))
   refine⟨_,_,rfl,(S2.trans (af.x (s4.trans s5))).trans ax.upd,?_,?_⟩
   ·rw[egs,List.length_append];omega
   ·rw[az,egs,List.map_append]
  ·rintro σ H2 ⟨v3,v4,rfl,S2,hgl,hL2⟩;rw[List.length_map,show(Vapatc.ints ns).length=ns.length from List.length_map ..] at hgl hL2;have hlr2:=S2 _ _ hlr1 nrL;have rv2:=bf.xL rv1 S2 hL;have s02:=af.bY s1 S2 nL;refine⟨_,rfl,lr,rfl,⟨_,ak.of hlr2⟩,λD hD=>pE (K:=K) (a:=lr) (xs:=us) (λm H3=>af H2 H3/\H3 D=some (.lst ((Vapatc.ints ((namesOf (r.take m)).filter λn=>(gathered r ns ns.length).contains n)).map V.int))) ?_ ?_ ?_ ?_⟩
   ·exact⟨af.new hD,az⟩
   ·rintro m H3 _ ⟨s3,_⟩;exact ak.of (s3 _ _ hlr2)
   ·rintro m z H3 hz ⟨s3,hD3⟩;obtain⟨p,hp,x,dx,vs,rfl,hx,hst⟩:=ij rv2 hz;have hm:=(List.getElem?_eq_some_iff.mp hp).1;refine⟨rfl,_,rfl,x,a.Patch,dx,_,_,rfl,s3 _ _ hx,T.dv,T.fO,gd,_,rfl,L,_,rfl,.inl (ak.of (s3 _ _ hL2)),rfl,mK _,_,rfl,?_⟩;have ef:namesOf (r.take (m+1))=namesOf (r.take m)++[p.name]:=by rw[take_snoc hp,dA];rfl
    have hfl:((namesOf (r.take m)).filter λn=>(gathered r ns ns.length).contains n).length<=10:=by
     refine Nat.le_trans (List.length_filter_le _ _) ?_;rw[cz,List.length_take];omega
    show if (dc (V.int (p.name:Nat)) _)=true then _ else _
    rw[rH]
    split
    ·rename_i hc
     refine⟨_,rfl,x,a.Patch,dx,_,_,rfl,s3 _ _ hx,T.dv,T.fO,gd,_,hD3,?_,?_⟩
     ·rw[List.length_map];unfold Vapatc.ints;rw[List.length_map];exact bU (by omega)
     ·refine⟨af.write s3 hD,?_⟩;rw[az,ef,List.filter_append];have e1:List.filter (λn=>(gathered r ns ns.length).contains n) [p.name]=[p.name]:=by
       rw[List.filter_eq_self];intro z hz;rw[List.mem_singleton.mp hz];exact hc
      rw[e1];unfold Vapatc.ints;rw[List.map_append,List.map_append];rfl
    ·rename_i hc
     refine⟨s3,?_⟩;rw[ef,List.filter_append];have e1:List.filter (λn=>(gathered r ns ns.length).contains n) [p.name]=[]:=by
      rw[List.filter_eq_nil_iff];intro z hz;rw[List.mem_singleton.mp hz];exact hc
     rw[e1,List.append_nil];exact hD3
   ·rintro H3 ⟨s3,hD3⟩;rw[bf.len rv,List.take_length] at hD3;refine kk H3 (.ref D) (s02.trans s3) ⟨bG.of s02 hD,D,rfl,?_⟩;rw[hD3];unfold Vapatc.closure;have:(λn=>(gathered r ns ns.length).contains n)=λn=>ns.contains n||ns.any λm=>(Vapatc.needs r m).contains n:=funext λn=>K8 r ns n;rw[this]
end PR
namespace PR
open PySem PySem.Spec PyProof.Rows L2
open VapatBase (appliedAll applied whole readStep readNat readTimes readListed readPair flatStep)
open Vapatc (namesOf stepsOf okRow readPatch rowOf rowTold)
def tE (t:aJ) (R:Option (ag×List Int)):Option ag:=match R with
 |some (r,[])=>if okRow t r then some r else none
 |_=>none
theorem P5 {t:aJ} {ns:List Int} (h:readNat 0 10 ns=none):rowOf t ns=none:=by
 unfold Vapatc.rowOf VapatBase.whole VapatBase.readListed;rw[show readNat 0 Vapatc.ROW ns=none from h];rfl
theorem P4 {t:aJ} {ns rest:List Int} {n:Nat} (h:readNat 0 10 ns=some (n,rest)):rowOf t ns=tE t (readTimes readPatch n rest):=by
 unfold Vapatc.rowOf VapatBase.whole VapatBase.readListed;rw[show readNat 0 Vapatc.ROW ns=some (n,rest) from h];simp only[Option.bind_some];cases readTimes readPatch n rest with
 |none=>rfl
 |some u=>
  obtain⟨r,x⟩:=u;cases x<;>rfl
theorem En {t:aJ} {fs rest:ag} {p:bp} (h:okRow t (fs++p::rest)=true):p.name∉namesOf fs/\∃u v,appliedAll t (stepsOf fs)=some u/\applied u p.step=some v:=by
 unfold Vapatc.okRow at h;rw[Bool.and_eq_true,Bool.and_eq_true] at h;obtain⟨_,h2,h3⟩:=h;refine⟨?_,?_⟩
 ·rw[List.all_eq_true] at h2;have hm:(p,fs.length)∈(fs++p::rest).zipIdx:=by
   rw[List.mem_iff_getElem?];refine⟨fs.length,?_⟩;rw[List.getElem?_zipIdx,List.getElem?_append_right (Nat.le_refl _)];simp
  have:=h2 _ hm;rw[Bool.and_eq_true,Bool.not_eq_true',<-Bool.not_eq_true,List.contains_iff_mem,List.take_left' rfl] at this;exact this.2
 ·obtain⟨v,hv⟩:=Option.isSome_iff_exists.mp h3;rw[fU] at hv;obtain⟨u,h4,h5⟩:=all_append.mp hv;obtain⟨v',h6,_⟩:=all_cons.mp h5;exact⟨u,v',h4,h6⟩
theorem Fy {t:aJ} {R X:Option (ag×List Int)} {fs:ag} {p:bp} (e:R=X.map λv=>((fs++[p])++v.1,v.2)) (h:∀rest,okRow t (fs++p::rest)=true->False):tE t R=none:=by
 subst e;cases X with
 |none=>rfl
 |some v=>
  obtain⟨r,x⟩:=v;cases x with
  |cons z zs=>rfl
  |nil=>
   show(if okRow t ((fs++[p])++r) then _ else none)=none;rw[if_neg];intro q;rw[List.append_assoc] at q;exact h r q
theorem Fw (x:List Int):readPatch x=(readNat 0 99 x).bind λu=>(λn y=>(readStep y).map λv=>((⟨n,v.1⟩:bp),v.2)) u.1 u.2:=by
 show(((readNat 0 99 x).bind λu=>(readStep u.2).map λv=>((u.1,v.1),v.2)).map _)=_;cases readNat 0 99 x with
 |none=>rfl
 |some u=>
  simp only[Option.bind_some];cases readStep u.2<;>rfl
theorem PN {x y:List Int} {p:bp} (h:readPatch x=some (p,y)):p.name<=99:=by
 rw[Fw] at h;cases e:readNat 0 99 x with
 |none=>rw[e] at h;cases h
 |some u=>
  rw[e] at h;simp only[Option.bind_some] at h;cases e2:readStep u.2 with
  |none=>rw[e2] at h;cases h
  |some v=>rw[e2] at h;cases h;exact D3 e
theorem cU.xR {H H':Hp} {r dr:Addr} {fs:List (Str×V)} {v:V} {p:bp} (T:Tx K mg a d) (h:cU K a H v p) (s:ax r H H') (hr:H r=some (.ins a.Reader dr fs)):cU K a H' v p:=by
 obtain⟨x,dx,vs,e,q,st⟩:=h;exact⟨x,dx,vs,e,s _ _ q (ft q hr T.dist.dp),st.x T.dist s hr⟩
def RT (K:PySem.W.Frag) (a:Ad):Sp:=λvs H Q E=>∃(r l:Addr) (ns:List Int) (i:Nat),vs=[.ref r]/\cJ K a H r l ns i/\i<=ns.length/\bx K a readPatch (λp v H=>cU K a H v p) H r l ns i Q E
theorem OJ (T:Tx K mg a d):aA P w K mg base (dJ P w) 6 a.lR d.lR ["reader"] (RT K a):=by
 refine T.CC.fz FT (λvs H Q E h=>?_) (λcdv A outer s H vs Q E hr h=>?_)
 ·obtain⟨r,l,ns,i,rfl,_⟩:=h;rfl
 ·obtain⟨r,l,ns,i,rfl,R,hi,k⟩:=h;obtain⟨t1,ht1⟩:=T.BJ;refine⟨_,ah (aF (i:=1) FT.nd rfl (Or.inl rfl) (cI (pv 0) T.bR T.gZ (h9 T) (hr.mono (by decide)) T.gM .nil bF.passes (aa aR (aa (aU (v:= .int 99) (by rfl) ht1 ⟨_,rfl⟩) ae))))
   (aj (aq (di T.sg (sJ T) (hr.mono (by decide)) (by rfl) T.rV T.qA .nil au (aa (pv 1) (aa (aB (EH T) hr (by rfl) T.DV T.wb.kp T.A9 .nil bF.passes (aa (pv 0) ae)) ae))))),?_⟩
  obtain⟨dx,h0⟩:=R.ins;refine⟨_,rfl,r,dx,_,rfl,h0,gR,r,l,ns,i,0,99,rfl,R,hi,k.step (g:=λn y=>(readStep y).map λv=>((⟨n,v.1⟩:bp),v.2)) Fw ?_⟩;rintro f v H1 j R1 hj S1 hv k1;have hv:v= .int f:=hv;subst hv;refine⟨_,rfl,_,rfl,r,l,ns,j,rfl,R1,hj,k1.step (g:=λp y=>some (⟨f,p⟩,y)) (λx=>by cases readStep x<;>rfl) ?_⟩;rintro p v H2 j2 R2 hj2 S2 hv k2;intro x dx nx nd ne;refine⟨x,dx,_,_,rfl,az,rfl,?_⟩;have sm:=eK (o1:= .own x) (o2:= .ins a.Patch dx []) (o3:= .ins a.Patch dx (cZ (.int f) v)) nx nd;exact k2.ret rfl (R2.same sm) hj2 (af.x sm) ⟨x,dx,v,rfl,az,hv.same sm⟩
end PR
namespace PR
open PySem PySem.Spec PyProof.Rows L2
open VapatBase (appliedAll applied whole readStep readNat readTimes readListed readPair flatStep)
open Vapatc (namesOf stepsOf okRow readPatch rowOf rowTold)
theorem cJ.xL {H H':Hp} {r l L:Addr} {ns:List Int} {j:Nat} {xs:List V} (R:cJ K a H r l ns j) (S:ax L H H') (hL:H L=some (.lst xs)) (hne:l≠L):cJ K a H' r l ns j:=by
 obtain⟨⟨dx,h⟩,hl,ne⟩:=R;exact⟨⟨dx,S _ _ h (bP h hL (by intro z;cases z))⟩,S.p5 hne hl,ne⟩
theorem Fj {r:ag} {n:Nat}:fR r (n:Int)=none↔n∉namesOf r:=by
 constructor
 ·intro h hm;obtain⟨k,hk,_⟩:=sV hm;rw[h] at hk;cases hk
 ·intro h;cases e:fR r (n:Int) with
  |none=>rfl
  |some k=>
   exfalso;obtain⟨p,hp,hn⟩:=xZ e;exact h (List.mem_map.mpr ⟨p,List.mem_of_getElem? hp,by omega⟩)
def RU (K:PySem.W.Frag) (a:Ad):Sp:=λvs H Q E=>∃(l:Addr) (ns:List Int) (v:V) (t:aJ),vs=[.ref l,v]/\H l=some (.lst (ns.map V.int))/\bJ K H v t/\Small 12 6 t/\
 match rowOf t ns with
 |some r=>∀(H':Hp) (v':V),af H H'->bw K a H' v' r->r.length<=10->aM r->Q v' H'
 |none=>∀H':Hp,af H H'->E (.ref a.dX) none H'
theorem OL (T:Tx K mg a d):aA P w K mg base (dJ P w) 7 a.lU d.lU ["numbers","tree"] (RU K a):=by
 refine T.CF.fz lY (λvs H Q E h=>?_) (λcdv A outer s H vs Q E hr h=>?_)
 ·obtain⟨l,ns,v,t,rfl,_⟩:=h;rfl
 ·obtain⟨l,ns,v,t,rfl,hl,ht,hsm,k⟩:=h;obtain⟨t1,ht1⟩:=T.BK;refine⟨_,ah (aF (i:=2) lY.nd rfl (Or.inl rfl) (di T.xc (xF T) (hr.mono (by decide)) (by rfl) T.wW T.uT .nil au (aa (pv 0) ae)))
   (ah (aF (i:=3) lY.nd rfl (Or.inl rfl) (bj ae))
   (ah (aF (i:=4) lY.nd rfl (Or.inl rfl) (pv 1))
   (ah (fD PassesOwn.leaving rfl (pO (by rfl) T.kf (aa (cI (pv 2) T.bR T.gZ (h9 T) (hr.mono (by decide)) T.gM .nil bF.passes (aa aR (aa (aU (v:= .int 10) (by rfl) ht1 ⟨_,rfl⟩) ae))) ae))
    (cj (i:=5) lY.nd rfl (Or.inl rfl))
    (ah (aF (i:=6) lY.nd rfl (Or.inl rfl) (aB (OJ T) hr (by rfl) T.Nd T.CC.kp T.HS .nil bF.passes (aa (pv 2) ae)))
    (ah (aO (aX xQ (aB (ic T) (hr.mono (by decide)) (by rfl) T.g0 T.gu.kp T.gN .nil au (aa (pv 3) (aa (ao (pv 6) rfl) ae))) cS (aV _)) (aj (iY T.gk (by rfl) T.gi rfl bF (aa iW ae))) aP)
    (ah (aO (pP (eD (aB (Ey T) (hr.mono (by decide)) (by rfl) T.DM T.vT.kp T.AY .nil au (aa (ao (pv 6) rfl) (aa (pv 4) ae))))) (aj (iY T.gk (by rfl) T.gi rfl bF (aa iW ae))) aP)
    (ah (aF (i:=4) lY.nd rfl (Or.inl rfl) (aB (Es T) (hr.mono (by decide)) (by rfl) T.DI T.vP.kp T.AU .nil au (aa (ao (pv 6) rfl) (aa (pv 4) ae))))
    (aj (dH (eC PySem.F.plainAttrs_list PySem.F.slot_list_append PySem.F.type_list_append hJ (pv 3) (aa (pv 6) ae)))))))))
   (ah (dH (dk (pv 2) T.bR T.wQ (xG T) (hr.mono (by decide)) T.uU .nil bF.passes))
   (aj (aq (pv 3))))))),?_⟩
  refine⟨_,rfl,?_⟩;intro r dx nr nd ne;refine⟨r,dx,_,rfl,az,rfl,?_⟩;have s1:=eK (o1:= .own r) (o2:= .ins a.Reader dx []) (o3:= .ins a.Reader dx (cw (.ref l) (.int 0))) nr nd;have h1:(upd (upd (upd H dx (.own r)) r (.ins a.Reader dx [])) r (.ins a.Reader dx (cw (.ref l) (.int 0)))) r=some (.ins a.Reader dx (cw (.ref l) (.int 0))):=az;generalize upd (upd (upd H dx (.own r)) r (.ins a.Reader dx [])) r (.ins a.Reader dx (cw (.ref l) (.int 0)))=H1 at s1 h1⊢;refine⟨Nat.zero_le _,λL H2 nL s2 hL=>?_⟩;have R2:cJ K a H2 r l ns 0:=⟨⟨dx,s2 _ _ h1⟩,ak.of (s2 _ _ (s1 _ _ hl)),bq hl nr⟩
  have HL:H L=none:=s1.free nL;have nLr:L≠r:=Ne.symm (bq h1 nL);have nlL:l≠L:=bq hl HL;have s02:=s1.trans s2;refine⟨_,rfl,_,rfl,r,dx,_,rfl,s2 _ _ h1,gR,r,l,ns,0,0,10,rfl,R2,Nat.zero_le _,?_⟩;unfold bx;rw[List.drop_zero];cases e:readNat 0 10 ns with
  |none=>
   rw[P5 e] at k;exact λH' S=>k H' (af.bY s02 S nr)
  |some u=>
   obtain⟨n,rest⟩:=u;rw[P4 e] at k;have hn:=(fg e).2;intro H3 v3 j R3 hd hj S3 hv;have hv:v3= .int n:=hv;subst hv hd;have kN:tE t (readTimes readPatch n (ns.drop j))=none->∀H':Hp,af H H'->E (.ref a.dX) none H':=λz=>by rw[z] at k;exact k
   have kS:∀u,tE t (readTimes readPatch n (ns.drop j))=some u->∀(H':Hp) (v':V),af H H'->bw K a H' v' u->u.length<=10->aM u->Q v' H':=λu z=>by rw[z] at k;exact k
   have hL3:=S3 _ _ hL nLr;have s03:=af.bY s02 S3 nr;refine⟨(n:Int),rfl,by omega,by omega,CP (λm σ H4=>∃(fs:ag) (pvs:List V) (j4:Nat) (vt:V) (tm:aJ) (v5 v6:Option V),σ=[some (.ref l),some v,some (.ref r),some (.ref L),some vt,v5,v6]/\fs.length=m/\cJ K a H4 r l ns j4/\j4<=ns.length/\
    af H H4/\H4 L=some (.lst pvs)/\bf K a H4 pvs fs/\bJ K H4 vt tm/\appliedAll t (stepsOf fs)=some tm/\Small (12+8*m) (6+m) tm/\aM fs/\(∀p∈fs,p.name<=99)/\
    readTimes readPatch n (ns.drop j)=(readTimes readPatch (n-m) (ns.drop j4)).map λv=>(fs++v.1,v.2)) ?_ ?_ ?_⟩
   ·exact⟨[],[],j,v,t,none,none,rfl,rfl,R3,hj,s03,hL3,.nil,ht.same s03,rfl,hsm,List.nodup_nil,(λp hp=>by cases hp),yk⟩
   ·rintro m σ H4 hm ⟨fs,pvs,j4,vt,tm,v5,v6,rfl,hfs,R4,hj4,s04,hL4,rp,tr,hap,hs4,hun,hnm,eq⟩;have hm:m<n:=by omega
    obtain⟨dx4,h4⟩:=R4.ins;refine⟨_,rfl,r,l,ns,j4,rfl,R4,hj4,?_⟩;unfold bx;cases e4:readPatch (ns.drop j4) with
    |none=>
     intro H' S;refine kN ?_ H' (af.bY s04 S nr);rw[pS hm e4 eq];rfl
    |some u=>
     obtain⟨p,r4⟩:=u;intro H5 v6 j5 R5 hd5 hj5 S5 pa5;subst hd5;have eq5:=tF hm e4 eq;have hpn:=PN e4;have hL5:=S5 _ _ hL4 nLr;have s05:=af.bY s04 S5 nr;have rp5:bf K a H5 pvs fs:=pM (λ_ _ q=>q.xR T S5 h4) rp;have tr5:=tr.xI S5 h4;have rise5:br tm:=by obtain⟨_,_,_,_,tk⟩:=tr5;exact tk.rise
     obtain⟨x,dx5,vs,rfl,hx,hst⟩:=id pa5;refine⟨_,rfl,_,rfl,x,a.Patch,dx5,_,_,rfl,hx,T.dv,T.fO,gd,_,fs,(p.name:Int),rfl,⟨L,pvs,rfl,hL5,rp5⟩,λk' hk' H6 s6=>?_,λhno H6 s6=>?_⟩
     ·refine⟨rfl,_,rfl,(by show 1<=sizeLine;decide),kN (Fy eq5 λrest aw=>?_) H6 (s05.trans s6)⟩;have h1:=(En aw).1;rw[Fj.mpr h1] at hk';cases hk'
     ·have hnf:=Fj.mp hno;refine⟨rfl,_,rfl,_,rfl,x,a.Patch,dx5,_,_,rfl,s6 _ _ hx,T.dv,T.ly,mP,_,rfl,_,_,p.step,tm,rfl,hst.same s6,tr5.same s6,λH7 s7=>?_⟩;have s67:=s6.trans s7;refine⟨_,rfl,?_⟩;show if (!(applied tm p.step).isSome)=true then _ else _
      cases ea:applied tm p.step with
      |none=>
       refine fJ ⟨(by show 1<=sizeLine;decide),kN (Fy eq5 λrest aw=>?_) H7 (s05.trans s67)⟩;obtain⟨_,u,v',h2,h3⟩:=En aw;rw[hap] at h2;cases h2;rw[ea] at h3;cases h3
      |some tn=>
       refine gW ?_;refine⟨_,rfl,x,a.Patch,dx5,_,_,rfl,s67 _ _ hx,T.dv,T.ly,mP,_,rfl,_,_,p.step,tm,tn,rfl,hst.same s67,tr5.same s67,hs4.mono (by omega) (by omega),ea,λH8 v8 s8 t8=>?_⟩;have s58:=s67.trans s8;have hL8:=s58 _ _ hL5;refine⟨_,rfl,.inl ⟨rfl,_,ak.of hL8⟩,_,rfl,L,_,_,rfl,rfl,hL8,?_,?_⟩
       ·have:=bf.len rp;exact bU (by omega)
       have S9:ax L H8 (upd H8 L (.lst (pvs++[.ref x]))):=ax.upd;refine⟨fs++[p],pvs++[.ref x],j5,v8,tn,_,_,rfl,by rw[List.length_append,hfs];rfl,(R5.same s58).xL S9 hL8 nlL,hj5,af.write (s05.trans s58) HL,az,?_,t8.xL S9 hL8,?_,?_,?_,?_,eq5⟩
       ·exact ig ((rp5.same s58).xL S9 hL8) (.cons ((pa5.same s58).xL S9 hL8) .nil)
       ·rw[fU];exact all_append.mpr ⟨tm,hap,all_cons.mpr ⟨tn,ea,rfl⟩⟩
       ·exact(AM rise5 hs4 hst.small ea).mono (by omega) (by omega)
       ·exact GC hun hnf
       ·intro q hq;rcases List.mem_append.mp hq with z|z
        ·exact hnm q z
        ·rw[List.mem_singleton.mp z];exact hpn
   ·rintro σ H4 ⟨fs,pvs,j4,vt,tm,v5,v6,rfl,hfs,R4,hj4,s04,hL4,rp,tr,hap,hs4,hun,hnm,eq⟩;rw[show(n:Int).toNat=n from rfl] at eq;have eq:=yj eq;have hfl:fs.length<=10:=by rw[hfs];show(n:Int).toNat<=10;omega
    obtain⟨dx4,h4⟩:=R4.ins;refine⟨_,rfl,r,dx4,_,rfl,h4,wt,r,l,ns,j4,rfl,R4,λhlt=>?_,λhge=>⟨_,rfl,?_⟩⟩
    ·refine kN ?_ H4 s04;rw[eq];cases ed:ns.drop j4 with
     |nil=>exact absurd (List.drop_eq_nil_iff.mp ed) (by omega)
     |cons z zs=>rfl
    ·refine kS fs ?_ H4 _ s04 ⟨L,pvs,rfl,hL4,rp⟩ hfl hun;rw[eq,List.drop_eq_nil_of_le (by omega)];show(if okRow t fs then some fs else none)=some fs;rw[Em hun hfl hnm,hap];rfl
end PR
namespace PR
open PySem PySem.Spec PyProof.Rows L2
open VapatBase (flatStep)
open Vapatc (rowTold rowOf)
theorem Dk:∀{o o':List Nat} {x y:List Int},o.length=o'.length->VapatBase.ints o++x=VapatBase.ints o'++y->o=o'/\x=y
 |[],[],_,_,_,h=>⟨rfl,h⟩
 |n::o,m::o',x,y,hl,h=>by
  have h:(n:Int)::(VapatBase.ints o++x)=(m:Int)::(VapatBase.ints o'++y):=h;obtain⟨h1,h2⟩:=List.cons.inj h;obtain⟨h3,h4⟩:=Dk (o:=o) (o':=o') (Nat.succ.inj hl) h2;exact⟨by rw[h3,show n=m by omega],h4⟩
 |[],_::_,_,_,hl,_=>by cases hl
 |_::_,[],_,_,hl,_=>by cases hl
theorem DE {o o':List Nat} {x y:List Int} (h:VapatBase.listed o++x=VapatBase.listed o'++y):o=o'/\x=y:=by
 have h:(o.length:Int)::(VapatBase.ints o++x)=(o'.length:Int)::(VapatBase.ints o'++y):=h;obtain⟨h1,h2⟩:=List.cons.inj h;exact Dk (by omega) h2
theorem JI {p q:ai} {x y:List Int} (h:flatStep p++x=flatStep q++y):p=q/\x=y:=by
 cases p with
 |hunk f a o n=>
  cases q with
  |hunk f' a' o' n'=>
   have h:(0:Int)::(f:Int)::(a:Int)::((VapatBase.listed o++VapatBase.listed n)++x)=(0:Int)::(f':Int)::(a':Int)::((VapatBase.listed o'++VapatBase.listed n')++y):=h;obtain⟨_,h⟩:=List.cons.inj h;obtain⟨h1,h⟩:=List.cons.inj h;obtain⟨h2,h⟩:=List.cons.inj h;rw[List.append_assoc,List.append_assoc] at h;obtain⟨h3,h⟩:=DE h;obtain⟨h4,h⟩:=DE h;rw[h3,h4,show f=f' by omega,show a=a' by omega];exact⟨rfl,h⟩
  |_=>exact absurd (List.cons.inj h).1 (by decide)
 |swap f a b=>
  cases q with
  |swap f' a' b'=>
   have h:(1:Int)::(f:Int)::(a:Int)::(b:Int)::x=(1:Int)::(f':Int)::(a':Int)::(b':Int)::y:=h;simp only[List.cons.injEq,true_and] at h;obtain⟨h1,h2,h3,h⟩:=h;rw[show f=f' by omega,show a=a' by omega,show b=b' by omega];exact⟨rfl,h⟩
  |_=>exact absurd (List.cons.inj h).1 (by decide)
 |add f=>
  cases q with
  |add f'=>
   have h:(2:Int)::(f:Int)::x=(2:Int)::(f':Int)::y:=h;simp only[List.cons.injEq,true_and] at h;rw[show f=f' by omega];exact⟨rfl,h.2⟩
  |_=>exact absurd (List.cons.inj h).1 (by decide)
 |remove f=>
  cases q with
  |remove f'=>
   have h:(3:Int)::(f:Int)::x=(3:Int)::(f':Int)::y:=h;simp only[List.cons.injEq,true_and] at h;rw[show f=f' by omega];exact⟨rfl,h.2⟩
  |_=>exact absurd (List.cons.inj h).1 (by decide)
 |move f g=>
  cases q with
  |move f' g'=>
   have h:(4:Int)::(f:Int)::(g:Int)::x=(4:Int)::(f':Int)::(g':Int)::y:=h;simp only[List.cons.injEq,true_and] at h;rw[show f=f' by omega,show g=g' by omega];exact⟨rfl,h.2.2⟩
  |_=>exact absurd (List.cons.inj h).1 (by decide)
theorem Fz:∀{r r':ag},r.length=r'.length->(r.flatMap λp=>Vapatc.int p.name::flatStep p.step)=(r'.flatMap λp=>Vapatc.int p.name::flatStep p.step)->r=r'
 |[],[],_,_=>rfl
 |⟨n,p⟩::r,⟨m,q⟩::r',hl,h=>by
  rw[List.flatMap_cons,List.flatMap_cons] at h;have h:(n:Int)::(flatStep p++(r.flatMap λp=>Vapatc.int p.name::flatStep p.step))=(m:Int)::(flatStep q++(r'.flatMap λp=>Vapatc.int p.name::flatStep p.step)):=h;obtain⟨h1,h⟩:=List.cons.inj h;obtain⟨h2,h⟩:=JI h;rw[Fz (Nat.succ.inj hl) h,h2,show n=m by omega]
 |[],_::_,hl,_=>by cases hl
 |_::_,[],hl,_=>by cases hl
theorem SM {r r':ag} (h:rowTold r=rowTold r'):r=r':=by
 have h:(r.length:Int)::(r.flatMap λp=>Vapatc.int p.name::flatStep p.step)=(r'.length:Int)::(r'.flatMap λp=>Vapatc.int p.name::flatStep p.step):=h;obtain⟨h1,h2⟩:=List.cons.inj h;exact Fz (by omega) h2
theorem B5:∀ts us:List Int,PyData.eqvAll (ts.map λn=>PyData.int n) (us.map λn=>PyData.int n)=decide (ts=us)
 |[],[]=>rfl
 |[],_::_=>rfl
 |_::_,[]=>rfl
 |t::ts,u::us=>by
  show((t==u)&&PyData.eqvAll _ _)=_;rw[B5 ts us];by_cases h:t=u
  ·subst h;by_cases h2:ts=us
   ·subst h2;simp
   ·rw[decide_eq_false h2,Bool.and_false];exact(decide_eq_false λz=>h2 (List.cons.inj z).2).symm
  ·rw[beq_eq_false_iff_ne.mpr h,Bool.false_and];exact(decide_eq_false λz=>h (List.cons.inj z).1).symm
theorem shaped_ints (ts:List Int):SeqAt.shaped (.list (ts.map λn=>PyData.int n))=true:=by
 have h1:PyData.canLayAll0 (ts.map λn=>PyData.int n)=true:=by
  induction ts with
  |nil=>rfl
  |cons n ts ih=>exact ih
 have h2:PyData.depthAll (ts.map λn=>PyData.int n)=0:=by
  clear h1
  induction ts with
  |nil=>rfl
  |cons n ts ih=>show max 0 _=0;rw[ih];rfl
 show(PyData.canLayAll0 (ts.map λn=>PyData.int n)&&decide (PyData.depthAll (ts.map λn=>PyData.int n)+1<=64))=true;rw[h1,h2];decide
theorem BX {K:PySem.W.Frag} {H:Hp}:∀ts:List Int,jk K H (ts.map V.int) (ts.map λn=>PyData.int n)
 |[]=> .nil
 |n::ts=> .cons (.int n) (BX ts)
theorem BY {K:PySem.W.Frag} {H:Hp} {v:V} {ts:List Int} (h:bN H v ts):Dp K H v (.list (ts.map λn=>PyData.int n)):=by
 obtain⟨l,rfl,hl⟩:=h;exact .lst (ak.of hl) (BX ts)
theorem xW {X:Cx} {K:PySem.W.Frag} {e:Expr} {ta:TE} {f:Str} {pos:Pos} (hK:X.K=K) (he:PE X e ta) (hb:attributeBase e f X.env (eval e X.env)=eval e X.env):PE X (.Attribute e f pos) (iz K ta f):=by
 subst hK;exact ao he hb
def Rt (K:PySem.W.Frag) (a:Ad):Sp:=λvs H Q _=>∃(v v2:V) (r r':ag),vs=[v,v2]/\bw K a H v r/\bw K a H v2 r'/\r.length<=10/\r'.length<=10/\aM r/\aM r'/\∀H':Hp,af H H'->Q (.bl (Vapatc.equal r r')) H'
theorem Ou (T:Tx K mg a d):aA P w K mg base aL 11 a.j7 d.j7 ["row","other"] (Rt K a):=by
 refine T.Ck.ok QD (λvs H Q E h=>?_) (λcdv A outer s H vs Q E hr h=>?_)
 ·obtain⟨v,v2,r,r',rfl,_⟩:=h;rfl
 ·obtain⟨v,v2,r,r',rfl,hr1,hr2,hl1,hl2,hu1,hu2,k⟩:=h;refine⟨_,aj (aq (gA (EN hr.units) (aB (sP T) (hr.mono (by decide)) (by rfl) T.sf T.oW.kp T.qE .nil au (aa (aB (xM T) hr (by rfl) T.wY T.rh.kp T.uY .nil au (aa (pv 0) ae)) ae))
   (aB (sP T) (hr.mono (by decide)) (by rfl) T.sf T.oW.kp T.qE .nil au (aa (aB (xM T) hr (by rfl) T.wY T.rh.kp T.uY .nil au (aa (pv 1) ae)) ae)) (aV _))),?_⟩
  refine⟨_,rfl,_,r,rfl,hr1,by omega,hu1,λH1 v1 s1 f1=>?_⟩;refine⟨_,Vapatc.form r,rfl,f1,by rw[we];omega,λH2 v2 s2 i2=>?_⟩;have s02:=s1.trans s2;refine⟨_,rfl,_,r',rfl,hr2.same s02,by omega,hu2,λH3 v3 s3 f3=>?_⟩;refine⟨_,Vapatc.form r',rfl,f3,by rw[we];omega,λH4 v4 s4 i4=>?_⟩;refine⟨_,_,BY (i2.2.same (s3.trans s4)),BY i4.2,shaped_ints _,shaped_ints _,?_⟩;show Q (.bl (PyData.eqvAll _ _)) H4;rw[B5];have:decide (rowTold (Vapatc.form r)=rowTold (Vapatc.form r'))=Vapatc.equal r r':=by
   unfold Vapatc.equal;by_cases z:Vapatc.form r=Vapatc.form r'
   ·rw[decide_eq_true (by rw[z]),beq_iff_eq.mpr z]
   ·rw[decide_eq_false λq=>z (SM q),beq_eq_false_iff_ne.mpr z]
  rw[this];exact k H4 (s02.trans (s3.trans s4))
def Q6 (K:PySem.W.Frag) (a:Ad):Sp:=λvs H Q _=>∃(v vp:V) (st:Vapatc.State) (t:aJ) (l:Addr) (ns:List Int),vs=[v,.ref l]/\cp K a H v vp st/\Good st/\st.tree=some t/\H l=some (.lst (ns.map V.int))/\∀(H':Hp) (v':V),af H H'->dW H H' v' (match rowOf t ns with
    |none=>[-5]
    |some r=>[if Vapatc.equal st.row r then 1 else 0])->Q v' H'
theorem N1 (T:Tx K mg a d):aA P w K mg base aL 12 a.jq d.jq ["self","row_told"] (Q6 K a):=by
 refine T.JQ.ok FG (λvs H Q E h=>?_) (λcdv A outer s H vs Q E hr h=>?_)
 ·obtain⟨v,vp,st,t,l,ns,rfl,_⟩:=h;rfl
 ·obtain⟨v,vp,st,t,l,ns,rfl,⟨x,dx,vs,rfl,hx,hrow,htr⟩,hg,ht,hl,k⟩:=h;obtain⟨t1,ht1⟩:=T.IT;refine⟨_,ah (x8 (Et:=λcls _ H'=>cls= .ref a.dX/\af H H'/\rowOf t ns=none) T.gk (by rfl) T.gi rfl rfl (λpn xe hp L=>aj (aF (i:=2) FG.nd rfl (Or.inl rfl) (aB (OL T) (hr.mono (by decide)) (by rfl) T.Ng T.CF.kp T.HV .nil L.passes (aa (pv 1) (aa (xW (K:=K) rfl (pv 0) rfl) ae)))))
   (λ_=>aj (aq (bj (aa (aU (v:= .int (-5)) (by rfl) ht1 ⟨_,rfl⟩) ae)))))
   (aj (aq (bj (aa (O3 (eD (aB (Ou T) hr (by rfl) T.MW T.Ck.kp T.HA .nil au (aa (ao (pv 0) rfl) (aa (pv 2) ae)))) aR aR) ae)))),?_⟩
  have hlen:=hg.len;have hu:=hg.unlike;rw[ht] at htr;have htr:bJ K H vs t:=htr;have hg':=hg;unfold Good at hg';rw[ht] at hg';obtain⟨hsm,hri,_,_,_⟩:=hg';refine⟨⟨_,rfl,_,rfl,x,a.aH,dx,_,_,rfl,hx,T.bb,T.ng,rB,l,ns,vs,t,rfl,hl,htr,hsm,?_⟩,λσ' cls H1 _ ⟨e1,s1,e2⟩=>⟨e1,(by show 1<=sizeLine;decide),λl2 H2 n2 s2 h2=>?_⟩⟩
  ·cases e:rowOf t ns with
   |none=>exact λH1 s1=>⟨rfl,s1,rfl⟩
   |some r=>
    intro H1 v1 s1 r1 rl ru;rw[e] at k;refine⟨_,rfl,x,a.aH,dx,_,_,rfl,s1 _ _ hx,T.bb,T.bS,cD,_,rfl,_,_,st.row,r,rfl,hrow.same s1,r1,hlen,rl,hu,ru,λH2 s2=>?_⟩;refine⟨_,rfl,?_⟩;cases ee:Vapatc.equal st.row r with
    |true=>
     refine fJ ⟨(by show 1<=sizeLine;decide),λl3 H3 n3 s3 e3=>k H3 (.ref l3) ((s1.trans s2).trans s3) ⟨bG.of (s1.trans s2) n3,l3,rfl,?_⟩⟩;rw[e3];show _=some (HO.lst (List.map V.int [if Vapatc.equal st.row r then (1:Int) else 0]));rw[ee];rfl
    |false=>
     refine gW ⟨(by show 1<=sizeLine;decide),λl3 H3 n3 s3 e3=>k H3 (.ref l3) ((s1.trans s2).trans s3) ⟨bG.of (s1.trans s2) n3,l3,rfl,?_⟩⟩;rw[e3];show _=some (HO.lst (List.map V.int [if Vapatc.equal st.row r then (1:Int) else 0]));rw[ee];rfl
  ·rw[e2] at k;exact k H2 (.ref l2) (s1.trans s2) ⟨bG.of s1 n2,l2,rfl,h2⟩
end PR
namespace PR
open Vapatc (namesOf stepsOf placeOf needSets has firsts countTable rising byName kthBy rankBy)
theorem xS {g i:Nat} (h:g.testBit i=false):g|||2^i=g+2^i:=by
 have hm:g / 2^i%2=0:=by
  rw[Nat.testBit_eq_decide_div_mod_eq] at h;have:=of_decide_eq_false h;omega
 have hb:g%2^i<2^i:=Nat.mod_lt _ (Nat.two_pow_pos i);have h1:g=2^(i+1)*(g / 2^i / 2)+g%2^i:=by
  have e1:=Nat.div_add_mod g (2^i);have e2:=Nat.div_add_mod (g / 2^i) 2;rw[hm,Nat.add_zero] at e2;rw[Nat.pow_succ,Nat.mul_assoc,e2];exact e1.symm
 generalize g / 2^i / 2=a at h1;generalize g%2^i=b at h1 hb;subst h1;have hb2:b<2^(i+1):=by rw[Nat.pow_succ];omega
 have hb3:b+2^i<2^(i+1):=by rw[Nat.pow_succ];omega
 rw[Nat.two_pow_add_eq_or_of_lt hb2,Nat.or_assoc,Nat.or_two_pow_eq_add_of_lt hb,<-Nat.two_pow_add_eq_or_of_lt hb3,<-Nat.two_pow_add_eq_or_of_lt hb2];omega
theorem sS {g i j:Nat}:(g|||2^i).testBit j=(g.testBit j||j==i):=by
 rw[Nat.testBit_or,Nat.testBit_two_pow];congr 1;by_cases h:i=j
 ·subst h;simp
 ·have:¬j=i:=λz=>h z.symm;simp[h,this]
theorem Lg (s j:Nat):has s j=s.testBit j:=by
 unfold Vapatc.has;rw[Nat.testBit_eq_decide_div_mod_eq];by_cases h:s / 2^j%2=1
 ·rw[h];rfl
 ·rw[beq_eq_false_iff_ne.mpr h,decide_eq_false h]
theorem GX {a g:Nat}:(a&&& g)=a↔∀j,a.testBit j=true->g.testBit j=true:=by
 constructor
 ·intro h j hj;rw[<-h,Nat.testBit_and,Bool.and_eq_true] at hj;exact hj.2
 ·intro h;refine Nat.eq_of_testBit_eq λj=>?_;rw[Nat.testBit_and];cases e:a.testBit j with
  |false=>rfl
  |true=>rw[h j e];rfl
def sN (r:ag):List Nat:=rising (namesOf r)
def nm (r:ag) (i:Nat):Nat:=((sN r)[i]?).getD 0
def dn (r:ag) (g:Nat):List Nat:=((List.range r.length).filter λi=>g.testBit i).map (nm r)
def bM (r:ag) (g:Nat):Nat:=cnt (needSets r) (bg r (dn r g))
def hZ (r:ag) (g i:Nat):Bool:= !g.testBit i&&(Vapatc.needs r (nm r i)).all λm=>(dn r g).contains m
def bT (r:ag) (g:Nat):List Nat:=(List.range r.length).filter (hZ r g)
def pl (r:ag) (i:Nat):Nat:=(placeOf r (nm r i)).getD 0
theorem fE (r:ag):(sN r).length=r.length:=by unfold sN;rw[(fT _).length_eq,cz]
theorem Qb {r:ag} (hn:aM r):(sN r).Nodup:=(fT _).nodup_iff.mpr hn
theorem m9 {r:ag} {i:Nat} (h:i<r.length):(sN r)[i]?=some (nm r i):=by
 unfold nm;rw[List.getElem?_eq_getElem (by rw[fE];exact h)];rfl
theorem ym (r:ag):sN r=(List.range r.length).map (nm r):=by
 refine List.ext_getElem? λj=>?_;by_cases h:j<r.length
 ·rw[m9 h,List.getElem?_map,List.getElem?_range h];rfl
 ·rw[List.getElem?_eq_none (by rw[fE];omega),List.getElem?_eq_none (by rw[List.length_map,List.length_range];omega)]
theorem sC {r:ag} (hn:aM r) {i j:Nat} (hij:i<j) (hj:j<r.length):nm r i<nm r j:=by
 have h1:=List.pairwise_iff_getElem.mp (tw (namesOf r)) i j (by have:=fE r;unfold sN at this;omega) (by have:=fE r;unfold sN at this;omega) hij;have h2:=List.pairwise_iff_getElem.mp (Qb hn) i j (by rw[fE];omega) (by rw[fE];omega) hij;have e1:nm r i=(sN r)[i]'(by rw[fE];omega):=by unfold nm;rw[List.getElem?_eq_getElem (by rw[fE];omega)];rfl
 have e2:nm r j=(sN r)[j]'(by rw[fE];omega):=by unfold nm;rw[List.getElem?_eq_getElem (by rw[fE];omega)];rfl
 rw[e1,e2];exact Nat.lt_of_le_of_ne h1 h2
theorem Ec {r:ag} (hn:aM r) {i j:Nat} (hi:i<r.length) (hj:j<r.length):nm r i<nm r j↔i<j:=by
 constructor
 ·intro h;rcases Nat.lt_trichotomy i j with q|q|q
  ·exact q
  ·subst q;omega
  ·have:=sC hn q hi;omega
 ·exact λh=>sC hn h hj
theorem xu {r:ag} (hn:aM r) {i j:Nat} (hi:i<r.length) (hj:j<r.length) (h:nm r i=nm r j):i=j:=by
 rcases Nat.lt_trichotomy i j with q|q|q
 ·have:=sC hn q hj;omega
 ·exact q
 ·have:=sC hn q hi;omega
theorem Ed {r:ag} {i:Nat} (hi:i<r.length):nm r i∈namesOf r:=(fT _).mem_iff.mp (List.mem_of_getElem? (m9 hi))
theorem rP {r:ag} {m:Nat} (h:m∈namesOf r):∃i,i<r.length/\nm r i=m:=by
 have:=(fT _).mem_iff.mpr h;have:m∈sN r:=this;rw[ym] at this;obtain⟨i,hi,e⟩:=List.mem_map.mp this;exact⟨i,List.mem_range.mp hi,e⟩
theorem iG {r:ag} (hn:aM r) {g i:Nat} (hi:i<r.length):(dn r g).contains (nm r i)=g.testBit i:=by
 rw[Bool.eq_iff_iff,List.contains_iff_mem];unfold dn;constructor
 ·intro h;obtain⟨j,hj,e⟩:=List.mem_map.mp h;obtain⟨h1,h2⟩:=List.mem_filter.mp hj;have:=xu hn (List.mem_range.mp h1) hi e;subst this;exact h2
 ·intro h;exact List.mem_map.mpr ⟨i,List.mem_filter.mpr ⟨List.mem_range.mpr hi,h⟩,rfl⟩
theorem lI {r:ag} (hn:aM r) {i:Nat} (hi:i<r.length):placeOf r (nm r i)=some (pl r i)/\pl r i<r.length/\nameAt r (pl r i)=nm r i:=by
 obtain⟨k,p,hk,e⟩:=k6 (Ed hi);have h1:=lJ hn hk;rw[e] at h1;have h2:pl r i=k:=by unfold pl;rw[h1];rfl
 rw[h2];refine⟨h1,(List.getElem?_eq_some_iff.mp hk).1,?_⟩;unfold nameAt;rw[hk];exact e
theorem Nv {r:ag} {D D':List Nat} (h:∀m∈namesOf r,D.contains m=D'.contains m):bg r D=bg r D':=by
 unfold bg;refine mk_congr λj hj=>?_;rw[h];rw[m6];exact List.mem_map.mpr ⟨j,List.mem_range.mpr hj,rfl⟩
theorem sj {r:ag} (hn:aM r) {g i:Nat} (hi:i<r.length) (hb:g.testBit i=false):bg r (dn r g)=bg r (dn r (g|||2^i))+2^pl r i:=by
 obtain⟨_,h2,h3⟩:=lI hn hi;have:=Ny hn (D:=dn r g) h2 (by
  rw[h3];intro z;have:=List.contains_iff_mem.mpr z;rw[iG hn hi,hb] at this;cases this)
 rw[this,h3];congr 1;refine Nv λm hm=>?_;obtain⟨j,hj,rfl⟩:=rP hm;rw[iG hn hj,sS];rw[Bool.eq_iff_iff,List.contains_iff_mem,List.mem_append,<-List.contains_iff_mem,iG hn hj,List.mem_singleton,Bool.or_eq_true,beq_iff_eq];constructor
 ·rintro(h|h)
  ·exact .inl h
  ·exact .inr (xu hn hj hi h)
 ·rintro(h|h)
  ·exact .inl h
  ·exact .inr (by rw[h])
theorem pF {r:ag} (hn:aM r) {g:Nat} (hg:g<2^r.length):bg r (dn r g)=0↔g=2^r.length-1:=by
 constructor
 ·intro h;refine Nat.eq_of_testBit_eq λj=>?_;rw[Nat.testBit_two_pow_sub_one];by_cases hj:j<r.length
  ·rw[decide_eq_true hj];obtain⟨_,h2,h3⟩:=lI hn hj;have:=mk_zero h (pl r j) h2;rw[h3,iG hn hj] at this
   simpa using this
  ·rw[decide_eq_false hj];exact Nat.testBit_lt_two_pow (Nat.lt_of_lt_of_le hg (Nat.pow_le_pow_right (by decide) (by omega)))
 ·rintro rfl;refine xg λj hj=>?_;have hm:nameAt r j∈namesOf r:=by rw[m6];exact List.mem_map.mpr ⟨j,List.mem_range.mpr hj,rfl⟩
  obtain⟨i,hi,e⟩:=rP hm;rw[<-e,iG hn hi,Nat.testBit_two_pow_sub_one,decide_eq_true hi];rfl
theorem Mo (D l:List Nat):(less D l).isEmpty=l.all λm=>D.contains m:=by
 unfold less;rw[Bool.eq_iff_iff,List.isEmpty_iff,List.filter_eq_nil_iff,List.all_eq_true];constructor
 ·intro h m hm;have:=h m hm
  simpa using this
 ·intro h m hm;rw[h m hm];decide
theorem P2 {r:ag} (c:Nat->Bool):rising (((List.range r.length).filter λk=>c (nameAt r k)).map (nameAt r))=(sN r).filter c:=by
 have e1:((List.range r.length).filter λk=>c (nameAt r k)).map (nameAt r)=(namesOf r).filter c:=by
  rw[m6,List.filter_map];rfl
 rw[e1];refine List.Perm.eq_of_pairwise (le:=(·<=·)) (λa b _ _ h1 h2=>Nat.le_antisymm h1 h2) (tw _) (List.Pairwise.sublist (List.filter_sublist) (tw _)) ?_;exact(fT _).trans ((fT _).filter c).symm
theorem Ca {r:ag} (hn:aM r) (g:Nat):firsts (needSets r) (bg r (dn r g))=(List.range r.length).filter λk=>(λm=>!(dn r g).contains m&&(Vapatc.needs r m).all λx=>(dn r g).contains x) (nameAt r k):=by
 rw[JH hn];refine List.filter_congr λk _=>?_;rw[Mo]
theorem Qa {r:ag} (hn:aM r) (g:Nat):(sN r).filter (λm=>!(dn r g).contains m&&(Vapatc.needs r m).all λx=>(dn r g).contains x)=(bT r g).map (nm r):=by
 rw[ym,List.filter_map];unfold bT;congr 1;refine List.filter_congr λi hi=>?_;show(!(dn r g).contains (nm r i)&&_)=_;rw[iG hn (List.mem_range.mp hi)];rfl
theorem hX {r:ag} {g i:Nat} (h:i∈bT r g):i<r.length/\g.testBit i=false:=by
 obtain⟨h1,h2⟩:=List.mem_filter.mp h;refine⟨List.mem_range.mp h1,?_⟩;unfold hZ at h2;rw[Bool.and_eq_true,Bool.not_eq_true'] at h2;exact h2.1
theorem vO {α β:Type} {f g:α->Option β}:∀{l:List α},(∀x∈l,f x=g x)->l.filterMap f=l.filterMap g
 |[],_=>rfl
 |x::l,h=>by
  rw[List.filterMap_cons,List.filterMap_cons,h x List.mem_cons_self,vO λy hy=>h y (List.mem_cons_of_mem _ hy)]
theorem qG {r:ag} (hn:aM r) (g:Nat):byName r (firsts (needSets r) (bg r (dn r g)))=(bT r g).map (pl r):=by
 unfold Vapatc.byName;rw[Ca hn];have:=P2 (r:=r) (λm=>!(dn r g).contains m&&(Vapatc.needs r m).all λx=>(dn r g).contains x);rw[show(rising (((List.range r.length).filter λk=>(λm=>!(dn r g).contains m&&(Vapatc.needs r m).all λx=>(dn r g).contains x) (nameAt r k)).map λk=>((r[k]?).map λp=>p.name).getD 0))=(sN r).filter (λm=>!(dn r g).contains m&&(Vapatc.needs r m).all λx=>(dn r g).contains x) from this,Qa hn,List.filterMap_map];rw[<-List.filterMap_eq_map];refine vO λi hi=>?_;exact(lI hn (hX hi).1).1
theorem Nw (r:ag) (D:List Nat):bg r D<2^r.length:=si _ _
theorem QV (r:ag):(needSets r).length=r.length:=by unfold Vapatc.needSets;rw[List.length_map,List.length_range]
theorem Aj {r:ag} (hn:aM r) {g i:Nat} (hi:i<r.length) (hb:g.testBit i=false):((countTable (needSets r))[bg r (dn r g)-2^pl r i]?).getD 0=bM r (g|||2^i):=by
 have e:bg r (dn r g)-2^pl r i=bg r (dn r (g|||2^i)):=by have:=sj hn hi hb;omega
 rw[e,table_at (by rw[QV];exact Nw _ _)];rfl
theorem Ao {r:ag} (hn:aM r):bM r (2^r.length-1)=1:=by
 unfold bM;have hp:0<2^r.length:=Nat.two_pow_pos _;rw[(pF hn (by omega)).mpr rfl,Bz]
theorem uk {r:ag} (hn:aM r) {g:Nat} (hg:g<2^r.length) (hf:g≠2^r.length-1):bM r g=((bT r g).map λi=>bM r (g|||2^i)).sum:=by
 have h0:bg r (dn r g)≠0:=λz=>hf ((pF hn hg).mp z);have e1:bM r g=((firsts (needSets r) (bg r (dn r g))).map λk=>cnt (needSets r) (bg r (dn r g)-2^k)).sum:=by
  unfold bM;rw[By h0,List.sum_eq_foldl_nat]
 have e2:(firsts (needSets r) (bg r (dn r g))).Perm ((bT r g).map (pl r)):=by
  rw[<-qG hn];unfold Vapatc.byName;have hp:=(fT ((firsts (needSets r) (bg r (dn r g))).map λk=>((r[k]?).map λp=>p.name).getD 0)).filterMap (placeOf r);refine(hp.trans ?_).symm;rw[List.filterMap_map];have:(firsts (needSets r) (bg r (dn r g))).filterMap (placeOf r∘λk=>((r[k]?).map λp=>p.name).getD 0)=(firsts (needSets r) (bg r (dn r g))).filterMap some:=by
   refine vO λk hk=>?_;rw[Ca hn] at hk;have hk:=List.mem_range.mp (List.mem_filter.mp hk).1;show placeOf r (((r[k]?).map λp=>p.name).getD 0)=some k;have e:=List.getElem?_eq_getElem hk;rw[e];exact lJ hn e
  rw[this,List.filterMap_some]
 rw[e1,(e2.map _).sum_nat,List.map_map];congr 1;refine List.map_congr_left λi hi=>?_;obtain⟨h1,h2⟩:=hX hi;show cnt (needSets r) (bg r (dn r g)-2^pl r i)=bM r (g|||2^i);have e:bg r (dn r g)-2^pl r i=bg r (dn r (g|||2^i)):=by have:=sj hn h1 h2;omega
 rw[e];rfl
theorem vJ (r:ag):dn r 0=[]:=by
 unfold dn;have:(List.range r.length).filter (λi=>(0:Nat).testBit i)=[]:=by
  rw[List.filter_eq_nil_iff];intro i _;rw[Nat.zero_testBit];decide
 rw[this];rfl
theorem vB (r:ag):Vapatc.count r=bM r 0:=by
 rw[count_eq];unfold bM;rw[vJ,xh]
end PR
namespace PR
open Vapatc (namesOf stepsOf placeOf needSets has firsts countTable rising byName kthBy rankBy)
def below (r:ag) (g i:Nat):Nat:=(((bT r g).filter λj=>decide (j<i)).map λj=>bM r (g|||2^j)).sum
theorem below_at {A C:List Nat} {i:Nat} (h:(A++i::C).Pairwise (· < ·)):(A++i::C).filter (λj=>decide (j<i))=A:=by
 obtain⟨h1,h2,h3⟩:=List.pairwise_append.mp h;have e1:A.filter (λj=>decide (j<i))=A:=List.filter_eq_self.mpr λj hj=>decide_eq_true (h3 j hj i List.mem_cons_self);have e2:(i::C).filter (λj=>decide (j<i))=[]:=by
  rw[List.filter_eq_nil_iff];intro j hj;rcases List.mem_cons.mp hj with q|q
  ·rw[q];simp
  ·have:=(List.pairwise_cons.mp h2).1 j q;simp;omega
 rw[List.filter_append,e1,e2,List.append_nil]
theorem xB (r:ag) (g:Nat):(bT r g).Pairwise (· < ·):=List.Pairwise.sublist List.filter_sublist List.pairwise_lt_range
theorem Ei {r:ag} {g i:Nat} (h:i∈bT r g):∃A C,bT r g=A++i::C/\below r g i=(A.map λj=>bM r (g|||2^j)).sum:=by
 obtain⟨A,C,e⟩:=List.append_of_mem h;refine⟨A,C,e,?_⟩;have:=xB r g;unfold below;rw[e] at this⊢;rw[below_at this]
theorem Sg (A C:List Nat) (i:Nat) (w:Nat->Nat):((A++i::C).map w).sum=(A.map w).sum+(w i+(C.map w).sum):=by
 rw[List.map_append,List.sum_append_nat,List.map_cons,List.sum_cons]
theorem G7 {r:ag} (hn:aM r) {g i k:Nat} (hg:g<2^r.length) (hf:g≠2^r.length-1) (hk:k<bM r g) (hi:i∈bT r g) (hb:below r g i<=k) (hm:∀j∈bT r g,below r g j<=k->j<=i):k<below r g i+bM r (g|||2^i):=by
 obtain⟨A,C,e,eb⟩:=Ei hi;rw[uk hn hg hf,e,Sg] at hk;rw[eb];cases C with
 |nil=>
  rw[List.map_nil,List.sum_nil] at hk;omega
 |cons j C=>
  have hr:=xB r g;have e2:bT r g=(A++[i])++j::C:=by rw[e,List.append_assoc];rfl
  have hj:j∈bT r g:=by rw[e2];simp
  have ej:below r g j=(A.map λj=>bM r (g|||2^j)).sum+bM r (g|||2^i):=by
   unfold below;rw[e2] at hr⊢;rw[below_at hr,List.map_append,List.sum_append_nat];simp
  have hij:i<j:=by
   rw[e] at hr;exact(List.pairwise_cons.mp (List.pairwise_append.mp hr).2.1).1 j List.mem_cons_self
  rcases Nat.lt_or_ge k (below r g j) with q|q
  ·omega
  ·have:=hm j hj q;omega
theorem G6 {r:ag} (hn:aM r) {g k:Nat} (hg:g<2^r.length) (hf:g≠2^r.length-1) (hk:k<bM r g):∃i,i∈bT r g/\below r g i<=k:=by
 cases e:bT r g with
 |nil=>rw[uk hn hg hf,e] at hk;cases hk
 |cons i C=>
  refine⟨i,List.mem_cons_self,?_⟩;have hr:=xB r g;unfold below;rw[e] at hr⊢;have:=below_at (A:=[]) hr;rw[List.nil_append] at this;rw[this];exact Nat.zero_le _
theorem PJ {r:ag} (hn:aM r) {g i:Nat} {l:List Nat} (hi:i<r.length) (hb:g.testBit i=false):rankBy r (needSets r) (countTable (needSets r)) (bg r (dn r g)) (nm r i::l)=below r g i+rankBy r (needSets r) (countTable (needSets r)) (bg r (dn r (g|||2^i))) l:=by
 obtain⟨h1,h2,h3⟩:=lI hn hi;have e:bg r (dn r g)-2^pl r i=bg r (dn r (g|||2^i)):=by have:=sj hn hi hb;omega
 simp only[Vapatc.rankBy,h1,e];congr 1;rw[qG hn,List.filter_map,List.map_map,<-List.sum_eq_foldl_nat];unfold below;have e2:(bT r g).filter ((λi_1=>decide (((r[i_1]?).map λp=>p.name).getD 0<nm r i))∘pl r)=(bT r g).filter λj=>decide (j<i):=by
  refine List.filter_congr λj hj=>?_;obtain⟨hj1,hj2⟩:=hX hj;obtain⟨_,_,h6⟩:=lI hn hj1;show decide (nameAt r (pl r j)<nm r i)=_;rw[h6];by_cases q:j<i
  ·rw[decide_eq_true q,decide_eq_true ((Ec hn hj1 hi).mpr q)]
  ·rw[decide_eq_false q,decide_eq_false λz=>q ((Ec hn hj1 hi).mp z)]
 rw[e2];congr 1;refine List.map_congr_left λj hj=>?_;obtain⟨hj1,hj2⟩:=hX (List.mem_filter.mp hj).1;exact Aj hn hj1 hj2
def nJ (w:Nat->Nat) (x:Option (Nat×Nat)×Nat) (j:Nat):Option (Nat×Nat)×Nat:=match x.1 with
 |some _=>x
 |none=>if x.2<w j then (some (j,x.2),0) else (none,x.2-w j)
theorem Fc (w:Nat->Nat) (y:Nat×Nat) (m:Nat):∀C:List Nat,C.foldl (nJ w) (some y,m)=(some y,m)
 |[]=>rfl
 |c::C=>Fc w y m C
theorem xY (w:Nat->Nat):∀(A:List Nat) (k:Nat),(A.map w).sum<=k->A.foldl (nJ w) (none,k)=(none,k-(A.map w).sum)
 |[],k,_=>rfl
 |a::A,k,h=>by
  rw[List.map_cons,List.sum_cons] at h⊢;rw[List.foldl_cons];have:nJ w (none,k) a=(none,k-w a):=by
   show(if k<w a then _ else _)=_;rw[if_neg (by omega)]
  rw[this,xY w A (k-w a) (by omega),Nat.sub_sub]
theorem Pd (w:Nat->Nat) (A C:List Nat) (i k:Nat) (h1:(A.map w).sum<=k) (h2:k<(A.map w).sum+w i):((A++i::C).foldl (nJ w) (none,k)).1=some (i,k-(A.map w).sum):=by
 rw[List.foldl_append,xY w A k h1,List.foldl_cons];have:nJ w (none,k-(A.map w).sum) i=(some (i,k-(A.map w).sum),0):=by
  show(if k-(A.map w).sum<w i then _ else _)=_;rw[if_pos (by omega)]
 rw[this,Fc]
theorem Dt (r:ag) (ns t:List Nat) (f s k:Nat) (hs:s≠0):kthBy r ns t (f+1) s k=match ((byName r (firsts ns s)).foldl (nJ λj=>(t[s-2^j]?).getD 0) (none,k)).1 with
 |none=>none
 |some y=>(kthBy r ns t f (s-2^y.1) y.2).map λl=>nameAt r y.1::l:=by
 rw[Vapatc.kthBy,if_neg hs];rfl
theorem D9 {r:ag} (hn:aM r) {g:Nat} {A:List Nat} (h:∀j∈A,j∈bT r g):(A.map (pl r)).map (λj=>((countTable (needSets r))[bg r (dn r g)-2^j]?).getD 0)=A.map λj=>bM r (g|||2^j):=by
 rw[List.map_map];refine List.map_congr_left λj hj=>?_;obtain⟨hj1,hj2⟩:=hX (h j hj);exact Aj hn hj1 hj2
theorem Mj {r:ag} (hn:aM r) {g i k f:Nat} (hg:g<2^r.length) (hf:g≠2^r.length-1) (hi:i∈bT r g) (hb:below r g i<=k) (hk:k<below r g i+bM r (g|||2^i)):
 kthBy r (needSets r) (countTable (needSets r)) (f+1) (bg r (dn r g)) k=(kthBy r (needSets r) (countTable (needSets r)) f (bg r (dn r (g|||2^i))) (k-below r g i)).map λl=>nm r i::l:=by
 obtain⟨A,C,e,eb⟩:=Ei hi;obtain⟨hi1,hi2⟩:=hX hi;obtain⟨_,_,h3⟩:=lI hn hi1;have e1:bg r (dn r g)-2^pl r i=bg r (dn r (g|||2^i)):=by have:=sj hn hi1 hi2;omega
 rw[Dt r _ _ f _ k λz=>hf ((pF hn hg).mp z),qG hn,e,List.map_append,List.map_cons];have es:=D9 hn (g:=g) (A:=A) λj hj=>by rw[e];exact List.mem_append_left _ hj
 rw[Pd _ (A.map (pl r)) (C.map (pl r)) (pl r i) k (by rw[es,<-eb];exact hb) (by rw[es,<-eb,Aj hn hi1 hi2];exact hk)];rw[es,<-eb];show(kthBy r _ _ f (bg r (dn r g)-2^pl r i) (k-below r g i)).map (λl=>nameAt r (pl r i)::l)=_;rw[e1,h3]
theorem Du {r:ag} (k:Nat):Vapatc.kth r k=kthBy r (needSets r) (countTable (needSets r)) r.length (bg r (dn r 0)) k:=by
 rw[vJ,xh];rfl
theorem Mi {r:ag} (hn:aM r) {k:Nat} (h:Vapatc.count r<=k):Vapatc.kth r k=none:=by
 rw[vB] at h;rw[Du];by_cases hl:r.length=0
 ·have hr:r=[]:=List.eq_nil_of_length_eq_zero hl;subst hr;have:bM [] 0=1:=Ao (r:=[]) hn;rw[this] at h;show(if bg [] (dn [] 0)=0/\k=0 then some [] else none)=none;rw[if_neg (by omega)]
 ·obtain⟨f,ef⟩:∃f,r.length=f+1:=⟨r.length-1,by omega⟩
  have hp:2^r.length=2^f*2:=by rw[ef,Nat.pow_succ]
  have hq:0<2^f:=Nat.two_pow_pos f;have hg:0<2^r.length:=Nat.two_pow_pos _;have hf:0≠2^r.length-1:=by omega
  rw[uk hn hg hf] at h;rw[ef,Dt r _ _ f _ k λz=>hf ((pF hn hg).mp z),qG hn];have es:=D9 hn (g:=0) (A:=bT r 0) λj hj=>hj;rw[xY _ _ k (by rw[es];exact h)]
theorem Mh {r:ag} (hn:aM r) {k:Nat} (hk:k<bM r (2^r.length-1)) (f:Nat):kthBy r (needSets r) (countTable (needSets r)) f (bg r (dn r (2^r.length-1))) k=some []:=by
 rw[Ao hn] at hk;have hk:k=0:=by omega
 subst hk;have hp:0<2^r.length:=Nat.two_pow_pos _;rw[(pF hn (by omega)).mpr rfl];cases f with
 |zero=>rfl
 |succ f=>rfl
theorem PH {r:ag}:Vapatc.rank r=rankBy r (needSets r) (countTable (needSets r)) (bg r (dn r 0)) (namesOf r):=by
 rw[vJ,xh];rfl
def bits (n g:Nat):Nat:=((List.range n).filter λi=>g.testBit i).length
theorem Ic {g g':Nat}:∀{n:Nat},(∀j,j<n->g.testBit j=g'.testBit j)->bits n g=bits n g'
 |n,h=>by
  unfold bits;rw[List.filter_congr λj hj=>h j (List.mem_range.mp hj)]
theorem Bj (n g:Nat):bits (n+1) g=bits n g+if g.testBit n then 1 else 0:=by
 unfold bits;rw[List.range_succ,List.filter_append,List.length_append];congr 1;cases h:g.testBit n<;>simp[List.filter,h]
theorem Bi {g i:Nat} (hb:g.testBit i=false):∀{n:Nat},i<n->bits n (g|||2^i)=bits n g+1
 |0,h=>by omega
 |n+1,h=>by
  rw[Bj,Bj,sS];by_cases e:i=n
  ·subst e;rw[hb,Ic (g:=g|||2^i) (g':=g) λj hj=>by rw[sS,show(j==i)=false by simp;omega,Bool.or_false]];simp
  ·rw[Bi hb (n:=n) (by omega),show(n==i)=false by simp;omega,Bool.or_false];omega
theorem Ie (n:Nat):bits n 0=0:=by
 unfold bits;rw[List.length_eq_zero_iff,List.filter_eq_nil_iff];intro i _;rw[Nat.zero_testBit];decide
theorem Bh {n g:Nat} (hg:g<2^n):bits n g=n↔g=2^n-1:=by
 have e:n=(List.range n).length:=List.length_range.symm;constructor
 ·intro h;unfold bits at h;have h':((List.range n).filter λi=>g.testBit i).length=(List.range n).length:=by rw[h,List.length_range]
  have ha:=List.length_filter_eq_length_iff.mp h';refine Nat.eq_of_testBit_eq λj=>?_;rw[Nat.testBit_two_pow_sub_one];by_cases hj:j<n
  ·rw[decide_eq_true hj];exact ha j (List.mem_range.mpr hj)
  ·rw[decide_eq_false hj];exact Nat.testBit_lt_two_pow (Nat.lt_of_lt_of_le hg (Nat.pow_le_pow_right (by decide) (by omega)))
 ·rintro rfl;unfold bits;have:(List.range n).filter (λi=>(2^n-1).testBit i)=List.range n:=List.filter_eq_self.mpr λj hj=>by
   rw[Nat.testBit_two_pow_sub_one];exact decide_eq_true (List.mem_range.mp hj)
  rw[this,List.length_range]
theorem sT {g i n:Nat} (hg:g<2^n) (hi:i<n):g|||2^i<2^n:=Nat.or_lt_two_pow hg (Nat.pow_lt_pow_right (by decide) hi)
end PR
namespace PR
open PySem PySem.Spec PyProof.Rows L2
open Vapatc (namesOf stepsOf)
theorem B9 {α:Type} (l:List α) (x:α) (c:α->Bool):(l++[x]).filter c=l.filter c++if c x then [x] else []:=by
 rw[List.filter_append];congr 1;cases h:c x<;>simp[List.filter,h]
theorem mV {K:PySem.W.Frag} {a:Addr} {ns:List Nat} {g:TG} {tt:TT} {te:TE} {vs:List Nat} {σ:L2.St} {H1:Hp} {D:Addr} {Qd:Hp->Prop} (c:Nat->Bool) (f:Nat->Int) (hl:ak K H1 a (ns.map λ(n:Nat)=>V.int n)) (hD:H1 D=none) (hlen:ns.length<=100)
 (hs:∀n,n∈ns->∀(H:Hp),af H1 H->∀Z:Option V->Hp->Prop,(∀H4,af H H4->Z (if c n then some (.int (f n)) else none) H4)->g (.int (n:Nat)) (wipe σ vs) H λσ2 H2=>wipe σ2 vs=wipe σ vs/\tt σ2 H2 λb H3=>if b=true then te σ2 H3 λy H4=>Z (some y) H4 else Z none H3)
 (hd:∀H,af H1 H->H D=some (.lst (((ns.filter c).map f).map V.int))->Qd H):
 ∃W:Nat->Nat->Hp->Prop,(∃m,W 0 m (upd H1 D (.lst [])))/\∀i m H,W i m H->
  ((fV K a).stop i H/\Qd H)\/((fV K a).go i H/\∃Nx:Hp->Prop,(∀H',Nx H'->∃m',m'<m/\W (i+1) m' H')/\∀x H',(fV K a).fF i H x H'->g x (wipe σ vs) H' λσ2 H2=>wipe σ2 vs=wipe σ vs/\tt σ2 H2 λb H3=>
    if b=true then te σ2 H3 λy H4=>∃acc,H4 D=some (.lst acc)/\acc.length<sizeLine/\Nx (upd H4 D (.lst (acc++[y]))) else Nx H3):=by
 refine pE (K:=K) (a:=a) (xs:=ns.map λ(n:Nat)=>V.int n) (λm H=>af H1 H/\H D=some (.lst ((((ns.take m).filter c).map f).map V.int))) ?_ ?_ ?_ ?_
 ·exact⟨af.new hD,az⟩
 ·rintro i H _ ⟨s,_⟩;rcases hl with (h|⟨o,h⟩)|h
  ·exact .inl (.inl (s _ _ h))
  ·exact .inl (.inr ⟨o,s _ _ h⟩)
  ·exact .inr h
 ·rintro i x H hx ⟨s,hDx⟩;rw[List.getElem?_map] at hx;cases e:ns[i]? with
  |none=>rw[e] at hx;cases hx
  |some n=>
   rw[e] at hx;have hx:V.int (n:Nat)=x:=Option.some.inj hx;subst hx;have hlt:=(List.getElem?_eq_some_iff.mp e).1;refine hs n (List.mem_of_getElem? e) H s (λo H4=>match o with
    |some y=>∃acc,H4 D=some (.lst acc)/\acc.length<sizeLine/\(af H1 (upd H4 D (.lst (acc++[y])))/\(upd H4 D (.lst (acc++[y]))) D=some (.lst ((((ns.take (i+1)).filter c).map f).map V.int)))
    |none=>af H1 H4/\H4 D=some (.lst ((((ns.take (i+1)).filter c).map f).map V.int))) λH4 s4=>?_
   rw[take_snoc e,B9];cases hc:c n with
   |true=>
    refine⟨_,s4 _ _ hDx,?_,af.write (s.trans s4) hD,?_⟩
    ·rw[List.length_map,List.length_map];have:=List.length_filter_le c (ns.take i);rw[List.length_take] at this;exact bU (by omega)
    ·rw[az];simp
   |false=>
    refine⟨s.trans s4,?_⟩;rw[s4 _ _ hDx];simp
 ·rintro H ⟨s,hDx⟩;rw[List.length_map,List.take_length] at hDx;exact hd H s hDx
theorem Mn {n:Nat} {g:TG} {tt:TT} {te:TE} {vs:List Nat} {σ:L2.St} {H1:Hp} {D:Addr} {Qd:Hp->Prop} (c:Nat->Bool) (f:Nat->Int) (hD:H1 D=none) (hlen:n<=100)
 (hs:∀i,i<n->∀(H:Hp),af H1 H->∀Z:Option V->Hp->Prop,(∀H4,af H H4->Z (if c i then some (.int (f i)) else none) H4)->g (.int (i:Nat)) (wipe σ vs) H λσ2 H2=>wipe σ2 vs=wipe σ vs/\tt σ2 H2 λb H3=>if b=true then te σ2 H3 λy H4=>Z (some y) H4 else Z none H3)
 (hd:∀H,af H1 H->H D=some (.lst ((((List.range n).filter c).map f).map V.int))->Qd H):
 ∃W:Nat->Nat->Hp->Prop,(∃m,W 0 m (upd H1 D (.lst [])))/\∀i m H,W i m H->
  ((fj 0 n).stop i H/\Qd H)\/((fj 0 n).go i H/\∃Nx:Hp->Prop,(∀H',Nx H'->∃m',m'<m/\W (i+1) m' H')/\∀x H',(fj 0 n).fF i H x H'->g x (wipe σ vs) H' λσ2 H2=>wipe σ2 vs=wipe σ vs/\tt σ2 H2 λb H3=>
    if b=true then te σ2 H3 λy H4=>∃acc,H4 D=some (.lst acc)/\acc.length<sizeLine/\Nx (upd H4 D (.lst (acc++[y]))) else Nx H3):=by
 refine rL (λm H=>af H1 H/\H D=some (.lst ((((List.range m).filter c).map f).map V.int))) ?_ ?_ ?_
 ·exact⟨af.new hD,az⟩
 ·rintro i H hlt ⟨s,hDx⟩;rw[Int.zero_add];refine hs i hlt H s (λo H4=>match o with
   |some y=>∃acc,H4 D=some (.lst acc)/\acc.length<sizeLine/\(af H1 (upd H4 D (.lst (acc++[y])))/\(upd H4 D (.lst (acc++[y]))) D=some (.lst ((((List.range (i+1)).filter c).map f).map V.int)))
   |none=>af H1 H4/\H4 D=some (.lst ((((List.range (i+1)).filter c).map f).map V.int))) λH4 s4=>?_
  rw[List.range_succ,B9];cases hc:c i with
  |true=>
   refine⟨_,s4 _ _ hDx,?_,af.write (s.trans s4) hD,?_⟩
   ·rw[List.length_map,List.length_map];have:=List.length_filter_le c (List.range i);rw[List.length_range] at this;exact bU (by omega)
   ·rw[az];simp
  |false=>
   refine⟨s.trans s4,?_⟩;rw[s4 _ _ hDx];simp
 ·rintro H ⟨s,hDx⟩;exact hd H s hDx
theorem filter_all {l:List Nat}:l.filter (λ_=>true)=l:=List.filter_eq_self.mpr λ_ _=>rfl
theorem ud:∀l:List Nat,(l.map λ(n:Nat)=>(n:Int)).sum=((l.sum:Nat):Int)
 |[]=>rfl
 |n::l=>by rw[List.map_cons,List.sum_cons,List.sum_cons,ud l];omega
def ix (r:ag) (m:Nat):Nat:=(sN r).idxOf m
def eU (r:ag) (l:List Nat):Nat:=(l.map λm=>2^ix r m).sum
theorem kU {r:ag} {m:Nat} (h:m∈namesOf r):(sN r)[ix r m]?=some m/\ix r m<r.length:=by
 have hm:m∈sN r:=(fT _).mem_iff.mpr h;have hl:(sN r).idxOf m<(sN r).length:=List.idxOf_lt_length_iff.mpr hm;refine⟨?_,by rw[<-fE];exact hl⟩;unfold ix;rw[List.getElem?_eq_getElem hl,List.getElem_idxOf]
theorem Ds {r:ag} (hn:aM r) {i:Nat} (hi:i<r.length):ix r (nm r i)=i:=by
 obtain⟨h1,h2⟩:=kU (Ed hi);rw[m9 h2] at h1;exact xu hn h2 hi (Option.some.inj h1)
theorem Dr {r:ag} {m j:Nat} (h:j<ix r m):(sN r)[j]?≠some m:=by
 intro z;have hj:=(List.getElem?_eq_some_iff.mp z)
 have:=List.not_of_lt_findIdx (p:=λx=>x==m) (xs:=sN r) (i:=j) (by unfold ix at h;unfold List.idxOf at h;exact h);rw[hj.2] at this;simp at this
theorem C7 {r:ag} (hn:aM r) {l:List Nat} (hl:∀m∈l,m∈namesOf r) (hd:l.Nodup) (j:Nat):(eU r l).testBit j=true↔j<r.length/\nm r j∈l:=by
 have eX:(l.map (ix r)).Nodup:=by
  rw[List.nodup_iff_pairwise_ne,List.pairwise_map];refine List.Pairwise.imp_of_mem (λ{a b} ha hb hne e=>hne ?_) hd;have h1:=(kU (hl a ha)).1;have h2:=(kU (hl b hb)).1;rw[e] at h1;rw[h1] at h2;exact Option.some.inj h2
 have e:eU r l=mk (λj=>(l.map (ix r)).contains j) r.length:=by
  have:=sum_mk (l:=l.map (ix r)) (m:=r.length) (a:=0) eX λj hj=>by
   obtain⟨m,hm,rfl⟩:=List.mem_map.mp hj;exact(kU (hl m hm)).2
  rw[Nat.zero_add] at this;rw[<-this];unfold eU;rw[List.sum_eq_foldl_nat,List.foldl_map,List.foldl_map]
 rw[e,<-Lg,iS,Bool.and_eq_true,decide_eq_true_eq,List.contains_iff_mem];refine and_congr_right λhj=>?_;constructor
 ·intro h;obtain⟨m,hm,e⟩:=List.mem_map.mp h;have:=(kU (hl m hm)).1;rw[e,m9 hj] at this;rw[Option.some.inj this];exact hm
 ·intro h;exact List.mem_map.mpr ⟨_,h,Ds hn hj⟩
theorem K6 {r:ag} (hn:aM r) {l:List Nat} (hl:∀m∈l,m∈namesOf r) (hd:l.Nodup) (g:Nat):(eU r l&&& g)=eU r l↔(l.all λm=>(dn r g).contains m)=true:=by
 rw[GX,List.all_eq_true];constructor
 ·intro h m hm;obtain⟨i,hi,rfl⟩:=rP (hl m hm);rw[iG hn hi];exact h i ((C7 hn hl hd i).mpr ⟨hi,hm⟩)
 ·intro h j hj;obtain⟨h1,h2⟩:=(C7 hn hl hd j).mp hj;rw[<-iG hn h1];exact h _ h2
theorem D7 {r:ag} (hn:aM r) {i:Nat} (hi:i<r.length):(∀m∈Vapatc.needs r (nm r i),m∈namesOf r)/\(Vapatc.needs r (nm r i)).Nodup/\(Vapatc.needs r (nm r i)).length<=r.length:=by
 obtain⟨_,h2,h3⟩:=lI hn hi;rw[<-h3,iT hn h2];refine⟨λm hm=>?_,?_,?_⟩
 ·obtain⟨j,hj,rfl⟩:=List.mem_map.mp hm;have:=m8 hj;rw[m6];exact List.mem_map.mpr ⟨j,List.mem_range.mpr (by omega),rfl⟩
 ·rw[List.nodup_iff_pairwise_ne,List.pairwise_map];refine List.Pairwise.imp_of_mem (λ{a b} ha hb hne e=>hne ?_) (D6 (stepsOf r) (pl r i));have:=m8 ha;have:=m8 hb;exact xm hn (by omega) (by omega) e
 ·rw[List.length_map];have:=xp (stepsOf r) (pl r i);omega
end PR
namespace PR
open PySem PySem.Spec PyProof.Rows L2
open Vapatc (namesOf stepsOf)
theorem kh:bootBuiltins "sum"=some (.builtin "sum"):=by decide+kernel
theorem vh:bootBuiltins "max"=some (.builtin "max"):=by decide+kernel
theorem qX (m n:Nat):fY (.int (m:Nat)) (.int (n:Nat))=(m==n):=by
 show((m:Int)==(n:Int))=(m==n)
 by_cases h:m=n
 ·subst h;simp
 ·have h2:¬(m:Int)=(n:Int):=by omega
  rw[beq_eq_false_iff_ne.mpr h,beq_eq_false_iff_ne.mpr h2]
theorem GW (a b:Nat):Builtin.bitAnd (a:Int) (b:Int)=((a&&& b:Nat):Int):=by
 unfold Builtin.bitAnd;have h1:decide ((0:Int)<=(a:Int))=true:=decide_eq_true (by omega);have h2:decide ((0:Int)<=(b:Int))=true:=decide_eq_true (by omega);rw[h1,h2];rfl
theorem ER (a b:Nat):Builtin.bitOr (a:Int) (b:Int)=((a|||b:Nat):Int):=by
 unfold Builtin.bitOr Builtin.bitAnd Builtin.bitNot;have h1:decide ((0:Int)<= -(a:Int)-1)=false:=decide_eq_false (by omega);have h2:decide ((0:Int)<= -(b:Int)-1)=false:=decide_eq_false (by omega);rw[h1,h2];show -(-(((-(-(a:Int)-1)-1).toNat|||(-(-(b:Int)-1)-1).toNat:Nat):Int)-1)-1=_;have e1:(-(-(a:Int)-1)-1).toNat=a:=by omega
 have e2:(-(-(b:Int)-1)-1).toNat=b:=by omega
 rw[e1,e2];omega
theorem n0 (i:Nat):(1:Int)*2^((i:Nat):Int).toNat=((2^i:Nat):Int):=by
 rw[Int.one_mul,show((i:Nat):Int).toNat=i from rfl,Int.natCast_pow];rfl
theorem QX (g i:Nat):((g:Nat):Int) / 2^((i:Nat):Int).toNat=((g / 2^i:Nat):Int):=by
 rw[show((i:Nat):Int).toNat=i from rfl,Int.natCast_ediv,Int.natCast_pow];rfl
theorem mG (i:Nat) (h:i<=1000):ow 1 ((i:Nat):Int):=⟨by omega,by omega,by decide⟩
def eB (r:ag):List Nat:=(List.range r.length).map λi=>eU r (Vapatc.needs r (nm r i))
theorem ND {r:ag} {i:Nat} (h:i<r.length):(eB r)[i]?=some (eU r (Vapatc.needs r (nm r i))):=by
 unfold eB;rw[List.getElem?_map,List.getElem?_range h];rfl
theorem sk (r:ag):(eB r).length=r.length:=by unfold eB;rw[List.length_map,List.length_range]
def jW (H:Hp) (v:V) (r:ag):Prop:=∃p kvs,v= .ref p/\H p=some (.dK kvs)/\∀g,g<2^r.length->bL kvs (bc g)=some (.int (bM r g:Nat))
def Gb:Sp:=λvs H Q _=>∃(v v2:V) (r:ag) (l:List Nat),vs=[v,v2]/\bN H v (Vapatc.ints (sN r))/\bN H v2 (Vapatc.ints l)/\r.length<=10/\l.length<=10/\(∀m∈l,m∈namesOf r)/\∀H':Hp,af H H'->Q (.int (eU r l:Nat)) H'
theorem OA (T:Tx K mg a d):aA P w K mg base aL 1 a.kJ d.kJ ["names","some"] Gb:=by
 refine T.Cr.ok zQ (λvs H Q E h=>?_) (λcdv A outer s H vs Q E hr h=>?_)
 ·obtain⟨v,v2,r,l,rfl,_⟩:=h;rfl
 ·obtain⟨v,v2,r,l,rfl,⟨ln,rfl,hln⟩,⟨ls,rfl,hls⟩,hrl,hll,hm,k⟩:=h;refine⟨_,aj (aq (bh (vC rfl) (by rfl) T.kh kh (aa (fB (own:=[("name",2)]) (te:=cW (rI ow λi j=> .int (i*2^j.toNat)) (tC (.int 1)) (Gk K "list" (Fp K) (aY 0) (cn (aY 2) dS))) rfl zQ.nd (dQ (pv 1)) (eG (N:=["names","some","name"]) (sc:=ay tK) (by decide+kernel)) (λ_ _ _ _ _=>cj (i:=2) zQ.nd rfl (Or.inl rfl)) (λ_ _ _ _ _=>gD)
   (λ_ _ _ _ _=>bt nB aR (eC PySem.F.plainAttrs_list PySem.F.slot_list_index PySem.F.type_list_index DZ (pv 0) (aa (pv 2) ae)))) ae))),?_⟩
  rw[dD] at hln hls;refine⟨_,rfl,ls,rfl,⟨_,ak.of hls⟩,λD hD=>mV (λ_=>true) (λm=>((2^ix r m:Nat):Int)) (ak.of hls) hD (by omega) (λm hml H2 s2 Z z=>?_) (λH2 s2 e2=>?_)⟩
  ·obtain⟨h1,h2⟩:=kU (hm m hml);refine⟨rfl,_,rfl,.inl ⟨rfl,_,ak.of (s2 _ _ hln)⟩,_,rfl,ln,_,_,ix r m,.int (m:Nat),rfl,rfl,ak.of (s2 _ _ hln),rfl,mK _,?_,?_,λj z' hj hz'=>?_,_,_,rfl,rfl,mG _ (by omega),?_⟩
   ·rw[List.getElem?_map,h1];rfl
   ·rw[qX];exact beq_self_eq_true m
   ·rw[List.getElem?_map] at hz';cases e:(sN r)[j]? with
    |none=>rw[e] at hz';cases hz'
    |some x=>
     rw[e] at hz';have hz':V.int (x:Nat)=z':=Option.some.inj hz';subst hz';rw[qX];exact beq_eq_false_iff_ne.mpr λq=>Dr hj (by rw[e,q])
   ·show Z (some (V.int ((1:Int)*2^((ix r m:Nat):Int).toNat))) H2;rw[n0];exact z H2 (af.refl _)
  ·refine⟨D,_,rfl,ak.of e2,?_⟩;have:((l.filter λ_=>true).map λm=>((2^ix r m:Nat):Int)).sum=((eU r l:Nat):Int):=by
    rw[filter_all];unfold eU;rw[<-ud,List.map_map];rfl
   rw[this];exact k H2 s2
def Ga:Sp:=λvs H Q _=>∃(v:V) (r:ag) (g i:Nat),vs=[v,.int (g:Nat),.int (i:Nat)]/\bN H v (Vapatc.ints (eB r))/\aM r/\i<r.length/\∀H':Hp,af H H'->Q (.bl (hZ r g i)) H'
theorem Ov (T:Tx K mg a d):aA P w K mg base aL 1 a.kj d.kj ["needed","group","place"] Ga:=by
 refine T.Cm.ok FP (λvs H Q E h=>?_) (λcdv A outer s H vs Q E hr h=>?_)
 ·obtain⟨v,r,g,i,rfl,_⟩:=h;rfl
 ·obtain⟨v,r,g,i,rfl,⟨l,rfl,hl⟩,hn,hi,k⟩:=h;rw[dD] at hl;refine⟨_,ah (aF (i:=3) FP.nd rfl (Or.inl rfl) (bt EL (bt OV (pv 1) (pv 2)) aR))
   (aj (aq (pN (gA cH (pv 3) aR (aV _)) (nH (gA cH (bt EL (cN eA (pv 0) (pv 2) (λ_ _=>rfl)) (pv 1)) (cN eA (pv 0) (pv 2) (λ_ _=>rfl)) (aV _)))))),?_⟩
  obtain⟨n1,n2,n3⟩:=D7 hn hi;have hv:(List.map (λ(n:Nat)=>V.int n) (eB r))[i]?=some (.int (eU r (Vapatc.needs r (nm r i)):Nat)):=by rw[List.getElem?_map,ND hi];rfl
  refine⟨_,rfl,_,rfl,_,_,rfl,rfl,by omega,_,_,rfl,rfl,?_⟩;have e0:Builtin.bitAnd ((g:Nat) / 2^((i:Nat):Int).toNat) 1=((if g.testBit i then 1 else 0:Nat):Int):=by
   rw[QX,bitAnd_m1,Nat.testBit_eq_decide_div_mod_eq];by_cases h:g / 2^i%2=1
   ·rw[decide_eq_true h,if_pos rfl];omega
   ·rw[decide_eq_false h,if_neg Bool.false_ne_true];omega
  dsimp only;rw[e0];refine⟨_,rfl,rfl,_,rfl,?_⟩;cases hb:g.testBit i with
  |true=>
   have:hZ r g i=false:=by unfold hZ;rw[hb];rfl
   rw[this] at k;exact k H (af.refl _)
  |false=>
   refine⟨_,rfl,_,rfl,l,_,_,_,rfl,rfl,ak.of hl,cK hv,_,rfl,_,_,rfl,rfl,_,rfl,_,rfl,l,_,_,_,rfl,rfl,ak.of hl,cK hv,rfl,?_⟩;have:(decide (V.int (Builtin.bitAnd ((eU r (Vapatc.needs r (nm r i)):Nat):Int) ((g:Nat):Int))=V.int ((eU r (Vapatc.needs r (nm r i)):Nat):Int)))=hZ r g i:=by
    unfold hZ;rw[hb,GW];show _=(true&&_)
    rw[Bool.true_and,Bool.eq_iff_iff,decide_eq_true_eq,V.int.injEq,<-K6 hn n1 n2];omega
   rw[this];exact k H (af.refl _)
def RR:Sp:=λvs H Q _=>∃(v:V) (r:ag) (g:Nat),vs=[v,.int (g:Nat)]/\bN H v (Vapatc.ints (eB r))/\aM r/\r.length<=10/\∀(H':Hp) (v':V),af H H'->bN H' v' (Vapatc.ints (bT r g))->Q v' H'
theorem xN (T:Tx K mg a d):aA P w K mg base aL 2 a.lL d.lL ["needed","group"] RR:=by
 refine T.rj.ok zU (λvs H Q E h=>?_) (λcdv A outer s H vs Q E hr h=>?_)
 ·obtain⟨v,r,g,rfl,_⟩:=h;rfl
 ·obtain⟨v,r,g,rfl,ia,hn,hrl,k⟩:=h;obtain⟨l,rfl,hl⟩:=id ia;rw[dD] at hl;refine⟨_,aj (aq (fB (own:=[("place",2)]) (te:=aY 2) (tt:=tB (jf Ga [] E0 (cn (aY 0) (cn (aY 1) (cn (aY 2) dS))))) rfl zU.nd (pO (by rfl) T.kf (aa (bh bH (by rfl) T.bC PySem.boot_len (aa (pv 0) ae)) ae)) (eG (N:=["needed","group","place"]) (sc:=ay tP) (by decide+kernel)) (λ_ _ _ _ _=>cj (i:=2) zU.nd rfl (Or.inl rfl))
   (λ_ _ _ _ _=>nR (eD (aB (Ov T) hr (by rfl) T.MX T.Cm.kp T.HB .nil au (aa (pv 0) (aa (pv 1) (aa (pv 2) ae)))))) (λ_ _ _ _ _=>pv 2))),?_⟩
  refine⟨_,rfl,l,_,rfl,.inl (ak.of hl),_,rfl,by rw[List.length_map,sk];omega,by rw[List.length_map,sk];omega,λD hD=>?_⟩;have el:(((eB r).map λ(n:Nat)=>V.int n).length:Int).toNat=r.length:=by rw[List.length_map,sk];rfl
  rw[el];refine Mn (hZ r g) (λi=>((i:Nat):Int)) hD (by omega) (λi hi H2 s2 Z z=>?_) (λH2 s2 e2=>?_)
  ·refine⟨rfl,_,rfl,_,rfl,_,rfl,_,r,g,i,rfl,ia.same s2,hn,hi,λH3 s3=>?_⟩;refine⟨_,rfl,?_⟩;have z3:=z H3 s3;cases hc:hZ r g i with
   |true=>rw[hc] at z3;exact⟨_,rfl,z3⟩
   |false=>rw[hc] at z3;exact z3
  ·exact k H2 (.ref D) s2 ⟨D,rfl,e2⟩
end PR
namespace PR
open PySem PySem.Spec PyProof.Rows L2
open Vapatc (namesOf stepsOf)
def R8:Sp:=λvs H Q _=>∃(v:V) (r:ag),vs=[v]/\bN H v (Vapatc.ints (eB r))/\aM r/\r.length<=10/\∀(H':Hp) (v':V),af H H'->jW H' v' r->Q v' H'
theorem OR (T:Tx K mg a d):aA P w K mg base aL 3 a.mx d.mx ["needed"] R8:=by
 refine T.CL.ok nY (λvs H Q E h=>?_) (λcdv A outer s H vs Q E hr h=>?_)
 ·obtain⟨v,r,rfl,_⟩:=h;rfl
 ·obtain⟨v,r,rfl,ia,hn,hrl,k⟩:=h;have hu:=iN hr;obtain⟨l,rfl,hl⟩:=id ia;rw[dD] at hl;refine⟨_,ah (aF (i:=1) nY.nd rfl (Or.inl rfl) (bt pL (bt nB aR (bh bH (by rfl) T.bC PySem.boot_len (aa (pv 0) ae))) aR))
   (ah (aF (i:=2) nY.nd rfl (Or.inr rfl) (E3 (x6 (pv 1) aR Fl) rfl rfl (by simp) (by decide)))
   (ah (fD PassesOwn.never rfl (Pc (by rfl) T.kf (aa (bt pL (pv 1) aR) (aa (xX Ak aR) (aa (xX Ak aR) ae)))) (cj (i:=3) nY.nd rfl (Or.inr rfl))
    (aj (nQ hu (pv 2) (pv 3) (bh (vC rfl) (by rfl) T.kh kh (aa (fB (own:=[("place",4)]) (te:=Ac (aY 2) (cW (dI λi j=> .int (Builtin.bitOr i j)) (aY 3) (cW (rI ow λi j=> .int (i*2^j.toNat)) (tC (.int 1)) (aY 4)))) rfl nY.nd (dQ (aB (xN T) hr (by rfl) T.wZ T.rj.kp T.uZ .nil au (aa (pv 0) (aa (pv 3) ae)))) (eG (N:=["needed","everything","ways","group","place"]) (sc:=ay tR) (by decide+kernel)) (λ_ _ _ _ _=>cj (i:=4) nY.nd rfl (Or.inl rfl)) (λ_ _ _ _ _=>gD)
     (λ_ _ _ _ _=>ik hu (pv 2) (bt EO (pv 3) (bt nB aR (pv 4))) (λ_ _=>rfl))) ae)) rfl)))
   (aj (aq (pv 2))))),?_⟩
  have hp:0<2^r.length:=Nat.two_pow_pos _;have hp2:2^r.length<=2^10:=Nat.pow_le_pow_right (by decide) hrl;have hnl:((eB r).map λ(n:Nat)=>V.int n).length=r.length:=by rw[List.length_map,sk]
  refine⟨_,rfl,l,_,rfl,.inl (ak.of hl),_,_,rfl,rfl,by rw[hnl];exact mG _ (by omega),_,_,rfl,rfl,?_⟩;have eE:(1:Int)*2^((((eB r).map λ(n:Nat)=>V.int n).length:Nat):Int).toNat-1=((2^r.length-1:Nat):Int):=by rw[hnl,n0];omega
  dsimp only;rw[eE];obtain⟨M,eM⟩:∃M,2^r.length-1=M:=⟨_,rfl⟩
  rw[eM];intro p np;refine⟨_,rfl,az,[(bc M,.int 1)],rfl,(by show 1<=15;decide),?_⟩;rw[eF];have s1:af H (upd H p (.dK (fu [] [(bc M,.int 1)]))):=af.new np;have h1:(upd H p (.dK (fu [] [(bc M,.int 1)]))) p=some (.dK [(bc M,.int 1)]):=az;generalize upd H p (.dK (fu [] [(bc M,.int 1)]))=H1 at s1 h1⊢;have hl1:=s1 _ _ hl;have nlp:l≠p:=bq hl np;refine⟨_,rfl,_,_,rfl,rfl,_,rfl,_,rfl,_,_,_,_,rfl,qk.neg (by omega) (by omega) (by omega) (by omega),?_⟩;have eN:(((M:Nat):Int)-1- -1).toNat=M:=by omega
  rw[eN];refine Kp (λi σ H2=>∃(kvs:List (Key×V)) (v3 v4:Option V),σ=[some (.ref l),some (.int (M:Nat)),some (.ref p),v3,v4]/\ax p H1 H2/\H2 p=some (.dK kvs)/\kvs.length<=i+1/\∀g,M<=g+i->g<=M->bL kvs (bc g)=some (.int (bM r g:Nat))) ?_ ?_ ?_
  ·refine⟨_,none,none,rfl,ax.refl _ _,h1,Nat.le_refl _,λg h2 h3=>?_⟩;have:g=M:=by omega
   subst this;rw[fi rfl,<-eM,Ao hn];rfl
  ·rintro i σ H2 hi ⟨kvs,v3,v4,rfl,S2,hp2',hkl,hw⟩;have eg:((M:Nat):Int)-1+((i:Nat):Int)* -1=((M-1-i:Nat):Int):=by omega
   rw[eg];obtain⟨g,hg⟩:∃g,M-1-i=g:=⟨_,rfl⟩
   rw[hg];have hl2:=S2 _ _ hl1 nlp;have hgl:g<2^r.length:=by omega
   have hgf:g≠2^r.length-1:=by omega
   have eint:(Vapatc.ints (eB r)).map V.int=(eB r).map λ(n:Nat)=>V.int n:=dD _;refine⟨_,rfl,_,rfl,_,r,g,rfl,⟨l,rfl,by rw[eint];exact hl2⟩,hn,hrl,λH3 v5 s3 i3=>?_⟩;obtain⟨L,rfl,hL⟩:=i3;rw[dD] at hL;have hnx:(bT r g).length<=10:=by
    unfold bT;refine Nat.le_trans (List.length_filter_le _ _) ?_;rw[List.length_range];exact hrl
   refine⟨L,rfl,⟨_,ak.of hL⟩,λD hD=>mV (λ_=>true) (λj=>((bM r (g|||2^j):Nat):Int)) (ak.of hL) hD (by omega) (λj hj H4 s4 Z z=>?_) (λH4 s4 e4=>?_)⟩
   ·obtain⟨hj1,hj2⟩:=hX hj;have hlt:=sT hgl hj1;have hge:g<g|||2^j:=by rw[xS hj2];have:=Nat.two_pow_pos j;omega
    have hdk:=s4 _ _ (s3 _ _ hp2');refine⟨rfl,_,rfl,_,rfl,_,rfl,_,_,rfl,rfl,mG _ (by omega),_,_,rfl,rfl,?_⟩;rw[n0];dsimp only;rw[ER];refine⟨p,_,rfl,?_,z H4 (af.refl _)⟩;have:=cA.k (k:=bc (g|||2^j)) hdk;rw[hw (g|||2^j) (by omega) (by omega)] at this;exact this
   ·have hdk:=s4 _ _ (s3 _ _ hp2');have es:(((bT r g).filter λ_=>true).map λj=>((bM r (g|||2^j):Nat):Int)).sum=((bM r g:Nat):Int):=by
     rw[filter_all,uk hn hgl hgf,<-ud,List.map_map];rfl
    refine⟨D,_,rfl,ak.of e4,?_⟩;dsimp only;rw[es];refine⟨_,rfl,_,rfl,p,_,rfl,gn.k (k:=bc g) hdk (mX (by omega)),_,_,_,rfl,(S2.trans (af.x (s3.trans s4))).trans ax.upd,az,?_,λg' h2 h3=>?_⟩
    ·have:=rM kvs (bc g) (.int ((bM r g:Nat):Int));omega
    ·rw[uj];by_cases e:g'=g
     ·rw[e,if_pos rfl]
     ·rw[if_neg λz=>e (pG z)];exact hw g' (by omega) h3
  ·rintro σ H2 ⟨kvs,v3,v4,rfl,S2,hp2',hkl,hw⟩;refine⟨_,rfl,k H2 (.ref p) (af.bY s1 S2 np) ⟨p,kvs,rfl,hp2',λg hg=>hw g (by omega) (by omega)⟩⟩
end PR
namespace PR
open PySem PySem.Spec PyProof.Rows L2
open Vapatc (namesOf stepsOf needSets countTable kthBy rankBy)
theorem jW.same {H H':Hp} {v:V} {r:ag} (h:jW H v r) (s:af H H'):jW H' v r:=by
 obtain⟨p,kvs,e,q,z⟩:=h;exact⟨p,kvs,e,s _ _ q,z⟩
theorem jW.get {H:Hp} {p:Addr} {r:ag} {g:Nat} (h:jW H (.ref p) r) (hg:g<2^r.length):cA H p (.int (g:Nat)) (some (.int (bM r g:Nat))):=by
 obtain⟨p',kvs,e,q,z⟩:=h;cases e;have:=cA.k (k:=bc g) q;rw[z g hg] at this;exact this
def fW (a:Ad) (H:Hp) (v:V) (r:ag):Prop:=∃x dx v0 v1 v2,v= .ref x/\H x=some (.ins a.bD dx (eJ v0 v1 v2))/\bN H v0 (Vapatc.ints (sN r))/\bN H v1 (Vapatc.ints (eB r))/\jW H v2 r
theorem fW.same {a:Ad} {H H':Hp} {v:V} {r:ag} (h:fW a H v r) (s:af H H'):fW a H' v r:=by
 obtain⟨x,dx,v0,v1,v2,e,hx,h0,h1,h2⟩:=h;exact⟨x,dx,v0,v1,v2,e,s _ _ hx,h0.same s,h1.same s,h2.same s⟩
theorem bN.xC {H H':Hp} {v:V} {ns:List Int} {r C dx:Addr} {fs:List (Str×V)} (h:bN H v ns) (s:ax r H H') (hr:H r=some (.ins C dx fs)):bN H' v ns:=by
 obtain⟨l,e,q⟩:=h;exact⟨l,e,s _ _ q (bP q hr (by intro y;cases y))⟩
def Rc (K:PySem.W.Frag) (a:Ad):Sp:=λvs H Q _=>∃(p dx:Addr) (v:V) (r:ag),vs=[.ref p,v]/\H p=some (.ins a.bD dx [])/\bw K a H v r/\aM r/\r.length<=10/\∀H':Hp,ax p H H'->fW a H' (.ref p) r->Q .aI H'
theorem xE (T:Tx K mg a d):aA P w K mg base aL 10 a.jI d.jI ["self","row"] (Rc K a):=by
 refine T.Kb.ok zP (λvs H Q E h=>?_) (λcdv A outer s H vs Q E hr h=>?_)
 ·obtain⟨p,dx,v,r,rfl,_⟩:=h;rfl
 ·obtain⟨p,dx,v,r,rfl,hp,hrow,hn,hrl,k⟩:=h;refine⟨_,ah (ck (pv 0) (bh BD (by rfl) T.kg kg (aa (aB (sM T) (hr.mono (by decide)) (by rfl) T.rY T.oU.kp T.qC .nil au (aa (pv 1) ae)) ae)) rfl)
   (ah (ck (pv 0) (fB (own:=[("name",2)]) (te:=jf Gb [] E0 (cn (iz K (aY 0) "names") (cn (jf (z8 K a) [] E0 (cn (aY 1) (cn (jf (Gf K a) [] E0 (cn (aY 1) (cn (aY 2) dS))) dS))) dS))) rfl zP.nd (dQ (ao (pv 0) rfl)) (eG (N:=["self","row","name"]) (sc:=ay tG) (by decide+kernel)) (λ_ _ _ _ _=>cj (i:=2) zP.nd rfl (Or.inl rfl)) (λ_ _ _ _ _=>gD)
    (λ_ _ _ _ _=>aB (OA T) (hr.mono (by decide)) (by rfl) T.M4 T.Cr.kp T.HH .nil au (aa (xW (K:=K) rfl (pv 0) rfl) (aa (aB (sO T) hr (by rfl) T.rZ T.oV.kp T.qD .nil au (aa (pv 1) (aa (aB (ic T) (hr.mono (by decide)) (by rfl) T.g0 T.gu.kp T.gN .nil au (aa (pv 1) (aa (pv 2) ae))) ae))) ae)))) rfl)
   (aj (ck (pv 0) (aB (OR T) (hr.mono (by decide)) (by rfl) T.Nm T.CL.kp T.Ib .nil au (aa (ao (pv 0) rfl) ae)) rfl))),?_⟩
  refine⟨_,rfl,_,r,rfl,hrow,by omega,λH1 v1 s1 i1=>?_⟩;obtain⟨l1,rfl,hl1⟩:=i1;refine⟨l1,_,rfl,ak.of hl1,?_,λns' hpm hps l2 H2 n2 s2 e2=>?_⟩
  ·unfold Vapatc.ints;rw[List.length_map,cz];omega
  have e2:H2 l2=some (.lst ((Vapatc.ints (sN r)).map V.int)):=by rw[e2,sorted_ints hpm hps];rfl
  have s02:=s1.trans s2;have hp2:=s02 _ _ hp;refine⟨_,rfl,p,a.bD,dx,_,rfl,hp2,T.df,T.nh,cg cb,?_⟩;have S3:ax p H2 (upd H2 p (.ins a.bD dx (aQ "names" (.ref l2) []))):=ax.upd;have hp3:(upd H2 p (.ins a.bD dx (aQ "names" (.ref l2) []))) p=some (.ins a.bD dx (aQ "names" (.ref l2) [])):=az;have i3:bN (upd H2 p (.ins a.bD dx (aQ "names" (.ref l2) []))) (.ref l2) (Vapatc.ints (sN r)):=bN.xC ⟨l2,rfl,e2⟩ S3 hp2;have row3:=(hrow.same s02).xI T.vI.2 S3 hp2;generalize upd H2 p (.ins a.bD dx (aQ "names" (.ref l2) []))=H3 at S3 hp3 i3 row3⊢;have hl3:=i3;obtain⟨_,e3,hl3⟩:=hl3;cases e3;rw[dD] at hl3;have lk:(aQ "names" (V.ref l2) ([]:List (Str×V))).lookup ("names":Str)=some (V.ref l2):=by rw[aD,if_pos rfl]
  refine⟨_,rfl,p,a.bD,dx,_,_,rfl,hp3,T.df,T.nh,lk,l2,rfl,⟨_,ak.of hl3⟩,λD hD=>mV (λ_=>true) (λm=>((eU r (Vapatc.needs r m):Nat):Int)) (ak.of hl3) hD (by rw[fE];omega) (λm hm H4 s4 Z z=>?_) (λH4 s4 e4=>?_)⟩
  ·have hm:m∈namesOf r:=(fT _).mem_iff.mp hm;obtain⟨j,hj1,hj2,hj3⟩:=sV hm;obtain⟨i,hi,ei⟩:=rP hm;obtain⟨n1,n2,n3⟩:=D7 hn hi;rw[ei] at n1 n2 n3;refine⟨rfl,_,rfl,p,a.bD,dx,_,_,rfl,s4 _ _ hp3,T.df,T.nh,lk,_,rfl,_,rfl,_,rfl,_,r,(m:Int),rfl,row3.same s4,λj' hj' H5 s5=>?_,λhno=>by rw[hj1] at hno;cases hno⟩;rw[hj1] at hj';cases hj';refine⟨_,r,j,rfl,row3.same (s4.trans s5),hj3,by omega,λH6 v6 s6 i6=>?_⟩;have en:nameAt r j=m:=by
    have:=(nO hn hj1).2.2.1;rw[<-this];rfl
   rw[<-iT hn hj3,en] at i6;exact⟨_,_,r,_,rfl,i3.same ((s4.trans s5).trans s6),i6,hrl,by omega,n1,λH7 s7=>z H7 ((s5.trans s6).trans s7)⟩
  ·have hp4:=s4 _ _ hp3;have hDp:D≠p:=Ne.symm (bq hp3 hD);refine⟨_,rfl,p,a.bD,dx,_,rfl,hp4,T.df,T.sE,cg (lp cb),?_⟩;have S5:ax p H4 (upd H4 p (.ins a.bD dx (aQ "needed" (.ref D) (aQ "names" (.ref l2) [])))):=ax.upd;have hp5:(upd H4 p (.ins a.bD dx (aQ "needed" (.ref D) (aQ "names" (.ref l2) [])))) p=some (.ins a.bD dx (aQ "needed" (.ref D) (aQ "names" (.ref l2) []))):=az;have i5:=(i3.same s4).xC S5 hp4;have j5:bN (upd H4 p (.ins a.bD dx (aQ "needed" (.ref D) (aQ "names" (.ref l2) [])))) (.ref D) (Vapatc.ints (eB r)):=by
    refine bN.xC ⟨D,rfl,?_⟩ S5 hp4;rw[e4,filter_all,ym,List.map_map];unfold Vapatc.ints eB;rw[List.map_map,List.map_map,List.map_map];rfl
   generalize upd H4 p (.ins a.bD dx (aQ "needed" (.ref D) (aQ "names" (.ref l2) [])))=H5 at S5 hp5 i5 j5⊢;have lk2:(aQ "needed" (V.ref D) (aQ "names" (V.ref l2) ([]:List (Str×V)))).lookup ("needed":Str)=some (V.ref D):=by rw[aD,if_pos rfl]
   refine⟨_,rfl,p,a.bD,dx,_,_,rfl,hp5,T.df,T.sE,lk2,_,r,rfl,j5,hn,hrl,λH6 v6 s6 w6=>?_⟩;have hp6:=s6 _ _ hp5;refine⟨_,rfl,p,a.bD,dx,_,rfl,hp6,T.df,T.xx,cg (lp (lp cb)),?_⟩;refine k _ (((((af.x s02).trans S3).trans (af.x s4)).trans S5).trans ((af.x s6).trans ax.upd)) ⟨p,dx,.ref l2,.ref D,v6,rfl,az,(i5.same s6).xC ax.upd hp6,(j5.same s6).xC ax.upd hp6,?_⟩;obtain⟨q,kvs,e,hq,hw⟩:=w6;exact⟨q,kvs,e,by rw[aT (bP hq hp6 (by intro y;cases y))];exact hq,hw⟩
def Rb (a:Ad):Sp:=λvs H Q _=>∃(v:V) (r:ag),vs=[v]/\fW a H v r/\∀H':Hp,af H H'->Q (.int (bM r 0:Nat)) H'
theorem Ep (T:Tx K mg a d):aA P w K mg base aL 1 a.jG d.jG ["self"] (Rb a):=by
 refine T.J9.ok Qq (λvs H Q E h=>?_) (λcdv A outer s H vs Q E hr h=>?_)
 ·obtain⟨v,r,rfl,_⟩:=h;rfl
 ·obtain⟨v,r,rfl,⟨x,dx,v0,v1,v2,rfl,hx,h0,h1,h2⟩,k⟩:=h;have hu:=iN hr;obtain⟨p,_,rfl,_,_⟩:=id h2;refine⟨_,aj (aq (ik hu (ao (pv 0) rfl) aR (λ_ _=>rfl))),?_⟩;exact⟨_,rfl,x,a.bD,dx,_,_,rfl,hx,T.df,T.xx,C5,p,_,rfl,h2.get (Nat.two_pow_pos _),k H (af.refl _)⟩
def F5 (a:Ad):Sp:=λvs H Q _=>∃(v:V) (r:ag) (g i:Nat),vs=[v,.int (g:Nat),.int (i:Nat)]/\fW a H v r/\aM r/\r.length<=10/\g<2^r.length/\∀H':Hp,af H H'->Q (.int (below r g i:Nat)) H'
theorem xD (T:Tx K mg a d):aA P w K mg base aL 3 a.jH d.jH ["self","group","place"] (F5 a):=by
 refine T.Ka.ok pW (λvs H Q E h=>?_) (λcdv A outer s H vs Q E hr h=>?_)
 ·obtain⟨v,r,g,i,rfl,_⟩:=h;rfl
 ·obtain⟨v,r,g,i,rfl,oa,hn,hrl,hg,k⟩:=h;have hu:=iN hr;refine⟨_,ah (Fm (i:=3) (own:=[("lower",4)]) (te:=aY 4) (tt:=oq (cW (dI λi j=> .bl (decide (i<j))) (aY 4) (aY 2))) rfl pW.nd rfl rfl (Gi rfl rfl rfl rfl)
   (dQ (aB (xN T) hr (by rfl) T.wZ T.rj.kp T.uZ .nil au (aa (ao (pv 0) rfl) (aa (pv 1) ae)))) (eG (N:=["self","group","place","below","lower"]) (sc:=ay pU) (by decide+kernel)) (λ_ _ _ _ _=>cj (i:=4) pW.nd rfl (Or.inl rfl))
   (λ_ _ _ _ _=>nR (aX ie (pv 4) (pv 2) (aV _))) (λ_ _ _ _ _=>pv 4))
   (aj (aq (bh (vC rfl) (by rfl) T.kh kh (aa (fB (own:=[("lower",4)]) (te:=Ac (iz K (aY 0) "ways") (cW (dI λi j=> .int (Builtin.bitOr i j)) (aY 1) (cW (rI ow λi j=> .int (i*2^j.toNat)) (tC (.int 1)) (aY 4)))) rfl pW.nd (dQ (pv 3)) (eG (N:=["self","group","place","below","lower"]) (sc:=ay pU) (by decide+kernel)) (λ_ _ _ _ _=>cj (i:=4) pW.nd rfl (Or.inl rfl)) (λ_ _ _ _ _=>gD)
    (λ_ _ _ _ _=>ik hu (xW (K:=K) rfl (pv 0) rfl) (bt EO (pv 1) (bt nB aR (pv 4))) (λ_ _=>rfl))) ae)))),?_⟩
  obtain⟨x,dx,v0,v1,v2,rfl,hx,h0,h1,h2⟩:=id oa;have hnx:(bT r g).length<=10:=by
   unfold bT;refine Nat.le_trans (List.length_filter_le _ _) ?_;rw[List.length_range];exact hrl
  refine⟨_,rfl,x,a.bD,dx,_,_,rfl,hx,T.df,T.sE,C3,_,rfl,_,r,g,rfl,h1,hn,hrl,λH1 v1' s1 i1=>?_⟩;obtain⟨L,rfl,hL⟩:=i1;rw[dD] at hL;refine⟨L,rfl,⟨_,ak.of hL⟩,λD hD=>mV (λj=>decide (j<i)) (λj=>((j:Nat):Int)) (ak.of hL) hD (by omega) (λj hj H2 s2 Z z=>?_) (λH2 s2 e2=>?_)⟩
  ·refine⟨rfl,_,rfl,_,rfl,_,_,rfl,rfl,_,rfl,?_⟩;have z2:=z H2 (af.refl _);by_cases hji:j<i
   ·rw[decide_eq_true hji] at z2;have:decide (((j:Nat):Int)<((i:Nat):Int))=true:=decide_eq_true (by omega);rw[this];exact⟨_,rfl,z2⟩
   ·rw[decide_eq_false hji] at z2;have:decide (((j:Nat):Int)<((i:Nat):Int))=false:=decide_eq_false (by omega);rw[this];exact z2
  ·have e2:H2 D=some (.lst (((bT r g).filter λj=>decide (j<i)).map λ(n:Nat)=>V.int n)):=by rw[e2,List.map_map];rfl
   have hfl:=List.length_filter_le (λj=>decide (j<i)) (bT r g);refine⟨_,rfl,D,rfl,⟨_,ak.of e2⟩,λD2 hD2=>mV (λ_=>true) (λj=>((bM r (g|||2^j):Nat):Int)) (ak.of e2) hD2 (by omega) (λj hj H3 s3 Z z=>?_) (λH3 s3 e3=>?_)⟩
   ·obtain⟨hj1,hj2⟩:=hX (List.mem_filter.mp hj).1;have s03:=(s1.trans s2).trans s3;obtain⟨p,_,rfl,_,_⟩:=id h2;refine⟨rfl,_,rfl,x,a.bD,dx,_,_,rfl,s03 _ _ hx,T.df,T.xx,C5,_,rfl,_,rfl,_,_,rfl,rfl,mG _ (by omega),_,_,rfl,rfl,?_⟩;rw[n0];dsimp only;rw[ER];exact⟨p,_,rfl,(h2.same s03).get (sT hg hj1),z H3 (af.refl _)⟩
   ·refine⟨D2,_,rfl,ak.of e3,?_⟩;have:((((bT r g).filter λj=>decide (j<i)).filter λ_=>true).map λj=>((bM r (g|||2^j):Nat):Int)).sum=((below r g i:Nat):Int):=by
     rw[filter_all];unfold below;rw[<-ud,List.map_map];rfl
    rw[this];exact k H3 ((s1.trans s2).trans s3)
end PR
namespace PR
open PySem PySem.Spec PyProof.Rows L2
open Vapatc (namesOf stepsOf needSets countTable kthBy rankBy)
theorem fW.old {a:Ad} {H0 H1 H2:Hp} {v:V} {r:ag} {L:Addr} (h:fW a H0 v r) (s:af H0 H1) (S:ax L H1 H2) (n:H0 L=none):fW a H2 v r:=h.same (af.bY s S n)
def Rg (a:Ad):Sp:=λvs H Q _=>∃(v:V) (r:ag) (k:Nat),vs=[v,.int (k:Nat)]/\fW a H v r/\aM r/\r.length<=10/\k<bM r 0/\∀(l:List Nat) (H':Hp) (v':V),Vapatc.kth r k=some l->l.length=r.length->af H H'->bN H' v' (Vapatc.ints l)->Q v' H'
theorem Og (T:Tx K mg a d):aA P w K mg base aL 4 a.jK d.jK ["self","number"] (Rg a):=by
 refine T.Kd.ok gE (λvs H Q E h=>?_) (λcdv A outer s H vs Q E hr h=>?_)
 ·obtain⟨v,r,k,rfl,_⟩:=h;rfl
 ·obtain⟨v,r,k,rfl,oa,hn,hrl,hk,kk⟩:=h;refine⟨_,ah (aF (i:=2) gE.nd rfl (Or.inl rfl) (bj ae))
   (ah (aF (i:=3) gE.nd rfl (Or.inr rfl) aR)
   (ah (aF (i:=4) gE.nd rfl (Or.inr rfl) (pv 1))
   (ah (x9 PassesOwn.never (aX ie (bh bH (by rfl) T.bC PySem.boot_len (aa (pv 2) ae)) (bh bH (by rfl) T.bC PySem.boot_len (aa (ao (pv 0) rfl) ae)) (aV _))
    (ah (aF (i:=5) gE.nd rfl (Or.inl rfl) (aB (xN T) (hr.mono (by decide)) (by rfl) T.wZ T.rj.kp T.uZ .nil au (aa (ao (pv 0) rfl) (aa (pv 3) ae))))
    (ah (aF (i:=6) gE.nd rfl (Or.inl rfl) (bh (Iz rfl) (by rfl) T.vh vh (aa (fB (own:=[("next_one",7)]) (te:=aY 7) (tt:=oq (cW (dI λi j=> .bl (decide (i<=j))) (Ae a.bD "how_many_below" (F5 a) [] E0 (aY 0) (cn (aY 3) (cn (aY 7) dS))) (aY 4))) rfl gE.nd (dQ (pv 5)) (eG (N:=["self","number","order","group","left","free","place","next_one"]) (sc:=ay tH) (by decide+kernel)) (λ_ _ _ _ _=>cj (i:=7) gE.nd rfl (Or.inl rfl))
     (λ_ _ _ _ _=>nR (aX OU (cI (pv 0) T.df T.wO (xD T) hr T.uR .nil au (aa (pv 3) (aa (pv 7) ae))) (pv 4) (aV _))) (λ_ _ _ _ _=>pv 7)) ae)))
    (ah (nP (i:=4) gE.nd rfl (Or.inr rfl) (cI (pv 0) T.df T.wO (xD T) hr T.uR .nil au (aa (pv 3) (aa (pv 6) ae))) Lx)
    (ah (nP (i:=3) gE.nd rfl (Or.inr rfl) (bt nB aR (pv 6)) pB)
    (aj (dH (eC PySem.F.plainAttrs_list PySem.F.slot_list_append PySem.F.type_list_append hJ (pv 2) (aa (cN eA (ao (pv 0) rfl) (pv 6) (λ_ _=>rfl)) ae)))))))))
   (aj (aq (pv 2)))))),?_⟩
  refine⟨Nat.zero_le _,λL H1 nL s1 hL=>?_⟩;refine⟨_,rfl,Aq (λm σ H2=>∃(g lf:Nat) (v5 v6 v7:Option V) (ord:List Nat),σ=[some v,some (.int (k:Nat)),some (.ref L),some (.int (g:Nat)),some (.int (lf:Nat)),v5,v6,v7]/\ax L H1 H2/\H2 L=some (.lst (ord.map λ(n:Nat)=>V.int n))/\g<2^r.length/\bits r.length g=ord.length/\lf<bM r g/\m+ord.length=r.length/\
   Vapatc.kth r k=(kthBy r (needSets r) (countTable (needSets r)) m (bg r (dn r g)) lf).map λl=>ord++l) r.length ?_ ?_⟩
  ·refine⟨0,k,none,none,none,[],rfl,ax.refl _ _,hL,Nat.two_pow_pos _,Ie _,hk,rfl,?_⟩;rw[Du];cases kthBy r (needSets r) (countTable (needSets r)) r.length (bg r (dn r 0)) k<;>rfl
  ·rintro m σ H2 ⟨g,lf,v5,v6,v7,ord,rfl,S2,hL2,hg,hbt,hlf,hm,eq⟩;have oa2:=oa.old s1 S2 nL;obtain⟨x,dx,v0,v1,v2,rfl,hx,h0,h1,h2⟩:=id oa2;obtain⟨ln,rfl,hln⟩:=id h0;rw[dD] at hln;have hnl:((sN r).map λ(n:Nat)=>V.int n).length=r.length:=by rw[List.length_map,fE]
   refine⟨decide (((ord.map λ(n:Nat)=>V.int n).length:Int)<(((sN r).map λ(n:Nat)=>V.int n).length:Int)),H2,λQ q=>⟨_,rfl,L,_,rfl,.inl (ak.of hL2),_,rfl,x,a.bD,dx,_,_,rfl,hx,T.df,T.nh,wo,ln,_,rfl,.inl (ak.of hln),_,_,rfl,rfl,_,rfl,q⟩,λz=>?_,λz=>?_⟩
   ·have hlt:ord.length<r.length:=by have:=of_decide_eq_true z;rw[hnl,List.length_map] at this;omega
    have hgf:g≠2^r.length-1:=λe=>by have:=(Bh hg).mpr e;omega
    have hnx:(bT r g).length<=10:=by
     unfold bT;refine Nat.le_trans (List.length_filter_le _ _) ?_;rw[List.length_range];exact hrl
    refine⟨_,rfl,x,a.bD,dx,_,_,rfl,hx,T.df,T.sE,C3,_,rfl,_,r,g,rfl,h1,hn,hrl,λH3 v3 s3 i3=>?_⟩;obtain⟨F,rfl,hF⟩:=i3;rw[dD] at hF;have hx3:=s3 _ _ hx;refine⟨_,rfl,F,rfl,⟨_,ak.of hF⟩,λD hD=>mV (λj=>decide (below r g j<=lf)) (λj=>((j:Nat):Int)) (ak.of hF) hD (by omega) (λj hj H4 s4 Z z=>?_) (λH4 s4 e4=>?_)⟩
    ·refine⟨rfl,_,rfl,x,dx,_,rfl,s4 _ _ hx3,wq,_,rfl,_,rfl,_,r,g,j,rfl,oa2.same (s3.trans s4),hn,hrl,hg,λH5 s5=>?_⟩;refine⟨_,rfl,_,_,rfl,rfl,_,rfl,?_⟩;have z2:=z H5 s5;by_cases hji:below r g j<=lf
     ·rw[decide_eq_true hji] at z2;have:decide (((below r g j:Nat):Int)<=((lf:Nat):Int))=true:=decide_eq_true (by omega);rw[this];exact⟨_,rfl,z2⟩
     ·rw[decide_eq_false hji] at z2;have:decide (((below r g j:Nat):Int)<=((lf:Nat):Int))=false:=decide_eq_false (by omega);rw[this];exact z2
    ·obtain⟨i0,hi0,hb0⟩:=G6 hn hg hgf hlf;have hm0:((i0:Nat):Int)∈((bT r g).filter λj=>decide (below r g j<=lf)).map λj=>((j:Nat):Int):=List.mem_map.mpr ⟨i0,List.mem_filter.mpr ⟨hi0,decide_eq_true hb0⟩,rfl⟩;refine⟨D,_,rfl,ak.of e4,List.length_pos_of_mem hm0,λM hM hmax=>?_⟩;obtain⟨i,hi,rfl⟩:=List.mem_map.mp hM;obtain⟨hi1,hi2⟩:=List.mem_filter.mp hi;have hi2:=of_decide_eq_true hi2;obtain⟨hil,hib⟩:=hX hi1;have hk2:=G7 hn hg hgf hlf hi1 hi2 λj hj hb=>by
      have:=hmax ((j:Nat):Int) (List.mem_map.mpr ⟨j,List.mem_filter.mpr ⟨hj,decide_eq_true hb⟩,rfl⟩);omega
     have s24:=s3.trans s4;refine⟨_,rfl,_,rfl,x,dx,_,rfl,s24 _ _ hx,wq,_,rfl,_,rfl,_,r,g,i,rfl,oa2.same s24,hn,hrl,hg,λH5 s5=>?_⟩;have s25:=s24.trans s5;refine⟨_,_,rfl,rfl,_,rfl,_,rfl,_,_,rfl,rfl,mG _ (by omega),_,_,rfl,rfl,?_⟩;have hL5:=s25 _ _ hL2;have hv:((sN r).map λ(n:Nat)=>V.int n)[i]?=some (.int (nm r i:Nat)):=by rw[List.getElem?_map,m9 hil];rfl
     refine⟨_,rfl,.inl ⟨rfl,_,ak.of hL5⟩,_,rfl,x,a.bD,dx,_,_,rfl,s25 _ _ hx,T.df,T.nh,wo,_,rfl,ln,_,_,_,rfl,rfl,ak.of (s25 _ _ hln),cK hv,L,_,_,rfl,rfl,hL5,by rw[List.length_map];exact bU (by omega),?_⟩;refine⟨m-1,by omega,g|||2^i,lf-below r g i,some (.ref F),some (.int (i:Nat)),v7,ord++[nm r i],?_,(S2.trans (af.x s25)).trans ax.upd,?_,sT hg hil,?_,by omega,by rw[List.length_append,List.length_singleton];omega,?_⟩
     ·show[some (V.ref x),some (V.int (k:Nat)),some (V.ref L),some (V.int (((g:Nat):Int)+1*2^((i:Nat):Int).toNat)),some (V.int (((lf:Nat):Int)-((below r g i:Nat):Int))),some (V.ref F),some (V.int (i:Nat)),v7]=_;rw[n0];have e1:((g:Nat):Int)+((2^i:Nat):Int)=((g|||2^i:Nat):Int):=by rw[xS hib];omega
      have e2:((lf:Nat):Int)-((below r g i:Nat):Int)=((lf-below r g i:Nat):Int):=by omega
      rw[e1,e2]
     ·rw[az,List.map_append];rfl
     ·rw[Bi hib hil,hbt,List.length_append,List.length_singleton]
     ·obtain⟨m',rfl⟩:∃m',m=m'+1:=⟨m-1,by omega⟩
      rw[eq,Mj hn hg hgf hi1 hi2 hk2,Option.map_map];show Option.map _ _=Option.map _ (kthBy r (needSets r) (countTable (needSets r)) m' _ _);congr 1;funext l;show ord++nm r i::l=(ord++[nm r i])++l;rw[List.append_assoc];rfl
   ·have hge:r.length<=ord.length:=by have:=of_decide_eq_false z;rw[hnl,List.length_map] at this;omega
    have hol:ord.length=r.length:=by omega
    have hgf:=(Bh hg).mp (hbt.trans hol);subst hgf;rw[Mh hn hlf] at eq;have eq:Vapatc.kth r k=some (ord++[]):=eq;rw[List.append_nil] at eq;refine⟨_,rfl,kk ord H2 (.ref L) eq hol (af.bY s1 S2 nL) ⟨L,rfl,?_⟩⟩;rw[dD];exact hL2
def Rf (a:Ad):Sp:=λvs H Q _=>∃(v v2:V) (r:ag),vs=[v,v2]/\fW a H v r/\bN H v2 (Vapatc.ints (namesOf r))/\aM r/\r.length<=10/\∀H':Hp,af H H'->Q (.int (Vapatc.rank r:Nat)) H'
theorem Of (T:Tx K mg a d):aA P w K mg base aL 4 a.jJ d.jJ ["self","order"] (Rf a):=by
 refine T.Kc.ok lW (λvs H Q E h=>?_) (λcdv A outer s H vs Q E hr h=>?_)
 ·obtain⟨v,v2,r,rfl,_⟩:=h;rfl
 ·obtain⟨v,v2,r,rfl,oa,⟨l,rfl,hl⟩,hn,hrl,kk⟩:=h;rw[dD] at hl;refine⟨_,ah (aF (i:=2) lW.nd rfl (Or.inl rfl) aR)
   (ah (aF (i:=3) lW.nd rfl (Or.inl rfl) aR)
   (ah (fD PassesOwn.never rfl (dQ (pv 1)) (cj (i:=4) lW.nd rfl (Or.inl rfl))
    (ah (aF (i:=5) lW.nd rfl (Or.inl rfl) (eC PySem.F.plainAttrs_list PySem.F.slot_list_index PySem.F.type_list_index DZ (ao (pv 0) rfl) (aa (pv 4) ae)))
    (ah (nP (i:=2) lW.nd rfl (Or.inl rfl) (cI (pv 0) T.df T.wO (xD T) hr T.uR .nil au (aa (pv 3) (aa (pv 5) ae))) pB)
    (aj (nP (i:=3) lW.nd rfl (Or.inl rfl) (bt nB aR (pv 5)) pB)))))
   (aj (aq (pv 2))))),?_⟩
  refine⟨_,rfl,l,rfl,⟨_,ak.of hl⟩,kG (K:=K) (a:=l) (xs:=(namesOf r).map λ(n:Nat)=>V.int n) (λi σ H2=>∃(num g:Nat) (v4 v5:Option V),σ=[some v,some (.ref l),some (.int (num:Nat)),some (.int (g:Nat)),v4,v5]/\af H H2/\g<2^r.length/\(∀j,j<r.length->(g.testBit j=true↔nm r j∈(namesOf r).take i))/\
   Vapatc.rank r=num+rankBy r (needSets r) (countTable (needSets r)) (bg r (dn r g)) ((namesOf r).drop i)) ?_ ?_ ?_ ?_⟩
  ·refine⟨0,0,none,none,rfl,af.refl _,Nat.two_pow_pos _,λj _=>?_,?_⟩
   ·rw[Nat.zero_testBit,List.take_zero];simp
   ·rw[Nat.zero_add,List.drop_zero];exact PH
  ·rintro i σ H' _ ⟨_,_,_,_,_,s2,_⟩;exact ak.of (s2 _ _ hl)
  ·rintro i y σ H2 hy ⟨num,g,v4,v5,rfl,s2,hg,hbt,eq⟩;obtain⟨n,hni,rfl⟩:∃n,(namesOf r)[i]?=some n/\y=V.int (n:Nat):=by
    rw[List.getElem?_map] at hy;cases e:(namesOf r)[i]? with
    |none=>rw[e] at hy;cases hy
    |some t=>rw[e] at hy;exact⟨t,rfl,(Option.some.inj hy).symm⟩
   obtain⟨hi,ei⟩:=List.getElem?_eq_some_iff.mp hni;have ed:(namesOf r).drop i=n::(namesOf r).drop (i+1):=by rw[List.drop_eq_getElem_cons hi,ei]
   have hmem:n∈namesOf r:=List.mem_of_getElem? hni;obtain⟨hx1,hx2⟩:=kU hmem;have enm:nm r (ix r n)=n:=by rw[m9 hx2] at hx1;exact Option.some.inj hx1
   have hbf:g.testBit (ix r n)=false:=by
    cases e:g.testBit (ix r n) with
    |false=>rfl
    |true=>
     exfalso;have:=(hbt _ hx2).mp e;rw[enm] at this;have hd:((namesOf r).take i++(namesOf r).drop i).Nodup:=by rw[List.take_append_drop];exact hn
     rw[ed] at hd;exact(List.nodup_append.mp hd).2.2 n this n List.mem_cons_self rfl
   have oa2:=oa.same s2;obtain⟨x,dx,v0,v1,v2,rfl,hx,h0,h1,h2⟩:=id oa2;obtain⟨ln,rfl,hln⟩:=id h0;rw[dD] at hln;refine⟨_,rfl,x,a.bD,dx,_,_,rfl,hx,T.df,T.nh,wo,.inl ⟨rfl,_,ak.of hln⟩,_,rfl,ln,_,_,ix r n,.int (n:Nat),rfl,rfl,ak.of hln,rfl,mK _,?_,?_,λj z' hj hz'=>?_,?_⟩
   ·rw[List.getElem?_map,hx1];rfl
   ·rw[qX];exact beq_self_eq_true n
   ·rw[List.getElem?_map] at hz';cases e:(sN r)[j]? with
    |none=>rw[e] at hz';cases hz'
    |some x=>
     rw[e] at hz';have hz':V.int (x:Nat)=z':=Option.some.inj hz';subst hz';rw[qX];exact beq_eq_false_iff_ne.mpr λq=>Dr hj (by rw[e,q])
   refine⟨_,rfl,_,rfl,x,dx,_,rfl,hx,wq,_,rfl,_,rfl,_,r,g,ix r n,rfl,oa2,hn,hrl,hg,λH3 s3=>?_⟩;refine⟨_,_,rfl,rfl,_,rfl,_,rfl,_,_,rfl,rfl,mG _ (by omega),_,_,rfl,rfl,?_⟩;refine⟨num+below r g (ix r n),g|||2^ix r n,some (.int (n:Nat)),some (.int (ix r n:Nat)),?_,s2.trans s3,sT hg hx2,λj hj=>?_,?_⟩
   ·show[some (V.ref x),some (V.ref l),some (V.int (((num:Nat):Int)+((below r g (ix r n):Nat):Int))),some (V.int (((g:Nat):Int)+1*2^((ix r n:Nat):Int).toNat)),some (V.int (n:Nat)),some (V.int (ix r n:Nat))]=_;rw[n0];have e1:((g:Nat):Int)+((2^ix r n:Nat):Int)=((g|||2^ix r n:Nat):Int):=by rw[xS hbf];omega
    rw[e1];rfl
   ·rw[sS,Bool.or_eq_true,hbt j hj,take_snoc hni,List.mem_append,List.mem_singleton,beq_iff_eq];refine or_congr_right ⟨λq=>by rw[q,enm],λq=>?_⟩;rw[<-q,Ds hn hj]
   ·rw[eq,ed];have:=PJ hn (g:=g) (i:=ix r n) (l:=(namesOf r).drop (i+1)) hx2 hbf;rw[enm] at this;rw[this,Nat.add_assoc]
  ·rintro σ H2 ⟨num,g,v4,v5,rfl,s2,hg,hbt,eq⟩;rw[List.length_map,List.drop_length] at eq;have eq:Vapatc.rank r=num:=eq;rw[eq] at kk;exact⟨_,rfl,kk H2 s2⟩
end PR
namespace PR
open PySem PySem.Spec PyProof.Rows L2
open Vapatc (namesOf stepsOf)
theorem u9:bootBuiltins "all"=some (.builtin "all"):=by decide+kernel
theorem vi:bootBuiltins "set"=some (.type "set"):=by decide+kernel
def own (r:ag) (ns:List Int):Bool:=decide ((fw ns).length=ns.length)&&ns.all λz=>(Vapatc.ints (namesOf r)).contains z
theorem TH (l:List Int):(l.zipIdx.all λz=>!(l.take z.2).contains z.1)=true↔l.Nodup:=by
 rw[List.all_eq_true];constructor
 ·intro h;rw[List.nodup_iff_pairwise_ne,List.pairwise_iff_getElem];intro i j hi hj hij e;have:=h (l[j],j) (by
   rw[List.mem_iff_getElem?];exact⟨j,by rw[List.getElem?_zipIdx,List.getElem?_eq_getElem hj];simp⟩)
  rw[Bool.not_eq_true',<-Bool.not_eq_true,List.contains_iff_mem] at this;refine this ?_;show l[j]∈l.take j;rw[<-e,List.mem_iff_getElem?];exact⟨i,by rw[List.getElem?_take_of_lt hij,List.getElem?_eq_getElem hi]⟩
 ·rintro h ⟨x,j⟩ hx;obtain⟨_,h2,h3⟩:=List.mem_zipIdx hx;rw[Bool.not_eq_true',<-Bool.not_eq_true,List.contains_iff_mem];intro z;have z:x∈l.take j:=z;have hd:(l.take j++l.drop j).Nodup:=by rw[List.take_append_drop];exact h
  have hj:j<l.length:=by omega
  rw[List.drop_eq_getElem_cons hj] at hd;simp only[Nat.sub_zero] at h3;rw[<-h3] at hd;exact(List.nodup_append.mp hd).2.2 x z x List.mem_cons_self rfl
theorem ints_in (l:List Nat) (z:Int):(Vapatc.ints l).contains z=(decide (0<=z)&&l.contains z.toNat):=by
 rw[Bool.eq_iff_iff,List.contains_iff_mem,Bool.and_eq_true,decide_eq_true_eq,List.contains_iff_mem];unfold Vapatc.ints;rw[List.mem_map];constructor
 ·rintro⟨n,hn,rfl⟩;exact⟨by show(0:Int)<=(n:Int);omega,by show((n:Int)).toNat∈l;rw[Int.toNat_natCast];exact hn⟩
 ·rintro⟨h0,h⟩;exact⟨z.toNat,h,Int.toNat_of_nonneg h0⟩
theorem EU (r:ag) (l:List Int):own r l=((l.all λz=>decide (0<=z)&&(namesOf r).contains z.toNat)&&l.zipIdx.all λz=>!(l.take z.2).contains z.1):=by
 unfold own;rw[Bool.and_comm,Bool.eq_iff_iff,Bool.and_eq_true,Bool.and_eq_true,decide_eq_true_eq,DH,TH];refine and_congr_left λ_=>?_;rw[List.all_eq_true,List.all_eq_true];exact forall_congr' λz=>forall_congr' λ_=>by rw[ints_in]
theorem EV {r:ag} {l:List Int} (h:own r l=true):l=Vapatc.ints (l.map Int.toNat)/\(l.map Int.toNat).Nodup/\(∀n∈l.map Int.toNat,n∈namesOf r)/\(l.map Int.toNat).length=l.length:=by
 unfold own at h;rw[Bool.and_eq_true,decide_eq_true_eq,DH,List.all_eq_true] at h;obtain⟨h1,h2⟩:=h;have h3:∀z∈l,0<=z/\z.toNat∈namesOf r:=λz hz=>by
  have:=h2 z hz;rw[ints_in,Bool.and_eq_true,decide_eq_true_eq,List.contains_iff_mem] at this;exact this
 refine⟨?_,?_,λn hn=>?_,List.length_map ..⟩
 ·unfold Vapatc.ints;rw[List.map_map];have:l.map (Vapatc.int∘Int.toNat)=l.map id:=List.map_congr_left λz hz=>Int.toNat_of_nonneg (h3 z hz).1;rw[this,List.map_id]
 ·rw[List.nodup_iff_pairwise_ne,List.pairwise_map];refine List.Pairwise.imp_of_mem (λ{a b} ha hb hne e=>hne ?_) h1;have:=(h3 a ha).1;have:=(h3 b hb).1;omega
 ·obtain⟨z,hz,rfl⟩:=List.mem_map.mp hn;exact(h3 z hz).2
def Ru (K:PySem.W.Frag) (a:Ad):Sp:=λvs H Q _=>∃(v:V) (l:Addr) (r:ag) (ns:List Int),vs=[v,.ref l]/\bw K a H v r/\H l=some (.lst (ns.map V.int))/\r.length<=10/\ns.length<=12/\∀H':Hp,af H H'->Q (.bl (own r ns)) H'
theorem Eu (T:Tx K mg a d):aA P w K mg base aL 2 a.j8 d.j8 ["row","names"] (Ru K a):=by
 refine T.vQ.ok tT (λvs H Q E h=>?_) (λcdv A outer s H vs Q E hr h=>?_)
 ·obtain⟨v,l,r,ns,rfl,_⟩:=h;rfl
 ·obtain⟨v,l,r,ns,rfl,hrow,hl,hrl,hnl,k⟩:=h;refine⟨_,ah (aF (i:=2) tT.nd rfl (Or.inr rfl) (aB (sM T) hr (by rfl) T.rY T.oU.kp T.qC .nil au (aa (pv 0) ae)))
   (aj (aq (pN (gA cH (bh Ik (by rfl) T.bC PySem.boot_len (aa (lH (IA rfl) (by rfl) T.vi vi (aa (pv 1) ae)) ae)) (bh bH (by rfl) T.bC PySem.boot_len (aa (pv 1) ae)) (aV _))
    (nH (bh (Iw rfl) (by rfl) T.u9 u9 (aa (fB (own:=[("name",3)]) (te:=cW (il K false) (aY 3) (aY 2)) rfl tT.nd (dQ (pv 1)) (eG (N:=["row","names","known","name"]) (sc:=ay tJ) (by decide+kernel)) (λ_ _ _ _ _=>cj (i:=3) tT.nd rfl (Or.inl rfl)) (λ_ _ _ _ _=>gD)
     (λ_ _ _ _ _=>gA iV (pv 3) (pv 2) (by with_unfolding_all rfl))) ae)))))),?_⟩
  refine⟨_,rfl,_,r,rfl,hrow,by omega,λH1 v1 s1 i1=>?_⟩;obtain⟨L,rfl,hL⟩:=i1;have hl1:=s1 _ _ hl;have hlen:(ns.map V.int).length=ns.length:=List.length_map ..;have hml:=MN ns;refine⟨_,rfl,l,ns,rfl,ak.of hl1,by omega,λS p H2 n2 s2 e2=>?_⟩;have hl2:=s2 _ _ hl1;have hL2:=s2 _ _ hL;refine⟨p,_,_,rfl,e2,by omega,_,rfl,l,_,rfl,.inl (ak.of hl2),rfl,?_⟩;have e0:(decide (V.int ((fw ns).length:Int)=V.int ((ns.map V.int).length:Int)))=decide ((fw ns).length=ns.length):=by
   rw[hlen];by_cases q:(fw ns).length=ns.length
   ·rw[q,decide_eq_true rfl,decide_eq_true rfl]
   ·rw[decide_eq_false q,decide_eq_false];intro z;have z:((fw ns).length:Int)=(ns.length:Int):=V.int.inj z;exact q (by omega)
  refine⟨_,rfl,?_⟩;rw[e0];unfold own at k;cases hb:decide ((fw ns).length=ns.length) with
  |false=>
   rw[hb] at k;exact k H2 (s1.trans s2)
  |true=>
   rw[hb] at k;refine⟨_,rfl,l,rfl,⟨_,ak.of hl2⟩,λD hD=>pE (K:=K) (a:=l) (xs:=ns.map V.int) (λm H3=>af H2 H3/\H3 D=some (.lst (((ns.take m).map λz=>(Vapatc.ints (namesOf r)).contains z).map V.bl))) ?_ ?_ ?_ ?_⟩
   ·exact⟨af.new hD,az⟩
   ·rintro m H3 _ ⟨s3,_⟩;exact ak.of (s3 _ _ hl2)
   ·rintro m x H3 hx ⟨s3,hD3⟩;rw[List.getElem?_map] at hx;cases e:ns[m]? with
    |none=>rw[e] at hx;cases hx
    |some z=>
     rw[e] at hx;have hx:V.int z=x:=Option.some.inj hx;subst hx;have hm:=(List.getElem?_eq_some_iff.mp e).1;refine⟨rfl,_,rfl,_,rfl,L,_,rfl,.inl (ak.of (s3 _ _ hL2)),rfl,qZ _,_,hD3,?_,af.write s3 hD,?_⟩
     ·rw[List.length_map,List.length_map,List.length_take];exact bU (by omega)
     ·rw[az,take_snoc e,List.map_append,List.map_append];show some (HO.lst (_++[V.bl (dc (V.int z) _)]))=_;rw[rG];rfl
   ·rintro H3 ⟨s3,hD3⟩;rw[hlen,List.take_length] at hD3;refine⟨D,_,rfl,ak.of hD3,?_⟩;have:((ns.map λz=>(Vapatc.ints (namesOf r)).contains z).all id)=ns.all λz=>(Vapatc.ints (namesOf r)).contains z:=by rw[List.all_map];rfl
    rw[this];exact k H3 ((s1.trans s2).trans s3)
theorem mY {H:Hp} {x dx C:Addr} (nx:H x=none) (nd:H dx=none) (ne:dx≠x):af H (upd (upd H dx (.own x)) x (.ins C dx [])):=(af.new nd).trans (af.new (by rw[aT (Ne.symm ne)];exact nx))
theorem NZ (T:Tx K mg a d):aA P w K mg base aL 12 a.jn d.jn ["self"] (og K a λst _=>[Vapatc.int (Vapatc.count st.row)]):=by
 refine T.JO.ok Qh (λvs H Q E h=>?_) (λcdv A outer s H vs Q E hr h=>?_)
 ·obtain⟨v,vp,st,t,rfl,_⟩:=h;rfl
 ·obtain⟨v,vp,st,t,rfl,⟨x,dx,vs,rfl,hx,hrow,htr⟩,hg,ht,k⟩:=h;refine⟨_,aj (aq (bj (aa (dk (di T.xb (xE T) hr (by rfl) T.wV T.uS .nil au (aa (ao (pv 0) rfl) ae)) T.df T.DG (Ep T) (hr.mono (by decide)) T.AR .nil au) ae))),?_⟩;refine⟨_,rfl,x,a.aH,dx,_,_,rfl,hx,T.bb,T.bS,cD,λy dz ny nd ne=>⟨y,dz,_,st.row,rfl,az,hrow.same (mY ny nd ne),hg.unlike,hg.len,λH1 S1 o1=>⟨rfl,?_⟩⟩⟩;have s1:=af.bY (mY ny nd ne) S1 ny;obtain⟨_,dy,v0,v1,v2,ey,hy,_⟩:=id o1;cases ey;refine⟨y,dy,_,rfl,hy,C4,_,st.row,rfl,o1,λH2 s2=>⟨(by show 1<=sizeLine;decide),λl3 H3 n3 s3 e3=>k H3 (.ref l3) ((s1.trans s2).trans s3) ⟨bG.of (s1.trans s2) n3,l3,rfl,?_⟩⟩⟩;rw[e3];show _=some (HO.lst [V.int (Vapatc.count st.row:Nat)]);rw[vB]
theorem Ob (T:Tx K mg a d):aA P w K mg base aL 12 a.jA d.jA ["self"] (og K a λst _=>[Vapatc.int (Vapatc.rank st.row)]):=by
 refine T.J4.ok Qm (λvs H Q E h=>?_) (λcdv A outer s H vs Q E hr h=>?_)
 ·obtain⟨v,vp,st,t,rfl,_⟩:=h;rfl
 ·obtain⟨v,vp,st,t,rfl,⟨x,dx,vs,rfl,hx,hrow,htr⟩,hg,ht,k⟩:=h;refine⟨_,aj (aq (bj (aa (cI (di T.xb (xE T) hr (by rfl) T.wV T.uS .nil au (aa (ao (pv 0) rfl) ae)) T.df T.MK (Of T) (hr.mono (by decide)) T.Hs .nil au (aa (aB (sM T) (hr.mono (by decide)) (by rfl) T.rY T.oU.kp T.qC .nil au (aa (ao (pv 0) rfl) ae)) ae)) ae))),?_⟩;have hl:=hg.len;refine⟨_,rfl,x,a.aH,dx,_,_,rfl,hx,T.bb,T.bS,cD,λy dz ny nd ne=>⟨y,dz,_,st.row,rfl,az,hrow.same (mY ny nd ne),hg.unlike,hg.len,λH1 S1 o1=>⟨rfl,?_⟩⟩⟩;have s1:=af.bY (mY ny nd ne) S1 ny;obtain⟨_,dy,v0,v1,v2,ey,hy,_⟩:=id o1;cases ey;refine⟨y,dy,_,rfl,hy,KY,_,rfl,x,a.aH,dx,_,_,rfl,s1 _ _ hx,T.bb,T.bS,cD,_,st.row,rfl,hrow.same s1,by omega,λH2 v2 s2 i2=>?_⟩;refine⟨_,_,st.row,rfl,o1.same s2,i2,hg.unlike,hg.len,λH3 s3=>⟨(by show 1<=sizeLine;decide),λl4 H4 n4 s4 e4=>k H4 (.ref l4) (((s1.trans s2).trans s3).trans s4) ⟨bG.of ((s1.trans s2).trans s3) n4,l4,rfl,e4⟩⟩⟩
def Q8 (K:PySem.W.Frag) (a:Ad):Sp:=λvs H Q _=>∃(v vp:V) (st:Vapatc.State) (z:Int),vs=[v,.int z]/\cp K a H v vp st/\Good st/\∀(H':Hp) (v':V),af H H'->dW H H' v' (if z<0 then [-4] else match Vapatc.kth st.row z.toNat with
    |none=>[0]
    |some l=>1::Vapatc.listed l)->Q v' H'
theorem N5 (T:Tx K mg a d):aA P w K mg base aL 12 a.ju d.ju ["self","number"] (Q8 K a):=by
 refine T.JU.ok FH (λvs H Q E h=>?_) (λcdv A outer s H vs Q E hr h=>?_)
 ·obtain⟨v,vp,st,z,rfl,_⟩:=h;rfl
 ·obtain⟨v,vp,st,z,rfl,⟨x,dx,vs,rfl,hx,hrow,htr⟩,hg,k⟩:=h;obtain⟨t2,ht2⟩:=T.IE;refine⟨_,ah (aO (aX ie (pv 1) aR (aV _)) (aj (aq (bj (aa (aU (v:= .int (-4)) (by rfl) ht2 ⟨_,rfl⟩) ae)))) aP)
   (ah (aF (i:=2) FH.nd rfl (Or.inl rfl) (di T.xb (xE T) hr (by rfl) T.wV T.uS .nil au (aa (ao (pv 0) rfl) ae)))
   (ah (aO (aX xP (pv 1) (dk (pv 2) T.df T.DG (Ep T) (hr.mono (by decide)) T.AR .nil au) (aV _)) (aj (aq (bj (aa aR ae)))) aP)
   (aj (aq (bt eZ (bj (aa aR ae)) (aB (nz T) (hr.mono (by decide)) (by rfl) T.m4 T.kF.kp T.mE .nil au (aa (cI (pv 2) T.df T.ML (Og T) (hr.mono (by decide)) T.Ht .nil au (aa (pv 1) ae)) ae))))))),?_⟩
  have hl:=hg.len;refine⟨_,rfl,_,_,rfl,rfl,_,rfl,bE (λhz=>?_) (λhz=>?_)⟩
  ·have hz:z<0:=of_decide_eq_true hz;refine⟨(by show 1<=sizeLine;decide),λl2 H2 n2 s2 e2=>k H2 (.ref l2) s2 ?_⟩;rw[if_pos hz];exact⟨bG.of (af.refl _) n2,l2,rfl,e2⟩
  ·have hz:¬z<0:=λq=>hz (decide_eq_true q);rw[if_neg hz] at k;obtain⟨m,rfl⟩:∃m:Nat,z=(m:Int):=⟨z.toNat,by omega⟩
   rw[Int.toNat_natCast] at k;refine⟨_,rfl,x,a.aH,dx,_,_,rfl,hx,T.bb,T.bS,cD,λy dz ny nd ne=>⟨y,dz,_,st.row,rfl,az,hrow.same (mY ny nd ne),hg.unlike,hg.len,λH1 S1 o1=>⟨rfl,?_⟩⟩⟩;have s1:=af.bY (mY ny nd ne) S1 ny;obtain⟨_,dy,v0,v1,v2,ey,hy,_⟩:=id o1;cases ey;refine⟨_,rfl,_,rfl,y,dy,_,rfl,hy,C4,_,st.row,rfl,o1,λH2 s2=>?_⟩;refine⟨_,_,rfl,rfl,_,rfl,bE (λhc=>?_) (λhc=>?_)⟩
   ·have hc:((bM st.row 0:Nat):Int)<=(m:Int):=of_decide_eq_true hc;rw[Mi hg.unlike (by rw[vB];omega)] at k;exact⟨(by show 1<=sizeLine;decide),λl3 H3 n3 s3 e3=>k H3 (.ref l3) ((s1.trans s2).trans s3) ⟨bG.of (s1.trans s2) n3,l3,rfl,e3⟩⟩
   ·have hc:¬((bM st.row 0:Nat):Int)<=(m:Int):=λq=>hc (decide_eq_true q);refine⟨(by show 1<=sizeLine;decide),λl3 H3 n3 s3 e3=>?_⟩;have s13:=s2.trans s3;refine⟨_,rfl,y,dy,_,rfl,s13 _ _ hy,KZ,_,rfl,_,st.row,m,rfl,o1.same s13,hg.unlike,hl,by omega,λol H4 v4 ek el s4 i4=>?_⟩;rw[ek] at k;refine⟨_,ol,rfl,i4,by omega,λH5 v5 s5 i5=>?_⟩;obtain⟨_,l5,rfl,h5⟩:=i5;have s35:=s4.trans s5;have s05:=(s1.trans s13).trans s35;refine⟨l3,l5,_,_,rfl,rfl,s35 _ _ e3,h5,?_,λl6 H6 n6 s6 e6=>k H6 (.ref l6) (s05.trans s6) ⟨bG.of s05 n6,l6,rfl,?_⟩⟩
    ·rw[List.length_map];have:(Vapatc.listed ol).length=ol.length+1:=by unfold Vapatc.listed Vapatc.ints;rw[List.length_cons,List.length_map]
     rw[this];exact Nat.le_of_lt (bU (by show 1+_<=_;omega))
    ·rw[e6];rfl
end PR
namespace PR
open PySem PySem.Spec PyProof.Rows L2
open Vapatc (namesOf stepsOf named front ordered picked closure)
open Vapatb (behind)
theorem sub_len:∀{l m:List Nat},l.Nodup->(∀x∈l,x∈m)->l.length<=m.length
 |[],_,_,_=>Nat.zero_le _
 |x::l,m,hd,h=>by
  obtain⟨h1,h2⟩:=List.nodup_cons.mp hd;have hx:=h x List.mem_cons_self;have:=sub_len (l:=l) (m:=m.erase x) h2 λy hy=>(List.mem_erase_of_ne λe=>h1 (by rw[<-e];exact hy)).mpr (h y (List.mem_cons_of_mem _ hy));rw[List.length_erase_of_mem hx] at this;have:=List.length_pos_of_mem hx;rw[List.length_cons];omega
theorem CY {r rest:ag} {n:Nat} {p:bp} (h:front r n=some (p,rest)):r.length=rest.length+1:=by
 obtain⟨k,_,h2⟩:=mL h;exact rn h2
theorem ES:∀{ns:List Nat} {r:ag},ns.length=r.length->ordered ns r=((bQ ns r).1.length,if (bQ ns r).1.length=ns.length then some (bQ ns r).1 else none)
 |[],r,h=>by
  have:r=[]:=List.eq_nil_of_length_eq_zero h.symm;subst this;rfl
 |n::ns,r,h=>by
  cases e:front r n with
  |none=>
   rw[qF e];simp only[Vapatc.ordered,e];rfl
  |some x=>
   obtain⟨p,rest⟩:=x;have hl:=CY e;rw[List.length_cons] at h;have ih:=ES (ns:=ns) (r:=rest) (by omega);rw[oJ e];simp only[Vapatc.ordered,e,ih,List.length_cons];by_cases q:(bQ ns rest).1.length=ns.length
   ·rw[if_pos q,if_pos (by omega)];rfl
   ·rw[if_neg q,if_neg (by omega)];rfl
theorem Bm:∀(ns:List Nat) (r:ag),(bQ ns r).1.length<=ns.length
 |[],r=>Nat.le_refl _
 |n::ns,r=>by
  cases e:front r n with
  |none=>rw[qF e];exact Nat.zero_le _
  |some x=>
   obtain⟨p,rest⟩:=x;rw[oJ e,List.length_cons,List.length_cons];have:=Bm ns rest;omega
theorem Bn:∀(ns:List Nat) (r:ag),(bQ ns r).1.length+(bQ ns r).2.length=r.length
 |[],r=>Nat.zero_add _
 |n::ns,r=>by
  cases e:front r n with
  |none=>rw[qF e];exact Nat.zero_add _
  |some x=>
   obtain⟨p,rest⟩:=x;have:=CY e;have:=Bn ns rest;rw[oJ e];show(bQ ns rest).1.length+1+(bQ ns rest).2.length=_;omega
theorem Kn (E:List Nat):E.foldl gB none=none:=by
 induction E with
 |nil=>rfl
 |cons n E ih=>exact ih
theorem CM:∀{E:List Nat} {x y x' y':ag},E.foldl gB (some (x,y))=some (x',y')->x'=x++(bQ E y).1/\y'=(bQ E y).2
 |[],x,y,x',y',h=>by
  cases h;exact⟨(List.append_nil _).symm,rfl⟩
 |n::E,x,y,x',y',h=>by
  rw[List.foldl_cons] at h;cases e:front y n with
  |none=>
   have:gB (some (x,y)) n=none:=by unfold gB;simp only[Option.bind_some,e];rfl
   rw[this,Kn] at h;cases h
  |some z=>
   obtain⟨p,rest⟩:=z;have:gB (some (x,y)) n=some (x++[p],rest):=by unfold gB;simp only[Option.bind_some,e];rfl
   rw[this] at h;obtain⟨h1,h2⟩:=CM h;rw[oJ e,h1,h2,List.append_assoc];exact⟨rfl,rfl⟩
theorem Pg {r:ag} (hn:aM r) (l:List Nat):picked r l=some (bQ (closure r l) r)/\namesOf (bQ (closure r l) r).1=closure r l:=by
 obtain⟨x,y,h1,h2⟩:=Fe hn l;have h3:(closure r l).foldl gB (some ([],r))=some (x,y):=h1;obtain⟨e1,e2⟩:=CM h3;rw[List.nil_append] at e1;refine⟨?_,by rw[<-e1];exact h2.nx⟩;rw[h1,e1,e2]
theorem wD (T:Tx K mg a d) {H H7:Hp} {x dx:Addr} {vs vp v7:V} {st:Vapatc.State} {t:aJ} {row':ag} {ans:List Int} {Q:VK} (s:af H H7) (hx:H x=some (.ins a.aH dx (aS vs vp))) (row7:bw K a H7 v7 row') (tr:bJ K H vs t) (ht:st.tree=some t) (fr:bG H v7)
 (k:After K a H (.ref x) vp ({st with row:=row'},ans) Q):∀(l9:Addr) (H9:Hp),(upd H7 x (.ins a.aH dx (aS vs v7))) l9=none->af (upd H7 x (.ins a.aH dx (aS vs v7))) H9->H9 l9=some (.lst (ans.map V.int))->Q (.ref l9) H9:=by
 intro l9 H9 n9 s9 e9;have hx7:=s _ _ hx;have S8:ax x H7 (upd H7 x (.ins a.aH dx (aS vs v7))):=ax.upd;have h8:(upd H7 x (.ins a.aH dx (aS vs v7))) x=some (.ins a.aH dx (aS vs v7)):=az;have row8:=row7.xI T.vI.1 S8 hx7;have tr8:=(tr.same s).xI S8 hx7;generalize upd H7 x (.ins a.aH dx (aS vs v7))=H8 at S8 h8 row8 tr8 n9 s9;have h9x:l9≠x:=λq=>by rw[q,h8] at n9;cases n9
 refine k H9 (.ref l9) v7 (λq eq=>?_) ?_ (.inr fr) ⟨bG.of s (S8.free h9x n9),l9,rfl,e9⟩
 ·cases eq;exact((af.x s).trans S8).trans (af.x s9)
 ·refine⟨x,dx,vs,rfl,s9 _ _ h8,row8.same s9,?_⟩;show match st.tree with
   |none=>vs= .aI
   |some t=>bJ K H9 vs t
  rw[ht];exact tr8.same s9
def Ge (K:PySem.W.Frag) (a:Ad) (c:List Int->Vapatc.Call):Sp:=λvs H Q _=>∃(v vp:V) (st:Vapatc.State) (t:aJ) (l:Addr) (ns:List Int),vs=[v,.ref l]/\cp K a H v vp st/\Good st/\st.tree=some t/\H l=some (.lst (ns.map V.int))/\ns.length<=12/\After K a H v vp (Vapatc.step st (c ns)) Q
theorem order_eq {st:Vapatc.State} {t:aJ} (ht:st.tree=some t) (ns:List Int):Vapatc.step st (.order ns)=if own st.row ns=true then (if (ns.map Int.toNat).length<st.row.length then (st,[-7]) else match ordered (ns.map Int.toNat) st.row with
 |(_,some r)=>({st with row:=r},[1])
 |(n,none)=>(st,[0,(n:Int)])) else (st,[-2]):=by
 obtain⟨tr,row⟩:=st;cases ht;rw[EU];simp only[Vapatc.step,Vapatc.onNames,Vapatc.onTree];rfl
theorem Pe {st:Vapatc.State} {t:aJ} (ht:st.tree=some t) (hn:aM st.row) (ns:List Int):Vapatc.step st (.pick ns)=if own st.row ns=true then ({st with row:=(bQ (closure st.row (ns.map Int.toNat)) st.row).1++(bQ (closure st.row (ns.map Int.toNat)) st.row).2},1::Vapatc.listed (closure st.row (ns.map Int.toNat))) else (st,[-2]):=by
 obtain⟨tr,row⟩:=st;cases ht;rw[EU];simp only[Vapatc.step,Vapatc.onNames,Vapatc.onTree];obtain⟨h1,h2⟩:=Pg hn (ns.map Int.toNat);rw[h1];simp only[h2];rfl
theorem N8 (T:Tx K mg a d):aA P w K mg base aL 10 a.jx d.jx ["self","names"] (Ge K a .order):=by
 refine T.JX.ok FK (λvs H Q E h=>?_) (λcdv A outer s H vs Q E hr h=>?_)
 ·obtain⟨v,vp,st,t,l,ns,rfl,_⟩:=h;rfl
 ·obtain⟨v,vp,st,t,l,ns,rfl,hh,hg,ht,hl,hnl,k⟩:=h;obtain⟨t1,ht1⟩:=T.oO;obtain⟨t2,ht2⟩:=T.IQ;refine⟨_,ah (aO (pP (eD (aB (Eu T) (hr.mono (by decide)) (by rfl) T.DJ T.vQ.kp T.AV .nil au (aa (ao (pv 0) rfl) (aa (pv 1) ae))))) (aj (aq (bj (aa (aU (v:= .int (-2)) (by rfl) ht1 ⟨_,rfl⟩) ae)))) aP)
   (ah (aO (aX ie (bh bH (by rfl) T.bC PySem.boot_len (aa (pv 1) ae)) (bh bH (by rfl) T.bC PySem.boot_len (aa (ao (pv 0) rfl) ae)) (aV _)) (aj (aq (bj (aa (aU (v:= .int (-7)) (by rfl) ht2 ⟨_,rfl⟩) ae)))) aP)
   (ah (aF (i:=2) FK.nd rfl (Or.inl rfl) (cN gX (aB (Ew T) hr (by rfl) T.DK T.vR.kp T.AW .nil au (aa (ao (pv 0) rfl) (aa (pv 1) ae))) aR (λ_ _=>rfl)))
   (ah (aO (aX ie (bh bH (by rfl) T.bC PySem.boot_len (aa (pv 2) ae)) (bh bH (by rfl) T.bC PySem.boot_len (aa (pv 1) ae)) (aV _)) (aj (aq (bj (aa aR (aa (bh bH (by rfl) T.bC PySem.boot_len (aa (pv 2) ae)) ae))))) aP)
   (ah (ck (pv 0) (pv 2) rfl)
   (aj (aq (bj (aa aR ae)))))))),?_⟩
  obtain⟨x,dx,vs,rfl,hx,hrow,htr⟩:=hh;have hlen:=hg.len;have hu:=hg.unlike;have hh:cp K a H (.ref x) vp st:=⟨x,dx,vs,rfl,hx,hrow,htr⟩
  rw[ht] at htr;have htr:bJ K H vs t:=htr;rw[order_eq ht] at k;have no:∀(ans:List Int),After K a H (.ref x) vp (st,ans) Q->∀(H1:Hp),af H H1->∀(l2:Addr) (H2:Hp),H1 l2=none->af H1 H2->H2 l2=some (.lst (ans.map V.int))->Q (.ref l2) H2:=λans k H1 s1 l2 H2 n2 s2 h2=>
   k H2 (.ref l2) vp (λy _=>af.x (s1.trans s2)) (hh.same (s1.trans s2)) (.inl rfl) ⟨bG.of s1 n2,l2,rfl,h2⟩
  refine⟨_,rfl,x,a.aH,dx,_,_,rfl,hx,T.bb,T.bS,cD,_,rfl,_,l,st.row,ns,rfl,hrow,hl,hlen,hnl,λH1 s1=>⟨_,rfl,?_⟩⟩;show if (!own st.row ns)=true then _ else _
  cases ho:own st.row ns with
  |false=>
   rw[ho] at k;exact fJ ⟨(by show 1<=sizeLine;decide),λl2 H2 n2 s2 e2=>no [-2] k H1 s1 l2 H2 n2 s2 e2⟩
  |true=>
   rw[ho,if_pos rfl] at k;refine gW ?_;obtain⟨o1,o2,o3,o4⟩:=EV ho;obtain⟨lr,us,rfl,hlr,rv⟩:=hrow;have ul:=bf.len rv;have hl1:=s1 _ _ hl;have hlr1:=s1 _ _ hlr;have lm:(ns.map V.int).length=ns.length:=List.length_map ..;refine⟨_,rfl,l,_,rfl,.inl (ak.of hl1),_,rfl,x,a.aH,dx,_,_,rfl,s1 _ _ hx,T.bb,T.bS,cD,lr,us,rfl,.inl (ak.of hlr1),_,_,rfl,rfl,_,rfl,bE (λhz=>?_) (λhz=>?_)⟩
   ·have hz:((ns.map V.int).length:Int)<(us.length:Int):=of_decide_eq_true hz;rw[if_pos (by omega)] at k;exact⟨(by show 1<=sizeLine;decide),λl2 H2 n2 s2 e2=>no [-7] k H1 s1 l2 H2 n2 s2 e2⟩
   ·have hz:¬((ns.map V.int).length:Int)<(us.length:Int):=λq=>hz (decide_eq_true q);rw[if_neg (by omega)] at k;have hle:=sub_len o2 o3;rw[cz] at hle;have heq:(ns.map Int.toNat).length=st.row.length:=by omega
    rw[ES heq] at k;have hii:bN H1 (.ref l) (Vapatc.ints (ns.map Int.toNat)):=⟨l,rfl,by rw[<-o1];exact hl1⟩
    refine⟨_,rfl,x,a.aH,dx,_,_,rfl,s1 _ _ hx,T.bb,T.bS,cD,_,rfl,_,_,st.row,ns.map Int.toNat,rfl,⟨lr,us,rfl,hlr1,rv.same s1⟩,hii,by omega,hu,o2,o3,λH2 tt L u s2 ht2 nL r1 r2=>?_⟩;obtain⟨_,ps,eL,hL,rp⟩:=id r1;cases eL;have pl:=bf.len rp;have s02:=s1.trans s2;have bl:=Bm (ns.map Int.toNat) st.row;refine⟨tt,_,_,_,rfl,rfl,ht2,cK (j:=0) rfl,_,rfl,L,_,rfl,.inl (ak.of hL),_,rfl,l,_,rfl,.inl (ak.of (s2 _ _ hl1)),_,_,rfl,rfl,_,rfl,bE (λhz2=>?_) (λhz2=>?_)⟩
    ·have hz2:(ps.length:Int)<((ns.map V.int).length:Int):=of_decide_eq_true hz2;rw[if_neg (by omega)] at k;have k:After K a H (.ref x) (.ref lr) (st,[0,(((bQ (ns.map Int.toNat) st.row).1.length:Nat):Int)]) Q:=k;refine⟨_,rfl,L,_,rfl,.inl (ak.of hL),(by show 2<=sizeLine;decide),λl3 H3 n3 s3 e3=>no _ k H2 s02 l3 H3 n3 s3 ?_⟩;rw[e3,<-pl];rfl
    ·have hz2:¬(ps.length:Int)<((ns.map V.int).length:Int):=λq=>hz2 (decide_eq_true q);rw[if_pos (by omega)] at k;have k:After K a H (.ref x) (.ref lr) ({st with row:=(bQ (ns.map Int.toNat) st.row).1},[1]) Q:=k;refine⟨_,rfl,_,rfl,x,a.aH,dx,_,rfl,s02 _ _ hx,T.bb,T.bS,cg (lp (lp cb)),?_⟩;rw[pd];exact⟨(by show 1<=sizeLine;decide),λl9 H9 n9 s9 e9=>wD T s02 hx r1 htr ht (λq e=>by cases e;exact s1.free nL) k l9 H9 n9 s9 e9⟩
end PR
namespace PR
open PySem PySem.Spec PyProof.Rows L2
open Vapatc (namesOf stepsOf named front ordered picked closure)
open Vapatb (behind)
theorem DF (l:List Nat):(Vapatc.listed l).length=l.length+1:=by unfold Vapatc.listed Vapatc.ints;rw[List.length_cons,List.length_map]
theorem Oa (T:Tx K mg a d):aA P w K mg base aL 11 a.jz d.jz ["self","names"] (Ge K a .pick):=by
 refine T.JZ.ok zO (λvs H Q E h=>?_) (λcdv A outer s H vs Q E hr h=>?_)
 ·obtain⟨v,vp,st,t,l,ns,rfl,_⟩:=h;rfl
 ·obtain⟨v,vp,st,t,l,ns,rfl,hh,hg,ht,hl,hnl,k⟩:=h;obtain⟨t1,ht1⟩:=T.oO;refine⟨_,ah (aO (pP (eD (aB (Eu T) (hr.mono (by decide)) (by rfl) T.DJ T.vQ.kp T.AV .nil au (aa (ao (pv 0) rfl) (aa (pv 1) ae))))) (aj (aq (bj (aa (aU (v:= .int (-2)) (by rfl) ht1 ⟨_,rfl⟩) ae)))) aP)
   (ah (aF (i:=2) zO.nd rfl (Or.inl rfl) (aB (OF T) hr (by rfl) T.M9 T.Cw.kp T.HN .nil au (aa (ao (pv 0) rfl) (aa (pv 1) ae))))
   (ah (aF (i:=3) zO.nd rfl (Or.inl rfl) (aB (Ew T) (hr.mono (by decide)) (by rfl) T.DK T.vR.kp T.AW .nil au (aa (ao (pv 0) rfl) (aa (pv 2) ae))))
   (ah (ck (pv 0) (bt eZ (cN gX (pv 3) aR (λ_ _=>rfl)) (cN gX (pv 3) aR (λ_ _=>rfl))) rfl)
   (aj (aq (bt eZ (bj (aa aR ae)) (aB (nz T) (hr.mono (by decide)) (by rfl) T.m4 T.kF.kp T.mE .nil au (aa (pv 2) ae)))))))),?_⟩
  obtain⟨x,dx,vs,rfl,hx,hrow,htr⟩:=hh;have hlen:=hg.len;have hu:=hg.unlike;have hh:cp K a H (.ref x) vp st:=⟨x,dx,vs,rfl,hx,hrow,htr⟩
  rw[ht] at htr;have htr:bJ K H vs t:=htr;rw[Pe ht hu] at k;refine⟨_,rfl,x,a.aH,dx,_,_,rfl,hx,T.bb,T.bS,cD,_,rfl,_,l,st.row,ns,rfl,hrow,hl,hlen,hnl,λH1 s1=>⟨_,rfl,?_⟩⟩;show if (!own st.row ns)=true then _ else _
  cases ho:own st.row ns with
  |false=>
   rw[ho] at k;have k:After K a H (.ref x) vp (st,[-2]) Q:=k;exact fJ ⟨(by show 1<=sizeLine;decide),λl2 H2 n2 s2 e2=>k H2 (.ref l2) vp (λy _=>af.x (s1.trans s2)) (hh.same (s1.trans s2)) (.inl rfl) ⟨bG.of s1 n2,l2,rfl,e2⟩⟩
  |true=>
   rw[ho,if_pos rfl] at k;refine gW ?_;obtain⟨o1,o2,o3,o4⟩:=EV ho;have hl1:=s1 _ _ hl;have hle:=sub_len o2 o3;rw[cz] at hle;have hii:bN H1 (.ref l) (Vapatc.ints (ns.map Int.toNat)):=⟨l,rfl,by rw[<-o1];exact hl1⟩
   generalize ns.map Int.toNat=ms at k o2 o3 hle hii;have hcs:(closure st.row ms).Sublist (namesOf st.row):=List.filter_sublist;have hcl:(closure st.row ms).length<=10:=by
    have:=hcs.length_le;rw[cz] at this;omega
   refine⟨_,rfl,x,a.aH,dx,_,_,rfl,s1 _ _ hx,T.bb,T.bS,cD,_,rfl,_,_,st.row,ms,rfl,hrow.same s1,hii,hlen,hu,by omega,o3,λH2 v2 s2 i2=>?_⟩;have s02:=s1.trans s2;refine⟨_,rfl,x,a.aH,dx,_,_,rfl,s02 _ _ hx,T.bb,T.bS,cD,_,rfl,_,_,st.row,closure st.row ms,rfl,hrow.same s02,i2.2,by omega,hu,List.Nodup.sublist hcs hu,λn hn=>hcs.subset hn,λH3 tt L u s3 ht3 nL r1 r2=>?_⟩;have s03:=s02.trans s3;obtain⟨_,p1,e1,h1,rp1⟩:=id r1;cases e1;obtain⟨L2,p2,rfl,h2,rp2⟩:=id r2;have l1:=bf.len rp1;have l2:=bf.len rp2;have bl:=Bn (closure st.row ms) st.row;refine⟨_,rfl,tt,_,_,_,rfl,rfl,ht3,cK (j:=0) rfl,_,rfl,tt,_,_,_,rfl,rfl,ht3,cK (j:=1) rfl,L,L2,_,_,rfl,rfl,h1,h2,Nat.le_of_lt (bU (by omega)),λl4 H4 n4 s4 e4=>?_⟩;have s04:=s03.trans s4;have row4:bw K a H4 (.ref l4) ((bQ (closure st.row ms) st.row).1++(bQ (closure st.row ms) st.row).2):=⟨l4,_,rfl,e4,ig (rp1.same s4) (rp2.same s4)⟩
   refine⟨_,rfl,x,a.aH,dx,_,rfl,s04 _ _ hx,T.bb,T.bS,cg (lp (lp cb)),?_⟩;rw[pd];have fin:=wD T s04 hx row4 htr ht (bG.of s03 n4) k;have i4:bN (upd H4 x (.ins a.aH dx (aS vs (.ref l4)))) v2 (Vapatc.ints (closure st.row ms)):=(i2.2.same (s3.trans s4)).xC ax.upd (s04 _ _ hx);generalize upd H4 x (.ins a.aH dx (aS vs (.ref l4)))=H5 at fin i4⊢;refine⟨(by show 1<=sizeLine;decide),λl6 H6 n6 s6 e6=>?_⟩;refine⟨_,rfl,_,closure st.row ms,rfl,i4.same s6,by omega,λH7 v7 s7 i7=>?_⟩;obtain⟨_,l7,rfl,h7⟩:=i7;refine⟨l6,l7,_,_,rfl,rfl,s7 _ _ e6,h7,?_,λl8 H8 n8 s8 e8=>fin l8 H8 ((s6.trans s7).free n8) ((s6.trans s7).trans s8) ?_⟩
   ·rw[List.length_map,DF];exact Nat.le_of_lt (bU (by show 1+_<=_;omega))
   ·rw[e8];rfl
def Q5 (K:PySem.W.Frag) (a:Ad):Sp:=λvs H Q _=>∃(v vp:V) (st:Vapatc.State) (t:aJ) (z:Int),vs=[v,.int z]/\cp K a H v vp st/\Good st/\st.tree=some t/\After K a H v vp (Vapatc.step st (.drop z)) Q
theorem drop_eq {st:Vapatc.State} {t:aJ} (ht:st.tree=some t) (z:Int):Vapatc.step st (.drop z)=if 0<=z/\(namesOf st.row).contains z.toNat=true then (match Vapatc.without st.row z.toNat with
 |none=>(st,0::Vapatc.listed (Vapatc.neededBy st.row z.toNat))
 |some r=>({st with row:=r},[1,(r.length:Int)])) else (st,[-2]):=by
 obtain⟨tr,row⟩:=st;cases ht;simp only[Vapatc.step,Vapatc.onPatch,Vapatc.onTree];rfl
theorem N0 (T:Tx K mg a d):aA P w K mg base aL 11 a.jo d.jo ["self","name"] (Q5 K a):=by
 refine T.JP.ok zN (λvs H Q E h=>?_) (λcdv A outer s H vs Q E hr h=>?_)
 ·obtain⟨v,vp,st,t,z,rfl,_⟩:=h;rfl
 ·obtain⟨v,vp,st,t,z,rfl,hh,hg,ht,k⟩:=h;obtain⟨t2,ht2⟩:=T.oO;refine⟨_,ah (aF (i:=2) zN.nd rfl (Or.inl rfl) (aB (ic T) (hr.mono (by decide)) (by rfl) T.g0 T.gu.kp T.gN .nil au (aa (ao (pv 0) rfl) (aa (pv 1) ae))))
   (ah (aO (aX gj (pv 2) cS (aV _)) (aj (aq (bj (aa (aU (v:= .int (-2)) (by rfl) ht2 ⟨_,rfl⟩) ae)))) aP)
   (ah (aF (i:=3) zN.nd rfl (Or.inl rfl) (aB (OO T) (hr.mono (by decide)) (by rfl) T.Nj T.CI.kp T.HY .nil au (aa (ao (pv 0) rfl) (aa (pv 2) ae))))
   (ah (aO (aX gj (pv 3) cS (aV _)) (aj (aq (bt eZ (bj (aa aR ae)) (aB (nz T) (hr.mono (by decide)) (by rfl) T.m4 T.kF.kp T.mE .nil au (aa (aB (ED T) hr (by rfl) T.DR T.vY.kp T.A5 .nil au (aa (ao (pv 0) rfl) (aa (pv 2) ae))) ae))))) aP)
   (ah (ck (pv 0) (pv 3) rfl)
   (aj (aq (bj (aa aR (aa (bh bH (by rfl) T.bC PySem.boot_len (aa (pv 3) ae)) ae))))))))),?_⟩
  obtain⟨x,dx,vs,rfl,hx,hrow,htr⟩:=hh;have hlen:=hg.len;have hu:=hg.unlike;have hh:cp K a H (.ref x) vp st:=⟨x,dx,vs,rfl,hx,hrow,htr⟩
  rw[ht] at htr;have htr:bJ K H vs t:=htr;rw[drop_eq ht] at k;refine⟨_,rfl,x,a.aH,dx,_,_,rfl,hx,T.bb,T.bS,cD,_,rfl,_,st.row,z,rfl,hrow,λj hj H1 s1=>?_,λhj H1 s1=>?_⟩
  ·obtain⟨z0,z1,z2,z3⟩:=nO hu hj;rw[if_pos ⟨z0,z1⟩,z2] at k;have hp:=List.getElem?_eq_getElem z3;have hpn:nameAt st.row j=(st.row[j]).name:=by unfold nameAt;rw[hp];rfl
   have hw:=Tz hu hp;rw[<-hpn] at hw;generalize st.row[j]=p at hp hpn hw;refine⟨_,rfl,rfl,_,rfl,?_⟩;refine⟨_,rfl,x,a.aH,dx,_,_,rfl,s1 _ _ hx,T.bb,T.bS,cD,_,rfl,_,st.row,j,p,rfl,hrow.same s1,hp,by omega,λn hb H2 s2=>?_,λl1 p2 hb H2 v2 s2 fr r2=>?_⟩
   ·rw[hb] at hw;have hw:Vapatc.without st.row (nameAt st.row j)=none:=hw;rw[hw] at k;have k:After K a H (.ref x) vp (st,0::Vapatc.listed (Vapatc.neededBy st.row (nameAt st.row j))) Q:=k;have s02:=s1.trans s2;refine⟨_,rfl,rfl,_,rfl,(by show 1<=sizeLine;decide),λl3 H3 n3 s3 e3=>?_⟩;have s03:=s02.trans s3;refine⟨_,rfl,x,a.aH,dx,_,_,rfl,s03 _ _ hx,T.bb,T.bS,cD,_,rfl,_,st.row,j,rfl,hrow.same s03,z3,by omega,hu,λH4 v4 s4 i4=>?_⟩;have hnl:(Vapatc.neededBy st.row (nameAt st.row j)).length<=10:=by
     unfold Vapatc.neededBy;refine Nat.le_trans (List.length_filter_le _ _) ?_;rw[cz];omega
    refine⟨_,_,rfl,i4,by omega,λH5 v5 s5 i5=>?_⟩;obtain⟨_,l5,rfl,h5⟩:=i5;have s35:=s4.trans s5;have s05:=s03.trans s35;refine⟨l3,l5,_,_,rfl,rfl,s35 _ _ e3,h5,?_,λl6 H6 n6 s6 e6=>k H6 (.ref l6) vp (λy _=>af.x (s05.trans s6)) (hh.same (s05.trans s6)) (.inl rfl) ⟨bG.of s05 n6,l6,rfl,?_⟩⟩
    ·rw[List.length_map,DF];exact Nat.le_of_lt (bU (by show 1+_<=_;omega))
    ·rw[e6];rfl
   ·rw[hb] at hw;have hw:Vapatc.without st.row (nameAt st.row j)=some (st.row.take j++named (namesOf (st.row.drop (j+1))) l1):=hw;rw[hw] at k;obtain⟨L,ps,rfl,hL,rp⟩:=id r2;have pl:=bf.len rp;have s02:=s1.trans s2;refine⟨_,rfl,rfl,_,rfl,_,rfl,_,rfl,x,a.aH,dx,_,rfl,s02 _ _ hx,T.bb,T.bS,cg (lp (lp cb)),?_⟩;rw[pd];have fin:=wD (ans:=[1,(((st.row.take j++named (namesOf (st.row.drop (j+1))) l1).length:Nat):Int)]) T s02 hx r2 htr ht (fr.mono s1) k;have hL3:(upd H2 x (.ins a.aH dx (aS vs (.ref L)))) L=some (.lst ps):=by rw[aT (bP hL (s02 _ _ hx) (by intro y;cases y))];exact hL
    generalize upd H2 x (.ins a.aH dx (aS vs (.ref L)))=H3 at fin hL3⊢;refine⟨_,rfl,L,_,rfl,.inl (ak.of hL3),(by show 2<=sizeLine;decide),λl4 H4 n4 s4 e4=>fin l4 H4 n4 s4 ?_⟩;rw[e4,pl];rfl
  ·rw[if_neg (sW hj)] at k;exact⟨_,rfl,rfl,_,rfl,(by show 1<=sizeLine;decide),λl2 H2 n2 s2 e2=>k H2 (.ref l2) vp (λy _=>af.x (s1.trans s2)) (hh.same (s1.trans s2)) (.inl rfl) ⟨bG.of s1 n2,l2,rfl,e2⟩⟩
end PR
namespace PR
open PySem PySem.Spec PyProof.Rows L2
open VapatcNeutral (step)
theorem After.look {H:Hp} {v vp:V} {st:Vapatc.State} {ans:List Int} {Q:VK} (k:After K a H v vp (st,ans) Q) (hh:cp K a H v vp st):∀(H':Hp) (v':V),af H H'->dW H H' v' ans->Q v' H':=λH' v' s i=>k H' v' vp (λ_ _=>af.x s) (hh.same s) (.inl rfl) i
theorem xk {st:Vapatc.State} {t:aJ} (ht:st.tree=some t) (n:Int) (l:List Int):
 step st [[2]]=(st,Vapatc.rowTold st.row)/\step st [[3]]=(st,match VapatBase.appliedAll t (Vapatc.stepsOf st.row) with
  |none=>[0]
  |some u=>VapatBase.flatTree u)/\step st [[6]]=(st,Vapatc.listed (Vapatc.fronts st.row))/\step st [[7]]=(st,Vapatc.rowTold (Vapatc.form st.row))/\step st [[9]]=(st,[Vapatc.int (Vapatc.count st.row)])/\step st [[11]]=(st,[Vapatc.int (Vapatc.rank st.row)])/\
 step st [[4,n]]=(st,if 0<=n/\(Vapatc.namesOf st.row).contains n.toNat=true then Vapatc.listed (Vapatc.needs st.row n.toNat) else [-2])/\step st [[5,n]]=(st,if 0<=n/\(Vapatc.namesOf st.row).contains n.toNat=true then Vapatc.listed (Vapatc.neededBy st.row n.toNat) else [-2])/\
 step st [[10,n]]=(st,if n<0 then [-4] else match Vapatc.kth st.row n.toNat with
  |none=>[0]
  |some l=>1::Vapatc.listed l)/\
 step st [[8],l]=(st,match Vapatc.rowOf t l with
  |none=>[-5]
  |some r=>[if Vapatc.equal st.row r then 1 else 0]):=by
 obtain⟨tr,row⟩:=st;cases ht;refine⟨rfl,rfl,rfl,rfl,rfl,rfl,?_,?_,?_,rfl⟩
 ·show((Vapatc.onPatch ⟨some t,row⟩ n λk=>(⟨some t,row⟩,Vapatc.listed (Vapatc.needs row k))).1,(Vapatc.onPatch ⟨some t,row⟩ n λk=>(⟨some t,row⟩,Vapatc.listed (Vapatc.needs row k))).2)=_;simp only[Vapatc.onPatch,Vapatc.onTree,Vapatc.refused]
  split<;>rfl
 ·show((Vapatc.onPatch ⟨some t,row⟩ n λk=>(⟨some t,row⟩,Vapatc.listed (Vapatc.neededBy row k))).1,(Vapatc.onPatch ⟨some t,row⟩ n λk=>(⟨some t,row⟩,Vapatc.listed (Vapatc.neededBy row k))).2)=_;simp only[Vapatc.onPatch,Vapatc.onTree,Vapatc.refused]
  split<;>rfl
 ·show((Vapatc.step ⟨some t,row⟩ (.kth n)).1,(Vapatc.step ⟨some t,row⟩ (.kth n)).2)=_;simp only[Vapatc.step,Vapatc.onTree,Vapatc.refused]
  split<;>rfl
theorem FY {p:Int} {nk:Nat×Nat} (hs:PyVapatc.shape p=some nk):0<=p/\p<=14:=by
 refine Decidable.byContradiction λh=>?_;unfold PyVapatc.shape at hs
 iterate 15 rw[if_neg (by omega)] at hs
 cases hs
theorem NB {st:Vapatc.State} (ht:st.tree=none) {p x:Int} {r:List Int} {nk:Nat×Nat} (hs:PyVapatc.shape p=some nk) (h0:p≠0):step st (dB p x r)=(st,[-8]):=by
 obtain⟨tr,row⟩:=st;cases ht;have hs:=FY hs;have h:p=1\/p=2\/p=3\/p=4\/p=5\/p=6\/p=7\/p=8\/p=9\/p=10\/p=11\/p=12\/p=13\/p=14:=by omega
 rcases h with rfl|rfl|rfl|rfl|rfl|rfl|rfl|rfl|rfl|rfl|rfl|rfl|rfl|rfl<;>rfl
def Rn (K:PySem.W.Frag) (a:Ad):Sp:=λvs H Q _=>∃(v vp:V) (st:Vapatc.State) (t:aJ) (p:Int),vs=[v,.int p]/\cp K a H v vp st/\Good st/\st.tree=some t/\(p=2\/p=3\/p=6\/p=7\/p=9\/p=11)/\After K a H v vp (step st [[p]]) Q
theorem Oj (T:Tx K mg a d):aA P w K mg base aL 13 a.jX d.jX ["history","kind"] (Rn K a):=by
 refine T.Ce.ok Qz (λvs H Q E h=>?_) (λcdv A outer s H vs Q E hr h=>?_)
 ·obtain⟨v,vp,st,t,p,rfl,_⟩:=h;rfl
 ·obtain⟨v,vp,st,t,p,rfl,hh,hg,ht,hp,k⟩:=h;obtain⟨t1,ht1⟩:=T.IX;obtain⟨t2,ht2⟩:=T.IV;obtain⟨t3,ht3⟩:=T.II;obtain⟨t4,ht4⟩:=T.IH;obtain⟨t5,ht5⟩:=T.IF;refine⟨_,ah (aO (aX cH (pv 1) (aU (v:= .int 2) (by rfl) ht1 ⟨_,rfl⟩) (aV _)) (aj (aq (dk (pv 0) T.bb T.MI (Oc T) (hr.mono (by decide)) T.Ho .nil au))) aP)
   (ah (aO (aX cH (pv 1) (aU (v:= .int 3) (by rfl) ht2 ⟨_,rfl⟩) (aV _)) (aj (aq (dk (pv 0) T.bb T.MF (N9 T) (hr.mono (by decide)) T.Hl .nil au))) aP)
   (ah (aO (aX cH (pv 1) (aU (v:= .int 6) (by rfl) ht3 ⟨_,rfl⟩) (aV _)) (aj (aq (dk (pv 0) T.bb T.MA (N3 T) (hr.mono (by decide)) T.Hf .nil au))) aP)
   (ah (aO (aX cH (pv 1) (aU (v:= .int 7) (by rfl) ht4 ⟨_,rfl⟩) (aV _)) (aj (aq (dk (pv 0) T.bb T.Mz (N2 T) (hr.mono (by decide)) T.He .nil au))) aP)
   (ah (aO (aX cH (pv 1) (aU (v:= .int 9) (by rfl) ht5 ⟨_,rfl⟩) (aV _)) (aj (aq (dk (pv 0) T.bb T.Mw (NZ T) (hr.mono (by decide)) T.Hb .nil au))) aP)
   (aj (aq (dk (pv 0) T.bb T.MH (Ob T) hr T.Hn .nil au))))))),?_⟩
  obtain⟨x,dx,vs,rfl,hx,hrow,htr⟩:=id hh;obtain⟨e2,e3,e6,e7,e9,e11,_⟩:=xk ht 0 [];refine⟨_,rfl,rfl,_,rfl,bE (λhz=>?_) (λz1=>?_)⟩
  ·have hz:p=2:=V.int.inj (of_decide_eq_true hz);subst hz;rw[e2] at k;exact⟨_,rfl,x,dx,_,rfl,hx,KS,_,vp,st,t,rfl,hh,hg,ht,k.look hh⟩
  have z1:¬p=2:=λe=>z1 (decide_eq_true (by rw[e]));refine⟨_,rfl,rfl,_,rfl,bE (λhz=>?_) (λz2=>?_)⟩
  ·have hz:p=3:=V.int.inj (of_decide_eq_true hz);subst hz;rw[e3] at k;exact⟨_,rfl,x,dx,_,rfl,hx,KP,_,vp,st,t,rfl,hh,hg,ht,k.look hh⟩
  have z2:¬p=3:=λe=>z2 (decide_eq_true (by rw[e]));refine⟨_,rfl,rfl,_,rfl,bE (λhz=>?_) (λz3=>?_)⟩
  ·have hz:p=6:=V.int.inj (of_decide_eq_true hz);subst hz;rw[e6] at k;exact⟨_,rfl,x,dx,_,rfl,hx,KI,_,vp,st,t,rfl,hh,hg,ht,k.look hh⟩
  have z3:¬p=6:=λe=>z3 (decide_eq_true (by rw[e]));refine⟨_,rfl,rfl,_,rfl,bE (λhz=>?_) (λz4=>?_)⟩
  ·have hz:p=7:=V.int.inj (of_decide_eq_true hz);subst hz;rw[e7] at k;exact⟨_,rfl,x,dx,_,rfl,hx,KH,_,vp,st,t,rfl,hh,hg,ht,k.look hh⟩
  have z4:¬p=7:=λe=>z4 (decide_eq_true (by rw[e]));refine⟨_,rfl,rfl,_,rfl,bE (λhz=>?_) (λz5=>?_)⟩
  ·have hz:p=9:=V.int.inj (of_decide_eq_true hz);subst hz;rw[e9] at k;exact⟨_,rfl,x,dx,_,rfl,hx,KC,_,vp,st,t,rfl,hh,hg,ht,k.look hh⟩
  have z5:¬p=9:=λe=>z5 (decide_eq_true (by rw[e]));have hz:p=11:=by omega
  subst hz;rw[e11] at k;exact⟨_,rfl,x,dx,_,rfl,hx,KR,_,vp,st,t,rfl,hh,hg,ht,k.look hh⟩
def Rp (K:PySem.W.Frag) (a:Ad):Sp:=λvs H Q _=>∃(v vp:V) (st:Vapatc.State) (t:aJ) (p x:Int),vs=[v,.int p,.int x]/\cp K a H v vp st/\Good st/\st.tree=some t/\(p=4\/p=5\/p=10\/p=14)/\After K a H v vp (step st [[p,x]]) Q
theorem Om (T:Tx K mg a d):aA P w K mg base aL 13 a.jZ d.jZ ["history","kind","number"] (Rp K a):=by
 refine T.Cg.ok QB (λvs H Q E h=>?_) (λcdv A outer s H vs Q E hr h=>?_)
 ·obtain⟨v,vp,st,t,p,n,rfl,_⟩:=h;rfl
 ·obtain⟨v,vp,st,t,p,n,rfl,hh,hg,ht,hp,k⟩:=h;obtain⟨t1,ht1⟩:=T.BN;obtain⟨t2,ht2⟩:=T.BM;obtain⟨t3,ht3⟩:=T.BH;refine⟨_,ah (aO (aX cH (pv 1) (aU (v:= .int 4) (by rfl) ht1 ⟨_,rfl⟩) (aV _)) (aj (aq (cI (pv 0) T.bb T.MD (N7 T) (hr.mono (by decide)) T.Hj .nil au (aa (pv 2) ae)))) aP)
   (ah (aO (aX cH (pv 1) (aU (v:= .int 5) (by rfl) ht2 ⟨_,rfl⟩) (aV _)) (aj (aq (cI (pv 0) T.bb T.MC (N6 T) (hr.mono (by decide)) T.Hi .nil au (aa (pv 2) ae)))) aP)
   (ah (aO (aX cH (pv 1) (aU (v:= .int 10) (by rfl) ht3 ⟨_,rfl⟩) (aV _)) (aj (aq (cI (pv 0) T.bb T.MB (N5 T) hr T.Hh .nil au (aa (pv 2) ae)))) aP)
   (aj (aq (cI (pv 0) T.bb T.Mx (N0 T) (hr.mono (by decide)) T.Hc .nil au (aa (pv 2) ae)))))),?_⟩
  obtain⟨x,dx,vs,rfl,hx,hrow,htr⟩:=id hh;obtain⟨_,_,_,_,_,_,e4,e5,e10,_⟩:=xk ht n [];refine⟨_,rfl,rfl,_,rfl,bE (λhz=>?_) (λz1=>?_)⟩
  ·have hz:p=4:=V.int.inj (of_decide_eq_true hz);subst hz;rw[e4] at k;exact⟨_,rfl,x,dx,_,rfl,hx,KN,_,rfl,_,vp,st,n,rfl,hh,hg,k.look hh⟩
  have z1:¬p=4:=λe=>z1 (decide_eq_true (by rw[e]));refine⟨_,rfl,rfl,_,rfl,bE (λhz=>?_) (λz2=>?_)⟩
  ·have hz:p=5:=V.int.inj (of_decide_eq_true hz);subst hz;rw[e5] at k;exact⟨_,rfl,x,dx,_,rfl,hx,KL,_,rfl,_,vp,st,n,rfl,hh,hg,k.look hh⟩
  have z2:¬p=5:=λe=>z2 (decide_eq_true (by rw[e]));refine⟨_,rfl,rfl,_,rfl,bE (λhz=>?_) (λz3=>?_)⟩
  ·have hz:p=10:=V.int.inj (of_decide_eq_true hz);subst hz;rw[e10] at k;exact⟨_,rfl,x,dx,_,rfl,hx,KJ,_,rfl,_,vp,st,n,rfl,hh,hg,k.look hh⟩
  have z3:¬p=10:=λe=>z3 (decide_eq_true (by rw[e]));have hz:p=14:=by omega
  subst hz;exact⟨_,rfl,x,dx,_,rfl,hx,KD,_,rfl,_,vp,st,t,n,rfl,hh,hg,ht,k⟩
def Ro (K:PySem.W.Frag) (a:Ad):Sp:=λvs H Q _=>∃(v vp:V) (st:Vapatc.State) (t:aJ) (p:Int) (l:Addr) (ns:List Int),vs=[v,.int p,.ref l]/\cp K a H v vp st/\Good st/\st.tree=some t/\H l=some (.lst (ns.map V.int))/\(p=8\/(p=12\/p=13)/\ns.length<=12)/\After K a H v vp (step st [[p],ns]) Q
theorem Ol (T:Tx K mg a d):aA P w K mg base aL 13 a.jY d.jY ["history","kind","told"] (Ro K a):=by
 refine T.Cf.ok QA (λvs H Q E h=>?_) (λcdv A outer s H vs Q E hr h=>?_)
 ·obtain⟨v,vp,st,t,p,l,ns,rfl,_⟩:=h;rfl
 ·obtain⟨v,vp,st,t,p,l,ns,rfl,hh,hg,ht,hl,hp,k⟩:=h;obtain⟨t1,ht1⟩:=T.BF;obtain⟨t2,ht2⟩:=T.BP;refine⟨_,ah (aO (aX cH (pv 1) (aU (v:= .int 8) (by rfl) ht1 ⟨_,rfl⟩) (aV _)) (aj (aq (cI (pv 0) T.bb T.My (N1 T) hr T.Hd .nil au (aa (pv 2) ae)))) aP)
   (ah (aO (aX cH (pv 1) (aU (v:= .int 12) (by rfl) ht2 ⟨_,rfl⟩) (aV _)) (aj (aq (cI (pv 0) T.bb T.ME (N8 T) (hr.mono (by decide)) T.Hk .nil au (aa (pv 2) ae)))) aP)
   (aj (aq (cI (pv 0) T.bb T.MG (Oa T) (hr.mono (by decide)) T.Hm .nil au (aa (pv 2) ae))))),?_⟩
  obtain⟨x,dx,vs,rfl,hx,hrow,htr⟩:=id hh;obtain⟨_,_,_,_,_,_,_,_,_,e8⟩:=xk ht 0 ns;refine⟨_,rfl,rfl,_,rfl,bE (λhz=>?_) (λz1=>?_)⟩
  ·have hz:p=8:=V.int.inj (of_decide_eq_true hz);subst hz;rw[e8] at k;exact⟨_,rfl,x,dx,_,rfl,hx,KG,_,rfl,_,vp,st,t,l,ns,rfl,hh,hg,ht,hl,k.look hh⟩
  have z1:¬p=8:=λe=>z1 (decide_eq_true (by rw[e]));have hnl:ns.length<=12:=by omega
  refine⟨_,rfl,rfl,_,rfl,bE (λhz=>?_) (λz2=>?_)⟩
  ·have hz:p=12:=V.int.inj (of_decide_eq_true hz);subst hz;exact⟨_,rfl,x,dx,_,rfl,hx,KO,_,rfl,_,vp,st,t,l,ns,rfl,hh,hg,ht,hl,hnl,k⟩
  have z2:¬p=12:=λe=>z2 (decide_eq_true (by rw[e]));have hz:p=13:=by omega
  subst hz;exact⟨_,rfl,x,dx,_,rfl,hx,KQ,_,rfl,_,vp,st,t,l,ns,rfl,hh,hg,ht,hl,hnl,k⟩
end PR
namespace PR
open PySem PySem.Spec PyProof.Rows L2
open VapatcNeutral (step)
theorem After.same {H H1:Hp} {v vp:V} {r:Vapatc.State×List Int} {Q:VK} (k:After K a H v vp r Q) (s:af H H1):After K a H1 v vp r Q:=λH' v' vp' h1 h2 h3 h4=>k H' v' vp' (λx e=>(af.x s).trans (h1 x e)) h2 (h3.imp id λf=>f.mono s) (h4.mono s)
theorem SN {p x:Int} {r:List Int} (hp:p=12\/p=13) (h:PyInside.call PyVapatc.bound (dB p x r)=true):r.length<=12:=by
 rcases hp with rfl|rfl
 all_goals
  have h:(true&&(decide (0<=r.length)&&decide (r.length<=12)&&r.all (PyInside.within (-1000000000000000000) 1000000000000000000)&&true))=true:=h;simp only[Bool.true_and,Bool.and_eq_true,decide_eq_true_eq] at h;exact h.1.1.2
def Rq (K:PySem.W.Frag) (a:Ad):Sp:=λvs H Q _=>∃(v vp vc:V) (st:Vapatc.State) (t:aJ) (p x:Int) (r:List Int) (n:Nat),vs=[v,vc]/\cp K a H v vp st/\Good st/\st.tree=some t/\ur a H vc p x r n/\1<=p/\p<=14/\PyInside.call PyVapatc.bound (dB p x r)=true/\After K a H v vp (step st (dB p x r)) Q
theorem Oo (T:Tx K mg a d):aA P w K mg base aL 14 a.j0 d.j0 ["history","call"] (Rq K a):=by
 refine T.Ci.ok QC (λvs H Q E h=>?_) (λcdv A outer s H vs Q E hr h=>?_)
 ·obtain⟨v,vp,vc,st,t,p,x,r,n,rfl,_⟩:=h;rfl
 ·obtain⟨v,vp,vc,st,t,p,n,r,nn,rfl,hh,hg,ht,⟨y,dy,lr,rfl,hy,hlr⟩,p1,p2,hb,k⟩:=h;obtain⟨t1,ht1⟩:=T.vD;refine⟨_,ah (aO (aX cH (ao (pv 1) rfl) (aU (v:= .int 1) (by rfl) ht1 ⟨_,rfl⟩) (aV _)) (aj (aq (cI (pv 0) T.bb T.Mv (NY T) (hr.mono (by decide)) T.Ha .nil au (aa (ao (pv 1) rfl) (aa (ao (pv 1) rfl) ae))))) aP)
   (ah (aO (eD (aB (EA T) (hr.mono (by decide)) (by rfl) T.DO T.vV.kp T.A0 .nil au (aa (ao (pv 1) rfl) ae))) (aj (aq (aB (Om T) hr (by rfl) T.MT T.Cg.kp T.Hy .nil au (aa (pv 0) (aa (ao (pv 1) rfl) (aa (ao (pv 1) rfl) ae)))))) aP)
   (ah (aO (eD (aB (Ez T) (hr.mono (by decide)) (by rfl) T.DN T.vU.kp T.AZ .nil au (aa (ao (pv 1) rfl) ae))) (aj (aq (aB (Ol T) hr (by rfl) T.MS T.Cf.kp T.Hx .nil au (aa (pv 0) (aa (ao (pv 1) rfl) (aa (ao (pv 1) rfl) ae)))))) aP)
   (aj (aq (aB (Oj T) hr (by rfl) T.MR T.Ce.kp T.Hw .nil au (aa (pv 0) (aa (ao (pv 1) rfl) ae))))))),?_⟩
  obtain⟨x,dx,vs,rfl,hx,hrow,htr⟩:=id hh;refine⟨_,rfl,y,a.Call,dy,_,_,rfl,hy,T.dM,T.iU,kH,rfl,_,rfl,bE (λhz=>?_) (λz1=>?_)⟩
  ·have hz:p=1:=V.int.inj (of_decide_eq_true hz);subst hz;exact⟨_,rfl,x,dx,_,rfl,hx,KA,_,rfl,y,a.Call,dy,_,_,rfl,hy,T.dM,T.xw,C1,_,rfl,y,a.Call,dy,_,_,rfl,hy,T.dM,T.sD,wm,_,vp,st,t,n,lr,r,rfl,hh,hg,ht,hlr,k⟩
  have z1:¬p=1:=λe=>z1 (decide_eq_true (by rw[e]));refine⟨_,rfl,y,a.Call,dy,_,_,rfl,hy,T.dM,T.iU,kH,p,rfl,λH1 s1=>⟨_,rfl,?_⟩⟩;have hy1:=s1 _ _ hy;have hlr1:=s1 _ _ hlr;cases c1:([1,4,5,10,14]:List Int).contains p with
  |true=>
   have hm:p∈([1,4,5,10,14]:List Int):=List.contains_iff_mem.mp c1;simp only[List.mem_cons,List.not_mem_nil,or_false] at hm;have hp:p=4\/p=5\/p=10\/p=14:=by omega
   have e:dB p n r=[[p,n]]:=by rcases hp with rfl|rfl|rfl|rfl<;>rfl
   rw[e] at k;exact fJ ⟨_,rfl,_,rfl,y,a.Call,dy,_,_,rfl,hy1,T.dM,T.iU,kH,_,rfl,y,a.Call,dy,_,_,rfl,hy1,T.dM,T.xw,C1,_,vp,st,t,p,n,rfl,hh.same s1,hg,ht,hp,k.same s1⟩
  |false=>
   refine gW ?_;have hm:¬p∈([1,4,5,10,14]:List Int):=λq=>by rw[List.contains_iff_mem.mpr q] at c1;cases c1
   simp only[List.mem_cons,List.not_mem_nil,or_false] at hm;refine⟨_,rfl,y,a.Call,dy,_,_,rfl,hy1,T.dM,T.iU,kH,p,rfl,λH2 s2=>⟨_,rfl,?_⟩⟩;have s12:=s1.trans s2;have hy2:=s2 _ _ hy1;have hlr2:=s2 _ _ hlr1;cases c2:([0,1,8,12,13]:List Int).contains p with
   |true=>
    have hm2:p∈([0,1,8,12,13]:List Int):=List.contains_iff_mem.mp c2;simp only[List.mem_cons,List.not_mem_nil,or_false] at hm2;have hp:p=8\/p=12\/p=13:=by omega
    have hp2:p=8\/(p=12\/p=13)/\r.length<=12:=hp.imp id λq=>⟨q,SN q hb⟩
    have e:dB p n r=[[p],r]:=by rcases hp with rfl|rfl|rfl<;>rfl
    rw[e] at k;exact fJ ⟨_,rfl,_,rfl,y,a.Call,dy,_,_,rfl,hy2,T.dM,T.iU,kH,_,rfl,y,a.Call,dy,_,_,rfl,hy2,T.dM,T.sD,wm,_,vp,st,t,p,lr,r,rfl,hh.same s12,hg,ht,hlr2,hp2,k.same s12⟩
   |false=>
    refine gW ?_;have hm2:¬p∈([0,1,8,12,13]:List Int):=λq=>by rw[List.contains_iff_mem.mpr q] at c2;cases c2
    simp only[List.mem_cons,List.not_mem_nil,or_false] at hm2;have hp:p=2\/p=3\/p=6\/p=7\/p=9\/p=11:=by omega
    have e:dB p n r=[[p]]:=by rcases hp with rfl|rfl|rfl|rfl|rfl|rfl<;>rfl
    rw[e] at k;exact⟨_,rfl,_,rfl,y,a.Call,dy,_,_,rfl,hy2,T.dM,T.iU,kH,_,vp,st,t,p,rfl,hh.same s12,hg,ht,hp,k.same s12⟩
theorem Oi (T:Tx K mg a d):aA P w K mg base aL 15 a.gL d.gL ["history","call"] (F8 K a):=by
 refine T.Cd.ok Qy (λvs H Q E h=>?_) (λcdv A outer s H vs Q E hr h=>?_)
 ·obtain⟨v,vp,vc,st,p,x,r,n,nk,rfl,_⟩:=h;rfl
 ·obtain⟨v,vp,vc,st,p,n,r,nn,nk,rfl,hh,hg,ca,hs,hb,k⟩:=h;obtain⟨y,dy,lr,rfl,hy,hlr⟩:=id ca;obtain⟨t1,ht1⟩:=T.BS;obtain⟨t2,ht2⟩:=T.IU;refine⟨_,ah (aO (aX cH (ao (pv 1) rfl) (aU (v:= .int 0) (by rfl) ht1 ⟨_,rfl⟩) (aV _)) (aj (aq (cI (pv 0) T.bb T.MJ (Od T) (hr.mono (by decide)) T.Hq .nil au (aa (ao (pv 1) rfl) ae)))) aP)
   (ah (aO (aX gj (ao (pv 0) rfl) cS (aV _)) (aj (aq (bj (aa (aU (v:= .int (-8)) (by rfl) ht2 ⟨_,rfl⟩) ae)))) aP)
   (aj (aq (aB (Oo T) hr (by rfl) T.MU T.Ci.kp T.Hz .nil au (aa (pv 0) (aa (pv 1) ae)))))),?_⟩
  obtain⟨x,dx,vs,rfl,hx,hrow,htr⟩:=id hh;refine⟨_,rfl,y,a.Call,dy,_,_,rfl,hy,T.dM,T.iU,kH,rfl,_,rfl,bE (λhz=>?_) (λz1=>?_)⟩
  ·have hz:p=0:=V.int.inj (of_decide_eq_true hz);subst hz;exact⟨_,rfl,x,dx,_,rfl,hx,KU,_,rfl,y,a.Call,dy,_,_,rfl,hy,T.dM,T.sD,wm,_,vp,st,lr,r,rfl,hh,hlr,k⟩
  have z1:¬p=0:=λe=>z1 (decide_eq_true (by rw[e]));refine⟨_,rfl,x,a.aH,dx,_,_,rfl,hx,T.bb,T.ng,rB,rfl,_,rfl,?_⟩;cases ht:st.tree with
  |none=>
   rw[ht] at htr;have htr:vs= .aI:=htr;subst htr;rw[NB ht hs z1] at k;exact⟨(by show 1<=sizeLine;decide),λl2 H2 n2 s2 e2=>k.look hh H2 (.ref l2) s2 ⟨bG.of (af.refl _) n2,l2,rfl,e2⟩⟩
  |some t=>
   rw[ht] at htr;have htr:bJ K H vs t:=htr;obtain⟨pt,_,rfl,_⟩:=htr;have:=FY hs;exact⟨_,rfl,_,rfl,_,vp,_,st,t,p,n,r,nn,rfl,hh,hg,ht,ca,by omega,by omega,hb,k⟩
theorem Oq (T:Tx K mg a d):aA P w K mg base aL 16 a.answers d.answers ["calls"] (F3 K):=Ot T (by decide) (Oi T)
end PR
namespace PR
open PySem PySem.Spec PyProof.Rows L2
theorem pD {K:PySem.W.Frag} {C:Addr}:PySem.W.kitOne K (.ref C) (.ref C)=some true:=by unfold PySem.W.kitOne;rw[if_pos (beq_self_eq_true _)]
theorem dg {K:PySem.W.Frag} {C E:Addr} {dd:Option Addr} {cd:ClassData} {sl:Array (Option Value)} (l:K.lookup E=some ⟨.type "type",dd,.cls cd,sl⟩) (m:PySem.W.mroIn K C (.ref E)=some false) (h:C≠E):PySem.W.kitOne K (.ref C) (.ref E)=some false:=by
 unfold PySem.W.kitOne;rw[if_neg (by intro z;have z:=eq_of_beq z;cases z;exact h rfl)];unfold PySem.W.kitCls;have e1:(PySem.W.clsIn K E).isSome=true:=by unfold PySem.W.clsIn;rw[l];rfl
 have e2:PySem.W.typeIn K (.ref E)=some (.type "type"):=by unfold PySem.W.typeIn;simp only[l,Option.map_some]
 simp only[e1,e2,Bool.true_and];rw[if_pos (beq_self_eq_true _)];exact m
theorem JE {K:PySem.W.Frag} {C ns:Addr} {bm:List Value} {newId:String} {dd d2:Option Addr} {nm qn:Str} {bs sub:List Value} {sn:List Str} {hd ab:Bool} {col:Option Bool} {k0 k1 k2 k3 k5:Option Value} {c2:Value} {es:_} {ep:_} {sl2:_}
 (l:K.lookup C=some ⟨.type "type",dd,.cls ⟨nm,bs,.ref C::bm,ns,qn,hd,sn,sub,ab,col,false⟩,#[k0,k1,k2,k3,some (.builtin newId),k5]⟩) (l2:K.lookup ns=some ⟨c2,d2,.dict es ep,sl2⟩)
 (al:(es.toList.all λe=>match e.key with| .str _ _=>true|_=>false)=true) (ni:PySem.W.nsIn K ns "__init__"=some none) (tl:bm≠[]):PySem.W.excIn K C bm newId=true:=by
 have e1:PySem.W.nsOkIn K ns=true:=by unfold PySem.W.nsOkIn;rw[l2];rw[Array.all_toList] at al;exact al
 have e2:PySem.W.tailIn K bm bm=true:=by
  cases bm with
  |nil=>exact absurd rfl tl
  |cons v r=>unfold PySem.W.tailIn;rw[beq_self_eq_true];rfl
 unfold PySem.W.excIn;simp only[l,e1,e2,ni];simp
def nG (K:PySem.W.Frag) (x:Str) (f:Addr):Prop:=PySem.W.nsIn K mainGlobals x=some (some (.ref f))
def nI (K:PySem.W.Frag) (x:Str) (i:Int) (t:Tok):Prop:=PySem.W.nsIn K mainGlobals x=some (some (.int i t))
def nN (K:PySem.W.Frag) (x:Str):Prop:=PySem.W.nsIn K mainGlobals x=some none
def nK (K:PySem.W.Frag) (c e:Addr):Prop:=PySem.W.mroIn K c (.ref e)=some false
def FX (K:PySem.W.Frag) (x q:Str) (s:Stmt) (f:Addr):Prop:=∃fd,aE K x q s f fd
theorem fx {K:PySem.W.Frag} {x q:Str} {st:Stmt} {f:Addr} {oc:Value} {od an:Option Addr} {osl:Array (Option Value)} {kV doc pm cdv ct:Value} (l:K.lookup f=some ⟨oc,od,.func (PySem.W.fnOf x q (oP st) (kz st) (ay st) .none kV doc pm an cdv ct),osl⟩) (c:PySem.W.codeIn K cdv q=true) (k:PySem.W.keepIn K (.ref f)=true):FX K x q st f:=⟨_,K1 l c k⟩
set_option maxHeartbeats 0 in
theorem Tf {K:PySem.W.Frag} {h:Heap} {mg:Str->Option Value} (X:K.In h) (G:h.Ns mainGlobals mg)
 {c1 c2 c3 c4 c5 c6 c7 c8 c9 c10 c11 f1 f2 f3 f4 f5 f6 f7 f8 f9 f10 f11 f12 f13 f14 f15 f16 f17 f18 f19 f20 f21 f22 f23 f24 f25 f26 f27 f28 f29 f30 f31 f32 f33 f34 f35 f36 f37 f38 f39 f40 f41 f42 f43 f44 f45 f46 f47 f48 f49 f50 f51 f52 f53 f54 f55 f56 f57 f58 f59 f60 f61 f62 f63 f64 f65 f66 f67 f68 f69 f70 f71 f72 f73 f74 f75 f76 f77 f78 f79 f80 f81 f82 f83 f84 f85 f86 f87 f88 f89 f90:Addr} {t1 t2 t3 t4 t5 t6 t7 t8 t9 t10 t11 t12 t13 t14 t15 t16 t17 t18 t19 t20 t21 t22 t23 t24 t25 t26 t27 t28 t29 t30 t31 t32 t33 t34 t35 t36:Tok} {x0:Option Addr} {y0:ClassData} {z0:Array (Option Value)} {x1:Option Addr} {y1:ClassData} {z1:Array (Option Value)} {x2:Option Addr} {y2:ClassData} {z2:Array (Option Value)} {x3:Option Addr} {y3:ClassData} {z3:Array (Option Value)} {x4:Option Addr} {y4:ClassData} {z4:Array (Option Value)} {ns:Addr} {dd d2:Option Addr} {nm qn:Str} {bs su:List Value} {sn:List Str} {hd ab:Bool} {col:Option Bool} {k0 k1 k2 k3 k5:Option Value} {v2:Value} {es:_} {ep:_} {s2:_}
 (A:nG K "NotWhole" c1/\nG K "Reader" c2/\nG K "Hunk" c3/\nG K "Swap" c4/\nG K "Added" c5/\nG K "Removed" c6/\nG K "Moved" c7/\nG K "Patch" c8/\nG K "Orders" c9/\nG K "History" c10/\nG K "Call" c11/\nG K "read_hunk" f12/\nG K "read_swap" f13/\nG K "read_moved" f14/\nG K "read_step" f15/\nG K "step_from_numbers" f16/\nG K "hunk_numbers" f17/\nG K "step_numbers" f18/\nG K "swapped_tokens" f19/\nG K "names_of" f20/\nG K "is_inside" f21/\nG K "have_common_name" f22/\nG K "shifted" f23/\nG K "swapped_hunk" f24/\nG K "inside_file" f25/\nG K "commuted_hunks" f26/\nG K "commuted_swaps" f27/\nG K "commuted_inside" f28/\nG K "commuted" f29/\nG K "tree_from_numbers" f30/\nG K "tree_numbers" f31/\nG K "hunk_fits" f32/\nG K "fits" f33/\nG K "hunk_applied" f34/\nG K "applied" f35/\nG K "names_in" f37/\nG K "place_of" f38/\nG K "row_numbers" f39/\nG K "read_patch" f40/\nG K "row_from_numbers" f41/\nG K "outcome_of" f42/\nG K "commuted_patches" f43/\nG K "brought_to_front" f44/\nG K "passed_by" f45/\nG K "names_at_front" f46/\nG K "one_form" f47/\nG K "are_equal" f48/\nG K "brought_in_order" f49/\nG K "needed_names" f50/\nG K "names_needing" f51/\nG K "names_with_needed" f52/\nG K "taken_out" f53/\nG K "group_of" f54/\nG K "can_be_next" f55/\nG K "places_next" f56/\nG K "ways_behind" f57/\nG K "counted" f80/\nG K "are_own_names" f81/\nG K "has_number" f82/\nG K "has_list" f83/\nG K "read_call" f84/\nG K "answer_to_kind" f85/\nG K "answer_to_number" f86/\nG K "answer_to_list" f87/\nG K "answer_with_tree" f88/\nG K "answer_of" f89/\nG K "answers" f90)
 (B:nI K "LAST_FILE" (9) t1/\nI K "LAST_TOKEN" (99) t2/\nI K "HUNK" (0) t3/\nI K "SWAP" (1) t4/\nI K "ADDED" (2) t5/\nI K "REMOVED" (3) t6/\nI K "MOVED" (4) t7/\nI K "MOST_HUNK_TOKENS" (8) t8/\nI K "LAST_TOLD_PLACE" (1000) t9/\nI K "MOST_TOLD_FILES" (6) t10/\nI K "MOST_TOLD_TOKENS" (12) t11/\nI K "LAST_PATCH_NAME" (99) t12/\nI K "MOST_PATCHES" (10) t13/\nI K "TREE" (0) t14/\nI K "ADD" (1) t15/\nI K "ROW" (2) t16/\nI K "OUTCOME" (3) t17/\nI K "NEEDS" (4) t18/\nI K "NEEDEDBY" (5) t19/\nI K "FRONTS" (6) t20/\nI K "FORM" (7) t21/\nI K "EQUAL" (8) t22/\nI K "COUNT" (9) t23/\nI K "KTH" (10) t24/\nI K "ORDER" (12) t25/\nI K "PICK" (13) t26/\nI K "DROP" (14) t27/\nI K "NOT_AS_TOLD" (-1) t28/\nI K "NO_SUCH_PATCH" (-2) t29/\nI K "BAD_NAME" (-3) t30/\nI K "NO_FIT" (-4) t31/\nI K "BAD_NUMBER" (-4) t32/\nI K "NO_ROW" (-5) t33/\nI K "ROW_FULL" (-6) t34/\nI K "NOT_ALL" (-7) t35/\nI K "NO_TREE" (-8) t36)
 (N:nN K "len"/\nN K "tuple"/\nN K "range"/\nN K "list"/\nN K "isinstance"/\nN K "any"/\nN K "sorted"/\nN K "dict"/\nN K "enumerate"/\nN K "reversed"/\nN K "sum"/\nN K "max"/\nN K "all"/\nN K "set")
 (M:Mk K c2 f1/\Mk K c3 f7/\Mk K c4 f8/\Mk K c5 f9/\Mk K c6 f10/\Mk K c7 f11/\Mk K c8 f36/\Mk K c9 f58/\Mk K c10 f63/\Mk K c11 f79)
 (E:Meth K c2 "read_number" f2/\Meth K c2 "read_file" f3/\Meth K c2 "read_token" f4/\Meth K c2 "read_tokens" f5/\Meth K c2 "read_end" f6/\Meth K c9 "how_many" f59/\Meth K c9 "how_many_below" f60/\Meth K c9 "numbered" f61/\Meth K c9 "number_of" f62/\Meth K c10 "tree" f64/\Meth K c10 "add" f65/\Meth K c10 "row" f66/\Meth K c10 "outcome" f67/\Meth K c10 "needs" f68/\Meth K c10 "neededby" f69/\Meth K c10 "fronts" f70/\Meth K c10 "form" f71/\Meth K c10 "equal" f72/\Meth K c10 "count" f73/\Meth K c10 "kth" f74/\Meth K c10 "rank" f75/\Meth K c10 "order" f76/\Meth K c10 "pick" f77/\Meth K c10 "drop" f78)
 (C:bV K c2/\bV K c3/\bV K c4/\bV K c5/\bV K c6/\bV K c7/\bV K c8/\bV K c9/\bV K c10/\bV K c11)
 (O:aZ K c2 "numbers"/\aZ K c2 "at"/\aZ K c3 "file"/\aZ K c3 "place"/\aZ K c3 "old"/\aZ K c3 "new"/\aZ K c4 "file"/\aZ K c4 "first"/\aZ K c4 "second"/\aZ K c5 "file"/\aZ K c6 "file"/\aZ K c7 "old_name"/\aZ K c7 "new_name"/\aZ K c8 "name"/\aZ K c8 "step"/\aZ K c9 "names"/\aZ K c9 "needed"/\aZ K c9 "ways"/\aZ K c10 "start"/\aZ K c10 "patches"/\aZ K c11 "kind"/\aZ K c11 "number"/\aZ K c11 "told"/\aZ K c11 "after")
 (F:FX K "__init__" "Reader.__init__" yM f1/\FX K "read_number" "Reader.read_number" yP f2/\FX K "read_file" "Reader.read_file" yO f3/\FX K "read_token" "Reader.read_token" yQ f4/\FX K "read_tokens" "Reader.read_tokens" tI f5/\FX K "read_end" "Reader.read_end" yN f6/\FX K "__init__" "Hunk.__init__" yH f7/\FX K "__init__" "Swap.__init__" yS f8/\FX K "__init__" "Added.__init__" yn f9/\FX K "__init__" "Removed.__init__" yR f10/\FX K "__init__" "Moved.__init__" yI f11/\FX K "read_hunk" "read_hunk" zz f12/\FX K "read_swap" "read_swap" zD f13/\FX K "read_moved" "read_moved" zA f14/\FX K "read_step" "read_step" zC f15/\FX K "step_from_numbers" "step_from_numbers" zH f16/\FX K "hunk_numbers" "hunk_numbers" zm f17/\FX K "step_numbers" "step_numbers" zI f18/\FX K "swapped_tokens" "swapped_tokens" tQ f19/\FX K "names_of" "names_of" zq f20/\FX K "is_inside" "is_inside" zp f21/\FX K "have_common_name" "have_common_name" tL f22/\FX K "shifted" "shifted" zG f23/\FX K "swapped_hunk" "swapped_hunk" zJ f24/\FX K "inside_file" "inside_file" zo f25/\FX K "commuted_hunks" "commuted_hunks" zc f26/\FX K "commuted_swaps" "commuted_swaps" zf f27/\FX K "commuted_inside" "commuted_inside" zd f28/\FX K "commuted" "commuted" zb f29/\FX K "tree_from_numbers" "tree_from_numbers" zL f30/\FX K "tree_numbers" "tree_numbers" zM f31/\FX K "hunk_fits" "hunk_fits" zl f32/\FX K "fits" "fits" zh f33/\FX K "hunk_applied" "hunk_applied" zk f34/\FX K "applied" "applied" yZ f35/\FX K "__init__" "Patch.__init__" yL f36/\FX K "names_in" "names_in" tM f37/\FX K "place_of" "place_of" zx f38/\FX K "row_numbers" "row_numbers" zF f39/\FX K "read_patch" "read_patch" zB f40/\FX K "row_from_numbers" "row_from_numbers" zE f41/\FX K "outcome_of" "outcome_of" zu f42/\FX K "commuted_patches" "commuted_patches" ze f43/\FX K "brought_to_front" "brought_to_front" y9 f44/\FX K "passed_by" "passed_by" zw f45/\FX K "names_at_front" "names_at_front" pV f46/\FX K "one_form" "one_form" zt f47/\FX K "are_equal" "are_equal" y6 f48/\FX K "brought_in_order" "brought_in_order" y8 f49/\FX K "needed_names" "needed_names" zr f50/\FX K "names_needing" "names_needing" tN f51/\FX K "names_with_needed" "names_with_needed" tO f52/\FX K "taken_out" "taken_out" zK f53/\FX K "group_of" "group_of" tK f54/\FX K "can_be_next" "can_be_next" za f55/\FX K "places_next" "places_next" tP f56/\FX K "ways_behind" "ways_behind" tR f57/\FX K "__init__" "Orders.__init__" tG f58/\FX K "how_many" "Orders.how_many" yJ f59/\FX K "how_many_below" "Orders.how_many_below" pU f60/\FX K "numbered" "Orders.numbered" tH f61/\FX K "number_of" "Orders.number_of" yK f62/\FX K "__init__" "History.__init__" yx f63/\FX K "tree" "History.tree" yG f64/\FX K "add" "History.add" yp f65/\FX K "row" "History.row" yF f66/\FX K "outcome" "History.outcome" yC f67/\FX K "needs" "History.needs" yA f68/\FX K "neededby" "History.neededby" yz f69/\FX K "fronts" "History.fronts" yw f70/\FX K "form" "History.form" yu f71/\FX K "equal" "History.equal" yt f72/\FX K "count" "History.count" yq f73/\FX K "kth" "History.kth" yy f74/\FX K "rank" "History.rank" yE f75/\FX K "order" "History.order" yB f76/\FX K "pick" "History.pick" yD f77/\FX K "drop" "History.drop" yr f78/\FX K "__init__" "Call.__init__" yo f79/\FX K "counted" "counted" zg f80/\FX K "are_own_names" "are_own_names" tJ f81/\FX K "has_number" "has_number" zj f82/\FX K "has_list" "has_list" zi f83/\FX K "read_call" "read_call" zy f84/\FX K "answer_to_kind" "answer_to_kind" yU f85/\FX K "answer_to_number" "answer_to_number" yW f86/\FX K "answer_to_list" "answer_to_list" yV f87/\FX K "answer_with_tree" "answer_with_tree" yX f88/\FX K "answer_of" "answer_of" yT f89/\FX K "answers" "answers" yY f90)
 (I:gm K c3/\gm K c4/\gm K c5/\gm K c6/\gm K c7)
 (L:K.lookup c3=some ⟨.type "type",x0,.cls y0,z0⟩/\K.lookup c4=some ⟨.type "type",x1,.cls y1,z1⟩/\K.lookup c5=some ⟨.type "type",x2,.cls y2,z2⟩/\K.lookup c6=some ⟨.type "type",x3,.cls y3,z3⟩/\K.lookup c7=some ⟨.type "type",x4,.cls y4,z4⟩)
 (Q:nK K c3 c4/\nK K c3 c5/\nK K c3 c6/\nK K c3 c7/\nK K c4 c3/\nK K c4 c5/\nK K c4 c6/\nK K c4 c7/\nK K c5 c3/\nK K c5 c4/\nK K c5 c6/\nK K c5 c7/\nK K c6 c3/\nK K c6 c4/\nK K c6 c5/\nK K c6 c7/\nK K c7 c3/\nK K c7 c4/\nK K c7 c5/\nK K c7 c6)
 (D:c3≠c4/\c3≠c5/\c3≠c6/\c3≠c7/\c4≠c3/\c4≠c5/\c4≠c6/\c4≠c7/\c5≠c3/\c5≠c4/\c5≠c6/\c5≠c7/\c6≠c3/\c6≠c4/\c6≠c5/\c6≠c7/\c7≠c3/\c7≠c4/\c7≠c5/\c7≠c6)
 (xl:K.lookup c1=some ⟨.type "type",dd,.cls ⟨nm,bs,.ref c1::[.type "ValueError",.type "Exception",.type "BaseException",.type "object"],ns,qn,hd,sn,su,ab,col,false⟩,#[k0,k1,k2,k3,some (.builtin "ValueError.__new__"),k5]⟩)
 (xn:K.lookup ns=some ⟨v2,d2,.dict es ep,s2⟩)
 (xa:(es.toList.all λe=>match e.key with| .str _ _=>true|_=>false)=true)
 (xi:PySem.W.nsIn K ns "__init__"=some none)
 (dis:[c2,c3,c4,c5,c6,c7,c8,c9,c10,c11].Nodup)
 :∃(a:Ad) (d:Fd),Tx K mg a d:=by
 obtain⟨a1,a2,a3,a4,a5,a6,a7,a8,a9,a10,a11,a12,a13,a14,a15,a16,a17,a18,a19,a20,a21,a22,a23,a24,a25,a26,a27,a28,a29,a30,a31,a32,a33,a34,a35,a36,a37,a38,a39,a40,a41,a42,a43,a44,a45,a46,a47,a48,a49,a50,a51,a52,a53,a54,a55,a56,a57,a58,a59,a60,a61,a62,a63,a64,a65,a66,a67⟩:=A;obtain⟨i1,i2,i3,i4,i5,i6,i7,i8,i9,i10,i11,i12,i13,i14,i15,i16,i17,i18,i19,i20,i21,i22,i23,i24,i25,i26,i27,i28,i29,i30,i31,i32,i33,i34,i35,i36⟩:=B;obtain⟨n1,n2,n3,n4,n5,n6,n7,n8,n9,n10,n11,n12,n13,n14⟩:=N;obtain⟨d1,d2,d3,d4,d5,d6,d7,d8,d9,d10⟩:=M;obtain⟨e1,e2,e3,e4,e5,e6,e7,e8,e9,e10,e11,e12,e13,e14,e15,e16,e17,e18,e19,e20,e21,e22,e23,e24⟩:=E;obtain⟨b1,b2,b3,b4,b5,b6,b7,b8,b9,b10⟩:=C;obtain⟨o1,o2,o3,o4,o5,o6,o7,o8,o9,o10,o11,o12,o13,o14,o15,o16,o17,o18,o19,o20,o21,o22,o23,o24⟩:=O;obtain⟨⟨g1,l1⟩,⟨g2,l2⟩,⟨g3,l3⟩,⟨g4,l4⟩,⟨g5,l5⟩,⟨g6,l6⟩,⟨g7,l7⟩,⟨g8,l8⟩,⟨g9,l9⟩,⟨g10,l10⟩,⟨g11,l11⟩,⟨g12,l12⟩,⟨g13,l13⟩,⟨g14,l14⟩,⟨g15,l15⟩,⟨g16,l16⟩,⟨g17,l17⟩,⟨g18,l18⟩,⟨g19,l19⟩,⟨g20,l20⟩,⟨g21,l21⟩,⟨g22,l22⟩,⟨g23,l23⟩,⟨g24,l24⟩,⟨g25,l25⟩,⟨g26,l26⟩,⟨g27,l27⟩,⟨g28,l28⟩,⟨g29,l29⟩,⟨g30,l30⟩,⟨g31,l31⟩,⟨g32,l32⟩,⟨g33,l33⟩,⟨g34,l34⟩,⟨g35,l35⟩,⟨g36,l36⟩,⟨g37,l37⟩,⟨g38,l38⟩,⟨g39,l39⟩,⟨g40,l40⟩,⟨g41,l41⟩,⟨g42,l42⟩,⟨g43,l43⟩,⟨g44,l44⟩,⟨g45,l45⟩,⟨g46,l46⟩,⟨g47,l47⟩,⟨g48,l48⟩,⟨g49,l49⟩,⟨g50,l50⟩,⟨g51,l51⟩,⟨g52,l52⟩,⟨g53,l53⟩,⟨g54,l54⟩,⟨g55,l55⟩,⟨g56,l56⟩,⟨g57,l57⟩,⟨g58,l58⟩,⟨g59,l59⟩,⟨g60,l60⟩,⟨g61,l61⟩,⟨g62,l62⟩,⟨g63,l63⟩,⟨g64,l64⟩,⟨g65,l65⟩,⟨g66,l66⟩,⟨g67,l67⟩,⟨g68,l68⟩,⟨g69,l69⟩,⟨g70,l70⟩,⟨g71,l71⟩,⟨g72,l72⟩,⟨g73,l73⟩,⟨g74,l74⟩,⟨g75,l75⟩,⟨g76,l76⟩,⟨g77,l77⟩,⟨g78,l78⟩,⟨g79,l79⟩,⟨g80,l80⟩,⟨g81,l81⟩,⟨g82,l82⟩,⟨g83,l83⟩,⟨g84,l84⟩,⟨g85,l85⟩,⟨g86,l86⟩,⟨g87,l87⟩,⟨g88,l88⟩,⟨g89,l89⟩,⟨g90,l90⟩⟩:=F;obtain⟨k1,k2,k3,k4,k5⟩:=I;obtain⟨w0,w1,w2,w3,w4⟩:=L;obtain⟨q1,q2,q3,q4,q5,q6,q7,q8,q9,q10,q11,q12,q13,q14,q15,q16,q17,q18,q19,q20⟩:=Q;obtain⟨r1,r2,r3,r4,r5,r6,r7,r8,r9,r10,r11,r12,r13,r14,r15,r16,r17,r18,r19,r20⟩:=D;exact⟨⟨c1,c2,c3,c4,c5,c6,c7,c8,c9,c10,c11,f1,f2,f3,f4,f5,f6,f7,f8,f9,f10,f11,f12,f13,f14,f15,f16,f17,f18,f19,f20,f21,f22,f23,f24,f25,f26,f27,f28,f29,f30,f31,f32,f33,f34,f35,f36,f37,f38,f39,f40,f41,f42,f43,f44,f45,f46,f47,f48,f49,f50,f51,f52,f53,f54,f55,f56,f57,f58,f59,f60,f61,f62,f63,f64,f65,f66,f67,f68,f69,f70,f71,f72,f73,f74,f75,f76,f77,f78,f79,f80,f81,f82,f83,f84,f85,f86,f87,f88,f89,f90⟩,⟨g1,g2,g3,g4,g5,g6,g7,g8,g9,g10,g11,g12,g13,g14,g15,g16,g17,g18,g19,g20,g21,g22,g23,g24,g25,g26,g27,g28,g29,g30,g31,g32,g33,g34,g35,g36,g37,g38,g39,g40,g41,g42,g43,g44,g45,g46,g47,g48,g49,g50,g51,g52,g53,g54,g55,g56,g57,g58,g59,g60,g61,g62,g63,g64,g65,g66,g67,g68,g69,g70,g71,g72,g73,g74,g75,g76,g77,g78,g79,g80,g81,g82,g83,g84,g85,g86,g87,g88,g89,g90⟩,b1,PySem.W.mg_of X G a2,d1,o1,o2,e1,e2,e3,e4,e5,b2,PySem.W.mg_of X G a3,d2,o3,o4,o5,o6,b3,PySem.W.mg_of X G a4,d3,o7,o8,o9,b4,PySem.W.mg_of X G a5,d4,o10,b5,PySem.W.mg_of X G a6,d5,o11,b6,PySem.W.mg_of X G a7,d6,o12,o13,b7,PySem.W.mg_of X G a8,d7,o14,o15,b8,PySem.W.mg_of X G a9,d8,o16,o17,o18,e6,e7,e8,e9,b9,PySem.W.mg_of X G a10,d9,o19,o20,e10,e11,e12,e13,e14,e15,e16,e17,e18,e19,e20,e21,e22,e23,e24,b10,PySem.W.mg_of X G a11,d10,o21,o22,o23,o24,k1,pD,dg w1 q1 r1,dg w2 q2 r2,dg w3 q3 r3,dg w4 q4 r4,k2,dg w0 q5 r5,pD,dg w2 q6 r6,dg w3 q7 r7,dg w4 q8 r8,k3,dg w0 q9 r9,dg w1 q10 r10,pD,dg w3 q11 r11,dg w4 q12 r12,k4,dg w0 q13 r13,dg w1 q14 r14,dg w2 q15 r15,pD,dg w4 q16 r16,k5,dg w0 q17 r17,dg w1 q18 r18,dg w2 q19 r19,dg w3 q20 r20,pD,PySem.W.mg_of X G a1,⟨JE xl xn xa xi (by simp),PySem.F.excBase_ValueError⟩,l1,l1.binds λ_ _ _ _ _ _ u v=>match u,v with|[_,_],_=>rfl,l2,l2.binds λ_ _ _ _ _ _ u v=>match u,v with|[_,_,_],_=>rfl,l3,l3.binds λ_ _ _ _ _ _ u v=>match u,v with|[_],_=>rfl,l4,l4.binds λ_ _ _ _ _ _ u v=>match u,v with|[_],_=>rfl,l5,l5.binds λ_ _ _ _ _ _ u v=>match u,v with|[_,_],_=>rfl,l6,l6.binds λ_ _ _ _ _ _ u v=>match u,v with|[_],_=>rfl,l7,l7.binds λ_ _ _ _ _ _ u v=>match u,v with|[_,_,_,_,_],_=>rfl,l8,l8.binds λ_ _ _ _ _ _ u v=>match u,v with|[_,_,_,_],_=>rfl,l9,l9.binds λ_ _ _ _ _ _ u v=>match u,v with|[_,_],_=>rfl,l10,l10.binds λ_ _ _ _ _ _ u v=>match u,v with|[_,_],_=>rfl,l11,l11.binds λ_ _ _ _ _ _ u v=>match u,v with|[_,_,_],_=>rfl,l12,l12.binds λ_ _ _ _ _ _ u v=>match u,v with|[_],_=>rfl,PySem.W.mg_of X G a12,l13,l13.binds λ_ _ _ _ _ _ u v=>match u,v with|[_],_=>rfl,PySem.W.mg_of X G a13,l14,l14.binds λ_ _ _ _ _ _ u v=>match u,v with|[_],_=>rfl,PySem.W.mg_of X G a14,l15,l15.binds λ_ _ _ _ _ _ u v=>match u,v with|[_],_=>rfl,PySem.W.mg_of X G a15,l16,l16.binds λ_ _ _ _ _ _ u v=>match u,v with|[_],_=>rfl,PySem.W.mg_of X G a16,l17,l17.binds λ_ _ _ _ _ _ u v=>match u,v with|[_],_=>rfl,PySem.W.mg_of X G a17,l18,l18.binds λ_ _ _ _ _ _ u v=>match u,v with|[_],_=>rfl,PySem.W.mg_of X G a18,l19,l19.binds λ_ _ _ _ _ _ u v=>match u,v with|[_,_],_=>rfl,PySem.W.mg_of X G a19,l20,l20.binds λ_ _ _ _ _ _ u v=>match u,v with|[_],_=>rfl,PySem.W.mg_of X G a20,l21,l21.binds λ_ _ _ _ _ _ u v=>match u,v with|[_],_=>rfl,PySem.W.mg_of X G a21,l22,l22.binds λ_ _ _ _ _ _ u v=>match u,v with|[_,_],_=>rfl,PySem.W.mg_of X G a22,l23,l23.binds λ_ _ _ _ _ _ u v=>match u,v with|[_,_],_=>rfl,PySem.W.mg_of X G a23,l24,l24.binds λ_ _ _ _ _ _ u v=>match u,v with|[_,_],_=>rfl,PySem.W.mg_of X G a24,l25,l25.binds λ_ _ _ _ _ _ u v=>match u,v with|[_,_],_=>rfl,PySem.W.mg_of X G a25,l26,l26.binds λ_ _ _ _ _ _ u v=>match u,v with|[_,_],_=>rfl,PySem.W.mg_of X G a26,l27,l27.binds λ_ _ _ _ _ _ u v=>match u,v with|[_,_],_=>rfl,PySem.W.mg_of X G a27,l28,l28.binds λ_ _ _ _ _ _ u v=>match u,v with|[_,_],_=>rfl,PySem.W.mg_of X G a28,l29,l29.binds λ_ _ _ _ _ _ u v=>match u,v with|[_,_],_=>rfl,PySem.W.mg_of X G a29,l30,l30.binds λ_ _ _ _ _ _ u v=>match u,v with|[_],_=>rfl,PySem.W.mg_of X G a30,l31,l31.binds λ_ _ _ _ _ _ u v=>match u,v with|[_],_=>rfl,PySem.W.mg_of X G a31,l32,l32.binds λ_ _ _ _ _ _ u v=>match u,v with|[_,_],_=>rfl,PySem.W.mg_of X G a32,l33,l33.binds λ_ _ _ _ _ _ u v=>match u,v with|[_,_],_=>rfl,PySem.W.mg_of X G a33,l34,l34.binds λ_ _ _ _ _ _ u v=>match u,v with|[_,_],_=>rfl,PySem.W.mg_of X G a34,l35,l35.binds λ_ _ _ _ _ _ u v=>match u,v with|[_,_],_=>rfl,PySem.W.mg_of X G a35,l36,l36.binds λ_ _ _ _ _ _ u v=>match u,v with|[_,_,_],_=>rfl,l37,l37.binds λ_ _ _ _ _ _ u v=>match u,v with|[_],_=>rfl,PySem.W.mg_of X G a36,l38,l38.binds λ_ _ _ _ _ _ u v=>match u,v with|[_,_],_=>rfl,PySem.W.mg_of X G a37,l39,l39.binds λ_ _ _ _ _ _ u v=>match u,v with|[_],_=>rfl,PySem.W.mg_of X G a38,l40,l40.binds λ_ _ _ _ _ _ u v=>match u,v with|[_],_=>rfl,PySem.W.mg_of X G a39,l41,l41.binds λ_ _ _ _ _ _ u v=>match u,v with|[_,_],_=>rfl,PySem.W.mg_of X G a40,l42,l42.binds λ_ _ _ _ _ _ u v=>match u,v with|[_,_],_=>rfl,PySem.W.mg_of X G a41,l43,l43.binds λ_ _ _ _ _ _ u v=>match u,v with|[_,_],_=>rfl,PySem.W.mg_of X G a42,l44,l44.binds λ_ _ _ _ _ _ u v=>match u,v with|[_,_],_=>rfl,PySem.W.mg_of X G a43,l45,l45.binds λ_ _ _ _ _ _ u v=>match u,v with|[_,_],_=>rfl,PySem.W.mg_of X G a44,l46,l46.binds λ_ _ _ _ _ _ u v=>match u,v with|[_],_=>rfl,PySem.W.mg_of X G a45,l47,l47.binds λ_ _ _ _ _ _ u v=>match u,v with|[_],_=>rfl,PySem.W.mg_of X G a46,l48,l48.binds λ_ _ _ _ _ _ u v=>match u,v with|[_,_],_=>rfl,PySem.W.mg_of X G a47,l49,l49.binds λ_ _ _ _ _ _ u v=>match u,v with|[_,_],_=>rfl,PySem.W.mg_of X G a48,l50,l50.binds λ_ _ _ _ _ _ u v=>match u,v with|[_,_],_=>rfl,PySem.W.mg_of X G a49,l51,l51.binds λ_ _ _ _ _ _ u v=>match u,v with|[_,_],_=>rfl,PySem.W.mg_of X G a50,l52,l52.binds λ_ _ _ _ _ _ u v=>match u,v with|[_,_],_=>rfl,PySem.W.mg_of X G a51,l53,l53.binds λ_ _ _ _ _ _ u v=>match u,v with|[_,_],_=>rfl,PySem.W.mg_of X G a52,l54,l54.binds λ_ _ _ _ _ _ u v=>match u,v with|[_,_],_=>rfl,PySem.W.mg_of X G a53,l55,l55.binds λ_ _ _ _ _ _ u v=>match u,v with|[_,_,_],_=>rfl,PySem.W.mg_of X G a54,l56,l56.binds λ_ _ _ _ _ _ u v=>match u,v with|[_,_],_=>rfl,PySem.W.mg_of X G a55,l57,l57.binds λ_ _ _ _ _ _ u v=>match u,v with|[_],_=>rfl,PySem.W.mg_of X G a56,l58,l58.binds λ_ _ _ _ _ _ u v=>match u,v with|[_,_],_=>rfl,l59,l59.binds λ_ _ _ _ _ _ u v=>match u,v with|[_],_=>rfl,l60,l60.binds λ_ _ _ _ _ _ u v=>match u,v with|[_,_,_],_=>rfl,l61,l61.binds λ_ _ _ _ _ _ u v=>match u,v with|[_,_],_=>rfl,l62,l62.binds λ_ _ _ _ _ _ u v=>match u,v with|[_,_],_=>rfl,l63,l63.binds λ_ _ _ _ _ _ u v=>match u,v with|[_],_=>rfl,l64,l64.binds λ_ _ _ _ _ _ u v=>match u,v with|[_,_],_=>rfl,l65,l65.binds λ_ _ _ _ _ _ u v=>match u,v with|[_,_,_],_=>rfl,l66,l66.binds λ_ _ _ _ _ _ u v=>match u,v with|[_],_=>rfl,l67,l67.binds λ_ _ _ _ _ _ u v=>match u,v with|[_],_=>rfl,l68,l68.binds λ_ _ _ _ _ _ u v=>match u,v with|[_,_],_=>rfl,l69,l69.binds λ_ _ _ _ _ _ u v=>match u,v with|[_,_],_=>rfl,l70,l70.binds λ_ _ _ _ _ _ u v=>match u,v with|[_],_=>rfl,l71,l71.binds λ_ _ _ _ _ _ u v=>match u,v with|[_],_=>rfl,l72,l72.binds λ_ _ _ _ _ _ u v=>match u,v with|[_,_],_=>rfl,l73,l73.binds λ_ _ _ _ _ _ u v=>match u,v with|[_],_=>rfl,l74,l74.binds λ_ _ _ _ _ _ u v=>match u,v with|[_,_],_=>rfl,l75,l75.binds λ_ _ _ _ _ _ u v=>match u,v with|[_],_=>rfl,l76,l76.binds λ_ _ _ _ _ _ u v=>match u,v with|[_,_],_=>rfl,l77,l77.binds λ_ _ _ _ _ _ u v=>match u,v with|[_,_],_=>rfl,l78,l78.binds λ_ _ _ _ _ _ u v=>match u,v with|[_,_],_=>rfl,l79,l79.binds λ_ _ _ _ _ _ u v=>match u,v with|[_,_,_,_,_],_=>rfl,l80,l80.binds λ_ _ _ _ _ _ u v=>match u,v with|[_],_=>rfl,PySem.W.mg_of X G a57,l81,l81.binds λ_ _ _ _ _ _ u v=>match u,v with|[_,_],_=>rfl,PySem.W.mg_of X G a58,l82,l82.binds λ_ _ _ _ _ _ u v=>match u,v with|[_],_=>rfl,PySem.W.mg_of X G a59,l83,l83.binds λ_ _ _ _ _ _ u v=>match u,v with|[_],_=>rfl,PySem.W.mg_of X G a60,l84,l84.binds λ_ _ _ _ _ _ u v=>match u,v with|[_,_],_=>rfl,PySem.W.mg_of X G a61,l85,l85.binds λ_ _ _ _ _ _ u v=>match u,v with|[_,_],_=>rfl,PySem.W.mg_of X G a62,l86,l86.binds λ_ _ _ _ _ _ u v=>match u,v with|[_,_,_],_=>rfl,PySem.W.mg_of X G a63,l87,l87.binds λ_ _ _ _ _ _ u v=>match u,v with|[_,_,_],_=>rfl,PySem.W.mg_of X G a64,l88,l88.binds λ_ _ _ _ _ _ u v=>match u,v with|[_,_],_=>rfl,PySem.W.mg_of X G a65,l89,l89.binds λ_ _ _ _ _ _ u v=>match u,v with|[_,_],_=>rfl,PySem.W.mg_of X G a66,l90,l90.binds λ_ _ _ _ _ _ u v=>match u,v with|[_],_=>rfl,PySem.W.mg_of X G a67,dis,⟨_,PySem.W.mg_of X G i1⟩,⟨_,PySem.W.mg_of X G i2⟩,⟨_,PySem.W.mg_of X G i3⟩,⟨_,PySem.W.mg_of X G i4⟩,⟨_,PySem.W.mg_of X G i5⟩,⟨_,PySem.W.mg_of X G i6⟩,⟨_,PySem.W.mg_of X G i7⟩,⟨_,PySem.W.mg_of X G i8⟩,⟨_,PySem.W.mg_of X G i9⟩,⟨_,PySem.W.mg_of X G i10⟩,⟨_,PySem.W.mg_of X G i11⟩,⟨_,PySem.W.mg_of X G i12⟩,⟨_,PySem.W.mg_of X G i13⟩,⟨_,PySem.W.mg_of X G i14⟩,⟨_,PySem.W.mg_of X G i15⟩,⟨_,PySem.W.mg_of X G i16⟩,⟨_,PySem.W.mg_of X G i17⟩,⟨_,PySem.W.mg_of X G i18⟩,⟨_,PySem.W.mg_of X G i19⟩,⟨_,PySem.W.mg_of X G i20⟩,⟨_,PySem.W.mg_of X G i21⟩,⟨_,PySem.W.mg_of X G i22⟩,⟨_,PySem.W.mg_of X G i23⟩,⟨_,PySem.W.mg_of X G i24⟩,⟨_,PySem.W.mg_of X G i25⟩,⟨_,PySem.W.mg_of X G i26⟩,⟨_,PySem.W.mg_of X G i27⟩,⟨_,PySem.W.mg_of X G i28⟩,⟨_,PySem.W.mg_of X G i29⟩,⟨_,PySem.W.mg_of X G i30⟩,⟨_,PySem.W.mg_of X G i31⟩,⟨_,PySem.W.mg_of X G i32⟩,⟨_,PySem.W.mg_of X G i33⟩,⟨_,PySem.W.mg_of X G i34⟩,⟨_,PySem.W.mg_of X G i35⟩,⟨_,PySem.W.mg_of X G i36⟩,PySem.W.mg_none_of X G n1,PySem.W.mg_none_of X G n2,PySem.W.mg_none_of X G n3,PySem.W.mg_none_of X G n4,PySem.W.mg_none_of X G n5,PySem.W.mg_none_of X G n6,PySem.W.mg_none_of X G n7,PySem.W.mg_none_of X G n8,PySem.W.mg_none_of X G n9,PySem.W.mg_none_of X G n10,PySem.W.mg_none_of X G n11,PySem.W.mg_none_of X G n12,PySem.W.mg_none_of X G n13,PySem.W.mg_none_of X G n14⟩
end PR
open PySem PySem.W PyProof.Rows
def spT (K:PySem.W.Frag):L2.Sp:=λvs H Q _=>∃(a:Addr) (ns:List Int),vs=[.ref a]/\L2.ak K H a (ns.map L2.V.int)/\ns.length<=17000/\PyVapatc.answers_asked ns=true/\∀(H':L2.Hp) (p:Addr),H' p=some (.lst ((PyVapatc.answers ns).map L2.V.int))->Q (.ref p) H'
set_option maxRecDepth 100000 in
set_option maxHeartbeats 0 in
theorem PySem.Challenge.cw_patchrows_s01_answers_holds : PySem.Challenge.rw_patchrows_s01_answers.Holds := by
 w_on;k_headS;(case hw=>exact⟨[.list [.int 2]],by decide+kernel,by decide+kernel⟩)
 k_fillS
 refine L2.Tv (r:=PySem.Challenge.rw_patchrows_s01_answers) (k:=40) (CX:=L2.aL) (ps:=["calls"]) (sp:=spT) (by decide+kernel) rfl rfl ⟨rfl,by decide,by decide⟩ (λw h Y=>PySem.W.kIn_of Y) ?F ?S (λ_ _ _ _ z=>z)
 case F=>
  intro w mg fa h Y KX G hmg;have T:∃(a:PR.Ad) (d:PR.Fd),PR.Tx (L2.Aw KX) mg a d:=by
   dsimp only[L2.Aw]
   refine' PR.Tf KX G ?tqA ?tqB ?tqN ?tqM ?tqE ?tqC ?tqO ?tqF ?tqI ?tqL ?tqQ ?tqD ?tqxl ?tqxn ?tqxa ?tqxi ?tqdis
   case tqA=>
    dsimp only[PR.nG]
    repeat' apply And.intro
    all_goals k_is
   case tqB=>
    dsimp only[PR.nI]
    repeat' apply And.intro
    all_goals k_is
   case tqN=>
    dsimp only[PR.nN]
    repeat' apply And.intro
    all_goals k_is
   case tqM=>
    repeat' apply And.intro
    all_goals constructor<;>k_is
   case tqE=>
    repeat' apply And.intro
    all_goals constructor<;>k_is
   case tqC=>
    repeat' apply And.intro
    all_goals constructor<;>k_is
   case tqO=>
    dsimp only[L2.aZ]
    repeat' apply And.intro
    all_goals k_is
   case tqF=>
    repeat' apply And.intro
    all_goals (apply PR.fx;k_is;k_is;k_is)
   case tqI=>
    repeat' apply And.intro
    all_goals constructor<;>k_is
   case tqL=>
    repeat' apply And.intro
    all_goals k_is
   case tqQ=>
    dsimp only[PR.nK]
    repeat' apply And.intro
    all_goals k_is
   case tqD=>decide
   case tqxl=>k_is
   case tqxn=>k_is
   case tqxa=>rfl
   case tqxi=>k_is
   case tqdis=>decide
  obtain⟨a,d,T⟩:=T;have e0:=hmg.symm.trans T.MV;cases e0
  refine'⟨d.answers,?tqb,λbase kb nb=>(PR.Oq T).mono (by decide)⟩
  obtain⟨oc,od,kV,doc,pm,an,cdv,ct,osl,hf,_⟩:=T.Cj.ex;rw[hf];exact λs us hu=>match us,hu with|[_],_=> .of_eq rfl
 case S=>
  intro K H xs a hO hwi hask hx;cases hx with
  |cons h1 h2=>
   cases h2;cases h1 with
   |lst hs ha=>
    have e:=L2.Dj a.1 _ ha;subst e;have q:((Codec.inLen 0 17000 a.1&&a.1.all (Codec.inInt _ _))&&true)=true:=hwi;rw[Bool.and_eq_true,Bool.and_eq_true] at q;exact⟨_,a.1,rfl,hs,(Codec.inNat_iff.mp q.1.1).2,hask,λH' p hp=> .lst (L2.ak.of hp) (L2.B2 _)⟩
