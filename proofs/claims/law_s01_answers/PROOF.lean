import PyProof.Rows.All
import Wide.All
import OpenK.AllK
import Wide.FinOn
import PyProof.EqAt
import PyProof.EqKinds
import PyProof.TupleCall
import Open.SpecLaws
import KE.OsHead
import KE.OsGo
import PySem.Challenge.RW_seatnetwork_s01_answers
set_option Elab.async false
set_option linter.all false
section
universe u v
theorem gDe{α:Type u}{l:List α}{i:Nat}{a:α}:l.getD i a=l[i]?.getD a:=List.getD_eq_getElem?_getD
theorem lmp{α:Type u}{β:Type v}{as:List α}(f:α->β):(as.map f).length=as.length:=List.length_map f
theorem gEe{α:Type u}{l:List α}{i:Nat}(h:i<l.length):l[i]?=some l[i]:=List.getElem?_eq_getElem h
end

section
set_option maxRecDepth 100000
namespace L2
open PySem PySem.Spec PyProof.Rows
abbrev Key:=Sum Int Str
def keyIs:Key->Value->Bool
 | .inl k,v=>Value.isInt k v
 | .inr x,v=>Value.isStrOf x v
def keyH(w:World):Key->Int
 | .inl k=>hashInt k
 | .inr x=>hashStr w x
theorem keyIs_shape:∀ {k:Key} {v:Value},keyIs k v=true->(∃ i t,k=Sum.inl i/\v=Value.int i t)\/(∃ x t,k=Sum.inr x/\v=Value.str x t)
 | .inl i,v,h=>by
  obtain⟨t,e⟩:=Value.isInt_shape (k:=i) (v:=v) h;exact .inl ⟨i,t,rfl,e⟩
 | .inr x,v,h=>by
  obtain⟨t,e⟩:=Value.isStrOf_shape (x:=x) (v:=v) h;exact .inr ⟨x,t,rfl,e⟩
theorem keyIs_int(i:Int)(t:Tok):keyIs (.inl i) (.int i t)=true:=by simp[keyIs,Value.isInt]
theorem key_ll(a b:Int):decide ((Sum.inl a:Key)=Sum.inl b)=(a==b):=by
 by_cases e:a=b
 ·subst e;simp
 ·have h:¬(Sum.inl a:Key)=Sum.inl b:=fun q=>e (Sum.inl.inj q);rw[decide_eq_false h];exact(beq_eq_false_iff_ne.mpr e).symm
theorem key_rr(a b:Str):decide ((Sum.inr a:Key)=Sum.inr b)=decide (a=b):=by
 by_cases e:a=b
 ·subst e;simp
 ·have h:¬(Sum.inr a:Key)=Sum.inr b:=fun q=>e (Sum.inr.inj q);rw[decide_eq_false h,decide_eq_false e]
theorem key_lr(a:Int)(b:Str):decide ((Sum.inl a:Key)=Sum.inr b)=false:=decide_eq_false (fun q=>nomatch q)
theorem key_rl(a:Str)(b:Int):decide ((Sum.inr a:Key)=Sum.inl b)=false:=decide_eq_false (fun q=>nomatch q)
def mixKind(prog:Program)(w:World):PySem.KeyKind prog w Key where
 is:=keyIs
 hash:=keyH w
 inj:=fun v a b ha hb=>by
  rcases keyIs_shape ha with ⟨i,t,rfl,rfl⟩ | ⟨x,t,rfl,rfl⟩
  ·rcases keyIs_shape hb with ⟨j,u,rfl,e⟩ | ⟨y,u,rfl,e⟩
   ·injection e with e1 _;rw[e1]
   ·exact nomatch e
  ·rcases keyIs_shape hb with ⟨j,u,rfl,e⟩ | ⟨y,u,rfl,e⟩
   ·exact nomatch e
   ·injection e with e1 _;rw[e1]
 byValue:=fun k v h=>by
  rcases keyIs_shape h with ⟨i,t,rfl,rfl⟩ | ⟨x,t,rfl,rfl⟩<;>rfl
 pyHash:=fun hv h=>by
  rcases keyIs_shape hv with ⟨i,t,rfl,rfl⟩ | ⟨x,t,rfl,rfl⟩
  ·exact wpAny_pyHash_int h
  ·exact wpAny_pyHash_str h
 eqBool:=fun hu hv h=>by
  rcases keyIs_shape hu with ⟨i,t,rfl,rfl⟩ | ⟨x,t,rfl,rfl⟩
  ·rcases keyIs_shape hv with ⟨j,u,rfl,rfl⟩ | ⟨y,u,rfl,rfl⟩
   ·rw[key_ll] at h;exact wpAny_eqBool_int h
   ·rw[key_lr] at h;exact SeqAt.EqAt.int_str i t y u _ _ _ _ h
  ·rcases keyIs_shape hv with ⟨j,u,rfl,rfl⟩ | ⟨y,u,rfl,rfl⟩
   ·rw[key_rl] at h;exact SeqAt.EqAt.str_int x t j u _ _ _ _ h
   ·rw[key_rr] at h;exact wpAny_eqBool_str h
 «strs»:=fun k x t v h=>by
  rcases keyIs_shape h with ⟨i,u,rfl,e⟩ | ⟨y,u,rfl,e⟩
  ·exact nomatch e
  ·injection e with e1 _;subst e1;cases v<;>rfl
theorem mixKind_int(prog:Program)(w:World)(i:Int)(t:Tok):(mixKind prog w).is (.inl i) (.int i t)=true:=keyIs_int i t
end L2
namespace L2
open PySem PySem.Spec PyProof.Rows
inductive V where
 | non | bl (b:Bool) | int (i:Int) | str (x:Str) | byt (b:Array UInt8) | flt (b:UInt64) | ref (a:Addr) | ty (n:String)
 deriving DecidableEq
def RelV:V->Value->Prop
 | .non,u=>u=Value.none
 | .bl b,u=>u=Value.bool b
 | .int i,u=>∃ t,u=Value.int i t
 | .str x,u=>∃ t,u=Value.str x t
 | .byt b,u=>∃ t,u=Value.bytes b t
 | .flt b,u=>∃ t,u=Value.float b t
 | .ref a,u=>u=Value.ref a
 | .ty n,u=>u=Value.type n
abbrev Vals:List V->List Value->Prop:=Paired RelV
theorem Vals.length{xs:List V}{us:List Value}(r:Vals xs us):xs.length=us.length:=Paired.length r
theorem Vals.get:∀ {xs:List V} {us:List Value} {i:Nat} {x:V},Vals xs us->xs[i]?=some x->∃ u,us[i]?=some u/\RelV x u
 | _,_,_,_,.nil,e=>by simp at e
 | _,_,0,_,.cons r _,e=>by simp at e;subst e;exact⟨_,rfl,r⟩
 | _,_,i+1,x,.cons _ t,e=>by
  obtain⟨u,h1,h2⟩:=Vals.get (i:=i) (x:=x) t (by simpa using e);exact⟨u,by simpa using h1,h2⟩
theorem Vals.set{x:V}{u:Value}(r:RelV x u):∀ {xs:List V} {us:List Value} (i:Nat),Vals xs us->Vals (xs.set i x) (us.set i u)
 | _,_,_,.nil=>.nil
 | _,_,0,.cons _ t=>.cons r t
 | _,_,i+1,.cons q t=>.cons q (Vals.set r i t)
theorem Vals.append:∀ {xs ys:List V} {us ws:List Value},Vals xs us->Vals ys ws->Vals (xs++ys) (us++ws)
 | _,_,_,_,.nil,s=>s
 | _,_,_,_,.cons r t,s=>.cons r (Vals.append t s)
theorem Vals.take:∀ {xs:List V} {us:List Value} (n:Nat),Vals xs us->Vals (xs.take n) (us.take n)
 | _,_,0,_=>.nil
 | _,_,_+1,.nil=>.nil
 | _,_,n+1,.cons r t=>.cons r (Vals.take n t)
theorem Vals.drop:∀ {xs:List V} {us:List Value} (n:Nat),Vals xs us->Vals (xs.drop n) (us.drop n)
 | _,_,0,r=>r
 | _,_,_+1,.nil=>.nil
 | _,_,n+1,.cons _ t=>Vals.drop n t
def RelO:Option V->Option Value->Prop
 | some v,some u=>RelV v u
 | none,none=>True
 | _,_=>False
def KV{κ:Type}:List (κ×V)->List (κ×Value)->Prop:=Paired fun(p:κ×V) (q:κ×Value)=>p.1=q.1/\RelV p.2 q.2
def kV:Key->V
 | .inl i=>.int i
 | .inr x=>.str x
inductive HO where
 | lst (xs:List V)
 | tup (xs:List V)
 | dK (kvs:List (Key×V)) | dT (kvs:List (List Key×V))
 | set (S:Int->Bool) (n:Nat)
 | ins (C dx:Addr) (fs:List (Str×V))
 | own (x:Addr)
 | xd (fs:List (Str×V))
 | met (f x:Addr)
 | rng (lo hi:Int)
 | frz (o:Obj) (u:HO)
 | tbl (ps:Array Value)
 | ext (φ:Heap->Prop)
abbrev Hp:=Addr->Option HO
def upd(H:Hp)(a:Addr)(o:HO):Hp:=fun b=>if b=a then some o else H b
theorem upd_same{H:Hp}{a:Addr}{o:HO}:upd H a o a=some o:=by unfold upd;rw[if_pos rfl]
theorem upd_ne{H:Hp}{a b:Addr}{o:HO}(h:b≠a):upd H a o b=H b:=by unfold upd;rw[if_neg h]
theorem ne_of{H:Hp}{a b:Addr}{o u:HO}(h:H a=some o)(h':H b=some u)(d:o≠u):a≠b:=by
 intro e;subst e;rw[h] at h';exact d (Option.some.inj h')
theorem ne_of_none{H:Hp}{a b:Addr}{o:HO}(h:H a=some o)(h':H b=none):a≠b:=by
 intro e;subst e;rw[h] at h';cases h'
section
variable(P:Program)(w:World)
def ObjOk(H:Hp)(h:Heap)(a:Addr):HO->Prop
 | .lst xs=>xs.length<=sizeLine/\∃ (its:List Value) (n:Nat),Vals xs its/\h.get? a=some {cls:=.type "list",data:=.seq its.toArray n}
 | .tup xs=>xs.length<=sizeLine/\∃ its:List Value,Vals xs its/\IsTup h a its.toArray
 | .dK kvs=>kvs.length<=sizeLine/\(a==sysModules)=false/\∃ vs,KV kvs vs/\h.DictOf (mixKind P w) a vs
 | .dT kvs=>kvs.length<=sizeLine/\(a==sysModules)=false/\∃ xs:List (List Key×Addr×Value),
   Paired (fun(p:List Key×V) (q:List Key×Addr×Value)=>p.1=q.1/\H q.2.1=some (.tup (p.1.map kV))/\RelV p.2 q.2.2) kvs xs/\
   ∃ o es ep,h.get? a=some o/\o.ExactDict/\o.data=.dict es ep/\es.toList=xs.map (entryOfKey (tupleKind (mixKind P w)))/\(xs.map (·.1)).Nodup
 | .set S n=>h.SetOf (intKind P w) a S n
 | .ins C dx fs=>H dx=some (.own a)/\fs.length<=1000/\dx≠a/\h.get? a=some (PySem.W.instObj C dx)/\
   ∃ mA,h.Ns1 dx mA/\(∀ f,RelO (fs.lookup f) (mA f))/\PySem.Within mA (fs.map (·.1))
 | .own _=>∃ o,h.get? a=some o
 | .xd fs=>∃ mA,h.Ns1 a mA/\∀ f,RelO (fs.lookup f) (mA f)
 | .rng lo hi=>∃ t u v,h.get? a=some {cls:=.type "range",data:=.fields #[.int lo t,.int hi u,.int 1 v]}
 | .frz o u=>h.get? a=some o/\ObjOk H h a u
 | .tbl ps=>h.get? a=some {cls:=.none,data:=.fields ps}
 | .met f x=>h.get? a=some (PySem.W.methodObj (.ref f) (.ref x))
 | .ext φ=>φ h/\(∃ o,h.get? a=some o)/\∀ h1 h2:Heap,φ h1->(∀ o,h1.get? a=some o->h2.get? a=some o)->φ h2
def HOk(H:Hp)(h:Heap):Prop:=∀ a o,H a=some o->ObjOk P w H h a o
end
section
variable{P:Program}{w:World}{H H':Hp}{h h':Heap}{a:Addr}{o:HO}
theorem ObjOk.lt(x:ObjOk P w H h a o):a<h.objs.size:=by
 cases o with
 | lst xs=>obtain⟨_,_,_,_,e⟩:=x;exact Heap.lt_size e
 | tup xs=>obtain⟨_,_,_,p⟩:=x;exact p.lt
 | dK kvs=>obtain⟨_,_,_,_,o,_,_,e,_⟩:=x;exact Heap.lt_size e
 | dT kvs=>obtain⟨_,_,_,_,o,_,_,e,_⟩:=x;exact Heap.lt_size e
 | set S n=>obtain⟨o,_,_,_,e,_⟩:=x;exact Heap.lt_size e
 | ins C dx fs=>obtain⟨_,_,_,e,_⟩:=x;exact Heap.lt_size e
 | own y=>obtain⟨_,e⟩:=x;exact Heap.lt_size e
 | xd fs=>obtain⟨_,⟨_,_,_,e,_⟩,_⟩:=x;exact Heap.lt_size e
 | rng lo hi=>obtain⟨_,_,_,e⟩:=x;exact Heap.lt_size e
 | frz ob u=>obtain⟨e,_⟩:=x;exact Heap.lt_size e
 | tbl ps=>exact Heap.lt_size (show h.get? a=some _ from x)
 | met f y=>exact Heap.lt_size (show h.get? a=some _ from x)
 | ext φ=>obtain⟨_,⟨_,e⟩,_⟩:=x;exact Heap.lt_size e
theorem Paired.mapP{α β:Type}{F G:α->β->Prop}:∀ {l₁:List α} {l₂:List β},Paired F l₁ l₂->(∀ a b,F a b->G a b)->Paired G l₁ l₂
 | _,_,.nil,_=>.nil
 | _,_,.cons r t,f=>.cons (f _ _ r) (Paired.mapP t f)
theorem ObjOk.stay(x:ObjOk P w H h a o)(k:∀ b u,(b=a\/H b=some (.own a))->h.get? b=some u->h'.get? b=some u)(ho:∀ b,H b=some (.own a)->H' b=some (.own a))(ht:∀ b xs,H b=some (.tup xs)->H' b=some (.tup xs)):ObjOk P w H' h' a o:=by
 induction o with
 | lst xs=>obtain⟨z,its,n,r,e⟩:=x;exact⟨z,its,n,r,k _ _ (.inl rfl) e⟩
 | tup xs=>obtain⟨z,its,r,ob,e,c⟩:=x;exact⟨z,its,r,ob,k _ _ (.inl rfl) e,c⟩
 | dK kvs=>obtain⟨z,y,vs,r,ob,es,ep,e,c⟩:=x;exact⟨z,y,vs,r,ob,es,ep,k _ _ (.inl rfl) e,c⟩
 | dT kvs=>
  obtain⟨z,y,xs,r,ob,es,ep,e,c⟩:=x;exact⟨z,y,xs,Paired.mapP r fun p q z=>⟨z.1,ht _ _ z.2.1,z.2.2⟩,ob,es,ep,k _ _ (.inl rfl) e,c⟩
 | set S n=>obtain⟨ob,es,ep,t,e,c⟩:=x;exact⟨ob,es,ep,t,k _ _ (.inl rfl) e,c⟩
 | ins C dx fs=>
  obtain⟨d,z,ne,e,mA,⟨od,es,ep,e2,c⟩,r⟩:=x;exact⟨ho _ d,z,ne,k _ _ (.inl rfl) e,mA,⟨od,es,ep,k _ _ (.inr d) e2,c⟩,r⟩
 | own y=>obtain⟨ob,e⟩:=x;exact⟨ob,k _ _ (.inl rfl) e⟩
 | xd fs=>obtain⟨mA,⟨od,es,ep,e,c⟩,r⟩:=x;exact⟨mA,⟨od,es,ep,k _ _ (.inl rfl) e,c⟩,r⟩
 | rng lo hi=>obtain⟨t,u,v,e⟩:=x;exact⟨t,u,v,k _ _ (.inl rfl) e⟩
 | frz ob u ih=>obtain⟨e,q⟩:=x;exact⟨k _ _ (.inl rfl) e,ih q⟩
 | tbl ps=>
  have e:h.get? a=some {cls:=.none,data:=.fields ps}:=x;show h'.get? a=some {cls:=.none,data:=.fields ps};exact k a _ (.inl rfl) e
 | met f y=>
  have e:h.get? a=some (PySem.W.methodObj (.ref f) (.ref y)):=x;show h'.get? a=some (PySem.W.methodObj (.ref f) (.ref y));exact k a _ (.inl rfl) e
 | ext φ=>obtain⟨p,⟨o,e⟩,st⟩:=x;exact⟨st _ _ p fun o q=>k _ _ (.inl rfl) q,⟨o,k _ _ (.inl rfl) e⟩,st⟩
theorem HOk.lt(x:HOk P w H h)(e:H a=some o):a<h.objs.size:=(x a o e).lt
theorem HOk.fresh(x:HOk P w H h)(e:h.objs.size<=a):H a=none:=by
 cases q:H a with
 | none=>rfl
 | some u=>exact absurd (Nat.lt_of_lt_of_le (x.lt q) e) (Nat.lt_irrefl _)
theorem HOk.kept(x:HOk P w H h)(k:∀ b u,h.get? b=some u->h'.get? b=some u):HOk P w H h':=fun a o e=>
 (x a o e).stay (fun b u _ q=>k b u q) (fun _ q=>q) fun _ _ q=>q
theorem HOk.laid(x:HOk P w H h)(k:∀ b u,h.get? b=some u->h'.get? b=some u)(hp:h.objs.size<=a)(new:ObjOk P w (upd H a o) h' a o):HOk P w (upd H a o) h':=fun b u e=>by
 have hn:=x.fresh hp;by_cases hb:b=a
 ·subst hb;rw[upd_same] at e;cases e;exact new
 ·rw[upd_ne hb] at e;exact(x b u e).stay (fun c v _ q=>k c v q) (fun c q=>by rw[upd_ne (ne_of_none q hn)];exact q) fun c xs q=>by rw[upd_ne (ne_of_none q hn)];exact q
end
def Rd(H:Hp)(a:Addr)(u:HO):Prop:=H a=some u\/∃ o,H a=some (.frz o u)
theorem Rd.ok{P:Program}{w:World}{H:Hp}{h:Heap}{a:Addr}{u:HO}(r:Rd H a u)(x:HOk P w H h):ObjOk P w H h a u:=by
 rcases r with r | ⟨o,r⟩
 ·exact x a u r
 ·obtain⟨_,q⟩:=x a _ r;exact q
def Mut:Option HO->Prop
 | some (.lst _)=>True
 | some (.dK _)=>True
 | some (.dT _)=>True
 | some (.set _ _)=>True
 | some (.ins _ _ _)=>True
 | some (.ext _)=>True
 | _=>False
section
variable{P:Program}{w:World}{H:Hp}{h h':Heap}{x e:Addr}{o':HO}
theorem HOk.write(ok:HOk P w H h)(mu:Mut (H x))(he:e=x\/H e=some (.own x))(k:∀ b u,b≠e->h.get? b=some u->h'.get? b=some u)(heo:∃ u,h'.get? e=some u)(new:ObjOk P w (upd H x o') h' x o'):HOk P w (upd H x o') h':=fun b u q=>by
 have nown:∀ c y,H c=some (.own y)->c≠x:=fun c y r z=>by subst z;rw[r] at mu;exact mu
 have ntup:∀ c xs,H c=some (.tup xs)->c≠x:=fun c xs r z=>by subst z;rw[r] at mu;exact mu
 by_cases hb:b=x
 ·subst hb;rw[upd_same] at q;cases q;exact new
 ·rw[upd_ne hb] at q;by_cases hbe:b=e
  ·have q':H b=some (.own x):=by
    rcases he with z | z
    ·exact absurd (hbe.trans z) hb
    ·rw[hbe];exact z
   rw[q] at q';cases q';obtain⟨v,hv⟩:=heo;exact⟨v,by rw[hbe];exact hv⟩
  ·refine(ok b u q).stay (fun c v hc r=>k c v ?_ r) (fun c r=>by rw[upd_ne (nown c b r)];exact r) fun c xs r=>by rw[upd_ne (ntup c xs r)];exact r
   rcases hc with rfl | hc
   ·exact hbe
   ·rintro rfl;rcases he with z | z
    ·exact nown c b hc z
    ·rw[hc] at z;cases z;exact hb rfl
end
structure Un(fs ex:List Addr)(H H':Hp)(h h':Heap):Prop where
 keep:∀ b o,h.get? b=some o->H b=none->b∉fs->b∉ex->h'.get? b=some o
 slot:∀ b o,h.get? b=some o->H b=none->b∈fs->b∉ex->∃ sl,h'.get? b=some {o with slots:=sl}
 free:∀ b o,h.get? b=some o->H b=none->b∉ex->H' b=none
 there:∀ b o,h.get? b=some o->b∉ex->∃ o',h'.get? b=some o'
 tups:∀ b xs,H b=some (.tup xs)->H' b=some (.tup xs)
 frzs:∀ b o u,H b=some (.frz o u)->H' b=some (.frz o u)
 tbls:∀ b ps,H b=some (.tbl ps)->∃ more,H' b=some (.tbl (ps++more))
section
variable{fs fs' ex ex':List Addr}{H H1 H2:Hp}{h h1 h2 h':Heap}{a x e:Addr}{o:HO}
theorem Un.any(u:Un fs ex H H1 h h1){b:Addr}{ob:Obj}(q:h.get? b=some ob)(n:H b=none)(hx:b∉ex):∃ sl,h1.get? b=some {ob with slots:=sl}:=by
 by_cases hb:b∈fs
 ·exact u.slot b ob q n hb hx
 ·exact⟨ob.slots,u.keep b ob q n hb hx⟩
theorem Un.kept(k:∀ b u,h.get? b=some u->h'.get? b=some u):Un fs ex H H h h':=
 ⟨fun b ob q _ _ _=>k b ob q,fun b ob q _ _ _=>⟨ob.slots,k b ob q⟩,fun _ _ _ n _=>n,fun b ob q _=>⟨ob,k b ob q⟩,fun _ _ q=>q,fun _ _ _ q=>q,fun _ ps q=>⟨#[],by rw[q];simp⟩⟩
theorem Un.refl:Un fs ex H H h h:=Un.kept fun _ _ q=>q
theorem Un.laid(k:∀ b u,h.get? b=some u->h'.get? b=some u)(hp:h.objs.size<=a)(hn:H a=none):Un fs ex H (upd H a o) h h' where
 keep:=fun b u q _ _ _=>k b u q
 slot:=fun b u q _ _ _=>⟨u.slots,k b u q⟩
 free:=fun b u q n _=>by rw[upd_ne (Nat.ne_of_lt (Nat.lt_of_lt_of_le (Heap.lt_size q) hp))];exact n
 there:=fun b u q _=>⟨u,k b u q⟩
 tups:=fun b xs q=>by rw[upd_ne (ne_of_none q hn)];exact q
 frzs:=fun b u xs q=>by rw[upd_ne (ne_of_none q hn)];exact q
 tbls:=fun b ps q=>⟨#[],by rw[upd_ne (ne_of_none q hn),q];simp⟩
theorem Un.write(mu:Mut (H x))(he:e=x\/H e=some (.own x))(k:∀ b u,b≠e->h.get? b=some u->h'.get? b=some u)(heo:∃ u,h'.get? e=some u):Un fs ex H (upd H x o) h h':=by
 have hx:∀ b,H b=none->b≠x:=fun b n z=>by subst z;rw[n] at mu;exact mu
 have hb:∀ b,H b=none->b≠e:=fun b n z=>by
  subst z;rcases he with r | r
  ·exact hx b n r
  ·rw[n] at r;cases r
 have hm:∀ b u,H b=some u->¬Mut (some u)->b≠x:=fun b u q nm z=>by subst z;rw[q] at mu;exact nm mu
 refine⟨fun b u q n _ _=>k b u (hb b n) q,fun b u q n _ _=>⟨u.slots,k b u (hb b n) q⟩,fun b u q n _=>by rw[upd_ne (hx b n)];exact n,fun b u q _=>?_,
  fun b xs q=>by rw[upd_ne (hm b _ q fun z=>z)];exact q,fun b u xs q=>by rw[upd_ne (hm b _ q fun z=>z)];exact q,fun b ps q=>⟨#[],by rw[upd_ne (hm b _ q fun z=>z),q];simp⟩⟩
 by_cases hbe:b=e
 ·subst hbe;exact heo
 ·exact⟨u,k b u hbe q⟩
end
def trk(h:Heap)(H:Hp):List Addr:=(List.range h.objs.size).filter fun a=>(H a).isSome
def hidT(h:Heap)(H:Hp):Heap:=PySem.W.hideAll h (trk h H)
theorem hidT_size(h:Heap)(H:Hp):(hidT h H).objs.size=h.objs.size:=PySem.W.hideAll_size _ _
theorem hidT_get{h:Heap}{H:Hp}{b:Addr}{o:Obj}(e:h.get? b=some o)(n:H b=none):(hidT h H).get? b=some o:=
 PySem.W.hideAll_get _ e fun hm=>by
  have q:(H b).isSome=true:=(List.mem_filter.mp hm).2;rw[n] at q;simp at q
theorem of_hidT{h:Heap}{H:Hp}{b:Addr}{o:Obj}(e:(hidT h H).get? b=some o):h.get? b=some o/\H b=none:=by
 have e':h.get? b=some o:=PySem.W.of_hideAll (trk h H) e;refine⟨e',?_⟩;cases q:H b with
 | none=>rfl
 | some x=>
  have hm:b∈trk h H:=List.mem_filter.mpr ⟨List.mem_range.mpr (Heap.lt_size e'),by simp[q]⟩;have z:(hidT h H).get? b=none:=PySem.W.hideAll_none (trk h H) hm;rw[z] at e;cases e
end L2
namespace L2
open PySem PySem.Spec PyProof.Rows
structure Mod(K:PySem.W.Frag)(mg:Str->Option Value)(base:Heap):Prop where
 kin:K.In base
 glob:base.Ns mainGlobals mg
 blt:∃ mb,base.Ns builtinsNs mb/\∀ x:Str,x≠"__name__"->mb x=bootBuiltins x
 nolimit:base.NoLimit
structure Cx where
 prog:Program
 w:World
 K:PySem.W.Frag
 mg:Str->Option Value
 base:Heap
 A:Around
 N:List Str
 s_0:Shared
 H_0:Hp
 env:Env
 outer:List Env
 stack:List Env
 ex:List Addr
 fn:Str->Bool
 calm:Bool
 pn:List (Addr×Obj)
 xe:Value->Shared->Prop
def frs(l:List Env):List Addr:=l.filterMap (·.frame)
abbrev Cx.fs(X:Cx):List Addr:=frs X.outer
def Vis(sc:Scope)(x:Str):Prop:=sc.names.lookup x=some .local\/sc.names.lookup x=some .cell\/sc.names.lookup x=some .free
def Loc(sc:Scope)(x:Str):Prop:=sc.names.lookup x=some .local\/sc.names.lookup x=some .cell
def Look(env:Env)(h:Heap)(m:Str->Option Value)(x:Str)(u:Value):Prop:=
 (env.kindOf x=some .local/\m x=some u)\/((env.kindOf x=some .cell\/env.kindOf x=some .free)/\∃ c,env.cells.lookup x=some c/\h.IsCell c (some u))
structure Cx.Ok(X:Cx):Prop where
 mod:Mod X.K X.mg X.base
 kind:X.env.scope.kind=.function
 glob:X.env.globals=mainGlobals
 blt:X.env.builtins=builtinsNs
 above:X.s_0.heap.objs.size<=X.env.locals
 inj:∀ x y c,X.env.cells.lookup x=some c->X.env.cells.lookup y=some c->x=y
 has:∀ x,(X.env.kindOf x=some .cell\/X.env.kindOf x=some .free)->∃ c,X.env.cells.lookup x=some c
 cab:∀ x c,X.fn x=true->X.env.cells.lookup x=some c->X.s_0.heap.objs.size<=c
 hd:X.calm=true->X.A.handled=none
 frames:X.A.frames=some X.stack
 stk:X.stack=X.outer\/(X.stack=X.env::X.outer/\X.env.frame=some X.env.locals)
 exf:∀ b∈X.ex,b≠X.env.locals/\∀ x c,X.env.cells.lookup x=some c->c≠b
 bs:∀ b o,X.base.get? b=some o->X.s_0.heap.get? b=some o/\X.H_0 b=none
 bsz:X.base.objs.size<=X.s_0.heap.objs.size
 noex:∀ b o,X.base.get? b=some o->b∉X.ex
 exfs:∀ b∈X.ex,b∉X.fs
 funs:X.s_0.heap.FunFrames X.base X.outer
 frf:∀ b∈X.fs,X.H_0 b=none
structure Inv(X:Cx)(pins:List (Addr×Obj))(σ:List (Option V))(H:Hp)(s:Shared):Prop where
 ok:X.Ok
 os:s.os=X.s_0.os
 bare:AllBare s.gens
 base:Un X.fs X.ex X.H_0 H X.s_0.heap s.heap
 loc:∃ m,s.heap.Ns X.env.locals m/\∀ (i:Nat) (x:Str) (v:V),X.N[i]?=some x->σ[i]?=some (some v)->Vis X.env.scope x->∃ u,RelV v u/\Look X.env s.heap m x u
 cell:∀ x c,X.env.cells.lookup x=some c->∃ v,s.heap.IsCell c v
 free:H X.env.locals=none
 freeC:∀ x c,X.env.cells.lookup x=some c->H c=none
 pin:∀ p∈X.pn++pins,s.heap.get? p.1=some p.2/\H p.1=none/\p.1≠X.env.locals/\p.1∉X.fs/\∀ v,p.2.data≠.cell v
 hok:HOk X.prog X.w H s.heap
 len:σ.length=X.N.length
section
variable{X:Cx}{pins:List (Addr×Obj)}{σ:List (Option V)}{H H':Hp}{s:Shared}{h':Heap}
theorem Cx.Ok.nofr(ok:X.Ok){b:Addr}{o:Obj}(e:X.base.get? b=some o):b∉X.fs:=fun hb=>by
 have:=(ok.funs.mem hb).1;rw[e] at this;cases this
theorem Inv.bs(I:Inv X pins σ H s):∀ b o,X.base.get? b=some o->s.heap.get? b=some o/\H b=none:=fun b o e=>
 ⟨I.base.keep b o (I.ok.bs b o e).1 (I.ok.bs b o e).2 (I.ok.nofr e) (I.ok.noex b o e),I.base.free b o (I.ok.bs b o e).1 (I.ok.bs b o e).2 (I.ok.noex b o e)⟩
theorem Inv.bk(I:Inv X pins σ H s):∀ b o,X.base.get? b=some o->s.heap.get? b=some o:=fun b o e=>(I.bs b o e).1
theorem Inv.mod(I:Inv X pins σ H s):Mod X.K X.mg X.base:=I.ok.mod
theorem Inv.kIn(I:Inv X pins σ H s):X.K.In s.heap:=I.ok.mod.kin.keeps I.bk
theorem Inv.lt(I:Inv X pins σ H s):X.env.locals<s.heap.objs.size:=let ⟨_,hn,_⟩:=I.loc;hn.lt
theorem Inv.sz(I:Inv X pins σ H s):X.s_0.heap.objs.size<=s.heap.objs.size:=Nat.le_trans I.ok.above (Nat.le_of_lt I.lt)
theorem Inv.nofs(I:Inv X pins σ H s){a:Addr}(h:s.heap.objs.size<=a):a∉X.fs:=fun hb=>by
 obtain⟨_,o,ho,_⟩:=I.ok.funs.mem hb;exact absurd (Nat.lt_of_lt_of_le (Heap.lt_size ho) (Nat.le_trans I.sz h)) (Nat.lt_irrefl _)
theorem Inv.cne(I:Inv X pins σ H s):∀ x c,X.env.cells.lookup x=some c->c≠X.env.locals:=fun x c e z=>by
 obtain⟨v,o,ho,hd⟩:=I.cell x c e;obtain⟨m,⟨o',es,ep,ho',hd',_⟩,_⟩:=I.loc;rw[z,ho'] at ho;cases ho;rw[hd'] at hd;cases hd
theorem Inv.funs(I:Inv X pins σ H s):s.heap.FunFrames X.base X.outer:=by
 have all:∀ (l:List Env),(∀ b∈frs l,b∈X.fs)->X.s_0.heap.FunFrames X.base l->s.heap.FunFrames X.base l:=by
  intro l;induction l with
  | nil=>intro _ _;trivial
  | cons env r ih=>
   intro hs hl;obtain⟨hk,⟨L,o,hf,hn,ho,hd⟩,hr⟩:=hl;have hL:L∈X.fs:=hs L (by unfold frs;rw[List.filterMap_cons,hf];exact List.mem_cons_self);obtain⟨sl,e⟩:=I.base.slot L o ho (I.ok.frf L hL) hL fun z=>I.ok.exfs L z hL;exact⟨hk,⟨L,_,hf,hn,e,hd⟩,ih (fun b hb=>hs b (by unfold frs;rw[List.filterMap_cons,hf];exact List.mem_cons_of_mem _ hb)) hr⟩
 exact all X.outer (fun _ hb=>hb) I.ok.funs
theorem Inv.stack(I:Inv X pins σ H s):s.heap.FunFrames X.base X.stack:=by
 rcases I.ok.stk with e | ⟨e,hf⟩
 ·rw[e];exact I.funs
 ·rw[e];obtain⟨m,hn,_⟩:=I.loc;refine .cons (by rw[I.ok.kind];decide) hf hn ?_ I.funs;exact Heap.get?_none_of_le (Nat.le_trans I.ok.bsz I.ok.above)
theorem Inv.stkSub(I:Inv X pins σ H s):∀ b∈frs X.stack,b∈X.env.locals::X.fs:=fun b hb=>by
 rcases I.ok.stk with e | ⟨e,hf⟩
 ·rw[e] at hb;exact List.mem_cons_of_mem _ hb
 ·rw[e] at hb;unfold frs at hb;rw[List.filterMap_cons,hf] at hb;exact hb
theorem Inv.stkFree(I:Inv X pins σ H s):∀ b∈frs X.stack,H b=none:=fun b hb=>by
 rcases List.mem_cons.mp (I.stkSub b hb) with e | hb
 ·rw[e];exact I.free
 ·obtain⟨_,o,ho,_⟩:=I.ok.funs.mem hb;exact I.base.free b o ho (I.ok.frf b hb) fun z=>I.ok.exfs b z hb
theorem Inv.step{g':Array GenState}{t':Nat}{d':Drawn}{ch:List Addr}(I:Inv X pins σ H s)(hch:∀ b∈ch,(b∈X.ex\/X.s_0.heap.objs.size<=b)/\b≠X.env.locals/\(∀ x c,X.env.cells.lookup x=some c->c≠b)/\∀ p∈X.pn++pins,p.1≠b)(keep:∀ b o,b≠X.env.locals->b∉X.fs->b∉ch->s.heap.get? b=some o->H b=none->h'.get? b=some o)(slot:∀ b o,b≠X.env.locals->b∈X.fs->b∉ch->s.heap.get? b=some o->H b=none->∃ sl,h'.get? b=some {o with slots:=sl})(free:∀ b o,b∉ch->s.heap.get? b=some o->H b=none->H' b=none)(there:∀ b o,b∉ch->s.heap.get? b=some o->∃ o',h'.get? b=some o')(tups:∀ b xs,H b=some (.tup xs)->H' b=some (.tup xs))(frzs:∀ b o u,H b=some (.frz o u)->H' b=some (.frz o u))(tbls:∀ b ps,H b=some (.tbl ps)->∃ more,H' b=some (.tbl (ps++more)))(ns:∀ m,s.heap.Ns X.env.locals m->h'.Ns X.env.locals m)(hok:HOk X.prog X.w H' h')(hg:AllBare g'):
  Inv X pins σ H' {s with heap:=h',gens:=g',drawn:=d',toks:=t'}:=by
 have neL:∀ b o,X.s_0.heap.get? b=some o->b≠X.env.locals:=fun b o e=>Nat.ne_of_lt (Nat.lt_of_lt_of_le (Heap.lt_size e) I.ok.above);have neC:∀ b o,X.s_0.heap.get? b=some o->b∉X.ex->b∉ch:=fun b o e hx hb=>by
  rcases(hch b hb).1 with z | z
  ·exact hx z
  ·exact absurd (Nat.lt_of_lt_of_le (Heap.lt_size e) z) (Nat.lt_irrefl _)
 have cellK:∀ x c,X.env.cells.lookup x=some c->∀ v,s.heap.IsCell c v->h'.IsCell c v:=fun x c e v ⟨o,ho,hd⟩=>by
  have nch:c∉ch:=fun z=>(hch c z).2.2.1 x c e rfl;by_cases hc:c∈X.fs
  ·obtain⟨sl,q⟩:=slot c o (I.cne x c e) hc nch ho (I.freeC x c e);exact⟨_,q,hd⟩
  ·exact⟨o,keep c o (I.cne x c e) hc nch ho (I.freeC x c e),hd⟩
 refine⟨I.ok,I.os,hg,⟨fun b o e n hb hx=>?_,fun b o e n hb hx=>?_,fun b o e n hx=>?_,fun b o e hx=>?_,fun b xs e=>tups b xs (I.base.tups b xs e),fun b o xs e=>frzs b o xs (I.base.frzs b o xs e),fun b ps e=>?_⟩,?_,fun x c e=>?_,?_,fun x c e=>?_,fun p hp=>?_,hok,I.len⟩
 ·exact keep b o (neL b o e) hb (neC b o e hx) (I.base.keep b o e n hb hx) (I.base.free b o e n hx)
 ·obtain⟨sl,e1⟩:=I.base.slot b o e n hb hx;obtain⟨sl',e2⟩:=slot b _ (neL b o e) hb (neC b o e hx) e1 (I.base.free b o e n hx);exact⟨sl',e2⟩
 ·obtain⟨o',e1⟩:=I.base.there b o e hx;exact free b o' (neC b o e hx) e1 (I.base.free b o e n hx)
 ·obtain⟨o',e1⟩:=I.base.there b o e hx;exact there b o' (neC b o e hx) e1
 ·obtain⟨m1,e1⟩:=I.base.tbls b ps e;obtain⟨m2,e2⟩:=tbls b _ e1;exact⟨m1++m2,by rw[e2,Array.append_assoc]⟩
 ·obtain⟨m,hn,hl⟩:=I.loc;refine⟨m,ns m hn,fun i x v e1 e2 e3=>?_⟩;obtain⟨u,r,l⟩:=hl i x v e1 e2 e3;refine⟨u,r,?_⟩;rcases l with l | ⟨k,c,e,z⟩
  ·exact .inl l
  ·exact .inr ⟨k,c,e,cellK x c e _ z⟩
 ·obtain⟨v,z⟩:=I.cell x c e;exact⟨v,cellK x c e v z⟩
 ·obtain⟨m,⟨o,_,_,ho,_⟩,_⟩:=I.loc;exact free _ o (fun z=>(hch _ z).2.1 rfl) ho I.free
 ·obtain⟨v,o,ho,hd⟩:=I.cell x c e;exact free c o (fun z=>(hch c z).2.2.1 x c e rfl) ho (I.freeC x c e)
 ·obtain⟨e,n,ne,nf,d⟩:=I.pin p hp;have nch:p.1∉ch:=fun z=>(hch p.1 z).2.2.2 p hp rfl;exact⟨keep p.1 p.2 ne nf nch e n,free p.1 p.2 nch e n,ne,nf,d⟩
theorem Inv.un{t':Nat}(I:Inv X pins σ H s)(u:Un X.fs [] H H' s.heap h')(hok:HOk X.prog X.w H' h'):Inv X pins σ H' {s with heap:=h',toks:=t'}:=by
 obtain⟨m,⟨o,es,ep,ho,r⟩,_⟩:=id I.loc;obtain⟨sl,hL⟩:=u.any ho I.free (by simp);exact I.step (g':=s.gens) (d':=s.drawn) (ch:=[]) (fun _ z=>nomatch z) (fun b o _ hb _ e n=>u.keep b o e n hb (by simp)) (fun b o _ hb _ e n=>u.slot b o e n hb (by simp)) (fun b o _ e n=>u.free b o e n (by simp)) (fun b o _ e=>u.there b o e (by simp)) u.tups u.frzs u.tbls (fun m' hm=>by
  obtain⟨o',es',ep',ho',r'⟩:=hm;rw[ho] at ho';cases ho';exact⟨_,es',ep',hL,r'⟩) hok I.bare
theorem Inv.call{g':Array GenState}{t':Nat}{d':Drawn}{ch:List Addr}(I:Inv X pins σ H s)(u:Un (frs X.stack) ch H H' s.heap h')(hok:HOk X.prog X.w H' h')(hg:AllBare g')(hch:∀ b∈ch,(b∈X.ex\/X.s_0.heap.objs.size<=b)/\b≠X.env.locals/\(∀ x c,X.env.cells.lookup x=some c->c≠b)/\∀ p∈X.pn++pins,p.1≠b):
  Inv X pins σ H' {s with heap:=h',gens:=g',drawn:=d',toks:=t'}:=by
 obtain⟨m,⟨o,es,ep,ho,r⟩,_⟩:=id I.loc;obtain⟨sl,hL⟩:=u.any ho I.free fun z=>(hch _ z).2.1 rfl;exact I.step (ch:=ch) hch (fun b o hL hb hc e n=>u.keep b o e n (fun z=>(List.mem_cons.mp (I.stkSub b z)).elim hL hb) hc) (fun b o _ _ hc e n=>u.any e n hc) (fun b o hc e n=>u.free b o e n hc) (fun b o hc e=>u.there b o e hc) u.tups u.frzs u.tbls (fun m' hm=>by
  obtain⟨o',es',ep',ho',r'⟩:=hm;rw[ho] at ho';cases ho';exact⟨_,es',ep',hL,r'⟩) hok hg
theorem Inv.turned{t':Nat}{it:Addr}(I:Inv X pins σ H s)(k:∀ b o,b≠it->s.heap.get? b=some o->h'.get? b=some o)(hn:H it=none)(hL:it≠X.env.locals)(h1:it∈X.ex\/X.s_0.heap.objs.size<=it)(h2:∀ x c,X.env.cells.lookup x=some c->c≠it)(h3:∀ p∈X.pn++pins,p.1≠it):Inv X pins σ H {s with heap:=h',toks:=t'}:=by
 have nit:∀ b u,H b=some u->b≠it:=fun b u e z=>by rw[z,hn] at e;cases e
 refine I.step (g':=s.gens) (d':=s.drawn) (ch:=[it]) (fun b hb=>?_) (fun b o _ _ hc e _=>k b o (fun z=>hc (by simp[z])) e) (fun b o _ _ hc e _=>⟨o.slots,k b o (fun z=>hc (by simp[z])) e⟩) (fun _ _ _ _ n=>n)
  (fun b o hc e=>⟨o,k b o (fun z=>hc (by simp[z])) e⟩) (fun _ _ e=>e) (fun _ _ _ e=>e) (fun b ps e=>⟨#[],by rw[e];simp⟩) (fun m hm=>?_) (fun b u e=>?_) I.bare
 ·have e:b=it:=by simpa using hb
  subst e;exact⟨h1,hL,h2,h3⟩
 ·obtain⟨o,es,ep,ho,r⟩:=hm;exact⟨o,es,ep,k _ o (Ne.symm hL) ho,r⟩
 ·refine(I.hok b u e).stay (fun c v hc q=>k c v ?_ q) (fun _ q=>q) fun _ _ q=>q;rcases hc with z | z
  ·rw[z];exact nit b u e
  ·exact nit c _ z
theorem Inv.tok(I:Inv X pins σ H s)(t:Nat):Inv X pins σ H {s with toks:=t}:=I.un (h':=s.heap) (t':=t) Un.refl I.hok
theorem Inv.kept{t':Nat}(I:Inv X pins σ H s)(k:∀ b u,s.heap.get? b=some u->h'.get? b=some u):Inv X pins σ H {s with heap:=h',toks:=t'}:=I.un (Un.kept k) (I.hok.kept k)
theorem Inv.laid{a:Addr}{o:HO}{t':Nat}(I:Inv X pins σ H s)(k:∀ b u,s.heap.get? b=some u->h'.get? b=some u)(hp:s.heap.objs.size<=a)(new:ObjOk X.prog X.w (upd H a o) h' a o):
  Inv X pins σ (upd H a o) {s with heap:=h',toks:=t'}:=I.un (Un.laid k hp (I.hok.fresh hp)) (I.hok.laid k hp new)
theorem Inv.write{x e:Addr}{o:HO}{t':Nat}(I:Inv X pins σ H s)(mu:Mut (H x))(he:e=x\/H e=some (.own x))(k:∀ b u,b≠e->s.heap.get? b=some u->h'.get? b=some u)(heo:∃ u,h'.get? e=some u)(new:ObjOk X.prog X.w (upd H x o) h' x o):Inv X pins σ (upd H x o) {s with heap:=h',toks:=t'}:=I.un (Un.write mu he k heo) (I.hok.write mu he k heo new)
theorem Inv.weak{σ':List (Option V)}(I:Inv X pins σ H s)(hl:σ'.length=σ.length)(w:∀ (i:Nat) v,σ'[i]?=some (some v)->σ[i]?=some (some v)):Inv X pins σ' H s:=
 ⟨I.ok,I.os,I.bare,I.base,let ⟨m,hn,hl'⟩:=I.loc;⟨m,hn,fun i x v e1 e2 e3=>hl' i x v e1 (w i v e2) e3⟩,I.cell,I.free,I.freeC,I.pin,I.hok,hl.trans I.len⟩
theorem Inv.pins_of{pins':List (Addr×Obj)}(I:Inv X pins σ H s)(h:∀ p∈pins',s.heap.get? p.1=some p.2/\H p.1=none/\p.1≠X.env.locals/\p.1∉X.fs/\∀ v,p.2.data≠.cell v):Inv X pins' σ H s:=
 ⟨I.ok,I.os,I.bare,I.base,I.loc,I.cell,I.free,I.freeC,fun p hp=>(List.mem_append.mp hp).elim (fun z=>I.pin p (List.mem_append_left _ z)) (h p),I.hok,I.len⟩
theorem nodup_ix{N:List Str}(hN:N.Nodup){i j:Nat}{x:Str}(a:N[i]?=some x)(b:N[j]?=some x):i=j:=by
 obtain⟨h1,e1⟩:=List.getElem?_eq_some_iff.mp a;obtain⟨h2,e2⟩:=List.getElem?_eq_some_iff.mp b;exact(List.getElem_inj hN).mp (e1.trans e2.symm)
theorem store_ok2{M:Model}{A:Around}{E:Value->Shared->Prop}{i:Nat}{x:Str}{v:V}{u:Value}{Q:Unit->Shared->Prop}(I:Inv X pins σ H s)(hN:X.N.Nodup)(hi:X.N[i]?=some x)(hx:Loc X.env.scope x)(r:RelV v u)(h:∀ s',Inv X pins (σ.set i (some v)) H s'->(∃ a,Heap.SameBut a s.heap s'.heap/\(a=X.env.locals\/X.env.cells.lookup x=some a))->Q () s')(hf:X.fn x=true\/X.env.scope.names.lookup x=some .local:=by first | exact .inl rfl | exact .inr rfl | assumption):wpAny M A (storeName X.env x u) Q E s:=by
 obtain⟨m,hn,hl⟩:=id I.loc;have hcls:(X.env.scope.kind==.class||(X.env.scope.kind==.module&&X.env.locals != X.env.globals))=false:=by rw[I.ok.kind];rfl
 have hiσ:i<σ.length:=by rw[I.len];exact(List.getElem?_eq_some_iff.mp hi).1
 have cne:=I.cne;have tracked:∀ {a:Addr} {h':Heap},(∃ o,s.heap.get? a=some o/\H a=none)->Heap.SameBut a s.heap h'->HOk X.prog X.w H h':=fun {a h'} ha hs b ob e=>by
  obtain⟨_,_,hfree⟩:=ha;refine(I.hok b ob e).stay (fun c w' hc q=>(hs.2 c ?_).trans q) (fun _ q=>q) fun _ _ q=>q;rintro rfl;rcases hc with rfl | hc
  ·rw[hfree] at e;cases e
  ·rw[hfree] at hc;cases hc
 rcases hx with hk | hk
 ·refine wpAny_storeName_local hk hn (fun h' hn' hs=>?_) hcls;obtain⟨oL,_,_,hoL,_⟩:=id hn;refine h _ ⟨I.ok,I.os,I.bare,⟨fun b o e n hb hx=>?_,fun b o e n hb hx=>?_,I.base.free,fun b o e hx=>?_,I.base.tups,I.base.frzs,I.base.tbls⟩,⟨_,hn',fun j y v' e1 e2 e3=>?_⟩,fun y c e=>?_,I.free,I.freeC,fun p hp=>?_,tracked ⟨oL,hoL,I.free⟩ hs,by simpa using I.len⟩ ⟨_,hs,.inl rfl⟩
  ·exact(hs.2 b (Nat.ne_of_lt (Nat.lt_of_lt_of_le (Heap.lt_size e) I.ok.above))).trans (I.base.keep b o e n hb hx)
  ·obtain⟨sl,e1⟩:=I.base.slot b o e n hb hx;exact⟨sl,(hs.2 b (Nat.ne_of_lt (Nat.lt_of_lt_of_le (Heap.lt_size e) I.ok.above))).trans e1⟩
  ·obtain⟨o',e1⟩:=I.base.there b o e hx;exact⟨o',(hs.2 b (Nat.ne_of_lt (Nat.lt_of_lt_of_le (Heap.lt_size e) I.ok.above))).trans e1⟩
  ·by_cases hj:j=i
   ·subst hj;rw[hi] at e1;cases e1;rw[List.getElem?_set_self hiσ] at e2;cases e2;exact⟨u,r,.inl ⟨hk,by simp⟩⟩
   ·rw[List.getElem?_set_ne (Ne.symm hj)] at e2;obtain⟨u',r',q⟩:=hl j y v' e1 e2 e3;refine⟨u',r',?_⟩;rcases q with ⟨k,e⟩ | ⟨k,c,e,z⟩
    ·refine .inl ⟨k,?_⟩;have:y≠x:=fun e=>hj (nodup_ix hN e1 (e▸hi));simp[this,e]
    ·exact .inr ⟨k,c,e,z.sameBut hs (cne y c e)⟩
  ·obtain⟨w',z⟩:=I.cell y c e;exact⟨w',z.sameBut hs (cne y c e)⟩
  ·obtain⟨e,n,ne,nf,d⟩:=I.pin p hp;exact⟨(hs.2 p.1 ne).trans e,n,ne,nf,d⟩
 ·have hfn:X.fn x=true:=by
   rcases hf with z | z
   ·exact z
   ·rw[z] at hk;cases hk
  obtain⟨c,hc⟩:=I.ok.has x (.inl hk);obtain⟨w',z⟩:=I.cell x c hc;refine wpAny_storeName_cell I.ok.kind hk hc z (fun h' hc' hs=>?_);obtain⟨oc,hoc,hocd⟩:=id z;refine h {s with heap:=h'} ⟨I.ok,I.os,I.bare,⟨fun b o e n hb hx=>?_,fun b o e n hb hx=>?_,I.base.free,fun b o e hx=>?_,I.base.tups,I.base.frzs,I.base.tbls⟩,⟨m,hn.sameBut hs (Ne.symm (cne x c hc)),fun j y v' e1 e2 e3=>?_⟩,fun y c' e=>?_,I.free,I.freeC,fun p hp=>?_,tracked ⟨oc,hoc,I.freeC x c hc⟩ hs,by simpa using I.len⟩ ⟨c,hs,.inr hc⟩
  ·exact(hs.2 b (Nat.ne_of_lt (Nat.lt_of_lt_of_le (Heap.lt_size e) (I.ok.cab x c hfn hc)))).trans (I.base.keep b o e n hb hx)
  ·obtain⟨sl,e1⟩:=I.base.slot b o e n hb hx;exact⟨sl,(hs.2 b (Nat.ne_of_lt (Nat.lt_of_lt_of_le (Heap.lt_size e) (I.ok.cab x c hfn hc)))).trans e1⟩
  ·obtain⟨o',e1⟩:=I.base.there b o e hx;exact⟨o',(hs.2 b (Nat.ne_of_lt (Nat.lt_of_lt_of_le (Heap.lt_size e) (I.ok.cab x c hfn hc)))).trans e1⟩
  ·by_cases hj:j=i
   ·subst hj;rw[hi] at e1;cases e1;rw[List.getElem?_set_self hiσ] at e2;cases e2;exact⟨u,r,.inr ⟨.inl hk,c,hc,hc'⟩⟩
   ·rw[List.getElem?_set_ne (Ne.symm hj)] at e2;obtain⟨u',r',q⟩:=hl j y v' e1 e2 e3;refine⟨u',r',?_⟩;rcases q with q | ⟨k,c',e,z'⟩
    ·exact .inl q
    ·refine .inr ⟨k,c',e,z'.sameBut hs ?_⟩;rintro rfl;exact hj (nodup_ix hN e1 (I.ok.inj _ _ _ e hc▸hi))
  ·by_cases hcc:c'=c
   ·subst hcc;exact⟨_,hc'⟩
   ·obtain⟨w2,z2⟩:=I.cell y c' e;exact⟨w2,z2.sameBut hs hcc⟩
  ·obtain⟨e,n,ne,nf,d⟩:=I.pin p hp;refine⟨(hs.2 p.1 ?_).trans e,n,ne,nf,d⟩;intro q;rw[q,hoc] at e;have q':oc=p.2:=Option.some.inj e;exact d w' (by rw[<-q'];exact hocd)
theorem store_ok{M:Model}{A:Around}{E:Value->Shared->Prop}{i:Nat}{x:Str}{v:V}{u:Value}{Q:Unit->Shared->Prop}(I:Inv X pins σ H s)(hN:X.N.Nodup)(hi:X.N[i]?=some x)(hx:Loc X.env.scope x)(r:RelV v u)(h:∀ s',Inv X pins (σ.set i (some v)) H s'->Q () s')(hf:X.fn x=true\/X.env.scope.names.lookup x=some .local:=by first | exact .inl rfl | exact .inr rfl | assumption):wpAny M A (storeName X.env x u) Q E s:=
 store_ok2 I hN hi hx r (fun s' I' _=>h s' I') hf
theorem Inv.call'{s':Shared}{ch:List Addr}(I:Inv X pins σ H s)(ho:s'.os=s.os)(u:Un (frs X.stack) ch H H' s.heap s'.heap)(hok:HOk X.prog X.w H' s'.heap)(hg:AllBare s'.gens)(hch:∀ b∈ch,(b∈X.ex\/X.s_0.heap.objs.size<=b)/\b≠X.env.locals/\(∀ x c,X.env.cells.lookup x=some c->c≠b)/\∀ p∈X.pn++pins,p.1≠b):Inv X pins σ H' s':=by
 obtain⟨h',g',d',t',o'⟩:=s';have e:o'=s.os:=ho;subst e;exact I.call (g':=g') (t':=t') (d':=d') u hok hg hch
end
abbrev XK:=Value->Option Addr->Hp->Prop
abbrev St:=List (Option V)
abbrev VK:=V->Hp->Prop
abbrev TE:=St->Hp->VK->Prop
abbrev TT:=St->Hp->(Bool->Hp->Prop)->Prop
abbrev TA:=St->Hp->(List V->Hp->Prop)->Prop
structure Ends where
 nx:St->Hp->Prop
 rt:VK
 bk:St->Hp->Prop:=fun _ _=>False
 ct:St->Hp->Prop:=fun _ _=>False
abbrev TS:=Ends->St->Hp->Prop
def EP(X:Cx)(pins:List (Addr×Obj))(σ:St)(Q:VK)(u:Value)(s':Shared):Prop:=∃ v H',Inv X pins σ H' s'/\RelV v u/\Q v H'
def TP(X:Cx)(pins:List (Addr×Obj))(σ:St)(Q:Bool->Hp->Prop)(b:Bool)(s':Shared):Prop:=∃ H',Inv X pins σ H' s'/\Q b H'
def AP(X:Cx)(pins:List (Addr×Obj))(σ:St)(Q:List V->Hp->Prop)(us:List Value)(s':Shared):Prop:=∃ vs H',Inv X pins σ H' s'/\Vals vs us/\Q vs H'
def SP(X:Cx)(pins:List (Addr×Obj))(D:Ends)(f:Flow)(s':Shared):Prop:=
 match f with
 | .next=>∃ σ' H',Inv X pins σ' H' s'/\D.nx σ' H'
 | .brk=>∃ σ' H',Inv X pins σ' H' s'/\D.bk σ' H'
 | .cont=>∃ σ' H',Inv X pins σ' H' s'/\D.ct σ' H'
 | .ret u=>∃ v σ' H',Inv X pins σ' H' s'/\RelV v u/\D.rt v H'
def PE(X:Cx)(e:Expr)(t:TE):Prop:=
 ∀ (pins:List (Addr×Obj)) (s:Shared) (σ:St) (H:Hp) (Q:VK),Inv X pins σ H s->t σ H Q->wpAny (model X.prog X.w) X.A (eval e X.env) (EP X pins σ Q) X.xe s
def PT(X:Cx)(e:Expr)(t:TT):Prop:=
 ∀ (pins:List (Addr×Obj)) (s:Shared) (σ:St) (H:Hp) (Q:Bool->Hp->Prop),Inv X pins σ H s->t σ H Q->wpAny (model X.prog X.w) X.A (isTrue e X.env (eval e X.env)) (TP X pins σ Q) X.xe s
def PW(X:Cx)(e:Expr)(t:TT):Prop:=
 ∀ (whole:Sem Value) (pins:List (Addr×Obj)) (s:Shared) (σ:St) (H:Hp) (Q:Bool->Hp->Prop),Inv X pins σ H s->t σ H Q->wpAny (model X.prog X.w) X.A (isTrue e X.env whole) (TP X pins σ Q) X.xe s
theorem PW.pt{X:Cx}{e:Expr}{t:TT}(h:PW X e t):PT X e t:=h _
def PA(X:Cx)(es:List Expr)(t:TA):Prop:=
 ∀ (pos:Pos) (pins:List (Addr×Obj)) (s:Shared) (σ:St) (H:Hp) (Q:List V->Hp->Prop),Inv X pins σ H s->t σ H Q->wpAny (model X.prog X.w) X.A (spliced (backTo pos (starEach es X.env))) (AP X pins σ Q) X.xe s
def PS(X:Cx)(st:Stmt)(t:TS):Prop:=
 ∀ (pins:List (Addr×Obj)) (s:Shared) (σ:St) (H:Hp) (D:Ends),Inv X pins σ H s->t D σ H->wpAny (model X.prog X.w) X.A (exec st X.env) (SP X pins D) X.xe s
def PSs(X:Cx)(st:List Stmt)(t:TS):Prop:=
 ∀ (pins:List (Addr×Obj)) (s:Shared) (σ:St) (H:Hp) (D:Ends),Inv X pins σ H s->t D σ H->wpAny (model X.prog X.w) X.A (execs st X.env) (SP X pins D) X.xe s
theorem thn{α:Type}{t:Sem α}{Q Q':α->Shared->Prop}{M:Model}{A:Around}{E:Value->Shared->Prop}{s:Shared}(h:wpAny M A t Q E s)(hQ:∀ a s,Q a s->Q' a s):wpAny M A t Q' E s:=wpAny_mono h hQ fun _ _ x=>x
end L2
namespace L2
open PySem PySem.Spec PyProof.Rows
section
variable{X:Cx}
def tVar(i:Nat):TE:=fun σ H Q=>∃ v,σ[i]?=some (some v)/\Q v H
def tC(v:V):TE:=fun _ H Q=>Q v H
theorem pe_var{i:Nat}{x:Str}{pos:Pos}(hN:X.N[i]?=some x)(hv:Vis X.env.scope x)(hd:(x==("__debug__":Str))=false:=by decide)(hcd:(x==("__classdict__":Str))=false:=by decide):PE X (.Name x pos) (tVar i):=by
 intro pins s σ H Q I h;obtain⟨v,e,h⟩:=h;obtain⟨m,hn,hl⟩:=I.loc;obtain⟨u,r,l⟩:=hl i x v hN e hv;have fin:EP X pins σ Q u s:=⟨v,H,I,r,h⟩;rcases l with ⟨hk,hm⟩ | ⟨hk,c,hc,hcell⟩
 ·exact wpAny_Name (wpAny_loadName_local I.ok.kind hk hn hm fin) hd
 ·rcases hk with hk | hk
  ·exact wpAny_Name (wpAny_loadName_cell I.ok.kind hk hc hcell fin) hd
  ·exact wpAny_Name (wpAny_loadName_free I.ok.kind hk hc hcell fin hcd) hd
theorem pe_int{i j pos}:PE X (.Constant (.int i) j pos) (tC (.int i)):=fun _ _ _ H _ I h=>wpAny_Constant_int ⟨.int i,H,I.tok _,⟨_,rfl⟩,h⟩
theorem pe_bl{b j pos}:PE X (.Constant (.bool b) j pos) (tC (.bl b)):=fun _ _ _ H _ I h=>Constant_bool ⟨.bl b,H,I,rfl,h⟩
theorem pe_non{j pos}:PE X (.Constant .none j pos) (tC .non):=fun _ _ _ H _ I h=>Constant_none ⟨.non,H,I,rfl,h⟩
def Gl(X:Cx)(x:Str):Prop:=X.env.kindOf x=some .globalImplicit
theorem ld_glob{E:Value->Shared->Prop}{pins:List (Addr×Obj)}{s:Shared}{σ:St}{H:Hp}{x:Str}{u:Value}{pos:Pos}{Q:Value->Shared->Prop}(I:Inv X pins σ H s)(hg:Gl X x)(hm:X.mg x=some u)(h:Q u s)(hd:(x==("__debug__":Str))=false:=by decide):wpAny (model X.prog X.w) X.A (eval (.Name x pos) X.env) Q E s:=
 Calls.Name_function_global I.ok.kind hg (Calls.loadGlobal_global (by rw[I.ok.glob];exact I.mod.glob.keeps I.bk) hm h) hd
theorem ld_blt{E:Value->Shared->Prop}{pins:List (Addr×Obj)}{s:Shared}{σ:St}{H:Hp}{x:Str}{u:Value}{pos:Pos}{Q:Value->Shared->Prop}(I:Inv X pins σ H s)(hg:Gl X x)(hm:X.mg x=none)(hv:bootBuiltins x=some u)(h:Q u s)(hn:x≠"__name__":=by decide)(hd:(x==("__debug__":Str))=false:=by decide):wpAny (model X.prog X.w) X.A (eval (.Name x pos) X.env) Q E s:=by
 obtain⟨mb,h1,h2⟩:=I.mod.blt;exact Calls.Name_function_global I.ok.kind hg (Calls.loadGlobal_builtin (by rw[I.ok.glob];exact I.mod.glob.keeps I.bk) hm (by rw[I.ok.blt];exact h1.keeps I.bk) ((h2 x hn).trans hv) h) hd
theorem pe_glob{x:Str}{v:V}{u:Value}{pos:Pos}(hg:Gl X x)(hm:X.mg x=some u)(r:RelV v u)(hd:(x==("__debug__":Str))=false:=by decide):PE X (.Name x pos) (tC v):=
 fun _ _ _ H _ I h=>ld_glob I hg hm ⟨v,H,I,r,h⟩ hd
variable{a b:Expr}{ta tb:TE}{pos:Pos}
def PC(X:Cx)(op:CmpOp)(a b:Expr)(t:TE):Prop:=
 ∀ (pins:List (Addr×Obj)) (s:Shared) (σ:St) (H:Hp) (Q:VK),Inv X pins σ H s->t σ H Q->
  wpAny (model X.prog X.w) X.A (eval a X.env) (fun v s₁=>wpAny (model X.prog X.w) X.A (eval b X.env) (fun u s₂=>wpAny (model X.prog X.w) X.A (compareOp op v u) (EP X pins σ Q) X.xe s₂) X.xe s₁) X.xe s
theorem nobehind(b:Expr){op:CmpOp}(h:op≠.In)(h2:op≠.NotIn):behindInMarks op b=false:=by
 have e1:(op==CmpOp.In)=false:=by cases op<;>first | rfl | exact absurd rfl h
 have e2:(op==CmpOp.NotIn)=false:=by cases op<;>first | rfl | exact absurd rfl h2
 cases b<;>simp[behindInMarks,e1,e2]
def tIsN(ta:TE):TE:=fun σ H Q=>ta σ H fun x H1=>Q (.bl (decide (x=.non))) H1
def tNotN(ta:TE):TE:=fun σ H Q=>ta σ H fun x H1=>Q (.bl (!decide (x=.non))) H1
theorem RelV.none_iff{x:V}{v:Value}(r:RelV x v):(v==Value.none)=decide (x=.non):=by
 cases x with
 | non=>cases r;rfl
 | bl _=>cases r;rfl
 | int _=>obtain⟨t,rfl⟩:=r;rfl
 | str _=>obtain⟨t,rfl⟩:=r;rfl
 | byt _=>obtain⟨t,rfl⟩:=r;rfl
 | flt _=>obtain⟨t,rfl⟩:=r;rfl
 | ref _=>cases r;rfl
 | ty _=>cases r;rfl
theorem pc_isN{j pos'}(ha:PE X a ta):PC X .Is a (.Constant .none j pos') (tIsN ta):=by
 intro pins s σ H Q I h;refine thn (ha pins s σ H _ I h) fun v s1 ⟨x,H1,I1,r1,q1⟩=>?_;exact Constant_none (is_none_gen ⟨.bl _,H1,I1,by rw[r1.none_iff];rfl,q1⟩)
theorem pc_notN{j pos'}(ha:PE X a ta):PC X .IsNot a (.Constant .none j pos') (tNotN ta):=by
 intro pins s σ H Q I h;refine thn (ha pins s σ H _ I h) fun v s1 ⟨x,H1,I1,r1,q1⟩=>?_;exact Constant_none (isnot_none_gen ⟨.bl _,H1,I1,by rw[r1.none_iff];rfl,q1⟩)
def tB(t:TE):TT:=fun σ H Q=>t σ H fun x H1=>∃ c,x=.bl c/\Q c H1
theorem pt_cmp{op:CmpOp}{t:TE}(h:PC X op a b t)(h1:behindInMarks op b=false:=by first | exact nobehind _ (by decide) (by decide) | rfl):PT X (.Compare a [op] [b] pos) (tB t):=by
 intro pins s σ H Q I hw;refine wpAny_isTrue_Compare1 (thn (h pins s σ H _ I hw) fun v s1 h1=>thn h1 fun u s2 h2=>thn h2 fun c s3 ⟨x,H1,I1,r1,q1⟩=>?_) h1;obtain⟨d,rfl,q⟩:=q1;cases r1;exact wpAny_truthy_bool ⟨H1,I1,q⟩
theorem pt_val{e:Expr}{t:TE}(h:PE X e t)(he:∀ whole,isTrue e X.env whole=(do let v <-whole;standAt e.pos;holding [v] (truthy v)):=by intro _;rfl):PT X e (tB t):=by
 intro pins s σ H Q I hw;refine isTrue_plain (thn (h pins s σ H _ I hw) fun v s1 ⟨x,H1,I1,r1,q1⟩=>?_) (he _);obtain⟨d,rfl,q⟩:=q1;cases r1;exact wpAny_truthy_bool ⟨H1,I1,q⟩
variable{tA tB':TT}{rest:List Expr}
def tAnd(t u:TT):TT:=fun σ H Q=>t σ H fun c H1=>if c=true then u σ H1 Q else Q false H1
def tOr(t u:TT):TT:=fun σ H Q=>t σ H fun c H1=>if c=true then Q true H1 else u σ H1 Q
def tNot(t:TT):TT:=fun σ H Q=>t σ H fun c H1=>Q (!c) H1
theorem pw_and1(ha:PT X a tA):PW X (.BoolOp .And [a] pos) tA:=by
 intro wh pins s σ H Q I h;refine isTrue_and (thn (ha pins s σ H Q I h) fun c s1 e=>?_);cases c with
 | true=>exact isTrue_and_nil e
 | false=>exact e
theorem pw_or1(ha:PT X a tA):PW X (.BoolOp .Or [a] pos) tA:=by
 intro wh pins s σ H Q I h;refine isTrue_or (thn (ha pins s σ H Q I h) fun c s1 e=>?_);cases c with
 | false=>exact isTrue_or_nil e
 | true=>exact e
theorem pw_and(ha:PT X a tA)(hb:PW X (.BoolOp .And (b::rest) pos) tB'):PW X (.BoolOp .And (a::b::rest) pos) (tAnd tA tB'):=by
 intro wh pins s σ H Q I h;refine isTrue_and (thn (ha pins s σ H _ I h) fun c s1 ⟨H1,I1,q1⟩=>?_);cases c with
 | true=>exact hb wh pins s1 σ H1 Q I1 q1
 | false=>exact⟨H1,I1,q1⟩
theorem pw_or(ha:PT X a tA)(hb:PW X (.BoolOp .Or (b::rest) pos) tB'):PW X (.BoolOp .Or (a::b::rest) pos) (tOr tA tB'):=by
 intro wh pins s σ H Q I h;refine isTrue_or (thn (ha pins s σ H _ I h) fun c s1 ⟨H1,I1,q1⟩=>?_);cases c with
 | true=>exact⟨H1,I1,q1⟩
 | false=>exact hb wh pins s1 σ H1 Q I1 q1
theorem pt_not(ha:PT X a tA):PT X (.UnaryOp .Not a pos) (tNot tA):=by
 intro pins s σ H Q I h;exact isTrue_not (ha pins s σ H (fun c H1=>Q (!c) H1) I h)
def tAndV(ta tb:TE):TE:=fun σ H Q=>ta σ H fun x H1=>∃ c,x=.bl c/\if c=true then tb σ H1 Q else Q (.bl false) H1
def tOrV(ta tb:TE):TE:=fun σ H Q=>ta σ H fun x H1=>∃ c,x=.bl c/\if c=true then Q (.bl true) H1 else tb σ H1 Q
theorem pe_one{op}{t:TE}(h:PE X a t):PE X (.BoolOp op [a] pos) t:=fun pins s σ H Q I hw=>BoolOp_one (h pins s σ H Q I hw)
theorem pe_and(ha:PE X a ta)(hb:PE X (.BoolOp .And (b::rest) pos) tb):PE X (.BoolOp .And (a::b::rest) pos) (tAndV ta tb):=by
 intro pins s σ H Q I h;refine BoolOp_and (thn (ha pins s σ H _ I h) fun v s1 ⟨x,H1,I1,r1,q1⟩=>?_);obtain⟨c,rfl,q1⟩:=q1;cases r1;refine wpAny_truthy_bool ?_;cases c with
 | true=>exact hb pins s1 σ H1 Q I1 q1
 | false=>exact⟨.bl false,H1,I1,rfl,q1⟩
theorem pe_or(ha:PE X a ta)(hb:PE X (.BoolOp .Or (b::rest) pos) tb):PE X (.BoolOp .Or (a::b::rest) pos) (tOrV ta tb):=by
 intro pins s σ H Q I h;refine BoolOp_or (thn (ha pins s σ H _ I h) fun v s1 ⟨x,H1,I1,r1,q1⟩=>?_);obtain⟨c,rfl,q1⟩:=q1;cases r1;refine wpAny_truthy_bool ?_;cases c with
 | false=>exact hb pins s1 σ H1 Q I1 q1
 | true=>exact⟨.bl true,H1,I1,rfl,q1⟩
def tIf(t:TT)(ta tb:TE):TE:=fun σ H Q=>t σ H fun c H1=>if c=true then ta σ H1 Q else tb σ H1 Q
theorem pe_ifExp{c:Expr}(hc:PT X c tA)(ha:PE X a ta)(hb:PE X b tb):PE X (.IfExp c a b pos) (tIf tA ta tb):=by
 intro pins s σ H Q I h;refine wpAny_IfExp (thn (hc pins s σ H _ I h) fun d s1 ⟨H1,I1,q1⟩=>?_);cases d with
 | true=>exact ha pins s1 σ H1 Q I1 q1
 | false=>exact hb pins s1 σ H1 Q I1 q1
end
end L2
namespace L2
open PySem PySem.Spec PyProof.Rows
def SqL(K:PySem.W.Frag)(H:Hp)(a:Addr)(xs:List V):Prop:=
 Rd H a (.lst xs)\/
  ∃ (o:Obj) (its:Array Value) (n:Nat),K.lookup a=some o/\o.cls=.type "list"/\o.dict=none/\o.data=.seq its n/\its.size<=sizeLine/\Vals xs its.toList
def SqT(K:PySem.W.Frag)(H:Hp)(a:Addr)(xs:List V):Prop:=
 Rd H a (.tup xs)\/
  ∃ (o:Obj) (its:Array Value) (n:Nat),K.lookup a=some o/\o.cls=.type "tuple"/\o.data=.seq its n/\its.size<=sizeLine/\Vals xs its.toList
def absV:Value->Option V
 | .none=>some .non
 | .bool b=>some (.bl b)
 | .int i _=>some (.int i)
 | .str x _=>some (.str x)
 | .bytes b _=>some (.byt b)
 | .float b _=>some (.flt b)
 | .ref a=>some (.ref a)
 | .type n=>some (.ty n)
 | _=>none
theorem RelV.abs{x:V}{u:Value}(r:RelV x u):absV u=some x:=by
 cases x with
 | non=>cases r;rfl
 | bl _=>cases r;rfl
 | int _=>obtain⟨t,rfl⟩:=r;rfl
 | str _=>obtain⟨t,rfl⟩:=r;rfl
 | byt _=>obtain⟨t,rfl⟩:=r;rfl
 | flt _=>obtain⟨t,rfl⟩:=r;rfl
 | ref _=>cases r;rfl
 | ty _=>cases r;rfl
theorem RelV.inj{x y:V}{u:Value}(r:RelV x u)(q:RelV y u):x=y:=Option.some.inj (r.abs.symm.trans q.abs)
theorem Vals.inj:∀ {xs ys:List V} {us:List Value},Vals xs us->Vals ys us->xs=ys
 | _,_,_,.nil,.nil=>rfl
 | _,_,_,.cons r t,.cons r' t'=>by rw[r.inj r',Vals.inj t t']
section
variable{X:Cx}{pins:List (Addr×Obj)}{σ:St}{H:Hp}{s:Shared}{a:Addr}{xs ys:List V}
theorem SqL.of{K:PySem.W.Frag}(h:H a=some (.lst xs)):SqL K H a xs:=.inl (.inl h)
theorem SqT.of{K:PySem.W.Frag}(h:H a=some (.tup xs)):SqT K H a xs:=.inl (.inl h)
theorem Inv.list(I:Inv X pins σ H s)(h:SqL X.K H a xs):∃ its:List Value,Vals xs its/\PlainL s.heap a its.toArray/\xs.length<=sizeLine:=by
 rcases h with h | ⟨o,its,n,hk,hc,hd,hs,hz,r⟩
 ·obtain⟨z,its,n,r,e⟩:=h.ok I.hok;exact⟨its,r,⟨_,n,e,rfl,rfl,rfl⟩,z⟩
 ·refine⟨its.toList,r,⟨o,n,I.kIn a o hk,hc,hd,by simpa using hs⟩,?_⟩;have e:=r.length;simp only[Array.length_toList] at e;omega
theorem Inv.tuple(I:Inv X pins σ H s)(h:SqT X.K H a xs):∃ its:List Value,Vals xs its/\IsTup s.heap a its.toArray/\xs.length<=sizeLine:=by
 rcases h with h | ⟨o,its,n,hk,hc,hs,hz,r⟩
 ·obtain⟨z,its,r,p⟩:=h.ok I.hok;exact⟨its,r,p,z⟩
 ·refine⟨its.toList,r,⟨o,I.kIn a o hk,hc,n,by simpa using hs⟩,?_⟩;have e:=r.length;simp only[Array.length_toList] at e;omega
theorem Inv.list_inj(I:Inv X pins σ H s)(h:SqL X.K H a xs)(h':SqL X.K H a ys):xs=ys:=by
 obtain⟨its,r,⟨o,n,e,_,_,d⟩,_⟩:=I.list h;obtain⟨its',r',⟨o',n',e',_,_,d'⟩,_⟩:=I.list h';rw[e] at e';cases e';rw[d] at d';injection d' with d1 _;have:its=its':=by simpa using congrArg Array.toList d1
 subst this;exact r.inj r'
theorem Inv.tuple_inj(I:Inv X pins σ H s)(h:SqT X.K H a xs)(h':SqT X.K H a ys):xs=ys:=by
 obtain⟨its,r,⟨o,e,_,n,d⟩,_⟩:=I.tuple h;obtain⟨its',r',⟨o',e',_,n',d'⟩,_⟩:=I.tuple h';rw[e] at e';cases e';rw[d] at d';injection d' with d1 _;have:its=its':=by simpa using congrArg Array.toList d1
 subst this;exact r.inj r'
end
abbrev Cx.wish(X:Cx)(E:Value->Shared->Prop):Cx:={X with xe:=E}
abbrev Cx.nox(X:Cx):Cx:=X.wish fun _ _=>False
theorem Cx.Ok.wish{X:Cx}(ok:X.Ok)(E:Value->Shared->Prop):(X.wish E).Ok:=
 ⟨ok.mod,ok.kind,ok.glob,ok.blt,ok.above,ok.inj,ok.has,ok.cab,ok.hd,ok.frames,ok.stk,ok.exf,ok.bs,ok.bsz,ok.noex,ok.exfs,ok.funs,ok.frf⟩
theorem Cx.Ok.unwish{X:Cx}{E:Value->Shared->Prop}(ok:(X.wish E).Ok):X.Ok:=
 ⟨ok.mod,ok.kind,ok.glob,ok.blt,ok.above,ok.inj,ok.has,ok.cab,ok.hd,ok.frames,ok.stk,ok.exf,ok.bs,ok.bsz,ok.noex,ok.exfs,ok.funs,ok.frf⟩
section
variable{X:Cx}{pins:List (Addr×Obj)}{σ:St}{H:Hp}{s:Shared}{E:Value->Shared->Prop}
theorem Inv.wish(I:Inv X pins σ H s)(E:Value->Shared->Prop):Inv (X.wish E) pins σ H s:=⟨I.ok.wish E,I.os,I.bare,I.base,I.loc,I.cell,I.free,I.freeC,I.pin,I.hok,I.len⟩
theorem Inv.unwish(I:Inv (X.wish E) pins σ H s):Inv X pins σ H s:=⟨I.ok.unwish,I.os,I.bare,I.base,I.loc,I.cell,I.free,I.freeC,I.pin,I.hok,I.len⟩
theorem SP.unwish{D:Ends}{f:Flow}{s':Shared}(h:SP (X.wish E) pins D f s'):SP X pins D f s':=by
 cases f with
 | next=>obtain⟨σ',H',I,q⟩:=h;exact⟨σ',H',I.unwish,q⟩
 | brk=>obtain⟨σ',H',I,q⟩:=h;exact⟨σ',H',I.unwish,q⟩
 | cont=>obtain⟨σ',H',I,q⟩:=h;exact⟨σ',H',I.unwish,q⟩
 | ret u=>obtain⟨v,σ',H',I,r,q⟩:=h;exact⟨v,σ',H',I.unwish,r,q⟩
theorem PSs.nox{st:List Stmt}{t:TS}(h:PSs X.nox st t):PSs X st t:=fun pins s σ H D I hw=>
 wpAny_mono (h pins s σ H D (I.wish _) hw) (fun _ _ q=>q.unwish) fun _ _ z=>False.elim z
end
section
variable{X:Cx}{st:Stmt}{rest:List Stmt}{t u:TS}{e:Expr}{te:TE}{pos:Pos}
def tNext:TS:=fun D σ H=>D.nx σ H
def tSeq(t u:TS):TS:=fun D σ H=>t {D with nx:=u D} σ H
theorem pss_nil:PSs X [] tNext:=fun _ _ σ H _ I h=>wpAny_execs_nil ⟨σ,H,I,h⟩
theorem pss_cons(h1:PS X st t)(h2:PSs X rest u):PSs X (st::rest) (tSeq t u):=by
 intro pins s σ H D I h;refine wpAny_execs_cons (thn (h1 pins s σ H {D with nx:=u D} I h) fun f s1 q=>?_);cases f with
 | next=>
  obtain⟨σ',H',I',q⟩:=q;exact h2 pins s1 σ' H' D I' q
 | ret v=>exact q
 | brk=>exact q
 | cont=>exact q
theorem pss_one(h1:PS X st t):PSs X [st] t:=by
 intro pins s σ H D I h;refine wpAny_execs_cons (thn (h1 pins s σ H D I h) fun f s1 q=>?_);cases f with
 | next=>exact wpAny_execs_nil q
 | ret v=>exact q
 | brk=>exact q
 | cont=>exact q
theorem Inv.quiet{pins:List (Addr×Obj)}{σ:St}{H:Hp}{s:Shared}(I:Inv X pins σ H s):interactive X.env=false:=by simp[interactive,I.ok.kind]
def tDrop(te:TE):TS:=fun D σ H=>te σ H fun _ H1=>D.nx σ H1
theorem ps_expr(he:PE X e te)(hs:swapsWith e none pos.line X.env=pure false:=by rfl):PS X (.Expr e pos) (tDrop te):=by
 intro pins s σ H D I h;exact wpAny_Expr_any (thn (he pins s σ H _ I h) fun v s1 ⟨x,H1,I1,r1,q1⟩=>⟨σ,H1,I1,q1⟩) I.quiet hs
def tRet(te:TE):TS:=fun D σ H=>te σ H D.rt
theorem ps_ret(he:PE X e te):PS X (.Return (some e) pos) (tRet te):=by
 intro pins s σ H D I h;exact wpAny_Return_some (thn (he pins s σ H _ I h) fun v s1 ⟨x,H1,I1,r1,q1⟩=>⟨x,σ,H1,I1,r1,q1⟩)
def tIfS(c:TT)(t u:TS):TS:=fun D σ H=>c σ H fun b H1=>if b=true then t D σ H1 else u D σ H1
theorem ps_if{c:Expr}{a b:List Stmt}{tc:TT}(hc:PT X c tc)(ha:PSs X a t)(hb:PSs X b u):PS X (.If c a b pos) (tIfS tc t u):=by
 intro pins s σ H D I h;refine wpAny_If (thn (hc pins s σ H _ I h) fun d s1 ⟨H1,I1,q1⟩=>?_);cases d with
 | true=>exact ha pins s1 σ H1 D I1 q1
 | false=>exact hb pins s1 σ H1 D I1 q1
end
abbrev TG:=V->St->Hp->(St->Hp->Prop)->Prop
abbrev TGs:=List V->St->Hp->(St->Hp->Prop)->Prop
def PG(X:Cx)(target:Expr)(t:TG):Prop:=
 ∀ (pins:List (Addr×Obj)) (s:Shared) (σ:St) (H:Hp) (v:V) (u:Value) (Q:St->Hp->Prop),Inv X pins σ H s->RelV v u->t v σ H Q->
  wpAny (model X.prog X.w) X.A (assign target X.env u) (fun _ s'=>∃ σ' H',Inv X pins σ' H' s'/\Q σ' H') X.xe s
def PGs(X:Cx)(ts:List Expr)(t:TGs):Prop:=
 ∀ (pins:List (Addr×Obj)) (s:Shared) (σ:St) (H:Hp) (vs:List V) (us:List Value) (Q:St->Hp->Prop),Inv X pins σ H s->Vals vs us->t vs σ H Q->
  wpAny (model X.prog X.w) X.A (assignInOrder ((assignEach ts X.env).map (·.2)) us) (fun _ s'=>∃ σ' H',Inv X pins σ' H' s'/\Q σ' H') X.xe s
abbrev TSet:=V->V->V->Hp->(Hp->Prop)->Prop
def PSet(X:Cx)(t:TSet):Prop:=
 ∀ (pins:List (Addr×Obj)) (s:Shared) (σ:St) (H:Hp) (o i v:V) (ov iv u:Value) (Q:Hp->Prop),Inv X pins σ H s->RelV o ov->RelV i iv->RelV v u->t o i v H Q->
  wpAny (model X.prog X.w) X.A (setItem ov iv u) (fun _ s'=>∃ H',Inv X pins σ H' s'/\Q H') X.xe s
abbrev TIp:=V->V->Hp->VK->Prop
def PIp(X:Cx)(op:Operator)(t:TIp):Prop:=
 ∀ (pins:List (Addr×Obj)) (s:Shared) (σ:St) (H:Hp) (x y:V) (v u:Value) (Q:VK),Inv X pins σ H s->RelV x v->RelV y u->t x y H Q->
  wpAny (model X.prog X.w) X.A (inplaceOp op v u) (EP X pins σ Q) X.xe s
section
variable{X:Cx}{pos:Pos}
def gName(i:Nat):TG:=fun v σ H Q=>Q (σ.set i (some v)) H
theorem pg_name{i:Nat}{x:Str}(hN:X.N.Nodup)(hi:X.N[i]?=some x)(hx:Loc X.env.scope x)(hf:X.fn x=true\/X.env.scope.names.lookup x=some .local:=by first | exact .inl rfl | exact .inr rfl | assumption):PG X (.Name x pos) (gName i):=by
 intro pins s σ H v u Q I r h;exact wpAny_assign_Name (store_ok I hN hi hx r (fun s' I'=>⟨_,H,I',h⟩) hf)
def gNil:TGs:=fun vs σ H Q=>vs=[]/\Q σ H
def gCons(t:TG)(u:TGs):TGs:=fun vs σ H Q=>∃ v r,vs=v::r/\t v σ H fun σ' H'=>u r σ' H' Q
theorem pgs_nil:PGs X [] gNil:=by
 intro pins s σ H vs us Q I r h;obtain⟨e,h⟩:=h;subst e;cases r;exact assignInOrder_nil ⟨σ,H,I,h⟩
theorem pgs_cons{e:Expr}{es:List Expr}{t:TG}{u:TGs}(h1:PG X e t)(h2:PGs X es u)(hs:(assignEach (e::es) X.env).map (·.2)=assign e X.env::(assignEach es X.env).map (·.2):=by rfl):PGs X (e::es) (gCons t u):=by
 intro pins s σ H vs us Q I r h;obtain⟨v,vr,e1,h⟩:=h;subst e1;cases r with
 | cons r rr=>
  rw[hs];refine assignInOrder_cons (thn (h1 pins s σ H _ _ _ I r h) fun _ s1 ⟨σ1,H1,I1,q1⟩=>?_);exact h2 pins s1 σ1 H1 _ _ Q I1 rr q1
def gTup(K:PySem.W.Frag)(n:Nat)(t:TGs):TG:=fun v σ H Q=>∃ a xs,v=.ref a/\SqT K H a xs/\xs.length=n/\t xs σ H Q
theorem pg_tup{es:List Expr}{k:Nat}{t:TGs}{n:Nat}(hc:X.calm=true)(h:PGs X es t)(hn:(assignEach es X.env).length=n:=by rfl)(hst:(assignEach es X.env).findIdx? (·.1)=none:=by rfl):PG X (.Tuple es k pos) (gTup X.K n t):=by
 intro pins s σ H v u Q I r hw;obtain⟨a,xs,e1,hq,hl,hw⟩:=hw;subst e1;cases r;obtain⟨its,rv,ht,hz⟩:=I.tuple hq;refine assign_Tuple_tuple (I.ok.hd hc) ht (by simp[hn,<-hl,rv.length]) hst fun h' hx=>?_;have I1:Inv X pins σ H {s with heap:=h'}:=I.kept (t':=s.toks) fun b o e=>hx b o (Nat.ne_of_lt (Heap.lt_size e)) e;exact h pins _ σ H xs _ Q I1 (by simpa using rv) hw
def gSub(to ti:TE)(t:TSet):TG:=fun v σ H Q=>to σ H fun o H1=>ti σ H1 fun i H2=>t o i v H2 fun H3=>Q σ H3
theorem pg_sub{o i:Expr}{to ti:TE}{t:TSet}(ho:PE X o to)(hi:PE X i ti)(hs:PSet X t)(ha:∀ v,assign (.Subscript o i pos) X.env v=(do
   let ov <-holding [v] (eval o X.env)
   let iv <-holding [v,ov] (eval i X.env)
   standAt pos
   holding [v,ov,iv] (setItem ov iv v)
   release [v,ov,iv] []):=by intro _;rfl):PG X (.Subscript o i pos) (gSub to ti t):=by
 intro pins s σ H v u Q I r h;rw[ha];refine wpAny_bind (wpAny_holding (thn (ho pins s σ H _ I h) fun ov s1 ⟨x,H1,I1,r1,q1⟩=>?_));refine wpAny_bind (wpAny_holding (thn (hi pins s1 σ H1 _ I1 q1) fun iv s2 ⟨y,H2,I2,r2,q2⟩=>?_));refine wpAny_bind (wpAny_standAt (wpAny_bind (wpAny_holding (thn (hs pins s2 σ H2 x y v ov iv u _ I2 r1 r2 r q2) fun _ s3 ⟨H3,I3,q3⟩=>?_))));exact wpAny_release ⟨σ,H3,I3,q3⟩
def tAsg(te:TE)(g:TG):TS:=fun D σ H=>te σ H fun x H1=>g x σ H1 D.nx
theorem ps_asg{tg e:Expr}{te:TE}{g:TG}(he:PE X e te)(hg:PG X tg g)(hs:swapsWithSole [tg] e pos.line X.env=pure false:=by rfl)(hw:swappedStores [tg] e X.env=pure none:=by rfl)(h1:(assignEach [tg] X.env).map (·.2)=[assign tg X.env]:=by rfl):PS X (.Assign [tg] e pos) (tAsg te g):=by
 intro pins s σ H D I h;refine wpAny_Assign_stores (thn (he pins s σ H _ I h) fun v s1 ⟨x,H1,I1,r1,q1⟩=>?_) hs hw;rw[h1];exact thn (hg pins s1 σ H1 x v _ I1 r1 q1) fun _ s2 q=>q
theorem ps_set{i:Nat}{x:Str}{e:Expr}{te:TE}{pos':Pos}(hN:X.N.Nodup)(hi:X.N[i]?=some x)(hx:Loc X.env.scope x)(he:PE X e te)(hs:swapsWith e (some (.Name x pos')) pos.line X.env=pure false:=by rfl)(hf:X.fn x=true\/X.env.scope.names.lookup x=some .local:=by first | exact .inl rfl | exact .inr rfl | assumption):
  PS X (.Assign [.Name x pos'] e pos) (tAsg te (gName i)):=by
 intro pins s σ H D I h;refine wpAny_Assign_Name (thn (he pins s σ H _ I h) fun v s1 ⟨y,H1,I1,r1,q1⟩=>?_) hs;exact store_ok I1 hN hi hx r1 (fun s2 I2=>⟨_,H1,I2,q1⟩) hf
def tAugS(to ti te:TE)(tget:V->V->Hp->VK->Prop)(tip:TIp)(tset:TSet):TS:=fun D σ H=>to σ H fun o H1=>ti σ H1 fun i H2=>tget o i H2 fun x H3=>te σ H3 fun y H4=>tip x y H4 fun z H5=>tset o i z H5 fun H6=>D.nx σ H6
def PGet(X:Cx)(t:V->V->Hp->VK->Prop):Prop:=
 ∀ (pins:List (Addr×Obj)) (s:Shared) (σ:St) (H:Hp) (o i:V) (ov iv:Value) (Q:VK),Inv X pins σ H s->RelV o ov->RelV i iv->t o i H Q->
  wpAny (model X.prog X.w) X.A (getItem ov iv) (EP X pins σ Q) X.xe s
theorem ps_augS{o i e:Expr}{to ti te:TE}{tget:V->V->Hp->VK->Prop}{tip:TIp}{tset:TSet}{op:Operator}{tpos:Pos}(ho:PE X o to)(hi:PE X i ti)(hg:PGet X tget)(he:PE X e te)(hp:PIp X op tip)(hs:PSet X tset)(ha:∀ ov iv new,augStore i ov iv new=(do holding [new,ov,iv] (setItem ov iv new);release [new,ov,iv] [];pure .next):=by intros;rfl):PS X (.AugAssign (.Subscript o i tpos) op e pos) (tAugS to ti te tget tip tset):=by
 intro pins s σ H D I h;refine wpAny_AugAssign_SubscriptAny (thn (ho pins s σ H _ I h) fun ov s1 ⟨x1,H1,I1,r1,q1⟩=>?_) ha;refine thn (hi pins s1 σ H1 _ I1 q1) fun iv s2 ⟨x2,H2,I2,r2,q2⟩=>?_;refine thn (hg pins s2 σ H2 x1 x2 ov iv _ I2 r1 r2 q2) fun old s3 ⟨x3,H3,I3,r3,q3⟩=>?_;refine thn (he pins s3 σ H3 _ I3 q3) fun v s4 ⟨x4,H4,I4,r4,q4⟩=>?_;refine thn (hp pins s4 σ H4 x3 x4 old v _ I4 r3 r4 q4) fun new s5 ⟨x5,H5,I5,r5,q5⟩=>?_;exact thn (hs pins s5 σ H5 x1 x2 x5 ov iv new _ I5 r1 r2 r5 q5) fun _ s6 ⟨H6,I6,q6⟩=>⟨σ,H6,I6,q6⟩
def ipI(f:Int->Int->Int):TIp:=fun x y H Q=>∃ i j,x=.int i/\y=.int j/\Q (.int (f i j)) H
theorem ip_add:PIp X .Add (ipI fun i j=>i+j):=by
 intro pins s σ H x y v u Q I r1 r2 h;obtain⟨i,j,e1,e2,q⟩:=h;subst e1;subst e2;obtain⟨t,rfl⟩:=r1;obtain⟨t',rfl⟩:=r2;exact iadd_int ⟨.int _,H,I.tok _,⟨_,rfl⟩,q⟩
end
section
variable{X:Cx}{pos:Pos}
def tWhile(c:TT)(tb:TS):TS:=fun D σ H=>∃ W:Nat->St->Hp->Prop,(∃ m,W m σ H)/\∀ m σ H,W m σ H->
 c σ H fun b H1=>if b=true then ∃ N:St->Hp->Prop,(∀ σ' H',N σ' H'->∃ m',m'<m/\W m' σ' H')/\tb {D with nx:=N,ct:=N,bk:=D.nx} σ H1 else D.nx σ H1
theorem ps_while{c:Expr}{body:List Stmt}{tc:TT}{tb:TS}(hp:PassesOwn (model X.prog X.w) X.A X.env X.xe)(hc:PT X c tc)(hb:PSs X body tb):PS X (.While c body [] pos) (tWhile tc tb):=by
 intro pins s σ H D I h;obtain⟨W,⟨m0,w0⟩,turn⟩:=h;refine wpAny_While (codeAny_whileLoop (fun n s'=>∃ σ' H',Inv X pins σ' H' s'/\W n σ' H') ?_ m0 ⟨σ,H,I,w0⟩);rintro n s1 ⟨σ1,H1,I1,w1⟩;refine wpAny_passesOwn hp (thn (hc pins s1 σ1 H1 _ I1 (turn n σ1 H1 w1)) fun b s2 ⟨H2,I2,q2⟩=>?_);cases b with
 | true=>
  obtain⟨N,hN,q2⟩:=q2;rw[if_pos rfl];refine wpAny_passesOwn hp (thn (hb pins s2 σ1 H2 _ I2 q2) fun f s3 q3=>?_);cases f with
  | next=>
   obtain⟨σ3,H3,I3,n3⟩:=q3;obtain⟨m',hm,w3⟩:=hN σ3 H3 n3;exact⟨m',hm,σ3,H3,I3,w3⟩
  | cont=>
   obtain⟨σ3,H3,I3,n3⟩:=q3;obtain⟨m',hm,w3⟩:=hN σ3 H3 n3;exact⟨m',hm,σ3,H3,I3,w3⟩
  | brk=>exact q3
  | ret v=>exact q3
 | false=>
  rw[if_neg Bool.false_ne_true];exact wpAny_execs_nil ⟨σ1,H2,I2,q2⟩
end
structure It where
 go:Nat->Hp->Prop
 yld:Nat->Hp->V->Hp->Prop
 stop:Nat->Hp->Prop
def FpOk(X:Cx)(pins:List (Addr×Obj))(H:Hp)(b:Addr):Prop:=
 H b=none/\b≠X.env.locals/\b∉X.fs/\(b∈X.ex\/X.s_0.heap.objs.size<=b)/\(∀ x c,X.env.cells.lookup x=some c->c≠b)/\∀ p∈X.pn++pins,p.1≠b
theorem Inv.fpOk{X:Cx}{pins:List (Addr×Obj)}{σ:St}{H H':Hp}{s:Shared}{b:Addr}(I:Inv X pins σ H s)(hb:s.heap.objs.size<=b)(hn:H' b=none):FpOk X pins H' b:=by
 refine⟨hn,Nat.ne_of_gt (Nat.lt_of_lt_of_le I.lt hb),I.nofs hb,.inr (Nat.le_trans I.sz hb),fun x c e z=>?_,fun p hp z=>?_⟩
 ·obtain⟨v,q⟩:=I.cell x c e;exact absurd (Nat.lt_of_lt_of_le q.lt (by rw[z];exact hb)) (Nat.lt_irrefl _)
 ·exact absurd (Nat.lt_of_lt_of_le (Heap.lt_size (I.pin p hp).1) (by rw[z];exact hb)) (Nat.lt_irrefl _)
structure Turn(P:Program)(w:World)(K:PySem.W.Frag)(tg:Expr)(J:It)(fp:List Addr)(it:Addr)(tn:Nat->Heap->Prop):Prop where
 mem:it∈fp
 obj:∀ i h,tn i h->∀ b∈fp,∃ o,h.get? b=some o/\∀ v,o.data≠.cell v
 keep:∀ i h h',tn i h->(∀ b∈fp,∀ o,h.get? b=some o->h'.get? b=some o)->tn i h'
 item:∀ (X:Cx),X.prog=P->X.w=w->X.K=K->X.calm=true->∀ (i:Nat) (pins:List (Addr×Obj)) (s:Shared) (σ:St) (H:Hp) (E:Value->Shared->Prop),Inv X pins σ H s->(∀ b∈fp,FpOk X pins H b)->tn i s.heap->J.go i H->
  wpAny (model P w) X.A (pyNext (.ref it)) (fun r s1=>∃ u,r=some u/\
   wpAny (model P w) X.A (letOwnedTupleGo tg (.ref it) u) (fun _ s2=>∃ x H',Inv X pins σ H' s2/\RelV x u/\J.yld i H x H'/\tn (i+1) s2.heap/\∀ b∈fp,H' b=none) E s1) E s
 done:∀ (X:Cx),X.prog=P->X.w=w->X.K=K->X.calm=true->∀ (i:Nat) (pins:List (Addr×Obj)) (s:Shared) (σ:St) (H:Hp) (E:Value->Shared->Prop),Inv X pins σ H s->(∀ b∈fp,FpOk X pins H b)->tn i s.heap->J.stop i H->
  wpAny (model P w) X.A (pyNext (.ref it)) (fun r s1=>r=none/\Inv X pins σ H s1) E s
 self:∀ (A:Around) (i:Nat) (s:Shared) (Q:Value->Shared->Prop) (E:Value->Shared->Prop),tn i s.heap->Q (.ref it) s->wpAny (model P w) A (pyIter (.ref it)) Q E s
abbrev TI:=St->Hp->(It->Hp->Prop)->Prop
def PIE(X:Cx)(pins:List (Addr×Obj))(σ:St)(tg:Expr)(R:It->Hp->Prop)(itv:Value)(s2:Shared):Prop:=
 ∃ (it:Addr) (fp:List Addr) (tn:Nat->Heap->Prop) (J:It) (H':Hp),itv=.ref it/\Inv X pins σ H' s2/\Turn X.prog X.w X.K tg J fp it tn/\tn 0 s2.heap/\(∀ b∈fp,FpOk X pins H' b)/\R J H'
def PI(X:Cx)(tg iter:Expr)(wi:TI):Prop:=
 ∀ (pins:List (Addr×Obj)) (s:Shared) (σ:St) (H:Hp) (R:It->Hp->Prop),Inv X pins σ H s->wi σ H R->
  wpAny (model X.prog X.w) X.A (eval iter X.env) (fun v s1=>wpAny (model X.prog X.w) X.A (pyIter v) (PIE X pins σ tg R) X.xe s1) X.xe s
theorem go_of{M:Model}{A:Around}{E:Value->Shared->Prop}{s:Shared}{tg:Expr}{it:Addr}{u:Value}{o:Obj}{n:String}{vs:Array Value}{Q:Unit->Shared->Prop}(ho:s.heap.get? it=some o)(hc:o.cls=.type n)(hd:o.data=.fields vs)(hn:["enumerate","zip","dict_itemiterator","dict_reverseitemiterator","odict_iterator","itertools.zip_longest","itertools.pairwise"].contains n=false)(hQ:Q () s):wpAny M A (letOwnedTupleGo tg (.ref it) u) Q E s:=by
  unfold letOwnedTupleGo;cases tg<;>first
    | exact wpAny_pure hQ
    | (cases u<;>first
        | exact wpAny_pure hQ
        | (refine wpAny_bind (wpAny_load ho ?_)
           rw[hc,hd];show wpAny M A (if (["enumerate","zip","dict_itemiterator","dict_reverseitemiterator","odict_iterator","itertools.zip_longest","itertools.pairwise"].contains n&&vs[0]?==some (rawInt _))=true then _ else _) Q E s;rw[if_neg (by intro h;rw[hn,Bool.false_and] at h;cases h)];exact wpAny_pure hQ))
def Itl(K:PySem.W.Frag)(a:Addr):It:=
 ⟨fun i H=>∃ xs x,SqL K H a xs/\xs[i]?=some x,fun i H x H'=>H'=H/\∀ xs,SqL K H a xs->xs[i]?=some x,fun i H=>∃ xs,SqL K H a xs/\xs.length<=i⟩
def Itr(lo:Int)(n:Nat):It:=⟨fun i _=>i<n,fun i H x H'=>H'=H/\x=.int (lo+i),fun i _=>n<=i⟩
theorem turn_list{P:Program}{w:World}{K:PySem.W.Frag}{tg:Expr}(a it:Addr):Turn P w K tg (Itl K a) [it] it (fun i h=>h.IsListIter it a i) where
 mem:=by simp
 obj:=fun i h st b hb=>by
  have e:b=it:=by simpa using hb
  subst e;obtain⟨o,e,c,d⟩:=st;exact⟨o,e,fun v z=>by rw[d] at z;cases z⟩
 keep:=fun i h h' st k=>st.at fun o e=>k it (by simp) o e
 item:=by
  intro X hP hw hK hc i pins s σ H E I hf st hg;subst hP hw hK;obtain⟨xs,x,hq,hx⟩:=hg;obtain⟨its,rv,p,hz⟩:=I.list hq;obtain⟨u,hu,ru⟩:=rv.get hx;obtain⟨f0,f1,f2,f3,f4,f5⟩:=hf it (by simp);refine wpAny_pyNext_list_item st p.isList (x:=u) (by simpa using hu) fun h' st' sb=>?_;have I1:Inv X pins σ H {s with heap:=h'}:=I.turned (t':=s.toks) (fun b o hb e=>(sb.2 b hb).trans e) f0 f1 f3 f4 f5;obtain⟨o,e,c,d⟩:=id st';exact⟨u,rfl,go_of (s:={s with heap:=h'}) e c d (by decide) ⟨x,H,I1,ru,⟨rfl,fun ys hy=>by rw[I.list_inj hy hq];exact hx⟩,st',fun b hb=>(hf b hb).1⟩⟩
 done:=by
  intro X hP hw hK hc i pins s σ H E I hf st hg;subst hP hw hK;obtain⟨xs,hq,hx⟩:=hg;obtain⟨its,rv,p,hz⟩:=I.list hq;obtain⟨f0,f1,f2,f3,f4,f5⟩:=hf it (by simp);have hl:=rv.length;exact wpAny_pyNext_list_end (I.ok.hd hc) st p.isList (by simp;omega) fun h' eb=>⟨rfl,I.turned (t':=s.toks) (fun b o hb e=>eb b o hb e) f0 f1 f3 f4 f5⟩
 self:=fun _ _ _ _ _ st h=>wpAny_pyIter_listiter st h
theorem turn_range{P:Program}{w:World}{K:PySem.W.Frag}{tg:Expr}(it:Addr)(lo:Int)(n:Nat):Turn P w K tg (Itr lo n) [it] it (fun i h=>IsRangeIter h it (lo+(i:Nat)*1) ((n:Int)-(i:Nat)) 1) where
 mem:=by simp
 obj:=fun i h st b hb=>by
  have e:b=it:=by simpa using hb
  subst e;exact⟨_,st,fun v z=>by
   have z':Data.fields _=Data.cell v:=z;cases z'⟩
 keep:=fun i h h' st k=>k it (by simp) _ st
 item:=by
  intro X hP hw hK hc i pins s σ H E I hf st hg;subst hP hw hK;obtain⟨f0,f1,f2,f3,f4,f5⟩:=hf it (by simp);have W:=Walks.range (prog:=X.prog) (w:=X.w) (I.ok.hd hc) it lo 1 n;refine W.item i s _ _ hg st fun v h' tk hv st' kk=>?_;obtain⟨t,rfl⟩:=hv;have I1:Inv X pins σ H {s with heap:=h',toks:=tk}:=I.turned (fun b o hb e=>kk b o (by simpa using hb) e) f0 f1 f3 f4 f5;refine⟨_,rfl,go_of (s:={s with heap:=h',toks:=tk}) (n:="range_iterator") st' rfl rfl (by decide) ⟨.int (lo+i),H,I1,⟨t,?_⟩,⟨rfl,rfl⟩,st',fun b hb=>(hf b hb).1⟩⟩;rw[Int.mul_one]
 done:=by
  intro X hP hw hK hc i pins s σ H E I hf st hg;subst hP hw hK;obtain⟨f0,f1,f2,f3,f4,f5⟩:=hf it (by simp);exact wpAny_pyNext_range_end (I.ok.hd hc) st (by have:n<=i:=hg;omega) fun h' eb=>⟨rfl,I.turned (t':=s.toks) (fun b o hb e=>eb b o hb e) f0 f1 f3 f4 f5⟩
 self:=fun _ _ _ _ _ st h=>wpAny_pyIter_rangeiter st h
end L2
namespace L2
open PySem PySem.Spec PyProof.Rows
section
variable{X:Cx}{tg:Expr}
def iList(K:PySem.W.Frag)(tl:TE):TI:=fun σ H R=>tl σ H fun x H1=>∃ a,x=.ref a/\(∃ xs,SqL K H1 a xs)/\R (Itl K a) H1
theorem pi_list{l:Expr}{tl:TE}(hl:PE X l tl):PI X tg l (iList X.K tl):=by
 intro pins s σ H R I h;refine thn (hl pins s σ H _ I h) fun v s1 ⟨x,H1,I1,r1,q1⟩=>?_;obtain⟨a,e,⟨xs,hq⟩,q⟩:=q1;subst e;cases r1;obtain⟨its,rv,p,hz⟩:=I1.list hq;refine wpAny_pyIter_list p.isList ?_;refine⟨s1.heap.objs.size,[s1.heap.objs.size],_,_,H1,rfl,I1.kept (t':=s1.toks) fun b o e=>Heap.get?_push_of_some _ e,turn_list a _,⟨_,Heap.get?_push_size _ rfl,rfl,rfl⟩,fun b hb=>?_,q⟩;have e:b=s1.heap.objs.size:=by simpa using hb
 subst e;exact I1.fpOk (Nat.le_refl _) (I1.hok.fresh (Nat.le_refl _))
theorem range_it{pins:List (Addr×Obj)}{σ:St}{H:Hp}{s:Shared}{R:It->Hp->Prop}{E:Value->Shared->Prop}{lo hi:Int}{t u v:Tok}{tk:Nat}(I:Inv X pins σ H s)(h1:-(2^62)<=lo)(h2:lo<2^62)(h3:-(2^62)<=hi)(h4:hi<2^62)(q:R (Itr lo (hi-lo).toNat) H):wpAny (model X.prog X.w) X.A (pyIter (.ref s.heap.objs.size)) (PIE X pins σ tg R) E {s with heap:=s.heap.push {cls:=.type "range",data:=.fields #[.int lo t,.int hi u,.int 1 v]},toks:=tk}:=by
 refine wpAny_pyIter_range (IsRange.new ..) (small_one h1 h2 h3 h4) ?_;have I1:Inv X pins σ H {s with heap:=s.heap.push {cls:=.type "range",data:=.fields #[.int lo t,.int hi u,.int 1 v]},toks:=tk}:=I.kept fun b o e=>Heap.get?_push_of_some _ e;refine⟨(s.heap.push {cls:=.type "range",data:=.fields #[.int lo t,.int hi u,.int 1 v]}).objs.size,[(s.heap.push {cls:=.type "range",data:=.fields #[.int lo t,.int hi u,.int 1 v]}).objs.size],_,_,H,rfl,
  I1.kept (t':=tk) fun b o e=>Heap.get?_push_of_some _ e,turn_range _ lo (hi-lo).toNat,?_,fun b hb=>?_,q⟩
 ·have e1:lo+((0:Nat):Int)*1=lo:=by simp
  have e2:(((hi-lo).toNat:Nat):Int)-((0:Nat):Int)=Builtin.Range.rangeSize lo hi 1:=by rw[rangeSize_one];split<;>omega
  show IsRangeIter _ _ (lo+((0:Nat):Int)*1) ((((hi-lo).toNat:Nat):Int)-((0:Nat):Int)) 1;rw[e1,e2];exact Heap.get?_push_size _ rfl
 ·have e:b=(s.heap.push {cls:=.type "range",data:=.fields #[.int lo t,.int hi u,.int 1 v]}).objs.size:=by simpa using hb
  subst e;exact I1.fpOk (Nat.le_refl _) (I1.hok.fresh (Nat.le_refl _))
def iRng1(ta:TA):TI:=fun σ H R=>ta σ H fun vs H1=>∃ j:Int,vs=[.int j]/\-(2^62)<=j/\j<2^62/\R (Itr 0 j.toNat) H1
def iRng2(ta:TA):TI:=fun σ H R=>ta σ H fun vs H1=>∃ i j:Int,vs=[.int i,.int j]/\(-(2^62)<=i/\i<2^62/\-(2^62)<=j/\j<2^62)/\R (Itr i (j-i).toNat) H1
theorem pi_range1{a:Expr}{ta:TA}{p pos:Pos}(hg:Gl X "range")(hm:X.mg "range"=none)(ha:PA X [a] ta)(hs:starEach [a] X.env=[(false,eval a X.env)]:=by rfl):PI X tg (.Call (.Name "range" p) [a] [] pos) (iRng1 ta):=by
 intro pins s σ H R I h;refine Call_ (ld_blt I hg hm boot_range (PyProof.Rows.callWith_type1 (thn (ha pos pins s σ H _ I h) fun us s1 ⟨vs,H1,I1,r1,q1⟩=>?_) hs rfl));obtain⟨j,e,q1,q2,q⟩:=q1;subst e;cases r1 with
 | cons r rr=>
  cases rr;obtain⟨t,rfl⟩:=r;exact call_range_1 (range_it I1 (by omega) (by omega) q1 q2 (by simpa using q))
theorem pi_range2{a b:Expr}{ta:TA}{p pos:Pos}(hg:Gl X "range")(hm:X.mg "range"=none)(ha:PA X [a,b] ta)(hs:starEach [a,b] X.env=[(false,eval a X.env),(false,eval b X.env)]:=by rfl)(hs2:starEach [b] X.env=[(false,eval b X.env)]:=by rfl):
  PI X tg (.Call (.Name "range" p) [a,b] [] pos) (iRng2 ta):=by
 intro pins s σ H R I h;refine Call_ (ld_blt I hg hm boot_range (PyProof.Rows.callWith_type1 (thn (ha pos pins s σ H _ I h) fun us s1 ⟨vs,H1,I1,r1,q1⟩=>?_) (by rw[hs,hs2]) (by rw[hs2];rfl)));obtain⟨i,j,e,⟨q1,q2,q3,q4⟩,q⟩:=q1;subst e;cases r1 with
 | cons r rr=>
  cases rr with
  | cons r' rr=>
   cases rr;obtain⟨t,rfl⟩:=r;obtain⟨t',rfl⟩:=r';exact call_range_2 (range_it I1 q1 q2 q3 q4 q)
def tFor(wi:TI)(g:TG)(tb:TS):TS:=fun D σ H=>wi σ H fun J H1=>∃ W:Nat->Nat->St->Hp->Prop,(∃ m,W 0 m σ H1)/\∀ i m σ H,W i m σ H->
 (J.stop i H/\D.nx σ H)\/(J.go i H/\∃ N:St->Hp->Prop,(∀ σ' H',N σ' H'->∃ m',m'<m/\W (i+1) m' σ' H')/\∀ x H',J.yld i H x H'->g x σ H' fun σ2 H2=>tb {D with nx:=N,ct:=N,bk:=D.nx} σ2 H2)
def pinsAt(fp:List Addr)(h:Heap):List (Addr×Obj):=fp.filterMap fun b=>(h.get? b).map fun o=>(b,o)
theorem mem_pinsAt{fp:List Addr}{h:Heap}{b:Addr}{o:Obj}(hb:b∈fp)(e:h.get? b=some o):(b,o)∈pinsAt fp h:=List.mem_filterMap.mpr ⟨b,hb,by rw[e];rfl⟩
theorem of_pinsAt{fp:List Addr}{h:Heap}{p:Addr×Obj}(hp:p∈pinsAt fp h):p.1∈fp/\h.get? p.1=some p.2:=by
 obtain⟨b,hb,e⟩:=List.mem_filterMap.mp hp;cases q:h.get? b with
 | none=>rw[q] at e;cases e
 | some o=>
  rw[q] at e;have e':(b,o)=p:=Option.some.inj e;subst e';exact⟨hb,q⟩
theorem Inv.pinned{pins:List (Addr×Obj)}{σ:St}{H:Hp}{s:Shared}{fp:List Addr}(I:Inv X pins σ H s)(hf:∀ b∈fp,FpOk X pins H b)(ho:∀ b∈fp,∃ o,s.heap.get? b=some o/\∀ v,o.data≠.cell v):Inv X (pins++pinsAt fp s.heap) σ H s:=
 I.pins_of fun p hp=>(List.mem_append.mp hp).elim (fun z=>I.pin p (List.mem_append_right _ z)) fun z=>by
  obtain⟨hb,e⟩:=of_pinsAt z;obtain⟨f0,f1,f2,_⟩:=hf p.1 hb;obtain⟨o,e',d⟩:=ho p.1 hb;rw[e] at e';cases e';exact⟨e,f0,f1,f2,d⟩
theorem Inv.unpinned{pins pl:List (Addr×Obj)}{σ:St}{H:Hp}{s:Shared}(I:Inv X (pins++pl) σ H s):Inv X pins σ H s:=I.pins_of fun p hp=>I.pin p (List.mem_append_right _ (List.mem_append_left _ hp))
theorem ps_for{iter:Expr}{body:List Stmt}{wi:TI}{g:TG}{tb:TS}{pos:Pos}(hp:PassesOwn (model X.prog X.w) X.A X.env X.xe)(hc:X.calm=true)(hi:PI X tg iter wi)(hg:PG X tg g)(hb:PSs X body tb)(hs:∀ x,foldedSetIterable iter X.env x=pure x:=by intro _;rfl):PS X (.For tg iter body [] pos) (tFor wi g tb):=by
 intro pins s σ H D I h;refine wpAny_For (thn (hi pins s σ H _ I h) fun v s1 h1=>thn h1 fun itv s2 h2=>?_) hs;obtain⟨it,fp,tn,J,H2,e,I2,T,st2,f2,W,⟨m0,w0⟩,turn⟩:=h2;subst e;have stat:∀ {H':Hp},(∀ b∈fp,H' b=none)->∀ b∈fp,FpOk X pins H' b:=fun hn b hb=>⟨hn b hb,(f2 b hb).2⟩;refine codeAny_forLoop_any (fun n s'=>∃ i σ' H',Inv X pins σ' H' s'/\tn i s'.heap/\(∀ b∈fp,H' b=none)/\W i n σ' H') ?_ m0 ⟨0,σ,H2,I2,st2,fun b hb=>(f2 b hb).1,w0⟩;rintro n s3 ⟨i,σ3,H3,I3,st3,fr3,w3⟩;rcases turn i n σ3 H3 w3 with ⟨stop,qn⟩ | ⟨go,N,hN,step⟩
 ·refine wpAny_passesOwn hp (thn (T.done X rfl rfl rfl hc i pins s3 σ3 H3 X.xe I3 (stat fr3) st3 stop) fun r s4 ⟨hr,I4⟩=>?_);subst hr;exact wpAny_execs_nil ⟨σ3,H3,I4,qn⟩
 ·refine wpAny_passesOwn hp (thn (T.item X rfl rfl rfl hc i pins s3 σ3 H3 X.xe I3 (stat fr3) st3 go) fun r s4 ⟨u,hr,h4⟩=>?_);subst hr;refine wpAny_passesOwn hp (thn h4 fun _ s5 ⟨x,H5,I5,r5,y5,st5,fr5⟩=>?_);have I5':=I5.pinned (stat fr5) (T.obj _ _ st5);refine wpAny_passesOwn hp (thn (hg _ s5 σ3 H5 x u _ I5' r5 (step x H5 y5)) fun _ s6 ⟨σ6,H6,I6,q6⟩=>?_);refine wpAny_passesOwn hp (thn (hb _ s6 σ6 H6 _ I6 q6) fun f s7 q7=>?_);have again:∀ {σ7:St} {H7:Hp},Inv X (pins++pinsAt fp s5.heap) σ7 H7 s7->N σ7 H7->∃ m,m<n/\∃ i σ' H',Inv X pins σ' H' s7/\tn i s7.heap/\(∀ b∈fp,H' b=none)/\W i m σ' H':=fun {σ7 H7} I7 n7=>by
   obtain⟨m',hm,w7⟩:=hN σ7 H7 n7;refine⟨m',hm,i+1,σ7,H7,I7.unpinned,T.keep _ _ _ st5 fun b hb o e=>(I7.pin (b,o) (List.mem_append_right _ (List.mem_append_right _ (mem_pinsAt hb e)))).1,fun b hb=>?_,w7⟩;obtain⟨o,e,d⟩:=T.obj _ _ st5 b hb;exact(I7.pin (b,o) (List.mem_append_right _ (List.mem_append_right _ (mem_pinsAt hb e)))).2.1
  cases f with
  | next=>obtain⟨σ7,H7,I7,n7⟩:=q7;exact again I7 n7
  | cont=>obtain⟨σ7,H7,I7,n7⟩:=q7;exact again I7 n7
  | brk=>obtain⟨σ7,H7,I7,q7⟩:=q7;exact⟨σ7,H7,I7.unpinned,q7⟩
  | ret v=>obtain⟨x7,σ7,H7,I7,r7,q7⟩:=q7;exact⟨x7,σ7,H7,I7.unpinned,r7,q7⟩
end
end L2
namespace L2
open PySem PySem.Spec PyProof.Rows
abbrev R2:=V->V->Hp->VK->Prop
def OpR(X:Cx)(f:Value->Value->Sem Value)(r:R2):Prop:=
 ∀ (pins:List (Addr×Obj)) (s:Shared) (σ:St) (H:Hp) (x y:V) (v u:Value) (Q:VK),Inv X pins σ H s->RelV x v->RelV y u->r x y H Q->
  wpAny (model X.prog X.w) X.A (f v u) (EP X pins σ Q) X.xe s
def UnR(X:Cx)(f:Value->Sem Value)(r:V->Hp->VK->Prop):Prop:=
 ∀ (pins:List (Addr×Obj)) (s:Shared) (σ:St) (H:Hp) (x:V) (v:Value) (Q:VK),Inv X pins σ H s->RelV x v->r x H Q->
  wpAny (model X.prog X.w) X.A (f v) (EP X pins σ Q) X.xe s
def CallR(X:Cx)(f:Value)(r:List V->Hp->VK->Prop):Prop:=
 ∀ (pins:List (Addr×Obj)) (s:Shared) (σ:St) (H:Hp) (xs:List V) (us:List Value) (Q:VK),Inv X pins σ H s->Vals xs us->r xs H Q->
  wpAny (model X.prog X.w) X.A (call f us) (EP X pins σ Q) X.xe s
def TruR(X:Cx)(r:V->Hp->(Bool->Hp->Prop)->Prop):Prop:=
 ∀ (pins:List (Addr×Obj)) (s:Shared) (σ:St) (H:Hp) (x:V) (v:Value) (Q:Bool->Hp->Prop),Inv X pins σ H s->RelV x v->r x H Q->
  wpAny (model X.prog X.w) X.A (truthy v) (TP X pins σ Q) X.xe s
def tOp(r:R2)(ta tb:TE):TE:=fun σ H Q=>ta σ H fun x H1=>tb σ H1 fun y H2=>r x y H2 Q
def tUn(r:V->Hp->VK->Prop)(ta:TE):TE:=fun σ H Q=>ta σ H fun x H1=>r x H1 Q
def rI(C:Int->Int->Prop)(g:Int->Int->V):R2:=fun x y H Q=>∃ i j,x=.int i/\y=.int j/\C i j/\Q (g i j) H
def rI0(g:Int->Int->V):R2:=fun x y H Q=>∃ i j,x=.int i/\y=.int j/\Q (g i j) H
def rU(g:Int->V):V->Hp->VK->Prop:=fun x H Q=>∃ i,x=.int i/\Q (g i) H
section
variable{X:Cx}{a b c:Expr}{ta tb tc:TE}{pos:Pos}
theorem binT(ha:PE X a ta)(hb:PE X b tb){pins:List (Addr×Obj)}{s:Shared}{σ:St}{H:Hp}{R:V->V->Hp->Prop}(I:Inv X pins σ H s)(h:ta σ H fun x H1=>tb σ H1 fun y H2=>R x y H2){Q:Value->Shared->Prop}{f:Value->Value->Sem Value}(hf:∀ v u s2 x y H2,Inv X pins σ H2 s2->RelV x v->RelV y u->R x y H2->wpAny (model X.prog X.w) X.A (f v u) Q X.xe s2):
  wpAny (model X.prog X.w) X.A (eval a X.env) (fun v s₁=>wpAny (model X.prog X.w) X.A (eval b X.env) (fun u s₂=>wpAny (model X.prog X.w) X.A (f v u) Q X.xe s₂) X.xe s₁) X.xe s:=by
 refine thn (ha pins s σ H _ I h) fun v s1 ⟨x,H1,I1,r1,q1⟩=>?_;refine thn (hb pins s1 σ H1 _ I1 q1) fun u s2 ⟨y,H2,I2,r2,q2⟩=>?_;exact hf v u s2 x y H2 I2 r1 r2 q2
theorem pe_op{op:Operator}{r:R2}(ho:OpR X (binaryOp op) r)(ha:PE X a ta)(hb:PE X b tb):PE X (.BinOp a op b pos) (tOp r ta tb):=by
 intro pins s σ H Q I h;exact wpAny_BinOp (binT ha hb I h fun v u s2 x y H2 I2 rx ry q=>ho pins s2 σ H2 x y v u Q I2 rx ry q)
theorem pe_un{op:UnaryOp}{r:V->Hp->VK->Prop}(ho:UnR X (unaryOp op) r)(ha:PE X a ta):PE X (.UnaryOp op a pos) (tUn r ta):=by
 intro pins s σ H Q I h;exact UnaryOp_ (thn (ha pins s σ H _ I h) fun v s1 ⟨x,H1,I1,r1,q1⟩=>ho pins s1 σ H1 x v Q I1 r1 q1)
theorem opI{f:Value->Value->Sem Value}{C:Int->Int->Prop}{g:Int->Int->Int}(rule:∀ (i j:Int) (t u:Tok) (s:Shared) (Q:Value->Shared->Prop) (E:Value->Shared->Prop),C i j->Q (.int (g i j) s.toks) {s with toks:=s.toks+1}->wpAny (model X.prog X.w) X.A (f (.int i t) (.int j u)) Q E s):
  OpR X f (rI C fun i j=>.int (g i j)):=by
 intro pins s σ H x y v u Q I rx ry h;obtain⟨i,j,rfl,rfl,hc,q⟩:=h;obtain⟨t,rfl⟩:=rx;obtain⟨t',rfl⟩:=ry;exact rule i j t t' s _ _ hc ⟨.int (g i j),H,I.tok _,⟨_,rfl⟩,q⟩
theorem opI0{f:Value->Value->Sem Value}{g:Int->Int->Int}(rule:∀ (i j:Int) (t u:Tok) (s:Shared) (Q:Value->Shared->Prop) (E:Value->Shared->Prop),Q (.int (g i j) s.toks) {s with toks:=s.toks+1}->wpAny (model X.prog X.w) X.A (f (.int i t) (.int j u)) Q E s):
  OpR X f (rI0 fun i j=>.int (g i j)):=by
 intro pins s σ H x y v u Q I rx ry h;obtain⟨i,j,rfl,rfl,q⟩:=h;obtain⟨t,rfl⟩:=rx;obtain⟨t',rfl⟩:=ry;exact rule i j t t' s _ _ ⟨.int (g i j),H,I.tok _,⟨_,rfl⟩,q⟩
theorem opB0{f:Value->Value->Sem Value}{g:Int->Int->Bool}(rule:∀ (i j:Int) (t u:Tok) (s:Shared) (Q:Value->Shared->Prop) (E:Value->Shared->Prop),Q (.bool (g i j)) s->wpAny (model X.prog X.w) X.A (f (.int i t) (.int j u)) Q E s):
  OpR X f (rI0 fun i j=>.bl (g i j)):=by
 intro pins s σ H x y v u Q I rx ry h;obtain⟨i,j,rfl,rfl,q⟩:=h;obtain⟨t,rfl⟩:=rx;obtain⟨t',rfl⟩:=ry;exact rule i j t t' s _ _ ⟨.bl (g i j),H,I,rfl,q⟩
def CDivN(i j:Int):Prop:=j≠0/\j.natAbs<1073741824
def CMul(i j:Int):Prop:=(-(2^64)<i/\i<2^64)\/(-(2^64)<j/\j<2^64)
theorem CMul.ok{i j:Int}(h:CMul i j):IntMulOk i j:=by
 rcases h with ⟨h1,h2⟩ | ⟨h1,h2⟩
 ·exact .of_left (intBits_le_64 h1 h2)
 ·exact .of_right (intBits_le_64 h1 h2)
theorem op_add:OpR X (binaryOp .Add) (rI0 fun i j=>.int (i+j)):=opI0 fun _ _ _ _ _ _ _ q=>add_int q
theorem op_sub:OpR X (binaryOp .Sub) (rI0 fun i j=>.int (i-j)):=opI0 fun _ _ _ _ _ _ _ q=>sub_int q
theorem op_mul:OpR X (binaryOp .Mult) (rI CMul fun i j=>.int (i*j)):=opI fun _ _ _ _ _ _ _ hc q=>mul_int q hc.ok
theorem op_fdivN:OpR X (binaryOp .FloorDiv) (rI CDivN fun i j=>.int (i.fdiv j)):=opI fun _ _ _ _ _ _ _ hc q=>floordiv_int hc.1 q (.inl (PyProof.noPylong_small hc.2))
theorem op_mod:OpR X (binaryOp .Mod) (rI (fun _ j=>0<j) fun i j=>.int (i%j)):=opI fun i j _ _ _ _ _ hc q=>by
 have h1:(0:Int)<j:=hc;exact mod_int' (by omega) (by rw[Int.fmod_eq_emod_of_nonneg i (by omega)];exact q)
theorem unI{f:Value->Sem Value}{g:Int->Int}(rule:∀ (i:Int) (t:Tok) (s:Shared) (Q:Value->Shared->Prop) (E:Value->Shared->Prop),Q (.int (g i) s.toks) {s with toks:=s.toks+1}->wpAny (model X.prog X.w) X.A (f (.int i t)) Q E s):
  UnR X f (rU fun i=>.int (g i)):=by
 intro pins s σ H x v Q I rx h;obtain⟨i,rfl,q⟩:=h;obtain⟨t,rfl⟩:=rx;exact rule i t s _ _ ⟨.int (g i),H,I.tok _,⟨_,rfl⟩,q⟩
theorem un_neg:UnR X (unaryOp .USub) (rU fun i=>.int (-i)):=unI fun _ _ _ _ _ q=>neg_int q
end
def scal:V->V->Bool
 | .non,.non=>true | .non,.int _=>true | .int _,.non=>true | .non,.bl _=>true | .bl _,.non=>true | .non,.str _=>true | .str _,.non=>true
 | .int _,.int _=>true | .bl _,.bl _=>true | .str _,.str _=>true | .byt _,.byt _=>true
 | .int _,.str _=>true | .str _,.int _=>true | .bl _,.str _=>true | .str _,.bl _=>true
 | _,_=>false
def rEq:R2:=fun x y H Q=>scal x y=true/\Q (.bl (decide (x=y))) H
def rNe:R2:=fun x y H Q=>scal x y=true/\Q (.bl (!decide (x=y))) H
theorem dec_int{i j:Int}:decide (V.int i=V.int j)=(i==j):=by
 rw[Bool.eq_iff_iff];simp
theorem dec_bl{i j:Bool}:decide (V.bl i=V.bl j)=(i==j):=by
 rw[Bool.eq_iff_iff];simp
theorem dec_str{i j:Str}:decide (V.str i=V.str j)=(i==j):=by
 rw[Bool.eq_iff_iff];simp
theorem dec_byt{i j:Array UInt8}:decide (V.byt i=V.byt j)=(i.toList==j.toList):=by
 rw[Bool.eq_iff_iff];cases i;cases j;simp
section
variable{X:Cx}{a b c:Expr}{ta tb tc:TE}{pos:Pos}
theorem fin_bl{pins:List (Addr×Obj)}{σ:St}{H:Hp}{s:Shared}{Q:VK}{k k':Bool}(I:Inv X pins σ H s)(q:Q (.bl k) H)(e:k=k'):EP X pins σ Q (.bool k') s:=by
 subst e;exact⟨.bl k,H,I,rfl,q⟩
theorem op_eq:OpR X (compareOp .Eq) rEq:=by
 intro pins s σ H x y v u Q I rx ry h;obtain⟨hs,q⟩:=h;cases x with
 | non=>
  cases rx;cases y with
  | non=>cases ry;exact PySem.EqNone.eq_none_none (fin_bl I q (by simp))
  | bl j=>cases ry;exact PySem.EqNone.eq_none_bool (fin_bl I q (by simp))
  | int j=>obtain⟨t',rfl⟩:=ry;exact PySem.EqNone.eq_none_int (fin_bl I q (by simp))
  | str j=>obtain⟨t',rfl⟩:=ry;exact PySem.EqNone.eq_none_str (fin_bl I q (by simp))
  | _=>exact absurd (show false=true from hs) Bool.false_ne_true
 | bl i=>
  cases rx;cases y with
  | non=>cases ry;exact PySem.EqNone.eq_bool_none (fin_bl I q (by simp))
  | bl j=>cases ry;exact eq_bool (fin_bl I q dec_bl)
  | str j=>obtain⟨t',rfl⟩:=ry;exact PySem.EqMixed.eq_bool_str (fin_bl I q (by simp))
  | _=>exact absurd (show false=true from hs) Bool.false_ne_true
 | int i=>
  obtain⟨t,rfl⟩:=rx;cases y with
  | non=>cases ry;exact PySem.EqNone.eq_int_none (fin_bl I q (by simp))
  | int j=>obtain⟨t',rfl⟩:=ry;exact eq_int (fin_bl I q dec_int)
  | str j=>obtain⟨t',rfl⟩:=ry;exact PySem.EqMixed.eq_int_str (fin_bl I q (by simp))
  | _=>exact absurd (show false=true from hs) Bool.false_ne_true
 | str i=>
  obtain⟨t,rfl⟩:=rx;cases y with
  | non=>cases ry;exact PySem.EqNone.eq_str_none (fin_bl I q (by simp))
  | bl j=>cases ry;exact PySem.EqMixed.eq_str_bool (fin_bl I q (by simp))
  | int j=>obtain⟨t',rfl⟩:=ry;exact PySem.EqMixed.eq_str_int (fin_bl I q (by simp))
  | str j=>obtain⟨t',rfl⟩:=ry;exact eq_str (fin_bl I q dec_str)
  | _=>exact absurd (show false=true from hs) Bool.false_ne_true
 | byt i=>
  obtain⟨t,rfl⟩:=rx;cases y with
  | byt j=>obtain⟨t',rfl⟩:=ry;exact PySem.W.eq_bytes (fin_bl I q dec_byt)
  | _=>exact absurd (show false=true from hs) Bool.false_ne_true
 | _=>cases y<;>exact absurd (show false=true from hs) Bool.false_ne_true
theorem op_ne:OpR X (compareOp .NotEq) rNe:=by
 intro pins s σ H x y v u Q I rx ry h;obtain⟨hs,q⟩:=h;cases x with
 | non=>
  cases rx;cases y with
  | non=>cases ry;exact PySem.EqNone.ne_none_none (fin_bl I q (by simp))
  | bl j=>cases ry;exact PySem.EqNone.ne_none_bool (fin_bl I q (by simp))
  | int j=>obtain⟨t',rfl⟩:=ry;exact PySem.EqNone.ne_none_int (fin_bl I q (by simp))
  | str j=>obtain⟨t',rfl⟩:=ry;exact PySem.EqNone.ne_none_str (fin_bl I q (by simp))
  | _=>exact absurd (show false=true from hs) Bool.false_ne_true
 | bl i=>
  cases rx;cases y with
  | non=>cases ry;exact PySem.EqNone.ne_bool_none (fin_bl I q (by simp))
  | bl j=>cases ry;exact ne_bool (fin_bl I q (congrArg not dec_bl))
  | str j=>obtain⟨t',rfl⟩:=ry;exact PySem.EqMixed.ne_bool_str (fin_bl I q (by simp))
  | _=>exact absurd (show false=true from hs) Bool.false_ne_true
 | int i=>
  obtain⟨t,rfl⟩:=rx;cases y with
  | non=>cases ry;exact PySem.EqNone.ne_int_none (fin_bl I q (by simp))
  | int j=>obtain⟨t',rfl⟩:=ry;exact ne_int (fin_bl I q (congrArg not dec_int))
  | str j=>obtain⟨t',rfl⟩:=ry;exact PySem.EqMixed.ne_int_str (fin_bl I q (by simp))
  | _=>exact absurd (show false=true from hs) Bool.false_ne_true
 | str i=>
  obtain⟨t,rfl⟩:=rx;cases y with
  | non=>cases ry;exact PySem.EqNone.ne_str_none (fin_bl I q (by simp))
  | bl j=>cases ry;exact PySem.EqMixed.ne_str_bool (fin_bl I q (by simp))
  | int j=>obtain⟨t',rfl⟩:=ry;exact PySem.EqMixed.ne_str_int (fin_bl I q (by simp))
  | str j=>obtain⟨t',rfl⟩:=ry;exact ne_str (fin_bl I q (congrArg not dec_str))
  | _=>exact absurd (show false=true from hs) Bool.false_ne_true
 | byt i=>
  obtain⟨t,rfl⟩:=rx;cases y with
  | byt j=>obtain⟨t',rfl⟩:=ry;exact PySem.W.ne_bytes (fin_bl I q (congrArg not dec_byt))
  | _=>exact absurd (show false=true from hs) Bool.false_ne_true
 | _=>cases y<;>exact absurd (show false=true from hs) Bool.false_ne_true
theorem op_lt:OpR X (compareOp .Lt) (rI0 fun i j=>.bl (decide (i<j))):=opB0 fun _ _ _ _ _ _ _ q=>lt_int q
theorem op_le:OpR X (compareOp .LtE) (rI0 fun i j=>.bl (decide (i<=j))):=opB0 fun _ _ _ _ _ _ _ q=>le_int q
theorem op_gt:OpR X (compareOp .Gt) (rI0 fun i j=>.bl (decide (j<i))):=opB0 fun _ _ _ _ _ _ _ q=>gt_int q
theorem op_ge:OpR X (compareOp .GtE) (rI0 fun i j=>.bl (decide (j<=i))):=opB0 fun _ _ _ _ _ _ _ q=>ge_int q
theorem nomark(b:Expr){op:CmpOp}(h:op≠.In:=by decide)(h2:op≠.NotIn:=by decide):behindInMarks op b=false:=by
 have e1:(op==CmpOp.In)=false:=by cases op<;>first | rfl | exact absurd rfl h
 have e2:(op==CmpOp.NotIn)=false:=by cases op<;>first | rfl | exact absurd rfl h2
 cases b<;>simp[behindInMarks,e1,e2]
theorem pe_cmpR{op:CmpOp}{r:R2}(ho:OpR X (compareOp op) r)(ha:PE X a ta)(hb:PE X b tb)(hm:behindInMarks op b=false):PE X (.Compare a [op] [b] pos) (tOp r ta tb):=by
 intro pins s σ H Q I h;exact wpAny_Compare1 (binT ha hb I h fun v u s2 x y H2 I2 rx ry q=>ho pins s2 σ H2 x y v u Q I2 rx ry q) hm
def tTest(t:TE):TT:=fun σ H Q=>t σ H fun x H'=>∃ k,x=.bl k/\Q k H'
theorem pt_cmpR{op:CmpOp}{r:R2}(ho:OpR X (compareOp op) r)(ha:PE X a ta)(hb:PE X b tb)(hm:behindInMarks op b=false):PT X (.Compare a [op] [b] pos) (tTest (tOp r ta tb)):=by
 intro pins s σ H Q I h;refine wpAny_isTrue_Compare1 (thn (ha pins s σ H _ I h) fun v s1 ⟨x,H1,I1,r1,q1⟩=>thn (hb pins s1 σ H1 _ I1 q1) fun u s2 ⟨y,H2,I2,r2,q2⟩=>
  thn (ho pins s2 σ H2 x y v u _ I2 r1 r2 q2) fun c s3 ⟨z,H3,I3,r3,k,e,q3⟩=>?_) hm
 subst e;cases r3;exact wpAny_truthy_bool ⟨H3,I3,q3⟩
def tChain(r r':R2)(ta tb tc:TE):TE:=fun σ H Q=>ta σ H fun x H1=>tb σ H1 fun y H2=>r x y H2 fun z H3=>∃ k,z=.bl k/\
 (if k=true then tc σ H3 fun w' H4=>r' y w' H4 Q else Q (.bl false) H3)
theorem pe_chain{op op':CmpOp}{r r':R2}(ho:OpR X (compareOp op) r)(ho':OpR X (compareOp op') r')(ha:PE X a ta)(hb:PE X b tb)(hc:PE X c tc)(hm:lastMarks [op,op'] [b,c]=false:=by with_unfolding_all rfl):PE X (.Compare a [op,op'] [b,c] pos) (tChain r r' ta tb tc):=by
 intro pins s σ H Q I h;refine Compare_chain (thn (ha pins s σ H _ I h) fun v s1 ⟨x,H1,I1,r1,q1⟩=>chain_link (thn (hb pins s1 σ H1 _ I1 q1) fun u s2 ⟨y,H2,I2,r2,q2⟩=>
  thn (ho pins s2 σ H2 x y v u _ I2 r1 r2 q2) fun d s3 ⟨z,H3,I3,r3,k,e,q3⟩=>?_)) hm
 subst e;cases r3;refine wpAny_truthy_bool ?_;cases k with
 | false=>exact ite_ff ⟨.bl false,H3,I3,rfl,q3⟩
 | true=>exact ite_tt (chain_last (thn (hc pins s3 σ H3 _ I3 q3) fun w' s4 ⟨z',H4,I4,r4,q4⟩=>ho' pins s4 σ H4 y z' u w' Q I4 r2 r4 q4))
def TruV(K:PySem.W.Frag)(x:V)(H:Hp)(k:Bool):Prop:=
 match x with
 | .non=>k=false
 | .bl b=>k=b
 | .int i=>k=(i != 0)
 | .str y=>y.length<=sizeLine/\k=((y.length:Int) != 0)
 | .byt y=>y.size<=sizeLine/\k=((y.size:Int) != 0)
 | .ref p=>(∃ xs,SqL K H p xs/\k=!xs.isEmpty)\/(∃ xs,SqT K H p xs/\k=!xs.isEmpty)\/∃ kvs,H p=some (.dK kvs)/\k=!kvs.isEmpty
 | _=>False
theorem isEmpty_kv{κ:Type}{kvs:List (κ×V)}{vs:List (κ×Value)}(r:KV kvs vs):(!vs.isEmpty)=!kvs.isEmpty:=by
 cases r<;>rfl
theorem isEmpty_of{xs:List V}{its:List Value}(r:Vals xs its):(!its.toArray.isEmpty)=!xs.isEmpty:=by
 cases r<;>simp
theorem line63:(sizeLine:Nat)<2^63:=by rw[sizeLine_eq];decide
theorem tru_ok:TruR X (fun x H Q=>∃ k,TruV X.K x H k/\Q k H):=by
 intro pins s σ H x v Q I rx h;obtain⟨k,e,q⟩:=h;have hl:=line63;have hs:sizeLine=16777216:=sizeLine_eq;cases x with
 | non=>
  cases rx;have e':k=false:=e;subst e';exact truthy_none ⟨H,I,q⟩
 | bl b=>
  cases rx;have e':k=b:=e;subst e';exact wpAny_truthy_bool ⟨H,I,q⟩
 | int i=>
  obtain⟨t,rfl⟩:=rx;have e':k=(i != 0):=e;subst e';exact PySem.P.truthy_int ⟨H,I,q⟩
 | str y=>
  obtain⟨t,rfl⟩:=rx;obtain⟨hy,e'⟩:y.length<=sizeLine/\k=((y.length:Int) != 0):=e;subst e';exact PySem.P.truthy_str (by omega) ⟨H,I.tok _,q⟩
 | byt y=>
  obtain⟨t,rfl⟩:=rx;obtain⟨hy,e'⟩:y.size<=sizeLine/\k=((y.size:Int) != 0):=e;subst e';exact PySem.W.truthy_bytes (by omega) ⟨H,I.tok _,q⟩
 | ref p=>
  cases rx;have e':(∃ xs,SqL X.K H p xs/\k=!xs.isEmpty)\/(∃ xs,SqT X.K H p xs/\k=!xs.isEmpty)\/∃ kvs,H p=some (.dK kvs)/\k=!kvs.isEmpty:=e;rcases e' with ⟨xs,hx,e'⟩ | ⟨xs,hx,e'⟩ | ⟨kvs,hx,e'⟩
  ·subst e';obtain⟨its,r,pl,hz⟩:=I.list hx;have hlen:=r.length;exact wpAny_truthy_list pl.isList (by simp only[List.size_toArray];omega) ⟨H,I.tok _,by rw[isEmpty_of r];exact q⟩
  ·subst e';obtain⟨its,r,pl,hz⟩:=I.tuple hx;have hlen:=r.length;exact truthy_tuple pl (by simp only[List.size_toArray];omega) ⟨H,I.tok _,by rw[isEmpty_of r];exact q⟩
  ·subst e';obtain⟨hz,hS,vs,r,m⟩:kvs.length<=sizeLine/\(p==sysModules)=false/\∃ vs,KV kvs vs/\s.heap.DictOf (mixKind X.prog X.w) p vs:=I.hok p _ hx;have hlen:kvs.length=vs.length:=Paired.length r;exact wpAny_truthy_dict hS m (by omega) ⟨H,I.tok _,by rw[isEmpty_kv r];exact q⟩
 | _=>exact(show False from e).elim
theorem pt_truth(ha:PE X a ta)(he:∀ whole,isTrue a X.env whole=(do let v <-whole;standAt a.pos;holding [v] (truthy v))):
  PT X a (fun σ H Q=>ta σ H fun x H'=>∃ k,TruV X.K x H' k/\Q k H'):=by
 intro pins s σ H Q I h;exact isTrue_plain (thn (ha pins s σ H _ I h) fun v s1 ⟨x,H1,I1,r1,q1⟩=>tru_ok pins s1 σ H1 x v Q I1 r1 q1) (he _)
theorem vals1{x:V}{us:List Value}(r:Vals [x] us):∃ u,us=[u]/\RelV x u:=by
 cases r with
 | cons r1 r2=>cases r2;exact⟨_,rfl,r1⟩
theorem vals2{x y:V}{us:List Value}(r:Vals [x,y] us):∃ u w',us=[u,w']/\RelV x u/\RelV y w':=by
 cases r with
 | cons r1 r2=>
  cases r2 with
  | cons r3 r4=>cases r4;exact⟨_,_,rfl,r1,r3⟩
end
end L2
namespace L2
open PySem PySem.Spec PyProof.Rows
structure ObjM(h:Heap)(x dx C:Addr)(mA:Str->Option Value):Prop where
 obj:h.get? x=some (PySem.W.instObj C dx)
 ns:h.Ns1 dx mA
 ne:dx≠x
theorem lookIn_ns{h:Heap}{dx:Addr}{mA:Str->Option Value}(n:h.Ns1 dx mA):∃ od,h.get? dx=some od/\∀ name,PySem.W.lookIn name od=some (mA name):=by
 obtain⟨o,es,ep,ho,hd,hk,_,hm⟩:=n;refine⟨o,ho,fun name=>?_⟩;have e:=hm name;unfold nsFind findBy at e;rw[<-Array.find?_toList] at e;unfold PySem.W.lookIn;rw[hd]
 dsimp only
 split
 ·rename_i y q;rw[q] at e;exact congrArg some e
 ·rename_i q;rw[q] at e;have a:es.toList.any (·.refKey)=false:=by
   rw[List.any_eq_false];intro y hy;obtain⟨z,t,hkey⟩:=hk y (Array.mem_toList_iff.mp hy);simp[DictEntry.refKey,hkey]
  have a':¬es.toList.any (·.refKey)=true:=by rw[a];exact Bool.false_ne_true
  rw[if_neg a'];exact congrArg some e
theorem ObjM.look{h:Heap}{x dx C:Addr}{mA:Str->Option Value}(I:ObjM h x dx C mA):∃ od,PySem.W.InstAt h x (PySem.W.instObj C dx) C (some od)/\∀ name,PySem.W.lookIn name od=some (mA name):=
 let ⟨od,ho,hl⟩:=lookIn_ns I.ns
 ⟨od,⟨I.obj,rfl,rfl,ho⟩,hl⟩
section
variable{prog:Program}{w:World}{A:Around}{E:Value->Shared->Prop}{s:Shared}{K:PySem.W.Frag}{x dx C f:Addr}{mA:Str->Option Value}{name:Str}{v:Value}
theorem get_map{expr:Bool}{Q:Value->Shared->Prop}(X:K.In s.heap)(I:ObjM s.heap x dx C mA)(hg:PySem.W.plainGet K C name=true)(hh:PySem.W.hasDictIn K C=true)(ha:PySem.W.findIn K (.ref C) name=some none)(hv:mA name=some v)(hv':PySem.W.handedIn v=true)(h:Q v {s with toks:=s.toks+1}):
  wpAny (model prog w) A (getAttr (.ref x) name expr) Q E s:=by
 obtain⟨od,J,hl⟩:=I.look;exact PySem.W.get_value X J (PySem.W.plainGet_of hg).1 (PySem.W.findObj_own hh ha rfl (by rw[hl,hv])) hv' h
theorem set_map{ns:List Str}{Q:Unit->Shared->Prop}(X:K.In s.heap)(I:ObjM s.heap x dx C mA)(hs:PySem.W.findIn K (.ref C) "__setattr__"=some (some (.builtin "object.__setattr__")))(hp:PySem.W.plainOver K C=true)(ht:PySem.W.takerIn K C name=some none)(hh:PySem.W.hasDictIn K C=true)(hw:PySem.Within mA ns)(hsz:ns.length<=sizeLine)(h:∀ h',ObjM h' x dx C (fun y=>if y=name then some v else mA y)->Heap.SameBut dx s.heap h'->Q () {s with heap:=h',toks:=s.toks+2}):
  wpAny (model prog w) A (setAttr (.ref x) name v) Q E s:=by
 obtain⟨od,J,hl⟩:=I.look;refine PySem.W.set_plain X J hs (PySem.W.osa_open (s:={s with toks:=s.toks+1}) (r:=none) X J hp ht fun b=>?_);obtain⟨cd,hc,hd'⟩:=PySem.W.any_some hh;have hx:s.heap.get? x=some ⟨.ref C,some dx,.plain,#[]⟩:=I.obj;refine wpAny_bind (wpAny_pure (wpAny_bind (wpAny_bind (wpAny_loadPart hx (wpAny_bind (PySem.W.Looks.here (s:={s with toks:=s.toks+1}) (PySem.W.looks_clsIn X hc) ?_))))));rw[hd'];refine wpAny_pure (a:=some dx) (wpAny_bind (wpAny_pure (wpAny_bind ?_)));refine wpAny_nsSet1 (s:={s with toks:=s.toks+1}) I.ns fun h' hn2 hs2=>?_;obtain⟨oD,esD,epD,hoD,hdD,hcD⟩:=hn2.count (PySem.Within.cons name v hw);refine wpAny_bind (wpAny_lookBehind hoD (by rw[hdD];exact pastItsLine_dict (Nat.le_trans hcD (by rw[List.length_cons];omega))) ?_);exact wpAny_pure (h _ ⟨(hs2.2 _ (Ne.symm I.ne)).trans I.obj,hn2,I.ne⟩ hs2)
theorem make_map{R:Result->Shared->Prop}{vs:List Value}{kw:List (Str×Value)}(X:K.In s.heap)(hm:PySem.W.makesIn K C=true)(hi:PySem.W.findIn K (.ref C) "__init__"=some (some (.ref f)))(hf:PySem.W.typeIn K (.ref f)=some (.type "function"))(h:codeAny (model prog w) (A.under (.builtin "type.__call__" ⟨.ref C::vs,kw⟩)) (.call (.ref f) ⟨.ref (s.heap.objs.size+1)::vs,kw⟩) (PySem.W.InitBack (s.heap.objs.size+1) R)
   {s with heap:=(s.heap.push PySem.W.emptyDict).push (PySem.W.instObj C s.heap.objs.size)}):
  codeAny (model prog w) A (.call (.ref C) ⟨vs,kw⟩) R s:=by
 obtain⟨hh,g,d,t,os⟩:=s;exact PySem.W.make_core (PySem.W.makes_of X hm) (PySem.W.looks_findIn X hi) (fun self=>PySem.W.bind_fn X self hf) (.inl rfl) h
end
def putF(f:Str)(v:V):List (Str×V)->List (Str×V)
 | []=>[(f,v)]
 | (g,x)::r=>if g=f then (g,v)::r else (g,x)::putF f v r
theorem lookup_putF(f g:Str)(v:V):∀ fs:List (Str×V),(putF f v fs).lookup g=if g=f then some v else fs.lookup g
 | []=>by
  show List.lookup g [(f,v)]=_;by_cases h:g=f
  ·have hb:(g==f)=true:=beq_iff_eq.mpr h;simp only[List.lookup,hb,if_pos h]
  ·have hb:(g==f)=false:=beq_eq_false_iff_ne.mpr h;simp only[List.lookup,hb,if_neg h]
 | (k,x)::r=>by
  have ih:=lookup_putF f g v r;rw[show putF f v ((k,x)::r)=(if k=f then (k,v)::r else (k,x)::putF f v r) from rfl];by_cases hk:k=f
  ·rw[if_pos hk];by_cases h:g=k
   ·have hb:(g==k)=true:=beq_iff_eq.mpr h;simp only[List.lookup,hb,if_pos (h.trans hk)]
   ·have hb:(g==k)=false:=beq_eq_false_iff_ne.mpr h;simp only[List.lookup,hb,if_neg (fun e:g=f=>h (e.trans hk.symm))]
  ·rw[if_neg hk];by_cases h:g=k
   ·have hb:(g==k)=true:=beq_iff_eq.mpr h;simp only[List.lookup,hb,if_neg (fun e:g=f=>hk (h.symm.trans e))]
   ·have hb:(g==k)=false:=beq_eq_false_iff_ne.mpr h;simp only[List.lookup,hb];exact ih
theorem keys_putF(f:Str)(v:V):∀ fs:List (Str×V),f∈(putF f v fs).map (·.1)/\∀ g,g∈fs.map (·.1)->g∈(putF f v fs).map (·.1)
 | []=>⟨by simp[putF],fun g h=>by simp at h⟩
 | (k,x)::r=>by
  obtain⟨i1,i2⟩:=keys_putF f v r;rw[show putF f v ((k,x)::r)=(if k=f then (k,v)::r else (k,x)::putF f v r) from rfl];by_cases hk:k=f
  ·rw[if_pos hk];subst hk;exact⟨by simp,fun g h=>by simpa using h⟩
  ·rw[if_neg hk];refine⟨?_,fun g h=>?_⟩
   ·rw[List.map_cons];exact List.mem_cons_of_mem _ i1
   ·rw[List.map_cons] at h ⊢;rcases List.mem_cons.mp h with e | e
    ·exact List.mem_cons.mpr (.inl e)
    ·exact List.mem_cons_of_mem _ (i2 g e)
theorem length_putF(f:Str)(v:V):∀ fs:List (Str×V),(putF f v fs).length<=fs.length+1
 | []=>by simp[putF]
 | (k,x)::r=>by
  have ih:=length_putF f v r;rw[show putF f v ((k,x)::r)=(if k=f then (k,v)::r else (k,x)::putF f v r) from rfl];by_cases hk:k=f
  ·rw[if_pos hk,List.length_cons,List.length_cons];omega
  ·rw[if_neg hk,List.length_cons,List.length_cons];omega
theorem RelO.some_of{v:V}{o:Option Value}(r:RelO (some v) o):∃ u,o=some u/\RelV v u:=by
 cases o with
 | none=>exact(show False from r).elim
 | some u=>exact⟨u,rfl,r⟩
theorem handed_of{v:V}{u:Value}(r:RelV v u):PySem.W.handedIn u=true:=by
 cases v with
 | non=>cases (show u=Value.none from r);rfl
 | bl b=>cases (show u=Value.bool b from r);rfl
 | int i=>obtain⟨t,e⟩:=(show ∃ t,u=Value.int i t from r);cases e;rfl
 | str x=>obtain⟨t,e⟩:=(show ∃ t,u=Value.str x t from r);cases e;rfl
 | byt b=>obtain⟨t,e⟩:=(show ∃ t,u=Value.bytes b t from r);cases e;rfl
 | flt b=>obtain⟨t,e⟩:=(show ∃ t,u=Value.float b t from r);cases e;rfl
 | ref a=>cases (show u=Value.ref a from r);rfl
 | ty n=>cases (show u=Value.type n from r);rfl
section
variable{P:Program}{w:World}{H H':Hp}{h h':Heap}{a C dx:Addr}{fs fs':List (Str×V)}
theorem ins_get(hok:HOk P w H h)(e:H a=some (.ins C dx fs)):∃ mA,ObjM h a dx C mA/\(∀ f,RelO (fs.lookup f) (mA f))/\PySem.Within mA (fs.map (·.1))/\fs.length<=1000/\H dx=some (.own a):=by
 obtain⟨d,z,ne,ob,mA,n,r,q⟩:=(show ObjOk P w H h a (.ins C dx fs) from hok a _ e);exact⟨mA,⟨ob,n,ne⟩,r,q,z,d⟩
end
structure Cls(K:PySem.W.Frag)(C:Addr):Prop where
 pg:PySem.W.plainGet K C Str.empty=true
 hd:PySem.W.hasDictIn K C=true
 po:PySem.W.plainOver K C=true
 sa:PySem.W.findIn K (.ref C) "__setattr__"=some (some (.builtin "object.__setattr__"))
theorem Cls.get{K:PySem.W.Frag}{C:Addr}(c:Cls K C)(f:Str):PySem.W.plainGet K C f=true:=c.pg
def NoAttr(K:PySem.W.Frag)(C:Addr)(f:Str):Prop:=PySem.W.findIn K (.ref C) f=some none
theorem NoAttr.taker{K:PySem.W.Frag}{C:Addr}{f:Str}(n:NoAttr K C f):PySem.W.takerIn K C f=some none:=by
 unfold PySem.W.takerIn;rw[show PySem.W.findIn K (.ref C) f=some none from n];rfl
section
variable{X:Cx}{pins:List (Addr×Obj)}{σ:St}{H:Hp}{s:Shared}{a C dx:Addr}{fs:List (Str×V)}{f:Str}{v:V}{A:Around}{E:Value->Shared->Prop}
theorem getattr_ok{b:Bool}{Q:Value->Shared->Prop}(I:Inv X pins σ H s)(e:H a=some (.ins C dx fs))(c:Cls X.K C)(n:NoAttr X.K C f)(l:fs.lookup f=some v)(h:∀ u s',Inv X pins σ H s'->RelV v u->Q u s'):wpAny (model X.prog X.w) A (getAttr (.ref a) f b) Q E s:=by
 obtain⟨mA,O,r,_,_,_⟩:=ins_get I.hok e;obtain⟨u,hu,ru⟩:=RelO.some_of (v:=v) (o:=mA f) (by rw[<-l];exact r f);exact get_map I.kIn O (c.get f) c.hd n hu (handed_of ru) (h u _ (I.tok _) ru)
theorem setattr_ok{y:V}{u:Value}{Q:Unit->Shared->Prop}(I:Inv X pins σ H s)(e:H a=some (.ins C dx fs))(c:Cls X.K C)(n:NoAttr X.K C f)(hl:fs.length<1000)(ry:RelV y u)(h:∀ s',Inv X pins σ (upd H a (.ins C dx (putF f y fs))) s'->Q () s'):wpAny (model X.prog X.w) A (setAttr (.ref a) f u) Q E s:=by
 obtain⟨mA,O,r,wi,_,ho⟩:=ins_get I.hok e;have hz:(fs.map (·.1)).length<=sizeLine:=by rw[lmp,sizeLine_eq];omega
 refine set_map I.kIn O c.sa c.po n.taker c.hd wi hz fun h' O' sb=>h _ ?_;have hd:∃ o,h'.get? dx=some o:=let ⟨o,_,_,e',_⟩:=O'.ns;⟨o,e'⟩
 refine I.write (x:=a) (e:=dx) (by rw[e];exact True.intro) (.inr ho) (fun b q hb z=>(sb.2 b hb).trans z) hd ?_;refine⟨by rw[upd_ne O.ne];exact ho,?_,O.ne,O'.obj,_,O'.ns,fun g=>?_,fun g hg=>?_⟩
 ·have:=length_putF f y fs;omega
 ·show RelO ((putF f y fs).lookup g) (if g=f then some u else mA g);rw[lookup_putF];by_cases q:g=f
  ·rw[if_pos q,if_pos q];exact ry
  ·rw[if_neg q,if_neg q];exact r g
 ·by_cases q:g=f
  ·rw[q];exact(keys_putF f y fs).1
  ·refine(keys_putF f y fs).2 g (wi g fun z=>hg ?_);show(if g=f then some u else mA g)=none;rw[if_neg q];exact z
theorem Inv.made(I:Inv X pins σ H s):Inv X pins σ (upd (upd H s.heap.objs.size (.own (s.heap.objs.size+1))) (s.heap.objs.size+1) (.ins C s.heap.objs.size []))
  {s with heap:=(s.heap.push PySem.W.emptyDict).push (PySem.W.instObj C s.heap.objs.size)}:=by
 have e1:(s.heap.push PySem.W.emptyDict).get? s.heap.objs.size=some PySem.W.emptyDict:=Heap.get?_push_size s.heap rfl;have e2:((s.heap.push PySem.W.emptyDict).push (PySem.W.instObj C s.heap.objs.size)).get? (s.heap.objs.size+1)=some (PySem.W.instObj C s.heap.objs.size):=by
  have:=Heap.get?_push_size (s.heap.push PySem.W.emptyDict) (o:=PySem.W.instObj C s.heap.objs.size) rfl;rwa [Heap.size_push] at this
 have e3:(s.heap.push PySem.W.emptyDict).Ns s.heap.objs.size (fun _=>none):=⟨PySem.W.emptyDict,#[],_,e1,rfl,(fun e he=>absurd he (by simp)),fun _=>rfl⟩;have I1:=I.laid (a:=s.heap.objs.size) (o:=.own (s.heap.objs.size+1)) (h':=s.heap.push PySem.W.emptyDict) (t':=s.toks) (fun b u q=>Heap.get?_push_of_some _ q) (Nat.le_refl _) ⟨_,e1⟩;refine I1.laid (a:=s.heap.objs.size+1) (o:=.ins C s.heap.objs.size []) (t':=s.toks) (fun b u q=>Heap.get?_push_of_some _ q) (Nat.le_of_eq (Heap.size_push _ _)) ?_;have ne:s.heap.objs.size≠s.heap.objs.size+1:=Nat.ne_of_lt (Nat.lt_succ_self _);refine⟨by rw[upd_ne ne,upd_same],Nat.zero_le _,ne,e2,fun _=>none,(Heap.Ns1.of_empty e3).at fun o q=>Heap.get?_push_of_some _ q,fun _=>True.intro,fun y hy=>absurd rfl hy⟩
theorem attr_of{prog:Program}{w:World}{env:Env}{e:Expr}{f:Str}{pos:Pos}{s:Shared}{Q:Value->Shared->Prop}(hb:attributeBase e f env (eval e env)=eval e env)(h:wpAny (model prog w) A (eval e env) (fun o s₁=>wpAny (model prog w) A (getAttr o f true) Q E s₁) E s):wpAny (model prog w) A (eval (.Attribute e f pos) env) Q E s:=
 Attribute_any_ h (by rw[arm_eval_Attribute,hb])
end
def tFld(K:PySem.W.Frag)(ta:TE)(f:Str):TE:=fun σ H Q=>ta σ H fun x H1=>∃ a C dx fs v,x=.ref a/\H1 a=some (.ins C dx fs)/\Cls K C/\NoAttr K C f/\fs.lookup f=some v/\Q v H1
def sFld(K:PySem.W.Frag)(ta tv:TE)(f:Str):TS:=fun D σ H=>tv σ H fun y H1=>ta σ H1 fun x H2=>∃ a C dx fs,x=.ref a/\H2 a=some (.ins C dx fs)/\Cls K C/\NoAttr K C f/\fs.length<1000/\
 D.nx σ (upd H2 a (.ins C dx (putF f y fs)))
section
variable{X:Cx}{o e value:Expr}{f:Str}{pos pos' tpos:Pos}{ta tv:TE}
theorem pe_fld(he:PE X e ta)(hb:attributeBase e f X.env (eval e X.env)=eval e X.env):PE X (.Attribute e f pos) (tFld X.K ta f):=by
 intro pins s σ H Q I h;refine attr_of hb (thn (he pins s σ H _ I h) fun u s1 ⟨x,H1,I1,rx,a,C,dx,fs,v,ex,ea,c,n,l,q⟩=>?_);subst ex;obtain rfl:u=Value.ref a:=rx;exact getattr_ok I1 ea c n l fun u' s2 I2 ru=>⟨v,H1,I2,ru,q⟩
theorem ps_fld(ha:PE X o ta)(hv:PE X value tv)(hs:swapsWith value (some (.Attribute o f pos')) pos.line X.env=pure false):PS X (.Assign [.Attribute o f pos'] value pos) (sFld X.K ta tv f):=by
 intro pins s σ H D I h;refine plainObj_wpAny_Assign_Attribute (thn (hv pins s σ H _ I h) fun u s1 ⟨y,H1,I1,ry,q⟩=>thn (ha pins s1 σ H1 _ I1 q) fun ov s2 ⟨x,H2,I2,rx,a,C,dx,fs,ex,ea,c,n,l,q2⟩=>?_) hs;subst ex;obtain rfl:ov=Value.ref a:=rx;exact setattr_ok I2 ea c n l ry fun s3 I3=>⟨σ,_,I3,q2⟩
end
end L2
namespace L2
open PySem PySem.Spec PyProof.Rows
structure Room(k:Nat)(A:Around):Prop where
 hd:A.handled=none
 dp:A.depth+3*k+5<recursionLimit
 un:A.units+16*k+200<cLine
theorem Room.mono{j k:Nat}{A:Around}(r:Room k A)(h:j<=k):Room j A:=⟨r.hd,by have:=r.dp;omega,by have:=r.un;omega⟩
theorem Room.deeper{k:Nat}{A:Around}(r:Room (k+1) A)(env:Env):Room k (A.deeper env):=
 ⟨r.hd,by have:=r.dp;show A.depth+1+3*k+5<_;omega,by have:=r.un;show A.units+3+16*k+200<_;omega⟩
theorem make_depth{A:Around}{C:Addr}{us:List Value}{kw:List (Str×Value)}:(A.under (.builtin "type.__call__" ⟨.ref C::us,kw⟩)).depth=A.depth+1:=by
 first | rfl | simp[Around.under,Code.weight,Code.isCreation,Code.isGuard,Code.isCaller,Code.frames,Code.isFrame,guardIds]
theorem make_units{A:Around}{C:Addr}{us:List Value}{kw:List (Str×Value)}:(A.under (.builtin "type.__call__" ⟨.ref C::us,kw⟩)).units=A.units+1:=by
 first | rfl | simp[Around.under,Code.cUnits,Code.frames,Code.isFrame]
theorem Room.make{k:Nat}{A:Around}(r:Room (k+1) A)(C:Addr)(us:List Value)(kw:List (Str×Value)):Room k (A.under (.builtin "type.__call__" ⟨.ref C::us,kw⟩)):=
 ⟨r.hd,by have:=r.dp;rw[make_depth];omega,by have:=r.un;rw[make_units];omega⟩
theorem Room.depth{k:Nat}{A:Around}(r:Room k A):A.depth<recursionLimit:=by have:=r.dp;omega
theorem Room.units{k:Nat}{A:Around}(r:Room k A):A.units+64<cLine:=by have:=r.un;omega
theorem Room.units0{k:Nat}{A:Around}(r:Room k A):A.units<cLine:=by have:=r.un;omega
def tNil:TA:=fun _ H Q=>Q [] H
def tCons(ta:TE)(tr:TA):TA:=fun σ H Q=>ta σ H fun x H1=>tr σ H1 fun xs H2=>Q (x::xs) H2
section
variable{X:Cx}{e:Expr}{es:List Expr}{te:TE}{t:TA}{pos:Pos}
theorem pa_nil:PA X [] tNil:=fun _ _ _ _ H Q I h=>Calls.spliced_nil ⟨[],H,I,.nil,h⟩
theorem pa_cons(ha:PE X e te)(hr:PA X es t)(hs:starEach (e::es) X.env=(false,eval e X.env)::starEach es X.env:=by rfl):PA X (e::es) (tCons te t):=by
 intro pos pins s σ H Q I h;rw[hs];show wpAny _ _ (spliced ((false,eval e X.env)::backTo pos (starEach es X.env))) _ _ s;refine Calls.spliced_cons (thn (ha pins s σ H _ I h) fun u s1 ⟨x,H1,I1,r1,q1⟩=>?_);exact thn (hr pos pins s1 σ H1 _ I1 q1) fun us s2 ⟨xs,H2,I2,r2,q2⟩=>⟨x::xs,H2,I2,.cons r1 r2,q2⟩
def tTup(t:TA):TE:=fun σ H Q=>t σ H fun xs H1=>xs.length<=sizeLine/\∀ p,H1 p=none->Q (.ref p) (upd H1 p (.tup xs))
def tLst(t:TA):TE:=fun σ H Q=>t σ H fun xs H1=>xs.length<=sizeLine/\∀ p,H1 p=none->Q (.ref p) (upd H1 p (.lst xs))
theorem pe_tup{x1}(h:PA X es t):PE X (.Tuple es x1 pos) (tTup t):=by
 intro pins s σ H Q I hq;refine wpAny_Tuple_spliced (thn (h pos pins s σ H _ I hq) fun us s1 ⟨xs,H1,I1,r,z,q⟩=>⟨by rw[<-r.length];exact z,?_⟩);have hf:H1 s1.heap.objs.size=none:=I1.hok.fresh (Nat.le_refl _);refine⟨.ref s1.heap.objs.size,upd H1 s1.heap.objs.size (.tup xs),I1.laid (t':=s1.toks) (fun b u e=>Heap.get?_push_of_some _ e) (Nat.le_refl _) ?_,rfl,q _ hf⟩;exact⟨z,us,r,⟨_,Heap.get?_push_size _ rfl,rfl,_,rfl⟩⟩
theorem pe_lst(h:PA X es t):PE X (.List es pos) (tLst t):=by
 intro pins s σ H Q I hq;refine wpAny_List_spliced (thn (h pos pins s σ H _ I hq) fun us s1 ⟨xs,H1,I1,r,z,q⟩=>⟨by rw[<-r.length];exact z,?_⟩);have hf:H1 s1.heap.objs.size=none:=I1.hok.fresh (Nat.le_refl _);refine⟨.ref s1.heap.objs.size,upd H1 s1.heap.objs.size (.lst xs),I1.laid (t':=s1.toks) (fun b u e=>Heap.get?_push_of_some _ e) (Nat.le_refl _) ?_,rfl,q _ hf⟩;exact⟨z,us,0,r,Heap.get?_push_size _ rfl⟩
end
abbrev Sp:=List V->Hp->VK->XK->Prop
abbrev CXT:=List Env->Hp->Shared->XK->Value->Shared->Prop
structure Env0(P:Program)(w:World)(K:PySem.W.Frag)(mg:Str->Option Value)(base:Heap)(A:Around)(outer:List Env)(s:Shared)(H:Hp):Prop where
 frames:A.frames=some outer
 mod:Mod K mg base
 bs:∀ b o,base.get? b=some o->s.heap.get? b=some o/\H b=none
 bsz:base.objs.size<=s.heap.objs.size
 funs:s.heap.FunFrames base outer
 frf:∀ b∈frs outer,H b=none
 hok:HOk P w H s.heap
 bare:AllBare s.gens
def CE(outer:List Env)(P:Program)(w:World)(H:Hp)(s:Shared)(Q:VK)(u:Value)(s':Shared):Prop:=
 ∃ v H',s'.os=s.os/\AllBare s'.gens/\Un (frs outer) [] H H' s.heap s'.heap/\HOk P w H' s'.heap/\RelV v u/\Q v H'
def CR(CX:CXT)(outer:List Env)(P:Program)(w:World)(H:Hp)(s:Shared)(Q:VK)(E:XK)(r:Result)(s':Shared):Prop:=
 match r with
 | .ok (.ret u)=>CE outer P w H s Q u s'
 | .ok _=>False
 | .error e=>CX outer H s E e s'
structure FnOk(P:Program)(w:World)(K:PySem.W.Frag)(mg:Str->Option Value)(base:Heap)(CX:CXT)(k:Nat)(f:Addr)(fd:FuncData)(ps:List Str)(sp:Sp):Prop where
 len:∀ vs H Q E,sp vs H Q E->vs.length=ps.length
 run:∀ (A:Around) (outer:List Env) (s:Shared) (H:Hp) (args:Args) (us:List Value) (vs:List V) (Q:VK) (E:XK),Room k A->Env0 P w K mg base A outer s H->BindsTo s fd args (ps.zip us)->Vals vs us->sp vs H Q E->
  codeAny (model P w) A (.call (.ref f) args) (CR CX outer P w H s Q E) s
theorem FnOk.mono{P:Program}{w:World}{K:PySem.W.Frag}{mg:Str->Option Value}{base:Heap}{CX:CXT}{j k:Nat}{f:Addr}{fd:FuncData}{ps:List Str}{sp:Sp}(F:FnOk P w K mg base CX j f fd ps sp)(h:j<=k):
  FnOk P w K mg base CX k f fd ps sp:=⟨F.len,fun A outer s H args us vs Q E hr=>F.run A outer s H args us vs Q E (hr.mono h)⟩
theorem Env0.make{P:Program}{w:World}{K:PySem.W.Frag}{mg:Str->Option Value}{base:Heap}{A:Around}{outer:List Env}{s:Shared}{H:Hp}(e:Env0 P w K mg base A outer s H)(C:Addr)(us:List Value)(kw:List (Str×Value)):
  Env0 P w K mg base (A.under (.builtin "type.__call__" ⟨.ref C::us,kw⟩)) outer s H:=⟨by first | exact e.frames | (simpa [Around.under,Code.envs,Code.isFrame,pushEnvs] using e.frames),e.mod,e.bs,e.bsz,e.funs,e.frf,e.hok,e.bare⟩
section
variable{X:Cx}{pins:List (Addr×Obj)}{σ:St}{H:Hp}{s s':Shared}
theorem Inv.env0(I:Inv X pins σ H s):Env0 X.prog X.w X.K X.mg X.base X.A X.stack s H:=
 ⟨I.ok.frames,I.ok.mod,I.bs,Nat.le_trans I.ok.bsz I.sz,I.stack,I.stkFree,I.hok,I.bare⟩
theorem Inv.after{Q:VK}{u:Value}(I:Inv X pins σ H s)(h:CE X.stack X.prog X.w H s Q u s'):EP X pins σ Q u s':=by
 obtain⟨v,H',os,bare,un,hok,r,q⟩:=h;obtain⟨hh,g,d,t,os'⟩:=s';obtain rfl:os'=s.os:=os;exact⟨v,H',I.call (h':=hh) (g':=g) (d':=d) (t':=t) (ch:=[]) un hok bare (fun b z=>absurd z (by simp)),r,q⟩
end
def tCall(sp:Sp)(dvs:List V)(E:XK)(t:TA):TE:=fun σ H Q=>t σ H fun vs H1=>sp (vs++dvs) H1 Q E
def tMake(C:Addr)(sp:Sp)(dvs:List V)(E:XK)(t:TA):TE:=fun σ H Q=>t σ H fun vs H1=>∀ x dx,H1 x=none->H1 dx=none->dx≠x->
 sp (.ref x::(vs++dvs)) (upd (upd H1 dx (.own x)) x (.ins C dx [])) (fun v H2=>v=.non/\Q (.ref x) H2) E
def Binds(K:PySem.W.Frag)(fd:FuncData)(ps:List Str)(ds:List Value):Prop:=
 ∀ (s:Shared) (us:List Value),K.In s.heap->(us++ds).length=ps.length->BindsTo s fd ⟨us,[]⟩ (ps.zip (us++ds))
theorem Binds.all{K:PySem.W.Frag}{fd:FuncData}{ps:List Str}(h:∀ us:List Value,us.length=ps.length->bindArgs fd ⟨us,[]⟩=pure (ps.zip us)):Binds K fd ps []:=fun s us _ hl=>by
 rw[List.append_nil] at hl ⊢;exact .of_eq (h us hl)
def Passes(CX:CXT)(X:Cx)(E:XK):Prop:=∀ (pins:List (Addr×Obj)) (σ:St) (H:Hp) (s:Shared) (e:Value) (s':Shared),Inv X pins σ H s->CX X.stack H s E e s'->X.xe e s'
section
variable{X:Cx}{CX:CXT}{k:Nat}{f C:Addr}{fd:FuncData}{ps:List Str}{sp:Sp}{dvs:List V}{ds:List Value}{E:XK}{x m:Str}{p pos apos:Pos}{e o:Expr}{es:List Expr}{ta:TE}{t:TA}
theorem run_fn{pins:List (Addr×Obj)}{σ:St}{H:Hp}{s:Shared}{Q:VK}{us:List Value}{vs:List V}(F:FnOk X.prog X.w X.K X.mg X.base CX k f fd ps sp)(hr:Room k X.A)(hb:Binds X.K fd ps ds)(hd:Vals dvs ds)(hx:Passes CX X E)(I:Inv X pins σ H s)(r:Vals vs us)(h:sp (vs++dvs) H Q E):wpAny (model X.prog X.w) X.A (call (.ref f) us) (EP X pins σ Q) X.xe s:=by
 have r2:Vals (vs++dvs) (us++ds):=r.append hd;have hl:(us++ds).length=ps.length:=by rw[<-r2.length];exact F.len _ _ _ _ h
 refine wpAny_call (codeAny_mono (F.run X.A X.stack s H ⟨us,[]⟩ (us++ds) (vs++dvs) Q E hr I.env0 (hb s us I.kIn hl) r2 h) fun r s' hq=>?_);cases r with
 | error e=>exact hx pins σ H s e s' I hq
 | ok fl=>
  cases fl with
  | ret u=>exact I.after hq
  | next=>exact False.elim hq
  | brk=>exact False.elim hq
  | cont=>exact False.elim hq
theorem pe_call(F:FnOk X.prog X.w X.K X.mg X.base CX k f fd ps sp)(hr:Room k X.A)(hg:Gl X x)(hm:X.mg x=some (.ref f))(hk:PySem.W.keepIn X.K (.ref f)=true)(hb:Binds X.K fd ps ds)(hd:Vals dvs ds)(hx:Passes CX X E)(ha:PA X (e::es) t)(hdb:(x==("__debug__":Str))=false:=by decide)(he:starEach (e::es) X.env=(false,eval e X.env)::starEach es X.env:=by rfl)(hpl:(backTo pos (starEach es X.env)).any (·.1)=false:=by rfl):
  PE X (.Call (.Name x p) (e::es) [] pos) (tCall sp dvs E t):=by
 intro pins s σ H Q I h;refine wpAny_Call_Name_kw (ld_glob I hg hm ?_ hdb);refine PySem.W.callWith_K (h₀:=X.base) I.ok.mod.kin hk (thn (ha pos pins s σ H _ I h) fun us s1 ⟨vs,H1,I1,r,q⟩=>⟨I1.kIn,?_⟩) he hpl;exact run_fn F hr hb hd hx I1 r q
structure Mk(K:PySem.W.Frag)(C f:Addr):Prop where
 makes:PySem.W.makesIn K C=true
 init:PySem.W.findIn K (.ref C) "__init__"=some (some (.ref f))
 fn:PySem.W.isFn K (.ref f)=true
 kp:PySem.W.keepIn K (.ref C)=true
theorem run_make{pins:List (Addr×Obj)}{σ:St}{H:Hp}{s:Shared}{Q:VK}{us:List Value}{vs:List V}(M:Mk X.K C f)(F:FnOk X.prog X.w X.K X.mg X.base CX k f fd ps sp)(hr:Room (k+1) X.A)(hb:Binds X.K fd ps ds)(hd:Vals dvs ds)(hx:Passes CX X E)(I:Inv X pins σ H s)(r:Vals vs us)(h:∀ x dx,H x=none->H dx=none->dx≠x->sp (.ref x::(vs++dvs)) (upd (upd H dx (.own x)) x (.ins C dx [])) (fun v H2=>v=.non/\Q (.ref x) H2) E):
  wpAny (model X.prog X.w) X.A (call (.ref C) us) (EP X pins σ Q) X.xe s:=by
 have hq:=h (s.heap.objs.size+1) s.heap.objs.size (I.hok.fresh (Nat.le_succ _)) (I.hok.fresh (Nat.le_refl _)) (Nat.ne_of_lt (Nat.lt_succ_self _));have I2:=Inv.made (C:=C) I;have r2:Vals (V.ref (s.heap.objs.size+1)::(vs++dvs)) (Value.ref (s.heap.objs.size+1)::(us++ds)):=.cons rfl (r.append hd);have hl:(Value.ref (s.heap.objs.size+1)::us++ds).length=ps.length:=by
  have e:=r2.length;rw[F.len _ _ _ _ hq] at e;exact e.symm
 refine wpAny_call (make_map (f:=f) I.kIn M.makes M.init (beq_iff_eq.mp M.fn) (codeAny_mono (F.run _ X.stack _ _ ⟨Value.ref (s.heap.objs.size+1)::us,[]⟩ (Value.ref (s.heap.objs.size+1)::(us++ds)) _ _ E (hr.make C us [])
  (I2.env0.make C us []) (hb _ (Value.ref (s.heap.objs.size+1)::us) I2.kIn hl) r2 hq) fun r s' hq'=>?_))
 cases r with
 | error e=>exact hx pins σ _ _ e s' I2 hq'
 | ok fl=>
  cases fl with
  | ret u=>
   obtain⟨v,H',I3,rv,ev,q3⟩:=I2.after hq';subst ev;exact⟨rv,⟨V.ref (s.heap.objs.size+1),H',I3,rfl,q3⟩⟩
  | next=>exact False.elim hq'
  | brk=>exact False.elim hq'
  | cont=>exact False.elim hq'
theorem pe_make(M:Mk X.K C f)(F:FnOk X.prog X.w X.K X.mg X.base CX k f fd ps sp)(hr:Room (k+1) X.A)(hg:Gl X x)(hm:X.mg x=some (.ref C))(hb:Binds X.K fd ps ds)(hd:Vals dvs ds)(hx:Passes CX X E)(ha:PA X (e::es) t)(hdb:(x==("__debug__":Str))=false:=by decide)(he:starEach (e::es) X.env=(false,eval e X.env)::starEach es X.env:=by rfl)(hpl:(backTo pos (starEach es X.env)).any (·.1)=false:=by rfl):
  PE X (.Call (.Name x p) (e::es) [] pos) (tMake C sp dvs E t):=by
 intro pins s σ H Q I h;refine wpAny_Call_Name_kw (ld_glob I hg hm ?_ hdb);refine PySem.W.callWith_K (h₀:=X.base) I.ok.mod.kin M.kp (thn (ha pos pins s σ H _ I h) fun us s1 ⟨vs,H1,I1,r,q⟩=>⟨I1.kIn,?_⟩) he hpl;exact run_make M F hr hb hd hx I1 r q
theorem pe_make0(M:Mk X.K C f)(F:FnOk X.prog X.w X.K X.mg X.base CX k f fd ps sp)(hr:Room (k+1) X.A)(hg:Gl X x)(hm:X.mg x=some (.ref C))(hb:Binds X.K fd ps ds)(hd:Vals dvs ds)(hx:Passes CX X E)(hdb:(x==("__debug__":Str))=false:=by decide):PE X (.Call (.Name x p) [] [] pos) (tMake C sp dvs E tNil):=by
 intro pins s σ H Q I h;refine wpAny_Call_Name_kw (ld_glob I hg hm ?_ hdb);exact PySem.W.callWith_K0 I.kIn M.kp (run_make (us:=[]) M F hr hb hd hx I .nil h)
end
structure FnScope(N P:List Str)(sc:Scope):Prop where
 kind:sc.kind=.function
 co:sc.isCoroutine=false
 gen:sc.isGenerator=false
 nd:N.Nodup
 pre:N.take P.length=P
 par:∀ x∈P,sc.names.lookup x=some .local\/sc.names.lookup x=some .cell
 nofree:∀ y∈sc.names,y.2≠.free
theorem bindL_out{kindOf:Str->Option NameKind}{x:Str}:∀ {binds:List (Str×Value)} {m:Str->Option Value},(∀ v,(x,v)∉binds)->bindL kindOf binds m x=m x
 | [],_,_=>rfl
 | (n,v)::r,m,h=>by
  unfold bindL;rw[bindL_out fun w hw=>h w (List.mem_cons_of_mem _ hw)];split
  ·have:x≠n:=by rintro rfl;exact h v List.mem_cons_self
   simp[this]
  ·rfl
theorem bindC_out{kindOf:Str->Option NameKind}{x:Str}:∀ {binds:List (Str×Value)} {m:Str->Option Value},(∀ v,(x,v)∉binds)->bindC kindOf binds m x=m x
 | [],_,_=>rfl
 | (n,v)::r,m,h=>by
  unfold bindC;rw[bindC_out fun w hw=>h w (List.mem_cons_of_mem _ hw)];split
  ·rfl
  ·have:x≠n:=by rintro rfl;exact h v List.mem_cons_self
   simp[this]
theorem bindL_get{kindOf:Str->Option NameKind}{x:Str}{v:Value}:∀ {P:List Str} {vs:List Value} {i:Nat} {m:Str->Option Value},P.Nodup->P[i]?=some x->vs[i]?=some v->kindOf x=some .local->
  bindL kindOf (P.zip vs) m x=some v
 | [],_,_,_,_,h,_,_=>by simp at h
 | _::_,[],_,_,_,_,h,_=>by simp at h
 | p::P,w::vs,0,m,nd,h1,h2,hk=>by
  simp at h1 h2;subst h1;subst h2;show bindL kindOf ((p,w)::P.zip vs) m p=_;unfold bindL;rw[bindL_out fun v hv=>(List.nodup_cons.mp nd).1 (List.of_mem_zip hv).1,if_pos hk];simp
 | p::P,w::vs,i+1,m,nd,h1,h2,hk=>by
  show bindL kindOf ((p,w)::P.zip vs) m x=_;unfold bindL;exact bindL_get (i:=i) (List.nodup_cons.mp nd).2 (by simpa using h1) (by simpa using h2) hk
theorem bindC_get{kindOf:Str->Option NameKind}{x:Str}{v:Value}:∀ {P:List Str} {vs:List Value} {i:Nat} {m:Str->Option Value},P.Nodup->P[i]?=some x->vs[i]?=some v->kindOf x≠some .local->
  bindC kindOf (P.zip vs) m x=some v
 | [],_,_,_,_,h,_,_=>by simp at h
 | _::_,[],_,_,_,_,h,_=>by simp at h
 | p::P,w::vs,0,m,nd,h1,h2,hk=>by
  simp at h1 h2;subst h1;subst h2;show bindC kindOf ((p,w)::P.zip vs) m p=_;unfold bindC;rw[bindC_out fun v hv=>(List.nodup_cons.mp nd).1 (List.of_mem_zip hv).1,if_neg hk];simp
 | p::P,w::vs,i+1,m,nd,h1,h2,hk=>by
  show bindC kindOf ((p,w)::P.zip vs) m x=_;unfold bindC;exact bindC_get (i:=i) (List.nodup_cons.mp nd).2 (by simpa using h1) (by simpa using h2) hk
def start(N:List Str)(vs:List V):St:=vs.map some++List.replicate (N.length-vs.length) none
def cxOf(CX:CXT)(P:Program)(w:World)(K:PySem.W.Frag)(mg:Str->Option Value)(base:Heap)(N:List Str)(qual:Str)(scope:Scope)(f:Addr)(cd:Value)(A:Around)(outer:List Env)(s:Shared)(H:Hp)(E:XK):Cx where
 prog:=P
 w:=w
 K:=K
 mg:=mg
 base:=base
 A:=A.deeper (envOfC qual scope s.heap.objs.size f cd)
 N:=N
 s_0:=s
 H_0:=H
 env:=envOfC qual scope s.heap.objs.size f cd
 outer:=outer
 stack:=envOfC qual scope s.heap.objs.size f cd::outer
 ex:=[]
 calm:=true
 fn:=fun _=>true
 pn:=[]
 xe:=fun e s'=>wpAny (model P w) (A.deeper (envOfC qual scope s.heap.objs.size f cd)) (leaving (envOfC qual scope s.heap.objs.size f cd) e) (fun _ s''=>CX outer H s E e s'') (fun e' s''=>CX outer H s E e' s'') s'
theorem cell_has{sc:Scope}{n:Nat}{x:Str}(h:sc.names.lookup x=some .cell):∃ c,(cellsFrom n sc.names []).lookup x=some c:=by
 have q:=PySem.W.cellsFrom_some sc.names n [] (.inl h);exact Option.isSome_iff_exists.mp q
theorem inv_start{CX:CXT}{P:Program}{w:World}{K:PySem.W.Frag}{mg:Str->Option Value}{base:Heap}{N ps:List Str}{qual:Str}{scope:Scope}{f:Addr}{cd:Value}{A:Around}{outer:List Env}{s s1:Shared}{H:Hp}{E:XK}{us:List Value}{vs:List V}(S:FnScope N ps scope)(hd:A.handled=none)(e0:Env0 P w K mg base A outer s H)(hl:vs.length=ps.length)(r:Vals vs us)(x:InCallC s s.heap.objs.size (bindL (envOfC qual scope s.heap.objs.size f cd).kindOf (ps.zip us) fun _=>none) (cellsFrom (s.heap.objs.size+1) scope.names []) (bindC (envOfC qual scope s.heap.objs.size f cd).kindOf (ps.zip us) fun _=>none) s1):
  Inv (cxOf CX P w K mg base N qual scope f cd A outer s H E) [] (start N vs) H s1:=by
 have hpl:ps.length<=N.length:=by have:=congrArg List.length S.pre;rw[List.length_take] at this;omega
 obtain⟨h1,tk,rfl,hk⟩:=x.done;have noA:∀ b:Addr,b∉(cxOf CX P w K mg base N qual scope f cd A outer s H E).ex:=fun b z=>absurd (show b∈([]:List Addr) from z) (by simp);refine⟨⟨e0.mod,S.kind,rfl,rfl,Nat.le_refl _,fun y z c h1 h2=>?_,fun y hy=>?_,fun y c _ h=>?_,fun _=>hd,Around.frames_deeper e0.frames,.inr ⟨rfl,rfl⟩,fun b z=>absurd z (noA b),e0.bs,e0.bsz,fun b _ _=>noA b,fun b z=>absurd z (noA b),e0.funs,e0.frf⟩,
  rfl,e0.bare,Un.kept hk,⟨_,x.toInCall.ns,fun i y v h1 h2 h3=>?_⟩,fun y c h=>⟨_,x.cell y c h⟩,e0.hok.fresh (Nat.le_refl _),fun y c h=>?_,fun p hp=>absurd (show p∈([]:List (Addr×Obj)) from hp) (by simp),e0.hok.kept hk,?_⟩
 ·exact name_of_addr x.apart (PySem.mem_of_lookup h1) (PySem.mem_of_lookup h2)
 ·have hy:scope.names.lookup y=some .cell\/scope.names.lookup y=some .free:=hy;rcases hy with hy | hy
  ·exact cell_has hy
  ·exact absurd rfl (S.nofree _ (PySem.mem_of_lookup hy))
 ·exact Nat.le_of_lt (x.above y c (PySem.mem_of_lookup h))
 ·have hi:i<vs.length:=by
   unfold start at h2;by_cases hi:i<vs.length
   ·exact hi
   ·rw[List.getElem?_append_right (by simpa using hi)] at h2;rw[List.getElem?_replicate] at h2;split at h2<;>cases h2
  have ha:vs[i]?=some v:=by
   unfold start at h2;rw[List.getElem?_append_left (by simpa using hi),List.getElem?_map] at h2;cases e:vs[i]? with
   | none=>rw[e] at h2;cases h2
   | some a=>rw[e] at h2;cases h2;rfl
  obtain⟨u,hu,rv⟩:=r.get ha;have hp:ps[i]?=some y:=by
   rw[<-S.pre,List.getElem?_take_of_lt (by omega)];exact h1
  have ndP:ps.Nodup:=by rw[<-S.pre];exact S.nd.sublist (List.take_sublist _ _)
  refine⟨u,rv,?_⟩;rcases S.par y (List.mem_of_getElem? hp) with k | k
  ·exact .inl ⟨k,bindL_get ndP hp hu k⟩
  ·obtain⟨c,e⟩:=cell_has (n:=s.heap.objs.size+1) k;refine .inr ⟨.inl k,c,e,?_⟩;have q:=x.cell y c e;rw[bindC_get ndP hp hu (by show scope.names.lookup y≠_;rw[k];decide)] at q;exact q
 ·exact e0.hok.fresh (Nat.le_of_lt (x.above y c (PySem.mem_of_lookup h)))
 ·unfold start;show _=N.length;rw[List.length_append,lmp,List.length_replicate];omega
theorem fn_of{CX:CXT}{P:Program}{w:World}{K:PySem.W.Frag}{mg:Str->Option Value}{base:Heap}{k:Nat}{f:Addr}{name qual:Str}{params:Arguments}{body:List Stmt}{scope:Scope}{dV kV doc pm cdv ct oc:Value}{an od:Option Addr}{osl:Array (Option Value)}{N ps:List Str}{sp:Sp}(lk:K.lookup f=some ⟨oc,od,.func (PySem.W.fnOf name qual params body scope dV kV doc pm an cdv ct),osl⟩)(hcd:PySem.W.codeIn K cdv qual=true)(S:FnScope N ps scope)(len:∀ vs H Q E,sp vs H Q E->vs.length=ps.length)(hbody:∀ (A:Around) (outer:List Env) (s:Shared) (H:Hp) (vs:List V) (Q:VK) (E:XK),Room k (A.deeper (envOfC qual scope s.heap.objs.size f cdv))->sp vs H Q E->
   ∃ t,PSs (cxOf CX P w K mg base N qual scope f cdv A outer s H E) body t/\t {nx:=fun _ H'=>Q .non H',rt:=Q} (start N vs) H):
  FnOk P w K mg base CX (k+1) f (PySem.W.fnOf name qual params body scope dV kV doc pm an cdv ct) ps sp:=by
 refine⟨len,fun A outer s H args us vs Q E hr e0 hb r hsp=>?_⟩;have hl:=len _ _ _ _ hsp;have KX:K.In s.heap:=e0.mod.kin.keeps fun b o e=>(e0.bs b o e).1;have lim:s.heap.NoLimit:=e0.mod.nolimit.keeps fun b o e=>(e0.bs b o e).1;have hkind:∀ y∈ps.zip us,scope.names.lookup y.1=some .local\/(scope.names.lookup y.1=some .cell/\((cellsFrom (s.heap.objs.size+1) scope.names []).lookup y.1).isSome=true):=fun⟨n,v⟩ hy=>by
  rcases S.par n (List.of_mem_zip hy).1 with q | q
  ·exact .inl q
  ·exact .inr ⟨q,PySem.W.cellsFrom_some _ _ _ (.inl q)⟩
 refine codeAny_call_function hr.depth (KX _ _ lk) rfl S.co S.gen rfl (PySem.W.codeRec_of KX hcd) (hb _ _ _ _ ?_);refine wpAny_newFunctionEnv_cells S.kind hkind fun env he s1 x=>?_;subst he;refine⟨lim.keeps x.toInCall.keep,codeAny_func ?_⟩;obtain⟨t,ht,hq⟩:=hbody A outer s H vs Q E (hr.deeper _) hsp;have I:Inv (cxOf CX P w K mg base N qual scope f cdv A outer s H E) [] (start N vs) H s1:=inv_start S hr.hd e0 hl r x;refine wpAny_mono (ht [] s1 (start N vs) H _ I hq) (fun fl s' hs=>?_) fun e s' hs=>hs;have fin:∀ {σ':St} {H':Hp} {v:V} {u:Value},Inv (cxOf CX P w K mg base N qual scope f cdv A outer s H E) [] σ' H' s'->RelV v u->Q v H'->CE outer P w H s Q u s':=
  fun {σ' H' v u} J rv q=>⟨v,H',J.os,J.bare,J.base,J.hok,rv,q⟩
 cases fl with
 | ret u=>
  obtain⟨v,σ',H',J,rv,q⟩:=hs;exact fin J rv q
 | next=>
  obtain⟨σ',H',J,q⟩:=hs;exact fin (v:=V.non) (u:=Value.none) J rfl q
 | brk=>
  obtain⟨_,_,_,q⟩:=hs;exact False.elim q
 | cont=>
  obtain⟨_,_,_,q⟩:=hs;exact False.elim q
end L2
namespace L2
open PySem PySem.Spec PyProof.Rows
section
variable{X:Cx}{x:Str}{p pos:Pos}{e:Expr}{es:List Expr}{t:TA}{id T:String}{r:List V->Hp->VK->Prop}
def tCB(r:List V->Hp->VK->Prop)(t:TA):TE:=fun σ H Q=>t σ H fun vs H1=>r vs H1 Q
theorem pe_callB(hc:CallR X (.builtin id) r)(hg:Gl X x)(hm:X.mg x=none)(hv:bootBuiltins x=some (.builtin id))(ha:PA X (e::es) t)(hn:x≠"__name__":=by decide)(hdb:(x==("__debug__":Str))=false:=by decide)(he:starEach (e::es) X.env=(false,eval e X.env)::starEach es X.env:=by rfl)(hpl:(backTo pos (starEach es X.env)).any (·.1)=false:=by rfl):PE X (.Call (.Name x p) (e::es) [] pos) (tCB r t):=by
 intro pins s σ H Q I h;refine wpAny_Call_Name_kw (ld_blt I hg hm hv ?_ hn hdb);exact PyProof.Rows.callWith_builtin1 (thn (ha pos pins s σ H _ I h) fun us s1 ⟨vs,H1,I1,r1,q1⟩=>hc pins s1 σ H1 vs us Q I1 r1 q1) he hpl
theorem pe_callTy(hc:CallR X (.type T) r)(hg:Gl X x)(hm:X.mg x=none)(hv:bootBuiltins x=some (.type T))(ha:PA X (e::es) t)(hn:x≠"__name__":=by decide)(hdb:(x==("__debug__":Str))=false:=by decide)(he:starEach (e::es) X.env=(false,eval e X.env)::starEach es X.env:=by rfl)(hpl:(backTo pos (starEach es X.env)).any (·.1)=false:=by rfl):PE X (.Call (.Name x p) (e::es) [] pos) (tCB r t):=by
 intro pins s σ H Q I h;refine wpAny_Call_Name_kw (ld_blt I hg hm hv ?_ hn hdb);exact PyProof.Rows.callWith_type1 (thn (ha pos pins s σ H _ I h) fun us s1 ⟨vs,H1,I1,r1,q1⟩=>hc pins s1 σ H1 vs us Q I1 r1 q1) he hpl
end
end L2
namespace HT
open PySem PyProof.Rows
theorem eqAt_int(A:Around)(s:Shared)(a:Int)(t:Tok)(c:Int)(u:Tok):∃ e,SeqAt.EqAt A s (.int a t) (.int c u) e/\(e=true<->a=c):=
 ⟨(a==c),SeqAt.EqAt.int_int a t c u,by simp⟩
theorem rcLt_int(A:Around)(s:Shared)(a:Int)(t:Tok)(c:Int)(u:Tok)(prog:Program)(w:World)(E:Value->Shared->Prop)(Q:Value->Shared->Prop)(h:Q (.bool (decide (a<c))) s):
  wpAny (model prog w) A (richCompare .Lt (.int a t) (.int c u)) Q E s:=
 (PyProof.Rows.lt_int h:wpAny (model prog w) A (compareOp .Lt (.int a t) (.int c u)) Q E s)
section
variable{prog:Program}{w:World}{A:Around}{E:Value->Shared->Prop}{s:Shared}
def sIx(n d:Nat):Option Int->Nat
 | none=>d
 | some v=>if v<0 then (v+(n:Int)).toNat else min v.toNat n
theorem sIx_nat(n d k:Nat):sIx n d (some (k:Int))=min k n:=by
 show(if (k:Int)<0 then ((k:Int)+(n:Int)).toNat else min (k:Int).toNat n)=min k n;rw[if_neg (by omega),Int.toNat_natCast]
end
end HT
namespace L2
open PySem PySem.Spec PyProof.Rows
abbrev TO:=St->Hp->(Option Int->Hp->Prop)->Prop
def PO(X:Cx)(e:Option Expr)(t:TO):Prop:=
 ∀ (pins:List (Addr×Obj)) (s:Shared) (σ:St) (H:Hp) (Q:Option Int->Hp->Prop),Inv X pins σ H s->t σ H Q->
  wpAny (model X.prog X.w) X.A (evalPart e X.env) (fun u s'=>∃ o H',Inv X pins σ H' s'/\IsPart u o/\Q o H') X.xe s
def tNoPart:TO:=fun _ H Q=>Q none H
def tPart(t:TE):TO:=fun σ H Q=>t σ H fun x H1=>∃ i,x=.int i/\Q (some i) H1
theorem intsAre_of{ns:List Int}:∀ {us:List Value},Vals (ns.map V.int) us->IntsAre us ns:=by
 induction ns with
 | nil=>intro us r;rw[List.map_nil] at r;cases r;exact .nil
 | cons n ns ih=>
  intro us r;rw[List.map_cons] at r;cases r with
  | cons r1 r2=>
   obtain⟨t,e⟩:=r1;subst e;exact .cons n t (ih r2)
section
variable{X:Cx}{e:Expr}{te:TE}{lo hi:Option Expr}{tl th:TO}{pos p2:Pos}
theorem po_none:PO X none tNoPart:=by
 intro pins s σ H Q I h;rw[evalPart_none];exact wpAny_pure ⟨none,H,I,.none,h⟩
theorem po_some(h:PE X e te):PO X (some e) (tPart te):=by
 intro pins s σ H Q I hw;rw[evalPart_some];refine thn (h pins s σ H _ I hw) fun u s1 ⟨x,H1,I1,r1,q1⟩=>?_;obtain⟨i,rfl,q⟩:=q1;obtain⟨t,rfl⟩:=r1;exact⟨some i,H1,I1,.int i t,q⟩
def SlR(X:Cx)(r:V->Option Int->Option Int->Hp->VK->Prop):Prop:=
 ∀ (pins:List (Addr×Obj)) (s:Shared) (σ:St) (H:Hp) (x:V) (v vl vu:Value) (lo hi:Option Int) (sl:Addr) (Q:VK),Inv X pins σ H s->RelV x v->s.heap.IsSliceOf sl vl vu .none->IsPart vl lo->IsPart vu hi->r x lo hi H Q->
  ∃ T id,typeLookup (.type T) "__getitem__"=pure (some (.builtin id))/\s.TypeIs v T/\wpAny (model X.prog X.w) X.A (getItem v (.ref sl)) (EP X pins σ Q) X.xe s
def tSl(r:V->Option Int->Option Int->Hp->VK->Prop)(te:TE)(tl th:TO):TE:=fun σ H Q=>te σ H fun x H1=>tl σ H1 fun l H2=>th σ H2 fun u H3=>r x l u H3 Q
theorem pe_slice{r:V->Option Int->Option Int->Hp->VK->Prop}(hr:SlR X r)(he:PE X e te)(hl:PO X lo tl)(hu:PO X hi th):PE X (.Subscript e (.Slice lo hi none p2) pos) (tSl r te tl th):=by
 intro pins s σ H Q I h;refine Subscript_ (thn (he pins s σ H _ I h) fun v s1 ⟨x,H1,I1,r1,q1⟩=>?_);refine wpAny_Slice (thn (hl pins s1 σ H1 _ I1 q1) fun vl s2 ⟨l,H2,I2,pl,q2⟩=>thn (hu pins s2 σ H2 _ I2 q2) fun vu s3 ⟨u,H3,I3,pu,q3⟩=>?_);rw[evalPart_none];refine wpAny_pure ?_;have I4:Inv X pins σ H3 {s3 with heap:=s3.heap.push {cls:=.type "slice",data:=.fields #[vl,vu,.none]}}:=I3.kept (t':=s3.toks) fun b ob q=>Heap.get?_push_of_some _ q;obtain⟨T,id,hT,ht,hg⟩:=hr pins {s3 with heap:=s3.heap.push {cls:=.type "slice",data:=.fields #[vl,vu,.none]}} σ H3 x v vl vu l u s3.heap.objs.size Q I4 r1 (Heap.IsSliceOf.new ..) pl pu q3;show wpAny (model X.prog X.w) X.A (subscriptTail e (.Slice lo hi none p2) v (.ref s3.heap.objs.size)) (EP X pins σ Q) X.xe {s3 with heap:=s3.heap.push {cls:=.type "slice",data:=.fields #[vl,vu,.none]}};exact tail_any (ops:=[.ref s3.heap.objs.size,v]) ht hT hg (by with_unfolding_all rfl)
def cutV(xs:List V)(lo hi:Option Int):List V:=(xs.drop (HT.sIx xs.length 0 lo)).take (HT.sIx xs.length xs.length hi-HT.sIx xs.length 0 lo)
theorem cutV_length(xs:List V)(lo hi:Option Int):(cutV xs lo hi).length<=xs.length:=by
 unfold cutV;rw[List.length_take,List.length_drop];omega
end
end L2
namespace L2
open PySem PySem.Spec PyProof.Rows
def ixN(n:Nat)(i:Int):Option Nat:=if 0<=i then (if i<n then some i.toNat else none) else if -(n:Int)<=i then some (i+n).toNat else none
def atI{α:Type}(xs:List α)(i:Int):Option α:=(ixN xs.length i).bind fun j=>xs[j]?
theorem ixN_seq{n:Nat}{i:Int}{j:Nat}(h:ixN n i=some j):seqIndex? i n=some j/\j<n/\-(n:Int)<=i/\i<n:=by
 unfold ixN at h;by_cases h0:0<=i
 ·rw[if_pos h0] at h;by_cases h1:i<n
  ·rw[if_pos h1] at h;have e:i.toNat=j:=Option.some.inj h;exact⟨by rw[seqIndex_of h0 h1,e],by omega,by omega,h1⟩
  ·rw[if_neg h1] at h;cases h
 ·rw[if_neg h0] at h;by_cases h1:-(n:Int)<=i
  ·rw[if_pos h1] at h;have e:(i+n).toNat=j:=Option.some.inj h;exact⟨by rw[seqIndex_neg (by omega) h1,e],by omega,h1,by omega⟩
  ·rw[if_neg h1] at h;cases h
theorem atI_get{α:Type}{xs:List α}{i:Int}{v:α}(h:atI xs i=some v):∃ j,seqIndex? i xs.length=some j/\xs[j]?=some v/\j<xs.length/\-(xs.length:Int)<=i/\i<xs.length:=by
 unfold atI at h;cases e:ixN xs.length i with
 | none=>rw[e] at h;cases h
 | some j=>
  rw[e] at h;obtain⟨h1,h2,h3,h4⟩:=ixN_seq e;exact⟨j,h1,h,h2,h3,h4⟩
theorem atI_nat{α:Type}{xs:List α}{j:Nat}{v:α}(h:xs[j]?=some v):atI xs (j:Int)=some v:=by
 have hj:j<xs.length:=(List.getElem?_eq_some_iff.mp h).1;have e:ixN xs.length (j:Int)=some j:=by
  unfold ixN;rw[if_pos (by omega),if_pos (by omega)];simp
 unfold atI;rw[e];exact h
def PlainIx(b:Expr):Prop:=∀ o i,subscripted b false o i=operate [o,i] (getItem o i)
def IxR(X:Cx)(r:R2):Prop:=
 ∀ (value slice:Expr) (pins:List (Addr×Obj)) (s:Shared) (σ:St) (H:Hp) (x y:V) (v u:Value) (Q:VK),Inv X pins σ H s->RelV x v->RelV y u->r x y H Q->
  subscripted slice false v u=operate [v,u] (getItem v u)->wpAny (model X.prog X.w) X.A (subscriptTail value slice v u) (EP X pins σ Q) X.xe s
def MtR(X:Cx)(id:String)(r:V->List V->Hp->VK->Prop):Prop:=
 ∀ (pins:List (Addr×Obj)) (s:Shared) (σ:St) (H:Hp) (x:V) (xs:List V) (v:Value) (us:List Value) (Q:VK),Inv X pins σ H s->RelV x v->Vals xs us->r x xs H Q->
  wpAny (model X.prog X.w) X.A (call (.builtin id) (v::us)) (EP X pins σ Q) X.xe s
section
variable{X:Cx}{a b:Expr}{ta tb:TE}{pos:Pos}
theorem pe_ix{r:R2}(hr:IxR X r)(ha:PE X a ta)(hb:PE X b tb)(hs:PlainIx b):PE X (.Subscript a b pos) (tOp r ta tb):=by
 intro pins s σ H Q I h;exact Subscript_ (binT ha hb I h fun v u s2 x y H2 I2 rx ry q=>hr a b pins s2 σ H2 x y v u Q I2 rx ry q (hs _ _))
def rIxL(K:PySem.W.Frag):R2:=fun x y H Q=>∃ p xs i v,x=.ref p/\y=.int i/\SqL K H p xs/\atI xs i=some v/\Q v H
def rIxT(K:PySem.W.Frag):R2:=fun x y H Q=>∃ p xs i v,x=.ref p/\y=.int i/\SqT K H p xs/\atI xs i=some v/\Q v H
theorem ix_list:IxR X (rIxL X.K):=by
 intro value slice pins s σ H x y v u Q I rx ry h hs;obtain⟨p,xs,i,z,rfl,rfl,hq,he,q⟩:=h;cases rx;obtain⟨t,rfl⟩:=ry;obtain⟨its,r,pl,hz⟩:=I.list hq;obtain⟨j,h1,h2,h3,h4,h5⟩:=atI_get he;obtain⟨w,ew,rw'⟩:=r.get h2;have hl:=r.length;have hn:=line63;have fin:EP X pins σ Q w s:=⟨z,H,I,rw',q⟩;by_cases h0:0<=i
 ·have hj:i.toNat=j:=by
   rw[seqIndex_of h0 h5] at h1;exact Option.some.inj h1
  exact item_listR pl.isList h0 (by omega) (by rw[hj];simpa using ew) fin hs
 ·have hj:(i+(its.toArray.size:Int)).toNat=j:=by
   rw[seqIndex_neg (by omega) h4] at h1;rw[List.size_toArray,<-hl];exact Option.some.inj h1
  exact subscriptTail_builtinR (x:=w) pl.isList.typeIs slot_list_getitem.lookup
   (wpAny_getItem_list_neg (Q:=fun r s'=>r=w/\EP X pins σ Q r s') pl.isList (by omega) (by rw[List.size_toArray]<;>omega) (by omega) (by rw[hj];simpa using ew) ⟨rfl,fin⟩) hs
theorem ix_tup:IxR X (rIxT X.K):=by
 intro value slice pins s σ H x y v u Q I rx ry h hs;obtain⟨p,xs,i,z,rfl,rfl,hq,he,q⟩:=h;cases rx;obtain⟨t,rfl⟩:=ry;obtain⟨its,r,pl,hz⟩:=I.tuple hq;obtain⟨j,h1,h2,h3,h4,h5⟩:=atI_get he;obtain⟨w,ew,rw'⟩:=r.get h2;have hl:=r.length;have hn:=line63;have fin:EP X pins σ Q w s:=⟨z,H,I,rw',q⟩;exact subscriptTail_builtinR (x:=w) pl.typeIs slot_tuple_getitem.lookup
  (getItem_tuple (j:=j) (Q:=fun r s'=>r=w/\EP X pins σ Q r s') pl (by omega) (by omega) (by rw[List.size_toArray,<-hl];exact h1) (by simpa using ew) ⟨rfl,fin⟩) hs
theorem mapSeq_set(its:List Value)(n j:Nat)(u:Value):Obj.mapSeq (·.setIfInBounds j u) {cls:=.type "list",data:=.seq its.toArray n}={cls:=.type "list",data:=.seq (its.set j u).toArray n}:=by
 simp[Obj.mapSeq]
theorem Inv.lst{pins:List (Addr×Obj)}{σ:St}{H:Hp}{s:Shared}{p:Addr}{xs:List V}(I:Inv X pins σ H s)(h:H p=some (.lst xs)):
  ∃ (its:List Value) (n:Nat),Vals xs its/\s.heap.get? p=some {cls:=.type "list",data:=.seq its.toArray n}/\xs.length<=sizeLine:=by
 obtain⟨z,its,n,r,e⟩:=I.hok p _ h;exact⟨its,n,r,e,z⟩
theorem Inv.lstUpd{pins:List (Addr×Obj)}{σ:St}{H:Hp}{s:Shared}{p:Addr}{xs ys:List V}{its its':List Value}{n n':Nat}{f:Obj->Obj}(I:Inv X pins σ H s)(h:H p=some (.lst xs))(ho:s.heap.get? p=some {cls:=.type "list",data:=.seq its.toArray n})(hf:f {cls:=.type "list",data:=.seq its.toArray n}={cls:=.type "list",data:=.seq its'.toArray n'})(r:Vals ys its')(hz:ys.length<=sizeLine)(t:Nat):
  Inv X pins σ (upd H p (.lst ys)) {s with heap:=s.heap.update p f,toks:=t}:=by
 have e:(s.heap.update p f).get? p=some {cls:=.type "list",data:=.seq its'.toArray n'}:=by
  rw[Heap.get?_update_self f ho (by rw[hf]<;>rfl),hf]
 refine I.write (x:=p) (e:=p) (by rw[h];trivial) (.inl rfl) (fun b u hb q=>(Heap.get?_update_other _ _ (Ne.symm hb)).trans q) ⟨_,e⟩ ?_;exact⟨hz,its',n',r,e⟩
def rSetL:V->V->V->Hp->(Hp->Prop)->Prop:=fun o i v H Q=>∃ p xs k j,o=.ref p/\i=.int k/\H p=some (.lst xs)/\ixN xs.length k=some j/\Q (upd H p (.lst (xs.set j v)))
theorem set_list:PSet X rSetL:=by
 intro pins s σ H o i v ov iv u Q I ro ri rv h;obtain⟨p,xs,k,j,rfl,rfl,hp,hj,q⟩:=h;cases ro;obtain⟨t,rfl⟩:=ri;obtain⟨its,n,r,ho,hz⟩:=I.lst hp;obtain⟨h1,h2,h3,h4⟩:=ixN_seq hj;have hl:=r.length;have hn:=line63;have I':Inv X pins σ (upd H p (.lst (xs.set j v))) {s with heap:=s.heap.update p (Obj.mapSeq (·.setIfInBounds j u))}:=
  I.lstUpd hp ho (mapSeq_set its n j u) (r.set rv j) (by rw[List.length_set];exact hz) s.toks
 by_cases h0:0<=k
 ·have hk:k.toNat=j:=by
   rw[seqIndex_of h0 h4] at h1;exact Option.some.inj h1
  exact PySem.W.ki_setAt ho h0 (by omega) (by rw[List.size_toArray,<-hl];exact h4) (by rw[hk];exact⟨_,I',q⟩)
 ·have hk:(k+(its.toArray.size:Int)).toNat=j:=by
   rw[seqIndex_neg (by omega) h3] at h1;rw[List.size_toArray,<-hl];exact Option.some.inj h1
  exact PySem.W.ki_setBack ho (by omega) (by rw[List.size_toArray,<-hl];exact h3) (by omega) (by rw[hk];exact⟨_,I',q⟩)
theorem slice_bounds(lo hi:Option Int)(n:Nat):(sliceBounds lo hi none n).1=((HT.sIx n 0 lo:Nat):Int)/\(sliceBounds lo hi none n).2.1=((HT.sIx n n hi:Nat):Int)/\(sliceBounds lo hi none n).2.2=1:=by
 refine⟨?_,?_,rfl⟩
 ·cases lo with
  | none=>simp[sliceBounds,HT.sIx]
  | some i=>
   simp only[sliceBounds,HT.sIx,Option.getD_none,show(1:Int)>0 by decide,if_true];by_cases h:i<0
   ·simp only[h,if_true]<;>omega
   ·simp only[h,if_false]<;>omega
 ·cases hi with
  | none=>simp[sliceBounds,HT.sIx]
  | some i=>
   simp only[sliceBounds,HT.sIx,Option.getD_none,show(1:Int)>0 by decide,if_true];by_cases h:i<0
   ·simp only[h,if_true]<;>omega
   ·simp only[h,if_false]<;>omega
theorem slicePick_cut(its:List Value)(lo hi:Option Int):slicePick its.toArray lo hi none=((its.drop (HT.sIx its.length 0 lo)).take (HT.sIx its.length its.length hi-HT.sIx its.length 0 lo)).toArray:=by
 obtain⟨h1,h2,h3⟩:=slice_bounds lo hi its.toArray.size;unfold slicePick;rw[h1,h2,h3];simp only[sliceRange_one,pick_run,List.size_toArray]<;>rfl
def rSlL(K:PySem.W.Frag):V->Option Int->Option Int->Hp->VK->Prop:=fun x lo hi H Q=>∃ a xs,x=.ref a/\SqL K H a xs/\∀ p,H p=none->Q (.ref p) (upd H p (.lst (cutV xs lo hi)))
theorem sl_list:SlR X (rSlL X.K):=by
 intro pins s σ H x v vl vu lo hi sl Q I rx hs pl pu h;obtain⟨a,xs,rfl,hx,q⟩:=h;cases rx;obtain⟨its,r,ht,hz⟩:=I.list hx;have hlen:=r.length;refine⟨"list",_,slot_list_getitem.lookup,ht.isList.typeIs,?_⟩;refine wpAny_getItem_list_slice ht.isList hs pl pu .none (by simp) ?_ (by rw[List.size_toArray]<;>omega);rw[slicePick_cut,<-hlen];refine⟨.ref s.heap.objs.size,_,I.laid (t':=s.toks) (o:=.lst (cutV xs lo hi)) (fun b ob q=>Heap.get?_push_of_some _ q) (Nat.le_refl _) ?_,rfl,q _ (I.hok.fresh (Nat.le_refl _))⟩;exact⟨Nat.le_trans (cutV_length xs lo hi) hz,_,0,(r.drop (HT.sIx xs.length 0 lo)).take (HT.sIx xs.length xs.length hi-HT.sIx xs.length 0 lo),Heap.get?_push_size _ rfl⟩
def flatV:V->Bool
 | .non=>true
 | .bl _=>true
 | .int _=>true
 | .str _=>true
 | _=>false
def eqV:V->V->Bool
 | .non,.non=>true
 | .bl a,.bl b=>a==b
 | .bl a,.int b=>(if a then 1 else 0)==b
 | .int a,.bl b=>a==(if b then 1 else 0)
 | .int a,.int b=>a==b
 | .str a,.str b=>a==b
 | _,_=>false
theorem eqAt_V{A:Around}{s:Shared}{y x:V}{u v:Value}(ry:RelV y u)(rx:RelV x v)(fy:flatV y=true)(fx:flatV x=true):SeqAt.EqAt A s u v (eqV y x):=by
 cases y with
 | non=>
  cases ry;cases x with
  | non=>cases rx;exact SeqAt.EqAt.same _
  | bl b=>cases rx;exact SeqAt.EqAt.none_bool b
  | int b=>obtain⟨t,rfl⟩:=rx;exact SeqAt.EqAt.none_int b t
  | str b=>obtain⟨t,rfl⟩:=rx;exact SeqAt.EqAt.none_str b t
  | _=>exact absurd (show false=true from fx) Bool.false_ne_true
 | bl a=>
  cases ry;cases x with
  | non=>cases rx;exact SeqAt.EqAt.bool_none a
  | bl b=>cases rx;exact SeqAt.EqAt.bool_bool a b
  | int b=>obtain⟨t,rfl⟩:=rx;exact SeqAt.EqAt.bool_int a b t
  | str b=>obtain⟨t,rfl⟩:=rx;exact SeqAt.EqAt.bool_str a b t
  | _=>exact absurd (show false=true from fx) Bool.false_ne_true
 | int a=>
  obtain⟨t',rfl⟩:=ry;cases x with
  | non=>cases rx;exact SeqAt.EqAt.int_none a t'
  | bl b=>cases rx;exact SeqAt.EqAt.int_bool a t' b
  | int b=>obtain⟨t,rfl⟩:=rx;exact SeqAt.EqAt.int_int a t' b t
  | str b=>obtain⟨t,rfl⟩:=rx;exact SeqAt.EqAt.int_str a t' b t
  | _=>exact absurd (show false=true from fx) Bool.false_ne_true
 | str a=>
  obtain⟨t',rfl⟩:=ry;cases x with
  | non=>cases rx;exact SeqAt.EqAt.str_none a t'
  | bl b=>cases rx;exact SeqAt.EqAt.str_bool a t' b
  | int b=>obtain⟨t,rfl⟩:=rx;exact SeqAt.EqAt.str_int a t' b t
  | str b=>obtain⟨t,rfl⟩:=rx;exact SeqAt.EqAt.str_str a t' b t
  | _=>exact absurd (show false=true from fx) Bool.false_ne_true
 | _=>exact absurd (show false=true from fy) Bool.false_ne_true
def eqU(x:V)(u:Value):Bool:=match u with
 | .none=>eqV .non x
 | .bool b=>eqV (.bl b) x
 | .int i _=>eqV (.int i) x
 | .str z _=>eqV (.str z) x
 | _=>false
theorem eqU_of{x y:V}{u:Value}(r:RelV y u)(f:flatV y=true):eqU x u=eqV y x:=by
 cases y with
 | non=>cases r;rfl
 | bl b=>cases r;rfl
 | int i=>obtain⟨t,rfl⟩:=r;rfl
 | str z=>obtain⟨t,rfl⟩:=r;rfl
 | _=>exact absurd (show false=true from f) Bool.false_ne_true
theorem any_eqU{x:V}:∀ {xs:List V} {us:List Value},Vals xs us->xs.all flatV=true->us.any (eqU x)=xs.any fun y=>eqV y x
 | _,_,.nil,_=>rfl
 | y::xs,u::us,.cons r t,f=>by
  rw[List.all_cons,Bool.and_eq_true] at f;rw[List.any_cons,List.any_cons,eqU_of r f.1,any_eqU t f.2]
theorem mem_eqAt{A:Around}{s:Shared}{x:V}{v:Value}(rx:RelV x v)(fx:flatV x=true):∀ {xs:List V} {us:List Value},Vals xs us->xs.all flatV=true->∀ u∈us,SeqAt.EqAt A s u v (eqU x u)
 | _,_,.nil,_=>fun u hu=>by cases hu
 | y::xs,u::us,.cons r t,f=>fun u' hu=>by
  rw[List.all_cons,Bool.and_eq_true] at f;rcases List.mem_cons.mp hu with rfl | hu
  ·rw[eqU_of r f.1];exact eqAt_V r rx f.1 fx
  ·exact mem_eqAt rx fx t f.2 u' hu
def inV(x:V)(xs:List V):Bool:=xs.any fun y=>eqV y x
def rIn(K:PySem.W.Frag)(neg:Bool):R2:=fun x y H Q=>∃ p xs,y=.ref p/\(SqL K H p xs\/SqT K H p xs)/\flatV x=true/\xs.all flatV=true/\Q (.bl (if neg then !inV x xs else inV x xs)) H
theorem op_in_seq:OpR X (compareOp .In) (rIn X.K false):=by
 intro pins s σ H x y v u Q I rx ry h;obtain⟨p,xs,rfl,hq,fx,fs,q⟩:=h;cases ry;rcases hq with hq | hq
 ·obtain⟨its,r,pl,hz⟩:=I.list hq;refine SeqAt.in_listAt (eqU x) pl.isList (fun w hw=>mem_eqAt rx fx r fs w (by simpa using hw)) ⟨.bl _,H,I,rfl,?_⟩;rw[show its.toArray.any (eqU x)=its.any (eqU x) by simp,any_eqU r fs];exact q
 ·obtain⟨its,r,pl,hz⟩:=I.tuple hq;refine SeqAt.in_tupleAt (eqU x) pl (fun w hw=>mem_eqAt rx fx r fs w (by simpa using hw)) ⟨.bl _,H,I,rfl,?_⟩;rw[show its.toArray.any (eqU x)=its.any (eqU x) by simp,any_eqU r fs];exact q
theorem call_len_seq:CallR X (.builtin "len") (fun xs H Q=>∃ p ys,xs=[.ref p]/\(SqL X.K H p ys\/SqT X.K H p ys)/\Q (.int ys.length) H):=by
 intro pins s σ H xs us Q I r h;obtain⟨p,ys,rfl,hq,q⟩:=h;obtain⟨u,rfl,rx⟩:=vals1 r;cases rx;have hn:=line63;rcases hq with hq | hq
 ·obtain⟨its,r',pl,hz⟩:=I.list hq;have hlen:=r'.length;exact Calls.call_len_list pl.isList (by simp only[List.size_toArray]<;>omega) ⟨.int ys.length,H,I.tok _,⟨s.toks+1,by rw[List.size_toArray,hlen]⟩,q⟩
 ·obtain⟨its,r',pl,hz⟩:=I.tuple hq;have hlen:=r'.length;exact len_tuple pl (by simp only[List.size_toArray]<;>omega) ⟨.int ys.length,H,I.tok _,⟨s.toks+1,by rw[List.size_toArray,hlen]⟩,q⟩
theorem call_list_of:CallR X (.type "list") (fun xs H Q=>∃ p ys,xs=[.ref p]/\(SqL X.K H p ys\/SqT X.K H p ys)/\∀ l,H l=none->Q (.ref l) (upd H l (.lst ys))):=by
 intro pins s σ H xs us Q I r h;obtain⟨p,ys,rfl,hq,q⟩:=h;obtain⟨u,rfl,rx⟩:=vals1 r;cases rx;have fin:∀ (its:List Value),Vals ys its->ys.length<=sizeLine->∀ (h':Heap) (c':Nat),(∀ b o',s.heap.get? b=some o'->h'.get? b=some o')->
   h'.get? s.heap.objs.size=some {cls:=.type "list",dict:=none,data:=.seq its.toArray c',slots:=#[]}->EP X pins σ Q (.ref s.heap.objs.size) {s with heap:=h'}:=fun its r' hz h' c' kp e=>
  ⟨.ref s.heap.objs.size,_,I.laid (t':=s.toks) kp (Nat.le_refl _) (show ObjOk X.prog X.w _ h' _ (.lst ys) from⟨hz,its,c',r',e⟩),rfl,q _ (I.hok.fresh (Nat.le_refl _))⟩
 rcases hq with hq | hq
 ·obtain⟨its,r',pl,hz⟩:=I.list hq;have hlen:=r'.length;obtain⟨o,ho,hc,n,hd⟩:=pl.isList;exact call_list_seq p (.inl rfl) ho hc hd (fun h' c' kp e=>fin its r' hz h' c' kp e) (by simp only[List.size_toArray]<;>omega)
 ·obtain⟨its,r',pl,hz⟩:=I.tuple hq;have hlen:=r'.length;obtain⟨o,ho,hc,n,hd⟩:=pl;exact call_list_seq p (.inr rfl) ho hc hd (fun h' c' kp e=>fin its r' hz h' c' kp e) (by simp only[List.size_toArray]<;>omega)
def tyV(K:PySem.W.Frag)(T:String)(x:V)(H:Hp):Prop:=match x with
 | .str _=>T="str"
 | .int _=>T="int"
 | .ref p=>(T="list"/\∃ xs,SqL K H p xs)\/(T="tuple"/\∃ o,K.lookup p=some o/\o.cls=.type "tuple"/\o.dict=none)\/
   (T="dict"/\((∃ kvs,H p=some (.dK kvs))\/∃ kvs,H p=some (.dT kvs)))\/(T="set"/\∃ S n,H p=some (.set S n))
 | _=>False
theorem tyV_is{pins:List (Addr×Obj)}{σ:St}{H:Hp}{s:Shared}{T:String}{x:V}{v:Value}(I:Inv X pins σ H s)(r:RelV x v)(ty:tyV X.K T x H):
  s.TypeIs v T/\∀ a,v=.ref a->∃ ob,s.heap.get? a=some ob/\ob.dict=none:=by
 cases x with
 | str z=>
  obtain⟨t,rfl⟩:=r;cases (show T="str" from ty);exact⟨typeIs_str s z t,fun _ e=>nomatch e⟩
 | int i=>
  obtain⟨t,rfl⟩:=r;cases (show T="int" from ty);exact⟨typeIs_int s i t,fun _ e=>nomatch e⟩
 | ref p=>
  cases r;rcases ty with ⟨rfl,xs,hq⟩ | ⟨rfl,o,hk,hc,hd⟩ | ⟨rfl,hk⟩ | ⟨rfl,S,n,hk⟩
  ·obtain⟨its,_,pl,_⟩:=I.list hq;refine⟨pl.isList.typeIs,fun a e=>?_⟩;cases e;obtain⟨o,n,e,c,hd,_⟩:=pl;exact⟨o,e,hd⟩
  ·refine⟨⟨o,I.kIn p o hk,hc⟩,fun a e=>?_⟩;cases e;exact⟨o,I.kIn _ o hk,hd⟩
  ·have z:∃ o,s.heap.get? p=some o/\o.ExactDict:=by
    rcases hk with ⟨kvs,hk⟩ | ⟨kvs,hk⟩
    ·obtain⟨_,_,_,_,o,_,_,e,ex,_⟩:=I.hok p _ hk;exact⟨o,e,ex⟩
    ·obtain⟨_,_,_,_,o,_,_,e,ex,_⟩:=I.hok p _ hk;exact⟨o,e,ex⟩
   obtain⟨o,e,ex⟩:=z;refine⟨⟨o,e,ex.1⟩,fun a e2=>?_⟩;cases e2;exact⟨o,e,ex.2.1⟩
  ·obtain⟨o,_,_,_,e,ex,_⟩:=I.hok p _ hk;refine⟨⟨o,e,ex.1⟩,fun a e2=>?_⟩;cases e2;exact⟨o,e,ex.2.1⟩
 | _=>exact False.elim ty
def tBM(K:PySem.W.Frag)(T:String)(r:V->List V->Hp->VK->Prop)(to:TE)(t:TA):TE:=fun σ H Q=>to σ H fun x H1=>tyV K T x H1/\t σ H1 fun xs H2=>r x xs H2 Q
variable{o e:Expr}{es:List Expr}{to:TE}{t:TA}{name:Str}{apos cpos:Pos}{T id:String}{r:V->List V->Hp->VK->Prop}
theorem pe_bm(pa:PlainAttrs T)(slot:Slot T name id)(hty:typeOf (.builtin id)=pure (.type "method_descriptor"))(hm:MtR X id r)(ho:PE X o to)(ha:PA X (e::es) t)(hbase:attributeBase o name X.env (eval o X.env)=eval o X.env:=by rfl)(hfew:((backTo cpos (starEach (e::es) X.env)).all (fun x=>!x.1)&&(backToKw cpos (keywordEach [] X.env)).all (fun x=>x.1.isSome)
   && decide ((e::es).length+([]:List Keyword).length+(if ([]:List Keyword).isEmpty then 0 else 1)<30))=true:=by rfl)(hline:(apos.endLine==cpos.line)=true:=by rfl)(hs:starEach (e::es) X.env=(false,eval e X.env)::starEach es X.env:=by rfl)(hplain:(backTo cpos (starEach es X.env)).any (·.1)=false:=by rfl):
  PE X (.Call (.Attribute o name apos) (e::es) [] cpos) (tBM X.K T r to t):=by
 intro pins s σ H Q I h;refine wpAny_Call_method_late hbase hfew hline rfl (thn (ho pins s σ H _ I h) fun v s1 ⟨x,H1,I1,r1,ty,q1⟩=>?_);obtain⟨h1,h2⟩:=tyV_is I1 r1 ty;refine⟨T,id,pa,slot,hty,h1,h2,?_⟩;have hA:=ha cpos pins s1 σ H1 _ I1 q1;rw[hs] at hA ⊢;refine Calls.callWith_builtin (by show(false||(backTo cpos (starEach es X.env)).any (·.1))=false;rw[hplain]<;>rfl) (Calls.evalArgs_plain ?_);exact thn hA fun us s2 ⟨vs,H2,I2,r2,q2⟩=>hm pins s2 σ H2 x vs v us Q I2 r1 r2 q2
end
end L2
namespace L2
open PySem PySem.Spec PyProof.Rows
def MtM(X:Cx)(id:String)(r:V->List V->Hp->VK->Prop):Prop:=
 ∀ (pins:List (Addr×Obj)) (s:Shared) (σ:St) (H:Hp) (x:V) (xs:List V) (v:Value) (us:List Value) (Q:VK),Inv X pins σ H s->RelV x v->Vals xs us->r x xs H Q->
  wpAny (model X.prog X.w) X.A (call (.builtin id) (v::us)) (EP X pins σ Q) X.xe s
theorem Vals.one:∀ {x:V} {us:List Value},Vals [x] us->∃ u,us=[u]/\RelV x u
 | _,_,.cons r .nil=>⟨_,rfl,r⟩
theorem Vals.rep{xs:List V}{us:List Value}(h:Vals xs us):∀ k:Nat,Vals (List.replicate k xs).flatten (List.replicate k us).flatten
 | 0=>.nil
 | k+1=>by
  rw[List.replicate_succ,List.replicate_succ,List.flatten_cons,List.flatten_cons];exact Vals.append h (Vals.rep h k)
theorem foldl_rep(its:List Value):∀ (k:Nat) (acc:List Value),
  List.foldl (fun x1 x2=>x1++x2) acc.toArray (List.replicate k its.toArray)=(acc++(List.replicate k its).flatten).toArray
 | 0,acc=>by simp
 | k+1,acc=>by
  have e:acc.toArray++its.toArray=(acc++its).toArray:=by simp
  have e2:(acc++its)++(List.replicate k its).flatten=acc++(List.replicate (k+1) its).flatten:=by
   rw[List.replicate_succ,List.flatten_cons,List.append_assoc]
  rw[<-e2,<-foldl_rep its k (acc++its),<-e,List.replicate_succ,List.foldl_cons]
section
variable{X:Cx}{pins:List (Addr×Obj)}{σ:St}{H:Hp}{s:Shared}{l b:Addr}{xs ys zs:List V}
theorem Inv.lset{its its':List Value}{n:Nat}{f:Array Value->Array Value}{t':Nat}(I:Inv X pins σ H s)(hH:H l=some (.lst xs))(e:s.heap.get? l=some {cls:=.type "list",data:=.seq its.toArray n})(hf:f its.toArray=its'.toArray)(hv:Vals ys its')(hz:ys.length<=sizeLine):
  Inv X pins σ (upd H l (.lst ys)) {s with heap:=s.heap.update l (Obj.mapSeq f),toks:=t'}:=by
 have q:=PySem.IsL.update e f;rw[hf] at q;refine I.write (x:=l) (e:=l) (by rw[hH];exact trivial) (.inl rfl) (fun b' u hb hu=>(Heap.get?_update_other s.heap (Obj.mapSeq f) (Ne.symm hb)).trans hu) ⟨_,q⟩ ?_;exact⟨hz,its',_,hv,q⟩
theorem Inv.lnew{its:List Value}{t':Nat}(I:Inv X pins σ H s)(hv:Vals ys its)(hz:ys.length<=sizeLine):
  Inv X pins σ (upd H s.heap.objs.size (.lst ys)) {s with heap:=s.heap.push {cls:=.type "list",data:=.seq its.toArray},toks:=t'}:=
 I.laid (fun _ _ q=>Heap.get?_push_of_some _ q) (Nat.le_refl _) ⟨hz,its,0,hv,Heap.get?_push_size _ rfl⟩
theorem Inv.fresh(I:Inv X pins σ H s):H s.heap.objs.size=none:=I.hok.fresh (Nat.le_refl _)
theorem Inv.lstM(I:Inv X pins σ H s)(hH:H l=some (.lst xs)):xs.length<=sizeLine/\∃ (its:List Value) (n:Nat),Vals xs its/\xs.length=its.length/\s.heap.get? l=some {cls:=.type "list",data:=.seq its.toArray n}:=by
 obtain⟨z,its,n,r,e⟩:=I.hok l _ hH;exact⟨z,its,n,r,r.length,e⟩
theorem notLongL{n:Nat}(h:n<=sizeLine):Builtin.List.listTooLong n=false:=by
 unfold Builtin.List.listTooLong;exact decide_eq_false (by omega)
end
section
variable{X:Cx}
def rAppend:V->List V->Hp->VK->Prop:=fun x vs H Q=>∃ l xs y,x=.ref l/\vs=[y]/\H l=some (.lst xs)/\xs.length<sizeLine/\Q .non (upd H l (.lst (xs++[y])))
theorem mt_append:MtM X "list.append" rAppend:=by
 intro pins s σ H x vs v us Q I rx rv h;obtain⟨l,xs,y,rfl,rfl,hH,hz,q⟩:=h;cases rx;obtain⟨u,rfl,ru⟩:=rv.one;obtain⟨z,its,n,r,hl,e⟩:=I.lstM hH;refine call_meets F.slot_list_append ⟨_,e,rfl⟩ F.entry_list_append (F.args_list_append_2 _ _) (PySem.list_append l its.toArray n u (by rw[List.size_toArray];omega)) ⟨e,?_⟩;refine⟨.non,_,I.lset (its':=its++[u]) hH e (by simp) (r.append (.cons ru .nil)) ?_,rfl,q⟩;rw[List.length_append,List.length_singleton];omega
def rExtend:V->List V->Hp->VK->Prop:=fun x vs H Q=>∃ l b xs zs,x=.ref l/\vs=[.ref b]/\H l=some (.lst xs)/\H b=some (.lst zs)/\xs.length+zs.length<=sizeLine/\Q .non (upd H l (.lst (xs++zs)))
theorem mt_extend:MtM X "list.extend" rExtend:=by
 intro pins s σ H x vs v us Q I rx rv h;obtain⟨l,b,xs,zs,rfl,rfl,hH,hB,hz,q⟩:=h;cases rx;obtain⟨u,rfl,ru⟩:=rv.one;cases ru;obtain⟨z,its,n,r,hl,e⟩:=I.lstM hH;obtain⟨z2,its2,n2,r2,hl2,e2⟩:=I.lstM hB;have hsz:its.toArray.size+its2.toArray.size<=sizeLine:=by rw[List.size_toArray,List.size_toArray];omega
 have hlong:¬(!its.toArray.isEmpty&&Builtin.List.listTooLong (its.toArray.size+its2.toArray.size))=true:=by
  rw[notLongL hsz,Bool.and_false];exact Bool.false_ne_true
 refine call_meets F.slot_list_extend ⟨_,e,rfl⟩ F.entry_list_extend (F.args_list_extend_2 _ _)
  (AutoSeq1.list_extend_list_list_0 l its.toArray n b its2.toArray n2 hlong (by rw[List.size_toArray];omega) (by omega)) ⟨e,e2,?_⟩
 refine⟨.non,_,I.lset (its':=its++its2) hH e (by simp) (r.append r2) ?_,rfl,q⟩;rw[List.length_append];omega
def rCat:R2:=fun x y H Q=>∃ l b xs zs,x=.ref l/\y=.ref b/\H l=some (.lst xs)/\H b=some (.lst zs)/\xs.length+zs.length<=sizeLine/\∀ p,H p=none->Q (.ref p) (upd H p (.lst (xs++zs)))
theorem op_cat:OpR X (binaryOp .Add) rCat:=by
 intro pins s σ H x y v u Q I rx ry h;obtain⟨l,b,xs,zs,rfl,rfl,hH,hB,hz,q⟩:=h;cases rx;cases ry;obtain⟨z,its,n,r,hl,e⟩:=I.lstM hH;obtain⟨z2,its2,n2,r2,hl2,e2⟩:=I.lstM hB;refine PySem.P.add_list e e2 ?_ (by rw[List.size_toArray,List.size_toArray];omega);have ea:its.toArray++its2.toArray=(its++its2).toArray:=by simp
 rw[ea];exact⟨.ref _,_,I.lnew (t':=s.toks) (r.append r2) (by rw[List.length_append];omega),rfl,q _ I.fresh⟩
def rRep:R2:=fun x y H Q=>∃ l k xs,x=.ref l/\y=.int k/\H l=some (.lst xs)/\-(2^63)<=k/\k<2^63/\xs.length*k.toNat<=sizeLine/\
 ∀ p,H p=none->Q (.ref p) (upd H p (.lst (List.replicate k.toNat xs).flatten))
theorem len_rep{α:Type}(xs:List α)(k:Nat):(List.replicate k xs).flatten.length=k*xs.length:=by
 induction k with
 | zero=>simp
 | succ k ih=>rw[List.replicate_succ,List.flatten_cons,List.length_append,ih,Nat.succ_mul,Nat.add_comm]
theorem op_rep:OpR X (binaryOp .Mult) rRep:=by
 intro pins s σ H x y v u Q I rx ry h;obtain⟨l,k,xs,rfl,rfl,hH,h1,h2,hz,q⟩:=h;cases rx;obtain⟨t,rfl⟩:=ry;obtain⟨z,its,n,r,hl,e⟩:=I.lstM hH;have hlen:its.toArray.size*k.toNat<=sizeLine:=by rw[List.size_toArray,<-hl];exact hz
 have hcap:¬its.toArray.size*k.toNat>(2^63-1) / 8:=by
  have:(sizeLine:Nat)<=(2^63-1) / 8:=by decide
  omega
 have hfit:¬(!Builtin.List.listFitsIndex k)=true:=by
  rw[fitsIndex_both h1 h2];exact Bool.false_ne_true
 have hlong:¬Builtin.List.listTooLong (its.toArray.size*k.toNat)=true:=by
  rw[notLongL hlen];exact Bool.false_ne_true
 have hnew:List.foldl (fun x1 x2=>x1++x2) #[] (List.replicate (if its.toArray.isEmpty=true then 0 else k.toNat) its.toArray)=(List.replicate k.toNat its).flatten.toArray:=by
  have f0:∀ m:Nat,List.foldl (fun x1 x2=>x1++x2) #[] (List.replicate m its.toArray)=(List.replicate m its).flatten.toArray:=fun m=>by
   have:=foldl_rep its m [];rw[List.nil_append] at this;exact this
  rw[f0];cases its with
  | nil=>simp
  | cons a r'=>rw[if_neg (by simp)]
 refine wpAny_binaryOp_repeat_ref (T:="list") (U:="int") (by decide) ⟨_,e,rfl⟩ (fun s'=>typeIs_int s' k t) noFill_list_mul F.fills_int_mul F.slot_int_rmul repeat_list F.slot_int_index.lookup
  (call_meets F.slot_int_rmul (typeIs_int s k t) F.entry_int_rmul (F.args_int_rmul_2 _ _) (int___rmul___int_list k t l its.toArray n)
   ⟨e,rfl,⟨_,e,rfl⟩,call_meets F.slot_list_mul ⟨_,e,rfl⟩ F.entry_list_mul (F.args_list_mul_2 _ _) (AutoListH.list___mul___list_int_3 l its.toArray n k t hfit hcap hlong) ⟨e,?_⟩⟩)
 rw[hnew];exact⟨.ref _,_,I.lnew (t':=s.toks) (r.rep k.toNat) (by rw[len_rep,Nat.mul_comm];exact hz),rfl,q _ I.fresh⟩
end
end L2
namespace L2
open PySem PySem.Spec PyProof.Rows
theorem Vals.ints:∀ {ns:List Int} {us:List Value},Vals (ns.map V.int) us->IntsAre us ns
 | [],us,h=>by
  rw[List.map_nil] at h;cases h;exact IntsAre.nil
 | n::ns,us,h=>by
  rw[List.map_cons] at h;cases h with
  | cons r t=>
   obtain⟨k,rfl⟩:=r;exact IntsAre.cons n k (Vals.ints t)
theorem Vals.bls:∀ {bs:List Bool} {us:List Value},Vals (bs.map V.bl) us->us=bs.map Value.bool
 | [],us,h=>by
  rw[List.map_nil] at h;cases h;rfl
 | b::bs,us,h=>by
  rw[List.map_cons] at h;cases h with
  | cons r t=>
   cases r;rw[Vals.bls t,List.map_cons]
theorem Vals.ref1{a:Addr}{us:List Value}(r:Vals [V.ref a] us):us=[Value.ref a]:=by
 cases r with
 | cons r t=>
  cases t;cases r;rfl
section
variable{prog:Program}{w:World}{A:Around}{E:Value->Shared->Prop}{s:Shared}{l:Addr}{its:List Value}{ns:List Int}{Q:Value->Shared->Prop}
theorem sum_raw(hh:A.handled=none)(hl:s.heap.IsList l its.toArray)(hi:IntsAre its ns)(h:∀ h' tk t',(∀ b o,s.heap.get? b=some o->h'.get? b=some o)->Q (.int ns.sum t') {s with heap:=h',toks:=tk}):wpAny (model prog w) A (call (.builtin "sum") [.ref l]) Q E s:=by
 obtain⟨xs,e⟩:=hi.allInts.items;have hn:numsOf (intItems xs).toList=ns:=by rw[<-e];exact hi.numsOf
 rw[nums_intItems] at hn;rw[e] at hl;refine PySem.sum_intListG hh hl fun h' tk t' hk=>?_;have:=h h' tk t' hk;rw[preSum_eq,List.take_of_length_le (by simp),hn];exact this
theorem max_raw(hh:A.handled=none)(hl:s.heap.IsList l its.toArray)(hi:IntsAre its ns)(hne:0<ns.length)(h:∀ h' tk M t',(∀ b o,s.heap.get? b=some o->h'.get? b=some o)->M∈ns->(∀ a,a∈ns->a<=M)->Q (.int M t') {s with heap:=h',toks:=tk}):wpAny (model prog w) A (call (.builtin "max") [.ref l]) Q E s:=by
 obtain⟨xs,e⟩:=hi.allInts.items;have hn:numsOf (intItems xs).toList=ns:=by rw[<-e];exact hi.numsOf
 rw[nums_intItems] at hn;subst hn;rw[e] at hl;have hsz:0<xs.size:=by simpa using hne
 refine PySem.max_intList hh hl hsz fun v h' tk hv hk=>?_;obtain⟨t,rfl⟩:=intItems_at hv;obtain⟨h1,h2⟩:=argBest_gt (numAt xs) (xs.size-1);refine h h' tk _ t hk ?_ fun a ha=>?_
 ·rw[numAt_eq];exact PySem.getD_mem (by rw[lmp,Array.length_toList];omega)
 ·obtain⟨j,hj,rfl⟩:=mem_getD ha;rw[lmp,Array.length_toList] at hj;rw[<-numAt_eq];exact h2 j (by omega)
theorem min_raw(hh:A.handled=none)(hl:s.heap.IsList l its.toArray)(hi:IntsAre its ns)(hne:0<ns.length)(h:∀ h' tk M t',(∀ b o,s.heap.get? b=some o->h'.get? b=some o)->M∈ns->(∀ a,a∈ns->M<=a)->Q (.int M t') {s with heap:=h',toks:=tk}):wpAny (model prog w) A (call (.builtin "min") [.ref l]) Q E s:=by
 obtain⟨xs,e⟩:=hi.allInts.items;have hn:numsOf (intItems xs).toList=ns:=by rw[<-e];exact hi.numsOf
 rw[nums_intItems] at hn;subst hn;rw[e] at hl;have hsz:0<xs.size:=by simpa using hne
 refine PySem.min_intList hh hl hsz fun v h' tk hv hk=>?_;obtain⟨t,rfl⟩:=intItems_at hv;obtain⟨h1,h2⟩:=argBest_lt (numAt xs) (xs.size-1);refine h h' tk _ t hk ?_ fun a ha=>?_
 ·rw[numAt_eq];exact PySem.getD_mem (by rw[lmp,Array.length_toList];omega)
 ·obtain⟨j,hj,rfl⟩:=mem_getD ha;rw[lmp,Array.length_toList] at hj;rw[<-numAt_eq];exact h2 j (by omega)
end
section
variable{X:Cx}
def rSum(K:PySem.W.Frag):List V->Hp->VK->Prop:=fun vs H Q=>∃ (a:Addr) (ns:List Int),vs=[V.ref a]/\SqL K H a (ns.map V.int)/\Q (.int ns.sum) H
def rMax(K:PySem.W.Frag):List V->Hp->VK->Prop:=fun vs H Q=>∃ (a:Addr) (ns:List Int),vs=[V.ref a]/\SqL K H a (ns.map V.int)/\0<ns.length/\∀ m,m∈ns->(∀ y,y∈ns->y<=m)->Q (.int m) H
def rMin(K:PySem.W.Frag):List V->Hp->VK->Prop:=fun vs H Q=>∃ (a:Addr) (ns:List Int),vs=[V.ref a]/\SqL K H a (ns.map V.int)/\0<ns.length/\∀ m,m∈ns->(∀ y,y∈ns->m<=y)->Q (.int m) H
theorem cr_sum(hc:X.calm=true):CallR X (.builtin "sum") (rSum X.K):=by
 intro pins s σ H vs us Q I r h;obtain⟨a,ns,rfl,hs,q⟩:=h;obtain⟨its,rv,hl,_⟩:=I.list hs;rw[Vals.ref1 r];exact sum_raw (I.ok.hd hc) hl.isList rv.ints fun h' tk t' hk=>⟨.int _,H,I.kept hk,⟨_,rfl⟩,q⟩
theorem cr_max(hc:X.calm=true):CallR X (.builtin "max") (rMax X.K):=by
 intro pins s σ H vs us Q I r h;obtain⟨a,ns,rfl,hs,hne,q⟩:=h;obtain⟨its,rv,hl,_⟩:=I.list hs;rw[Vals.ref1 r];exact max_raw (I.ok.hd hc) hl.isList rv.ints hne fun h' tk m t' hk h1 h2=>⟨.int _,H,I.kept hk,⟨_,rfl⟩,q m h1 h2⟩
theorem cr_min(hc:X.calm=true):CallR X (.builtin "min") (rMin X.K):=by
 intro pins s σ H vs us Q I r h;obtain⟨a,ns,rfl,hs,hne,q⟩:=h;obtain⟨its,rv,hl,_⟩:=I.list hs;rw[Vals.ref1 r];exact min_raw (I.ok.hd hc) hl.isList rv.ints hne fun h' tk m t' hk h1 h2=>⟨.int _,H,I.kept hk,⟨_,rfl⟩,q m h1 h2⟩
end
section
variable{X:Cx}
def rIndex(K:PySem.W.Frag):V->List V->Hp->VK->Prop:=fun x xs H Q=>∃ (a:Addr) (ys:List V) (y:V) (j:Nat) (z:V),x=V.ref a/\xs=[y]/\SqL K H a ys/\flatV y=true/\ys.all flatV=true/\ys[j]?=some z/\eqV z y=true/\
 (∀ (m:Nat) (z':V),m<j->ys[m]?=some z'->eqV z' y=false)/\Q (.int (j:Nat)) H
theorem flat_at{ys:List V}(f:ys.all flatV=true){j:Nat}{z:V}(h:ys[j]?=some z):flatV z=true:=List.all_eq_true.mp f z (List.mem_of_getElem? h)
theorem mt_index:MtR X "list.index" (rIndex X.K):=by
 intro pins s σ H x xs v us Q I rx rxs h;obtain⟨a,ys,y,j,z,rfl,rfl,hs,fy,fys,hz,hzj,hno,q⟩:=h;cases rx;cases rxs with
 | cons ry rt=>
  rename_i uy ut;cases rt;obtain⟨its,rv,⟨⟨cls,dd,data,sl⟩,n,ho,hc,hdn,hd⟩,hlen⟩:=I.list hs;simp only at hc hd;subst hc hd;obtain⟨u,hu,ru⟩:=rv.get hz;obtain⟨hjl,hje⟩:=List.getElem?_eq_some_iff.mp hu;have hvl:=rv.length;have hj:j<its.toArray.size:=by simpa using hjl
  have hsl:=sizeLine_eq;refine call_meets PySem.F.slot_list_index ⟨_,ho,rfl⟩ PySem.F.entry_list_index (PySem.F.args_list_index_2 _ _)
   (SeqAt.list_indexAt a its.toArray n dd sl uy (eqU y) j hj (by omega) ?_ ?_) ⟨ho,fun u' hu'=>mem_eqAt ry fy rv fys u' (by simpa using hu'),?_⟩
  ·have e1:its.toArray[j]=u:=by simpa using hje
   rw[e1,eqU_of ru (flat_at fys hz)];exact hzj
  ·intro m hm hmj;have hml:m<its.length:=by simpa using hm
   have hmy:m<ys.length:=by omega
   have hy':ys[m]?=some ys[m]:=gEe hmy;obtain⟨u2,hu2,ru2⟩:=rv.get hy';obtain⟨_,hme⟩:=List.getElem?_eq_some_iff.mp hu2;have e1:its.toArray[m]=u2:=by simpa using hme
   rw[e1,eqU_of ru2 (flat_at fys hy')];exact hno m _ hmj hy'
  ·exact⟨.int (j:Nat),H,I.tok _,⟨_,rfl⟩,q⟩
end
theorem iter_any{prog:Program}{w:World}{A:Around}{E:Value->Shared->Prop}{s:Shared}{l:Addr}{items:Array Value}{Q:Value->Shared->Prop}(hl:s.heap.IsList l items)(h:∀ s₂:Shared,s₂={s with heap:=s.heap.push {cls:=.type "list_iterator",data:=.fields #[.ref l,.int 0 0]}}->
   (s₂.heap.IsListIter s.heap.objs.size l 0/\s₂.heap.IsList l items)->l≠s.heap.objs.size->Q (.ref s.heap.objs.size) s₂):wpAny (model prog w) A (pyIter (.ref l)) Q E s:=by
 have hlt:l<s.heap.objs.size:=by obtain⟨_,e,_⟩:=hl;exact Heap.lt_size e
 exact wpAny_pyIter_list hl (h _ rfl ⟨⟨_,Heap.get?_push_size _ rfl,rfl,rfl⟩,hl.push _⟩ (Nat.ne_of_lt hlt))
theorem truth_bools{prog:Program}{w:World}{A:Around}{bs:List Bool}{its:List Value}(e:its=bs.map Value.bool):
  TruthOf prog w A (fun i v=>its.toArray[i]?=some v) (fun i=>bs.getD i false):=fun i v s Q E hv hq=>by
 have hv':its[i]?=some v:=by simpa using hv
 rw[e,List.getElem?_map] at hv';obtain⟨b,hb,rfl⟩:=Option.map_eq_some_iff.mp hv';have hg:bs.getD i false=b:=by rw[gDe,hb]<;>rfl
 have hq':Q (bs.getD i false) s:=hq;rw[hg] at hq';exact wpAny_truthy_bool hq'
theorem all_range:∀ bs:List Bool,(List.range bs.length).all (fun i=>bs.getD i false)=bs.all id
 | []=>rfl
 | b::bs=>by
  rw[List.length_cons,List.range_succ_eq_map,List.all_cons,List.all_map,List.all_cons,<-all_range bs]
  all_goals rfl
section
variable{X:Cx}
def rAll(K:PySem.W.Frag):List V->Hp->VK->Prop:=fun vs H Q=>∃ (a:Addr) (bs:List Bool),vs=[V.ref a]/\SqL K H a (bs.map V.bl)/\Q (.bl (bs.all id)) H
theorem cr_all(hc:X.calm=true):CallR X (.builtin "all") (rAll X.K):=by
 intro pins s σ H vs us Q I r h;obtain⟨a,bs,rfl,hs,q⟩:=h;obtain⟨its,rv,hl,_⟩:=I.list hs;rw[Vals.ref1 r];have hb:=rv.bls;refine call_all_walk (iter_any hl.isList fun s₂ e2 st hne=>?_);subst e2;refine⟨_,_,_,_,_,_,_,rfl,Walks.list (A:=X.A.in1) (I.ok.hd hc) _ a hne its.toArray,st,truth_bools hb,fun h' tk hk=>?_⟩;refine⟨.bl _,H,I.kept fun b o eo=>hk b o (fun hmem=>?_) (Heap.get?_push_of_some _ eo),?_,q⟩
 ·rcases List.mem_cons.mp hmem with e1 | hmem
  ·exact absurd (e1▸Heap.lt_size eo) (Nat.lt_irrefl _)
  ·cases hmem
 ·show Value.bool _=Value.bool _;rw[<-all_range,hb,List.size_toArray,lmp]
end
end L2
namespace L2
open PySem PySem.Spec PyProof.Rows
abbrev CellAt(h:Heap)(c:Addr)(v:Option Value):Prop:=h.IsCell c v
def relS(scope sc:Scope):Scope:=
 {scope with names:=scope.names.map fun(n,k)=>if (k==.free&&sc.kind==.function&&sc.names.lookup n==some .cell) then (n,.cell) else (n,k)}
def cloFrom(cells:List (Str×Addr)):List (Str×NameKind)->List (Str×Addr)->List (Str×Addr)
 | [],acc=>acc
 | (n,k)::r,acc=>if k==.free then cloFrom cells r ((n,(cells.lookup n).getD 0)::acc) else cloFrom cells r acc
theorem closure_loop(env:Env)(f:Str×NameKind->List (Str×Addr)->Sem (ForInStep (List (Str×Addr))))(hf:∀ n k c,f (n,k) c=if k==.free then (do let a <-cellOf env n;pure (.yield ((n,a)::c))) else pure (.yield c)):
  ∀ (names:List (Str×NameKind)) (acc:List (Str×Addr)),(∀ y∈names,y.2=.free->∃ c,env.cells.lookup y.1=some c)->forIn names acc f=pure (cloFrom env.cells names acc)
 | [],acc,_=>by rw[List.forIn_nil];rfl
 | (n,k)::r,acc,h=>by
  rw[List.forIn_cons,hf];have ih:=fun acc=>closure_loop env f hf r acc fun y hy=>h y (List.mem_cons_of_mem _ hy);unfold cloFrom;by_cases hk:(k==NameKind.free)=true
  ·rw[if_pos hk,if_pos hk];obtain⟨c,hc⟩:=h (n,k) List.mem_cons_self (by simpa using hk);have e:cellOf env n=pure c:=by unfold cellOf;rw[hc]
   rw[e];have e2:(env.cells.lookup n).getD 0=c:=by rw[hc];rfl
   rw[e2];exact ih _
  ·rw[if_neg hk,if_neg hk];exact ih _
theorem closure_ok{scope:Scope}{env:Env}(h:∀ y∈scope.names,y.2=.free->∃ c,env.cells.lookup y.1=some c):closureFor scope env=pure (cloFrom env.cells scope.names []):=by
 simp only[closureFor];rw[closure_loop env _ (fun n k c=>rfl) scope.names [] h];rfl
theorem mem_lookup{α:Type}:∀ {l:List (Str×α)} {n:Str} {c:α},(n,c)∈l->∃ c',l.lookup n=some c'
 | (k,v)::r,n,c,h=>by
  rw[List.lookup_cons];cases hb:n==k with
  | true=>exact⟨_,rfl⟩
  | false=>
   rcases List.mem_cons.mp h with e | h
   ·cases e;simp at hb
   ·exact mem_lookup h
theorem cloFrom_mem{cells:List (Str×Addr)}:∀ {names:List (Str×NameKind)} {acc:List (Str×Addr)} {n:Str} {c:Addr},(n,c)∈cloFrom cells names acc->(n,c)∈acc\/((n,.free)∈names/\c=(cells.lookup n).getD 0)
 | [],_,_,_,h=>.inl h
 | (m,k)::r,acc,n,c,h=>by
  unfold cloFrom at h;split at h
  ·rename_i hk;have hk:k=.free:=by simpa using hk
   rcases cloFrom_mem h with h | ⟨h1,h2⟩
   ·rcases List.mem_cons.mp h with e | h
    ·cases e;exact .inr ⟨hk▸List.mem_cons_self,rfl⟩
    ·exact .inl h
   ·exact .inr ⟨List.mem_cons_of_mem _ h1,h2⟩
  ·rcases cloFrom_mem h with h | ⟨h1,h2⟩
   ·exact .inl h
   ·exact .inr ⟨List.mem_cons_of_mem _ h1,h2⟩
theorem cloFrom_acc{cells:List (Str×Addr)}:∀ {names:List (Str×NameKind)} {acc:List (Str×Addr)} {p:Str×Addr},p∈acc->p∈cloFrom cells names acc
 | [],_,_,h=>h
 | (m,k)::r,acc,p,h=>by
  unfold cloFrom;split
  ·exact cloFrom_acc (List.mem_cons_of_mem _ h)
  ·exact cloFrom_acc h
theorem cloFrom_has{cells:List (Str×Addr)}:∀ {names:List (Str×NameKind)} {acc:List (Str×Addr)} {n:Str},(n,.free)∈names->(n,(cells.lookup n).getD 0)∈cloFrom cells names acc
 | (m,k)::r,acc,n,h=>by
  unfold cloFrom;rcases List.mem_cons.mp h with e | h
  ·cases e;exact cloFrom_acc List.mem_cons_self
  ·split
   ·exact cloFrom_has h
   ·exact cloFrom_has h
theorem cells_mem:∀ {names:List (Str×NameKind)} {h:Heap} {acc:List (Str×Addr)} {x:Str} {c:Addr},(x,c)∈cellsFrom h.objs.size names acc->
  (x,c)∈acc\/((x,.cell)∈names/\h.objs.size<=c/\CellAt (pushCells h names) c none)
 | [],_,_,_,_,h=>.inl h
 | (n,k)::r,h,acc,x,c,hm=>by
  unfold cellsFrom at hm;unfold pushCells;split at hm
  ·rename_i hk;rw[if_pos hk];have hk:k=.cell:=by simpa using hk
   rw[<-Heap.size_push h {cls:=.type "cell",data:=.cell none}] at hm;rcases cells_mem hm with hm | ⟨h1,h2,h3⟩
   ·rcases List.mem_cons.mp hm with e | hm
    ·cases e;exact .inr ⟨hk▸List.mem_cons_self,Nat.le_refl _,_,pushCells_keeps r _ _ _ (Heap.get?_push_size _ rfl),rfl⟩
    ·exact .inl hm
   ·rw[Heap.size_push] at h2;exact .inr ⟨List.mem_cons_of_mem _ h1,Nat.le_of_succ_le h2,h3⟩
  ·rename_i hk;rw[if_neg hk];rcases cells_mem hm with hm | ⟨h1,h2,h3⟩
   ·exact .inl hm
   ·exact .inr ⟨List.mem_cons_of_mem _ h1,h2,h3⟩
theorem cells_acc:∀ {names:List (Str×NameKind)} {n:Nat} {acc:List (Str×Addr)} {p:Str×Addr},p∈acc->p∈cellsFrom n names acc
 | [],_,_,_,h=>h
 | (m,k)::r,n,acc,p,h=>by
  unfold cellsFrom;split
  ·exact cells_acc (List.mem_cons_of_mem _ h)
  ·exact cells_acc h
theorem cells_has:∀ {names:List (Str×NameKind)} {n:Nat} {acc:List (Str×Addr)} {x:Str},(x,.cell)∈names->∃ c,(x,c)∈cellsFrom n names acc
 | (m,k)::r,n,acc,x,h=>by
  unfold cellsFrom;rcases List.mem_cons.mp h with e | h
  ·cases e;exact⟨n,cells_acc List.mem_cons_self⟩
  ·split
   ·exact cells_has h
   ·exact cells_has h
theorem cells_inj:∀ {names:List (Str×NameKind)} {h:Heap} {acc:List (Str×Addr)} {x y:Str} {c:Addr},(∀ p∈acc,p.2<h.objs.size)->(∀ x y c,(x,c)∈acc->(y,c)∈acc->x=y)->
  (x,c)∈cellsFrom h.objs.size names acc->(y,c)∈cellsFrom h.objs.size names acc->x=y
 | [],_,_,_,_,_,_,hi,h1,h2=>hi _ _ _ h1 h2
 | (n,k)::r,h,acc,x,y,c,hl,hi,h1,h2=>by
  unfold cellsFrom at h1 h2;split at h1
  ·rename_i hk;rw[if_pos hk] at h2;rw[<-Heap.size_push h {cls:=.type "cell",data:=.cell none}] at h1 h2;refine cells_inj (h:=h.push _) (fun p hp=>?_) (fun x y c a b=>?_) h1 h2
   ·rw[Heap.size_push];rcases List.mem_cons.mp hp with rfl | hp
    ·exact Nat.lt_succ_self _
    ·exact Nat.lt_succ_of_lt (hl p hp)
   ·rcases List.mem_cons.mp a with e | a<;>rcases List.mem_cons.mp b with e' | b
    ·cases e;cases e';rfl
    ·cases e;exact absurd (hl _ b) (Nat.lt_irrefl _)
    ·cases e';exact absurd (hl _ a) (Nat.lt_irrefl _)
    ·exact hi _ _ _ a b
  ·rename_i hk;rw[if_neg hk] at h2;exact cells_inj hl hi h1 h2
theorem newEnv_comp{M:Model}{A:Around}{E:Value->Shared->Prop}{s:Shared}{scope:Scope}{globals:Addr}{closure:List (Str×Addr)}{qual:Str}{func:Option Addr}{code:Value}{around:Env}{builtins:Addr}{Q:Env->Shared->Prop}(h:Q (newEnv scope s.heap.objs.size globals (cellsFrom (s.heap.objs.size+1) scope.names closure) qual func code (some around) builtins)
   {s with heap:=pushCells (s.heap.push {cls:=.type "dict",data:=.dict #[]}) scope.names}):
  wpAny M A (newFunctionEnv scope globals closure [] qual func code (some around) builtins) Q E s:=by
 simp only[newFunctionEnv,Option.isSome_some,if_true];refine wpAny_bind (wpAny_alloc ?_);refine wpAny_bind (wpAny_layCells _ (fun n k c=>rfl) scope.names closure _ _ ?_);rw[show({s with heap:=s.heap.push {cls:=.type "dict",data:=.dict #[]}}:Shared).heap.objs.size=s.heap.objs.size+1 from Heap.size_push ..];rw[List.forIn_nil];exact wpAny_bind (wpAny_pure (wpAny_pure h))
theorem lookup_relS{sc:Scope}:∀ {names:List (Str×NameKind)} {x:Str} {k:NameKind},
  (names.map fun(n,k)=>if (k==NameKind.free&&sc.kind==.function&&sc.names.lookup n==some .cell) then (n,NameKind.cell) else (n,k)).lookup x=some k->
  ∃ k',names.lookup x=some k'/\(k=k'\/(k'=.free/\k=.cell))
 | [],_,_,h=>by simp at h
 | (n,k₀)::r,x,k,h=>by
  have ih:=@lookup_relS sc r x k;have h':List.lookup x ((if (k₀==NameKind.free&&sc.kind==.function&&sc.names.lookup n==some .cell)=true then (n,NameKind.cell) else (n,k₀))::(r.map _))=some k:=h;cases hx:x==n with
  | true=>
   simp only[List.lookup_cons,hx];by_cases hc:(k₀==NameKind.free&&sc.kind==.function&&sc.names.lookup n==some .cell)=true
   ·rw[if_pos hc] at h';simp only[List.lookup_cons,hx] at h';cases h';simp only[Bool.and_eq_true,beq_iff_eq] at hc;exact⟨k₀,rfl,.inr ⟨hc.1.1,rfl⟩⟩
   ·rw[if_neg hc] at h';simp only[List.lookup_cons,hx] at h';cases h';exact⟨_,rfl,.inl rfl⟩
  | false=>
   simp only[List.lookup_cons,hx];by_cases hc:(k₀==NameKind.free&&sc.kind==.function&&sc.names.lookup n==some .cell)=true
   ·rw[if_pos hc] at h';simp only[List.lookup_cons,hx] at h';exact ih h'
   ·rw[if_neg hc] at h';simp only[List.lookup_cons,hx] at h';exact ih h'
structure BlkOk(N:List Str)(sc scope:Scope)(own:List (Str×Nat)):Prop where
 kind:scope.kind=.function
 uniq:∀ y∈scope.names,scope.names.lookup y.1=some y.2
 ix:∀ p∈own,N[p.2]?=some p.1
 free:∀ y∈scope.names,y.2=.free->sc.names.lookup y.1=some .cell\/sc.names.lookup y.1=some .free
 own:∀ y∈scope.names,y.2=.local\/y.2=.cell->y.1∈own.map (·.1)\/y.1∉N
def wipe(σ:St):List Nat->St
 | []=>σ
 | v::vs=>(wipe σ vs).set v none
theorem wipe_length(σ:St):∀ vs:List Nat,(wipe σ vs).length=σ.length
 | []=>rfl
 | v::vs=>by unfold wipe;rw[List.length_set,wipe_length σ vs]
theorem wipe_some{σ:St}{i:Nat}{x:V}:∀ {vs:List Nat},(wipe σ vs)[i]?=some (some x)->σ[i]?=some (some x)/\i∉vs
 | [],h=>⟨h,by simp⟩
 | v::vs,h=>by
  unfold wipe at h;by_cases hi:v=i
  ·subst hi;by_cases hv:v<(wipe σ vs).length
   ·rw[List.getElem?_set_self hv] at h;cases h
   ·rw[List.getElem?_eq_none (by simpa using hv)] at h;cases h
  ·rw[List.getElem?_set_ne hi] at h;obtain⟨h1,h2⟩:=wipe_some h;exact⟨h1,by simp only[List.mem_cons,not_or];exact⟨fun e=>hi e.symm,h2⟩⟩
abbrev Cx.blk(X:Cx)(s:Shared)(H:Hp)(scope:Scope)(cenv:Env)(fp:List Addr):Cx:={X with s_0:=s,H_0:=H,env:=cenv,outer:=X.stack,ex:=fp,fn:=fun x=>scope.names.lookup x==some .cell,pn:=[],xe:=fun _ _=>False}
section
variable{X:Cx}{pins:List (Addr×Obj)}{σ:St}{H:Hp}{s:Shared}
theorem block_start{scope:Scope}{own:List (Str×Nat)}{fp:List Addr}(I:Inv X pins σ H s)(ok:BlkOk X.N X.env.scope scope own)(hN:X.N.Nodup)(hfp:∀ b∈fp,FpOk X pins H b/\b<s.heap.objs.size):
  Inv (X.blk s H scope (compEnvC scope (cellsFrom (s.heap.objs.size+1) scope.names (cloFrom X.env.cells scope.names [])) s.heap.objs.size X.env) fp) [] (wipe σ (own.map (·.2))) H {s with heap:=pushCells (s.heap.push {cls:=.type "dict",data:=.dict #[]}) scope.names}:=by
 have hfree:∀ y∈scope.names,y.2=.free->∃ c,X.env.cells.lookup y.1=some c:=fun y hy e=>by
  rcases ok.free y hy e with k | k
  ·exact I.ok.has _ (.inl k)
  ·exact I.ok.has _ (.inr k)
 generalize hcenv:compEnvC scope (cellsFrom (s.heap.objs.size+1) scope.names (cloFrom X.env.cells scope.names [])) s.heap.objs.size X.env=cenv;have kp:∀ b o,s.heap.get? b=some o->(pushCells (s.heap.push {cls:=.type "dict",data:=.dict #[]}) scope.names).get? b=some o:=fun b o e=>pushCells_keeps _ _ _ _ (Heap.get?_push_of_some _ e);have hL:cenv.locals=s.heap.objs.size:=by rw[<-hcenv];rfl
 have hcl:cenv.cells=cellsFrom (s.heap.objs.size+1) scope.names (cloFrom X.env.cells scope.names []):=by rw[<-hcenv];rfl
 have hsc:cenv.scope=relS scope X.env.scope:=by rw[<-hcenv];rfl
 rw[<-Heap.size_push s.heap {cls:=.type "dict",data:=.dict #[]}] at hcl;have cm:∀ {y c},(y,c)∈cloFrom X.env.cells scope.names []->X.env.cells.lookup y=some c/\c<s.heap.objs.size:=fun {y c} hm=>by
  rcases cloFrom_mem hm with hm | ⟨h1,rfl⟩
  ·cases hm
  ·obtain⟨c,hc⟩:=hfree _ h1 rfl;rw[hc];obtain⟨w,z⟩:=I.cell _ _ hc;exact⟨rfl,z.lt⟩
 have mem:∀ {y c},cenv.cells.lookup y=some c->(X.env.cells.lookup y=some c/\c<s.heap.objs.size)\/(s.heap.objs.size+1<=c/\CellAt (pushCells (s.heap.push {cls:=.type "dict",data:=.dict #[]}) scope.names) c none):=fun {y c} e=>by
  rw[hcl] at e;rcases cells_mem (PySem.mem_of_lookup e) with hm | ⟨_,h2,h3⟩
  ·exact .inl (cm hm)
  ·rw[Heap.size_push] at h2;exact .inr ⟨h2,h3⟩
 have look:∀ {y},scope.names.lookup y=some .free->∃ c,cenv.cells.lookup y=some c/\X.env.cells.lookup y=some c:=fun {y} hl=>by
  have hy:(y,NameKind.free)∈scope.names:=PySem.mem_of_lookup hl;obtain⟨c',e'⟩:=mem_lookup (cells_acc (names:=scope.names) (n:=(s.heap.push {cls:=.type "dict",data:=.dict #[]}).objs.size) (cloFrom_has (cells:=X.env.cells) (acc:=[]) hy));rw[<-hcl] at e';refine⟨c',e',?_⟩;rw[hcl] at e';rcases cells_mem (PySem.mem_of_lookup e') with hm | ⟨h1,_,_⟩
  ·exact(cm hm).1
  ·have:=ok.uniq _ h1;rw[hl] at this;cases this
 have okB:(X.blk s H scope cenv fp).Ok:=by
  refine⟨I.ok.mod,by show cenv.scope.kind=_;rw[hsc];exact ok.kind,by show cenv.globals=_;rw[<-hcenv];exact I.ok.glob,by show cenv.builtins=_;rw[<-hcenv];exact I.ok.blt,by show s.heap.objs.size<=cenv.locals;rw[hL];exact Nat.le_refl _,
   fun y z c e1 e2=>?_,fun y hy=>?_,fun y c z e=>?_,I.ok.hd,I.ok.frames,.inl rfl,fun b hb=>⟨?_,fun y c e z=>?_⟩,I.bs,Nat.le_trans I.ok.bsz I.sz,fun b o e hb=>?_,fun b hb z=>?_,I.stack,I.stkFree⟩
  ·have e1:cenv.cells.lookup y=some c:=e1;have e2:cenv.cells.lookup z=some c:=e2;rw[hcl] at e1 e2;refine cells_inj (fun p hp=>?_) (fun y z c a b=>I.ok.inj y z c (cm a).1 (cm b).1) (PySem.mem_of_lookup e1) (PySem.mem_of_lookup e2);rw[Heap.size_push];exact Nat.lt_succ_of_lt (cm (y:=p.1) (c:=p.2) hp).2
  ·show ∃ c,cenv.cells.lookup y=some c;have key:∀ k,cenv.kindOf y=some k->(k=.cell\/k=.free)->∃ c,cenv.cells.lookup y=some c:=fun k hk hk'=>by
    unfold Env.kindOf at hk;rw[hsc] at hk;obtain⟨k',e,r⟩:=lookup_relS hk;have:k'=.cell\/k'=.free:=by
     rcases r with rfl | ⟨rfl,_⟩
     ·exact hk'
     ·exact .inr rfl
    rcases this with rfl | rfl
    ·obtain⟨c,hm⟩:=cells_has (n:=(s.heap.push {cls:=.type "dict",data:=.dict #[]}).objs.size) (acc:=cloFrom X.env.cells scope.names []) (PySem.mem_of_lookup e);obtain⟨c',e'⟩:=mem_lookup hm;exact⟨c',by rw[hcl];exact e'⟩
    ·obtain⟨c,h1,_⟩:=look e;exact⟨c,h1⟩
   rcases hy with hy | hy
   ·exact key _ hy (.inl rfl)
   ·exact key _ hy (.inr rfl)
  ·have z:(scope.names.lookup y==some NameKind.cell)=true:=z;have z:scope.names.lookup y=some .cell:=by simpa using z
   have e:cenv.cells.lookup y=some c:=e;rw[hcl] at e;rcases cells_mem (PySem.mem_of_lookup e) with hm | ⟨_,h2,_⟩
   ·rcases cloFrom_mem hm with hm | ⟨h1,_⟩
    ·cases hm
    ·have q:=ok.uniq _ h1;rw[z] at q;cases q
   ·rw[Heap.size_push] at h2;exact Nat.le_of_succ_le h2
  ·show b≠cenv.locals;rw[hL];exact Nat.ne_of_lt (hfp b hb).2
  ·have e:cenv.cells.lookup y=some c:=e;rcases mem e with ⟨h1,_⟩ | ⟨h1,_⟩
   ·exact(hfp b hb).1.2.2.2.2.1 y c h1 z
   ·have h2:s.heap.objs.size+1<=b:=by rw[<-z];exact h1
    exact absurd (Nat.lt_of_lt_of_le (hfp b hb).2 (Nat.le_of_succ_le h2)) (Nat.lt_irrefl _)
  ·rcases(hfp b hb).1.2.2.2.1 with z | z
   ·exact I.ok.noex b o e z
   ·exact absurd (Nat.lt_of_lt_of_le (Heap.lt_size e) (Nat.le_trans I.ok.bsz z)) (Nat.lt_irrefl _)
  ·rcases List.mem_cons.mp (I.stkSub b z) with z | z
   ·exact(hfp b hb).1.2.1 z
   ·exact(hfp b hb).1.2.2.1 z
 refine⟨okB,rfl,I.bare,Un.kept kp,⟨fun _=>none,?_,fun i y av e1 e2 e3=>?_⟩,fun y c e=>?_,?_,fun y c e=>?_,fun p hp=>?_,I.hok.kept kp,by rw[wipe_length];exact I.len⟩
 ·show Heap.Ns _ cenv.locals _;rw[hL];exact Heap.Ns.keeps (Heap.Ns.new ..) fun b o e=>pushCells_keeps _ _ _ _ e
 ·obtain⟨e2,hne⟩:=wipe_some e2;have hfr:scope.names.lookup y=some .free/\(cenv.kindOf y=some .cell\/cenv.kindOf y=some .free):=by
   have key:∀ k,cenv.scope.names.lookup y=some k->k=.local\/k=.cell\/k=.free->scope.names.lookup y=some .free/\(cenv.kindOf y=some .cell\/cenv.kindOf y=some .free):=fun k hk hk'=>by
    have hk0:=hk;rw[hsc] at hk;obtain⟨k',e,r⟩:=lookup_relS hk;have no:¬(k'=.local\/k'=.cell):=fun hh=>by
     rcases ok.own _ (PySem.mem_of_lookup e) hh with e' | e'
     ·obtain⟨p,hp,hpy⟩:=List.mem_map.mp e';have e3:=ok.ix p hp;have:p.1=y:=hpy;rw[this] at e3;exact hne (List.mem_map.mpr ⟨p,hp,nodup_ix hN e3 e1⟩)
     ·exact e' (List.mem_of_getElem? e1)
    rcases r with rfl | ⟨rfl,rfl⟩
    ·rcases hk' with rfl | rfl | rfl
     ·exact absurd (.inl rfl) no
     ·exact absurd (.inr rfl) no
     ·exact⟨e,.inr hk0⟩
    ·exact⟨e,.inl hk0⟩
   have e3:Vis cenv.scope y:=e3;rcases e3 with e3 | e3 | e3
   ·exact key _ e3 (.inl rfl)
   ·exact key _ e3 (.inr (.inl rfl))
   ·exact key _ e3 (.inr (.inr rfl))
  obtain⟨m,hn,hl⟩:=I.loc;have hvis:Vis X.env.scope y:=(ok.free _ (PySem.mem_of_lookup hfr.1) rfl).elim (fun k=>.inr (.inl k)) (fun k=>.inr (.inr k));obtain⟨w,r,q⟩:=hl i y av e1 e2 hvis;refine⟨w,r,.inr ⟨hfr.2,?_⟩⟩;obtain⟨c,h1,h2⟩:=look hfr.1;rcases q with ⟨k,_⟩ | ⟨_,c',e',z⟩
  ·have k:X.env.scope.names.lookup y=some .local:=k;rcases ok.free _ (PySem.mem_of_lookup hfr.1) rfl with k' | k'<;>rw[show X.env.scope.names.lookup y=_ from k'] at k<;>cases k
  ·rw[h2] at e';cases e';exact⟨c,h1,z.keeps kp⟩
 ·have e:cenv.cells.lookup y=some c:=e;rcases mem e with ⟨h1,_⟩ | ⟨_,z⟩
  ·obtain⟨w,z⟩:=I.cell y c h1;exact⟨w,z.keeps kp⟩
  ·exact⟨_,z⟩
 ·show H cenv.locals=none;rw[hL];exact I.hok.fresh (Nat.le_refl _)
 ·have e:cenv.cells.lookup y=some c:=e;rcases mem e with ⟨h1,_⟩ | ⟨h1,_⟩
  ·exact I.freeC y c h1
  ·exact I.hok.fresh (Nat.le_of_succ_le h1)
 ·exact absurd (show p∈([]:List (Addr×Obj))++[] from hp) (by simp)
theorem app_ok{E:Value->Shared->Prop}{D:Addr}{xs:List V}{y:V}{v:Value}{Q:Value->Shared->Prop}(I:Inv X pins σ H s)(hD:H D=some (.lst xs))(hz:xs.length<sizeLine)(r:RelV y v)(h:∀ s',Inv X pins σ (upd H D (.lst (xs++[y]))) s'->Q .none s'):wpAny (model X.prog X.w) X.A (call (.builtin "list.append") [.ref D,v]) Q E s:=by
 obtain⟨hz',its,n,ri,e⟩:=I.hok D _ hD;have hl:=ri.length;refine append_at (hsz:=by rw[List.size_toArray];omega) e fun h' sb ho'=>?_;refine h {s with heap:=h'} (I.write (t':=s.toks) (by rw[hD];trivial) (.inl rfl) (fun b u hb q=>(sb.2 b hb).trans q) ⟨_,ho'⟩ ⟨by rw[List.length_append];exact hz,its++[v],n+1,ri.append (.cons r .nil),?_⟩);rw[ho'];simp
def PTs(X:Cx)(ifs:List Expr)(t:TT):Prop:=
 ∀ (pins:List (Addr×Obj)) (s:Shared) (σ:St) (H:Hp) (Q:Bool->Hp->Prop),Inv X pins σ H s->t σ H Q->
  wpAny (model X.prog X.w) X.A (forIn ifs true fun c r=>if r=true then do let ok <-isTrue c X.env (eval c X.env);pure (ForInStep.yield ok) else pure (ForInStep.yield r)) (TP X pins σ Q) X.xe s
def tYes:TT:=fun _ H Q=>Q true H
theorem pts_nil:PTs X [] tYes:=fun _ _ _ H _ I h=>wpAny_tests_nil ⟨H,I,h⟩
end
theorem thnF{α:Type}{t:Sem α}{Q Q':α->Shared->Prop}{M:Model}{A:Around}{E:Value->Shared->Prop}{s:Shared}(h:wpAny M A t Q (fun _ _=>False) s)(hQ:∀ a s,Q a s->Q' a s):wpAny M A t Q' E s:=wpAny_mono h hQ fun _ _ z=>False.elim z
theorem compLoop_any{prog:Program}{w:World}{A:Around}{R:Result->Shared->Prop}{s:Shared}{elt target iter:Expr}{ifs:List Expr}{scope:Scope}{pos:Pos}{it acc:Value}{env:Env}(I:Nat->Shared->Prop)(turn:∀ n s,I n s->wpAny (model prog w) A (pyNext it) (fun r s₁=>match r with
   | none=>R (.ok .next) s₁
   | some v=>wpAny (model prog w) A (letOwnedTupleGo target it v) (fun _ s₁'=>wpAny (model prog w) A (assign target env v) (fun _ s₂=>
     wpAny (model prog w) A (forIn ifs true fun c r=>if r=true then do let ok <-isTrue c env (eval c env);pure (ForInStep.yield ok) else pure (ForInStep.yield r)) (fun ok s₃=>
      if ok=true then wpAny (model prog w) A (eval elt env) (fun x s₄=>
       wpAny (model prog w) A (call (.builtin "list.append") [acc,x]) (fun _ s₅=>∃ m,m<n/\I m s₅) (notedBy (model prog w) A env fun e s'=>R (.error e) s') s₄) (notedBy (model prog w) A env fun e s'=>R (.error e) s') s₃
      else ∃ m,m<n/\I m s₃) (notedBy (model prog w) A env fun e s'=>R (.error e) s') s₂) (notedBy (model prog w) A env fun e s'=>R (.error e) s') s₁') (notedBy (model prog w) A env fun e s'=>R (.error e) s') s₁) (notedBy (model prog w) A env fun e s'=>R (.error e) s') s)(n:Nat)(h:I n s):
  codeAny (model prog w) A (.compLoop (.ListComp elt [⟨target,iter,ifs,0⟩] scope pos) 0 it acc env) R s:=by
 refine codeAny_loop rfl I (fun n s hI=>?_) n h;show wpAny _ A ((compTurn (.ListComp elt [⟨target,iter,ifs,0⟩] scope pos) 0 it acc env).onRaise (fun x=>do noteFrame x env;theTreesLotGoes x)) _ _ s;refine wpAny_noted ?_;rw[compTurn_list];refine wpAny_bind (wpAny_standAt (wpAny_bind (wpAny_mono (turn n s hI) (fun r s₁ h₁=>?_) fun _ _ h'=>h')));cases r with
 | none=>exact wpAny_pure h₁
 | some v=>
  refine wpAny_bind (wpAny_mono h₁ (fun _ s₁' h₁'=>?_) fun _ _ h'=>h');refine wpAny_bind (wpAny_mono h₁' (fun _ s₂ h₂=>wpAny_bind (wpAny_mono h₂ (fun ok s₃ h₃=>?_) fun _ _ h'=>h')) fun _ _ h'=>h');cases ok with
  | false=>exact wpAny_pure ⟨rfl,h₃⟩
  | true=>
   exact wpAny_bind (wpAny_bind (wpAny_mono h₃ (fun x s₄ h₄=>wpAny_bind (wpAny_mono h₄ (fun _ s₅ h₅=>wpAny_pure (wpAny_pure ⟨rfl,h₅⟩)) fun _ _ h'=>h')) fun _ _ h'=>h'))
section
variable{X:Cx}
def tLc(wi:TI)(g:TG)(tt:TT)(te:TE)(vs:List Nat):TE:=fun σ H Q=>wi σ H fun J H1=>∀ D,H1 D=none->∃ W:Nat->Nat->Hp->Prop,(∃ m,W 0 m (upd H1 D (.lst [])))/\∀ i m H,W i m H->
 (J.stop i H/\Q (.ref D) H)\/(J.go i H/\∃ Nx:Hp->Prop,(∀ H',Nx H'->∃ m',m'<m/\W (i+1) m' H')/\∀ x H',J.yld i H x H'->g x (wipe σ vs) H' fun σ2 H2=>wipe σ2 vs=wipe σ vs/\tt σ2 H2 fun b H3=>
  if b=true then te σ2 H3 fun y H4=>∃ acc,H4 D=some (.lst acc)/\acc.length<sizeLine/\Nx (upd H4 D (.lst (acc++[y]))) else Nx H3)
theorem lc_core{pins:List (Addr×Obj)}{s:Shared}{σ:St}{H:Hp}{Q:VK}{elt tg iter:Expr}{ifs:List Expr}{scope:Scope}{own:List (Str×Nat)}{pos pos':Pos}{wi:TI}{g:TG}{tt:TT}{te:TE}{use:Option (Value->Sem Unit)}{Qf:Value->Shared->Prop}(hc:X.calm=true)(hN:X.N.Nodup)(I:Inv X pins σ H s)(hi:PI X tg iter wi)(ok:BlkOk X.N X.env.scope scope own)(hg:∀ (s:Shared) (H:Hp) (C:Addr) (cl:List (Str×Addr)) (fp:List Addr),PG (X.blk s H scope (compEnvC scope cl C X.env) fp) tg g)(ht:∀ (s:Shared) (H:Hp) (C:Addr) (cl:List (Str×Addr)) (fp:List Addr),PTs (X.blk s H scope (compEnvC scope cl C X.env) fp) ifs tt)(he:∀ (s:Shared) (H:Hp) (C:Addr) (cl:List (Str×Addr)) (fp:List Addr),PE (X.blk s H scope (compEnvC scope cl C X.env) fp) elt te)(hs:∀ x,foldedSetIterable iter X.env x=pure x)(h:tLc wi g tt te (own.map (·.2)) σ H Q)(hRR:∀ D C s' m H',Inv X pins σ H' s'->Q (.ref D) H'->s'.heap.Ns C m->FpOk X pins H' C->compPost (model X.prog X.w) X.A X.xe use Qf (.ref D) C (.ok .next) s'):
  wpAny (model X.prog X.w) X.A (comprehension (.ListComp elt [⟨tg,iter,ifs,0⟩] scope pos) scope X.env pos' (newList []) false (eval iter X.env) use) Qf X.xe s:=by
 have hfree:∀ y∈scope.names,y.2=.free->∃ c,X.env.cells.lookup y.1=some c:=fun y hy e=>by
  rcases ok.free y hy e with k | k
  ·exact I.ok.has _ (.inl k)
  ·exact I.ok.has _ (.inr k)
 refine wpAny_comprehension_free (use:=use) rfl hs (closure_ok hfree) ok.kind (fun y hy e=>by rw[ok.uniq y hy,e])
  (thn (hi pins s σ H _ I h) fun xv s1 hx=>thn hx fun itv s2 h2=>?_)
 obtain⟨it,fp,tn,J,H2,e,I2,T,st2,f2,q⟩:=h2;subst e;refine wpAny_newObj_type (newEnv_comp ?_) (by show 0<=sizeLine;decide);generalize hD:s2.heap.objs.size=D;have hDn:H2 D=none:=I2.hok.fresh (Nat.le_of_eq hD);obtain⟨W,⟨m0,w0⟩,turn⟩:=q D hDn;generalize hs3:({s2 with heap:=s2.heap.push {cls:=.type "list",data:=.seq ([]:List Value).toArray}}:Shared)=s3;have I3:Inv X pins σ (upd H2 D (.lst [])) s3:=by
  rw[<-hs3];refine I2.laid (t':=s2.toks) (fun b o e=>Heap.get?_push_of_some _ e) (Nat.le_of_eq hD) ⟨Nat.zero_le _,[],0,.nil,?_⟩;rw[<-hD];exact Heap.get?_push_size _ rfl
 have h3:s3.heap=s2.heap.push {cls:=.type "list",data:=.seq ([]:List Value).toArray}:=by rw[<-hs3]
 have sz:∀ b∈fp,b<s2.heap.objs.size:=fun b hb=>by
  obtain⟨o,e,_⟩:=T.obj _ _ st2 b hb;exact Heap.lt_size e
 have f3:∀ b∈fp,FpOk X pins (upd H2 D (.lst [])) b/\b<s3.heap.objs.size:=fun b hb=>by
  have hlt:=sz b hb;refine⟨⟨?_,(f2 b hb).2⟩,by rw[h3,Heap.size_push];exact Nat.lt_succ_of_lt hlt⟩;rw[upd_ne (by rw[<-hD];exact Nat.ne_of_lt hlt)];exact(f2 b hb).1
 have st3:tn 0 s3.heap:=T.keep _ _ _ st2 fun b _ o e=>by rw[h3];exact Heap.get?_push_of_some _ e
 have I4:=block_start I3 ok hN f3;have pg:=hg s3 (upd H2 D (.lst [])) s3.heap.objs.size (cellsFrom (s3.heap.objs.size+1) scope.names (cloFrom X.env.cells scope.names [])) fp;have pt:=ht s3 (upd H2 D (.lst [])) s3.heap.objs.size (cellsFrom (s3.heap.objs.size+1) scope.names (cloFrom X.env.cells scope.names [])) fp;have pe:=he s3 (upd H2 D (.lst [])) s3.heap.objs.size (cellsFrom (s3.heap.objs.size+1) scope.names (cloFrom X.env.cells scope.names [])) fp;show codeAny _ _ (.compStart (.ListComp elt [⟨tg,iter,ifs,0⟩] scope pos) 0 (.ref it) (.ref D) (compEnvC scope (cellsFrom (s3.heap.objs.size+1) scope.names (cloFrom X.env.cells scope.names [])) s3.heap.objs.size X.env)) (compPost (model X.prog X.w) X.A X.xe use Qf (.ref D) s3.heap.objs.size) {s3 with heap:=pushCells (s3.heap.push {cls:=.type "dict",data:=.dict #[]}) scope.names};have nfp:∀ b∈fp,(upd H2 D (.lst [])) b=none:=fun b hb=>(f3 b hb).1.1;generalize hce:compEnvC scope (cellsFrom (s3.heap.objs.size+1) scope.names (cloFrom X.env.cells scope.names [])) s3.heap.objs.size X.env=ce at I4 pg pt pe ⊢;have cL:ce.locals=s3.heap.objs.size:=by subst hce;rfl
 generalize hH3:upd H2 D (.lst [])=H3 at I3 I4 pg pt pe w0 nfp f3;generalize hs4:({s3 with heap:=pushCells (s3.heap.push {cls:=.type "dict",data:=.dict #[]}) scope.names}:Shared)=s4 at I4 ⊢;have st4:tn 0 s4.heap:=T.keep _ _ _ st3 fun b _ o e=>by rw[<-hs4];exact pushCells_keeps _ _ _ _ (Heap.get?_push_of_some _ e)
 have stat:∀ {σ':St} {H':Hp} {s':Shared},Inv (X.blk s3 H3 scope ce fp) [] σ' H' s'->(∀ b∈fp,H' b=none)->∀ b∈fp,FpOk (X.blk s3 H3 scope ce fp) [] H' b:=fun {σ' H' s'} I' hn b hb=>
  ⟨hn b hb,(I'.ok.exf b hb).1,I'.ok.exfs b hb,.inl hb,fun x c e=>(I'.ok.exf b hb).2 x c e,fun p hp=>absurd (show p∈([]:List (Addr×Obj))++[] from hp) (by simp)⟩
 have loop:codeAny (model X.prog X.w) X.A (.compLoop (.ListComp elt [⟨tg,iter,ifs,0⟩] scope pos) 0 (.ref it) (.ref D) ce) (compPost (model X.prog X.w) X.A X.xe use Qf (.ref D) s3.heap.objs.size) s4:=by
  refine compLoop_any (fun n s'=>∃ i H',Inv (X.blk s3 H3 scope ce fp) [] (wipe σ (own.map (·.2))) H' s'/\tn i s'.heap/\(∀ b∈fp,H' b=none)/\W i n H') ?_ m0 ⟨0,H3,I4,st4,nfp,w0⟩;rintro n s5 ⟨i,H5,I5,st5,n5,w5⟩;rcases turn i n H5 w5 with ⟨stop,qq⟩ | ⟨go,Nx,hNx,step⟩
  ·have td:=T.done (X.blk s3 H3 scope ce fp) rfl rfl rfl hc i [] s5 _ H5 (fun _ _=>False) I5 (stat I5 n5) st5 stop;refine thnF td fun r s6 ⟨hr,I6⟩=>?_;subst hr;have I7:Inv X pins σ H5 s6:=I3.call' (ch:=fp) I6.os I6.base I6.hok I6.bare fun b hb=>⟨(f3 b hb).1.2.2.2.1,(f3 b hb).1.2.1,(f3 b hb).1.2.2.2.2.1,(f3 b hb).1.2.2.2.2.2⟩;have nC:H5 s3.heap.objs.size=none:=by
    have z:H5 ce.locals=none:=I6.free;rw[cL] at z;exact z
   obtain⟨m,hn,_⟩:=I6.loc;have hn:s6.heap.Ns ce.locals m:=hn;rw[cL] at hn;exact hRR D s3.heap.objs.size s6 m H5 I7 qq hn (I3.fpOk (Nat.le_refl _) nC)
  ·have ti:=T.item (X.blk s3 H3 scope ce fp) rfl rfl rfl hc i [] s5 _ H5 (fun _ _=>False) I5 (stat I5 n5) st5 go;refine thnF ti fun r s6 ⟨u,hr,h6⟩=>?_;subst hr;refine thnF h6 fun _ s7 ⟨x,H7,I7,r7,y7,st7,n7⟩=>?_;have I7':=I7.pinned (stat I7 n7) (T.obj _ _ st7);refine thnF (pg _ s7 _ H7 x u _ I7' r7 (step x H7 y7)) fun _ s8 ⟨σ8,H8,I8,hw8,q8⟩=>?_;refine thnF (pt _ s8 σ8 H8 _ I8 q8) fun b s9 ⟨H9,I9,q9⟩=>?_;have fin:∀ {s':Shared} {H':Hp},Inv (X.blk s3 H3 scope ce fp) ([]++pinsAt fp s7.heap) σ8 H' s'->Nx H'->∃ m,m<n/\∃ i H',Inv (X.blk s3 H3 scope ce fp) [] (wipe σ (own.map (·.2))) H' s'/\tn i s'.heap/\(∀ b∈fp,H' b=none)/\W i m H':=fun {s' H'} I' nx=>by
    obtain⟨m',hm,w'⟩:=hNx H' nx;have pin':∀ b∈fp,∀ o,s7.heap.get? b=some o->s'.heap.get? b=some o/\H' b=none:=fun b hb o e=>
     let z:=I'.pin (b,o) (List.mem_append_right _ (List.mem_append_right _ (mem_pinsAt hb e)))
     ⟨z.1,z.2.1⟩
    have hl:(wipe σ (own.map (·.2))).length=σ8.length:=by rw[<-hw8,wipe_length]
    refine⟨m',hm,i+1,H',(I'.unpinned (pins:=[])).weak hl (fun j v e=>?_),T.keep _ _ _ st7 fun b hb o e=>(pin' b hb o e).1,fun b hb=>?_,w'⟩
    ·rw[<-hw8] at e;exact(wipe_some e).1
    ·obtain⟨o,e,_⟩:=T.obj _ _ st7 b hb;exact(pin' b hb o e).2
   cases b with
   | false=>
    simp only[Bool.false_eq_true,if_false] at q9 ⊢;exact fin I9 q9
   | true=>
    simp only[if_true] at q9 ⊢;refine thnF (pe _ s9 σ8 H9 _ I9 q9) fun z s10 ⟨yv,H10,I10,r10,acc,hD10,hz10,nx⟩=>?_;exact app_ok (X:=X.blk s3 H3 scope ce fp) I10 hD10 hz10 r10 fun s11 I11=>fin I11 nx
 exact codeAny_compStart_list loop (T.self X.A 0 _ _ _ st4 loop)
theorem pe_lc{elt tg iter:Expr}{ifs:List Expr}{scope:Scope}{own:List (Str×Nat)}{pos:Pos}{wi:TI}{g:TG}{tt:TT}{te:TE}(hc:X.calm=true)(hN:X.N.Nodup)(hi:PI X tg iter wi)(ok:BlkOk X.N X.env.scope scope own)(hg:∀ (s:Shared) (H:Hp) (C:Addr) (cl:List (Str×Addr)) (fp:List Addr),PG (X.blk s H scope (compEnvC scope cl C X.env) fp) tg g)(ht:∀ (s:Shared) (H:Hp) (C:Addr) (cl:List (Str×Addr)) (fp:List Addr),PTs (X.blk s H scope (compEnvC scope cl C X.env) fp) ifs tt)(he:∀ (s:Shared) (H:Hp) (C:Addr) (cl:List (Str×Addr)) (fp:List Addr),PE (X.blk s H scope (compEnvC scope cl C X.env) fp) elt te)(hs:∀ x,foldedSetIterable iter X.env x=pure x:=by intro _;rfl):
  PE X (.ListComp elt [⟨tg,iter,ifs,0⟩] scope pos) (tLc wi g tt te (own.map (·.2))):=by
 intro pins s σ H Q I h;rw[eval_ListComp];refine lc_core hc hN I hi ok hg ht he hs h fun D C s' m H' I' q hn f=>⟨m,hn,fun h'' sb=>?_⟩;obtain⟨f0,f1,f2,f3,f4,f5⟩:=f;exact⟨.ref D,H',I'.turned (t':=s'.toks) (fun b o hb e=>(sb.2 b hb).trans e) f0 f1 f3 f4 f5,rfl,q⟩
theorem ps_setLc{i:Nat}{y:Str}{py:Pos}{elt tg iter:Expr}{ifs:List Expr}{scope:Scope}{own:List (Str×Nat)}{pos spos:Pos}{wi:TI}{g:TG}{tt:TT}{te:TE}(hc:X.calm=true)(hN:X.N.Nodup)(hy:X.N[i]?=some y)(hyl:X.env.scope.names.lookup y=some .local)(hsw:swapsWith (.ListComp elt [⟨tg,iter,ifs,0⟩] scope pos) (some (.Name y py)) spos.line X.env=pure true)(hi:PI X tg iter wi)(ok:BlkOk X.N X.env.scope scope own)(hg:∀ (s:Shared) (H:Hp) (C:Addr) (cl:List (Str×Addr)) (fp:List Addr),PG (X.blk s H scope (compEnvC scope cl C X.env) fp) tg g)(ht:∀ (s:Shared) (H:Hp) (C:Addr) (cl:List (Str×Addr)) (fp:List Addr),PTs (X.blk s H scope (compEnvC scope cl C X.env) fp) ifs tt)(he:∀ (s:Shared) (H:Hp) (C:Addr) (cl:List (Str×Addr)) (fp:List Addr),PE (X.blk s H scope (compEnvC scope cl C X.env) fp) elt te)(hs:∀ x,foldedSetIterable iter X.env x=pure x:=by intro _;rfl):
  PS X (.Assign [.Name y py] (.ListComp elt [⟨tg,iter,ifs,0⟩] scope pos) spos) (tAsg (tLc wi g tt te (own.map (·.2))) (gName i)):=by
 intro pins s σ H D I h;rw[exec_Assign_Name_used _ _ _ _ hsw];refine wpAny_bind (wpAny_standAt (wpAny_bind ?_));show wpAny _ X.A (do let _ <-comprehension (.ListComp elt [⟨tg,iter,ifs,0⟩] scope pos) scope X.env (firstIterPos [⟨tg,iter,ifs,0⟩] pos) (newList []) false (eval iter X.env) (some (assign (.Name y py) X.env))) _ _ s;have h:tLc wi g tt te (own.map (·.2)) σ H (fun x H1=>gName i x σ H1 D.nx):=h;refine wpAny_bind (thn (lc_core (Qf:=fun _ s'=>SP X pins D .next s') hc hN I hi ok hg ht he hs h fun L C s' m H' I' q hn f=>?_) fun _ s' hq=>wpAny_pure (wpAny_pure hq));show wpAny _ _ (assign (.Name y py) X.env (.ref L)) _ _ _;refine wpAny_assign_Name (store_ok2 (v:=V.ref L) I' hN hy (.inl hyl) rfl (fun s2 I2 ⟨a,sb,ha⟩=>?_) (.inr hyl));obtain⟨f0,f1,f2,f3,f4,f5⟩:=f;have haC:C≠a:=by
  rcases ha with z | z
  ·rw[z];exact f1
  ·exact fun e=>f4 y a z e.symm
 refine⟨m,hn.sameBut sb haC,fun h3 sb3=>?_⟩;exact⟨_,H',I2.turned (t':=s2.toks) (fun b o hb e=>(sb3.2 b hb).trans e) f0 f1 f3 f4 f5,q⟩
theorem sw_true{elt:Expr}{gs:List Comprehension}{scope:Scope}{pos py:Pos}{y:Str}{l:Nat}{env:Env}(hk:env.scope.kind=.function)(hy:env.scope.names.lookup y=some .local)(hl:(py.line==pos.line)=true)(ha:(scope.names.any fun(n,k)=>n==y&&(k==.local||k==.cell))=false):swapsWith (.ListComp elt gs scope pos) (some (.Name y py)) l env=pure true:=by
 have ky:env.kindOf y=some .local:=hy;have hb:env.blockKind=.function:=by unfold Env.blockKind;rw[hk];rfl
 unfold swapsWith;simp only[hb,ky,ha,Expr.pos,hl];rfl
end
theorem lc_list{K:PySem.W.Frag}{a:Addr}{xs:List V}{g:TG}{tt:TT}{te:TE}{vs:List Nat}{σ:St}{H1:Hp}{D:Addr}{Qd:Hp->Prop}(Pv:Nat->Hp->Prop)(h0:Pv 0 (upd H1 D (.lst [])))(hl:∀ i H,i<=xs.length->Pv i H->SqL K H a xs)(hs:∀ i x H,xs[i]?=some x->Pv i H->g x (wipe σ vs) H fun σ2 H2=>wipe σ2 vs=wipe σ vs/\tt σ2 H2 fun b H3=>
   if b=true then te σ2 H3 fun y H4=>∃ acc,H4 D=some (.lst acc)/\acc.length<sizeLine/\Pv (i+1) (upd H4 D (.lst (acc++[y]))) else Pv (i+1) H3)(hd:∀ H,Pv xs.length H->Qd H):
  ∃ W:Nat->Nat->Hp->Prop,(∃ m,W 0 m (upd H1 D (.lst [])))/\∀ i m H,W i m H->
   ((Itl K a).stop i H/\Qd H)\/((Itl K a).go i H/\∃ Nx:Hp->Prop,(∀ H',Nx H'->∃ m',m'<m/\W (i+1) m' H')/\∀ x H',(Itl K a).yld i H x H'->g x (wipe σ vs) H' fun σ2 H2=>wipe σ2 vs=wipe σ vs/\tt σ2 H2 fun b H3=>
    if b=true then te σ2 H3 fun y H4=>∃ acc,H4 D=some (.lst acc)/\acc.length<sizeLine/\Nx (upd H4 D (.lst (acc++[y]))) else Nx H3):=by
 refine⟨fun i m H=>m=xs.length-i/\i<=xs.length/\Pv i H,⟨xs.length,by simp,Nat.zero_le _,h0⟩,?_⟩;rintro i m H ⟨rfl,hi,p⟩;have q:=hl i H hi p;by_cases hlt:i<xs.length
 ·refine .inr ⟨⟨xs,xs[i],q,by simp[hlt]⟩,Pv (i+1),fun H' p'=>⟨xs.length-(i+1),by omega,rfl,hlt,p'⟩,fun x H' y=>?_⟩;obtain⟨e,y⟩:=y;subst e;exact hs i x _ (y xs q) p
 ·have e:i=xs.length:=by omega
  subst e;exact .inl ⟨⟨xs,q,Nat.le_refl _⟩,hd H p⟩
def blkC(N:List Str)(sc scope:Scope)(own:List (Str×Nat)):Bool:=
 (match scope.kind with | .function=>true | _=>false)&&(scope.names.all fun y=>decide (scope.names.lookup y.1=some y.2))&&(own.all fun p=>decide (N[p.2]?=some p.1)) &&
  (scope.names.all fun y=>match y.2 with
   | .free=>(match sc.names.lookup y.1 with | some .cell=>true | some .free=>true | _=>false)
   | .local=>decide (y.1∈own.map (·.1))||decide (y.1∉N)
   | .cell=>decide (y.1∈own.map (·.1))||decide (y.1∉N)
   | _=>true)
theorem blkOk_by{N:List Str}{sc scope:Scope}{own:List (Str×Nat)}(h:blkC N sc scope own=true):BlkOk N sc scope own:=by
 unfold blkC at h;simp only[Bool.and_eq_true,List.all_eq_true,decide_eq_true_eq] at h;obtain⟨⟨⟨h1,h2⟩,h3⟩,h4⟩:=h;refine⟨?_,h2,h3,fun y hy e=>?_,fun y hy e=>?_⟩
 ·split at h1
  ·assumption
  ·cases h1
 ·have q:=h4 y hy;simp only[e] at q;split at q<;>first | exact .inl (by assumption) | exact .inr (by assumption) | cases q
 ·have q:=h4 y hy;rcases e with e | e<;>(simp only[e,Bool.or_eq_true,decide_eq_true_eq] at q;exact q)
end L2
namespace L2
open PySem PySem.Spec PyProof.Rows
section
variable{κ:Type}[DecidableEq κ]
theorem RelO.isSome_eq{o:Option V}{u:Option Value}(r:RelO o u):o.isSome=u.isSome:=by
 cases o with
 | none=>cases u with
  | none=>rfl
  | some _=>exact(show False from r).elim
 | some _=>cases u with
  | none=>exact(show False from r).elim
  | some _=>rfl
end
end L2
namespace L2
open PySem PySem.Spec PyProof.Rows
section
variable{X:Cx}{pins:List (Addr×Obj)}{σ:St}{H:Hp}{s:Shared}{h':Heap}
theorem Inv.turnedL{t':Nat}{ch:List Addr}(I:Inv X pins σ H s)(k:∀ b o,b∉ch->s.heap.get? b=some o->h'.get? b=some o)(hf:∀ b∈ch,FpOk X pins H b):Inv X pins σ H {s with heap:=h',toks:=t'}:=by
 have nit:∀ b u,H b=some u->b∉ch:=fun b u e z=>by
  have q:=(hf b z).1;rw[q] at e;cases e
 refine I.step (g':=s.gens) (d':=s.drawn) (ch:=ch) (fun b hb=>⟨(hf b hb).2.2.2.1,(hf b hb).2.1,(hf b hb).2.2.2.2.1,(hf b hb).2.2.2.2.2⟩) (fun b o _ _ hc e _=>k b o hc e) (fun b o _ _ hc e _=>⟨o.slots,k b o hc e⟩)
  (fun _ _ _ _ n=>n) (fun b o hc e=>⟨o,k b o hc e⟩) (fun _ _ e=>e) (fun _ _ _ e=>e) (fun b ps e=>⟨#[],by rw[e];simp⟩) (fun m hm=>?_) (fun b u e=>?_) I.bare
 ·obtain⟨o,es,ep,ho,r⟩:=hm;exact⟨o,es,ep,k _ o (fun z=>(hf _ z).2.1 rfl) ho,r⟩
 ·refine(I.hok b u e).stay (fun c v hc q=>k c v ?_ q) (fun _ q=>q) fun _ _ q=>q;rcases hc with z | z
  ·rw[z];exact nit b u e
  ·exact nit c _ z
theorem Inv.turnedNew{t':Nat}{ch:List Addr}{T:Addr}{ob:HO}(I:Inv X pins σ H s)(k:∀ b o,b∉ch->s.heap.get? b=some o->h'.get? b=some o)(hf:∀ b∈ch,FpOk X pins H b)(hT:s.heap.objs.size<=T)(new:ObjOk X.prog X.w (upd H T ob) h' T ob):Inv X pins σ (upd H T ob) {s with heap:=h',toks:=t'}:=by
 have hn:H T=none:=I.hok.fresh hT;have nit:∀ b u,H b=some u->b∉ch:=fun b u e z=>by
  have q:=(hf b z).1;rw[q] at e;cases e
 refine I.step (g':=s.gens) (d':=s.drawn) (ch:=ch) (fun b hb=>⟨(hf b hb).2.2.2.1,(hf b hb).2.1,(hf b hb).2.2.2.2.1,(hf b hb).2.2.2.2.2⟩) (fun b o _ _ hc e _=>k b o hc e) (fun b o _ _ hc e _=>⟨o.slots,k b o hc e⟩)
  (fun b o _ e n=>?_) (fun b o hc e=>⟨o,k b o hc e⟩) (fun b xs e=>?_) (fun b o u e=>?_) (fun b ps e=>⟨#[],?_⟩) (fun m hm=>?_) (fun b u e=>?_) I.bare
 ·rw[upd_ne (Nat.ne_of_lt (Nat.lt_of_lt_of_le (Heap.lt_size e) hT))];exact n
 ·rw[upd_ne (ne_of_none e hn)];exact e
 ·rw[upd_ne (ne_of_none e hn)];exact e
 ·rw[upd_ne (ne_of_none e hn),e];simp
 ·obtain⟨o,es,ep,ho,r⟩:=hm;exact⟨o,es,ep,k _ o (fun z=>(hf _ z).2.1 rfl) ho,r⟩
 ·by_cases hb:b=T
  ·subst hb;rw[upd_same] at e;cases e;exact new
  ·rw[upd_ne hb] at e;refine(I.hok b u e).stay (fun c v hc q=>k c v ?_ q) (fun c q=>by rw[upd_ne (ne_of_none q hn)];exact q) fun c xs q=>by rw[upd_ne (ne_of_none q hn)];exact q
   rcases hc with z | z
   ·rw[z];exact nit b u e
   ·exact nit c _ z
end
def Ite(K:PySem.W.Frag)(a:Addr):It:=
 ⟨fun i H=>∃ (xs:List V) (x:V),SqL K H a xs/\xs[i]?=some x,fun i H v H'=>∃ T x,v=.ref T/\H T=none/\H'=upd H T (.tup [.int (i:Nat),x])/\∀ xs,SqL K H a xs->xs[i]?=some x,fun i H=>∃ xs:List V,SqL K H a xs/\xs.length<=i⟩
theorem turn_enum{P:Program}{w:World}{K:PySem.W.Frag}{elts:List Expr}{kk:Nat}{tpos:Pos}(a e it:Addr):
  Turn P w K (.Tuple elts kk tpos) (Ite K a) [e,it] e (fun i h=>(∃ old,IsEnum h e it ((i:Nat):Int) old)/\h.IsListIter it a i/\e≠it) where
 mem:=by simp
 obj:=fun i h st b hb=>by
  obtain⟨⟨old,he⟩,⟨o,ho,hc,hd⟩,_⟩:=st;have e':b=e\/b=it:=by simpa using hb
  rcases e' with z | z
  ·rw[z];exact⟨_,he,fun v q=>nomatch q⟩
  ·rw[z];exact⟨o,ho,fun v q=>by rw[hd] at q;cases q⟩
 keep:=fun i h h' st k=>let ⟨⟨old,he⟩,hi,hne⟩:=st;⟨⟨old,k e (by simp) _ he⟩,hi.at fun o q=>k it (by simp) o q,hne⟩
 item:=by
  intro X hP hw hK hc i pins s σ H E I hf st hg;subst hP hw hK;obtain⟨⟨old,he⟩,hit,hne⟩:=st;obtain⟨xs,x,hq,hx⟩:=hg;obtain⟨its,rv,p,hz⟩:=I.list hq;obtain⟨u,hu,ru⟩:=rv.get hx;have hel:e<s.heap.objs.size:=Heap.lt_size he;have hil:it<s.heap.objs.size:=by obtain⟨_,q,_⟩:=hit;exact Heap.lt_size q
  refine wpAny_pyNext_enum_item he hit p.isList (x:=u) (by simpa using hu) hne fun h' ho hit' hT hsz hk=>?_;refine⟨_,rfl,wpAny_letOwnedTupleGo_enum (s:={s with heap:=h',toks:=s.toks+1}) ho fun h'' he' sb=>?_⟩;have hT2:h''.get? s.heap.objs.size=some {cls:=.type "tuple",data:=.seq #[.int i s.toks,u]}:=(sb.2 _ (Nat.ne_of_gt hel)).trans hT;have new:ObjOk X.prog X.w (upd H s.heap.objs.size (.tup [.int (i:Nat),x])) h'' s.heap.objs.size (.tup [.int (i:Nat),x]):=
   ⟨by show 2<=sizeLine;decide,[.int i s.toks,u],.cons ⟨_,rfl⟩ (.cons ru .nil),⟨_,hT2,rfl,_,rfl⟩⟩
  have I1:Inv X pins σ (upd H s.heap.objs.size (.tup [.int (i:Nat),x])) {s with heap:=h'',toks:=s.toks+1}:=
   I.turnedNew (ch:=[e,it]) (fun b ob hb q=>(sb.2 b (fun z=>hb (by simp[z]))).trans (hk b ob (fun z=>hb (by simp[z])) (fun z=>hb (by simp[z])) q)) hf (Nat.le_refl _) new
  refine⟨.ref s.heap.objs.size,_,I1,rfl,⟨_,x,rfl,I.hok.fresh (Nat.le_refl _),rfl,fun ys hy=>by rw[I.list_inj hy hq];exact hx⟩,⟨⟨u,?_⟩,hit'.at fun o q=>(sb.2 it (Ne.symm hne)).trans q,hne⟩,fun b hb=>?_⟩
  ·have e1:((i+1:Nat):Int)=(i:Int)+1:=by omega
   rw[e1];exact he'
  ·have hb':b<s.heap.objs.size:=by
    have e':b=e\/b=it:=by simpa using hb
    rcases e' with z | z
    ·rw[z];exact hel
    ·rw[z];exact hil
   rw[upd_ne (Nat.ne_of_lt hb')];exact(hf b hb).1
 done:=by
  intro X hP hw hK hc i pins s σ H E I hf st hg;subst hP hw hK;obtain⟨⟨old,he⟩,hit,hne⟩:=st;obtain⟨xs,hq,hx⟩:=hg;obtain⟨its,rv,p,hz⟩:=I.list hq;obtain⟨f0,f1,f2,f3,f4,f5⟩:=hf it (by simp);have hl:=rv.length;exact wpAny_pyNext_enum_end (I.ok.hd hc) he hit p.isList (by simp;omega) fun h' eb=>⟨rfl,I.turned (t':=s.toks) (fun b o hb q=>eb b o hb q) f0 f1 f3 f4 f5⟩
 self:=fun A i s Q E st h=>let ⟨⟨_,he⟩,_⟩:=st;wpAny_pyIter_enum he h
def iEnum(K:PySem.W.Frag)(ta:TA):TI:=fun σ H R=>ta σ H fun vs H1=>∃ a xs,vs=[.ref a]/\SqL K H1 a xs/\R (Ite K a) H1
theorem pi_enum{X:Cx}{e:Expr}{ta:TA}{p pos tpos:Pos}{elts:List Expr}{kk:Nat}(hg:Gl X "enumerate")(hm:X.mg "enumerate"=none)(ha:PA X [e] ta)(hs:starEach [e] X.env=[(false,eval e X.env)]:=by rfl):
  PI X (.Tuple elts kk tpos) (.Call (.Name "enumerate" p) [e] [] pos) (iEnum X.K ta):=by
 intro pins s σ H R I h;refine Call_ (ld_blt I hg hm boot_enumerate (PyProof.Rows.callWith_type1 (thn (ha pos pins s σ H _ I h) fun us s1 ⟨vs,H1,I1,r1,q1⟩=>?_) hs rfl));obtain⟨a,xs,ex,hq,q⟩:=q1;subst ex;cases r1 with
 | cons r rr=>
  cases rr;cases r;obtain⟨its,rv,p',hz⟩:=I1.list hq;refine call_enumerate_list p'.isList fun h' he hit hsz hk=>wpAny_pyIter_enum he ?_;have I2:Inv X pins σ H1 {s1 with heap:=h'}:=I1.kept (t':=s1.toks) hk;refine⟨s1.heap.objs.size+1,[s1.heap.objs.size+1,s1.heap.objs.size],_,_,H1,rfl,I2,turn_enum a (s1.heap.objs.size+1) s1.heap.objs.size,⟨⟨.none,he⟩,hit,Nat.succ_ne_self _⟩,fun b hb=>?_,q⟩;have e':b=s1.heap.objs.size+1\/b=s1.heap.objs.size:=by simpa using hb
  have hle:s1.heap.objs.size<=b:=by
   rcases e' with z | z
   ·rw[z];exact Nat.le_add_right _ _
   ·rw[z];exact Nat.le_refl _
  exact I1.fpOk hle (I1.hok.fresh hle)
theorem boot_zip5:bootBuiltins "zip"=some (.type "zip"):=by decide +kernel
def Itz(K:PySem.W.Frag)(a b:Addr):It:=
 ⟨fun i H=>∃ (xs ys:List V) (x y:V),SqL K H a xs/\SqL K H b ys/\xs[i]?=some x/\ys[i]?=some y,
  fun i H v H'=>∃ T x y,v=.ref T/\H T=none/\H'=upd H T (.tup [x,y])/\(∀ xs,SqL K H a xs->xs[i]?=some x)/\∀ ys,SqL K H b ys->ys[i]?=some y,
  fun i H=>∃ xs ys:List V,SqL K H a xs/\SqL K H b ys/\(xs.length<=i\/ys.length<=i)⟩
theorem turn_zip{P:Program}{w:World}{K:PySem.W.Frag}{elts:List Expr}{kk:Nat}{tpos:Pos}{a b z TI TO i1 i2:Addr}(D:ZipApart z TI TO i1 i2 a b):
  Turn P w K (.Tuple elts kk tpos) (Itz K a b) [z,TI,TO,i1,i2] z (fun i h=>IsZip h z TI TO .none/\IsPair h TI (.ref i1) (.ref i2)/\(∃ x y,IsPair h TO x y)/\h.IsListIter i1 a i/\h.IsListIter i2 b i) where
 mem:=by simp
 obj:=fun i h st c hc=>by
  obtain⟨hz,hTI,⟨x,y,hTO⟩,⟨o1,e1,_,d1⟩,⟨o2,e2,_,d2⟩⟩:=st;have e':c=z\/c=TI\/c=TO\/c=i1\/c=i2:=by simpa using hc
  rcases e' with q | q | q | q | q
  ·rw[q];exact⟨_,hz,fun v q=>nomatch q⟩
  ·rw[q];exact⟨_,hTI,fun v q=>nomatch q⟩
  ·rw[q];exact⟨_,hTO,fun v q=>nomatch q⟩
  ·rw[q];exact⟨o1,e1,fun v q=>by rw[d1] at q;cases q⟩
  ·rw[q];exact⟨o2,e2,fun v q=>by rw[d2] at q;cases q⟩
 keep:=fun i h h' st k=>by
  obtain⟨hz,hTI,⟨x,y,hTO⟩,h1,h2⟩:=st;exact⟨k z (by simp) _ hz,k TI (by simp) _ hTI,⟨x,y,k TO (by simp) _ hTO⟩,h1.at fun o q=>k i1 (by simp) o q,h2.at fun o q=>k i2 (by simp) o q⟩
 item:=by
  intro X hP hw hK hc i pins s σ H E I hf st hg;subst hP hw hK;obtain⟨hz,hTI,⟨x0,y0,hTO⟩,h1,h2⟩:=st;obtain⟨xs,ys,x,y,hqx,hqy,hx,hy⟩:=hg;obtain⟨its,rv,p,_⟩:=I.list hqx;obtain⟨its2,rv2,p2,_⟩:=I.list hqy;obtain⟨u,hu,ru⟩:=rv.get hx;obtain⟨u2,hu2,ru2⟩:=rv2.get hy;have hzl:z<s.heap.objs.size:=Heap.lt_size hz;refine wpAny_pyNext_zip_item D hz hTI hTO h1 h2 p.isList p2.isList (x:=u) (y:=u2) (by simpa using hu) (by simpa using hu2) fun h' z' TO' h1' h2' hT hsz hk=>?_;refine⟨_,rfl,wpAny_letOwnedTupleGo_zip (s:={s with heap:=h'}) z' fun h'' z'' sb=>?_⟩;have hT2:h''.get? s.heap.objs.size=some {cls:=.type "tuple",data:=.seq #[u,u2]}:=(sb.2 _ (Nat.ne_of_gt hzl)).trans hT;have new:ObjOk X.prog X.w (upd H s.heap.objs.size (.tup [x,y])) h'' s.heap.objs.size (.tup [x,y]):=
   ⟨by show 2<=sizeLine;decide,[u,u2],.cons ru (.cons ru2 .nil),⟨_,hT2,rfl,_,rfl⟩⟩
  have I1:Inv X pins σ (upd H s.heap.objs.size (.tup [x,y])) {s with heap:=h''}:=
   I.turnedNew (t':=s.toks) (ch:=[z,TI,TO,i1,i2]) (fun c o hb q=>(sb.2 c (fun q'=>hb (by simp[q']))).trans (hk c o (fun q'=>hb (by simp[q'])) (fun q'=>hb (by simp[q'])) (fun q'=>hb (by simp[q'])) (fun q'=>hb (by simp[q'])) q)) hf (Nat.le_refl _) new
  refine⟨.ref s.heap.objs.size,_,I1,rfl,⟨_,x,y,rfl,I.hok.fresh (Nat.le_refl _),rfl,fun l hl=>by rw[I.list_inj hl hqx];exact hx,fun l hl=>by rw[I.list_inj hl hqy];exact hy⟩,⟨z'',?_,⟨u,u2,?_⟩,?_,?_⟩,fun c hcm=>?_⟩
  ·exact(sb.2 _ D.TIz).trans (hk _ _ D.TIz D.TITO D.TIi1 D.TIi2 hTI)
  ·exact(sb.2 _ D.TOz).trans TO'
  ·exact h1'.at fun o q=>(sb.2 _ D.i1z).trans q
  ·exact h2'.at fun o q=>(sb.2 _ D.i2z).trans q
  ·have hlt:c<s.heap.objs.size:=by
    have e':c=z\/c=TI\/c=TO\/c=i1\/c=i2:=by simpa using hcm
    rcases e' with q | q | q | q | q
    ·rw[q];exact hzl
    ·rw[q];exact Heap.lt_size hTI
    ·rw[q];exact Heap.lt_size hTO
    ·rw[q];obtain⟨_,e1,_⟩:=h1;exact Heap.lt_size e1
    ·rw[q];obtain⟨_,e2,_⟩:=h2;exact Heap.lt_size e2
   rw[upd_ne (Nat.ne_of_lt hlt)];exact(hf c hcm).1
 done:=by
  intro X hP hw hK hc i pins s σ H E I hf st hg;subst hP hw hK;obtain⟨hz,hTI,⟨x0,y0,hTO⟩,h1,h2⟩:=st;obtain⟨xs,ys,hqx,hqy,hend⟩:=hg;obtain⟨its,rv,p,_⟩:=I.list hqx;obtain⟨its2,rv2,p2,_⟩:=I.list hqy;have l1:=rv.length;have l2:=rv2.length;have he:its.toArray[i]?=none\/its2.toArray[i]?=none:=by
   rcases hend with q | q
   ·exact .inl (by simp;omega)
   ·exact .inr (by simp;omega)
  exact wpAny_pyNext_zip_end (I.ok.hd hc) D hz hTI hTO h1 h2 p.isList p2.isList he fun h' hk=>⟨rfl,I.turnedL (t':=s.toks) (ch:=[z,TI,TO,i1,i2]) (fun c o hb q=>
   hk c o (fun q'=>hb (by simp[q'])) (fun q'=>hb (by simp[q'])) (fun q'=>hb (by simp[q'])) (fun q'=>hb (by simp[q'])) q) hf⟩
 self:=fun A i s Q E st h=>wpAny_pyIter_zip st.1 h
def iZip(K:PySem.W.Frag)(ta:TA):TI:=fun σ H R=>ta σ H fun vs H1=>∃ a b xs ys,vs=[.ref a,.ref b]/\SqL K H1 a xs/\SqL K H1 b ys/\R (Itz K a b) H1
theorem pi_zip{X:Cx}{e e2:Expr}{ta:TA}{p pos tpos:Pos}{elts:List Expr}{kk:Nat}(hg:Gl X "zip")(hm:X.mg "zip"=none)(ha:PA X [e,e2] ta)(hs:starEach [e,e2] X.env=(false,eval e X.env)::starEach [e2] X.env:=by rfl)(hpl:(backTo pos (starEach [e2] X.env)).any (·.1)=false:=by rfl):
  PI X (.Tuple elts kk tpos) (.Call (.Name "zip" p) [e,e2] [] pos) (iZip X.K ta):=by
 intro pins s σ H R I h;refine Call_ (ld_blt I hg hm boot_zip5 (PyProof.Rows.callWith_type1 (thn (ha pos pins s σ H _ I h) fun us s1 ⟨vs,H1,I1,r1,q1⟩=>?_) hs hpl));obtain⟨a,b,xs,ys,ex,hqx,hqy,q⟩:=q1;subst ex;cases r1 with
 | cons r rr=>
  cases rr with
  | cons r' rr=>
   cases rr;cases r;cases r';obtain⟨its,rv,p1,_⟩:=I1.list hqx;obtain⟨its2,rv2,p2,_⟩:=I1.list hqy;have la:a<s1.heap.objs.size:=p1.lt;have lb:b<s1.heap.objs.size:=p2.lt;refine call_zip_2 p1.isList p2.isList fun h' hz hTI hTO h1 h2 hsz hk=>wpAny_pyIter_zip hz ?_;have I2:Inv X pins σ H1 {s1 with heap:=h'}:=I1.kept (t':=s1.toks) hk;refine⟨s1.heap.objs.size+4,[s1.heap.objs.size+4,s1.heap.objs.size+2,s1.heap.objs.size+3,s1.heap.objs.size,s1.heap.objs.size+1],_,_,H1,rfl,I2,turn_zip (PySem.W.ktu_apart s1.heap.objs.size a b la lb),⟨hz,hTI,⟨_,_,hTO⟩,h1,h2⟩,fun c hcm=>?_,q⟩;have e':c=s1.heap.objs.size+4\/c=s1.heap.objs.size+2\/c=s1.heap.objs.size+3\/c=s1.heap.objs.size\/c=s1.heap.objs.size+1:=by simpa using hcm
   have hle:s1.heap.objs.size<=c:=by
    rcases e' with z | z | z | z | z
    ·rw[z];exact Nat.le_add_right _ _
    ·rw[z];exact Nat.le_add_right _ _
    ·rw[z];exact Nat.le_add_right _ _
    ·rw[z];exact Nat.le_refl _
    ·rw[z];exact Nat.le_add_right _ _
   exact I1.fpOk hle (I1.hok.fresh hle)
end L2
namespace L2
open PySem PySem.Spec PyProof.Rows
def inClass(s:Stmt)(j:Nat):Stmt:=match s with
 | .ClassDef _ _ _ body _ _ _ _ _ _ _=>body.getD j (.Pass ⟨0,0,0,0⟩)
 | _=>.Pass ⟨0,0,0,0⟩
def defArgs(s:Stmt):Arguments:=match s with
 | .FunctionDef _ a _ _ _ _ _ _ _ _=>a
 | _=>{posonlyargs:=[],args:=[],vararg:=none,kwonlyargs:=[],kw_defaults:=[],kwarg:=none,defaults:=[]}
def defBody(s:Stmt):List Stmt:=match s with
 | .FunctionDef _ _ b _ _ _ _ _ _ _=>b
 | _=>[]
def defScope(s:Stmt):Scope:=match s with
 | .FunctionDef _ _ _ _ _ _ sc _ _ _=>sc
 | _=>{kind:=.function,names:=[],isGenerator:=false,isCoroutine:=false}
abbrev CX0:CXT:=fun _ _ _ _ _ _=>False
abbrev E0:XK:=fun _ _ _=>False
theorem pass0{X:Cx}:Passes CX0 X E0:=fun _ _ _ _ _ _ _ h=>h.elim
structure Fun(K:PySem.W.Frag)(x qual:Str)(st:Stmt)(f:Addr)(fd:FuncData):Prop where
 ex:∃ (oc:Value) (od:Option Addr) (kV doc pm:Value) (an:Option Addr) (cdv ct:Value) (osl:Array (Option Value)),
  fd=PySem.W.fnOf x qual (defArgs st) (defBody st) (defScope st) .none kV doc pm an cdv ct/\K.lookup f=some ⟨oc,od,.func fd,osl⟩/\PySem.W.codeIn K cdv qual=true
 kp:PySem.W.keepIn K (.ref f)=true
section
variable{P:Program}{w:World}{K:PySem.W.Frag}{mg:Str->Option Value}{base:Heap}
theorem Fun.ok{x qual:Str}{st:Stmt}{f:Addr}{fd:FuncData}{N ps:List Str}{k:Nat}{sp:Sp}(F:Fun K x qual st f fd)(S:FnScope N ps (defScope st))(len:∀ vs H Q E,sp vs H Q E->vs.length=ps.length)(hbody:∀ (cdv:Value) (A:Around) (outer:List Env) (s:Shared) (H:Hp) (vs:List V) (Q:VK) (E:XK),Room k (A.deeper (envOfC qual (defScope st) s.heap.objs.size f cdv))->sp vs H Q E->
   ∃ t,PSs (cxOf CX0 P w K mg base N qual (defScope st) f cdv A outer s H E).nox (defBody st) t/\t {nx:=fun _ H'=>Q .non H',rt:=Q} (start N vs) H):FnOk P w K mg base CX0 (k+1) f fd ps sp:=by
 obtain⟨oc,od,kV,doc,pm,an,cdv,ct,osl,rfl,lk,hcd⟩:=F.ex;refine fn_of lk hcd S len fun A outer s H vs Q E hr hsp=>?_;obtain⟨t,h,q⟩:=hbody cdv A outer s H vs Q E hr hsp;exact⟨t,h.nox,q⟩
theorem Fun.binds{x qual:Str}{st:Stmt}{f:Addr}{fd:FuncData}{ps:List Str}(F:Fun K x qual st f fd)(h:∀ (kV doc pm:Value) (an:Option Addr) (cdv ct:Value) (us:List Value),us.length=ps.length->bindArgs (PySem.W.fnOf x qual (defArgs st) (defBody st) (defScope st) .none kV doc pm an cdv ct) ⟨us,[]⟩=pure (ps.zip us)):Binds K fd ps []:=by
 obtain⟨oc,od,kV,doc,pm,an,cdv,ct,osl,rfl,lk,hcd⟩:=F.ex;exact .all (h kV doc pm an cdv ct)
theorem fun_mk{x qual:Str}{st:Stmt}{f:Addr}{oc:Value}{od an:Option Addr}{osl:Array (Option Value)}{kV doc pm cdv ct:Value}(l:K.lookup f=some ⟨oc,od,.func (PySem.W.fnOf x qual (defArgs st) (defBody st) (defScope st) .none kV doc pm an cdv ct),osl⟩)(c:PySem.W.codeIn K cdv qual=true)(k:PySem.W.keepIn K (.ref f)=true):Fun K x qual st f (PySem.W.fnOf x qual (defArgs st) (defBody st) (defScope st) .none kV doc pm an cdv ct):=⟨⟨oc,od,kV,doc,pm,an,cdv,ct,osl,rfl,l,c⟩,k⟩
end
theorem hu_of{A:Around}{k:Nat}(hr:Room k A):A.units+1<cLine:=Nat.lt_of_le_of_lt (Nat.add_le_add_left (by decide:1<=64) _) hr.units
theorem small1000{n:Nat}(h:n<=1000):n<sizeLine:=Nat.lt_of_le_of_lt h (by decide)
section
variable{X:Cx}
theorem pv(i:Nat){x:Str}{pos:Pos}(hN:X.N[i]?=some x:=by rfl)(hv:Vis X.env.scope x:=by first | exact Or.inl rfl | exact Or.inr (.inl rfl) | exact Or.inr (.inr rfl))(hd:(x==("__debug__":Str))=false:=by decide)(hcd:(x==("__classdict__":Str))=false:=by decide):PE X (.Name x pos) (tVar i):=pe_var hN hv hd hcd
end
theorem iteF{A B:Prop}(h:B):if false=true then A else B:=by
 rw[if_neg Bool.false_ne_true];exact h
theorem iteT{A B:Prop}(h:A):if true=true then A else B:=by
 rw[if_pos rfl];exact h
theorem ite2{c A B:Prop}[Decidable c](h1:c->A)(h2:¬c->B):if c then A else B:=by
 by_cases h:c
 ·rw[if_pos h];exact h1 h
 ·rw[if_neg h];exact h2 h
def Same(H H':Hp):Prop:=∀ b o,H b=some o->H' b=some o
theorem Same.refl(H:Hp):Same H H:=fun _ _ h=>h
theorem Same.trans{H H1 H2:Hp}(a:Same H H1)(b:Same H1 H2):Same H H2:=fun c o h=>b c o (a c o h)
theorem Same.free{H H':Hp}(e:Same H H'){l:Addr}(h:H' l=Option.none):H l=Option.none:=by
 cases q:H l with
 | none=>rfl
 | some o=>
  rw[e l o q] at h;cases h
theorem Same.seq{K:PySem.W.Frag}{H H':Hp}{a:Addr}{xs:List V}(e:Same H H')(h:SqL K H a xs):SqL K H' a xs:=by
 rcases h with (h | ⟨o,h⟩) | h
 ·exact .inl (.inl (e _ _ h))
 ·exact .inl (.inr ⟨o,e _ _ h⟩)
 ·exact .inr h
theorem at_of{xs:List V}{z:Int}{j:Nat}{v:V}(e:z=(j:Int))(h:xs[j]?=some v):atI xs z=some v:=by
 rw[e];exact atI_nat h
end L2
end
section
section
set_option maxRecDepth 100000
set_option maxHeartbeats 2000000
namespace L2
open PySem PySem.Spec PyProof.Rows
open PySem.W (WData Codec OpenSpec Well WellAll ReadsW ReadsAllW)
mutual
inductive Dw(K:PySem.W.Frag)(H:Hp):V->WData->Prop
 | non:Dw K H .non .none
 | bl (b:Bool):Dw K H (.bl b) (.bool b)
 | int (i:Int):Dw K H (.int i) (.int i)
 | str (x:Str):Dw K H (.str x) (.str x)
 | byt (b:Array UInt8):Dw K H (.byt b) (.bytes b.toList)
 | lst {a:Addr} {xs:List V} {ds:List WData}:SqL K H a xs->DwAll K H xs ds->Dw K H (.ref a) (.list ds)
 | tup {a:Addr} {xs:List V} {ds:List WData}:SqT K H a xs->DwAll K H xs ds->Dw K H (.ref a) (.tuple ds)
inductive DwAll(K:PySem.W.Frag)(H:Hp):List V->List WData->Prop
 | nil:DwAll K H [] []
 | cons {v:V} {vs:List V} {d:WData} {ds:List WData}:Dw K H v d->DwAll K H vs ds->DwAll K H (v::vs) (d::ds)
end
theorem dw_ints{K:PySem.W.Frag}{H:Hp}:∀ ns:List Int,DwAll K H (ns.map V.int) (ns.map WData.int)
 | []=>.nil
 | n::r=>.cons (.int n) (dw_ints r)
theorem ints_dw{K:PySem.W.Frag}{H:Hp}:∀ (ns:List Int) (xs:List V),DwAll K H xs (ns.map WData.int)->xs=ns.map V.int
 | [],xs,h=>by
  cases h;rfl
 | n::r,xs,h=>by
  cases h with
  | cons h1 h2=>
   cases h1;rw[ints_dw r _ h2]<;>rfl
section
variable{P:Program}{w:World}{K:PySem.W.Frag}{H:Hp}{h:Heap}{R:PySem.W.WRecords}{cl:Str->Option Addr}
theorem sqL_at{a:Addr}{xs:List V}(hok:HOk P w H h)(KX:K.In h)(q:SqL K H a xs):∃ (its:List Value) (o:Obj) (n:Nat),Vals xs its/\h.get? a=some o/\o.cls=.type "list"/\o.data=.seq its.toArray n:=by
 rcases q with q | ⟨o,its,n,e,hc,_,hd,_,hv⟩
 ·obtain⟨_,its,n,hv,e⟩:=(show ObjOk P w H h a (.lst xs) from q.ok hok);exact⟨its,_,n,hv,e,rfl,rfl⟩
 ·exact⟨its.toList,o,n,hv,KX _ _ e,hc,by simp[hd]⟩
theorem sqT_at{a:Addr}{xs:List V}(hok:HOk P w H h)(KX:K.In h)(q:SqT K H a xs):∃ (its:List Value) (o:Obj) (n:Nat),Vals xs its/\h.get? a=some o/\o.cls=.type "tuple"/\o.data=.seq its.toArray n:=by
 rcases q with q | ⟨o,its,n,e,hc,hd,_,hv⟩
 ·obtain⟨_,its,hv,o,e,hc,n,hd⟩:=(show ObjOk P w H h a (.tup xs) from q.ok hok);exact⟨its,o,n,hv,e,hc,hd⟩
 ·exact⟨its.toList,o,n,hv,KX _ _ e,hc,by simp[hd]⟩
mutual
theorem Dw.reads(hok:HOk P w H h)(KX:K.In h):∀ (d:WData) (v:V) (u:Value),Dw K H v d->RelV v u->∃ as,ReadsW R cl h u d as
 | .none,_,_,x,r=>by
  cases x;cases r;exact⟨_,ReadsW.none⟩
 | .bool b,_,_,x,r=>by
  cases x;cases r;exact⟨_,ReadsW.bool b⟩
 | .int i,_,_,x,r=>by
  cases x;obtain⟨t,rfl⟩:=r;exact⟨_,ReadsW.int i t⟩
 | .str s,_,_,x,r=>by
  cases x;obtain⟨t,rfl⟩:=r;exact⟨_,ReadsW.str s t⟩
 | .bytes b,_,_,x,r=>by
  cases x;obtain⟨t,rfl⟩:=r;exact⟨_,ReadsW.bytes _ t⟩
 | .list ds,_,_,x,r=>by
  cases x with
  | lst hs ha=>
   cases r;obtain⟨its,o,n,rv,ho,hc,hd⟩:=sqL_at hok KX hs;obtain⟨as,hr⟩:=Dw.readsAll hok KX ds _ its ha rv;exact⟨_,ReadsW.list ho hc hd hr⟩
 | .tuple ds,_,_,x,r=>by
  cases x with
  | tup hs ha=>
   cases r;obtain⟨its,o,n,rv,ho,hc,hd⟩:=sqT_at hok KX hs;obtain⟨as,hr⟩:=Dw.readsAll hok KX ds _ its ha rv;exact⟨_,ReadsW.tuple ho hc hd hr⟩
 | .float _,_,_,x,_=>by cases x
 | .dict _,_,_,x,_=>by cases x
 | .bytearray _,_,_,x,_=>by cases x
 | .set _,_,_,x,_=>by cases x
 | .frozenset _,_,_,x,_=>by cases x
 | .obj _ _,_,_,x,_=>by cases x
theorem Dw.readsAll(hok:HOk P w H h)(KX:K.In h):∀ (ds:List WData) (vs:List V) (us:List Value),DwAll K H vs ds->Vals vs us->∃ as,ReadsAllW R cl h us ds as
 | [],_,_,x,r=>by
  cases x;cases r;exact⟨_,ReadsAllW.nil⟩
 | d::ds,_,_,x,r=>by
  cases x with
  | cons h1 h2=>
   cases r with
   | cons r1 r2=>
    obtain⟨as,q1⟩:=Dw.reads hok KX d _ _ h1 r1;obtain⟨bs,q2⟩:=Dw.readsAll hok KX ds _ _ h2 r2;exact⟨_,ReadsAllW.cons q1 q2⟩
end
end
mutual
def plW:WData->Bool
 | .none=>true
 | .bool _=>true
 | .int _=>true
 | .str _=>true
 | .bytes _=>true
 | .list xs=>plWs xs
 | .tuple xs=>plWs xs
 | _=>false
def plWs:List WData->Bool
 | []=>true
 | x::r=>plW x&&plWs r
end
theorem plWs_map{α:Type}{f:α->WData}(h:∀ a,plW (f a)=true):∀ l:List α,plWs (l.map f)=true
 | []=>rfl
 | x::r=>by
  show(plW (f x)&&plWs (r.map f))=true;rw[h x,plWs_map h r]<;>rfl
theorem pl_enc:∀ (c:Codec) (a:c.denote),plW (c.enc a)=true
 | .unit,_=>rfl
 | .bool,_=>rfl
 | .int _ _,_=>rfl
 | .nat _ _,_=>rfl
 | .u8,_=>rfl
 | .bytes _ _,_=>rfl
 | .text _ _ _ _,_=>rfl
 | .list _ _ c,a=>plWs_map (fun x=>pl_enc c x) a
 | .pair c d,a=>by
  show(plW (c.enc a.1)&&(plW (d.enc a.2)&&true))=true;rw[pl_enc c a.1,pl_enc d a.2]<;>rfl
 | .triple c d e,a=>by
  show(plW (c.enc a.1)&&(plW (d.enc a.2.1)&&(plW (e.enc a.2.2)&&true)))=true;rw[pl_enc c a.1,pl_enc d a.2.1,pl_enc e a.2.2]<;>rfl
 | .option c,none=>rfl
 | .option c,some x=>pl_enc c x
theorem pl_encAll:∀ (cs:List Codec) (a:Codec.denoteAll cs),plWs (Codec.encAll cs a)=true
 | [],_=>rfl
 | c::cs,a=>by
  show(plW (c.enc a.1)&&plWs (Codec.encAll cs a.2))=true;rw[pl_enc c a.1,pl_encAll cs a.2]<;>rfl
theorem weight_mem:∀ {xs:List WData} {d:WData},d∈xs->d.weight<=WData.weightAll xs
 | [],d,h=>absurd h (by simp)
 | x::r,d,h=>by
  show d.weight<=x.weight+1+WData.weightAll r;rcases List.mem_cons.mp h with e | m
  ·rw[e];omega
  ·have z:=weight_mem m;omega
def toV:Value->V
 | .none=>.non
 | .bool b=>.bl b
 | .int i _=>.int i
 | .str x _=>.str x
 | .bytes b _=>.byt b
 | .ref a=>.ref a
 | _=>.non
def OkU(A:List Addr):Value->Prop
 | .none=>True
 | .bool _=>True
 | .int _ _=>True
 | .str _ _=>True
 | .bytes _ _=>True
 | .ref a=>a∈A
 | _=>False
theorem OkU.mono{A B:List Addr}(h:∀ a∈A,a∈B):∀ {u:Value},OkU A u->OkU B u:=fun {u} x=>by
 cases u with
 | ref a=>exact h a x
 | none=>trivial
 | bool b=>trivial
 | int i t=>trivial
 | str s t=>trivial
 | bytes b t=>trivial
 | _=>exact False.elim x
theorem relV_toV{A:List Addr}{u:Value}(x:OkU A u):RelV (toV u) u:=by
 cases u with
 | ref a=>rfl
 | none=>rfl
 | bool b=>rfl
 | int i t=>exact⟨t,rfl⟩
 | str s t=>exact⟨t,rfl⟩
 | bytes b t=>exact⟨t,rfl⟩
 | _=>exact False.elim x
theorem vals_toV{A:List Addr}:∀ {vs:List Value},(∀ u∈vs,OkU A u)->Vals (vs.map toV) vs
 | [],_=>.nil
 | u::r,h=>.cons (relV_toV (h u (List.mem_cons_self ..))) (vals_toV fun x hx=>h x (List.mem_cons_of_mem _ hx))
def ArgOb(h:Heap)(A:List Addr)(a:Addr):Prop:=∃ vs:List Value,vs.length<=sizeLine/\(∀ u∈vs,OkU A u)/\
 (h.get? a=some {cls:=.type "list",data:=.seq vs.toArray}\/h.get? a=some {cls:=.type "tuple",data:=.seq vs.toArray})
theorem ArgOb.mono{h:Heap}{A B:List Addr}{a:Addr}(k:∀ a∈A,a∈B)(x:ArgOb h A a):ArgOb h B a:=by
 obtain⟨vs,h1,h2,h3⟩:=x;exact⟨vs,h1,fun u hu=>(h2 u hu).mono k,h3⟩
theorem wellAll_len{P:Params}{h:Heap}:∀ {vs:List Value} {ds:List WData},WellAll P h vs ds->vs.length=ds.length
 | _,_,.nil=>rfl
 | _,_,.cons _ b=>by
  show _+1=_+1;rw[wellAll_len b]
theorem well_list{P:Params}{h:Heap}{v:Value}{ds:List WData}(x:Well P h v (.list ds)):∃ (a:Addr) (vs:List Value),v=.ref a/\h.get? a=some {cls:=.type "list",data:=.seq vs.toArray}/\WellAll P h vs ds:=by
 cases x with
 | list ho hall=>exact⟨_,_,rfl,ho,hall⟩
theorem well_tuple{P:Params}{h:Heap}{v:Value}{ds:List WData}(x:Well P h v (.tuple ds)):∃ (a:Addr) (vs:List Value),v=.ref a/\h.get? a=some {cls:=.type "tuple",data:=.seq vs.toArray}/\WellAll P h vs ds:=by
 cases x with
 | tuple ho hall=>exact⟨_,_,rfl,ho,hall⟩
theorem well_cons{P:Params}{h:Heap}{us:List Value}{d:WData}{ds:List WData}(x:WellAll P h us (d::ds)):∃ (v:Value) (vs:List Value),us=v::vs/\Well P h v d/\WellAll P h vs ds:=by
 cases x with
 | cons a b=>exact⟨_,_,rfl,a,b⟩
theorem line_of{n:Nat}(h:n<=1048576):n<=sizeLine:=Nat.le_trans h (by decide)
section
variable{P:Params}{h:Heap}
mutual
theorem area_one:∀ (d:WData) (v:Value),Well P h v d->plW d=true->d.weight<=1048576->∃ A:List Addr,OkU A v/\∀ a∈A,ArgOb h A a
 | .none,_,x,_,_=>by
  cases x;exact⟨[],trivial,fun a m=>absurd m (by simp)⟩
 | .bool b,_,x,_,_=>by
  cases x;exact⟨[],trivial,fun a m=>absurd m (by simp)⟩
 | .int i,_,x,_,_=>by
  cases x;exact⟨[],trivial,fun a m=>absurd m (by simp)⟩
 | .str s,_,x,_,_=>by
  cases x;exact⟨[],trivial,fun a m=>absurd m (by simp)⟩
 | .bytes b,_,x,_,_=>by
  cases x;exact⟨[],trivial,fun a m=>absurd m (by simp)⟩
 | .list ds,_,x,p,z=>by
  obtain⟨a,vs,rfl,ho,hall⟩:=well_list x;have z2:WData.weightAll ds<=1048576:=z;obtain⟨A,h1,h2⟩:=area_all ds _ hall p fun d hd=>Nat.le_trans (weight_mem hd) z2;have k:∀ b∈A,b∈a::A:=fun b hb=>List.mem_cons_of_mem _ hb;refine⟨a::A,List.mem_cons_self ..,fun b hb=>?_⟩;rcases List.mem_cons.mp hb with e | m
  ·rw[e];exact⟨vs,line_of (by rw[wellAll_len hall];exact Nat.le_trans (PySem.W.length_le_weightAllW ds) z2),fun u hu=>(h1 u hu).mono k,.inl ho⟩
  ·exact(h2 b m).mono k
 | .tuple ds,_,x,p,z=>by
  obtain⟨a,vs,rfl,ho,hall⟩:=well_tuple x;have z2:WData.weightAll ds<=1048576:=z;obtain⟨A,h1,h2⟩:=area_all ds _ hall p fun d hd=>Nat.le_trans (weight_mem hd) z2;have k:∀ b∈A,b∈a::A:=fun b hb=>List.mem_cons_of_mem _ hb;refine⟨a::A,List.mem_cons_self ..,fun b hb=>?_⟩;rcases List.mem_cons.mp hb with e | m
  ·rw[e];exact⟨vs,line_of (by rw[wellAll_len hall];exact Nat.le_trans (PySem.W.length_le_weightAllW ds) z2),fun u hu=>(h1 u hu).mono k,.inr ho⟩
  ·exact(h2 b m).mono k
 | .float _,_,_,p,_=>Bool.noConfusion (show false=true from p)
 | .dict _,_,_,p,_=>Bool.noConfusion (show false=true from p)
 | .bytearray _,_,_,p,_=>Bool.noConfusion (show false=true from p)
 | .set _,_,_,p,_=>Bool.noConfusion (show false=true from p)
 | .frozenset _,_,_,p,_=>Bool.noConfusion (show false=true from p)
 | .obj _ _,_,_,p,_=>Bool.noConfusion (show false=true from p)
theorem area_all:∀ (ds:List WData) (vs:List Value),WellAll P h vs ds->plWs ds=true->(∀ d∈ds,d.weight<=1048576)->∃ A:List Addr,(∀ u∈vs,OkU A u)/\∀ a∈A,ArgOb h A a
 | [],_,x,_,_=>by
  cases x;exact⟨[],fun u m=>absurd m (by simp),fun a m=>absurd m (by simp)⟩
 | d::ds,_,x,p,z=>by
  obtain⟨v,vs,rfl,x1,x2⟩:=well_cons x;have q:plW d=true/\plWs ds=true:=Bool.and_eq_true_iff.mp p;obtain⟨A,a1,a2⟩:=area_one d v x1 q.1 (z d (List.mem_cons_self ..));obtain⟨B,b1,b2⟩:=area_all ds vs x2 q.2 fun e he=>z e (List.mem_cons_of_mem _ he);have kA:∀ b∈A,b∈A++B:=fun b hb=>List.mem_append.mpr (.inl hb);have kB:∀ b∈B,b∈A++B:=fun b hb=>List.mem_append.mpr (.inr hb);refine⟨A++B,fun u hu=>?_,fun b hb=>?_⟩
  ·rcases List.mem_cons.mp hu with e | m
   ·rw[e];exact a1.mono kA
   ·exact(b1 u m).mono kB
  ·rcases List.mem_append.mp hb with m | m
   ·exact(a2 b m).mono kA
   ·exact(b2 b m).mono kB
end
end
def hoOf(o:Obj):Option HO:=match o.data with
 | .seq vs _=>if (o.cls==Value.type "list")=true then some (.frz o (.lst (vs.toList.map toV))) else some (.frz o (.tup (vs.toList.map toV)))
 | _=>none
def argH(K:PySem.W.Frag)(h:Heap)(A:List Addr):Hp:=fun b=>if b∈A then (if (K.lookup b).isNone=true then (h.get? b).bind hoOf else none) else none
def OnlyF(H:Hp):Prop:=∀ b,H b=none\/∃ o u,H b=some (.frz o u)
theorem hoOf_lst(vs:List Value):hoOf {cls:=.type "list",data:=.seq vs.toArray}=some (.frz {cls:=.type "list",data:=.seq vs.toArray} (.lst (vs.map toV))):=by
 show(if (Value.type "list"==Value.type "list")=true then some (HO.frz {cls:=.type "list",data:=.seq vs.toArray} (.lst (vs.toArray.toList.map toV))) else some (HO.frz {cls:=.type "list",data:=.seq vs.toArray} (.tup (vs.toArray.toList.map toV))))=_;rw[if_pos (beq_self_eq_true _)]
theorem hoOf_tup(vs:List Value):hoOf {cls:=.type "tuple",data:=.seq vs.toArray}=some (.frz {cls:=.type "tuple",data:=.seq vs.toArray} (.tup (vs.map toV))):=by
 show(if (Value.type "tuple"==Value.type "list")=true then some (HO.frz {cls:=.type "tuple",data:=.seq vs.toArray} (.lst (vs.toArray.toList.map toV))) else some (HO.frz {cls:=.type "tuple",data:=.seq vs.toArray} (.tup (vs.toArray.toList.map toV))))=_;rw[if_neg (by decide)]
section
variable{P:Program}{w:World}{K:PySem.W.Frag}{h:Heap}{A:List Addr}
theorem argH_at{b:Addr}{o:Obj}(hb:b∈A)(hk:K.lookup b=none)(e:h.get? b=some o):argH K h A b=hoOf o:=by
 unfold argH;rw[if_pos hb,hk,if_pos (show(none:Option Obj).isNone=true from rfl),e]<;>rfl
theorem of_argH{b:Addr}{u:HO}(q:argH K h A b=some u):b∈A/\K.lookup b=none:=by
 unfold argH at q;by_cases hb:b∈A
 ·rw[if_pos hb] at q;cases hk:K.lookup b with
  | none=>exact⟨hb,rfl⟩
  | some o=>
   rw[hk,if_neg (by simp)] at q;cases q
 ·rw[if_neg hb] at q;cases q
theorem argH_is(ar:∀ a∈A,ArgOb h A a){b:Addr}{u:HO}(q:argH K h A b=some u):K.lookup b=none/\∃ vs:List Value,vs.length<=sizeLine/\(∀ u∈vs,OkU A u)/\
    ((h.get? b=some {cls:=.type "list",data:=.seq vs.toArray}/\u=.frz {cls:=.type "list",data:=.seq vs.toArray} (.lst (vs.map toV)))\/
     (h.get? b=some {cls:=.type "tuple",data:=.seq vs.toArray}/\u=.frz {cls:=.type "tuple",data:=.seq vs.toArray} (.tup (vs.map toV)))):=by
  obtain⟨hb,hk⟩:=of_argH q;obtain⟨vs,h1,h2,h3⟩:=ar b hb;refine⟨hk,vs,h1,h2,?_⟩;rcases h3 with e | e
  · rw[argH_at hb hk e,hoOf_lst] at q
    exact .inl ⟨e,(Option.some.inj q).symm⟩
  · rw[argH_at hb hk e,hoOf_tup] at q
    exact .inr ⟨e,(Option.some.inj q).symm⟩
theorem argH_only(ar:∀ a∈A,ArgOb h A a):OnlyF (argH K h A):=fun b=>by
 cases q:argH K h A b with
 | none=>exact .inl rfl
 | some u=>
  obtain⟨_,vs,_,_,⟨_,e⟩ | ⟨_,e⟩⟩:=argH_is ar q
  ·exact .inr ⟨_,_,by rw[e]⟩
  ·exact .inr ⟨_,_,by rw[e]⟩
theorem argH_ok(ar:∀ a∈A,ArgOb h A a):HOk P w (argH K h A) h:=fun b u q=>by
 obtain⟨_,vs,h1,h2,⟨e,rfl⟩ | ⟨e,rfl⟩⟩:=argH_is ar q
 ·exact⟨e,by rw[lmp];exact h1,vs,_,vals_toV h2,e⟩
 ·exact⟨e,by rw[lmp];exact h1,vs,vals_toV h2,_,e,rfl,_,rfl⟩
theorem seq_inj{c c':Value}{vs us:List Value}(e:(some {cls:=c,data:=.seq vs.toArray}:Option Obj)=some {cls:=c',data:=.seq us.toArray}):c=c'/\vs=us:=by
 have e1:=Option.some.inj e;have e2:c=c':=congrArg Obj.cls e1;have e3:Data.seq vs.toArray=Data.seq us.toArray:=congrArg Obj.data e1;injection e3 with e4;refine⟨e2,?_⟩;have e5:=congrArg Array.toList e4;simpa using e5
theorem argL(KX:K.In h)(ar:∀ a∈A,ArgOb h A a){a:Addr}{vs:List Value}(ha:a∈A)(e:h.get? a=some {cls:=.type "list",data:=.seq vs.toArray}):(∀ u∈vs,OkU A u)/\SqL K (argH K h A) a (vs.map toV):=by
 obtain⟨us,h1,h2,h3⟩:=ar a ha;have hu:us=vs:=by
  rcases h3 with q | q
  ·rw[e] at q;exact(seq_inj q).2.symm
  ·rw[e] at q;exact absurd (Value.type.inj (seq_inj q).1) (by decide)
 subst hu;refine⟨h2,?_⟩;cases hk:K.lookup a with
 | none=>exact .inl (.inr ⟨_,by rw[argH_at ha hk e,hoOf_lst]⟩)
 | some o=>
  have e2:=KX a o hk;rw[e] at e2;obtain rfl:=Option.some.inj e2;exact .inr ⟨_,us.toArray,_,hk,rfl,rfl,rfl,by rw[List.size_toArray];exact h1,by simpa using vals_toV h2⟩
theorem argT(KX:K.In h)(ar:∀ a∈A,ArgOb h A a){a:Addr}{vs:List Value}(ha:a∈A)(e:h.get? a=some {cls:=.type "tuple",data:=.seq vs.toArray}):(∀ u∈vs,OkU A u)/\SqT K (argH K h A) a (vs.map toV):=by
 obtain⟨us,h1,h2,h3⟩:=ar a ha;have hu:us=vs:=by
  rcases h3 with q | q
  ·rw[e] at q;exact absurd (Value.type.inj (seq_inj q).1) (by decide)
  ·rw[e] at q;exact(seq_inj q).2.symm
 subst hu;refine⟨h2,?_⟩;cases hk:K.lookup a with
 | none=>exact .inl (.inr ⟨_,by rw[argH_at ha hk e,hoOf_tup]⟩)
 | some o=>
  have e2:=KX a o hk;rw[e] at e2;obtain rfl:=Option.some.inj e2;exact .inr ⟨_,us.toArray,_,hk,rfl,rfl,by rw[List.size_toArray];exact h1,by simpa using vals_toV h2⟩
mutual
theorem dw_one{Pm:Params}(KX:K.In h)(ar:∀ a∈A,ArgOb h A a):∀ (d:WData) (v:Value),Well Pm h v d->plW d=true->OkU A v->Dw K (argH K h A) (toV v) d
 | .none,_,x,_,_=>by
  cases x;exact .non
 | .bool b,_,x,_,_=>by
  cases x;exact .bl b
 | .int i,_,x,_,_=>by
  cases x;exact .int i
 | .str s,_,x,_,_=>by
  cases x;exact .str s
 | .bytes b,_,x,_,_=>by
  cases x;have z:=Dw.byt (K:=K) (H:=argH K h A) b.toArray;exact z
 | .list ds,_,x,p,hu=>by
  obtain⟨a,vs,rfl,ho,hall⟩:=well_list x;obtain⟨h2,hs⟩:=argL KX ar hu ho;exact .lst hs (dw_all KX ar ds _ hall p h2)
 | .tuple ds,_,x,p,hu=>by
  obtain⟨a,vs,rfl,ho,hall⟩:=well_tuple x;obtain⟨h2,hs⟩:=argT KX ar hu ho;exact .tup hs (dw_all KX ar ds _ hall p h2)
 | .float _,_,_,p,_=>Bool.noConfusion (show false=true from p)
 | .dict _,_,_,p,_=>Bool.noConfusion (show false=true from p)
 | .bytearray _,_,_,p,_=>Bool.noConfusion (show false=true from p)
 | .set _,_,_,p,_=>Bool.noConfusion (show false=true from p)
 | .frozenset _,_,_,p,_=>Bool.noConfusion (show false=true from p)
 | .obj _ _,_,_,p,_=>Bool.noConfusion (show false=true from p)
theorem dw_all{Pm:Params}(KX:K.In h)(ar:∀ a∈A,ArgOb h A a):∀ (ds:List WData) (vs:List Value),WellAll Pm h vs ds->plWs ds=true->(∀ u∈vs,OkU A u)->DwAll K (argH K h A) (vs.map toV) ds
 | [],_,x,_,_=>by
  cases x;exact .nil
 | d::ds,_,x,p,hu=>by
  obtain⟨v,vs,rfl,x1,x2⟩:=well_cons x;have q:plW d=true/\plWs ds=true:=Bool.and_eq_true_iff.mp p;exact .cons (dw_one KX ar d v x1 q.1 (hu _ (List.mem_cons_self ..))) (dw_all KX ar ds vs x2 q.2 fun u m=>hu u (List.mem_cons_of_mem _ m))
end
end
theorem spec_call{P:Program}{w:World}{K:PySem.W.Frag}{mg mb:Str->Option Value}{CX:CXT}{k:Nat}{fa:Addr}{fd:FuncData}{ps:List Str}{sp:Sp}{s₁:Shared}{vals:List Value}{ds:List WData}{R:PySem.W.WRecords}{cl:Str->Option Addr}{d0:WData}(KX:K.In s₁.heap)(hns:s₁.heap.Ns mainGlobals mg)(hb:s₁.heap.Ns builtinsNs mb)(hbb:∀ x:Str,x≠"__name__"->mb x=bootBuiltins x)(hlim:s₁.heap.NoLimit)(hg:s₁.gens=#[])(hwl:WellAll w.params s₁.heap vals ds)(hpl:plWs ds=true)(hwt:∀ d∈ds,d.weight<=1048576)(hr:Room k callerA)(F:∀ base:Heap,K.In base->base.Ns mainGlobals mg->FnOk P w K mg base CX k fa fd ps sp)(hbind:∀ (s:Shared) (us:List Value),us.length=ps.length->BindsTo s fd ⟨us,[]⟩ (ps.zip us))(hlen:ds.length=ps.length)(hsp:∀ (H:Hp) (xs:List V),OnlyF H->DwAll K H xs ds->sp xs H (fun v H'=>Dw K H' v d0) fun _ _ _=>False)(hCX:∀ H e s',CX [] H s₁ (fun _ _ _=>False) e s'->False):
  codeAny (model P w) callerA (.call (.ref fa) ⟨vals,[]⟩) (fun r s'=>∃ u as,r=.ok (.ret u)/\ReadsW R cl s'.heap u d0 as/\OldK s₁.heap s'.heap/\s'.os=s₁.os/\AllBare s'.gens) s₁:=by
 obtain⟨A,ho,ar⟩:=area_all ds vals hwl hpl hwt;have hO:OnlyF (argH K s₁.heap A):=argH_only ar;have hok:HOk P w (argH K s₁.heap A) s₁.heap:=argH_ok ar;have hS:=dw_all KX ar ds vals hwl hpl ho;have hV:=vals_toV ho;have hK:∀ b u,argH K s₁.heap A b=some u->K.lookup b=none:=fun b u q=>(argH_is ar q).1;have noA:∀ {b:Addr} {o:Obj} {es:Array DictEntry} {ep:Nat},s₁.heap.get? b=some o->o.data=.dict es ep->argH K s₁.heap A b=none:=fun {b o es ep} e d=>by
  cases q:argH K s₁.heap A b with
  | none=>rfl
  | some u=>
   obtain⟨_,vs,_,_,⟨e2,_⟩ | ⟨e2,_⟩⟩:=argH_is ar q
   ·rw[e2] at e;cases e;have d':Data.seq vs.toArray _=Data.dict es ep:=d;cases d'
   ·rw[e2] at e;cases e;have d':Data.seq vs.toArray _=Data.dict es ep:=d;cases d'
 generalize argH K s₁.heap A=H at hO hok hS hK noA;have base_of:∀ {b:Addr} {o:Obj},s₁.heap.get? b=some o->H b=none->(hidT s₁.heap H).get? b=some o:=fun e n=>hidT_get e n;have nsK:∀ {b:Addr} {m:Str->Option Value},s₁.heap.Ns b m->(hidT s₁.heap H).Ns b m:=fun {b m} ⟨o,es,ep,e,d,r⟩=>⟨o,es,ep,base_of e (noA e d),d,r⟩;have nK:∀ b o,K.lookup b=some o->H b=none:=fun b o e=>by
  cases q:H b with
  | none=>rfl
  | some u=>
   rw[hK b u q] at e;cases e
 have hKb:K.In (hidT s₁.heap H):=fun b o e=>base_of (KX b o e) (nK b o e);have hM:Mod K mg (hidT s₁.heap H):=⟨hKb,nsK hns,⟨mb,nsK hb,hbb⟩,let ⟨mc,h1,h2⟩:=hlim;⟨mc,nsK h1,h2⟩⟩;have e0:Env0 P w K mg (hidT s₁.heap H) callerA [] s₁ H:=⟨rfl,hM,fun b o e=>of_hidT e,Nat.le_of_eq (hidT_size _ _),trivial,fun b hb=>absurd (show b∈([]:List Addr) from hb) (by simp),hok,.of_eq hg⟩;have hl:vals.length=ps.length:=by rw[wellAll_len hwl];exact hlen
 refine codeAny_mono ((F _ hKb (nsK hns)).run callerA [] s₁ H ⟨vals,[]⟩ vals (vals.map toV) _ _ hr e0 (hbind s₁ vals hl) hV (hsp H _ hO hS)) fun r s' x=>?_;cases r with
 | error e=>exact(hCX H e s' x).elim
 | ok fl=>
  cases fl with
  | next=>exact False.elim x
  | brk=>exact False.elim x
  | cont=>exact False.elim x
  | ret u=>
   obtain⟨v,H',os,bare,un,hok',r',q⟩:=x;have kept:∀ b o,s₁.heap.get? b=some o->s'.heap.get? b=some o:=fun b o e=>by
    cases q2:H b with
    | none=>exact un.keep b o e q2 (by intro z;exact absurd (show b∈([]:List Addr) from z) (by simp)) (by simp)
    | some u2=>
     rcases hO b with z | ⟨ob,u3,z⟩
     ·rw[q2] at z;cases z
     ·have z2:=un.frzs b ob _ z;obtain⟨e1,_⟩:=hok b _ z;obtain⟨e2,_⟩:=hok' b _ z2;rw[e] at e1;cases e1;exact e2
   have KX':K.In s'.heap:=fun b o e=>kept b o (KX b o e);obtain⟨as,hrd⟩:=Dw.reads (R:=R) (cl:=cl) hok' KX' d0 v u q r';exact⟨u,as,rfl,hrd,OldK.of_keep kept,os,bare⟩
theorem layable_weight{ds:List WData}(h:WData.layableAll ds=true):∀ d∈ds,d.weight<=1048576:=fun d hd=>
 (PySem.W.layableW_iff.mp (List.all_eq_true.mp h d hd)).2.2
theorem encAll_len:∀ (cs:List Codec) (a:Codec.denoteAll cs),(Codec.encAll cs a).length=cs.length
 | [],_=>rfl
 | c::cs,a=>by
  show(Codec.encAll cs a.2).length+1=cs.length+1;rw[encAll_len cs a.2]
theorem walk_spec{r:OpenSpec}{k:Nat}{q:Program}{loose:List Str}{XP:(Str->Option Value)->Heap->Prop}{YP:World->Heap->Prop}{d:DefRec}{K:Params->PySem.W.Frag}{CX:World->CXT}{ps:List Str}{sp:World->Sp}(hwell:r.wellSaid=true)(hdf:d.params.defaults=[])(hlen:r.args.length=ps.length)(hr:Room k callerA)(hY:∀ (w:World) (h:Heap),YP w h->(K w.params).In h)(F:∀ (w:World) (mg:Str->Option Value) (fa:Addr) (h:Heap),YP w h->(K w.params).In h->h.Ns mainGlobals mg->mg d.name=some (.ref fa)->
   ∃ fd:FuncData,(∀ (s:Shared) (us:List Value),us.length=ps.length->BindsTo s fd ⟨us,[]⟩ (ps.zip us))/\
    ∀ base:Heap,(K w.params).In base->base.Ns mainGlobals mg->FnOk r.prog w (K w.params) mg base (CX w) k fa fd ps (sp w))(hsp:∀ (w:World) (H:Hp) (xs:List V) (a:Codec.denoteAll r.args),OnlyF H->Codec.withinAll r.args a=true->Codec.app r.args r.asked a=true->DwAll (K w.params) H xs (Codec.encAll r.args a)->
   sp w xs H (fun v H'=>Dw (K w.params) H' v (r.ret.enc (Codec.app r.args r.f a))) fun _ _ _=>False)(hCX:∀ (w:World) (H:Hp) (s:Shared) (e:Value) (s':Shared),CX w [] H s (fun _ _ _=>False) e s'->False):
  PySem.W.WalkOS q loose XP YP r d [] (fun f vs=>PySem.call f vs):=by
 intro w s_0 s₁ mg mb G Y fa o pm cd doc dV kV ho hd hcd hD hmg hg args vals as hpre hlay hrd hwl hlo;obtain⟨a,e1,e2⟩:=PySem.W.os_pre_some hpre;obtain⟨e3,hwi⟩:=Codec.encAll_of_decAll r.args args a e1;subst e3;have KX:=hY w _ Y;obtain⟨fd,hb,hF⟩:=F w mg fa _ Y KX G.T.g hmg;refine PySem.W.enter_call (codeAny_mono (spec_call (R:=[]) (cl:=classAt s_0.heap) (d0:=r.ret.enc (Codec.app r.args r.f a)) KX G.T.g G.T.b G.T.builtins G.T.nolimit hg hwl (pl_encAll _ _) (layable_weight hlay) hr hF hb (by rw[encAll_len];exact hlen)
  (fun H xs hO hS=>hsp w H xs a hO hwi e2 hS) fun H e s'=>hCX w H s₁ e s') fun r' s' hq=>?_)
 obtain⟨u,as',rfl,h1,h2,h3,h4⟩:=hq;exact⟨.inl ⟨u,_,as',rfl,fun _=>rfl,h1,(OpenSpec.post_iff hwell hwi _ _).mpr rfl,fun z=>Bool.noConfusion (show false=true from z)⟩,h2,h3,h4⟩
theorem walk_specK{r:OpenSpec}{k:Nat}{q:Program}{loose:List Str}{XP:(Str->Option Value)->Heap->Prop}{YP:World->Heap->Prop}{d:DefRec}{K:Params->PySem.W.Frag}{CX:CXT}{ps:List Str}{sp:PySem.W.Frag->Sp}(hwell:r.wellSaid=true)(hdf:d.params.defaults=[])(hlen:r.args.length=ps.length)(hr:Room k callerA)(hY:∀ (w:World) (h:Heap),YP w h->(K w.params).In h)(F:∀ (w:World) (mg:Str->Option Value) (fa:Addr) (h:Heap),YP w h->(K w.params).In h->h.Ns mainGlobals mg->mg d.name=some (.ref fa)->
   ∃ fd:FuncData,(∀ (s:Shared) (us:List Value),us.length=ps.length->BindsTo s fd ⟨us,[]⟩ (ps.zip us))/\
    ∀ base:Heap,(K w.params).In base->base.Ns mainGlobals mg->FnOk r.prog w (K w.params) mg base CX k fa fd ps (sp (K w.params)))(hsp:∀ (K:PySem.W.Frag) (H:Hp) (xs:List V) (a:Codec.denoteAll r.args),OnlyF H->Codec.withinAll r.args a=true->Codec.app r.args r.asked a=true->DwAll K H xs (Codec.encAll r.args a)->
   sp K xs H (fun v H'=>Dw K H' v (r.ret.enc (Codec.app r.args r.f a))) fun _ _ _=>False)(hCX:∀ (H:Hp) (s:Shared) (e:Value) (s':Shared),CX [] H s (fun _ _ _=>False) e s'->False):
  PySem.W.WalkOS q loose XP YP r d [] (fun f vs=>PySem.call f vs):=
 walk_spec (K:=K) (CX:=fun _=>CX) (sp:=fun w=>sp (K w.params)) hwell hdf hlen hr hY F (fun w H xs a h1 h2 h3 h4=>hsp (K w.params) H xs a h1 h2 h3 h4) fun _ H s e s'=>hCX H s e s'
end L2
end
end
section
namespace SN
def sm:Nat->(Nat->Int)->Int
 | 0,_=>0
 | n+1,f=>sm n f+f n
theorem sm_congr{n:Nat}{f g:Nat->Int}(h:∀ i,i<n->f i=g i):sm n f=sm n g:=by
 induction n with
 | zero=>rfl
 | succ n ih=>simp only[sm];rw[ih (fun i hi=>h i (by omega)),h n (by omega)]
theorem sm_add(n:Nat)(f g:Nat->Int):sm n (fun i=>f i+g i)=sm n f+sm n g:=by
 induction n with
 | zero=>rfl
 | succ n ih=>simp only[sm];rw[ih];omega
theorem sm_sub(n:Nat)(f g:Nat->Int):sm n (fun i=>f i-g i)=sm n f-sm n g:=by
 induction n with
 | zero=>rfl
 | succ n ih=>simp only[sm];rw[ih];omega
theorem sm_mul(n:Nat)(a:Int)(f:Nat->Int):sm n (fun i=>a*f i)=a*sm n f:=by
 induction n with
 | zero=>simp[sm]
 | succ n ih=>simp only[sm];rw[ih,Int.mul_add]
theorem sm_mulr(n:Nat)(a:Int)(f:Nat->Int):sm n (fun i=>f i*a)=sm n f*a:=by
 induction n with
 | zero=>simp[sm]
 | succ n ih=>simp only[sm];rw[ih,Int.add_mul]
theorem sm_zero{n:Nat}{f:Nat->Int}(h:∀ i,i<n->f i=0):sm n f=0:=by
 induction n with
 | zero=>rfl
 | succ n ih=>simp only[sm];rw[ih (fun i hi=>h i (by omega)),h n (by omega)];rfl
theorem sm_one{n k:Nat}{f:Nat->Int}(hk:k<n)(h:∀ i,i<n->i≠k->f i=0):sm n f=f k:=by
 induction n with
 | zero=>omega
 | succ n ih=>
  simp only[sm];by_cases e:k=n
  ·subst e;rw[sm_zero (fun i hi=>h i (by omega) (by omega))];omega
  ·rw[ih (by omega) (fun i hi=>h i (by omega)),h n (by omega) (by omega)];omega
theorem sm_two{n k l:Nat}{f:Nat->Int}(hk:k<n)(hl:l<n)(hkl:k≠l)(h:∀ i,i<n->i≠k->i≠l->f i=0):sm n f=f k+f l:=by
 have e:sm n f=sm n (fun i=>(if i=k then f k else 0)+(if i=l then f l else 0)):=by
  refine sm_congr fun i hi=>?_;by_cases a:i=k
  ·subst a;simp[hkl]
  ·by_cases b:i=l
   ·subst b;simp[a]
   ·simp[a,b,h i hi a b]
 rw[e,sm_add,sm_one hk (by intro i _ hi;simp[hi]),sm_one hl (by intro i _ hi;simp[hi])];simp
theorem sm_comm(n m:Nat)(f:Nat->Nat->Int):
  sm n (fun i=>sm m (fun j=>f i j))=sm m (fun j=>sm n (fun i=>f i j)):=by
 induction n with
 | zero=>simp only[sm];rw[sm_zero (fun _ _=>rfl)]
 | succ n ih=>simp only[sm];rw[ih,<-sm_add]
theorem sm_nonneg{n:Nat}{f:Nat->Int}(h:∀ i,i<n->0<=f i):0<=sm n f:=by
 induction n with
 | zero=>exact Int.le_refl 0
 | succ n ih=>simp only[sm];have:=ih (fun i hi=>h i (by omega));have:=h n (by omega);omega
theorem sm_head(n:Nat)(f:Nat->Int):sm (n+1) f=f 0+sm n (fun i=>f (i+1)):=by
 induction n with
 | zero=>simp[sm]
 | succ n ih=>rw[sm,ih];simp only[sm];omega
theorem sm_append(n m:Nat)(f:Nat->Int):sm (n+m) f=sm n f+sm m (fun i=>f (n+i)):=by
 induction m with
 | zero=>simp[sm]
 | succ m ih=>rw[<-Nat.add_assoc];simp only[sm];rw[ih];omega
abbrev Mat:=Nat->Nat->Int
def sg(j:Nat):Int:=if j%2=0 then 1 else -1
def minor(j:Nat)(M:Mat):Mat:=fun r c=>M (r+1) (if c<j then c else c+1)
def dt:Nat->Mat->Int
 | 0,_=>1
 | n+1,M=>sm (n+1) (fun j=>sg j*M 0 j*dt n (minor j M))
def upd(M:Mat)(c:Nat)(v:Nat->Int):Mat:=fun r k=>if k=c then v r else M r k
theorem dt_congr:∀ {n:Nat} {M N:Mat},(∀ r c,r<n->c<n->M r c=N r c)->dt n M=dt n N
 | 0,_,_,_=>rfl
 | n+1,M,N,h=>by
  simp only[dt];refine sm_congr fun j hj=>?_;rw[h 0 j (by omega) hj];congr 1;refine dt_congr fun r c hr hc=>?_;simp only[minor];by_cases e:c<j
  ·rw[if_pos e];exact h _ _ (by omega) (by omega)
  ·rw[if_neg e];exact h _ _ (by omega) (by omega)
theorem minor_upd_self(j:Nat)(M:Mat)(v:Nat->Int):minor j (upd M j v)=minor j M:=by
 funext r c;simp only[minor,upd];by_cases e:c<j
 ·simp only[if_pos e];rw[if_neg (by omega)]
 ·simp only[if_neg e];rw[if_neg (by omega)]
theorem minor_upd_lt{j c:Nat}(M:Mat)(v:Nat->Int)(h:c<j):
  minor j (upd M c v)=upd (minor j M) c (fun r=>v (r+1)):=by
 funext r k;simp only[minor,upd];by_cases e:k<j
 ·simp only[if_pos e]
 ·simp only[if_neg e];rw[if_neg (by omega),if_neg (by omega)]
theorem minor_upd_gt{j c:Nat}(M:Mat)(v:Nat->Int)(h:j<c):
  minor j (upd M c v)=upd (minor j M) (c-1) (fun r=>v (r+1)):=by
 funext r k;simp only[minor,upd];by_cases e:k<j
 ·simp only[if_pos e];rw[if_neg (by omega),if_neg (by omega)]
 ·simp only[if_neg e];by_cases e2:k+1=c
  ·rw[if_pos e2,if_pos (by omega)]
  ·rw[if_neg e2,if_neg (by omega)]
theorem dt_lin:∀ {n:Nat} (M:Mat) {c:Nat} (_:c<n) (a b:Int) (v w:Nat->Int),
  dt n (upd M c (fun r=>a*v r+b*w r))=a*dt n (upd M c v)+b*dt n (upd M c w)
 | 0,_,_,h,_,_,_,_=>by omega
 | n+1,M,c,hc,a,b,v,w=>by
  simp only[dt];rw[<-sm_mul,<-sm_mul,<-sm_add];refine sm_congr fun j hj=>?_;rcases Nat.lt_trichotomy j c with h | h | h
  ·rw[minor_upd_gt _ _ h,minor_upd_gt _ _ h,minor_upd_gt _ _ h];have e:∀ u:Nat->Int,upd M c u 0 j=M 0 j:=fun u=>by simp only[upd];rw[if_neg (by omega)]
   rw[e,e,e,dt_lin (minor j M) (by omega) a b (fun r=>v (r+1)) (fun r=>w (r+1))];grind
  ·subst h;rw[minor_upd_self,minor_upd_self,minor_upd_self];have e:∀ u:Nat->Int,upd M j u 0 j=u 0:=fun u=>by simp[upd]
   rw[e,e,e];grind
  ·rw[minor_upd_lt _ _ h,minor_upd_lt _ _ h,minor_upd_lt _ _ h];have e:∀ u:Nat->Int,upd M c u 0 j=M 0 j:=fun u=>by simp only[upd];rw[if_neg (by omega)]
   rw[e,e,e,dt_lin (minor j M) (by omega) a b (fun r=>v (r+1)) (fun r=>w (r+1))];grind
theorem sg_succ(j:Nat):sg (j+1)=- sg j:=by
 simp only[sg];by_cases h:j%2=0
 ·rw[if_neg (by omega),if_pos h]
 ·rw[if_pos (by omega),if_neg h];rfl
theorem dt_adj:∀ {n:Nat} (M:Mat) {c:Nat} (_:c+1<n) (_:∀ r,r<n->M r c=M r (c+1)),dt n M=0
 | 0,_,_,h,_=>by omega
 | n+1,M,c,hc,he=>by
  simp only[dt];rw[sm_two (k:=c) (l:=c+1) (by omega) hc (by omega)]
  ·have e:dt n (minor c M)=dt n (minor (c+1) M):=by
    refine dt_congr fun r k hr hk=>?_;simp only[minor];by_cases e1:k<c
    ·rw[if_pos e1,if_pos (by omega)]
    ·by_cases e2:k=c
     ·subst e2;rw[if_neg (by omega),if_pos (by omega),he _ (by omega)]
     ·rw[if_neg e1,if_neg (by omega)]
   rw[e,he 0 (by omega),sg_succ];grind
  ·intro j hj h1 h2;have:dt n (minor j M)=0:=by
    by_cases e:j<c
    ·refine dt_adj (minor j M) (c:=c-1) (by omega) fun r hr=>?_;simp only[minor];rw[if_neg (by omega),if_neg (by omega)];have:=he (r+1) (by omega);rw[show c-1+1=c by omega,this]
    ·refine dt_adj (minor j M) (c:=c) (by omega) fun r hr=>?_;simp only[minor];rw[if_pos (by omega),if_pos (by omega)];exact he (r+1) (by omega)
   rw[this,Int.mul_zero]
theorem upd_self(M:Mat)(c:Nat):upd M c (fun r=>M r c)=M:=by
 funext r k;simp only[upd];by_cases e:k=c
 ·rw[if_pos e,e]
 ·rw[if_neg e]
theorem upd_comm(M:Mat){c e:Nat}(h:c≠e)(v w:Nat->Int):upd (upd M c v) e w=upd (upd M e w) c v:=by
 funext r k;simp only[upd];by_cases a:k=e
 ·by_cases b:k=c
  ·omega
  ·rw[if_pos a,if_neg b,if_pos a]
 ·by_cases b:k=c
  ·rw[if_neg a,if_pos b,if_pos b]
  ·rw[if_neg a,if_neg b,if_neg b,if_neg a]
theorem upd_upd(M:Mat)(c:Nat)(v w:Nat->Int):upd (upd M c v) c w=upd M c w:=by
 funext r k;simp only[upd];by_cases a:k=c
 ·rw[if_pos a,if_pos a]
 ·rw[if_neg a,if_neg a,if_neg a]
theorem dt_add1{n:Nat}(M:Mat){c:Nat}(hc:c<n)(v w:Nat->Int):
  dt n (upd M c (fun r=>v r+w r))=dt n (upd M c v)+dt n (upd M c w):=by
 have:=dt_lin M hc 1 1 v w;simpa using this
theorem swap_of_zero{n c e:Nat}(hce:c≠e)(hc:c<n)(he:e<n)(z:∀ M:Mat,(∀ r,r<n->M r c=M r e)->dt n M=0)(M:Mat)(v w:Nat->Int):
  dt n (upd (upd M c v) e w)=- dt n (upd (upd M c w) e v):=by
 have h0:=z (upd (upd M c (fun r=>v r+w r)) e (fun r=>v r+w r)) (by
  intro r _;simp only[upd];rw[if_neg hce];simp)
 have h1:=z (upd (upd M c v) e v) (by intro r _;simp only[upd];rw[if_neg hce];simp);have h2:=z (upd (upd M c w) e w) (by intro r _;simp only[upd];rw[if_neg hce];simp);rw[dt_add1 _ he,upd_comm M hce,upd_comm M hce,dt_add1 _ hc,dt_add1 _ hc] at h0;rw[upd_comm M hce] at h1 h2;rw[upd_comm M hce v w,upd_comm M hce w v];omega
theorem dt_eqcol:∀ (k:Nat) {n c:Nat} (M:Mat) (_:c+1+k<n)
  (_:∀ r,r<n->M r c=M r (c+1+k)),dt n M=0
 | 0,n,c,M,h,he=>dt_adj M h he
 | k+1,n,c,M,h,he=>by
  have sw:=swap_of_zero (n:=n) (c:=c+1+k) (e:=c+1+(k+1)) (by omega) (by omega) h
   (fun N hN=>dt_adj N (c:=c+1+k) (by omega) hN) M (fun r=>M r (c+1+k)) (fun r=>M r (c+1+(k+1)))
  rw[upd_self,upd_self] at sw;rw[sw,dt_eqcol k (c:=c),Int.neg_zero]
  ·omega
  ·intro r hr;simp only[upd];rw[if_neg (by omega),if_neg (by omega),if_neg (by omega),if_pos trivial];exact he r hr
theorem dt_same{n c e:Nat}(M:Mat)(hc:c<n)(he:e<n)(hce:c≠e)(h:∀ r,r<n->M r c=M r e):
  dt n M=0:=by
 rcases Nat.lt_or_ge c e with l | l
 ·exact dt_eqcol (e-c-1) (c:=c) M (by omega) (by
   intro r hr;rw[h r hr,show c+1+(e-c-1)=e by omega])
 ·exact dt_eqcol (c-e-1) (c:=e) M (by omega) (by
   intro r hr;rw[<-h r hr,show e+1+(c-e-1)=c by omega])
theorem dt_swap{n c e:Nat}(M:Mat)(hc:c<n)(he:e<n)(hce:c≠e):
  dt n (upd (upd M c (fun r=>M r e)) e (fun r=>M r c))=- dt n M:=by
 have:=swap_of_zero hce hc he (fun N hN=>dt_same N hc he hce hN) M (fun r=>M r e) (fun r=>M r c);rw[this,upd_self,upd_self]
theorem dt_zerocol{n c:Nat}(M:Mat)(hc:c<n)(v:Nat->Int)(h:∀ r,r<n->v r=0):dt n (upd M c v)=0:=by
 have:=dt_lin M hc 0 0 v v;rw[Int.zero_mul,Int.add_zero] at this;rw[<-this];refine dt_congr fun r k hr _=>?_;simp only[upd];by_cases e:k=c
 ·rw[if_pos e,if_pos e,h r hr];omega
 ·rw[if_neg e,if_neg e]
theorem dt_sum{n c:Nat}(M:Mat)(hc:c<n):∀ (m:Nat) (x:Nat->Int) (V:Nat->Nat->Int),
  dt n (upd M c (fun r=>sm m (fun j=>x j*V r j)))=sm m (fun j=>x j*dt n (upd M c (fun r=>V r j)))
 | 0,x,V=>by simp only[sm];exact dt_zerocol M hc _ (fun _ _=>rfl)
 | m+1,x,V=>by
  simp only[sm];have:=dt_lin M hc 1 (x m) (fun r=>sm m (fun j=>x j*V r j)) (fun r=>V r m);simp only[Int.one_mul] at this;rw[this,dt_sum M hc m x V]
theorem cramer{n c:Nat}(M:Mat)(hc:c<n)(x b:Nat->Int)(h:∀ r,r<n->sm n (fun j=>M r j*x j)=b r):dt n (upd M c b)=x c*dt n M:=by
 have e:dt n (upd M c b)=dt n (upd M c (fun r=>sm n (fun j=>x j*M r j))):=by
  refine dt_congr fun r k hr _=>?_;simp only[upd];by_cases e:k=c
  ·rw[if_pos e,if_pos e,<-h r hr];exact sm_congr fun j _=>Int.mul_comm _ _
  ·rw[if_neg e,if_neg e]
 rw[e,dt_sum M hc];rw[sm_one hc]
 ·rw[upd_self]
 ·intro j hj hjc;rw[dt_same (upd M c fun r=>M r j) hc hj (by omega),Int.mul_zero];intro r _;simp only[upd];rw[if_neg hjc];simp
theorem inj_of_dt{n:Nat}(M:Mat)(hd:dt n M≠0)(x:Nat->Int)(h:∀ r,r<n->sm n (fun j=>M r j*x j)=0):∀ i,i<n->x i=0:=by
 intro i hi;have:=cramer M hi x (fun _=>0) h;rw[dt_zerocol M hi _ (fun _ _=>rfl)] at this;rcases Int.mul_eq_zero.mp this.symm with h | h
 ·exact h
 ·exact absurd h hd
theorem pigeon:∀ (n:Nat) (f:Nat->Nat),(∀ i,i<n+1->f i<n)->∃ i j,i<j/\j<n+1/\f i=f j
 | 0,f,h=>absurd (h 0 (by omega)) (by omega)
 | n+1,f,h=>by
  by_cases e:∃ i,i<n+1/\f i=f (n+1)
  ·obtain⟨i,hi,he⟩:=e;exact⟨i,n+1,hi,by omega,he⟩
  ·have e':∀ i,i<n+1->f i≠f (n+1):=fun i hi he=>e ⟨i,hi,he⟩;obtain⟨i,j,hij,hj,hf⟩:=pigeon n (fun i=>if f i<f (n+1) then f i else f i-1) (by
    intro i hi;have h1:=h i (by omega);have h2:=h (n+1) (by omega);have h3:=e' i hi;by_cases c:f i<f (n+1)
    ·rw[if_pos c];omega
    ·rw[if_neg c];omega)
   refine⟨i,j,hij,by omega,?_⟩;have h1:=e' i (by omega);have h2:=e' j (by omega);by_cases c:f i<f (n+1)<;>by_cases c2:f j<f (n+1)
   ·rwa [if_pos c,if_pos c2] at hf
   ·rw[if_pos c,if_neg c2] at hf;omega
   ·rw[if_neg c,if_pos c2] at hf;omega
   ·rw[if_neg c,if_neg c2] at hf;omega
theorem pigeon_miss{n:Nat}(f:Nat->Nat)(k:Nat)(hk:k<n)(h:∀ i,i<n->f i<n/\f i≠k):
  ∃ i j,i<j/\j<n/\f i=f j:=by
 obtain⟨m,rfl⟩:∃ m,n=m+1:=⟨n-1,by omega⟩;obtain⟨i,j,hij,hj,hf⟩:=pigeon m (fun i=>if f i<k then f i else f i-1) (by
  intro i hi;have:=h i hi;by_cases c:f i<k
  ·rw[if_pos c];omega
  ·rw[if_neg c];omega)
 refine⟨i,j,hij,hj,?_⟩;have h1:=h i (by omega);have h2:=h j hj;by_cases c:f i<k<;>by_cases c2:f j<k
 ·rwa [if_pos c,if_pos c2] at hf
 ·rw[if_pos c,if_neg c2] at hf;omega
 ·rw[if_neg c,if_pos c2] at hf;omega
 ·rw[if_neg c,if_neg c2] at hf;omega
theorem dt_pick0{n:Nat}(M:Mat)(h0:dt n M=0):∀ (k:Nat) (f:Nat->Nat),k<=n->
  (∀ i,i<n->f i<n)->(∀ i,i<n-k->f i=i)->dt n (fun r c=>M r (f c))=0
 | 0,f,_,_,hf=>by
  rw[<-h0];refine dt_congr fun r c _ hc=>?_;rw[hf c (by omega)]
 | k+1,f,hk,hl,hf=>by
  by_cases e:∃ j,j<n/\f j=n-(k+1)
  ·obtain⟨j,hj,hfj⟩:=e;by_cases ej:j=n-(k+1)
   ·refine dt_pick0 M h0 k f (by omega) hl fun i hi=>?_;by_cases e2:i<n-(k+1)
    ·exact hf i e2
    ·have:i=n-(k+1):=by omega
     subst this;rw[ej] at hfj;exact hfj
   ·
    have hjp:n-(k+1)<j:=by
     rcases Nat.lt_trichotomy j (n-(k+1)) with l | l | l
     ·have:=hf j l;omega
     ·omega
     ·exact l
    have sw:=dt_swap (n:=n) (c:=n-(k+1)) (e:=j) (fun r c=>M r (f c)) (by omega) hj (by omega);have:=dt_pick0 M h0 k (fun c=>if c=n-(k+1) then f j else if c=j then f (n-(k+1)) else f c) (by omega)
     (by
      intro i hi;by_cases c1:i=n-(k+1)
      ·rw[if_pos c1];exact hl j hj
      ·rw[if_neg c1];by_cases c2:i=j
       ·rw[if_pos c2];exact hl _ (by omega)
       ·rw[if_neg c2];exact hl i hi)
     (by
      intro i hi;by_cases c1:i=n-(k+1)
      ·rw[if_pos c1,hfj,c1]
      ·rw[if_neg c1,if_neg (by omega)];exact hf i (by omega))
    have e3:dt n (upd (upd (fun r c=>M r (f c)) (n-(k+1)) fun r=>M r (f j)) j fun r=>M r (f (n-(k+1))))=0:=by
     rw[<-this];refine dt_congr fun r c _ _=>?_;simp only[upd];by_cases c1:c=n-(k+1)
     ·rw[if_neg (by omega),if_pos c1,if_pos c1]
     ·rw[if_neg c1];by_cases c2:c=j
      ·rw[if_pos c2,if_neg c1,if_pos c2]
      ·rw[if_neg c2,if_neg c1,if_neg c2]
    rw[e3] at sw;omega
  ·obtain⟨i,j,hij,hj,hff⟩:=pigeon_miss f (n-(k+1)) (by omega) (fun i hi=>⟨hl i hi,fun he=>e ⟨i,hi,he⟩⟩);exact dt_same _ (c:=i) (e:=j) (by omega) hj (by omega) (by intro r _;rw[hff])
theorem dt_span0{n:Nat}(M N:Mat)(h0:dt n M=0):∀ (k:Nat) (f:Nat->Nat),k<=n->(∀ i,i<n->f i<n)->
  dt n (fun r c=>if c<k then sm n (fun j=>N j c*M r j) else M r (f c))=0
 | 0,f,_,hf=>by
  have:=dt_pick0 M h0 n f (by omega) hf (by intro i hi;omega);rw[<-this];exact dt_congr fun r c _ _=>by simp
 | k+1,f,hk,hf=>by
  have e:dt n (fun r c=>if c<k+1 then sm n (fun j=>N j c*M r j) else M r (f c)) =
    dt n (upd (fun r c=>if c<k then sm n (fun j=>N j c*M r j) else M r (f c)) k (fun r=>sm n (fun j=>N j k*M r j))):=by
   refine dt_congr fun r c _ _=>?_;simp only[upd];by_cases c1:c=k
   ·rw[if_pos (by omega),if_pos c1,c1]
   ·rw[if_neg c1];by_cases c2:c<k
    ·rw[if_pos (by omega),if_pos c2]
    ·rw[if_neg (by omega),if_neg c2]
  rw[e,dt_sum _ (by omega)];refine sm_zero fun j hj=>?_;have:=dt_span0 M N h0 k (fun c=>if c=k then j else f c) (by omega) (by
   intro i hi;by_cases c1:i=k
   ·rw[if_pos c1];exact hj
   ·rw[if_neg c1];exact hf i hi)
  have e2:dt n (upd (fun r c=>if c<k then sm n (fun j=>N j c*M r j) else M r (f c)) k (fun r=>M r j))=0:=by
   rw[<-this];refine dt_congr fun r c _ _=>?_;simp only[upd];by_cases c1:c=k
   ·rw[if_pos c1,if_neg (by omega),if_pos c1]
   ·rw[if_neg c1,if_neg c1]
  rw[e2,Int.mul_zero]
theorem dt_diag{k:Int}(hk:k≠0):∀ (n:Nat) (M:Mat),(∀ r c,r<n->c<n->M r c=if r=c then k else 0)->dt n M≠0
 | 0,M,_=>by simp[dt]
 | n+1,M,h=>by
  simp only[dt];rw[sm_one (k:=0) (by omega)]
  ·have:=dt_diag hk n (minor 0 M) (by
    intro r c hr hc;simp only[minor];rw[if_neg (by omega),h _ _ (by omega) (by omega)];by_cases e:r=c
    ·rw[if_pos (by omega),if_pos e]
    ·rw[if_neg (by omega),if_neg e])
   rw[h 0 0 (by omega) (by omega),if_pos rfl];simp only[sg];simpa [hk] using this
  ·intro i hi h0;rw[h 0 i (by omega) hi,if_neg (by omega)];simp
theorem dt_of_inv{n:Nat}(M N:Mat){k:Int}(hk:k≠0)(h:∀ r c,r<n->c<n->sm n (fun j=>M r j*N j c)=if r=c then k else 0):dt n M≠0:=by
 intro h0;have:=dt_span0 M N h0 n (fun i=>i) (by omega) (fun i hi=>hi);refine dt_diag hk n _ ?_ this;intro r c hr hc;rw[if_pos hc,<-h r c hr hc];exact sm_congr fun j _=>Int.mul_comm _ _
end SN
end
section
namespace SN
theorem sm_ite{n k:Nat}(hk:k<n)(x:Int):sm n (fun i=>if i=k then x else 0)=x:=by
 rw[sm_one hk (fun i _ hi=>by rw[if_neg hi]),if_pos rfl]
def LN(L:Nat)(v:Nat->Int):Prop:=∀ k,k<L->(∀ i,i<k->v i=0)->0<=v k
def ZV(L:Nat)(v:Nat->Int):Prop:=∀ k,k<L->v k=0
theorem LN.congr{L:Nat}{u v:Nat->Int}(h:LN L u)(e:∀ k,k<L->u k=v k):LN L v:=by
 intro k hk hz;rw[<-e k hk];exact h k hk fun i hi=>by rw[e i (by omega)];exact hz i hi
theorem ZV.ln{L:Nat}{v:Nat->Int}(h:ZV L v):LN L v:=fun k hk _=>by rw[h k hk];exact Int.le_refl 0
theorem LN.sum_zero{L:Nat}{u v:Nat->Int}(hu:LN L u)(hv:LN L v):∀ k,k<=L->
  (∀ i,i<k->u i+v i=0)->∀ i,i<k->u i=0/\v i=0
 | 0,_,_,i,hi=>by omega
 | k+1,hk,hz,i,hi=>by
  have ih:=LN.sum_zero hu hv k (by omega) (fun i hi=>hz i (by omega));by_cases e:i<k
  ·exact ih i e
  ·have:i=k:=by omega
   subst this;have a:=hu i (by omega) fun j hj=>(ih j hj).1;have b:=hv i (by omega) fun j hj=>(ih j hj).2;have c:=hz i (by omega);omega
theorem LN.add{L:Nat}{u v:Nat->Int}(hu:LN L u)(hv:LN L v):LN L (fun k=>u k+v k):=by
 intro k hk hz;have ih:=LN.sum_zero hu hv k (by omega) hz;have a:=hu k hk fun j hj=>(ih j hj).1;have b:=hv k hk fun j hj=>(ih j hj).2;show 0<=u k+v k;omega
theorem LN.smul{L:Nat}{v:Nat->Int}{a:Int}(ha:0<=a)(hv:LN L v):LN L (fun k=>a*v k):=by
 intro k hk hz;by_cases e:a=0
 ·show 0<=a*v k;rw[e,Int.zero_mul];exact Int.le_refl 0
 ·refine Int.mul_nonneg ha (hv k hk fun i hi=>?_);rcases Int.mul_eq_zero.mp (hz i hi) with h | h
  ·exact absurd h e
  ·exact h
theorem LN.unscale{L:Nat}{v:Nat->Int}{a:Int}(ha:0<a)(hv:LN L (fun k=>a*v k)):LN L v:=by
 intro k hk hz;have:=hv k hk fun i hi=>by show a*v i=0;rw[hz i hi,Int.mul_zero]
 exact Int.nonneg_of_mul_nonneg_right this ha|>fun h=>h
theorem LN.sum{L:Nat}(w:Nat->Nat->Int):∀ (n:Nat),(∀ i,i<n->LN L (w i))->LN L (fun k=>sm n (fun i=>w i k))
 | 0,_=>fun k _ _=>Int.le_refl 0
 | n+1,h=>by
  have:=(LN.sum w n (fun i hi=>h i (by omega))).add (h n (by omega));exact this.congr fun k _=>rfl
theorem LN.antisymm{L:Nat}{v:Nat->Int}(h:LN L v)(h':LN L (fun k=>- v k)):ZV L v:=by
 intro k hk;have:=LN.sum_zero h h' L (by omega) (fun i _=>by omega);exact(this k hk).1
theorem LN.first{L:Nat}{v:Nat->Int}(h:LN L v)(hL:0<L):0<=v 0:=h 0 hL (fun i hi=>by omega)
theorem not_LN{L:Nat}{v:Nat->Int}(h:¬LN L v):∃ k,k<L/\(∀ i,i<k->v i=0)/\v k<0:=by
 apply Classical.byContradiction;intro hn;apply h;intro k hk hz;apply Classical.byContradiction;intro hneg;exact hn ⟨k,hk,hz,by omega⟩
structure Prob where
 n:Nat
 K:Nat
 m:Nat
 g:Nat
 a:Mat
 c:Mat
structure Tab where
 T:Mat
 G:Mat
 d:Int
 h:Nat->Nat
structure Inv(P:Prob)(S:Tab):Prop where
 d:0<S.d
 h:∀ i,i<P.K->S.h i<P.n+P.K
 det:dt P.K (fun k i=>P.a k (S.h i))=S.d\/dt P.K (fun k i=>P.a k (S.h i))=- S.d
 col:∀ k j,k<P.K->j<=P.n+P.K->sm P.K (fun i=>P.a k (S.h i)*S.T i j)=S.d*P.a k j
 goal:∀ g j,g<P.g->j<=P.n+P.K->S.G g j=sm P.K (fun i=>P.c g (S.h i)*S.T i j)-S.d*P.c g j
theorem Inv.det0{P:Prob}{S:Tab}(I:Inv P S):dt P.K (fun k i=>P.a k (S.h i))≠0:=by
 have:=I.d;rcases I.det with h | h<;>omega
theorem Inv.inj{P:Prob}{S:Tab}(I:Inv P S)(u v:Nat->Int)(h:∀ k,k<P.K->sm P.K (fun i=>P.a k (S.h i)*u i)=sm P.K (fun i=>P.a k (S.h i)*v i)):
  ∀ i,i<P.K->u i=v i:=by
 intro i hi;have:=inj_of_dt _ I.det0 (fun i=>u i-v i) (by
  intro k hk;have:sm P.K (fun j=>P.a k (S.h j)*(u j-v j)) =
   sm P.K (fun j=>P.a k (S.h j)*u j-P.a k (S.h j)*v j):=sm_congr fun j _=>Int.mul_sub _ _ _
  rw[this,sm_sub,h k hk];omega) i hi
 omega
theorem Inv.basic{P:Prob}{S:Tab}(I:Inv P S){i k:Nat}(hi:i<P.K)(hk:k<P.K):
  S.T i (S.h k)=if i=k then S.d else 0:=by
 refine I.inj (fun i=>S.T i (S.h k)) (fun i=>if i=k then S.d else 0) ?_ i hi;intro l hl;rw[I.col l (S.h k) hl (Nat.le_of_lt (I.h k hk)),sm_one hk]
 ·rw[if_pos rfl,Int.mul_comm]
 ·intro j _ hj;rw[if_neg hj,Int.mul_zero]
theorem Inv.hinj{P:Prob}{S:Tab}(I:Inv P S){i k:Nat}(hi:i<P.K)(hk:k<P.K)(h:S.h i=S.h k):i=k:=by
 apply Classical.byContradiction;intro e;have h1:=I.basic hi hi;have h2:=I.basic hi hk;rw[if_pos rfl] at h1;rw[if_neg e,<-h,h1] at h2;have:=I.d;omega
theorem Inv.gbasic{P:Prob}{S:Tab}(I:Inv P S){g k:Nat}(hg:g<P.g)(hk:k<P.K):S.G g (S.h k)=0:=by
 rw[I.goal g _ hg (Nat.le_of_lt (I.h k hk)),sm_one hk]
 ·rw[I.basic hk hk,if_pos rfl,Int.mul_comm];omega
 ·intro j hj hjk;rw[I.basic hj hk,if_neg hjk,Int.mul_zero]
theorem Inv.cram{P:Prob}{S:Tab}(I:Inv P S){i j:Nat}(hi:i<P.K)(hj:j<=P.n+P.K):
  S.d*dt P.K (upd (fun k i=>P.a k (S.h i)) i (fun k=>P.a k j))=S.T i j*dt P.K (fun k i=>P.a k (S.h i)):=by
 rw[<-cramer _ hi (fun i=>S.T i j) (fun k=>S.d*P.a k j) (fun k hk=>I.col k j hk hj)];have:=dt_lin (fun k i=>P.a k (S.h i)) hi S.d 0 (fun k=>P.a k j) (fun k=>P.a k j);simp only[Int.zero_mul,Int.add_zero] at this;rw[this]
def turned(r q:Nat)(S:Tab):Tab where
 T:=fun i j=>if i=r then S.T r j else (S.T i j*S.T r q-S.T i q*S.T r j).fdiv S.d
 G:=fun g j=>(S.G g j*S.T r q-S.G g q*S.T r j).fdiv S.d
 d:=S.T r q
 h:=fun i=>if i=r then q else S.h i
theorem turned_det{P:Prob}{S:Tab}(I:Inv P S){r q:Nat}(hr:r<P.K)(hq:q<P.n+P.K):
  dt P.K (fun k i=>P.a k ((turned r q S).h i))=S.T r q\/dt P.K (fun k i=>P.a k ((turned r q S).h i))=- S.T r q:=by
 have e:dt P.K (fun k i=>P.a k ((turned r q S).h i))=dt P.K (upd (fun k i=>P.a k (S.h i)) r (fun k=>P.a k q)):=by
  refine dt_congr fun k i _ _=>?_;simp only[turned,upd];by_cases c:i=r
  ·rw[if_pos c,if_pos c]
  ·rw[if_neg c,if_neg c]
 rw[e];have h:=I.cram hr (Nat.le_of_lt hq);have hd:=I.d;rcases I.det with hh | hh
 ·left;rw[hh,Int.mul_comm (S.T r q)] at h;exact Int.eq_of_mul_eq_mul_left (by omega) h
 ·right;rw[hh,Int.mul_neg,Int.mul_comm (S.T r q),<-Int.mul_neg] at h;exact Int.eq_of_mul_eq_mul_left (by omega) h
theorem turned_num{P:Prob}{S:Tab}(I:Inv P S){r q:Nat}(hr:r<P.K)(hq:q<P.n+P.K){k j:Nat}(hk:k<P.K)(hj:j<=P.n+P.K):
  sm P.K (fun i=>P.a k ((turned r q S).h i)*(if i=r then S.d*S.T r j else S.T i j*S.T r q-S.T i q*S.T r j)) =
   S.d*S.T r q*P.a k j:=by
 have e:sm P.K (fun i=>P.a k ((turned r q S).h i)*(if i=r then S.d*S.T r j else S.T i j*S.T r q-S.T i q*S.T r j)) =
   sm P.K (fun i=>(S.T r q*(P.a k (S.h i)*S.T i j)-S.T r j*(P.a k (S.h i)*S.T i q)) +
    (if i=r then P.a k q*(S.d*S.T r j) else 0)):=by
  refine sm_congr fun i hi=>?_;simp only[turned];by_cases c:i=r
  ·subst c;simp only[if_true];grind
  ·simp only[if_neg c];grind
 rw[e,sm_add,sm_sub,sm_mul,sm_mul,I.col k j hk hj,I.col k q hk (Nat.le_of_lt hq),sm_one hr]
 ·simp only[if_true];grind
 ·intro i _ hi;rw[if_neg hi]
theorem turned_dvd{P:Prob}{S:Tab}(I:Inv P S){r q:Nat}(hr:r<P.K)(hq:q<P.n+P.K)(hp:0<S.T r q){i j:Nat}(hi:i<P.K)(hir:i≠r)(hj:j<=P.n+P.K):S.d∣S.T i j*S.T r q-S.T i q*S.T r j:=by
 have hx:=cramer (fun k i=>P.a k ((turned r q S).h i)) hi
  (fun i=>if i=r then S.d*S.T r j else S.T i j*S.T r q-S.T i q*S.T r j) (fun k=>S.d*S.T r q*P.a k j)
  (fun k hk=>turned_num I hr hq hk hj)
 have hl:=dt_lin (fun k i=>P.a k ((turned r q S).h i)) hi (S.d*S.T r q) 0 (fun k=>P.a k j) (fun k=>P.a k j);simp only[Int.zero_mul,Int.add_zero] at hl;rw[hl] at hx;simp only[if_neg hir] at hx;rcases turned_det I hr hq with hh | hh
 ·rw[hh,Int.mul_comm S.d,Int.mul_assoc,Int.mul_comm (S.T i j*S.T r q-S.T i q*S.T r j)] at hx;have:=Int.eq_of_mul_eq_mul_left (by omega) hx;exact⟨_,this.symm⟩
 ·rw[hh,Int.mul_comm S.d,Int.mul_assoc,Int.mul_neg,Int.mul_comm (S.T i j*S.T r q-S.T i q*S.T r j),<-Int.mul_neg] at hx;have:=Int.eq_of_mul_eq_mul_left (by omega) hx;refine⟨- dt P.K (upd (fun k i=>P.a k ((turned r q S).h i)) i fun k=>P.a k j),?_⟩;rw[Int.mul_neg,this,Int.neg_neg]
theorem turned_T{P:Prob}{S:Tab}(I:Inv P S){r q:Nat}(hr:r<P.K)(hq:q<P.n+P.K)(hp:0<S.T r q){i j:Nat}(hi:i<P.K)(hj:j<=P.n+P.K):
  S.d*(turned r q S).T i j=if i=r then S.d*S.T r j else S.T i j*S.T r q-S.T i q*S.T r j:=by
 simp only[turned];by_cases c:i=r
 ·rw[if_pos c,if_pos c]
 ·rw[if_neg c,if_neg c];exact Int.mul_fdiv_cancel' (turned_dvd I hr hq hp hi c hj)
theorem turned_Gnum{P:Prob}{S:Tab}(I:Inv P S){r q:Nat}(hr:r<P.K)(hq:q<P.n+P.K)(hp:0<S.T r q){g j:Nat}(hg:g<P.g)(hj:j<=P.n+P.K):
  S.G g j*S.T r q-S.G g q*S.T r j =
   S.d*(sm P.K (fun i=>P.c g ((turned r q S).h i)*(turned r q S).T i j)-S.T r q*P.c g j):=by
 have e:sm P.K (fun i=>S.d*(P.c g ((turned r q S).h i)*(turned r q S).T i j)) =
   sm P.K (fun i=>(S.T r q*(P.c g (S.h i)*S.T i j)-S.T r j*(P.c g (S.h i)*S.T i q)) +
    (if i=r then P.c g q*(S.d*S.T r j) else 0)):=by
  refine sm_congr fun i hi=>?_;have:=turned_T I hr hq hp hi hj;have e2:S.d*(P.c g ((turned r q S).h i)*(turned r q S).T i j)=P.c g ((turned r q S).h i)*(S.d*(turned r q S).T i j):=by
   grind
  rw[e2,this];simp only[turned];by_cases c:i=r
  ·subst c;simp only[if_true];grind
  ·simp only[if_neg c];grind
 rw[Int.mul_sub,<-sm_mul,e,sm_add,sm_sub,sm_mul,sm_mul,sm_ite hr,
  I.goal g j hg hj,I.goal g q hg (Nat.le_of_lt hq)]
 grind
theorem turned_G{P:Prob}{S:Tab}(I:Inv P S){r q:Nat}(hr:r<P.K)(hq:q<P.n+P.K)(hp:0<S.T r q){g j:Nat}(hg:g<P.g)(hj:j<=P.n+P.K):
  S.d*(turned r q S).G g j=S.G g j*S.T r q-S.G g q*S.T r j:=by
 simp only[turned];exact Int.mul_fdiv_cancel' ⟨_,turned_Gnum I hr hq hp hg hj⟩
theorem Inv.turned{P:Prob}{S:Tab}(I:Inv P S){r q:Nat}(hr:r<P.K)(hq:q<P.n+P.K)(hp:0<S.T r q):
  Inv P (SN.turned r q S) where
 d:=hp
 h:=by
  intro i hi;simp only[SN.turned];by_cases c:i=r
  ·rw[if_pos c];exact hq
  ·rw[if_neg c];exact I.h i hi
 det:=turned_det I hr hq
 col:=by
  intro k j hk hj;have:=turned_num I hr hq hk hj;have e:sm P.K (fun i=>P.a k ((SN.turned r q S).h i)*(if i=r then S.d*S.T r j else S.T i j*S.T r q-S.T i q*S.T r j)) =
    sm P.K (fun i=>S.d*(P.a k ((SN.turned r q S).h i)*(SN.turned r q S).T i j)):=by
   refine sm_congr fun i hi=>?_;rw[<-turned_T I hr hq hp hi hj];grind
  rw[e,sm_mul,Int.mul_assoc] at this;exact Int.eq_of_mul_eq_mul_left (by have:=I.d;omega) this
 goal:=by
  intro g j hg hj;have h1:=turned_G I hr hq hp hg hj;rw[turned_Gnum I hr hq hp hg hj] at h1;exact Int.eq_of_mul_eq_mul_left (by have:=I.d;omega) h1
end SN
end
section
namespace SN
def pj(P:Prob)(k:Nat):Nat:=if k=0 then P.n+P.K else P.n+(k-1)
theorem pj_le(P:Prob)(hm:P.m<=P.K){k:Nat}(hk:k<P.m+1):pj P k<=P.n+P.K:=by
 simp only[pj];by_cases c:k=0
 ·rw[if_pos c];omega
 ·rw[if_neg c];omega
def Feas(P:Prob)(S:Tab):Prop:=∀ i,i<P.K->LN (P.m+1) (fun k=>S.T i (pj P k))
structure Piv(P:Prob)(S:Tab)(r q:Nat):Prop where
 hq:q<P.n+P.K
 neg:¬LN P.g (fun g=>S.G g q)
 first:∀ j,j<q->LN P.g (fun g=>S.G g j)
 hr:r<P.K
 hp:0<S.T r q
 min:∀ i,i<P.K->0<S.T i q->
  LN (P.m+1) (fun k=>S.T i (pj P k)*S.T r q-S.T r (pj P k)*S.T i q)/\
  (ZV (P.m+1) (fun k=>S.T i (pj P k)*S.T r q-S.T r (pj P k)*S.T i q)->S.h r<=S.h i)
theorem Feas.turned{P:Prob}{S:Tab}(I:Inv P S)(hm:P.m<=P.K)(F:Feas P S){r q:Nat}(p:Piv P S r q):
  Feas P (SN.turned r q S):=by
 intro i hi;by_cases c:i=r
 ·subst c;exact(F i hi).congr fun k _=>by simp[SN.turned]
 ·refine LN.unscale I.d ?_;have e:∀ k,k<P.m+1->S.T i (pj P k)*S.T r q-S.T i q*S.T r (pj P k)=S.d*(SN.turned r q S).T i (pj P k):=by
   intro k hk;rw[turned_T I p.hr p.hq p.hp hi (pj_le P hm hk),if_neg c]
  refine LN.congr ?_ e;by_cases c2:0<S.T i q
  ·exact((p.min i hi c2).1).congr fun k _=>by grind
  ·have h1:=(F i hi).smul (a:=S.T r q) (by have:=p.hp;omega);have h2:=(F r p.hr).smul (a:=- S.T i q) (by omega);exact(h1.add h2).congr fun k _=>by grind
theorem same_of_h{P:Prob}{S R:Tab}(I:Inv P S)(J:Inv P R)(h:∀ i,i<P.K->S.h i=R.h i):
  S.d=R.d/\(∀ i j,i<P.K->j<=P.n+P.K->S.T i j=R.T i j)/\(∀ g j,g<P.g->j<=P.n+P.K->S.G g j=R.G g j):=by
 have ed:dt P.K (fun k i=>P.a k (S.h i))=dt P.K (fun k i=>P.a k (R.h i)):=
  dt_congr fun k i _ hi=>by rw[h i hi]
 have hd:S.d=R.d:=by
  have a:=I.d;have b:=J.d;rcases I.det with h1 | h1<;>rcases J.det with h2 | h2<;>omega
 have hT:∀ i j,i<P.K->j<=P.n+P.K->S.T i j=R.T i j:=by
  intro i j hi hj;refine I.inj (fun i=>S.T i j) (fun i=>R.T i j) ?_ i hi;intro k hk;rw[I.col k j hk hj,hd,<-J.col k j hk hj];exact sm_congr fun i hi=>by rw[h i hi]
 refine⟨hd,hT,?_⟩;intro g j hg hj;rw[I.goal g j hg hj,J.goal g j hg hj,hd];congr 1;exact sm_congr fun i hi=>by rw[h i hi,hT i j hi hj]
def LN2(g L:Nat)(V:Mat):Prop:=∀ x,x<g->(∀ y,y<x->ZV L (V y))->LN L (V x)
def ZM(g L:Nat)(V:Mat):Prop:=∀ x,x<g->ZV L (V x)
theorem LN2.congr{g L:Nat}{U V:Mat}(h:LN2 g L U)(e:∀ x k,x<g->k<L->U x k=V x k):LN2 g L V:=by
 intro x hx hz;refine LN.congr (h x hx fun y hy k hk=>?_) fun k hk=>e x k hx hk;rw[e y k (by omega) hk];exact hz y hy k hk
theorem LN2.sum_zero{g L:Nat}{U V:Mat}(hu:LN2 g L U)(hv:LN2 g L V):∀ x,x<=g->
  (∀ y,y<x->ZV L (fun k=>U y k+V y k))->∀ y,y<x->ZV L (U y)/\ZV L (V y)
 | 0,_,_,y,hy=>by omega
 | x+1,hx,hz,y,hy=>by
  have ih:=LN2.sum_zero hu hv x (by omega) (fun y hy=>hz y (by omega));by_cases e:y<x
  ·exact ih y e
  ·have:y=x:=by omega
   subst this;have a:=hu y (by omega) fun j hj=>(ih j hj).1;have b:=hv y (by omega) fun j hj=>(ih j hj).2;have c:=LN.sum_zero a b L (by omega) (fun i hi=>hz y (by omega) i hi);exact⟨fun k hk=>(c k hk).1,fun k hk=>(c k hk).2⟩
theorem LN2.add{g L:Nat}{U V:Mat}(hu:LN2 g L U)(hv:LN2 g L V):LN2 g L (fun x k=>U x k+V x k):=by
 intro x hx hz;have ih:=LN2.sum_zero hu hv x (by omega) hz;exact(hu x hx fun j hj=>(ih j hj).1).add (hv x hx fun j hj=>(ih j hj).2)
theorem LN2.smul{g L:Nat}{V:Mat}{a:Int}(ha:0<a)(hv:LN2 g L V):LN2 g L (fun x k=>a*V x k):=by
 intro x hx hz;refine(hv x hx fun y hy k hk=>?_).smul (by omega);rcases Int.mul_eq_zero.mp (hz y hy k hk) with h | h
 ·omega
 ·exact h
theorem LN2.unscale{g L:Nat}{V:Mat}{a:Int}(ha:0<a)(hv:LN2 g L (fun x k=>a*V x k)):LN2 g L V:=by
 intro x hx hz;refine LN.unscale ha (hv x hx fun y hy k hk=>?_);show a*V y k=0;rw[hz y hy k hk,Int.mul_zero]
theorem LN2.antisymm{g L:Nat}{V:Mat}(h:LN2 g L V)(h':LN2 g L (fun x k=>- V x k)):ZM g L V:=by
 intro x hx;have:=LN2.sum_zero h h' g (by omega) (fun y _ k _=>by show V y k+- V y k=0;omega);exact(this x hx).1
def Le2(g L:Nat)(V:Mat)(d:Int)(W:Mat)(e:Int):Prop:=LN2 g L (fun x k=>d*W x k-e*V x k)
theorem Le2.refl(g L:Nat)(V:Mat)(d:Int):Le2 g L V d V d:=by
 intro x hx _ k hk _;show 0<=d*V x k-d*V x k;omega
theorem Le2.trans{g L:Nat}{V W X:Mat}{d e f:Int}(hd:0<d)(he:0<e)(hf:0<f)(a:Le2 g L V d W e)(b:Le2 g L W e X f):
  Le2 g L V d X f:=by
 refine LN2.unscale he ?_;have h1:=LN2.smul hf a;have h2:=LN2.smul hd b;exact(h1.add h2).congr fun x k _ _=>by grind
theorem neg_LN{L:Nat}{v:Nat->Int}(h:¬LN L v):LN L (fun k=>- v k):=by
 obtain⟨k,hk,hz,hn⟩:=not_LN h;intro j hj hzj;show 0<=- v j;rcases Nat.lt_trichotomy j k with l | l | l
 ·rw[hz j l];omega
 ·subst l;omega
 ·have:- v k=0:=hzj k l;omega
theorem outer_LN2{g L:Nat}{v u:Nat->Int}(hv:¬LN g v)(hu:LN L u):
  LN2 g L (fun x k=>- v x*u k)/\(LN2 g L (fun x k=>- (- v x*u k))->ZV L u):=by
 obtain⟨k,hk,hz,hn⟩:=not_LN hv;have first:LN2 g L (fun x k=>- v x*u k):=by
  intro x hx hzx;by_cases hzu:ZV L u
  ·refine ZV.ln fun y hy=>?_;show-v x*u y=0;rw[hzu y hy,Int.mul_zero]
  ·have hne:∃ y,y<L/\u y≠0:=by
    apply Classical.byContradiction;intro hn2;exact hzu fun y hy=>Classical.byContradiction fun hc=>hn2 ⟨y,hy,hc⟩
   obtain⟨y,hy,huy⟩:=hne;have hvx:∀ x',x'<x->v x'=0:=by
    intro x' hx';have h1:- v x'*u y=0:=hzx x' hx' y hy;rcases Int.mul_eq_zero.mp h1 with h2 | h2
    ·omega
    ·exact absurd h2 huy
   refine hu.smul ?_;have:=neg_LN hv x hx (fun i hi=>by show-v i=0;rw[hvx i hi];rfl);exact this
 refine⟨first,fun hneg=>?_⟩;have hzero:=first.antisymm hneg;intro y hy;have h1:- v k*u y=0:=hzero k hk y hy;rcases Int.mul_eq_zero.mp h1 with h2 | h2
 ·omega
 ·exact h2
def code(C:Nat)(h:Nat->Nat):Nat->Nat
 | 0=>0
 | K+1=>code C h K*C+h K
theorem code_lt{C:Nat}{h:Nat->Nat}:∀ {K:Nat},(∀ i,i<K->h i<C)->code C h K<C^K
 | 0,_=>by simp[code]
 | K+1,hl=>by
  have h1:=code_lt (K:=K) (fun i hi=>hl i (by omega));have h2:=hl K (by omega);simp only[code,Nat.pow_succ]
  calc code C h K*C+h K<code C h K*C+C:=by omega
   _=(code C h K+1)*C:=by rw[Nat.add_mul,Nat.one_mul]
   _<=C^K*C:=Nat.mul_le_mul_right _ h1
theorem code_inj{C:Nat}{h h':Nat->Nat}:∀ {K:Nat},(∀ i,i<K->h i<C)->(∀ i,i<K->h' i<C)->
  code C h K=code C h' K->∀ i,i<K->h i=h' i
 | 0,_,_,_,i,hi=>by omega
 | K+1,hl,hl',he,i,hi=>by
  simp only[code] at he;have h2:=hl K (by omega);have h2':=hl' K (by omega);have hC:0<C:=by omega
  have em:h K=h' K:=by
   have:=congrArg (·%C) he;simp only[Nat.mul_add_mod_self_right,Nat.mod_eq_of_lt h2,Nat.mod_eq_of_lt h2'] at this;exact this
  have ec:code C h K=code C h' K:=by
   rw[em] at he;exact Nat.eq_of_mul_eq_mul_right hC (Nat.add_right_cancel he)
  by_cases c:i=K
  ·subst c;exact em
  ·exact code_inj (fun i hi=>hl i (by omega)) (fun i hi=>hl' i (by omega)) ec i (by omega)
theorem exists_max(f:Nat->Nat)(a:Nat):∀ (k:Nat),∃ t,a<=t/\t<a+(k+1)/\∀ s,a<=s->s<a+(k+1)->f s<=f t
 | 0=>⟨a,by omega,by omega,fun s h1 h2=>by
  have:s=a:=by omega
  subst this;exact Nat.le_refl _⟩
 | k+1=>by
  obtain⟨t,h1,h2,h3⟩:=exists_max f a k;by_cases c:f t<=f (a+(k+1))
  ·refine⟨a+(k+1),by omega,by omega,fun s hs1 hs2=>?_⟩;by_cases e:s<a+(k+1)
   ·exact Nat.le_trans (h3 s hs1 e) c
   ·have:s=a+(k+1):=by omega
    subst this;exact Nat.le_refl _
  ·refine⟨t,h1,by omega,fun s hs1 hs2=>?_⟩;by_cases e:s<a+(k+1)
   ·exact h3 s hs1 e
   ·have:s=a+(k+1):=by omega
    subst this;omega
structure Run(P:Prob)(S:Nat->Tab)(r q:Nat->Nat):Prop where
 hm:P.m<=P.K
 inv:∀ t,Inv P (S t)
 feas:∀ t,Feas P (S t)
 piv:∀ t,Piv P (S t) (r t) (q t)
 next:∀ t,S (t+1)=turned (r t) (q t) (S t)
def InB(P:Prob)(S:Tab)(j:Nat):Prop:=∃ i,i<P.K/\S.h i=j
theorem Run.step_in{P:Prob}{S:Nat->Tab}{r q:Nat->Nat}(R:Run P S r q)(t j:Nat)(h:j≠q t)(hin:InB P (S (t+1)) j):
  InB P (S t) j:=by
 obtain⟨i,hi,he⟩:=hin;rw[R.next t] at he;simp only[turned] at he;by_cases c:i=r t
 ·rw[if_pos c] at he;exact absurd he.symm h
 ·rw[if_neg c] at he;exact⟨i,hi,he⟩
theorem Run.step_out{P:Prob}{S:Nat->Tab}{r q:Nat->Nat}(R:Run P S r q)(t j:Nat)(h:j≠(S t).h (r t))(hin:InB P (S t) j):
  InB P (S (t+1)) j:=by
 obtain⟨i,hi,he⟩:=hin;have c:i≠r t:=fun c=>h (by rw[<-he,c]);refine⟨i,hi,?_⟩;rw[R.next t];simp only[turned];rw[if_neg c];exact he
theorem Run.enters{P:Prob}{S:Nat->Tab}{r q:Nat->Nat}(R:Run P S r q)(s j:Nat)(hs:¬InB P (S s) j):
  ∀ k,InB P (S (s+k)) j->∃ u,s<=u/\u<s+k/\q u=j
 | 0,h=>absurd h hs
 | k+1,h=>by
  by_cases c:j=q (s+k)
  ·exact⟨s+k,by omega,by omega,c.symm⟩
  ·obtain⟨u,h1,h2,h3⟩:=R.enters s j hs k (R.step_in (s+k) j c h);exact⟨u,h1,by omega,h3⟩
theorem Run.leaves{P:Prob}{S:Nat->Tab}{r q:Nat->Nat}(R:Run P S r q)(s j:Nat)(hs:InB P (S s) j):
  ∀ k,¬InB P (S (s+k)) j->∃ u,s<=u/\u<s+k/\(S u).h (r u)=j
 | 0,h=>absurd hs h
 | k+1,h=>by
  by_cases c:InB P (S (s+k)) j
  ·refine⟨s+k,by omega,by omega,?_⟩;apply Classical.byContradiction;intro hc;exact h (R.step_out (s+k) j (fun e=>hc e.symm) c)
  ·obtain⟨u,h1,h2,h3⟩:=R.leaves s j hs k c;exact⟨u,h1,by omega,h3⟩
theorem Run.q_out{P:Prob}{S:Nat->Tab}{r q:Nat->Nat}(R:Run P S r q)(t:Nat):¬InB P (S t) (q t):=by
 rintro⟨i,hi,he⟩;apply (R.piv t).neg;refine ZV.ln fun g hg=>?_;rw[<-he];exact(R.inv t).gbasic hg hi
def VA(P:Prob)(S:Tab):Mat:=fun g k=>S.G g (pj P k)
theorem Run.le_step{P:Prob}{S:Nat->Tab}{r q:Nat->Nat}(R:Run P S r q)(t:Nat):
  Le2 P.g (P.m+1) (VA P (S t)) (S t).d (VA P (S (t+1))) (S (t+1)).d/\
  (Le2 P.g (P.m+1) (VA P (S (t+1))) (S (t+1)).d (VA P (S t)) (S t).d->ZV (P.m+1) (fun k=>(S t).T (r t) (pj P k))):=by
 have p:=R.piv t;have o:=outer_LN2 p.neg (R.feas t (r t) p.hr);have e:∀ x k,x<P.g->k<P.m+1->- (S t).G x (q t)*(S t).T (r t) (pj P k) =
   (S t).d*VA P (S (t+1)) x k-(S (t+1)).d*VA P (S t) x k:=by
  intro x k hx hk;have:=turned_G (R.inv t) p.hr p.hq p.hp hx (pj_le P R.hm hk);rw[<-R.next t] at this;have hd:(S (t+1)).d=(S t).T (r t) (q t):=by rw[R.next t];rfl
  simp only[VA];rw[this,hd];grind
 refine⟨o.1.congr e,fun h=>o.2 ?_⟩;refine LN2.congr h fun x k hx hk=>?_;rw[e x k hx hk];omega
theorem Run.le_many{P:Prob}{S:Nat->Tab}{r q:Nat->Nat}(R:Run P S r q)(s:Nat):
  ∀ k,Le2 P.g (P.m+1) (VA P (S s)) (S s).d (VA P (S (s+k))) (S (s+k)).d
 | 0=>Le2.refl _ _ _ _
 | k+1=>Le2.trans (R.inv s).d (R.inv (s+k)).d (R.inv (s+k+1)).d (R.le_many s k) (R.le_step (s+k)).1
theorem Run.le{P:Prob}{S:Nat->Tab}{r q:Nat->Nat}(R:Run P S r q){s u:Nat}(h:s<=u):
  Le2 P.g (P.m+1) (VA P (S s)) (S s).d (VA P (S u)) (S u).d:=by
 have:=R.le_many s (u-s);rwa [show s+(u-s)=u by omega] at this
theorem Run.stuck{P:Prob}{S:Nat->Tab}{r q:Nat->Nat}(R:Run P S r q){s u:Nat}(hh:∀ i,i<P.K->(S s).h i=(S u).h i){t:Nat}(h1:s<=t)(h2:t<u):
  ZV (P.m+1) (fun k=>(S t).T (r t) (pj P k)):=by
 refine(R.le_step t).2 ?_;have a:=R.le (s:=t+1) (u:=u) (by omega);have b:=R.le h1;have same:=same_of_h (R.inv s) (R.inv u) hh;have c:Le2 P.g (P.m+1) (VA P (S u)) (S u).d (VA P (S s)) (S s).d:=by
  refine(Le2.refl P.g (P.m+1) (VA P (S u)) (S u).d).congr fun x k hx hk=>?_;simp only[VA];rw[same.1,same.2.2 x _ hx (pj_le P R.hm hk)]
 exact Le2.trans (R.inv (t+1)).d (R.inv u).d (R.inv t).d a (Le2.trans (R.inv u).d (R.inv s).d (R.inv t).d c b)
def Zat(P:Prob)(S:Tab)(j:Nat):Prop:=∀ i,i<P.K->S.h i=j->ZV (P.m+1) (fun k=>S.T i (pj P k))
theorem Run.z_step{P:Prob}{S:Nat->Tab}{r q:Nat->Nat}(R:Run P S r q)(t:Nat)(hz:ZV (P.m+1) (fun k=>(S t).T (r t) (pj P k)))(j:Nat):Zat P (S t) j<->Zat P (S (t+1)) j:=by
 have p:=R.piv t;have e:∀ i,i<P.K->i≠r t->∀ k,k<P.m+1->(S t).d*(S (t+1)).T i (pj P k)=(S t).T i (pj P k)*(S t).T (r t) (q t):=by
  intro i hi hir k hk;have:=turned_T (R.inv t) p.hr p.hq p.hp hi (pj_le P R.hm hk);rw[<-R.next t,if_neg hir] at this;have h0:(S t).T (r t) (pj P k)=0:=hz k hk;rw[this,h0,Int.mul_zero];omega
 have hd:=(R.inv t).d;constructor
 ·intro h i hi he k hk;show(S (t+1)).T i (pj P k)=0;by_cases c:i=r t
  ·subst c;rw[R.next t];simp only[turned,if_true];exact hz k hk
  ·rw[R.next t] at he;simp only[turned] at he;rw[if_neg c] at he;have h0:(S t).T i (pj P k)=0:=h i hi he k hk;have h1:=e i hi c k hk;rw[h0,Int.zero_mul] at h1;rcases Int.mul_eq_zero.mp h1 with h2 | h2
   ·omega
   ·exact h2
 ·intro h i hi he k hk;show(S t).T i (pj P k)=0;by_cases c:i=r t
  ·subst c;exact hz k hk
  ·have h0:(S (t+1)).T i (pj P k)=0:=h i hi (by rw[R.next t];simp only[turned];rw[if_neg c];exact he) k hk;have h1:=e i hi c k hk;rw[h0,Int.mul_zero] at h1;rcases Int.mul_eq_zero.mp h1.symm with h2 | h2
   ·exact h2
   ·have:=p.hp;omega
theorem Run.z_all{P:Prob}{S:Nat->Tab}{r q:Nat->Nat}(R:Run P S r q){s u:Nat}(hz:∀ t,s<=t->t<u->ZV (P.m+1) (fun k=>(S t).T (r t) (pj P k)))(j:Nat):
  ∀ k,s+k<=u->(Zat P (S s) j<->Zat P (S (s+k)) j)
 | 0,_=>Iff.rfl
 | k+1,h=>(R.z_all hz j k (by omega)).trans (R.z_step (s+k) (hz (s+k) (by omega) (by omega)) j)
theorem goal_change{P:Prob}{S R:Tab}(I:Inv P S)(J:Inv P R){g s:Nat}(hg:g<P.g)(hs:s<P.n+P.K):
  R.d*S.G g s=S.d*R.G g s+sm P.K (fun i=>- S.T i s*R.G g (S.h i)):=by
 have hc:∀ l,l<P.K->S.d*R.T l s=sm P.K (fun i=>S.T i s*R.T l (S.h i)):=by
  refine J.inj (fun l=>S.d*R.T l s) (fun l=>sm P.K (fun i=>S.T i s*R.T l (S.h i))) ?_;intro k hk;have e1:sm P.K (fun i=>P.a k (R.h i)*(S.d*R.T i s))=S.d*(R.d*P.a k s):=by
   rw[<-J.col k s hk (by omega),<-sm_mul];exact sm_congr fun i _=>by grind
  have e2:sm P.K (fun l=>P.a k (R.h l)*sm P.K (fun i=>S.T i s*R.T l (S.h i)))=R.d*(S.d*P.a k s):=by
   rw[<-I.col k s hk (by omega),<-sm_mul];have:sm P.K (fun l=>P.a k (R.h l)*sm P.K (fun i=>S.T i s*R.T l (S.h i))) =
     sm P.K (fun l=>sm P.K (fun i=>P.a k (R.h l)*(S.T i s*R.T l (S.h i)))):=
    sm_congr fun l _=>(sm_mul _ _ _).symm
   rw[this,sm_comm];refine sm_congr fun i hi=>?_;have e3:sm P.K (fun l=>P.a k (R.h l)*(S.T i s*R.T l (S.h i)))=S.T i s*sm P.K (fun l=>P.a k (R.h l)*R.T l (S.h i)):=by
    rw[<-sm_mul];exact sm_congr fun l _=>by grind
   rw[e3,J.col k (S.h i) hk (Nat.le_of_lt (I.h i hi))];grind
  rw[e1,e2];grind
 have e4:sm P.K (fun i=>- S.T i s*R.G g (S.h i)) =
   R.d*sm P.K (fun i=>P.c g (S.h i)*S.T i s)-sm P.K (fun l=>P.c g (R.h l)*(S.d*R.T l s)):=by
  have a1:sm P.K (fun l=>P.c g (R.h l)*(S.d*R.T l s))=sm P.K (fun i=>S.T i s*sm P.K (fun l=>P.c g (R.h l)*R.T l (S.h i))):=by
   have:sm P.K (fun l=>P.c g (R.h l)*(S.d*R.T l s)) =
     sm P.K (fun l=>sm P.K (fun i=>P.c g (R.h l)*(S.T i s*R.T l (S.h i)))):=
    sm_congr fun l hl=>by rw[hc l hl,sm_mul]
   rw[this,sm_comm];refine sm_congr fun i _=>?_;rw[<-sm_mul];exact sm_congr fun l _=>by grind
  rw[a1,<-sm_mul,<-sm_sub];refine sm_congr fun i hi=>?_;rw[J.goal g _ hg (Nat.le_of_lt (I.h i hi))];grind
 rw[e4,I.goal g s hg (by omega),J.goal g s hg (by omega)];have e5:sm P.K (fun l=>P.c g (R.h l)*(S.d*R.T l s))=S.d*sm P.K (fun l=>P.c g (R.h l)*R.T l s):=by
  rw[<-sm_mul];exact sm_congr fun l _=>by grind
 rw[e5];grind
theorem Run.ends{P:Prob}{S:Nat->Tab}{r q:Nat->Nat}(R:Run P S r q):False:=by
 obtain⟨s,u,hsu,_,hcode⟩:=pigeon ((P.n+P.K)^P.K) (fun t=>code (P.n+P.K) (S t).h P.K)
  (fun t _=>code_lt (R.inv t).h)
 have hh:=code_inj (R.inv s).h (R.inv u).h hcode;have hz:∀ t,s<=t->t<u->ZV (P.m+1) (fun k=>(S t).T (r t) (pj P k)):=fun t h1 h2=>R.stuck hh h1 h2;have hin:∀ j,InB P (S s) j<->InB P (S u) j:=fun j=>
  ⟨fun⟨i,hi,he⟩=>⟨i,hi,by rw[<-hh i hi];exact he⟩,fun⟨i,hi,he⟩=>⟨i,hi,by rw[hh i hi];exact he⟩⟩
 have fick:∀ j t t',s<=t->t<u->s<=t'->t'<u->InB P (S t) j->¬InB P (S t') j->
   (∃ v,s<=v/\v<u/\q v=j)/\∃ v,s<=v/\v<u/\(S v).h (r v)=j:=by
  intro j t t' h1 h2 h3 h4 hi ho;have ent:∀ a b,s<=a->a<=b->b<=u->¬InB P (S a) j->InB P (S b) j->∃ v,s<=v/\v<u/\q v=j:=by
   intro a b h1 h2 h3 ho hi;obtain⟨v,h4,h5,h6⟩:=R.enters a j ho (b-a) (by rwa [show a+(b-a)=b by omega]);exact⟨v,by omega,by omega,h6⟩
  have lea:∀ a b,s<=a->a<=b->b<=u->InB P (S a) j->¬InB P (S b) j->∃ v,s<=v/\v<u/\(S v).h (r v)=j:=by
   intro a b h1 h2 h3 hi ho;obtain⟨v,h4,h5,h6⟩:=R.leaves a j hi (b-a) (by rwa [show a+(b-a)=b by omega]);exact⟨v,by omega,by omega,h6⟩
  by_cases cu:InB P (S u) j
  ·have cs:=(hin j).2 cu;exact⟨ent t' u h3 (by omega) (by omega) ho cu,lea s t' (by omega) h3 (by omega) cs ho⟩
  ·have cs:¬InB P (S s) j:=fun h=>cu ((hin j).1 h);exact⟨ent s t (by omega) h1 (by omega) cs hi,lea t u h1 (by omega) (by omega) hi cu⟩
 obtain⟨t',ht1,ht2,hmax⟩:=exists_max q s (u-s-1);rw[show s+(u-s-1+1)=u by omega] at ht2 hmax;have hinT:∃ t0,s<=t0/\t0<u/\InB P (S t0) (q t'):=by
  have hq1:InB P (S (t'+1)) (q t'):=⟨r t',(R.piv t').hr,by rw[R.next t'];simp[turned]⟩;by_cases c:t'+1=u
  ·rw[c] at hq1;exact⟨s,by omega,by omega,(hin _).2 hq1⟩
  ·exact⟨t'+1,by omega,by omega,hq1⟩
 obtain⟨t0,h01,h02,h03⟩:=hinT;obtain⟨_,t,h1,h2,hl⟩:=fick (q t') t0 t' h01 h02 ht1 ht2 h03 (R.q_out t');have p:=R.piv t;have p':=R.piv t';have hinb:InB P (S t) (q t'):=⟨r t,p.hr,hl⟩;have hne:q t≠q t':=fun e=>R.q_out t (by rw[e];exact hinb);have hlt:q t<q t':=Nat.lt_of_le_of_ne (hmax t h1 h2) hne;apply p.neg;refine LN.unscale (R.inv t').d ?_;have e:∀ g,g<P.g->(S t).d*(S t').G g (q t)+sm P.K (fun i=>- (S t).T i (q t)*(S t').G g ((S t).h i)) =
   (S t').d*(S t).G g (q t):=fun g hg=>(goal_change (R.inv t) (R.inv t') hg p.hq).symm
 refine LN.congr ?_ e;refine LN.add ((p'.first (q t) hlt).smul (by have:=(R.inv t).d;omega)) ?_;refine LN.sum (fun i g=>- (S t).T i (q t)*(S t').G g ((S t).h i)) P.K fun i hi=>?_;by_cases cr:i=r t
 ·subst cr;have h3:=(neg_LN p'.neg).smul (a:=(S t).T (r t) (q t)) (by have:=p.hp;omega);refine h3.congr fun g _=>?_;rw[hl];grind
 ·by_cases cb:InB P (S t') ((S t).h i)
  ·obtain⟨l,hl2,he⟩:=cb;refine ZV.ln fun g hg=>?_;show-(S t).T i (q t)*(S t').G g ((S t).h i)=0;rw[<-he,(R.inv t').gbasic hg hl2,Int.mul_zero]
  ·obtain⟨⟨v,hv1,hv2,hv3⟩,_⟩:=fick ((S t).h i) t t' h1 h2 ht1 ht2 ⟨i,hi,rfl⟩ cb;have hle:=hmax v hv1 hv2;rw[hv3] at hle;have hne2:(S t).h i≠q t':=fun he=>cr ((R.inv t).hinj hi p.hr (by rw[he,hl]));have hlt2:(S t).h i<q t':=Nat.lt_of_le_of_ne hle hne2;have hneg:(S t).T i (q t)<=0:=by
    apply Classical.byContradiction;intro hc;have hmin:=(p.min i hi (by omega)).2;have zt':Zat P (S t') ((S t).h i):=fun l hl2 he=>absurd ⟨l,hl2,he⟩ cb;have zt:Zat P (S t) ((S t).h i):=by
     have a1:=R.z_all hz ((S t).h i) (t-s) (by omega);have a2:=R.z_all hz ((S t).h i) (t'-s) (by omega);rw[show s+(t-s)=t by omega] at a1;rw[show s+(t'-s)=t' by omega] at a2;exact a1.1 (a2.2 zt')
    have zi:=zt i hi rfl;have zr:=hz t h1 h2;have:=hmin (by
     intro k hk;show(S t).T i (pj P k)*(S t).T (r t) (q t)-(S t).T (r t) (pj P k)*(S t).T i (q t)=0;have b1:(S t).T i (pj P k)=0:=zi k hk;have b2:(S t).T (r t) (pj P k)=0:=zr k hk;rw[b1,b2];omega)
    rw[hl] at this;omega
   exact(p'.first _ hlt2).smul (by omega)
end SN
end
section
namespace SN
structure Final(P:Prob)(S:Tab):Prop where
 inv:Inv P S
 feas:Feas P S
 opt:∀ j,j<P.n+P.K->LN P.g (fun g=>S.G g j)
theorem Inv.point{P:Prob}{S:Tab}(I:Inv P S)(z:Nat->Int)(D:Int)(h:∀ k,k<P.K->sm (P.n+P.K) (fun j=>P.a k j*z j)=D*P.a k (P.n+P.K)):
  ∀ i,i<P.K->sm (P.n+P.K) (fun j=>S.T i j*z j)=D*S.T i (P.n+P.K):=by
 refine I.inj (fun i=>sm (P.n+P.K) (fun j=>S.T i j*z j)) (fun i=>D*S.T i (P.n+P.K)) ?_;intro k hk;have e1:sm P.K (fun i=>P.a k (S.h i)*(D*S.T i (P.n+P.K)))=D*(S.d*P.a k (P.n+P.K)):=by
  rw[<-I.col k _ hk (Nat.le_refl _),<-sm_mul];exact sm_congr fun i _=>by grind
 have e2:sm P.K (fun i=>P.a k (S.h i)*sm (P.n+P.K) (fun j=>S.T i j*z j))=S.d*(D*P.a k (P.n+P.K)):=by
  rw[<-h k hk,<-sm_mul];have:sm P.K (fun i=>P.a k (S.h i)*sm (P.n+P.K) (fun j=>S.T i j*z j)) =
    sm P.K (fun i=>sm (P.n+P.K) (fun j=>P.a k (S.h i)*(S.T i j*z j))):=sm_congr fun i _=>(sm_mul _ _ _).symm
  rw[this,sm_comm];refine sm_congr fun j hj=>?_;have e3:sm P.K (fun i=>P.a k (S.h i)*(S.T i j*z j))=sm P.K (fun i=>P.a k (S.h i)*S.T i j)*z j:=by
   rw[<-sm_mulr];exact sm_congr fun i _=>by grind
  rw[e3,I.col k j hk (by omega)];grind
 rw[e1,e2];grind
theorem opt_primal{P:Prob}{S:Tab}(F:Final P S)(hc0:∀ g,g<P.g->P.c g (P.n+P.K)=0)(z:Nat->Int)(D:Int)(hz:∀ j,j<P.n+P.K->0<=z j)(h:∀ k,k<P.K->sm (P.n+P.K) (fun j=>P.a k j*z j)=D*P.a k (P.n+P.K)):
  LN P.g (fun g=>D*S.G g (P.n+P.K)-S.d*sm (P.n+P.K) (fun j=>P.c g j*z j)):=by
 have hs:=LN.sum (L:=P.g) (fun j g=>z j*S.G g j) (P.n+P.K) (fun j hj=>(F.opt j hj).smul (hz j hj));refine hs.congr fun g hg=>?_;have hp:=F.inv.point z D h;have e1:sm (P.n+P.K) (fun j=>z j*S.G g j) =
   sm (P.n+P.K) (fun j=>sm P.K (fun i=>P.c g (S.h i)*(S.T i j*z j))-S.d*(P.c g j*z j)):=by
  refine sm_congr fun j hj=>?_;rw[F.inv.goal g j hg (by omega),Int.mul_sub,<-sm_mul];have:sm P.K (fun i=>z j*(P.c g (S.h i)*S.T i j))=sm P.K (fun i=>P.c g (S.h i)*(S.T i j*z j)):=
   sm_congr fun i _=>by grind
  rw[this];grind
 rw[e1,sm_sub,sm_mul,sm_comm];have e2:sm P.K (fun i=>sm (P.n+P.K) (fun j=>P.c g (S.h i)*(S.T i j*z j)))=D*S.G g (P.n+P.K):=by
  rw[F.inv.goal g _ hg (Nat.le_refl _),hc0 g hg,Int.mul_zero,Int.sub_zero,<-sm_mul];refine sm_congr fun i hi=>?_;rw[sm_mul,hp i hi];grind
 rw[e2]
theorem opt_dual{P:Prob}{S:Tab}(F:Final P S)(hm:P.m<=P.K)(hg:0<P.g)(hc0:∀ k,k<P.m+1->P.c 0 (pj P k)=0)(u:Nat->Int)(D:Int)(h:∀ j,j<P.n+P.K->D*P.c 0 j<=sm P.K (fun k=>u k*P.a k j)):
  LN (P.m+1) (fun k=>S.d*sm P.K (fun l=>u l*P.a l (pj P k))-D*S.G 0 (pj P k)):=by
 have I:=F.inv;have hs:=LN.sum (L:=P.m+1) (fun i k=>(sm P.K (fun l=>u l*P.a l (S.h i))-D*P.c 0 (S.h i))*S.T i (pj P k)) P.K
  (fun i hi=>(F.feas i hi).smul (by have:=h (S.h i) (I.h i hi);omega))
 refine hs.congr fun k hk=>?_;have hp:=pj_le P hm hk;rw[I.goal 0 _ hg hp,hc0 k hk,Int.mul_zero,Int.sub_zero,<-sm_mul,<-sm_mul];have e1:sm P.K (fun l=>S.d*(u l*P.a l (pj P k)))=sm P.K (fun i=>sm P.K (fun l=>u l*P.a l (S.h i))*S.T i (pj P k)):=by
  have:sm P.K (fun l=>S.d*(u l*P.a l (pj P k)))=sm P.K (fun l=>sm P.K (fun i=>u l*(P.a l (S.h i)*S.T i (pj P k)))):=by
   refine sm_congr fun l hl=>?_;rw[sm_mul,I.col l _ hl hp];grind
  rw[this,sm_comm];refine sm_congr fun i _=>?_;rw[<-sm_mulr];exact sm_congr fun l _=>by grind
 rw[e1,<-sm_sub];exact sm_congr fun i _=>by grind
def Units(P:Prob):Prop:=∀ k i,k<P.K->i<P.K->P.a k (P.n+i)=if k=i then 1 else 0
theorem Inv.units{P:Prob}{S:Tab}(I:Inv P S)(U:Units P){i j:Nat}(hi:i<P.K)(hj:j<=P.n+P.K):
  sm P.K (fun k=>S.T i (P.n+k)*P.a k j)=S.T i j:=by
 refine I.inj (fun i=>sm P.K (fun k=>S.T i (P.n+k)*P.a k j)) (fun i=>S.T i j) ?_ i hi;intro l hl;rw[I.col l j hl hj];have:sm P.K (fun i=>P.a l (S.h i)*sm P.K (fun k=>S.T i (P.n+k)*P.a k j)) =
   sm P.K (fun i=>sm P.K (fun k=>P.a l (S.h i)*(S.T i (P.n+k)*P.a k j))):=sm_congr fun i _=>(sm_mul _ _ _).symm
 rw[this,sm_comm];have e:sm P.K (fun k=>sm P.K (fun i=>P.a l (S.h i)*(S.T i (P.n+k)*P.a k j))) =
   sm P.K (fun k=>if k=l then S.d*P.a l j else 0):=by
  refine sm_congr fun k hk=>?_;have e2:sm P.K (fun i=>P.a l (S.h i)*(S.T i (P.n+k)*P.a k j))=sm P.K (fun i=>P.a l (S.h i)*S.T i (P.n+k))*P.a k j:=by
   rw[<-sm_mulr];exact sm_congr fun i _=>by grind
  rw[e2,I.col l _ hl (by omega),U l k hl hk];by_cases c:k=l
  ·rw[if_pos c.symm,if_pos c,c];grind
  ·rw[if_neg (fun e=>c e.symm),if_neg c];grind
 rw[e,sm_ite hl]
theorem Inv.prices{P:Prob}{S:Tab}(I:Inv P S)(U:Units P){g:Nat}(hg:g<P.g)(hcu:∀ k,k<P.K->P.c g (P.n+k)=0){j:Nat}(hj:j<=P.n+P.K):
  sm P.K (fun k=>S.G g (P.n+k)*P.a k j)=S.G g j+S.d*P.c g j:=by
 rw[I.goal g j hg hj];have e:sm P.K (fun k=>S.G g (P.n+k)*P.a k j)=sm P.K (fun k=>sm P.K (fun i=>P.c g (S.h i)*(S.T i (P.n+k)*P.a k j))):=by
  refine sm_congr fun k hk=>?_;rw[I.goal g _ hg (by omega),hcu k hk,Int.mul_zero,Int.sub_zero,<-sm_mulr];exact sm_congr fun i _=>by grind
 rw[e,sm_comm];have e2:sm P.K (fun i=>sm P.K (fun k=>P.c g (S.h i)*(S.T i (P.n+k)*P.a k j)))=sm P.K (fun i=>P.c g (S.h i)*S.T i j):=by
  refine sm_congr fun i hi=>?_;rw[sm_mul,I.units U hi hj]
 rw[e2];omega
def Xc(P:Prob)(S:Tab)(j:Nat):Int:=sm P.K (fun i=>if S.h i=j then S.T i (P.n+P.K) else 0)
theorem Xc_basic{P:Prob}{S:Tab}(I:Inv P S){i:Nat}(hi:i<P.K):Xc P S (S.h i)=S.T i (P.n+P.K):=by
 simp only[Xc];rw[sm_one hi]
 ·rw[if_pos rfl]
 ·intro k hk hki;rw[if_neg (fun e=>hki (I.hinj hk hi e))]
theorem Xc_out{P:Prob}{S:Tab}{j:Nat}(h:¬InB P S j):Xc P S j=0:=
 sm_zero fun i hi=>if_neg fun e=>h ⟨i,hi,e⟩
theorem Xc_nonneg{P:Prob}{S:Tab}(F:Feas P S)(j:Nat):0<=Xc P S j:=by
 refine sm_nonneg fun i hi=>?_;by_cases c:S.h i=j
 ·rw[if_pos c];have:=(F i hi).first (by omega)
  exact this
 ·rw[if_neg c];exact Int.le_refl 0
theorem sm_basic{P:Prob}{S:Tab}(I:Inv P S)(f:Nat->Int)(x:Nat->Int):
  sm (P.n+P.K) (fun j=>f j*sm P.K (fun i=>if S.h i=j then x i else 0))=sm P.K (fun i=>f (S.h i)*x i):=by
 have:sm (P.n+P.K) (fun j=>f j*sm P.K (fun i=>if S.h i=j then x i else 0)) =
   sm (P.n+P.K) (fun j=>sm P.K (fun i=>f j*(if S.h i=j then x i else 0))):=sm_congr fun j _=>(sm_mul _ _ _).symm
 rw[this,sm_comm];refine sm_congr fun i hi=>?_;rw[sm_one (I.h i hi)]
 ·rw[if_pos rfl]
 ·intro j _ hj;rw[if_neg (fun e=>hj e.symm),Int.mul_zero]
theorem Xc_keeps{P:Prob}{S:Tab}(I:Inv P S){k:Nat}(hk:k<P.K):
  sm (P.n+P.K) (fun j=>P.a k j*Xc P S j)=S.d*P.a k (P.n+P.K):=by
 rw[<-I.col k _ hk (Nat.le_refl _)];exact sm_basic I (fun j=>P.a k j) (fun i=>S.T i (P.n+P.K))
theorem Xc_goal{P:Prob}{S:Tab}(I:Inv P S){g:Nat}(hg:g<P.g)(hc0:P.c g (P.n+P.K)=0):
  sm (P.n+P.K) (fun j=>P.c g j*Xc P S j)=S.G g (P.n+P.K):=by
 rw[I.goal g _ hg (Nat.le_refl _),hc0,Int.mul_zero,Int.sub_zero];exact sm_basic I (fun j=>P.c g j) (fun i=>S.T i (P.n+P.K))
theorem count_basic{P:Prob}{S:Tab}(I:Inv P S)(b:Nat->Int)(h1:∀ j,j<P.n+P.K->InB P S j->b j=1)(h0:∀ j,j<P.n+P.K->¬InB P S j->b j=0):
  sm (P.n+P.K) b=P.K:=by
 have e:sm (P.n+P.K) b=sm (P.n+P.K) (fun j=>1*sm P.K (fun i=>if S.h i=j then 1 else 0)):=by
  refine sm_congr fun j hj=>?_;rw[Int.one_mul];by_cases c:InB P S j
  ·rw[h1 j hj c];obtain⟨i,hi,he⟩:=c;rw[sm_one hi]
   ·rw[if_pos he]
   ·intro k hk hki;rw[if_neg (fun e=>hki (I.hinj hk hi (by rw[e,he])))]
  ·rw[h0 j hj c];exact(sm_zero fun i hi=>if_neg fun e=>c ⟨i,hi,e⟩).symm
 rw[e,sm_basic I (fun _=>1) (fun _=>1)];have:∀ K:Nat,sm K (fun _=>(1:Int)*1)=K:=by
  intro K;induction K with
  | zero=>rfl
  | succ K ih=>simp only[sm];rw[ih];omega
 exact this P.K
def edge(P:Prob)(S:Tab)(s j:Nat):Int:=(if j=s then S.d else 0)-sm P.K (fun i=>if S.h i=j then S.T i s else 0)
theorem edge_keeps{P:Prob}{S:Tab}(I:Inv P S){k s:Nat}(hk:k<P.K)(hs:s<P.n+P.K):
  sm (P.n+P.K) (fun j=>P.a k j*edge P S s j)=0:=by
 have e:sm (P.n+P.K) (fun j=>P.a k j*edge P S s j) =
   sm (P.n+P.K) (fun j=>(if j=s then P.a k s*S.d else 0)-P.a k j*sm P.K (fun i=>if S.h i=j then S.T i s else 0)):=by
  refine sm_congr fun j _=>?_;simp only[edge];rw[Int.mul_sub];congr 1;by_cases c:j=s
  ·rw[if_pos c,if_pos c,c]
  ·rw[if_neg c,if_neg c,Int.mul_zero]
 rw[e,sm_sub,sm_ite hs,sm_basic I (fun j=>P.a k j) (fun i=>S.T i s),I.col k s hk (by omega)];grind
theorem edge_out{P:Prob}{S:Tab}{s j:Nat}(h:¬InB P S j):edge P S s j=if j=s then S.d else 0:=by
 simp only[edge];rw[sm_zero fun i hi=>if_neg fun e=>h ⟨i,hi,e⟩];omega
end SN
end
section
namespace SN
open Vbahar (Point Row State Journey)
theorem dot_sm:∀ (n:Nat) (a b:List Int),a.length=n->b.length=n->
  Vbahar.dot a b=sm n (fun i=>a.getD i 0*b.getD i 0)
 | 0,[],[],_,_=>rfl
 | n+1,x::a,y::b,ha,hb=>by
  simp only[Vbahar.dot];rw[dot_sm n a b (by simpa using ha) (by simpa using hb),sm_head];rfl
theorem foldl_add(f:Nat->Int):∀ (l:List Int) (x:Int),l.foldl (fun a b=>a+b) x=x+sm l.length (fun i=>l.getD i 0)
 | [],x=>by simp[sm]
 | y::l,x=>by
  rw[List.foldl_cons,foldl_add f l,List.length_cons,sm_head];simp only[List.getD_cons_zero,List.getD_cons_succ];omega
theorem foldl_sm(l:List Int):l.foldl (fun a b=>a+b) 0=sm l.length (fun i=>l.getD i 0):=by
 rw[foldl_add (fun _=>0),Int.zero_add]
theorem getD_map_range{n i:Nat}(f:Nat->Int)(h:i<n):((List.range n).map f).getD i 0=f i:=by
 simp[gDe,h]
theorem getD_eraseIdx(l:List Int)(j c:Nat):(l.eraseIdx j).getD c 0=l.getD (if c<j then c else c+1) 0:=by
 simp only[gDe,List.getElem?_eraseIdx];by_cases h:c<j
 ·simp[h]
 ·simp[h]
theorem det_dt:∀ (n:Nat) (m:List (List Int)),m.length=n->(∀ r,r∈m->r.length=n)->
  Vbahar.det n m=dt n (fun r c=>(m.getD r []).getD c 0)
 | 0,m,_,_=>by simp[Vbahar.det,dt]
 | n+1,r::rest,hl,hr=>by
  have hrl:r.length=n+1:=hr r (by simp);simp only[Vbahar.det,dt];rw[foldl_sm];have el:(List.map (fun x:Int×Nat=>if x.1=0 then 0 else (if x.2%2=0 then x.1 else -x.1) *
    Vbahar.det n (rest.map fun l=>l.eraseIdx x.2)) r.zipIdx).length=n+1:=by simp[hrl]
  rw[el];refine sm_congr fun j hj=>?_;have ej:(List.map (fun x:Int×Nat=>if x.1=0 then 0 else (if x.2%2=0 then x.1 else -x.1) *
    Vbahar.det n (rest.map fun l=>l.eraseIdx x.2)) r.zipIdx).getD j 0 =
    (if r.getD j 0=0 then 0 else (if j%2=0 then r.getD j 0 else-r.getD j 0)*Vbahar.det n (rest.map fun l=>l.eraseIdx j)):=by
   have hj':j<r.length:=by omega
   simp[gDe,List.getElem?_map,List.getElem?_zipIdx,hj']
  rw[ej];have ih:=det_dt n (rest.map fun l=>l.eraseIdx j) (by simpa using hl) (by
   intro x hx;obtain⟨y,hy,rfl⟩:=List.mem_map.mp hx;have:=hr y (by simp[hy]);rw[List.length_eraseIdx];rw[if_pos (by omega),this];rfl)
  rw[ih];have em:dt n (fun r' c=>((rest.map fun l=>l.eraseIdx j).getD r' []).getD c 0) =
    dt n (minor j (fun r_1 c=>((r::rest).getD r_1 []).getD c 0)):=by
   refine dt_congr fun r' c hr' hc=>?_;simp only[minor,List.getD_cons_succ];have hl':rest.length=n:=by simpa using hl
   have:(rest.map fun l=>l.eraseIdx j).getD r' []=(rest.getD r' []).eraseIdx j:=by
    simp[gDe,List.getElem?_map,show r'<rest.length by omega]
   rw[this,getD_eraseIdx]
  rw[em];simp only[List.getD_cons_zero,sg];by_cases h0:r.getD j 0=0
  ·rw[if_pos h0,h0];simp
  ·rw[if_neg h0];by_cases h2:j%2=0
   ·rw[if_pos h2,if_pos h2];simp
   ·rw[if_neg h2,if_neg h2];simp
theorem mem_choose{α:Type}:∀ {l' l:List α},l'.Sublist l->l'∈Vbahar.choose l'.length l:=by
 intro l' l h;induction h with
 | slnil=>simp[Vbahar.choose]
 | cons a h ih=>
  rename_i l1 l2;cases l1 with
  | nil=>simp[Vbahar.choose]
  | cons x r=>
   simp only[List.length_cons,Vbahar.choose];exact List.mem_append_right _ ih
 | cons_cons a h ih=>
  simp only[List.length_cons,Vbahar.choose];exact List.mem_append_left _ (List.mem_map.mpr ⟨_,ih,rfl⟩)
theorem choose_sub{α:Type}:∀ (k:Nat) (l:List α) (x:List α),x∈Vbahar.choose k l->x.length=k/\∀ y,y∈x->y∈l
 | 0,l,x,h=>by
  simp only[Vbahar.choose,List.mem_singleton] at h;subst h;exact⟨rfl,fun y hy=>by cases hy⟩
 | k+1,[],x,h=>by simp[Vbahar.choose] at h
 | k+1,a::r,x,h=>by
  simp only[Vbahar.choose,List.mem_append,List.mem_map] at h;rcases h with ⟨y,hy,rfl⟩ | h
  ·have:=choose_sub k r y hy;refine⟨by simp[this.1],fun z hz=>?_⟩;rcases List.mem_cons.mp hz with e | e
   ·rw[e];simp
   ·exact List.mem_cons_of_mem _ (this.2 z e)
  ·have:=choose_sub (k+1) r x h;exact⟨this.1,fun z hz=>List.mem_cons_of_mem _ (this.2 z hz)⟩
theorem meeting_len{n:Nat}{rows:List Row}{p:Point}(h:Vbahar.meeting n rows=some p):0<p.den/\p.nums.length=n:=by
 simp only[Vbahar.meeting] at h;split at h
 ·cases h
 ·split at h
  ·cases h;simp_all
  ·cases h;refine⟨?_,by simp⟩;show 0 < - Vbahar.det n (rows.map fun r=>r.1);omega
theorem meeting_is{n:Nat}(rows:List Row)(hl:rows.length=n)(hr:∀ r,r∈rows->r.1.length=n)(M:Mat)(b:Nat->Int)(hM:∀ r c,r<n->c<n->(rows.getD r ([],0)).1.getD c 0=M r c)(hb:∀ r,r<n->(rows.getD r ([],0)).2=b r)(hd:dt n M≠0)(X:Nat->Int)(d:Int)(hX:∀ r,r<n->sm n (fun j=>M r j*X j)=d*b r):
  ∃ p,Vbahar.meeting n rows=some p/\∀ i,i<n->p.nums.getD i 0*d=X i*p.den:=by
 have eM:Vbahar.det n (rows.map fun r=>r.1)=dt n M:=by
  rw[det_dt n _ (by simpa using hl) (by
   intro r hr';obtain⟨y,hy,rfl⟩:=List.mem_map.mp hr';exact hr y hy)]
  refine dt_congr fun r c h1 h2=>?_;rw[<-hM r c h1 h2];simp[gDe,List.getElem?_map,show r<rows.length by omega]
 have eB:∀ i,i<n->Vbahar.det n (rows.map fun r=>r.1.set i r.2)=dt n (upd M i b):=by
  intro i hi;rw[det_dt n _ (by simpa using hl) (by
   intro r hr';obtain⟨y,hy,rfl⟩:=List.mem_map.mp hr';simpa using hr y hy)]
  refine dt_congr fun r c h1 h2=>?_;have h3:r<rows.length:=by omega
  have h4:(rows.getD r ([],0)).1.length=n:=by
   rw[gDe,gEe h3];exact hr _ (List.getElem_mem h3)
  have e1:(rows.map fun r=>r.1.set i r.2).getD r []=(rows.getD r ([],0)).1.set i (rows.getD r ([],0)).2:=by
   simp[gDe,List.getElem?_map,h3]
  rw[e1,hb r h1];simp only[upd];by_cases c1:c=i
  ·subst c1;rw[if_pos rfl,gDe,List.getElem?_set_self (by omega)];rfl
  ·rw[if_neg c1,<-hM r c h1 h2,gDe,List.getElem?_set_ne (by omega),<-gDe]
 have key:∀ i,i<n->d*dt n (upd M i b)=X i*dt n M:=by
  intro i hi;rw[<-cramer M hi X (fun r=>d*b r) hX];have:=dt_lin M hi d 0 b b;simp only[Int.zero_mul,Int.add_zero] at this;rw[this]
 simp only[Vbahar.meeting];rw[eM,if_neg hd];by_cases hp:0<dt n M
 ·rw[if_pos hp];refine⟨_,rfl,fun i hi=>?_⟩;show((List.range n).map fun i=>Vbahar.det n (rows.map fun r=>r.1.set i r.2)).getD i 0*d=X i*dt n M;rw[getD_map_range _ hi,eB i hi,<-key i hi,Int.mul_comm]
 ·rw[if_neg hp];refine⟨_,rfl,fun i hi=>?_⟩;show(((List.range n).map fun i=>Vbahar.det n (rows.map fun r=>r.1.set i r.2)).map fun z=>-z).getD i 0*d=X i*- dt n M;rw[List.map_map,getD_map_range _ hi];show-Vbahar.det n (rows.map fun r=>r.1.set i r.2)*d=_;rw[eB i hi,Int.mul_neg,<-key i hi,Int.neg_mul,Int.mul_comm]
end SN
end
section
namespace SN
open Vbahar (Point Row State Journey)
def jz:Journey:={legs:=[],fare:=0,demand:=0}
def jn(s:State)(j:Nat):Journey:=s.journeys.getD j jz
def prob(s:State):Prob where
 n:=s.journeys.length
 m:=s.caps.length
 K:=s.caps.length+s.journeys.length
 g:=s.journeys.length+1
 a:=fun k j=>
  if j<s.journeys.length then
   (if k<s.caps.length then (if (jn s j).legs.contains k=true then 1 else 0) else if j=k-s.caps.length then 1 else 0)
  else if j<s.journeys.length+(s.caps.length+s.journeys.length) then (if k=j-s.journeys.length then 1 else 0)
  else if k<s.caps.length then ((s.caps.getD k 0:Nat):Int) else ((jn s (k-s.caps.length)).demand:Int)
 c:=fun g j=>
  if j<s.journeys.length then (if g=0 then ((jn s j).fare:Int) else if j=g-1 then 1 else 0) else 0
theorem prob_n(s:State):(prob s).n=s.journeys.length:=rfl
theorem prob_m(s:State):(prob s).m=s.caps.length:=rfl
theorem prob_K(s:State):(prob s).K=s.caps.length+s.journeys.length:=rfl
theorem prob_g(s:State):(prob s).g=s.journeys.length+1:=rfl
theorem prob_mK(s:State):(prob s).m<=(prob s).K:=by rw[prob_m,prob_K];omega
theorem prob_units(s:State):Units (prob s):=by
 intro k i hk hi;simp only[prob_K] at hk hi;simp only[prob];rw[if_neg (by omega),if_pos (by omega)];by_cases c:k=i
 ·rw[if_pos (by omega),if_pos c]
 ·rw[if_neg (by omega),if_neg c]
theorem prob_c0(s:State)(g j:Nat)(h:(prob s).n<=j):(prob s).c g j=0:=by
 simp only[prob];rw[prob_n] at h;rw[if_neg (by omega)]
def rowAt(s:State)(x:Nat):Row:=
 if x<(prob s).K then ((List.range (prob s).n).map fun c=>(prob s).a x c,(prob s).a x ((prob s).n+(prob s).K))
 else ((List.range (prob s).n).map fun c=>if c=x-(prob s).K then -1 else 0,0)
theorem rowsOf_eq(s:State):Vbahar.rowsOf s=(List.range ((prob s).K+(prob s).n)).map (rowAt s):=by
 rw[List.range_add,List.map_append,prob_K,List.range_add,List.map_append];simp only[Vbahar.rowsOf];congr 1
 ·congr 1
  ·refine List.map_congr_left fun l hl=>?_;have hl':l<s.caps.length:=by simpa using hl
   rw[rowAt,if_pos (show l<(prob s).K by rw[prob_K];omega)];refine Prod.ext ?_ ?_
   ·show(s.journeys.map fun j=>if j.legs.contains l=true then (1:Int) else 0)=(List.range s.journeys.length).map fun c=>(prob s).a l c;refine List.ext_getElem (by simp) fun i h1 h2=>?_;have h3:i<s.journeys.length:=by simpa using h1
    simp only[List.getElem_map,List.getElem_range,prob];rw[if_pos h3,if_pos hl'];simp[jn,gDe,h3]
   ·show((s.caps.getD l 0:Nat):Int)=(prob s).a l (s.journeys.length+(s.caps.length+s.journeys.length));simp only[prob];rw[if_neg (by omega),if_neg (by omega),if_pos hl']
  ·rw[List.map_map];refine List.ext_getElem (by simp[prob_n]) fun i h1 h2=>?_;have h3:i<s.journeys.length:=by simpa using h1
   simp only[List.getElem_map,List.getElem_zipIdx,List.getElem_range,Function.comp];rw[rowAt,if_pos (show s.caps.length+i<(prob s).K by rw[prob_K];omega)];refine Prod.ext ?_ ?_
   ·show Vbahar.unit_ s.journeys.length (0+i) 1=(List.range s.journeys.length).map fun c=>(prob s).a (s.caps.length+i) c;simp only[Vbahar.unit_];refine List.map_congr_left fun c hc=>?_;have hc':c<s.journeys.length:=by simpa using hc
    simp only[prob];rw[if_pos hc',if_neg (show ¬s.caps.length+i<s.caps.length by omega)];by_cases e:c=i
    ·rw[if_pos (show c=0+i by omega),if_pos (show c=s.caps.length+i-s.caps.length by omega)]
    ·rw[if_neg (show ¬c=0+i by omega),if_neg (show ¬c=s.caps.length+i-s.caps.length by omega)]
   ·show((s.journeys[i].demand:Nat):Int)=(prob s).a (s.caps.length+i) (s.journeys.length+(s.caps.length+s.journeys.length));simp only[prob];rw[if_neg (by omega),if_neg (by omega),if_neg (by omega)];simp[jn,gDe,h3]
 ·rw[List.map_map];refine List.map_congr_left fun i hi=>?_;have hi':i<s.journeys.length:=by simpa using hi
  simp only[Function.comp];rw[rowAt,if_neg (show ¬s.caps.length+s.journeys.length+i<(prob s).K by rw[prob_K];omega)];refine Prod.ext ?_ rfl;show Vbahar.unit_ s.journeys.length i (-1)=(List.range s.journeys.length).map fun c=>if c=s.caps.length+s.journeys.length+i-(s.caps.length+s.journeys.length) then -1 else 0
  refine List.map_congr_left fun c _=>?_;by_cases e:c=i
  ·rw[if_pos e,if_pos (by omega)]
  ·rw[if_neg e,if_neg (by omega)]
theorem rowAt_len(s:State)(x:Nat):(rowAt s x).1.length=(prob s).n:=by
 simp only[rowAt];by_cases c:x<(prob s).K
 ·rw[if_pos c];simp
 ·rw[if_neg c];simp
theorem rowAt_get(s:State){x c:Nat}(hc:c<(prob s).n):
  (rowAt s x).1.getD c 0=if x<(prob s).K then (prob s).a x c else if c=x-(prob s).K then -1 else 0:=by
 simp only[rowAt];by_cases h:x<(prob s).K
 ·rw[if_pos h,if_pos h,getD_map_range _ hc]
 ·rw[if_neg h,if_neg h,getD_map_range _ hc]
theorem rowAt_b(s:State)(x:Nat):(rowAt s x).2=if x<(prob s).K then (prob s).a x ((prob s).n+(prob s).K) else 0:=by
 simp only[rowAt];by_cases h:x<(prob s).K
 ·rw[if_pos h,if_pos h]
 ·rw[if_neg h,if_neg h]
structure Div(s:State)(p:Point):Prop where
 den:0<p.den
 len:p.nums.length=(prob s).n
 nn:∀ j,j<(prob s).n->0<=p.nums.getD j 0
 lim:∀ k,k<(prob s).K->sm (prob s).n (fun j=>(prob s).a k j*p.nums.getD j 0)<=(prob s).a k ((prob s).n+(prob s).K)*p.den
theorem within_rowAt(s:State)(p:Point)(hl:p.nums.length=(prob s).n)(x:Nat):
  Vbahar.within_ p (rowAt s x)=true <->
  sm (prob s).n (fun j=>(rowAt s x).1.getD j 0*p.nums.getD j 0)<=(rowAt s x).2*p.den:=by
 simp only[Vbahar.within_];rw[dot_sm (prob s).n _ _ (rowAt_len s x) hl];simp
theorem div_iff(s:State)(p:Point)(hd:0<p.den)(hl:p.nums.length=(prob s).n):
  ((Vbahar.rowsOf s).all fun r=>Vbahar.within_ p r)=true<->Div s p:=by
 rw[rowsOf_eq,List.all_map,List.all_eq_true];constructor
 ·intro h;refine⟨hd,hl,?_,?_⟩
  ·intro j hj;have:=(within_rowAt s p hl ((prob s).K+j)).1 (h _ (by simp;omega));rw[rowAt_b,if_neg (by omega),Int.zero_mul,sm_one hj] at this
   ·rw[rowAt_get s hj,if_neg (by omega),if_pos (by omega)] at this;omega
   ·intro i hi hij;rw[rowAt_get s hi,if_neg (by omega),if_neg (by omega),Int.zero_mul]
  ·intro k hk;have:=(within_rowAt s p hl k).1 (h _ (by simp;omega));rw[rowAt_b,if_pos hk] at this;refine Int.le_trans (Int.le_of_eq ?_) this;exact sm_congr fun j hj=>by rw[rowAt_get s hj,if_pos hk]
 ·intro D x hx;have hx':x<(prob s).K+(prob s).n:=by simpa using hx
  refine(within_rowAt s p hl x).2 ?_;rw[rowAt_b];by_cases c:x<(prob s).K
  ·rw[if_pos c];refine Int.le_trans (Int.le_of_eq ?_) (D.lim x c);exact sm_congr fun j hj=>by rw[rowAt_get s hj,if_pos c]
  ·rw[if_neg c,Int.zero_mul,sm_one (k:=x-(prob s).K) (by omega)]
   ·rw[rowAt_get s (by omega),if_neg c,if_pos rfl];have:=D.nn (x-(prob s).K) (by omega);omega
   ·intro i hi hij;rw[rowAt_get s hi,if_neg c,if_neg hij,Int.zero_mul]
def gp(s:State)(p:Point)(g:Nat):Int:=if g=0 then Vbahar.earns s p else p.nums.getD (g-1) 0
theorem lexAbove_iff:∀ (n:Nat) (d e:Int) (a b:List Int),a.length=n->b.length=n->
  (Vbahar.lexAbove d a e b=true<->¬LN n (fun i=>b.getD i 0*d-a.getD i 0*e))
 | 0,d,e,[],[],_,_=>by
  simp only[Vbahar.lexAbove];constructor
  ·intro h;cases h
  ·intro h;exact absurd (fun k hk _=>by omega) h
 | n+1,d,e,x::a,y::b,ha,hb=>by
  simp only[Vbahar.lexAbove,Vbahar.above];have ih:=lexAbove_iff n d e a b (by simpa using ha) (by simpa using hb);rw[Bool.or_eq_true,Bool.and_eq_true,ih,decide_eq_true_eq,beq_iff_eq];constructor
  ·rintro(h | ⟨h,h'⟩) hn
   ·have:=hn 0 (by omega) (by intro i hi;omega);simp only[List.getD_cons_zero] at this;omega
   ·refine h' fun k hk hz=>?_;have:=hn (k+1) (by omega) (by
     intro i hi;cases i with
     | zero=>simp only[List.getD_cons_zero];omega
     | succ i=>simp only[List.getD_cons_succ];exact hz i (by omega))
    simpa only [List.getD_cons_succ] using this
  ·intro h;by_cases c:y*d<x*e
   ·exact Or.inl c
   ·right;have c2:x*e=y*d:=by
     apply Classical.byContradiction;intro hne;apply h;intro k hk hz;cases k with
     | zero=>simp only[List.getD_cons_zero];omega
     | succ k=>
      have:=hz 0 (by omega);simp only[List.getD_cons_zero] at this;omega
    refine⟨c2,fun hn=>h fun k hk hz=>?_⟩;cases k with
    | zero=>simp only[List.getD_cons_zero];omega
    | succ k=>
     simp only[List.getD_cons_succ];refine hn k (by omega) fun i hi=>?_;have:=hz (i+1) (by omega);simpa only [List.getD_cons_succ] using this
theorem LN_cons{n:Nat}(f:Nat->Int):LN (n+1) f<->0<f 0\/(f 0=0/\LN n (fun i=>f (i+1))):=by
 constructor
 ·intro h;have h0:=h.first (by omega);by_cases c:0<f 0
  ·exact Or.inl c
  ·right;refine⟨by omega,fun k hk hz=>h (k+1) (by omega) fun i hi=>?_⟩;cases i with
   | zero=>omega
   | succ i=>exact hz i (by omega)
 ·rintro(h | ⟨h,h'⟩) k hk hz
  ·cases k with
   | zero=>omega
   | succ k=>have:=hz 0 (by omega);omega
  ·cases k with
   | zero=>omega
   | succ k=>exact h' k (by omega) fun i hi=>hz (i+1) (by omega)
theorem better_iff(s:State)(p q:Point)(hp:p.nums.length=(prob s).n)(hq:q.nums.length=(prob s).n):
  Vbahar.better s p q=true<->¬LN ((prob s).n+1) (fun g=>gp s q g*p.den-gp s p g*q.den):=by
 simp only[Vbahar.better,Vbahar.above];rw[Bool.or_eq_true,Bool.and_eq_true,decide_eq_true_eq,beq_iff_eq,lexAbove_iff (prob s).n _ _ _ _ hp hq,LN_cons];simp only[gp,if_true,Nat.add_one_ne_zero,if_false,Nat.add_sub_cancel];constructor
 ·rintro(h | ⟨h,h'⟩) (c | ⟨c,c'⟩)
  ·omega
  ·omega
  ·omega
  ·exact h' c'
 ·intro h;by_cases c:Vbahar.earns s q*p.den<Vbahar.earns s p*q.den
  ·exact Or.inl c
  ·right;have c2:Vbahar.earns s p*q.den=Vbahar.earns s q*p.den:=by
    apply Classical.byContradiction;intro hne;exact h (Or.inl (by omega))
   exact⟨c2,fun hn=>h (Or.inr ⟨by omega,hn⟩)⟩
structure AtMost(s:State)(Gb:Nat->Int)(d:Int)(p:Point):Prop where
 den:0<p.den
 len:p.nums.length=(prob s).n
 le:LN ((prob s).n+1) (fun g=>p.den*Gb g-d*gp s p g)
def Same(s:State)(Gb:Nat->Int)(d:Int)(p:Point):Prop:=ZV ((prob s).n+1) (fun g=>p.den*Gb g-d*gp s p g)
theorem not_better_same{s:State}{Gb:Nat->Int}{d:Int}(hd:0<d){p b:Point}(hp:AtMost s Gb d p)(hb:AtMost s Gb d b)(sb:Same s Gb d b):Vbahar.better s p b=false:=by
 rw[<-Bool.not_eq_true,better_iff s p b hp.len hb.len,Classical.not_not];refine LN.unscale hd ((hp.le.smul (a:=b.den) (by have:=hb.den;omega)).congr fun g hg=>?_);have:b.den*Gb g-d*gp s b g=0:=sb g hg;grind
theorem better_same{s:State}{Gb:Nat->Int}{d:Int}(hd:0<d){p b:Point}(hp:AtMost s Gb d p)(hb:AtMost s Gb d b)(sp:Same s Gb d p)(h:¬Vbahar.better s p b=true):Same s Gb d b:=by
 rw[better_iff s p b hp.len hb.len,Classical.not_not] at h;refine LN.antisymm hb.le ?_;refine LN.unscale hp.den ((h.smul (a:=d) (by omega)).congr fun g hg=>?_);have:p.den*Gb g-d*gp s p g=0:=sp g hg;grind
theorem bestOf_same{s:State}{Gb:Nat->Int}{d:Int}(hd:0<d):∀ (l:List Point) (b:Point),
  (∀ p,p∈l->AtMost s Gb d p)->AtMost s Gb d b->(Same s Gb d b\/∃ p,p∈l/\Same s Gb d p)->
  AtMost s Gb d (Vbahar.bestOf s l b)/\Same s Gb d (Vbahar.bestOf s l b)
 | [],b,_,hb,h=>by
  refine⟨hb,?_⟩;rcases h with h | ⟨p,hp,_⟩
  ·exact h
  ·cases hp
 | p::r,b,hl,hb,h=>by
  simp only[Vbahar.bestOf];have hp:=hl p (by simp);have hr:∀ q,q∈r->AtMost s Gb d q:=fun q hq=>hl q (List.mem_cons_of_mem _ hq);by_cases c:Vbahar.better s p b=true
  ·rw[if_pos c];refine bestOf_same hd r p hr hp ?_;rcases h with h | ⟨q,hq,hs⟩
   ·rw[not_better_same hd hp hb h] at c;cases c
   ·rcases List.mem_cons.mp hq with e | e
    ·rw[e] at hs;exact Or.inl hs
    ·exact Or.inr ⟨q,e,hs⟩
  ·rw[if_neg c];refine bestOf_same hd r b hr hb ?_;rcases h with h | ⟨q,hq,hs⟩
   ·exact Or.inl h
   ·rcases List.mem_cons.mp hq with e | e
    ·rw[e] at hs;exact Or.inl (better_same hd hp hb hs c)
    ·exact Or.inr ⟨q,e,hs⟩
theorem fares_get(s:State){j:Nat}(hj:j<(prob s).n):(Vbahar.fares s).getD j 0=(prob s).c 0 j:=by
 have hj':j<s.journeys.length:=hj;simp only[prob,Vbahar.fares];rw[if_pos hj',if_pos trivial];simp[jn,gDe,hj']
theorem earns_sm(s:State)(p:Point)(hl:p.nums.length=(prob s).n):
  Vbahar.earns s p=sm (prob s).n (fun j=>(prob s).c 0 j*p.nums.getD j 0):=by
 simp only[Vbahar.earns];rw[dot_sm (prob s).n _ _ (by simp[Vbahar.fares,prob]) hl];exact sm_congr fun j hj=>by rw[fares_get s hj]
def zof(s:State)(p:Point)(j:Nat):Int:=
 if j<(prob s).n then p.nums.getD j 0
 else (prob s).a (j-(prob s).n) ((prob s).n+(prob s).K)*p.den-sm (prob s).n (fun i=>(prob s).a (j-(prob s).n) i*p.nums.getD i 0)
theorem sm_split(s:State)(z:Nat->Int){k:Nat}(hk:k<(prob s).K):
  sm ((prob s).n+(prob s).K) (fun j=>(prob s).a k j*z j)=sm (prob s).n (fun j=>(prob s).a k j*z j)+z ((prob s).n+k):=by
 rw[sm_append,sm_one hk]
 ·rw[prob_units s k k hk hk,if_pos rfl,Int.one_mul]
 ·intro i hi hik;rw[prob_units s k i hk hi,if_neg (by omega),Int.zero_mul]
theorem zof_keeps(s:State)(p:Point){k:Nat}(hk:k<(prob s).K):
  sm ((prob s).n+(prob s).K) (fun j=>(prob s).a k j*zof s p j)=p.den*(prob s).a k ((prob s).n+(prob s).K):=by
 rw[sm_split s _ hk];have e:sm (prob s).n (fun j=>(prob s).a k j*zof s p j)=sm (prob s).n (fun j=>(prob s).a k j*p.nums.getD j 0):=
  sm_congr fun j hj=>by simp only[zof];rw[if_pos hj]
 rw[e];simp only[zof];rw[if_neg (by omega),Nat.add_sub_cancel_left];grind
theorem zof_goal(s:State)(p:Point)(hl:p.nums.length=(prob s).n){g:Nat}(hg:g<(prob s).g):
  sm ((prob s).n+(prob s).K) (fun j=>(prob s).c g j*zof s p j)=gp s p g:=by
 rw[sm_append,sm_zero (n:=(prob s).K) (fun i _=>by rw[prob_c0 s g _ (by omega),Int.zero_mul]),Int.add_zero];have e:sm (prob s).n (fun j=>(prob s).c g j*zof s p j)=sm (prob s).n (fun j=>(prob s).c g j*p.nums.getD j 0):=
  sm_congr fun j hj=>by simp only[zof];rw[if_pos hj]
 rw[e];simp only[gp];by_cases c:g=0
 ·subst c;rw[if_pos rfl,earns_sm s p hl]
 ·rw[if_neg c];have hg':g<s.journeys.length+1:=hg;have hn:(prob s).n=s.journeys.length:=rfl;rw[sm_one (k:=g-1) (by omega)]
  ·simp only[prob];rw[if_pos (by omega),if_neg c,if_pos trivial,Int.one_mul]
  ·intro i hi hig;simp only[prob];rw[if_pos (by omega),if_neg c,if_neg hig,Int.zero_mul]
theorem Div.atMost{s:State}{S:Tab}(F:Final (prob s) S){p:Point}(D:Div s p):
  AtMost s (fun g=>S.G g ((prob s).n+(prob s).K)) S.d p where
 den:=D.den
 len:=D.len
 le:=by
  have:=opt_primal F (fun g _=>prob_c0 s g _ (by omega)) (zof s p) p.den (by
   intro j hj;simp only[zof];by_cases c:j<(prob s).n
   ·rw[if_pos c];exact D.nn j c
   ·rw[if_neg c];have:=D.lim (j-(prob s).n) (by omega);omega) (fun k hk=>zof_keeps s p hk)
  exact LN.congr this fun g hg=>by rw[zof_goal s p D.len hg]
def colOf(s:State)(x:Nat):Nat:=if x<(prob s).K then (prob s).n+x else x-(prob s).K
noncomputable def nbs (s:State) (S:Tab):List Nat:=
 (List.range ((prob s).K+(prob s).n)).filter fun x=>@decide (¬InB (prob s) S (colOf s x)) (Classical.propDecidable _)
theorem filter_len(p:Nat->Bool):∀ n:Nat,(((List.range n).filter p).length:Int)=sm n (fun x=>if p x=true then 1 else 0)
 | 0=>rfl
 | n+1=>by
  rw[List.range_succ,List.filter_append,List.length_append];simp only[sm];rw[<-filter_len p n];by_cases c:p n=true
  ·simp[c]
  ·simp[c]
theorem nbs_len{s:State}{S:Tab}(I:Inv (prob s) S):(nbs s S).length=(prob s).n:=by
 have h:=filter_len (fun x=>@decide (¬InB (prob s) S (colOf s x)) (Classical.propDecidable _)) ((prob s).K+(prob s).n);have hc:=count_basic I (fun j=>@ite Int (InB (prob s) S j) (Classical.propDecidable _) 1 0)
  (fun j _ hj=>by simp only[if_pos hj]) (fun j _ hj=>by simp only[if_neg hj])
 have e:sm ((prob s).K+(prob s).n) (fun x=>if @decide (¬InB (prob s) S (colOf s x)) (Classical.propDecidable _)=true then (1:Int) else 0) =
   sm ((prob s).K+(prob s).n) (fun x=>1-@ite Int (InB (prob s) S (colOf s x)) (Classical.propDecidable _) 1 0):=by
  refine sm_congr fun x _=>?_;by_cases c:InB (prob s) S (colOf s x)
  ·simp[c]
  ·simp[c]
 have e1:∀ n:Nat,sm n (fun _=>(1:Int))=n:=by
  intro n;induction n with
  | zero=>rfl
  | succ n ih=>simp only[sm];rw[ih];omega
 rw[e,sm_sub,e1,sm_append] at h;rw[sm_append] at hc;have e2:sm (prob s).K (fun x=>@ite Int (InB (prob s) S (colOf s x)) (Classical.propDecidable _) 1 0) =
   sm (prob s).K (fun x=>@ite Int (InB (prob s) S ((prob s).n+x)) (Classical.propDecidable _) 1 0):=
  sm_congr fun x hx=>by
   have:colOf s x=(prob s).n+x:=by simp only[colOf];rw[if_pos hx]
   rw[this]
 have e3:sm (prob s).n (fun x=>@ite Int (InB (prob s) S (colOf s ((prob s).K+x))) (Classical.propDecidable _) 1 0) =
   sm (prob s).n (fun x=>@ite Int (InB (prob s) S x) (Classical.propDecidable _) 1 0):=
  sm_congr fun x hx=>by
   have:colOf s ((prob s).K+x)=x:=by simp only[colOf];rw[if_neg (by omega),Nat.add_sub_cancel_left]
   rw[this]
 rw[e2,e3] at h;simp only[nbs];omega
theorem nbs_mem{s:State}{S:Tab}{x:Nat}(h:x∈nbs s S):x<(prob s).K+(prob s).n/\¬InB (prob s) S (colOf s x):=by
 simp only[nbs,List.mem_filter,List.mem_range] at h;exact⟨h.1,by simpa using h.2⟩
theorem nbs_inj{s:State}{S:Tab}{r c:Nat}(hr:r<(nbs s S).length)(hc:c<(nbs s S).length)(h:(nbs s S)[r]=(nbs s S)[c]):r=c:=by
 have nd:(nbs s S).Nodup:=(List.nodup_range).filter _;exact(List.getElem_inj nd).1 h
theorem colOf_inj{s:State}{x y:Nat}(hx:x<(prob s).K+(prob s).n)(hy:y<(prob s).K+(prob s).n)(h:colOf s x=colOf s y):x=y:=by
 simp only[colOf] at h;by_cases c:x<(prob s).K<;>by_cases c2:y<(prob s).K
 ·rw[if_pos c,if_pos c2] at h;omega
 ·rw[if_pos c,if_neg c2] at h;omega
 ·rw[if_neg c,if_pos c2] at h;omega
 ·rw[if_neg c,if_neg c2] at h;omega
theorem row_edge{s:State}{S:Tab}(I:Inv (prob s) S){x t:Nat}(hx:x<(prob s).K+(prob s).n)(ho:¬InB (prob s) S (colOf s x))(ht:t<(prob s).n+(prob s).K):
  sm (prob s).n (fun j=>(rowAt s x).1.getD j 0*edge (prob s) S t j)=if colOf s x=t then-S.d else 0:=by
 have e0:=edge_out (s:=t) ho;by_cases c:x<(prob s).K
 ·have h:=edge_keeps I c ht;rw[sm_split s _ c] at h;have hc:colOf s x=(prob s).n+x:=by simp only[colOf];rw[if_pos c]
  rw[hc] at e0 ⊢;rw[e0] at h;have e:sm (prob s).n (fun j=>(rowAt s x).1.getD j 0*edge (prob s) S t j)=sm (prob s).n (fun j=>(prob s).a x j*edge (prob s) S t j):=
   sm_congr fun j hj=>by rw[rowAt_get s hj,if_pos c]
  rw[e];by_cases c2:(prob s).n+x=t
  ·rw[if_pos c2] at h ⊢;omega
  ·rw[if_neg c2] at h ⊢;omega
 ·have hc:colOf s x=x-(prob s).K:=by simp only[colOf];rw[if_neg c]
  rw[hc] at e0 ⊢;rw[sm_one (k:=x-(prob s).K) (by omega)]
  ·rw[rowAt_get s (by omega),if_neg c,if_pos rfl,e0];by_cases c2:x-(prob s).K=t
   ·rw[if_pos c2,if_pos c2];omega
   ·rw[if_neg c2,if_neg c2];rfl
  ·intro i hi hix;rw[rowAt_get s hi,if_neg c,if_neg hix,Int.zero_mul]
theorem row_point{s:State}{S:Tab}(I:Inv (prob s) S){x:Nat}(hx:x<(prob s).K+(prob s).n)(ho:¬InB (prob s) S (colOf s x)):
  sm (prob s).n (fun j=>(rowAt s x).1.getD j 0*Xc (prob s) S j)=S.d*(rowAt s x).2:=by
 have e0:=Xc_out ho;rw[rowAt_b];by_cases c:x<(prob s).K
 ·have h:=Xc_keeps I c;rw[sm_split s _ c] at h;have hc:colOf s x=(prob s).n+x:=by simp only[colOf];rw[if_pos c]
  rw[hc] at e0;rw[e0] at h;rw[if_pos c,<-h,Int.add_zero];exact sm_congr fun j hj=>by rw[rowAt_get s hj,if_pos c]
 ·have hc:colOf s x=x-(prob s).K:=by simp only[colOf];rw[if_neg c]
  rw[hc] at e0;rw[if_neg c,Int.mul_zero];refine sm_zero fun i hi=>?_;rw[rowAt_get s hi,if_neg c];by_cases c2:i=x-(prob s).K
  ·rw[c2,e0,Int.mul_zero]
  ·rw[if_neg c2,Int.zero_mul]
theorem corner_there{s:State}{S:Tab}(F:Final (prob s) S):
  ∃ p,p∈Vbahar.corners s/\Same s (fun g=>S.G g ((prob s).n+(prob s).K)) S.d p:=by
 have I:=F.inv;have hlen:=nbs_len I;have hget:∀ r,r<(prob s).n->((nbs s S).map (rowAt s)).getD r ([],0)=rowAt s ((nbs s S).getD r 0):=by
  intro r hr;simp[gDe,List.getElem?_map,show r<(nbs s S).length by omega]
 have hmem:∀ r,r<(prob s).n->(nbs s S).getD r 0∈nbs s S:=by
  intro r hr;rw[gDe,gEe (by omega)];exact List.getElem_mem _
 obtain⟨p,hp,hX⟩:=meeting_is (n:=(prob s).n) ((nbs s S).map (rowAt s)) (by simpa using hlen)
  (by intro r hr;obtain⟨y,_,rfl⟩:=List.mem_map.mp hr;exact rowAt_len s y)
  (fun r c=>(rowAt s ((nbs s S).getD r 0)).1.getD c 0) (fun r=>(rowAt s ((nbs s S).getD r 0)).2)
  (fun r c hr _=>by rw[hget r hr]) (fun r hr=>by rw[hget r hr])
  (by
   refine dt_of_inv _ (fun j c=>edge (prob s) S (colOf s ((nbs s S).getD c 0)) j) (k:=- S.d) (by have:=I.d;omega) ?_;intro r c hr hc;have m1:=nbs_mem (hmem r hr);have m2:=nbs_mem (hmem c hc);rw[row_edge I m1.1 m1.2 (by
    simp only[colOf];by_cases cc:(nbs s S).getD c 0<(prob s).K
    ·rw[if_pos cc];omega
    ·rw[if_neg cc];omega)]
   by_cases e:r=c
   ·rw[if_pos (by rw[e]),if_pos e]
   ·rw[if_neg e,if_neg];intro h;apply e;have h2:=colOf_inj m1.1 m2.1 h;rw[gDe,gEe (by omega),gDe,
     gEe (by omega)] at h2
    exact nbs_inj (by omega) (by omega) h2)
  (Xc (prob s) S) S.d (by
   intro r hr;have m1:=nbs_mem (hmem r hr);exact row_point I m1.1 m1.2)
 have hl:=meeting_len hp;have hd:=I.d;have hdiv:Div s p:=by
  refine⟨hl.1,hl.2,?_,?_⟩
  ·intro j hj;have h1:=hX j hj;have h2:=Xc_nonneg F.feas j;have h3:0<=p.nums.getD j 0*S.d:=by rw[h1];exact Int.mul_nonneg h2 (by have:=hl.1;omega)
   exact Int.nonneg_of_mul_nonneg_left h3 hd
  ·intro k hk;have h1:=Xc_keeps I hk;rw[sm_split s _ hk] at h1;have h2:=Xc_nonneg F.feas ((prob s).n+k);have h3:sm (prob s).n (fun j=>(prob s).a k j*p.nums.getD j 0)*S.d=sm (prob s).n (fun j=>(prob s).a k j*Xc (prob s) S j)*p.den:=by
    rw[<-sm_mulr,<-sm_mulr];refine sm_congr fun j hj=>?_;rw[Int.mul_assoc,hX j hj,Int.mul_assoc]
   refine Int.le_of_mul_le_mul_right ?_ hd;rw[h3];have h4:(prob s).a k ((prob s).n+(prob s).K)*p.den*S.d=(S.d*(prob s).a k ((prob s).n+(prob s).K))*p.den:=by grind
   rw[h4,<-h1,Int.add_mul];have:=Int.mul_nonneg h2 (Int.le_of_lt hl.1);omega
 refine⟨p,?_,?_⟩
 ·simp only[Vbahar.corners];rw[List.mem_filter];refine⟨?_,(div_iff s p hl.1 hl.2).2 hdiv⟩;rw[List.mem_filterMap];refine⟨(nbs s S).map (rowAt s),?_,hp⟩;have:((nbs s S).map (rowAt s)).length=s.journeys.length:=by rw[lmp];exact hlen
  rw[<-this,rowsOf_eq];exact mem_choose (List.Sublist.map _ List.filter_sublist)
 ·intro g hg;show p.den*S.G g ((prob s).n+(prob s).K)-S.d*gp s p g=0;rw[<-Xc_goal I hg (prob_c0 s g _ (by omega)),<-zof_goal s p hl.2 hg,<-sm_mul,<-sm_mul,<-sm_sub];refine sm_zero fun j hj=>?_;by_cases c:j<(prob s).n
  ·simp only[zof];rw[if_pos c];have:=hX j c;grind
  ·rw[prob_c0 s g j (by omega)];grind
theorem corners_div{s:State}{p:Point}(h:p∈Vbahar.corners s):Div s p:=by
 simp only[Vbahar.corners,List.mem_filter,List.mem_filterMap] at h;obtain⟨⟨l,hl,hm⟩,hw⟩:=h;have:=meeting_len hm;exact(div_iff s p this.1 this.2).1 hw
theorem nothing_div(s:State):Div s (Vbahar.nothing s) where
 den:=by simp[Vbahar.nothing]
 len:=by simp[Vbahar.nothing,prob]
 nn:=by
  intro j hj;simp only[Vbahar.nothing];rw[gDe,List.getElem?_map];cases s.journeys[j]?<;>simp
 lim:=by
  intro k hk;rw[sm_zero]
  ·simp only[Vbahar.nothing,Int.mul_one,prob];rw[if_neg (by omega),if_neg (by omega)];by_cases c:k<s.caps.length
   ·rw[if_pos c];omega
   ·rw[if_neg c];omega
  ·intro j hj;have:(Vbahar.nothing s).nums.getD j 0=0:=by
    simp only[Vbahar.nothing];rw[gDe,List.getElem?_map];cases s.journeys[j]?<;>simp
   rw[this,Int.mul_zero]
theorem best_char{s:State}{S:Tab}(F:Final (prob s) S):
  0<(Vbahar.best s).den/\(Vbahar.best s).nums.length=(prob s).n/\
  Vbahar.earns s (Vbahar.best s)*S.d=S.G 0 ((prob s).n+(prob s).K)*(Vbahar.best s).den/\
  ∀ j,j<(prob s).n->(Vbahar.best s).nums.getD j 0*S.d=S.G (j+1) ((prob s).n+(prob s).K)*(Vbahar.best s).den:=by
 obtain⟨p,hp,hs⟩:=corner_there F;have:=bestOf_same F.inv.d (Vbahar.corners s) (Vbahar.nothing s) (fun q hq=>(corners_div hq).atMost F)
  ((nothing_div s).atMost F) (Or.inr ⟨p,hp,hs⟩)
 have hb:Vbahar.best s=Vbahar.bestOf s (Vbahar.corners s) (Vbahar.nothing s):=rfl;rw[<-hb] at this;refine⟨this.1.den,this.1.len,?_,?_⟩
 ·have h:=this.2 0 (by omega);have h':(Vbahar.best s).den*S.G 0 ((prob s).n+(prob s).K)-S.d*Vbahar.earns s (Vbahar.best s)=0:=h;grind
 ·intro j hj;have h:=this.2 (j+1) (by omega);have h':(Vbahar.best s).den*S.G (j+1) ((prob s).n+(prob s).K)-S.d*(Vbahar.best s).nums.getD j 0=0:=h;grind
end SN
end
section
namespace SN
open Vbahar (Point Row State Journey)
def planeAt(s:State)(x:Nat):Row:=
 if x<(prob s).m then ((List.range (prob s).m).map fun c=>if c=x then 1 else 0,0)
 else ((List.range (prob s).m).map fun l=>(prob s).a l (x-(prob s).m),(prob s).c 0 (x-(prob s).m))
theorem planes_eq(s:State):Vbahar.pricePlanes s=(List.range ((prob s).m+(prob s).n)).map (planeAt s):=by
 rw[List.range_add,List.map_append];simp only[Vbahar.pricePlanes];congr 1
 ·refine List.map_congr_left fun l hl=>?_;have hl':l<(prob s).m:=by simpa [prob_m] using hl
  rw[planeAt,if_pos hl'];rfl
 ·rw[List.map_map];refine List.ext_getElem (by simp[prob_n]) fun i h1 h2=>?_;have h3:i<s.journeys.length:=by simpa using h1
  simp only[List.getElem_map,List.getElem_range,Function.comp];rw[planeAt,if_neg (by omega),Nat.add_sub_cancel_left];refine Prod.ext ?_ ?_
  ·show((List.range s.caps.length).map fun l=>if s.journeys[i].legs.contains l=true then (1:Int) else 0) =
    (List.range s.caps.length).map fun l=>(prob s).a l i
   refine List.map_congr_left fun l hl=>?_;have hl':l<s.caps.length:=by simpa using hl
   simp only[prob];rw[if_pos h3,if_pos hl'];simp[jn,gDe,h3]
  ·show((s.journeys[i].fare:Nat):Int)=(prob s).c 0 i;simp only[prob];rw[if_pos h3,if_pos trivial];simp[jn,gDe,h3]
theorem planeAt_len(s:State)(x:Nat):(planeAt s x).1.length=(prob s).m:=by
 simp only[planeAt];by_cases c:x<(prob s).m
 ·rw[if_pos c];simp
 ·rw[if_neg c];simp
theorem planeAt_get(s:State){x c:Nat}(hc:c<(prob s).m):
  (planeAt s x).1.getD c 0=if x<(prob s).m then (if c=x then 1 else 0) else (prob s).a c (x-(prob s).m):=by
 simp only[planeAt];by_cases h:x<(prob s).m
 ·rw[if_pos h,if_pos h,getD_map_range _ hc]
 ·rw[if_neg h,if_neg h,getD_map_range _ hc]
theorem planeAt_b(s:State)(x:Nat):(planeAt s x).2=if x<(prob s).m then 0 else (prob s).c 0 (x-(prob s).m):=by
 simp only[planeAt];by_cases h:x<(prob s).m
 ·rw[if_pos h,if_pos h]
 ·rw[if_neg h,if_neg h]
structure Pri(s:State)(p:Point):Prop where
 den:0<p.den
 len:p.nums.length=(prob s).m
 nn:∀ l,l<(prob s).m->0<=p.nums.getD l 0
def askP(s:State)(p:Point)(j:Nat):Int:=sm (prob s).m (fun l=>p.nums.getD l 0*(prob s).a l j)
theorem askOf_sm(s:State)(p:Point){j:Nat}(hj:j<(prob s).n):Vbahar.askOf s (jn s j) p=askP s p j:=by
 have hj':j<s.journeys.length:=hj;simp only[Vbahar.askOf,askP];rw[foldl_sm,lmp,List.length_range];refine sm_congr fun l hl=>?_;have hl':l<s.caps.length:=hl;rw[getD_map_range _ hl'];simp only[prob];rw[if_pos hj',if_pos hl'];by_cases c:(jn s j).legs.contains l=true
 ·rw[if_pos c,if_pos c,Int.mul_one]
 ·rw[if_neg c,if_neg c,Int.mul_zero]
def uof(s:State)(p:Point)(k:Nat):Int:=
 if k<(prob s).m then p.nums.getD k 0 else max 0 ((prob s).c 0 (k-(prob s).m)*p.den-askP s p (k-(prob s).m))
theorem costs_sm(s:State)(p:Point)(hl:p.nums.length=(prob s).m):
  Vbahar.costs s p=sm (prob s).K (fun k=>uof s p k*(prob s).a k ((prob s).n+(prob s).K)):=by
 have hK:(prob s).K=(prob s).m+(prob s).n:=rfl;have hm:(prob s).m=s.caps.length:=rfl;have hn:(prob s).n=s.journeys.length:=rfl;rw[hK,sm_append,<-hK];simp only[Vbahar.costs];congr 1
 ·rw[dot_sm (prob s).m _ _ (by simp[hm]) hl];refine sm_congr fun l hl'=>?_;simp only[uof];rw[if_pos hl',Int.mul_comm];congr 1;simp only[prob];rw[if_neg (by omega),if_neg (by omega),if_pos (by omega)];simp[gDe,show l<s.caps.length by omega]
 ·rw[foldl_sm,lmp,<-hn];refine sm_congr fun j hj=>?_;have hj':j<s.journeys.length:=hj;have e:(s.journeys.map fun j=>(j.demand:Int)*max 0 ((j.fare:Int)*p.den-Vbahar.askOf s j p)).getD j 0 =
    ((jn s j).demand:Int)*max 0 (((jn s j).fare:Int)*p.den-Vbahar.askOf s (jn s j) p):=by
   simp[jn,gDe,hj']
  rw[e,askOf_sm s p hj,Int.mul_comm];simp only[uof];rw[if_neg (by omega),Nat.add_sub_cancel_left];have e2:(prob s).c 0 j=((jn s j).fare:Int):=by
   simp only[prob];rw[if_pos hj',if_pos trivial]
  have e3:(prob s).a ((prob s).m+j) ((prob s).n+(prob s).K)=((jn s j).demand:Int):=by
   simp only[prob];rw[if_neg (by omega),if_neg (by omega),if_neg (by omega),Nat.add_sub_cancel_left]
  rw[e2,e3]
theorem uof_unit(s:State)(u:Nat->Int){k:Nat}(hk:k<(prob s).K):
  sm (prob s).K (fun l=>u l*(prob s).a l ((prob s).n+k))=u k:=by
 rw[sm_one hk]
 ·rw[prob_units s k k hk hk,if_pos rfl,Int.mul_one]
 ·intro i hi hik;rw[prob_units s i k hi hk,if_neg hik,Int.mul_zero]
theorem sm_journey(s:State)(u:Nat->Int){j:Nat}(hj:j<(prob s).n):
  sm (prob s).K (fun l=>u l*(prob s).a l j)=sm (prob s).m (fun l=>u l*(prob s).a l j)+u ((prob s).m+j):=by
 have hK:(prob s).K=(prob s).m+(prob s).n:=rfl;have hj':j<s.journeys.length:=hj;have hm:(prob s).m=s.caps.length:=rfl;rw[hK,sm_append,sm_one hj]
 ·congr 1;have:(prob s).a ((prob s).m+j) j=1:=by
   simp only[prob];rw[if_pos hj',if_neg (by omega),if_pos (by omega)]
  rw[this,Int.mul_one]
 ·intro i hi hij;have:(prob s).a ((prob s).m+i) j=0:=by
   simp only[prob];rw[if_pos hj',if_neg (by omega),if_neg (by omega)]
  rw[this,Int.mul_zero]
def cp(s:State)(p:Point)(k:Nat):Int:=if k=0 then Vbahar.costs s p else p.nums.getD (k-1) 0
theorem cp_part(s:State)(p:Point)(hl:p.nums.length=(prob s).m){k:Nat}(hk:k<(prob s).m+1):
  sm (prob s).K (fun l=>uof s p l*(prob s).a l (pj (prob s) k))=cp s p k:=by
 simp only[pj,cp];by_cases c:k=0
 ·rw[if_pos c,if_pos c,costs_sm s p hl]
 ·rw[if_neg c,if_neg c];have hK:(prob s).K=(prob s).m+(prob s).n:=rfl;rw[uof_unit s _ (by omega)];simp only[uof];rw[if_pos (by omega)]
theorem cheaper_iff(s:State)(p q:Point)(hp:p.nums.length=(prob s).m)(hq:q.nums.length=(prob s).m):
  Vbahar.cheaper s p q=true<->¬LN ((prob s).m+1) (fun k=>cp s p k*q.den-cp s q k*p.den):=by
 simp only[Vbahar.cheaper,Vbahar.above];rw[Bool.or_eq_true,Bool.and_eq_true,decide_eq_true_eq,beq_iff_eq,lexAbove_iff (prob s).m _ _ _ _ hq hp,LN_cons];simp only[cp,if_true,Nat.add_one_ne_zero,if_false,Nat.add_sub_cancel];constructor
 ·rintro(h | ⟨h,h'⟩) (c | ⟨c,c'⟩)
  ·omega
  ·omega
  ·omega
  ·exact h' c'
 ·intro h;by_cases c:Vbahar.costs s p*q.den<Vbahar.costs s q*p.den
  ·exact Or.inl c
  ·right;have c2:Vbahar.costs s p*q.den=Vbahar.costs s q*p.den:=by
    apply Classical.byContradiction;intro hne;exact h (Or.inl (by omega))
   exact⟨c2,fun hn=>h (Or.inr ⟨by omega,hn⟩)⟩
structure AtLeast(s:State)(Gb:Nat->Int)(d:Int)(p:Point):Prop where
 den:0<p.den
 len:p.nums.length=(prob s).m
 ge:LN ((prob s).m+1) (fun k=>d*cp s p k-p.den*Gb k)
def SameP(s:State)(Gb:Nat->Int)(d:Int)(p:Point):Prop:=ZV ((prob s).m+1) (fun k=>d*cp s p k-p.den*Gb k)
theorem not_cheaper_same{s:State}{Gb:Nat->Int}{d:Int}(hd:0<d){p b:Point}(hp:AtLeast s Gb d p)(hb:AtLeast s Gb d b)(sb:SameP s Gb d b):Vbahar.cheaper s p b=false:=by
 rw[<-Bool.not_eq_true,cheaper_iff s p b hp.len hb.len,Classical.not_not];refine LN.unscale hd ((hp.ge.smul (a:=b.den) (by have:=hb.den;omega)).congr fun g hg=>?_);have:d*cp s b g-b.den*Gb g=0:=sb g hg;grind
theorem cheaper_same{s:State}{Gb:Nat->Int}{d:Int}(hd:0<d){p b:Point}(hp:AtLeast s Gb d p)(hb:AtLeast s Gb d b)(sp:SameP s Gb d p)(h:¬Vbahar.cheaper s p b=true):SameP s Gb d b:=by
 rw[cheaper_iff s p b hp.len hb.len,Classical.not_not] at h;refine LN.antisymm hb.ge ?_;refine LN.unscale hp.den ((h.smul (a:=d) (by omega)).congr fun g hg=>?_);have:d*cp s p g-p.den*Gb g=0:=sp g hg;grind
theorem cheapestOf_same{s:State}{Gb:Nat->Int}{d:Int}(hd:0<d):∀ (l:List Point) (b:Point),
  (∀ p,p∈l->AtLeast s Gb d p)->AtLeast s Gb d b->(SameP s Gb d b\/∃ p,p∈l/\SameP s Gb d p)->
  AtLeast s Gb d (Vbahar.cheapestOf s l b)/\SameP s Gb d (Vbahar.cheapestOf s l b)
 | [],b,_,hb,h=>by
  refine⟨hb,?_⟩;rcases h with h | ⟨p,hp,_⟩
  ·exact h
  ·cases hp
 | p::r,b,hl,hb,h=>by
  simp only[Vbahar.cheapestOf];have hp:=hl p (by simp);have hr:∀ q,q∈r->AtLeast s Gb d q:=fun q hq=>hl q (List.mem_cons_of_mem _ hq);by_cases c:Vbahar.cheaper s p b=true
  ·rw[if_pos c];refine cheapestOf_same hd r p hr hp ?_;rcases h with h | ⟨q,hq,hs⟩
   ·rw[not_cheaper_same hd hp hb h] at c;cases c
   ·rcases List.mem_cons.mp hq with e | e
    ·rw[e] at hs;exact Or.inl hs
    ·exact Or.inr ⟨q,e,hs⟩
  ·rw[if_neg c];refine cheapestOf_same hd r b hr hb ?_;rcases h with h | ⟨q,hq,hs⟩
   ·exact Or.inl h
   ·rcases List.mem_cons.mp hq with e | e
    ·rw[e] at hs;exact Or.inl (cheaper_same hd hp hb hs c)
    ·exact Or.inr ⟨q,e,hs⟩
theorem prob_gpos(s:State):0<(prob s).g:=by rw[prob_g];omega
theorem pj_c0(s:State)(k:Nat):(prob s).c 0 (pj (prob s) k)=0:=by
 refine prob_c0 s 0 _ ?_;simp only[pj];by_cases c:k=0
 ·rw[if_pos c];omega
 ·rw[if_neg c];omega
theorem Pri.atLeast{s:State}{S:Tab}(F:Final (prob s) S){p:Point}(D:Pri s p):
  AtLeast s (fun k=>S.G 0 (pj (prob s) k)) S.d p where
 den:=D.den
 len:=D.len
 ge:=by
  have:=opt_dual F (prob_mK s) (prob_gpos s) (fun k _=>pj_c0 s k) (uof s p) p.den (by
   intro j hj;by_cases c:j<(prob s).n
   ·rw[sm_journey s _ c];have e:sm (prob s).m (fun l=>uof s p l*(prob s).a l j)=askP s p j:=
     sm_congr fun l hl=>by simp only[uof];rw[if_pos hl]
    have e2:uof s p ((prob s).m+j)=max 0 ((prob s).c 0 j*p.den-askP s p j):=by
     simp only[uof];rw[if_neg (by omega),Nat.add_sub_cancel_left]
    rw[e,e2,Int.mul_comm];omega
   ·rw[prob_c0 s 0 j (by omega),Int.mul_zero];have:=uof_unit s (uof s p) (k:=j-(prob s).n) (by omega);rw[show(prob s).n+(j-(prob s).n)=j by omega] at this;rw[this];simp only[uof];by_cases c2:j-(prob s).n<(prob s).m
    ·rw[if_pos c2];exact D.nn _ c2
    ·rw[if_neg c2];omega)
  exact LN.congr this fun k hk=>by rw[cp_part s p D.len hk]
noncomputable def ind (p:Prop):Int:=@ite Int p (Classical.propDecidable _) 1 0
theorem ind_pos{p:Prop}(h:p):ind p=1:=if_pos h
theorem ind_neg{p:Prop}(h:¬p):ind p=0:=if_neg h
def Chosen(s:State)(S:Tab)(x:Nat):Prop:=InB (prob s) S ((prob s).n+x)/\(x<(prob s).m\/InB (prob s) S (x-(prob s).m))
noncomputable def chs (s:State) (S:Tab):List Nat:=
 (List.range ((prob s).m+(prob s).n)).filter fun x=>@decide (Chosen s S x) (Classical.propDecidable _)
theorem one_of_two{s:State}{S:Tab}(I:Inv (prob s) S){j:Nat}(hj:j<(prob s).n):
  InB (prob s) S j\/InB (prob s) S ((prob s).n+((prob s).m+j)):=by
 apply Classical.byContradiction;intro hn;have hK:(prob s).K=(prob s).m+(prob s).n:=rfl;have hm:(prob s).m=s.caps.length:=rfl;have hnn:(prob s).n=s.journeys.length:=rfl;have hk:(prob s).m+j<(prob s).K:=by omega
 have h:=I.col ((prob s).m+j) ((prob s).n+((prob s).m+j)) hk (by omega);rw[prob_units s _ _ hk hk,if_pos rfl,Int.mul_one,sm_zero] at h
 ·have:=I.d;omega
 ·intro i hi;have hlt:=I.h i hi;have h1:S.h i≠j:=fun e=>hn (Or.inl ⟨i,hi,e⟩);have h2:S.h i≠(prob s).n+((prob s).m+j):=fun e=>hn (Or.inr ⟨i,hi,e⟩);have:(prob s).a ((prob s).m+j) (S.h i)=0:=by
   by_cases c:S.h i<(prob s).n
   ·simp only[prob];rw[if_pos (by omega),if_neg (by omega),if_neg (by omega)]
   ·have:=prob_units s ((prob s).m+j) (S.h i-(prob s).n) hk (by omega);rw[show(prob s).n+(S.h i-(prob s).n)=S.h i by omega] at this;rw[this,if_neg (by omega)]
  rw[this,Int.zero_mul]
theorem sm_const(n:Nat):sm n (fun _=>(1:Int))=n:=by
 induction n with
 | zero=>rfl
 | succ n ih=>simp only[sm];rw[ih];omega
theorem chs_len{s:State}{S:Tab}(I:Inv (prob s) S):(chs s S).length=(prob s).m:=by
 have hK:(prob s).K=(prob s).m+(prob s).n:=rfl;have h:=filter_len (fun x=>@decide (Chosen s S x) (Classical.propDecidable _)) ((prob s).m+(prob s).n);have hc:=count_basic I (fun j=>ind (InB (prob s) S j)) (fun j _ hj=>ind_pos hj) (fun j _ hj=>ind_neg hj);rw[sm_append] at h;have e1:sm (prob s).m (fun x=>if @decide (Chosen s S x) (Classical.propDecidable _)=true then (1:Int) else 0) =
   sm (prob s).m (fun x=>ind (InB (prob s) S ((prob s).n+x))):=by
  refine sm_congr fun x hx=>?_;by_cases c:InB (prob s) S ((prob s).n+x)
  ·rw[ind_pos c,if_pos (by simpa using ⟨c,Or.inl hx⟩)]
  ·rw[ind_neg c,if_neg (by simpa using fun e:Chosen s S x=>c e.1)]
 have e2:sm (prob s).n (fun i=>if @decide (Chosen s S ((prob s).m+i)) (Classical.propDecidable _)=true then (1:Int) else 0) =
   sm (prob s).n (fun i=>(ind (InB (prob s) S i)+ind (InB (prob s) S ((prob s).n+((prob s).m+i))))-1):=by
  refine sm_congr fun i hi=>?_;by_cases c1:InB (prob s) S i
  ·by_cases c2:InB (prob s) S ((prob s).n+((prob s).m+i))
   ·rw[ind_pos c1,ind_pos c2,if_pos (by simpa using ⟨c2,Or.inr (by rwa [Nat.add_sub_cancel_left])⟩)];omega
   ·rw[ind_pos c1,ind_neg c2,if_neg (by simpa using fun e:Chosen s S ((prob s).m+i)=>c2 e.1)];omega
  ·have c2:InB (prob s) S ((prob s).n+((prob s).m+i)):=by
    rcases one_of_two I hi with h | h
    ·exact absurd h c1
    ·exact h
   rw[ind_neg c1,ind_pos c2,if_neg]
   ·omega
   ·simp only[decide_eq_true_eq];rintro⟨_,h | h⟩
    ·omega
    ·rw[Nat.add_sub_cancel_left] at h;exact c1 h
 rw[e1,e2,sm_sub,sm_add,sm_const] at h;rw[hK,sm_append,sm_append] at hc;simp only[chs];omega
theorem chs_mem{s:State}{S:Tab}{x:Nat}(h:x∈chs s S):x<(prob s).m+(prob s).n/\Chosen s S x:=by
 simp only[chs,List.mem_filter,List.mem_range] at h;exact⟨h.1,by simpa using h.2⟩
theorem chs_inj{s:State}{S:Tab}{r c:Nat}(hr:r<(chs s S).length)(hc:c<(chs s S).length)(h:(chs s S)[r]=(chs s S)[c]):r=c:=by
 have nd:(chs s S).Nodup:=(List.nodup_range).filter _;exact(List.getElem_inj nd).1 h
def hcol(s:State)(x:Nat):Nat:=if x<(prob s).m then (prob s).n+x else x-(prob s).m
theorem chosen_in{s:State}{S:Tab}{x:Nat}(h:Chosen s S x):InB (prob s) S (hcol s x):=by
 simp only[hcol];by_cases c:x<(prob s).m
 ·rw[if_pos c];exact h.1
 ·rw[if_neg c];rcases h.2 with h' | h'
  ·exact absurd h' c
  ·exact h'
theorem T_at{P:Prob}{S:Tab}(I:Inv P S){i j:Nat}(hi:i<P.K)(hj:InB P S j):S.T i j=if S.h i=j then S.d else 0:=by
 obtain⟨k,hk,rfl⟩:=hj;rw[I.basic hi hk];by_cases c:i=k
 ·rw[if_pos c,if_pos (by rw[c])]
 ·rw[if_neg c,if_neg (fun e=>c (I.hinj hi hk e))]
theorem plane_T{s:State}{S:Tab}(I:Inv (prob s) S){x i:Nat}(hx:x<(prob s).m+(prob s).n)(hc:Chosen s S x)(hi:i<(prob s).K)(hs:S.h i<(prob s).n+(prob s).m):
  sm (prob s).m (fun l=>(planeAt s x).1.getD l 0*S.T i ((prob s).n+l))=if S.h i=hcol s x then S.d else 0:=by
 have hK:(prob s).K=(prob s).m+(prob s).n:=rfl;by_cases c:x<(prob s).m
 ·rw[sm_one c]
  ·rw[planeAt_get s c,if_pos c,if_pos rfl,Int.one_mul,T_at I hi hc.1];have e:hcol s x=(prob s).n+x:=by simp only[hcol];rw[if_pos c]
   rw[e]
  ·intro l hl hlx;rw[planeAt_get s hl,if_pos c,if_neg hlx,Int.zero_mul]
 ·have hj:x-(prob s).m<(prob s).n:=by omega
  have hin:InB (prob s) S (x-(prob s).m):=by
   rcases hc.2 with h | h
   ·exact absurd h c
   ·exact h
  have e:sm (prob s).m (fun l=>(planeAt s x).1.getD l 0*S.T i ((prob s).n+l)) =
    sm (prob s).m (fun l=>S.T i ((prob s).n+l)*(prob s).a l (x-(prob s).m)):=
   sm_congr fun l hl=>by rw[planeAt_get s hl,if_neg c,Int.mul_comm]
  have h1:=I.units (prob_units s) hi (j:=x-(prob s).m) (by omega);rw[sm_journey s _ hj,<-e,show(prob s).m+(x-(prob s).m)=x by omega,T_at I hi hin,T_at I hi hc.1,
   if_neg (show ¬S.h i=(prob s).n+x by omega),Int.add_zero] at h1
  have e4:hcol s x=x-(prob s).m:=by simp only[hcol];rw[if_neg c]
  rw[h1,e4]
theorem plane_price{s:State}{S:Tab}(I:Inv (prob s) S){x:Nat}(hx:x<(prob s).m+(prob s).n)(hc:Chosen s S x):
  sm (prob s).m (fun l=>(planeAt s x).1.getD l 0*S.G 0 ((prob s).n+l))=S.d*(planeAt s x).2:=by
 have hK:(prob s).K=(prob s).m+(prob s).n:=rfl;have g0:∀ j,InB (prob s) S j->S.G 0 j=0:=by
  rintro j ⟨i,hi,rfl⟩;exact I.gbasic (prob_gpos s) hi
 rw[planeAt_b];by_cases c:x<(prob s).m
 ·rw[sm_one c]
  ·rw[planeAt_get s c,if_pos c,if_pos rfl,Int.one_mul,g0 _ hc.1,if_pos c,Int.mul_zero]
  ·intro l hl hlx;rw[planeAt_get s hl,if_pos c,if_neg hlx,Int.zero_mul]
 ·have hj:x-(prob s).m<(prob s).n:=by omega
  have hin:InB (prob s) S (x-(prob s).m):=by
   rcases hc.2 with h | h
   ·exact absurd h c
   ·exact h
  have e:sm (prob s).m (fun l=>(planeAt s x).1.getD l 0*S.G 0 ((prob s).n+l)) =
    sm (prob s).m (fun l=>S.G 0 ((prob s).n+l)*(prob s).a l (x-(prob s).m)):=
   sm_congr fun l hl=>by rw[planeAt_get s hl,if_neg c,Int.mul_comm]
  have h1:=I.prices (prob_units s) (prob_gpos s) (fun k hk=>prob_c0 s 0 _ (by omega)) (j:=x-(prob s).m) (by omega);rw[sm_journey s _ hj,<-e,show(prob s).m+(x-(prob s).m)=x by omega,g0 _ hin,g0 _ hc.1,Int.add_zero,Int.zero_add] at h1;rw[h1,if_neg c]
theorem priceCorner_there{s:State}{S:Tab}(F:Final (prob s) S):
  ∃ p,p∈Vbahar.priceCorners s/\SameP s (fun k=>S.G 0 (pj (prob s) k)) S.d p:=by
 have I:=F.inv;have hd:=I.d;have hK:(prob s).K=(prob s).m+(prob s).n:=rfl;have hlen:=chs_len I;have hget:∀ r,r<(prob s).m->((chs s S).map (planeAt s)).getD r ([],0)=planeAt s ((chs s S).getD r 0):=by
  intro r hr;simp[gDe,List.getElem?_map,show r<(chs s S).length by omega]
 have hmem:∀ r,r<(prob s).m->(chs s S).getD r 0∈chs s S:=by
  intro r hr;rw[gDe,gEe (by omega)];exact List.getElem_mem _
 have hrow:∀ x:Nat,∃ i,x∈chs s S->i<(prob s).K/\S.h i=hcol s x:=by
  intro x;by_cases c:x∈chs s S
  ·obtain⟨i,hi,he⟩:=chosen_in (chs_mem c).2;exact⟨i,fun _=>⟨hi,he⟩⟩
  ·exact⟨0,fun h=>absurd h c⟩
 let rowOf:Nat->Nat:=fun x=>Classical.choose (hrow x)
 have rowOf_spec:∀ x,x∈chs s S->rowOf x<(prob s).K/\S.h (rowOf x)=hcol s x:=fun x=>Classical.choose_spec (hrow x);obtain⟨p,hp,hX⟩:=meeting_is (n:=(prob s).m) ((chs s S).map (planeAt s)) (by simpa using hlen)
  (by intro r hr;obtain⟨y,_,rfl⟩:=List.mem_map.mp hr;exact planeAt_len s y)
  (fun r c=>(planeAt s ((chs s S).getD r 0)).1.getD c 0) (fun r=>(planeAt s ((chs s S).getD r 0)).2)
  (fun r c hr _=>by rw[hget r hr]) (fun r hr=>by rw[hget r hr])
  (by
   refine dt_of_inv _ (fun l c=>S.T (rowOf ((chs s S).getD c 0)) ((prob s).n+l)) (k:=S.d) (by omega) ?_;intro r c hr hc;have m1:=chs_mem (hmem r hr);have m2:=chs_mem (hmem c hc);have r2:=rowOf_spec _ (hmem c hc);have hlt:hcol s ((chs s S).getD c 0)<(prob s).n+(prob s).m:=by
    simp only[hcol];by_cases cc:(chs s S).getD c 0<(prob s).m
    ·rw[if_pos cc];omega
    ·rw[if_neg cc];omega
   rw[plane_T I m1.1 m1.2 r2.1 (by rw[r2.2];exact hlt),r2.2];by_cases e:r=c
   ·rw[if_pos (by rw[e]),if_pos e]
   ·rw[if_neg e,if_neg];intro h;apply e;have h2:(chs s S).getD c 0=(chs s S).getD r 0:=by
     simp only[hcol] at h;by_cases c1:(chs s S).getD c 0<(prob s).m<;>by_cases c2:(chs s S).getD r 0<(prob s).m
     ·rw[if_pos c1,if_pos c2] at h;omega
     ·rw[if_pos c1,if_neg c2] at h;omega
     ·rw[if_neg c1,if_pos c2] at h;omega
     ·rw[if_neg c1,if_neg c2] at h;omega
    rw[gDe,gEe (by omega),gDe,
     gEe (by omega)] at h2
    exact(chs_inj (by omega) (by omega) h2).symm)
  (fun l=>S.G 0 ((prob s).n+l)) S.d (by
   intro r hr;have m1:=chs_mem (hmem r hr);exact plane_price I m1.1 m1.2)
 have hl:=meeting_len hp;have gnn:∀ j,j<(prob s).n+(prob s).K->0<=S.G 0 j:=fun j hj=>(F.opt j hj).first (prob_gpos s)
 have hpri:Pri s p:=by
  refine⟨hl.1,hl.2,fun l hl'=>?_⟩;have h1:=hX l hl';have h3:0<=p.nums.getD l 0*S.d:=by
   rw[h1];exact Int.mul_nonneg (gnn _ (by omega)) (by have:=hl.1;omega)
  exact Int.nonneg_of_mul_nonneg_left h3 hd
 refine⟨p,?_,?_⟩
 ·simp only[Vbahar.priceCorners];rw[List.mem_filter];refine⟨?_,?_⟩
  ·rw[List.mem_filterMap];refine⟨(chs s S).map (planeAt s),?_,hp⟩;have:((chs s S).map (planeAt s)).length=s.caps.length:=by rw[lmp];exact hlen
   rw[<-this,planes_eq];exact mem_choose (List.Sublist.map _ List.filter_sublist)
  ·rw[List.all_eq_true];intro z hz;obtain⟨i,hi,rfl⟩:=List.getElem_of_mem hz;have:=hpri.nn i (by rw[<-hl.2];exact hi);rw[gDe,gEe hi] at this;simpa using this
 ·intro k hk;show S.d*cp s p k-p.den*S.G 0 (pj (prob s) k)=0;by_cases c:k=0
  ·subst c;have lo:=(hpri.atLeast F).ge.first (by omega);have lo':0<=S.d*cp s p 0-p.den*S.G 0 (pj (prob s) 0):=lo;have up:S.d*cp s p 0<=p.den*S.G 0 (pj (prob s) 0):=by
    have hpj:pj (prob s) 0=(prob s).n+(prob s).K:=rfl;rw[<-cp_part s p hl.2 (by omega),hpj];have h1:=I.prices (prob_units s) (prob_gpos s) (fun k hk=>prob_c0 s 0 _ (by omega)) (j:=(prob s).n+(prob s).K) (by omega);rw[prob_c0 s 0 _ (by omega),Int.mul_zero,Int.add_zero] at h1;rw[<-h1,<-sm_mul,<-sm_mul];have:0<=sm (prob s).K (fun k=>p.den*(S.G 0 ((prob s).n+k)*(prob s).a k ((prob s).n+(prob s).K)) -
      S.d*(uof s p k*(prob s).a k ((prob s).n+(prob s).K))):=by
     refine sm_nonneg fun k hk=>?_;have hb:0<=(prob s).a k ((prob s).n+(prob s).K):=by
      have hn:(prob s).n=s.journeys.length:=rfl;have hm:(prob s).m=s.caps.length:=rfl;simp only[prob];rw[if_neg (by omega),if_neg (by omega)];by_cases cc:k<s.caps.length
      ·rw[if_pos cc];omega
      ·rw[if_neg cc];omega
     have hu:S.d*uof s p k<=p.den*S.G 0 ((prob s).n+k):=by
      simp only[uof];by_cases cc:k<(prob s).m
      ·rw[if_pos cc];have:=hX k cc;grind
      ·rw[if_neg cc];have hj:k-(prob s).m<(prob s).n:=by omega
       have h2:=I.prices (prob_units s) (prob_gpos s) (fun k hk=>prob_c0 s 0 _ (by omega)) (j:=k-(prob s).m) (by omega);rw[sm_journey s _ hj,show(prob s).m+(k-(prob s).m)=k by omega] at h2;have h3:S.d*askP s p (k-(prob s).m)=p.den*sm (prob s).m (fun l=>S.G 0 ((prob s).n+l)*(prob s).a l (k-(prob s).m)):=by
        simp only[askP];rw[<-sm_mul,<-sm_mul];refine sm_congr fun l hl'=>?_;have:=hX l hl';grind
       have h4:=gnn (k-(prob s).m) (by omega);have h5:=gnn ((prob s).n+k) (by omega);have h6:S.d*((prob s).c 0 (k-(prob s).m)*p.den-askP s p (k-(prob s).m)) =
         p.den*S.G 0 ((prob s).n+k)-p.den*S.G 0 (k-(prob s).m):=by
        rw[Int.mul_sub,h3];grind
       have h7:=Int.mul_nonneg (Int.le_of_lt hl.1) h4;have h8:=Int.mul_nonneg (Int.le_of_lt hl.1) h5;rcases Int.le_total 0 ((prob s).c 0 (k-(prob s).m)*p.den-askP s p (k-(prob s).m)) with t | t
       ·rw[Int.max_eq_right t,h6];omega
       ·rw[Int.max_eq_left t];omega
     have:=Int.mul_le_mul_of_nonneg_right hu hb;grind
    rw[sm_sub] at this;omega
   omega
  ·simp only[cp,pj];rw[if_neg c,if_neg c];have:=hX (k-1) (by omega);grind
theorem priceCorners_pri{s:State}{p:Point}(h:p∈Vbahar.priceCorners s):Pri s p:=by
 simp only[Vbahar.priceCorners,List.mem_filter,List.mem_filterMap] at h;obtain⟨⟨l,hl,hm⟩,hw⟩:=h;have:=meeting_len hm;refine⟨this.1,this.2,fun i hi=>?_⟩;rw[List.all_eq_true] at hw;have hi':i<p.nums.length:=by rw[this.2];exact hi
 rw[gDe,gEe hi'];simpa using hw _ (List.getElem_mem hi')
theorem free_pri(s:State):Pri s (Vbahar.free s) where
 den:=by simp[Vbahar.free]
 len:=by simp[Vbahar.free,prob]
 nn:=by
  intro j hj;simp only[Vbahar.free];rw[gDe,List.getElem?_map];cases s.caps[j]?<;>simp
theorem bids_char{s:State}{S:Tab}(F:Final (prob s) S):
  0<(Vbahar.bids s).den/\(Vbahar.bids s).nums.length=(prob s).m/\
  ∀ l,l<(prob s).m->(Vbahar.bids s).nums.getD l 0*S.d=S.G 0 ((prob s).n+l)*(Vbahar.bids s).den:=by
 obtain⟨p,hp,hs⟩:=priceCorner_there F;have:=cheapestOf_same F.inv.d (Vbahar.priceCorners s) (Vbahar.free s) (fun q hq=>(priceCorners_pri hq).atLeast F)
  ((free_pri s).atLeast F) (Or.inr ⟨p,hp,hs⟩)
 have hb:Vbahar.bids s=Vbahar.cheapestOf s (Vbahar.priceCorners s) (Vbahar.free s):=rfl;rw[<-hb] at this;refine⟨this.1.den,this.1.len,?_⟩;intro l hl;have h:=this.2 (l+1) (by omega);have h':S.d*(Vbahar.bids s).nums.getD l 0-(Vbahar.bids s).den*S.G 0 ((prob s).n+l)=0:=h;grind
end SN
end
section
namespace SN
open Vbahar (Point Row State Journey)
def lexLt:List Int->List Int->Bool
 | [],[]=>false
 | [],_::_=>true
 | _::_,[]=>false
 | x::xs,y::ys=>if x=y then lexLt xs ys else decide (x<y)
def single(w p:Nat)(x:Int):List Int:=(List.replicate w 0).set p x
def legUse(leg:Int)(ways:List (List Int)):List Int:=ways.map fun w=>if w.contains leg=true then 1 else 0
def usesOf(caps demands:List Int)(ways:List (List Int)):List (List Int):=
 (List.range caps.length).map (fun(k:Nat)=>legUse ((k:Int)+1) ways)++(List.range demands.length).map fun j=>single demands.length j 1
def limitRow(K:Nat)(amounts:List Int)(k:Nat)(use:List Int):List Int:=use++single K k 1++[amounts.getD k 0]
def limitRows(caps demands:List Int)(ways:List (List Int)):List (List Int):=
 (usesOf caps demands ways).mapIdx fun k use=>limitRow (usesOf caps demands ways).length (caps++demands) k use
def goalRows(fares:List Int)(width:Nat):List (List Int):=
 (fares.map (fun f=>-f)++List.replicate (width-fares.length) 0)::(List.range fares.length).map fun j=>single width j (-1)
structure TL where
 legs:Nat
 journeys:Nat
 limits:List (List Int)
 goals:List (List Int)
 holders:List Int
 below:Int
def mkT(caps fares demands:List Int)(ways:List (List Int)):TL where
 legs:=caps.length
 journeys:=fares.length
 limits:=limitRows caps demands ways
 goals:=goalRows fares (fares.length+(limitRows caps demands ways).length+1)
 holders:=(List.range (limitRows caps demands ways).length).map fun(k:Nat)=>((fares.length:Int)+(k:Int))
 below:=1
def cellL(rows:List (List Int))(i j:Nat):Int:=(rows.getD i []).getD j 0
def colVec(t:TL)(c:Nat):List Int:=t.goals.map fun g=>g.getD c 0
def isNeg(t:TL)(c:Nat):Bool:=lexLt (colVec t c) (List.replicate t.goals.length 0)
def enteringFrom(t:TL):Nat->Nat->Option Nat
 | 0,_=>none
 | k+1,c=>if isNeg t c=true then some c else enteringFrom t k (c+1)
def entering(t:TL):Option Nat:=enteringFrom t (t.journeys+t.limits.length) 0
def parts(t:TL)(i:Nat):List Int:=
 (t.limits.getD i []).getD (t.journeys+t.limits.length) 0::((t.limits.getD i []).drop t.journeys).take t.legs
def before(t:TL)(i r c:Nat):Bool:=
 lexLt ((parts t i).map (fun p=>p*cellL t.limits r c)++[t.holders.getD i 0]) ((parts t r).map (fun p=>p*cellL t.limits i c)++[t.holders.getD r 0])
def leaveStep(t:TL)(c:Nat)(o:Option Nat)(i:Nat):Option Nat:=
 if 0<cellL t.limits i c then (match o with
  | none=>some i
  | some r=>if before t i r c=true then some i else some r) else o
def leavingUpto(t:TL)(c:Nat):Nat->Option Nat
 | 0=>none
 | k+1=>leaveStep t c (leavingUpto t c k) k
def leaving(t:TL)(c:Nat):Option Nat:=leavingUpto t c t.limits.length
def cleared(row prow:List Int)(c:Nat)(below:Int):List Int:=
 List.zipWith (fun mine its=>(mine*prow.getD c 0-row.getD c 0*its).fdiv below) row prow
def turnL(t:TL)(r c:Nat):TL where
 legs:=t.legs
 journeys:=t.journeys
 limits:=(t.limits.map fun l=>cleared l (t.limits.getD r []) c t.below).set r (t.limits.getD r [])
 goals:=t.goals.map fun g=>cleared g (t.limits.getD r []) c t.below
 holders:=t.holders.set r (c:Int)
 below:=cellL t.limits r c
def nxt(t:TL):TL:=turnL t ((leaving t ((entering t).getD 0)).getD 0) ((entering t).getD 0)
def itN(t:TL):Nat->TL
 | 0=>t
 | k+1=>nxt (itN t k)
structure Rep(P:Prob)(t:TL)(S:Tab):Prop where
 legs:t.legs=P.m
 jour:t.journeys=P.n
 llen:t.limits.length=P.K
 lrow:∀ r,r∈t.limits->r.length=P.n+P.K+1
 glen:t.goals.length=P.g
 grow:∀ r,r∈t.goals->r.length=P.n+P.K+1
 hlen:t.holders.length=P.K
 T:∀ i j,i<P.K->j<=P.n+P.K->cellL t.limits i j=S.T i j
 G:∀ g j,g<P.g->j<=P.n+P.K->cellL t.goals g j=S.G g j
 h:∀ i,i<P.K->t.holders.getD i 0=(S.h i:Int)
 d:t.below=S.d
theorem lexLt_iff:∀ (n:Nat) (a b:List Int),a.length=n->b.length=n->
  (lexLt a b=true<->¬LN n (fun i=>a.getD i 0-b.getD i 0))
 | 0,[],[],_,_=>by
  simp only[lexLt];constructor
  ·intro h;cases h
  ·intro h;exact absurd (fun k hk _=>by omega) h
 | n+1,x::a,y::b,ha,hb=>by
  simp only[lexLt];have ih:=lexLt_iff n a b (by simpa using ha) (by simpa using hb);rw[LN_cons];simp only[List.getD_cons_zero,List.getD_cons_succ];by_cases c:x=y
  ·rw[if_pos c,ih];constructor
   ·rintro h (h1 | ⟨_,h2⟩)
    ·omega
    ·exact h h2
   ·intro h h2;exact h (Or.inr ⟨by omega,h2⟩)
  ·rw[if_neg c,decide_eq_true_eq];constructor
   ·rintro h (h1 | ⟨h2,_⟩)<;>omega
   ·intro h;apply Classical.byContradiction;intro h2;exact h (Or.inl (by omega))
theorem getD_map_lt{α:Type}{β:Type}(f:α->β)(l:List α)(i:Nat)(a:α)(b:β)(h:i<l.length):(l.map f).getD i b=f (l.getD i a):=by
 simp[gDe,h]
theorem getD_mem{α:Type}(l:List α)(i:Nat)(a:α)(h:i<l.length):l.getD i a∈l:=by
 rw[gDe,gEe h];exact List.getElem_mem h
section
variable{P:Prob}{t:TL}{S:Tab}
theorem Rep.neg_iff(R:Rep P t S){c:Nat}(hc:c<=P.n+P.K):isNeg t c=true<->¬LN P.g (fun g=>S.G g c):=by
 simp only[isNeg];rw[lexLt_iff P.g _ _ (by simp[colVec,R.glen]) (by simp[R.glen])];apply not_congr;have e:∀ g,g<P.g->(colVec t c).getD g 0-(List.replicate t.goals.length 0).getD g 0=S.G g c:=by
  intro g hg;have h1:(colVec t c).getD g 0=S.G g c:=by
   rw[<-R.G g c hg hc];simp only[colVec,cellL];rw[getD_map_lt _ _ _ [] _ (by rw[R.glen];exact hg)]
  have h2:(List.replicate t.goals.length (0:Int)).getD g 0=0:=by
   rw[gDe,List.getElem?_replicate];by_cases cc:g<t.goals.length
   ·rw[if_pos cc];rfl
   ·rw[if_neg cc];rfl
  rw[h1,h2];omega
 exact⟨fun h=>h.congr e,fun h=>h.congr fun g hg=>(e g hg).symm⟩
theorem enteringFrom_none(t:TL):∀ (k c:Nat),enteringFrom t k c=none->∀ j,c<=j->j<c+k->isNeg t j=false
 | 0,c,_,j,h1,h2=>by omega
 | k+1,c,h,j,h1,h2=>by
  simp only[enteringFrom] at h;by_cases e:isNeg t c=true
  ·rw[if_pos e] at h;cases h
  ·rw[if_neg e] at h;by_cases ej:j=c
   ·subst ej;simpa using e
   ·exact enteringFrom_none t k (c+1) h j (by omega) (by omega)
theorem enteringFrom_some(t:TL):∀ (k c q:Nat),enteringFrom t k c=some q->c<=q/\q<c+k/\isNeg t q=true/\∀ j,c<=j->j<q->isNeg t j=false
 | 0,c,q,h=>by cases h
 | k+1,c,q,h=>by
  simp only[enteringFrom] at h;by_cases e:isNeg t c=true
  ·rw[if_pos e] at h;cases h;exact⟨by omega,by omega,e,fun j h1 h2=>by omega⟩
  ·rw[if_neg e] at h;obtain⟨h1,h2,h3,h4⟩:=enteringFrom_some t k (c+1) q h;refine⟨by omega,by omega,h3,fun j h5 h6=>?_⟩;by_cases ej:j=c
   ·subst ej;simpa using e
   ·exact h4 j (by omega) h6
theorem Rep.entering_none(R:Rep P t S)(h:entering t=none):∀ j,j<P.n+P.K->LN P.g (fun g=>S.G g j):=by
 intro j hj;have:=enteringFrom_none t _ _ h j (by omega) (by rw[R.jour,R.llen];omega);have h2:=(not_congr (R.neg_iff (c:=j) (by omega))).1 (by rw[this];simp);exact Classical.not_not.1 h2
theorem Rep.entering_some(R:Rep P t S){q:Nat}(h:entering t=some q):
  q<P.n+P.K/\¬LN P.g (fun g=>S.G g q)/\∀ j,j<q->LN P.g (fun g=>S.G g j):=by
 obtain⟨_,h2,h3,h4⟩:=enteringFrom_some t _ _ q h;have hq:q<P.n+P.K:=by rw[R.jour,R.llen] at h2;omega
 refine⟨hq,(R.neg_iff (by omega)).1 h3,fun j hj=>?_⟩;have:=h4 j (by omega) hj;have h5:=(not_congr (R.neg_iff (c:=j) (by omega))).1 (by rw[this];simp);exact Classical.not_not.1 h5
theorem Rep.parts_get(R:Rep P t S)(hm:P.m<=P.K){i k:Nat}(hi:i<P.K)(hk:k<P.m+1):(parts t i).getD k 0=S.T i (pj P k):=by
 simp only[parts,pj];cases k with
 | zero=>
  rw[List.getD_cons_zero,if_pos rfl,R.jour,R.llen];exact R.T i _ hi (Nat.le_refl _)
 | succ k=>
  rw[List.getD_cons_succ,if_neg (by omega),<-R.T i _ hi (by omega),Nat.add_sub_cancel];simp only[cellL];have hl:(t.limits.getD i []).length=P.n+P.K+1:=R.lrow _ (getD_mem _ _ _ (by rw[R.llen];exact hi));rw[R.jour,R.legs,gDe,List.getElem?_take_of_lt (by omega),List.getElem?_drop,<-gDe]
theorem Rep.parts_len(R:Rep P t S)(hm:P.m<=P.K){i:Nat}(hi:i<P.K):(parts t i).length=P.m+1:=by
 have hl:(t.limits.getD i []).length=P.n+P.K+1:=R.lrow _ (getD_mem _ _ _ (by rw[R.llen];exact hi));simp only[parts,List.length_cons,List.length_take,List.length_drop,hl,R.jour,R.legs];omega
theorem LN_snoc{n:Nat}(f:Nat->Int):LN (n+1) f<->LN n f/\(ZV n f->0<=f n):=by
 constructor
 ·intro h;refine⟨fun k hk hz=>h k (by omega) hz,fun hz=>h n (by omega) hz⟩
 ·rintro⟨h1,h2⟩ k hk hz;by_cases c:k=n
  ·subst c;exact h2 hz
  ·exact h1 k (by omega) hz
theorem Rep.before_iff(R:Rep P t S)(hm:P.m<=P.K){i r c:Nat}(hi:i<P.K)(hr:r<P.K)(hc:c<=P.n+P.K):
  before t i r c=true<->¬(LN (P.m+1) (fun k=>S.T i (pj P k)*S.T r c-S.T r (pj P k)*S.T i c)/\
   (ZV (P.m+1) (fun k=>S.T i (pj P k)*S.T r c-S.T r (pj P k)*S.T i c)->S.h r<=S.h i)):=by
 simp only[before];have l1:=R.parts_len hm hi;have l2:=R.parts_len hm hr;rw[lexLt_iff (P.m+2) _ _ (by simp[l1]) (by simp[l2]),LN_snoc];apply not_congr;have g1:∀ k,k<P.m+1->((parts t i).map (fun p=>p*cellL t.limits r c)++[t.holders.getD i 0]).getD k 0=S.T i (pj P k)*S.T r c:=by
  intro k hk;rw[gDe,List.getElem?_append_left (by simpa [l1] using hk),<-gDe,
   getD_map_lt _ _ _ 0 _ (by omega),R.parts_get hm hi hk,R.T r c hr hc]
 have g2:∀ k,k<P.m+1->((parts t r).map (fun p=>p*cellL t.limits i c)++[t.holders.getD r 0]).getD k 0=S.T r (pj P k)*S.T i c:=by
  intro k hk;rw[gDe,List.getElem?_append_left (by simpa [l2] using hk),<-gDe,
   getD_map_lt _ _ _ 0 _ (by omega),R.parts_get hm hr hk,R.T i c hi hc]
 have g3:((parts t i).map (fun p=>p*cellL t.limits r c)++[t.holders.getD i 0]).getD (P.m+1) 0=(S.h i:Int):=by
  rw[gDe,List.getElem?_append_right (by simp[l1])];simp only[lmp,l1,Nat.sub_self];exact R.h i hi
 have g4:((parts t r).map (fun p=>p*cellL t.limits i c)++[t.holders.getD r 0]).getD (P.m+1) 0=(S.h r:Int):=by
  rw[gDe,List.getElem?_append_right (by simp[l2])];simp only[lmp,l2,Nat.sub_self];exact R.h r hr
 rw[g3,g4];have e:∀ k,k<P.m+1->((parts t i).map (fun p=>p*cellL t.limits r c)++[t.holders.getD i 0]).getD k 0 -
   ((parts t r).map (fun p=>p*cellL t.limits i c)++[t.holders.getD r 0]).getD k 0=S.T i (pj P k)*S.T r c-S.T r (pj P k)*S.T i c:=by
  intro k hk;rw[g1 k hk,g2 k hk]
 constructor
 ·rintro⟨h1,h2⟩;refine⟨h1.congr e,fun hz=>?_⟩;have:=h2 (fun k hk=>(e k hk).trans (hz k hk));omega
 ·rintro⟨h1,h2⟩;refine⟨h1.congr fun k hk=>(e k hk).symm,fun hz=>?_⟩;have:=h2 (fun k hk=>(e k hk).symm.trans (hz k hk));omega
def NotAhead(P:Prob)(S:Tab)(c i r:Nat):Prop:=
 LN (P.m+1) (fun k=>S.T i (pj P k)*S.T r c-S.T r (pj P k)*S.T i c)/\
 (ZV (P.m+1) (fun k=>S.T i (pj P k)*S.T r c-S.T r (pj P k)*S.T i c)->S.h r<=S.h i)
theorem NotAhead.refl(P:Prob)(S:Tab)(c i:Nat):NotAhead P S c i i:=
 ⟨ZV.ln fun k _=>Int.sub_self _,fun _=>Nat.le_refl _⟩
theorem NotAhead.total{c i r:Nat}(h:¬NotAhead P S c i r):NotAhead P S c r i:=by
 have neg:∀ k,- (S.T i (pj P k)*S.T r c-S.T r (pj P k)*S.T i c)=S.T r (pj P k)*S.T i c-S.T i (pj P k)*S.T r c:=fun k=>by omega
 by_cases a:LN (P.m+1) (fun k=>S.T i (pj P k)*S.T r c-S.T r (pj P k)*S.T i c)
 ·by_cases z:ZV (P.m+1) (fun k=>S.T i (pj P k)*S.T r c-S.T r (pj P k)*S.T i c)
  ·have hz:ZV (P.m+1) (fun k=>S.T r (pj P k)*S.T i c-S.T i (pj P k)*S.T r c):=by
    intro k hk;have h1:S.T i (pj P k)*S.T r c-S.T r (pj P k)*S.T i c=0:=z k hk;show S.T r (pj P k)*S.T i c-S.T i (pj P k)*S.T r c=0;omega
   refine⟨hz.ln,fun _=>?_⟩;by_cases hh:S.h r<=S.h i
   ·exact absurd ⟨a,fun _=>hh⟩ h
   ·omega
  ·exact absurd ⟨a,fun hz=>absurd hz z⟩ h
 ·have b:=(neg_LN a).congr (fun k _=>neg k);refine⟨b,fun hz=>?_⟩;exfalso;apply a;refine ZV.ln fun k hk=>?_;have h1:S.T r (pj P k)*S.T i c-S.T i (pj P k)*S.T r c=0:=hz k hk;show S.T i (pj P k)*S.T r c-S.T r (pj P k)*S.T i c=0;omega
theorem NotAhead.trans{c i r u:Nat}(hi:0<S.T i c)(hr:0<S.T r c)(hu:0<S.T u c)(a:NotAhead P S c i r)(b:NotAhead P S c r u):NotAhead P S c i u:=by
 have e:∀ k,S.T u c*(S.T i (pj P k)*S.T r c-S.T r (pj P k)*S.T i c)+S.T i c*(S.T r (pj P k)*S.T u c-S.T u (pj P k)*S.T r c) =
   S.T r c*(S.T i (pj P k)*S.T u c-S.T u (pj P k)*S.T i c):=fun k=>by grind
 have l1:=a.1.smul (a:=S.T u c) (by omega);have l2:=b.1.smul (a:=S.T i c) (by omega);refine⟨LN.unscale hr ((l1.add l2).congr fun k _=>e k),fun hz=>?_⟩;have z:=LN.sum_zero l1 l2 (P.m+1) (by omega) (by
  intro k hk;have h0:S.T i (pj P k)*S.T u c-S.T u (pj P k)*S.T i c=0:=hz k hk;have:=e k;rw[h0,Int.mul_zero] at this;exact this)
 have z1:ZV (P.m+1) (fun k=>S.T i (pj P k)*S.T r c-S.T r (pj P k)*S.T i c):=by
  intro k hk;rcases Int.mul_eq_zero.mp (z k hk).1 with h | h
  ·omega
  ·exact h
 have z2:ZV (P.m+1) (fun k=>S.T r (pj P k)*S.T u c-S.T u (pj P k)*S.T r c):=by
  intro k hk;rcases Int.mul_eq_zero.mp (z k hk).2 with h | h
  ·omega
  ·exact h
 exact Nat.le_trans (b.2 z2) (a.2 z1)
theorem Rep.leavingUpto(R:Rep P t S)(hm:P.m<=P.K){c:Nat}(hc:c<=P.n+P.K):∀ k,k<=P.K->
  (SN.leavingUpto t c k=none/\∀ i,i<k->¬0<S.T i c)\/
  (∃ r,SN.leavingUpto t c k=some r/\r<k/\0<S.T r c/\∀ i,i<k->0<S.T i c->NotAhead P S c i r)
 | 0,_=>Or.inl ⟨rfl,fun i hi=>by omega⟩
 | k+1,hk=>by
  have ec:cellL t.limits k c=S.T k c:=R.T k c (by omega) hc;rcases R.leavingUpto hm hc k (by omega) with ⟨h1,h2⟩ | ⟨r,h1,h2,h3,h4⟩
  ·by_cases p:0<S.T k c
   ·right;refine⟨k,?_,by omega,p,fun i hi hp=>?_⟩
    ·simp only[SN.leavingUpto,leaveStep];rw[h1,ec,if_pos p]
    ·by_cases e:i=k
     ·subst e;exact NotAhead.refl P S c i
     ·exact absurd hp (h2 i (by omega))
   ·left;refine⟨?_,fun i hi=>?_⟩
    ·simp only[SN.leavingUpto,leaveStep];rw[h1,ec,if_neg p]
    ·by_cases e:i=k
     ·subst e;exact p
     ·exact h2 i (by omega)
  ·right;by_cases p:0<S.T k c
   ·have hb:=R.before_iff hm (i:=k) (r:=r) (c:=c) (by omega) (by omega) hc;by_cases b:before t k r c=true
    ·have hn:=hb.1 b;have hk2:NotAhead P S c r k:=NotAhead.total hn;refine⟨k,?_,by omega,p,fun i hi hp=>?_⟩
     ·simp only[SN.leavingUpto,leaveStep];rw[h1,ec,if_pos p];simp only[if_pos b]
     ·by_cases e:i=k
      ·subst e;exact NotAhead.refl P S c i
      ·exact NotAhead.trans hp h3 p (h4 i (by omega) hp) hk2
    ·have hn:NotAhead P S c k r:=Classical.not_not.1 (fun h=>b (hb.2 h));refine⟨r,?_,by omega,h3,fun i hi hp=>?_⟩
     ·simp only[SN.leavingUpto,leaveStep];rw[h1,ec,if_pos p];simp only[if_neg b]
     ·by_cases e:i=k
      ·subst e;exact hn
      ·exact h4 i (by omega) hp
   ·refine⟨r,?_,by omega,h3,fun i hi hp=>?_⟩
    ·simp only[SN.leavingUpto,leaveStep];rw[h1,ec,if_neg p]
    ·by_cases e:i=k
     ·subst e;exact absurd hp p
     ·exact h4 i (by omega) hp
theorem getD_set_self{l:List (List Int)}{i:Nat}{x:List Int}(h:i<l.length):(l.set i x).getD i []=x:=by
 rw[gDe,List.getElem?_set_self h];rfl
theorem getD_set_ne{α:Type}{l:List α}{i j:Nat}{x d:α}(h:i≠j):(l.set i x).getD j d=l.getD j d:=by
 rw[gDe,List.getElem?_set_ne h,gDe]
theorem cleared_get{row prow:List Int}{n c j:Nat}{b:Int}(h1:row.length=n)(h2:prow.length=n)(hj:j<n):
  (cleared row prow c b).getD j 0=(row.getD j 0*prow.getD c 0-row.getD c 0*prow.getD j 0).fdiv b:=by
 simp only[cleared];rw[gDe,List.getElem?_zipWith,gEe (by omega),gEe (by omega)];have e1:row.getD j 0=row[j]'(by omega):=by rw[gDe,gEe (by omega)];rfl
 have e2:prow.getD j 0=prow[j]'(by omega):=by rw[gDe,gEe (by omega)];rfl
 rw[e1,e2];rfl
theorem cleared_len{row prow:List Int}{n c:Nat}{b:Int}(h1:row.length=n)(h2:prow.length=n):(cleared row prow c b).length=n:=by
 simp[cleared,h1,h2]
theorem Rep.turn(R:Rep P t S){r q:Nat}(hr:r<P.K)(hq:q<=P.n+P.K):Rep P (turnL t r q) (turned r q S):=by
 have hpl:(t.limits.getD r []).length=P.n+P.K+1:=R.lrow _ (getD_mem _ _ _ (by rw[R.llen];exact hr));have hpg:∀ j,j<=P.n+P.K->(t.limits.getD r []).getD j 0=S.T r j:=fun j hj=>R.T r j hr hj;refine⟨R.legs,R.jour,?_,?_,?_,?_,?_,?_,?_,?_,?_⟩
 ·simp[turnL,R.llen]
 ·intro x hx;simp only[turnL] at hx;rcases List.mem_or_eq_of_mem_set hx with h | h
  ·obtain⟨y,hy,rfl⟩:=List.mem_map.mp h;exact cleared_len (R.lrow y hy) hpl
  ·rw[h];exact hpl
 ·simp[turnL,R.glen]
 ·intro x hx;simp only[turnL] at hx;obtain⟨y,hy,rfl⟩:=List.mem_map.mp hx;exact cleared_len (R.grow y hy) hpl
 ·simp[turnL,R.hlen]
 ·intro i j hi hj;simp only[turnL,turned,cellL];by_cases c:i=r
  ·subst c;rw[getD_set_self (by simp[R.llen];exact hi),if_pos rfl,hpg j hj]
  ·rw[getD_set_ne (fun e=>c e.symm),if_neg c,getD_map_lt _ _ _ [] _ (by rw[R.llen];exact hi),
    cleared_get (R.lrow _ (getD_mem _ _ _ (by rw[R.llen];exact hi))) hpl (by omega),hpg j hj,hpg q hq,R.d]
   have e1:=R.T i j hi hj;have e2:=R.T i q hi hq;simp only[cellL] at e1 e2;rw[e1,e2]
 ·intro g j hg hj;simp only[turnL,turned,cellL];rw[getD_map_lt _ _ _ [] _ (by rw[R.glen];exact hg),
   cleared_get (R.grow _ (getD_mem _ _ _ (by rw[R.glen];exact hg))) hpl (by omega),hpg j hj,hpg q hq,R.d]
  have e1:=R.G g j hg hj;have e2:=R.G g q hg hq;simp only[cellL] at e1 e2;rw[e1,e2]
 ·intro i hi;simp only[turnL,turned];by_cases c:i=r
  ·subst c;rw[if_pos rfl,gDe,List.getElem?_set_self (by rw[R.hlen];exact hi)];rfl
  ·rw[if_neg c,getD_set_ne (fun e=>c e.symm)];exact R.h i hi
 ·simp only[turnL,turned];exact R.T r q hr hq
end
end SN
end
section
namespace SN
open Vbahar (Point Row State Journey)
def capsI(s:State):List Int:=s.caps.map fun(c:Nat)=>(c:Int)
def faresI(s:State):List Int:=s.journeys.map fun j=>(j.fare:Int)
def demandsI(s:State):List Int:=s.journeys.map fun j=>(j.demand:Int)
def wayI(l:List Nat):List Int:=l.map fun(k:Nat)=>(k:Int)+1
def waysI(s:State):List (List Int):=s.journeys.map fun j=>wayI j.legs
def S0(s:State):Tab where
 T:=(prob s).a
 G:=fun g j=>- (prob s).c g j
 d:=1
 h:=fun i=>(prob s).n+i
theorem dt_unit:∀ (n:Nat) (M:Mat),(∀ r c,r<n->c<n->M r c=if r=c then 1 else 0)->dt n M=1
 | 0,M,_=>by simp[dt]
 | n+1,M,h=>by
  simp only[dt];rw[sm_one (k:=0) (by omega)]
  ·rw[dt_unit n (minor 0 M),h 0 0 (by omega) (by omega),if_pos rfl]
   ·simp[sg]
   ·intro r c hr hc;simp only[minor];rw[if_neg (by omega),h _ _ (by omega) (by omega)];by_cases e:r=c
    ·rw[if_pos (by omega),if_pos e]
    ·rw[if_neg (by omega),if_neg e]
  ·intro i hi h0;rw[h 0 i (by omega) hi,if_neg (by omega)];simp
theorem S0_inv(s:State):Inv (prob s) (S0 s) where
 d:=by show(0:Int)<1;decide
 h:=fun i hi=>by show(prob s).n+i<_;omega
 det:=by
  left;exact dt_unit _ _ fun r c hr hc=>prob_units s r c hr hc
 col:=by
  intro k j hk hj;rw[sm_one hk]
  ·show(prob s).a k ((prob s).n+k)*(prob s).a k j=1*(prob s).a k j;rw[prob_units s k k hk hk,if_pos rfl]
  ·intro i hi hik;show(prob s).a k ((prob s).n+i)*_=0;rw[prob_units s k i hk hi,if_neg (by omega),Int.zero_mul]
 goal:=by
  intro g j hg hj;rw[sm_zero]
  ·show-(prob s).c g j=0-1*(prob s).c g j;omega
  ·intro i hi;show(prob s).c g ((prob s).n+i)*_=0;rw[prob_c0 s g _ (by omega),Int.zero_mul]
theorem prob_b_nonneg(s:State)(k:Nat):0<=(prob s).a k ((prob s).n+(prob s).K):=by
 have hn:(prob s).n=s.journeys.length:=rfl;have hK:(prob s).K=s.caps.length+s.journeys.length:=rfl;simp only[prob];rw[if_neg (by omega),if_neg (by omega)];by_cases cc:k<s.caps.length
 ·rw[if_pos cc];omega
 ·rw[if_neg cc];omega
theorem prob_a_nonneg(s:State)(k j:Nat):0<=(prob s).a k j:=by
 simp only[prob]
 repeat' split
 all_goals omega
theorem S0_feas(s:State):Feas (prob s) (S0 s):=fun i hi k hk _=>prob_a_nonneg s i _
theorem single_len(w p:Nat)(x:Int):(single w p x).length=w:=by simp[single]
theorem single_get{w p j:Nat}(x:Int)(hp:p<w):(single w p x).getD j 0=if j=p then x else 0:=by
 simp only[single];by_cases c:j=p
 ·subst c;rw[if_pos rfl,gDe,List.getElem?_set_self (by simpa using hp)];rfl
 ·rw[if_neg c,getD_set_ne (fun e=>c e.symm),gDe,List.getElem?_replicate];by_cases cc:j<w
  ·rw[if_pos cc];rfl
  ·rw[if_neg cc];rfl
theorem wayI_contains(l:List Nat)(k:Nat):(wayI l).contains ((k:Int)+1)=l.contains k:=by
 rw[Bool.eq_iff_iff,List.contains_iff_mem,List.contains_iff_mem];simp only[wayI,List.mem_map];constructor
 ·rintro⟨x,hx,he⟩;have:x=k:=by omega
  rw[<-this];exact hx
 ·intro h;exact⟨k,h,rfl⟩
theorem usesOf_len(s:State):(usesOf (capsI s) (demandsI s) (waysI s)).length=(prob s).K:=by
 simp[usesOf,capsI,demandsI,prob]
theorem usesOf_get(s:State){k j:Nat}(hk:k<(prob s).K)(hj:j<(prob s).n):
  cellL (usesOf (capsI s) (demandsI s) (waysI s)) k j=(prob s).a k j:=by
 have hK:(prob s).K=s.caps.length+s.journeys.length:=rfl;have hn:(prob s).n=s.journeys.length:=rfl;simp only[cellL,usesOf];have e1:(capsI s).length=s.caps.length:=by simp[capsI]
 have e2:(demandsI s).length=s.journeys.length:=by simp[demandsI]
 rw[e1,e2];by_cases c:k<s.caps.length
 ·have:(List.map (fun(k:Nat)=>legUse ((k:Int)+1) (waysI s)) (List.range s.caps.length) ++
    (List.range s.journeys.length).map fun j=>single s.journeys.length j 1).getD k []=legUse ((k:Int)+1) (waysI s):=by
   rw[gDe,List.getElem?_append_left (by simpa using c)];simp[c]
  rw[this];simp only[legUse,waysI,List.map_map];have hj':j<s.journeys.length:=hj;simp only[prob];rw[if_pos hj',if_pos c,getD_map_lt _ _ _ jz _ hj'];show(if (wayI (s.journeys.getD j jz).legs).contains ((k:Int)+1)=true then (1:Int) else 0)=_;rw[wayI_contains];rfl
 ·have:(List.map (fun(k:Nat)=>legUse ((k:Int)+1) (waysI s)) (List.range s.caps.length) ++
    (List.range s.journeys.length).map fun j=>single s.journeys.length j 1).getD k []=single s.journeys.length (k-s.caps.length) 1:=by
   rw[gDe,List.getElem?_append_right (by simp;omega)];simp[show k-s.caps.length<s.journeys.length by omega]
  rw[this,single_get _ (by omega)];have hj':j<s.journeys.length:=hj;simp only[prob];rw[if_pos hj',if_neg c]
theorem usesOf_row(s:State){k:Nat}(hk:k<(prob s).K):
  ((usesOf (capsI s) (demandsI s) (waysI s)).getD k []).length=(prob s).n:=by
 have h:=getD_mem (usesOf (capsI s) (demandsI s) (waysI s)) k [] (by rw[usesOf_len];exact hk);simp only[usesOf,List.mem_append,List.mem_map] at h;simp only[usesOf];rcases h with ⟨x,_,hx⟩ | ⟨x,_,hx⟩
 ·rw[<-hx];simp[legUse,waysI,prob]
 ·rw[<-hx];simp[single,demandsI,prob]
theorem limitRows_len(s:State):(limitRows (capsI s) (demandsI s) (waysI s)).length=(prob s).K:=by
 simp[limitRows,usesOf_len]
theorem limitRows_row(s:State){k:Nat}(hk:k<(prob s).K):
  (limitRows (capsI s) (demandsI s) (waysI s)).getD k [] =
   limitRow (prob s).K (capsI s++demandsI s) k ((usesOf (capsI s) (demandsI s) (waysI s)).getD k []):=by
 have h1:k<(usesOf (capsI s) (demandsI s) (waysI s)).length:=by rw[usesOf_len];exact hk
 simp only[limitRows];rw[gDe,List.getElem?_mapIdx,gEe h1,usesOf_len,gDe,gEe h1];rfl
theorem amounts_get(s:State){k:Nat}(hk:k<(prob s).K):
  (capsI s++demandsI s).getD k 0=(prob s).a k ((prob s).n+(prob s).K):=by
 have hK:(prob s).K=s.caps.length+s.journeys.length:=rfl;have hn:(prob s).n=s.journeys.length:=rfl;simp only[prob];rw[if_neg (by omega),if_neg (by omega)];by_cases c:k<s.caps.length
 ·rw[if_pos c,gDe,List.getElem?_append_left (by simpa [capsI] using c)];simp[capsI,c]
 ·rw[if_neg c,gDe,List.getElem?_append_right (by simp[capsI];omega)];simp[capsI,demandsI,jn,show k-s.caps.length<s.journeys.length by omega]
theorem limitRow_get(s:State){k j:Nat}(hk:k<(prob s).K)(hj:j<=(prob s).n+(prob s).K):
  (limitRow (prob s).K (capsI s++demandsI s) k ((usesOf (capsI s) (demandsI s) (waysI s)).getD k [])).getD j 0=(prob s).a k j:=by
 have hl:=usesOf_row s hk;simp only[limitRow];by_cases c1:j<(prob s).n
 ·rw[gDe,List.append_assoc,List.getElem?_append_left (by rw[hl];exact c1),<-gDe];exact usesOf_get s hk c1
 ·by_cases c2:j<(prob s).n+(prob s).K
  ·rw[gDe,List.append_assoc,List.getElem?_append_right (by rw[hl];omega),hl,
    List.getElem?_append_left (by rw[single_len];omega),<-gDe,single_get _ hk]
   have:=prob_units s k (j-(prob s).n) hk (by omega);rw[show(prob s).n+(j-(prob s).n)=j by omega] at this;rw[this];by_cases e:j-(prob s).n=k
   ·rw[if_pos e,if_pos e.symm]
   ·rw[if_neg e,if_neg (fun h=>e h.symm)]
  ·have:j=(prob s).n+(prob s).K:=by omega
   subst this;have hl2:(((usesOf (capsI s) (demandsI s) (waysI s)).getD k [])++single (prob s).K k 1).length=(prob s).n+(prob s).K:=by
    rw[List.length_append,hl,single_len]
   rw[gDe,List.getElem?_append_right (by rw[hl2];omega),hl2,Nat.sub_self];exact amounts_get s hk
theorem goalRows_get(s:State){g j:Nat}(hg:g<(prob s).g)(hj:j<=(prob s).n+(prob s).K):
  cellL (goalRows (faresI s) ((prob s).n+(prob s).K+1)) g j=- (prob s).c g j:=by
 have hK:(prob s).K=s.caps.length+s.journeys.length:=rfl;have hn:(prob s).n=s.journeys.length:=rfl;have hf:(faresI s).length=s.journeys.length:=by simp[faresI]
 have hg':g<s.journeys.length+1:=hg;simp only[cellL,goalRows];cases g with
 | zero=>
  rw[List.getD_cons_zero];by_cases c:j<s.journeys.length
  ·rw[gDe,List.getElem?_append_left (by simpa [hf] using c)];simp only[prob];rw[if_pos c,if_pos trivial];simp[faresI,jn,c]
  ·rw[gDe,List.getElem?_append_right (by simp[hf];omega),List.getElem?_replicate,prob_c0 s 0 j (by omega)];rw[if_pos (by simp[hf];omega)];rfl
 | succ g=>
  rw[List.getD_cons_succ];have:((List.range (faresI s).length).map fun j=>single ((prob s).n+(prob s).K+1) j (-1)).getD g []=single ((prob s).n+(prob s).K+1) g (-1):=by
   rw[hf];simp[gDe,show g<s.journeys.length by omega]
  rw[this,single_get _ (by omega)];simp only[prob];by_cases c:j<s.journeys.length
  ·rw[if_pos c,if_neg (show ¬g+1=0 by omega),Nat.add_sub_cancel];by_cases e:j=g
   ·rw[if_pos e,if_pos e]
   ·rw[if_neg e,if_neg e];rfl
  ·rw[if_neg c,if_neg (by omega)];rfl
def tab0(s:State):TL:=mkT (capsI s) (faresI s) (demandsI s) (waysI s)
theorem tab0_rep(s:State):Rep (prob s) (tab0 s) (S0 s):=by
 have hf:(faresI s).length=(prob s).n:=by simp[faresI,prob]
 have hL:=limitRows_len s;have hw:(faresI s).length+(limitRows (capsI s) (demandsI s) (waysI s)).length+1=(prob s).n+(prob s).K+1:=by rw[hf,hL]
 have hlr:∀ k,k<(prob s).K->((limitRows (capsI s) (demandsI s) (waysI s)).getD k []).length=(prob s).n+(prob s).K+1:=by
  intro k hk;rw[limitRows_row s hk];simp[limitRow,usesOf_row s hk,single_len];rw[<-gDe,usesOf_row s hk];omega
 refine⟨by simp[tab0,mkT,capsI,prob],by simp[tab0,mkT,faresI,prob],hL,?_,?_,?_,?_,?_,?_,?_,rfl⟩
 ·intro r hr;obtain⟨i,hi,rfl⟩:=List.getElem_of_mem hr;have hi':i<(prob s).K:=by
   have:i<(limitRows (capsI s) (demandsI s) (waysI s)).length:=hi;rw[<-hL];exact this
  have:=hlr i hi';have hi2:i<(limitRows (capsI s) (demandsI s) (waysI s)).length:=hi;rw[gDe,gEe hi2] at this;exact this
 ·show(goalRows (faresI s) _).length=(prob s).g;simp[goalRows,hf,prob_g,prob_n]
 ·intro r hr;have hr':r∈goalRows (faresI s) ((faresI s).length+(limitRows (capsI s) (demandsI s) (waysI s)).length+1):=hr;rw[hw] at hr';simp only[goalRows,List.mem_cons,List.mem_map] at hr';rcases hr' with rfl | ⟨x,_,rfl⟩
  ·simp[hf];omega
  ·exact single_len _ _ _
 ·show((List.range (limitRows (capsI s) (demandsI s) (waysI s)).length).map _).length=(prob s).K;simp[hL]
 ·intro i j hi hj;show cellL (limitRows (capsI s) (demandsI s) (waysI s)) i j=(prob s).a i j;simp only[cellL];rw[limitRows_row s hi,limitRow_get s hi hj]
 ·intro g j hg hj;show cellL (goalRows (faresI s) ((faresI s).length+(limitRows (capsI s) (demandsI s) (waysI s)).length+1)) g j=- (prob s).c g j;rw[hw];exact goalRows_get s hg hj
 ·intro i hi;show((List.range (limitRows (capsI s) (demandsI s) (waysI s)).length).map fun(k:Nat)=>(((faresI s).length:Int)+(k:Int))).getD i 0=(((prob s).n+i:Nat):Int);rw[hL,hf,getD_map_range _ hi];omega
theorem stopped{s:State}{S:Tab}(I:Inv (prob s) S){q:Nat}(hq:q<(prob s).n+(prob s).K)(ho:¬InB (prob s) S q):
  ∃ i,i<(prob s).K/\0<S.T i q:=by
 apply Classical.byContradiction;intro hn;have hle:∀ i,i<(prob s).K->S.T i q<=0:=by
  intro i hi;apply Classical.byContradiction;intro h;exact hn ⟨i,hi,by omega⟩
 have hK:(prob s).K=(prob s).m+(prob s).n:=rfl;have enn:∀ j,0<=edge (prob s) S q j:=by
  intro j;simp only[edge];have h1:sm (prob s).K (fun i=>if S.h i=j then S.T i q else 0)<=0:=by
   have:0<=sm (prob s).K (fun i=>if S.h i=j then-S.T i q else 0):=by
    refine sm_nonneg fun i hi=>?_;by_cases c:S.h i=j
    ·rw[if_pos c];have:=hle i hi;omega
    ·rw[if_neg c];exact Int.le_refl 0
   have e:sm (prob s).K (fun i=>if S.h i=j then-S.T i q else 0)=- 1*sm (prob s).K (fun i=>if S.h i=j then S.T i q else 0):=by
    rw[<-sm_mul];refine sm_congr fun i _=>?_;by_cases c:S.h i=j
    ·rw[if_pos c,if_pos c];omega
    ·rw[if_neg c,if_neg c];omega
   omega
  have hd:=I.d;by_cases c:j=q
  ·rw[if_pos c];omega
  ·rw[if_neg c];omega
 have hz:∀ k,k<(prob s).K->sm (prob s).n (fun j=>(prob s).a k j*edge (prob s) S q j)=0/\edge (prob s) S q ((prob s).n+k)=0:=by
  intro k hk;have h:=edge_keeps I hk hq;rw[sm_split s _ hk] at h;have h1:0<=sm (prob s).n (fun j=>(prob s).a k j*edge (prob s) S q j):=
   sm_nonneg fun j _=>Int.mul_nonneg (prob_a_nonneg s k j) (enn j)
  have h2:=enn ((prob s).n+k);omega
 have hq0:edge (prob s) S q q=S.d:=by rw[edge_out ho,if_pos rfl]
 have hd:=I.d;by_cases c:q<(prob s).n
 ·have h:=(hz ((prob s).m+q) (by omega)).1;rw[sm_one c] at h
  ·have e:(prob s).a ((prob s).m+q) q=1:=by
    have hm:(prob s).m=s.caps.length:=rfl;have hc':q<s.journeys.length:=c;simp only[prob];rw[if_pos hc',if_neg (by omega),if_pos (by omega)]
   rw[e,hq0] at h;omega
  ·intro j hj hjq;have e:(prob s).a ((prob s).m+q) j=0:=by
    have hm:(prob s).m=s.caps.length:=rfl;have hj':j<s.journeys.length:=hj;simp only[prob];rw[if_pos hj',if_neg (by omega),if_neg (by omega)]
   rw[e,Int.zero_mul]
 ·have h:=(hz (q-(prob s).n) (by omega)).2;rw[show(prob s).n+(q-(prob s).n)=q by omega,hq0] at h;omega
theorem Rep.step{s:State}{t:TL}{S:Tab}(R:Rep (prob s) t S)(I:Inv (prob s) S){q:Nat}(h:entering t=some q):
  ∃ r,leaving t q=some r/\Piv (prob s) S r q:=by
 obtain⟨hq,hneg,hfirst⟩:=R.entering_some h;have ho:¬InB (prob s) S q:=by
  rintro⟨i,hi,he⟩;apply hneg;refine ZV.ln fun g hg=>?_;rw[<-he];exact I.gbasic hg hi
 obtain⟨i0,hi0,hp0⟩:=stopped I hq ho;rcases R.leavingUpto (prob_mK s) (c:=q) (by omega) (prob s).K (Nat.le_refl _) with ⟨_,h2⟩ | ⟨r,h1,h2,h3,h4⟩
 ·exact absurd hp0 (h2 i0 hi0)
 ·refine⟨r,?_,⟨hq,hneg,hfirst,h2,h3,fun i hi hp=>h4 i hi hp⟩⟩;simp only[leaving];rw[R.llen];exact h1
theorem itN_rep(s:State):∀ k,(∀ i,i<k->entering (itN (tab0 s) i)≠none)->
  ∃ S,Rep (prob s) (itN (tab0 s) k) S/\Inv (prob s) S/\Feas (prob s) S
 | 0,_=>⟨S0 s,tab0_rep s,S0_inv s,S0_feas s⟩
 | k+1,h=>by
  obtain⟨S,R,I,F⟩:=itN_rep s k (fun i hi=>h i (by omega));cases hq:entering (itN (tab0 s) k) with
  | none=>exact absurd hq (h k (by omega))
  | some q=>
   obtain⟨r,hr,p⟩:=R.step I hq;refine⟨turned r q S,?_,I.turned p.hr p.hq p.hp,F.turned I (prob_mK s) p⟩;have:itN (tab0 s) (k+1)=turnL (itN (tab0 s) k) r q:=by
    simp only[itN,nxt,hq,Option.getD_some,hr]
   rw[this];exact R.turn p.hr (by have:=p.hq;omega)
noncomputable def absRun (s:State):Nat->Tab
 | 0=>S0 s
 | k+1=>turned ((leaving (itN (tab0 s) k) ((entering (itN (tab0 s) k)).getD 0)).getD 0) ((entering (itN (tab0 s) k)).getD 0) (absRun s k)
theorem absRun_rep(s:State)(h:∀ i,entering (itN (tab0 s) i)≠none):∀ k,
  Rep (prob s) (itN (tab0 s) k) (absRun s k)/\Inv (prob s) (absRun s k)/\Feas (prob s) (absRun s k)/\
  Piv (prob s) (absRun s k) ((leaving (itN (tab0 s) k) ((entering (itN (tab0 s) k)).getD 0)).getD 0) ((entering (itN (tab0 s) k)).getD 0):=by
 have piv:∀ k,Rep (prob s) (itN (tab0 s) k) (absRun s k)->Inv (prob s) (absRun s k)->
   Piv (prob s) (absRun s k) ((leaving (itN (tab0 s) k) ((entering (itN (tab0 s) k)).getD 0)).getD 0) ((entering (itN (tab0 s) k)).getD 0):=by
  intro k R I;cases hq:entering (itN (tab0 s) k) with
  | none=>exact absurd hq (h k)
  | some q=>
   obtain⟨r,hr,p⟩:=R.step I hq;simp only[Option.getD_some,hr];exact p
 intro k;induction k with
 | zero=>exact⟨tab0_rep s,S0_inv s,S0_feas s,piv 0 (tab0_rep s) (S0_inv s)⟩
 | succ k ih=>
  obtain⟨R,I,F,p⟩:=ih;have R':Rep (prob s) (itN (tab0 s) (k+1)) (absRun s (k+1)):=R.turn p.hr (by have:=p.hq;omega);have I':Inv (prob s) (absRun s (k+1)):=I.turned p.hr p.hq p.hp;exact⟨R',I',F.turned I (prob_mK s) p,piv (k+1) R' I'⟩
theorem it_ends(s:State):∃ k,entering (itN (tab0 s) k)=none:=by
 apply Classical.byContradiction;intro hn;have h:∀ i,entering (itN (tab0 s) i)≠none:=fun i e=>hn ⟨i,e⟩;have a:=absRun_rep s h;exact Run.ends (P:=prob s) (S:=absRun s) (r:=fun k=>(leaving (itN (tab0 s) k) ((entering (itN (tab0 s) k)).getD 0)).getD 0)
  (q:=fun k=>(entering (itN (tab0 s) k)).getD 0)
  ⟨prob_mK s,fun t=>(a t).2.1,fun t=>(a t).2.2.1,fun t=>(a t).2.2.2,fun t=>rfl⟩
theorem least(p:Nat->Prop):∀ n,p n->∃ k,p k/\∀ i,i<k->¬p i:=by
 intro n;induction n using Nat.strongRecOn with
 | ind n ih=>
  intro h;by_cases c:∃ i,i<n/\p i
  ·obtain⟨i,hi,hp⟩:=c;exact ih i hi hp
  ·exact⟨n,h,fun i hi hp=>c ⟨i,hi,hp⟩⟩
theorem solved_ends(s:State):∃ k,entering (itN (tab0 s) k)=none/\(∀ i,i<k->entering (itN (tab0 s) i)≠none):=by
 obtain⟨n,hn⟩:=it_ends s;exact least (fun k=>entering (itN (tab0 s) k)=none) n hn
theorem solved_final{s:State}{k:Nat}(h0:entering (itN (tab0 s) k)=none)(h:∀ i,i<k->entering (itN (tab0 s) i)≠none):
  ∃ S,Rep (prob s) (itN (tab0 s) k) S/\Final (prob s) S:=by
 obtain⟨S,R,I,F⟩:=itN_rep s k h;exact⟨S,R,I,F,R.entering_none h0⟩
end SN
end
section
namespace SN
open Vbahar (Point Row State Journey)
theorem frac_mul{k a d:Int}(hk:0<k):Vbahar.frac (k*a) (k*d)=Vbahar.frac a d:=by
 simp only[Vbahar.frac];have e:((Int.gcd (k*a) (k*d):Nat):Int)=k*((Int.gcd a d:Nat):Int):=by
  rw[Int.gcd_mul_left];have:((k.natAbs*Int.gcd a d:Nat):Int)=(k.natAbs:Int)*((Int.gcd a d:Nat):Int):=Int.natCast_mul _ _;rw[this,Int.natAbs_of_nonneg (by omega)]
 rw[e,Int.mul_ediv_mul_of_pos _ _ hk,Int.mul_ediv_mul_of_pos _ _ hk]
theorem frac_eq{a d b e:Int}(hd:0<d)(he:0<e)(h:a*e=b*d):Vbahar.frac a d=Vbahar.frac b e:=by
 rw[<-frac_mul (a:=a) (d:=d) he,<-frac_mul (a:=b) (d:=e) hd,Int.mul_comm e a,h,Int.mul_comm e d,Int.mul_comm b d]
def told(l:List (Int×Int)):List Int:=l.flatMap fun p=>Vbahar.frac p.1 p.2
def bestPairs(t:TL):List (Int×Int):=t.goals.map fun g=>(g.getD (t.journeys+t.limits.length) 0,t.below)
def bidPairs(t:TL):List (Int×Int):=(((t.goals.getD 0 []).drop t.journeys).take t.legs).map fun p=>(p,t.below)
theorem flatMap_range{α:Type}(l:List α)(d:α)(f:α->List Int):l.flatMap f=(List.range l.length).flatMap fun i=>f (l.getD i d):=by
 have:l=(List.range l.length).map fun i=>l.getD i d:=by
  refine List.ext_getElem (by simp) fun i h1 h2=>?_;simp[gDe,h1]
 conv=>lhs;rw[this]
 rw[List.flatMap_map]
theorem flatMap_congr{l:List Nat}{f g:Nat->List Int}(h:∀ i,i∈l->f i=g i):l.flatMap f=l.flatMap g:=by
 induction l with
 | nil=>rfl
 | cons x r ih=>rw[List.flatMap_cons,List.flatMap_cons,h x (by simp),ih fun i hi=>h i (by simp[hi])]
theorem best_told{s:State}{t:TL}{S:Tab}(R:Rep (prob s) t S)(F:Final (prob s) S):
  told (bestPairs t)=Vbahar.frac (Vbahar.earns s (Vbahar.best s)) (Vbahar.best s).den++Vbahar.fracs (Vbahar.best s):=by
 obtain⟨hd,hl,h0,hj⟩:=best_char F;have hSd:=F.inv.d;have hg:t.goals=t.goals.getD 0 []::t.goals.drop 1:=by
  have:0<t.goals.length:=by rw[R.glen];exact prob_gpos s
  cases e:t.goals with
  | nil=>rw[e] at this;simp at this
  | cons x r=>simp
 have hrow:∀ g,g<(prob s).g->(t.goals.getD g []).getD (t.journeys+t.limits.length) 0=S.G g ((prob s).n+(prob s).K):=by
  intro g hg';rw[R.jour,R.llen];exact R.G g _ hg' (Nat.le_refl _)
 have e1:told (bestPairs t)=(List.range (prob s).g).flatMap fun g=>Vbahar.frac (S.G g ((prob s).n+(prob s).K)) S.d:=by
  simp only[told,bestPairs];rw[List.flatMap_map,flatMap_range _ [],R.glen];refine flatMap_congr fun i hi=>?_;have hi':i<(prob s).g:=by simpa using hi
  simp only;rw[hrow i hi',R.d]
 rw[e1,prob_g,List.range_succ_eq_map,List.flatMap_cons,List.flatMap_map];congr 1
 ·exact frac_eq hSd hd h0.symm
 ·simp only[Vbahar.fracs];rw[flatMap_range (Vbahar.best s).nums 0,hl];refine flatMap_congr fun i hi=>?_;have hi':i<(prob s).n:=by simpa [prob_n] using hi
  exact frac_eq hSd hd (hj i hi').symm
theorem bids_told{s:State}{t:TL}{S:Tab}(R:Rep (prob s) t S)(F:Final (prob s) S):
  told (bidPairs t)=Vbahar.fracs (Vbahar.bids s):=by
 obtain⟨hd,hl,hp⟩:=bids_char F;have hSd:=F.inv.d;have hK:(prob s).K=(prob s).m+(prob s).n:=rfl;have h0:(t.goals.getD 0 []).length=(prob s).n+(prob s).K+1:=R.grow _ (getD_mem _ _ _ (by rw[R.glen];exact prob_gpos s));simp only[told,bidPairs,Vbahar.fracs];rw[List.flatMap_map,flatMap_range _ 0,flatMap_range (Vbahar.bids s).nums 0,hl];have e:(((t.goals.getD 0 []).drop t.journeys).take t.legs).length=(prob s).m:=by
  rw[List.length_take,List.length_drop,h0,R.jour,R.legs];omega
 rw[e];refine flatMap_congr fun i hi=>?_;have hi':i<(prob s).m:=by simpa using hi
 have e2:(((t.goals.getD 0 []).drop t.journeys).take t.legs).getD i 0=S.G 0 ((prob s).n+i):=by
  rw[<-R.G 0 _ (prob_gpos s) (by omega),R.jour,R.legs];simp only[cellL];rw[gDe,List.getElem?_take_of_lt hi',List.getElem?_drop,<-gDe]
 rw[e2,R.d];exact frac_eq hSd hd (hp i hi').symm
theorem pairs_ok{s:State}{t:TL}{S:Tab}(R:Rep (prob s) t S)(F:Final (prob s) S):
  (∀ p,p∈bestPairs t->0<=p.1/\0<p.2)/\(∀ p,p∈bidPairs t->0<=p.1/\0<p.2):=by
 have hSd:=F.inv.d;have hd:0<t.below:=by rw[R.d];exact hSd
 constructor
 ·intro p hp;simp only[bestPairs,List.mem_map] at hp;obtain⟨g,hg,rfl⟩:=hp;refine⟨?_,hd⟩;obtain⟨i,hi,rfl⟩:=List.getElem_of_mem hg;have hi':i<(prob s).g:=by rw[<-R.glen];exact hi
  have:=R.G i ((prob s).n+(prob s).K) hi' (Nat.le_refl _);simp only[cellL] at this;have eg:t.goals.getD i []=t.goals[i]:=by rw[gDe,gEe hi];rfl
  rw[eg] at this;show 0<=t.goals[i].getD (t.journeys+t.limits.length) 0;rw[R.jour,R.llen];have e:t.goals[i].getD ((prob s).n+(prob s).K) 0=S.G i ((prob s).n+(prob s).K):=this;rw[e,<-Xc_goal F.inv hi' (prob_c0 s i _ (by omega))];refine sm_nonneg fun j _=>Int.mul_nonneg ?_ (Xc_nonneg F.feas j);simp only[prob]
  repeat' split
  all_goals omega
 ·intro p hp;simp only[bidPairs,List.mem_map] at hp;obtain⟨x,hx,rfl⟩:=hp;refine⟨?_,hd⟩;obtain⟨i,hi,rfl⟩:=List.getElem_of_mem hx;have h0:(t.goals.getD 0 []).length=(prob s).n+(prob s).K+1:=R.grow _ (getD_mem _ _ _ (by rw[R.glen];exact prob_gpos s));have hK:(prob s).K=(prob s).m+(prob s).n:=rfl;have hi2:i<(prob s).m:=by
   rw[List.length_take,R.legs] at hi;omega
  show 0<=(((t.goals.getD 0 []).drop t.journeys).take t.legs)[i];have e2:(((t.goals.getD 0 []).drop t.journeys).take t.legs)[i]=S.G 0 ((prob s).n+i):=by
   rw[<-R.G 0 _ (prob_gpos s) (by omega)];simp only[cellL];generalize t.goals.getD 0 []=l at h0 hi;have hj:=R.jour;rw[List.getElem_take,List.getElem_drop,gDe,gEe (by omega)];simp[hj]
  rw[e2];exact(F.opt _ (by omega)).first (prob_gpos s)
end SN
end
section
namespace SN
open Vbahar (Point Row State Journey)
def fct:Nat->Nat
 | 0=>1
 | n+1=>(n+1)*fct n
theorem sm_abs{n:Nat}{f:Nat->Int}{b:Nat}(h:∀ i,i<n->(f i).natAbs<=b):(sm n f).natAbs<=n*b:=by
 induction n with
 | zero=>simp[sm]
 | succ n ih=>
  simp only[sm];have h1:=ih (fun i hi=>h i (by omega));have h2:=h n (by omega);have h3:=Int.natAbs_add_le (sm n f) (f n);have:(n+1)*b=n*b+b:=Nat.succ_mul n b;omega
theorem dt_abs:∀ (n:Nat) (M:Mat),(∀ r c,r<n->c<n->(M r c).natAbs<=1)->(dt n M).natAbs<=fct n
 | 0,M,_=>by simp[dt,fct]
 | n+1,M,h=>by
  simp only[dt,fct];refine sm_abs fun j hj=>?_;have h1:=dt_abs n (minor j M) (by
   intro r c hr hc;simp only[minor];by_cases e:c<j
   ·rw[if_pos e];exact h _ _ (by omega) (by omega)
   ·rw[if_neg e];exact h _ _ (by omega) (by omega))
  have h2:=h 0 j (by omega) hj;rw[Int.natAbs_mul,Int.natAbs_mul];have h3:(sg j).natAbs=1:=by
   simp only[sg];by_cases c:j%2=0
   ·rw[if_pos c];rfl
   ·rw[if_neg c];rfl
  rw[h3,Nat.one_mul]
  calc (M 0 j).natAbs*(dt n (minor j M)).natAbs<=1*fct n:=Nat.mul_le_mul h2 h1
   _=fct n:=Nat.one_mul _
theorem fct_mono{a b:Nat}(h:a<=b):fct a<=fct b:=by
 induction h with
 | refl=>exact Nat.le_refl _
 | step h ih=>
  simp only[fct];exact Nat.le_trans ih (Nat.le_mul_of_pos_left _ (by omega))
theorem prob_a01(s:State){k j:Nat}(hj:j<(prob s).n+(prob s).K):((prob s).a k j).natAbs<=1:=by
 have hK:(prob s).K=s.caps.length+s.journeys.length:=rfl;have hn:(prob s).n=s.journeys.length:=rfl;simp only[prob];by_cases c:j<s.journeys.length
 ·rw[if_pos c]
  repeat' split
  all_goals decide
 ·rw[if_neg c,if_pos (by omega)];split<;>decide
structure Small(s:State):Prop where
 legs:s.caps.length<=5
 jour:s.journeys.length<=5
 cap:∀ c,c∈s.caps->c<=1001
 dem:∀ j,j∈s.journeys->j.demand<=1000
 fare:∀ j,j∈s.journeys->j.fare<=1000000
theorem T_abs{s:State}{S:Tab}(I:Inv (prob s) S)(hs:Small s){i j:Nat}(hi:i<(prob s).K)(hj:j<(prob s).n+(prob s).K):
  (S.T i j).natAbs<=3628800:=by
 have hK:(prob s).K<=10:=by
  have:(prob s).K=s.caps.length+s.journeys.length:=rfl;have:=hs.legs;have:=hs.jour;omega
 have hb:=dt_abs (prob s).K (upd (fun k i=>(prob s).a k (S.h i)) i (fun k=>(prob s).a k j)) (by
  intro r c hr hc;simp only[upd];by_cases e:c=i
  ·rw[if_pos e];exact prob_a01 s hj
  ·rw[if_neg e];exact prob_a01 s (I.h c hc))
 have h:=I.cram hi (Nat.le_of_lt hj);have hd:=I.d;have hf:fct (prob s).K<=3628800:=Nat.le_trans (fct_mono hK) (by decide);have e:S.T i j=dt (prob s).K (upd (fun k i=>(prob s).a k (S.h i)) i (fun k=>(prob s).a k j))\/
   S.T i j=- dt (prob s).K (upd (fun k i=>(prob s).a k (S.h i)) i (fun k=>(prob s).a k j)):=by
  rcases I.det with hh | hh
  ·left;rw[hh,Int.mul_comm (S.T i j)] at h;exact(Int.eq_of_mul_eq_mul_left (by omega) h).symm
  ·right;rw[hh,Int.mul_neg,Int.mul_comm (S.T i j),<-Int.mul_neg] at h;have:=Int.eq_of_mul_eq_mul_left (by omega) h;omega
 rcases e with e | e
 ·rw[e];omega
 ·rw[e,Int.natAbs_neg];omega
theorem d_abs{s:State}{S:Tab}(I:Inv (prob s) S)(hs:Small s):S.d.natAbs<=3628800:=by
 have hK:(prob s).K<=10:=by
  have:(prob s).K=s.caps.length+s.journeys.length:=rfl;have:=hs.legs;have:=hs.jour;omega
 have hb:=dt_abs (prob s).K (fun k i=>(prob s).a k (S.h i)) (fun r c hr hc=>prob_a01 s (I.h c hc));have hf:fct (prob s).K<=3628800:=Nat.le_trans (fct_mono hK) (by decide);rcases I.det with h | h<;>omega
theorem b_abs{s:State}(hs:Small s){k:Nat}(hk:k<(prob s).K):((prob s).a k ((prob s).n+(prob s).K)).natAbs<=1001:=by
 have hn:(prob s).n=s.journeys.length:=rfl;have hK:(prob s).K=s.caps.length+s.journeys.length:=rfl;simp only[prob];rw[if_neg (by omega),if_neg (by omega)];by_cases c:k<s.caps.length
 ·rw[if_pos c];have:=hs.cap _ (getD_mem s.caps k 0 c);omega
 ·rw[if_neg c];have:=hs.dem _ (getD_mem s.journeys (k-s.caps.length) jz (by omega));simp only[jn];omega
theorem Tb_abs{s:State}{S:Tab}(I:Inv (prob s) S)(hs:Small s){i j:Nat}(hi:i<(prob s).K)(hj:j<=(prob s).n+(prob s).K):
  (S.T i j).natAbs<=40000000000:=by
 by_cases c:j<(prob s).n+(prob s).K
 ·have:=T_abs I hs hi c;omega
 ·have:j=(prob s).n+(prob s).K:=by omega
  subst this;rw[<-I.units (prob_units s) hi hj];have hK:(prob s).K<=10:=by
   have:(prob s).K=s.caps.length+s.journeys.length:=rfl;have:=hs.legs;have:=hs.jour;omega
  have h1:=sm_abs (n:=(prob s).K) (f:=fun k=>S.T i ((prob s).n+k)*(prob s).a k ((prob s).n+(prob s).K)) (b:=3628800*1001) (by
   intro k hk;rw[Int.natAbs_mul];exact Nat.mul_le_mul (T_abs I hs hi (by omega)) (b_abs hs hk))
  have h2:(prob s).K*(3628800*1001)<=10*(3628800*1001):=Nat.mul_le_mul_right _ hK;omega
theorem c_abs{s:State}(hs:Small s)(g j:Nat):((prob s).c g j).natAbs<=1000000:=by
 simp only[prob];by_cases c:j<s.journeys.length
 ·rw[if_pos c];by_cases c2:g=0
  ·rw[if_pos c2];have:=hs.fare _ (getD_mem s.journeys j jz c);simp only[jn];omega
  ·rw[if_neg c2];split<;>decide
 ·rw[if_neg c];decide
theorem G_abs{s:State}{S:Tab}(I:Inv (prob s) S)(hs:Small s){g j:Nat}(hg:g<(prob s).g)(hj:j<=(prob s).n+(prob s).K):
  (S.G g j).natAbs<=500000000000000000:=by
 rw[I.goal g j hg hj];have hK:(prob s).K<=10:=by
  have:(prob s).K=s.caps.length+s.journeys.length:=rfl;have:=hs.legs;have:=hs.jour;omega
 have h1:=sm_abs (n:=(prob s).K) (f:=fun i=>(prob s).c g (S.h i)*S.T i j) (b:=1000000*40000000000) (by
  intro k hk;rw[Int.natAbs_mul];exact Nat.mul_le_mul (c_abs hs g _) (Tb_abs I hs hk hj))
 have h2:(prob s).K*(1000000*40000000000)<=10*(1000000*40000000000):=Nat.mul_le_mul_right _ hK;have h3:(S.d*(prob s).c g j).natAbs<=3628800*1000000:=by
  rw[Int.natAbs_mul];exact Nat.mul_le_mul (d_abs I hs) (c_abs hs g j)
 omega
end SN
end
section
namespace My
open Vbahar (State Journey)
def inB(n:Int)(b:Int×Int):Bool:=decide (b.1<=n)&&decide (n<=b.2)
def rowOk(row:List Int)(bl bn:Int×Int):Bool:=inB (row.length:Int) bl&&row.all fun z=>inB z bn
def argsOk(args:List Int)(bs:List (Int×Int)):Bool:=(List.zipWith inB args bs).all id
def callOk(rtab:Int->Option (List (Int×Int)))(pl:Int)(bs:List (Int×Int))(args row:List Int):Bool:=
 argsOk args bs&&(match rtab pl with | some [bl,bn]=>rowOk row bl bn | _=>true)
theorem callOk_row{rtab:Int->Option (List (Int×Int))}{pl:Int}{bs:List (Int×Int)}{args row:List Int}(h:argsOk args bs=true):(rtab pl=none->callOk rtab pl bs args row=true)/\∀ bl bn,rtab pl=some [bl,bn]->callOk rtab pl bs args row=rowOk row bl bn:=by
 unfold callOk;rw[h,Bool.true_and];exact⟨fun e=>by rw[e],fun bl bn e=>by rw[e]⟩
structure Rd(atab rtab:Int->Option (List (Int×Int)))(l:List Int)(start:Nat)(pl:Int)(bs:List (Int×Int))(args row:List Int)(en:Nat):Prop where
 lt:start<l.length
 eqp:l.getD start 0=pl
 tab:atab pl=some bs
 fits:start+1+bs.length<=l.length
 eqa:args=(l.drop (start+1)).take bs.length
 rest:(rtab pl=none/\row=[]/\en=start+1+bs.length)\/
  (∃ q n,rtab pl=some q/\start+1+bs.length<l.length/\l.getD (start+1+bs.length) 0=((n:Nat):Int)/\start+1+bs.length+1+n<=l.length/\row=(l.drop (start+1+bs.length+1)).take n/\en=start+1+bs.length+1+n)
theorem Rd.fwd{atab rtab:Int->Option (List (Int×Int))}{l:List Int}{start en:Nat}{pl:Int}{bs:List (Int×Int)}{args row:List Int}(R:Rd atab rtab l start pl bs args row en):start<en/\en<=l.length/\args.length=bs.length:=by
 have h1:=R.fits;have h2:args.length=bs.length:=by rw[R.eqa,List.length_take,List.length_drop];omega
 rcases R.rest with ⟨_,_,rfl⟩ | ⟨q,n,_,_,_,h3,_,rfl⟩
 ·exact⟨by omega,by omega,h2⟩
 ·exact⟨by omega,by omega,h2⟩
def stepBy(rtab:Int->Option (List (Int×Int)))(act:Int->State->List Int->List Int->State×List Int)(pl:Int)(bs:List (Int×Int))(s:State)(args row:List Int):State×List Int:=
 if callOk rtab pl bs args row=true then act pl s args row else (s,[-2])
structure Good(s:State):Prop where
 small:SN.Small s
 cap:∀ c,c∈s.caps->c<=1000
 way:∀ j,j∈s.journeys->(∀ l,l∈j.legs->l<s.caps.length)/\j.legs.Nodup/\1<=j.legs.length
inductive Play(atab rtab:Int->Option (List (Int×Int)))(act:Int->State->List Int->List Int->State×List Int)(l:List Int):Nat->State->List Int->Prop
 | done {start:Nat} {s:State}:l.length<=start->Play atab rtab act l start s []
 | step {start en:Nat} {s:State} {pl:Int} {bs:List (Int×Int)} {args row out:List Int}:Rd atab rtab l start pl bs args row en->Good s->bs.length<=100->row.length<=1000->(∀ q,rtab pl=some q->∃ bl bn,q=[bl,bn])->
   Play atab rtab act l en (stepBy rtab act pl bs s args row).1 out->Play atab rtab act l start s ((((stepBy rtab act pl bs s args row).2.length:Nat):Int)::((stepBy rtab act pl bs s args row).2++out))
def legsOf(row:List Int):List Nat:=row.map fun z=>z.toNat-1
def num(args:List Int)(i:Nat):Int:=args.getD i 0
def callD(pl:Int)(args row:List Int):Vbahar.Call:=
 if pl=0 then .leg (args.getD 0 0).toNat
 else if pl=1 then .journey (args.getD 0 0).toNat (args.getD 1 0).toNat (legsOf row)
 else if pl=2 then .cap ((args.getD 0 0).toNat-1) (args.getD 1 0).toNat
 else if pl=3 then .demand ((args.getD 0 0).toNat-1) (args.getD 1 0).toNat
 else if pl=4 then .fare ((args.getD 0 0).toNat-1) (args.getD 1 0).toNat
 else if pl=5 then .best
 else if pl=6 then .bids
 else if pl=7 then .accept ((args.getD 0 0).toNat-1)
 else if pl=8 then .gain ((args.getD 0 0).toNat-1)
 else if pl=9 then .whole
 else if pl=10 then .feasible (row.map Int.toNat)
 else if pl=11 then .line
 else if pl=12 then .clear
 else .shown
def actD(pl:Int)(s:State)(args row:List Int):State×List Int:=Vbahar.step s (callD pl args row)
def atabD(p:Int):Option (List (Int×Int)):=
 if p=0 then some [(0,1000)] else if p=1 then some [(0,1000000),(0,1000)] else if p=2 then some [(1,5),(0,1000)] else if p=3 then some [(1,5),(0,1000)]
 else if p=4 then some [(1,5),(0,1000000)] else if p=5 then some [] else if p=6 then some [] else if p=7 then some [(1,5)] else if p=8 then some [(1,5)]
 else if p=9 then some [] else if p=10 then some [] else if p=11 then some [] else if p=12 then some [] else if p=13 then some [] else none
def rtabD(p:Int):Option (List (Int×Int)):=if p=1 then some [(1,5),(1,5)] else if p=10 then some [(0,5),(0,1000)] else none
theorem within_inB(lo hi:Nat)(z:Int):Vbahar.within lo hi z=if inB z ((lo:Int),(hi:Int))=true then some z.toNat else none:=by
 unfold Vbahar.within inB;by_cases h1:(lo:Int)<=z<;>by_cases h2:z<=(hi:Int)<;>simp[h1,h2]
theorem seats_in(z:Int):Vbahar.seatsOf z=if inB z (0,1000)=true then some z.toNat else none:=within_inB 0 1000 z
theorem fare_in(z:Int):Vbahar.fareOf z=if inB z (0,1000000)=true then some z.toNat else none:=within_inB 0 1000000 z
theorem place_in(z:Int):Vbahar.placeOf z=if inB z (1,5)=true then some (z.toNat-1) else none:=by
 unfold Vbahar.placeOf;rw[within_inB 1 5 z];show Option.map _ (if inB z (1,5)=true then _ else _)=_;by_cases h:inB z (1,5)=true
 ·rw[if_pos h,if_pos h];rfl
 ·rw[if_neg h,if_neg h];rfl
theorem mapM_in{f:Int->Option Nat}{b:Int×Int}{g:Int->Nat}(hf:∀ z,f z=if inB z b=true then some (g z) else none):
  ∀ l:List Int,l.mapM f=if (l.all fun z=>inB z b)=true then some (l.map g) else none
 | []=>rfl
 | x::r=>by
  have ih:=mapM_in hf r;rw[List.mapM_cons,hf x,ih];by_cases h1:inB x b=true
  ·by_cases h2:(r.all fun z=>inB z b)=true
   ·have h3:((x::r).all fun z=>inB z b)=true:=by rw[List.all_cons,h1,h2];rfl
    rw[if_pos h1,if_pos h2,if_pos h3];rfl
   ·have h3:¬((x::r).all fun z=>inB z b)=true:=by rw[List.all_cons,h1,Bool.true_and];exact h2
    rw[if_pos h1,if_neg h2,if_neg h3];rfl
  ·have h3:¬((x::r).all fun z=>inB z b)=true:=by
    rw[List.all_cons];intro h;exact h1 ((Bool.and_eq_true _ _).mp h).1
   rw[if_neg h1,if_neg h3];rfl
theorem list_in{f:Int->Option Nat}{b:Int×Int}{g:Int->Nat}(hf:∀ z,f z=if inB z b=true then some (g z) else none)(lo hi:Nat)(l:List Int):
  Vbahar.listOf lo hi f l=if rowOk l ((lo:Int),(hi:Int)) b=true then some (l.map g) else none:=by
 unfold Vbahar.listOf;rw[mapM_in hf];have e:(inB (l.length:Int) ((lo:Int),(hi:Int))=true)<->(lo<=l.length/\l.length<=hi):=by
  unfold inB;rw[Bool.and_eq_true,decide_eq_true_iff,decide_eq_true_iff];constructor<;>intro h<;>constructor<;>(have:=h.1;have:=h.2;omega)
 by_cases h1:lo<=l.length/\l.length<=hi
 ·by_cases h2:(l.all fun z=>inB z b)=true
  ·have h3:rowOk l ((lo:Int),(hi:Int)) b=true:=by unfold rowOk;rw[e.mpr h1,h2];rfl
   rw[if_pos h1,if_pos h2,if_pos h3]
  ·have h3:¬rowOk l ((lo:Int),(hi:Int)) b=true:=by unfold rowOk;rw[e.mpr h1,Bool.true_and];exact h2
   rw[if_pos h1,if_neg h2,if_neg h3]
 ·have h3:¬rowOk l ((lo:Int),(hi:Int)) b=true:=by unfold rowOk;intro h;exact h1 (e.mp ((Bool.and_eq_true _ _).mp h).1)
  rw[if_neg h1,if_neg h3]
theorem ranged_none(s:State):(match Vbahar.ranged none with | .form=>(s,[-1]) | .range=>(s,[-2]) | .call c=>Vbahar.step s c)=(s,[-2]):=rfl
theorem step_one{s:State}{f:Int->Option Nat}{b:Int×Int}{g:Int->Nat}(hf:∀ z,f z=if inB z b=true then some (g z) else none)(mk:Nat->Vbahar.Call)(x:Int):
  (match Vbahar.ranged (do return mk (<-f x)) with | .form=>(s,[-1]) | .range=>(s,[-2]) | .call c=>Vbahar.step s c)=if argsOk [x] [b]=true then Vbahar.step s (mk (g x)) else (s,[-2]):=by
 have e:argsOk [x] [b]=inB x b:=by simp[argsOk]
 rw[hf x,e];by_cases h:inB x b=true
 ·rw[if_pos h,if_pos h];rfl
 ·rw[if_neg h,if_neg h];rfl
theorem step_two{s:State}{f f':Int->Option Nat}{b b':Int×Int}{g g':Int->Nat}(hf:∀ z,f z=if inB z b=true then some (g z) else none)(hf':∀ z,f' z=if inB z b'=true then some (g' z) else none)(mk:Nat->Nat->Vbahar.Call)(x y:Int):
  (match Vbahar.ranged (do return mk (<-f x) (<-f' y)) with | .form=>(s,[-1]) | .range=>(s,[-2]) | .call c=>Vbahar.step s c)=if argsOk [x,y] [b,b']=true then Vbahar.step s (mk (g x) (g' y)) else (s,[-2]):=by
 have e:argsOk [x,y] [b,b']=(inB x b&&inB y b'):=by simp[argsOk]
 rw[hf x,hf' y,e];by_cases h:inB x b=true
 ·by_cases h2:inB y b'=true
  ·rw[if_pos h,if_pos h2,h,h2];rfl
  ·rw[if_pos h,if_neg h2,h,Bool.true_and,if_neg h2];rfl
 ·rw[if_neg h];have:¬(inB x b&&inB y b')=true:=fun q=>h ((Bool.and_eq_true _ _).mp q).1;rw[if_neg this];rfl
theorem step_row{s:State}{f:Int->Option Nat}{b:Int×Int}{g:Int->Nat}(hf:∀ z,f z=if inB z b=true then some (g z) else none)(mk:List Nat->Vbahar.Call)(lo hi:Nat)(row:List Int):
  (match Vbahar.ranged (do return mk (<-Vbahar.listOf lo hi f row)) with | .form=>(s,[-1]) | .range=>(s,[-2]) | .call c=>Vbahar.step s c)=if rowOk row ((lo:Int),(hi:Int)) b=true then Vbahar.step s (mk (row.map g)) else (s,[-2]):=by
 rw[list_in hf];by_cases h:rowOk row ((lo:Int),(hi:Int)) b=true
 ·rw[if_pos h,if_pos h];rfl
 ·rw[if_neg h,if_neg h];rfl
theorem step_jour{s:State}(x y:Int)(row:List Int):
  (match Vbahar.ranged (do return .journey (<-Vbahar.fareOf x) (<-Vbahar.seatsOf y) (<-Vbahar.listOf 1 5 Vbahar.placeOf row)) with | .form=>(s,[-1]) | .range=>(s,[-2]) | .call c=>Vbahar.step s c) =
   if (argsOk [x,y] [(0,1000000),(0,1000)]&&rowOk row (1,5) (1,5))=true then Vbahar.step s (.journey x.toNat y.toNat (legsOf row)) else (s,[-2]):=by
 have e:argsOk [x,y] [(0,1000000),(0,1000)]=(inB x (0,1000000)&&inB y (0,1000)):=by simp[argsOk]
 have e2:Vbahar.listOf 1 5 Vbahar.placeOf row=if rowOk row (1,5) (1,5)=true then some (legsOf row) else none:=list_in place_in 1 5 row
 rw[fare_in x,seats_in y,e,e2];cases h:inB x (0,1000000)<;>cases h2:inB y (0,1000)<;>cases h3:rowOk row (1,5) (1,5)<;>rfl
theorem len0{l:List Int}(h:l.length=0):l=[]:=List.length_eq_zero_iff.mp h
theorem len1{l:List Int}(h:l.length=1):∃ x,l=[x]:=List.length_eq_one_iff.mp h
theorem len2{l:List Int}(h:l.length=2):∃ x y,l=[x,y]:=by
 match l,h with
 | [x,y],_=>exact⟨x,y,rfl⟩
def rowsD(pl:Int)(row:List Int):List (List Int):=if rtabD pl=none then [] else [row]
theorem place_cases{pl:Int}{bs:List (Int×Int)}(h:atabD pl=some bs):
  pl=0\/pl=1\/pl=2\/pl=3\/pl=4\/pl=5\/pl=6\/pl=7\/pl=8\/pl=9\/pl=10\/pl=11\/pl=12\/pl=13:=by
 refine Decidable.byContradiction fun q=>?_;have e:atabD pl=none:=by unfold atabD;repeat rw[if_neg (by omega)]
 rw[e] at h;cases h
theorem step_eq{pl:Int}{bs:List (Int×Int)}(s:State){args row:List Int}(h:atabD pl=some bs)(hl:args.length=bs.length):
  Vbahar.stepRows s ((pl::args)::rowsD pl row)=stepBy rtabD actD pl bs s args row:=by
 have hp:=place_cases h;rcases hp with rfl | rfl | rfl | rfl | rfl | rfl | rfl | rfl | rfl | rfl | rfl | rfl | rfl | rfl<;>(cases h)
 ·obtain⟨x,rfl⟩:=len1 hl;refine(step_one seats_in .leg x).trans ?_;show _=if (argsOk [x] [(0,1000)]&&true)=true then _ else _
  rw[Bool.and_true];rfl
 ·obtain⟨x,y,rfl⟩:=len2 hl;exact step_jour x y row
 ·obtain⟨x,y,rfl⟩:=len2 hl;refine(step_two place_in seats_in .cap x y).trans ?_;show _=if (argsOk [x,y] [(1,5),(0,1000)]&&true)=true then _ else _
  rw[Bool.and_true];rfl
 ·obtain⟨x,y,rfl⟩:=len2 hl;refine(step_two place_in seats_in .demand x y).trans ?_;show _=if (argsOk [x,y] [(1,5),(0,1000)]&&true)=true then _ else _
  rw[Bool.and_true];rfl
 ·obtain⟨x,y,rfl⟩:=len2 hl;refine(step_two place_in fare_in .fare x y).trans ?_;show _=if (argsOk [x,y] [(1,5),(0,1000000)]&&true)=true then _ else _
  rw[Bool.and_true];rfl
 ·cases len0 hl;rfl
 ·cases len0 hl;rfl
 ·obtain⟨x,rfl⟩:=len1 hl;refine(step_one place_in .accept x).trans ?_;show _=if (argsOk [x] [(1,5)]&&true)=true then _ else _
  rw[Bool.and_true];rfl
 ·obtain⟨x,rfl⟩:=len1 hl;refine(step_one place_in .gain x).trans ?_;show _=if (argsOk [x] [(1,5)]&&true)=true then _ else _
  rw[Bool.and_true];rfl
 ·cases len0 hl;rfl
 ·cases len0 hl;refine(step_row seats_in .feasible 0 5 row).trans ?_;rfl
 ·cases len0 hl;rfl
 ·cases len0 hl;rfl
 ·cases len0 hl;rfl
end My
end
section
namespace My
open Vbahar (State Journey)
theorem good_start:Good Vbahar.start:=by
 refine⟨⟨Nat.zero_le _,Nat.zero_le _,?_,?_,?_⟩,?_,?_⟩
 all_goals intro x hx;cases hx
theorem Good.withCap{s:State}(h:Good s){l c:Nat}(hc:c<=1000):Good (Vbahar.withCap s l c):=by
 have hm:∀ x,x∈s.caps.set l c->x<=1000:=fun x hx=>by
  rcases List.mem_or_eq_of_mem_set hx with q | q
  ·exact h.cap x q
  ·rw[q];exact hc
 refine⟨⟨?_,h.small.jour,fun x hx=>?_,h.small.dem,h.small.fare⟩,hm,fun j hj=>?_⟩
 ·show(s.caps.set l c).length<=5;rw[List.length_set];exact h.small.legs
 ·have:=hm x hx;omega
 ·obtain⟨h1,h2,h3⟩:=h.way j hj;refine⟨fun k hk=>?_,h2,h3⟩;show k<(s.caps.set l c).length;rw[List.length_set];exact h1 k hk
theorem Good.more{s:State}(h:Good s)(l:Nat):SN.Small (Vbahar.withCap s l (s.caps.getD l 0+1)):=by
 have hc:s.caps.getD l 0<=1000:=by
  by_cases q:l<s.caps.length
  ·rw[gDe,gEe q];exact h.cap _ (List.getElem_mem q)
  ·rw[gDe,List.getElem?_eq_none (by omega)];exact Nat.zero_le _
 refine⟨?_,h.small.jour,fun x hx=>?_,h.small.dem,h.small.fare⟩
 ·show(s.caps.set l _).length<=5;rw[List.length_set];exact h.small.legs
 ·rcases List.mem_or_eq_of_mem_set (show x∈s.caps.set l _ from hx) with q | q
  ·have:=h.cap x q;omega
  ·rw[q];omega
theorem mem_modify_of{α:Type}{f:α->α}:∀ {l:List α} {i:Nat} {x:α},x∈l.modify i f->x∈l\/∃ y,y∈l/\x=f y
 | [],i,x,h=>by cases i<;>simp at h
 | a::r,0,x,h=>by
  rw[List.modify_zero_cons] at h;rcases List.mem_cons.mp h with q | q
  ·exact .inr ⟨a,List.mem_cons_self,q⟩
  ·exact .inl (List.mem_cons_of_mem _ q)
 | a::r,i+1,x,h=>by
  rw[List.modify_succ_cons] at h;rcases List.mem_cons.mp h with q | q
  ·exact .inl (by rw[q];exact List.mem_cons_self)
  ·rcases mem_modify_of q with q | ⟨y,h1,h2⟩
   ·exact .inl (List.mem_cons_of_mem _ q)
   ·exact .inr ⟨y,List.mem_cons_of_mem _ h1,h2⟩
theorem Good.journeys{s:State}(h:Good s){js:List Journey}(hl:js.length<=5)(hj:∀ j,j∈js->j.demand<=1000/\j.fare<=1000000/\(∀ l,l∈j.legs->l<s.caps.length)/\j.legs.Nodup/\1<=j.legs.length):
  Good {s with journeys:=js}:=
 ⟨⟨h.small.legs,hl,h.small.cap,fun j q=>(hj j q).1,fun j q=>(hj j q).2.1⟩,h.cap,fun j q=>(hj j q).2.2⟩
theorem Good.all{s:State}(h:Good s){j:Journey}(q:j∈s.journeys):j.demand<=1000/\j.fare<=1000000/\(∀ l,l∈j.legs->l<s.caps.length)/\j.legs.Nodup/\1<=j.legs.length:=
 ⟨h.small.dem j q,h.small.fare j q,h.way j q⟩
theorem inB_iff{n:Int}{b:Int×Int}:inB n b=true<->b.1<=n/\n<=b.2:=by unfold inB;rw[Bool.and_eq_true,decide_eq_true_iff,decide_eq_true_iff]
theorem distinct_nodup:∀ {l:List Nat},Vbahar.distinct l=true->l.Nodup
 | [],_=>List.nodup_nil
 | x::r,h=>by
  simp only[Vbahar.distinct,Bool.and_eq_true] at h;refine List.nodup_cons.mpr ⟨?_,distinct_nodup h.2⟩;intro q;have:=List.contains_iff_mem.mpr q;rw[this] at h;exact absurd h.1 (by decide)
theorem args1{x:Int}{b:Int×Int}(h:argsOk [x] [b]=true):b.1<=x/\x<=b.2:=by
 have e:argsOk [x] [b]=inB x b:=by simp[argsOk]
 rw[e] at h;exact inB_iff.mp h
theorem args2{x y:Int}{b b':Int×Int}(h:argsOk [x,y] [b,b']=true):(b.1<=x/\x<=b.2)/\b'.1<=y/\y<=b'.2:=by
 have e:argsOk [x,y] [b,b']=(inB x b&&inB y b'):=by simp[argsOk]
 rw[e,Bool.and_eq_true] at h;exact⟨inB_iff.mp h.1,inB_iff.mp h.2⟩
theorem rowOk_iff{row:List Int}{bl bn:Int×Int}:rowOk row bl bn=true<->(bl.1<=row.length/\(row.length:Int)<=bl.2)/\∀ z,z∈row->bn.1<=z/\z<=bn.2:=by
 unfold rowOk;rw[Bool.and_eq_true,inB_iff,List.all_eq_true];exact⟨fun h=>⟨h.1,fun z hz=>inB_iff.mp (h.2 z hz)⟩,fun h=>⟨h.1,fun z hz=>inB_iff.mpr (h.2 z hz)⟩⟩
theorem frac_len(a d:Int):(Vbahar.frac a d).length=2:=rfl
theorem fracs_len(p:Vbahar.Point):(Vbahar.fracs p).length=2*p.nums.length:=by
 unfold Vbahar.fracs;induction p.nums with
 | nil=>rfl
 | cons a r ih=>rw[List.flatMap_cons,List.length_append,ih,frac_len,List.length_cons];omega
theorem wholes_len:∀ {ks:List Nat} {l:List Int},l∈Vbahar.wholes ks->l.length=ks.length
 | [],l,h=>by simp[Vbahar.wholes] at h;rw[h];rfl
 | k::r,l,h=>by
  simp only[Vbahar.wholes,List.mem_flatMap,List.mem_map] at h;obtain⟨i,_,t,ht,rfl⟩:=h;rw[List.length_cons,List.length_cons,wholes_len ht]
theorem bestOf_mem(s:State):∀ (l:List Vbahar.Point) (b:Vbahar.Point),Vbahar.bestOf s l b=b\/Vbahar.bestOf s l b∈l
 | [],b=>.inl rfl
 | p::r,b=>by
  show Vbahar.bestOf s r (if Vbahar.better s p b=true then p else b)=b\/_;rcases bestOf_mem s r (if Vbahar.better s p b=true then p else b) with h | h
  ·by_cases c:Vbahar.better s p b=true
   ·rw[if_pos c] at h;refine .inr ?_;show Vbahar.bestOf s r (if Vbahar.better s p b=true then p else b)∈p::r;rw[if_pos c,h];exact List.mem_cons_self
   ·rw[if_neg c] at h ⊢;exact .inl h
  ·exact .inr (List.mem_cons_of_mem _ h)
theorem bestWhole_len(s:State):(Vbahar.bestWhole s).nums.length=s.journeys.length:=by
 unfold Vbahar.bestWhole;rcases bestOf_mem s (((Vbahar.wholes (s.journeys.map fun j=>Vbahar.mostOf s j)).map fun l=>({den:=1,nums:=l}:Vbahar.Point)).filter fun p=>Vbahar.fits s p) (Vbahar.nothing s) with h | h
 ·rw[h];simp[Vbahar.nothing]
 ·have h':=(List.mem_filter.mp h).1;obtain⟨l,hl,e⟩:=List.mem_map.mp h';rw[<-e];show l.length=_;rw[wholes_len hl,lmp]
theorem nodup_sub:∀ {l1 l2:List Nat},l1.Nodup->(∀ x,x∈l1->x∈l2)->l1.length<=l2.length
 | [],_,_,_=>Nat.zero_le _
 | x::r,l2,h,hs=>by
  have hx:=hs x List.mem_cons_self;have h1:=List.nodup_cons.mp h;have ih:=nodup_sub (l2:=l2.erase x) h1.2 (fun y hy=>(List.mem_erase_of_ne (fun(e:y=x)=>h1.1 (by rw[<-e];exact hy))).mpr (hs y (List.mem_cons_of_mem _ hy)));rw[List.length_erase_of_mem hx] at ih;have:0<l2.length:=List.length_pos_of_mem hx;rw[List.length_cons];omega
theorem legs_of_nodup{l:List Nat}{m:Nat}(h:l.Nodup)(hb:∀ x,x∈l->x<m):l.length<=m:=by
 have:=nodup_sub h (l2:=List.range m) (fun x hx=>List.mem_range.mpr (hb x hx));rwa [List.length_range] at this
theorem best_len(s:State):(Vbahar.best s).nums.length=s.journeys.length:=by
 obtain⟨k,h0,h1⟩:=SN.solved_ends s;obtain⟨S,R,F⟩:=SN.solved_final h0 h1;exact(SN.best_char F).2.1
theorem bids_len(s:State):(Vbahar.bids s).nums.length=s.caps.length:=by
 obtain⟨k,h0,h1⟩:=SN.solved_ends s;obtain⟨S,R,F⟩:=SN.solved_final h0 h1;exact(SN.bids_char F).2.1
theorem shown_len{s:State}(h:Good s):∀ js:List Journey,(∀ j,j∈js->j∈s.journeys)->(js.flatMap fun j=>[j.fare,j.demand,j.legs.length]++j.legs.map fun l=>l+1).length<=8*js.length
 | [],_=>Nat.zero_le _
 | j::r,hj=>by
  have ih:=shown_len h r (fun x hx=>hj x (List.mem_cons_of_mem _ hx));have hw:=h.way j (hj j List.mem_cons_self);have h1:=legs_of_nodup hw.2.1 hw.1;have h2:=h.small.legs;rw[List.flatMap_cons,List.length_append,List.length_cons,List.length_append,lmp];show 3+j.legs.length+_<=_;omega
theorem step_len{s:State}(h:Good s)(c:Vbahar.Call):(Vbahar.step s c).2.length<=100:=by
 have h1:=h.small.legs;have h2:=h.small.jour;cases c with
 | leg c=>simp only[Vbahar.step];split<;>simp[Vbahar.ok,Vbahar.ints]
 | journey f d l=>
  simp only[Vbahar.step]
  repeat' split
  all_goals simp[Vbahar.ok,Vbahar.ints]
 | cap l c=>simp only[Vbahar.step];split<;>simp
 | demand j d=>simp only[Vbahar.step];split<;>simp
 | fare j f=>simp only[Vbahar.step];split<;>simp
 | best=>
  show(0::(Vbahar.frac _ _++Vbahar.fracs (Vbahar.best s))).length<=100;rw[List.length_cons,List.length_append,frac_len,fracs_len,best_len];omega
 | bids=>
  show(0::Vbahar.fracs (Vbahar.bids s)).length<=100;rw[List.length_cons,fracs_len,bids_len];omega
 | accept j=>simp only[Vbahar.step];split<;>simp
 | gain l=>simp only[Vbahar.step];split<;>simp[Vbahar.gainOf,Vbahar.frac]
 | whole=>
  simp only[Vbahar.step];split
  ·simp
  ·show(0::(_::(Vbahar.bestWhole s).nums)).length<=100;rw[List.length_cons,List.length_cons,bestWhole_len];omega
 | feasible x=>simp only[Vbahar.step];split<;>simp
 | line=>simp[Vbahar.step]
 | clear=>simp[Vbahar.step]
 | shown=>
  show(0::(_::_:List Nat).map Int.ofNat).length<=100;rw[List.length_cons,lmp,List.length_cons];have e:∀ a b:List Nat,(a.append b).length=a.length+b.length:=fun a b=>List.length_append;rw[e];have:=shown_len h s.journeys (fun _ q=>q);omega
def InR(c:Vbahar.Call):Prop:=match c with
 | .leg c=>c<=1000
 | .journey f d l=>f<=1000000/\d<=1000/\1<=l.length
 | .cap _ c=>c<=1000
 | .demand _ d=>d<=1000
 | .fare _ f=>f<=1000000
 | _=>True
theorem step_good{s:State}(h:Good s){c:Vbahar.Call}(hc:InR c):Good (Vbahar.step s c).1:=by
 cases c with
 | leg c=>
  simp only[Vbahar.step];split
  ·exact h
  ·rename_i q;have q:s.caps.length<5:=Nat.lt_of_not_le q;have hm:∀ x,x∈s.caps++[c]->x<=1000:=fun x hx=>by
    rcases List.mem_append.mp hx with e | e
    ·exact h.cap x e
    ·rw[List.mem_singleton.mp e];exact hc
   refine⟨⟨?_,h.small.jour,fun x hx=>Nat.le_succ_of_le (hm x hx),h.small.dem,h.small.fare⟩,hm,fun j hj=>?_⟩
   ·show(s.caps++[c]).length<=5;rw[List.length_append];exact q
   ·obtain⟨h1,h2,h3⟩:=h.way j hj;refine⟨fun k hk=>?_,h2,h3⟩;show k<(s.caps++[c]).length;rw[List.length_append];exact Nat.lt_of_lt_of_le (h1 k hk) (Nat.le_add_right _ _)
 | journey f d l=>
  simp only[Vbahar.step];split
  ·exact h
  ·rename_i q1;split
   ·exact h
   ·rename_i q2;split
    ·exact h
    ·rename_i q3;have q3:s.journeys.length<5:=Nat.lt_of_not_le q3;refine h.journeys (by rw[List.length_append];exact q3) (fun j hj=>?_);rcases List.mem_append.mp hj with e | e
     ·exact h.all e
     ·rw[List.mem_singleton.mp e];refine⟨hc.2.1,hc.1,fun k hk=>?_,distinct_nodup (by simpa using q2),hc.2.2⟩;have q1:(l.all fun k=>decide (k<s.caps.length))=true:=by simpa using q1
      exact of_decide_eq_true (List.all_eq_true.mp q1 k hk)
 | cap l c=>
  simp only[Vbahar.step];split
  ·exact h
  ·exact h.withCap hc
 | demand j d=>
  simp only[Vbahar.step];split
  ·exact h
  ·refine h.journeys (by rw[List.length_modify];exact h.small.jour) (fun x hx=>?_);rcases mem_modify_of hx with e | ⟨y,e,rfl⟩
   ·exact h.all e
   ·exact⟨hc,(h.all e).2⟩
 | fare j d=>
  simp only[Vbahar.step];split
  ·exact h
  ·refine h.journeys (by rw[List.length_modify];exact h.small.jour) (fun x hx=>?_);rcases mem_modify_of hx with e | ⟨y,e,rfl⟩
   ·exact h.all e
   ·exact⟨(h.all e).1,hc,(h.all e).2.2⟩
 | best=>exact h
 | bids=>exact h
 | accept j=>simp only[Vbahar.step];split<;>exact h
 | gain l=>simp only[Vbahar.step];split<;>exact h
 | whole=>simp only[Vbahar.step];split<;>exact h
 | feasible x=>simp only[Vbahar.step];split<;>exact h
 | line=>exact h
 | clear=>exact good_start
 | shown=>exact h
theorem callD_in{pl:Int}{bs:List (Int×Int)}{args row:List Int}(h:atabD pl=some bs)(hl:args.length=bs.length)(hok:callOk rtabD pl bs args row=true):InR (callD pl args row):=by
 unfold callOk at hok;rw[Bool.and_eq_true] at hok;obtain⟨ha,hr⟩:=hok;rcases place_cases h with rfl | rfl | rfl | rfl | rfl | rfl | rfl | rfl | rfl | rfl | rfl | rfl | rfl | rfl<;>(cases h)
 ·obtain⟨x,rfl⟩:=len1 hl;have:=args1 ha;show x.toNat<=1000;simp only at this;omega
 ·obtain⟨x,y,rfl⟩:=len2 hl;have:=args2 ha;have hr:rowOk row (1,5) (1,5)=true:=hr;have h3:=(rowOk_iff.mp hr).1.1;show x.toNat<=1000000/\y.toNat<=1000/\1<=(legsOf row).length;simp only[legsOf,lmp] at this h3 ⊢;refine⟨by omega,by omega,by omega⟩
 ·obtain⟨x,y,rfl⟩:=len2 hl;have:=args2 ha;show y.toNat<=1000;simp only at this;omega
 ·obtain⟨x,y,rfl⟩:=len2 hl;have:=args2 ha;show y.toNat<=1000;simp only at this;omega
 ·obtain⟨x,y,rfl⟩:=len2 hl;have:=args2 ha;show y.toNat<=1000000;simp only at this;omega
 all_goals exact trivial
theorem stepBy_good{s:State}{pl:Int}{bs:List (Int×Int)}{args row:List Int}(g:Good s)(h:atabD pl=some bs)(hl:args.length=bs.length):Good (stepBy rtabD actD pl bs s args row).1/\(stepBy rtabD actD pl bs s args row).2.length<=100:=by
 unfold stepBy;by_cases q:callOk rtabD pl bs args row=true
 ·rw[if_pos q];exact⟨step_good g (callD_in h hl q),step_len g _⟩
 ·rw[if_neg q];exact⟨g,by simp⟩
theorem shape_tab{p:Int}{n k:Nat}(h:PyVbahar.shape p=some (n,k)):∃ bs,atabD p=some bs/\bs.length=n/\((k=0/\rtabD p=none)\/(k=1/\∃ bl bn,rtabD p=some [bl,bn])):=by
 have hp:p=0\/p=1\/p=2\/p=3\/p=4\/p=5\/p=6\/p=7\/p=8\/p=9\/p=10\/p=11\/p=12\/p=13:=by
  refine Decidable.byContradiction fun q=>?_;have e:PyVbahar.shape p=none:=by unfold PyVbahar.shape;repeat rw[if_neg (by omega)]
  rw[e] at h;cases h
 rcases hp with rfl | rfl | rfl | rfl | rfl | rfl | rfl | rfl | rfl | rfl | rfl | rfl | rfl | rfl<;>(cases h)<;>refine⟨_,rfl,rfl,?_⟩<;>first | exact .inl ⟨rfl,rfl⟩ | exact .inr ⟨rfl,_,_,rfl⟩
theorem whole_eq{p:Int}{bs:List (Int×Int)}{args row:List Int}(h:atabD p=some bs)(hl:args.length=bs.length):PyVbahar.whole ((p::args)::rowsD p row)=(p::args)::rowsD p row:=by
 rcases place_cases h with rfl | rfl | rfl | rfl | rfl | rfl | rfl | rfl | rfl | rfl | rfl | rfl | rfl | rfl<;>(cases h)
 all_goals first
  | (cases len0 hl;rfl)
  | (obtain⟨x,rfl⟩:=len1 hl;rfl)
  | (obtain⟨x,y,rfl⟩:=len2 hl;rfl)
theorem drop_cons{l:List Int}{start:Nat}{p:Int}{r:List Int}(h:l.drop start=p::r):start<l.length/\l.getD start 0=p/\l.drop (start+1)=r:=by
 have h1:start<l.length:=by
  refine Nat.lt_of_not_le fun q=>?_;rw[List.drop_eq_nil_of_le q] at h;cases h
 rw[List.drop_eq_getElem_cons h1] at h;refine⟨h1,?_,(List.cons.inj h).2⟩;rw[gDe,gEe h1];exact(List.cons.inj h).1
theorem play_of{l:List Int}:∀ {f:Nat} {r:List Int} {start:Nat} {s:State} {cs:List (List (List Int))},l.drop start=r->Good s->PyFlat.calls PyVbahar.shape f r=some cs->(∀ c,c∈cs->VbaharNeutral.asked1 (PyVbahar.whole c)=true)->
  Play atabD rtabD actD l start s (PyFlat.told (PyFlat.played VbaharNeutral.step s (cs.map PyVbahar.whole)))/\(PyFlat.told (PyFlat.played VbaharNeutral.step s (cs.map PyVbahar.whole))).length<=101*cs.length:=by
 intro f;induction f with
 | zero=>
  intro r start s cs hr g hc ha
  match r with
  | []=>
   have hc:some []=some cs:=by rw[<-hc];cases l<;>rfl
   cases hc;refine⟨.done (List.drop_eq_nil_iff.mp hr),Nat.zero_le _⟩
  | p::r=>cases hc
 | succ f ih=>
  intro r start s cs hr g hc ha
  match r with
  | []=>
   cases hc;exact⟨.done (List.drop_eq_nil_iff.mp hr),Nat.zero_le _⟩
  | p::r=>
   obtain⟨h1,h2,h3⟩:=drop_cons hr;simp only[PyFlat.calls,PyFlat.call] at hc;cases hsh:PyVbahar.shape p with
   | none=>rw[hsh] at hc;cases hc
   | some nk=>
    obtain⟨n,k⟩:=nk;rw[hsh] at hc;simp only at hc;by_cases hlt:r.length<n
    ·rw[if_pos hlt] at hc;cases hc
    rw[if_neg hlt] at hc;obtain⟨bs,hT,hbl,hk⟩:=shape_tab hsh;have hrl:r.length+(start+1)=l.length:=by rw[<-h3,List.length_drop];omega
    have hal:(r.take n).length=bs.length:=by rw[List.length_take,hbl];omega
    have key:∀ (row t:List Int) (en:Nat) (cs':List (List (List Int))),Rd atabD rtabD l start p bs (r.take n) row en->(∀ q,rtabD p=some q->∃ bl bn,q=[bl,bn])->l.drop en=t->PyFlat.calls PyVbahar.shape f t=some cs'->cs=((p::r.take n)::rowsD p row)::cs'->
      (rowsD p row=[]->row=[])->Play atabD rtabD actD l start s (PyFlat.told (PyFlat.played VbaharNeutral.step s (cs.map PyVbahar.whole)))/\(PyFlat.told (PyFlat.played VbaharNeutral.step s (cs.map PyVbahar.whole))).length<=101*cs.length:=by
     intro row t en cs' R hq ht hc' he hn;subst he;have hw:=whole_eq (row:=row) hT hal;have hask:=ha _ List.mem_cons_self;rw[hw] at hask;have hrow:row.length<=1000:=by
      by_cases hz:rtabD p=none
      ·rw[hn (by unfold rowsD;rw[if_pos hz])];exact Nat.zero_le _
      ·unfold rowsD at hask;rw[if_neg hz] at hask;simp[VbaharNeutral.asked1] at hask;omega
     have hst:=step_eq s (row:=row) hT hal;have hgl:=stepBy_good (row:=row) g hT hal;have hI:=ih (start:=en) (s:=(stepBy rtabD actD p bs s (r.take n) row).1) ht hgl.1 hc' (fun c hc=>ha c (List.mem_cons_of_mem _ hc));have ew:PyFlat.told (PyFlat.played VbaharNeutral.step s ((((p::r.take n)::rowsD p row)::cs').map PyVbahar.whole)) =
       (((stepBy rtabD actD p bs s (r.take n) row).2.length:Nat):Int)::((stepBy rtabD actD p bs s (r.take n) row).2++PyFlat.told (PyFlat.played VbaharNeutral.step (stepBy rtabD actD p bs s (r.take n) row).1 (cs'.map PyVbahar.whole))):=by
      rw[List.map_cons,hw];show((((Vbahar.stepRows s ((p::r.take n)::rowsD p row)).2.length:Nat):Int)::(Vbahar.stepRows s ((p::r.take n)::rowsD p row)).2)++PyFlat.told (PyFlat.played VbaharNeutral.step (Vbahar.stepRows s ((p::r.take n)::rowsD p row)).1 (cs'.map PyVbahar.whole))=_;rw[hst];rfl
     rw[ew];have hb100:bs.length<=100:=by
      rcases place_cases hT with rfl | rfl | rfl | rfl | rfl | rfl | rfl | rfl | rfl | rfl | rfl | rfl | rfl | rfl<;>(cases hT)<;>exact(by decide)
     refine⟨.step R g hb100 hrow hq hI.1,?_⟩;have h5:=hI.2;have h6:=hgl.2;simp only[List.length_cons,List.length_append];omega
    rcases hk with ⟨rfl,hz⟩ | ⟨rfl,bl,bn,hz⟩
    ·simp only[PyFlat.rows] at hc;cases hcs:PyFlat.calls PyVbahar.shape f (r.drop n) with
     | none=>rw[hcs] at hc;cases hc
     | some cs'=>
      rw[hcs] at hc;cases hc;refine key [] (r.drop n) (start+1+n) cs' ⟨h1,h2,hT,by omega,by rw[h3,hbl],.inl ⟨hz,rfl,by rw[hbl]⟩⟩ (fun q e=>by rw[hz] at e;cases e) ?_ hcs ?_ (fun _=>rfl)
      ·rw[<-h3,List.drop_drop]
      ·unfold rowsD;rw[if_pos hz]
    ·simp only[PyFlat.rows] at hc;cases hrw:PyFlat.row (r.drop n) with
     | none=>rw[hrw] at hc;cases hc
     | some xt=>
      obtain⟨x,t⟩:=xt;rw[hrw] at hc;simp only at hc;cases hcs:PyFlat.calls PyVbahar.shape f t with
      | none=>rw[hcs] at hc;cases hc
      | some cs'=>
       rw[hcs] at hc;cases hc
       match hd:r.drop n with
       | []=>rw[hd] at hrw;cases hrw
       | m::r2=>
        rw[hd] at hrw;simp only[PyFlat.row] at hrw;by_cases hm:0<=m/\m.toNat<=r2.length
        ·rw[if_pos hm] at hrw;cases hrw;have hd2:l.drop (start+1+n)=m::r2:=by rw[<-hd,<-h3,List.drop_drop]
         obtain⟨k1,k2,k3⟩:=drop_cons hd2;have hr2:r2.length+(start+1+n+1)=l.length:=by rw[<-k3,List.length_drop];omega
         have hz':rtabD p≠none:=by rw[hz];exact fun e=>by cases e
         refine key (r2.take m.toNat) (r2.drop m.toNat) (start+1+n+1+m.toNat) cs' ⟨h1,h2,hT,by omega,by rw[h3,hbl],.inr ⟨_,m.toNat,hz,by rw[hbl];exact k1,by rw[hbl,k2];omega,by omega,by rw[hbl,k3],by rw[hbl]⟩⟩ (fun q e=>by rw[hz] at e;cases e;exact⟨_,_,rfl⟩) ?_ hcs ?_ ?_
         ·rw[<-k3,List.drop_drop]
         ·unfold rowsD;rw[if_neg hz']
         ·unfold rowsD;rw[if_neg hz'];exact fun e=>by cases e
        ·rw[if_neg hm] at hrw;cases hrw
theorem play_all{l:List Int}(h:PyVbahar.answers_asked l=true):Play atabD rtabD actD l 0 Vbahar.start (PyVbahar.answers l)/\(PyVbahar.answers l).length<=100000:=by
 unfold PyVbahar.answers_asked at h;unfold PyVbahar.answers;unfold PyVbahar.calls at h ⊢;cases hc:PyFlat.calls PyVbahar.shape l.length l with
 | none=>rw[hc] at h;cases h
 | some cs=>
  rw[hc] at h;simp only[Bool.and_eq_true] at h ⊢;have h1:(cs.map PyVbahar.whole).length<=60:=of_decide_eq_true h.1;have h2:∀ c,c∈cs->VbaharNeutral.asked1 (PyVbahar.whole c)=true:=by
   have:=h.2;unfold VbaharNeutral.asked at this;simp only[Bool.and_eq_true] at this;exact fun c hc=>List.all_eq_true.mp this.2.2 _ (List.mem_map_of_mem hc)
  have:=play_of (start:=0) (List.drop_zero) good_start hc h2;rw[lmp] at h1;exact⟨this.1,by have:=this.2;unfold VbaharNeutral.start;omega⟩
end My
end
section
namespace My
open Vbahar (State Journey Point)
open SN (sm prob jn LN ZV gp)
def legSum(s:State)(x:List Int)(l:Nat):Int:=sm s.journeys.length fun j=>if (jn s j).legs.contains l=true then x.getD j 0 else 0
structure WholeDiv(s:State)(x:List Int):Prop where
 len:x.length=s.journeys.length
 nn:∀ j,j<s.journeys.length->0<=x.getD j 0
 dem:∀ j,j<s.journeys.length->x.getD j 0<=((jn s j).demand:Int)
 cap:∀ l,l<s.caps.length->legSum s x l<=((s.caps.getD l 0:Nat):Int)
theorem a_leg{s:State}{l j:Nat}(hl:l<s.caps.length)(hj:j<s.journeys.length):(prob s).a l j=if (jn s j).legs.contains l=true then 1 else 0:=by
 simp only[prob];rw[if_pos hj,if_pos hl]
theorem a_dem{s:State}{i j:Nat}(hj:j<s.journeys.length):(prob s).a (s.caps.length+i) j=if j=i then 1 else 0:=by
 simp only[prob];rw[if_pos hj,if_neg (by omega),Nat.add_sub_cancel_left]
theorem a_cap{s:State}{l:Nat}(hl:l<s.caps.length):(prob s).a l ((prob s).n+(prob s).K)=((s.caps.getD l 0:Nat):Int):=by
 simp only[prob];rw[if_neg (by omega),if_neg (by omega),if_pos hl]
theorem a_demand{s:State}(i:Nat):(prob s).a (s.caps.length+i) ((prob s).n+(prob s).K)=((jn s i).demand:Int):=by
 simp only[prob];rw[if_neg (by omega),if_neg (by omega),if_neg (by omega),Nat.add_sub_cancel_left]
theorem fits_iff{s:State}{x:List Int}(hx:x.length=s.journeys.length):Vbahar.fits s {den:=1,nums:=x}=true<->WholeDiv s x:=by
 have h:=SN.div_iff s {den:=1,nums:=x} Int.one_pos hx;refine(show Vbahar.fits s {den:=1,nums:=x}=true<->SN.Div s {den:=1,nums:=x} from h).trans ⟨fun D=>⟨hx,D.nn,fun j hj=>?_,fun l hl=>?_⟩,fun W=>⟨Int.one_pos,hx,W.nn,fun k hk=>?_⟩⟩
 ·have:=D.lim (s.caps.length+j) (by show _<s.caps.length+s.journeys.length;omega);rw[a_demand,Int.mul_one,SN.sm_congr (g:=fun i=>if i=j then x.getD j 0 else 0) (fun i hi=>?_),SN.sm_ite (show j<(prob s).n from hj)] at this
  ·exact this
  ·rw[a_dem hi];by_cases e:i=j
   ·rw[if_pos e,if_pos e,e,Int.one_mul]
   ·rw[if_neg e,if_neg e,Int.zero_mul]
 ·have:=D.lim l (by show _<s.caps.length+s.journeys.length;omega);rw[a_cap hl,Int.mul_one] at this;refine Int.le_trans (Int.le_of_eq (SN.sm_congr fun i hi=>?_)) this;rw[a_leg hl hi];by_cases e:(jn s i).legs.contains l=true
  ·rw[if_pos e,if_pos e,Int.one_mul]
  ·rw[if_neg e,if_neg e,Int.zero_mul]
 ·by_cases hl:k<s.caps.length
  ·rw[a_cap hl,Int.mul_one];refine Int.le_trans (Int.le_of_eq (SN.sm_congr fun i hi=>?_)) (W.cap k hl);rw[a_leg hl hi];by_cases e:(jn s i).legs.contains k=true
   ·rw[if_pos e,if_pos e,Int.one_mul]
   ·rw[if_neg e,if_neg e,Int.zero_mul]
  ·have hk':k<s.caps.length+s.journeys.length:=hk;obtain⟨j,rfl⟩:∃ j,k=s.caps.length+j:=⟨k-s.caps.length,by omega⟩;have hj:j<s.journeys.length:=by omega
   rw[a_demand,Int.mul_one];refine Int.le_trans (Int.le_of_eq ?_) (W.dem j hj);rw[SN.sm_congr (g:=fun i=>if i=j then x.getD j 0 else 0) (fun i hi=>?_)]
   ·exact SN.sm_ite (show j<(prob s).n from hj) _
   ·rw[a_dem hi];by_cases e:i=j
    ·rw[if_pos e,if_pos e,e,Int.one_mul]
    ·rw[if_neg e,if_neg e,Int.zero_mul]
theorem foldl_min_le(f:Nat->Nat):∀ (l:List Nat) (a:Nat),(l.foldl (fun a k=>min a (f k)) a<=a)/\∀ k,k∈l->l.foldl (fun a k=>min a (f k)) a<=f k
 | [],a=>⟨Nat.le_refl _,fun k hk=>by cases hk⟩
 | x::r,a=>by
  have ih:=foldl_min_le f r (min a (f x));rw[List.foldl_cons];refine⟨Nat.le_trans ih.1 (Nat.min_le_left _ _),fun k hk=>?_⟩;rcases List.mem_cons.mp hk with e | e
  ·rw[e];exact Nat.le_trans ih.1 (Nat.min_le_right _ _)
  ·exact ih.2 k e
theorem le_foldl_min(f:Nat->Nat)(b:Nat):∀ (l:List Nat) (a:Nat),b<=a->(∀ k,k∈l->b<=f k)->b<=l.foldl (fun a k=>min a (f k)) a
 | [],a,h,_=>h
 | x::r,a,h,hl=>le_foldl_min f b r (min a (f x)) (Nat.le_min.mpr ⟨h,hl x List.mem_cons_self⟩) (fun k hk=>hl k (List.mem_cons_of_mem _ hk))
theorem sm_ge{n k:Nat}{f:Nat->Int}(hk:k<n)(h:∀ i,i<n->0<=f i):f k<=sm n f:=by
 induction n with
 | zero=>omega
 | succ n ih=>
  show f k<=sm n f+f n;by_cases e:k=n
  ·have:=SN.sm_nonneg (n:=n) (f:=f) (fun i hi=>h i (by omega));rw[e];omega
  ·have:=ih (by omega) (fun i hi=>h i (by omega));have:=h n (by omega);omega
theorem jn_mem{s:State}{j:Nat}(hj:j<s.journeys.length):jn s j∈s.journeys:=by
 unfold SN.jn;rw[gDe,gEe hj];exact List.getElem_mem hj
theorem WholeDiv.most{s:State}(g:Good s){x:List Int}(W:WholeDiv s x){j:Nat}(hj:j<s.journeys.length):x.getD j 0<=((Vbahar.mostOf s (jn s j):Nat):Int):=by
 have h0:=W.nn j hj;have h1:(x.getD j 0).toNat<=Vbahar.mostOf s (jn s j):=by
  unfold Vbahar.mostOf;refine le_foldl_min (fun l=>s.caps.getD l 0) _ _ _ ?_ (fun l hl=>?_)
  ·have:=W.dem j hj;omega
  ·have hw:=(g.way _ (jn_mem hj)).1 l hl;have h2:=W.cap l hw;have h3:x.getD j 0<=legSum s x l:=by
    have:=sm_ge (f:=fun j=>if (jn s j).legs.contains l=true then x.getD j 0 else 0) hj (fun i hi=>by
     show 0<=if (jn s i).legs.contains l=true then x.getD i 0 else 0
     split
     ·exact W.nn i hi
     ·exact Int.le_refl 0)
    rw[if_pos (List.contains_iff_mem.mpr hl)] at this;exact this
   show _<=s.caps.getD l 0;omega
 omega
theorem mem_wholes:∀ {ks:List Nat} {l:List Int},l∈Vbahar.wholes ks<->l.length=ks.length/\∀ i,i<ks.length->0<=l.getD i 0/\l.getD i 0<=((ks.getD i 0:Nat):Int)
 | [],l=>by
  simp only[Vbahar.wholes,List.mem_singleton];exact⟨fun h=>by rw[h];exact⟨rfl,fun i hi=>by cases hi⟩,fun h=>List.length_eq_zero_iff.mp h.1⟩
 | k::r,l=>by
  simp only[Vbahar.wholes,List.mem_flatMap,List.mem_map,List.mem_range];constructor
  ·rintro⟨i,hi,t,ht,rfl⟩;obtain⟨h1,h2⟩:=mem_wholes.mp ht;refine⟨by rw[List.length_cons,List.length_cons,h1],fun q hq=>?_⟩;cases q with
   | zero=>exact⟨Int.natCast_nonneg _,Int.ofNat_le.mpr (by show i<=k;omega)⟩
   | succ q=>exact h2 q (by simpa using hq)
  ·rintro⟨h1,h2⟩
   match l,h1 with
   | a::t,h1=>
    have h3:=h2 0 (by simp);have h3a:0<=a:=h3.1;have h3b:a<=(k:Int):=h3.2;refine⟨a.toNat,by omega,t,mem_wholes.mpr ⟨by simpa using h1,fun i hi=>h2 (i+1) (by simpa using hi)⟩,?_⟩;rw[show Int.ofNat a.toNat=a by rw[Int.ofNat_eq_natCast];omega]
theorem WholeDiv.mem{s:State}(g:Good s){x:List Int}(W:WholeDiv s x):x∈Vbahar.wholes (s.journeys.map fun j=>Vbahar.mostOf s j):=by
 refine mem_wholes.mpr ⟨by rw[lmp];exact W.len,fun i hi=>?_⟩;rw[lmp] at hi;refine⟨W.nn i hi,?_⟩;have:=W.most g hi;have e:(s.journeys.map fun j=>Vbahar.mostOf s j).getD i 0=Vbahar.mostOf s (jn s i):=by
  unfold SN.jn;rw[gDe,List.getElem?_map,gEe hi,gDe,gEe hi];rfl
 rw[e];exact this
theorem nothing_whole(s:State):WholeDiv s (s.journeys.map fun _=>0):=
 (fits_iff (by simp)).mp ((SN.div_iff s (Vbahar.nothing s) Int.one_pos (by simp[Vbahar.nothing,SN.prob])).mpr (SN.nothing_div s))
theorem whole_char{s:State}(g:Good s){x:List Int}(W:WholeDiv s x)(h:∀ y,WholeDiv s y->Vbahar.better s {den:=1,nums:=y} {den:=1,nums:=x}=false):Vbahar.bestWhole s={den:=1,nums:=x}:=by
 have am:∀ y,WholeDiv s y->SN.AtMost s (gp s {den:=1,nums:=x}) 1 {den:=1,nums:=y}:=fun y Y=>by
  refine⟨Int.one_pos,Y.len,?_⟩;have hb:=h y Y;rw[<-Bool.not_eq_true,SN.better_iff s _ _ Y.len W.len,Classical.not_not] at hb;refine hb.congr fun k hk=>?_;show gp s _ k*1-gp s _ k*1=1*gp s _ k-1*gp s _ k;rw[Int.mul_one,Int.mul_one,Int.one_mul,Int.one_mul]
 have sx:SN.Same s (gp s {den:=1,nums:=x}) 1 {den:=1,nums:=x}:=fun k hk=>Int.sub_self _;have hm:∀ p,p∈(((Vbahar.wholes (s.journeys.map fun j=>Vbahar.mostOf s j)).map fun l=>({den:=1,nums:=l}:Point)).filter fun p=>Vbahar.fits s p)->∃ y,WholeDiv s y/\p={den:=1,nums:=y}:=fun p hp=>by
  obtain⟨h1,h2⟩:=List.mem_filter.mp hp;obtain⟨y,hy,rfl⟩:=List.mem_map.mp h1;exact⟨y,(fits_iff (by rw[wholes_len hy,lmp])).mp h2,rfl⟩
 have hb:=SN.bestOf_same (s:=s) Int.one_pos (((Vbahar.wholes (s.journeys.map fun j=>Vbahar.mostOf s j)).map fun l=>({den:=1,nums:=l}:Point)).filter fun p=>Vbahar.fits s p) (Vbahar.nothing s)
  (fun p hp=>by obtain⟨y,Y,rfl⟩:=hm p hp;exact am y Y) (am _ (nothing_whole s))
  (.inr ⟨{den:=1,nums:=x},List.mem_filter.mpr ⟨List.mem_map.mpr ⟨x,W.mem g,rfl⟩,(fits_iff W.len).mpr W⟩,sx⟩)
 have hd:(Vbahar.bestWhole s).den=1:=by
  rcases bestOf_mem s (((Vbahar.wholes (s.journeys.map fun j=>Vbahar.mostOf s j)).map fun l=>({den:=1,nums:=l}:Point)).filter fun p=>Vbahar.fits s p) (Vbahar.nothing s) with e | e
  ·show(Vbahar.bestOf _ _ _).den=1;rw[e];rfl
  ·obtain⟨y,_,e⟩:=hm _ e;show(Vbahar.bestOf _ _ _).den=1;rw[e]
 have hs:SN.Same s (gp s {den:=1,nums:=x}) 1 (Vbahar.bestWhole s):=hb.2;have hl:=bestWhole_len s;have hn:(Vbahar.bestWhole s).nums=x:=by
  refine List.ext_getElem (hl.trans W.len.symm) fun i h1 h2=>?_;have hi:i<s.journeys.length:=by omega
  have h3:=hs (i+1) (by show i+1<s.journeys.length+1;omega);rw[hd] at h3;simp only[SN.gp,Nat.add_one_ne_zero,if_false,Nat.add_sub_cancel,Int.one_mul] at h3;rw[gDe,gEe h2,gDe,gEe h1] at h3;simp only[Option.getD_some] at h3;omega
 revert hd hn;cases Vbahar.bestWhole s with
 | mk d n=>rintro rfl rfl;rfl
theorem line_iff{l:List Nat}{m lo hi:Nat}(hn:l.Nodup)(hm:∀ k,k∈l->k<m)(h1:lo∈l)(h2:hi∈l)(hlo:∀ k,k∈l->lo<=k)(hhi:∀ k,k∈l->k<=hi):
  ((List.range m).all fun a=>(List.range m).all fun b=>!(l.contains a&&l.contains b)||(List.range m).all fun k=>decide (k<a)||(decide (b<k)||l.contains k))=true<->hi-lo+1=l.length:=by
 have e1:((List.range m).all fun a=>(List.range m).all fun b=>!(l.contains a&&l.contains b)||(List.range m).all fun k=>decide (k<a)||(decide (b<k)||l.contains k))=true<->∀ k,lo<=k->k<=hi->k∈l:=by
  simp only[List.all_eq_true,List.mem_range,Bool.or_eq_true,Bool.not_eq_true',Bool.and_eq_false_iff,decide_eq_true_eq,List.contains_iff_mem];constructor
  ·intro h k hk1 hk2;have hk3:=hm hi h2;rcases h lo (hm lo h1) hi hk3 with (q | q) | q
   ·rw[List.contains_iff_mem.mpr h1] at q;cases q
   ·rw[List.contains_iff_mem.mpr h2] at q;cases q
   ·rcases q k (by omega) with q | q | q
    ·omega
    ·omega
    ·exact q
  ·intro h a ha b hb;by_cases ca:a∈l
   ·by_cases cb:b∈l
    ·refine .inr fun k hk=>?_;by_cases q1:k<a
     ·exact .inl q1
     ·by_cases q2:b<k
      ·exact .inr (.inl q2)
      ·exact .inr (.inr (h k (by have:=hlo a ca;omega) (by have:=hhi b cb;omega)))
    ·exact .inl (.inr (by cases q:l.contains b with | false=>rfl | true=>exact absurd (List.contains_iff_mem.mp q) cb))
   ·exact .inl (.inl (by cases q:l.contains a with | false=>rfl | true=>exact absurd (List.contains_iff_mem.mp q) ca))
 rw[e1];have hle:=hlo hi h2;have up:l.length<=hi-lo+1:=by
  have:=nodup_sub hn (l2:=List.range' lo (hi-lo+1)) (fun k hk=>List.mem_range'_1.mpr (by have:=hlo k hk;have:=hhi k hk;omega));rwa [List.length_range'] at this
 constructor
 ·intro h;have:=nodup_sub (l1:=List.range' lo (hi-lo+1)) (l2:=l) (List.nodup_range' (step:=1)) (fun k hk=>by have:=List.mem_range'_1.mp hk;exact h k (by omega) (by omega));rw[List.length_range'] at this;omega
 ·intro h k hk1 hk2;refine Classical.byContradiction fun q=>?_;have:=nodup_sub (l1:=k::l) (List.nodup_cons.mpr ⟨q,hn⟩) (l2:=List.range' lo (hi-lo+1)) (fun x hx=>List.mem_range'_1.mpr (by
   rcases List.mem_cons.mp hx with e | e
   ·omega
   ·have:=hlo x e;have:=hhi x e;omega))
  rw[List.length_range',List.length_cons] at this;omega
theorem ask_le{s:State}{S:SN.Tab}(F:SN.Final (prob s) S){j:Nat}(hj:j<s.journeys.length):
  (Vbahar.askOf s (jn s j) (Vbahar.bids s)<=((jn s j).fare:Int)*(Vbahar.bids s).den)<->(sm s.caps.length fun l=>if (jn s j).legs.contains l=true then S.G 0 ((prob s).n+l) else 0)<=((jn s j).fare:Int)*S.d:=by
 obtain⟨h1,h2,h3⟩:=SN.bids_char F;have hd:=F.inv.d;rw[SN.askOf_sm s _ hj];have e:SN.askP s (Vbahar.bids s) j*S.d=(sm s.caps.length fun l=>if (jn s j).legs.contains l=true then S.G 0 ((prob s).n+l) else 0)*(Vbahar.bids s).den:=by
  unfold SN.askP;rw[<-SN.sm_mulr,<-SN.sm_mulr];refine SN.sm_congr fun l hl=>?_;have hl':l<s.caps.length:=hl;have:=h3 l hl;rw[a_leg hl' hj];by_cases c:(jn s j).legs.contains l=true
  ·rw[if_pos c,if_pos c,Int.mul_one];exact this
  ·rw[if_neg c,if_neg c,Int.mul_zero,Int.zero_mul,Int.zero_mul]
 generalize (sm s.caps.length fun l=>if (jn s j).legs.contains l=true then S.G 0 ((prob s).n+l) else 0)=Q at e ⊢;generalize SN.askP s (Vbahar.bids s) j=A at e ⊢;generalize ((jn s j).fare:Int)=f;generalize (Vbahar.bids s).den=D at h1 e ⊢;constructor
 ·intro h;have h4:=Int.mul_le_mul_of_nonneg_right h (Int.le_of_lt hd);rw[e,Int.mul_right_comm] at h4;exact Int.le_of_mul_le_mul_right h4 h1
 ·intro h;have h4:=Int.mul_le_mul_of_nonneg_right h (Int.le_of_lt h1);rw[<-e,Int.mul_right_comm] at h4;exact Int.le_of_mul_le_mul_right h4 hd
theorem gain_eq{s:State}{l:Nat}{S T:SN.Tab}(F:SN.Final (prob s) S)(F':SN.Final (prob (Vbahar.withCap s l (s.caps.getD l 0+1))) T){a d:Int}(hd:0<d)(h:a*(S.d*T.d)=(T.G 0 ((prob s).n+(prob s).K)*S.d-S.G 0 ((prob s).n+(prob s).K)*T.d)*d):Vbahar.gainOf s l=Vbahar.frac a d:=by
 obtain⟨h1,_,h3,_⟩:=SN.best_char F;obtain⟨k1,_,k3,_⟩:=SN.best_char F';have hS:=F.inv.d;have hT:=F'.inv.d;have en:(prob (Vbahar.withCap s l (s.caps.getD l 0+1))).n+(prob (Vbahar.withCap s l (s.caps.getD l 0+1))).K=(prob s).n+(prob s).K:=by
  show s.journeys.length+((s.caps.set l _).length+s.journeys.length)=s.journeys.length+(s.caps.length+s.journeys.length);rw[List.length_set]
 rw[en] at k3;unfold Vbahar.gainOf;refine SN.frac_eq (Int.mul_pos k1 h1) hd ?_;generalize T.G 0 ((prob s).n+(prob s).K)=tb at h k3;generalize S.G 0 ((prob s).n+(prob s).K)=sb at h h3;generalize Vbahar.earns (Vbahar.withCap s l (s.caps.getD l 0+1)) (Vbahar.best (Vbahar.withCap s l (s.caps.getD l 0+1)))=et at k3 ⊢;generalize Vbahar.earns s (Vbahar.best s)=es at h3 ⊢;generalize (Vbahar.best (Vbahar.withCap s l (s.caps.getD l 0+1))).den=dt at k1 k3 ⊢;generalize (Vbahar.best s).den=ds at h1 h3 ⊢;have hp:S.d*T.d≠0:=Int.ne_of_gt (Int.mul_pos hS hT);refine Int.eq_of_mul_eq_mul_right hp ?_;grind
end My
end
section
namespace My
open Vbahar (State Journey Point)
open SN (sm prob jn LN ZV gp)
theorem gain_nn{s:State}{l:Nat}{S T:SN.Tab}(F:SN.Final (prob s) S)(F':SN.Final (prob (Vbahar.withCap s l (s.caps.getD l 0+1))) T):
  0<=T.G 0 ((prob s).n+(prob s).K)*S.d-S.G 0 ((prob s).n+(prob s).K)*T.d:=by
 obtain⟨p,hp,hs⟩:=SN.corner_there F;have D:=SN.corners_div hp;have h0:p.den*S.G 0 ((prob s).n+(prob s).K)-S.d*Vbahar.earns s p=0:=hs 0 (by omega);have hS:=F.inv.d;have hT:=F'.inv.d;have en:(prob (Vbahar.withCap s l (s.caps.getD l 0+1))).n+(prob (Vbahar.withCap s l (s.caps.getD l 0+1))).K=(prob s).n+(prob s).K:=by
  show s.journeys.length+((s.caps.set l _).length+s.journeys.length)=s.journeys.length+(s.caps.length+s.journeys.length);rw[List.length_set]
 have D':SN.Div (Vbahar.withCap s l (s.caps.getD l 0+1)) p:=by
  refine⟨D.den,D.len,D.nn,fun k hk=>?_⟩;have hk':k<s.caps.length+s.journeys.length:=by
   have:k<(s.caps.set l (s.caps.getD l 0+1)).length+s.journeys.length:=hk;rwa [List.length_set] at this
  refine Int.le_trans (Int.le_trans (Int.le_of_eq (SN.sm_congr fun j hj=>?_)) (D.lim k hk')) (Int.mul_le_mul_of_nonneg_right ?_ (Int.le_of_lt D.den))
  ·congr 1;have hj':j<s.journeys.length:=hj;simp only[prob,Vbahar.withCap,List.length_set];rw[if_pos hj',if_pos hj'];rfl
  ·rw[en];simp only[prob,Vbahar.withCap,List.length_set];rw[if_neg (Nat.not_lt.mpr (Nat.le_add_right _ _)),if_neg (Nat.lt_irrefl _),if_neg (Nat.not_lt.mpr (Nat.le_add_right _ _)),if_neg (Nat.lt_irrefl _)];by_cases c:k<s.caps.length
   ·rw[if_pos c,if_pos c];by_cases e:k=l
    ·subst e;rw[gDe (l:=s.caps.set _ _),List.getElem?_set_self c];simp only[Option.getD_some];omega
    ·rw[gDe (l:=s.caps.set _ _),List.getElem?_set_ne (fun q=>e q.symm),<-gDe];exact Int.le_refl _
   ·rw[if_neg c,if_neg c];exact Int.le_refl _
 have h1:=(D'.atMost F').le.first (by omega);rw[en] at h1;have h2:0<=p.den*T.G 0 ((prob s).n+(prob s).K)-T.d*Vbahar.earns s p:=h1;have hd:=D.den;generalize T.G 0 ((prob s).n+(prob s).K)=t at h2 ⊢;generalize S.G 0 ((prob s).n+(prob s).K)=u at h0 ⊢;generalize Vbahar.earns s p=e at h0 h2;have h3:0<=(p.den*t-T.d*e)*S.d:=Int.mul_nonneg h2 (Int.le_of_lt hS);have h4:(p.den*t-T.d*e)*S.d=p.den*(t*S.d-u*T.d):=by grind
 rw[h4] at h3;exact Int.le_of_mul_le_mul_left (by rw[Int.mul_zero];exact h3) hd
theorem sum_legs{f:Nat->Int}{m:Nat}:∀ {l:List Nat},l.Nodup->(∀ k,k∈l->k<m)->(l.map f).sum=sm m fun k=>if l.contains k=true then f k else 0
 | [],_,_=>by
  rw[List.map_nil,List.sum_nil,SN.sm_zero];intro i _;rfl
 | a::r,hn,hm=>by
  have hn':=List.nodup_cons.mp hn;rw[List.map_cons,List.sum_cons,sum_legs hn'.2 (fun k hk=>hm k (List.mem_cons_of_mem _ hk))];have h:=SN.sm_ite (hm a List.mem_cons_self) (f a);rw[<-h,<-SN.sm_add];refine SN.sm_congr fun k hk=>?_;by_cases c:k=a
  ·subst c;have h1:r.contains k=false:=by
    cases q:r.contains k with
    | false=>rfl
    | true=>exact absurd (List.contains_iff_mem.mp q) hn'.1
   rw[if_pos rfl,h1,if_pos (List.contains_iff_mem.mpr List.mem_cons_self)];simp
  ·have h1:(a::r).contains k=r.contains k:=by
    rw[List.contains_cons];have:(k==a)=false:=by simpa using c
    rw[this,Bool.false_or]
   rw[if_neg c,h1,Int.zero_add]
def spareB(spare:List Int)(given:Int)(way:List Int):List Int:=spare.mapIdx fun i left=>if way.contains ((i:Int)+1)=true then left-given else left
def mostP(d:Int)(way spare:List Int):Int:=(way.map fun z=>spare.getD (z-1).toNat 0).foldl min d
def earnL(seats fares:List Int):Int:=(List.zipWith (fun a b=>a*b) seats fares).sum
theorem foldl_minI:∀ (l:List Int) (a:Int),l.foldl min a∈a::l/\∀ y,y∈a::l->l.foldl min a<=y
 | [],a=>⟨List.mem_cons_self,fun y hy=>by rw[List.mem_singleton.mp hy];exact Int.le_refl _⟩
 | x::r,a=>by
  have ih:=foldl_minI r (min a x);rw[List.foldl_cons];have hm:r.foldl min (min a x)<=min a x:=ih.2 _ List.mem_cons_self;refine⟨?_,fun y hy=>?_⟩
  ·rcases List.mem_cons.mp ih.1 with e | e
   ·rw[e];by_cases c:a<=x
    ·rw[Int.min_eq_left c];exact List.mem_cons_self
    ·rw[Int.min_eq_right (by omega)];exact List.mem_cons_of_mem _ List.mem_cons_self
   ·exact List.mem_cons_of_mem _ (List.mem_cons_of_mem _ e)
  ·rcases List.mem_cons.mp hy with e | e
   ·subst e;omega
   ·rcases List.mem_cons.mp e with e | e
    ·subst e;omega
    ·exact ih.2 y (List.mem_cons_of_mem _ e)
theorem min_is{l:List Int}{a m:Int}(h1:m∈a::l)(h2:∀ y,y∈a::l->m<=y):m=l.foldl min a:=by
 have h:=foldl_minI l a;have:=h2 _ h.1;have:=h.2 _ h1;omega
theorem le_mostP{d:Int}{way spare:List Int}{g:Int}:g<=mostP d way spare<->g<=d/\∀ z,z∈way->g<=spare.getD (z-1).toNat 0:=by
 have h:=foldl_minI (way.map fun z=>spare.getD (z-1).toNat 0) d;constructor
 ·intro q;refine⟨Int.le_trans q (h.2 _ List.mem_cons_self),fun z hz=>Int.le_trans q (h.2 _ (List.mem_cons_of_mem _ (List.mem_map.mpr ⟨z,hz,rfl⟩)))⟩
 ·rintro⟨q1,q2⟩;rcases List.mem_cons.mp h.1 with e | e
  ·unfold mostP;rw[e];exact q1
  ·obtain⟨z,hz,e⟩:=List.mem_map.mp e;unfold mostP;rw[<-e];exact q2 z hz
def usedTo(s:State)(x:List Int)(k l:Nat):Int:=sm k fun j=>if (jn s j).legs.contains l=true then x.getD j 0 else 0
def spareOf(s:State)(x:List Int):List Int:=(List.range s.caps.length).map fun l=>((s.caps.getD l 0:Nat):Int)-usedTo s x x.length l
theorem spareOf_len(s:State)(x:List Int):(spareOf s x).length=s.caps.length:=by simp[spareOf]
theorem spareOf_get{s:State}{x:List Int}{l:Nat}(hl:l<s.caps.length):(spareOf s x).getD l 0=((s.caps.getD l 0:Nat):Int)-usedTo s x x.length l:=SN.getD_map_range _ hl
theorem spareOf_nil(s:State):spareOf s []=SN.capsI s:=by
 refine List.ext_getElem (by simp[spareOf,SN.capsI]) fun i h1 h2=>?_;have hi:i<s.caps.length:=by simpa [spareOf] using h1
 simp[spareOf,SN.capsI,usedTo,SN.sm,gDe,hi]
theorem usedTo_app{s:State}{x y:List Int}{k l:Nat}(hk:k<=x.length):usedTo s (x++y) k l=usedTo s x k l:=by
 refine SN.sm_congr fun j hj=>?_;rw[gDe,List.getElem?_append_left (by omega),<-gDe]
theorem spareB_len(a:List Int)(g:Int)(w:List Int):(spareB a g w).length=a.length:=by simp[spareB]
theorem spare_push{s:State}{x:List Int}{g:Int}:spareB (spareOf s x) g (SN.wayI (jn s x.length).legs)=spareOf s (x++[g]):=by
 refine List.ext_getElem (by rw[spareB_len,spareOf_len,spareOf_len]) fun i h1 h2=>?_;have hi:i<s.caps.length:=by rwa [spareOf_len] at h2
 simp only[spareB,List.getElem_mapIdx,spareOf,List.getElem_map,List.getElem_range,List.length_append,List.length_cons,List.length_nil];rw[SN.wayI_contains];have e:usedTo s (x++[g]) (x.length+(0+1)) i=usedTo s x x.length i+if (jn s x.length).legs.contains i=true then g else 0:=by
  show usedTo s (x++[g]) x.length i+(if (jn s x.length).legs.contains i=true then (x++[g]).getD x.length 0 else 0)=_;rw[usedTo_app (Nat.le_refl _)];congr 2;simp
 rw[e];by_cases c:(jn s x.length).legs.contains i=true
 ·rw[if_pos c,if_pos c];omega
 ·rw[if_neg c,if_neg c];omega
theorem jn_legs_lt{s:State}(g:Good s){j l:Nat}(hj:j<s.journeys.length)(hl:l∈(jn s j).legs):l<s.caps.length:=(g.way _ (jn_mem hj)).1 l hl
theorem le_most{s:State}{x:List Int}(g:Good s){j:Nat}(hj:j<s.journeys.length){v:Int}:
  v<=mostP ((jn s j).demand:Int) (SN.wayI (jn s j).legs) (spareOf s x)<->v<=((jn s j).demand:Int)/\∀ l,l∈(jn s j).legs->v<=((s.caps.getD l 0:Nat):Int)-usedTo s x x.length l:=by
 rw[le_mostP];refine⟨fun h=>⟨h.1,fun l hl=>?_⟩,fun h=>⟨h.1,fun z hz=>?_⟩⟩
 ·have:=h.2 ((l:Int)+1) (List.mem_map.mpr ⟨l,hl,rfl⟩);rw[show((l:Int)+1-1).toNat=l by omega,spareOf_get (jn_legs_lt g hj hl)] at this;exact this
 ·obtain⟨l,hl,rfl⟩:=List.mem_map.mp hz;rw[show((l:Int)+1-1).toNat=l by omega,spareOf_get (jn_legs_lt g hj hl)];exact h.2 l hl
theorem most_caps{s:State}(g:Good s){j:Nat}(hj:j<s.journeys.length):mostP ((jn s j).demand:Int) (SN.wayI (jn s j).legs) (SN.capsI s)=((Vbahar.mostOf s (jn s j):Nat):Int):=by
 have h1:=foldl_min_le (fun l=>s.caps.getD l 0) (jn s j).legs (jn s j).demand;have u0:∀ l,usedTo s [] ([]:List Int).length l=0:=fun l=>rfl;rw[<-spareOf_nil];refine Int.le_antisymm ?_ ?_
 ·have h2:=(le_most (x:=[]) g hj (v:=mostP ((jn s j).demand:Int) (SN.wayI (jn s j).legs) (spareOf s []))).mp (Int.le_refl _);have h3:0<=mostP ((jn s j).demand:Int) (SN.wayI (jn s j).legs) (spareOf s []):=(le_most g hj).mpr ⟨by omega,fun l hl=>by rw[u0];omega⟩;generalize mostP ((jn s j).demand:Int) (SN.wayI (jn s j).legs) (spareOf s [])=v at h2 h3 ⊢;have:v.toNat<=Vbahar.mostOf s (jn s j):=le_foldl_min (fun l=>s.caps.getD l 0) _ _ _ (by have:=h2.1;omega) (fun l hl=>by have:=h2.2 l hl;rw[u0] at this;show _<=s.caps.getD l 0;omega);omega
 ·refine(le_most g hj).mpr ⟨by have:=h1.1;unfold Vbahar.mostOf;omega,fun l hl=>?_⟩;have:=h1.2 l hl;rw[u0];unfold Vbahar.mostOf;omega
theorem earn_eq(s:State)(x:List Int):earnL x (SN.faresI s)=Vbahar.earns s {den:=1,nums:=x}:=by
 unfold earnL SN.faresI Vbahar.earns Vbahar.fares;generalize s.journeys.map (fun j=>(j.fare:Int))=f;induction f generalizing x with
 | nil=>cases x<;>rfl
 | cons a r ih=>
  cases x with
  | nil=>rfl
  | cons b t=>
   show b*a+(List.zipWith (fun a b=>a*b) t r).sum=a*b+Vbahar.dot r t;rw[ih,Int.mul_comm]
theorem feas_iff{s:State}{x:List Int}(hx:x.length=s.journeys.length)(h0:∀ z,z∈x->0<=z):
  ((∀ j,j<s.journeys.length->x.getD j 0<=((jn s j).demand:Int))/\∀ z,z∈spareOf s x->0<=z)<->WholeDiv s x:=by
 have e:∀ l,usedTo s x x.length l=legSum s x l:=fun l=>by unfold usedTo legSum;rw[hx]
 refine⟨fun h=>⟨hx,fun j hj=>h0 _ (SN.getD_mem _ _ _ (by omega)),h.1,fun l hl=>?_⟩,fun W=>⟨W.dem,fun z hz=>?_⟩⟩
 ·have:=h.2 ((spareOf s x).getD l 0) (SN.getD_mem _ _ _ (by rw[spareOf_len];exact hl));rw[spareOf_get hl,e] at this;omega
 ·obtain⟨l,hl,rfl⟩:=List.mem_map.mp hz;have hl:=List.mem_range.mp hl;have:=W.cap l hl;rw[e];omega
structure PW(s:State)(f k:Nat)(x:List Int):Prop where
 len:x.length=k
 nn:∀ j,j<k->0<=x.getD j 0
 dem:∀ j,j<k->x.getD j 0<=((jn s j).demand:Int)
 none_:f<k->x.getD f 0=0
 cap:∀ l,l<s.caps.length->usedTo s x k l<=((s.caps.getD l 0:Nat):Int)
def upto(s:State)(f:Nat)(x:List Int):Int:=if x.length=f then 0 else mostP ((jn s x.length).demand:Int) (SN.wayI (jn s x.length).legs) (spareOf s x)
def exts(s:State)(f:Nat)(x:List Int):List (List Int):=(List.range (upto s f x+1).toNat).map fun(g:Nat)=>x++[(g:Int)]
def foundT(s:State)(f:Nat):Nat->List (List Int)
 | 0=>[[]]
 | k+1=>(foundT s f k).flatMap (exts s f)
theorem usedTo_nn{s:State}{x:List Int}{k:Nat}(h:∀ j,j<k->0<=x.getD j 0)(l:Nat):0<=usedTo s x k l:=SN.sm_nonneg fun j hj=>by
 show 0<=if (jn s j).legs.contains l=true then x.getD j 0 else 0
 split
 ·exact h j hj
 ·exact Int.le_refl 0
theorem PW.upto_nn{s:State}{f k:Nat}{x:List Int}(g:Good s)(hk:k<s.journeys.length)(p:PW s f k x):0<=upto s f x:=by
 have hl:=p.len;unfold upto;split
 ·exact Int.le_refl 0
 ·rw[hl];refine(le_most g hk).mpr ⟨by omega,fun l hl'=>?_⟩;have:=p.cap l (jn_legs_lt g hk hl');rw[hl];omega
theorem pw_push{s:State}{f k:Nat}{x:List Int}{v:Int}(g:Good s)(hk:k<s.journeys.length)(hl:x.length=k):PW s f (k+1) (x++[v])<->PW s f k x/\0<=v/\v<=upto s f x:=by
 have ge:∀ j,j<k->(x++[v]).getD j 0=x.getD j 0:=fun j hj=>by rw[gDe,List.getElem?_append_left (by omega),<-gDe]
 have gk:(x++[v]).getD k 0=v:=by rw[<-hl];simp
 have us:∀ l,usedTo s (x++[v]) (k+1) l=usedTo s x k l+if (jn s k).legs.contains l=true then v else 0:=fun l=>by
  show usedTo s (x++[v]) k l+(if (jn s k).legs.contains l=true then (x++[v]).getD k 0 else 0)=_;rw[usedTo_app (by omega),gk]
 constructor
 ·intro p;have hv:0<=v:=by have:=p.nn k (by omega);rwa [gk] at this
  refine⟨⟨hl,fun j hj=>by rw[<-ge j hj];exact p.nn j (by omega),fun j hj=>by rw[<-ge j hj];exact p.dem j (by omega),fun hf=>by rw[<-ge f hf];exact p.none_ (by omega),fun l hl'=>?_⟩,hv,?_⟩
  ·have:=p.cap l hl';rw[us] at this;split at this<;>omega
  ·unfold upto;rw[hl];split
   ·have:=p.none_ (by omega);rw[show f=k by omega,gk] at this;omega
   ·refine(le_most g hk).mpr ⟨by have:=p.dem k (by omega);rwa [gk] at this,fun l hl'=>?_⟩;have:=p.cap l (jn_legs_lt g hk hl');rw[us,if_pos (List.contains_iff_mem.mpr hl')] at this;rw[hl];omega
 ·rintro⟨p,h0,h1⟩;have hle:v<=((jn s k).demand:Int)/\∀ l,l<s.caps.length->(jn s k).legs.contains l=true->v<=((s.caps.getD l 0:Nat):Int)-usedTo s x k l:=by
   unfold upto at h1;rw[hl] at h1;split at h1
   ·exact⟨by omega,fun l hl' _=>by have:=p.cap l hl';omega⟩
   ·have:=(le_most g hk).mp h1;rw[hl] at this;exact⟨this.1,fun l _ hc=>this.2 l (List.contains_iff_mem.mp hc)⟩
  refine⟨by rw[List.length_append,hl];rfl,fun j hj=>?_,fun j hj=>?_,fun hf=>?_,fun l hl'=>?_⟩
  ·by_cases c:j<k
   ·rw[ge j c];exact p.nn j c
   ·rw[show j=k by omega,gk];exact h0
  ·by_cases c:j<k
   ·rw[ge j c];exact p.dem j c
   ·rw[show j=k by omega,gk];exact hle.1
  ·by_cases c:f<k
   ·rw[ge f c];exact p.none_ c
   ·have e:f=k:=by omega
    rw[e,gk];unfold upto at h1;rw[if_pos (by omega)] at h1;omega
  ·rw[us];have:=p.cap l hl';split
   ·rename_i c;have:=hle.2 l hl' c;omega
   ·omega
theorem mem_exts{s:State}{f:Nat}{x y:List Int}:y∈exts s f x<->∃ v:Int,y=x++[v]/\0<=v/\v<=upto s f x:=by
 unfold exts;rw[List.mem_map];constructor
 ·rintro⟨n,hn,rfl⟩;have:=List.mem_range.mp hn;exact⟨n,rfl,by omega,by omega⟩
 ·rintro⟨v,rfl,h0,h1⟩;exact⟨v.toNat,List.mem_range.mpr (by omega),by rw[show((v.toNat:Nat):Int)=v by omega]⟩
theorem mem_found{s:State}{f:Nat}(g:Good s):∀ {k:Nat},k<=s.journeys.length->∀ {x:List Int},x∈foundT s f k<->PW s f k x
 | 0,_,x=>by
  simp only[foundT,List.mem_singleton];refine⟨fun h=>?_,fun p=>List.length_eq_zero_iff.mp p.len⟩;subst h;exact⟨rfl,fun j hj=>absurd hj (by omega),fun j hj=>absurd hj (by omega),fun h=>absurd h (by omega),fun l _=>Int.natCast_nonneg _⟩
 | k+1,hk,x=>by
  simp only[foundT,List.mem_flatMap];constructor
  ·rintro⟨y,hy,hx⟩;obtain⟨v,rfl,h0,h1⟩:=mem_exts.mp hx;have p:=(mem_found g (by omega)).mp hy;exact(pw_push g (by omega) p.len).mpr ⟨p,h0,h1⟩
  ·intro p;have hl:=p.len;have e:x=x.take k++[x.getD k 0]:=by
    have:x.getD k 0=x[k]'(by omega):=by simp[gDe,show k<x.length by omega]
    rw[this,<-List.take_succ_eq_append_getElem (by omega),List.take_of_length_le (by omega)]
   rw[e] at p;have q:=(pw_push g (by omega) (by rw[List.length_take];omega)).mp p;exact⟨x.take k,(mem_found g (by omega)).mpr q.1,mem_exts.mpr ⟨x.getD k 0,e,q.2⟩⟩
def prodTo(s:State)(k:Nat):Nat:=((s.journeys.take k).map fun j=>Vbahar.mostOf s j+1).foldl (fun a b=>a*b) 1
theorem prodTo_succ{s:State}{k:Nat}(hk:k<s.journeys.length):prodTo s (k+1)=prodTo s k*(Vbahar.mostOf s (jn s k)+1):=by
 unfold prodTo;rw[List.take_succ_eq_append_getElem hk,List.map_append,List.foldl_append];unfold SN.jn;simp[gDe,hk]
theorem prodTo_all(s:State):prodTo s s.journeys.length=Vbahar.ways s:=by unfold prodTo Vbahar.ways;rw[List.take_of_length_le (Nat.le_refl _)]
theorem prodTo_pos{s:State}:∀ {k:Nat},k<=s.journeys.length->0<prodTo s k
 | 0,_=>by simp[prodTo]
 | k+1,h=>by rw[prodTo_succ h];exact Nat.mul_pos (prodTo_pos (by omega)) (by omega)
theorem prodTo_le{s:State}:∀ {k:Nat} (d:Nat),k+d<=s.journeys.length->prodTo s k<=prodTo s (k+d)
 | k,0,_=>Nat.le_refl _
 | k,d+1,h=>by
  refine Nat.le_trans (prodTo_le d (by omega)) ?_;rw[<-Nat.add_assoc,prodTo_succ (by omega)];exact Nat.le_mul_of_pos_right _ (by omega)
theorem exts_len{s:State}{f k:Nat}{x:List Int}(g:Good s)(hk:k<s.journeys.length)(p:PW s f k x):(exts s f x).length<=Vbahar.mostOf s (jn s k)+1:=by
 unfold exts;rw[lmp,List.length_range];have h:upto s f x<=((Vbahar.mostOf s (jn s k):Nat):Int):=by
  rw[<-most_caps g hk,<-spareOf_nil];unfold upto;rw[p.len];have u0:∀ l,usedTo s [] ([]:List Int).length l=0:=fun l=>rfl;split
  ·exact(le_most g hk).mpr ⟨by omega,fun l hl=>by rw[u0];omega⟩
  ·refine(le_most g hk).mpr ?_;have h2:=(le_most (x:=x) g hk (v:=mostP ((jn s k).demand:Int) (SN.wayI (jn s k).legs) (spareOf s x))).mp (Int.le_refl _);refine⟨h2.1,fun l hl=>?_⟩;have:=h2.2 l hl;have:=usedTo_nn (s:=s) (x:=x) (k:=k) p.nn l;rw[u0];rw[p.len] at *;omega
 omega
theorem flatMap_le{α β:Type}{f:α->List β}{b:Nat}:∀ {l:List α},(∀ x,x∈l->(f x).length<=b)->(l.flatMap f).length<=l.length*b
 | [],_=>by simp
 | x::r,h=>by
  have:=flatMap_le (l:=r) fun y hy=>h y (List.mem_cons_of_mem _ hy);have:=h x List.mem_cons_self;rw[List.flatMap_cons,List.length_append,List.length_cons,Nat.add_mul];omega
theorem found_len{s:State}{f:Nat}(g:Good s):∀ {k:Nat},k<=s.journeys.length->(foundT s f k).length<=prodTo s k
 | 0,_=>by simp[foundT,prodTo]
 | k+1,hk=>by
  rw[prodTo_succ hk];refine Nat.le_trans (flatMap_le (b:=Vbahar.mostOf s (jn s k)+1) fun x hx=>exts_len g hk ((mem_found g (by omega)).mp hx)) ?_;exact Nat.mul_le_mul_right _ (found_len g (by omega))
def maxL(b v:List Int):List Int:=if SN.lexLt b v=true then v else b
theorem lex_irr:∀ a:List Int,SN.lexLt a a=false
 | []=>rfl
 | x::r=>by simp only[SN.lexLt,if_true];exact lex_irr r
theorem lex_trans:∀ {a b c:List Int},SN.lexLt b a=false->SN.lexLt c b=false->SN.lexLt c a=false
 | [],[],_,_,h=>h
 | [],_::_,[],_,h=>by simp[SN.lexLt] at h
 | [],_::_,_::_,_,_=>rfl
 | _::_,[],_,h,_=>by simp[SN.lexLt] at h
 | _::_,_::_,[],_,h=>by simp[SN.lexLt] at h
 | x::a,y::b,z::c,h1,h2=>by
  simp only[SN.lexLt] at h1 h2 ⊢;by_cases e1:y=x
  ·rw[if_pos e1] at h1;by_cases e2:z=y
   ·rw[if_pos e2] at h2;rw[if_pos (e2.trans e1)];exact lex_trans h1 h2
   ·rw[if_neg e2] at h2;rw[if_neg (by omega)];have:=of_decide_eq_false h2;exact decide_eq_false (by omega)
  ·rw[if_neg e1] at h1;have h1:=of_decide_eq_false h1;by_cases e2:z=y
   ·rw[if_neg (by omega)];exact decide_eq_false (by omega)
   ·rw[if_neg e2] at h2;have:=of_decide_eq_false h2;rw[if_neg (by omega)];exact decide_eq_false (by omega)
theorem lex_asym:∀ {a b:List Int},SN.lexLt a b=true->SN.lexLt b a=false
 | [],[],_=>rfl
 | [],_::_,_=>rfl
 | _::_,[],h=>by simp[SN.lexLt] at h
 | x::a,y::b,h=>by
  simp only[SN.lexLt] at h ⊢;by_cases e:x=y
  ·rw[if_pos e] at h;rw[if_pos e.symm];exact lex_asym h
  ·rw[if_neg e] at h;rw[if_neg (fun q=>e q.symm)];have:=of_decide_eq_true h;exact decide_eq_false (by omega)
theorem foldl_max{α:Type}(v:α->List Int):∀ (l:List α) (b:List Int),((l.foldl (fun b x=>maxL b (v x)) b=b\/∃ x,x∈l/\l.foldl (fun b x=>maxL b (v x)) b=v x)/\
  SN.lexLt (l.foldl (fun b x=>maxL b (v x)) b) b=false/\∀ x,x∈l->SN.lexLt (l.foldl (fun b x=>maxL b (v x)) b) (v x)=false)
 | [],b=>⟨.inl rfl,lex_irr b,fun x hx=>by cases hx⟩
 | a::r,b=>by
  have ih:=foldl_max v r (maxL b (v a));rw[List.foldl_cons];have m1:SN.lexLt (maxL b (v a)) b=false:=by
   unfold maxL;split
   ·rename_i h;exact lex_asym h
   ·exact lex_irr b
  have m2:SN.lexLt (maxL b (v a)) (v a)=false:=by
   unfold maxL;split
   ·exact lex_irr _
   ·rename_i h;simpa using h
  refine⟨?_,lex_trans m1 ih.2.1,fun x hx=>?_⟩
  ·rcases ih.1 with e | ⟨x,hx,e⟩
   ·rw[e];unfold maxL;split
    ·exact .inr ⟨a,List.mem_cons_self,rfl⟩
    ·exact .inl rfl
   ·exact .inr ⟨x,List.mem_cons_of_mem _ hx,e⟩
  ·rcases List.mem_cons.mp hx with e | e
   ·rw[e];exact lex_trans m2 ih.2.1
   ·exact ih.2.2 x e
def restOf(s:State)(f:Nat)(x:List Int):Int:=mostP ((jn s f).demand:Int) (SN.wayI (jn s f).legs) (spareOf s x)
def fillIn(s:State)(f:Nat)(x:List Int):List Int:=x.set f (restOf s f x)
def vecOf(s:State)(x:List Int):List Int:=earnL x (SN.faresI s)::x
theorem getD_set{x:List Int}{f j:Nat}{v:Int}(hf:f<x.length):(x.set f v).getD j 0=if j=f then v else x.getD j 0:=by
 by_cases e:j=f
 ·rw[if_pos e,e,gDe,List.getElem?_set_self hf];rfl
 ·rw[if_neg e,gDe,List.getElem?_set_ne (fun q=>e q.symm),<-gDe]
theorem usedTo_set{s:State}{x:List Int}{f k l:Nat}{v:Int}(hf:f<x.length)(hk:f<k)(h0:x.getD f 0=0):
  usedTo s (x.set f v) k l=usedTo s x k l+if (jn s f).legs.contains l=true then v else 0:=by
 have h:=SN.sm_ite hk (if (jn s f).legs.contains l=true then v else 0);rw[<-h];unfold usedTo;rw[<-SN.sm_add];refine SN.sm_congr fun j hj=>?_;rw[getD_set hf];by_cases e:j=f
 ·subst e;rw[if_pos rfl,if_pos rfl,h0];split<;>omega
 ·rw[if_neg e,if_neg e];omega
theorem fill_whole{s:State}{f:Nat}{x:List Int}(g:Good s)(hf:f<s.journeys.length)(p:PW s f s.journeys.length x):WholeDiv s (fillIn s f x):=by
 have hl:=p.len;have h0:0<=restOf s f x:=(le_most g hf).mpr ⟨by omega,fun l hl'=>by
  have:=p.cap l (jn_legs_lt g hf hl');rw[hl];omega⟩
 have h1:=(le_most (x:=x) g hf (v:=restOf s f x)).mp (Int.le_refl _);refine⟨by unfold fillIn;rw[List.length_set];exact hl,fun j hj=>?_,fun j hj=>?_,fun l hl'=>?_⟩
 ·unfold fillIn;rw[getD_set (by omega)];split
  ·exact h0
  ·exact p.nn j hj
 ·unfold fillIn;rw[getD_set (by omega)];split
  ·rename_i e;rw[e];exact h1.1
  ·exact p.dem j hj
 ·show usedTo s (fillIn s f x) s.journeys.length l<=_;unfold fillIn;rw[usedTo_set (by omega) hf (p.none_ hf)];have:=p.cap l hl';split
  ·rename_i c;have:=h1.2 l (List.contains_iff_mem.mp c);rw[hl] at this;omega
  ·omega
theorem clear_pw{s:State}{f:Nat}{y:List Int}(hf:f<s.journeys.length)(W:WholeDiv s y):PW s f s.journeys.length (y.set f 0)/\∀ l,usedTo s (y.set f 0) s.journeys.length l+(if (jn s f).legs.contains l=true then y.getD f 0 else 0)=legSum s y l:=by
 have hl:=W.len;have e:y=(y.set f 0).set f (y.getD f 0):=by
  rw[List.set_set];refine List.ext_getElem (by simp) fun i h1 h2=>?_;by_cases c:f=i
  ·subst c;simp[gDe,h1]
  ·simp[List.getElem_set_ne c]
 have h0:(y.set f 0).getD f 0=0:=by rw[getD_set (by omega),if_pos rfl]
 have us:∀ l,usedTo s (y.set f 0) s.journeys.length l+(if (jn s f).legs.contains l=true then y.getD f 0 else 0)=legSum s y l:=fun l=>by
  have:=usedTo_set (s:=s) (x:=y.set f 0) (l:=l) (v:=y.getD f 0) (by rw[List.length_set];omega) hf h0;rw[<-e] at this;exact this.symm
 refine⟨⟨by rw[List.length_set];exact hl,fun j hj=>?_,fun j hj=>?_,fun _=>h0,fun l hl'=>?_⟩,us⟩
 ·rw[getD_set (by omega)];split
  ·exact Int.le_refl 0
  ·exact W.nn j hj
 ·rw[getD_set (by omega)];split
  ·omega
  ·exact W.dem j hj
 ·have:=us l;have:=W.cap l hl';have:=W.nn f hf;split at *<;>omega
theorem fill_not_less{s:State}{f:Nat}{y:List Int}(g:Good s)(hf:f<s.journeys.length)(W:WholeDiv s y):SN.lexLt (vecOf s (fillIn s f (y.set f 0))) (vecOf s y)=false:=by
 obtain⟨p,us⟩:=clear_pw hf W;have hl:=W.len;have hle:y.getD f 0<=restOf s f (y.set f 0):=(le_most g hf).mpr ⟨W.dem f hf,fun l hl'=>by
  have h1:=us l;have h2:=W.cap l (jn_legs_lt g hf hl');rw[if_pos (List.contains_iff_mem.mpr hl')] at h1;rw[p.len];omega⟩
 have ef:fillIn s f (y.set f 0)=y.set f (restOf s f (y.set f 0)):=by unfold fillIn;rw[List.set_set]
 rw[ef];generalize restOf s f (y.set f 0)=r at hle;have wl:(y.set f r).length=s.journeys.length:=by rw[List.length_set];exact hl
 rw[<-Bool.not_eq_true,SN.lexLt_iff (s.journeys.length+1) _ _ (by simp[vecOf,hl]) (by simp[vecOf,hl]),Classical.not_not,SN.LN_cons];simp only[vecOf,List.getD_cons_zero,List.getD_cons_succ];have hfr:(0:Int)<=((jn s f).fare:Int):=Int.natCast_nonneg _;have ee:earnL (y.set f r) (SN.faresI s)-earnL y (SN.faresI s)=((jn s f).fare:Int)*(r-y.getD f 0):=by
  rw[earn_eq,earn_eq,SN.earns_sm s _ wl,SN.earns_sm s _ hl,<-SN.sm_sub,<-SN.sm_ite hf (((jn s f).fare:Int)*(r-y.getD f 0))];refine SN.sm_congr fun j hj=>?_;have hj':j<s.journeys.length:=hj;simp only[prob];rw[if_pos hj',if_pos trivial,getD_set (by omega)];by_cases e:j=f
  ·subst e;rw[if_pos rfl,if_pos rfl,Int.mul_sub]
  ·rw[if_neg e,if_neg e];omega
 have h2:0<=((jn s f).fare:Int)*(r-y.getD f 0):=Int.mul_nonneg hfr (by omega);by_cases c:0<earnL (y.set f r) (SN.faresI s)-earnL y (SN.faresI s)
 ·exact .inl c
 ·refine .inr ⟨by omega,fun k hk _=>?_⟩;show 0<=(y.set f r).getD k 0-y.getD k 0;rw[getD_set (by omega)];split
  ·rename_i e;rw[e];omega
  ·omega
theorem better_lex{s:State}{x y:List Int}(hx:x.length=s.journeys.length)(hy:y.length=s.journeys.length):Vbahar.better s {den:=1,nums:=y} {den:=1,nums:=x}=SN.lexLt (vecOf s x) (vecOf s y):=by
 rw[Bool.eq_iff_iff,SN.better_iff s _ _ hy hx,SN.lexLt_iff (s.journeys.length+1) _ _ (by simp[vecOf,hx]) (by simp[vecOf,hy])];refine not_congr ⟨fun h=>h.congr fun k hk=>?_,fun h=>h.congr fun k hk=>?_⟩
 all_goals
  cases k with
  | zero=>
   simp only[SN.gp,if_true,vecOf,List.getD_cons_zero,earn_eq];omega
  | succ k=>
   simp only[SN.gp,Nat.add_one_ne_zero,if_false,Nat.add_sub_cancel,vecOf,List.getD_cons_succ];omega
theorem whole_found{s:State}{f:Nat}(g:Good s)(hf:f<s.journeys.length):
  (foundT s f s.journeys.length).foldl (fun b x=>maxL b (vecOf s (fillIn s f x))) []=Vbahar.earns s (Vbahar.bestWhole s)::(Vbahar.bestWhole s).nums:=by
 have h:=foldl_max (fun x=>vecOf s (fillIn s f x)) (foundT s f s.journeys.length) [];generalize (foundT s f s.journeys.length).foldl (fun b x=>maxL b (vecOf s (fillIn s f x))) []=r at h ⊢;obtain⟨h1,_,h3⟩:=h;have all:∀ y,WholeDiv s y->SN.lexLt r (vecOf s y)=false:=fun y W=>
  lex_trans (fill_not_less g hf W) (h3 _ ((mem_found g (Nat.le_refl _)).mpr (clear_pw hf W).1))
 rcases h1 with e | ⟨x,hx,e⟩
 ·have:=all _ (nothing_whole s);rw[e] at this;simp[vecOf,SN.lexLt] at this
 ·have W:=fill_whole g hf ((mem_found g (Nat.le_refl _)).mp hx);rw[whole_char g W (fun y Y=>by rw[better_lex W.len Y.len,<-e];exact all y Y),e];simp only[vecOf,earn_eq]
theorem whole_none{s:State}(g:Good s)(h:s.journeys.length=0):Vbahar.earns s (Vbahar.bestWhole s)::(Vbahar.bestWhole s).nums=[0]:=by
 have hj:s.journeys=[]:=List.length_eq_zero_iff.mp h;have hb:=bestWhole_len s;rw[h] at hb;have:=List.length_eq_zero_iff.mp hb;rw[this];unfold Vbahar.earns Vbahar.fares;rw[hj];rfl
theorem ways_fold(s:State)(g:Good s):(s.journeys.map fun j=>((Vbahar.mostOf s j:Nat):Int)).foldl (fun p m=>p*(m+1)) 1=((Vbahar.ways s:Nat):Int):=by
 unfold Vbahar.ways
 suffices h:∀ (l:List Journey) (a:Nat),(l.map fun j=>((Vbahar.mostOf s j:Nat):Int)).foldl (fun p m=>p*(m+1)) (a:Int)=(((l.map fun j=>Vbahar.mostOf s j+1).foldl (fun a b=>a*b) a:Nat):Int) from h s.journeys 1
 intro l;induction l with
 | nil=>intro a;rfl
 | cons j r ih=>
  intro a;rw[List.map_cons,List.foldl_cons,List.map_cons,List.foldl_cons,<-ih];congr 1
theorem line_one{s:State}(g:Good s){j:Journey}(hj:j∈s.journeys){mx mn:Int}(h1:mx∈SN.wayI j.legs)(h2:∀ y,y∈SN.wayI j.legs->y<=mx)(h3:mn∈SN.wayI j.legs)(h4:∀ y,y∈SN.wayI j.legs->mn<=y):
  decide (mx-mn+1=(j.legs.length:Int))=((List.range s.caps.length).all fun a=>(List.range s.caps.length).all fun b=>
   !(j.legs.contains a&&j.legs.contains b)||(List.range s.caps.length).all fun k=>decide (k<a)||(decide (b<k)||j.legs.contains k)):=by
 obtain⟨hi,hhi,rfl⟩:=List.mem_map.mp h1;obtain⟨lo,hlo,rfl⟩:=List.mem_map.mp h3;obtain⟨w1,w2,_⟩:=g.way j hj;have q1:∀ k,k∈j.legs->k<=hi:=fun k hk=>by have:=h2 _ (List.mem_map.mpr ⟨k,hk,rfl⟩);omega
 have q2:∀ k,k∈j.legs->lo<=k:=fun k hk=>by have:=h4 _ (List.mem_map.mpr ⟨k,hk,rfl⟩);omega
 have:=line_iff w2 w1 hlo hhi q2 q1;have hle:=q2 hi hhi;rw[Bool.eq_iff_iff,decide_eq_true_eq,this];omega
end My
end
section
set_option maxRecDepth 100000
set_option maxHeartbeats 2000000
namespace My
open PySem PySem.Spec PyProof.Rows L2
def top(i:Nat):Stmt:=PySem.Challenge.pw_seatnetwork_s01_answers.main.body.getD i (.Pass ⟨0,0,0,0⟩)
abbrev sSingle:Stmt:=top 5
def IntsAt(H:Hp)(a:Addr)(ns:List Int):Prop:=H a=some (.lst (ns.map V.int))
theorem flat_rep(n:Nat):(List.replicate n [V.int 0]).flatten=(List.replicate n (0:Int)).map V.int:=by
 induction n with
 | zero=>rfl
 | succ n ih=>rw[List.replicate_succ,List.flatten_cons,ih,List.replicate_succ,List.map_cons];rfl
theorem ixN_ok{n:Nat}{i:Int}(h0:0<=i)(h1:i<n):ixN n i=some i.toNat:=by
 unfold ixN;rw[if_pos h0,if_pos h1]
theorem Same.new{H:Hp}{p:Addr}{o:HO}(h:H p=none):Same H (upd H p o):=fun b u e=>by
 rw[upd_ne (ne_of_none e h)];exact e
def spSingle:Sp:=fun vs H Q _=>∃ wd p x:Int,vs=[.int wd,.int p,.int x]/\0<=p/\p<wd/\wd<=1000/\
 ∀ (H':Hp) (a:Addr),Same H H'->H a=none->IntsAt H' a (SN.single wd.toNat p.toNat x)->Q (.ref a) H'
section
variable{P:Program}{w:World}{K:PySem.W.Frag}{mg:Str->Option Value}{base:Heap}
theorem scSingle:FnScope ["width","place","number","row"] ["width","place","number"] (defScope sSingle):=⟨rfl,rfl,rfl,by decide +kernel,rfl,by decide +kernel,by decide +kernel⟩
theorem ok_single{f:Addr}{fd:FuncData}(F:Fun K "single" "single" sSingle f fd):FnOk P w K mg base CX0 1 f fd ["width","place","number"] spSingle:=by
  refine F.ok scSingle (fun vs H Q E h=>?_) (fun cdv A outer s H vs Q E hr h=>?_)
  · obtain⟨wd,p,x,rfl,_⟩:=h
    rfl
  · obtain⟨wd,p,x,rfl,h0,h1,h2,k⟩:=h
    refine⟨_,pss_cons (ps_set (i:=3) scSingle.nd rfl (.inl rfl) (pe_op op_rep (pe_lst (pa_cons pe_int pa_nil)) (pv 0)))
       (pss_cons (ps_asg (pv 2) (pg_sub (pv 3) (pv 1) set_list)) (pss_one (ps_ret (pv 3)))),?_⟩
    refine⟨(by show 1<=sizeLine;decide),fun l hl=>⟨_,rfl,l,wd,[.int 0],rfl,rfl,upd_same,by omega,by omega,?_,fun r hr=>?_⟩⟩
    · show 1*wd.toNat<=sizeLine
      have:=small1000 (n:=wd.toNat) (by omega);omega
    · refine⟨_,rfl,_,rfl,_,rfl,r,_,p,p.toNat,rfl,rfl,upd_same,?_,?_⟩
      · rw[flat_rep];exact ixN_ok h0 (by simp;omega)
      · refine⟨_,rfl,k _ r ?_ (Same.free (Same.new hl) hr) ?_⟩
        · intro b o e
          have hlb:b≠l:=ne_of_none e hl;have hb1:upd H l (HO.lst [V.int 0]) b=some o:=by rw[upd_ne hlb];exact e
          have hrb:b≠r:=ne_of_none hb1 hr;rw[upd_ne hrb,upd_ne hrb];exact hb1
        · unfold IntsAt
          rw[upd_same,flat_rep];simp[SN.single,List.map_set]
end
end My
end
section
set_option maxRecDepth 100000
set_option maxHeartbeats 2000000
namespace My
open PySem PySem.Spec PyProof.Rows L2
theorem IntsAt.same{H H':Hp}{a:Addr}{ns:List Int}(s:Same H H')(h:IntsAt H a ns):IntsAt H' a ns:=s _ _ h
structure RowsAs(H:Hp)(a:Addr)(as:List Addr)(rs:List (List Int)):Prop where
 lst:H a=some (.lst (as.map V.ref))
 len:as.length=rs.length
 at_:∀ (i:Nat) (b:Addr),as[i]?=some b->IntsAt H b (rs.getD i [])
def RowsAt(H:Hp)(a:Addr)(rs:List (List Int)):Prop:=∃ as,RowsAs H a as rs
theorem RowsAs.same{H H':Hp}{a:Addr}{as:List Addr}{rs:List (List Int)}(s:Same H H')(h:RowsAs H a as rs):RowsAs H' a as rs:=
 ⟨s _ _ h.lst,h.len,fun i b e=>s _ _ (h.at_ i b e)⟩
theorem RowsAt.same{H H':Hp}{a:Addr}{rs:List (List Int)}(s:Same H H')(h:RowsAt H a rs):RowsAt H' a rs:=
 let ⟨as,h⟩:=h;⟨as,h.same s⟩
abbrev sLegUse:Stmt:=top 3
def spLegUse:Sp:=fun vs H Q _=>∃ (leg:Int) (a:Addr) (ways:List (List Int)),vs=[.int leg,.ref a]/\RowsAt H a ways/\ways.length<=1000/\
 ∀ (H':Hp) (p:Addr),Same H H'->H p=none->IntsAt H' p (SN.legUse leg ways)->Q (.ref p) H'
theorem inV_ints(x:Int):∀ l:List Int,inV (.int x) (l.map V.int)=l.contains x
 | []=>rfl
 | y::l=>by
  have ih:=inV_ints x l;unfold inV at ih ⊢;rw[List.map_cons,List.any_cons,ih,List.contains_cons];show(y==x||_)=_;rw[Bool.beq_comm]
theorem flat_ints:∀ l:List Int,(l.map V.int).all flatV=true
 | []=>rfl
 | y::l=>by rw[List.map_cons,List.all_cons,flat_ints l];rfl
section
variable{P:Program}{w:World}{K:PySem.W.Frag}{mg:Str->Option Value}{base:Heap}
theorem scLegUse:FnScope ["leg","ways","way"] ["leg","ways"] (defScope sLegUse):=⟨rfl,rfl,rfl,by decide +kernel,rfl,by decide +kernel,by decide +kernel⟩
theorem ok_leg_use{f:Addr}{fd:FuncData}(F:Fun K "leg_use" "leg_use" sLegUse f fd):FnOk P w K mg base CX0 1 f fd ["leg","ways"] spLegUse:=by
 refine F.ok scLegUse (fun vs H Q E h=>?_) (fun cdv A outer s H vs Q E hr h=>?_)
 ·obtain⟨leg,a,ways,rfl,_⟩:=h;rfl
 ·obtain⟨leg,a,ways,rfl,⟨as,R⟩,hlen,k⟩:=h;refine⟨_,pss_one (ps_ret (pe_lc rfl scLegUse.nd (pi_list (pv 1)) (blkOk_by (own:=[("way",2)]) (by rfl)) (fun _ _ _ _ _=>pg_name (i:=2) scLegUse.nd rfl (.inl rfl))
   (fun _ _ _ _ _=>pts_nil) (fun _ _ _ _ _=>pe_ifExp (pt_cmpR (r:=rIn K false) op_in_seq (pv 0) (pv 2) (by with_unfolding_all rfl)) pe_int pe_int))),?_⟩
  refine⟨_,rfl,a,rfl,⟨_,SqL.of R.lst⟩,fun D hD=>?_⟩;refine lc_list (K:=K) (a:=a) (xs:=as.map V.ref) (fun i H'=>Same H H'/\IntsAt H' D ((SN.legUse leg ways).take i)) ⟨Same.new hD,upd_same⟩ (fun i H' _ q=>SqL.of (q.1 _ _ R.lst)) ?_ ?_
  ·rintro i x H' hi ⟨sm,hq⟩;obtain⟨b,hb,rfl⟩:∃ b,as[i]?=some b/\x=V.ref b:=by
    rw[List.getElem?_map] at hi;cases e:as[i]? with
    | none=>rw[e] at hi;cases hi
    | some b=>rw[e] at hi;exact⟨b,rfl,(Option.some.inj hi).symm⟩
   have hrow:=R.at_ i b hb;have hil:i<ways.length:=by rw[<-R.len];exact(List.getElem?_eq_some_iff.mp hb).1
   refine⟨rfl,?_⟩;simp only[tYes,if_true];refine⟨_,rfl,_,rfl,b,_,rfl,.inl (SqL.of (sm _ _ hrow)),rfl,flat_ints _,_,rfl,?_⟩;have step:∀ z:Int,(if (ways.getD i []).contains leg=true then (1:Int) else 0)=z->
     ∃ acc,H' D=some (HO.lst acc)/\acc.length<sizeLine/\Same H (upd H' D (.lst (acc++[V.int z])))/\IntsAt (upd H' D (.lst (acc++[V.int z]))) D ((SN.legUse leg ways).take (i+1)):=by
    intro z hz;refine⟨_,hq,?_,?_,?_⟩
    ·rw[lmp,List.length_take];exact small1000 (by omega)
    ·intro b' o e;rw[upd_ne (ne_of_none e hD)];exact sm _ _ e
    ·unfold IntsAt;rw[upd_same,List.take_succ_eq_append_getElem (by simpa [SN.legUse] using hil),List.map_append];simp[SN.legUse];rw[<-hz];simp[gDe,hil]
   simp only[Bool.false_eq_true,if_false,inV_ints];by_cases c:(ways.getD i []).contains leg=true
   ·rw[if_pos c];exact step 1 (if_pos c)
   ·rw[if_neg c];exact step 0 (if_neg c)
  ·rintro H' ⟨sm,hq⟩;refine k H' D sm hD ?_;have e:(SN.legUse leg ways).take (as.map V.ref).length=SN.legUse leg ways:=by
    rw[lmp,R.len,List.take_of_length_le (by simp[SN.legUse])]
   rw[e] at hq;exact hq
end
end My
end
section
set_option maxRecDepth 100000
set_option maxHeartbeats 2000000
namespace My
open PySem PySem.Spec PyProof.Rows L2
section
open PySem.SeqAt
open PySem.AutoSeq1 (wpAny_loadPart')
open PySem.MeetsSeq PySem.MeetsSeq2 PySem.MeetsSeq3
theorem intsAre_get:∀ {vs:List Value} {ns:List Int},IntsAre vs ns->∀ i,i<vs.length->∃ t,vs[i]?=some (.int (ns.getD i 0) t)
 | _,_,.nil,i,h=>by simp at h
 | _,_,.cons n t hr,0,h=>⟨t,rfl⟩
 | _,_,.cons n t hr,i+1,h=>by
  obtain⟨u,e⟩:=intsAre_get hr i (by simpa using h);exact⟨u,by simpa using e⟩
theorem lexLt_drop{ns ms:List Int}{i:Nat}(h1:i<ns.length)(h2:i<ms.length):
  SN.lexLt (ns.drop i) (ms.drop i)=if ns.getD i 0=ms.getD i 0 then SN.lexLt (ns.drop (i+1)) (ms.drop (i+1)) else decide (ns.getD i 0<ms.getD i 0):=by
 rw[List.drop_eq_getElem_cons h1,List.drop_eq_getElem_cons h2];simp only[SN.lexLt];have e1:ns.getD i 0=ns[i]:=by simp[gDe,h1]
 have e2:ms.getD i 0=ms[i]:=by simp[gDe,h2]
 rw[e1,e2]
theorem lexLt_end{ns ms:List Int}{i:Nat}(h:i<=ns.length/\i<=ms.length)(h1:ns.length<=i\/ms.length<=i):
  SN.lexLt (ns.drop i) (ms.drop i)=decide (ns.length<ms.length):=by
 by_cases c:ns.length<=i
 ·rw[List.drop_of_length_le c];by_cases c2:ms.length<=i
  ·rw[List.drop_of_length_le c2];simp only[SN.lexLt];exact(decide_eq_false (by omega)).symm
  ·rw[List.drop_eq_getElem_cons (by omega)];simp only[SN.lexLt];exact(decide_eq_true (by omega)).symm
 ·rw[List.drop_of_length_le (l:=ms) (by omega),List.drop_eq_getElem_cons (by omega)];simp only[SN.lexLt];exact(decide_eq_false (by omega)).symm
theorem lt_loop(l b:Addr)(items items2:Array Value)(n n2:Nat)(dd dd2:Option Addr)(sl sl2:Array (Option Value))(ns ms:List Int)(hi:IntsAre items.toList ns)(hj:IntsAre items2.toList ms)(k:Nat):
  ∀ i:Nat,items.size-i=k->i<=items.size->i<=items2.size->Meets (Builtin.«list.__eq__.loop» ⟨[.ref l,.ref b,rawInt i,rawInt 0],[]⟩)
   (fun A R s=>s.heap.get? l=some {cls:=.type "list",dict:=dd,data:=.seq items n,slots:=sl}/\s.heap.get? b=some {cls:=.type "list",dict:=dd2,data:=.seq items2 n2,slots:=sl2}/\
    R (.ok (.ret (.bool (SN.lexLt (ns.drop i) (ms.drop i))))) s):=by
 have z1:items.size=ns.length:=by rw[<-hi.length];simp
 have z2:items2.size=ms.length:=by rw[<-hj.length];simp
 induction k with
 | zero=>
  intro i hk hle hle2 prog w A R s h;obtain⟨hp,g,d,tk,os⟩:=s;obtain⟨hl,hb,h⟩:=h
  wp_walk using wpAny_loadPart' hl,wpAny_loadPart' hb
  have hi1:items[((i:Nat):Int).toNat]?=none:=by simp;omega
  rw[lexLt_end (by omega) (by omega)] at h;rw[hi1]
  wp_walk using wpAny_loadPart' hl,wpAny_loadPart' hb
  show R (.ok (.ret (.bool (decide (items.size<items2.size))))) _;rw[z1,z2];exact h
 | succ k ih=>
  intro i hk hle hle2 prog w A R s h;obtain⟨hp,g,d,tk,os⟩:=s;obtain⟨hl,hb,h⟩:=h
  wp_walk using wpAny_loadPart' hl,wpAny_loadPart' hb
  have hlt:i<items.size:=by omega
  have hi1:items[((i:Nat):Int).toNat]?=some items[i]:=by simp[hlt]
  by_cases hlt2:i<items2.size
  ·have hi2:items2[((i:Nat):Int).toNat]?=some items2[i]:=by simp[hlt2]
   have hc:((i:Int)+1)=((i+1:Nat):Int):=by push_cast;rfl
   rw[lexLt_drop (by omega) (by omega)] at h;obtain⟨t,et⟩:=intsAre_get hi i (by simpa using hlt);obtain⟨u,eu⟩:=intsAre_get hj i (by simpa using hlt2);have et':items[i]=.int (ns.getD i 0) t:=by
    have:items.toList[i]?=some items[i]:=by simp[hlt]
    rw[this] at et;exact Option.some.inj et
   have eu':items2[i]=.int (ms.getD i 0) u:=by
    have:items2.toList[i]?=some items2[i]:=by simp[hlt2]
    rw[this] at eu;exact Option.some.inj eu
   rw[hi1,hi2,et',eu'];obtain⟨e,he,hiff⟩:=HT.eqAt_int A.in1 ⟨hp,g,d,tk,os⟩ (ns.getD i 0) t (ms.getD i 0) u;refine wpAny_bind (he prog w _ _ ?_);cases e with
   | true=>
    rw[if_pos (hiff.mp rfl)] at h
    wp_walk
    rw[hc];exact⟨plainId_quiet plain_eq_loop _,codeAny_builtin entry_eq_loop (by
     rw[Around.under_plainId plain_eq_loop _];exact ih (i+1) (by omega) (by omega) (by omega) prog w A R _ ⟨hl,hb,h⟩)⟩
   | false=>
    rw[if_neg (fun q=>absurd (hiff.mpr q) Bool.false_ne_true)] at h
    wp_walk using wpAny_loadPart' hl,wpAny_loadPart' hb
    rw[hi1,hi2,et',eu'];have hri:=HT.rcLt_int A.in1 ⟨hp,g,d,tk,os⟩ (ns.getD i 0) t (ms.getD i 0) u prog w
    wp_walk using hri
    exact h
  ·have hi2:items2[((i:Nat):Int).toNat]?=none:=by simp;omega
   rw[lexLt_end (by omega) (by omega)] at h;rw[hi1,hi2]
   wp_walk using wpAny_loadPart' hl,wpAny_loadPart' hb
   show R (.ok (.ret (.bool (decide (items.size<items2.size))))) _;rw[z1,z2];exact h
theorem list_lt_ints(l b:Addr)(items items2:Array Value)(n n2:Nat)(dd dd2:Option Addr)(sl sl2:Array (Option Value))(ns ms:List Int)(hi:IntsAre items.toList ns)(hj:IntsAre items2.toList ms):
  Meets (Builtin.«list.__lt__» ⟨[.ref l,.ref b],[]⟩)
   (fun A R s=>s.heap.get? l=some {cls:=.type "list",dict:=dd,data:=.seq items n,slots:=sl}/\s.heap.get? b=some {cls:=.type "list",dict:=dd2,data:=.seq items2 n2,slots:=sl2}/\
    R (.ok (.ret (.bool (SN.lexLt ns ms)))) s):=by
 intro prog w A R s h;obtain⟨hp,g,d,tk,os⟩:=s;obtain⟨hl,hb,h⟩:=h;have f3:=AutoSeq1.sub_list_list
 wp_walk using wpAny_loadPart' hl,wpAny_loadPart' hb
 exact⟨plainId_quiet plain_eq_loop _,codeAny_builtin entry_eq_loop (by
  rw[Around.under_plainId plain_eq_loop _];exact lt_loop l b items items2 n n2 dd dd2 sl sl2 ns ms hi hj _ 0 rfl (by omega) (by omega) prog w A R _ ⟨hl,hb,by simpa using h⟩)⟩
theorem lt_listInts{prog:Program}{w:World}{A:Around}{E:Value->Shared->Prop}{s:Shared}{l b:Addr}{items items2:Array Value}{ns ms:List Int}{Q:Value->Shared->Prop}{n n2:Nat}{dd dd2:Option Addr}{sl sl2:Array (Option Value)}(ho:s.heap.get? l=some {cls:=.type "list",dict:=dd,data:=.seq items n,slots:=sl})(ho2:s.heap.get? b=some {cls:=.type "list",dict:=dd2,data:=.seq items2 n2,slots:=sl2})(hi:IntsAre items.toList ns)(hj:IntsAre items2.toList ms)(hu:A.units<cLine)(h:Q (.bool (SN.lexLt ns ms)) s):wpAny (model prog w) A (compareOp .Lt (.ref l) (.ref b)) Q E s:=
 richCompare_meets_room (op:=.Lt) ⟨_,ho,rfl⟩ ⟨_,ho2,rfl⟩ PySem.F.slot_list_lt PySem.F.entry_list_lt (PySem.F.args_list_lt_2 _ _) (list_lt_ints l b items items2 n n2 dd dd2 sl sl2 ns ms hi hj)
  ⟨ho,ho2,show Value.bool (SN.lexLt ns ms)≠Value.notImplemented/\Q (.bool (SN.lexLt ns ms)) s from⟨(fun x=>nomatch x),h⟩⟩ hu
end
def rLtL:R2:=fun x y H Q=>∃ a b ns ms,x=.ref a/\y=.ref b/\IntsAt H a ns/\IntsAt H b ms/\Q (.bl (SN.lexLt ns ms)) H
theorem op_ltL{X:Cx}(hu:X.A.units<cLine):OpR X (compareOp .Lt) rLtL:=by
 intro pins s σ H x y v u Q I rx ry h;obtain⟨a,b,ns,ms,rfl,rfl,ha,hb,q⟩:=h;cases rx;cases ry;obtain⟨_,its,n,r1,e1⟩:=I.hok a _ ha;obtain⟨_,its2,n2,r2,e2⟩:=I.hok b _ hb;have i1:IntsAre its.toArray.toList ns:=intsAre_of r1;have i2:IntsAre its2.toArray.toList ms:=intsAre_of r2;exact lt_listInts e1 e2 i1 i2 hu ⟨.bl (SN.lexLt ns ms),H,I,rfl,q⟩
end My
end
section
set_option maxRecDepth 100000
set_option maxHeartbeats 2000000
namespace My
open PySem PySem.Spec PyProof.Rows L2
theorem coll_vals{J:It}{n:Nat}{g:TG}{te:TE}{vs:List Nat}{σ:L2.St}{H1:Hp}{D:Addr}{Qd:Hp->Prop}(Xr:Nat->V->Hp->Prop)(ys:List V)(hgo:∀ i H',i<n->Same H1 H'->J.go i H')(hstop:∀ H',Same H1 H'->J.stop n H')(hyld:∀ i x H' H2,i<n->Same H1 H'->J.yld i H' x H2->Same H' H2/\Xr i x H2)(hlen:ys.length=n)(hz:n<=1000)(hD:H1 D=none)(hs:∀ i x y H' (R:VK),i<n->ys[i]?=some y->Same H1 H'->Xr i x H'->(∀ H4,Same H' H4->R y H4)->g x (wipe σ vs) H' fun σ2 H2=>wipe σ2 vs=wipe σ vs/\te σ2 H2 R)(hd:∀ H',Same H1 H'->H' D=some (.lst ys)->Qd H'):
  ∃ W:Nat->Nat->Hp->Prop,(∃ m,W 0 m (upd H1 D (.lst [])))/\∀ i m H,W i m H->
   (J.stop i H/\Qd H)\/(J.go i H/\∃ Nx:Hp->Prop,(∀ H',Nx H'->∃ m',m'<m/\W (i+1) m' H')/\∀ x H',J.yld i H x H'->g x (wipe σ vs) H' fun σ2 H2=>wipe σ2 vs=wipe σ vs/\tYes σ2 H2 fun b H3=>
    if b=true then te σ2 H3 fun y H4=>∃ acc,H4 D=some (.lst acc)/\acc.length<sizeLine/\Nx (upd H4 D (.lst (acc++[y]))) else Nx H3):=by
 refine⟨fun i m H=>m=n-i/\i<=n/\Same H1 H/\H D=some (.lst (ys.take i)),⟨n,by simp,Nat.zero_le _,Same.new hD,upd_same⟩,?_⟩;rintro i m H ⟨rfl,hi,sm,hDi⟩;by_cases hlt:i<n
 ·refine .inr ⟨hgo i H hlt sm,fun H=>Same H1 H/\H D=some (.lst (ys.take (i+1))),fun H' p'=>⟨n-(i+1),by omega,rfl,hlt,p'⟩,fun x H' hy=>?_⟩;obtain⟨s2,xr⟩:=hyld i x H H' hlt sm hy;have hyi:ys[i]?=some (ys[i]'(by omega)):=gEe (by omega);have:=hs i x (ys[i]'(by omega)) H' (fun y H4=>∃ acc,H4 D=some (.lst acc)/\acc.length<sizeLine/\(Same H1 (upd H4 D (.lst (acc++[y])))/\upd H4 D (.lst (acc++[y])) D=some (.lst (ys.take (i+1))))) hlt hyi (sm.trans s2) xr (fun H4 s4=>by
   refine⟨_,s4 _ _ (s2 _ _ hDi),?_,?_,?_⟩
   ·rw[List.length_take];exact small1000 (by omega)
   ·intro b o e;rw[upd_ne (ne_of_none e hD)];exact s4 _ _ (s2 _ _ (sm _ _ e))
   ·rw[upd_same,List.take_succ_eq_append_getElem (by omega)])
  simpa only [tYes,if_true] using this
 ·have e:i=n:=by omega
  subst e;refine .inl ⟨hstop H sm,hd H sm ?_⟩;rw[hDi,List.take_of_length_le (by omega)]
theorem coll_rows{J:It}{n:Nat}{g:TG}{te:TE}{vs:List Nat}{σ:L2.St}{H1:Hp}{D:Addr}{Qd:Hp->Prop}(Xr:Nat->V->Hp->Prop)(rs:List (List Int))(hgo:∀ i H',i<n->Same H1 H'->J.go i H')(hstop:∀ H',Same H1 H'->J.stop n H')(hyld:∀ i x H' H2,i<n->Same H1 H'->J.yld i H' x H2->Same H' H2/\Xr i x H2)(hlen:rs.length=n)(hz:n<=1000)(hD:H1 D=none)(hs:∀ i x H' (R:VK),i<n->Same H1 H'->Xr i x H'->(∀ H4 p,Same H' H4->H' p=none->IntsAt H4 p (rs.getD i [])->R (.ref p) H4)->g x (wipe σ vs) H' fun σ2 H2=>wipe σ2 vs=wipe σ vs/\te σ2 H2 R)(hd:∀ H' as,Same H1 H'->RowsAs H' D as rs->(∀ b,b∈as->H1 b=none)->Qd H'):
  ∃ W:Nat->Nat->Hp->Prop,(∃ m,W 0 m (upd H1 D (.lst [])))/\∀ i m H,W i m H->
   (J.stop i H/\Qd H)\/(J.go i H/\∃ Nx:Hp->Prop,(∀ H',Nx H'->∃ m',m'<m/\W (i+1) m' H')/\∀ x H',J.yld i H x H'->g x (wipe σ vs) H' fun σ2 H2=>wipe σ2 vs=wipe σ vs/\tYes σ2 H2 fun b H3=>
    if b=true then te σ2 H3 fun y H4=>∃ acc,H4 D=some (.lst acc)/\acc.length<sizeLine/\Nx (upd H4 D (.lst (acc++[y]))) else Nx H3):=by
 have nilR:RowsAs (upd H1 D (.lst [])) D [] (rs.take 0):=⟨upd_same,by simp,fun i b e=>by simp at e⟩;refine⟨fun i m H=>m=n-i/\i<=n/\Same H1 H/\∃ as,RowsAs H D as (rs.take i)/\∀ b,b∈as->H1 b=none,⟨n,by simp,Nat.zero_le _,Same.new hD,[],nilR,fun b hb=>by cases hb⟩,?_⟩;rintro i m H ⟨rfl,hi,sm,as,hR,hfr⟩;by_cases hlt:i<n
 ·refine .inr ⟨hgo i H hlt sm,fun H=>Same H1 H/\∃ as,RowsAs H D as (rs.take (i+1))/\∀ b,b∈as->H1 b=none,fun H' p'=>⟨n-(i+1),by omega,rfl,hlt,p'⟩,fun x H' hy=>?_⟩;obtain⟨s2,xr⟩:=hyld i x H H' hlt sm hy;have:=hs i x H' (fun y H4=>∃ acc,H4 D=some (.lst acc)/\acc.length<sizeLine/\(Same H1 (upd H4 D (.lst (acc++[y])))/\∃ as,RowsAs (upd H4 D (.lst (acc++[y]))) D as (rs.take (i+1))/\∀ b,b∈as->H1 b=none)) hlt (sm.trans s2) xr (fun H4 p s4 np hp=>by
   have hR4:=(hR.same s2).same s4;have hpD:p≠D:=fun e=>by rw[e] at np;rw[(hR.same s2).lst] at np;cases np
   have las:as.length=i:=by rw[hR.len,List.length_take];omega
   refine⟨_,hR4.lst,?_,?_,as++[p],⟨?_,?_,?_⟩,fun b hb=>(List.mem_append.mp hb).elim (hfr b) fun z=>by
    have:b=p:=by simpa using z
    rw[this];exact(sm.trans s2).free np⟩
   ·rw[lmp,las];exact small1000 (by omega)
   ·intro b o e;rw[upd_ne (ne_of_none e hD)];exact s4 _ _ (s2 _ _ (sm _ _ e))
   ·rw[upd_same,List.map_append];rfl
   ·rw[List.length_append,las,List.length_take];simp;omega
   ·intro j b e;have hj:j<i+1:=by have:=(List.getElem?_eq_some_iff.mp e).1;simp[las] at this;omega
    have eg:(rs.take (i+1)).getD j []=rs.getD j []:=by
     rw[gDe,List.getElem?_take_of_lt hj,gDe]
    rw[eg];unfold IntsAt;by_cases c:j<i
    ·rw[List.getElem?_append_left (by omega)] at e;have hb:=hR.at_ j b e;have eg2:(rs.take i).getD j []=rs.getD j []:=by
      rw[gDe,List.getElem?_take_of_lt c,gDe]
     rw[eg2] at hb;have hbD:b≠D:=by
      intro eb;subst eb;have h1:=hR.lst;unfold IntsAt at hb;rw[h1] at hb;have h2:=Option.some.inj hb;injection h2 with h3;cases has:as with
      | nil=>rw[has] at las;simp at las;omega
      | cons z r=>
       rw[has] at h3;cases hrow:rs.getD j [] with
       | nil=>rw[hrow] at h3;simp at h3
       | cons y r2=>rw[hrow] at h3;simp at h3
     rw[upd_ne hbD];exact s4 _ _ (s2 _ _ hb)
    ·have:j=i:=by omega
     subst this;rw[List.getElem?_append_right (by omega),las,Nat.sub_self] at e;have:p=b:=by simpa using e
     subst this;rw[upd_ne hpD];exact hp)
  simpa only [tYes,if_true] using this
 ·have e:i=n:=by omega
  subst e;rw[List.take_of_length_le (by omega)] at hR;exact .inl ⟨hstop H sm,hd H as sm hR hfr⟩
section
variable{K:PySem.W.Frag}{H1:Hp}
theorem itl_go{a:Addr}{xs:List V}(h:SqL K H1 a xs):∀ i H',i<xs.length->Same H1 H'->(Itl K a).go i H':=
 fun i H' hi s=>⟨xs,_,s.seq h,gEe hi⟩
theorem itl_stop{a:Addr}{xs:List V}(h:SqL K H1 a xs):∀ H',Same H1 H'->(Itl K a).stop xs.length H':=fun H' s=>⟨xs,s.seq h,Nat.le_refl _⟩
theorem itl_yld{a:Addr}{xs:List V}(h:SqL K H1 a xs):∀ i x H' H2,i<xs.length->Same H1 H'->(Itl K a).yld i H' x H2->Same H' H2/\xs[i]?=some x:=by
 rintro i x H' H2 hi s ⟨rfl,y⟩;exact⟨Same.refl _,y xs (s.seq h)⟩
theorem itr_go{lo:Int}{n:Nat}:∀ i H',i<n->Same H1 H'->(Itr lo n).go i H':=fun i H' hi _=>hi
theorem itr_stop{lo:Int}{n:Nat}:∀ H',Same H1 H'->(Itr lo n).stop n H':=fun _ _=>Nat.le_refl _
theorem itr_yld{lo:Int}{n:Nat}:∀ i x H' H2,i<n->Same H1 H'->(Itr lo n).yld i H' x H2->Same H' H2/\x=.int (lo+i):=by
 rintro i x H' H2 hi s ⟨rfl,rfl⟩;exact⟨Same.refl _,rfl⟩
theorem itz_go{a b:Addr}{xs ys:List V}(h:SqL K H1 a xs)(h2:SqL K H1 b ys)(hl:xs.length=ys.length):∀ i H',i<xs.length->Same H1 H'->(Itz K a b).go i H':=
 fun i H' hi s=>⟨xs,ys,_,_,s.seq h,s.seq h2,gEe hi,gEe (by omega)⟩
theorem itz_stop{a b:Addr}{xs ys:List V}(h:SqL K H1 a xs)(h2:SqL K H1 b ys):∀ H',Same H1 H'->(Itz K a b).stop xs.length H':=
 fun H' s=>⟨xs,ys,s.seq h,s.seq h2,.inl (Nat.le_refl _)⟩
theorem itz_yld{a b:Addr}{xs ys:List V}(h:SqL K H1 a xs)(h2:SqL K H1 b ys):∀ i x H' H2,i<xs.length->Same H1 H'->(Itz K a b).yld i H' x H2->
  Same H' H2/\∃ T u v,x=V.ref T/\H2 T=some (.tup [u,v])/\xs[i]?=some u/\ys[i]?=some v:=by
 rintro i x H' H2 hi s ⟨T,u,v,rfl,hT,rfl,y1,y2⟩;exact⟨Same.new hT,T,u,v,rfl,upd_same,y1 xs (s.seq h),y2 ys (s.seq h2)⟩
theorem ite_go{a:Addr}{xs:List V}(h:SqL K H1 a xs):∀ i H',i<xs.length->Same H1 H'->(Ite K a).go i H':=
 fun i H' hi s=>⟨xs,_,s.seq h,gEe hi⟩
theorem ite_stop{a:Addr}{xs:List V}(h:SqL K H1 a xs):∀ H',Same H1 H'->(Ite K a).stop xs.length H':=fun H' s=>⟨xs,s.seq h,Nat.le_refl _⟩
theorem ite_yld{a:Addr}{xs:List V}(h:SqL K H1 a xs):∀ i x H' H2,i<xs.length->Same H1 H'->(Ite K a).yld i H' x H2->
  Same H' H2/\∃ T u,x=V.ref T/\H2 T=some (.tup [.int (i:Nat),u])/\xs[i]?=some u:=by
 rintro i x H' H2 hi s ⟨T,u,rfl,hT,rfl,y1⟩;exact⟨Same.new hT,T,u,rfl,upd_same,y1 xs (s.seq h)⟩
end
theorem for_it{J:It}{n:Nat}{g:TG}{tb:TS}{D:Ends}{σ:L2.St}{H:Hp}(Pv:Nat->L2.St->Hp->Prop)(h0:Pv 0 σ H)(hgo:∀ i σ H,i<n->Pv i σ H->J.go i H)(hstop:∀ σ H,Pv n σ H->J.stop n H)(hs:∀ i x σ H H',i<n->Pv i σ H->J.yld i H x H'->g x σ H' fun σ2 H2=>tb {D with nx:=Pv (i+1),ct:=Pv (i+1),bk:=D.nx} σ2 H2)(hd:∀ σ H,Pv n σ H->D.nx σ H):
  ∃ W:Nat->Nat->L2.St->Hp->Prop,(∃ m,W 0 m σ H)/\∀ i m σ H,W i m σ H->
   (J.stop i H/\D.nx σ H)\/(J.go i H/\∃ N:L2.St->Hp->Prop,(∀ σ' H',N σ' H'->∃ m',m'<m/\W (i+1) m' σ' H')/\∀ x H',J.yld i H x H'->g x σ H' fun σ2 H2=>tb {D with nx:=N,ct:=N,bk:=D.nx} σ2 H2):=by
 refine⟨fun i m σ H=>m=n-i/\i<=n/\Pv i σ H,⟨n,by simp,Nat.zero_le _,h0⟩,?_⟩;rintro i m σ H ⟨rfl,hi,p⟩;by_cases hlt:i<n
 ·exact .inr ⟨hgo i σ H hlt p,Pv (i+1),fun σ' H' p'=>⟨n-(i+1),by omega,rfl,hlt,p'⟩,fun x H' y=>hs i x σ H H' hlt p y⟩
 ·have e:i=n:=by omega
  subst e;exact .inl ⟨hstop σ H p,hd σ H p⟩
end My
end
section
set_option maxRecDepth 100000
set_option maxHeartbeats 2000000
namespace My
open PySem PySem.Spec PyProof.Rows L2
structure Blt(mg:Str->Option Value):Prop where
 len:mg "len"=none
 range:mg "range"=none
 enum:mg "enumerate"=none
 zip:mg "zip"=none
 all:mg "all"=none
 set:mg "set"=none
 sum:mg "sum"=none
 min:mg "min"=none
 max:mg "max"=none
 list:mg "list"=none
def Sm(x:Int):Prop:=-(2^64)<x/\x<2^64
theorem ints_at{ns:List Int}{i:Nat}(h:i<ns.length):atI (ns.map V.int) (i:Int)=some (V.int (ns.getD i 0)):=by
 refine atI_nat ?_;rw[List.getElem?_map,gEe h,gDe,gEe h];rfl
theorem ints_get{ns:List Int}{i:Nat}{x:V}(h:(ns.map V.int)[i]?=some x):x=V.int (ns.getD i 0)/\i<ns.length:=by
 rw[List.getElem?_map] at h;cases e:ns[i]? with
 | none=>rw[e] at h;cases h
 | some z=>
  rw[e] at h;refine⟨?_,(List.getElem?_eq_some_iff.mp e).1⟩;rw[gDe,e];exact(Option.some.inj h).symm
abbrev sCleared:Stmt:=top 12
def spCleared:Sp:=fun vs H Q _=>∃ (a b:Addr) (row prow:List Int) (c:Nat) (below:Int),vs=[.ref a,.ref b,.int c,.int below]/\IntsAt H a row/\IntsAt H b prow/\
 row.length=prow.length/\c<row.length/\row.length<=1000/\0<below/\below<1073741824/\Sm (prow.getD c 0)/\Sm (row.getD c 0)/\
 ∀ (H':Hp) (p:Addr),Same H H'->H p=none->IntsAt H' p (SN.cleared row prow c below)->Q (.ref p) H'
section
variable{P:Program}{w:World}{K:PySem.W.Frag}{mg:Str->Option Value}{base:Heap}
theorem scCleared:FnScope ["row","pivot_row","column","below","pivot","factor","mine","its"] ["row","pivot_row","column","below"] (defScope sCleared):=
 ⟨rfl,rfl,rfl,by decide +kernel,rfl,by decide +kernel,by decide +kernel⟩
theorem ok_cleared{f:Addr}{fd:FuncData}(F:Fun K "cleared" "cleared" sCleared f fd)(B:Blt mg):FnOk P w K mg base CX0 1 f fd ["row","pivot_row","column","below"] spCleared:=by
 refine F.ok scCleared (fun vs H Q E h=>?_) (fun cdv A outer s H vs Q E hr h=>?_)
 ·obtain⟨a,b,row,prow,c,below,rfl,_⟩:=h;rfl
 ·obtain⟨a,b,row,prow,c,below,rfl,ha,hb,hl,hc,hz,h0,h1,hp,hf,k⟩:=h;refine⟨_,pss_cons (ps_set (i:=4) scCleared.nd rfl (.inr rfl) (pe_ix ix_list (pv 1) (pv 2) (fun _ _=>rfl)))
   (pss_cons (ps_set (i:=5) scCleared.nd rfl (.inr rfl) (pe_ix ix_list (pv 0) (pv 2) (fun _ _=>rfl)))
   (pss_one (ps_ret (pe_lc (g:=gTup K 2 (gCons (gName 6) (gCons (gName 7) gNil))) rfl scCleared.nd (pi_zip rfl B.zip (pa_cons (pv 0) (pa_cons (pv 1) pa_nil))) (blkOk_by (own:=[("mine",6),("its",7)]) (by rfl))
    (fun _ _ _ _ _=>pg_tup rfl (pgs_cons (pg_name (i:=6) scCleared.nd rfl (.inl rfl)) (pgs_cons (pg_name (i:=7) scCleared.nd rfl (.inl rfl)) pgs_nil)))
    (fun _ _ _ _ _=>pts_nil) (fun _ _ _ _ _=>pe_op op_fdivN (pe_op op_sub (pe_op op_mul (pv 6) (pv 4)) (pe_op op_mul (pv 5) (pv 7))) (pv 3)))))),?_⟩
  refine⟨_,rfl,_,rfl,b,_,_,_,rfl,rfl,SqL.of hb,ints_at (by omega),?_⟩;refine⟨_,rfl,_,rfl,a,_,_,_,rfl,rfl,SqL.of ha,ints_at hc,?_⟩;refine⟨_,rfl,_,rfl,a,b,_,_,rfl,SqL.of ha,SqL.of hb,fun D hD=>?_⟩;refine coll_vals (n:=(row.map V.int).length) (fun i x H2=>∃ T u v,x=V.ref T/\H2 T=some (.tup [u,v])/\(row.map V.int)[i]?=some u/\(prow.map V.int)[i]?=some v)
   ((SN.cleared row prow c below).map V.int) (itz_go (SqL.of ha) (SqL.of hb) (by simp[hl])) (itz_stop (SqL.of ha) (SqL.of hb)) (itz_yld (SqL.of ha) (SqL.of hb))
   (by simp[SN.cleared,hl]) (by simpa using hz) hD ?_ (fun H' sm hq=>k H' D sm hD hq)
  rintro i x y H' R hi hy sm ⟨T,u,v,rfl,hT,hu,hv⟩ hR;obtain⟨rfl,hi1⟩:=ints_get hu;obtain⟨rfl,hi2⟩:=ints_get hv;obtain⟨rfl,hi3⟩:=ints_get hy;refine⟨T,_,rfl,SqT.of hT,rfl,_,_,rfl,_,_,rfl,rfl,rfl,?_⟩;refine⟨_,rfl,_,rfl,_,_,rfl,rfl,.inr hp,_,rfl,_,rfl,_,_,rfl,rfl,.inl hf,_,_,rfl,rfl,_,rfl,_,_,rfl,rfl,⟨by omega,by omega⟩,?_⟩;rw[SN.cleared_get hl rfl (by omega)] at hR;exact hR H' (Same.refl _)
end
end My
end
section
set_option maxRecDepth 100000
set_option maxHeartbeats 2000000
namespace My
open PySem PySem.Spec PyProof.Rows L2
structure Cal(P:Program)(w:World)(K:PySem.W.Frag)(mg:Str->Option Value)(base:Heap)(k:Nat)(x:Str)(ps:List Str)(sp:Sp)(f:Addr)(fd:FuncData):Prop where
 ok:FnOk P w K mg base CX0 k f fd ps sp
 mg:mg x=some (.ref f)
 kp:PySem.W.keepIn K (.ref f)=true
 b:Binds K fd ps []
theorem RowsAs.ne{H:Hp}{a:Addr}{as:List Addr}{rs:List (List Int)}(h:RowsAs H a as rs){i:Nat}{b:Addr}(e:as[i]?=some b):b≠a:=by
 intro eb;subst eb;have h1:=h.lst;have hb:=h.at_ i b e;unfold IntsAt at hb;rw[h1] at hb;have h2:=Option.some.inj hb;injection h2 with h3;cases has:as with
 | nil=>rw[has] at e;simp at e
 | cons z r=>
  rw[has] at h3;cases hrow:rs.getD i [] with
  | nil=>rw[hrow] at h3;simp at h3
  | cons y r2=>rw[hrow] at h3;simp at h3
theorem RowsAs.push{H:Hp}{a b:Addr}{as:List Addr}{rs:List (List Int)}{r:List Int}(h:RowsAs H a as rs)(hb:IntsAt H b r)(hba:b≠a):
  RowsAs (upd H a (.lst (as.map V.ref++[V.ref b]))) a (as++[b]) (rs++[r]):=by
 refine⟨by rw[upd_same,List.map_append];rfl,by simp[h.len],fun i c e=>?_⟩;unfold IntsAt;by_cases ci:i<as.length
 ·rw[List.getElem?_append_left ci] at e;rw[upd_ne (h.ne e)];have:=h.at_ i c e;rw[gDe,List.getElem?_append_left (by rw[<-h.len];exact ci),<-gDe];exact this
 ·have hlt:=(List.getElem?_eq_some_iff.mp e).1;have:i=as.length:=by simp at hlt;omega
  subst this;rw[List.getElem?_append_right (Nat.le_refl _),Nat.sub_self] at e;have:b=c:=by simpa using e
  subst this;rw[upd_ne hba,gDe,List.getElem?_append_right (by rw[h.len];exact Nat.le_refl _),h.len,Nat.sub_self];exact hb
theorem rep_ints(k:Int)(x:Int):(List.replicate k.toNat [V.int x]).flatten=(List.replicate k.toNat x).map V.int:=by
 generalize k.toNat=n;induction n with
 | zero=>rfl
 | succ n ih=>rw[List.replicate_succ,List.flatten_cons,ih,List.replicate_succ,List.map_cons];rfl
abbrev sGoalRows:Stmt:=top 4
def spGoalRows:Sp:=fun vs H Q _=>∃ (a:Addr) (fares:List Int) (wd:Nat),vs=[.ref a,.int wd]/\IntsAt H a fares/\fares.length<=wd/\wd<=900/\
 ∀ (H':Hp) (p:Addr),Same H H'->H p=none->RowsAt H' p (SN.goalRows fares wd)->Q (.ref p) H'
section
variable{P:Program}{w:World}{K:PySem.W.Frag}{mg:Str->Option Value}{base:Heap}
theorem scGoalRows:FnScope ["fares","width","rows","journey","fare"] ["fares","width"] (defScope sGoalRows):=
 ⟨rfl,rfl,rfl,by decide +kernel,rfl,by decide +kernel,by decide +kernel⟩
theorem ok_goal_rows{f fS:Addr}{fd fdS:FuncData}(F:Fun K "goal_rows" "goal_rows" sGoalRows f fd)(B:Blt mg)(CS:Cal P w K mg base 1 "single" ["width","place","number"] spSingle fS fdS):FnOk P w K mg base CX0 2 f fd ["fares","width"] spGoalRows:=by
 refine F.ok scGoalRows (fun vs H Q E h=>?_) (fun cdv A outer s H vs Q E hr h=>?_)
 ·obtain⟨a,fares,wd,rfl,_⟩:=h;rfl
 ·obtain⟨a,fares,wd,rfl,ha,hl,hz,k⟩:=h;refine⟨_,pss_cons (ps_set (i:=2) scGoalRows.nd rfl (.inl rfl) (pe_lst (pa_cons (pe_op op_cat
    (pe_lc rfl scGoalRows.nd (pi_list (pv 0)) (blkOk_by (own:=[("fare",4)]) (by rfl)) (fun _ _ _ _ _=>pg_name (i:=4) scGoalRows.nd rfl (.inl rfl)) (fun _ _ _ _ _=>pts_nil) (fun _ _ _ _ _=>pe_un un_neg (pv 4)))
    (pe_op op_rep (pe_lst (pa_cons pe_int pa_nil)) (pe_op op_sub (pv 1) (pe_callB call_len_seq (by rfl) B.len PySem.boot_len (pa_cons (pv 0) pa_nil))))) pa_nil)))
   (pss_cons (ps_for PassesOwn.never rfl (pi_range1 rfl B.range (pa_cons (pe_callB call_len_seq (by rfl) B.len PySem.boot_len (pa_cons (pv 0) pa_nil)) pa_nil)) (pg_name (i:=3) scGoalRows.nd rfl (.inl rfl))
    (pss_one (ps_expr (pe_bm PySem.F.plainAttrs_list PySem.F.slot_list_append PySem.F.type_list_append mt_append (pv 2)
     (pa_cons (pe_call CS.ok hr rfl CS.mg CS.kp CS.b .nil pass0 (pa_cons (pv 1) (pa_cons (pv 3) (pa_cons (pe_un un_neg pe_int) pa_nil)))) pa_nil)))))
   (pss_one (ps_ret (pv 2)))),?_⟩
  refine⟨_,rfl,a,rfl,⟨_,SqL.of ha⟩,fun D hD=>?_⟩;refine coll_vals (n:=(fares.map V.int).length) (fun i x H2=>(fares.map V.int)[i]?=some x) ((fares.map fun z=>-z).map V.int) (itl_go (SqL.of ha)) (itl_stop (SqL.of ha)) (itl_yld (SqL.of ha))
   (by simp) (by simp;omega) hD ?_ (fun H1 s1 hq1=>?_)
  ·intro i x y H' R hi hy sm hx hR;obtain⟨rfl,hi1⟩:=ints_get hx;obtain⟨rfl,hi2⟩:=ints_get hy;refine⟨rfl,_,rfl,_,rfl,?_⟩;have:=hR H' (Same.refl _);rw[SN.getD_map_lt _ _ _ 0 _ hi1] at this;exact this
  ·refine⟨(by show 1<=sizeLine;decide),fun l hl1=>?_⟩;have s2:Same H1 (upd H1 l (.lst [V.int 0])):=Same.new hl1;refine⟨_,rfl,_,rfl,a,_,rfl,.inl (SqL.of (s2 _ _ (s1 _ _ ha))),_,_,rfl,rfl,l,_,_,rfl,rfl,upd_same,?_,?_,?_,fun r hr1=>?_⟩
   ·rw[lmp];omega
   ·rw[lmp];omega
   ·show 1*((wd:Int)-((fares.map V.int).length:Int)).toNat<=sizeLine;rw[lmp];have:=small1000 (n:=((wd:Int)-(fares.length:Int)).toNat) (by omega);omega
   have s3:Same (upd H1 l (.lst [V.int 0])) _:=Same.new (o:=.lst (List.replicate ((wd:Int)-((fares.map V.int).length:Int)).toNat [V.int 0]).flatten) hr1;refine⟨D,r,_,_,rfl,rfl,s3 _ _ (s2 _ _ hq1),upd_same,?_,fun q hq=>?_⟩
   ·rw[len_rep,lmp,lmp,lmp];show fares.length+((wd:Int)-(fares.length:Int)).toNat*1<=sizeLine;have:=small1000 (n:=fares.length+((wd:Int)-(fares.length:Int)).toNat) (by omega);omega
   refine⟨(by show 1<=sizeLine;decide),fun p hp=>?_⟩;rw[rep_ints] at hp hq ⊢;rw[<-List.map_append] at hp ⊢;have e1:((wd:Int)-((fares.map V.int).length:Int)).toNat=wd-fares.length:=by rw[lmp];omega
   rw[e1] at hp hq s3 ⊢;generalize hH3:upd (upd H1 l (HO.lst [V.int 0])) r (HO.lst ((List.replicate (wd-fares.length) 0).map V.int))=H3 at hp hq ⊢;have s13:Same H H3:=by
    rw[<-hH3];refine s1.trans (s2.trans ?_);exact Same.new hr1
   have s4:Same H3 (upd H3 q (HO.lst ((fares.map (fun z=>-z)++List.replicate (wd-fares.length) 0).map V.int))):=Same.new hq;have s5:=Same.new (o:=HO.lst [V.ref q]) hp;have hqp:q≠p:=ne_of_none (upd_same) hp;have R0:RowsAs (upd (upd H3 q (HO.lst ((fares.map (fun z=>-z)++List.replicate (wd-fares.length) 0).map V.int))) p (HO.lst [V.ref q])) p [q] ((SN.goalRows fares wd).take 1):=by
    refine⟨upd_same,by simp[SN.goalRows],fun i b e=>?_⟩;have hi:i=0:=by have:=(List.getElem?_eq_some_iff.mp e).1;simp at this;omega
    subst hi;have:q=b:=by simpa using e
    subst this;unfold IntsAt;rw[upd_ne hqp,upd_same];rfl
   have fp:H p=none:=s13.free (s4.free hp);refine⟨_,rfl,a,_,rfl,.inl (SqL.of (s5 _ _ (s4 _ _ (s13 _ _ ha)))),_,rfl,?_,?_,?_⟩
   ·omega
   ·rw[lmp];omega
   rw[lmp];refine for_it (n:=fares.length) (fun i σ H'=>∃ v as,σ=[some (.ref a),some (.int wd),some (.ref p),v,none]/\Same H H'/\RowsAs H' p as ((SN.goalRows fares wd).take (i+1)))
    ⟨none,[q],rfl,s13.trans (s4.trans s5),R0⟩ (fun i σ H' hi _=>by show i<_;omega) (fun σ H' _=>by show _<=_;omega) ?_ ?_
   ·rintro i x σ H' H'' hi ⟨v,as,rfl,sm,R⟩ ⟨rfl,rfl⟩;refine⟨_,rfl,.inl ⟨rfl,_,SqL.of R.lst⟩,_,rfl,_,rfl,_,rfl,wd,(0:Int)+i,-1,rfl,by omega,by omega,by omega,fun H4 b s4' nb hb=>?_⟩;refine⟨p,_,_,rfl,rfl,s4' _ _ R.lst,?_,?_⟩
    ·rw[lmp,R.len,List.length_take];exact small1000 (by omega)
    ·have hbp:b≠p:=fun e=>by rw[e,R.lst] at nb;cases nb
     refine⟨_,as++[b],rfl,?_,?_⟩
     ·intro c o e;rw[upd_ne (ne_of_none e fp)];exact s4' _ _ (sm _ _ e)
     ·have hR:=(R.same s4').push hb hbp;have e2:(SN.goalRows fares wd).take (i+1+1)=(SN.goalRows fares wd).take (i+1)++[SN.single (wd:Int).toNat ((0:Int)+i).toNat (-1)]:=by
       rw[List.take_succ_eq_append_getElem (by simp[SN.goalRows];omega)];congr 1;simp[SN.goalRows]
      rw[e2];exact hR
   ·rintro σ H' ⟨v,as,rfl,sm,R⟩;refine⟨_,rfl,k H' p sm fp ⟨as,?_⟩⟩;rw[List.take_of_length_le (by simp[SN.goalRows])] at R;exact R
end
end My
end
section
set_option maxRecDepth 100000
set_option maxHeartbeats 2000000
namespace My
open PySem PySem.Spec PyProof.Rows L2
theorem RowsAs.append{H:Hp}{a:Addr}{as bs:List Addr}{rs qs:List (List Int)}(h:RowsAs H a as rs)(hl:bs.length=qs.length)(hq:∀ (i:Nat) (b:Addr),bs[i]?=some b->IntsAt H b (qs.getD i []))(hn:∀ b,b∈bs->b≠a):
  RowsAs (upd H a (.lst (as.map V.ref++bs.map V.ref))) a (as++bs) (rs++qs):=by
 refine⟨by rw[upd_same,List.map_append],by simp[h.len,hl],fun i c e=>?_⟩;unfold IntsAt;by_cases ci:i<as.length
 ·rw[List.getElem?_append_left ci] at e;rw[upd_ne (h.ne e),gDe,List.getElem?_append_left (by rw[<-h.len];exact ci),<-gDe];exact h.at_ i c e
 ·rw[List.getElem?_append_right (by omega)] at e;rw[upd_ne (hn c (List.mem_of_getElem? e)),gDe,List.getElem?_append_right (by rw[<-h.len];omega),<-gDe,<-h.len];exact hq _ c e
theorem refs_get{as:List Addr}{i:Nat}{x:V}(h:(as.map V.ref)[i]?=some x):∃ b,as[i]?=some b/\x=V.ref b:=by
 rw[List.getElem?_map] at h;cases e:as[i]? with
 | none=>rw[e] at h;cases h
 | some b=>rw[e] at h;exact⟨b,rfl,(Option.some.inj h).symm⟩
abbrev sLimitRows:Stmt:=top 2
def spLimitRows:Sp:=fun vs H Q _=>∃ (a b c:Addr) (caps demands:List Int) (ways:List (List Int)),vs=[.ref a,.ref b,.ref c]/\IntsAt H a caps/\IntsAt H b demands/\RowsAt H c ways/\
 ways.length=demands.length/\caps.length<=100/\demands.length<=100/\
 ∀ (H':Hp) (p:Addr),Same H H'->H p=none->RowsAt H' p (SN.limitRows caps demands ways)->Q (.ref p) H'
section
variable{P:Program}{w:World}{K:PySem.W.Frag}{mg:Str->Option Value}{base:Heap}
theorem scLimitRows:FnScope ["capacities","demands","ways","journeys","uses","amounts","rows","number","use","leg","journey"] ["capacities","demands","ways"] (defScope sLimitRows):=
 ⟨rfl,rfl,rfl,by decide +kernel,rfl,by decide +kernel,by decide +kernel⟩
theorem ok_limit_rows{f fS fU:Addr}{fd fdS fdU:FuncData}(F:Fun K "limit_rows" "limit_rows" sLimitRows f fd)(B:Blt mg)(CS:Cal P w K mg base 1 "single" ["width","place","number"] spSingle fS fdS)(CU:Cal P w K mg base 1 "leg_use" ["leg","ways"] spLegUse fU fdU):FnOk P w K mg base CX0 2 f fd ["capacities","demands","ways"] spLimitRows:=by
 refine F.ok scLimitRows (fun vs H Q E h=>?_) (fun cdv A outer s H vs Q E hr h=>?_)
 ·obtain⟨a,b,c,caps,demands,ways,rfl,_⟩:=h;rfl
 ·obtain⟨a,b,c,caps,demands,ways,rfl,ha,hb,hc,hwl,hz1,hz2,k⟩:=h;refine⟨_,pss_cons (ps_set (i:=3) scLimitRows.nd rfl (.inr rfl) (pe_callB call_len_seq (by rfl) B.len PySem.boot_len (pa_cons (pv 1) pa_nil)))
   (pss_cons (ps_setLc (i:=4) rfl scLimitRows.nd rfl rfl (sw_true rfl rfl rfl rfl) (pi_range2 rfl B.range (pa_cons pe_int (pa_cons (pe_op op_add (pe_callB call_len_seq (by rfl) B.len PySem.boot_len (pa_cons (pv 0) pa_nil)) pe_int) pa_nil)))
    (blkOk_by (own:=[("leg",9)]) (by rfl)) (fun _ _ _ _ _=>pg_name (i:=9) scLimitRows.nd rfl (.inl rfl)) (fun _ _ _ _ _=>pts_nil)
    (fun _ _ _ _ _=>pe_call CU.ok hr rfl CU.mg CU.kp CU.b .nil pass0 (pa_cons (pv 9) (pa_cons (pv 2) pa_nil))))
   (pss_cons (ps_expr (pe_bm PySem.F.plainAttrs_list PySem.F.slot_list_extend PySem.F.type_list_extend mt_extend (pv 4)
    (pa_cons (pe_lc rfl scLimitRows.nd (pi_range1 rfl B.range (pa_cons (pv 3) pa_nil)) (blkOk_by (own:=[("journey",10)]) (by rfl)) (fun _ _ _ _ _=>pg_name (i:=10) scLimitRows.nd rfl (.inl rfl)) (fun _ _ _ _ _=>pts_nil)
     (fun _ _ _ _ _=>pe_call CS.ok hr rfl CS.mg CS.kp CS.b .nil pass0 (pa_cons (pv 3) (pa_cons (pv 10) (pa_cons pe_int pa_nil))))) pa_nil)))
   (pss_cons (ps_set (i:=5) scLimitRows.nd rfl (.inl rfl) (pe_op op_cat (pv 0) (pv 1)))
   (pss_cons (ps_set (i:=6) scLimitRows.nd rfl (.inl rfl) (pe_lst pa_nil))
   (pss_cons (ps_for PassesOwn.never rfl (pi_enum rfl B.enum (pa_cons (pv 4) pa_nil)) (pg_tup rfl (pgs_cons (pg_name (i:=7) scLimitRows.nd rfl (.inl rfl)) (pgs_cons (pg_name (i:=8) scLimitRows.nd rfl (.inl rfl)) pgs_nil)))
    (pss_one (ps_expr (pe_bm PySem.F.plainAttrs_list PySem.F.slot_list_append PySem.F.type_list_append mt_append (pv 6)
     (pa_cons (pe_op op_cat (pe_op op_cat (pv 8) (pe_call CS.ok hr rfl CS.mg CS.kp CS.b .nil pass0 (pa_cons (pe_callB call_len_seq (by rfl) B.len PySem.boot_len (pa_cons (pv 4) pa_nil)) (pa_cons (pv 7) (pa_cons pe_int pa_nil)))))
      (pe_lst (pa_cons (pe_ix ix_list (pv 5) (pv 7) (fun _ _=>rfl)) pa_nil))) pa_nil)))))
   (pss_one (ps_ret (pv 6)))))))),?_⟩
  obtain⟨cs,Rc⟩:=hc;refine⟨_,rfl,b,_,rfl,.inl (SqL.of hb),?_⟩;refine⟨_,rfl,a,_,rfl,.inl (SqL.of ha),_,_,rfl,rfl,_,_,rfl,⟨by omega,by omega,by rw[lmp];omega,by rw[lmp];omega⟩,fun D hD=>?_⟩;have en:((((caps.map V.int).length:Nat):Int)+1-1).toNat=caps.length:=by rw[lmp];omega
  rw[en];refine coll_rows (n:=caps.length) (fun i x H2=>x=V.int (1+(i:Int))) ((List.range caps.length).map fun(k:Nat)=>SN.legUse ((k:Int)+1) ways) itr_go itr_stop itr_yld (by simp) (by omega) hD ?_ (fun H1 as s1 R1 fr1=>?_)
  ·rintro i x H' R hi sm rfl hR;refine⟨rfl,_,rfl,_,rfl,_,c,ways,rfl,⟨cs,Rc.same sm⟩,by omega,fun H4 p s4 np hp=>hR H4 p s4 np ?_⟩;have e:((List.range caps.length).map fun(k:Nat)=>SN.legUse ((k:Int)+1) ways).getD i []=SN.legUse (1+(i:Int)) ways:=by
    rw[gDe,List.getElem?_map,List.getElem?_range hi,Int.add_comm];rfl
   rw[e];exact hp
  refine⟨_,rfl,.inl ⟨rfl,_,SqL.of R1.lst⟩,_,rfl,_,rfl,by omega,by rw[lmp];omega,fun D2 hD2=>?_⟩;have en2:((((demands.map V.int).length:Nat):Int)).toNat=demands.length:=by rw[lmp];omega
  rw[en2];refine coll_rows (n:=demands.length) (fun i x H2=>x=V.int (0+(i:Int))) ((List.range demands.length).map fun j=>SN.single demands.length j 1) itr_go itr_stop itr_yld (by simp) (by omega) hD2 ?_ (fun H2 bs s2 R2 fr2=>?_)
  ·rintro i x H' R hi sm rfl hR;refine⟨rfl,_,rfl,_,rfl,_,_,_,rfl,by omega,by rw[lmp];omega,by rw[lmp];omega,fun H4 p s4 np hp=>hR H4 p s4 np ?_⟩;have e:((List.range demands.length).map fun j=>SN.single demands.length j 1).getD i []=SN.single demands.length i 1:=by
    rw[gDe,List.getElem?_map,List.getElem?_range hi];rfl
   rw[e];have e2:(((demands.map V.int).length:Nat):Int).toNat=demands.length:=en2;have e3:((0:Int)+(i:Int)).toNat=i:=by omega
   rw[e2,e3] at hp;exact hp
  have las:as.length=caps.length:=by rw[R1.len];simp
  have lbs:bs.length=demands.length:=by rw[R2.len];simp
  refine⟨D,D2,_,_,rfl,rfl,s2 _ _ R1.lst,R2.lst,?_,?_⟩
  ·rw[lmp,lmp,las,lbs];exact Nat.le_of_lt (small1000 (by omega))
  have RU:RowsAs (upd H2 D (.lst (as.map V.ref++bs.map V.ref))) D (as++bs) (SN.usesOf caps demands ways):=
   (R1.same s2).append (by rw[R2.len]) R2.at_ (fun b' hb' e=>by have:=fr2 b' hb';rw[e,R1.lst] at this;cases this)
  have s3:Same H (upd H2 D (.lst (as.map V.ref++bs.map V.ref))):=fun z o e=>by
   rw[upd_ne (ne_of_none e hD)];exact s2 _ _ (s1 _ _ e)
  have lus:(as++bs).length=caps.length+demands.length:=by rw[List.length_append,las,lbs]
  generalize upd H2 D (.lst (as.map V.ref++bs.map V.ref))=H3 at RU s3 ⊢;refine⟨_,rfl,_,rfl,a,b,_,_,rfl,rfl,s3 _ _ ha,s3 _ _ hb,?_,fun q hq=>?_⟩
  ·rw[lmp,lmp];exact Nat.le_of_lt (small1000 (by omega))
  rw[<-List.map_append];have s4:=Same.new (o:=.lst ((caps++demands).map V.int)) hq;refine⟨Nat.zero_le _,fun p hp=>?_⟩;have s5:=Same.new (o:=.lst []) hp;have fp:H p=none:=s3.free (s4.free hp);have RX:=RU.same s4;have hQx:IntsAt (upd H3 q (.lst ((caps++demands).map V.int))) q (caps++demands):=upd_same;have sX:=s3.trans s4;generalize upd H3 q (.lst ((caps++demands).map V.int))=Hx at hp s4 s5 RX hQx sX ⊢;refine⟨_,rfl,D,_,rfl,SqL.of (s5 _ _ RX.lst),?_⟩;refine for_it (n:=((as++bs).map V.ref).length) (fun i σ H'=>∃ v7 v8 ps,σ=[some (.ref a),some (.ref b),some (.ref c),some (.int ((demands.map V.int).length:Nat)),some (.ref D),some (.ref q),some (.ref p),v7,v8,none,none]/\
    Same Hx H'/\RowsAs H' p ps ((SN.limitRows caps demands ways).take i))
   ⟨none,none,[],rfl,s5,⟨upd_same,by simp,fun i b e=>by simp at e⟩⟩
   (fun i σ H' hi ⟨_,_,_,_,sm,_⟩=>⟨_,_,SqL.of (sm _ _ RX.lst),gEe hi⟩) (fun σ H' ⟨_,_,_,_,sm,_⟩=>⟨_,SqL.of (sm _ _ RX.lst),Nat.le_refl _⟩) ?_ ?_
  ·rintro i x σ H' H'' hi ⟨v7,v8,ps,rfl,sm,RP⟩ ⟨T,u,rfl,hT,rfl,hy⟩;have RD:=RX.same sm;have hQ:IntsAt H' q (caps++demands):=sm _ _ hQx;obtain⟨u0,hu0,rfl⟩:=refs_get (hy _ (SqL.of RD.lst));have hiu:i<(as++bs).length:=by simpa using hi
   have hrow:=RD.at_ i u0 hu0;have sT:=Same.new (o:=.tup [V.int (i:Nat),V.ref u0]) hT;refine⟨T,_,rfl,SqT.of upd_same,rfl,_,_,rfl,_,_,rfl,rfl,?_⟩;refine⟨_,rfl,.inl ⟨rfl,_,SqL.of (sT _ _ RP.lst)⟩,_,rfl,_,rfl,D,_,rfl,.inl (SqL.of (sT _ _ RD.lst)),_,rfl,_,_,_,rfl,by omega,by rw[lmp];omega,by rw[lmp];omega,fun H4 e s6 ne he=>?_⟩;have hlen:((SN.usesOf caps demands ways).getD i []).length<=100:=by
    have hm:=SN.getD_mem (SN.usesOf caps demands ways) i [] (by rw[<-RD.len];exact hiu);generalize (SN.usesOf caps demands ways).getD i []=z at hm;simp only[SN.usesOf,List.mem_append,List.mem_map] at hm;rcases hm with ⟨_,_,hm⟩ | ⟨_,_,hm⟩
    ·rw[<-hm];simp[SN.legUse];omega
    ·rw[<-hm];simp[SN.single];omega
   refine⟨u0,e,_,_,rfl,rfl,s6 _ _ (sT _ _ hrow),he,?_,fun r hr'=>?_⟩
   ·rw[lmp,lmp,SN.single_len,lmp];exact Nat.le_of_lt (small1000 (by omega))
   have s7:=Same.new (o:=.lst ((((SN.usesOf caps demands ways).getD i []).map V.int)++(SN.single (((List.map V.ref (as++bs)).length:Nat):Int).toNat ((i:Nat):Int).toNat 1).map V.int)) hr';refine⟨_,rfl,_,rfl,q,_,_,_,rfl,rfl,SqL.of (s7 _ _ (s6 _ _ (sT _ _ hQ))),ints_at (by rw[List.length_append];omega),(by show 1<=sizeLine;decide),fun l hl=>?_⟩;have s8:=Same.new (o:=.lst [V.int ((caps++demands).getD i 0)]) hl;refine⟨r,l,_,_,rfl,rfl,s8 _ _ upd_same,upd_same,?_,fun y hy'=>?_⟩
   ·rw[List.length_append,lmp,lmp,SN.single_len,lmp];show _+_+1<=sizeLine;have:=small1000 (n:=((SN.usesOf caps demands ways).getD i []).length+(((as++bs).length:Nat):Int).toNat+1) (by omega);omega
   have s9:=Same.new (o:=.lst (((((SN.usesOf caps demands ways).getD i []).map V.int)++(SN.single (((List.map V.ref (as++bs)).length:Nat):Int).toNat ((i:Nat):Int).toNat 1).map V.int)++[V.int ((caps++demands).getD i 0)])) hy';have sAll:=sT.trans (s6.trans (s7.trans (s8.trans s9)));have hyp:y≠p:=fun z=>by
    have h1:=(sT.trans (s6.trans (s7.trans s8))) _ _ RP.lst;rw[z,h1] at hy';cases hy'
   refine⟨p,_,_,rfl,rfl,sAll _ _ RP.lst,?_,?_⟩
   ·rw[lmp,RP.len,List.length_take];exact small1000 (by omega)
   refine⟨_,_,ps++[y],rfl,?_,?_⟩
   ·intro z o e';rw[upd_ne (ne_of_none e' hp)];exact sAll _ _ (sm _ _ e')
   ·have hyI:∀ Hy:Hp,IntsAt (upd Hy y (.lst (((((SN.usesOf caps demands ways).getD i []).map V.int)++(SN.single (((List.map V.ref (as++bs)).length:Nat):Int).toNat ((i:Nat):Int).toNat 1).map V.int)++[V.int ((caps++demands).getD i 0)]))) y (SN.limitRow (SN.usesOf caps demands ways).length (caps++demands) i ((SN.usesOf caps demands ways).getD i [])):=by
     intro Hy;unfold IntsAt SN.limitRow;have e5:(((List.map V.ref (as++bs)).length:Nat):Int).toNat=(SN.usesOf caps demands ways).length:=by rw[lmp,RD.len];omega
     rw[upd_same,e5];simp only[List.map_append];rfl
    have hR:=(RP.same sAll).push (hyI _) hyp;have e2:(SN.limitRows caps demands ways).take (i+1)=(SN.limitRows caps demands ways).take i++[SN.limitRow (SN.usesOf caps demands ways).length (caps++demands) i ((SN.usesOf caps demands ways).getD i [])]:=by
     have hi2:i<(SN.usesOf caps demands ways).length:=by rw[<-RD.len];exact hiu
     rw[List.take_succ_eq_append_getElem (by simpa [SN.limitRows] using hi2)];congr 1;simp[SN.limitRows,gDe,hi2]
    rw[e2];exact hR
  ·rintro σ H' ⟨v7,v8,ps,rfl,sm,RP⟩;refine⟨_,rfl,k H' p (sX.trans sm) fp ⟨ps,?_⟩⟩;rw[List.take_of_length_le (by rw[lmp,RX.len];simp[SN.limitRows])] at RP;exact RP
end
end My
end
section
set_option maxRecDepth 100000
set_option maxHeartbeats 2000000
namespace My
open PySem PySem.Spec PyProof.Rows L2
theorem putF_new{f:Str}{v:V}:∀ {fs:List (Str×V)},(fs.map (·.1)).contains f=false->putF f v fs=fs++[(f,v)]
 | [],_=>rfl
 | (g,x)::r,h=>by
  rw[List.map_cons,List.contains_cons,Bool.or_eq_false_iff] at h;have hg:¬g=f:=fun e=>by rw[e] at h;simp at h
  show(if g=f then _ else _)=_;rw[if_neg hg,putF_new h.2];rfl
theorem putF_in{f:Str}{v u:V}{post:List (Str×V)}:∀ {pre:List (Str×V)},(pre.map (·.1)).contains f=false->putF f v (pre++(f,u)::post)=pre++(f,v)::post
 | [],_=>by show(if f=f then _ else _)=_;rw[if_pos rfl];rfl
 | (g,x)::r,h=>by
  rw[List.map_cons,List.contains_cons,Bool.or_eq_false_iff] at h;have hg:¬g=f:=fun e=>by rw[e] at h;simp at h
  show(if g=f then (g,v)::(r++(f,u)::post) else (g,x)::putF f v (r++(f,u)::post))=_;rw[if_neg hg,putF_in h.2];rfl
theorem look_hit{f:Str}{v:V}{r:List (Str×V)}:((f,v)::r).lookup f=some v:=by
 simp[List.lookup]
theorem look_miss{f g:Str}{v:V}{r:List (Str×V)}(h:(f==g)=false):((g,v)::r).lookup f=r.lookup f:=by
 simp[List.lookup,h]
def tf(t:SN.TL)(a b c:Addr):List (Str×V):=
 [("legs",.int t.legs),("journeys",.int t.journeys),("limits",.ref a),("goals",.ref b),("holders",.ref c),("below",.int t.below)]
structure TabAs(C:Addr)(H:Hp)(x dx a b c:Addr)(t:SN.TL):Prop where
 ins:H x=some (.ins C dx (tf t a b c))
 lim:RowsAt H a t.limits
 goa:RowsAt H b t.goals
 hol:IntsAt H c t.holders
theorem tf_legs(t:SN.TL)(a b c:Addr):(tf t a b c).lookup ("legs":Str)=some (V.int t.legs):=look_hit
theorem tf_journeys(t:SN.TL)(a b c:Addr):(tf t a b c).lookup ("journeys":Str)=some (V.int t.journeys):=(look_miss (by decide +kernel)).trans look_hit
theorem tf_limits(t:SN.TL)(a b c:Addr):(tf t a b c).lookup ("limits":Str)=some (V.ref a):=(look_miss (by decide +kernel)).trans ((look_miss (by decide +kernel)).trans look_hit)
theorem tf_goals(t:SN.TL)(a b c:Addr):(tf t a b c).lookup ("goals":Str)=some (V.ref b):=
 (look_miss (by decide +kernel)).trans ((look_miss (by decide +kernel)).trans ((look_miss (by decide +kernel)).trans look_hit))
theorem tf_holders(t:SN.TL)(a b c:Addr):(tf t a b c).lookup ("holders":Str)=some (V.ref c):=
 (look_miss (by decide +kernel)).trans ((look_miss (by decide +kernel)).trans ((look_miss (by decide +kernel)).trans ((look_miss (by decide +kernel)).trans look_hit)))
theorem tf_below(t:SN.TL)(a b c:Addr):(tf t a b c).lookup ("below":Str)=some (V.int t.below):=
 (look_miss (by decide +kernel)).trans ((look_miss (by decide +kernel)).trans ((look_miss (by decide +kernel)).trans ((look_miss (by decide +kernel)).trans ((look_miss (by decide +kernel)).trans look_hit))))
structure TabC(K:PySem.W.Frag)(C:Addr):Prop where
 cl:Cls K C
 legs:NoAttr K C "legs"
 journeys:NoAttr K C "journeys"
 limits:NoAttr K C "limits"
 goals:NoAttr K C "goals"
 holders:NoAttr K C "holders"
 below:NoAttr K C "below"
abbrev sTabInit:Stmt:=inClass (top 1) 0
def spTabInit(C:Addr):Sp:=fun vs H Q _=>∃ (x dx a b c d:Addr) (caps fares demands:List Int) (ways:List (List Int)),vs=[.ref x,.ref a,.ref b,.ref c,.ref d]/\H x=some (.ins C dx [])/\
 IntsAt H a caps/\IntsAt H b fares/\IntsAt H c demands/\RowsAt H d ways/\ways.length=demands.length/\fares.length=demands.length/\caps.length<=100/\demands.length<=100/\
 ∀ (H':Hp) (la ga ha:Addr),(∀ y o,H y=some o->y≠x->H' y=some o)->H ha=none->TabAs C H' x dx la ga ha (SN.mkT caps fares demands ways)->Q .non H'
structure Bld(H H1:Hp)(x C dx:Addr)(fs:List (Str×V)):Prop where
 keep:∀ y o,H y=some o->y≠x->H1 y=some o
 ins:H1 x=some (.ins C dx fs)
theorem Bld.put{H H1:Hp}{x C dx:Addr}{fs:List (Str×V)}{f:Str}{v:V}(b:Bld H H1 x C dx fs)(h:(fs.map (·.1)).contains f=false):
  Bld H (upd H1 x (.ins C dx (putF f v fs))) x C dx (fs++[(f,v)]):=
 ⟨fun y o e n=>by rw[upd_ne n];exact b.keep y o e n,by rw[upd_same,putF_new h]⟩
theorem Bld.same{H H1 H2:Hp}{x C dx:Addr}{fs:List (Str×V)}(b:Bld H H1 x C dx fs)(s:Same H1 H2):Bld H H2 x C dx fs:=
 ⟨fun y o e n=>s _ _ (b.keep y o e n),s _ _ b.ins⟩
theorem Bld.lst{H H1:Hp}{x C dx C' dx':Addr}{fs fs':List (Str×V)}(b:Bld H H1 x C dx fs)(hx:H x=some (.ins C' dx' fs')){a:Addr}{l:List V}(h:H a=some (.lst l)):H1 a=some (.lst l):=
 b.keep _ _ h (ne_of h hx (fun q=>by cases q))
theorem Bld.rows{H H1:Hp}{x C dx C' dx':Addr}{fs fs':List (Str×V)}(b:Bld H H1 x C dx fs)(hx:H x=some (.ins C' dx' fs')){a:Addr}{as:List Addr}{rs:List (List Int)}(h:RowsAs H a as rs):RowsAs H1 a as rs:=
 ⟨b.lst hx h.lst,h.len,fun i z e=>b.lst hx (h.at_ i z e)⟩
theorem RowsAs.upd_ins{H:Hp}{x C dx C' dx':Addr}{fs fs':List (Str×V)}(hx:H x=some (.ins C' dx' fs')){a:Addr}{as:List Addr}{rs:List (List Int)}(h:RowsAs H a as rs):
  RowsAs (upd H x (.ins C dx fs)) a as rs:=
 ⟨by rw[upd_ne (ne_of h.lst hx (fun q=>by cases q))];exact h.lst,h.len,fun i z e=>by
  have:=h.at_ i z e;unfold IntsAt at this ⊢;rw[upd_ne (ne_of this hx (fun q=>by cases q))];exact this⟩
theorem IntsAt.upd_ins{H:Hp}{x C dx C' dx':Addr}{fs fs':List (Str×V)}(hx:H x=some (.ins C' dx' fs')){a:Addr}{ns:List Int}(h:IntsAt H a ns):IntsAt (upd H x (.ins C dx fs)) a ns:=by
 unfold IntsAt at h ⊢;rw[upd_ne (ne_of h hx (fun q=>by cases q))];exact h
section
variable{P:Program}{w:World}{K:PySem.W.Frag}{mg:Str->Option Value}{base:Heap}
theorem scTabInit:FnScope ["self","capacities","fares","demands","ways","number"] ["self","capacities","fares","demands","ways"] (defScope sTabInit):=
 ⟨rfl,rfl,rfl,by decide +kernel,rfl,by decide +kernel,by decide +kernel⟩
theorem ok_tabInit{f fL fG C:Addr}{fd fdL fdG:FuncData}(F:Fun K "__init__" "Table.__init__" sTabInit f fd)(B:Blt mg)(TC:TabC K C)(CL:Cal P w K mg base 2 "limit_rows" ["capacities","demands","ways"] spLimitRows fL fdL)(CG:Cal P w K mg base 2 "goal_rows" ["fares","width"] spGoalRows fG fdG):
  FnOk P w K mg base CX0 3 f fd ["self","capacities","fares","demands","ways"] (spTabInit C):=by
 refine F.ok scTabInit (fun vs H Q E h=>?_) (fun cdv A outer s H vs Q E hr h=>?_)
 ·obtain⟨x,dx,a,b,c,d,caps,fares,demands,ways,rfl,_⟩:=h;rfl
 ·obtain⟨x,dx,a,b,c,d,caps,fares,demands,ways,rfl,hx,ha,hb,hc,hd,hwl,hfl,hz1,hz2,k⟩:=h;refine⟨_,pss_cons (ps_fld (pv 0) (pe_callB call_len_seq (by rfl) B.len PySem.boot_len (pa_cons (pv 1) pa_nil)) rfl)
   (pss_cons (ps_fld (pv 0) (pe_callB call_len_seq (by rfl) B.len PySem.boot_len (pa_cons (pv 2) pa_nil)) rfl)
   (pss_cons (ps_fld (pv 0) (pe_call CL.ok hr rfl CL.mg CL.kp CL.b .nil pass0 (pa_cons (pv 1) (pa_cons (pv 3) (pa_cons (pv 4) pa_nil)))) rfl)
   (pss_cons (ps_fld (pv 0) (pe_call CG.ok hr rfl CG.mg CG.kp CG.b .nil pass0 (pa_cons (pv 2) (pa_cons (pe_op op_add (pe_op op_add (pe_callB call_len_seq (by rfl) B.len PySem.boot_len (pa_cons (pv 2) pa_nil))
    (pe_callB call_len_seq (by rfl) B.len PySem.boot_len (pa_cons (pe_fld (pv 0) rfl) pa_nil))) pe_int) pa_nil))) rfl)
   (pss_cons (ps_fld (pv 0) (pe_lc (te:=tOp (rI0 fun i j=>.int (i+j)) (tFld K (tVar 0) "journeys") (tVar 5)) rfl scTabInit.nd (pi_range1 rfl B.range (pa_cons (pe_callB call_len_seq (by rfl) B.len PySem.boot_len (pa_cons (pe_fld (pv 0) rfl) pa_nil)) pa_nil))
    (blkOk_by (own:=[("number",5)]) (by rfl)) (fun _ _ _ _ _=>pg_name (i:=5) scTabInit.nd rfl (.inl rfl)) (fun _ _ _ _ _=>pts_nil) (fun _ _ _ _ _=>pe_op op_add (pe_fld (pv 0) rfl) (pv 5))) rfl)
   (pss_one (ps_fld (pv 0) pe_int rfl)))))),?_⟩
  have b0:Bld H H x C dx []:=⟨fun y o e _=>e,hx⟩;obtain⟨ds,Rd⟩:=hd;refine⟨_,rfl,a,_,rfl,.inl (SqL.of ha),_,rfl,x,C,dx,[],rfl,hx,TC.cl,TC.legs,(by show 0<1000;decide),?_⟩;have b1:=b0.put (f:="legs") (v:=.int ((caps.map V.int).length:Nat)) rfl;generalize upd H x (.ins C dx (putF "legs" (.int ((caps.map V.int).length:Nat)) []))=H1 at b1 ⊢;refine⟨_,rfl,b,_,rfl,.inl (SqL.of (b1.lst hx hb)),_,rfl,x,C,dx,_,rfl,b1.ins,TC.cl,TC.journeys,(by show 1<1000;decide),?_⟩;have b2:=b1.put (f:="journeys") (v:=.int ((fares.map V.int).length:Nat)) (show(["legs"]:List Str).contains "journeys"=false by decide +kernel);generalize upd H1 x _=H2 at b2 ⊢;refine⟨_,rfl,_,rfl,_,rfl,a,c,d,caps,demands,ways,rfl,b2.lst hx ha,b2.lst hx hc,⟨ds,b2.rows hx Rd⟩,hwl,hz1,hz2,fun H3 la s3 nla Rl=>?_⟩;obtain⟨las,Rl⟩:=Rl;have b3:=b2.same s3;refine⟨_,rfl,x,C,dx,_,rfl,b3.ins,TC.cl,TC.limits,(by show 2<1000;decide),?_⟩;have b4:=b3.put (f:="limits") (v:=.ref la) (show(["legs","journeys"]:List Str).contains "limits"=false by decide +kernel);have Rl4:=Rl.upd_ins (C:=C) (dx:=dx) (fs:=putF "limits" (.ref la) ([]++[(("legs":Str),V.int ((caps.map V.int).length:Nat))]++[(("journeys":Str),V.int ((fares.map V.int).length:Nat))])) b3.ins;generalize upd H3 x _=H4 at b4 Rl4 ⊢;have lk4:([]++[(("legs":Str),V.int ((caps.map V.int).length:Nat))]++[(("journeys":Str),V.int ((fares.map V.int).length:Nat))]++[(("limits":Str),V.ref la)]).lookup ("limits":Str)=some (V.ref la):=
   (look_miss (by decide +kernel)).trans ((look_miss (by decide +kernel)).trans look_hit)
  have hlr:(SN.limitRows caps demands ways).length=caps.length+demands.length:=by simp[SN.limitRows,SN.usesOf]
  refine⟨_,rfl,_,rfl,b,_,rfl,.inl (SqL.of (b4.lst hx hb)),_,rfl,x,C,dx,_,_,rfl,b4.ins,TC.cl,TC.limits,lk4,la,_,rfl,.inl (SqL.of Rl4.lst),_,_,rfl,rfl,_,_,rfl,rfl,?_⟩;have ew:((((fares.map V.int).length:Nat):Int)+(((las.map V.ref).length:Nat):Int)+1)=((fares.length+(SN.limitRows caps demands ways).length+1:Nat):Int):=by
   rw[lmp,lmp,Rl4.len];omega
  refine⟨b,fares,_,(congrArg (fun z=>[V.ref b,V.int z]) ew),b4.lst hx hb,by omega,by omega,fun H5 ga s5 nga Rg=>?_⟩;obtain⟨gas,Rg⟩:=Rg;have b5:=b4.same s5;refine⟨_,rfl,x,C,dx,_,rfl,b5.ins,TC.cl,TC.goals,(by show 3<1000;decide),?_⟩;have b6:=b5.put (f:="goals") (v:=.ref ga) (show(["legs","journeys","limits"]:List Str).contains "goals"=false by decide +kernel);have Rl6:=(Rl4.same s5).upd_ins (C:=C) (dx:=dx) (fs:=putF "goals" (.ref ga) ([]++[(("legs":Str),V.int ((caps.map V.int).length:Nat))]++[(("journeys":Str),V.int ((fares.map V.int).length:Nat))]++[(("limits":Str),V.ref la)])) b5.ins;have Rg6:=Rg.upd_ins (C:=C) (dx:=dx) (fs:=putF "goals" (.ref ga) ([]++[(("legs":Str),V.int ((caps.map V.int).length:Nat))]++[(("journeys":Str),V.int ((fares.map V.int).length:Nat))]++[(("limits":Str),V.ref la)])) b5.ins;generalize upd H5 x _=H6 at b6 Rl6 Rg6 ⊢;have lk6:([]++[(("legs":Str),V.int ((caps.map V.int).length:Nat))]++[(("journeys":Str),V.int ((fares.map V.int).length:Nat))]++[(("limits":Str),V.ref la)]++[(("goals":Str),V.ref ga)]).lookup ("limits":Str)=some (V.ref la):=
   (look_miss (by decide +kernel)).trans ((look_miss (by decide +kernel)).trans look_hit)
  have lk7:([]++[(("legs":Str),V.int ((caps.map V.int).length:Nat))]++[(("journeys":Str),V.int ((fares.map V.int).length:Nat))]++[(("limits":Str),V.ref la)]++[(("goals":Str),V.ref ga)]).lookup ("journeys":Str)=some (V.int ((fares.map V.int).length:Nat)):=
   (look_miss (by decide +kernel)).trans look_hit
  refine⟨_,rfl,x,C,dx,_,_,rfl,b6.ins,TC.cl,TC.limits,lk6,la,_,rfl,.inl (SqL.of Rl6.lst),_,rfl,by omega,by rw[lmp,Rl6.len];omega,fun D hD=>?_⟩;have en:(((las.map V.ref).length:Nat):Int).toNat=(SN.limitRows caps demands ways).length:=by rw[lmp,Rl6.len];omega
  rw[en];refine coll_vals (n:=(SN.limitRows caps demands ways).length) (fun i z H2=>z=V.int (0+(i:Int))) ((SN.mkT caps fares demands ways).holders.map V.int) itr_go itr_stop itr_yld (by simp[SN.mkT]) (by omega) hD ?_ (fun H7 s7 hq=>?_)
  ·rintro i z y H' R hi hy sm rfl hR;obtain⟨rfl,hi1⟩:=ints_get hy;refine⟨rfl,_,rfl,x,C,dx,_,_,rfl,sm _ _ b6.ins,TC.cl,TC.journeys,lk7,_,rfl,_,_,rfl,rfl,?_⟩;have:=hR H' (Same.refl _);have e:(SN.mkT caps fares demands ways).holders.getD i 0=(((fares.map V.int).length:Nat):Int)+(0+(i:Int)):=by
    simp only[SN.mkT];rw[SN.getD_map_range _ hi,lmp];omega
   rw[e] at this;exact this
  have b7:=b6.same s7;refine⟨_,rfl,x,C,dx,_,rfl,b7.ins,TC.cl,TC.holders,(by show 4<1000;decide),?_⟩;have b8:=b7.put (f:="holders") (v:=.ref D) (show(["legs","journeys","limits","goals"]:List Str).contains "holders"=false by decide +kernel);have Rl8:=(Rl6.same s7).upd_ins (C:=C) (dx:=dx) (fs:=putF "holders" (.ref D) ([]++[(("legs":Str),V.int ((caps.map V.int).length:Nat))]++[(("journeys":Str),V.int ((fares.map V.int).length:Nat))]++[(("limits":Str),V.ref la)]++[(("goals":Str),V.ref ga)])) b7.ins;have Rg8:=(Rg6.same s7).upd_ins (C:=C) (dx:=dx) (fs:=putF "holders" (.ref D) ([]++[(("legs":Str),V.int ((caps.map V.int).length:Nat))]++[(("journeys":Str),V.int ((fares.map V.int).length:Nat))]++[(("limits":Str),V.ref la)]++[(("goals":Str),V.ref ga)])) b7.ins;have h8:=IntsAt.upd_ins (C:=C) (dx:=dx) (fs:=putF "holders" (.ref D) ([]++[(("legs":Str),V.int ((caps.map V.int).length:Nat))]++[(("journeys":Str),V.int ((fares.map V.int).length:Nat))]++[(("limits":Str),V.ref la)]++[(("goals":Str),V.ref ga)])) b7.ins (show IntsAt H7 D (SN.mkT caps fares demands ways).holders from hq);generalize upd H7 x _=H8 at b8 Rl8 Rg8 h8 ⊢;refine⟨_,rfl,x,C,dx,_,rfl,b8.ins,TC.cl,TC.below,(by show 5<1000;decide),?_⟩;have b9:=b8.put (f:="below") (v:=.int 1) (show(["legs","journeys","limits","goals","holders"]:List Str).contains "below"=false by decide +kernel);have hDn:H D=none:=by
   cases e:H D with
   | none=>rfl
   | some o=>
    by_cases q:D=x
    ·rw[q,b6.ins] at hD;cases hD
    ·rw[b6.keep _ _ e q] at hD;cases hD
  refine k _ la ga D b9.keep hDn ⟨?_,⟨_,Rl8.upd_ins b8.ins⟩,⟨_,Rg8.upd_ins b8.ins⟩,h8.upd_ins b8.ins⟩;rw[b9.ins];simp[tf,SN.mkT]
end
end My
end
section
set_option maxRecDepth 100000
set_option maxHeartbeats 2000000
namespace My
open PySem PySem.Spec PyProof.Rows L2
theorem TabAs.same{C:Addr}{H H':Hp}{x dx a b c:Addr}{t:SN.TL}(h:TabAs C H x dx a b c t)(s:Same H H'):TabAs C H' x dx a b c t:=
 ⟨s _ _ h.ins,h.lim.same s,h.goa.same s,s _ _ h.hol⟩
theorem ints_at'{ns:List Int}{i:Nat}{z:Int}(e:z=(i:Int))(h:i<ns.length):atI (ns.map V.int) z=some (V.int (ns.getD i 0)):=by
 rw[e];exact ints_at h
def optV:Option Nat->V
 | none=>.non
 | some q=>.int q
structure Dim(t:SN.TL):Prop where
 lrow:∀ r,r∈t.limits->r.length=t.journeys+t.limits.length+1
 grow:∀ r,r∈t.goals->r.length=t.journeys+t.limits.length+1
 hlen:t.holders.length=t.limits.length
 legs:t.legs<=t.limits.length
 gl:t.goals.length<=100
 jl:t.journeys<=100
 ll:t.limits.length<=100
theorem refs_at{as:List Addr}{rs:List (List Int)}{H:Hp}{a:Addr}(R:RowsAs H a as rs){i:Nat}(h:i<rs.length):
  ∃ z,as[i]?=some z/\atI (as.map V.ref) (i:Int)=some (V.ref z)/\IntsAt H z (rs.getD i []):=by
 have hi:i<as.length:=by rw[R.len];exact h
 refine⟨as[i],gEe hi,atI_nat ?_,R.at_ i _ (gEe hi)⟩;rw[List.getElem?_map,gEe hi];rfl
abbrev sEntering:Stmt:=top 7
def spEntering(C:Addr):Sp:=fun vs H Q _=>∃ (x dx a b c:Addr) (t:SN.TL),vs=[.ref x]/\TabAs C H x dx a b c t/\Dim t/\
 ∀ H':Hp,Same H H'->Q (optV (SN.entering t)) H'
section
variable{P:Program}{w:World}{K:PySem.W.Frag}{mg:Str->Option Value}{base:Heap}
theorem scEntering:FnScope ["table","nothing","column","goal"] ["table"] (defScope sEntering):=⟨rfl,rfl,rfl,by decide +kernel,rfl,by decide +kernel,by decide +kernel⟩
theorem ok_entering{f C:Addr}{fd:FuncData}(F:Fun K "entering" "entering" sEntering f fd)(B:Blt mg)(TC:TabC K C):FnOk P w K mg base CX0 1 f fd ["table"] (spEntering C):=by
 refine F.ok scEntering (fun vs H Q E h=>?_) (fun cdv A outer s H vs Q E hr h=>?_)
 ·obtain⟨x,dx,a,b,c,t,rfl,_⟩:=h;rfl
 ·obtain⟨x,dx,a,b,c,t,rfl,T,dm,k⟩:=h;refine⟨_,pss_cons (ps_set (i:=1) scEntering.nd rfl (.inl rfl) (pe_op op_rep (pe_lst (pa_cons pe_int pa_nil)) (pe_callB call_len_seq (by rfl) B.len PySem.boot_len (pa_cons (pe_fld (pv 0) rfl) pa_nil))))
   (pss_cons (ps_for PassesOwn.never rfl (pi_range1 rfl B.range (pa_cons (pe_op op_add (pe_fld (pv 0) rfl) (pe_callB call_len_seq (by rfl) B.len PySem.boot_len (pa_cons (pe_fld (pv 0) rfl) pa_nil))) pa_nil)) (pg_name (i:=2) scEntering.nd rfl (.inr rfl))
    (pss_one (ps_if (pt_cmpR (op_ltL hr.units0) (pe_lc (te:=tOp (rIxL K) (tVar 3) (tVar 2)) rfl scEntering.nd (pi_list (pe_fld (pv 0) rfl)) (blkOk_by (own:=[("goal",3)]) (by rfl)) (fun _ _ _ _ _=>pg_name (i:=3) scEntering.nd rfl (.inl rfl))
     (fun _ _ _ _ _=>pts_nil) (fun _ _ _ _ _=>pe_ix ix_list (pv 3) (pv 2) (fun _ _=>rfl))) (pv 1) (nomark _)) (pss_one (ps_ret (pv 2))) pss_nil)))
   (pss_one (ps_ret pe_non))),?_⟩
  obtain⟨las,Rl⟩:=T.lim;obtain⟨gas,Rg⟩:=T.goa;have hgl:gas.length=t.goals.length:=Rg.len;have hll:las.length=t.limits.length:=Rl.len;have:=dm.gl;have:=dm.jl;have:=dm.ll;refine⟨(by show 1<=sizeLine;decide),fun l hl=>?_⟩;have s1:=Same.new (o:=.lst [V.int 0]) hl;refine⟨_,rfl,x,C,dx,_,_,rfl,s1 _ _ T.ins,TC.cl,TC.goals,tf_goals t a b c,b,_,rfl,.inl (SqL.of (s1 _ _ Rg.lst)),l,_,_,rfl,rfl,upd_same,by omega,by rw[lmp];omega,?_,fun n hn=>?_⟩
  ·show 1*((gas.map V.ref).length:Int).toNat<=sizeLine;rw[lmp];have:=small1000 (n:=((gas.length:Nat):Int).toNat) (by omega);omega
  rw[rep_ints];have e1:(((gas.map V.ref).length:Nat):Int).toNat=t.goals.length:=by rw[lmp,hgl];omega
  rw[e1];have s2:=s1.trans (Same.new (o:=.lst ((List.replicate t.goals.length (0:Int)).map V.int)) hn);have hN:IntsAt (upd (upd H l (.lst [V.int 0])) n (.lst ((List.replicate t.goals.length (0:Int)).map V.int))) n (List.replicate t.goals.length 0):=upd_same;generalize upd (upd H l (.lst [V.int 0])) n (.lst ((List.replicate t.goals.length (0:Int)).map V.int))=H2 at s2 hN ⊢;refine⟨_,rfl,x,C,dx,_,_,rfl,s2 _ _ T.ins,TC.cl,TC.journeys,tf_journeys t a b c,_,rfl,x,C,dx,_,_,rfl,s2 _ _ T.ins,TC.cl,TC.limits,tf_limits t a b c,a,_,rfl,.inl (SqL.of (s2 _ _ Rl.lst)),_,_,rfl,rfl,_,rfl,by omega,by rw[lmp];omega,?_⟩;have e2:((t.journeys:Int)+(((las.map V.ref).length:Nat):Int)).toNat=t.journeys+t.limits.length:=by rw[lmp,hll];omega
  rw[e2];refine for_it (n:=t.journeys+t.limits.length) (fun i σ H'=>∃ v,σ=[some (.ref x),some (.ref n),v,none]/\Same H2 H'/\SN.enteringFrom t (t.journeys+t.limits.length-i) i=SN.entering t)
   ⟨none,rfl,Same.refl _,rfl⟩ (fun i σ H' hi _=>by show i<_;omega) (fun σ H' _=>by show _<=_;omega) ?_ ?_
  ·rintro i z σ H' H'' hi ⟨v,rfl,sm,hE⟩ ⟨rfl,rfl⟩;have T':=(T.same s2).same sm;have Rg':=(Rg.same s2).same sm;refine⟨_,rfl,x,C,dx,_,_,rfl,T'.ins,TC.cl,TC.goals,tf_goals t a b c,b,rfl,⟨_,SqL.of Rg'.lst⟩,fun D hD=>?_⟩;refine coll_vals (n:=(gas.map V.ref).length) (fun j z H2=>(gas.map V.ref)[j]?=some z) ((SN.colVec t i).map V.int) (itl_go (SqL.of Rg'.lst)) (itl_stop (SqL.of Rg'.lst)) (itl_yld (SqL.of Rg'.lst)) (by simp[SN.colVec,hgl]) (by rw[lmp];omega) hD ?_ (fun H1 s1' hq=>?_)
   ·intro j z y H4 R hj hy sm4 hz hR;obtain⟨z0,hz0,rfl⟩:=refs_get hz;obtain⟨rfl,hj1⟩:=ints_get hy;have hrow:=Rg'.at_ j z0 hz0;have hjg:j<t.goals.length:=by rw[<-hgl];exact(List.getElem?_eq_some_iff.mp hz0).1
    have hlen:(t.goals.getD j []).length=t.journeys+t.limits.length+1:=dm.grow _ (SN.getD_mem _ _ _ hjg);refine⟨rfl,_,rfl,_,rfl,z0,_,_,_,rfl,rfl,SqL.of (sm4 _ _ hrow),ints_at' (i:=i) (by omega) (by omega),?_⟩;have:=hR H4 (Same.refl _);simp only[SN.colVec] at this;rw[SN.getD_map_lt _ _ _ [] _ hjg] at this;exact this
   ·refine⟨_,rfl,D,n,_,_,rfl,rfl,hq,s1' _ _ (sm _ _ hN),_,rfl,?_⟩;have e4:t.journeys+t.limits.length-i=(t.journeys+t.limits.length-(i+1))+1:=by omega
    rw[e4] at hE;simp only[SN.enteringFrom] at hE;refine ite2 (fun hc=>?_) (fun hc=>?_)
    ·have hneg:SN.isNeg t i=true:=hc;rw[if_pos hneg] at hE;refine⟨_,rfl,?_⟩;have:=k H1 ((s2.trans sm).trans s1');rw[<-hE] at this;have e5:(0:Int)+(i:Int)=(i:Int):=by omega
     rw[e5];exact this
    ·have hneg:¬SN.isNeg t i=true:=hc;rw[if_neg hneg] at hE;exact⟨_,rfl,sm.trans s1',hE⟩
  ·rintro σ H' ⟨v,rfl,sm,hE⟩;rw[Nat.sub_self] at hE;have:=k H' (s2.trans sm);rw[<-hE] at this;exact this
end
end My
end
section
set_option maxRecDepth 100000
set_option maxHeartbeats 2000000
namespace My
open PySem PySem.Spec PyProof.Rows L2
theorem last_at{ns:List Int}{n:Nat}(h:ns.length=n+1):atI (ns.map V.int) (-1)=some (V.int (ns.getD n 0)):=by
 unfold atI ixN;rw[if_neg (by decide),if_pos (by rw[lmp];omega)];have e:((-1:Int)+((ns.map V.int).length:Nat)).toNat=n:=by rw[lmp];omega
 show(ns.map V.int)[_]?=_;rw[e,List.getElem?_map,gEe (by omega),gDe,gEe (by omega)];rfl
theorem cut_ints{ns:List Int}{lo hi:Nat}(h:lo<=hi)(h2:hi<=ns.length):cutV (ns.map V.int) (some (lo:Int)) (some (hi:Int))=((ns.drop lo).take (hi-lo)).map V.int:=by
 unfold cutV;rw[HT.sIx_nat,HT.sIx_nat,lmp,List.map_take,List.map_drop,Nat.min_eq_left h2,Nat.min_eq_left (show lo<=ns.length by omega)]
abbrev sParts:Stmt:=top 10
def spParts(C:Addr):Sp:=fun vs H Q _=>∃ (x dx a b c:Addr) (t:SN.TL) (i:Nat),vs=[.ref x,.int i]/\TabAs C H x dx a b c t/\Dim t/\i<t.limits.length/\
 ∀ (H':Hp) (p:Addr),Same H H'->H p=none->IntsAt H' p (SN.parts t i)->Q (.ref p) H'
section
variable{P:Program}{w:World}{K:PySem.W.Frag}{mg:Str->Option Value}{base:Heap}
theorem scParts:FnScope ["table","number","limit"] ["table","number"] (defScope sParts):=⟨rfl,rfl,rfl,by decide +kernel,rfl,by decide +kernel,by decide +kernel⟩
theorem ok_parts{f C:Addr}{fd:FuncData}(F:Fun K "amount_parts" "amount_parts" sParts f fd)(TC:TabC K C):FnOk P w K mg base CX0 1 f fd ["table","number"] (spParts C):=by
 refine F.ok scParts (fun vs H Q E h=>?_) (fun cdv A outer s H vs Q E hr h=>?_)
 ·obtain⟨x,dx,a,b,c,t,i,rfl,_⟩:=h;rfl
 ·obtain⟨x,dx,a,b,c,t,i,rfl,T,dm,hi,k⟩:=h;refine⟨_,pss_cons (ps_set (i:=2) scParts.nd rfl (.inl rfl) (pe_ix ix_list (pe_fld (pv 0) rfl) (pv 1) (fun _ _=>rfl)))
   (pss_one (ps_ret (pe_op op_cat (pe_lst (pa_cons (pe_ix ix_list (pv 2) (pe_un un_neg pe_int) (fun _ _=>rfl)) pa_nil)) (pe_slice sl_list (pv 2) (po_some (pe_fld (pv 0) rfl)) (po_some (pe_op op_add (pe_fld (pv 0) rfl) (pe_fld (pv 0) rfl))))))),?_⟩
  obtain⟨las,Rl⟩:=T.lim;obtain⟨z,hz,haz,hrow⟩:=refs_at Rl hi;have hlen:(t.limits.getD i []).length=t.journeys+t.limits.length+1:=dm.lrow _ (SN.getD_mem _ _ _ hi);have:=dm.jl;have:=dm.ll;have:=dm.legs;refine⟨_,rfl,x,C,dx,_,_,rfl,T.ins,TC.cl,TC.limits,tf_limits t a b c,_,rfl,a,_,_,_,rfl,rfl,SqL.of Rl.lst,haz,?_⟩;refine⟨_,rfl,_,rfl,z,_,_,_,rfl,rfl,SqL.of hrow,last_at (n:=t.journeys+t.limits.length) hlen,(by show 1<=sizeLine;decide),fun l hl=>?_⟩;have s1:=Same.new (o:=.lst [V.int ((t.limits.getD i []).getD (t.journeys+t.limits.length) 0)]) hl;refine⟨_,rfl,_,rfl,x,C,dx,_,_,rfl,s1 _ _ T.ins,TC.cl,TC.journeys,tf_journeys t a b c,_,rfl,_,rfl,x,C,dx,_,_,rfl,s1 _ _ T.ins,TC.cl,TC.journeys,tf_journeys t a b c,_,rfl,x,C,dx,_,_,rfl,s1 _ _ T.ins,TC.cl,TC.legs,tf_legs t a b c,_,_,rfl,rfl,_,rfl,z,_,rfl,SqL.of (s1 _ _ hrow),fun q hq=>?_⟩;have ec:cutV ((t.limits.getD i []).map V.int) (some ((t.journeys:Nat):Int)) (some (((t.journeys:Nat):Int)+((t.legs:Nat):Int)))=(((t.limits.getD i []).drop t.journeys).take t.legs).map V.int:=by
   have e:((t.journeys:Nat):Int)+((t.legs:Nat):Int)=((t.journeys+t.legs:Nat):Int):=by omega
   rw[e,cut_ints (by omega) (by omega),Nat.add_sub_cancel_left]
  rw[ec];have s2:=Same.new (o:=.lst ((((t.limits.getD i []).drop t.journeys).take t.legs).map V.int)) hq;refine⟨l,q,_,_,rfl,rfl,s2 _ _ upd_same,upd_same,?_,fun p hp=>?_⟩
  ·rw[lmp,List.length_take];show 1+_<=sizeLine;exact Nat.le_of_lt (small1000 (by omega))
  ·refine k _ p (s1.trans (s2.trans (Same.new hp))) ((s1.trans s2).free hp) ?_;unfold IntsAt;rw[upd_same];rfl
end
abbrev sBefore:Stmt:=top 9
def spBefore(C:Addr):Sp:=fun vs H Q _=>∃ (x dx a b c:Addr) (t:SN.TL) (i r col:Nat),vs=[.ref x,.int i,.int r,.int col]/\TabAs C H x dx a b c t/\Dim t/\i<t.limits.length/\r<t.limits.length/\col<=t.journeys+t.limits.length/\
 Sm (SN.cellL t.limits i col)/\Sm (SN.cellL t.limits r col)/\∀ H':Hp,Same H H'->Q (.bl (SN.before t i r col)) H'
section
variable{P:Program}{w:World}{K:PySem.W.Frag}{mg:Str->Option Value}{base:Heap}
theorem scBefore:FnScope ["table","number","other","column","step","other_step","ahead","behind","part"] ["table","number","other","column"] (defScope sBefore):=⟨rfl,rfl,rfl,by decide +kernel,rfl,by decide +kernel,by decide +kernel⟩
theorem ok_before{f fP C:Addr}{fd fdP:FuncData}(F:Fun K "reached_before" "reached_before" sBefore f fd)(TC:TabC K C)(CP:Cal P w K mg base 1 "amount_parts" ["table","number"] (spParts C) fP fdP):
  FnOk P w K mg base CX0 2 f fd ["table","number","other","column"] (spBefore C):=by
 refine F.ok scBefore (fun vs H Q E h=>?_) (fun cdv A outer s H vs Q E hr h=>?_)
 ·obtain⟨x,dx,a,b,c,t,i,r,col,rfl,_⟩:=h;rfl
 ·obtain⟨x,dx,a,b,c,t,i,r,col,rfl,T,dm,hi,hrr,hcol,si,sr,k⟩:=h;refine⟨_,pss_cons (ps_set (i:=4) scBefore.nd rfl (.inr rfl) (pe_ix ix_list (pe_ix ix_list (pe_fld (pv 0) rfl) (pv 1) (fun _ _=>rfl)) (pv 3) (fun _ _=>rfl)))
   (pss_cons (ps_set (i:=5) scBefore.nd rfl (.inr rfl) (pe_ix ix_list (pe_ix ix_list (pe_fld (pv 0) rfl) (pv 2) (fun _ _=>rfl)) (pv 3) (fun _ _=>rfl)))
   (pss_cons (ps_setLc (i:=6) rfl scBefore.nd rfl rfl (sw_true rfl rfl rfl rfl) (pi_list (pe_call CP.ok hr rfl CP.mg CP.kp CP.b .nil pass0 (pa_cons (pv 0) (pa_cons (pv 1) pa_nil))))
    (blkOk_by (own:=[("part",8)]) (by rfl)) (fun _ _ _ _ _=>pg_name (i:=8) scBefore.nd rfl (.inl rfl)) (fun _ _ _ _ _=>pts_nil) (fun _ _ _ _ _=>pe_op op_mul (pv 8) (pv 5)))
   (pss_cons (ps_setLc (i:=7) rfl scBefore.nd rfl rfl (sw_true rfl rfl rfl rfl) (pi_list (pe_call CP.ok hr rfl CP.mg CP.kp CP.b .nil pass0 (pa_cons (pv 0) (pa_cons (pv 2) pa_nil))))
    (blkOk_by (own:=[("part",8)]) (by rfl)) (fun _ _ _ _ _=>pg_name (i:=8) scBefore.nd rfl (.inl rfl)) (fun _ _ _ _ _=>pts_nil) (fun _ _ _ _ _=>pe_op op_mul (pv 8) (pv 4)))
   (pss_one (ps_ret (pe_cmpR (op_ltL hr.units0) (pe_op op_cat (pv 6) (pe_lst (pa_cons (pe_ix ix_list (pe_fld (pv 0) rfl) (pv 1) (fun _ _=>rfl)) pa_nil)))
    (pe_op op_cat (pv 7) (pe_lst (pa_cons (pe_ix ix_list (pe_fld (pv 0) rfl) (pv 2) (fun _ _=>rfl)) pa_nil))) (nomark _))))))),?_⟩
  obtain⟨las,Rl⟩:=T.lim;obtain⟨z,hz,haz,hrow⟩:=refs_at Rl hi;obtain⟨y,hy,hay,hrow2⟩:=refs_at Rl hrr;have hlen:(t.limits.getD i []).length=t.journeys+t.limits.length+1:=dm.lrow _ (SN.getD_mem _ _ _ hi);have hlen2:(t.limits.getD r []).length=t.journeys+t.limits.length+1:=dm.lrow _ (SN.getD_mem _ _ _ hrr);have:=dm.jl;have:=dm.ll;have:=dm.legs;have:=dm.hlen;have lp:∀ j,(SN.parts t j).length<=101:=fun j=>by simp only[SN.parts,List.length_cons,List.length_take];omega
  refine⟨_,rfl,x,C,dx,_,_,rfl,T.ins,TC.cl,TC.limits,tf_limits t a b c,_,rfl,a,_,_,_,rfl,rfl,SqL.of Rl.lst,haz,_,rfl,z,_,_,_,rfl,rfl,SqL.of hrow,ints_at (by omega),?_⟩;refine⟨_,rfl,x,C,dx,_,_,rfl,T.ins,TC.cl,TC.limits,tf_limits t a b c,_,rfl,a,_,_,_,rfl,rfl,SqL.of Rl.lst,hay,_,rfl,y,_,_,_,rfl,rfl,SqL.of hrow2,ints_at (by omega),?_⟩;refine⟨_,rfl,_,rfl,x,dx,a,b,c,t,i,rfl,T,dm,hi,fun H1 p s1 np hp=>?_⟩;refine⟨p,rfl,⟨_,SqL.of hp⟩,fun D hD=>?_⟩;refine coll_vals (n:=((SN.parts t i).map V.int).length) (fun j z H2=>((SN.parts t i).map V.int)[j]?=some z) (((SN.parts t i).map fun q=>q*SN.cellL t.limits r col).map V.int) (itl_go (SqL.of hp)) (itl_stop (SqL.of hp)) (itl_yld (SqL.of hp)) (by simp) (by rw[lmp];have:=lp i;omega) hD ?_ (fun H2 s2 hq2=>?_)
  ·intro j u v H4 R hj hv sm hu hR;obtain⟨rfl,hj1⟩:=ints_get hu;obtain⟨rfl,hj2⟩:=ints_get hv;refine⟨rfl,_,rfl,_,rfl,_,_,rfl,rfl,.inr sr,?_⟩;have:=hR H4 (Same.refl _);rw[SN.getD_map_lt _ _ _ 0 _ hj1] at this;exact this
  have T2:=(T.same s1).same s2;refine⟨_,rfl,_,rfl,x,dx,a,b,c,t,r,rfl,T2,dm,hrr,fun H3 p3 s3 np3 hp3=>?_⟩;refine⟨p3,rfl,⟨_,SqL.of hp3⟩,fun D2 hD2=>?_⟩;refine coll_vals (n:=((SN.parts t r).map V.int).length) (fun j z H2=>((SN.parts t r).map V.int)[j]?=some z) (((SN.parts t r).map fun q=>q*SN.cellL t.limits i col).map V.int) (itl_go (SqL.of hp3)) (itl_stop (SqL.of hp3)) (itl_yld (SqL.of hp3)) (by simp) (by rw[lmp];have:=lp r;omega) hD2 ?_ (fun H4 s4 hq4=>?_)
  ·intro j u v H4 R hj hv sm hu hR;obtain⟨rfl,hj1⟩:=ints_get hu;obtain⟨rfl,hj2⟩:=ints_get hv;refine⟨rfl,_,rfl,_,rfl,_,_,rfl,rfl,.inr si,?_⟩;have:=hR H4 (Same.refl _);rw[SN.getD_map_lt _ _ _ 0 _ hj1] at this;exact this
  have s04:=(s1.trans s2).trans (s3.trans s4);have T4:=T.same s04;have hq2':=s4 _ _ (s3 _ _ hq2);refine⟨_,rfl,_,rfl,x,C,dx,_,_,rfl,T4.ins,TC.cl,TC.holders,tf_holders t a b c,_,rfl,c,_,_,_,rfl,rfl,SqL.of T4.hol,ints_at (by omega),(by show 1<=sizeLine;decide),fun l hl=>?_⟩;have s5:=Same.new (o:=.lst [V.int (t.holders.getD i 0)]) hl;refine⟨D,l,_,_,rfl,rfl,s5 _ _ hq2',upd_same,?_,fun q hq=>?_⟩
  ·rw[lmp,lmp];show _+1<=sizeLine;have:=lp i;exact Nat.le_of_lt (small1000 (by omega))
  have s6:=s5.trans (Same.new (o:=.lst ((((SN.parts t i).map fun q=>q*SN.cellL t.limits r col).map V.int)++[V.int (t.holders.getD i 0)])) hq);have hQ:IntsAt (upd (upd H4 l (.lst [V.int (t.holders.getD i 0)])) q (.lst ((((SN.parts t i).map fun q=>q*SN.cellL t.limits r col).map V.int)++[V.int (t.holders.getD i 0)]))) q (((SN.parts t i).map fun q=>q*SN.cellL t.limits r col)++[t.holders.getD i 0]):=by
   unfold IntsAt;rw[upd_same,List.map_append];rfl
  generalize upd (upd H4 l (.lst [V.int (t.holders.getD i 0)])) q (.lst ((((SN.parts t i).map fun q=>q*SN.cellL t.limits r col).map V.int)++[V.int (t.holders.getD i 0)]))=H5 at s6 hQ ⊢;have T5:=T4.same s6;refine⟨_,rfl,_,rfl,x,C,dx,_,_,rfl,T5.ins,TC.cl,TC.holders,tf_holders t a b c,_,rfl,c,_,_,_,rfl,rfl,SqL.of T5.hol,ints_at (by omega),(by show 1<=sizeLine;decide),fun l2 hl2=>?_⟩;have s7:=Same.new (o:=.lst [V.int (t.holders.getD r 0)]) hl2;refine⟨D2,l2,_,_,rfl,rfl,s7 _ _ (s6 _ _ hq4),upd_same,?_,fun q2 hq2''=>?_⟩
  ·rw[lmp,lmp];show _+1<=sizeLine;have:=lp r;exact Nat.le_of_lt (small1000 (by omega))
  have s8:=s7.trans (Same.new (o:=.lst ((((SN.parts t r).map fun q=>q*SN.cellL t.limits i col).map V.int)++[V.int (t.holders.getD r 0)])) hq2'');refine⟨q,q2,_,((SN.parts t r).map fun q=>q*SN.cellL t.limits i col)++[t.holders.getD r 0],rfl,rfl,s8 _ _ hQ,?_,?_⟩
  ·unfold IntsAt;rw[upd_same,List.map_append];rfl
  ·exact k _ (s04.trans (s6.trans s8))
end
end My
end
section
set_option maxRecDepth 100000
set_option maxHeartbeats 2000000
namespace My
open PySem PySem.Spec PyProof.Rows L2
abbrev sLeaving:Stmt:=top 8
def spLeaving(C:Addr):Sp:=fun vs H Q _=>∃ (x dx a b c:Addr) (t:SN.TL) (col:Nat),vs=[.ref x,.int col]/\TabAs C H x dx a b c t/\Dim t/\col<=t.journeys+t.limits.length/\
 (∀ i,i<t.limits.length->Sm (SN.cellL t.limits i col))/\∀ H':Hp,Same H H'->Q (optV (SN.leaving t col)) H'
theorem upto_lt(t:SN.TL)(c:Nat):∀ (k r:Nat),SN.leavingUpto t c k=some r->r<k
 | 0,r,h=>by cases h
 | k+1,r,h=>by
  simp only[SN.leavingUpto,SN.leaveStep] at h;split at h
  ·split at h
   ·cases h;omega
   ·rename_i r' e;split at h
    ·cases h;omega
    ·cases h;have:=upto_lt t c k r e;omega
  ·have:=upto_lt t c k r h;omega
section
variable{P:Program}{w:World}{K:PySem.W.Frag}{mg:Str->Option Value}{base:Heap}
theorem scLeaving:FnScope ["table","column","reached","number","limit"] ["table","column"] (defScope sLeaving):=⟨rfl,rfl,rfl,by decide +kernel,rfl,by decide +kernel,by decide +kernel⟩
theorem ok_leaving{f fB C:Addr}{fd fdB:FuncData}(F:Fun K "leaving" "leaving" sLeaving f fd)(B:Blt mg)(TC:TabC K C)(CB:Cal P w K mg base 2 "reached_before" ["table","number","other","column"] (spBefore C) fB fdB):
  FnOk P w K mg base CX0 3 f fd ["table","column"] (spLeaving C):=by
 refine F.ok scLeaving (fun vs H Q E h=>?_) (fun cdv A outer s H vs Q E hr h=>?_)
 ·obtain⟨x,dx,a,b,c,t,col,rfl,_⟩:=h;rfl
 ·obtain⟨x,dx,a,b,c,t,col,rfl,T,dm,hcol,hsm,k⟩:=h;refine⟨_,pss_cons (ps_set (i:=2) scLeaving.nd rfl (.inl rfl) pe_non)
   (pss_cons (ps_for PassesOwn.never rfl (pi_enum rfl B.enum (pa_cons (pe_fld (pv 0) rfl) pa_nil)) (pg_tup rfl (pgs_cons (pg_name (i:=3) scLeaving.nd rfl (.inl rfl)) (pgs_cons (pg_name (i:=4) scLeaving.nd rfl (.inl rfl)) pgs_nil)))
    (pss_one (ps_if (PW.pt (pw_and (pt_cmpR op_gt (pe_ix ix_list (pv 4) (pv 1) (fun _ _=>rfl)) pe_int (nomark _)) (pw_and1 (PW.pt (pw_or (pt_cmp (pc_isN (pv 2)))
     (pw_or1 (pt_val (pe_call CB.ok hr rfl CB.mg CB.kp CB.b .nil pass0 (pa_cons (pv 0) (pa_cons (pv 3) (pa_cons (pv 2) (pa_cons (pv 1) pa_nil)))))))))))) (pss_one (ps_set (i:=2) scLeaving.nd rfl (.inl rfl) (pv 3))) pss_nil)))
   (pss_one (ps_ret (pv 2)))),?_⟩
  obtain⟨las,Rl⟩:=T.lim;have hll:las.length=t.limits.length:=Rl.len;have:=dm.jl;have:=dm.ll;refine⟨_,rfl,x,C,dx,_,_,rfl,T.ins,TC.cl,TC.limits,tf_limits t a b c,a,_,rfl,SqL.of Rl.lst,?_⟩;refine for_it (n:=(las.map V.ref).length) (fun i σ H'=>∃ v3 v4,σ=[some (.ref x),some (.int col),some (optV (SN.leavingUpto t col i)),v3,v4]/\Same H H')
   ⟨none,none,rfl,Same.refl _⟩ (fun i σ H' hi ⟨_,_,_,sm⟩=>⟨_,_,SqL.of (sm _ _ Rl.lst),gEe hi⟩) (fun σ H' ⟨_,_,_,sm⟩=>⟨_,SqL.of (sm _ _ Rl.lst),Nat.le_refl _⟩) ?_ ?_
  ·rintro i z σ H' H'' hi ⟨v3,v4,rfl,sm⟩ ⟨Tp,u,rfl,hT,rfl,hy⟩;obtain⟨u0,hu0,rfl⟩:=refs_get (hy _ (SqL.of (sm _ _ Rl.lst)));have hil:i<t.limits.length:=by rw[<-hll];simpa using hi
   have hrow:=Rl.at_ i u0 hu0;have hlen:(t.limits.getD i []).length=t.journeys+t.limits.length+1:=dm.lrow _ (SN.getD_mem _ _ _ hil);have sT:=sm.trans (Same.new (o:=.tup [V.int (i:Nat),V.ref u0]) hT);have hTp:upd H' Tp (.tup [V.int (i:Nat),V.ref u0]) Tp=some (.tup [V.int (i:Nat),V.ref u0]):=upd_same;generalize upd H' Tp (.tup [V.int (i:Nat),V.ref u0])=H2 at sT hTp ⊢;refine⟨Tp,_,rfl,SqT.of hTp,rfl,_,_,rfl,_,_,rfl,rfl,?_⟩;have step:SN.leavingUpto t col (i+1)=SN.leaveStep t col (SN.leavingUpto t col i) i:=rfl;refine⟨_,rfl,_,rfl,u0,_,_,_,rfl,rfl,SqL.of (sT _ _ hrow),ints_at (by omega),_,_,rfl,rfl,_,rfl,?_⟩;have ecell:SN.cellL t.limits i col=(t.limits.getD i []).getD col 0:=rfl;refine ite2 (fun hpos=>?_) (fun hpos=>?_)
   ·have hp:0<SN.cellL t.limits i col:=by rw[ecell];exact of_decide_eq_true hpos
    refine⟨_,rfl,_,rfl,?_⟩;cases hU:SN.leavingUpto t col i with
    | none=>
     refine iteT ?_;refine iteT ?_;refine⟨_,rfl,some (.int (i:Nat)),some (.ref u0),?_,sT⟩;rw[step,hU];simp only[SN.leaveStep,if_pos hp];rfl
    | some r=>
     refine iteF ?_;have hrl:r<t.limits.length:=Nat.lt_trans (upto_lt t col i r hU) hil;refine⟨_,rfl,_,rfl,_,rfl,_,rfl,x,dx,a,b,c,t,i,r,col,rfl,T.same sT,dm,hil,hrl,hcol,hsm i hil,hsm r hrl,fun H3 s3=>?_⟩;refine⟨_,rfl,?_⟩;refine ite2 (fun hb=>?_) (fun hb=>?_)
     ·refine⟨_,rfl,some (.int (i:Nat)),some (.ref u0),?_,sT.trans s3⟩;rw[step,hU];simp only[SN.leaveStep,if_pos hp,if_pos hb];rfl
     ·refine⟨some (.int (i:Nat)),some (.ref u0),?_,sT.trans s3⟩;rw[step,hU];simp only[SN.leaveStep,if_pos hp,if_neg hb];rfl
   ·have hp:¬0<SN.cellL t.limits i col:=by
     rw[ecell];intro q;exact hpos (decide_eq_true q)
    refine iteF ?_;refine⟨some (.int (i:Nat)),some (.ref u0),?_,sT⟩;rw[step];simp only[SN.leaveStep,if_neg hp];rfl
  ·rintro σ H' ⟨v3,v4,rfl,sm⟩;refine⟨_,rfl,?_⟩;have e:SN.leavingUpto t col (las.map V.ref).length=SN.leaving t col:=by rw[lmp,hll];rfl
   rw[e];exact k H' sm
end
end My
end
section
set_option maxRecDepth 100000
set_option maxHeartbeats 2000000
namespace My
open PySem PySem.Spec PyProof.Rows L2
theorem RowsAs.upd_lst{H:Hp}{c a:Addr}{hs:List Int}{ys:List V}{as:List Addr}{rs:List (List Int)}(hc:IntsAt H c hs)(h:RowsAs H a as rs)(hl:∀ r,r∈rs->r.length≠hs.length)(hne:hs≠[]):
  RowsAs (upd H c (.lst ys)) a as rs:=by
 have ac:a≠c:=by
  intro e;have h1:=h.lst;unfold IntsAt at hc;rw[e,hc] at h1;have h2:=Option.some.inj h1;injection h2 with h3;cases hs with
  | nil=>exact hne rfl
  | cons z r=>cases as with
   | nil=>simp at h3
   | cons y q=>simp at h3
 refine⟨by rw[upd_ne ac];exact h.lst,h.len,fun i z e=>?_⟩;have hz:=h.at_ i z e;have zc:z≠c:=by
  intro e';unfold IntsAt at hz hc;rw[e',hc] at hz;have h2:=Option.some.inj hz;injection h2 with h3;have h4:=congrArg List.length h3;rw[lmp,lmp] at h4;have hi:i<rs.length:=by rw[<-h.len];exact(List.getElem?_eq_some_iff.mp e).1
  exact hl _ (SN.getD_mem rs i [] hi) h4.symm
 unfold IntsAt at hz ⊢;rw[upd_ne zc];exact hz
theorem RowsAs.set{H:Hp}{a z:Addr}{as:List Addr}{rs:List (List Int)}{r:List Int}{j:Nat}(h:RowsAs H a as rs)(hj:j<rs.length)(hz:IntsAt H z r)(hza:z≠a):
  RowsAs (upd H a (.lst ((as.map V.ref).set j (V.ref z)))) a (as.set j z) (rs.set j r):=by
 refine⟨by rw[upd_same,List.map_set],by simp[h.len],fun i b e=>?_⟩;unfold IntsAt;by_cases c:i=j
 ·subst c;rw[List.getElem?_set_self (by rw[h.len];exact hj)] at e;have:z=b:=Option.some.inj e;subst this;rw[upd_ne hza,gDe,List.getElem?_set_self hj];exact hz
 ·rw[List.getElem?_set_ne (fun q=>c q.symm)] at e;rw[upd_ne (h.ne e),gDe,List.getElem?_set_ne (fun q=>c q.symm),<-gDe];exact h.at_ i b e
abbrev sTurn:Stmt:=top 11
def spTurn(C:Addr):Sp:=fun vs H Q _=>∃ (x dx a b c:Addr) (t:SN.TL) (r col:Nat),vs=[.ref x,.int r,.int col]/\TabAs C H x dx a b c t/\Dim t/\r<t.limits.length/\col<=t.journeys+t.limits.length/\
 0<t.below/\t.below<1073741824/\(∀ i,i<t.limits.length->Sm (SN.cellL t.limits i col))/\(∀ i,i<t.goals.length->Sm (SN.cellL t.goals i col))/\
 ∀ (H':Hp) (a' b':Addr),(∀ y o,H y=some o->y≠x->y≠c->H' y=some o)->TabAs C H' x dx a' b' c (SN.turnL t r col)->Q .non H'
section
variable{P:Program}{w:World}{K:PySem.W.Frag}{mg:Str->Option Value}{base:Heap}
theorem scTurn:FnScope ["table","number","column","pivot_row","below","limits","goal","limit"] ["table","number","column"] (defScope sTurn):=⟨rfl,rfl,rfl,by decide +kernel,rfl,by decide +kernel,by decide +kernel⟩
theorem ok_turn{f fC C:Addr}{fd fdC:FuncData}(F:Fun K "turn" "turn" sTurn f fd)(TC:TabC K C)(CC:Cal P w K mg base 1 "cleared" ["row","pivot_row","column","below"] spCleared fC fdC):
  FnOk P w K mg base CX0 2 f fd ["table","number","column"] (spTurn C):=by
 refine F.ok scTurn (fun vs H Q E h=>?_) (fun cdv A outer s H vs Q E hr h=>?_)
 ·obtain⟨x,dx,a,b,c,t,r,col,rfl,_⟩:=h;rfl
 ·obtain⟨x,dx,a,b,c,t,r,col,rfl,T,dm,hrl,hcol,hb0,hb1,hsm,hsg,k⟩:=h;refine⟨_,pss_cons (ps_set (i:=3) scTurn.nd rfl (.inr rfl) (pe_ix ix_list (pe_fld (pv 0) rfl) (pv 1) (fun _ _=>rfl)))
   (pss_cons (ps_set (i:=4) scTurn.nd rfl (.inr rfl) (pe_fld (pv 0) rfl))
   (pss_cons (ps_fld (pv 0) (pe_lc rfl scTurn.nd (pi_list (pe_fld (pv 0) rfl)) (blkOk_by (own:=[("goal",6)]) (by rfl)) (fun _ _ _ _ _=>pg_name (i:=6) scTurn.nd rfl (.inl rfl)) (fun _ _ _ _ _=>pts_nil)
    (fun _ _ _ _ _=>pe_call CC.ok hr rfl CC.mg CC.kp CC.b .nil pass0 (pa_cons (pv 6) (pa_cons (pv 3) (pa_cons (pv 2) (pa_cons (pv 4) pa_nil)))))) rfl)
   (pss_cons (ps_setLc (i:=5) rfl scTurn.nd rfl rfl (sw_true rfl rfl rfl rfl) (pi_list (pe_fld (pv 0) rfl)) (blkOk_by (own:=[("limit",7)]) (by rfl)) (fun _ _ _ _ _=>pg_name (i:=7) scTurn.nd rfl (.inl rfl)) (fun _ _ _ _ _=>pts_nil)
    (fun _ _ _ _ _=>pe_call CC.ok hr rfl CC.mg CC.kp CC.b .nil pass0 (pa_cons (pv 7) (pa_cons (pv 3) (pa_cons (pv 2) (pa_cons (pv 4) pa_nil))))))
   (pss_cons (ps_asg (pv 3) (pg_sub (pv 5) (pv 1) set_list))
   (pss_cons (ps_fld (pv 0) (pv 5) rfl)
   (pss_cons (ps_asg (pv 2) (pg_sub (pe_fld (pv 0) rfl) (pv 1) set_list))
   (pss_one (ps_fld (pv 0) (pe_ix ix_list (pv 3) (pv 2) (fun _ _=>rfl)) rfl)))))))),?_⟩
  obtain⟨las,Rl⟩:=T.lim;obtain⟨gas,Rg⟩:=T.goa;obtain⟨z,hz,haz,hrow⟩:=refs_at Rl hrl;have hll:las.length=t.limits.length:=Rl.len;have hgl:gas.length=t.goals.length:=Rg.len;have hlen:(t.limits.getD r []).length=t.journeys+t.limits.length+1:=dm.lrow _ (SN.getD_mem _ _ _ hrl);have:=dm.jl;have:=dm.ll;have:=dm.gl;have hhl:=dm.hlen;have hT:=T.hol;refine⟨_,rfl,x,C,dx,_,_,rfl,T.ins,TC.cl,TC.limits,tf_limits t a b c,_,rfl,a,_,_,_,rfl,rfl,SqL.of Rl.lst,haz,?_⟩;refine⟨_,rfl,x,C,dx,_,_,rfl,T.ins,TC.cl,TC.below,tf_below t a b c,?_⟩;refine⟨_,rfl,x,C,dx,_,_,rfl,T.ins,TC.cl,TC.goals,tf_goals t a b c,b,rfl,⟨_,SqL.of Rg.lst⟩,fun D hD=>?_⟩;refine coll_rows (n:=(gas.map V.ref).length) (fun j u H2=>(gas.map V.ref)[j]?=some u) (SN.turnL t r col).goals (itl_go (SqL.of Rg.lst)) (itl_stop (SqL.of Rg.lst)) (itl_yld (SqL.of Rg.lst)) (by simp[SN.turnL,hgl]) (by rw[lmp];omega) hD ?_ (fun H1 gs s1 RG fr1=>?_)
  ·intro j u H4 R hj sm hu hR;obtain⟨u0,hu0,rfl⟩:=refs_get hu;have hjg:j<t.goals.length:=by rw[<-hgl];exact(List.getElem?_eq_some_iff.mp hu0).1
   have hlg:(t.goals.getD j []).length=t.journeys+t.limits.length+1:=dm.grow _ (SN.getD_mem _ _ _ hjg);refine⟨rfl,_,rfl,_,rfl,_,rfl,_,rfl,u0,z,_,_,col,t.below,rfl,sm _ _ (Rg.at_ j u0 hu0),sm _ _ hrow,by omega,by omega,by omega,hb0,hb1,hsm r hrl,hsg j hjg,fun H5 p s5 np hp=>hR H5 p s5 np ?_⟩;have e:(SN.turnL t r col).goals.getD j []=SN.cleared (t.goals.getD j []) (t.limits.getD r []) col t.below:=by
    simp only[SN.turnL];rw[SN.getD_map_lt _ _ _ [] _ hjg]
   rw[e];exact hp
  have x1:=s1 _ _ T.ins;refine⟨_,rfl,x,C,dx,_,rfl,x1,TC.cl,TC.goals,(by show 6<1000;decide),?_⟩;have e1:putF "goals" (V.ref D) (tf t a b c)=tf t a D c:=
   putF_in (pre:=[("legs",.int t.legs),("journeys",.int t.journeys),("limits",.ref a)]) (show(["legs","journeys","limits"]:List Str).contains "goals"=false by decide +kernel)
  have RG2:=RG.upd_ins (C:=C) (dx:=dx) (fs:=putF "goals" (V.ref D) (tf t a b c)) x1;have Rl2:=(Rl.same s1).upd_ins (C:=C) (dx:=dx) (fs:=putF "goals" (V.ref D) (tf t a b c)) x1;have hc2:=IntsAt.upd_ins (C:=C) (dx:=dx) (fs:=putF "goals" (V.ref D) (tf t a b c)) x1 (IntsAt.same s1 hT);have hrow2:=IntsAt.upd_ins (C:=C) (dx:=dx) (fs:=putF "goals" (V.ref D) (tf t a b c)) x1 (IntsAt.same s1 hrow);have x2:upd H1 x (.ins C dx (putF "goals" (V.ref D) (tf t a b c))) x=some (.ins C dx (tf t a D c)):=by rw[upd_same,e1]
  have k2:∀ y o,H y=some o->y≠x->upd H1 x (.ins C dx (putF "goals" (V.ref D) (tf t a b c))) y=some o:=fun y o e n=>by rw[upd_ne n];exact s1 _ _ e
  generalize upd H1 x (.ins C dx (putF "goals" (V.ref D) (tf t a b c)))=H2 at RG2 Rl2 hc2 hrow2 x2 k2 ⊢;refine⟨_,rfl,x,C,dx,_,_,rfl,x2,TC.cl,TC.limits,tf_limits t a D c,a,rfl,⟨_,SqL.of Rl2.lst⟩,fun D2 hD2=>?_⟩;refine coll_rows (n:=(las.map V.ref).length) (fun j u H2=>(las.map V.ref)[j]?=some u) (t.limits.map fun l=>SN.cleared l (t.limits.getD r []) col t.below) (itl_go (SqL.of Rl2.lst)) (itl_stop (SqL.of Rl2.lst)) (itl_yld (SqL.of Rl2.lst)) (by simp[hll]) (by rw[lmp];omega) hD2 ?_ (fun H3 ls s3 RL fr3=>?_)
  ·intro j u H4 R hj sm hu hR;obtain⟨u0,hu0,rfl⟩:=refs_get hu;have hjg:j<t.limits.length:=by rw[<-hll];exact(List.getElem?_eq_some_iff.mp hu0).1
   have hlg:(t.limits.getD j []).length=t.journeys+t.limits.length+1:=dm.lrow _ (SN.getD_mem _ _ _ hjg);refine⟨rfl,_,rfl,_,rfl,_,rfl,_,rfl,u0,z,_,_,col,t.below,rfl,sm _ _ (Rl2.at_ j u0 hu0),sm _ _ hrow2,by omega,by omega,by omega,hb0,hb1,hsm r hrl,hsm j hjg,fun H5 p s5 np hp=>hR H5 p s5 np ?_⟩;rw[SN.getD_map_lt _ _ _ [] _ hjg];exact hp
  have lls:ls.length=t.limits.length:=by rw[RL.len];simp
  refine⟨_,rfl,_,rfl,_,rfl,D2,_,_,r,rfl,rfl,RL.lst,?_,?_⟩
  ·rw[ixN_ok (by omega) (by rw[lmp];omega)];rfl
  have zD2:z≠D2:=ne_of_none hrow2 hD2;have RL4:=RL.set (j:=r) (z:=z) (r:=t.limits.getD r []) (by simp;exact hrl) (s3 _ _ hrow2) zD2;have RG4:RowsAs (upd H3 D2 (.lst ((ls.map V.ref).set r (V.ref z)))) D gs (SN.turnL t r col).goals:=
   ⟨by rw[upd_ne (ne_of_none RG2.lst hD2)];exact s3 _ _ RG2.lst,RG2.len,fun i b' e=>by
    have:=RG2.at_ i b' e;unfold IntsAt;rw[upd_ne (ne_of_none this hD2)];exact s3 _ _ this⟩
  have hc4:IntsAt (upd H3 D2 (.lst ((ls.map V.ref).set r (V.ref z)))) c t.holders:=by
   unfold IntsAt;rw[upd_ne (ne_of_none hc2 hD2)];exact s3 _ _ hc2
  have hrow4:IntsAt (upd H3 D2 (.lst ((ls.map V.ref).set r (V.ref z)))) z (t.limits.getD r []):=by
   unfold IntsAt;rw[upd_ne zD2];exact s3 _ _ hrow2
  have x4:upd H3 D2 (.lst ((ls.map V.ref).set r (V.ref z))) x=some (.ins C dx (tf t a D c)):=by rw[upd_ne (ne_of_none x2 hD2)];exact s3 _ _ x2
  have k4:∀ y o,H y=some o->y≠x->upd H3 D2 (.lst ((ls.map V.ref).set r (V.ref z))) y=some o:=fun y o e n=>by
   rw[upd_ne (ne_of_none (k2 y o e n) hD2)];exact s3 _ _ (k2 y o e n)
  generalize upd H3 D2 (.lst ((ls.map V.ref).set r (V.ref z)))=H4 at RL4 RG4 hc4 hrow4 x4 k4 ⊢;refine⟨_,rfl,_,rfl,x,C,dx,_,rfl,x4,TC.cl,TC.limits,(by show 6<1000;decide),?_⟩;have e2:putF "limits" (V.ref D2) (tf t a D c)=tf t D2 D c:=
   putF_in (pre:=[("legs",.int t.legs),("journeys",.int t.journeys)]) (show(["legs","journeys"]:List Str).contains "limits"=false by decide +kernel)
  have RL5:=RL4.upd_ins (C:=C) (dx:=dx) (fs:=putF "limits" (V.ref D2) (tf t a D c)) x4;have RG5:=RG4.upd_ins (C:=C) (dx:=dx) (fs:=putF "limits" (V.ref D2) (tf t a D c)) x4;have hc5:=IntsAt.upd_ins (C:=C) (dx:=dx) (fs:=putF "limits" (V.ref D2) (tf t a D c)) x4 hc4;have hrow5:=IntsAt.upd_ins (C:=C) (dx:=dx) (fs:=putF "limits" (V.ref D2) (tf t a D c)) x4 hrow4;have x5:upd H4 x (.ins C dx (putF "limits" (V.ref D2) (tf t a D c))) x=some (.ins C dx (tf t D2 D c)):=by rw[upd_same,e2]
  have k5:∀ y o,H y=some o->y≠x->upd H4 x (.ins C dx (putF "limits" (V.ref D2) (tf t a D c))) y=some o:=fun y o e n=>by rw[upd_ne n];exact k4 y o e n
  generalize upd H4 x (.ins C dx (putF "limits" (V.ref D2) (tf t a D c)))=H5 at RL5 RG5 hc5 hrow5 x5 k5 ⊢;refine⟨_,rfl,_,rfl,x,C,dx,_,_,rfl,x5,TC.cl,TC.holders,tf_holders t D2 D c,_,rfl,c,_,_,r,rfl,rfl,hc5,?_,?_⟩
  ·rw[ixN_ok (by omega) (by rw[lmp];omega)];rfl
  have hne:t.holders≠[]:=fun e=>by rw[e] at hhl;simp at hhl;omega
  have hlL:∀ q,q∈(t.limits.map fun l=>SN.cleared l (t.limits.getD r []) col t.below).set r (t.limits.getD r [])->q.length≠t.holders.length:=by
   intro q hq;rcases List.mem_or_eq_of_mem_set hq with h | h
   ·obtain⟨y,hy,rfl⟩:=List.mem_map.mp h;rw[SN.cleared_len (dm.lrow y hy) hlen];omega
   ·rw[h];omega
  have hlG:∀ q,q∈(SN.turnL t r col).goals->q.length≠t.holders.length:=by
   intro q hq;simp only[SN.turnL,List.mem_map] at hq;obtain⟨y,hy,rfl⟩:=hq;rw[SN.cleared_len (dm.grow y hy) hlen];omega
  have RL6:=RL5.upd_lst (ys:=(t.holders.map V.int).set r (V.int col)) hc5 hlL hne;have RG6:=RG5.upd_lst (ys:=(t.holders.map V.int).set r (V.int col)) hc5 hlG hne;have zc:z≠c:=by
   intro e';have h1:=hrow5;have h2:=hc5;unfold IntsAt at h1 h2;rw[e',h2] at h1;have h3:=Option.some.inj h1;injection h3 with h4;have h5:=congrArg List.length h4;rw[lmp,lmp] at h5;omega
  have xc:x≠c:=ne_of x5 hc5 (fun q=>by cases q);have hrow6:IntsAt (upd H5 c (.lst ((t.holders.map V.int).set r (V.int col)))) z (t.limits.getD r []):=by unfold IntsAt;rw[upd_ne zc];exact hrow5
  have x6:upd H5 c (.lst ((t.holders.map V.int).set r (V.int col))) x=some (.ins C dx (tf t D2 D c)):=by rw[upd_ne xc];exact x5
  have hc6:IntsAt (upd H5 c (.lst ((t.holders.map V.int).set r (V.int col)))) c (t.holders.set r (col:Int)):=by unfold IntsAt;rw[upd_same,List.map_set]
  have k6:∀ y o,H y=some o->y≠x->y≠c->upd H5 c (.lst ((t.holders.map V.int).set r (V.int col))) y=some o:=fun y o e n n2=>by rw[upd_ne n2];exact k5 y o e n
  generalize upd H5 c (.lst ((t.holders.map V.int).set r (V.int col)))=H6 at RL6 RG6 hrow6 x6 hc6 k6 ⊢;refine⟨_,rfl,_,rfl,z,_,_,_,rfl,rfl,SqL.of hrow6,ints_at (by omega),_,rfl,x,C,dx,_,rfl,x6,TC.cl,TC.below,(by show 6<1000;decide),?_⟩;have e3:putF "below" (V.int ((t.limits.getD r []).getD col 0)) (tf t D2 D c)=tf (SN.turnL t r col) D2 D c:=
   putF_in (pre:=[("legs",.int t.legs),("journeys",.int t.journeys),("limits",.ref D2),("goals",.ref D),("holders",.ref c)]) (show(["legs","journeys","limits","goals","holders"]:List Str).contains "below"=false by decide +kernel)
  refine k _ D2 D (fun y o e n n2=>by rw[upd_ne n];exact k6 y o e n n2) ⟨by rw[upd_same,e3],⟨_,RL6.upd_ins x6⟩,⟨_,RG6.upd_ins x6⟩,hc6.upd_ins x6⟩
end
end My
end
section
set_option maxRecDepth 100000
set_option maxHeartbeats 2000000
namespace My
open PySem PySem.Spec PyProof.Rows L2
theorem sm_of{z:Int}{n:Nat}(h:z.natAbs<=n)(hn:n<2^64):Sm z:=by
 unfold Sm;omega
theorem Rep_dim{s:Vbahar.State}{t:SN.TL}{S:SN.Tab}(hs:SN.Small s)(R:SN.Rep (SN.prob s) t S):Dim t:=by
 have hn:(SN.prob s).n=s.journeys.length:=rfl;have hm:(SN.prob s).m=s.caps.length:=rfl;have hK:(SN.prob s).K=s.caps.length+s.journeys.length:=rfl;have hg:(SN.prob s).g=s.journeys.length+1:=rfl;have h1:=hs.legs;have h2:=hs.jour;refine⟨fun r hr=>?_,fun r hr=>?_,?_,?_,?_,?_,?_⟩
 ·rw[R.lrow r hr,R.jour,R.llen]
 ·rw[R.grow r hr,R.jour,R.llen]
 ·rw[R.hlen,R.llen]
 ·rw[R.legs,R.llen];omega
 ·rw[R.glen];omega
 ·rw[R.jour];omega
 ·rw[R.llen];omega
theorem Rep_smL{s:Vbahar.State}{t:SN.TL}{S:SN.Tab}(hs:SN.Small s)(R:SN.Rep (SN.prob s) t S)(I:SN.Inv (SN.prob s) S){i c:Nat}(hi:i<t.limits.length)(hc:c<=t.journeys+t.limits.length):Sm (SN.cellL t.limits i c):=by
 rw[R.llen] at hi;rw[R.jour,R.llen] at hc;rw[R.T i c hi hc];exact sm_of (SN.Tb_abs I hs hi hc) (by decide)
theorem Rep_smG{s:Vbahar.State}{t:SN.TL}{S:SN.Tab}(hs:SN.Small s)(R:SN.Rep (SN.prob s) t S)(I:SN.Inv (SN.prob s) S){i c:Nat}(hi:i<t.goals.length)(hc:c<=t.journeys+t.limits.length):Sm (SN.cellL t.goals i c):=by
 rw[R.glen] at hi;rw[R.jour,R.llen] at hc;rw[R.G i c hi hc];exact sm_of (SN.G_abs I hs hi hc) (by decide)
structure HouseAs(H:Hp)(a b c d:Addr)(s:Vbahar.State):Prop where
 caps:IntsAt H a (SN.capsI s)
 fares:IntsAt H b (SN.faresI s)
 dems:IntsAt H c (SN.demandsI s)
 ways:RowsAt H d (SN.waysI s)
theorem HouseAs.same{H H':Hp}{a b c d:Addr}{s:Vbahar.State}(h:HouseAs H a b c d s)(e:Same H H'):HouseAs H' a b c d s:=⟨e _ _ h.caps,e _ _ h.fares,e _ _ h.dems,h.ways.same e⟩
abbrev sSolved:Stmt:=top 6
def spSolved(C:Addr):Sp:=fun vs H Q _=>∃ (a b c d:Addr) (s:Vbahar.State),vs=[.ref a,.ref b,.ref c,.ref d]/\HouseAs H a b c d s/\SN.Small s/\
 ∀ (H':Hp) (x dx la ga ha:Addr) (t:SN.TL) (S:SN.Tab),Same H H'->TabAs C H' x dx la ga ha t->SN.Rep (SN.prob s) t S->SN.Final (SN.prob s) S->Q (.ref x) H'
section
variable{P:Program}{w:World}{K:PySem.W.Frag}{mg:Str->Option Value}{base:Heap}
theorem scSolved:FnScope ["capacities","fares","demands","ways","table","column"] ["capacities","fares","demands","ways"] (defScope sSolved):=⟨rfl,rfl,rfl,by decide +kernel,rfl,by decide +kernel,by decide +kernel⟩
theorem ok_solved{f fI fE fL fT C:Addr}{fd fdI fdE fdL fdT:FuncData}(F:Fun K "solved" "solved" sSolved f fd)(TC:TabC K C)(M:Mk K C fI)(mgC:mg "Table"=some (.ref C))(bI:Binds K fdI ["self","capacities","fares","demands","ways"] [])(GI:FnOk P w K mg base CX0 3 fI fdI ["self","capacities","fares","demands","ways"] (spTabInit C))(CE:Cal P w K mg base 1 "entering" ["table"] (spEntering C) fE fdE)(CL:Cal P w K mg base 3 "leaving" ["table","column"] (spLeaving C) fL fdL)(CT:Cal P w K mg base 2 "turn" ["table","number","column"] (spTurn C) fT fdT):FnOk P w K mg base CX0 5 f fd ["capacities","fares","demands","ways"] (spSolved C):=by
 refine F.ok scSolved (fun vs H Q E h=>?_) (fun cdv A outer s H vs Q E hr h=>?_)
 ·obtain⟨a,b,c,d,st,rfl,_⟩:=h;rfl
 ·obtain⟨a,b,c,d,st,rfl,hH,hs,k⟩:=h;have hr1:Room 1 _:=hr.mono (by decide);have hr2:Room 2 _:=hr.mono (by decide);have hr3:Room 3 _:=hr.mono (by decide);refine⟨_,pss_cons (ps_set (i:=4) scSolved.nd rfl (.inl rfl) (pe_make M GI hr rfl mgC bI .nil pass0 (pa_cons (pv 0) (pa_cons (pv 1) (pa_cons (pv 2) (pa_cons (pv 3) pa_nil))))))
   (pss_cons (ps_set (i:=5) scSolved.nd rfl (.inl rfl) (pe_call CE.ok hr1 rfl CE.mg CE.kp CE.b .nil pass0 (pa_cons (pv 4) pa_nil)))
   (pss_cons (ps_while PassesOwn.never (pt_cmp (pc_notN (pv 5)))
    (pss_cons (ps_expr (pe_call CT.ok hr2 rfl CT.mg CT.kp CT.b .nil pass0 (pa_cons (pv 4) (pa_cons (pe_call CL.ok hr3 rfl CL.mg CL.kp CL.b .nil pass0 (pa_cons (pv 4) (pa_cons (pv 5) pa_nil))) (pa_cons (pv 5) pa_nil)))))
    (pss_one (ps_set (i:=5) scSolved.nd rfl (.inl rfl) (pe_call CE.ok hr1 rfl CE.mg CE.kp CE.b .nil pass0 (pa_cons (pv 4) pa_nil))))))
   (pss_one (ps_ret (pv 4))))),?_⟩
  have h1:=hs.legs;have h2:=hs.jour;refine⟨_,rfl,_,rfl,_,rfl,_,rfl,fun x dx nx ndx ned=>?_⟩;have sN:Same H (upd (upd H dx (.own x)) x (.ins C dx [])):=fun y o e=>by
   rw[upd_ne (ne_of_none e nx),upd_ne (ne_of_none e ndx)];exact e
  have hN:=hH.same sN;refine⟨x,dx,a,b,c,d,_,_,_,_,rfl,upd_same,hN.caps,hN.fares,hN.dems,hN.ways,by simp[SN.waysI,SN.demandsI],by simp[SN.faresI,SN.demandsI],by simp[SN.capsI];omega,by simp[SN.demandsI];omega,fun H1 la ga ha k1 nha T1=>⟨rfl,?_⟩⟩;have s1:Same H H1:=fun y o e=>k1 y o (sN _ _ e) (ne_of_none e nx);have nha':H ha=none:=sN.free nha;obtain⟨N,hN0,hN1⟩:=SN.solved_ends st;have Rep_at:∀ kk,kk<=N->∃ S,SN.Rep (SN.prob st) (SN.itN (SN.tab0 st) kk) S/\SN.Inv (SN.prob st) S/\SN.Feas (SN.prob st) S:=fun kk hk=>SN.itN_rep st kk (fun i hi=>hN1 i (by omega));obtain⟨S1,R1,I1,_⟩:=Rep_at 0 (by omega);refine⟨_,rfl,x,dx,la,ga,ha,_,rfl,T1,Rep_dim hs R1,fun H2 s2=>?_⟩;refine⟨fun m σ H'=>∃ kk la' ga',kk+m=N/\σ=[some (.ref a),some (.ref b),some (.ref c),some (.ref d),some (.ref x),some (optV (SN.entering (SN.itN (SN.tab0 st) kk)))]/\Same H H'/\TabAs C H' x dx la' ga' ha (SN.itN (SN.tab0 st) kk),
   ⟨N,0,la,ga,by omega,rfl,s1.trans s2,T1.same s2⟩,?_⟩
  rintro m σ H3 ⟨kk,la',ga',hm,rfl,s3,T3⟩;obtain⟨S,R,I,Fs⟩:=Rep_at kk (by omega);refine⟨_,rfl,_,rfl,?_⟩;cases hE:SN.entering (SN.itN (SN.tab0 st) kk) with
  | none=>
   refine iteF ?_;refine⟨_,rfl,k H3 x dx la' ga' ha _ S s3 T3 R ⟨I,Fs,R.entering_none hE⟩⟩
  | some q=>
   refine iteT ?_;have hkN:kk<N:=by
    apply Classical.byContradiction;intro hc;have:kk=N:=by omega
    rw[this,hN0] at hE;cases hE
   obtain⟨r,hr',p⟩:=R.step I hE;have dm:=Rep_dim hs R;have hq:q<=(SN.itN (SN.tab0 st) kk).journeys+(SN.itN (SN.tab0 st) kk).limits.length:=by rw[R.jour,R.llen];have:=p.hq;omega
   have hrl:r<(SN.itN (SN.tab0 st) kk).limits.length:=by rw[R.llen];exact p.hr
   have en:SN.itN (SN.tab0 st) (kk+1)=SN.turnL (SN.itN (SN.tab0 st) kk) r q:=by
    simp only[SN.itN,SN.nxt,hE,Option.getD_some,hr']
   refine⟨fun σ' H'=>∃ la' ga',σ'=[some (.ref a),some (.ref b),some (.ref c),some (.ref d),some (.ref x),some (optV (SN.entering (SN.itN (SN.tab0 st) (kk+1))))]/\Same H H'/\TabAs C H' x dx la' ga' ha (SN.itN (SN.tab0 st) (kk+1)),
    fun σ' H' ⟨la2,ga2,h1,h2,h3⟩=>⟨m-1,by omega,kk+1,la2,ga2,by omega,h1,h2,h3⟩,?_⟩
   refine⟨_,rfl,_,rfl,_,rfl,x,dx,la',ga',ha,_,q,rfl,T3,dm,hq,fun i hi=>Rep_smL hs R I hi hq,fun H4 s4=>?_⟩;rw[hr'];have hbd:(SN.itN (SN.tab0 st) kk).below.natAbs<=3628800:=by rw[R.d];exact SN.d_abs I hs
   have hb0:0<(SN.itN (SN.tab0 st) kk).below:=by rw[R.d];exact I.d
   refine⟨_,rfl,x,dx,la',ga',ha,_,r,q,rfl,T3.same s4,dm,hrl,hq,hb0,by omega,fun i hi=>Rep_smL hs R I hi hq,fun i hi=>Rep_smG hs R I hi hq,fun H5 la5 ga5 k5 T5=>?_⟩;rw[<-en] at T5;have s5:Same H H5:=fun y o e=>k5 y o ((s3.trans s4) _ _ e) (ne_of_none e nx) (ne_of_none e nha');obtain⟨S',R',I',_⟩:=Rep_at (kk+1) (by omega);refine⟨_,rfl,x,dx,la5,ga5,ha,_,rfl,T5,Rep_dim hs R',fun H6 s6=>?_⟩;exact⟨la5,ga5,rfl,s5.trans s6,T5.same s6⟩
end
end My
end
section
set_option maxRecDepth 100000
set_option maxHeartbeats 2000000
namespace My
open PySem PySem.Spec PyProof.Rows L2
theorem coll_objs{J:It}{n:Nat}{g:TG}{te:TE}{vs:List Nat}{σ:L2.St}{H1:Hp}{D:Addr}{Qd:Hp->Prop}(Xr:Nat->V->Hp->Prop)(ob:Nat->HO)(hgo:∀ i H',i<n->Same H1 H'->J.go i H')(hstop:∀ H',Same H1 H'->J.stop n H')(hyld:∀ i x H' H2,i<n->Same H1 H'->J.yld i H' x H2->Same H' H2/\Xr i x H2)(hz:n<=1000)(hD:H1 D=none)(hs:∀ i x H' (R:VK),i<n->Same H1 H'->Xr i x H'->(∀ H4 p,Same H' H4->H' p=none->H4 p=some (ob i)->R (.ref p) H4)->g x (wipe σ vs) H' fun σ2 H2=>wipe σ2 vs=wipe σ vs/\te σ2 H2 R)(hd:∀ (H':Hp) (as:List Addr),Same H1 H'->H' D=some (.lst (as.map V.ref))->as.length=n->(∀ (i:Nat) (b:Addr),as[i]?=some b->H' b=some (ob i))->(∀ b,b∈as->H1 b=none)->Qd H'):
  ∃ W:Nat->Nat->Hp->Prop,(∃ m,W 0 m (upd H1 D (.lst [])))/\∀ i m H,W i m H->
   (J.stop i H/\Qd H)\/(J.go i H/\∃ Nx:Hp->Prop,(∀ H',Nx H'->∃ m',m'<m/\W (i+1) m' H')/\∀ x H',J.yld i H x H'->g x (wipe σ vs) H' fun σ2 H2=>wipe σ2 vs=wipe σ vs/\tYes σ2 H2 fun b H3=>
    if b=true then te σ2 H3 fun y H4=>∃ acc,H4 D=some (.lst acc)/\acc.length<sizeLine/\Nx (upd H4 D (.lst (acc++[y]))) else Nx H3):=by
 refine⟨fun i m H=>m=n-i/\i<=n/\Same H1 H/\∃ as:List Addr,H D=some (.lst (as.map V.ref))/\as.length=i/\(∀ (j:Nat) (b:Addr),as[j]?=some b->H b=some (ob j))/\(∀ b,b∈as->H1 b=none/\b≠D),
  ⟨n,by simp,Nat.zero_le _,Same.new hD,[],upd_same,rfl,fun j b e=>by simp at e,fun b hb=>by cases hb⟩,?_⟩
 rintro i m H ⟨rfl,hi,sm,as,hDl,las,hat,hfr⟩;by_cases hlt:i<n
 ·refine .inr ⟨hgo i H hlt sm,fun H=>Same H1 H/\∃ as:List Addr,H D=some (.lst (as.map V.ref))/\as.length=i+1/\(∀ (j:Nat) (b:Addr),as[j]?=some b->H b=some (ob j))/\(∀ b,b∈as->H1 b=none/\b≠D),
   fun H' p'=>⟨n-(i+1),by omega,rfl,hlt,p'⟩,fun x H' hy=>?_⟩
  obtain⟨s2,xr⟩:=hyld i x H H' hlt sm hy;have:=hs i x H' (fun y H4=>∃ acc,H4 D=some (.lst acc)/\acc.length<sizeLine/\(Same H1 (upd H4 D (.lst (acc++[y])))/\∃ as:List Addr,upd H4 D (.lst (acc++[y])) D=some (.lst (as.map V.ref))/\as.length=i+1/\
    (∀ (j:Nat) (b:Addr),as[j]?=some b->upd H4 D (.lst (acc++[y])) b=some (ob j))/\(∀ b,b∈as->H1 b=none/\b≠D))) hlt (sm.trans s2) xr (fun H4 p s4 np hp=>by
   have hpD:p≠D:=fun e=>by rw[e] at np;rw[s2 _ _ hDl] at np;cases np
   refine⟨_,s4 _ _ (s2 _ _ hDl),?_,?_,as++[p],?_,?_,?_,?_⟩
   ·rw[lmp,las];exact small1000 (by omega)
   ·intro b o e;rw[upd_ne (ne_of_none e hD)];exact s4 _ _ (s2 _ _ (sm _ _ e))
   ·rw[upd_same,List.map_append];rfl
   ·rw[List.length_append,las];rfl
   ·intro j b e;by_cases c:j<i
    ·rw[List.getElem?_append_left (by omega)] at e;rw[upd_ne (hfr b (List.mem_of_getElem? e)).2];exact s4 _ _ (s2 _ _ (hat j b e))
    ·have hj:j=i:=by have:=(List.getElem?_eq_some_iff.mp e).1;simp[las] at this;omega
     subst hj;rw[List.getElem?_append_right (by omega),las,Nat.sub_self] at e;have:p=b:=by simpa using e
     subst this;rw[upd_ne hpD];exact hp
   ·intro b hb;rcases List.mem_append.mp hb with h | h
    ·exact hfr b h
    ·have:b=p:=by simpa using h
     rw[this];exact⟨(sm.trans s2).free np,hpD⟩)
  simpa only [tYes,if_true] using this
 ·have e:i=n:=by omega
  subst e;exact .inl ⟨hstop H sm,hd H as sm hDl las hat (fun b hb=>(hfr b hb).1)⟩
structure PairsAs(H:Hp)(a:Addr)(as:List Addr)(ps:List (Int×Int)):Prop where
 lst:H a=some (.lst (as.map V.ref))
 len:as.length=ps.length
 at_:∀ (i:Nat) (b:Addr),as[i]?=some b->H b=some (.tup [.int (ps.getD i (0,0)).1,.int (ps.getD i (0,0)).2])
def PairsAt(H:Hp)(a:Addr)(ps:List (Int×Int)):Prop:=∃ as,PairsAs H a as ps
theorem PairsAs.same{H H':Hp}{a:Addr}{as:List Addr}{ps:List (Int×Int)}(s:Same H H')(h:PairsAs H a as ps):PairsAs H' a as ps:=
 ⟨s _ _ h.lst,h.len,fun i b e=>s _ _ (h.at_ i b e)⟩
abbrev sBest:Stmt:=top 13
def spBestDiv(C:Addr):Sp:=fun vs H Q _=>∃ (a b c d:Addr) (s:Vbahar.State),vs=[.ref a,.ref b,.ref c,.ref d]/\HouseAs H a b c d s/\SN.Small s/\
 ∀ (H':Hp) (p:Addr) (t:SN.TL) (S:SN.Tab),Same H H'->H p=none->SN.Rep (SN.prob s) t S->SN.Final (SN.prob s) S->PairsAt H' p (SN.bestPairs t)->Q (.ref p) H'
abbrev sBids:Stmt:=top 14
def spBids(C:Addr):Sp:=fun vs H Q _=>∃ (a b c d:Addr) (s:Vbahar.State),vs=[.ref a,.ref b,.ref c,.ref d]/\HouseAs H a b c d s/\SN.Small s/\
 ∀ (H':Hp) (p:Addr) (t:SN.TL) (S:SN.Tab),Same H H'->H p=none->SN.Rep (SN.prob s) t S->SN.Final (SN.prob s) S->PairsAt H' p (SN.bidPairs t)->Q (.ref p) H'
section
variable{P:Program}{w:World}{K:PySem.W.Frag}{mg:Str->Option Value}{base:Heap}
theorem scBest:FnScope ["capacities","fares","demands","ways","table","goal"] ["capacities","fares","demands","ways"] (defScope sBest):=⟨rfl,rfl,rfl,by decide +kernel,rfl,by decide +kernel,by decide +kernel⟩
theorem ok_best{f fS C:Addr}{fd fdS:FuncData}(F:Fun K "best_division" "best_division" sBest f fd)(TC:TabC K C)(CS:Cal P w K mg base 5 "solved" ["capacities","fares","demands","ways"] (spSolved C) fS fdS):
  FnOk P w K mg base CX0 6 f fd ["capacities","fares","demands","ways"] (spBestDiv C):=by
 refine F.ok scBest (fun vs H Q E h=>?_) (fun cdv A outer s H vs Q E hr h=>?_)
 ·obtain⟨a,b,c,d,st,rfl,_⟩:=h;rfl
 ·obtain⟨a,b,c,d,st,rfl,hH,hs,k⟩:=h;refine⟨_,pss_cons (ps_set (i:=4) scBest.nd rfl (.inr rfl) (pe_call CS.ok hr rfl CS.mg CS.kp CS.b .nil pass0 (pa_cons (pv 0) (pa_cons (pv 1) (pa_cons (pv 2) (pa_cons (pv 3) pa_nil))))))
   (pss_one (ps_ret (pe_lc (te:=tTup (tCons (tOp (rIxL K) (tVar 5) (tUn (rU fun i=>.int (-i)) (tC (.int 1)))) (tCons (tFld K (tVar 4) "below") tNil))) rfl scBest.nd (pi_list (pe_fld (pv 4) rfl)) (blkOk_by (own:=[("goal",5)]) (by rfl))
    (fun _ _ _ _ _=>pg_name (i:=5) scBest.nd rfl (.inl rfl)) (fun _ _ _ _ _=>pts_nil) (fun _ _ _ _ _=>pe_tup (pa_cons (pe_ix ix_list (pv 5) (pe_un un_neg pe_int) (fun _ _=>rfl)) (pa_cons (pe_fld (pv 4) rfl) pa_nil)))))),?_⟩
  refine⟨_,rfl,_,rfl,_,rfl,_,rfl,a,b,c,d,st,rfl,hH,hs,fun H1 x dx la ga ha t S s1 T R Fi=>?_⟩;have dm:=Rep_dim hs R;have:=dm.gl;obtain⟨gas,Rg⟩:=T.goa;have hgl:gas.length=t.goals.length:=Rg.len;refine⟨_,rfl,x,C,dx,_,_,rfl,T.ins,TC.cl,TC.goals,tf_goals t la ga ha,ga,rfl,⟨_,SqL.of Rg.lst⟩,fun D hD=>?_⟩;refine coll_objs (n:=(gas.map V.ref).length) (fun j z H2=>(gas.map V.ref)[j]?=some z) (fun i=>.tup [.int ((SN.bestPairs t).getD i (0,0)).1,.int ((SN.bestPairs t).getD i (0,0)).2]) (itl_go (SqL.of Rg.lst)) (itl_stop (SqL.of Rg.lst)) (itl_yld (SqL.of Rg.lst))
   (by rw[lmp];omega) hD ?_ (fun H2 as s2 hl las hat _=>k H2 D t S (s1.trans s2) (s1.free hD) R Fi ⟨as,hl,by rw[las];simp[SN.bestPairs,hgl],hat⟩)
  intro j z H4 R' hj sm hz hR;obtain⟨z0,hz0,rfl⟩:=refs_get hz;have hjg:j<t.goals.length:=by rw[<-hgl];exact(List.getElem?_eq_some_iff.mp hz0).1
  have hlen:(t.goals.getD j []).length=t.journeys+t.limits.length+1:=dm.grow _ (SN.getD_mem _ _ _ hjg);refine⟨rfl,_,rfl,_,rfl,z0,_,_,_,rfl,rfl,SqL.of (sm _ _ (Rg.at_ j z0 hz0)),last_at (n:=t.journeys+t.limits.length) hlen,_,rfl,x,C,dx,_,_,rfl,sm _ _ T.ins,TC.cl,TC.below,tf_below t la ga ha,(by show 2<=sizeLine;decide),fun p hp=>hR _ p (Same.new hp) hp ?_⟩;rw[upd_same];have e:(SN.bestPairs t).getD j (0,0)=((t.goals.getD j []).getD (t.journeys+t.limits.length) 0,t.below):=by
   simp only[SN.bestPairs];rw[SN.getD_map_lt _ _ _ [] _ hjg]
  rw[e]
theorem scBids:FnScope ["capacities","fares","demands","ways","table","prices","price"] ["capacities","fares","demands","ways"] (defScope sBids):=⟨rfl,rfl,rfl,by decide +kernel,rfl,by decide +kernel,by decide +kernel⟩
theorem ok_bids{f fS C:Addr}{fd fdS:FuncData}(F:Fun K "bid_prices" "bid_prices" sBids f fd)(TC:TabC K C)(CS:Cal P w K mg base 5 "solved" ["capacities","fares","demands","ways"] (spSolved C) fS fdS):
  FnOk P w K mg base CX0 6 f fd ["capacities","fares","demands","ways"] (spBids C):=by
 refine F.ok scBids (fun vs H Q E h=>?_) (fun cdv A outer s H vs Q E hr h=>?_)
 ·obtain⟨a,b,c,d,st,rfl,_⟩:=h;rfl
 ·obtain⟨a,b,c,d,st,rfl,hH,hs,k⟩:=h;refine⟨_,pss_cons (ps_set (i:=4) scBids.nd rfl (.inr rfl) (pe_call CS.ok hr rfl CS.mg CS.kp CS.b .nil pass0 (pa_cons (pv 0) (pa_cons (pv 1) (pa_cons (pv 2) (pa_cons (pv 3) pa_nil))))))
   (pss_cons (ps_set (i:=5) scBids.nd rfl (.inl rfl) (pe_slice sl_list (pe_ix ix_list (pe_fld (pv 4) rfl) pe_int (fun _ _=>rfl)) (po_some (pe_fld (pv 4) rfl)) (po_some (pe_op op_add (pe_fld (pv 4) rfl) (pe_fld (pv 4) rfl)))))
   (pss_one (ps_ret (pe_lc (te:=tTup (tCons (tVar 6) (tCons (tFld K (tVar 4) "below") tNil))) rfl scBids.nd (pi_list (pv 5)) (blkOk_by (own:=[("price",6)]) (by rfl))
    (fun _ _ _ _ _=>pg_name (i:=6) scBids.nd rfl (.inl rfl)) (fun _ _ _ _ _=>pts_nil) (fun _ _ _ _ _=>pe_tup (pa_cons (pv 6) (pa_cons (pe_fld (pv 4) rfl) pa_nil))))))),?_⟩
  refine⟨_,rfl,_,rfl,_,rfl,_,rfl,a,b,c,d,st,rfl,hH,hs,fun H1 x dx la ga ha t S s1 T R Fi=>?_⟩;have dm:=Rep_dim hs R;have:=dm.gl;have:=dm.jl;have:=dm.ll;have:=dm.legs;obtain⟨gas,Rg⟩:=T.goa;have hg0:0<t.goals.length:=by rw[R.glen];exact SN.prob_gpos st
  obtain⟨z,hz,haz,hrow⟩:=refs_at Rg hg0;have hlen:(t.goals.getD 0 []).length=t.journeys+t.limits.length+1:=dm.grow _ (SN.getD_mem _ _ _ hg0);refine⟨_,rfl,x,C,dx,_,_,rfl,T.ins,TC.cl,TC.goals,tf_goals t la ga ha,ga,_,_,_,rfl,rfl,SqL.of Rg.lst,haz,_,rfl,x,C,dx,_,_,rfl,T.ins,TC.cl,TC.journeys,tf_journeys t la ga ha,_,rfl,_,rfl,x,C,dx,_,_,rfl,T.ins,TC.cl,TC.journeys,tf_journeys t la ga ha,_,rfl,x,C,dx,_,_,rfl,T.ins,TC.cl,TC.legs,tf_legs t la ga ha,_,_,rfl,rfl,_,rfl,z,_,rfl,SqL.of hrow,fun q hq=>?_⟩;have ec:cutV ((t.goals.getD 0 []).map V.int) (some ((t.journeys:Nat):Int)) (some (((t.journeys:Nat):Int)+((t.legs:Nat):Int)))=(((t.goals.getD 0 []).drop t.journeys).take t.legs).map V.int:=by
   have e:((t.journeys:Nat):Int)+((t.legs:Nat):Int)=((t.journeys+t.legs:Nat):Int):=by omega
   rw[e,cut_ints (by omega) (by omega),Nat.add_sub_cancel_left]
  rw[ec];have s2:=Same.new (o:=.lst ((((t.goals.getD 0 []).drop t.journeys).take t.legs).map V.int)) hq;have hQ:IntsAt (upd H1 q (.lst ((((t.goals.getD 0 []).drop t.journeys).take t.legs).map V.int))) q (((t.goals.getD 0 []).drop t.journeys).take t.legs):=upd_same;generalize upd H1 q (.lst ((((t.goals.getD 0 []).drop t.journeys).take t.legs).map V.int))=H2 at s2 hQ ⊢;refine⟨_,rfl,q,rfl,⟨_,SqL.of hQ⟩,fun D hD=>?_⟩;have s12:=s1.trans s2;refine coll_objs (n:=((((t.goals.getD 0 []).drop t.journeys).take t.legs).map V.int).length) (fun j z H2=>((((t.goals.getD 0 []).drop t.journeys).take t.legs).map V.int)[j]?=some z) (fun i=>.tup [.int ((SN.bidPairs t).getD i (0,0)).1,.int ((SN.bidPairs t).getD i (0,0)).2]) (itl_go (SqL.of hQ)) (itl_stop (SqL.of hQ)) (itl_yld (SqL.of hQ))
   (by rw[lmp,List.length_take];omega) hD ?_ (fun H3 as s3 hl las hat _=>k H3 D t S (s12.trans s3) (s12.free hD) R Fi ⟨as,hl,by rw[las];simp[SN.bidPairs],hat⟩)
  intro j y H4 R' hj sm hy hR;obtain⟨rfl,hj1⟩:=ints_get hy;refine⟨rfl,_,rfl,_,rfl,x,C,dx,_,_,rfl,sm _ _ (s2 _ _ T.ins),TC.cl,TC.below,tf_below t la ga ha,(by show 2<=sizeLine;decide),fun p hp=>hR _ p (Same.new hp) hp ?_⟩;rw[upd_same];have e:(SN.bidPairs t).getD j (0,0)=((((t.goals.getD 0 []).drop t.journeys).take t.legs).getD j 0,t.below):=by
   simp only[SN.bidPairs];rw[SN.getD_map_lt _ _ _ 0 _ hj1]
  rw[e]
end
end My
end
section
set_option maxRecDepth 100000
set_option maxHeartbeats 2000000
namespace My
open PySem PySem.Spec PyProof.Rows L2
inductive IntEs:List (Int×V)->List DictEntry->Prop
 | nil:IntEs [] []
 | cons {k:Int} {v:V} {t:Tok} {u:Value} {kvs:List (Int×V)} {es:List DictEntry}:RelV v u->IntEs kvs es->IntEs ((k,v)::kvs) (⟨hashInt k,.int k t,u⟩::es)
def lk(kvs:List (Int×V))(k:Int):Option V:=(kvs.find? fun p=>p.1=k).map (·.2)
structure KDict(K:PySem.W.Frag)(d:Addr)(kvs:List (Int×V)):Prop where
 ne:(d==sysModules)=false
 ex:∃ (es:List DictEntry) (ep:Nat),K.lookup d=some {cls:=.type "dict",data:=.dict es.toArray ep}/\IntEs kvs es
 nd:(kvs.map (·.1)).Nodup
def rawOf:List DictEntry->List (Key×Value)
 | []=>[]
 | e::es=>(match e.key with | .int k _=>(Sum.inl k,e.val) | _=>(Sum.inl 0,e.val))::rawOf es
theorem IntEs.pairs{P:Program}{w:World}{kvs:List (Int×V)}{es:List DictEntry}(h:IntEs kvs es):Pairs (mixKind P w) es (rawOf es):=by
 induction h with
 | nil=>exact .nil
 | cons r _ ih=>exact .cons (mixKind_int P w _ _) rfl ih
theorem IntEs.keys{P:Program}{w:World}{kvs:List (Int×V)}{es:List DictEntry}(h:IntEs kvs es):∀ e∈es,∃ k,(mixKind P w).is k e.key=true/\e.hash=(mixKind P w).hash k:=by
 induction h with
 | nil=>intro e he;cases he
 | cons r _ ih=>
  intro e he;rcases List.mem_cons.mp he with q | q
  ·subst q;exact⟨Sum.inl _,mixKind_int P w _ _,rfl⟩
  ·exact ih e q
theorem IntEs.names{kvs:List (Int×V)}{es:List DictEntry}(h:IntEs kvs es):(rawOf es).map (·.1)=(kvs.map (·.1)).map Sum.inl:=by
 induction h with
 | nil=>rfl
 | cons r _ ih=>simp only[rawOf,List.map_cons,ih]
theorem IntEs.val{kvs:List (Int×V)}{es:List DictEntry}(h:IntEs kvs es)(k:Int):RelO (lk kvs k) (valueAt (rawOf es) (Sum.inl k)):=by
 induction h with
 | nil=>exact True.intro
 | @cons k' v t u kvs es r _ ih=>
  unfold lk valueAt at ih ⊢;simp only[rawOf,List.find?_cons];by_cases e:k'=k
  ·subst e;simp;exact r
  ·have e1:(decide (k'=k))=false:=decide_eq_false e;have e2:(decide ((Sum.inl k':Key)=Sum.inl k))=false:=decide_eq_false fun q=>e (Sum.inl.inj q);simp only[e1,e2];exact ih
theorem nodup_inl:∀ {l:List Int},l.Nodup->(l.map (Sum.inl:Int->Key)).Nodup
 | [],_=>List.nodup_nil
 | x::l,h=>by
  obtain⟨h1,h2⟩:=List.nodup_cons.mp h;rw[List.map_cons];refine List.nodup_cons.mpr ⟨fun m=>?_,nodup_inl h2⟩;obtain⟨y,hy,e⟩:=List.mem_map.mp m;exact h1 (Sum.inl.inj e▸hy)
section
variable{X:Cx}{pins:List (Addr×Obj)}{σ:L2.St}{H:Hp}{s:Shared}
theorem KDict.dictOf{d:Addr}{kvs:List (Int×V)}(D:KDict X.K d kvs)(I:Inv X pins σ H s):
  ∃ vs,s.heap.DictOf (mixKind X.prog X.w) d vs/\∀ k,RelO (lk kvs k) (valueAt vs (Sum.inl k)):=by
 obtain⟨es,ep,hl,he⟩:=D.ex;refine⟨rawOf es,⟨_,es.toArray,ep,I.kIn d _ hl,⟨rfl,rfl,rfl⟩,rfl,?_,?_,?_⟩,he.val⟩
 ·intro e hm;exact he.keys e (by simpa using hm)
 ·simpa using he.pairs
 ·rw[he.names];exact nodup_inl D.nd
def rIxD(K:PySem.W.Frag):R2:=fun x y H Q=>∃ d kvs k v,x=.ref d/\y=.int k/\KDict K d kvs/\lk kvs k=some v/\Q v H
theorem ix_dict:IxR X (rIxD X.K):=by
 intro value slice pins s σ H x y v u Q I rx ry h hs;obtain⟨d,kvs,k,z,rfl,rfl,D,hl,q⟩:=h;cases rx;obtain⟨t,rfl⟩:=ry;obtain⟨vs,dd,hv⟩:=D.dictOf I;have hk:=hv k;rw[hl] at hk;obtain⟨w',hw,rw'⟩:=RelO.some_of hk;exact tail_any dd.typeIs PySem.F.slot_dict_getitem.lookup (wpAny_getItem_of (mixKind_int X.prog X.w k t) dd.mapOf hw ⟨z,H,I.tok _,rw',q⟩) hs
def rNotInD(K:PySem.W.Frag):R2:=fun x y H Q=>∃ d kvs k,y=.ref d/\x=.int k/\KDict K d kvs/\Q (.bl (!(lk kvs k).isSome)) H
theorem op_notInD:OpR X (compareOp .NotIn) (rNotInD X.K):=by
 intro pins s σ H x y v u Q I rx ry h;obtain⟨d,kvs,k,rfl,rfl,D,q⟩:=h;cases ry;obtain⟨t,rfl⟩:=rx;obtain⟨vs,dd,hv⟩:=D.dictOf I;refine wpAny_notIn_of (mixKind_int X.prog X.w k t) D.ne dd.mapOf ⟨.bl _,H,I.tok _,?_,q⟩;show Value.bool _=Value.bool _;rw[(hv k).isSome_eq]
def rInD(K:PySem.W.Frag):R2:=fun x y H Q=>∃ d kvs k,y=.ref d/\x=.int k/\KDict K d kvs/\Q (.bl (lk kvs k).isSome) H
theorem op_inD:OpR X (compareOp .In) (rInD X.K):=by
 intro pins s σ H x y v u Q I rx ry h;obtain⟨d,kvs,k,rfl,rfl,D,q⟩:=h;cases ry;obtain⟨t,rfl⟩:=rx;obtain⟨vs,dd,hv⟩:=D.dictOf I;refine wpAny_in_of (mixKind_int X.prog X.w k t) D.ne dd.mapOf ⟨.bl _,H,I.tok _,?_,q⟩;show Value.bool _=Value.bool _;rw[(hv k).isSome_eq]
def tCallV(X:Cx)(tf:TE)(t:TA):TE:=fun σ H Q=>tf σ H fun x H1=>∃ (f:Addr) (k:Nat) (fd:FuncData) (ps:List Str) (sp:Sp),x=.ref f/\PySem.W.keepIn X.K (.ref f)=true/\Binds X.K fd ps []/\
 FnOk X.prog X.w X.K X.mg X.base CX0 k f fd ps sp/\Room k X.A/\t σ H1 fun vs H2=>sp vs H2 Q E0
theorem pe_callV{x:Str}{p pos:Pos}{e:Expr}{es:List Expr}{tf:TE}{t:TA}(hn:PE X (.Name x p) tf)(ha:PA X (e::es) t)(he:starEach (e::es) X.env=(false,eval e X.env)::starEach es X.env:=by rfl)(hpl:(backTo pos (starEach es X.env)).any (·.1)=false:=by rfl):
  PE X (.Call (.Name x p) (e::es) [] pos) (tCallV X tf t):=by
 intro pins s σ H Q I h;refine wpAny_Call_Name_kw (thn (hn pins s σ H _ I h) fun u s1 ⟨v,H1,I1,rv,f,k,fd,ps,sp,ev,hk,hb,F,hr,q⟩=>?_);subst ev;obtain rfl:u=Value.ref f:=rv;refine PySem.W.callWith_K (h₀:=X.base) I1.ok.mod.kin hk (thn (ha pos pins s1 σ H1 _ I1 q) fun us s2 ⟨vs,H2,I2,r,q2⟩=>⟨I2.kIn,?_⟩) he hpl;refine run_fn F hr hb .nil pass0 I2 r ?_;rw[List.append_nil];exact q2
def rSetL(K:PySem.W.Frag):List V->Hp->VK->Prop:=fun vs H Q=>∃ (a:Addr) (ns:List Int),vs=[V.ref a]/\SqL K H a (ns.map V.int)/\ns.length+1<scanBound/\
 ∀ p S,H p=none->Q (.ref p) (upd H p (.set S (firstMet (fun i=>ns.getD i 0) ns.length).length))
theorem cr_set(hc:X.calm=true):CallR X (.type "set") (rSetL X.K):=by
 intro pins s σ H vs us Q I r h;obtain⟨a,ns,rfl,hs,hb,q⟩:=h;obtain⟨its,rv,hl,_⟩:=I.list hs;rw[Vals.ref1 r];have hlen:its.length=ns.length:=by rw[<-rv.length,lmp]
 have hi:IntsAre its.toArray.toList ns:=intsAre_of rv;refine PySem.call_set_list (items:=its.toArray) (ns:=ns) (I.ok.hd hc) hl.isList hi (by rw[List.size_toArray,hlen];exact hb) fun h' tk hS hk=>?_;have hsz:its.toArray.size=ns.length:=by rw[List.size_toArray,hlen]
 rw[hsz] at hS;exact⟨.ref s.heap.objs.size,_,I.laid (t':=tk) (o:=.set (fun k'=>(firstMet (fun i=>ns.getD i 0) ns.length).any (·==k')) _) (fun b o e=>hk b o (Heap.lt_size e) e) (Nat.le_refl _) hS,rfl,q _ _ (I.hok.fresh (Nat.le_refl _))⟩
theorem call_lenS:CallR X (.builtin "len") (fun xs H Q=>∃ a S n,xs=[V.ref a]/\H a=some (.set S n)/\(n:Int)<2^63/\Q (.int n) H):=by
 intro pins s σ H xs us Q I r h;obtain⟨a,S,n,rfl,ha,hn,q⟩:=h;rw[Vals.ref1 r];obtain⟨o,es,ep,t,e,hex,hd,_,_,_,hf,hz⟩:=I.hok a _ ha;subst hz;exact call_len_set e hex hd hf hn ⟨.int es.size,H,(I.tok _),⟨_,rfl⟩,q⟩
end
end My
end
section
set_option maxRecDepth 100000
set_option maxHeartbeats 2000000
namespace My
open PySem PySem.Spec PyProof.Rows L2
def isDef(x:Str):Stmt->Bool
 | .FunctionDef n _ _ _ _ _ _ _ _ _=>n==x
 | _=>false
def defAt(x:Str):Stmt:=(PySem.Challenge.pw_seatnetwork_s01_answers.main.body.find? (isDef x)).getD (.Pass ⟨0,0,0,0⟩)
theorem gcd_step{a b:Int}(ha:0<=a)(hb:0<b):Int.gcd b (a%b)=Int.gcd a b:=by
 obtain⟨m,rfl⟩:=Int.eq_ofNat_of_zero_le ha;obtain⟨n,rfl⟩:=Int.eq_ofNat_of_zero_le (Int.le_of_lt hb);have e:((m:Int)%(n:Int))=((m%n:Nat):Int):=by omega
 rw[e];show Nat.gcd n (m%n)=Nat.gcd m n;rw[Nat.gcd_comm m n,Nat.gcd_rec n m,Nat.gcd_comm]
abbrev sCommon:Stmt:=defAt "common_divisor"
def spCommon:Sp:=fun vs H Q _=>∃ a b:Int,vs=[.int a,.int b]/\0<=a/\0<=b/\Q (.int (Int.gcd a b:Nat)) H
section
variable{P:Program}{w:World}{K:PySem.W.Frag}{mg:Str->Option Value}{base:Heap}
theorem scCommon:FnScope ["above","below","rest"] ["above","below"] (defScope sCommon):=⟨rfl,rfl,rfl,by decide +kernel,rfl,by decide +kernel,by decide +kernel⟩
theorem ok_common{f:Addr}{fd:FuncData}(F:Fun K "common_divisor" "common_divisor" sCommon f fd):FnOk P w K mg base CX0 1 f fd ["above","below"] spCommon:=by
 refine F.ok scCommon (fun vs H Q E h=>?_) (fun cdv A outer s H vs Q E hr h=>?_)
 ·obtain⟨a,b,rfl,_⟩:=h;rfl
 ·obtain⟨a,b,rfl,ha,hb,k⟩:=h;refine⟨_,pss_cons (ps_while PassesOwn.never (pt_cmpR op_gt (pv 1) pe_int (nomark _)) (pss_cons (ps_set (i:=2) scCommon.nd rfl (.inl rfl) (pe_op op_mod (pv 0) (pv 1)))
   (pss_cons (ps_set (i:=0) scCommon.nd rfl (.inl rfl) (pv 1)) (pss_one (ps_set (i:=1) scCommon.nd rfl (.inl rfl) (pv 2)))))) (pss_one (ps_ret (pv 0))),?_⟩
  refine⟨fun m σ H'=>∃ (a' b':Int) (v:Option V),m=b'.toNat/\σ=[some (.int a'),some (.int b'),v]/\H'=H/\0<=a'/\0<=b'/\Int.gcd a' b'=Int.gcd a b,⟨_,a,b,none,rfl,rfl,rfl,ha,hb,rfl⟩,?_⟩;rintro m σ H' ⟨a',b',v,rfl,rfl,rfl,ha',hb',hg⟩;refine⟨_,rfl,_,_,rfl,rfl,_,rfl,?_⟩;refine ite2 (fun hc=>?_) (fun hc=>?_)
  ·have hc':0<b':=of_decide_eq_true hc;refine⟨fun σ' H2=>∃ v,σ'=[some (.int b'),some (.int (a'%b')),v]/\H2=H',fun σ' H2 ⟨v,e1,e2⟩=>⟨(a'%b').toNat,?_,b',a'%b',v,rfl,e1,e2,hb',Int.emod_nonneg _ (by omega),?_⟩,?_⟩
   ·have:=Int.emod_lt_of_pos a' hc';have:=Int.emod_nonneg a' (show b'≠0 by omega);omega
   ·rw[gcd_step ha' hc',hg]
   ·exact⟨_,rfl,_,rfl,_,_,rfl,rfl,hc',_,rfl,_,rfl,_,rfl,rfl⟩
  ·have hc':¬0<b':=fun q=>hc (decide_eq_true q);have:b'=0:=by omega
   subst this;refine⟨_,rfl,?_⟩;rw[Int.gcd_zero_right] at hg;rw[<-hg] at k;have e:((a'.natAbs:Nat):Int)=a':=by omega
   rw[e] at k;exact k
end
theorem op_fdivW{X:Cx}:OpR X (binaryOp .FloorDiv) (rI (fun _ j=>j≠0/\j.natAbs<1152921504606846976) fun i j=>.int (i.fdiv j)):=opI fun i j _ _ _ _ _ hc q=>
 floordiv_int hc.1 q (.inl (PyProof.noPylong_of_log2 (Nat.lt_trans ((Nat.log2_lt (fun h=>hc.1 (Int.natAbs_eq_zero.mp h))).mpr (show j.natAbs<2^60 from hc.2)) (by decide))))
abbrev sTold:Stmt:=defAt "fractions_told"
def spTold:Sp:=fun vs H Q _=>∃ (p:Addr) (ps:List (Int×Int)),vs=[.ref p]/\PairsAt H p ps/\(∀ q,q∈ps->0<=q.1/\0<q.2/\q.2<1152921504606846976)/\ps.length<=100/\
 ∀ (H':Hp) (r:Addr),Same H H'->H r=none->IntsAt H' r (SN.told ps)->Q (.ref r) H'
theorem told_len(ps:List (Int×Int)):(SN.told ps).length=2*ps.length:=by
 induction ps with
 | nil=>rfl
 | cons x r ih=>
  simp only[SN.told,List.flatMap_cons,List.length_append] at ih ⊢;rw[ih,List.length_cons];simp[Vbahar.frac];omega
theorem told_take(ps:List (Int×Int))(i:Nat)(h:i<ps.length):SN.told (ps.take (i+1))=SN.told (ps.take i)++Vbahar.frac (ps.getD i (0,0)).1 (ps.getD i (0,0)).2:=by
 rw[List.take_succ_eq_append_getElem h];simp only[SN.told,List.flatMap_append,List.flatMap_cons,List.flatMap_nil,List.append_nil];congr 1;simp[gDe,h]
section
variable{P:Program}{w:World}{K:PySem.W.Frag}{mg:Str->Option Value}{base:Heap}
theorem scTold:FnScope ["pairs","told","above","below","common"] ["pairs"] (defScope sTold):=⟨rfl,rfl,rfl,by decide +kernel,rfl,by decide +kernel,by decide +kernel⟩
theorem ok_told{f fC:Addr}{fd fdC:FuncData}(F:Fun K "fractions_told" "fractions_told" sTold f fd)(CC:Cal P w K mg base 1 "common_divisor" ["above","below"] spCommon fC fdC):FnOk P w K mg base CX0 2 f fd ["pairs"] spTold:=by
 refine F.ok scTold (fun vs H Q E h=>?_) (fun cdv A outer s H vs Q E hr h=>?_)
 ·obtain⟨p,ps,rfl,_⟩:=h;rfl
 ·obtain⟨p,ps,rfl,⟨as,R⟩,hok,hz,k⟩:=h;refine⟨_,pss_cons (ps_set (i:=1) scTold.nd rfl (.inl rfl) (pe_lst pa_nil))
   (pss_cons (ps_for PassesOwn.never rfl (pi_list (pv 0)) (pg_tup rfl (pgs_cons (pg_name (i:=2) scTold.nd rfl (.inl rfl)) (pgs_cons (pg_name (i:=3) scTold.nd rfl (.inl rfl)) pgs_nil)))
    (pss_cons (ps_set (i:=4) scTold.nd rfl (.inl rfl) (pe_call CC.ok hr rfl CC.mg CC.kp CC.b .nil pass0 (pa_cons (pv 2) (pa_cons (pv 3) pa_nil))))
    (pss_one (ps_expr (pe_bm PySem.F.plainAttrs_list PySem.F.slot_list_extend PySem.F.type_list_extend mt_extend (pv 1) (pa_cons (pe_lst (pa_cons (pe_op op_fdivW (pv 2) (pv 4)) (pa_cons (pe_op op_fdivW (pv 3) (pv 4)) pa_nil))) pa_nil))))))
   (pss_one (ps_ret (pv 1)))),?_⟩
  refine⟨Nat.zero_le _,fun q hq=>?_⟩;have s1:=Same.new (o:=.lst []) hq;have hlen:as.length=ps.length:=R.len;refine⟨_,rfl,p,rfl,⟨_,SqL.of (s1 _ _ R.lst)⟩,?_⟩;refine for_it (n:=(as.map V.ref).length) (fun i σ H'=>∃ v2 v3 v4,σ=[some (.ref p),some (.ref q),v2,v3,v4]/\Same H H'/\IntsAt H' q (SN.told (ps.take i)))
   ⟨none,none,none,rfl,s1,upd_same⟩ (fun i σ H' hi ⟨_,_,_,_,sm,_⟩=>⟨_,_,SqL.of (sm _ _ R.lst),gEe hi⟩) (fun σ H' ⟨_,_,_,_,sm,_⟩=>⟨_,SqL.of (sm _ _ R.lst),Nat.le_refl _⟩) ?_ ?_
  ·rintro i x σ H' H'' hi ⟨v2,v3,v4,rfl,sm,hI⟩ ⟨rfl,hy⟩;obtain⟨b,hb,rfl⟩:=refs_get (hy _ (SqL.of (sm _ _ R.lst)));have hip:i<ps.length:=by rw[<-hlen];simpa using hi
   have hmem:=SN.getD_mem ps i (0,0) hip;obtain⟨h0,h1,h2⟩:=hok _ hmem;have htake:=told_take ps i hip;have hat':=R.at_ i b hb;generalize ps.getD i (0,0)=pr at h0 h1 h2 hmem htake hat';refine⟨b,_,rfl,SqT.of (sm _ _ hat'),rfl,_,_,rfl,_,_,rfl,rfl,?_⟩;refine⟨_,rfl,_,rfl,pr.1,pr.2,rfl,h0,by omega,?_⟩;have hgpos:0<Int.gcd pr.1 pr.2:=Int.gcd_pos_of_ne_zero_right _ (by omega);have hgle:Int.gcd pr.1 pr.2<=pr.2.natAbs:=Nat.le_of_dvd (by omega) (Int.natAbs_dvd_natAbs.mpr (Int.gcd_dvd_right ..)|>fun h=>by simpa using h);refine⟨_,rfl,.inl ⟨rfl,_,SqL.of hI⟩,_,rfl,_,rfl,_,_,rfl,rfl,⟨by omega,by omega⟩,_,rfl,_,rfl,_,_,rfl,rfl,⟨by omega,by omega⟩,(by show 2<=sizeLine;decide),fun l hl=>?_⟩;have s2:=Same.new (o:=.lst [V.int (pr.1.fdiv (Int.gcd pr.1 pr.2:Nat)),V.int (pr.2.fdiv (Int.gcd pr.1 pr.2:Nat))]) hl;refine⟨q,l,_,_,rfl,rfl,s2 _ _ hI,upd_same,?_,?_⟩
   ·rw[lmp,told_len,List.length_take];show _+2<=sizeLine;have:=small1000 (n:=2*min i ps.length+2) (by omega);omega
   ·refine⟨_,_,_,rfl,?_,?_⟩
    ·intro z o e;rw[upd_ne (ne_of_none e hq)];exact s2 _ _ (sm _ _ e)
    ·unfold IntsAt;rw[upd_same,htake,List.map_append];have e1:pr.1.fdiv (Int.gcd pr.1 pr.2:Nat)=pr.1 / (Int.gcd pr.1 pr.2:Nat):=Int.fdiv_eq_ediv_of_nonneg _ (by omega);have e2:pr.2.fdiv (Int.gcd pr.1 pr.2:Nat)=pr.2 / (Int.gcd pr.1 pr.2:Nat):=Int.fdiv_eq_ediv_of_nonneg _ (by omega);simp only[e1,e2];rfl
  ·rintro σ H' ⟨v2,v3,v4,rfl,sm,hI⟩;rw[lmp,hlen,List.take_length] at hI;exact⟨_,rfl,k H' q sm hq hI⟩
end
end My
end
section
set_option maxRecDepth 100000
set_option maxHeartbeats 2000000
namespace My
open PySem PySem.Spec PyProof.Rows L2
section
variable{prog:Program}{w:World}{A:Around}{E:Value->Shared->Prop}{s:Shared}
theorem nextT_item{j t:Addr}{k:Nat}{ys:Array Value}{y:Value}{R:Value->Shared->Prop}(ij:s.heap.IsTupleIter j t k)(it:s.heap.IsTuple t ys)(ey:ys[k]?=some y)(hR:∀ g,g.IsTupleIter j t (k+1)->Heap.SameBut j s.heap g->R y {s with heap:=g}):wpAny (model prog w) A (Builtin.SmallTypes.nextOf (.ref j)) R E s:=by
 obtain⟨oj,e1,c1,d1⟩:=id ij;obtain⟨ot,e2,_,n2,d2⟩:=it;unfold Builtin.SmallTypes.nextOf;refine wpAny_bind (wpAny_callSpecial?_slot (name:=Str.ofString "__next__") ij.typeIs PySem.F.slot_tuple_iterator_next (wpAny_call_entry PySem.F.slot_tuple_iterator_next ij.typeIs PySem.F.entry_tuple_iterator_next ?_ (PySem.F.args_tuple_iterator_next_1 _)));show wpAny _ _ (field (.ref j) 0>>=_) _ _ s;refine wpAny_bind (wpAny_field e1 d1 (x:=.ref t) rfl ?_);show wpAny _ _ (if (Value.ref t==Value.none)=true then _ else _) _ _ s;rw[if_neg (show ¬((Value.ref t==Value.none)=true) from Bool.false_ne_true)];show wpAny _ _ (field (.ref j) 1>>=_) _ _ s;refine wpAny_bind (wpAny_field e1 d1 (x:=.int k 0) rfl ?_);show wpAny _ _ (seqItems? (.ref t)>>=_) _ _ s;refine wpAny_bind (wpAny_seqItems e2 d2 ?_);simp only[Int.toNat_natCast,ey];refine wpAny_bind (wpAny_setField e1 d1 (by simp) (wpAny_pure ⟨y,rfl,wpAny_pure (hR _ ?_ (Heap.SameBut.update ..))⟩));refine⟨_,Heap.get?_update_self _ e1 (Obj.isFreed_of_fields (Obj.data_mapFields d1 _)),(Obj.cls_mapFields ..).trans c1,?_⟩;rw[Obj.data_mapFields d1];simp[rawInt]
theorem nextT_end{j t:Addr}{k:Nat}{ys:Array Value}{R:Value->Shared->Prop}(hh:A.handled=none)(ij:s.heap.IsTupleIter j t k)(it:s.heap.IsTuple t ys)(ey:ys[k]?=none)(hE:∀ g e,Heap.ExtBut j s.heap g->(∃ o,g.get? e=some o/\o.cls=.type "StopIteration")->E (.ref e) {s with heap:=g}):wpAny (model prog w) A (Builtin.SmallTypes.nextOf (.ref j)) R E s:=by
 obtain⟨oj,e1,c1,d1⟩:=id ij;obtain⟨ot,e2,_,n2,d2⟩:=it;unfold Builtin.SmallTypes.nextOf;refine wpAny_bind (wpAny_callSpecial?_slot (name:=Str.ofString "__next__") ij.typeIs PySem.F.slot_tuple_iterator_next (wpAny_call_entry PySem.F.slot_tuple_iterator_next ij.typeIs PySem.F.entry_tuple_iterator_next ?_ (PySem.F.args_tuple_iterator_next_1 _)));show wpAny _ _ (field (.ref j) 0>>=_) _ _ s;refine wpAny_bind (wpAny_field e1 d1 (x:=.ref t) rfl ?_);show wpAny _ _ (if (Value.ref t==Value.none)=true then _ else _) _ _ s;rw[if_neg (show ¬((Value.ref t==Value.none)=true) from Bool.false_ne_true)];show wpAny _ _ (field (.ref j) 1>>=_) _ _ s;refine wpAny_bind (wpAny_field e1 d1 (x:=.int k 0) rfl ?_);show wpAny _ _ (seqItems? (.ref t)>>=_) _ _ s;refine wpAny_bind (wpAny_seqItems e2 d2 ?_);simp only[Int.toNat_natCast,ey];refine wpAny_bind (wpAny_rule (wpAny_bind (wpAny_setField e1 d1 (by simp) ?_)));show wpAny _ _ (newExc (.type "StopIteration") []>>=_) _ _ _;refine wpAny_bind ?_;simp only[newExc,newTuple];refine wpAny_bind (wpAny_newObj_type ?_ (by size_fits));refine wpAny_bind (m:=firstArgMember _ _) (wpAny_of_eq (a:=Value.none) (by first | rfl | (simp only[firstArgMember];rfl)) ?_);refine wpAny_newObj_type ?_ (by size_fits);simp only[raiseNew];refine wpAny_bind (wpAny_handled ?_)
 first | rw[show A.in1.handled=none from hh] | rw[hh]
 refine wpAny_bind (wpAny_pure (wpAny_throw ?_));exact hE _ _ (((Heap.SameBut.update ..).extBut.push _).push _) ⟨_,Heap.get?_push_size _ rfl,rfl⟩
theorem zipT_item{z TI TO i j a t:Addr}{m k:Nat}{xs ys:Array Value}{x y p q:Value}{R:Value->Shared->Prop}(D:ZipApart z TI TO i j a t)(oz:IsZip s.heap z TI TO .none)(oI:IsPair s.heap TI (.ref i) (.ref j))(oO:IsPair s.heap TO p q)(ii:s.heap.IsListIter i a m)(ij:s.heap.IsTupleIter j t k)(ia:s.heap.IsList a xs)(it:s.heap.IsTuple t ys)(ex:xs[m]?=some x)(ey:ys[k]?=some y)(hR:∀ g,IsZip g z TI TO (rawInt s.heap.objs.size)->IsPair g TO x y->g.IsListIter i a (m+1)->g.IsTupleIter j t (k+1)->IsPair g s.heap.objs.size x y->g.objs.size=s.heap.objs.size+1->
   (∀ c o,c≠z->c≠TO->c≠i->c≠j->s.heap.get? c=some o->g.get? c=some o)->R (.ref s.heap.objs.size) {s with heap:=g}):
  wpAny (model prog w) A (Builtin.«zip.__next__» ⟨[.ref z],[]⟩) (fun fin s'=>∃ v,fin=.done (.ret v)/\R v s') E s:=by
 show wpAny _ _ (field (.ref z) 2>>=_) _ _ _;refine wpAny_bind (wpAny_field oz rfl (x:=.bool false) rfl ?_);show wpAny _ _ (field (.ref z) 3>>=_) _ _ _;refine wpAny_bind (wpAny_field oz rfl (x:=.ref TI) rfl (wpAny_bind (wpAny_seqItems oI rfl ?_)));show wpAny _ _ (Builtin.SmallTypes.ownedTupleIsFree (.ref z)>>=_) _ _ _;refine wpAny_bind ?_;unfold Builtin.SmallTypes.ownedTupleIsFree;refine wpAny_bind (wpAny_field oz rfl (x:=.none) rfl (wpAny_pure ?_));simp only[if_true];refine wpAny_bind (wpAny_rule (wpAny_bind (wpAny_field oz rfl (x:=.ref TO) rfl (wpAny_bind (wpAny_setField_rec oz (by simp) fun g1 oz1 sb1=>?_)))));replace oz1:IsZip g1 z TI TO .ellipsis:=oz1;refine wpAny_bind ?_;simp only[List.zipIdx_cons,List.zipIdx_nil,List.forIn_cons,List.forIn_nil];refine wpAny_bind (wpAny_bind (wpAny_onRaise ?_));show wpAny _ _ (Builtin.SmallTypes.nextOf (.ref i)>>=_) _ _ _;refine wpAny_bind (wpAny_nextOf_list_item (ii.extBut sb1.extBut D.i1z) (ia.extBut sb1.extBut D.l1z) ex fun g2 ii2 sb2=>wpAny_pure ?_);have oO2:IsPair g2 TO p q:=sb2.extBut _ _ D.TOi1 (sb1.extBut _ _ D.TOz oO);refine wpAny_bind (wpAny_seqItems oO2 rfl (wpAny_bind (wpAny_updateSeq_pair oO2 fun g3 oO3 sb3=>?_)));replace oO3:IsPair g3 TO x q:=oO3;refine wpAny_bind (wpAny_letGo (wpAny_pure ?_));refine wpAny_bind (wpAny_bind (wpAny_onRaise ?_));show wpAny _ _ (Builtin.SmallTypes.nextOf (.ref j)>>=_) _ _ _;refine wpAny_bind (nextT_item (((ij.extBut sb1.extBut D.i2z).extBut sb2.extBut D.i12.symm).extBut sb3.extBut D.TOi2.symm) (((it.extBut sb1.extBut D.l2z).extBut sb2.extBut D.l2i1).extBut sb3.extBut D.l2TO) ey fun g4 ij4 sb4=>wpAny_pure ?_);have oO4:IsPair g4 TO x q:=sb4.extBut _ _ D.TOi2 oO3;refine wpAny_bind (wpAny_seqItems oO4 rfl (wpAny_bind (wpAny_updateSeq_pair oO4 fun g5 oO5 sb5=>?_)));replace oO5:IsPair g5 TO x y:=oO5;refine wpAny_bind (wpAny_letGo (wpAny_pure (wpAny_pure ?_)));refine wpAny_bind (wpAny_seqItems oO5 rfl (wpAny_bind (wpAny_newTuple ?_)));have size5:g5.objs.size=s.heap.objs.size:=by rw[sb5.1,sb4.1,sb3.1,sb2.1,sb1.1]
 have oz5:IsZip g5 z TI TO .ellipsis:=sb5.extBut _ _ D.TOz.symm (sb4.extBut _ _ D.i2z.symm (sb3.extBut _ _ D.TOz.symm (sb2.extBut _ _ D.i1z.symm oz1)));have kp5:∀ c o,c≠z->c≠TO->c≠i->c≠j->s.heap.get? c=some o->g5.get? c=some o:=fun c o n1 n2 n3 n4 e=>
  sb5.extBut _ _ n2 (sb4.extBut _ _ n4 (sb3.extBut _ _ n2 (sb2.extBut _ _ n3 (sb1.extBut _ _ n1 e))))
 have ii5:g5.IsListIter i a (m+1):=((ii2.extBut sb3.extBut D.TOi1.symm).extBut sb4.extBut D.i12).extBut sb5.extBut D.TOi1.symm;have ij5:g5.IsTupleIter j t (k+1):=ij4.extBut sb5.extBut D.TOi2.symm;have ltz:z<g5.objs.size:=Heap.lt_size oz5;show wpAny _ _ (Builtin.SmallTypes.ownedTupleHandOut (.ref z) (.ref g5.objs.size)>>=_) _ _ _;refine wpAny_bind ?_;unfold Builtin.SmallTypes.ownedTupleHandOut;have oz6:IsZip (g5.push {cls:=.type "tuple",data:=.seq #[x,y]}) z TI TO .ellipsis:=Heap.get?_push_of_some _ oz5;refine wpAny_bind (wpAny_setField_rec oz6 (by simp) fun g7 oz7 sb7=>?_);replace oz7:IsZip g7 z TI TO (rawInt g5.objs.size):=oz7;refine wpAny_setField_rec oz7 (by simp) fun g8 oz8 sb8=>?_;replace oz8:IsZip g8 z TI TO (rawInt g5.objs.size):=oz8;have up:∀ c o,c≠z->g5.get? c=some o->g8.get? c=some o:=fun c o n1 e=>sb8.extBut _ _ n1 (sb7.extBut _ _ n1 (Heap.get?_push_of_some _ e));have tp:IsPair g8 g5.objs.size x y:=sb8.extBut _ _ (Nat.ne_of_gt ltz) (sb7.extBut _ _ (Nat.ne_of_gt ltz) (Heap.get?_push_size _ rfl));have sz8:g8.objs.size=g5.objs.size+1:=by rw[sb8.1,sb7.1,Heap.size_push]
 rw[size5] at oz8 tp sz8;refine wpAny_pure ⟨_,rfl,?_⟩;show R (.ref g5.objs.size) _;rw[size5];exact hR g8 oz8 (up _ _ D.TOz oO5) (ii5.at fun o e=>up _ o D.i1z e) (ij5.at fun o e=>up _ o D.i2z e) tp sz8 fun c o n1 n2 n3 n4 e=>up c o n1 (kp5 c o n1 n2 n3 n4 e)
theorem zipT_end{z TI TO i j a t:Addr}{m k:Nat}{xs ys:Array Value}{p q:Value}{R:Fin->Shared->Prop}(hh:A.handled=none)(D:ZipApart z TI TO i j a t)(oz:IsZip s.heap z TI TO .none)(oI:IsPair s.heap TI (.ref i) (.ref j))(oO:IsPair s.heap TO p q)(ii:s.heap.IsListIter i a m)(ij:s.heap.IsTupleIter j t k)(ia:s.heap.IsList a xs)(it:s.heap.IsTuple t ys)(fin:xs[m]?=none\/ys[k]?=none)(hE:∀ g e,(∀ c o,c≠z->c≠TO->c≠i->c≠j->s.heap.get? c=some o->g.get? c=some o)->(∃ o,g.get? e=some o/\o.cls=.type "StopIteration")->E (.ref e) {s with heap:=g}):
  wpAny (model prog w) A (Builtin.«zip.__next__» ⟨[.ref z],[]⟩) R E s:=by
 show wpAny _ _ (field (.ref z) 2>>=_) _ _ _;refine wpAny_bind (wpAny_field oz rfl (x:=.bool false) rfl ?_);show wpAny _ _ (field (.ref z) 3>>=_) _ _ _;refine wpAny_bind (wpAny_field oz rfl (x:=.ref TI) rfl (wpAny_bind (wpAny_seqItems oI rfl ?_)));show wpAny _ _ (Builtin.SmallTypes.ownedTupleIsFree (.ref z)>>=_) _ _ _;refine wpAny_bind ?_;unfold Builtin.SmallTypes.ownedTupleIsFree;refine wpAny_bind (wpAny_field oz rfl (x:=.none) rfl (wpAny_pure ?_));simp only[if_true];refine wpAny_bind (wpAny_rule (wpAny_bind (wpAny_field oz rfl (x:=.ref TO) rfl (wpAny_bind (wpAny_setField_rec oz (by simp) fun g1 oz1 sb1=>?_)))));replace oz1:IsZip g1 z TI TO .ellipsis:=oz1;refine wpAny_bind ?_;simp only[List.zipIdx_cons,List.zipIdx_nil,List.forIn_cons,List.forIn_nil];refine wpAny_bind (wpAny_bind (wpAny_onRaise ?_));show wpAny _ _ (Builtin.SmallTypes.nextOf (.ref i)>>=_) _ _ _;cases hx:xs[m]? with
 | none=>
  refine wpAny_bind (wpAny_nextOf_list_end hh (ii.extBut sb1.extBut D.i1z) (ia.extBut sb1.extBut D.l1z) hx fun g2 e sb2 he=>?_);obtain⟨oe,e1,c1⟩:=he;have oz2:IsZip g2 z TI TO .ellipsis:=sb2 _ _ D.i1z.symm oz1;have ne:e≠z:=fun u=>by subst u;rw[oz2] at e1;cases e1;simp at c1
  refine wpAny_setField_rec oz2 (by simp) fun g3 _ sb3=>?_;exact hE g3 e (fun c o n1 _ n3 _ u=>sb3.extBut _ _ n1 (sb2 _ _ n3 (sb1.extBut _ _ n1 u))) ⟨oe,sb3.extBut _ _ ne e1,c1⟩
 | some x=>
  have hy:ys[k]?=none:=by
   rcases fin with u | u
   ·rw[hx] at u;cases u
   ·exact u
  refine wpAny_bind (wpAny_nextOf_list_item (ii.extBut sb1.extBut D.i1z) (ia.extBut sb1.extBut D.l1z) hx fun g2 ii2 sb2=>wpAny_pure ?_);have oO2:IsPair g2 TO p q:=sb2.extBut _ _ D.TOi1 (sb1.extBut _ _ D.TOz oO);refine wpAny_bind (wpAny_seqItems oO2 rfl (wpAny_bind (wpAny_updateSeq_pair oO2 fun g3 oO3 sb3=>?_)));refine wpAny_bind (wpAny_letGo (wpAny_pure ?_));refine wpAny_bind (wpAny_bind (wpAny_onRaise ?_));show wpAny _ _ (Builtin.SmallTypes.nextOf (.ref j)>>=_) _ _ _;refine wpAny_bind (nextT_end hh (((ij.extBut sb1.extBut D.i2z).extBut sb2.extBut D.i12.symm).extBut sb3.extBut D.TOi2.symm) (((it.extBut sb1.extBut D.l2z).extBut sb2.extBut D.l2i1).extBut sb3.extBut D.l2TO) hy fun g4 e sb4 he=>?_);obtain⟨oe,e1,c1⟩:=he;have oz4:IsZip g4 z TI TO .ellipsis:=sb4 _ _ D.i2z.symm (sb3.extBut _ _ D.TOz.symm (sb2.extBut _ _ D.i1z.symm oz1));have ne:e≠z:=fun u=>by subst u;rw[oz4] at e1;cases e1;simp at c1
  refine wpAny_setField_rec oz4 (by simp) fun g5 _ sb5=>?_;exact hE g5 e (fun c o n1 n2 n3 n4 u=>sb5.extBut _ _ n1 (sb4 _ _ n4 (sb3.extBut _ _ n2 (sb2.extBut _ _ n3 (sb1.extBut _ _ n1 u))))) ⟨oe,sb5.extBut _ _ ne e1,c1⟩
theorem pyNextT_item{z TI TO i j a t:Addr}{m k:Nat}{xs ys:Array Value}{x y p q:Value}{R:Option Value->Shared->Prop}(D:ZipApart z TI TO i j a t)(oz:IsZip s.heap z TI TO .none)(oI:IsPair s.heap TI (.ref i) (.ref j))(oO:IsPair s.heap TO p q)(ii:s.heap.IsListIter i a m)(ij:s.heap.IsTupleIter j t k)(ia:s.heap.IsList a xs)(it:s.heap.IsTuple t ys)(ex:xs[m]?=some x)(ey:ys[k]?=some y)(hR:∀ g,IsZip g z TI TO (rawInt s.heap.objs.size)->IsPair g TO x y->g.IsListIter i a (m+1)->g.IsTupleIter j t (k+1)->IsPair g s.heap.objs.size x y->g.objs.size=s.heap.objs.size+1->
   (∀ c o,c≠z->c≠TO->c≠i->c≠j->s.heap.get? c=some o->g.get? c=some o)->R (some (.ref s.heap.objs.size)) {s with heap:=g}):
  wpAny (model prog w) A (pyNext (.ref z)) R E s:=by
 have ty:s.TypeIs (.ref z) "zip":=⟨_,oz,rfl⟩;unfold pyNext;exact wpAny_bind (wpAny_attempt (wpAny_callSpecial?_slot (name:=Str.ofString "__next__") ty PySem.F.slot_zip_next (wpAny_call_entry PySem.F.slot_zip_next ty PySem.F.entry_zip_next
  (zipT_item D oz oI oO ii ij ia it ex ey fun g b1 b2 b3 b4 b5 b6 b7=>wpAny_pure (hR g b1 b2 b3 b4 b5 b6 b7)) (PySem.F.args_zip_next_1 _))))
theorem pyNextT_end{z TI TO i j a t:Addr}{m k:Nat}{xs ys:Array Value}{p q:Value}{R:Option Value->Shared->Prop}(hh:A.handled=none)(D:ZipApart z TI TO i j a t)(oz:IsZip s.heap z TI TO .none)(oI:IsPair s.heap TI (.ref i) (.ref j))(oO:IsPair s.heap TO p q)(ii:s.heap.IsListIter i a m)(ij:s.heap.IsTupleIter j t k)(ia:s.heap.IsList a xs)(it:s.heap.IsTuple t ys)(fin:xs[m]?=none\/ys[k]?=none)(hR:∀ g,(∀ c o,c≠z->c≠TO->c≠i->c≠j->s.heap.get? c=some o->g.get? c=some o)->R none {s with heap:=g}):wpAny (model prog w) A (pyNext (.ref z)) R E s:=by
 have ty:s.TypeIs (.ref z) "zip":=⟨_,oz,rfl⟩;unfold pyNext;refine wpAny_bind (wpAny_attempt (wpAny_callSpecial?_slot (name:=Str.ofString "__next__") ty PySem.F.slot_zip_next (wpAny_call_entry PySem.F.slot_zip_next ty PySem.F.entry_zip_next
  (zipT_end hh D oz oI oO ii ij ia it fin fun g e kp he=>?_) (PySem.F.args_zip_next_1 _))))
 obtain⟨o,ho,hc⟩:=he;exact wpAny_bind (wpAny_isInstance (T:="StopIteration") (b:=true) ⟨o,ho,hc⟩ isSubtype_stop (wpAny_pure (hR _ kp)))
end
abbrev zt1(h:Heap)(a:Addr):Heap:=h.push {cls:=.type "list_iterator",data:=.fields #[.ref a,.int 0 0]}
abbrev zt2(h:Heap)(a t:Addr):Heap:=(zt1 h a).push {cls:=.type "tuple_iterator",data:=.fields #[.ref t,.int 0 0]}
abbrev zt3(h:Heap)(a t:Addr):Heap:=(zt2 h a t).push {cls:=.type "tuple",data:=.seq #[.ref h.objs.size,.ref (zt1 h a).objs.size]}
abbrev zt4(h:Heap)(a t:Addr):Heap:=(zt3 h a t).push {cls:=.type "tuple",data:=.seq #[.none,.none]}
abbrev zt5(h:Heap)(a t:Addr):Heap:=(zt4 h a t).push {cls:=.type "zip",data:=.fields #[.none,.bool false,.bool false,.ref (zt2 h a t).objs.size,.ref (zt3 h a t).objs.size]}
theorem zipT_new(a t:Addr)(xs ys:Array Value):
  Meets (Builtin.«zip.__new__» ⟨[.type "zip",.ref a,.ref t],[]⟩) (fun _ R s=>s.heap.IsList a xs/\s.heap.IsTuple t ys/\R (.ok (.ret (.ref (zt4 s.heap a t).objs.size))) {s with heap:=zt5 s.heap a t}):=
 .of_wp fun prog w A R s h=>by
  obtain⟨hp,g,d,tk,os⟩:=s;obtain⟨ia,it,h⟩:=h;have sub:=sub_zip;have ia':Heap.IsList (Shared.heap ⟨hp,g,d,tk,os⟩) a xs:=ia;have it':Heap.IsTuple (Shared.heap ⟨hp.push {cls:=.type "list_iterator",data:=.fields #[.ref a,.int 0 0]},g,d,tk,os⟩) t ys:=Heap.IsTuple.push it _
  wp_walk using wpAny_pyIter_list ia',wpAny_pyIter_tuple it'
  exact⟨_,rfl,h⟩
theorem call_zipT{prog:Program}{w:World}{A:Around}{E:Value->Shared->Prop}{s:Shared}{a t:Addr}{xs ys:Array Value}{R:Value->Shared->Prop}(ia:s.heap.IsList a xs)(it:s.heap.IsTuple t ys)(h:∀ g,IsZip g (s.heap.objs.size+4) (s.heap.objs.size+2) (s.heap.objs.size+3) .none->IsPair g (s.heap.objs.size+2) (.ref s.heap.objs.size) (.ref (s.heap.objs.size+1))->IsPair g (s.heap.objs.size+3) .none .none->
   g.IsListIter s.heap.objs.size a 0->g.IsTupleIter (s.heap.objs.size+1) t 0->(∀ c o,s.heap.get? c=some o->g.get? c=some o)->R (.ref (s.heap.objs.size+4)) {s with heap:=g}):
  wpAny (model prog w) A (call (.type "zip") [.ref a,.ref t]) R E s:=by
 refine callType_new PySem.F.called_zip (by decide) (PySem.F.typeCall_zip_2 _ _) (PySem.F.newCall_zip_2 _ _) (fun obj=>PySem.F.args_object_init_3 obj _ _) PySem.F.entry_zip_new (zipT_new a t xs ys) ⟨ia,it,?_⟩;have n1:(zt1 s.heap a).objs.size=s.heap.objs.size+1:=Heap.size_push ..;have n2:(zt2 s.heap a t).objs.size=s.heap.objs.size+2:=by rw[Heap.size_push,n1]
 have n3:(zt3 s.heap a t).objs.size=s.heap.objs.size+3:=by rw[Heap.size_push,n2]
 have n4:(zt4 s.heap a t).objs.size=s.heap.objs.size+4:=by rw[Heap.size_push,n3]
 have g5:(zt5 s.heap a t).get? (zt4 s.heap a t).objs.size=some _:=Heap.get?_push_size _ rfl;have g4:(zt5 s.heap a t).get? (zt3 s.heap a t).objs.size=some _:=Heap.get?_push_of_some _ (Heap.get?_push_size _ rfl);have g3:(zt5 s.heap a t).get? (zt2 s.heap a t).objs.size=some _:=Heap.get?_push_of_some _ (Heap.get?_push_of_some _ (Heap.get?_push_size _ rfl));have g2:(zt5 s.heap a t).get? (zt1 s.heap a).objs.size=some _:=Heap.get?_push_of_some _ (Heap.get?_push_of_some _ (Heap.get?_push_of_some _ (Heap.get?_push_size _ rfl)));have g1:(zt5 s.heap a t).get? s.heap.objs.size=some _:=Heap.get?_push_of_some _ (Heap.get?_push_of_some _ (Heap.get?_push_of_some _ (Heap.get?_push_of_some _ (Heap.get?_push_size _ rfl))));show _/\_;rw[n2,n3,n4] at g5;rw[n1,n2] at g3;rw[n3] at g4;rw[n1] at g2;rw[n4];exact⟨⟨_,g5,rfl⟩,h _ g5 g3 g4 ⟨_,g1,rfl,rfl⟩ ⟨_,g2,rfl,rfl⟩ fun c o u=>Heap.get?_push_of_some _ (Heap.get?_push_of_some _ (Heap.get?_push_of_some _ (Heap.get?_push_of_some _ (Heap.get?_push_of_some _ u))))⟩
def Itzt(K:PySem.W.Frag)(a b:Addr):It:=
 ⟨fun i H=>∃ (xs ys:List V) (x y:V),SqL K H a xs/\SqT K H b ys/\xs[i]?=some x/\ys[i]?=some y,
  fun i H v H'=>∃ T x y,v=.ref T/\H T=none/\H'=upd H T (.tup [x,y])/\(∀ xs,SqL K H a xs->xs[i]?=some x)/\∀ ys,SqT K H b ys->ys[i]?=some y,
  fun i H=>∃ xs ys:List V,SqL K H a xs/\SqT K H b ys/\(xs.length<=i\/ys.length<=i)⟩
theorem turn_zipT{P:Program}{w:World}{K:PySem.W.Frag}{elts:List Expr}{kk:Nat}{tpos:Pos}{a b z TI TO i1 i2:Addr}(D:ZipApart z TI TO i1 i2 a b):
  Turn P w K (.Tuple elts kk tpos) (Itzt K a b) [z,TI,TO,i1,i2] z (fun i h=>IsZip h z TI TO .none/\IsPair h TI (.ref i1) (.ref i2)/\(∃ x y,IsPair h TO x y)/\h.IsListIter i1 a i/\h.IsTupleIter i2 b i) where
 mem:=by simp
 obj:=fun i h st c hc=>by
  obtain⟨hz,hTI,⟨x,y,hTO⟩,⟨o1,e1,_,d1⟩,⟨o2,e2,_,d2⟩⟩:=st;have e':c=z\/c=TI\/c=TO\/c=i1\/c=i2:=by simpa using hc
  rcases e' with q | q | q | q | q
  ·rw[q];exact⟨_,hz,fun v q=>nomatch q⟩
  ·rw[q];exact⟨_,hTI,fun v q=>nomatch q⟩
  ·rw[q];exact⟨_,hTO,fun v q=>nomatch q⟩
  ·rw[q];exact⟨o1,e1,fun v q=>by rw[d1] at q;cases q⟩
  ·rw[q];exact⟨o2,e2,fun v q=>by rw[d2] at q;cases q⟩
 keep:=fun i h h' st k=>by
  obtain⟨hz,hTI,⟨x,y,hTO⟩,h1,h2⟩:=st;exact⟨k z (by simp) _ hz,k TI (by simp) _ hTI,⟨x,y,k TO (by simp) _ hTO⟩,h1.at fun o q=>k i1 (by simp) o q,h2.at fun o q=>k i2 (by simp) o q⟩
 item:=by
  intro X hP hw hK hc i pins s σ H E I hf st hg;subst hP hw hK;obtain⟨hz,hTI,⟨x0,y0,hTO⟩,h1,h2⟩:=st;obtain⟨xs,ys,x,y,hqx,hqy,hx,hy⟩:=hg;obtain⟨its,rv,p,_⟩:=I.list hqx;obtain⟨its2,rv2,p2,_⟩:=I.tuple hqy;obtain⟨u,hu,ru⟩:=rv.get hx;obtain⟨u2,hu2,ru2⟩:=rv2.get hy;have hzl:z<s.heap.objs.size:=Heap.lt_size hz;refine pyNextT_item D hz hTI hTO h1 h2 p.isList (show s.heap.IsTuple b its2.toArray from p2) (x:=u) (y:=u2) (by simpa using hu) (by simpa using hu2) fun h' z' TO' h1' h2' hT hsz hk=>?_;refine⟨_,rfl,wpAny_letOwnedTupleGo_zip (s:={s with heap:=h'}) z' fun h'' z'' sb=>?_⟩;have hT2:h''.get? s.heap.objs.size=some {cls:=.type "tuple",data:=.seq #[u,u2]}:=(sb.2 _ (Nat.ne_of_gt hzl)).trans hT;have new:ObjOk X.prog X.w (upd H s.heap.objs.size (.tup [x,y])) h'' s.heap.objs.size (.tup [x,y]):=
   ⟨by show 2<=sizeLine;decide,[u,u2],.cons ru (.cons ru2 .nil),⟨_,hT2,rfl,_,rfl⟩⟩
  have I1:Inv X pins σ (upd H s.heap.objs.size (.tup [x,y])) {s with heap:=h''}:=
   I.turnedNew (t':=s.toks) (ch:=[z,TI,TO,i1,i2]) (fun c o hb q=>(sb.2 c (fun q'=>hb (by simp[q']))).trans (hk c o (fun q'=>hb (by simp[q'])) (fun q'=>hb (by simp[q'])) (fun q'=>hb (by simp[q'])) (fun q'=>hb (by simp[q'])) q)) hf (Nat.le_refl _) new
  refine⟨.ref s.heap.objs.size,_,I1,rfl,⟨_,x,y,rfl,I.hok.fresh (Nat.le_refl _),rfl,fun l hl=>by rw[I.list_inj hl hqx];exact hx,fun l hl=>by rw[I.tuple_inj hl hqy];exact hy⟩,⟨z'',?_,⟨u,u2,?_⟩,?_,?_⟩,fun c hcm=>?_⟩
  ·exact(sb.2 _ D.TIz).trans (hk _ _ D.TIz D.TITO D.TIi1 D.TIi2 hTI)
  ·exact(sb.2 _ D.TOz).trans TO'
  ·exact h1'.at fun o q=>(sb.2 _ D.i1z).trans q
  ·exact h2'.at fun o q=>(sb.2 _ D.i2z).trans q
  ·have hlt:c<s.heap.objs.size:=by
    have e':c=z\/c=TI\/c=TO\/c=i1\/c=i2:=by simpa using hcm
    rcases e' with q | q | q | q | q
    ·rw[q];exact hzl
    ·rw[q];exact Heap.lt_size hTI
    ·rw[q];exact Heap.lt_size hTO
    ·rw[q];obtain⟨_,e1,_⟩:=h1;exact Heap.lt_size e1
    ·rw[q];obtain⟨_,e2,_⟩:=h2;exact Heap.lt_size e2
   rw[upd_ne (Nat.ne_of_lt hlt)];exact(hf c hcm).1
 done:=by
  intro X hP hw hK hc i pins s σ H E I hf st hg;subst hP hw hK;obtain⟨hz,hTI,⟨x0,y0,hTO⟩,h1,h2⟩:=st;obtain⟨xs,ys,hqx,hqy,hend⟩:=hg;obtain⟨its,rv,p,_⟩:=I.list hqx;obtain⟨its2,rv2,p2,_⟩:=I.tuple hqy;have l1:=rv.length;have l2:=rv2.length;have he:its.toArray[i]?=none\/its2.toArray[i]?=none:=by
   rcases hend with q | q
   ·exact .inl (by simp;omega)
   ·exact .inr (by simp;omega)
  exact pyNextT_end (I.ok.hd hc) D hz hTI hTO h1 h2 p.isList (show s.heap.IsTuple b its2.toArray from p2) he fun h' hk=>⟨rfl,I.turnedL (t':=s.toks) (ch:=[z,TI,TO,i1,i2]) (fun c o hb q=>
   hk c o (fun q'=>hb (by simp[q'])) (fun q'=>hb (by simp[q'])) (fun q'=>hb (by simp[q'])) (fun q'=>hb (by simp[q'])) q) hf⟩
 self:=fun A i s Q E st h=>wpAny_pyIter_zip st.1 h
def iZipT(K:PySem.W.Frag)(ta:TA):TI:=fun σ H R=>ta σ H fun vs H1=>∃ a b xs ys,vs=[.ref a,.ref b]/\SqL K H1 a xs/\SqT K H1 b ys/\R (Itzt K a b) H1
theorem pi_zipT{X:Cx}{e e2:Expr}{ta:TA}{p pos tpos:Pos}{elts:List Expr}{kk:Nat}(hg:Gl X "zip")(hm:X.mg "zip"=none)(ha:PA X [e,e2] ta)(hs:starEach [e,e2] X.env=(false,eval e X.env)::starEach [e2] X.env:=by rfl)(hpl:(backTo pos (starEach [e2] X.env)).any (·.1)=false:=by rfl):
  PI X (.Tuple elts kk tpos) (.Call (.Name "zip" p) [e,e2] [] pos) (iZipT X.K ta):=by
 intro pins s σ H R I h;refine Call_ (ld_blt I hg hm boot_zip5 (PyProof.Rows.callWith_type1 (thn (ha pos pins s σ H _ I h) fun us s1 ⟨vs,H1,I1,r1,q1⟩=>?_) hs hpl));obtain⟨a,b,xs,ys,ex,hqx,hqy,q⟩:=q1;subst ex;cases r1 with
 | cons r rr=>
  cases rr with
  | cons r' rr=>
   cases rr;cases r;cases r';obtain⟨its,rv,p1,_⟩:=I1.list hqx;obtain⟨its2,rv2,p2,_⟩:=I1.tuple hqy;have la:a<s1.heap.objs.size:=p1.lt;have lb:b<s1.heap.objs.size:=p2.lt;refine call_zipT p1.isList (show s1.heap.IsTuple b its2.toArray from p2) fun h' hz hTI hTO h1 h2 hk=>wpAny_pyIter_zip hz ?_;have I2:Inv X pins σ H1 {s1 with heap:=h'}:=I1.kept (t':=s1.toks) hk;refine⟨s1.heap.objs.size+4,[s1.heap.objs.size+4,s1.heap.objs.size+2,s1.heap.objs.size+3,s1.heap.objs.size,s1.heap.objs.size+1],_,_,H1,rfl,I2,turn_zipT (PySem.W.ktu_apart s1.heap.objs.size a b la lb),⟨hz,hTI,⟨_,_,hTO⟩,h1,h2⟩,fun c hcm=>?_,q⟩;have e':c=s1.heap.objs.size+4\/c=s1.heap.objs.size+2\/c=s1.heap.objs.size+3\/c=s1.heap.objs.size\/c=s1.heap.objs.size+1:=by simpa using hcm
   have hle:s1.heap.objs.size<=c:=by
    rcases e' with z | z | z | z | z
    ·rw[z];exact Nat.le_add_right _ _
    ·rw[z];exact Nat.le_add_right _ _
    ·rw[z];exact Nat.le_add_right _ _
    ·rw[z];exact Nat.le_refl _
    ·rw[z];exact Nat.le_add_right _ _
   exact I1.fpOk hle (I1.hok.fresh hle)
end My
end
section
set_option maxRecDepth 100000
set_option maxHeartbeats 2000000
namespace My
open PySem PySem.Spec PyProof.Rows L2
open Vbahar (State)
def hf(a b c d:Addr):List (Str×V):=[("capacities",.ref a),("fares",.ref b),("demands",.ref c),("ways",.ref d)]
theorem hf_caps(a b c d:Addr):(hf a b c d).lookup ("capacities":Str)=some (V.ref a):=look_hit
theorem hf_fares(a b c d:Addr):(hf a b c d).lookup ("fares":Str)=some (V.ref b):=(look_miss (by decide +kernel)).trans look_hit
theorem hf_dems(a b c d:Addr):(hf a b c d).lookup ("demands":Str)=some (V.ref c):=(look_miss (by decide +kernel)).trans ((look_miss (by decide +kernel)).trans look_hit)
theorem hf_ways(a b c d:Addr):(hf a b c d).lookup ("ways":Str)=some (V.ref d):=
 (look_miss (by decide +kernel)).trans ((look_miss (by decide +kernel)).trans ((look_miss (by decide +kernel)).trans look_hit))
structure HouC(K:PySem.W.Frag)(C:Addr):Prop where
 cl:Cls K C
 caps:NoAttr K C "capacities"
 fares:NoAttr K C "fares"
 dems:NoAttr K C "demands"
 ways:NoAttr K C "ways"
structure HouseOb(C:Addr)(H:Hp)(x dx a b c d:Addr)(ws:List Addr)(s:State):Prop where
 ins:H x=some (.ins C dx (hf a b c d))
 caps:IntsAt H a (SN.capsI s)
 fares:IntsAt H b (SN.faresI s)
 dems:IntsAt H c (SN.demandsI s)
 ways:RowsAs H d ws (SN.waysI s)
 ab:a≠b
 ac:a≠c
 bc:b≠c
 da:d≠a
 db:d≠b
 dc:d≠c
 wa:∀ z,z∈ws->z≠a/\z≠b/\z≠c
theorem HouseOb.same{C:Addr}{H H':Hp}{x dx a b c d:Addr}{ws:List Addr}{s:State}(h:HouseOb C H x dx a b c d ws s)(e:Same H H'):HouseOb C H' x dx a b c d ws s:=
 ⟨e _ _ h.ins,e _ _ h.caps,e _ _ h.fares,e _ _ h.dems,h.ways.same e,h.ab,h.ac,h.bc,h.da,h.db,h.dc,h.wa⟩
theorem HouseOb.as{C:Addr}{H:Hp}{x dx a b c d:Addr}{ws:List Addr}{s:State}(h:HouseOb C H x dx a b c d ws s):HouseAs H a b c d s:=⟨h.caps,h.fares,h.dems,⟨ws,h.ways⟩⟩
def cf(pl:Int)(ar rr:Addr)(en:Int):List (Str×V):=[("place",.int pl),("arguments",.ref ar),("row",.ref rr),("end",.int en)]
theorem cf_place(pl:Int)(ar rr:Addr)(en:Int):(cf pl ar rr en).lookup ("place":Str)=some (V.int pl):=look_hit
theorem cf_args(pl:Int)(ar rr:Addr)(en:Int):(cf pl ar rr en).lookup ("arguments":Str)=some (V.ref ar):=(look_miss (by decide +kernel)).trans look_hit
theorem cf_row(pl:Int)(ar rr:Addr)(en:Int):(cf pl ar rr en).lookup ("row":Str)=some (V.ref rr):=(look_miss (by decide +kernel)).trans ((look_miss (by decide +kernel)).trans look_hit)
theorem cf_end(pl:Int)(ar rr:Addr)(en:Int):(cf pl ar rr en).lookup ("end":Str)=some (V.int en):=
 (look_miss (by decide +kernel)).trans ((look_miss (by decide +kernel)).trans ((look_miss (by decide +kernel)).trans look_hit))
structure CalC(K:PySem.W.Frag)(C:Addr):Prop where
 cl:Cls K C
 place:NoAttr K C "place"
 args:NoAttr K C "arguments"
 row:NoAttr K C "row"
 end_:NoAttr K C "end"
structure CallOb(C:Addr)(H:Hp)(y dy ar rr:Addr)(pl en:Int)(args row:List Int):Prop where
 ins:H y=some (.ins C dy (cf pl ar rr en))
 args:IntsAt H ar args
 row:IntsAt H rr row
theorem CallOb.same{C:Addr}{H H':Hp}{y dy ar rr:Addr}{pl en:Int}{args row:List Int}(h:CallOb C H y dy ar rr pl en args row)(e:Same H H'):CallOb C H' y dy ar rr pl en args row:=
 ⟨e _ _ h.ins,e _ _ h.args,e _ _ h.row⟩
structure ActPost(HC:Addr)(H H':Hp)(x dx a b c d rr:Addr)(ws:List Addr)(s':State):Prop where
 ex:∃ a' b' c' d' ws',HouseOb HC H' x dx a' b' c' d' ws' s'/\(∀ z,z∈[a',b',c',d']->z∈[a,b,c,d]\/H z=none)/\(∀ z,z∈ws'->z∈ws\/z=rr\/H z=none)
 kp:∀ z o,H z=some o->z≠x->z≠a->z≠b->z≠c->z≠d->H' z=some o
theorem ActPost.still{HC:Addr}{H H':Hp}{x dx a b c d rr:Addr}{ws:List Addr}{s:State}(h:HouseOb HC H x dx a b c d ws s)(e:Same H H'):ActPost HC H H' x dx a b c d rr ws s:=
 ⟨⟨a,b,c,d,ws,h.same e,fun z hz=>.inl hz,fun z hz=>.inl hz⟩,fun z o q _ _ _ _ _=>e _ _ q⟩
def spAct(HC CC:Addr)(pre:State->List Int->List Int->Prop)(f:State->List Int->List Int->State×List Int):Sp:=fun vs H Q _=>
 ∃ (x dx a b c d:Addr) (ws:List Addr) (s:State) (y dy ar rr:Addr) (pl en:Int) (args row:List Int),vs=[.ref x,.ref y]/\HouseOb HC H x dx a b c d ws s/\CallOb CC H y dy ar rr pl en args row/\
  rr≠a/\rr≠b/\rr≠c/\rr≠d/\ar≠a/\ar≠b/\ar≠c/\ar≠d/\Good s/\pre s args row/\∀ (H':Hp) (p:Addr),ActPost HC H H' x dx a b c d rr ws (f s args row).1->H p=none->IntsAt H' p (f s args row).2->Q (.ref p) H'
def Num(mg:Str->Option Value)(x:Str)(n:Int):Prop:=∃ t,mg x=some (.int n t)
section
variable{P:Program}{w:World}{K:PySem.W.Frag}{mg:Str->Option Value}{base:Heap}
abbrev sHasLeg:Stmt:=defAt "has_leg"
def spHasLeg(HC:Addr):Sp:=fun vs H Q _=>∃ (x dx a b c d:Addr) (ws:List Addr) (s:State) (n:Int),vs=[.ref x,.int n]/\HouseOb HC H x dx a b c d ws s/\Q (.bl (decide (n<=(s.caps.length:Int)))) H
theorem scHasLeg:FnScope ["house","leg"] ["house","leg"] (defScope sHasLeg):=⟨rfl,rfl,rfl,by decide +kernel,rfl,by decide +kernel,by decide +kernel⟩
theorem ok_has_leg{f HC:Addr}{fd:FuncData}(F:Fun K "has_leg" "has_leg" sHasLeg f fd)(B:Blt mg)(T:HouC K HC):FnOk P w K mg base CX0 1 f fd ["house","leg"] (spHasLeg HC):=by
 refine F.ok scHasLeg (fun vs H Q E h=>?_) (fun cdv A outer s H vs Q E hr h=>?_)
 ·obtain⟨x,dx,a,b,c,d,ws,st,n,rfl,_⟩:=h;rfl
 ·obtain⟨x,dx,a,b,c,d,ws,st,n,rfl,O,k⟩:=h;refine⟨_,pss_one (ps_ret (pe_cmpR op_le (pv 1) (pe_callB call_len_seq (by rfl) B.len PySem.boot_len (pa_cons (pe_fld (pv 0) rfl) pa_nil)) (nomark _))),?_⟩;refine⟨_,rfl,_,rfl,x,HC,dx,_,_,rfl,O.ins,T.cl,T.caps,hf_caps a b c d,a,_,rfl,.inl (SqL.of O.caps),_,_,rfl,rfl,?_⟩;have e:((SN.capsI st).map V.int).length=st.caps.length:=by simp[SN.capsI]
  rw[e];exact k
abbrev sAddLeg:Stmt:=defAt "add_leg"
def actLeg(s:State)(args row:List Int):State×List Int:=Vbahar.step s (.leg (args.getD 0 0).toNat)
def preLeg(s:State)(args row:List Int):Prop:=args.length=1/\0<=args.getD 0 0
theorem scAddLeg:FnScope ["house","call"] ["house","call"] (defScope sAddLeg):=⟨rfl,rfl,rfl,by decide +kernel,rfl,by decide +kernel,by decide +kernel⟩
theorem HouseOb.caps_to{HC:Addr}{H:Hp}{x dx a b c d:Addr}{ws:List Addr}{s s':State}(O:HouseOb HC H x dx a b c d ws s)(hj:s'.journeys=s.journeys):HouseOb HC (upd H a (.lst ((SN.capsI s').map V.int))) x dx a b c d ws s':=by
 have xa:x≠a:=ne_of O.ins O.caps (fun q=>by cases q);refine⟨by rw[upd_ne xa];exact O.ins,upd_same,?_,?_,?_,O.ab,O.ac,O.bc,O.da,O.db,O.dc,O.wa⟩
 ·unfold IntsAt SN.faresI;rw[upd_ne O.ab.symm,hj];exact O.fares
 ·unfold IntsAt SN.demandsI;rw[upd_ne O.ac.symm,hj];exact O.dems
 ·unfold SN.waysI;rw[hj];refine⟨by rw[upd_ne O.da];exact O.ways.lst,O.ways.len,fun i z e=>?_⟩;unfold IntsAt;rw[upd_ne (O.wa z (List.mem_of_getElem? e)).1];exact O.ways.at_ i z e
theorem ok_add_leg{f HC CC:Addr}{fd:FuncData}(F:Fun K "add_leg" "add_leg" sAddLeg f fd)(B:Blt mg)(T:HouC K HC)(TC:CalC K CC)(n1:Num mg "MOST_LEGS" 5)(n2:Num mg "NO_ROOM" (-6)):
  FnOk P w K mg base CX0 1 f fd ["house","call"] (spAct HC CC preLeg actLeg):=by
 obtain⟨t1,n1⟩:=n1;obtain⟨t2,n2⟩:=n2;refine F.ok scAddLeg (fun vs H Q E h=>?_) (fun cdv A outer s H vs Q E hr h=>?_)
 ·obtain⟨x,dx,a,b,c,d,ws,st,y,dy,ar,rr,pl,en,args,row,rfl,_⟩:=h;rfl
 ·obtain⟨x,dx,a,b,c,d,ws,st,y,dy,ar,rr,pl,en,args,row,rfl,O,Co,r1,r2,r3,r4,q1,q2,q3,q4,hs,⟨hl,hv⟩,k⟩:=h;refine⟨_,pss_cons (ps_if (pt_cmpR op_eq (pe_callB call_len_seq (by rfl) B.len PySem.boot_len (pa_cons (pe_fld (pv 0) rfl) pa_nil)) (pe_glob (v:=.int 5) rfl n1 ⟨_,rfl⟩) (nomark _))
    (pss_one (ps_ret (pe_lst (pa_cons (pe_glob (v:=.int (-6)) rfl n2 ⟨_,rfl⟩) pa_nil)))) pss_nil)
   (pss_cons (ps_expr (pe_bm PySem.F.plainAttrs_list PySem.F.slot_list_append PySem.F.type_list_append mt_append (pe_fld (pv 0) rfl) (pa_cons (pe_ix ix_list (pe_fld (pv 1) rfl) pe_int (fun _ _=>rfl)) pa_nil)))
   (pss_one (ps_ret (pe_lst (pa_cons pe_int (pa_cons (pe_callB call_len_seq (by rfl) B.len PySem.boot_len (pa_cons (pe_fld (pv 0) rfl) pa_nil)) pa_nil)))))),?_⟩
  have el:((SN.capsI st).map V.int).length=st.caps.length:=by simp[SN.capsI]
  have h5:=hs.small.legs;refine⟨_,rfl,x,HC,dx,_,_,rfl,O.ins,T.cl,T.caps,hf_caps a b c d,a,_,rfl,.inl (SqL.of O.caps),rfl,_,rfl,?_⟩;rw[el];refine ite2 (fun hc=>?_) (fun hc=>?_)
  ·have hc5:st.caps.length=5:=by
    have:=of_decide_eq_true hc;injection this with e;omega
   refine⟨(by show 1<=sizeLine;decide),fun p hp=>?_⟩;have e:actLeg st args row=(st,[-6]):=by
    unfold actLeg Vbahar.step;simp only;rw[if_pos (by rw[hc5];decide)]
   rw[e] at k;exact k _ p (ActPost.still O (Same.new hp)) hp upd_same
  ·have hc5:¬5<=st.caps.length:=by
    intro q;apply hc;have:st.caps.length=5:=by omega
    rw[this];decide
   have e:actLeg st args row=({st with caps:=st.caps++[(args.getD 0 0).toNat]},[0,(st.caps.length:Int)+1]):=by
    unfold actLeg Vbahar.step;simp only;rw[if_neg (show ¬Vbahar.LEGS<=st.caps.length from hc5)];simp[Vbahar.ok,Vbahar.ints]
   rw[e] at k;refine⟨_,rfl,x,HC,dx,_,_,rfl,O.ins,T.cl,T.caps,hf_caps a b c d,.inl ⟨rfl,_,SqL.of O.caps⟩,_,rfl,y,CC,dy,_,_,rfl,Co.ins,TC.cl,TC.args,cf_args pl ar rr en,ar,_,_,_,rfl,rfl,SqL.of Co.args,ints_at' (i:=0) (by omega) (by omega),a,_,_,rfl,rfl,O.caps,?_,?_⟩
   ·rw[el];exact small1000 (by omega)
   have ec:(SN.capsI st).map V.int++[V.int (args.getD 0 0)]=(SN.capsI {st with caps:=st.caps++[(args.getD 0 0).toNat]}).map V.int:=by
    simp only[SN.capsI,List.map_append,List.map_cons,List.map_nil];congr 2;have:(((args.getD 0 0).toNat:Nat):Int)=args.getD 0 0:=by omega
    rw[this]
   rw[ec];have O2:=O.caps_to (s':={st with caps:=st.caps++[(args.getD 0 0).toNat]}) rfl;have kp:∀ z o,H z=some o->z≠a->upd H a (.lst ((SN.capsI {st with caps:=st.caps++[(args.getD 0 0).toNat]}).map V.int)) z=some o:=fun z o e n=>by rw[upd_ne n];exact e
   have fr:∀ z,upd H a (.lst ((SN.capsI {st with caps:=st.caps++[(args.getD 0 0).toNat]}).map V.int)) z=none->H z=none:=fun z e=>by
    cases q:H z with
    | none=>rfl
    | some o=>
     by_cases za:z=a
     ·rw[za,upd_same] at e;cases e
     ·rw[kp z o q za] at e;cases e
   generalize upd H a (.lst ((SN.capsI {st with caps:=st.caps++[(args.getD 0 0).toNat]}).map V.int))=H2 at O2 kp fr ⊢;refine⟨_,rfl,x,HC,dx,_,_,rfl,O2.ins,T.cl,T.caps,hf_caps a b c d,a,_,rfl,.inl (SqL.of O2.caps),(by show 2<=sizeLine;decide),fun p hp=>?_⟩;refine k _ p ⟨⟨a,b,c,d,ws,O2.same (Same.new hp),fun z hz=>.inl hz,fun z hz=>.inl hz⟩,fun z o e _ n _ _ _=>Same.new hp _ _ (kp z o e n)⟩ (fr p hp) ?_;unfold IntsAt;rw[upd_same];simp[SN.capsI]
end
end My
end
section
set_option maxRecDepth 100000
set_option maxHeartbeats 2000000
namespace My
open PySem PySem.Spec PyProof.Rows L2
open Vbahar (State)
theorem HouseOb.dems_to{HC:Addr}{H:Hp}{x dx a b c d:Addr}{ws:List Addr}{s s':State}(O:HouseOb HC H x dx a b c d ws s)(h1:s'.caps=s.caps)(h2:SN.faresI s'=SN.faresI s)(h3:SN.waysI s'=SN.waysI s):
  HouseOb HC (upd H c (.lst ((SN.demandsI s').map V.int))) x dx a b c d ws s':=by
 have xc:x≠c:=ne_of O.ins O.dems (fun q=>by cases q);refine⟨by rw[upd_ne xc];exact O.ins,?_,?_,upd_same,?_,O.ab,O.ac,O.bc,O.da,O.db,O.dc,O.wa⟩
 ·unfold IntsAt SN.capsI;rw[upd_ne O.ac,h1];exact O.caps
 ·unfold IntsAt;rw[upd_ne O.bc,h2];exact O.fares
 ·rw[h3];refine⟨by rw[upd_ne O.dc];exact O.ways.lst,O.ways.len,fun i z e=>?_⟩;unfold IntsAt;rw[upd_ne (O.wa z (List.mem_of_getElem? e)).2.2];exact O.ways.at_ i z e
theorem HouseOb.fares_to{HC:Addr}{H:Hp}{x dx a b c d:Addr}{ws:List Addr}{s s':State}(O:HouseOb HC H x dx a b c d ws s)(h1:s'.caps=s.caps)(h2:SN.demandsI s'=SN.demandsI s)(h3:SN.waysI s'=SN.waysI s):
  HouseOb HC (upd H b (.lst ((SN.faresI s').map V.int))) x dx a b c d ws s':=by
 have xb:x≠b:=ne_of O.ins O.fares (fun q=>by cases q);refine⟨by rw[upd_ne xb];exact O.ins,?_,upd_same,?_,?_,O.ab,O.ac,O.bc,O.da,O.db,O.dc,O.wa⟩
 ·unfold IntsAt SN.capsI;rw[upd_ne O.ab,h1];exact O.caps
 ·unfold IntsAt;rw[upd_ne O.bc.symm,h2];exact O.dems
 ·rw[h3];refine⟨by rw[upd_ne O.db];exact O.ways.lst,O.ways.len,fun i z e=>?_⟩;unfold IntsAt;rw[upd_ne (O.wa z (List.mem_of_getElem? e)).2.1];exact O.ways.at_ i z e
theorem upd_free{H:Hp}{a z:Addr}{o u:HO}(ha:H a=some u)(e:upd H a o z=none):H z=none:=by
 by_cases za:z=a
 ·rw[za,upd_same] at e;cases e
 ·rw[upd_ne za] at e;exact e
theorem ActPost.one{HC:Addr}{H H2 H':Hp}{x dx a b c d rr q:Addr}{ws:List Addr}{s':State}(O2:HouseOb HC H2 x dx a b c d ws s')(hq:q=a\/q=b\/q=c)(kp:∀ z o,H z=some o->z≠q->H2 z=some o)(e:Same H2 H'):
  ActPost HC H H' x dx a b c d rr ws s':=
 ⟨⟨a,b,c,d,ws,O2.same e,fun z hz=>.inl hz,fun z hz=>.inl hz⟩,fun z o h _ n1 n2 n3 _=>e _ _ (kp z o h (by rcases hq with r | r | r<;>rw[r]<;>assumption))⟩
theorem map_set_int(l:List Nat)(i v:Nat):(l.set i v).map (fun(n:Nat)=>(n:Int))=(l.map (fun(n:Nat)=>(n:Int))).set i (v:Int):=List.map_set
theorem modify_map_same{l:List Vbahar.Journey}{i:Nat}{g:Vbahar.Journey->Vbahar.Journey}{α:Type}(f:Vbahar.Journey->α)(h:∀ j,f (g j)=f j):(l.modify i g).map f=l.map f:=by
 refine List.ext_getElem? fun k=>?_;rw[List.getElem?_map,List.getElem?_map,List.getElem?_modify];cases l[k]? with
 | none=>rfl
 | some j=>
  by_cases c:i=k
  ·simp[c,h]
  ·simp[c]
theorem modify_map_set{l:List Vbahar.Journey}{i:Nat}{g:Vbahar.Journey->Vbahar.Journey}{α:Type}(f:Vbahar.Journey->α)(v:α)(h:∀ j,f (g j)=v):(l.modify i g).map f=(l.map f).set i v:=by
 refine List.ext_getElem? fun k=>?_;rw[List.getElem?_map,List.getElem?_modify];by_cases c:i=k
 ·subst c;by_cases hk:i<l.length
  ·rw[List.getElem?_set_self (by simpa using hk),gEe hk];simp[h]
  ·rw[List.getElem?_eq_none (by omega),List.getElem?_eq_none (by simp;omega)];rfl
 ·rw[List.getElem?_set_ne c,List.getElem?_map];cases l[k]? with
  | none=>rfl
  | some j=>simp[c]
section
variable{P:Program}{w:World}{K:PySem.W.Frag}{mg:Str->Option Value}{base:Heap}
abbrev sHasJourney:Stmt:=defAt "has_journey"
def spHasJourney(HC:Addr):Sp:=fun vs H Q _=>∃ (x dx a b c d:Addr) (ws:List Addr) (s:State) (n:Int),vs=[.ref x,.int n]/\HouseOb HC H x dx a b c d ws s/\Q (.bl (decide (n<=(s.journeys.length:Int)))) H
theorem scHasJourney:FnScope ["house","journey"] ["house","journey"] (defScope sHasJourney):=⟨rfl,rfl,rfl,by decide +kernel,rfl,by decide +kernel,by decide +kernel⟩
theorem ok_has_journey{f HC:Addr}{fd:FuncData}(F:Fun K "has_journey" "has_journey" sHasJourney f fd)(B:Blt mg)(T:HouC K HC):FnOk P w K mg base CX0 1 f fd ["house","journey"] (spHasJourney HC):=by
 refine F.ok scHasJourney (fun vs H Q E h=>?_) (fun cdv A outer s H vs Q E hr h=>?_)
 ·obtain⟨x,dx,a,b,c,d,ws,st,n,rfl,_⟩:=h;rfl
 ·obtain⟨x,dx,a,b,c,d,ws,st,n,rfl,O,k⟩:=h;refine⟨_,pss_one (ps_ret (pe_cmpR op_le (pv 1) (pe_callB call_len_seq (by rfl) B.len PySem.boot_len (pa_cons (pe_fld (pv 0) rfl) pa_nil)) (nomark _))),?_⟩;refine⟨_,rfl,_,rfl,x,HC,dx,_,_,rfl,O.ins,T.cl,T.ways,hf_ways a b c d,d,_,rfl,.inl (SqL.of O.ways.lst),_,_,rfl,rfl,?_⟩;have e:(ws.map V.ref).length=st.journeys.length:=by rw[lmp,O.ways.len];simp[SN.waysI]
  rw[e];exact k
abbrev sChangeCap:Stmt:=defAt "change_cap"
def actCap(s:State)(args row:List Int):State×List Int:=Vbahar.step s (.cap ((args.getD 0 0).toNat-1) (args.getD 1 0).toNat)
def pre2(s:State)(args row:List Int):Prop:=args.length=2/\1<=args.getD 0 0/\0<=args.getD 1 0
theorem scChangeCap:FnScope ["house","call","leg"] ["house","call"] (defScope sChangeCap):=⟨rfl,rfl,rfl,by decide +kernel,rfl,by decide +kernel,by decide +kernel⟩
theorem ok_change_cap{f fH HC CC:Addr}{fd fdH:FuncData}(F:Fun K "change_cap" "change_cap" sChangeCap f fd)(T:HouC K HC)(TC:CalC K CC)(CH:Cal P w K mg base 1 "has_leg" ["house","leg"] (spHasLeg HC) fH fdH)(n1:Num mg "NO_SUCH_LEG" (-7)):
  FnOk P w K mg base CX0 2 f fd ["house","call"] (spAct HC CC pre2 actCap):=by
 obtain⟨t1,n1⟩:=n1;refine F.ok scChangeCap (fun vs H Q E h=>?_) (fun cdv A outer s H vs Q E hr h=>?_)
 ·obtain⟨x,dx,a,b,c,d,ws,st,y,dy,ar,rr,pl,en,args,row,rfl,_⟩:=h;rfl
 ·obtain⟨x,dx,a,b,c,d,ws,st,y,dy,ar,rr,pl,en,args,row,rfl,O,Co,r1,r2,r3,r4,q1,q2,q3,q4,hs,⟨hl,hv,hv2⟩,k⟩:=h;refine⟨_,pss_cons (ps_set (i:=2) scChangeCap.nd rfl (.inl rfl) (pe_ix ix_list (pe_fld (pv 1) rfl) pe_int (fun _ _=>rfl)))
   (pss_cons (ps_if (pt_not (pt_val (pe_call CH.ok hr rfl CH.mg CH.kp CH.b .nil pass0 (pa_cons (pv 0) (pa_cons (pv 2) pa_nil))))) (pss_one (ps_ret (pe_lst (pa_cons (pe_glob (v:=.int (-7)) rfl n1 ⟨_,rfl⟩) pa_nil)))) pss_nil)
   (pss_cons (ps_asg (pe_ix ix_list (pe_fld (pv 1) rfl) pe_int (fun _ _=>rfl)) (pg_sub (pe_fld (pv 0) rfl) (pe_op op_sub (pv 2) pe_int) set_list))
   (pss_one (ps_ret (pe_lst (pa_cons pe_int pa_nil)))))),?_⟩
  refine⟨_,rfl,y,CC,dy,_,_,rfl,Co.ins,TC.cl,TC.args,cf_args pl ar rr en,ar,_,_,_,rfl,rfl,SqL.of Co.args,ints_at' (i:=0) (by omega) (by omega),?_⟩;refine⟨_,rfl,_,rfl,x,dx,a,b,c,d,ws,st,_,rfl,O,_,rfl,?_⟩;by_cases hc:args.getD 0 0<=(st.caps.length:Int)
  ·rw[decide_eq_true hc];refine iteF ?_;have e:actCap st args row=(Vbahar.withCap st ((args.getD 0 0).toNat-1) (args.getD 1 0).toNat,[0]):=by
    unfold actCap Vbahar.step;simp only;rw[if_neg (by omega)]
   rw[e] at k;refine⟨_,rfl,y,CC,dy,_,_,rfl,Co.ins,TC.cl,TC.args,cf_args pl ar rr en,ar,_,_,_,rfl,rfl,SqL.of Co.args,ints_at' (i:=1) (by omega) (by omega),_,rfl,x,HC,dx,_,_,rfl,O.ins,T.cl,T.caps,hf_caps a b c d,_,rfl,_,_,rfl,rfl,a,_,_,(args.getD 0 0).toNat-1,rfl,rfl,O.caps,?_,?_⟩
   ·rw[ixN_ok (by omega) (by rw[lmp,show(SN.capsI st).length=st.caps.length from by simp[SN.capsI]];omega)];congr 1;omega
   have ec:((SN.capsI st).map V.int).set ((args.getD 0 0).toNat-1) (V.int (args.getD 1 0))=(SN.capsI (Vbahar.withCap st ((args.getD 0 0).toNat-1) (args.getD 1 0).toNat)).map V.int:=by
    simp only[SN.capsI,Vbahar.withCap];rw[map_set_int,List.map_set];congr 2;omega
   rw[ec];have O2:=O.caps_to (s':=Vbahar.withCap st ((args.getD 0 0).toNat-1) (args.getD 1 0).toNat) rfl;have fr:∀ z,upd H a (.lst ((SN.capsI (Vbahar.withCap st ((args.getD 0 0).toNat-1) (args.getD 1 0).toNat)).map V.int)) z=none->H z=none:=fun z=>upd_free O.caps;have kp:∀ z o,H z=some o->z≠a->upd H a (.lst ((SN.capsI (Vbahar.withCap st ((args.getD 0 0).toNat-1) (args.getD 1 0).toNat)).map V.int)) z=some o:=fun z o e n=>by rw[upd_ne n];exact e
   generalize upd H a (.lst ((SN.capsI (Vbahar.withCap st ((args.getD 0 0).toNat-1) (args.getD 1 0).toNat)).map V.int))=H2 at O2 fr kp ⊢;refine⟨(by show 1<=sizeLine;decide),fun p hp=>?_⟩;exact k _ p (ActPost.one O2 (.inl rfl) kp (Same.new hp)) (fr p hp) upd_same
  ·rw[decide_eq_false hc];refine iteT ?_;refine⟨(by show 1<=sizeLine;decide),fun p hp=>?_⟩;have e:actCap st args row=(st,[-7]):=by
    unfold actCap Vbahar.step;simp only;rw[if_pos (by omega)]
   rw[e] at k;exact k _ p (ActPost.still O (Same.new hp)) hp upd_same
abbrev sChangeDemand:Stmt:=defAt "change_demand"
def actDemand(s:State)(args row:List Int):State×List Int:=Vbahar.step s (.demand ((args.getD 0 0).toNat-1) (args.getD 1 0).toNat)
theorem scChangeDemand:FnScope ["house","call","journey"] ["house","call"] (defScope sChangeDemand):=⟨rfl,rfl,rfl,by decide +kernel,rfl,by decide +kernel,by decide +kernel⟩
theorem ok_change_demand{f fH HC CC:Addr}{fd fdH:FuncData}(F:Fun K "change_demand" "change_demand" sChangeDemand f fd)(T:HouC K HC)(TC:CalC K CC)(CH:Cal P w K mg base 1 "has_journey" ["house","journey"] (spHasJourney HC) fH fdH)(n1:Num mg "NO_SUCH_JOURNEY" (-3)):
  FnOk P w K mg base CX0 2 f fd ["house","call"] (spAct HC CC pre2 actDemand):=by
 obtain⟨t1,n1⟩:=n1;refine F.ok scChangeDemand (fun vs H Q E h=>?_) (fun cdv A outer s H vs Q E hr h=>?_)
 ·obtain⟨x,dx,a,b,c,d,ws,st,y,dy,ar,rr,pl,en,args,row,rfl,_⟩:=h;rfl
 ·obtain⟨x,dx,a,b,c,d,ws,st,y,dy,ar,rr,pl,en,args,row,rfl,O,Co,r1,r2,r3,r4,q1,q2,q3,q4,hs,⟨hl,hv,hv2⟩,k⟩:=h;refine⟨_,pss_cons (ps_set (i:=2) scChangeDemand.nd rfl (.inl rfl) (pe_ix ix_list (pe_fld (pv 1) rfl) pe_int (fun _ _=>rfl)))
   (pss_cons (ps_if (pt_not (pt_val (pe_call CH.ok hr rfl CH.mg CH.kp CH.b .nil pass0 (pa_cons (pv 0) (pa_cons (pv 2) pa_nil))))) (pss_one (ps_ret (pe_lst (pa_cons (pe_glob (v:=.int (-3)) rfl n1 ⟨_,rfl⟩) pa_nil)))) pss_nil)
   (pss_cons (ps_asg (pe_ix ix_list (pe_fld (pv 1) rfl) pe_int (fun _ _=>rfl)) (pg_sub (pe_fld (pv 0) rfl) (pe_op op_sub (pv 2) pe_int) set_list))
   (pss_one (ps_ret (pe_lst (pa_cons pe_int pa_nil)))))),?_⟩
  refine⟨_,rfl,y,CC,dy,_,_,rfl,Co.ins,TC.cl,TC.args,cf_args pl ar rr en,ar,_,_,_,rfl,rfl,SqL.of Co.args,ints_at' (i:=0) (by omega) (by omega),?_⟩;refine⟨_,rfl,_,rfl,x,dx,a,b,c,d,ws,st,_,rfl,O,_,rfl,?_⟩;by_cases hc:args.getD 0 0<=(st.journeys.length:Int)
  ·rw[decide_eq_true hc];refine iteF ?_;have e:actDemand st args row=({st with journeys:=st.journeys.modify ((args.getD 0 0).toNat-1) fun j=>{j with demand:=(args.getD 1 0).toNat}},[0]):=by
    unfold actDemand Vbahar.step;simp only;rw[if_neg (by omega)]
   rw[e] at k;generalize hst:({st with journeys:=st.journeys.modify ((args.getD 0 0).toNat-1) fun j=>{j with demand:=(args.getD 1 0).toNat}}:State)=st' at k;have ec:((SN.demandsI st).map V.int).set ((args.getD 0 0).toNat-1) (V.int (args.getD 1 0))=(SN.demandsI st').map V.int:=by
    rw[<-hst];simp only[SN.demandsI];rw[modify_map_set (fun j:Vbahar.Journey=>(j.demand:Int)) (((args.getD 1 0).toNat:Nat):Int) (fun j=>rfl),List.map_set];congr 2;omega
   refine⟨_,rfl,y,CC,dy,_,_,rfl,Co.ins,TC.cl,TC.args,cf_args pl ar rr en,ar,_,_,_,rfl,rfl,SqL.of Co.args,ints_at' (i:=1) (by omega) (by omega),_,rfl,x,HC,dx,_,_,rfl,O.ins,T.cl,T.dems,hf_dems a b c d,_,rfl,_,_,rfl,rfl,c,_,_,(args.getD 0 0).toNat-1,rfl,rfl,O.dems,?_,?_⟩
   ·rw[ixN_ok (by omega) (by rw[lmp,show(SN.demandsI st).length=st.journeys.length from by simp[SN.demandsI]];omega)];congr 1;omega
   rw[ec];have O2:=O.dems_to (s':=st') (by rw[<-hst]) (by rw[<-hst];exact modify_map_same _ (fun j=>rfl)) (by rw[<-hst];exact modify_map_same _ (fun j=>rfl));have fr:∀ z,upd H c (.lst ((SN.demandsI st').map V.int)) z=none->H z=none:=fun z=>upd_free O.dems;have kp:∀ z o,H z=some o->z≠c->upd H c (.lst ((SN.demandsI st').map V.int)) z=some o:=fun z o e n=>by rw[upd_ne n];exact e
   generalize upd H c (.lst ((SN.demandsI st').map V.int))=H2 at O2 fr kp ⊢;refine⟨(by show 1<=sizeLine;decide),fun p hp=>?_⟩;exact k _ p (ActPost.one O2 (.inr (.inr rfl)) kp (Same.new hp)) (fr p hp) upd_same
  ·rw[decide_eq_false hc];refine iteT ?_;refine⟨(by show 1<=sizeLine;decide),fun p hp=>?_⟩;have e:actDemand st args row=(st,[-3]):=by
    unfold actDemand Vbahar.step;simp only;rw[if_pos (by omega)]
   rw[e] at k;exact k _ p (ActPost.still O (Same.new hp)) hp upd_same
abbrev sChangeFare:Stmt:=defAt "change_fare"
def actFare(s:State)(args row:List Int):State×List Int:=Vbahar.step s (.fare ((args.getD 0 0).toNat-1) (args.getD 1 0).toNat)
theorem scChangeFare:FnScope ["house","call","journey"] ["house","call"] (defScope sChangeFare):=⟨rfl,rfl,rfl,by decide +kernel,rfl,by decide +kernel,by decide +kernel⟩
theorem ok_change_fare{f fH HC CC:Addr}{fd fdH:FuncData}(F:Fun K "change_fare" "change_fare" sChangeFare f fd)(T:HouC K HC)(TC:CalC K CC)(CH:Cal P w K mg base 1 "has_journey" ["house","journey"] (spHasJourney HC) fH fdH)(n1:Num mg "NO_SUCH_JOURNEY" (-3)):
  FnOk P w K mg base CX0 2 f fd ["house","call"] (spAct HC CC pre2 actFare):=by
 obtain⟨t1,n1⟩:=n1;refine F.ok scChangeFare (fun vs H Q E h=>?_) (fun cdv A outer s H vs Q E hr h=>?_)
 ·obtain⟨x,dx,a,b,c,d,ws,st,y,dy,ar,rr,pl,en,args,row,rfl,_⟩:=h;rfl
 ·obtain⟨x,dx,a,b,c,d,ws,st,y,dy,ar,rr,pl,en,args,row,rfl,O,Co,r1,r2,r3,r4,q1,q2,q3,q4,hs,⟨hl,hv,hv2⟩,k⟩:=h;refine⟨_,pss_cons (ps_set (i:=2) scChangeFare.nd rfl (.inl rfl) (pe_ix ix_list (pe_fld (pv 1) rfl) pe_int (fun _ _=>rfl)))
   (pss_cons (ps_if (pt_not (pt_val (pe_call CH.ok hr rfl CH.mg CH.kp CH.b .nil pass0 (pa_cons (pv 0) (pa_cons (pv 2) pa_nil))))) (pss_one (ps_ret (pe_lst (pa_cons (pe_glob (v:=.int (-3)) rfl n1 ⟨_,rfl⟩) pa_nil)))) pss_nil)
   (pss_cons (ps_asg (pe_ix ix_list (pe_fld (pv 1) rfl) pe_int (fun _ _=>rfl)) (pg_sub (pe_fld (pv 0) rfl) (pe_op op_sub (pv 2) pe_int) set_list))
   (pss_one (ps_ret (pe_lst (pa_cons pe_int pa_nil)))))),?_⟩
  refine⟨_,rfl,y,CC,dy,_,_,rfl,Co.ins,TC.cl,TC.args,cf_args pl ar rr en,ar,_,_,_,rfl,rfl,SqL.of Co.args,ints_at' (i:=0) (by omega) (by omega),?_⟩;refine⟨_,rfl,_,rfl,x,dx,a,b,c,d,ws,st,_,rfl,O,_,rfl,?_⟩;by_cases hc:args.getD 0 0<=(st.journeys.length:Int)
  ·rw[decide_eq_true hc];refine iteF ?_;have e:actFare st args row=({st with journeys:=st.journeys.modify ((args.getD 0 0).toNat-1) fun j=>{j with fare:=(args.getD 1 0).toNat}},[0]):=by
    unfold actFare Vbahar.step;simp only;rw[if_neg (by omega)]
   rw[e] at k;generalize hst:({st with journeys:=st.journeys.modify ((args.getD 0 0).toNat-1) fun j=>{j with fare:=(args.getD 1 0).toNat}}:State)=st' at k;have ec:((SN.faresI st).map V.int).set ((args.getD 0 0).toNat-1) (V.int (args.getD 1 0))=(SN.faresI st').map V.int:=by
    rw[<-hst];simp only[SN.faresI];rw[modify_map_set (fun j:Vbahar.Journey=>(j.fare:Int)) (((args.getD 1 0).toNat:Nat):Int) (fun j=>rfl),List.map_set];congr 2;omega
   refine⟨_,rfl,y,CC,dy,_,_,rfl,Co.ins,TC.cl,TC.args,cf_args pl ar rr en,ar,_,_,_,rfl,rfl,SqL.of Co.args,ints_at' (i:=1) (by omega) (by omega),_,rfl,x,HC,dx,_,_,rfl,O.ins,T.cl,T.fares,hf_fares a b c d,_,rfl,_,_,rfl,rfl,b,_,_,(args.getD 0 0).toNat-1,rfl,rfl,O.fares,?_,?_⟩
   ·rw[ixN_ok (by omega) (by rw[lmp,show(SN.faresI st).length=st.journeys.length from by simp[SN.faresI]];omega)];congr 1;omega
   rw[ec];have O2:=O.fares_to (s':=st') (by rw[<-hst]) (by rw[<-hst];exact modify_map_same _ (fun j=>rfl)) (by rw[<-hst];exact modify_map_same _ (fun j=>rfl));have fr:∀ z,upd H b (.lst ((SN.faresI st').map V.int)) z=none->H z=none:=fun z=>upd_free O.fares;have kp:∀ z o,H z=some o->z≠b->upd H b (.lst ((SN.faresI st').map V.int)) z=some o:=fun z o e n=>by rw[upd_ne n];exact e
   generalize upd H b (.lst ((SN.faresI st').map V.int))=H2 at O2 fr kp ⊢;refine⟨(by show 1<=sizeLine;decide),fun p hp=>?_⟩;exact k _ p (ActPost.one O2 (.inr (.inl rfl)) kp (Same.new hp)) (fr p hp) upd_same
  ·rw[decide_eq_false hc];refine iteT ?_;refine⟨(by show 1<=sizeLine;decide),fun p hp=>?_⟩;have e:actFare st args row=(st,[-3]):=by
    unfold actFare Vbahar.step;simp only;rw[if_pos (by omega)]
   rw[e] at k;exact k _ p (ActPost.still O (Same.new hp)) hp upd_same
end
end My
end
section
set_option maxRecDepth 100000
set_option maxHeartbeats 2000000
namespace My
open PySem PySem.Spec PyProof.Rows L2
open Vbahar (State)
section
variable{P:Program}{w:World}{K:PySem.W.Frag}{mg:Str->Option Value}{base:Heap}
theorem goodPairs{s:State}{t:SN.TL}{S:SN.Tab}(hs:SN.Small s)(R:SN.Rep (SN.prob s) t S)(Fi:SN.Final (SN.prob s) S):
  (∀ q,q∈SN.bestPairs t->0<=q.1/\0<q.2/\q.2<1152921504606846976)/\(∀ q,q∈SN.bidPairs t->0<=q.1/\0<q.2/\q.2<1152921504606846976):=by
 have h:=SN.pairs_ok R Fi;have hd:t.below.natAbs<=3628800:=by rw[R.d];exact SN.d_abs Fi.inv hs
 refine⟨fun q hq=>?_,fun q hq=>?_⟩
 ·have h1:=h.1 q hq;refine⟨h1.1,h1.2,?_⟩;simp only[SN.bestPairs,List.mem_map] at hq;obtain⟨g,_,rfl⟩:=hq;show t.below<1152921504606846976;omega
 ·have h1:=h.2 q hq;refine⟨h1.1,h1.2,?_⟩;simp only[SN.bidPairs,List.mem_map] at hq;obtain⟨g,_,rfl⟩:=hq;show t.below<1152921504606846976;omega
abbrev sTellBest:Stmt:=defAt "tell_best"
def actBest(s:State)(args row:List Int):State×List Int:=Vbahar.step s .best
def pre0(s:State)(args row:List Int):Prop:=True
theorem scTellBest:FnScope ["house","call"] ["house","call"] (defScope sTellBest):=⟨rfl,rfl,rfl,by decide +kernel,rfl,by decide +kernel,by decide +kernel⟩
theorem ok_tell_best{f fT fB HC CC C:Addr}{fd fdT fdB:FuncData}(F:Fun K "tell_best" "tell_best" sTellBest f fd)(T:HouC K HC)(CT:Cal P w K mg base 2 "fractions_told" ["pairs"] spTold fT fdT)(CB:Cal P w K mg base 6 "best_division" ["capacities","fares","demands","ways"] (spBestDiv C) fB fdB):FnOk P w K mg base CX0 7 f fd ["house","call"] (spAct HC CC pre0 actBest):=by
 refine F.ok scTellBest (fun vs H Q E h=>?_) (fun cdv A outer s H vs Q E hr h=>?_)
 ·obtain⟨x,dx,a,b,c,d,ws,st,y,dy,ar,rr,pl,en,args,row,rfl,_⟩:=h;rfl
 ·obtain⟨x,dx,a,b,c,d,ws,st,y,dy,ar,rr,pl,en,args,row,rfl,O,Co,r1,r2,r3,r4,q1,q2,q3,q4,hs,_,k⟩:=h;have hr2:Room 2 _:=hr.mono (by decide);refine⟨_,pss_one (ps_ret (pe_op op_cat (pe_lst (pa_cons pe_int pa_nil)) (pe_call CT.ok hr2 rfl CT.mg CT.kp CT.b .nil pass0 (pa_cons (pe_call CB.ok hr rfl CB.mg CB.kp CB.b .nil pass0
   (pa_cons (pe_fld (pv 0) rfl) (pa_cons (pe_fld (pv 0) rfl) (pa_cons (pe_fld (pv 0) rfl) (pa_cons (pe_fld (pv 0) rfl) pa_nil))))) pa_nil)))),?_⟩
  refine⟨(by show 1<=sizeLine;decide),fun l hl=>?_⟩;have s1:=Same.new (o:=.lst [V.int 0]) hl;have O1:=O.same s1;refine⟨_,rfl,x,HC,dx,_,_,rfl,O1.ins,T.cl,T.caps,hf_caps a b c d,_,rfl,x,HC,dx,_,_,rfl,O1.ins,T.cl,T.fares,hf_fares a b c d,_,rfl,x,HC,dx,_,_,rfl,O1.ins,T.cl,T.dems,hf_dems a b c d,_,rfl,x,HC,dx,_,_,rfl,O1.ins,T.cl,T.ways,hf_ways a b c d,
   a,b,c,d,st,rfl,O1.as,hs.small,fun H2 q t S s2 nq R Fi hp=>?_⟩
  have h5:=hs.small.jour;refine⟨q,_,rfl,hp,(goodPairs hs.small R Fi).1,?_,fun H3 r s3 nr hI=>?_⟩
  ·simp only[SN.bestPairs,lmp];rw[R.glen];show st.journeys.length+1<=100;omega
  refine⟨l,r,_,_,rfl,rfl,s3 _ _ (s2 _ _ upd_same),hI,?_,fun p hp'=>?_⟩
  ·rw[lmp,told_len];simp only[SN.bestPairs,lmp];rw[R.glen];show 1+2*(st.journeys.length+1)<=sizeLine;have:=small1000 (n:=1+2*(st.journeys.length+1)) (by omega);omega
  have sAll:=(s1.trans s2).trans (s3.trans (Same.new (o:=.lst ([V.int 0]++(SN.told (SN.bestPairs t)).map V.int)) hp'));refine k _ p (ActPost.still O sAll) (((s1.trans s2).trans s3).free hp') ?_;unfold IntsAt;rw[upd_same];show some (HO.lst ([V.int 0]++(SN.told (SN.bestPairs t)).map V.int))=some (HO.lst ((0::(Vbahar.frac (Vbahar.earns st (Vbahar.best st)) (Vbahar.best st).den++Vbahar.fracs (Vbahar.best st))).map V.int));rw[<-SN.best_told R Fi];rfl
abbrev sTellBids:Stmt:=defAt "tell_bids"
def actBids(s:State)(args row:List Int):State×List Int:=Vbahar.step s .bids
theorem scTellBids:FnScope ["house","call"] ["house","call"] (defScope sTellBids):=⟨rfl,rfl,rfl,by decide +kernel,rfl,by decide +kernel,by decide +kernel⟩
theorem ok_tell_bids{f fT fB HC CC C:Addr}{fd fdT fdB:FuncData}(F:Fun K "tell_bids" "tell_bids" sTellBids f fd)(T:HouC K HC)(CT:Cal P w K mg base 2 "fractions_told" ["pairs"] spTold fT fdT)(CB:Cal P w K mg base 6 "bid_prices" ["capacities","fares","demands","ways"] (spBids C) fB fdB):FnOk P w K mg base CX0 7 f fd ["house","call"] (spAct HC CC pre0 actBids):=by
 refine F.ok scTellBids (fun vs H Q E h=>?_) (fun cdv A outer s H vs Q E hr h=>?_)
 ·obtain⟨x,dx,a,b,c,d,ws,st,y,dy,ar,rr,pl,en,args,row,rfl,_⟩:=h;rfl
 ·obtain⟨x,dx,a,b,c,d,ws,st,y,dy,ar,rr,pl,en,args,row,rfl,O,Co,r1,r2,r3,r4,q1,q2,q3,q4,hs,_,k⟩:=h;have hr2:Room 2 _:=hr.mono (by decide);refine⟨_,pss_one (ps_ret (pe_op op_cat (pe_lst (pa_cons pe_int pa_nil)) (pe_call CT.ok hr2 rfl CT.mg CT.kp CT.b .nil pass0 (pa_cons (pe_call CB.ok hr rfl CB.mg CB.kp CB.b .nil pass0
   (pa_cons (pe_fld (pv 0) rfl) (pa_cons (pe_fld (pv 0) rfl) (pa_cons (pe_fld (pv 0) rfl) (pa_cons (pe_fld (pv 0) rfl) pa_nil))))) pa_nil)))),?_⟩
  refine⟨(by show 1<=sizeLine;decide),fun l hl=>?_⟩;have s1:=Same.new (o:=.lst [V.int 0]) hl;have O1:=O.same s1;refine⟨_,rfl,x,HC,dx,_,_,rfl,O1.ins,T.cl,T.caps,hf_caps a b c d,_,rfl,x,HC,dx,_,_,rfl,O1.ins,T.cl,T.fares,hf_fares a b c d,_,rfl,x,HC,dx,_,_,rfl,O1.ins,T.cl,T.dems,hf_dems a b c d,_,rfl,x,HC,dx,_,_,rfl,O1.ins,T.cl,T.ways,hf_ways a b c d,
   a,b,c,d,st,rfl,O1.as,hs.small,fun H2 q t S s2 nq R Fi hp=>?_⟩
  have h5:=hs.small.legs;have hlen:(SN.bidPairs t).length<=5:=by
   simp only[SN.bidPairs,lmp,List.length_take];rw[R.legs];show min st.caps.length _<=5;omega
  refine⟨q,_,rfl,hp,(goodPairs hs.small R Fi).2,by omega,fun H3 r s3 nr hI=>?_⟩;refine⟨l,r,_,_,rfl,rfl,s3 _ _ (s2 _ _ upd_same),hI,?_,fun p hp'=>?_⟩
  ·rw[lmp,told_len];show 1+2*(SN.bidPairs t).length<=sizeLine;have:=small1000 (n:=1+2*(SN.bidPairs t).length) (by omega);omega
  have sAll:=(s1.trans s2).trans (s3.trans (Same.new (o:=.lst ([V.int 0]++(SN.told (SN.bidPairs t)).map V.int)) hp'));refine k _ p (ActPost.still O sAll) (((s1.trans s2).trans s3).free hp') ?_;unfold IntsAt;rw[upd_same];show some (HO.lst ([V.int 0]++(SN.told (SN.bidPairs t)).map V.int))=some (HO.lst ((0::Vbahar.fracs (Vbahar.bids st)).map V.int));rw[<-SN.bids_told R Fi];rfl
end
end My
end
section
set_option maxRecDepth 100000
set_option maxHeartbeats 2000000
namespace My
open PySem PySem.Spec PyProof.Rows L2
open Vbahar (State)
theorem dedup_le:∀ (l acc:List Int),(l.foldl step_dedup acc).length<=acc.length+l.length
 | [],acc=>by simp
 | x::l,acc=>by
  rw[List.foldl_cons];have ih:=dedup_le l (step_dedup acc x);have:(step_dedup acc x).length<=acc.length+1:=by
   unfold step_dedup;split
   ·omega
   ·simp
  simp only[List.length_cons];omega
theorem dedup_all:∀ (l acc:List Int),(l.foldl step_dedup acc).length=acc.length+l.length<->(l.Nodup/\∀ x,x∈l->x∉acc)
 | [],acc=>by simp
 | x::l,acc=>by
  rw[List.foldl_cons];by_cases c:x∈acc
  ·have e:step_dedup acc x=acc:=by
    unfold step_dedup;rw[if_pos];rw[List.any_eq_true];exact⟨x,c,by simp⟩
   rw[e];constructor
   ·intro h;have:=dedup_le l acc;simp only[List.length_cons] at h;omega
   ·intro h;exact absurd c (h.2 x (by simp))
  ·have e:step_dedup acc x=acc++[x]:=by
    unfold step_dedup;rw[if_neg];rw[List.any_eq_true];rintro⟨y,hy,h⟩;have:y=x:=by simpa using h
    rw[this] at hy;exact c hy
   rw[e];have ih:=dedup_all l (acc++[x]);have e2:(acc++[x]).length+l.length=acc.length+(x::l).length:=by simp;omega
   rw[e2] at ih;rw[ih,List.nodup_cons];constructor
   ·rintro⟨h1,h2⟩;refine⟨⟨fun hx=>h2 x hx (by simp),h1⟩,fun y hy=>?_⟩;rcases List.mem_cons.mp hy with q | q
    ·rw[q];exact c
    ·exact fun hya=>h2 y q (by simp[hya])
   ·rintro⟨⟨h1,h2⟩,h3⟩;refine⟨h2,fun y hy hya=>?_⟩;rcases List.mem_append.mp hya with q | q
    ·exact h3 y (by simp[hy]) q
    ·have:y=x:=by simpa using q
     rw[this] at hy;exact h1 hy
theorem firstMet_list(ns:List Int):firstMet (fun i=>ns.getD i 0) ns.length=ns.foldl step_dedup []:=by
 unfold firstMet;congr 1;refine List.ext_getElem (by simp) fun i h1 h2=>?_;simp[gDe,h2]
theorem distinct_iff:∀ l:List Nat,Vbahar.distinct l=true<->l.Nodup
 | []=>by simp[Vbahar.distinct]
 | x::l=>by
  simp only[Vbahar.distinct,Bool.and_eq_true,List.nodup_cons,distinct_iff l];simp
theorem legs_nodup:∀ {row:List Int},(∀ z,z∈row->1<=z)->((legsOf row).Nodup<->row.Nodup)
 | [],_=>by simp[legsOf]
 | x::l,h=>by
  have ih:=legs_nodup (row:=l) (fun z hz=>h z (by simp[hz]));simp only[legsOf,List.map_cons,List.nodup_cons] at ih ⊢;rw[ih];have:(x.toNat-1∈l.map fun z=>z.toNat-1)<->x∈l:=by
   constructor
   ·intro hm;obtain⟨y,hy,e⟩:=List.mem_map.mp hm;have h1:=h x (by simp);have h2:=h y (by simp[hy]);have:y=x:=by omega
    rw[<-this];exact hy
   ·intro hx;exact List.mem_map.mpr ⟨x,hx,rfl⟩
  rw[this]
theorem twice_iff{row:List Int}(h:∀ z,z∈row->1<=z):(firstMet (fun i=>row.getD i 0) row.length).length<row.length<->Vbahar.distinct (legsOf row)=false:=by
 rw[firstMet_list];have h1:=dedup_le row [];have h2:=dedup_all row [];simp only[List.length_nil,Nat.zero_add] at h1 h2;have h3:=distinct_iff (legsOf row);rw[legs_nodup h] at h3;constructor
 ·intro hlt;cases e:Vbahar.distinct (legsOf row) with
  | false=>rfl
  | true=>
   have:=h2.2 ⟨h3.1 e,fun x _=>by simp⟩;omega
 ·intro e;have:¬(row.foldl step_dedup []).length=row.length:=fun q=>by
   have:=h3.2 (h2.1 q).1;rw[e] at this;cases this
  omega
theorem wayI_legsOf:∀ {row:List Int},(∀ z,z∈row->1<=z)->SN.wayI (legsOf row)=row
 | [],_=>rfl
 | x::l,h=>by
  have ih:=wayI_legsOf (row:=l) (fun z hz=>h z (by simp[hz]));simp only[SN.wayI,legsOf,List.map_cons] at ih ⊢;rw[ih];have:=h x (by simp);congr 1;omega
theorem all_legs{row:List Int}{n:Nat}(h:∀ z,z∈row->1<=z):((row.map fun z=>decide (z<=(n:Int))).all id)=((legsOf row).all fun k=>decide (k<n)):=by
 induction row with
 | nil=>rfl
 | cons x l ih=>
  have h1:=h x (by simp);simp only[legsOf,List.map_cons,List.all_cons] at ih ⊢;rw[ih (fun z hz=>h z (by simp[hz]))];congr 1;show decide _=decide _;by_cases c:x<=(n:Int)
  ·rw[decide_eq_true c,decide_eq_true (by omega)]
  ·rw[decide_eq_false c,decide_eq_false (by omega)]
abbrev sAddJourney:Stmt:=defAt "add_journey"
def actJourney(s:State)(args row:List Int):State×List Int:=Vbahar.step s (.journey (args.getD 0 0).toNat (args.getD 1 0).toNat (legsOf row))
def preJourney(s:State)(args row:List Int):Prop:=args.length=2/\0<=args.getD 0 0/\0<=args.getD 1 0/\row.length<=5/\∀ z,z∈row->1<=z
section
variable{P:Program}{w:World}{K:PySem.W.Frag}{mg:Str->Option Value}{base:Heap}
theorem scAddJourney:FnScope ["house","call","way","leg"] ["house","call"] (defScope sAddJourney):=⟨rfl,rfl,rfl,by decide +kernel,rfl,by decide +kernel,by decide +kernel⟩
theorem ok_add_journey{f fH HC CC:Addr}{fd fdH:FuncData}(F:Fun K "add_journey" "add_journey" sAddJourney f fd)(B:Blt mg)(T:HouC K HC)(TC:CalC K CC)(CH:Cal P w K mg base 1 "has_leg" ["house","leg"] (spHasLeg HC) fH fdH)(n1:Num mg "NO_SUCH_LEG" (-7))(n2:Num mg "LEG_TWICE" (-9))(n3:Num mg "MOST_JOURNEYS" 5)(n4:Num mg "NO_ROOM" (-6)):FnOk P w K mg base CX0 2 f fd ["house","call"] (spAct HC CC preJourney actJourney):=by
 obtain⟨t1,n1⟩:=n1;obtain⟨t2,n2⟩:=n2;obtain⟨t3,n3⟩:=n3;obtain⟨t4,n4⟩:=n4;refine F.ok scAddJourney (fun vs H Q E h=>?_) (fun cdv A outer s H vs Q E hr h=>?_)
 ·obtain⟨x,dx,a,b,c,d,ws,st,y,dy,ar,rr,pl,en,args,row,rfl,_⟩:=h;rfl
 ·obtain⟨x,dx,a,b,c,d,ws,st,y,dy,ar,rr,pl,en,args,row,rfl,O,Co,r1,r2,r3,r4,q1,q2,q3,q4,hs,⟨hl,hv,hv2,hrl,hrow⟩,k⟩:=h;refine⟨_,pss_cons (ps_set (i:=2) scAddJourney.nd rfl (.inl rfl) (pe_fld (pv 1) rfl))
   (pss_cons (ps_if (pt_not (pt_val (pe_callB (cr_all rfl) (by rfl) B.all PyProof.Rows.boot_all (pa_cons (pe_lc rfl scAddJourney.nd (pi_list (pv 2)) (blkOk_by (own:=[("leg",3)]) (by rfl)) (fun _ _ _ _ _=>pg_name (i:=3) scAddJourney.nd rfl (.inl rfl))
     (fun _ _ _ _ _=>pts_nil) (fun _ _ _ _ _=>pe_call CH.ok hr rfl CH.mg CH.kp CH.b .nil pass0 (pa_cons (pv 0) (pa_cons (pv 3) pa_nil)))) pa_nil)))) (pss_one (ps_ret (pe_lst (pa_cons (pe_glob (v:=.int (-7)) rfl n1 ⟨_,rfl⟩) pa_nil)))) pss_nil)
   (pss_cons (ps_if (pt_cmpR op_lt (pe_callB call_lenS (by rfl) B.len PySem.boot_len (pa_cons (pe_callTy (cr_set rfl) (by rfl) B.set PyProof.Rows.boot_set (pa_cons (pv 2) pa_nil)) pa_nil)) (pe_callB call_len_seq (by rfl) B.len PySem.boot_len (pa_cons (pv 2) pa_nil)) (nomark _))
     (pss_one (ps_ret (pe_lst (pa_cons (pe_glob (v:=.int (-9)) rfl n2 ⟨_,rfl⟩) pa_nil)))) pss_nil)
   (pss_cons (ps_if (pt_cmpR op_eq (pe_callB call_len_seq (by rfl) B.len PySem.boot_len (pa_cons (pe_fld (pv 0) rfl) pa_nil)) (pe_glob (v:=.int 5) rfl n3 ⟨_,rfl⟩) (nomark _))
     (pss_one (ps_ret (pe_lst (pa_cons (pe_glob (v:=.int (-6)) rfl n4 ⟨_,rfl⟩) pa_nil)))) pss_nil)
   (pss_cons (ps_expr (pe_bm PySem.F.plainAttrs_list PySem.F.slot_list_append PySem.F.type_list_append mt_append (pe_fld (pv 0) rfl) (pa_cons (pe_ix ix_list (pe_fld (pv 1) rfl) pe_int (fun _ _=>rfl)) pa_nil)))
   (pss_cons (ps_expr (pe_bm PySem.F.plainAttrs_list PySem.F.slot_list_append PySem.F.type_list_append mt_append (pe_fld (pv 0) rfl) (pa_cons (pe_ix ix_list (pe_fld (pv 1) rfl) pe_int (fun _ _=>rfl)) pa_nil)))
   (pss_cons (ps_expr (pe_bm PySem.F.plainAttrs_list PySem.F.slot_list_append PySem.F.type_list_append mt_append (pe_fld (pv 0) rfl) (pa_cons (pv 2) pa_nil)))
   (pss_one (ps_ret (pe_lst (pa_cons pe_int (pa_cons (pe_callB call_len_seq (by rfl) B.len PySem.boot_len (pa_cons (pe_fld (pv 0) rfl) pa_nil)) pa_nil))))))))))),?_⟩
  have h5:=hs.small.jour;refine⟨_,rfl,y,CC,dy,_,_,rfl,Co.ins,TC.cl,TC.row,cf_row pl ar rr en,?_⟩;refine⟨_,rfl,rr,rfl,⟨_,SqL.of Co.row⟩,fun D hD=>?_⟩;refine coll_vals (n:=(row.map V.int).length) (fun j z H2=>(row.map V.int)[j]?=some z) ((row.map fun z=>decide (z<=(st.caps.length:Int))).map V.bl) (itl_go (SqL.of Co.row)) (itl_stop (SqL.of Co.row)) (itl_yld (SqL.of Co.row)) (by simp) (by rw[lmp];omega) hD ?_ (fun H1 s1 hq=>?_)
  ·intro j z v H4 R hj hv' sm hz hR;obtain⟨rfl,hj1⟩:=ints_get hz;refine⟨rfl,_,rfl,_,rfl,x,dx,a,b,c,d,ws,st,_,rfl,O.same sm,?_⟩;have e:v=V.bl (decide (row.getD j 0<=(st.caps.length:Int))):=by
    rw[List.getElem?_map,List.getElem?_map,gEe hj1] at hv';have:=Option.some.inj hv';rw[<-this,gDe,gEe hj1];rfl
   rw[<-e];exact hR H4 (Same.refl _)
  have O1:=O.same s1;have Co1:=Co.same s1;refine⟨D,_,rfl,SqL.of hq,_,rfl,?_⟩;rw[all_legs hrow];cases hA:((legsOf row).all fun k=>decide (k<st.caps.length)) with
  | false=>
   refine iteT ?_;refine⟨(by show 1<=sizeLine;decide),fun p hp=>?_⟩;have e:actJourney st args row=(st,[-7]):=by
    unfold actJourney Vbahar.step;simp only;rw[if_pos hA]
   rw[e] at k;exact k _ p (ActPost.still O (s1.trans (Same.new hp))) (s1.free hp) upd_same
  | true=>
   refine iteF ?_;refine⟨_,rfl,rr,row,rfl,SqL.of Co1.row,(by show row.length+1<4096;omega),fun q S hq'=>?_⟩;have hle:=firstMet_length_le (fun i=>row.getD i 0) row.length;have s2:=Same.new (o:=.set S (firstMet (fun i=>row.getD i 0) row.length).length) hq';refine⟨q,S,_,rfl,upd_same,by omega,_,rfl,rr,_,rfl,.inl (SqL.of (s2 _ _ Co1.row)),_,_,rfl,rfl,_,rfl,?_⟩;rw[lmp];have s12:=s1.trans s2;have O2:=O1.same s2;have Co2:=Co1.same s2;generalize upd H1 q (.set S (firstMet (fun i=>row.getD i 0) row.length).length)=H2 at s12 O2 Co2 ⊢;refine ite2 (fun hc=>?_) (fun hc=>?_)
   ·have hc':(firstMet (fun i=>row.getD i 0) row.length).length<row.length:=by
     have:=of_decide_eq_true hc;omega
    refine⟨(by show 1<=sizeLine;decide),fun p hp=>?_⟩;have e:actJourney st args row=(st,[-9]):=by
     unfold actJourney Vbahar.step;simp only;rw[if_neg (by rw[hA];exact Bool.noConfusion),if_pos ((twice_iff hrow).1 hc')]
    rw[e] at k;exact k _ p (ActPost.still O (s12.trans (Same.new hp))) (s12.free hp) upd_same
   ·have hc':¬(firstMet (fun i=>row.getD i 0) row.length).length<row.length:=fun q=>hc (decide_eq_true (by omega));have hdis:¬Vbahar.distinct (legsOf row)=false:=fun q=>hc' ((twice_iff hrow).2 q);have ew:(ws.map V.ref).length=st.journeys.length:=by rw[lmp,O.ways.len];simp[SN.waysI]
    refine⟨_,rfl,x,HC,dx,_,_,rfl,O2.ins,T.cl,T.ways,hf_ways a b c d,d,_,rfl,.inl (SqL.of O2.ways.lst),rfl,_,rfl,?_⟩;rw[ew];refine ite2 (fun hj=>?_) (fun hj=>?_)
    ·have hj5:st.journeys.length=5:=by
      have:=of_decide_eq_true hj;injection this with e;omega
     refine⟨(by show 1<=sizeLine;decide),fun p hp=>?_⟩;have e:actJourney st args row=(st,[-6]):=by
      unfold actJourney Vbahar.step;simp only;rw[if_neg (by rw[hA];exact Bool.noConfusion),if_neg hdis,if_pos (by rw[hj5];decide)]
     rw[e] at k;exact k _ p (ActPost.still O (s12.trans (Same.new hp))) (s12.free hp) upd_same
    ·have hj5:¬5<=st.journeys.length:=fun q=>hj (by
      have:st.journeys.length=5:=by omega
      rw[this];decide)
     have e:actJourney st args row=({st with journeys:=st.journeys++[{legs:=legsOf row,fare:=(args.getD 0 0).toNat,demand:=(args.getD 1 0).toNat}]},[0,(st.journeys.length:Int)+1]):=by
      unfold actJourney Vbahar.step;simp only;rw[if_neg (by rw[hA];exact Bool.noConfusion),if_neg hdis,if_neg (show ¬Vbahar.JOURNEYS<=st.journeys.length from hj5)];simp[Vbahar.ok,Vbahar.ints]
     rw[e] at k;generalize hst:({st with journeys:=st.journeys++[{legs:=legsOf row,fare:=(args.getD 0 0).toNat,demand:=(args.getD 1 0).toNat}]}:State)=st' at k;have lf:((SN.faresI st).map V.int).length=st.journeys.length:=by simp[SN.faresI]
     have ld:((SN.demandsI st).map V.int).length=st.journeys.length:=by simp[SN.demandsI]
     have yb:y≠b:=ne_of Co2.ins O2.fares (fun q=>by cases q);have yc:y≠c:=ne_of Co2.ins O2.dems (fun q=>by cases q);have xb:x≠b:=ne_of O2.ins O2.fares (fun q=>by cases q);have xc:x≠c:=ne_of O2.ins O2.dems (fun q=>by cases q);have xd:x≠d:=ne_of O2.ins O2.ways.lst (fun q=>by cases q);refine⟨_,rfl,x,HC,dx,_,_,rfl,O2.ins,T.cl,T.fares,hf_fares a b c d,.inl ⟨rfl,_,SqL.of O2.fares⟩,_,rfl,y,CC,dy,_,_,rfl,Co2.ins,TC.cl,TC.args,cf_args pl ar rr en,ar,_,_,_,rfl,rfl,SqL.of Co2.args,ints_at' (i:=0) (by omega) (by omega),b,_,_,rfl,rfl,O2.fares,?_,?_⟩
     ·rw[lf];exact small1000 (by omega)
     have ef:(SN.faresI st).map V.int++[V.int (args.getD 0 0)]=(SN.faresI st').map V.int:=by
      rw[<-hst];simp only[SN.faresI,List.map_append,List.map_cons,List.map_nil];congr 2;have:(((args.getD 0 0).toNat:Nat):Int)=args.getD 0 0:=by omega
      rw[this]
     rw[ef];have x3:upd H2 b (.lst ((SN.faresI st').map V.int)) x=some (.ins HC dx (hf a b c d)):=by rw[upd_ne xb];exact O2.ins
     have y3:upd H2 b (.lst ((SN.faresI st').map V.int)) y=some (.ins CC dy (cf pl ar rr en)):=by rw[upd_ne yb];exact Co2.ins
     have c3:IntsAt (upd H2 b (.lst ((SN.faresI st').map V.int))) c (SN.demandsI st):=by unfold IntsAt;rw[upd_ne O2.bc.symm];exact O2.dems
     have ar3:IntsAt (upd H2 b (.lst ((SN.faresI st').map V.int))) ar args:=by unfold IntsAt;rw[upd_ne q2];exact Co2.args
     refine⟨_,rfl,x,HC,dx,_,_,rfl,x3,T.cl,T.dems,hf_dems a b c d,.inl ⟨rfl,_,SqL.of c3⟩,_,rfl,y,CC,dy,_,_,rfl,y3,TC.cl,TC.args,cf_args pl ar rr en,ar,_,_,_,rfl,rfl,SqL.of ar3,ints_at' (i:=1) (by omega) (by omega),c,_,_,rfl,rfl,c3,?_,?_⟩
     ·rw[ld];exact small1000 (by omega)
     have ed:(SN.demandsI st).map V.int++[V.int (args.getD 1 0)]=(SN.demandsI st').map V.int:=by
      rw[<-hst];simp only[SN.demandsI,List.map_append,List.map_cons,List.map_nil];congr 2;have:(((args.getD 1 0).toNat:Nat):Int)=args.getD 1 0:=by omega
      rw[this]
     rw[ed];have keep4:∀ z o,H2 z=some o->z≠b->z≠c->upd (upd H2 b (.lst ((SN.faresI st').map V.int))) c (.lst ((SN.demandsI st').map V.int)) z=some o:=fun z o e n1 n2=>by rw[upd_ne n2,upd_ne n1];exact e
     have b4:IntsAt (upd (upd H2 b (.lst ((SN.faresI st').map V.int))) c (.lst ((SN.demandsI st').map V.int))) b (SN.faresI st'):=by unfold IntsAt;rw[upd_ne O2.bc,upd_same]
     have c4:IntsAt (upd (upd H2 b (.lst ((SN.faresI st').map V.int))) c (.lst ((SN.demandsI st').map V.int))) c (SN.demandsI st'):=upd_same;have fr4:∀ z,upd (upd H2 b (.lst ((SN.faresI st').map V.int))) c (.lst ((SN.demandsI st').map V.int)) z=none->H2 z=none:=fun z e=>upd_free O2.fares (upd_free c3 e);generalize upd (upd H2 b (.lst ((SN.faresI st').map V.int))) c (.lst ((SN.demandsI st').map V.int))=H4 at keep4 b4 c4 fr4 ⊢;have x4:=keep4 _ _ O2.ins xb xc;have R4:RowsAs H4 d ws (SN.waysI st):=⟨keep4 _ _ O2.ways.lst O2.db O2.dc,O2.ways.len,fun i z e=>keep4 _ _ (O2.ways.at_ i z e) (O2.wa z (List.mem_of_getElem? e)).2.1 (O2.wa z (List.mem_of_getElem? e)).2.2⟩;have rr4:IntsAt H4 rr row:=keep4 _ _ Co2.row r2 r3;refine⟨_,rfl,x,HC,dx,_,_,rfl,x4,T.cl,T.ways,hf_ways a b c d,.inl ⟨rfl,_,SqL.of R4.lst⟩,_,rfl,d,_,_,rfl,rfl,R4.lst,?_,?_⟩
     ·rw[ew];exact small1000 (by omega)
     have R5:=R4.push rr4 r4;have ewy:SN.waysI st++[row]=SN.waysI st':=by
      rw[<-hst];simp only[SN.waysI,List.map_append,List.map_cons,List.map_nil,wayI_legsOf hrow]
     rw[ewy] at R5;have keep5:∀ z o,H4 z=some o->z≠d->upd H4 d (.lst (ws.map V.ref++[V.ref rr])) z=some o:=fun z o e n=>by rw[upd_ne n];exact e
     have fr5:∀ z,upd H4 d (.lst (ws.map V.ref++[V.ref rr])) z=none->H4 z=none:=fun z=>upd_free R4.lst;generalize upd H4 d (.lst (ws.map V.ref++[V.ref rr]))=H5 at R5 keep5 fr5 ⊢;have O5:HouseOb HC H5 x dx a b c d (ws++[rr]) st':=by
      refine⟨keep5 _ _ x4 xd,?_,keep5 _ _ b4 O2.db.symm,keep5 _ _ c4 O2.dc.symm,R5,O2.ab,O2.ac,O2.bc,O2.da,O2.db,O2.dc,fun z hz=>?_⟩
      ·have hcap:SN.capsI st'=SN.capsI st:=by rw[<-hst];rfl
       rw[hcap];exact keep5 _ _ (keep4 _ _ O2.caps O2.ab O2.ac) O2.da.symm
      ·rcases List.mem_append.mp hz with q | q
       ·exact O2.wa z q
       ·have:z=rr:=by simpa using q
        rw[this];exact⟨r1,r2,r3⟩
     refine⟨_,rfl,x,HC,dx,_,_,rfl,O5.ins,T.cl,T.ways,hf_ways a b c d,d,_,rfl,.inl (SqL.of R5.lst),(by show 2<=sizeLine;decide),fun p hp=>?_⟩;refine k _ p ⟨⟨a,b,c,d,ws++[rr],O5.same (Same.new hp),fun z hz=>.inl hz,fun z hz=>?_⟩,fun z o e _ m1 m2 m3 m4=>Same.new hp _ _ (keep5 _ _ (keep4 _ _ (s12 _ _ e) m2 m3) m4)⟩ (s12.free (fr4 _ (fr5 _ hp))) ?_
     ·rcases List.mem_append.mp hz with q | q
      ·exact .inl q
      ·exact .inr (.inl (by simpa using q))
     ·unfold IntsAt;rw[upd_same,lmp,List.length_append,<-lmp (f:=V.ref),ew];simp
end
end My
end
section
set_option maxRecDepth 100000
set_option maxHeartbeats 2000000
namespace My
open PySem PySem.Spec PyProof.Rows L2
open Vbahar (State)
def KTup(K:PySem.W.Frag)(a:Addr)(xs:List V):Prop:=∃ (o:Obj) (its:Array Value) (n:Nat),K.lookup a=some o/\o.cls=.type "tuple"/\o.data=.seq its n/\its.size<=sizeLine/\Vals xs its.toList
theorem KTup.sq{K:PySem.W.Frag}{a:Addr}{xs:List V}(h:KTup K a xs)(H:Hp):SqT K H a xs:=.inr h
def Bnds(K:PySem.W.Frag)(t:Addr)(bs:List (Int×Int)):Prop:=
 ∃ as:List Addr,KTup K t (as.map V.ref)/\as.length=bs.length/\∀ (i:Nat) (b:Addr),as[i]?=some b->KTup K b [.int (bs.getD i (0,0)).1,.int (bs.getD i (0,0)).2]
structure Tabl(K:PySem.W.Frag)(d:Addr)(tab:Int->Option (List (Int×Int))):Prop where
 ex:∃ kvs,KDict K d kvs/\∀ p,(tab p=none->lk kvs p=none)/\∀ bs,tab p=some bs->∃ t,lk kvs p=some (.ref t)/\Bnds K t bs
abbrev sWithin:Stmt:=defAt "within"
def spWithin(K:PySem.W.Frag):Sp:=fun vs H Q _=>∃ (n:Int) (t:Addr) (b:Int×Int),vs=[.int n,.ref t]/\SqT K H t [.int b.1,.int b.2]/\Q (.bl (inB n b)) H
section
variable{P:Program}{w:World}{K:PySem.W.Frag}{mg:Str->Option Value}{base:Heap}
theorem scWithin:FnScope ["number","bounds"] ["number","bounds"] (defScope sWithin):=⟨rfl,rfl,rfl,by decide +kernel,rfl,by decide +kernel,by decide +kernel⟩
theorem ok_within{f:Addr}{fd:FuncData}(F:Fun K "within" "within" sWithin f fd):FnOk P w K mg base CX0 1 f fd ["number","bounds"] (spWithin K):=by
 refine F.ok scWithin (fun vs H Q E h=>?_) (fun cdv A outer s H vs Q E hr h=>?_)
 ·obtain⟨n,t,b,rfl,_⟩:=h;rfl
 ·obtain⟨n,t,b,rfl,hT,k⟩:=h;refine⟨_,pss_one (ps_ret (pe_chain op_le op_le (pe_ix ix_tup (pv 1) pe_int (fun _ _=>rfl)) (pv 0) (pe_ix ix_tup (pv 1) pe_int (fun _ _=>rfl)))),?_⟩;refine⟨_,rfl,t,_,_,_,rfl,rfl,hT,at_of (j:=0) rfl rfl,_,rfl,_,_,rfl,rfl,_,rfl,?_⟩;unfold inB at k;refine ite2 (fun hc=>?_) (fun hc=>?_)
  ·refine⟨_,rfl,t,_,_,_,rfl,rfl,hT,at_of (j:=1) rfl rfl,_,_,rfl,rfl,?_⟩;rw[hc,Bool.true_and] at k;exact k
  ·have e:decide (b.1<=n)=false:=by
    cases q:decide (b.1<=n) with
    | false=>rfl
    | true=>exact absurd q hc
   rw[e,Bool.false_and] at k;exact k
abbrev sRowIn:Stmt:=defAt "row_in_ranges"
def spRowIn(K:PySem.W.Frag):Sp:=fun vs H Q _=>∃ (a t:Addr) (row:List Int) (bl bn:Int×Int),vs=[.ref a,.ref t]/\IntsAt H a row/\row.length<=1000/\Bnds K t [bl,bn]/\∀ H',Same H H'->Q (.bl (rowOk row bl bn)) H'
theorem scRowIn:FnScope ["row","ranges","lengths","numbers","number"] ["row","ranges"] (defScope sRowIn):=⟨rfl,rfl,rfl,by decide +kernel,rfl,by decide +kernel,by decide +kernel⟩
theorem ok_row_in{f fW:Addr}{fd fdW:FuncData}(F:Fun K "row_in_ranges" "row_in_ranges" sRowIn f fd)(B:Blt mg)(CW:Cal P w K mg base 1 "within" ["number","bounds"] (spWithin K) fW fdW):FnOk P w K mg base CX0 2 f fd ["row","ranges"] (spRowIn K):=by
 refine F.ok scRowIn (fun vs H Q E h=>?_) (fun cdv A outer s H vs Q E hr h=>?_)
 ·obtain⟨a,t,row,bl,bn,rfl,_⟩:=h;rfl
 ·obtain⟨a,t,row,bl,bn,rfl,ha,hz,⟨as,hT,hlen,hat⟩,k⟩:=h;refine⟨_,pss_cons (ps_set (i:=2) scRowIn.nd rfl (.inl rfl) (pe_ix ix_tup (pv 1) pe_int (fun _ _=>rfl)))
   (pss_cons (ps_set (i:=3) scRowIn.nd rfl (.inr rfl) (pe_ix ix_tup (pv 1) pe_int (fun _ _=>rfl)))
   (pss_one (ps_ret (pe_and (pe_call CW.ok hr rfl CW.mg CW.kp CW.b .nil pass0 (pa_cons (pe_callB call_len_seq (by rfl) B.len PySem.boot_len (pa_cons (pv 0) pa_nil)) (pa_cons (pv 2) pa_nil)))
    (pe_one (pe_callB (cr_all rfl) (by rfl) B.all PyProof.Rows.boot_all (pa_cons (pe_lc rfl scRowIn.nd (pi_list (pv 0)) (blkOk_by (own:=[("number",4)]) (by rfl)) (fun _ _ _ _ _=>pg_name (i:=4) scRowIn.nd rfl (.inl rfl))
     (fun _ _ _ _ _=>pts_nil) (fun _ _ _ _ _=>pe_call CW.ok hr rfl CW.mg CW.kp CW.b .nil pass0 (pa_cons (pv 4) (pa_cons (pv 3) pa_nil)))) pa_nil))))))),?_⟩
  match as,hlen with
  | [t0,t1],_=>
   have h0:=hat 0 t0 rfl;have h1:=hat 1 t1 rfl;refine⟨_,rfl,t,_,_,_,rfl,rfl,hT.sq H,at_of (j:=0) rfl rfl,?_⟩;refine⟨_,rfl,t,_,_,_,rfl,rfl,hT.sq H,at_of (j:=1) rfl rfl,?_⟩;refine⟨_,rfl,a,_,rfl,.inl (SqL.of ha),_,rfl,_,t0,bl,rfl,h0.sq H,_,rfl,?_⟩;unfold rowOk at k;rw[lmp];refine ite2 (fun hc=>?_) (fun hc=>?_)
   ·rw[hc,Bool.true_and] at k;refine⟨_,rfl,a,rfl,⟨_,SqL.of ha⟩,fun D hD=>?_⟩;refine coll_vals (n:=(row.map V.int).length) (fun j z H2=>(row.map V.int)[j]?=some z) ((row.map fun z=>inB z bn).map V.bl) (itl_go (SqL.of ha)) (itl_stop (SqL.of ha)) (itl_yld (SqL.of ha)) (by simp) (by rw[lmp];omega) hD ?_ (fun H1 s1 hq=>?_)
    ·intro j z v H4 R hj hv' sm hz' hR;obtain⟨rfl,hj1⟩:=ints_get hz';refine⟨rfl,_,rfl,_,rfl,_,t1,bn,rfl,h1.sq H4,?_⟩;have e:v=V.bl (inB (row.getD j 0) bn):=by
      rw[List.getElem?_map,List.getElem?_map,gEe hj1] at hv';have:=Option.some.inj hv';rw[<-this,gDe,gEe hj1];rfl
     rw[<-e];exact hR H4 (Same.refl _)
    ·refine⟨D,_,rfl,SqL.of hq,?_⟩;have e:((row.map fun z=>inB z bn).all id)=row.all fun z=>inB z bn:=by rw[List.all_map];rfl
     rw[e];exact k H1 s1
   ·have e:inB (row.length:Int) bl=false:=by
     cases q:inB (row.length:Int) bl with
     | false=>rfl
     | true=>exact absurd q hc
    rw[e,Bool.false_and] at k;exact k H (Same.refl _)
abbrev sInRanges:Stmt:=defAt "in_ranges"
def spInRanges(K:PySem.W.Frag)(CC:Addr)(atab rtab:Int->Option (List (Int×Int))):Sp:=fun vs H Q _=>∃ (y dy ar rr:Addr) (pl en:Int) (args row:List Int) (bs:List (Int×Int)),vs=[.ref y]/\CallOb CC H y dy ar rr pl en args row/\
 atab pl=some bs/\args.length=bs.length/\bs.length<=100/\row.length<=1000/\(∀ q,rtab pl=some q->∃ bl bn,q=[bl,bn])/\∀ H',Same H H'->Q (.bl (callOk rtab pl bs args row)) H'
theorem scInRanges:FnScope ["call","argument","bounds"] ["call"] (defScope sInRanges):=⟨rfl,rfl,rfl,by decide +kernel,rfl,by decide +kernel,by decide +kernel⟩
theorem zipWith_take(args:List Int)(bs:List (Int×Int))(i:Nat)(h1:i<args.length)(h2:i<bs.length):argsOk (args.take (i+1)) (bs.take (i+1))=(argsOk (args.take i) (bs.take i)&&inB (args.getD i 0) (bs.getD i (0,0))):=by
 unfold argsOk;rw[List.take_succ_eq_append_getElem h1,List.take_succ_eq_append_getElem h2,List.zipWith_append (by simp;omega),List.all_append];simp[gDe,h1,h2]
theorem ok_in_ranges{f fW fR CC dA dR:Addr}{fd fdW fdR:FuncData}{atab rtab:Int->Option (List (Int×Int))}(F:Fun K "in_ranges" "in_ranges" sInRanges f fd)(B:Blt mg)(TC:CalC K CC)(TA:Tabl K dA atab)(TR:Tabl K dR rtab)(gA:mg "ARGUMENTS"=some (.ref dA))(gR:mg "ROWS"=some (.ref dR))(CW:Cal P w K mg base 1 "within" ["number","bounds"] (spWithin K) fW fdW)(CR:Cal P w K mg base 2 "row_in_ranges" ["row","ranges"] (spRowIn K) fR fdR):
  FnOk P w K mg base CX0 3 f fd ["call"] (spInRanges K CC atab rtab):=by
 refine F.ok scInRanges (fun vs H Q E h=>?_) (fun cdv A outer s H vs Q E hr h=>?_)
 ·obtain⟨y,dy,ar,rr,pl,en,args,row,bs,rfl,_⟩:=h;rfl
 ·obtain⟨y,dy,ar,rr,pl,en,args,row,bs,rfl,Co,hA,hlen,hz,hzr,hq2,k⟩:=h;have hr1:Room 1 _:=hr.mono (by decide);refine⟨_,pss_cons (ps_for PassesOwn.never rfl (pi_zipT rfl B.zip (pa_cons (pe_fld (pv 0) rfl) (pa_cons (pe_ix ix_dict (pe_glob (v:=.ref dA) rfl gA rfl) (pe_fld (pv 0) rfl) (fun _ _=>rfl)) pa_nil))) (pg_tup rfl (pgs_cons (pg_name (i:=1) scInRanges.nd rfl (.inl rfl)) (pgs_cons (pg_name (i:=2) scInRanges.nd rfl (.inl rfl)) pgs_nil)))
    (pss_one (ps_if (pt_not (pt_val (pe_call CW.ok hr1 rfl CW.mg CW.kp CW.b .nil pass0 (pa_cons (pv 1) (pa_cons (pv 2) pa_nil))))) (pss_one (ps_ret pe_bl)) pss_nil)))
   (pss_one (ps_ret (pe_or (pe_cmpR op_notInD (pe_fld (pv 0) rfl) (pe_glob (v:=.ref dR) rfl gR rfl) (by with_unfolding_all rfl)) (pe_one (pe_call CR.ok hr rfl CR.mg CR.kp CR.b .nil pass0 (pa_cons (pe_fld (pv 0) rfl) (pa_cons (pe_ix ix_dict (pe_glob (v:=.ref dR) rfl gR rfl) (pe_fld (pv 0) rfl) (fun _ _=>rfl)) pa_nil))))))),?_⟩
  obtain⟨kA,DA,hkA⟩:=TA.ex;obtain⟨kR,DR,hkR⟩:=TR.ex;obtain⟨t,ht,as,hT,hasl,hat⟩:=(hkA pl).2 bs hA;refine⟨_,rfl,y,CC,dy,_,_,rfl,Co.ins,TC.cl,TC.args,cf_args pl ar rr en,_,rfl,y,CC,dy,_,_,rfl,Co.ins,TC.cl,TC.place,cf_place pl ar rr en,dA,kA,_,_,rfl,rfl,DA,ht,ar,t,_,_,rfl,SqL.of Co.args,hT.sq H,?_⟩;refine for_it (n:=(args.map V.int).length) (fun i σ H'=>∃ v1 v2,σ=[some (.ref y),v1,v2]/\Same H H'/\argsOk (args.take i) (bs.take i)=true)
   ⟨none,none,rfl,Same.refl _,rfl⟩ (fun i σ H' hi ⟨_,_,_,sm,_⟩=>⟨_,_,_,_,SqL.of (sm _ _ Co.args),hT.sq H',gEe hi,gEe (by simp at hi ⊢;omega)⟩)
   (fun σ H' ⟨_,_,_,sm,_⟩=>⟨_,_,SqL.of (sm _ _ Co.args),hT.sq H',.inl (Nat.le_refl _)⟩) ?_ ?_
  ·rintro i x σ H' H'' hi ⟨v1,v2,rfl,sm,hok⟩ ⟨Tp,u,v,rfl,hTp,rfl,hy1,hy2⟩;obtain⟨rfl,hi1⟩:=ints_get (hy1 _ (SqL.of (sm _ _ Co.args)));obtain⟨b0,hb0,rfl⟩:=refs_get (hy2 _ (hT.sq H'));have sT:=sm.trans (Same.new (o:=.tup [V.int (args.getD i 0),V.ref b0]) hTp);refine⟨Tp,_,rfl,SqT.of upd_same,rfl,_,_,rfl,_,_,rfl,rfl,?_⟩;refine⟨_,rfl,_,rfl,_,b0,bs.getD i (0,0),rfl,(hat i b0 hb0).sq _,_,rfl,?_⟩;have hstep:=zipWith_take args bs i hi1 (by omega);rw[hok,Bool.true_and] at hstep;cases hin:inB (args.getD i 0) (bs.getD i (0,0)) with
   | true=>
    refine iteF ?_;rw[hin] at hstep;exact⟨_,_,rfl,sT,hstep⟩
   | false=>
    refine iteT ?_;have hall:callOk rtab pl bs args row=false:=by
     unfold callOk;have:argsOk args bs=false:=by
      cases q:argsOk args bs with
      | false=>rfl
      | true=>
       unfold argsOk at q;rw[List.all_eq_true] at q;have hm:inB (args.getD i 0) (bs.getD i (0,0))∈List.zipWith inB args bs:=by
        refine List.mem_iff_getElem.mpr ⟨i,by simp;omega,?_⟩;have hi2:i<bs.length:=by omega
        rw[List.getElem_zipWith];simp[gDe,hi1,hi2]
       have:=q _ hm;rw[hin] at this;cases this
     rw[this,Bool.false_and]
    rw[hall] at k;exact k _ sT
  ·rintro σ H' ⟨v1,v2,rfl,sm,hok⟩;rw[lmp,List.take_length,hlen,List.take_length] at hok;have hk:=callOk_row (rtab:=rtab) (pl:=pl) (row:=row) hok;have Co':=Co.same sm;refine⟨_,rfl,y,CC,dy,_,_,rfl,Co'.ins,TC.cl,TC.place,cf_place pl ar rr en,dR,kR,_,rfl,rfl,DR,_,rfl,?_⟩;cases hR:rtab pl with
   | none=>
    rw[(hkR pl).1 hR];refine iteT ?_;rw[hk.1 hR] at k;exact k _ sm
   | some q=>
    obtain⟨bl,bn,rfl⟩:=hq2 q hR;obtain⟨t2,ht2,hB2⟩:=(hkR pl).2 _ hR;rw[ht2];refine iteF ?_;rw[hk.2 bl bn hR] at k;refine⟨_,rfl,y,CC,dy,_,_,rfl,Co'.ins,TC.cl,TC.row,cf_row pl ar rr en,_,rfl,y,CC,dy,_,_,rfl,Co'.ins,TC.cl,TC.place,cf_place pl ar rr en,dR,kR,_,_,rfl,rfl,DR,ht2,rr,t2,row,bl,bn,rfl,Co'.row,hzr,hB2,fun H3 s3=>k _ (sm.trans s3)⟩
end
end My
end
section
set_option maxRecDepth 100000
set_option maxHeartbeats 2000000
namespace My
open PySem PySem.Spec PyProof.Rows L2
open Vbahar (State)
def isCls(x:Str):Stmt->Bool
 | .ClassDef n _ _ _ _ _ _ _ _ _ _=>n==x
 | _=>false
def clsAt(x:Str):Stmt:=(PySem.Challenge.pw_seatnetwork_s01_answers.main.body.find? (isCls x)).getD (.Pass ⟨0,0,0,0⟩)
section
variable{P:Program}{w:World}{K:PySem.W.Frag}{mg:Str->Option Value}{base:Heap}
abbrev sHouInit:Stmt:=inClass (clsAt "House") 0
def spHouInit(C:Addr):Sp:=fun vs H Q _=>∃ (x dx:Addr),vs=[.ref x]/\H x=some (.ins C dx [])/\
 ∀ (H':Hp) (a b c d:Addr),(∀ z o,H z=some o->z≠x->H' z=some o)->(∀ z,z∈[a,b,c,d]->H z=none)->HouseOb C H' x dx a b c d [] Vbahar.start->Q .non H'
theorem scHouInit:FnScope ["self"] ["self"] (defScope sHouInit):=⟨rfl,rfl,rfl,by decide +kernel,rfl,by decide +kernel,by decide +kernel⟩
theorem Bld.free{H H1:Hp}{x C dx:Addr}{fs:List (Str×V)}(b:Bld H H1 x C dx fs){z:Addr}(h:H1 z=none):H z=none:=by
 cases e:H z with
 | none=>rfl
 | some o=>
  by_cases q:z=x
  ·rw[q,b.ins] at h;cases h
  ·rw[b.keep _ _ e q] at h;cases h
theorem ok_houInit{f C:Addr}{fd:FuncData}(F:Fun K "__init__" "House.__init__" sHouInit f fd)(T:HouC K C):FnOk P w K mg base CX0 1 f fd ["self"] (spHouInit C):=by
 refine F.ok scHouInit (fun vs H Q E h=>?_) (fun cdv A outer s H vs Q E hr h=>?_)
 ·obtain⟨x,dx,rfl,_⟩:=h;rfl
 ·obtain⟨x,dx,rfl,hx,k⟩:=h;refine⟨_,pss_cons (ps_fld (pv 0) (pe_lst pa_nil) rfl) (pss_cons (ps_fld (pv 0) (pe_lst pa_nil) rfl) (pss_cons (ps_fld (pv 0) (pe_lst pa_nil) rfl) (pss_one (ps_fld (pv 0) (pe_lst pa_nil) rfl)))),?_⟩;have b0:Bld H H x C dx []:=⟨fun y o e _=>e,hx⟩;refine⟨Nat.zero_le _,fun a ha=>?_⟩;have b1:=b0.same (Same.new (o:=.lst []) ha);have A1:upd H a (.lst []) a=some (.lst []):=upd_same;have fa:=b0.free ha;generalize upd H a (.lst [])=H1 at b1 A1 ⊢;refine⟨_,rfl,x,C,dx,[],rfl,b1.ins,T.cl,T.caps,(by show 0<1000;decide),?_⟩;have b2:=b1.put (f:="capacities") (v:=.ref a) rfl;have A2:=IntsAt.upd_ins (ns:=[]) (C:=C) (dx:=dx) (fs:=putF "capacities" (.ref a) []) b1.ins A1;generalize upd H1 x _=H2 at b2 A2 ⊢;refine⟨Nat.zero_le _,fun b hb=>?_⟩;have fb:=b2.free hb;have ab:a≠b:=ne_of_none A2 hb;have b3:=b2.same (Same.new (o:=.lst []) hb);have A3:=IntsAt.same (Same.new (o:=.lst []) hb) A2;have B3:IntsAt (upd H2 b (.lst [])) b []:=upd_same;generalize upd H2 b (.lst [])=H3 at b3 A3 B3 ⊢;refine⟨_,rfl,x,C,dx,_,rfl,b3.ins,T.cl,T.fares,(by show 1<1000;decide),?_⟩;have b4:=b3.put (f:="fares") (v:=.ref b) (show(["capacities"]:List Str).contains "fares"=false by decide +kernel);have A4:=IntsAt.upd_ins (C:=C) (dx:=dx) (fs:=putF "fares" (.ref b) ([]++[(("capacities":Str),V.ref a)])) b3.ins A3;have B4:=IntsAt.upd_ins (C:=C) (dx:=dx) (fs:=putF "fares" (.ref b) ([]++[(("capacities":Str),V.ref a)])) b3.ins B3;generalize upd H3 x _=H4 at b4 A4 B4 ⊢;refine⟨Nat.zero_le _,fun c hc=>?_⟩;have fc:=b4.free hc;have ac:a≠c:=ne_of_none A4 hc;have bc:b≠c:=ne_of_none B4 hc;have b5:=b4.same (Same.new (o:=.lst []) hc);have A5:=IntsAt.same (Same.new (o:=.lst []) hc) A4;have B5:=IntsAt.same (Same.new (o:=.lst []) hc) B4;have C5:IntsAt (upd H4 c (.lst [])) c []:=upd_same;generalize upd H4 c (.lst [])=H5 at b5 A5 B5 C5 ⊢;refine⟨_,rfl,x,C,dx,_,rfl,b5.ins,T.cl,T.dems,(by show 2<1000;decide),?_⟩;have b6:=b5.put (f:="demands") (v:=.ref c) (show(["capacities","fares"]:List Str).contains "demands"=false by decide +kernel);have A6:=IntsAt.upd_ins (C:=C) (dx:=dx) (fs:=putF "demands" (.ref c) ([]++[(("capacities":Str),V.ref a)]++[(("fares":Str),V.ref b)])) b5.ins A5;have B6:=IntsAt.upd_ins (C:=C) (dx:=dx) (fs:=putF "demands" (.ref c) ([]++[(("capacities":Str),V.ref a)]++[(("fares":Str),V.ref b)])) b5.ins B5;have C6:=IntsAt.upd_ins (C:=C) (dx:=dx) (fs:=putF "demands" (.ref c) ([]++[(("capacities":Str),V.ref a)]++[(("fares":Str),V.ref b)])) b5.ins C5;generalize upd H5 x _=H6 at b6 A6 B6 C6 ⊢;refine⟨Nat.zero_le _,fun d hd=>?_⟩;have fd':=b6.free hd;have da:d≠a:=(ne_of_none A6 hd).symm;have db:d≠b:=(ne_of_none B6 hd).symm;have dc:d≠c:=(ne_of_none C6 hd).symm;have b7:=b6.same (Same.new (o:=.lst []) hd);have A7:=IntsAt.same (Same.new (o:=.lst []) hd) A6;have B7:=IntsAt.same (Same.new (o:=.lst []) hd) B6;have C7:=IntsAt.same (Same.new (o:=.lst []) hd) C6;have D7:upd H6 d (.lst []) d=some (.lst []):=upd_same;generalize upd H6 d (.lst [])=H7 at b7 A7 B7 C7 D7 ⊢;refine⟨_,rfl,x,C,dx,_,rfl,b7.ins,T.cl,T.ways,(by show 3<1000;decide),?_⟩;have b8:=b7.put (f:="ways") (v:=.ref d) (show(["capacities","fares","demands"]:List Str).contains "ways"=false by decide +kernel);refine k _ a b c d b8.keep (fun z hz=>?_) ⟨by rw[b8.ins];rfl,A7.upd_ins b7.ins,B7.upd_ins b7.ins,C7.upd_ins b7.ins,⟨IntsAt.upd_ins (ns:=[]) b7.ins D7,rfl,fun i z e=>by simp at e⟩,ab,ac,bc,da,db,dc,fun z hz=>by cases hz⟩;simp at hz;rcases hz with rfl | rfl | rfl | rfl<;>assumption
abbrev sCalInit:Stmt:=inClass (clsAt "Call") 0
def spCalInit(C:Addr):Sp:=fun vs H Q _=>∃ (x dx ar rr:Addr) (pl en:Int) (args row:List Int),vs=[.ref x,.int pl,.ref ar,.ref rr,.int en]/\H x=some (.ins C dx [])/\IntsAt H ar args/\IntsAt H rr row/\
 ∀ H':Hp,(∀ z o,H z=some o->z≠x->H' z=some o)->CallOb C H' x dx ar rr pl en args row->Q .non H'
theorem scCalInit:FnScope ["self","place","arguments","row","end"] ["self","place","arguments","row","end"] (defScope sCalInit):=⟨rfl,rfl,rfl,by decide +kernel,rfl,by decide +kernel,by decide +kernel⟩
theorem ok_calInit{f C:Addr}{fd:FuncData}(F:Fun K "__init__" "Call.__init__" sCalInit f fd)(T:CalC K C):FnOk P w K mg base CX0 1 f fd ["self","place","arguments","row","end"] (spCalInit C):=by
 refine F.ok scCalInit (fun vs H Q E h=>?_) (fun cdv A outer s H vs Q E hr h=>?_)
 ·obtain⟨x,dx,ar,rr,pl,en,args,row,rfl,_⟩:=h;rfl
 ·obtain⟨x,dx,ar,rr,pl,en,args,row,rfl,hx,ha,hrw,k⟩:=h;refine⟨_,pss_cons (ps_fld (pv 0) (pv 1) rfl) (pss_cons (ps_fld (pv 0) (pv 2) rfl) (pss_cons (ps_fld (pv 0) (pv 3) rfl) (pss_one (ps_fld (pv 0) (pv 4) rfl)))),?_⟩;have b0:Bld H H x C dx []:=⟨fun y o e _=>e,hx⟩;refine⟨_,rfl,_,rfl,x,C,dx,[],rfl,hx,T.cl,T.place,(by show 0<1000;decide),?_⟩;have b1:=b0.put (f:="place") (v:=.int pl) rfl;generalize upd H x _=H1 at b1 ⊢;refine⟨_,rfl,_,rfl,x,C,dx,_,rfl,b1.ins,T.cl,T.args,(by show 1<1000;decide),?_⟩;have b2:=b1.put (f:="arguments") (v:=.ref ar) (show(["place"]:List Str).contains "arguments"=false by decide +kernel);generalize upd H1 x _=H2 at b2 ⊢;refine⟨_,rfl,_,rfl,x,C,dx,_,rfl,b2.ins,T.cl,T.row,(by show 2<1000;decide),?_⟩;have b3:=b2.put (f:="row") (v:=.ref rr) (show(["place","arguments"]:List Str).contains "row"=false by decide +kernel);generalize upd H2 x _=H3 at b3 ⊢;refine⟨_,rfl,_,rfl,x,C,dx,_,rfl,b3.ins,T.cl,T.end_,(by show 3<1000;decide),?_⟩;have b4:=b3.put (f:="end") (v:=.int en) (show(["place","arguments","row"]:List Str).contains "end"=false by decide +kernel);exact k _ b4.keep ⟨by rw[b4.ins];rfl,b4.lst hx ha,b4.lst hx hrw⟩
abbrev sReadCall:Stmt:=defAt "read_call"
def spReadCall(K:PySem.W.Frag)(CC:Addr)(atab rtab:Int->Option (List (Int×Int))):Sp:=fun vs H Q _=>∃ (a:Addr) (l:List Int) (start:Nat) (pl:Int) (bs:List (Int×Int)) (args row:List Int) (en:Nat),vs=[.ref a,.int start]/\SqL K H a (l.map V.int)/\
 Rd atab rtab l start pl bs args row en/\∀ (H':Hp) (y dy ar rr:Addr),Same H H'->H y=none->H ar=none->H rr=none->CallOb CC H' y dy ar rr pl en args row->Q (.ref y) H'
theorem scReadCall:FnScope ["calls","start","place","behind","arguments","end"] ["calls","start"] (defScope sReadCall):=⟨rfl,rfl,rfl,by decide +kernel,rfl,by decide +kernel,by decide +kernel⟩
theorem ok_read_call{f fI CC dA dR:Addr}{fd fdI:FuncData}{atab rtab:Int->Option (List (Int×Int))}(F:Fun K "read_call" "read_call" sReadCall f fd)(B:Blt mg)(TA:Tabl K dA atab)(TR:Tabl K dR rtab)(gA:mg "ARGUMENTS"=some (.ref dA))(gR:mg "ROWS"=some (.ref dR))(M:Mk K CC fI)(mgC:mg "Call"=some (.ref CC))(bI:Binds K fdI ["self","place","arguments","row","end"] [])(GI:FnOk P w K mg base CX0 1 fI fdI ["self","place","arguments","row","end"] (spCalInit CC)):FnOk P w K mg base CX0 3 f fd ["calls","start"] (spReadCall K CC atab rtab):=by
 refine F.ok scReadCall (fun vs H Q E h=>?_) (fun cdv A outer s H vs Q E hr h=>?_)
 ·obtain⟨a,l,start,pl,bs,args,row,en,rfl,_⟩:=h;rfl
 ·obtain⟨a,l,start,pl,bs,args,row,en,rfl,hS,R,k⟩:=h;refine⟨_,pss_cons (ps_set (i:=2) scReadCall.nd rfl (.inl rfl) (pe_ix ix_list (pv 0) (pv 1) (fun _ _=>rfl)))
   (pss_cons (ps_set (i:=3) scReadCall.nd rfl (.inl rfl) (pe_op op_add (pe_op op_add (pv 1) pe_int) (pe_callB call_len_seq (by rfl) B.len PySem.boot_len (pa_cons (pe_ix ix_dict (pe_glob (v:=.ref dA) rfl gA rfl) (pv 2) (fun _ _=>rfl)) pa_nil))))
   (pss_cons (ps_set (i:=4) scReadCall.nd rfl (.inl rfl) (pe_slice sl_list (pv 0) (po_some (pe_op op_add (pv 1) pe_int)) (po_some (pv 3))))
   (pss_cons (ps_if (pt_cmpR op_notInD (pv 2) (pe_glob (v:=.ref dR) rfl gR rfl) (by with_unfolding_all rfl))
    (pss_one (ps_ret (pe_make M GI hr rfl mgC bI .nil pass0 (pa_cons (pv 2) (pa_cons (pv 4) (pa_cons (pe_lst pa_nil) (pa_cons (pv 3) pa_nil))))))) pss_nil)
   (pss_cons (ps_set (i:=5) scReadCall.nd rfl (.inl rfl) (pe_op op_add (pe_op op_add (pv 3) pe_int) (pe_ix ix_list (pv 0) (pv 3) (fun _ _=>rfl))))
   (pss_one (ps_ret (pe_make M GI hr rfl mgC bI .nil pass0 (pa_cons (pv 2) (pa_cons (pv 4) (pa_cons (pe_slice sl_list (pv 0) (po_some (pe_op op_add (pv 3) pe_int)) (po_some (pv 5))) (pa_cons (pv 5) pa_nil))))))))))),?_⟩
  obtain⟨kA,DA,hkA⟩:=TA.ex;obtain⟨kR,DR,hkR⟩:=TR.ex;obtain⟨t,ht,as,hT,hasl,hat⟩:=(hkA pl).2 bs R.tab;have hlt:=R.lt;have hfits:=R.fits;refine⟨_,rfl,_,rfl,a,_,_,_,rfl,rfl,hS,ints_at hlt,?_⟩;rw[R.eqp];refine⟨_,rfl,_,_,rfl,rfl,_,rfl,dA,kA,_,_,rfl,rfl,DA,ht,t,_,rfl,.inr (hT.sq H),_,_,rfl,rfl,?_⟩;have e1:((start:Nat):Int)+1+(((as.map V.ref).length:Nat):Int)=((start+1+bs.length:Nat):Int):=by rw[lmp,hasl];omega
  simp only[e1];refine⟨_,rfl,_,rfl,_,_,rfl,rfl,_,rfl,_,rfl,_,rfl,a,_,rfl,hS,fun ar har=>?_⟩;have ec:cutV (l.map V.int) (some (((start:Nat):Int)+1)) (some ((start+1+bs.length:Nat):Int))=args.map V.int:=by
   have e2:((start:Nat):Int)+1=((start+1:Nat):Int):=by omega
   rw[e2,cut_ints (by omega) hfits,R.eqa];congr 2;omega
  rw[ec];have s1:=Same.new (o:=.lst (args.map V.int)) har;have A1:IntsAt (upd H ar (.lst (args.map V.int))) ar args:=upd_same;generalize upd H ar (.lst (args.map V.int))=H1 at s1 A1 ⊢;refine⟨_,rfl,dR,kR,pl,rfl,rfl,DR,_,rfl,?_⟩;rcases R.rest with ⟨hR,rfl,rfl⟩ | ⟨q,n,hR,hb,hn,hfit2,rfl,rfl⟩
  ·rw[(hkR pl).1 hR];refine iteT ?_;refine⟨_,rfl,_,rfl,Nat.zero_le _,fun rr hrr=>?_⟩;have s2:=Same.new (o:=.lst []) hrr;refine⟨_,rfl,fun y dy ny ndy ned=>?_⟩;have sN:Same (upd H1 rr (.lst [])) (upd (upd (upd H1 rr (.lst [])) dy (.own y)) y (.ins CC dy [])):=fun z o e=>by
    rw[upd_ne (ne_of_none e ny),upd_ne (ne_of_none e ndy)];exact e
   refine⟨y,dy,ar,rr,pl,_,args,[],rfl,upd_same,sN _ _ (s2 _ _ A1),sN _ _ upd_same,fun H' kp Co=>⟨rfl,?_⟩⟩;refine k H' y dy ar rr (fun z o e=>kp z o (sN _ _ (s2 _ _ (s1 _ _ e))) (ne_of_none (s2 _ _ (s1 _ _ e)) ny)) (s1.free (s2.free ny)) har (s1.free hrr) Co
  ·obtain⟨t2,ht2,hB2⟩:=(hkR pl).2 _ hR;rw[ht2];refine iteF ?_;refine⟨_,rfl,_,_,rfl,rfl,_,rfl,_,rfl,a,_,_,_,rfl,rfl,s1.seq hS,ints_at hb,_,_,rfl,rfl,?_⟩;rw[hn];have e3:((start+1+bs.length:Nat):Int)+1+((n:Nat):Int)=((start+1+bs.length+1+n:Nat):Int):=by omega
   simp only[e3];refine⟨_,rfl,_,rfl,_,rfl,_,rfl,_,_,rfl,rfl,_,rfl,_,rfl,_,rfl,a,_,rfl,s1.seq hS,fun rr hrr=>?_⟩;have ec2:cutV (l.map V.int) (some (((start+1+bs.length:Nat):Int)+1)) (some ((start+1+bs.length+1+n:Nat):Int))=((l.drop (start+1+bs.length+1)).take n).map V.int:=by
    have e2:((start+1+bs.length:Nat):Int)+1=((start+1+bs.length+1:Nat):Int):=by omega
    rw[e2,cut_ints (by omega) hfit2];congr 2;omega
   rw[ec2];have s2:=Same.new (o:=.lst (((l.drop (start+1+bs.length+1)).take n).map V.int)) hrr;refine⟨_,rfl,fun y dy ny ndy ned=>?_⟩;have sN:Same (upd H1 rr (.lst (((l.drop (start+1+bs.length+1)).take n).map V.int))) (upd (upd (upd H1 rr (.lst (((l.drop (start+1+bs.length+1)).take n).map V.int))) dy (.own y)) y (.ins CC dy [])):=fun z o e=>by
    rw[upd_ne (ne_of_none e ny),upd_ne (ne_of_none e ndy)];exact e
   refine⟨y,dy,ar,rr,pl,_,args,_,rfl,upd_same,sN _ _ (s2 _ _ A1),sN _ _ upd_same,fun H' kp Co=>⟨rfl,?_⟩⟩;refine k H' y dy ar rr (fun z o e=>kp z o (sN _ _ (s2 _ _ (s1 _ _ e))) (ne_of_none (s2 _ _ (s1 _ _ e)) ny)) (s1.free (s2.free ny)) har (s1.free hrr) Co
abbrev sAnswerTo:Stmt:=defAt "answer_to"
def spAnswerTo(HC CC:Addr)(atab rtab:Int->Option (List (Int×Int)))(act:Int->State->List Int->List Int->State×List Int):Sp:=fun vs H Q _=>
 ∃ (x dx a b c d:Addr) (ws:List Addr) (s:State) (y dy ar rr:Addr) (pl en:Int) (args row:List Int) (bs:List (Int×Int)),vs=[.ref x,.ref y]/\HouseOb HC H x dx a b c d ws s/\CallOb CC H y dy ar rr pl en args row/\
  rr≠a/\rr≠b/\rr≠c/\rr≠d/\ar≠a/\ar≠b/\ar≠c/\ar≠d/\Good s/\atab pl=some bs/\args.length=bs.length/\bs.length<=100/\row.length<=1000/\(∀ q,rtab pl=some q->∃ bl bn,q=[bl,bn])/\
  ∀ (H':Hp) (p:Addr),ActPost HC H H' x dx a b c d rr ws (stepBy rtab act pl bs s args row).1->H p=none->IntsAt H' p (stepBy rtab act pl bs s args row).2->Q (.ref p) H'
structure Acts(P:Program)(w:World)(K:PySem.W.Frag)(mg:Str->Option Value)(base:Heap)(HC CC:Addr)(k:Nat)(d:Addr)(atab rtab:Int->Option (List (Int×Int)))(act:Int->State->List Int->List Int->State×List Int):Prop where
 ex:∃ kvs,KDict K d kvs/\∀ pl bs,atab pl=some bs->∃ (f:Addr) (fd:FuncData) (pre:State->List Int->List Int->Prop),lk kvs pl=some (.ref f)/\PySem.W.keepIn K (.ref f)=true/\Binds K fd ["house","call"] []/\
  FnOk P w K mg base CX0 k f fd ["house","call"] (spAct HC CC pre (act pl))/\∀ s args row,args.length=bs.length->callOk rtab pl bs args row=true->pre s args row
theorem ActPost.after{HC:Addr}{H H1 H':Hp}{x dx a b c d rr:Addr}{ws:List Addr}{s':State}(e:Same H H1)(h:ActPost HC H1 H' x dx a b c d rr ws s'):ActPost HC H H' x dx a b c d rr ws s':=by
 obtain⟨⟨a',b',c',d',ws',O,h1,h2⟩,kp⟩:=h;refine⟨⟨a',b',c',d',ws',O,fun z hz=>?_,fun z hz=>?_⟩,fun z o q=>kp z o (e _ _ q)⟩
 ·rcases h1 z hz with q | q
  ·exact .inl q
  ·exact .inr (e.free q)
 ·rcases h2 z hz with q | q | q
  ·exact .inl q
  ·exact .inr (.inl q)
  ·exact .inr (.inr (e.free q))
theorem scAnswerTo:FnScope ["house","call","act"] ["house","call"] (defScope sAnswerTo):=⟨rfl,rfl,rfl,by decide +kernel,rfl,by decide +kernel,by decide +kernel⟩
theorem ok_answer_to{f fR HC CC dX:Addr}{fd fdR:FuncData}{k0:Nat}{atab rtab:Int->Option (List (Int×Int))}{act:Int->State->List Int->List Int->State×List Int}(F:Fun K "answer_to" "answer_to" sAnswerTo f fd)(TC:CalC K CC)(gX:mg "ACTS"=some (.ref dX))(AX:Acts P w K mg base HC CC k0 dX atab rtab act)(n1:Num mg "OUT_OF_RANGE" (-2))(CR:Cal P w K mg base 3 "in_ranges" ["call"] (spInRanges K CC atab rtab) fR fdR)(hk:3<=k0):
  FnOk P w K mg base CX0 (k0+1) f fd ["house","call"] (spAnswerTo HC CC atab rtab act):=by
 obtain⟨t1,n1⟩:=n1;refine F.ok scAnswerTo (fun vs H Q E h=>?_) (fun cdv A outer s H vs Q E hr h=>?_)
 ·obtain⟨x,dx,a,b,c,d,ws,st,y,dy,ar,rr,pl,en,args,row,bs,rfl,_⟩:=h;rfl
 ·obtain⟨x,dx,a,b,c,d,ws,st,y,dy,ar,rr,pl,en,args,row,bs,rfl,O,Co,r1,r2,r3,r4,q1,q2,q3,q4,hs,hA,hlen,hz,hzr,hq2,k⟩:=h;have hr3:Room 3 _:=hr.mono hk;refine⟨_,pss_cons (ps_if (pt_not (pt_val (pe_call CR.ok hr3 rfl CR.mg CR.kp CR.b .nil pass0 (pa_cons (pv 1) pa_nil)))) (pss_one (ps_ret (pe_lst (pa_cons (pe_glob (v:=.int (-2)) rfl n1 ⟨_,rfl⟩) pa_nil)))) pss_nil)
   (pss_cons (ps_set (i:=2) scAnswerTo.nd rfl (.inl rfl) (pe_ix ix_dict (pe_glob (v:=.ref dX) rfl gX rfl) (pe_fld (pv 1) rfl) (fun _ _=>rfl)))
   (pss_one (ps_ret (pe_callV (pv 2) (pa_cons (pv 0) (pa_cons (pv 1) pa_nil)))))),?_⟩
  refine⟨_,rfl,y,dy,ar,rr,pl,en,args,row,bs,rfl,Co,hA,hlen,hz,hzr,hq2,fun H1 s1=>⟨_,rfl,?_⟩⟩;have O1:=O.same s1;have Co1:=Co.same s1;cases hc:callOk rtab pl bs args row with
  | false=>
   refine iteT ?_;refine⟨(by show 1<=sizeLine;decide),fun p hp=>?_⟩;have e:stepBy rtab act pl bs st args row=(st,[-2]):=by unfold stepBy;rw[hc];rfl
   rw[e] at k;exact k _ p (ActPost.still O (s1.trans (Same.new hp))) (s1.free hp) upd_same
  | true=>
   refine iteF ?_;have e:stepBy rtab act pl bs st args row=act pl st args row:=by unfold stepBy;rw[hc];rfl
   rw[e] at k;obtain⟨kX,DX,hX⟩:=AX.ex;obtain⟨fa,fda,pre,hl,hkp,hb,G,hpre⟩:=hX pl bs hA;refine⟨_,rfl,y,CC,dy,_,_,rfl,Co1.ins,TC.cl,TC.place,cf_place pl ar rr en,dX,kX,_,_,rfl,rfl,DX,hl,?_⟩;refine⟨_,rfl,fa,k0,fda,_,_,rfl,hkp,hb,G,hr,_,rfl,_,rfl,?_⟩;refine⟨x,dx,a,b,c,d,ws,st,y,dy,ar,rr,pl,en,args,row,rfl,O1,Co1,r1,r2,r3,r4,q1,q2,q3,q4,hs,hpre st args row hlen hc,fun H' p hP np hI=>?_⟩;exact k H' p (hP.after s1) (s1.free np) hI
end
end My
end
section
set_option maxRecDepth 100000
set_option maxHeartbeats 2000000
namespace My
open PySem PySem.Spec PyProof.Rows L2
open Vbahar (State)
def CallsAt(K:PySem.W.Frag)(H:Hp)(a:Addr)(xs:List V):Prop:=
 (∃ o,H a=some (.frz o (.lst xs)))\/∃ (o:Obj) (its:Array Value) (n:Nat),K.lookup a=some o/\o.cls=.type "list"/\o.dict=none/\o.data=.seq its n/\its.size<=sizeLine/\Vals xs its.toList
theorem CallsAt.sq{K:PySem.W.Frag}{H:Hp}{a:Addr}{xs:List V}(h:CallsAt K H a xs):SqL K H a xs:=by
 rcases h with ⟨o,h⟩ | h
 ·exact .inl (.inr ⟨o,h⟩)
 ·exact .inr h
theorem CallsAt.keep{K:PySem.W.Frag}{H H':Hp}{a:Addr}{xs:List V}(h:CallsAt K H a xs)(k:∀ z o u,H z=some (.frz o u)->H' z=some (.frz o u)):CallsAt K H' a xs:=by
 rcases h with ⟨o,h⟩ | h
 ·exact .inl ⟨o,k _ _ _ h⟩
 ·exact .inr h
abbrev sAnswers:Stmt:=defAt "answers"
def spAnswers(atab rtab:Int->Option (List (Int×Int)))(act:Int->State->List Int->List Int->State×List Int)(K:PySem.W.Frag):Sp:=fun vs H Q _=>∃ (a0:Addr) (l total:List Int),vs=[.ref a0]/\CallsAt K H a0 (l.map V.int)/\
 Play atab rtab act l 0 Vbahar.start total/\total.length<=100000/\∀ (H':Hp) (p:Addr),IntsAt H' p total->Q (.ref p) H'
section
variable{P:Program}{w:World}{K:PySem.W.Frag}{mg:Str->Option Value}{base:Heap}
theorem scAnswers:FnScope ["calls","house","told","start","call","answer"] ["calls"] (defScope sAnswers):=⟨rfl,rfl,rfl,by decide +kernel,rfl,by decide +kernel,by decide +kernel⟩
structure Loop(HC:Addr)(H:Hp)(x dx q:Addr)(s:State)(told:List Int):Prop where
 ex:∃ a b c d ws,HouseOb HC H x dx a b c d ws s/\q≠a/\q≠b/\q≠c/\q≠d/\∀ z,z∈ws->z≠q
 told:IntsAt H q told
theorem HouseOb.other{HC:Addr}{H H':Hp}{x dx a b c d q:Addr}{ws:List Addr}{s:State}(O:HouseOb HC H x dx a b c d ws s)(n0:q≠x)(n1:q≠a)(n2:q≠b)(n3:q≠c)(n4:q≠d)(n5:∀ z,z∈ws->z≠q)(k:∀ z o,H z=some o->z≠q->H' z=some o):
  HouseOb HC H' x dx a b c d ws s:=
 ⟨k _ _ O.ins n0.symm,k _ _ O.caps n1.symm,k _ _ O.fares n2.symm,k _ _ O.dems n3.symm,⟨k _ _ O.ways.lst n4.symm,O.ways.len,fun i z e=>k _ _ (O.ways.at_ i z e) (n5 z (List.mem_of_getElem? e))⟩,O.ab,O.ac,O.bc,O.da,O.db,O.dc,O.wa⟩
theorem ok_answers{f fI fR fA HC CC:Addr}{fd fdI fdR fdA:FuncData}{k0:Nat}{atab rtab:Int->Option (List (Int×Int))}{act:Int->State->List Int->List Int->State×List Int}(F:Fun K "answers" "answers" sAnswers f fd)(B:Blt mg)(TC:CalC K CC)(M:Mk K HC fI)(mgH:mg "House"=some (.ref HC))(bI:Binds K fdI ["self"] [])(GI:FnOk P w K mg base CX0 1 fI fdI ["self"] (spHouInit HC))(CR:Cal P w K mg base 3 "read_call" ["calls","start"] (spReadCall K CC atab rtab) fR fdR)(CA:Cal P w K mg base (k0+1) "answer_to" ["house","call"] (spAnswerTo HC CC atab rtab act) fA fdA)(hk:3<=k0):FnOk P w K mg base CX0 (k0+2) f fd ["calls"] (spAnswers atab rtab act K):=by
 refine F.ok scAnswers (fun vs H Q E h=>?_) (fun cdv A outer s H vs Q E hr h=>?_)
 ·obtain⟨a0,l,total,rfl,_⟩:=h;rfl
 ·obtain⟨a0,l,total,rfl,hC,hP,hz,k⟩:=h;have hr2:Room 2 _:=hr.mono (by omega);have hr3:Room 3 _:=hr.mono (by omega);refine⟨_,pss_cons (ps_set (i:=1) scAnswers.nd rfl (.inl rfl) (pe_make0 M GI hr2 rfl mgH bI .nil pass0))
   (pss_cons (ps_set (i:=2) scAnswers.nd rfl (.inl rfl) (pe_lst pa_nil))
   (pss_cons (ps_set (i:=3) scAnswers.nd rfl (.inl rfl) pe_int)
   (pss_cons (ps_while PassesOwn.never (pt_cmpR op_lt (pv 3) (pe_callB call_len_seq (by rfl) B.len PySem.boot_len (pa_cons (pv 0) pa_nil)) (nomark _))
    (pss_cons (ps_set (i:=4) scAnswers.nd rfl (.inl rfl) (pe_call CR.ok hr3 rfl CR.mg CR.kp CR.b .nil pass0 (pa_cons (pv 0) (pa_cons (pv 3) pa_nil))))
    (pss_cons (ps_set (i:=5) scAnswers.nd rfl (.inl rfl) (pe_call CA.ok hr rfl CA.mg CA.kp CA.b .nil pass0 (pa_cons (pv 1) (pa_cons (pv 4) pa_nil))))
    (pss_cons (ps_expr (pe_bm PySem.F.plainAttrs_list PySem.F.slot_list_append PySem.F.type_list_append mt_append (pv 2) (pa_cons (pe_callB call_len_seq (by rfl) B.len PySem.boot_len (pa_cons (pv 5) pa_nil)) pa_nil)))
    (pss_cons (ps_expr (pe_bm PySem.F.plainAttrs_list PySem.F.slot_list_extend PySem.F.type_list_extend mt_extend (pv 2) (pa_cons (pv 5) pa_nil)))
    (pss_one (ps_set (i:=3) scAnswers.nd rfl (.inl rfl) (pe_fld (pv 4) rfl))))))))
   (pss_one (ps_ret (pv 2)))))),?_⟩
  intro x dx nx ndx ned;refine⟨x,dx,rfl,upd_same,fun H1 a b c d kp1 fr1 O1=>⟨rfl,?_⟩⟩;have fz1:∀ z o u,H z=some (.frz o u)->H1 z=some (.frz o u):=fun z o u e=>kp1 z _ (by rw[upd_ne (ne_of_none e nx),upd_ne (ne_of_none e ndx)];exact e) (ne_of_none e nx);have C1:=hC.keep fz1;refine⟨Nat.zero_le _,fun q hq=>?_⟩;have s2:=Same.new (o:=.lst []) hq;have C2:=C1.keep (fun z o u e=>s2 _ _ e);have L2':Loop HC (upd H1 q (.lst [])) x dx q Vbahar.start []:=
   ⟨⟨a,b,c,d,[],O1.same s2,(ne_of_none O1.caps hq).symm,(ne_of_none O1.fares hq).symm,(ne_of_none O1.dems hq).symm,(ne_of_none O1.ways.lst hq).symm,fun z hz=>by cases hz⟩,upd_same⟩
  have qx:q≠x:=(ne_of_none O1.ins hq).symm;generalize upd H1 q (.lst [])=H2 at C2 L2' ⊢;refine⟨fun m σ H'=>∃ (st:Nat) (s':State) (tl out:List Int) (v4 v5:Option V),m=l.length-st/\σ=[some (.ref a0),some (.ref x),some (.ref q),some (.int st),v4,v5]/\CallsAt K H' a0 (l.map V.int)/\Loop HC H' x dx q s' tl/\Play atab rtab act l st s' out/\tl++out=total,
   ⟨_,0,_,[],total,none,none,rfl,rfl,C2,L2',hP,rfl⟩,?_⟩
  rintro m σ H3 ⟨st,s',tl,out,v4,v5,rfl,rfl,C3,L3,hP3,htot⟩;refine⟨_,rfl,_,rfl,a0,_,rfl,.inl C3.sq,_,_,rfl,rfl,_,rfl,?_⟩;rw[lmp];cases hP3 with
  | done hle=>
   rw[decide_eq_false (show ¬((st:Nat):Int)<((l.length:Nat):Int) by omega)];refine iteF ?_;rw[List.append_nil] at htot;rw[<-htot] at k;exact⟨_,rfl,k H3 q L3.told⟩
  | @step _ en _ pl bs args row out' R hs hb hrw hq2 hP4=>
   obtain⟨hlt,hle,hal⟩:=R.fwd;rw[decide_eq_true (show((st:Nat):Int)<((l.length:Nat):Int) by omega)];refine iteT ?_;obtain⟨⟨a3,b3,c3,d3,ws3,O3,m1,m2,m3,m4,m5⟩,T3⟩:=L3;refine⟨fun σ' H'=>∃ (s2:State) (tl2 out2:List Int) (v4 v5:Option V),σ'=[some (.ref a0),some (.ref x),some (.ref q),some (.int en),v4,v5]/\CallsAt K H' a0 (l.map V.int)/\Loop HC H' x dx q s2 tl2/\Play atab rtab act l en s2 out2/\tl2++out2=total,
    fun σ' H' ⟨s2,tl2,out2,v4,v5,e1,e2,e3,e4,e5⟩=>⟨l.length-en,by omega,en,s2,tl2,out2,v4,v5,rfl,e1,e2,e3,e4,e5⟩,?_⟩
   refine⟨_,rfl,_,rfl,a0,l,st,pl,bs,args,row,en,rfl,C3.sq,R,fun H4 y dy ar rr s4 ny nar nrr Co=>?_⟩;have O4:=O3.same s4;have nra:∀ {z:Addr} {o:HO},H3 z=some o->ar≠z:=fun e q=>by rw[q,e] at nar;cases nar
   have nrr':∀ {z:Addr} {o:HO},H3 z=some o->rr≠z:=fun e q=>by rw[q,e] at nrr;cases nrr
   refine⟨_,rfl,_,rfl,x,dx,a3,b3,c3,d3,ws3,s',y,dy,ar,rr,pl,_,args,row,bs,rfl,O4,Co,nrr' O3.caps,nrr' O3.fares,nrr' O3.dems,nrr' O3.ways.lst,nra O3.caps,nra O3.fares,nra O3.dems,nra O3.ways.lst,hs,R.tab,hal,hb,hrw,hq2,fun H5 p hA np hI=>?_⟩;generalize hstep:stepBy rtab act pl bs s' args row=res at hA hI hP4 htot;obtain⟨⟨a5,b5,c5,d5,ws5,O5,f1,f2⟩,kp5⟩:=hA;have q4:=s4 _ _ T3;have q5:IntsAt H5 q tl:=kp5 _ _ q4 qx m1 m2 m3 m4;have pq:p≠q:=fun e=>by rw[e,q4] at np;cases np
   have nq:∀ z,z∈[a5,b5,c5,d5]->q≠z:=fun z hz e=>by
    rcases f1 z hz with h | h
    ·rw[<-e] at h;simp at h;rcases h with h | h | h | h
     ·exact m1 h
     ·exact m2 h
     ·exact m3 h
     ·exact m4 h
    ·rw[<-e,q4] at h;cases h
   have nw:∀ z,z∈ws5->z≠q:=fun z hz e=>by
    rcases f2 z hz with h | h | h
    ·exact m5 z h e
    ·exact nrr' T3 (h.symm.trans e)
    ·rw[e,q4] at h;cases h
   have C5:CallsAt K H5 a0 (l.map V.int):=(C3.keep (fun z o u e=>s4 _ _ e)).keep (fun z o u e=>kp5 z _ e (ne_of e O4.ins (fun r=>by cases r)) (ne_of e O4.caps (fun r=>by cases r)) (ne_of e O4.fares (fun r=>by cases r)) (ne_of e O4.dems (fun r=>by cases r)) (ne_of e O4.ways.lst (fun r=>by cases r)));have hY:H5 y=some (.ins CC dy (cf pl ar rr en)):=by
    have yx:y≠x:=fun e=>by rw[e,O3.ins] at ny;cases ny
    exact kp5 _ _ Co.ins yx (ne_of Co.ins O4.caps (fun r=>by cases r)) (ne_of Co.ins O4.fares (fun r=>by cases r)) (ne_of Co.ins O4.dems (fun r=>by cases r)) (ne_of Co.ins O4.ways.lst (fun r=>by cases r))
   have htl:tl.length+res.2.length+1<=100000:=by
    have:=congrArg List.length htot;simp only[List.length_append,List.length_cons] at this;omega
   refine⟨_,rfl,.inl ⟨rfl,_,SqL.of q5⟩,_,rfl,p,_,rfl,.inl (SqL.of hI),q,_,_,rfl,rfl,q5,?_,?_⟩
   ·rw[lmp];exact Nat.lt_of_lt_of_le (show tl.length<100000 by omega) (by decide)
   have I6:IntsAt (upd H5 q (.lst (tl.map V.int++[V.int ((res.2.map V.int).length:Nat)]))) p res.2:=by unfold IntsAt;rw[upd_ne pq];exact hI
   have q6:IntsAt (upd H5 q (.lst (tl.map V.int++[V.int ((res.2.map V.int).length:Nat)]))) q (tl++[((res.2.length:Nat):Int)]):=by unfold IntsAt;rw[upd_same,List.map_append,lmp];rfl
   have kp6:∀ z o,H5 z=some o->z≠q->upd H5 q (.lst (tl.map V.int++[V.int ((res.2.map V.int).length:Nat)])) z=some o:=fun z o e n=>by rw[upd_ne n];exact e
   generalize upd H5 q (.lst (tl.map V.int++[V.int ((res.2.map V.int).length:Nat)]))=H6 at I6 q6 kp6 ⊢;refine⟨_,rfl,.inl ⟨rfl,_,SqL.of q6⟩,_,rfl,q,p,_,_,rfl,rfl,q6,I6,?_,?_⟩
   ·rw[lmp,lmp,List.length_append];exact Nat.le_trans (show tl.length+1+res.2.length<=100000 by omega) (by decide)
   have q7:IntsAt (upd H6 q (.lst ((tl++[((res.2.length:Nat):Int)]).map V.int++res.2.map V.int))) q (tl++[((res.2.length:Nat):Int)]++res.2):=by unfold IntsAt;rw[upd_same,List.map_append (l₁:=tl++_)]
   have kp7:∀ z o,H5 z=some o->z≠q->upd H6 q (.lst ((tl++[((res.2.length:Nat):Int)]).map V.int++res.2.map V.int)) z=some o:=fun z o e n=>by rw[upd_ne n];exact kp6 z o e n
   generalize upd H6 q (.lst ((tl++[((res.2.length:Nat):Int)]).map V.int++res.2.map V.int))=H7 at q7 kp7 ⊢;have yq:y≠q:=ne_of hY q5 (fun r=>by cases r);refine⟨_,rfl,y,CC,dy,_,_,rfl,kp7 _ _ hY yq,TC.cl,TC.end_,cf_end pl ar rr en,?_⟩;refine⟨res.1,tl++[((res.2.length:Nat):Int)]++res.2,out',_,_,rfl,?_,⟨⟨a5,b5,c5,d5,ws5,O5.other qx (nq a5 (by simp)) (nq b5 (by simp)) (nq c5 (by simp)) (nq d5 (by simp)) nw kp7,nq a5 (by simp),nq b5 (by simp),nq c5 (by simp),nq d5 (by simp),nw⟩,q7⟩,hP4,?_⟩
   ·exact C5.keep (fun z o u e=>kp7 z _ e (ne_of e q5 (fun r=>by cases r)))
   ·rw[<-htot];simp
end
end My
end
section
set_option maxRecDepth 100000
set_option maxHeartbeats 2000000
namespace My
open PySem PySem.Spec PyProof.Rows L2
section
open PySem.SeqAt
open PySem.AutoSeq1 (wpAny_loadPart')
open PySem.MeetsSeq PySem.MeetsSeq2 PySem.MeetsSeq3
theorem rcGt_int(A:Around)(s:Shared)(a:Int)(t:Tok)(c:Int)(u:Tok)(prog:Program)(w:World)(E:Value->Shared->Prop)(Q:Value->Shared->Prop)(h:Q (.bool (decide (c<a))) s):wpAny (model prog w) A (richCompare .Gt (.int a t) (.int c u)) Q E s:=
 richCompare_gives (op:=.Gt) (typeIs_int s _ t) (typeIs_int s _ u) PySem.F.slot_int_gt PySem.F.entry_int_gt (PySem.F.args_int_gt_2 _ _) (gives_int_gt _ _ t u) (fun x=>nomatch x) h
theorem gt_loop(l b:Addr)(items items2:Array Value)(n n2:Nat)(dd dd2:Option Addr)(sl sl2:Array (Option Value))(ns ms:List Int)(hi:IntsAre items.toList ns)(hj:IntsAre items2.toList ms)(k:Nat):
  ∀ i:Nat,items.size-i=k->i<=items.size->i<=items2.size->Meets (Builtin.«list.__eq__.loop» ⟨[.ref l,.ref b,rawInt i,rawInt 4],[]⟩)
   (fun A R s=>s.heap.get? l=some {cls:=.type "list",dict:=dd,data:=.seq items n,slots:=sl}/\s.heap.get? b=some {cls:=.type "list",dict:=dd2,data:=.seq items2 n2,slots:=sl2}/\
    R (.ok (.ret (.bool (SN.lexLt (ms.drop i) (ns.drop i))))) s):=by
 have z1:items.size=ns.length:=by rw[<-hi.length];simp
 have z2:items2.size=ms.length:=by rw[<-hj.length];simp
 induction k with
 | zero=>
  intro i hk hle hle2 prog w A R s h;obtain⟨hp,g,d,tk,os⟩:=s;obtain⟨hl,hb,h⟩:=h
  wp_walk using wpAny_loadPart' hl,wpAny_loadPart' hb
  have hi1:items[((i:Nat):Int).toNat]?=none:=by simp;omega
  rw[lexLt_end (by omega) (by omega)] at h;rw[hi1]
  wp_walk using wpAny_loadPart' hl,wpAny_loadPart' hb
  show R (.ok (.ret (.bool (decide (items2.size<items.size))))) _;rw[z1,z2];exact h
 | succ k ih=>
  intro i hk hle hle2 prog w A R s h;obtain⟨hp,g,d,tk,os⟩:=s;obtain⟨hl,hb,h⟩:=h
  wp_walk using wpAny_loadPart' hl,wpAny_loadPart' hb
  have hlt:i<items.size:=by omega
  have hi1:items[((i:Nat):Int).toNat]?=some items[i]:=by simp[hlt]
  by_cases hlt2:i<items2.size
  ·have hi2:items2[((i:Nat):Int).toNat]?=some items2[i]:=by simp[hlt2]
   have hc:((i:Int)+1)=((i+1:Nat):Int):=by push_cast;rfl
   rw[lexLt_drop (by omega) (by omega)] at h;obtain⟨t,et⟩:=intsAre_get hi i (by simpa using hlt);obtain⟨u,eu⟩:=intsAre_get hj i (by simpa using hlt2);have et':items[i]=.int (ns.getD i 0) t:=by
    have:items.toList[i]?=some items[i]:=by simp[hlt]
    rw[this] at et;exact Option.some.inj et
   have eu':items2[i]=.int (ms.getD i 0) u:=by
    have:items2.toList[i]?=some items2[i]:=by simp[hlt2]
    rw[this] at eu;exact Option.some.inj eu
   rw[hi1,hi2,et',eu'];obtain⟨e,he,hiff⟩:=HT.eqAt_int A.in1 ⟨hp,g,d,tk,os⟩ (ns.getD i 0) t (ms.getD i 0) u;refine wpAny_bind (he prog w _ _ ?_);cases e with
   | true=>
    rw[if_pos (hiff.mp rfl).symm] at h
    wp_walk
    rw[hc];exact⟨plainId_quiet plain_eq_loop _,codeAny_builtin entry_eq_loop (by
     rw[Around.under_plainId plain_eq_loop _];exact ih (i+1) (by omega) (by omega) (by omega) prog w A R _ ⟨hl,hb,h⟩)⟩
   | false=>
    rw[if_neg (fun q=>absurd (hiff.mpr q.symm) Bool.false_ne_true)] at h
    wp_walk using wpAny_loadPart' hl,wpAny_loadPart' hb
    rw[hi1,hi2,et',eu'];have hri:=rcGt_int A.in1 ⟨hp,g,d,tk,os⟩ (ns.getD i 0) t (ms.getD i 0) u prog w
    wp_walk using hri
    exact h
  ·have hi2:items2[((i:Nat):Int).toNat]?=none:=by simp;omega
   rw[lexLt_end (by omega) (by omega)] at h;rw[hi1,hi2]
   wp_walk using wpAny_loadPart' hl,wpAny_loadPart' hb
   show R (.ok (.ret (.bool (decide (items2.size<items.size))))) _;rw[z1,z2];exact h
theorem list_gt_ints(l b:Addr)(items items2:Array Value)(n n2:Nat)(dd dd2:Option Addr)(sl sl2:Array (Option Value))(ns ms:List Int)(hi:IntsAre items.toList ns)(hj:IntsAre items2.toList ms):
  Meets (Builtin.«list.__gt__» ⟨[.ref l,.ref b],[]⟩)
   (fun A R s=>s.heap.get? l=some {cls:=.type "list",dict:=dd,data:=.seq items n,slots:=sl}/\s.heap.get? b=some {cls:=.type "list",dict:=dd2,data:=.seq items2 n2,slots:=sl2}/\
    R (.ok (.ret (.bool (SN.lexLt ms ns)))) s):=by
 intro prog w A R s h;obtain⟨hp,g,d,tk,os⟩:=s;obtain⟨hl,hb,h⟩:=h;have f3:=AutoSeq1.sub_list_list
 wp_walk using wpAny_loadPart' hl,wpAny_loadPart' hb
 exact⟨plainId_quiet plain_eq_loop _,codeAny_builtin entry_eq_loop (by
  rw[Around.under_plainId plain_eq_loop _];exact gt_loop l b items items2 n n2 dd dd2 sl sl2 ns ms hi hj _ 0 rfl (by omega) (by omega) prog w A R _ ⟨hl,hb,by simpa using h⟩)⟩
theorem gt_listInts{prog:Program}{w:World}{A:Around}{E:Value->Shared->Prop}{s:Shared}{l b:Addr}{items items2:Array Value}{ns ms:List Int}{Q:Value->Shared->Prop}{n n2:Nat}{dd dd2:Option Addr}{sl sl2:Array (Option Value)}(ho:s.heap.get? l=some {cls:=.type "list",dict:=dd,data:=.seq items n,slots:=sl})(ho2:s.heap.get? b=some {cls:=.type "list",dict:=dd2,data:=.seq items2 n2,slots:=sl2})(hi:IntsAre items.toList ns)(hj:IntsAre items2.toList ms)(hu:A.units<cLine)(h:Q (.bool (SN.lexLt ms ns)) s):wpAny (model prog w) A (richCompare .Gt (.ref l) (.ref b)) Q E s:=
 richCompare_meets_room (op:=.Gt) ⟨_,ho,rfl⟩ ⟨_,ho2,rfl⟩ PySem.F.slot_list_gt PySem.F.entry_list_gt (PySem.F.args_list_gt_2 _ _) (list_gt_ints l b items items2 n n2 dd dd2 sl sl2 ns ms hi hj)
  ⟨ho,ho2,show Value.bool (SN.lexLt ms ns)≠Value.notImplemented/\Q (.bool (SN.lexLt ms ns)) s from⟨(fun x=>nomatch x),h⟩⟩ hu
end
section
variable{prog:Program}{w:World}{A:Around}{E:Value->Shared->Prop}{s:Shared}
theorem nat_a{c n:Nat}(h:c<n):c≠n+2/\c≠n+1:=⟨by omega,by omega⟩
theorem nat_b{c n:Nat}(h:c=n+1\/c=n):n+2≠c:=by omega
theorem nat_c(n:Nat):n+2≠n+1:=by omega
theorem max_end{I T S:Addr}{a v:Value}{b:Value}{c:Nat}{R:Result->Shared->Prop}(hh:A.handled=none)(ne:T≠I)(nS:S≠I)(st:s.heap.IsTupleIter I T 2/\s.heap.IsTuple T #[a,b])(hS:s.heap.get? S=some {cls:=.type "list",dict:=none,data:=.seq #[v,v] c,slots:=#[]})(fin:∀ h' tk,(∀ d o,d≠I->d≠S->s.heap.get? d=some o->h'.get? d=some o)->R (.ok (.ret v)) {s with heap:=h',toks:=tk}):codeAny (model prog w) A (.builtin "max.loop" ⟨[.ref I,.none,.ref S],[]⟩) R s:=by
 have W:=Walks.tuple (prog:=prog) (w:=w) (A:=A.in1) hh I T ne #[a,b];refine codeAny_builtin PySem.F.entry_max_loop ?_;rw[Around.under_plainId PySem.F.plain_max_loop _];refine(show wpAny _ A.in1 (seqItems? (.ref S)>>=_) _ _ s from wpAny_bind (wpAny_seqItems hS rfl ?_));refine(show wpAny _ A.in1 (tryCatch (pyNext (.ref I)) _>>=_) _ _ s from wpAny_bind (wpAny_tryCatch (W.done s _ _ st fun h1 tk k1=>?_)));refine(show wpAny _ A.in1 (updateSeq S (fun _=>#[])>>=_) _ _ _ from wpAny_bind (wpAny_updateSeq (k1 S _ (by simpa using nS) hS) rfl (wpAny_bind (wpAny_letGo (wpAny_pure ?_)))));exact fin _ tk fun d o n1 n2 q=>(Heap.get?_update_other _ _ (Ne.symm n2)).trans (k1 d o (by simpa using n1) q)
theorem max_refs{a b:Value}{g:Bool}{R:Value->Shared->Prop}(hh:A.handled=none)(cmp:∀ (s1:Shared) (Q:Value->Shared->Prop) (E1:Value->Shared->Prop),(∀ c o,s.heap.get? c=some o->s1.heap.get? c=some o)->Q (.bool g) s1->wpAny (model prog w) A.in1 (richCompare .Gt b a) Q E1 s1)(fin:∀ h' tk,(∀ c o,s.heap.get? c=some o->h'.get? c=some o)->R (if g=true then b else a) {s with heap:=h',toks:=tk}):wpAny (model prog w) A (call (.builtin "max") [a,b]) R E s:=by
 have nm:(toString "max"++toString ".loop":String)="max.loop":=by decide
 have tu:(s.heap.push {cls:=.type "tuple",data:=.seq #[a,b]}).IsTuple s.heap.objs.size #[a,b]:=⟨_,Heap.get?_push_size _ rfl,rfl,0,rfl⟩;have n1:(s.heap.push {cls:=.type "tuple",data:=.seq #[a,b]}).objs.size=s.heap.objs.size+1:=Heap.size_push ..;refine call_function_tree PySem.F.kind_max PySem.F.plain_max PySem.F.entry_max (PySem.F.args_max2 _ _) (show wpAny _ A.in1 (Builtin.Builtins.bindParams "max" ["key","default"] 0 ⟨[],[]⟩>>=_) _ _ s from ?_);refine wpAny_bind (wpAny_of_eq (show Builtin.Builtins.bindParams "max" ["key","default"] 0 ⟨[],[]⟩=pure [none,none] from rfl) (show wpAny _ A.in1 (newTuple [a,b]>>=_) _ _ s from wpAny_bind (wpAny_newObj_type (wpAny_bind (wpAny_pyIter_tuple tu ?_)))));refine wpAny_bind (wpAny_newObj_type ?_);rw[nm];generalize hh1:(s.heap.push {cls:=.type "tuple",data:=.seq #[a,b]}).push {cls:=.type "tuple_iterator",data:=.fields #[.ref s.heap.objs.size,.int 0 0]}=h1;have n2:h1.objs.size=s.heap.objs.size+2:=by rw[<-hh1,Heap.size_push,n1]
 have W:=Walks.tuple (prog:=prog) (w:=w) (A:=A.in1) hh (s.heap.objs.size+1) s.heap.objs.size (Nat.ne_of_lt (Nat.lt_succ_self _)) #[a,b];have st0:(h1.push {cls:=.type "list",data:=.seq #[]}).IsTupleIter (s.heap.objs.size+1) s.heap.objs.size 0/\(h1.push {cls:=.type "list",data:=.seq #[]}).IsTuple s.heap.objs.size #[a,b]:=by
  rw[<-hh1];refine⟨⟨_,Heap.get?_push_of_some _ (by rw[<-n1];exact Heap.get?_push_size _ rfl),rfl,rfl⟩,(tu.push _).push _⟩
 have old:∀ c o,s.heap.get? c=some o->(h1.push {cls:=.type "list",data:=.seq #[]}).get? c=some o:=fun c o q=>by rw[<-hh1];exact Heap.get?_push_of_some _ (Heap.get?_push_of_some _ (Heap.get?_push_of_some _ q))
 have hS:(h1.push {cls:=.type "list",data:=.seq #[]}).get? (s.heap.objs.size+2)=some {cls:=.type "list",data:=.seq #[]}:=by rw[<-n2];exact Heap.get?_push_size _ rfl
 have apart:∀ {c:Addr} {o:Obj},s.heap.get? c=some o->c≠s.heap.objs.size+2/\c∉[s.heap.objs.size+1]:=fun q=>by
  have:=nat_a (Heap.lt_size q);exact⟨this.1,by simpa using this.2⟩
 have inW:s.heap.objs.size+2∉[s.heap.objs.size+1]:=by simp
 refine wpAny_pure ⟨plainId_quiet PySem.F.plain_max_loop _,?_⟩;rw[n1,n2];generalize h1.push {cls:=.type "list",data:=.seq #[]}=h2 at st0 old hS ⊢;refine codeAny_builtin PySem.F.entry_max_loop ?_;rw[Around.under_plainId PySem.F.plain_max_loop _];refine(show wpAny _ A.in1 (seqItems? (.ref (s.heap.objs.size+2))>>=_) _ _ _ from wpAny_bind (wpAny_seqItems hS rfl ?_));refine(show wpAny _ A.in1 (tryCatch (pyNext (.ref (s.heap.objs.size+1))) _>>=_) _ _ _ from wpAny_bind (wpAny_tryCatch (W.item 0 _ _ _ (by simp) st0 fun v h3 tk3 hv st1 k3=>?_)));have ev:a=v:=by simpa using hv
 subst ev;refine(show wpAny _ A.in1 (updateSeq (s.heap.objs.size+2) (fun _=>#[a,a])>>=_) _ _ _ from wpAny_bind (wpAny_updateSeq (k3 _ _ inW hS) rfl ?_));have hS4:=Heap.get?_update_self (fun o=>o.mapSeq fun _=>#[a,a]) (k3 _ _ inW hS) rfl;have st4:=W.frame _ _ (h3.update (s.heap.objs.size+2) fun o=>o.mapSeq fun _=>#[a,a]) st1 fun c hc o q=>(Heap.get?_update_other _ _ (nat_b (by simpa using hc))).trans q;have old4:∀ c o,s.heap.get? c=some o->(h3.update (s.heap.objs.size+2) fun o=>o.mapSeq fun _=>#[a,a]).get? c=some o:=fun c o q=>(Heap.get?_update_other _ _ (Ne.symm (apart q).1)).trans (k3 _ _ (apart q).2 (old c o q));rw[nm];generalize (h3.update (s.heap.objs.size+2) fun o=>o.mapSeq fun _=>#[a,a])=h4 at st4 hS4 old4 ⊢;refine wpAny_pure ⟨plainId_quiet PySem.F.plain_max_loop _,codeAny_builtin PySem.F.entry_max_loop ?_⟩;rw[Around.under_plainId PySem.F.plain_max_loop _];refine(show wpAny _ A.in1 (seqItems? (.ref (s.heap.objs.size+2))>>=_) _ _ _ from wpAny_bind (wpAny_seqItems hS4 rfl ?_));refine(show wpAny _ A.in1 (tryCatch (pyNext (.ref (s.heap.objs.size+1))) _>>=_) _ _ _ from wpAny_bind (wpAny_tryCatch (W.item 1 _ _ _ (by simp) st4 fun v h5 tk5 hv st5 k5=>?_)));have ev:b=v:=by simpa using hv
 subst ev;have hS5:=k5 _ _ inW hS4;have old5:∀ c o,s.heap.get? c=some o->h5.get? c=some o:=fun c o q=>k5 _ _ (apart q).2 (old4 c o q);refine(show wpAny _ A.in1 (tryCatch (holding [b,b] (richCompare .Gt b a>>=_)) _>>=_) _ _ _ from wpAny_bind (wpAny_tryCatch (wpAny_holding (wpAny_bind (cmp _ _ _ old5 ?_)))));refine wpAny_bind (wpAny_holding (wpAny_truthy_bool (wpAny_bind (wpAny_letGo (wpAny_pure ?_)))));cases g with
 | true=>
  simp only[if_true];refine wpAny_bind (wpAny_updateSeq hS5 rfl (wpAny_bind (wpAny_letGo ?_)));rw[nm];refine wpAny_pure ⟨plainId_quiet PySem.F.plain_max_loop _,max_end hh (Nat.ne_of_lt (Nat.lt_succ_self _)) (nat_c _) (W.frame _ _ _ st5 fun c hc o q=>(Heap.get?_update_other _ _ (nat_b (by simpa using hc))).trans q) (Heap.get?_update_self _ hS5 rfl) fun h' tk k=>fin h' tk fun c o q=>k c o (by simpa using (apart q).2) (apart q).1 ((Heap.get?_update_other _ _ (Ne.symm (apart q).1)).trans (old5 c o q))⟩
 | false=>
  simp only[Bool.false_eq_true,if_false];refine wpAny_bind (wpAny_letGo ?_);rw[nm];exact wpAny_pure ⟨plainId_quiet PySem.F.plain_max_loop _,max_end hh (Nat.ne_of_lt (Nat.lt_succ_self _)) (nat_c _) st5 hS5 fun h' tk k=>fin h' tk fun c o q=>k c o (by simpa using (apart q).2) (apart q).1 (old5 c o q)⟩
end
theorem adr(n i j:Nat)(h:i≠j):n+i≠n+j:=by omega
theorem adl{c n:Nat}(i:Nat)(h:c<n):c≠n+i:=by omega
abbrev IsTri(h:Heap)(T:Addr)(a b c:Value):Prop:=h.get? T=some {cls:=.type "tuple",data:=.seq #[a,b,c]}
structure Z3(h:Heap)(n a b c:Addr)(xs ys zs:Array Value)(j k l:Nat)(f p q r:Value):Prop where
 z:IsZip h (n+5) (n+3) (n+4) f
 ti:IsTri h (n+3) (.ref n) (.ref (n+1)) (.ref (n+2))
 to:IsTri h (n+4) p q r
 i1:h.IsListIter n a j
 i2:h.IsListIter (n+1) b k
 i3:h.IsListIter (n+2) c l
 la:h.IsList a xs
 lb:h.IsList b ys
 lc:h.IsList c zs
 na:a<n
 nb:b<n
 nc:c<n
section
variable{h g:Heap}{n a b c:Addr}{xs ys zs:Array Value}{j k l:Nat}{f p q r:Value}
theorem Z3.setZ{f':Value}(Z:Z3 h n a b c xs ys zs j k l f p q r)(e:IsZip g (n+5) (n+3) (n+4) f')(S:Heap.ExtBut (n+5) h g):Z3 g n a b c xs ys zs j k l f' p q r:=
 ⟨e,S _ _ (adr n 3 5 (by decide)) Z.ti,S _ _ (adr n 4 5 (by decide)) Z.to,Z.i1.extBut S (adr n 0 5 (by decide)),Z.i2.extBut S (adr n 1 5 (by decide)),Z.i3.extBut S (adr n 2 5 (by decide)),Z.la.extBut S (adl 5 Z.na),Z.lb.extBut S (adl 5 Z.nb),Z.lc.extBut S (adl 5 Z.nc),Z.na,Z.nb,Z.nc⟩
theorem Z3.setT{p' q' r':Value}(Z:Z3 h n a b c xs ys zs j k l f p q r)(e:IsTri g (n+4) p' q' r')(S:Heap.ExtBut (n+4) h g):Z3 g n a b c xs ys zs j k l f p' q' r':=
 ⟨S _ _ (adr n 5 4 (by decide)) Z.z,S _ _ (adr n 3 4 (by decide)) Z.ti,e,Z.i1.extBut S (adr n 0 4 (by decide)),Z.i2.extBut S (adr n 1 4 (by decide)),Z.i3.extBut S (adr n 2 4 (by decide)),Z.la.extBut S (adl 4 Z.na),Z.lb.extBut S (adl 4 Z.nb),Z.lc.extBut S (adl 4 Z.nc),Z.na,Z.nb,Z.nc⟩
theorem Z3.set1{j':Nat}(Z:Z3 h n a b c xs ys zs j k l f p q r)(e:g.IsListIter n a j')(S:Heap.ExtBut n h g):Z3 g n a b c xs ys zs j' k l f p q r:=
 ⟨S _ _ (adr n 5 0 (by decide)) Z.z,S _ _ (adr n 3 0 (by decide)) Z.ti,S _ _ (adr n 4 0 (by decide)) Z.to,e,Z.i2.extBut S (adr n 1 0 (by decide)),Z.i3.extBut S (adr n 2 0 (by decide)),Z.la.extBut S (adl 0 Z.na),Z.lb.extBut S (adl 0 Z.nb),Z.lc.extBut S (adl 0 Z.nc),Z.na,Z.nb,Z.nc⟩
theorem Z3.set2{k':Nat}(Z:Z3 h n a b c xs ys zs j k l f p q r)(e:g.IsListIter (n+1) b k')(S:Heap.ExtBut (n+1) h g):Z3 g n a b c xs ys zs j k' l f p q r:=
 ⟨S _ _ (adr n 5 1 (by decide)) Z.z,S _ _ (adr n 3 1 (by decide)) Z.ti,S _ _ (adr n 4 1 (by decide)) Z.to,Z.i1.extBut S (adr n 0 1 (by decide)),e,Z.i3.extBut S (adr n 2 1 (by decide)),Z.la.extBut S (adl 1 Z.na),Z.lb.extBut S (adl 1 Z.nb),Z.lc.extBut S (adl 1 Z.nc),Z.na,Z.nb,Z.nc⟩
theorem Z3.set3{l':Nat}(Z:Z3 h n a b c xs ys zs j k l f p q r)(e:g.IsListIter (n+2) c l')(S:Heap.ExtBut (n+2) h g):Z3 g n a b c xs ys zs j k l' f p q r:=
 ⟨S _ _ (adr n 5 2 (by decide)) Z.z,S _ _ (adr n 3 2 (by decide)) Z.ti,S _ _ (adr n 4 2 (by decide)) Z.to,Z.i1.extBut S (adr n 0 2 (by decide)),Z.i2.extBut S (adr n 1 2 (by decide)),e,Z.la.extBut S (adl 2 Z.na),Z.lb.extBut S (adl 2 Z.nb),Z.lc.extBut S (adl 2 Z.nc),Z.na,Z.nb,Z.nc⟩
end
def Out(n:Addr)(h g:Heap):Prop:=∀ d o,(∀ i,i<6->d≠n+i)->h.get? d=some o->g.get? d=some o
theorem Out.refl(n:Addr)(h:Heap):Out n h h:=fun _ _ _ q=>q
theorem Out.then{n:Addr}{h g g2:Heap}{i:Nat}(o:Out n h g)(hi:i<6)(S:Heap.ExtBut (n+i) g g2):Out n h g2:=fun d u ne q=>S _ _ (ne i hi) (o d u ne q)
section
variable{prog:Program}{w:World}{A:Around}{E:Value->Shared->Prop}{s:Shared}
theorem upd_tri{T:Addr}{a b c x:Value}{k:Nat}{R:Unit->Shared->Prop}(o:IsTri s.heap T a b c)(h:∀ g,g.get? T=some {cls:=.type "tuple",data:=.seq ((#[a,b,c]:Array Value).setIfInBounds k x)}->Heap.SameBut T s.heap g->R () {s with heap:=g}):wpAny (model prog w) A (updateSeq T (·.setIfInBounds k x)) R E s:=by
 refine wpAny_updateSeq o rfl (h _ ?_ (Heap.SameBut.update ..));rw[Heap.get?_update_self _ o rfl];simp[Obj.mapSeq]
theorem zip3_item{n a b c:Addr}{k:Nat}{xs ys zs:Array Value}{x y v p q r:Value}{R:Value->Shared->Prop}(Z:Z3 s.heap n a b c xs ys zs k k k .none p q r)(ex:xs[k]?=some x)(ey:ys[k]?=some y)(ev:zs[k]?=some v)(hR:∀ g,Z3 g n a b c xs ys zs (k+1) (k+1) (k+1) (rawInt s.heap.objs.size) x y v->IsTri g s.heap.objs.size x y v->Out n s.heap g->R (.ref s.heap.objs.size) {s with heap:=g}):
  wpAny (model prog w) A (Builtin.«zip.__next__» ⟨[.ref (n+5)],[]⟩) (fun fin s'=>∃ v,fin=.done (.ret v)/\R v s') E s:=by
 refine(show wpAny _ _ (field (.ref (n+5)) 2>>=_) _ _ _ from wpAny_bind (wpAny_field Z.z rfl (x:=.bool false) rfl ?_));refine(show wpAny _ _ (field (.ref (n+5)) 3>>=_) _ _ _ from wpAny_bind (wpAny_field Z.z rfl (x:=.ref (n+3)) rfl (wpAny_bind (wpAny_seqItems Z.ti rfl ?_))));refine(show wpAny _ _ (Builtin.SmallTypes.ownedTupleIsFree (.ref (n+5))>>=_) _ _ _ from wpAny_bind ?_);unfold Builtin.SmallTypes.ownedTupleIsFree;refine wpAny_bind (wpAny_field Z.z rfl (x:=.none) rfl (wpAny_pure ?_));simp only[if_true];refine wpAny_bind (wpAny_rule (wpAny_bind (wpAny_field Z.z rfl (x:=.ref (n+4)) rfl (wpAny_bind (wpAny_setField_rec Z.z (by simp) fun g1 e1 b1=>?_)))));have Z1:=Z.setZ (f':=.ellipsis) e1 b1.extBut;have o1:=(Out.refl n s.heap).then (i:=5) (by decide) b1.extBut
 refine wpAny_bind ?_;simp only[List.zipIdx_cons,List.zipIdx_nil,List.forIn_cons,List.forIn_nil];refine wpAny_bind (wpAny_bind (wpAny_onRaise (show wpAny _ _ (Builtin.SmallTypes.nextOf (.ref n)>>=_) _ _ _ from wpAny_bind (wpAny_nextOf_list_item Z1.i1 Z1.la ex fun g2 e2 b2=>wpAny_pure ?_))));have Z2:=Z1.set1 e2 b2.extBut;have o2:=o1.then (i:=0) (by decide) b2.extBut;refine wpAny_bind (wpAny_seqItems Z2.to rfl (wpAny_bind (upd_tri Z2.to fun g3 e3 b3=>wpAny_bind (wpAny_letGo (wpAny_pure ?_)))));have Z4:=Z2.setT (p':=x) (q':=q) (r':=r) e3 b3.extBut;have o4:=o2.then (i:=4) (by decide) b3.extBut;refine wpAny_bind (wpAny_bind (wpAny_onRaise (show wpAny _ _ (Builtin.SmallTypes.nextOf (.ref (n+1))>>=_) _ _ _ from wpAny_bind (wpAny_nextOf_list_item Z4.i2 Z4.lb ey fun g5 e5 b5=>wpAny_pure ?_))));have Z5:=Z4.set2 e5 b5.extBut;have o5:=o4.then (i:=1) (by decide) b5.extBut;refine wpAny_bind (wpAny_seqItems Z5.to rfl (wpAny_bind (upd_tri Z5.to fun g6 e6 b6=>wpAny_bind (wpAny_letGo (wpAny_pure ?_)))));have Z6:=Z5.setT (p':=x) (q':=y) (r':=r) e6 b6.extBut;have o6:=o5.then (i:=4) (by decide) b6.extBut;refine wpAny_bind (wpAny_bind (wpAny_onRaise (show wpAny _ _ (Builtin.SmallTypes.nextOf (.ref (n+2))>>=_) _ _ _ from wpAny_bind (wpAny_nextOf_list_item Z6.i3 Z6.lc ev fun g7 e7 b7=>wpAny_pure ?_))));have Z7:=Z6.set3 e7 b7.extBut;have o7:=o6.then (i:=2) (by decide) b7.extBut;refine wpAny_bind (wpAny_seqItems Z7.to rfl (wpAny_bind (upd_tri Z7.to fun g8 e8 b8=>wpAny_bind (wpAny_letGo (wpAny_pure (wpAny_pure ?_))))));have Z8:=Z7.setT (p':=x) (q':=y) (r':=v) e8 b8.extBut;have o8:=o7.then (i:=4) (by decide) b8.extBut;refine wpAny_bind (wpAny_seqItems Z8.to rfl (wpAny_bind (wpAny_newTuple ?_)));have size8:g8.objs.size=s.heap.objs.size:=by rw[b8.1,b7.1,b6.1,b5.1,b3.1,b2.1,b1.1]
 have ltz:n+5<g8.objs.size:=Heap.lt_size Z8.z;refine(show wpAny _ _ (Builtin.SmallTypes.ownedTupleHandOut (.ref (n+5)) (.ref g8.objs.size)>>=_) _ _ _ from wpAny_bind ?_);unfold Builtin.SmallTypes.ownedTupleHandOut;have P:Heap.ExtBut (n+5) g8 (g8.push {cls:=.type "tuple",data:=.seq #[x,y,v]}):=fun d o _ e=>Heap.get?_push_of_some _ e;refine wpAny_bind (wpAny_setField_rec (Heap.get?_push_of_some _ Z8.z) (by simp) fun g9 e9 b9=>wpAny_setField_rec e9 (by simp) fun g0 e0 b0=>?_);have ext:Heap.ExtBut (n+5) g8 g0:=fun d o ne e=>b0.extBut _ _ ne (b9.extBut _ _ ne (P d o ne e));have T0:IsTri g0 g8.objs.size x y v:=b0.extBut _ _ (Nat.ne_of_gt ltz) (b9.extBut _ _ (Nat.ne_of_gt ltz) (Heap.get?_push_size _ rfl));have Z0:=Z8.setZ (f':=rawInt g8.objs.size) e0 ext;refine wpAny_pure ⟨_,rfl,show R (.ref g8.objs.size) _ from ?_⟩;rw[size8] at T0 Z0 ⊢;exact hR g0 Z0 T0 (o8.then (i:=5) (by decide) ext)
theorem zip3_end{n a b c:Addr}{k:Nat}{xs ys zs:Array Value}{p q r:Value}{R:Fin->Shared->Prop}(hh:A.handled=none)(Z:Z3 s.heap n a b c xs ys zs k k k .none p q r)(ex:xs[k]?=none)(hE:∀ g e,Out n s.heap g->(∃ o,g.get? e=some o/\o.cls=.type "StopIteration")->E (.ref e) {s with heap:=g}):wpAny (model prog w) A (Builtin.«zip.__next__» ⟨[.ref (n+5)],[]⟩) R E s:=by
 refine(show wpAny _ _ (field (.ref (n+5)) 2>>=_) _ _ _ from wpAny_bind (wpAny_field Z.z rfl (x:=.bool false) rfl ?_));refine(show wpAny _ _ (field (.ref (n+5)) 3>>=_) _ _ _ from wpAny_bind (wpAny_field Z.z rfl (x:=.ref (n+3)) rfl (wpAny_bind (wpAny_seqItems Z.ti rfl ?_))));refine(show wpAny _ _ (Builtin.SmallTypes.ownedTupleIsFree (.ref (n+5))>>=_) _ _ _ from wpAny_bind ?_);unfold Builtin.SmallTypes.ownedTupleIsFree;refine wpAny_bind (wpAny_field Z.z rfl (x:=.none) rfl (wpAny_pure ?_));simp only[if_true];refine wpAny_bind (wpAny_rule (wpAny_bind (wpAny_field Z.z rfl (x:=.ref (n+4)) rfl (wpAny_bind (wpAny_setField_rec Z.z (by simp) fun g1 e1 b1=>?_)))));have Z1:=Z.setZ (f':=.ellipsis) e1 b1.extBut;refine wpAny_bind ?_;simp only[List.zipIdx_cons,List.zipIdx_nil,List.forIn_cons,List.forIn_nil];refine wpAny_bind (wpAny_bind (wpAny_onRaise (show wpAny _ _ (Builtin.SmallTypes.nextOf (.ref n)>>=_) _ _ _ from wpAny_bind (wpAny_nextOf_list_end hh Z1.i1 Z1.la ex fun g2 e b2 he=>?_))));obtain⟨oe,e2,c2⟩:=he;have z2:IsZip g2 (n+5) (n+3) (n+4) .ellipsis:=b2 _ _ (adr n 5 0 (by decide)) Z1.z;have ne:e≠n+5:=fun u=>by subst u;rw[z2] at e2;cases e2;simp at c2
 refine wpAny_setField_rec z2 (by simp) fun g3 _ b3=>?_;exact hE g3 e ((((Out.refl n s.heap).then (i:=5) (by decide) b1.extBut).then (i:=0) (by decide) b2).then (i:=5) (by decide) b3.extBut) ⟨oe,b3.extBut _ _ ne e2,c2⟩
theorem next3_item{n a b c:Addr}{k:Nat}{xs ys zs:Array Value}{x y v p q r:Value}{R:Option Value->Shared->Prop}(Z:Z3 s.heap n a b c xs ys zs k k k .none p q r)(ex:xs[k]?=some x)(ey:ys[k]?=some y)(ev:zs[k]?=some v)(hR:∀ g,Z3 g n a b c xs ys zs (k+1) (k+1) (k+1) (rawInt s.heap.objs.size) x y v->IsTri g s.heap.objs.size x y v->Out n s.heap g->R (some (.ref s.heap.objs.size)) {s with heap:=g}):wpAny (model prog w) A (pyNext (.ref (n+5))) R E s:=by
 have ty:s.TypeIs (.ref (n+5)) "zip":=⟨_,Z.z,rfl⟩;unfold pyNext;exact wpAny_bind (wpAny_attempt (wpAny_callSpecial?_slot (name:=Str.ofString "__next__") ty PySem.F.slot_zip_next (wpAny_call_entry PySem.F.slot_zip_next ty PySem.F.entry_zip_next (zip3_item Z ex ey ev fun g b1 b2 b3=>wpAny_pure (hR g b1 b2 b3)) (PySem.F.args_zip_next_1 _))))
theorem next3_end{n a b c:Addr}{k:Nat}{xs ys zs:Array Value}{p q r:Value}{R:Option Value->Shared->Prop}(hh:A.handled=none)(Z:Z3 s.heap n a b c xs ys zs k k k .none p q r)(ex:xs[k]?=none)(hR:∀ g,Out n s.heap g->R none {s with heap:=g}):wpAny (model prog w) A (pyNext (.ref (n+5))) R E s:=by
 have ty:s.TypeIs (.ref (n+5)) "zip":=⟨_,Z.z,rfl⟩;unfold pyNext;refine wpAny_bind (wpAny_attempt (wpAny_callSpecial?_slot (name:=Str.ofString "__next__") ty PySem.F.slot_zip_next (wpAny_call_entry PySem.F.slot_zip_next ty PySem.F.entry_zip_next (zip3_end hh Z ex fun g e kp he=>?_) (PySem.F.args_zip_next_1 _))));obtain⟨o,ho,hc⟩:=he;exact wpAny_bind (wpAny_isInstance (T:="StopIteration") (b:=true) ⟨o,ho,hc⟩ isSubtype_stop (wpAny_pure (hR _ kp)))
end
abbrev zh1(h:Heap)(a:Addr):Heap:=h.push {cls:=.type "list_iterator",data:=.fields #[.ref a,.int 0 0]}
abbrev zh2(h:Heap)(a b:Addr):Heap:=zh1 (zh1 h a) b
abbrev zh3(h:Heap)(a b c:Addr):Heap:=zh1 (zh2 h a b) c
abbrev zh4(h:Heap)(a b c:Addr):Heap:=(zh3 h a b c).push {cls:=.type "tuple",data:=.seq #[.ref h.objs.size,.ref (zh1 h a).objs.size,.ref (zh2 h a b).objs.size]}
abbrev zh5(h:Heap)(a b c:Addr):Heap:=(zh4 h a b c).push {cls:=.type "tuple",data:=.seq #[.none,.none,.none]}
abbrev zh6(h:Heap)(a b c:Addr):Heap:=(zh5 h a b c).push {cls:=.type "zip",data:=.fields #[.none,.bool false,.bool false,.ref (zh3 h a b c).objs.size,.ref (zh4 h a b c).objs.size]}
theorem zip3_new(a b c:Addr)(xs ys zs:Array Value):
  Meets (Builtin.«zip.__new__» ⟨[.type "zip",.ref a,.ref b,.ref c],[]⟩) (fun _ R s=>s.heap.IsList a xs/\s.heap.IsList b ys/\s.heap.IsList c zs/\R (.ok (.ret (.ref (zh5 s.heap a b c).objs.size))) {s with heap:=zh6 s.heap a b c}):=
 .of_wp fun prog w A R s h=>by
  obtain⟨hp,g,d,tk,os⟩:=s;obtain⟨ia,ib,ic,h⟩:=h;have sub:=sub_zip;have ia':Heap.IsList (Shared.heap ⟨hp,g,d,tk,os⟩) a xs:=ia;have ib':Heap.IsList (Shared.heap ⟨zh1 hp a,g,d,tk,os⟩) b ys:=Heap.IsList.push ib _;have ic':Heap.IsList (Shared.heap ⟨zh2 hp a b,g,d,tk,os⟩) c zs:=Heap.IsList.push (Heap.IsList.push ic _) _
  wp_walk using wpAny_pyIter_list ia',wpAny_pyIter_list ib',wpAny_pyIter_list ic'
  exact⟨_,rfl,h⟩
theorem tc_zip3(a b c:Value):checkTypeCall "zip" ⟨[a,b,c],[]⟩=pure ():=by kernel_rfl
theorem nc_zip3(a b c:Value):checkBuiltinCall "zip.__new__" ⟨[.type "zip",a,b,c],[]⟩=pure ():=by kernel_rfl
theorem ao_init4(a b c d:Value):PySem.argsOk "object.__init__" ⟨[a,b,c,d],[]⟩:=by unfold PySem.argsOk;rw[signature?_of (id:="object.__init__") (n:=['_','_','t','i','n','i','_','_']) (o:=['t','c','e','j','b','o']) (by kernel_rfl) PySem.F.owner_object];kernel_rfl
theorem call_zip3{prog:Program}{w:World}{A:Around}{E:Value->Shared->Prop}{s:Shared}{a b c:Addr}{xs ys zs:Array Value}{R:Value->Shared->Prop}(ia:s.heap.IsList a xs)(ib:s.heap.IsList b ys)(ic:s.heap.IsList c zs)(la:a<s.heap.objs.size)(lb:b<s.heap.objs.size)(lc:c<s.heap.objs.size)(h:∀ g,Z3 g s.heap.objs.size a b c xs ys zs 0 0 0 .none .none .none .none->(∀ c o,s.heap.get? c=some o->g.get? c=some o)->R (.ref (s.heap.objs.size+5)) {s with heap:=g}):
  wpAny (model prog w) A (call (.type "zip") [.ref a,.ref b,.ref c]) R E s:=by
 refine callType_new PySem.F.called_zip (by decide) (tc_zip3 _ _ _) (nc_zip3 _ _ _) (fun obj=>ao_init4 obj _ _ _) PySem.F.entry_zip_new (zip3_new a b c xs ys zs) ⟨ia,ib,ic,?_⟩;have n1:(zh1 s.heap a).objs.size=s.heap.objs.size+1:=Heap.size_push ..;have n2:(zh2 s.heap a b).objs.size=s.heap.objs.size+2:=by rw[Heap.size_push,n1]
 have n3:(zh3 s.heap a b c).objs.size=s.heap.objs.size+3:=by rw[Heap.size_push,n2]
 have n4:(zh4 s.heap a b c).objs.size=s.heap.objs.size+4:=by rw[Heap.size_push,n3]
 have n5:(zh5 s.heap a b c).objs.size=s.heap.objs.size+5:=by rw[Heap.size_push,n4]
 have u {h:Heap} {o:Obj} {d:Addr} {x:Obj} (q:h.get? d=some x):(h.push o).get? d=some x:=Heap.get?_push_of_some _ q;have g6:(zh6 s.heap a b c).get? (zh5 s.heap a b c).objs.size=some _:=Heap.get?_push_size _ rfl;have g5:(zh6 s.heap a b c).get? (zh4 s.heap a b c).objs.size=some _:=u (Heap.get?_push_size _ rfl);have g4:(zh6 s.heap a b c).get? (zh3 s.heap a b c).objs.size=some _:=u (u (Heap.get?_push_size _ rfl));have g3:(zh6 s.heap a b c).get? (zh2 s.heap a b).objs.size=some _:=u (u (u (Heap.get?_push_size _ rfl)));have g2:(zh6 s.heap a b c).get? (zh1 s.heap a).objs.size=some _:=u (u (u (u (Heap.get?_push_size _ rfl))));have g1:(zh6 s.heap a b c).get? s.heap.objs.size=some _:=u (u (u (u (u (Heap.get?_push_size _ rfl)))));rw[n3,n4,n5] at g6;rw[n4] at g5;rw[n1,n2,n3] at g4;rw[n2] at g3;rw[n1] at g2;have kp:∀ c' o,s.heap.get? c'=some o->(zh6 s.heap a b c).get? c'=some o:=fun c' o q=>u (u (u (u (u (u q)))));show _/\_;rw[n5];exact⟨⟨_,g6,rfl⟩,h _ ⟨g6,g4,g5,⟨_,g1,rfl,rfl⟩,⟨_,g2,rfl,rfl⟩,⟨_,g3,rfl,rfl⟩,ia.at fun o q=>kp _ o q,ib.at fun o q=>kp _ o q,ic.at fun o q=>kp _ o q,la,lb,lc⟩ kp⟩
section
open PySem.AutoSeq1 (wpAny_loadPart')
theorem enum1_new(l:Addr)(t:Tok)(items:Array Value)(n:Nat)(dct:Option Addr)(sl:Array (Option Value)):
  Meets (Builtin.«enumerate.__new__» ⟨[.type "enumerate",.ref l],[(("start":Str),.int 1 t)]⟩) (fun _ R s=>s.heap.get? l=some {cls:=.type "list",dict:=dct,data:=.seq items n,slots:=sl}/\
   R (.ok (.ret (.ref (s.heap.push {cls:=.type "list_iterator",data:=.fields #[.ref l,.int 0 0]}).objs.size)))
    {s with heap:=(s.heap.push {cls:=.type "list_iterator",data:=.fields #[.ref l,.int 0 0]}).push {cls:=.type "enumerate",data:=.fields #[.none,.bool false,.ref s.heap.objs.size,rawInt 1,.none,.none]}}):=
 .of_wp fun prog w A R s h=>by
  obtain⟨hp,g,d,tk,os⟩:=s;obtain⟨hl,h⟩:=h;have sub:=sub_enumerate;have hL:Heap.IsList (Shared.heap ⟨hp,g,d,tk,os⟩) l items:=⟨_,hl,rfl,n,rfl⟩
  wp_walk using wpAny_loadPart' hl
  refine wpAny_stack_any fun st=>wpAny_pure ?_;split
  ·rename_i c _ _ _ _ _;cases (c==Value.type "enumerate")
   ·wp_walk using wpAny_loadPart' hl,wpAny_pyIter_list hL
    exact⟨_,rfl,h⟩
   ·wp_walk using wpAny_loadPart' hl,wpAny_pyIter_list hL
    exact⟨_,rfl,h⟩
  ·wp_walk using wpAny_loadPart' hl,wpAny_pyIter_list hL
   exact⟨_,rfl,h⟩
theorem tc_enum(a b:Value):checkTypeCall "enumerate" ⟨[a],[(("start":Str),b)]⟩=pure ():=by kernel_rfl
theorem nc_enum(a b:Value):checkBuiltinCall "enumerate.__new__" ⟨[.type "enumerate",a],[(("start":Str),b)]⟩=pure ():=by kernel_rfl
theorem ao_enum(a b c:Value):PySem.argsOk "object.__init__" ⟨[a,b],[(("start":Str),c)]⟩:=by unfold PySem.argsOk;rw[signature?_of (id:="object.__init__") (n:=['_','_','t','i','n','i','_','_']) (o:=['t','c','e','j','b','o']) (by kernel_rfl) PySem.F.owner_object];kernel_rfl
section
variable{prog:Program}{w:World}{A:Around}{E:Value->Shared->Prop}{s:Shared}
theorem obj_init_kw{T newId:String}{self:Value}{rest:List Value}{kw:List (Str×Value)}(lk:typeLookup (.type T) "__init__"=pure (some (.builtin "object.__init__")))(md:Bind.madeBy (.type T)=pure (some newId))(ne:(some newId != some "object.__new__")=true):
  Meets (Builtin.«object.__init__» ⟨self::rest,kw⟩) (fun _ R s=>s.TypeIs self T/\R (.ok (.ret .none)) s):=by
 refine Meets.of_wp fun prog w A R s hs=>?_;obtain⟨ty,hq⟩:=hs;cases rest with
 | nil=>
  cases kw with
  | nil=>exact wpAny_pure ⟨_,rfl,hq⟩
  | cons p r=>
   repeat (any_goals (first | assumption | wp_step))
   exact⟨_,rfl,hq⟩
 | cons a rest=>
  repeat (any_goals (first | assumption | wp_step))
  exact⟨_,rfl,hq⟩
theorem callType_kw{T newId:String}{Bn:Builtin}{args:List Value}{kw:List (Str×Value)}{S:PySem.Spec}{R:Value->Shared->Prop}(ft:TypeCalled T newId "object.__init__")(ne:(some newId != some "object.__new__")=true)(ct:checkTypeCall T ⟨args,kw⟩=pure ())(cn:checkBuiltinCall newId ⟨.type T::args,kw⟩=pure ())(ok:∀ obj,PySem.argsOk "object.__init__" ⟨obj::args,kw⟩)(en:entryFor table newId=some Bn)(g:Meets (Bn ⟨.type T::args,kw⟩) S)(h:S A.in1 (wants (fun obj s1=>s1.TypeIs obj T/\R obj s1) E) s):wpAny (model prog w) A (call (.type T) args kw) R E s:=by
 obtain⟨c,tl,mro⟩:=ft.mro;have made:=ft.made;have sub:=ft.sub;refine wpAny_call (codeAny_of_tree (show wpAny _ _ (callAny (.type T) _) _ _ _ from wpAny_pure ⟨Code.quiet_builtin _ (by decide +kernel),codeAny_builtin PySem.F.entry_type_call ?_⟩));rw[Around.under_plain (weight_type_call_type T args kw) (units_type_call_type T args kw)];have f1:=ft.notType;have f2:=ft.canCreate
 repeat (any_goals (first | assumption | wp_step))
 refine codeAny_mono (codeAny_call_builtin ft.plain en (wpAny_of_eq cn (g prog w A.in1 _ s h))) fun r s1 hr=>?_;cases r with
 | error e=>exact hr
 | ok fl=>
  cases fl with
  | ret obj=>
   obtain⟨ty,hq⟩:=hr;have li:=ft.init.lookup;have bi:=ft.init.bind obj
   repeat (any_goals (first | assumption | wp_step))
   refine codeAny_mono (codeAny_call_builtin ft.init.plain PySem.F.entry_object_init (ft.init.check _ _ _ _ _ _ _ _ ty (ok obj) (obj_init_kw ft.init.lookup ft.made ne prog w A.in1 (wants (fun r s2=>r=.none/\R obj s2) E) s1 ⟨ty,rfl,hq⟩))) fun r2 s2 hr2=>?_;cases r2 with
   | error e=>exact hr2
   | ok fl2=>
    cases fl2 with
    | ret r=>
     obtain⟨rfl,hq2⟩:=hr2
     repeat (any_goals (first | assumption | wp_step))
    | _=>exact hr2.elim
  | _=>exact hr.elim
theorem call_enum1{l:Addr}{t:Tok}{items:Array Value}{R:Value->Shared->Prop}(il:s.heap.IsList l items)(h:∀ g,IsEnum g (s.heap.objs.size+1) s.heap.objs.size 1 .none->g.IsListIter s.heap.objs.size l 0->(∀ b o,s.heap.get? b=some o->g.get? b=some o)->R (.ref (s.heap.objs.size+1)) {s with heap:=g}):
  wpAny (model prog w) A (call (.type "enumerate") [.ref l] [(("start":Str),.int 1 t)]) R E s:=by
 obtain⟨⟨c,dct,dt,sl⟩,hl,hc,n,hd⟩:=il;replace hc:c=.type "list":=hc;replace hd:dt=.seq items n:=hd;subst hc hd;refine callType_kw PySem.F.called_enumerate (by decide) (tc_enum _ _) (nc_enum _ _) (fun obj=>ao_enum obj _ _) PySem.F.entry_enumerate_new (enum1_new l t items n dct sl) ⟨hl,show _/\_ from ?_⟩;have z1:(s.heap.push {cls:=.type "list_iterator",data:=.fields #[.ref l,.int 0 0]}).objs.size=s.heap.objs.size+1:=Heap.size_push ..;rw[z1];have ie:IsEnum ((s.heap.push {cls:=.type "list_iterator",data:=.fields #[.ref l,.int 0 0]}).push {cls:=.type "enumerate",data:=.fields #[.none,.bool false,.ref s.heap.objs.size,rawInt 1,.none,.none]}) (s.heap.objs.size+1) s.heap.objs.size 1 .none:=by
  have:=Heap.get?_push_size (s.heap.push {cls:=.type "list_iterator",data:=.fields #[.ref l,.int 0 0]}) (o:={cls:=.type "enumerate",data:=.fields #[.none,.bool false,.ref s.heap.objs.size,rawInt 1,.none,.none]}) rfl;rw[z1] at this;exact this
 exact⟨⟨_,ie,rfl⟩,h _ ie ⟨_,Heap.get?_push_of_some _ (Heap.get?_push_size _ rfl),rfl,rfl⟩ fun b o x=>Heap.get?_push_of_some _ (Heap.get?_push_of_some _ x)⟩
end
end
def rMaxL:List V->Hp->VK->Prop:=fun xs H Q=>∃ a b ns ms,xs=[V.ref a,V.ref b]/\IntsAt H a ns/\IntsAt H b ms/\Q (.ref (if SN.lexLt ns ms=true then b else a)) H
theorem call_maxL{X:Cx}(hc:X.calm=true)(hu:X.A.units+1<cLine):CallR X (.builtin "max") rMaxL:=by
 intro pins s σ H xs us Q I r h;obtain⟨a,b,ns,ms,rfl,ha,hb,q⟩:=h;obtain⟨u,w',rfl,ru,rw'⟩:=vals2 r;cases ru;cases rw';obtain⟨_,its,n,r1,e1⟩:=I.hok a _ ha;obtain⟨_,its2,n2,r2,e2⟩:=I.hok b _ hb;refine max_refs (g:=SN.lexLt ns ms) (I.ok.hd hc) (fun s1 Q1 E1 k hq=>gt_listInts (k _ _ e2) (k _ _ e1) (intsAre_of r2) (intsAre_of r1) hu hq) fun h' tk k=>⟨.ref (if SN.lexLt ns ms=true then b else a),H,I.kept k,?_,q⟩;cases SN.lexLt ns ms<;>rfl
def Itz3(K:PySem.W.Frag)(a b c:Addr):It:=
 ⟨fun i H=>∃ (xs ys zs:List V) (x y z:V),SqL K H a xs/\SqL K H b ys/\SqL K H c zs/\xs[i]?=some x/\ys[i]?=some y/\zs[i]?=some z,
  fun i H v H'=>∃ T x y z,v=.ref T/\H T=none/\H'=upd H T (.tup [x,y,z])/\(∀ xs,SqL K H a xs->xs[i]?=some x)/\(∀ ys,SqL K H b ys->ys[i]?=some y)/\∀ zs,SqL K H c zs->zs[i]?=some z,
  fun i H=>∃ xs ys zs:List V,SqL K H a xs/\SqL K H b ys/\SqL K H c zs/\xs.length<=i⟩
structure Z3s(n a b c:Addr)(i:Nat)(h:Heap):Prop where
 z:IsZip h (n+5) (n+3) (n+4) .none
 ti:IsTri h (n+3) (.ref n) (.ref (n+1)) (.ref (n+2))
 to:∃ p q r,IsTri h (n+4) p q r
 i1:h.IsListIter n a i
 i2:h.IsListIter (n+1) b i
 i3:h.IsListIter (n+2) c i
theorem six{d n:Nat}(h:d∉[n+5,n+3,n+4,n,n+1,n+2]):∀ i,i<6->d≠n+i:=fun i hi e=>h (by
 have:i=0\/i=1\/i=2\/i=3\/i=4\/i=5:=by omega
 rcases this with q | q | q | q | q | q<;>subst q<;>subst e<;>simp)
theorem six'{d n:Nat}(h:d∈[n+5,n+3,n+4,n,n+1,n+2]):∃ i,i<6/\d=n+i:=by
 have e:d=n+5\/d=n+3\/d=n+4\/d=n\/d=n+1\/d=n+2:=by simpa using h
 rcases e with q | q | q | q | q | q
 ·exact⟨5,by decide,q⟩
 ·exact⟨3,by decide,q⟩
 ·exact⟨4,by decide,q⟩
 ·exact⟨0,by decide,q⟩
 ·exact⟨1,by decide,q⟩
 ·exact⟨2,by decide,q⟩
theorem Z3s.lt{n a b c:Addr}{i:Nat}{h:Heap}(Z:Z3s n a b c i h){d:Addr}(m:d∈[n+5,n+3,n+4,n,n+1,n+2]):d<h.objs.size:=by
 obtain⟨j,hj,e⟩:=six' m;have:=Heap.lt_size Z.z;rw[e];exact Nat.lt_of_le_of_lt (Nat.add_le_add_left (Nat.le_of_lt_succ hj) n) this
theorem turn_zip3{P:Program}{w:World}{K:PySem.W.Frag}{elts:List Expr}{kk:Nat}{tpos:Pos}{n a b c:Addr}(na:a<n)(nb:b<n)(nc:c<n):
  Turn P w K (.Tuple elts kk tpos) (Itz3 K a b c) [n+5,n+3,n+4,n,n+1,n+2] (n+5) (Z3s n a b c) where
 mem:=by simp
 obj:=fun i h st d hd=>by
  obtain⟨hz,hTI,⟨x,y,v,hTO⟩,⟨o1,e1,_,d1⟩,⟨o2,e2,_,d2⟩,⟨o3,e3,_,d3⟩⟩:=st;have e':d=n+5\/d=n+3\/d=n+4\/d=n\/d=n+1\/d=n+2:=by simpa using hd
  rcases e' with q | q | q | q | q | q
  ·rw[q];exact⟨_,hz,fun v q=>nomatch q⟩
  ·rw[q];exact⟨_,hTI,fun v q=>nomatch q⟩
  ·rw[q];exact⟨_,hTO,fun v q=>nomatch q⟩
  ·rw[q];exact⟨o1,e1,fun v q=>by rw[d1] at q;cases q⟩
  ·rw[q];exact⟨o2,e2,fun v q=>by rw[d2] at q;cases q⟩
  ·rw[q];exact⟨o3,e3,fun v q=>by rw[d3] at q;cases q⟩
 keep:=fun i h h' st k=>by
  obtain⟨hz,hTI,⟨x,y,v,hTO⟩,h1,h2,h3⟩:=st;exact⟨k (n+5) (by simp) _ hz,k (n+3) (by simp) _ hTI,⟨x,y,v,k (n+4) (by simp) _ hTO⟩,h1.at fun o q=>k n (by simp) o q,h2.at fun o q=>k (n+1) (by simp) o q,h3.at fun o q=>k (n+2) (by simp) o q⟩
 item:=by
  intro X hP hw hK hc i pins s σ H E I hf st hg;subst hP hw hK;have st0:=st;obtain⟨hz,hTI,⟨x0,y0,z0,hTO⟩,h1,h2,h3⟩:=st;obtain⟨xs,ys,zs,x,y,z,hqx,hqy,hqz,hx,hy,hzz⟩:=hg;obtain⟨its,rv,p,_⟩:=I.list hqx;obtain⟨its2,rv2,p2,_⟩:=I.list hqy;obtain⟨its3,rv3,p3,_⟩:=I.list hqz;obtain⟨u,hu,ru⟩:=rv.get hx;obtain⟨u2,hu2,ru2⟩:=rv2.get hy;obtain⟨u3,hu3,ru3⟩:=rv3.get hzz;have hzl:n+5<s.heap.objs.size:=Heap.lt_size hz;refine next3_item (x:=u) (y:=u2) (v:=u3) ⟨hz,hTI,hTO,h1,h2,h3,p.isList,p2.isList,p3.isList,na,nb,nc⟩ (by simpa using hu) (by simpa using hu2) (by simpa using hu3) fun h' Z hT hk=>?_;refine⟨_,rfl,wpAny_letOwnedTupleGo_zip (s:={s with heap:=h'}) Z.z fun h'' z'' sb=>?_⟩;have hT2:h''.get? s.heap.objs.size=some {cls:=.type "tuple",data:=.seq #[u,u2,u3]}:=(sb.2 _ (Nat.ne_of_gt hzl)).trans hT;have new:ObjOk X.prog X.w (upd H s.heap.objs.size (.tup [x,y,z])) h'' s.heap.objs.size (.tup [x,y,z]):=
   ⟨by show 3<=sizeLine;decide,[u,u2,u3],.cons ru (.cons ru2 (.cons ru3 .nil)),⟨_,hT2,rfl,_,rfl⟩⟩
  have Z2:=Z.setZ z'' sb.extBut;have I1:Inv X pins σ (upd H s.heap.objs.size (.tup [x,y,z])) {s with heap:=h''}:=
   I.turnedNew (t':=s.toks) (ch:=[n+5,n+3,n+4,n,n+1,n+2]) (fun d o hb q=>(sb.2 d (fun q'=>hb (by simp[q']))).trans (hk d o (six hb) q)) hf (Nat.le_refl _) new
  refine⟨.ref s.heap.objs.size,_,I1,rfl,⟨_,x,y,z,rfl,I.hok.fresh (Nat.le_refl _),rfl,fun l hl=>by rw[I.list_inj hl hqx];exact hx,fun l hl=>by rw[I.list_inj hl hqy];exact hy,fun l hl=>by rw[I.list_inj hl hqz];exact hzz⟩,⟨z'',Z2.ti,⟨_,_,_,Z2.to⟩,Z2.i1,Z2.i2,Z2.i3⟩,fun d hd=>?_⟩;rw[upd_ne (Nat.ne_of_lt (st0.lt hd))];exact(hf d hd).1
 done:=by
  intro X hP hw hK hc i pins s σ H E I hf st hg;subst hP hw hK;obtain⟨hz,hTI,⟨x0,y0,z0,hTO⟩,h1,h2,h3⟩:=st;obtain⟨xs,ys,zs,hqx,hqy,hqz,hend⟩:=hg;obtain⟨its,rv,p,_⟩:=I.list hqx;obtain⟨its2,rv2,p2,_⟩:=I.list hqy;obtain⟨its3,rv3,p3,_⟩:=I.list hqz;have l1:=rv.length;exact next3_end (I.ok.hd hc) ⟨hz,hTI,hTO,h1,h2,h3,p.isList,p2.isList,p3.isList,na,nb,nc⟩ (by simp;omega) fun h' hk=>⟨rfl,I.turnedL (t':=s.toks) (ch:=[n+5,n+3,n+4,n,n+1,n+2]) (fun d o hb q=>hk d o (six hb) q) hf⟩
 self:=fun A i s Q E st h=>wpAny_pyIter_zip st.z h
def iZip3(K:PySem.W.Frag)(ta:TA):TI:=fun σ H R=>ta σ H fun vs H1=>∃ a b c xs ys zs,vs=[.ref a,.ref b,.ref c]/\SqL K H1 a xs/\SqL K H1 b ys/\SqL K H1 c zs/\R (Itz3 K a b c) H1
theorem pi_zip3{X:Cx}{e e2 e3:Expr}{ta:TA}{p pos tpos:Pos}{elts:List Expr}{kk:Nat}(hg:Gl X "zip")(hm:X.mg "zip"=none)(ha:PA X [e,e2,e3] ta)(hs:starEach [e,e2,e3] X.env=(false,eval e X.env)::starEach [e2,e3] X.env:=by rfl)(hpl:(backTo pos (starEach [e2,e3] X.env)).any (·.1)=false:=by rfl):
  PI X (.Tuple elts kk tpos) (.Call (.Name "zip" p) [e,e2,e3] [] pos) (iZip3 X.K ta):=by
 intro pins s σ H R I h;refine Call_ (ld_blt I hg hm boot_zip5 (PyProof.Rows.callWith_type1 (thn (ha pos pins s σ H _ I h) fun us s1 ⟨vs,H1,I1,r1,q1⟩=>?_) hs hpl));obtain⟨a,b,c,xs,ys,zs,ex,hqx,hqy,hqz,q⟩:=q1;subst ex;cases r1 with
 | cons r rr=>
  cases rr with
  | cons r' rr=>
   cases rr with
   | cons r'' rr=>
    cases rr;cases r;cases r';cases r'';obtain⟨its,rv,p1,_⟩:=I1.list hqx;obtain⟨its2,rv2,p2,_⟩:=I1.list hqy;obtain⟨its3,rv3,p3,_⟩:=I1.list hqz;refine call_zip3 p1.isList p2.isList p3.isList p1.lt p2.lt p3.lt fun h' Z hk=>wpAny_pyIter_zip Z.z ?_;have I2:Inv X pins σ H1 {s1 with heap:=h'}:=I1.kept (t':=s1.toks) hk;refine⟨s1.heap.objs.size+5,[s1.heap.objs.size+5,s1.heap.objs.size+3,s1.heap.objs.size+4,s1.heap.objs.size,s1.heap.objs.size+1,s1.heap.objs.size+2],_,_,H1,rfl,I2,turn_zip3 p1.lt p2.lt p3.lt,⟨Z.z,Z.ti,⟨_,_,_,Z.to⟩,Z.i1,Z.i2,Z.i3⟩,fun d hd=>?_,q⟩;obtain⟨j,hj,e⟩:=six' hd;have hle:s1.heap.objs.size<=d:=by rw[e];exact Nat.le_add_right _ _
    exact I1.fpOk hle (I1.hok.fresh hle)
section
variable{K:PySem.W.Frag}{H1:Hp}
theorem itz3_go{a b c:Addr}{xs ys zs:List V}(h:SqL K H1 a xs)(h2:SqL K H1 b ys)(h3:SqL K H1 c zs)(l2:xs.length=ys.length)(l3:xs.length=zs.length):∀ i H',i<xs.length->Same H1 H'->(Itz3 K a b c).go i H':=
 fun i H' hi s=>⟨xs,ys,zs,_,_,_,s.seq h,s.seq h2,s.seq h3,gEe hi,gEe (by omega),gEe (by omega)⟩
theorem itz3_yld{a b c:Addr}{xs ys zs:List V}(h:SqL K H1 a xs)(h2:SqL K H1 b ys)(h3:SqL K H1 c zs):∀ i x H' H2,i<xs.length->Same H1 H'->(Itz3 K a b c).yld i H' x H2->
  Same H' H2/\∃ T u v t,x=V.ref T/\H2 T=some (.tup [u,v,t])/\xs[i]?=some u/\ys[i]?=some v/\zs[i]?=some t:=by
 rintro i x H' H2 hi s ⟨T,u,v,t,rfl,hT,rfl,y1,y2,y3⟩;exact⟨Same.new hT,T,u,v,t,rfl,upd_same,y1 xs (s.seq h),y2 ys (s.seq h2),y3 zs (s.seq h3)⟩
end
section
variable{prog:Program}{w:World}{A:Around}{E:Value->Shared->Prop}{s:Shared}
theorem enumN_item{e it l:Addr}{i:Nat}{j:Int}{items:Array Value}{x old:Value}{Q:Value->Shared->Prop}(he:IsEnum s.heap e it j old)(hit:s.heap.IsListIter it l i)(hl:s.heap.IsList l items)(hx:items[i]?=some x)(hne:e≠it)(hQ:∀ h',IsEnumOut h' e it (j+1) x s.heap.objs.size->h'.IsListIter it l (i+1)->h'.get? s.heap.objs.size=some {cls:=.type "tuple",data:=.seq #[.int j s.toks,x]}->
   (∀ b o,b≠e->b≠it->s.heap.get? b=some o->h'.get? b=some o)->Q (.ref s.heap.objs.size) {s with heap:=h',toks:=s.toks+1}):
  wpAny (model prog w) A (Builtin.«enumerate.__next__» ⟨[.ref e],[]⟩) (fun fin s'=>∃ v,fin=.done (.ret v)/\Q v s') E s:=by
 obtain⟨m0,g,d,tk,os⟩:=s;show wpAny _ _ (field (.ref e) 2>>=_) _ _ ⟨m0,g,d,tk,os⟩;refine wpAny_bind (wpAny_field he rfl (x:=.ref it) rfl (wpAny_bind (wpAny_nextOf_list_item hit hl hx fun m1 i1 s1=>?_)));replace s1:Heap.SameBut it m0 m1:=s1;have e1:IsEnum m1 e it j old:=(s1.2 e hne).trans he;show wpAny _ _ (field (.ref e) 3>>=_) _ _ ⟨m1,g,d,tk,os⟩;refine wpAny_bind (wpAny_field e1 rfl (x:=rawInt j) rfl ?_);show wpAny _ _ (field (.ref e) 4>>=_) _ _ ⟨m1,g,d,tk,os⟩;refine wpAny_bind (wpAny_field e1 rfl (x:=.none) rfl ?_);show wpAny _ _ (mkInt j>>=_) _ _ ⟨m1,g,d,tk,os⟩;refine wpAny_bind (wpAny_mkInt ?_);show wpAny _ _ (setField (.ref e) 3 (rawInt (j+1))>>=_) _ _ ⟨m1,g,d,tk+1,os⟩;refine wpAny_bind (wpAny_setField_rec e1 (by simp) fun m2 e2 s2=>?_);replace s2:Heap.SameBut e m1 m2:=s2;replace e2:IsEnum m2 e it (j+1) old:=e2;show wpAny _ _ (setField (.ref e) 4 .none>>=_) _ _ ⟨m2,g,d,tk+1,os⟩;refine wpAny_bind (wpAny_setField_rec e2 (by simp) fun m3 e3 s3=>?_);replace s3:Heap.SameBut e m2 m3:=s3;replace e3:IsEnum m3 e it (j+1) old:=e3;show wpAny _ _ (newTuple [.int j tk,x]>>=_) _ _ ⟨m3,g,d,tk+1,os⟩;refine wpAny_bind (wpAny_newTuple ?_);have e4:IsEnum (m3.push {cls:=.type "tuple",data:=.seq #[.int j tk,x]}) e it (j+1) old:=Heap.get?_push_of_some _ e3;generalize hm:m3.push {cls:=.type "tuple",data:=.seq #[.int j tk,x]}=m4 at e4;have hz:m3.objs.size=m0.objs.size:=by rw[s3.1,s2.1,s1.1]
 have hel:e<m0.objs.size:=Heap.lt_size he;have t4:m4.get? m0.objs.size=some {cls:=.type "tuple",data:=.seq #[.int j tk,x]}:=by rw[<-hm,<-hz];exact Heap.get?_push_size _ rfl
 have k4:∀ b o,b≠e->b≠it->m0.get? b=some o->m4.get? b=some o:=fun b o p q r=>by
  rw[<-hm];exact Heap.get?_push_of_some _ (s3.extBut b o p (s2.extBut b o p (s1.extBut b o q r)))
 have i4:m4.IsListIter it l (i+1):=by
  obtain⟨o,ho,r⟩:=(i1.extBut s2.extBut (Ne.symm hne)).extBut s3.extBut (Ne.symm hne);rw[<-hm];exact⟨o,Heap.get?_push_of_some _ ho,r⟩
 show wpAny _ _ (Builtin.SmallTypes.ownedTupleIsFree (.ref e)>>=_) _ _ ⟨m4,g,d,tk+1,os⟩;rw[hz];clear hm e3 s3 e2 s2 e1 s1 i1 hz m3 m2 m1;refine wpAny_bind ?_;unfold Builtin.SmallTypes.ownedTupleIsFree;refine wpAny_bind (wpAny_field e4 rfl (x:=.none) rfl (wpAny_pure ?_));simp only[if_true];refine wpAny_bind (wpAny_rule (wpAny_bind (wpAny_field e4 rfl (x:=old) rfl (wpAny_bind (wpAny_setField_rec e4 (by simp) fun m5 e5 s5=>?_)))));replace s5:Heap.SameBut e m4 m5:=s5;replace e5:IsEnum m5 e it (j+1) x:=e5;show wpAny _ _ (Builtin.SmallTypes.ownedTupleHandOut (.ref e) (.ref m0.objs.size)>>=_) _ _ ⟨m5,g,d,tk+1,os⟩;refine wpAny_bind ?_;unfold Builtin.SmallTypes.ownedTupleHandOut;refine wpAny_bind (wpAny_setField_rec e5 (by simp) fun m6 e6 s6=>?_);replace s6:Heap.SameBut e m5 m6:=s6;replace e6:IsEnumOut m6 e it (j+1) x m0.objs.size:=e6;refine wpAny_setField_rec e6 (by simp) fun m7 e7 s7=>?_;replace s7:Heap.SameBut e m6 m7:=s7;replace e7:IsEnumOut m7 e it (j+1) x m0.objs.size:=e7;refine wpAny_bind (wpAny_letGo (wpAny_pure ⟨_,rfl,hQ m7 e7 ?_ ?_ ?_⟩))
 ·exact((i4.extBut s5.extBut (Ne.symm hne)).extBut s6.extBut (Ne.symm hne)).extBut s7.extBut (Ne.symm hne)
 ·exact s7.extBut _ _ (Nat.ne_of_gt hel) (s6.extBut _ _ (Nat.ne_of_gt hel) (s5.extBut _ _ (Nat.ne_of_gt hel) t4))
 ·exact fun b o p q r=>s7.extBut b o p (s6.extBut b o p (s5.extBut b o p (k4 b o p q r)))
theorem nextN_item{e it l:Addr}{i:Nat}{j:Int}{items:Array Value}{x old:Value}{Q:Option Value->Shared->Prop}(he:IsEnum s.heap e it j old)(hit:s.heap.IsListIter it l i)(hl:s.heap.IsList l items)(hx:items[i]?=some x)(hne:e≠it)(hQ:∀ h',IsEnumOut h' e it (j+1) x s.heap.objs.size->h'.IsListIter it l (i+1)->h'.get? s.heap.objs.size=some {cls:=.type "tuple",data:=.seq #[.int j s.toks,x]}->
   (∀ b o,b≠e->b≠it->s.heap.get? b=some o->h'.get? b=some o)->Q (some (.ref s.heap.objs.size)) {s with heap:=h',toks:=s.toks+1}):
  wpAny (model prog w) A (pyNext (.ref e)) Q E s:=by
 have ty:s.TypeIs (.ref e) "enumerate":=⟨_,he,rfl⟩;unfold pyNext;exact wpAny_bind (wpAny_attempt (wpAny_callSpecial?_slot (name:=Str.ofString "__next__") ty F.slot_enumerate_next (wpAny_call_entry F.slot_enumerate_next ty F.entry_enumerate_next
  (enumN_item he hit hl hx hne fun h' a b c k=>wpAny_pure (hQ h' a b c k)) (F.args_enumerate_next_1 _))))
theorem nextN_end{e it l:Addr}{i:Nat}{j:Int}{items:Array Value}{old:Value}{Q:Option Value->Shared->Prop}(hh:A.handled=none)(he:IsEnum s.heap e it j old)(hit:s.heap.IsListIter it l i)(hl:s.heap.IsList l items)(hx:items[i]?=none)(hQ:∀ h',Heap.ExtBut it s.heap h'->Q none {s with heap:=h'}):wpAny (model prog w) A (pyNext (.ref e)) Q E s:=by
 have ty:s.TypeIs (.ref e) "enumerate":=⟨_,he,rfl⟩;unfold pyNext;refine wpAny_bind (wpAny_attempt (wpAny_callSpecial?_slot (name:=Str.ofString "__next__") ty F.slot_enumerate_next (wpAny_call_entry F.slot_enumerate_next ty F.entry_enumerate_next ?_ (F.args_enumerate_next_1 _))));show wpAny _ _ (field (.ref e) 2>>=_) _ _ _;refine wpAny_bind (wpAny_field he rfl (x:=.ref it) rfl (wpAny_bind (wpAny_nextOf_list_end hh hit hl hx fun h' y q ⟨o,ho,hc⟩=>?_)));exact wpAny_bind (wpAny_isInstance (T:="StopIteration") (b:=true) ⟨o,ho,hc⟩ isSubtype_stop (wpAny_pure (hQ _ q)))
end
def Ite1(K:PySem.W.Frag)(a:Addr):It:=
 ⟨fun i H=>∃ (xs:List V) (x:V),SqL K H a xs/\xs[i]?=some x,fun i H v H'=>∃ T x,v=.ref T/\H T=none/\H'=upd H T (.tup [.int ((i:Nat)+1),x])/\∀ xs,SqL K H a xs->xs[i]?=some x,fun i H=>∃ xs:List V,SqL K H a xs/\xs.length<=i⟩
theorem turn_enum1{P:Program}{w:World}{K:PySem.W.Frag}{elts:List Expr}{kk:Nat}{tpos:Pos}(a e it:Addr):
  Turn P w K (.Tuple elts kk tpos) (Ite1 K a) [e,it] e (fun i h=>(∃ old,IsEnum h e it ((i:Nat)+1) old)/\h.IsListIter it a i/\e≠it) where
 mem:=by simp
 obj:=fun i h st b hb=>by
  obtain⟨⟨old,he⟩,⟨o,ho,hc,hd⟩,_⟩:=st;have e':b=e\/b=it:=by simpa using hb
  rcases e' with z | z
  ·rw[z];exact⟨_,he,fun v q=>nomatch q⟩
  ·rw[z];exact⟨o,ho,fun v q=>by rw[hd] at q;cases q⟩
 keep:=fun i h h' st k=>let ⟨⟨old,he⟩,hi,hne⟩:=st;⟨⟨old,k e (by simp) _ he⟩,hi.at fun o q=>k it (by simp) o q,hne⟩
 item:=by
  intro X hP hw hK hc i pins s σ H E I hf st hg;subst hP hw hK;obtain⟨⟨old,he⟩,hit,hne⟩:=st;obtain⟨xs,x,hq,hx⟩:=hg;obtain⟨its,rv,p,hz⟩:=I.list hq;obtain⟨u,hu,ru⟩:=rv.get hx;have hel:e<s.heap.objs.size:=Heap.lt_size he;have hil:it<s.heap.objs.size:=by obtain⟨_,q,_⟩:=hit;exact Heap.lt_size q
  refine nextN_item he hit p.isList (x:=u) (by simpa using hu) hne fun h' ho hit' hT hk=>?_;refine⟨_,rfl,wpAny_letOwnedTupleGo_enum (s:={s with heap:=h',toks:=s.toks+1}) ho fun h'' he' sb=>?_⟩;have hT2:h''.get? s.heap.objs.size=some {cls:=.type "tuple",data:=.seq #[.int ((i:Nat)+1) s.toks,u]}:=(sb.2 _ (Nat.ne_of_gt hel)).trans hT;have new:ObjOk X.prog X.w (upd H s.heap.objs.size (.tup [.int ((i:Nat)+1),x])) h'' s.heap.objs.size (.tup [.int ((i:Nat)+1),x]):=
   ⟨by show 2<=sizeLine;decide,[.int ((i:Nat)+1) s.toks,u],.cons ⟨_,rfl⟩ (.cons ru .nil),⟨_,hT2,rfl,_,rfl⟩⟩
  have I1:Inv X pins σ (upd H s.heap.objs.size (.tup [.int ((i:Nat)+1),x])) {s with heap:=h'',toks:=s.toks+1}:=
   I.turnedNew (ch:=[e,it]) (fun b ob hb q=>(sb.2 b (fun z=>hb (by simp[z]))).trans (hk b ob (fun z=>hb (by simp[z])) (fun z=>hb (by simp[z])) q)) hf (Nat.le_refl _) new
  refine⟨.ref s.heap.objs.size,_,I1,rfl,⟨_,x,rfl,I.hok.fresh (Nat.le_refl _),rfl,fun ys hy=>by rw[I.list_inj hy hq];exact hx⟩,⟨⟨u,?_⟩,hit'.at fun o q=>(sb.2 it (Ne.symm hne)).trans q,hne⟩,fun b hb=>?_⟩
  ·have e1:(((i+1:Nat):Nat):Int)+1=(i:Int)+1+1:=by omega
   rw[e1];exact he'
  ·have hb':b<s.heap.objs.size:=by
    have e':b=e\/b=it:=by simpa using hb
    rcases e' with z | z
    ·rw[z];exact hel
    ·rw[z];exact hil
   rw[upd_ne (Nat.ne_of_lt hb')];exact(hf b hb).1
 done:=by
  intro X hP hw hK hc i pins s σ H E I hf st hg;subst hP hw hK;obtain⟨⟨old,he⟩,hit,hne⟩:=st;obtain⟨xs,hq,hx⟩:=hg;obtain⟨its,rv,p,hz⟩:=I.list hq;obtain⟨f0,f1,f2,f3,f4,f5⟩:=hf it (by simp);have hl:=rv.length;exact nextN_end (I.ok.hd hc) he hit p.isList (by simp;omega) fun h' eb=>⟨rfl,I.turned (t':=s.toks) (fun b o hb q=>eb b o hb q) f0 f1 f3 f4 f5⟩
 self:=fun A i s Q E st h=>let ⟨⟨_,he⟩,_⟩:=st;wpAny_pyIter_enum he h
theorem keeps_ty{M:Model}(T:String)(h:Heap):∃ k,(k=Keeper.frame\/k=Keeper.machine\/k=Keeper.boundFrame)/\PySem.W.Looks M h (keeperOf (.type T)) k:=⟨.machine,.inr (.inl rfl),.now⟩
theorem pi_enum1{X:Cx}{e:Expr}{te:TE}{j:Nat}{p pos tpos kpos cpos:Pos}{elts:List Expr}{kk:Nat}(hg:Gl X "enumerate")(hm:X.mg "enumerate"=none)(ha:PE X e te)(hs:starEach [e] X.env=[(false,eval e X.env)]:=by rfl):
  PI X (.Tuple elts kk tpos) (.Call (.Name "enumerate" p) [e] [⟨some "start",.Constant (.int 1) j cpos,kpos⟩] pos) (fun σ H R=>te σ H fun v H1=>∃ a xs,v=.ref a/\SqL X.K H1 a xs/\R (Ite1 X.K a) H1):=by
 intro pins s σ H R I h;refine wpAny_Call_Name_kw (ld_blt I hg hm boot_enumerate (PySem.W.callWith_of (P:=fun _=>True) (by rw[hs];rfl) (fun h _=>keeps_ty _ h) (PyProof.Rows.evalArgs_kw2 (rest:=[]) rfl ?_ hs)));rw[hs];refine Calls.spliced_cons (thn (ha pins s σ H _ I h) fun u s1 ⟨x,H1,I1,r1,q1⟩=>Calls.spliced_nil ?_);obtain⟨a,xs,ex,hq,q⟩:=q1;subst ex;cases r1;obtain⟨its,rv,p',hz⟩:=I1.list hq;refine PyProof.Rows.kwAll_cons (wpAny_Constant_int (PyProof.Rows.kwAll_nil ⟨trivial,?_⟩));show wpAny _ _ (call (.type "enumerate") [.ref a] [(("start":Str),.int 1 s1.toks)]) _ _ {s1 with toks:=s1.toks+1};refine call_enum1 (s:={s1 with toks:=s1.toks+1}) p'.isList fun h' he hit hk=>wpAny_pyIter_enum he ?_;have I2:Inv X pins σ H1 {s1 with heap:=h',toks:=s1.toks+1}:=I1.kept (t':=s1.toks+1) hk;refine⟨s1.heap.objs.size+1,[s1.heap.objs.size+1,s1.heap.objs.size],_,_,H1,rfl,I2,turn_enum1 a (s1.heap.objs.size+1) s1.heap.objs.size,⟨⟨.none,he⟩,hit,Nat.succ_ne_self _⟩,fun b hb=>?_,q⟩;have e':b=s1.heap.objs.size+1\/b=s1.heap.objs.size:=by simpa using hb
 have hle:s1.heap.objs.size<=b:=by
  rcases e' with z | z
  ·rw[z];exact Nat.le_add_right _ _
  ·rw[z];exact Nat.le_refl _
 exact I1.fpOk hle (I1.hok.fresh hle)
end My
end
section
set_option maxRecDepth 100000
set_option maxHeartbeats 2000000
namespace My
open PySem PySem.Spec PyProof.Rows L2
open Vbahar (State)
open SN (jn capsI faresI demandsI waysI wayI)
theorem caps_len(s:State):(capsI s).length=s.caps.length:=by simp[SN.capsI]
theorem fares_len(s:State):(faresI s).length=s.journeys.length:=by simp[SN.faresI]
theorem dems_len(s:State):(demandsI s).length=s.journeys.length:=by simp[SN.demandsI]
theorem ways_len(s:State):(waysI s).length=s.journeys.length:=by simp[SN.waysI]
theorem dems_get{s:State}{j:Nat}(h:j<s.journeys.length):(demandsI s).getD j 0=((jn s j).demand:Int):=SN.getD_map_lt _ _ _ SN.jz _ h
theorem fares_get{s:State}{j:Nat}(h:j<s.journeys.length):(faresI s).getD j 0=((jn s j).fare:Int):=SN.getD_map_lt _ _ _ SN.jz _ h
theorem ways_get{s:State}{j:Nat}(h:j<s.journeys.length):(waysI s).getD j []=wayI (jn s j).legs:=SN.getD_map_lt _ _ _ SN.jz _ h
theorem way_in{s:State}(g:Good s){j:Nat}(h:j<s.journeys.length):∀ z,z∈wayI (jn s j).legs->1<=z/\z<=(s.caps.length:Int):=fun z hz=>by
 obtain⟨l,hl,rfl⟩:=List.mem_map.mp hz;have:=jn_legs_lt g h hl;omega
theorem way_len{s:State}(g:Good s){j:Nat}(h:j<s.journeys.length):(wayI (jn s j).legs).length<=5:=by
 have hw:=g.way _ (jn_mem h);have:=nodup_sub hw.2.1 (l2:=List.range s.caps.length) fun k hk=>List.mem_range.mpr (hw.1 k hk);have:=g.small.legs;simp only[SN.wayI,lmp];rw[List.length_range] at *;omega
theorem getV{α:Type}{f:α->V}{l:List α}{i:Nat}{v:V}(h:(l.map f)[i]?=some v)(d:α):v=f (l.getD i d)/\i<l.length:=by
 rw[List.getElem?_map] at h;cases e:l[i]? with
 | none=>rw[e] at h;cases h
 | some z=>rw[e] at h;exact⟨by rw[gDe,e];exact(Option.some.inj h).symm,(List.getElem?_eq_some_iff.mp e).1⟩
theorem zip_get{α β:Type}{f:Int->Int->β}{xs ys:List Int}{i:Nat}(d:β)(h1:i<xs.length)(h2:i<ys.length):(List.zipWith f xs ys).getD i d=f (xs.getD i 0) (ys.getD i 0):=by
 rw[gDe,gEe (by simp;omega),List.getElem_zipWith];simp[gDe,h1,h2]
section
variable{K:PySem.W.Frag}{H1:Hp}
theorem ite1_go{a:Addr}{xs:List V}(h:SqL K H1 a xs):∀ i H',i<xs.length->Same H1 H'->(Ite1 K a).go i H':=fun i H' hi s=>⟨xs,_,s.seq h,gEe hi⟩
theorem ite1_stop{a:Addr}{xs:List V}(h:SqL K H1 a xs):∀ H',Same H1 H'->(Ite1 K a).stop xs.length H':=fun H' s=>⟨xs,s.seq h,Nat.le_refl _⟩
theorem ite1_yld{a:Addr}{xs:List V}(h:SqL K H1 a xs):∀ i x H' H2,i<xs.length->Same H1 H'->(Ite1 K a).yld i H' x H2->
  Same H' H2/\∃ T u,x=V.ref T/\H2 T=some (.tup [.int ((i:Nat)+1),u])/\xs[i]?=some u:=by
 rintro i x H' H2 hi s ⟨T,u,rfl,hT,rfl,y1⟩;exact⟨Same.new hT,T,u,rfl,upd_same,y1 xs (s.seq h)⟩
end
section
variable{P:Program}{w:World}{K:PySem.W.Frag}{mg:Str->Option Value}{base:Heap}
abbrev sOneIf:Stmt:=defAt "one_if"
def spOneIf:Sp:=fun vs H Q _=>∃ b,vs=[.bl b]/\Q (.int (if b=true then 1 else 0)) H
theorem scOneIf:FnScope ["holds"] ["holds"] (defScope sOneIf):=⟨rfl,rfl,rfl,by decide +kernel,rfl,by decide +kernel,by decide +kernel⟩
theorem ok_one_if{f:Addr}{fd:FuncData}(F:Fun K "one_if" "one_if" sOneIf f fd):FnOk P w K mg base CX0 1 f fd ["holds"] spOneIf:=by
 refine F.ok scOneIf (fun vs H Q E h=>?_) (fun cdv A outer s H vs Q E hr h=>?_)
 ·obtain⟨b,rfl,_⟩:=h;rfl
 ·obtain⟨b,rfl,k⟩:=h;refine⟨_,pss_one (ps_ret (pe_ifExp (pt_val (pv 0)) pe_int pe_int)),?_⟩;refine⟨_,rfl,b,rfl,?_⟩;cases b
  ·exact iteF k
  ·exact iteT k
abbrev sSpare:Stmt:=defAt "spare_behind"
def spSpare:Sp:=fun vs H Q _=>∃ (a wy:Addr) (g:Int) (ns way:List Int),vs=[.ref a,.int g,.ref wy]/\IntsAt H a ns/\IntsAt H wy way/\ns.length<=1000/\
 ∀ (H':Hp) (p:Addr),Same H H'->H p=none->IntsAt H' p (spareB ns g way)->Q (.ref p) H'
theorem scSpare:FnScope ["spare","given","way","leg","left"] ["spare","given","way"] (defScope sSpare):=⟨rfl,rfl,rfl,by decide +kernel,rfl,by decide +kernel,by decide +kernel⟩
theorem ok_spare{f:Addr}{fd:FuncData}(F:Fun K "spare_behind" "spare_behind" sSpare f fd)(B:Blt mg):FnOk P w K mg base CX0 1 f fd ["spare","given","way"] spSpare:=by
 refine F.ok scSpare (fun vs H Q E h=>?_) (fun cdv A outer s H vs Q E hr h=>?_)
 ·obtain⟨a,wy,g,ns,way,rfl,_⟩:=h;rfl
 ·obtain⟨a,wy,g,ns,way,rfl,ha,hw,hz,k⟩:=h;refine⟨_,pss_one (ps_ret (pe_lc (g:=gTup K 2 (gCons (gName 3) (gCons (gName 4) gNil))) rfl scSpare.nd (pi_enum1 rfl B.enum (pv 0)) (blkOk_by (own:=[("leg",3),("left",4)]) (by rfl))
   (fun _ _ _ _ _=>pg_tup rfl (pgs_cons (pg_name (i:=3) scSpare.nd rfl (.inl rfl)) (pgs_cons (pg_name (i:=4) scSpare.nd rfl (.inl rfl)) pgs_nil)))
   (fun _ _ _ _ _=>pts_nil) (fun _ _ _ _ _=>pe_ifExp (pt_cmpR (r:=rIn K false) op_in_seq (pv 3) (pv 2) (by with_unfolding_all rfl)) (pe_op op_sub (pv 4) (pv 1)) (pv 4)))),?_⟩
  refine⟨_,rfl,a,_,rfl,SqL.of ha,fun D hD=>?_⟩;refine coll_vals (n:=(ns.map V.int).length) (fun i x H2=>∃ T u,x=V.ref T/\H2 T=some (.tup [.int ((i:Nat)+1),u])/\(ns.map V.int)[i]?=some u)
   ((spareB ns g way).map V.int) (ite1_go (SqL.of ha)) (ite1_stop (SqL.of ha)) (ite1_yld (SqL.of ha)) (by rw[lmp,lmp,spareB_len]) (by simpa using hz) hD ?_ (fun H' sm hq=>k H' D sm hD hq)
  rintro i x y H' R hi hy sm ⟨T,u,rfl,hT,hu⟩ hR;obtain⟨rfl,hi1⟩:=ints_get hu;obtain⟨rfl,hi2⟩:=ints_get hy;refine⟨T,_,rfl,SqT.of hT,rfl,_,_,rfl,_,_,rfl,rfl,rfl,?_⟩;refine⟨_,rfl,_,rfl,wy,_,rfl,.inl (SqL.of (sm _ _ hw)),rfl,flat_ints _,_,rfl,?_⟩;have e:(spareB ns g way).getD i 0=if way.contains ((i:Int)+1)=true then ns.getD i 0-g else ns.getD i 0:=by
   simp[spareB,gDe,hi1]
  rw[e] at hR;simp only[Bool.false_eq_true,if_false,inV_ints];by_cases c:way.contains ((i:Int)+1)=true
  ·rw[if_pos c] at hR ⊢;exact⟨_,rfl,_,rfl,_,_,rfl,rfl,hR H' (Same.refl _)⟩
  ·rw[if_neg c] at hR ⊢;exact⟨_,rfl,hR H' (Same.refl _)⟩
abbrev sEarn:Stmt:=defAt "sum_earned"
def spEarn:Sp:=fun vs H Q _=>∃ (a b:Addr) (xs fs:List Int),vs=[.ref a,.ref b]/\IntsAt H a xs/\IntsAt H b fs/\xs.length=fs.length/\xs.length<=1000/\(∀ z,z∈fs->Sm z)/\∀ (H':Hp),Same H H'->Q (.int (earnL xs fs)) H'
theorem scEarn:FnScope ["seats","fares","given","fare"] ["seats","fares"] (defScope sEarn):=⟨rfl,rfl,rfl,by decide +kernel,rfl,by decide +kernel,by decide +kernel⟩
theorem ok_earn{f:Addr}{fd:FuncData}(F:Fun K "sum_earned" "sum_earned" sEarn f fd)(B:Blt mg):FnOk P w K mg base CX0 1 f fd ["seats","fares"] spEarn:=by
 refine F.ok scEarn (fun vs H Q E h=>?_) (fun cdv A outer s H vs Q E hr h=>?_)
 ·obtain⟨a,b,xs,fs,rfl,_⟩:=h;rfl
 ·obtain⟨a,b,xs,fs,rfl,ha,hb,hl,hz,hs,k⟩:=h;refine⟨_,pss_one (ps_ret (pe_callB (cr_sum rfl) (by rfl) B.sum PyProof.Rows.boot_sum (pa_cons (pe_lc (g:=gTup K 2 (gCons (gName 2) (gCons (gName 3) gNil))) rfl scEarn.nd (pi_zip rfl B.zip (pa_cons (pv 0) (pa_cons (pv 1) pa_nil))) (blkOk_by (own:=[("given",2),("fare",3)]) (by rfl))
   (fun _ _ _ _ _=>pg_tup rfl (pgs_cons (pg_name (i:=2) scEarn.nd rfl (.inl rfl)) (pgs_cons (pg_name (i:=3) scEarn.nd rfl (.inl rfl)) pgs_nil)))
   (fun _ _ _ _ _=>pts_nil) (fun _ _ _ _ _=>pe_op op_mul (pv 2) (pv 3))) pa_nil))),?_⟩
  refine⟨_,rfl,_,rfl,a,b,_,_,rfl,SqL.of ha,SqL.of hb,fun D hD=>?_⟩;refine coll_vals (n:=(xs.map V.int).length) (fun i x H2=>∃ T u v,x=V.ref T/\H2 T=some (.tup [u,v])/\(xs.map V.int)[i]?=some u/\(fs.map V.int)[i]?=some v)
   ((List.zipWith (fun a b=>a*b) xs fs).map V.int) (itz_go (SqL.of ha) (SqL.of hb) (by simp[hl])) (itz_stop (SqL.of ha) (SqL.of hb)) (itz_yld (SqL.of ha) (SqL.of hb))
   (by simp[hl]) (by simpa using hz) hD ?_ (fun H' sm hq=>⟨D,_,rfl,SqL.of hq,k H' sm⟩)
  rintro i x y H' R hi hy sm ⟨T,u,v,rfl,hT,hu,hv⟩ hR;obtain⟨rfl,hi1⟩:=ints_get hu;obtain⟨rfl,hi2⟩:=ints_get hv;obtain⟨rfl,hi3⟩:=ints_get hy;refine⟨T,_,rfl,SqT.of hT,rfl,_,_,rfl,_,_,rfl,rfl,rfl,?_⟩;refine⟨_,rfl,_,rfl,_,_,rfl,rfl,.inr (hs _ (SN.getD_mem _ _ _ hi2)),?_⟩;rw[zip_get (α:=Int) 0 hi1 hi2] at hR;exact hR H' (Same.refl _)
abbrev sMost:Stmt:=defAt "most_seats"
def spMost:Sp:=fun vs H Q _=>∃ (d:Int) (wy sp:Addr) (way ns:List Int),vs=[.int d,.ref wy,.ref sp]/\IntsAt H wy way/\IntsAt H sp ns/\way.length<=100/\(∀ z,z∈way->1<=z/\z<=(ns.length:Int))/\
 ∀ (H':Hp),Same H H'->Q (.int (mostP d way ns)) H'
theorem scMost:FnScope ["demand","way","spare","leg"] ["demand","way","spare"] (defScope sMost):=⟨rfl,rfl,rfl,by decide +kernel,rfl,by decide +kernel,by decide +kernel⟩
theorem ok_most{f:Addr}{fd:FuncData}(F:Fun K "most_seats" "most_seats" sMost f fd)(B:Blt mg):FnOk P w K mg base CX0 1 f fd ["demand","way","spare"] spMost:=by
 refine F.ok scMost (fun vs H Q E h=>?_) (fun cdv A outer s H vs Q E hr h=>?_)
 ·obtain⟨d,wy,sp,way,ns,rfl,_⟩:=h;rfl
 ·obtain⟨d,wy,sp,way,ns,rfl,hw,hn,hz,hin,k⟩:=h;refine⟨_,pss_one (ps_ret (pe_callB (cr_min rfl) (by rfl) B.min PyProof.Rows.boot_min (pa_cons (pe_op op_cat (pe_lst (pa_cons (pv 0) pa_nil)) (pe_lc (te:=tOp (rIxL K) (tVar 2) (tOp (rI0 fun i j=>.int (i-j)) (tVar 3) (tC (.int 1)))) rfl scMost.nd (pi_list (pv 1)) (blkOk_by (own:=[("leg",3)]) (by rfl)) (fun _ _ _ _ _=>pg_name (i:=3) scMost.nd rfl (.inl rfl))
   (fun _ _ _ _ _=>pts_nil) (fun _ _ _ _ _=>pe_ix ix_list (pv 2) (pe_op op_sub (pv 3) pe_int) (fun _ _=>rfl)))) pa_nil))),?_⟩
  refine⟨_,rfl,(by show 1<=sizeLine;decide),fun l hl=>?_⟩;have s1:=Same.new (o:=.lst [V.int d]) hl;refine⟨_,rfl,wy,rfl,⟨_,SqL.of (s1 _ _ hw)⟩,fun D hD=>?_⟩;refine coll_vals (n:=(way.map V.int).length) (fun j z H2=>(way.map V.int)[j]?=some z) ((way.map fun z=>ns.getD (z-1).toNat 0).map V.int) (itl_go (SqL.of (s1 _ _ hw))) (itl_stop (SqL.of (s1 _ _ hw))) (itl_yld (SqL.of (s1 _ _ hw))) (by simp) (by rw[lmp];omega) hD ?_ (fun H2 s2 hq=>?_)
  ·intro j z v H4 R hj hv sm hz' hR;obtain⟨rfl,hj1⟩:=ints_get hz';obtain⟨rfl,_⟩:=getV hv 0;rw[SN.getD_map_lt _ _ _ 0 _ hj1] at hR;have hm:=hin _ (SN.getD_mem way j 0 hj1);refine⟨rfl,_,rfl,_,rfl,_,_,rfl,rfl,sp,_,_,_,rfl,rfl,SqL.of (sm _ _ (s1 _ _ hn)),ints_at' (i:=(way.getD j 0-1).toNat) (by omega) (by omega),hR H4 (Same.refl _)⟩
  ·refine⟨l,D,_,_,rfl,rfl,s2 _ _ upd_same,hq,?_,fun p hp=>?_⟩
   ·rw[lmp,lmp];show 1+way.length<=sizeLine;have:=small1000 (n:=1+way.length) (by omega);omega
   refine⟨p,d::way.map (fun z=>ns.getD (z-1).toNat 0),rfl,SqL.of upd_same,by simp,fun m h1 h2=>?_⟩;rw[min_is h1 h2];exact k _ ((s1.trans s2).trans (Same.new hp))
abbrev sMosts:Stmt:=defAt "journey_mosts"
def spMosts:Sp:=fun vs H Q _=>∃ (a c d:Addr) (s:State),vs=[.ref a,.ref c,.ref d]/\IntsAt H a (capsI s)/\IntsAt H c (demandsI s)/\RowsAt H d (waysI s)/\Good s/\
 ∀ (H':Hp) (p:Addr),Same H H'->H p=none->IntsAt H' p (s.journeys.map fun j=>((Vbahar.mostOf s j:Nat):Int))->Q (.ref p) H'
theorem scMosts:FnScope ["capacities","demands","ways","demand","way"] ["capacities","demands","ways"] (defScope sMosts):=⟨rfl,rfl,rfl,by decide +kernel,rfl,by decide +kernel,by decide +kernel⟩
theorem ok_mosts{f fM:Addr}{fd fdM:FuncData}(F:Fun K "journey_mosts" "journey_mosts" sMosts f fd)(B:Blt mg)(CM:Cal P w K mg base 1 "most_seats" ["demand","way","spare"] spMost fM fdM):FnOk P w K mg base CX0 2 f fd ["capacities","demands","ways"] spMosts:=by
 refine F.ok scMosts (fun vs H Q E h=>?_) (fun cdv A outer s H vs Q E hr h=>?_)
 ·obtain⟨a,c,d,st,rfl,_⟩:=h;rfl
 ·obtain⟨a,c,d,st,rfl,ha,hc,⟨ws,R⟩,g,k⟩:=h;have hr1:Room 1 _:=hr.mono (by decide);refine⟨_,pss_one (ps_ret (pe_lc (g:=gTup K 2 (gCons (gName 3) (gCons (gName 4) gNil))) rfl scMosts.nd (pi_zip rfl B.zip (pa_cons (pv 1) (pa_cons (pv 2) pa_nil))) (blkOk_by (own:=[("demand",3),("way",4)]) (by rfl))
   (fun _ _ _ _ _=>pg_tup rfl (pgs_cons (pg_name (i:=3) scMosts.nd rfl (.inl rfl)) (pgs_cons (pg_name (i:=4) scMosts.nd rfl (.inl rfl)) pgs_nil)))
   (fun _ _ _ _ _=>pts_nil) (fun _ _ _ _ _=>pe_call CM.ok hr1 rfl CM.mg CM.kp CM.b .nil pass0 (pa_cons (pv 3) (pa_cons (pv 4) (pa_cons (pv 0) pa_nil)))))),?_⟩
  have h5:=g.small.jour;have lw:ws.length=st.journeys.length:=by rw[R.len,ways_len]
  refine⟨_,rfl,_,rfl,c,d,_,_,rfl,SqL.of hc,SqL.of R.lst,fun D hD=>?_⟩;refine coll_vals (n:=((demandsI st).map V.int).length) (fun i x H2=>∃ T u v,x=V.ref T/\H2 T=some (.tup [u,v])/\((demandsI st).map V.int)[i]?=some u/\(ws.map V.ref)[i]?=some v)
   ((st.journeys.map fun j=>((Vbahar.mostOf st j:Nat):Int)).map V.int) (itz_go (SqL.of hc) (SqL.of R.lst) (by simp[dems_len,lw])) (itz_stop (SqL.of hc) (SqL.of R.lst)) (itz_yld (SqL.of hc) (SqL.of R.lst))
   (by simp[dems_len]) (by rw[lmp,dems_len];omega) hD ?_ (fun H' sm hq=>k H' D sm hD hq)
  rintro i x y H' R' hi hy sm ⟨T,u,v,rfl,hT,hu,hv⟩ hR;obtain⟨rfl,hi1⟩:=ints_get hu;obtain⟨b,hb,rfl⟩:=refs_get hv;obtain⟨rfl,_⟩:=ints_get hy;have hij:i<st.journeys.length:=by rw[<-dems_len];exact hi1
  have hrow:=R.at_ i b hb;rw[ways_get hij] at hrow;rw[SN.getD_map_lt _ _ _ SN.jz _ hij] at hR;rw[dems_get hij] at hT;refine⟨T,_,rfl,SqT.of hT,rfl,_,_,rfl,_,_,rfl,rfl,rfl,?_⟩;refine⟨_,rfl,_,rfl,_,rfl,_,b,a,_,_,rfl,sm _ _ hrow,sm _ _ ha,by have:=way_len g hij;omega,by rw[caps_len];exact way_in g hij,fun H4 s4=>?_⟩;rw[most_caps g hij];exact hR H4 s4
abbrev sChoices:Stmt:=defAt "choices"
def spChoices:Sp:=fun vs H Q _=>∃ (a:Addr) (ns:List Int),vs=[.ref a]/\IntsAt H a ns/\(∀ z,z∈ns->Sm (z+1))/\∀ (H':Hp),Same H H'->Q (.int (ns.foldl (fun p m=>p*(m+1)) 1)) H'
theorem scChoices:FnScope ["mosts","product","most"] ["mosts"] (defScope sChoices):=⟨rfl,rfl,rfl,by decide +kernel,rfl,by decide +kernel,by decide +kernel⟩
theorem ok_choices{f:Addr}{fd:FuncData}(F:Fun K "choices" "choices" sChoices f fd):FnOk P w K mg base CX0 1 f fd ["mosts"] spChoices:=by
 refine F.ok scChoices (fun vs H Q E h=>?_) (fun cdv A outer s H vs Q E hr h=>?_)
 ·obtain⟨a,ns,rfl,_⟩:=h;rfl
 ·obtain⟨a,ns,rfl,ha,hs,k⟩:=h;refine⟨_,pss_cons (ps_set (i:=1) scChoices.nd rfl (.inl rfl) pe_int)
   (pss_cons (ps_for PassesOwn.never rfl (pi_list (pv 0)) (pg_name (i:=2) scChoices.nd rfl (.inl rfl)) (pss_one (ps_set (i:=1) scChoices.nd rfl (.inl rfl) (pe_op op_mul (pv 1) (pe_op op_add (pv 2) pe_int)))))
   (pss_one (ps_ret (pv 1)))),?_⟩
  refine⟨_,rfl,a,rfl,⟨_,SqL.of ha⟩,?_⟩;refine for_it (n:=(ns.map V.int).length) (fun i σ H'=>∃ v2,σ=[some (.ref a),some (.int ((ns.take i).foldl (fun p m=>p*(m+1)) 1)),v2]/\Same H H')
   ⟨none,rfl,Same.refl _⟩ (fun i σ H' hi ⟨_,_,sm⟩=>⟨_,_,SqL.of (sm _ _ ha),gEe hi⟩) (fun σ H' ⟨_,_,sm⟩=>⟨_,SqL.of (sm _ _ ha),Nat.le_refl _⟩) ?_ ?_
  ·rintro i x σ H' H'' hi ⟨v2,rfl,sm⟩ ⟨rfl,hy⟩;obtain⟨rfl,hi1⟩:=ints_get (hy _ (SqL.of (sm _ _ ha)));refine⟨_,rfl,_,rfl,_,_,rfl,rfl,_,_,rfl,rfl,.inr (hs _ (SN.getD_mem _ _ _ hi1)),some (V.int (ns.getD i 0)),?_,sm⟩;rw[List.take_succ_eq_append_getElem hi1,List.foldl_append];simp[gDe,hi1]
  ·rintro σ H' ⟨v2,rfl,sm⟩;rw[lmp,List.take_length];exact⟨_,rfl,k H' sm⟩
abbrev sDivis:Stmt:=defAt "is_division"
def divP(s:State)(xs:List Int):Bool:=((List.zipWith (fun g d=>decide (g<=d)) xs (demandsI s)).all id)&&((spareOf s xs).map fun z=>decide (0<=z)).all id
def spDivis:Sp:=fun vs H Q _=>∃ (x a c d:Addr) (s:State) (xs:List Int),vs=[.ref x,.ref a,.ref c,.ref d]/\IntsAt H x xs/\IntsAt H a (capsI s)/\IntsAt H c (demandsI s)/\RowsAt H d (waysI s)/\Good s/\xs.length=s.journeys.length/\
 ∀ (H':Hp),Same H H'->Q (.bl (divP s xs)) H'
theorem scDivis:FnScope ["seats","capacities","demands","ways","spare","given","way","wanted","demand","left"] ["seats","capacities","demands","ways"] (defScope sDivis):=⟨rfl,rfl,rfl,by decide +kernel,rfl,by decide +kernel,by decide +kernel⟩
theorem ok_divis{f fS:Addr}{fd fdS:FuncData}(F:Fun K "is_division" "is_division" sDivis f fd)(B:Blt mg)(CS:Cal P w K mg base 1 "spare_behind" ["spare","given","way"] spSpare fS fdS):FnOk P w K mg base CX0 2 f fd ["seats","capacities","demands","ways"] spDivis:=by
 refine F.ok scDivis (fun vs H Q E h=>?_) (fun cdv A outer s H vs Q E hr h=>?_)
 ·obtain⟨x,a,c,d,st,xs,rfl,_⟩:=h;rfl
 ·obtain⟨x,a,c,d,st,xs,rfl,hx,ha,hc,⟨ws,R⟩,g,hl,k⟩:=h;have hr1:Room 1 _:=hr.mono (by decide);refine⟨_,pss_cons (ps_set (i:=4) scDivis.nd rfl (.inl rfl) (pv 1))
   (pss_cons (ps_for PassesOwn.never rfl (pi_zip rfl B.zip (pa_cons (pv 0) (pa_cons (pv 3) pa_nil))) (pg_tup rfl (pgs_cons (pg_name (i:=5) scDivis.nd rfl (.inl rfl)) (pgs_cons (pg_name (i:=6) scDivis.nd rfl (.inl rfl)) pgs_nil)))
    (pss_one (ps_set (i:=4) scDivis.nd rfl (.inl rfl) (pe_call CS.ok hr1 rfl CS.mg CS.kp CS.b .nil pass0 (pa_cons (pv 4) (pa_cons (pv 5) (pa_cons (pv 6) pa_nil)))))))
   (pss_cons (ps_set (i:=7) scDivis.nd rfl (.inl rfl) (pe_callB (cr_all rfl) (by rfl) B.all PyProof.Rows.boot_all (pa_cons (pe_lc (g:=gTup K 2 (gCons (gName 5) (gCons (gName 8) gNil))) rfl scDivis.nd (pi_zip rfl B.zip (pa_cons (pv 0) (pa_cons (pv 2) pa_nil))) (blkOk_by (own:=[("given",5),("demand",8)]) (by rfl))
     (fun _ _ _ _ _=>pg_tup rfl (pgs_cons (pg_name (i:=5) scDivis.nd rfl (.inl rfl)) (pgs_cons (pg_name (i:=8) scDivis.nd rfl (.inl rfl)) pgs_nil)))
     (fun _ _ _ _ _=>pts_nil) (fun _ _ _ _ _=>pe_cmpR op_le (pv 5) (pv 8) (nomark _))) pa_nil)))
   (pss_one (ps_ret (pe_and (pv 7) (pe_one (pe_callB (cr_all rfl) (by rfl) B.all PyProof.Rows.boot_all (pa_cons (pe_lc rfl scDivis.nd (pi_list (pv 4)) (blkOk_by (own:=[("left",9)]) (by rfl)) (fun _ _ _ _ _=>pg_name (i:=9) scDivis.nd rfl (.inl rfl))
     (fun _ _ _ _ _=>pts_nil) (fun _ _ _ _ _=>pe_cmpR op_ge (pv 9) pe_int (nomark _))) pa_nil)))))))),?_⟩
  have h5:=g.small.jour;have lw:ws.length=st.journeys.length:=by rw[R.len,ways_len]
  refine⟨_,rfl,_,rfl,_,rfl,x,d,_,_,rfl,SqL.of hx,SqL.of R.lst,?_⟩;refine for_it (n:=(xs.map V.int).length) (fun i σ H'=>∃ q v5 v6,σ=[some (.ref x),some (.ref a),some (.ref c),some (.ref d),some (.ref q),v5,v6,none,none,none]/\Same H H'/\IntsAt H' q (spareOf st (xs.take i)))
   ⟨a,none,none,rfl,Same.refl _,by rw[List.take_zero,spareOf_nil];exact ha⟩
   (fun i σ H' hi ⟨_,_,_,_,sm,_⟩=>⟨_,_,_,_,SqL.of (sm _ _ hx),SqL.of (sm _ _ R.lst),gEe hi,gEe (by simp at hi ⊢;omega)⟩)
   (fun σ H' ⟨_,_,_,_,sm,_⟩=>⟨_,_,SqL.of (sm _ _ hx),SqL.of (sm _ _ R.lst),.inl (Nat.le_refl _)⟩) ?_ ?_
  ·rintro i y σ H' H'' hi ⟨q,v5,v6,rfl,sm,hq⟩ ⟨T,u,v,rfl,hT,rfl,y1,y2⟩;obtain⟨rfl,hi1⟩:=ints_get (y1 _ (SqL.of (sm _ _ hx)));obtain⟨b,hb,rfl⟩:=refs_get (y2 _ (SqL.of (sm _ _ R.lst)));have hij:i<st.journeys.length:=by omega
   have sT:=Same.new (o:=.tup [V.int (xs.getD i 0),V.ref b]) hT;have hrow:=R.at_ i b hb;rw[ways_get hij] at hrow;have lt:(xs.take i).length=i:=by rw[List.length_take];omega
   refine⟨T,_,rfl,SqT.of upd_same,rfl,_,_,rfl,_,_,rfl,rfl,?_⟩;refine⟨_,rfl,_,rfl,_,rfl,q,b,_,_,_,rfl,sT _ _ hq,sT _ _ (sm _ _ hrow),by rw[spareOf_len];have:=g.small.legs;omega,fun H4 p s4 np hp=>?_⟩;refine⟨p,_,_,rfl,(sm.trans sT).trans s4,?_⟩;have e:=spare_push (s:=st) (x:=xs.take i) (g:=xs.getD i 0);rw[lt] at e;rw[e] at hp;rw[List.take_succ_eq_append_getElem hi1];have e2:xs.getD i 0=xs[i]:=by simp[gDe,hi1]
   rw[<-e2];exact hp
  ·rintro σ H' ⟨q,v5,v6,rfl,sm,hq⟩;rw[lmp,List.take_length] at hq;refine⟨_,rfl,_,rfl,x,c,_,_,rfl,SqL.of (sm _ _ hx),SqL.of (sm _ _ hc),fun D hD=>?_⟩;refine coll_vals (n:=(xs.map V.int).length) (fun i x H2=>∃ T u v,x=V.ref T/\H2 T=some (.tup [u,v])/\(xs.map V.int)[i]?=some u/\((demandsI st).map V.int)[i]?=some v)
    ((List.zipWith (fun g d=>decide (g<=d)) xs (demandsI st)).map V.bl) (itz_go (SqL.of (sm _ _ hx)) (SqL.of (sm _ _ hc)) (by simp[hl,dems_len])) (itz_stop (SqL.of (sm _ _ hx)) (SqL.of (sm _ _ hc))) (itz_yld (SqL.of (sm _ _ hx)) (SqL.of (sm _ _ hc)))
    (by simp[hl,dems_len]) (by rw[lmp];omega) hD ?_ (fun H2 s2 hb=>?_)
   ·rintro i y z H2 R' hi hy s2 ⟨T,u,v,rfl,hT,hu,hv⟩ hR;obtain⟨rfl,hi1⟩:=ints_get hu;obtain⟨rfl,hi2⟩:=ints_get hv;obtain⟨rfl,_⟩:=getV hy false;refine⟨T,_,rfl,SqT.of hT,rfl,_,_,rfl,_,_,rfl,rfl,rfl,?_⟩;rw[zip_get (α:=Int) false hi1 hi2] at hR;exact⟨_,rfl,_,rfl,_,_,rfl,rfl,hR H2 (Same.refl _)⟩
   ·refine⟨D,_,rfl,SqL.of hb,_,rfl,_,rfl,?_⟩;unfold divP at k;refine ite2 (fun hw=>?_) (fun hw=>?_)
    ·rw[hw,Bool.true_and] at k;refine⟨_,rfl,q,rfl,⟨_,SqL.of (s2 _ _ hq)⟩,fun D2 hD2=>?_⟩;refine coll_vals (n:=((spareOf st xs).map V.int).length) (fun j z H2=>((spareOf st xs).map V.int)[j]?=some z) (((spareOf st xs).map fun z=>decide (0<=z)).map V.bl) (itl_go (SqL.of (s2 _ _ hq))) (itl_stop (SqL.of (s2 _ _ hq))) (itl_yld (SqL.of (s2 _ _ hq))) (by simp) (by rw[lmp,spareOf_len];have:=g.small.legs;omega) hD2 ?_
      (fun H3 s3 hq3=>⟨D2,_,rfl,SqL.of hq3,k H3 ((sm.trans s2).trans s3)⟩)
     intro j z v H4 R' hj hv s4 hz hR;obtain⟨rfl,hj1⟩:=ints_get hz;obtain⟨rfl,_⟩:=getV hv false;rw[SN.getD_map_lt _ _ _ 0 _ hj1] at hR;exact⟨rfl,_,rfl,_,_,rfl,rfl,hR H4 (Same.refl _)⟩
    ·have e:((List.zipWith (fun g d=>decide (g<=d)) xs (demandsI st)).all id)=false:=by simpa using hw
     rw[e,Bool.false_and] at k;exact k H2 (sm.trans s2)
end
end My
end
section
set_option maxRecDepth 100000
set_option maxHeartbeats 2000000
namespace My
open PySem PySem.Spec PyProof.Rows L2
open Vbahar (State)
open SN (jn capsI faresI demandsI waysI wayI)
structure FoundAs(H:Hp)(p:Addr)(s:State)(ts:List Addr)(L:List (List Int)):Prop where
 lst:H p=some (.lst (ts.map V.ref))
 len:ts.length=L.length
 at_:∀ (i:Nat) (b:Addr),ts[i]?=some b->b≠p/\∃ u v,u≠p/\v≠p/\H b=some (.tup [.ref u,.ref v])/\IntsAt H u (L.getD i [])/\IntsAt H v (spareOf s (L.getD i []))
def FoundAt(H:Hp)(p:Addr)(s:State)(L:List (List Int)):Prop:=∃ ts,FoundAs H p s ts L
theorem FoundAs.same{H H':Hp}{p:Addr}{s:State}{ts:List Addr}{L:List (List Int)}(e:Same H H')(h:FoundAs H p s ts L):FoundAs H' p s ts L:=
 ⟨e _ _ h.lst,h.len,fun i b q=>let ⟨n,u,v,n1,n2,h1,h2,h3⟩:=h.at_ i b q;⟨n,u,v,n1,n2,e _ _ h1,e _ _ h2,e _ _ h3⟩⟩
theorem FoundAs.push{H:Hp}{p b u v:Addr}{s:State}{ts:List Addr}{L:List (List Int)}{x:List Int}(h:FoundAs H p s ts L)(nb:b≠p)(nu:u≠p)(nv:v≠p)(hb:H b=some (.tup [.ref u,.ref v]))(hu:IntsAt H u x)(hv:IntsAt H v (spareOf s x)):
  FoundAt (upd H p (.lst (ts.map V.ref++[V.ref b]))) p s (L++[x]):=by
 refine⟨ts++[b],by rw[upd_same,List.map_append];rfl,by simp[h.len],fun i c e=>?_⟩;by_cases ci:i<ts.length
 ·rw[List.getElem?_append_left ci] at e;obtain⟨n,y,z,n1,n2,h1,h2,h3⟩:=h.at_ i c e;have eg:(L++[x]).getD i []=L.getD i []:=by rw[gDe,List.getElem?_append_left (by rw[<-h.len];exact ci),<-gDe]
  rw[eg];exact⟨n,y,z,n1,n2,by rw[upd_ne n];exact h1,by unfold IntsAt;rw[upd_ne n1];exact h2,by unfold IntsAt;rw[upd_ne n2];exact h3⟩
 ·have hlt:=(List.getElem?_eq_some_iff.mp e).1;have:i=ts.length:=by simp at hlt;omega
  subst this;rw[List.getElem?_append_right (Nat.le_refl _),Nat.sub_self] at e;have:b=c:=by simpa using e
  subst this;have eg:(L++[x]).getD ts.length []=x:=by rw[h.len];simp
  rw[eg];exact⟨nb,u,v,nu,nv,by rw[upd_ne nb];exact hb,by unfold IntsAt;rw[upd_ne nu];exact hu,by unfold IntsAt;rw[upd_ne nv];exact hv⟩
theorem big20{n:Nat}(h:n<=20000):n<sizeLine:=by rw[sizeLine_eq];omega
theorem take_flat{α β:Type}{f:α->List β}:∀ {l:List α} {i:Nat} {x:α},l[i]?=some x->(l.take (i+1)).flatMap f=(l.take i).flatMap f++f x
 | [],i,x,h=>by simp at h
 | a::l,0,x,h=>by
  have:a=x:=by simpa using h
  subst this;simp
 | a::l,i+1,x,h=>by
  have:=take_flat (f:=f) (l:=l) (i:=i) (x:=x) (by simpa using h);rw[List.take_succ_cons,List.flatMap_cons,this,List.take_succ_cons,List.flatMap_cons,List.append_assoc]
theorem part_len{α β:Type}{f:α->List β}{l:List α}{i j:Nat}{x:α}(h:l[i]?=some x):((l.take i).flatMap f++(f x).take j).length<=(l.flatMap f).length:=by
 have e:l.flatMap f=(l.take (i+1)).flatMap f++(l.drop (i+1)).flatMap f:=by rw[<-List.flatMap_append,List.take_append_drop]
 rw[e,take_flat h,List.length_append,List.length_append,List.length_append,List.length_take];omega
theorem tIf_to{tb:TE}{σ:L2.St}{H:Hp}{Q:VK}{c:Bool}{n M:Int}(hk:∀ H5,Same H H5->Q (.int M) H5)(h1:c=true->M=n)(h2:c=false->(∀ H5,Same H H5->Q (.int M) H5)->tb σ H Q):if c=true then tC (.int n) σ H Q else tb σ H Q:=by
 cases c with
 | true=>rw[if_pos rfl];have:=hk H (Same.refl _);rw[h1 rfl] at this;exact this
 | false=>rw[if_neg Bool.false_ne_true];exact h2 rfl hk
theorem upto_le{s:State}{f k:Nat}{x:List Int}(g:Good s)(hk:k<s.journeys.length)(p:PW s f k x):upto s f x<=1000:=by
 have h:=g.small.dem _ (jn_mem hk);unfold upto;split
 ·omega
 ·have:=(le_mostP (d:=((jn s x.length).demand:Int)) (way:=wayI (jn s x.length).legs) (spare:=spareOf s x)).mp (Int.le_refl _);rw[p.len] at *;have:=this.1;omega
section
variable{P:Program}{w:World}{K:PySem.W.Frag}{mg:Str->Option Value}{base:Heap}
abbrev sTries:Stmt:=defAt "tries"
def spTries:Sp:=fun vs H Q _=>∃ (a c d:Addr) (s:State) (f:Nat),vs=[.ref a,.ref c,.ref d,.int (f:Int)]/\IntsAt H a (capsI s)/\IntsAt H c (demandsI s)/\RowsAt H d (waysI s)/\Good s/\Vbahar.ways s<=20000/\
 ∀ (H':Hp) (p:Addr),Same H H'->H p=none->FoundAt H' p s (foundT s f s.journeys.length)->Q (.ref p) H'
theorem scTries:FnScope ["capacities","demands","ways","filled","found","journey","way","longer","seats","spare","most","given"] ["capacities","demands","ways","filled"] (defScope sTries):=⟨rfl,rfl,rfl,by decide +kernel,rfl,by decide +kernel,by decide +kernel⟩
theorem ok_tries{f fM fS:Addr}{fd fdM fdS:FuncData}(F:Fun K "tries" "tries" sTries f fd)(B:Blt mg)(CM:Cal P w K mg base 1 "most_seats" ["demand","way","spare"] spMost fM fdM)(CS:Cal P w K mg base 1 "spare_behind" ["spare","given","way"] spSpare fS fdS):
  FnOk P w K mg base CX0 2 f fd ["capacities","demands","ways","filled"] spTries:=by
 refine F.ok scTries (fun vs H Q E h=>?_) (fun cdv A outer s H vs Q E hr h=>?_)
 ·obtain⟨a,c,d,st,f,rfl,_⟩:=h;rfl
 ·obtain⟨a,c,d,st,f,rfl,ha,hc,⟨ws,R⟩,g,hw,k⟩:=h;have hr1:Room 1 _:=hr.mono (by decide);refine⟨_,pss_cons (ps_set (i:=4) scTries.nd rfl (.inl rfl) (pe_lst (pa_cons (pe_tup (pa_cons (pe_lst pa_nil) (pa_cons (pv 0) pa_nil))) pa_nil)))
   (pss_cons (ps_for PassesOwn.never rfl (pi_enum rfl B.enum (pa_cons (pv 2) pa_nil)) (pg_tup rfl (pgs_cons (pg_name (i:=5) scTries.nd rfl (.inl rfl)) (pgs_cons (pg_name (i:=6) scTries.nd rfl (.inl rfl)) pgs_nil)))
    (pss_cons (ps_set (i:=7) scTries.nd rfl (.inl rfl) (pe_lst pa_nil))
    (pss_cons (ps_for PassesOwn.never rfl (pi_list (pv 4)) (pg_tup rfl (pgs_cons (pg_name (i:=8) scTries.nd rfl (.inl rfl)) (pgs_cons (pg_name (i:=9) scTries.nd rfl (.inl rfl)) pgs_nil)))
     (pss_cons (ps_set (i:=10) scTries.nd rfl (.inl rfl) (pe_ifExp (pt_cmpR op_eq (pv 5) (pv 3) (nomark _)) pe_int (pe_call CM.ok hr1 rfl CM.mg CM.kp CM.b .nil pass0 (pa_cons (pe_ix ix_list (pv 1) (pv 5) (fun _ _=>rfl)) (pa_cons (pv 6) (pa_cons (pv 9) pa_nil))))))
     (pss_one (ps_for PassesOwn.never rfl (pi_range1 rfl B.range (pa_cons (pe_op op_add (pv 10) pe_int) pa_nil)) (pg_name (i:=11) scTries.nd rfl (.inl rfl))
      (pss_one (ps_expr (pe_bm PySem.F.plainAttrs_list PySem.F.slot_list_append PySem.F.type_list_append mt_append (pv 7)
       (pa_cons (pe_tup (pa_cons (pe_op op_cat (pv 8) (pe_lst (pa_cons (pv 11) pa_nil))) (pa_cons (pe_call CS.ok hr1 rfl CS.mg CS.kp CS.b .nil pass0 (pa_cons (pv 9) (pa_cons (pv 11) (pa_cons (pv 6) pa_nil)))) pa_nil))) pa_nil))))))))
    (pss_one (ps_set (i:=4) scTries.nd rfl (.inl rfl) (pv 7))))))
   (pss_one (ps_ret (pv 4)))),?_⟩
  have h5:=g.small.jour;have lw:ws.length=st.journeys.length:=by rw[R.len,ways_len]
  refine⟨Nat.zero_le _,fun l0 hl0=>⟨_,rfl,(by show 2<=sizeLine;decide),fun t0 ht0=>⟨(by show 1<=sizeLine;decide),fun F0 hF0=>?_⟩⟩⟩;have s1:=Same.new (o:=.lst []) hl0;have s2:=Same.new (o:=.tup [V.ref l0,V.ref a]) ht0;have s3:=Same.new (o:=.lst [V.ref t0]) hF0;have s0:Same H _:=(s1.trans s2).trans s3;have f0:FoundAt (upd (upd (upd H l0 (.lst [])) t0 (.tup [V.ref l0,V.ref a])) F0 (.lst [V.ref t0])) F0 st (foundT st f 0):=by
   have n1:t0≠F0:=fun e=>by rw[<-e,upd_same] at hF0;cases hF0
   have n2:l0≠F0:=fun e=>by rw[<-e,s2 _ _ upd_same] at hF0;cases hF0
   have n3:a≠F0:=fun e=>by rw[<-e,s2 _ _ (s1 _ _ ha)] at hF0;cases hF0
   refine⟨[t0],upd_same,rfl,fun i b e=>?_⟩;cases i with
   | zero=>
    have:t0=b:=by simpa using e
    subst this;refine⟨n1,l0,a,n2,n3,s3 _ _ upd_same,s3 _ _ (s2 _ _ upd_same),?_⟩;show IntsAt _ a (spareOf st []);rw[spareOf_nil];exact s0 _ _ ha
   | succ i=>simp at e
  have nF0:H F0=none:=(s1.trans s2).free hF0;generalize upd (upd (upd H l0 (.lst [])) t0 (.tup [V.ref l0,V.ref a])) F0 (.lst [V.ref t0])=H3 at s0 f0 ⊢;refine⟨_,rfl,d,_,rfl,SqL.of (s0 _ _ R.lst),?_⟩;refine for_it (n:=(ws.map V.ref).length) (fun i σ H'=>∃ q v5 v6 v7 v8 v9 v10 v11,σ=[some (.ref a),some (.ref c),some (.ref d),some (.int (f:Int)),some (.ref q),v5,v6,v7,v8,v9,v10,v11]/\Same H H'/\H q=none/\FoundAt H' q st (foundT st f i))
   ⟨F0,none,none,none,none,none,none,none,rfl,s0,nF0,f0⟩
   (fun i σ H' hi ⟨_,_,_,_,_,_,_,_,_,sm,_⟩=>⟨_,_,SqL.of (sm _ _ R.lst),gEe hi⟩) (fun σ H' ⟨_,_,_,_,_,_,_,_,_,sm,_⟩=>⟨_,SqL.of (sm _ _ R.lst),Nat.le_refl _⟩) ?_ ?_
  ·rintro i y σ H' H'' hi ⟨q,v5,v6,v7,v8,v9,v10,v11,rfl,sm,nq,ts,Fq⟩ ⟨T,u,rfl,hT,rfl,y1⟩;obtain⟨b,hb,rfl⟩:=refs_get (y1 _ (SqL.of (sm _ _ R.lst)));have hij:i<st.journeys.length:=by rw[<-lw];simpa using hi
   have sT:=Same.new (o:=.tup [V.int (i:Nat),V.ref b]) hT;have hrow:=R.at_ i b hb;rw[ways_get hij] at hrow;refine⟨T,_,rfl,SqT.of upd_same,rfl,_,_,rfl,_,_,rfl,rfl,?_⟩;refine⟨Nat.zero_le _,fun L hL=>?_⟩;have s4:=Same.new (o:=.lst []) hL;have smT:=sm.trans sT;have Fq1:=Fq.same sT;generalize hH1:upd H' T (.tup [V.int (i:Nat),V.ref b])=H1 at sT smT Fq1 hL s4 ⊢;have hb1:IntsAt H1 b (wayI (jn st i).legs):=smT _ _ hrow;have hc1:=smT _ _ hc;have nLs:H L=none:=smT.free hL;have hlen:(foundT st f (i+1)).length<=20000:=by
    have:=found_len (f:=f) g (k:=i+1) hij;have:=prodTo_le (s:=st) (k:=i+1) (st.journeys.length-(i+1)) (by omega);rw[show i+1+(st.journeys.length-(i+1))=st.journeys.length by omega,prodTo_all] at this;omega
   refine⟨_,rfl,q,rfl,⟨_,SqL.of (s4 _ _ Fq1.lst)⟩,?_⟩;refine for_it (n:=(ts.map V.ref).length) (fun m σ H2=>∃ v8 v9 v10 v11,σ=[some (.ref a),some (.ref c),some (.ref d),some (.int (f:Int)),some (.ref q),some (.int (i:Nat)),some (.ref b),some (.ref L),v8,v9,v10,v11]/\Same H1 H2/\
     FoundAt H2 L st (((foundT st f i).take m).flatMap (exts st f)))
    ⟨v8,v9,v10,v11,rfl,s4,[],upd_same,rfl,fun i b e=>by simp at e⟩
    (fun m σ H' hm ⟨_,_,_,_,_,sm,_⟩=>⟨_,_,SqL.of (sm _ _ Fq1.lst),gEe hm⟩) (fun σ H' ⟨_,_,_,_,_,sm,_⟩=>⟨_,SqL.of (sm _ _ Fq1.lst),Nat.le_refl _⟩) ?_ ?_
   ·rintro m y σ H2 H2' hm ⟨v8,v9,v10,v11,rfl,sm2,FL⟩ ⟨rfl,y2⟩;obtain⟨t,ht,rfl⟩:=refs_get (y2 _ (SqL.of (sm2 _ _ Fq1.lst)));obtain⟨_,u,v,_,_,e1,e2,e3⟩:=Fq1.at_ m t ht;have hml:m<(foundT st f i).length:=by rw[<-Fq1.len];exact(List.getElem?_eq_some_iff.mp ht).1
    have hx:(foundT st f i)[m]?=some ((foundT st f i).getD m []):=by rw[gDe,gEe hml];rfl
    have pw:=(mem_found g (by omega)).mp (SN.getD_mem (foundT st f i) m [] hml);generalize (foundT st f i).getD m []=x at e2 e3 hx pw;have hxl:=pw.len;refine⟨t,_,rfl,SqT.of (sm2 _ _ e1),rfl,_,_,rfl,_,_,rfl,rfl,?_⟩;have hup0:=pw.upto_nn g hij;have hup1:=upto_le g hij pw;have hd1:((demandsI st).map V.int)[i]?=some (V.int ((jn st i).demand:Int)):=by
     rw[List.getElem?_map,gEe (by rw[dems_len];exact hij)];have:=dems_get hij;rw[gDe,gEe (by rw[dems_len];exact hij)] at this;exact congrArg (fun z=>some (V.int z)) this
    refine⟨_,rfl,_,rfl,rfl,_,rfl,?_⟩;refine tIf_to (M:=upto st f x) ?_ (fun hc=>?_) (fun hc hk=>?_);rotate_left
    ·have:i=f:=by
      have:=of_decide_eq_true hc;injection this with e;omega
     unfold upto;rw[if_pos (by omega)]
    ·have hne:¬x.length=f:=fun e=>by
      have:decide (V.int ((i:Nat):Int)=V.int ((f:Nat):Int))=true:=decide_eq_true (by rw[show i=f by omega]);rw[hc] at this;cases this
     refine⟨_,rfl,_,rfl,c,_,_,_,rfl,rfl,SqL.of (sm2 _ _ hc1),atI_nat hd1,_,rfl,_,rfl,_,b,v,_,_,rfl,sm2 _ _ hb1,sm2 _ _ e3,by have:=way_len g hij;omega,by rw[spareOf_len];exact way_in g hij,fun H5 s5=>?_⟩;have:=hk H5 s5;unfold upto at this;rw[if_neg hne,hxl] at this;exact this
    intro H5 s5;have sm5:=sm2.trans s5;obtain⟨ts2,FL⟩:=FL;have FL5:=FL.same s5;refine⟨_,rfl,_,_,rfl,rfl,_,rfl,by omega,by omega,?_⟩;refine for_it (n:=(upto st f x+1).toNat) (fun r σ H6=>∃ v11,σ=[some (.ref a),some (.ref c),some (.ref d),some (.int (f:Int)),some (.ref q),some (.int (i:Nat)),some (.ref b),some (.ref L),some (.ref u),some (.ref v),some (.int (upto st f x)),v11]/\Same H1 H6/\
      FoundAt H6 L st (((foundT st f i).take m).flatMap (exts st f)++(exts st f x).take r))
     ⟨v11,rfl,sm5,ts2,by rw[List.take_zero,List.append_nil];exact FL5⟩ (fun r σ H6 hr' _=>hr') (fun σ H6 _=>Nat.le_refl _) ?_ ?_
    ·rintro r y σ H6' H6 hr' ⟨v11,rfl,sm6,ts6,F6⟩ ⟨rfl,rfl⟩;refine⟨_,rfl,.inl ⟨rfl,_,SqL.of F6.lst⟩,?_⟩;refine⟨_,rfl,_,rfl,(by show 1<=sizeLine;decide),fun l1 hl1=>?_⟩;have t1:=Same.new (o:=.lst [V.int (0+(r:Int))]) hl1;refine⟨u,l1,_,_,rfl,rfl,t1 _ _ (sm6 _ _ e2),upd_same,?_,fun p1 hp1=>?_⟩
     ·rw[lmp];show x.length+1<=sizeLine;have:=small1000 (n:=x.length+1) (by omega);omega
     have t2:=Same.new (o:=.lst (x.map V.int++[V.int (0+(r:Int))])) hp1;have t12:=t1.trans t2;have hp1':IntsAt (upd (upd H6 l1 (.lst [V.int (0+(r:Int))])) p1 (.lst (x.map V.int++[V.int (0+(r:Int))]))) p1 (x++[(r:Int)]):=by
      unfold IntsAt;rw[upd_same,List.map_append,Int.zero_add];rfl
     have np1:=t1.free hp1;generalize upd (upd H6 l1 (.lst [V.int (0+(r:Int))])) p1 (.lst (x.map V.int++[V.int (0+(r:Int))]))=H7 at t2 t12 hp1' ⊢;refine⟨_,rfl,_,rfl,_,rfl,v,b,_,_,_,rfl,t12 _ _ (sm6 _ _ e3),t12 _ _ (sm6 _ _ hb1),by rw[spareOf_len];have:=g.small.legs;omega,fun H8 p2 s8 np2 hp2=>?_⟩;refine⟨(by show 2<=sizeLine;decide),fun p3 hp3=>?_⟩;have t3:=Same.new (o:=.tup [V.ref p1,V.ref p2]) hp3;have t68:=t12.trans s8;have tAll:=t68.trans t3;have F9:=F6.same tAll;have hxr:(exts st f x)[r]?=some (x++[(r:Int)]):=by
      unfold exts;rw[List.getElem?_map,List.getElem?_range hr'];rfl
     have hrl:r<(exts st f x).length:=(List.getElem?_eq_some_iff.mp hxr).1;have eT:(exts st f x).take (r+1)=(exts st f x).take r++[x++[(r:Int)]]:=by
      rw[List.take_succ_eq_append_getElem hrl];have:=gEe hrl;rw[hxr] at this;rw[<-Option.some.inj this]
     have ln:ts6.length<sizeLine:=by
      rw[F6.len];refine big20 (Nat.le_trans (part_len hx) ?_);exact hlen
     have nLf:∀ {z:Addr},H6 z=none->z≠L:=fun hz e=>by rw[e,F6.lst] at hz;cases hz
     refine⟨L,_,_,rfl,rfl,F9.lst,by rw[lmp];exact ln,?_⟩;refine⟨_,rfl,?_,?_⟩
     ·intro z o e;rw[upd_ne (ne_of_none e hL)];exact tAll _ _ (sm6 _ _ e)
     ·rw[eT,<-List.append_assoc];have e9:=spare_push (s:=st) (x:=x) (g:=(r:Int));rw[hxl] at e9;rw[Int.zero_add,e9] at hp2;exact F9.push (nLf (t68.free hp3)) (nLf np1) (nLf (t12.free np2)) upd_same (t3 _ _ (s8 _ _ hp1')) (t3 _ _ hp2)
    ·rintro σ H6 ⟨v11,rfl,sm6,F6⟩;refine⟨_,_,_,_,rfl,sm6,?_⟩;rw[take_flat hx];have e:(exts st f x).take (upto st f x+1).toNat=exts st f x:=List.take_of_length_le (by unfold exts;simp);rw[e] at F6;exact F6
   ·rintro σ H2 ⟨v8,v9,v10,v11,rfl,sm2,FL⟩;rw[lmp,Fq1.len,List.take_length] at FL;exact⟨_,rfl,L,_,_,_,_,_,_,_,rfl,smT.trans sm2,nLs,FL⟩
  ·rintro σ H' ⟨q,v5,v6,v7,v8,v9,v10,v11,rfl,sm,nq,Fq⟩;rw[lmp,lw] at Fq;exact⟨_,rfl,k H' q sm nq Fq⟩
abbrev sBestWhole:Stmt:=defAt "best_whole_division"
def spBestWhole:Sp:=fun vs H Q _=>∃ (a b c d:Addr) (s:State),vs=[.ref a,.ref b,.ref c,.ref d]/\HouseAs H a b c d s/\Good s/\Vbahar.ways s<=20000/\
 ∀ (H':Hp) (p:Addr),Same H H'->H p=none->IntsAt H' p (Vbahar.earns s (Vbahar.bestWhole s)::(Vbahar.bestWhole s).nums)->Q (.ref p) H'
theorem scBestWhole:FnScope ["capacities","fares","demands","ways","mosts","filled","best","seats","spare","rest","division"] ["capacities","fares","demands","ways"] (defScope sBestWhole):=⟨rfl,rfl,rfl,by decide +kernel,rfl,by decide +kernel,by decide +kernel⟩
theorem first_at{ns:List Int}{m:Int}(h:m∈ns):∃ j:Nat,j<ns.length/\ns[j]?=some m/\∀ i,i<j->ns[i]?≠some m:=by
 induction ns with
 | nil=>cases h
 | cons a r ih=>
  by_cases e:a=m
  ·exact⟨0,by simp,by simp[e],fun i hi=>by omega⟩
  ·obtain⟨j,h1,h2,h3⟩:=ih (by rcases List.mem_cons.mp h with q | q;exact absurd q.symm e;exact q);refine⟨j+1,by simp;omega,by simpa using h2,fun i hi=>?_⟩;cases i with
   | zero=>simpa using e
   | succ i=>simpa using h3 i (by omega)
theorem fares_sm{s:State}(g:Good s):∀ z,z∈faresI s->Sm z:=fun z hz=>by
 obtain⟨j,hj,rfl⟩:=List.mem_map.mp hz;have:=g.small.fare j hj;exact⟨by omega,by omega⟩
theorem ok_best_whole{f fJ fT fM fE:Addr}{fd fdJ fdT fdM fdE:FuncData}(F:Fun K "best_whole_division" "best_whole_division" sBestWhole f fd)(B:Blt mg)(CJ:Cal P w K mg base 2 "journey_mosts" ["capacities","demands","ways"] spMosts fJ fdJ)(CT:Cal P w K mg base 2 "tries" ["capacities","demands","ways","filled"] spTries fT fdT)(CM:Cal P w K mg base 1 "most_seats" ["demand","way","spare"] spMost fM fdM)(CE:Cal P w K mg base 1 "sum_earned" ["seats","fares"] spEarn fE fdE):
  FnOk P w K mg base CX0 3 f fd ["capacities","fares","demands","ways"] spBestWhole:=by
 refine F.ok scBestWhole (fun vs H Q E h=>?_) (fun cdv A outer s H vs Q E hr h=>?_)
 ·obtain⟨a,b,c,d,st,rfl,_⟩:=h;rfl
 ·obtain⟨a,b,c,d,st,rfl,O,g,hw,k⟩:=h;have hr1:Room 1 _:=hr.mono (by decide);have hr2:Room 2 _:=hr.mono (by decide);refine⟨_,pss_cons (ps_if (pt_not (pt_truth (pv 3) (fun _=>rfl))) (pss_one (ps_ret (pe_lst (pa_cons pe_int pa_nil)))) pss_nil)
   (pss_cons (ps_set (i:=4) scBestWhole.nd rfl (.inl rfl) (pe_call CJ.ok hr2 rfl CJ.mg CJ.kp CJ.b .nil pass0 (pa_cons (pv 0) (pa_cons (pv 2) (pa_cons (pv 3) pa_nil)))))
   (pss_cons (ps_set (i:=5) scBestWhole.nd rfl (.inl rfl) (pe_bm PySem.F.plainAttrs_list PySem.F.slot_list_index PySem.F.type_list_index mt_index (pv 4) (pa_cons (pe_callB (cr_max rfl) (by rfl) B.max PyProof.Rows.boot_max (pa_cons (pv 4) pa_nil)) pa_nil)))
   (pss_cons (ps_set (i:=6) scBestWhole.nd rfl (.inl rfl) (pe_lst pa_nil))
   (pss_cons (ps_for PassesOwn.never rfl (pi_list (pe_call CT.ok hr2 rfl CT.mg CT.kp CT.b .nil pass0 (pa_cons (pv 0) (pa_cons (pv 2) (pa_cons (pv 3) (pa_cons (pv 5) pa_nil)))))) (pg_tup rfl (pgs_cons (pg_name (i:=7) scBestWhole.nd rfl (.inl rfl)) (pgs_cons (pg_name (i:=8) scBestWhole.nd rfl (.inl rfl)) pgs_nil)))
    (pss_cons (ps_set (i:=9) scBestWhole.nd rfl (.inl rfl) (pe_call CM.ok hr1 rfl CM.mg CM.kp CM.b .nil pass0 (pa_cons (pe_ix ix_list (pv 2) (pv 5) (fun _ _=>rfl)) (pa_cons (pe_ix ix_list (pv 3) (pv 5) (fun _ _=>rfl)) (pa_cons (pv 8) pa_nil)))))
    (pss_cons (ps_set (i:=10) scBestWhole.nd rfl (.inl rfl) (pe_op op_cat (pe_op op_cat (pe_slice sl_list (pv 7) po_none (po_some (pv 5))) (pe_lst (pa_cons (pv 9) pa_nil))) (pe_slice sl_list (pv 7) (po_some (pe_op op_add (pv 5) pe_int)) po_none)))
    (pss_one (ps_set (i:=6) scBestWhole.nd rfl (.inl rfl) (pe_callB (call_maxL rfl (hu_of hr)) (by rfl) B.max PyProof.Rows.boot_max (pa_cons (pv 6) (pa_cons (pe_op op_cat (pe_lst (pa_cons (pe_call CE.ok hr1 rfl CE.mg CE.kp CE.b .nil pass0 (pa_cons (pv 10) (pa_cons (pv 1) pa_nil))) pa_nil)) (pv 10)) pa_nil))))))))
   (pss_one (ps_ret (pv 6))))))),?_⟩
  obtain⟨ws,R⟩:=O.ways;have h5:=g.small.jour;have lw:ws.length=st.journeys.length:=by rw[R.len,ways_len]
  refine⟨_,rfl,_,.inl ⟨_,SqL.of R.lst,rfl⟩,?_⟩;by_cases hn:st.journeys.length=0
  ·have e0:(!(ws.map V.ref).isEmpty)=false:=by
    have:ws=[]:=List.length_eq_zero_iff.mp (by omega);rw[this];rfl
   rw[e0];refine iteT ⟨(by show 1<=sizeLine;decide),fun p hp=>k _ p (Same.new hp) hp ?_⟩;rw[whole_none g hn];exact upd_same
  ·have e0:(!(ws.map V.ref).isEmpty)=true:=by
    cases q:ws with
    | nil=>rw[q] at lw;exact absurd lw.symm hn
    | cons z r=>rfl
   rw[e0];refine iteF ⟨_,rfl,_,rfl,_,rfl,a,c,d,st,rfl,O.caps,O.dems,O.ways,g,fun H1 pm s1 npm hpm=>?_⟩;have lm:(st.journeys.map fun j=>((Vbahar.mostOf st j:Nat):Int)).length=st.journeys.length:=lmp ..;generalize (st.journeys.map fun j=>((Vbahar.mostOf st j:Nat):Int))=ms at hpm lm;refine⟨_,rfl,.inl ⟨rfl,_,SqL.of hpm⟩,_,rfl,pm,ms,rfl,SqL.of hpm,by omega,fun mx hm1 hm2=>?_⟩;obtain⟨f,hf,ef,no⟩:=first_at hm1;have hfj:f<st.journeys.length:=by omega
   refine⟨pm,_,_,f,V.int mx,rfl,rfl,SqL.of hpm,rfl,flat_ints _,by rw[List.getElem?_map,ef];rfl,by simp[eqV],fun i z hi hz=>?_,?_⟩
   ·obtain⟨rfl,hi1⟩:=getV hz 0;have:=no i hi;rw[gEe hi1] at this;have e:ms.getD i 0=ms[i]:=by simp[gDe,hi1]
    rw[e];simp only[eqV];simpa using fun q=>this (by rw[q])
   refine⟨Nat.zero_le _,fun B0 hB0=>?_⟩;have s2:=Same.new (o:=.lst []) hB0;have s12:=s1.trans s2;have nB0:=s1.free hB0;have hB:IntsAt (upd H1 B0 (.lst [])) B0 []:=upd_same;generalize upd H1 B0 (.lst [])=H2 at s2 s12 hB ⊢;refine⟨_,rfl,_,rfl,_,rfl,_,rfl,a,c,d,st,f,rfl,s12 _ _ O.caps,s12 _ _ O.dems,⟨ws,R.same s12⟩,g,hw,fun H3 pf s3 npf ⟨ts,Ff⟩=>?_⟩;have s13:=s12.trans s3;refine⟨pf,rfl,⟨_,SqL.of Ff.lst⟩,?_⟩;refine for_it (n:=(ts.map V.ref).length) (fun i σ H'=>∃ q v7 v8 v9 v10,σ=[some (.ref a),some (.ref b),some (.ref c),some (.ref d),some (.ref pm),some (.int (f:Int)),some (.ref q),v7,v8,v9,v10]/\Same H3 H'/\H q=none/\
     IntsAt H' q (((foundT st f st.journeys.length).take i).foldl (fun b x=>maxL b (vecOf st (fillIn st f x))) []))
    ⟨B0,none,none,none,none,rfl,Same.refl _,nB0,s3 _ _ hB⟩ (fun i σ H' hi ⟨_,_,_,_,_,_,sm,_⟩=>⟨_,_,SqL.of (sm _ _ Ff.lst),gEe hi⟩) (fun σ H' ⟨_,_,_,_,_,_,sm,_⟩=>⟨_,SqL.of (sm _ _ Ff.lst),Nat.le_refl _⟩) ?_ ?_
   ·rintro i y σ H' H'' hi ⟨q,v7,v8,v9,v10,rfl,sm,nq,hq⟩ ⟨rfl,y1⟩;obtain⟨t,ht,rfl⟩:=refs_get (y1 _ (SqL.of (sm _ _ Ff.lst)));obtain⟨_,u,v,_,_,e1,e2,e3⟩:=Ff.at_ i t ht;have hil:i<(foundT st f st.journeys.length).length:=by rw[<-Ff.len];exact(List.getElem?_eq_some_iff.mp ht).1
    have pw:=(mem_found g (Nat.le_refl _)).mp (SN.getD_mem (foundT st f st.journeys.length) i [] hil);have eT:(foundT st f st.journeys.length).take (i+1)=(foundT st f st.journeys.length).take i++[(foundT st f st.journeys.length).getD i []]:=by
     rw[List.take_succ_eq_append_getElem hil];simp[gDe,hil]
    generalize (foundT st f st.journeys.length).getD i []=x at e2 e3 pw eT;have hxl:=pw.len;have smA:=s13.trans sm;obtain⟨z,hz,haz,hrow⟩:=refs_at R (i:=f) (by rw[ways_len];exact hfj);rw[ways_get hfj] at hrow;refine⟨t,_,rfl,SqT.of (sm _ _ e1),rfl,_,_,rfl,_,_,rfl,rfl,?_⟩;refine⟨_,rfl,_,rfl,c,_,_,_,rfl,rfl,SqL.of (smA _ _ O.dems),ints_at (by rw[dems_len];exact hfj),_,rfl,_,rfl,d,_,_,_,rfl,rfl,SqL.of (smA _ _ R.lst),haz,_,rfl,_,z,v,_,_,rfl,smA _ _ hrow,sm _ _ e3,by have:=way_len g hfj;omega,by rw[spareOf_len];exact way_in g hfj,fun H5 s5=>?_⟩;rw[dems_get hfj,show mostP ((jn st f).demand:Int) (wayI (jn st f).legs) (spareOf st x)=restOf st f x from rfl];have sm5:=smA.trans s5;have hu5:=s5 _ _ (sm _ _ e2);refine⟨_,rfl,_,rfl,_,rfl,u,_,rfl,SqL.of hu5,fun p1 hp1=>?_⟩;have t1:=Same.new (o:=.lst (cutV (x.map V.int) none (some (f:Int)))) hp1;refine⟨_,rfl,(by show 1<=sizeLine;decide),fun p2 hp2=>?_⟩;have t2:=Same.new (o:=.lst [V.int (restOf st f x)]) hp2;have c1:cutV (x.map V.int) none (some (f:Int))=(x.take f).map V.int:=by
     unfold cutV;rw[HT.sIx_nat,lmp,Nat.min_eq_left (show f<=x.length by omega)];show((x.map V.int).drop 0).take (f-0)=_;rw[List.drop_zero,Nat.sub_zero,List.map_take]
    refine⟨p1,p2,_,_,rfl,rfl,t2 _ _ upd_same,upd_same,?_,fun p3 hp3=>?_⟩
    ·rw[c1,lmp,List.length_take];show min f x.length+1<=sizeLine;have:=small1000 (n:=min f x.length+1) (by omega);omega
    have t3:=Same.new (o:=.lst (cutV (x.map V.int) none (some (f:Int))++[V.int (restOf st f x)])) hp3;have t13:=(t1.trans t2).trans t3;refine⟨_,rfl,_,rfl,_,_,rfl,rfl,_,rfl,u,_,rfl,SqL.of (t13 _ _ hu5),fun p4 hp4=>?_⟩;have c2:cutV (x.map V.int) (some ((f:Int)+1)) none=(x.drop (f+1)).map V.int:=by
     unfold cutV;rw[show((f:Int)+1)=((f+1:Nat):Int) by omega,HT.sIx_nat,lmp,Nat.min_eq_left (show f+1<=x.length by omega)];show((x.map V.int).drop (f+1)).take (x.length-(f+1))=_;rw[List.take_of_length_le (by simp),List.map_drop]
    have t4:=Same.new (o:=.lst (cutV (x.map V.int) (some ((f:Int)+1)) none)) hp4;refine⟨p3,p4,_,_,rfl,rfl,t4 _ _ upd_same,upd_same,?_,fun p5 hp5=>?_⟩
    ·rw[c1,c2,List.length_append,lmp,lmp,List.length_take,List.length_drop];show min f x.length+1+(x.length-(f+1))<=sizeLine;have:=small1000 (n:=min f x.length+1+(x.length-(f+1))) (by omega);omega
    have t5:=Same.new (o:=.lst (cutV (x.map V.int) none (some (f:Int))++[V.int (restOf st f x)]++cutV (x.map V.int) (some ((f:Int)+1)) none)) hp5;have t15:=(t13.trans t4).trans t5;have hdiv:∀ G:Hp,IntsAt (upd G p5 (.lst (cutV (x.map V.int) none (some (f:Int))++[V.int (restOf st f x)]++cutV (x.map V.int) (some ((f:Int)+1)) none))) p5 (fillIn st f x):=fun G=>by
     unfold IntsAt;rw[upd_same,c1,c2];unfold fillIn;rw[List.set_eq_take_append_cons_drop,if_pos (by omega)];simp
    have sm9:=sm5.trans t15;have hq9:=t15 _ _ (s5 _ _ hq);have s39:=(sm.trans s5).trans t15;have lf:(fillIn st f x).length=st.journeys.length:=by unfold fillIn;rw[List.length_set];exact hxl
    refine⟨_,rfl,_,rfl,_,rfl,p5,b,_,_,rfl,hdiv _,sm9 _ _ O.fares,by rw[lf,fares_len],by omega,fares_sm g,fun H10 s10=>?_⟩;refine⟨(by show 1<=sizeLine;decide),fun p6 hp6=>?_⟩;have t6:=Same.new (o:=.lst [V.int (earnL (fillIn st f x) (faresI st))]) hp6;have hd6:=t6 _ _ (s10 _ _ (hdiv _));refine⟨_,rfl,p6,p5,_,_,rfl,rfl,upd_same,hd6,?_,fun p7 hp7=>?_⟩
    ·rw[lmp,lf];show 1+st.journeys.length<=sizeLine;have:=small1000 (n:=1+st.journeys.length) (by omega);omega
    have t7:=Same.new (o:=.lst ([V.int (earnL (fillIn st f x) (faresI st))]++(fillIn st f x).map V.int)) hp7;have sE:=(s10.trans t6).trans t7;have np7:H p7=none:=(sm9.trans (s10.trans t6)).free hp7;have h7:IntsAt (upd (upd H10 p6 (.lst [V.int (earnL (fillIn st f x) (faresI st))])) p7 (.lst ([V.int (earnL (fillIn st f x) (faresI st))]++(fillIn st f x).map V.int))) p7 (vecOf st (fillIn st f x)):=upd_same;rw[eT,List.foldl_append];generalize List.foldl (fun b x=>maxL b (vecOf st (fillIn st f x))) [] (List.take i (foundT st f st.journeys.length))=F0 at hq9 ⊢;refine⟨q,p7,_,_,rfl,sE _ _ hq9,h7,?_⟩;refine⟨_,_,_,_,_,rfl,s39.trans sE,?_,?_⟩
    ·split
     ·exact np7
     ·exact nq
    ·show IntsAt _ _ (maxL F0 (vecOf st (fillIn st f x)));unfold maxL;by_cases cc:SN.lexLt F0 (vecOf st (fillIn st f x))=true
     ·rw[if_pos cc,if_pos cc];exact h7
     ·rw[if_neg cc,if_neg cc];exact sE _ _ hq9
   ·rintro σ H' ⟨q,v7,v8,v9,v10,rfl,sm,nq,hq⟩;rw[lmp,Ff.len,List.take_length,whole_found g hfj] at hq;exact⟨_,rfl,k H' q (s13.trans sm) nq hq⟩
end
end My
end
section
set_option maxRecDepth 100000
set_option maxHeartbeats 2000000
namespace My
open PySem PySem.Spec PyProof.Rows L2
open Vbahar (State Journey)
open SN (jn capsI faresI demandsI waysI wayI)
theorem bid_get{s:State}{t:SN.TL}{S:SN.Tab}(R:SN.Rep (SN.prob s) t S){l:Nat}(hl:l<s.caps.length):(SN.bidPairs t).getD l (0,0)=(S.G 0 ((SN.prob s).n+l),S.d)/\(SN.bidPairs t).length=s.caps.length:=by
 have h0:(t.goals.getD 0 []).length=(SN.prob s).n+(SN.prob s).K+1:=R.grow _ (SN.getD_mem _ _ _ (by rw[R.glen];exact SN.prob_gpos s));have hK:(SN.prob s).K=s.caps.length+s.journeys.length:=rfl;have e:(((t.goals.getD 0 []).drop t.journeys).take t.legs).length=s.caps.length:=by
  rw[List.length_take,List.length_drop,h0,R.jour,R.legs];show min s.caps.length _=_;omega
 refine⟨?_,by unfold SN.bidPairs;rw[lmp,e]⟩;unfold SN.bidPairs;rw[SN.getD_map_lt _ _ _ 0 _ (by rw[e];exact hl),R.d,R.jour,R.legs];congr 1;rw[gDe,List.getElem?_take_of_lt (show l<(SN.prob s).m from hl),List.getElem?_drop,<-gDe];exact R.G 0 _ (SN.prob_gpos s) (by omega)
theorem best_get{s:State}{t:SN.TL}{S:SN.Tab}(R:SN.Rep (SN.prob s) t S):(SN.bestPairs t).getD 0 (0,0)=(S.G 0 ((SN.prob s).n+(SN.prob s).K),S.d):=by
 unfold SN.bestPairs;rw[SN.getD_map_lt _ _ _ [] _ (by rw[R.glen];exact SN.prob_gpos s),R.d,R.jour,R.llen];congr 1;exact R.G 0 _ (SN.prob_gpos s) (Nat.le_refl _)
theorem get_list{X:Cx}:PGet X (fun x y H Q=>∃ p xs i v,x=.ref p/\y=.int ((i:Nat):Int)/\SqL X.K H p xs/\xs[i]?=some v/\Q v H):=by
 intro pins s σ H o i ov iv Q I ro ri h;obtain⟨p,xs,j,v,rfl,rfl,hq,hv,q⟩:=h;cases ro;obtain⟨t,rfl⟩:=ri;obtain⟨its,r,pl,hz⟩:=I.list hq;obtain⟨u,hu,ru⟩:=r.get hv;have hl:=r.length;have hj:=(List.getElem?_eq_some_iff.mp hv).1;have hn:=sizeLine_eq;exact wpAny_getItem_list pl.isList (Int.natCast_nonneg _) (by omega) (by simpa using hu) ⟨v,H,I,ru,q⟩
section
variable{P:Program}{w:World}{K:PySem.W.Frag}{mg:Str->Option Value}{base:Heap}
abbrev sTellAccept:Stmt:=defAt "tell_accept"
def actAccept(s:State)(args row:List Int):State×List Int:=Vbahar.step s (.accept ((args.getD 0 0).toNat-1))
def pre1(s:State)(args row:List Int):Prop:=args.length=1/\1<=args.getD 0 0
theorem scTellAccept:FnScope ["house","call","journey","prices","ask_above","leg","ask_below"] ["house","call"] (defScope sTellAccept):=⟨rfl,rfl,rfl,by decide +kernel,rfl,by decide +kernel,by decide +kernel⟩
theorem ok_tell_accept{f fJ fB fO HC CC C:Addr}{fd fdJ fdB fdO:FuncData}(F:Fun K "tell_accept" "tell_accept" sTellAccept f fd)(B:Blt mg)(T:HouC K HC)(TC:CalC K CC)(CH:Cal P w K mg base 1 "has_journey" ["house","journey"] (spHasJourney HC) fJ fdJ)(CB:Cal P w K mg base 6 "bid_prices" ["capacities","fares","demands","ways"] (spBids C) fB fdB)(CO:Cal P w K mg base 1 "one_if" ["holds"] spOneIf fO fdO)(n1:Num mg "NO_SUCH_JOURNEY" (-3)):FnOk P w K mg base CX0 7 f fd ["house","call"] (spAct HC CC pre1 actAccept):=by
 obtain⟨t1,n1⟩:=n1;refine F.ok scTellAccept (fun vs H Q E h=>?_) (fun cdv A outer s H vs Q E hr h=>?_)
 ·obtain⟨x,dx,a,b,c,d,ws,st,y,dy,ar,rr,pl,en,args,row,rfl,_⟩:=h;rfl
 ·obtain⟨x,dx,a,b,c,d,ws,st,y,dy,ar,rr,pl,en,args,row,rfl,O,Co,r1,r2,r3,r4,q1,q2,q3,q4,hs,⟨hl,hv⟩,k⟩:=h;have hr1:Room 1 _:=hr.mono (by decide);refine⟨_,pss_cons (ps_set (i:=2) scTellAccept.nd rfl (.inl rfl) (pe_ix ix_list (pe_fld (pv 1) rfl) pe_int (fun _ _=>rfl)))
   (pss_cons (ps_if (pt_not (pt_val (pe_call CH.ok hr1 rfl CH.mg CH.kp CH.b .nil pass0 (pa_cons (pv 0) (pa_cons (pv 2) pa_nil))))) (pss_one (ps_ret (pe_lst (pa_cons (pe_glob (v:=.int (-3)) rfl n1 ⟨_,rfl⟩) pa_nil)))) pss_nil)
   (pss_cons (ps_set (i:=3) scTellAccept.nd rfl (.inr rfl) (pe_call CB.ok hr rfl CB.mg CB.kp CB.b .nil pass0 (pa_cons (pe_fld (pv 0) rfl) (pa_cons (pe_fld (pv 0) rfl) (pa_cons (pe_fld (pv 0) rfl) (pa_cons (pe_fld (pv 0) rfl) pa_nil))))))
   (pss_cons (ps_set (i:=4) scTellAccept.nd rfl (.inl rfl) (pe_callB (cr_sum rfl) (by rfl) B.sum PyProof.Rows.boot_sum (pa_cons (pe_lc (te:=tOp (rIxT K) (tOp (rIxL K) (tVar 3) (tOp (rI0 fun i j=>.int (i-j)) (tVar 5) (tC (.int 1)))) (tC (.int 0))) rfl scTellAccept.nd (pi_list (pe_ix ix_list (pe_fld (pv 0) rfl) (pe_op op_sub (pv 2) pe_int) (fun _ _=>rfl))) (blkOk_by (own:=[("leg",5)]) (by rfl)) (fun _ _ _ _ _=>pg_name (i:=5) scTellAccept.nd rfl (.inl rfl))
    (fun _ _ _ _ _=>pts_nil) (fun _ _ _ _ _=>pe_ix ix_tup (pe_ix ix_list (pv 3) (pe_op op_sub (pv 5) pe_int) (fun _ _=>rfl)) pe_int (fun _ _=>rfl))) pa_nil)))
   (pss_cons (ps_set (i:=6) scTellAccept.nd rfl (.inl rfl) (pe_ix ix_tup (pe_ix ix_list (pv 3) pe_int (fun _ _=>rfl)) pe_int (fun _ _=>rfl)))
   (pss_one (ps_ret (pe_lst (pa_cons pe_int (pa_cons (pe_call CO.ok hr1 rfl CO.mg CO.kp CO.b .nil pass0 (pa_cons (pe_cmpR op_ge (pe_op op_mul (pe_ix ix_list (pe_fld (pv 0) rfl) (pe_op op_sub (pv 2) pe_int) (fun _ _=>rfl)) (pv 6)) (pv 4) (nomark _)) pa_nil)) pa_nil))))))))),?_⟩
  refine⟨_,rfl,y,CC,dy,_,_,rfl,Co.ins,TC.cl,TC.args,cf_args pl ar rr en,ar,_,_,_,rfl,rfl,SqL.of Co.args,ints_at' (i:=0) (by omega) (by omega),?_⟩;refine⟨_,rfl,_,rfl,x,dx,a,b,c,d,ws,st,_,rfl,O,_,rfl,?_⟩;generalize hj:args.getD 0 0=jz at hv;have hact:actAccept st args row=Vbahar.step st (.accept (jz.toNat-1)):=by unfold actAccept;rw[hj]
  rw[hact] at k;by_cases hc:jz<=(st.journeys.length:Int)
  ·rw[decide_eq_true hc];refine iteF ?_;have hjl:jz.toNat-1<st.journeys.length:=by omega
   have ej:jz-1=((jz.toNat-1:Nat):Int):=by omega
   generalize jz.toNat-1=j at hjl ej k;have ejn:st.journeys[j]?=some (jn st j):=by unfold SN.jn;rw[gDe,gEe hjl];rfl
   have e:Vbahar.step st (.accept j)=(st,[0,if Vbahar.askOf st (jn st j) (Vbahar.bids st)<=((jn st j).fare:Int)*(Vbahar.bids st).den then 1 else 0]):=by
    unfold Vbahar.step;simp only[ejn]
   rw[e] at k;refine⟨_,rfl,x,HC,dx,_,_,rfl,O.ins,T.cl,T.caps,hf_caps a b c d,_,rfl,x,HC,dx,_,_,rfl,O.ins,T.cl,T.fares,hf_fares a b c d,_,rfl,x,HC,dx,_,_,rfl,O.ins,T.cl,T.dems,hf_dems a b c d,_,rfl,x,HC,dx,_,_,rfl,O.ins,T.cl,T.ways,hf_ways a b c d,
    a,b,c,d,st,rfl,O.as,hs.small,fun H2 p t S s2 np R Fi ⟨as,hp⟩=>?_⟩
   have O2:=O.same s2;obtain⟨z,hz,haz,hrow⟩:=refs_at O2.ways (i:=j) (by rw[ways_len];exact hjl);rw[ways_get hjl] at hrow;have hcap:0<st.caps.length:=by
    have hw:=hs.way _ (jn_mem hjl);cases q:(jn st j).legs with
    | nil=>rw[q] at hw;simp at hw
    | cons l r=>have:=hw.1 l (by rw[q];simp);omega
   have lp:as.length=st.caps.length:=by rw[hp.len];exact(bid_get R hcap).2
   have pget:∀ l,l<st.caps.length->∃ q,atI (as.map V.ref) (l:Int)=some (V.ref q)/\H2 q=some (.tup [.int (S.G 0 ((SN.prob st).n+l)),.int S.d]):=fun l hl=>by
    have hla:l<as.length:=by omega
    refine⟨as[l],atI_nat (by rw[List.getElem?_map,gEe hla];rfl),?_⟩;have:=hp.at_ l _ (gEe hla);rw[(bid_get R hl).1] at this;exact this
   have lway:(wayI (jn st j).legs).length<=5:=way_len hs hjl;refine⟨_,rfl,x,HC,dx,_,_,rfl,O2.ins,T.cl,T.ways,hf_ways a b c d,_,rfl,_,_,rfl,rfl,d,_,_,_,rfl,rfl,SqL.of O2.ways.lst,?_,z,rfl,⟨_,SqL.of hrow⟩,fun D hD=>?_⟩
   ·rw[ej];exact haz
   refine coll_vals (n:=((wayI (jn st j).legs).map V.int).length) (fun i u H3=>((wayI (jn st j).legs).map V.int)[i]?=some u) (((jn st j).legs.map fun l=>S.G 0 ((SN.prob st).n+l)).map V.int) (itl_go (SqL.of hrow)) (itl_stop (SqL.of hrow)) (itl_yld (SqL.of hrow)) (by simp[SN.wayI]) (by rw[lmp];omega) hD ?_ (fun H3 s3 hq=>?_)
   ·intro i u v H4 R' hi hv' sm hu hR;obtain⟨rfl,hi1⟩:=ints_get hu;obtain⟨rfl,hi2⟩:=getV hv' 0;rw[lmp] at hi2;rw[SN.getD_map_lt _ _ _ 0 _ hi2] at hR;have ew:(wayI (jn st j).legs).getD i 0=(((jn st j).legs.getD i 0:Nat):Int)+1:=SN.getD_map_lt _ _ _ 0 _ hi2;obtain⟨q,hq1,hq2⟩:=pget _ (jn_legs_lt hs hjl (SN.getD_mem _ i 0 hi2));refine⟨rfl,_,rfl,_,rfl,_,_,rfl,rfl,p,_,_,_,rfl,rfl,SqL.of (sm _ _ hp.lst),?_,q,_,_,_,rfl,rfl,SqT.of (sm _ _ hq2),at_of (j:=0) rfl rfl,hR H4 (Same.refl _)⟩;rw[ew,Int.add_sub_cancel];exact hq1
   ·refine⟨D,_,rfl,SqL.of hq,?_⟩;obtain⟨q0,hq1,hq2⟩:=pget 0 hcap;have s23:=s2.trans s3;have O3:=O2.same s3;refine⟨_,rfl,p,_,_,_,rfl,rfl,SqL.of (s3 _ _ hp.lst),hq1,q0,_,_,_,rfl,rfl,SqT.of (s3 _ _ hq2),at_of (j:=1) rfl rfl,?_⟩;have hd:S.d.natAbs<=3628800:=SN.d_abs Fi.inv hs.small;refine⟨_,rfl,x,HC,dx,_,_,rfl,O3.ins,T.cl,T.fares,hf_fares a b c d,_,rfl,_,_,rfl,rfl,b,_,_,_,rfl,rfl,SqL.of O3.fares,ints_at' (i:=j) ej (by rw[fares_len];exact hjl),_,rfl,_,_,rfl,rfl,.inr ⟨by omega,by omega⟩,_,rfl,_,_,rfl,rfl,_,rfl,(by show 2<=sizeLine;decide),fun r hr'=>?_⟩;refine k _ r (ActPost.still O (s23.trans (Same.new hr'))) (s23.free hr') ?_;unfold IntsAt;rw[upd_same,fares_get hjl,sum_legs (hs.way _ (jn_mem hjl)).2.1 (hs.way _ (jn_mem hjl)).1];have hask:=ask_le Fi hjl;by_cases q:Vbahar.askOf st (jn st j) (Vbahar.bids st)<=((jn st j).fare:Int)*(Vbahar.bids st).den
    ·rw[if_pos q,decide_eq_true (hask.mp q)];rfl
    ·rw[if_neg q,decide_eq_false (fun z=>q (hask.mpr z))];rfl
  ·rw[decide_eq_false hc];refine iteT ⟨(by show 1<=sizeLine;decide),fun p hp=>?_⟩;have e:Vbahar.step st (.accept (jz.toNat-1))=(st,[-3]):=by
    unfold Vbahar.step;simp only[List.getElem?_eq_none (show st.journeys.length<=jz.toNat-1 by omega)]
   rw[e] at k;exact k _ p (ActPost.still O (Same.new hp)) hp upd_same
abbrev sEarned:Stmt:=defAt "best_earned"
def spEarned(HC C:Addr):Sp:=fun vs H Q _=>∃ (x dx a b c d:Addr) (ws:List Addr) (s s':State) (q:Addr),vs=[.ref x,.ref q]/\HouseOb HC H x dx a b c d ws s/\IntsAt H q (capsI s')/\s'.journeys=s.journeys/\SN.Small s'/\
 ∀ (H':Hp) (p:Addr) (t:SN.TL) (S:SN.Tab),Same H H'->SN.Rep (SN.prob s') t S->SN.Final (SN.prob s') S->H' p=some (.tup [.int (S.G 0 ((SN.prob s').n+(SN.prob s').K)),.int S.d])->Q (.ref p) H'
theorem scEarned:FnScope ["house","capacities"] ["house","capacities"] (defScope sEarned):=⟨rfl,rfl,rfl,by decide +kernel,rfl,by decide +kernel,by decide +kernel⟩
theorem ok_earned{f fB HC C:Addr}{fd fdB:FuncData}(F:Fun K "best_earned" "best_earned" sEarned f fd)(T:HouC K HC)(CB:Cal P w K mg base 6 "best_division" ["capacities","fares","demands","ways"] (spBestDiv C) fB fdB):FnOk P w K mg base CX0 7 f fd ["house","capacities"] (spEarned HC C):=by
 refine F.ok scEarned (fun vs H Q E h=>?_) (fun cdv A outer s H vs Q E hr h=>?_)
 ·obtain⟨x,dx,a,b,c,d,ws,st,st',q,rfl,_⟩:=h;rfl
 ·obtain⟨x,dx,a,b,c,d,ws,st,st',q,rfl,O,hq,hj,hs,k⟩:=h;refine⟨_,pss_one (ps_ret (pe_ix ix_list (pe_call CB.ok hr rfl CB.mg CB.kp CB.b .nil pass0 (pa_cons (pv 1) (pa_cons (pe_fld (pv 0) rfl) (pa_cons (pe_fld (pv 0) rfl) (pa_cons (pe_fld (pv 0) rfl) pa_nil))))) pe_int (fun _ _=>rfl))),?_⟩;have O':HouseAs H q b c d st':=⟨hq,by unfold SN.faresI;rw[hj];exact O.fares,by unfold SN.demandsI;rw[hj];exact O.dems,⟨ws,by unfold SN.waysI;rw[hj];exact O.ways⟩⟩;refine⟨_,rfl,_,rfl,x,HC,dx,_,_,rfl,O.ins,T.cl,T.fares,hf_fares a b c d,_,rfl,x,HC,dx,_,_,rfl,O.ins,T.cl,T.dems,hf_dems a b c d,_,rfl,x,HC,dx,_,_,rfl,O.ins,T.cl,T.ways,hf_ways a b c d,
   q,b,c,d,st',rfl,O',hs,fun H2 p t S s2 np R Fi ⟨as,hp⟩=>?_⟩
  have l0:0<as.length:=by
   rw[hp.len];unfold SN.bestPairs;rw[lmp,R.glen];exact SN.prob_gpos st'
  refine⟨p,_,_,_,rfl,rfl,SqL.of hp.lst,at_of (j:=0) (by omega) (by rw[List.getElem?_map,gEe l0];rfl),?_⟩;have:=hp.at_ 0 _ (gEe l0);rw[best_get R] at this;exact k H2 _ t S s2 R Fi this
abbrev sDiff:Stmt:=defAt "difference"
def spDiff:Sp:=fun vs H Q _=>∃ (p q:Addr) (a b c d:Int),vs=[.ref p,.ref q]/\H p=some (.tup [.int a,.int b])/\H q=some (.tup [.int c,.int d])/\Sm b/\Sm d/\∀ r,H r=none->Q (.ref r) (upd H r (.tup [.int (a*d-c*b),.int (b*d)]))
theorem scDiff:FnScope ["pair","other"] ["pair","other"] (defScope sDiff):=⟨rfl,rfl,rfl,by decide +kernel,rfl,by decide +kernel,by decide +kernel⟩
theorem ok_diff{f:Addr}{fd:FuncData}(F:Fun K "difference" "difference" sDiff f fd):FnOk P w K mg base CX0 1 f fd ["pair","other"] spDiff:=by
 refine F.ok scDiff (fun vs H Q E h=>?_) (fun cdv A outer s H vs Q E hr h=>?_)
 ·obtain⟨p,q,a,b,c,d,rfl,_⟩:=h;rfl
 ·obtain⟨p,q,a,b,c,d,rfl,hp,hq,hb,hd,k⟩:=h;refine⟨_,pss_one (ps_ret (pe_tup (pa_cons (pe_op op_sub (pe_op op_mul (pe_ix ix_tup (pv 0) pe_int (fun _ _=>rfl)) (pe_ix ix_tup (pv 1) pe_int (fun _ _=>rfl))) (pe_op op_mul (pe_ix ix_tup (pv 1) pe_int (fun _ _=>rfl)) (pe_ix ix_tup (pv 0) pe_int (fun _ _=>rfl))))
   (pa_cons (pe_op op_mul (pe_ix ix_tup (pv 0) pe_int (fun _ _=>rfl)) (pe_ix ix_tup (pv 1) pe_int (fun _ _=>rfl))) pa_nil)))),?_⟩
  refine⟨_,rfl,p,_,_,_,rfl,rfl,SqT.of hp,at_of (j:=0) rfl rfl,_,rfl,q,_,_,_,rfl,rfl,SqT.of hq,at_of (j:=1) rfl rfl,_,_,rfl,rfl,.inr hd,_,rfl,q,_,_,_,rfl,rfl,SqT.of hq,at_of (j:=0) rfl rfl,_,rfl,p,_,_,_,rfl,rfl,SqT.of hp,at_of (j:=1) rfl rfl,_,_,rfl,rfl,.inr hb,_,_,rfl,rfl,
   _,rfl,p,_,_,_,rfl,rfl,SqT.of hp,at_of (j:=1) rfl rfl,_,rfl,q,_,_,_,rfl,rfl,SqT.of hq,at_of (j:=1) rfl rfl,_,_,rfl,rfl,.inr hd,(by show 2<=sizeLine;decide),fun r hr'=>k r hr'⟩
abbrev sTellGain:Stmt:=defAt "tell_gain"
def actGain(s:State)(args row:List Int):State×List Int:=Vbahar.step s (.gain ((args.getD 0 0).toNat-1))
theorem scTellGain:FnScope ["house","call","leg","raised"] ["house","call"] (defScope sTellGain):=⟨rfl,rfl,rfl,by decide +kernel,rfl,by decide +kernel,by decide +kernel⟩
theorem ok_tell_gain{f fL fT fE fD HC CC C:Addr}{fd fdL fdT fdE fdD:FuncData}(F:Fun K "tell_gain" "tell_gain" sTellGain f fd)(B:Blt mg)(T:HouC K HC)(TC:CalC K CC)(CL:Cal P w K mg base 1 "has_leg" ["house","leg"] (spHasLeg HC) fL fdL)(CT:Cal P w K mg base 2 "fractions_told" ["pairs"] spTold fT fdT)(CE:Cal P w K mg base 7 "best_earned" ["house","capacities"] (spEarned HC C) fE fdE)(CD:Cal P w K mg base 1 "difference" ["pair","other"] spDiff fD fdD)(n1:Num mg "NO_SUCH_LEG" (-7)):
  FnOk P w K mg base CX0 8 f fd ["house","call"] (spAct HC CC pre1 actGain):=by
 obtain⟨t1,n1⟩:=n1;refine F.ok scTellGain (fun vs H Q E h=>?_) (fun cdv A outer s H vs Q E hr h=>?_)
 ·obtain⟨x,dx,a,b,c,d,ws,st,y,dy,ar,rr,pl,en,args,row,rfl,_⟩:=h;rfl
 ·obtain⟨x,dx,a,b,c,d,ws,st,y,dy,ar,rr,pl,en,args,row,rfl,O,Co,r1,r2,r3,r4,q1,q2,q3,q4,hs,⟨hl,hv⟩,k⟩:=h;have hr1:Room 1 _:=hr.mono (by decide);have hr2:Room 2 _:=hr.mono (by decide);refine⟨_,pss_cons (ps_set (i:=2) scTellGain.nd rfl (.inl rfl) (pe_ix ix_list (pe_fld (pv 1) rfl) pe_int (fun _ _=>rfl)))
   (pss_cons (ps_if (pt_not (pt_val (pe_call CL.ok hr1 rfl CL.mg CL.kp CL.b .nil pass0 (pa_cons (pv 0) (pa_cons (pv 2) pa_nil))))) (pss_one (ps_ret (pe_lst (pa_cons (pe_glob (v:=.int (-7)) rfl n1 ⟨_,rfl⟩) pa_nil)))) pss_nil)
   (pss_cons (ps_set (i:=3) scTellGain.nd rfl (.inl rfl) (pe_callTy call_list_of (by rfl) B.list PyProof.Rows.boot_list (pa_cons (pe_fld (pv 0) rfl) pa_nil)))
   (pss_cons (ps_augS (pv 3) (pe_op op_sub (pv 2) pe_int) get_list pe_int ip_add set_list)
   (pss_one (ps_ret (pe_op op_cat (pe_lst (pa_cons pe_int pa_nil)) (pe_call CT.ok hr2 rfl CT.mg CT.kp CT.b .nil pass0 (pa_cons (pe_lst (pa_cons (pe_call CD.ok hr1 rfl CD.mg CD.kp CD.b .nil pass0
    (pa_cons (pe_call CE.ok hr rfl CE.mg CE.kp CE.b .nil pass0 (pa_cons (pv 0) (pa_cons (pv 3) pa_nil))) (pa_cons (pe_call CE.ok hr rfl CE.mg CE.kp CE.b .nil pass0 (pa_cons (pv 0) (pa_cons (pe_fld (pv 0) rfl) pa_nil))) pa_nil))) pa_nil)) pa_nil)))))))),?_⟩
  refine⟨_,rfl,y,CC,dy,_,_,rfl,Co.ins,TC.cl,TC.args,cf_args pl ar rr en,ar,_,_,_,rfl,rfl,SqL.of Co.args,ints_at' (i:=0) (by omega) (by omega),?_⟩;refine⟨_,rfl,_,rfl,x,dx,a,b,c,d,ws,st,_,rfl,O,_,rfl,?_⟩;generalize hj:args.getD 0 0=jz at hv;have hact:actGain st args row=Vbahar.step st (.gain (jz.toNat-1)):=by unfold actGain;rw[hj]
  rw[hact] at k;by_cases hc:jz<=(st.caps.length:Int)
  ·rw[decide_eq_true hc];refine iteF ?_;have hjl:jz.toNat-1<st.caps.length:=by omega
   have ej:jz-1=((jz.toNat-1:Nat):Int):=by omega
   generalize jz.toNat-1=l at hjl ej k;have e:Vbahar.step st (.gain l)=(st,0::Vbahar.gainOf st l):=by
    unfold Vbahar.step;simp only;rw[if_neg (by omega)]
   rw[e] at k;refine⟨_,rfl,x,HC,dx,_,_,rfl,O.ins,T.cl,T.caps,hf_caps a b c d,a,_,rfl,.inl (SqL.of O.caps),fun q hq=>?_⟩;have s1:=Same.new (o:=.lst ((capsI st).map V.int)) hq;have hg:((capsI st).map V.int)[l]?=some (V.int ((st.caps.getD l 0:Nat):Int)):=by
    rw[List.getElem?_map];unfold SN.capsI;rw[List.getElem?_map,gEe hjl,gDe,gEe hjl];rfl
   refine⟨_,rfl,_,rfl,_,_,rfl,rfl,q,_,l,_,rfl,by show V.int (jz-1)=_;rw[ej],SqL.of upd_same,hg,_,_,rfl,rfl,q,_,_,l,rfl,rfl,upd_same,?_,?_⟩
   ·rw[ej,ixN_ok (by omega) (by rw[lmp,caps_len];omega)];simp
   have hcap:((capsI st).map V.int).set l (V.int (((st.caps.getD l 0:Nat):Int)+1))=(capsI (Vbahar.withCap st l (st.caps.getD l 0+1))).map V.int:=by
    simp only[SN.capsI,Vbahar.withCap];rw[map_set_int,List.map_set];rfl
   rw[hcap];have hup:IntsAt (upd (upd H q (.lst ((capsI st).map V.int))) q (.lst ((capsI (Vbahar.withCap st l (st.caps.getD l 0+1))).map V.int))) q (capsI (Vbahar.withCap st l (st.caps.getD l 0+1))):=upd_same;have s2:Same H (upd (upd H q (.lst ((capsI st).map V.int))) q (.lst ((capsI (Vbahar.withCap st l (st.caps.getD l 0+1))).map V.int))):=fun z o e'=>by
    rw[upd_ne (ne_of_none e' hq)];exact s1 _ _ e'
   generalize upd (upd H q (.lst ((capsI st).map V.int))) q (.lst ((capsI (Vbahar.withCap st l (st.caps.getD l 0+1))).map V.int))=H2 at hup s2 ⊢;have hs2:=hs.more (l:=l);refine⟨(by show 1<=sizeLine;decide),fun l0 hl0=>?_⟩;have s3:=Same.new (o:=.lst [V.int 0]) hl0;have s23:=s2.trans s3;have O3:=O.same s23;refine⟨_,rfl,_,rfl,x,dx,a,b,c,d,ws,st,_,q,rfl,O3,s3 _ _ hup,rfl,hs2,fun H4 p4 t4 S4 s4 R4 F4 h4=>?_⟩;have O4:=O3.same s4;refine⟨_,rfl,_,rfl,x,HC,dx,_,_,rfl,O4.ins,T.cl,T.caps,hf_caps a b c d,x,dx,a,b,c,d,ws,st,st,a,rfl,O4,O4.caps,rfl,hs.small,fun H5 p5 t5 S5 s5 R5 F5 h5=>?_⟩;have d4:S4.d.natAbs<=3628800:=SN.d_abs F4.inv hs2;have d5:S5.d.natAbs<=3628800:=SN.d_abs F5.inv hs.small;have p4:=F4.inv.d;have p5':=F5.inv.d;have en:(SN.prob (Vbahar.withCap st l (st.caps.getD l 0+1))).n+(SN.prob (Vbahar.withCap st l (st.caps.getD l 0+1))).K=(SN.prob st).n+(SN.prob st).K:=by
    show st.journeys.length+((st.caps.set l _).length+st.journeys.length)=st.journeys.length+(st.caps.length+st.journeys.length);rw[List.length_set]
   rw[en] at h4;refine⟨_,_,_,_,_,_,rfl,s5 _ _ h4,h5,⟨by omega,by omega⟩,⟨by omega,by omega⟩,fun r6 hr6=>?_⟩;have s6:=Same.new (o:=.tup [V.int (S4.G 0 ((SN.prob st).n+(SN.prob st).K)*S5.d-S5.G 0 ((SN.prob st).n+(SN.prob st).K)*S4.d),V.int (S4.d*S5.d)]) hr6;have hr6':upd H5 r6 (.tup [V.int (S4.G 0 ((SN.prob st).n+(SN.prob st).K)*S5.d-S5.G 0 ((SN.prob st).n+(SN.prob st).K)*S4.d),V.int (S4.d*S5.d)]) r6=some (.tup [V.int (S4.G 0 ((SN.prob st).n+(SN.prob st).K)*S5.d-S5.G 0 ((SN.prob st).n+(SN.prob st).K)*S4.d),V.int (S4.d*S5.d)]):=upd_same;have nn:=gain_nn F5 F4;have eq:=gain_eq F5 F4 (a:=S4.G 0 ((SN.prob st).n+(SN.prob st).K)*S5.d-S5.G 0 ((SN.prob st).n+(SN.prob st).K)*S4.d) (d:=S4.d*S5.d) (Int.mul_pos p4 p5') (by rw[Int.mul_comm S5.d S4.d]);generalize S4.G 0 ((SN.prob st).n+(SN.prob st).K)*S5.d-S5.G 0 ((SN.prob st).n+(SN.prob st).K)*S4.d=ga at s6 hr6' nn eq ⊢;have hm:0<S4.d*S5.d:=Int.mul_pos p4 p5';have hm2:S4.d*S5.d<1152921504606846976:=by
    have h1:S4.d*S5.d<=3628800*S5.d:=Int.mul_le_mul_of_nonneg_right (by omega) (by omega);have h2:3628800*S5.d<=3628800*3628800:=Int.mul_le_mul_of_nonneg_left (by omega) (by omega);omega
   generalize S4.d*S5.d=gd at s6 hr6' eq hm hm2 ⊢;generalize upd H5 r6 (.tup [V.int ga,V.int gd])=H6 at s6 hr6' ⊢;refine⟨(by show 1<=sizeLine;decide),fun l7 hl7=>?_⟩;have s7:=Same.new (o:=.lst [V.ref r6]) hl7;have pa:PairsAt (upd H6 l7 (.lst [V.ref r6])) l7 [(ga,gd)]:=⟨[r6],upd_same,rfl,fun i z e'=>by
    cases i with
    | zero=>
     have:r6=z:=by simpa using e'
     subst this;exact s7 _ _ hr6'
    | succ i=>simp at e'⟩
   refine⟨l7,_,rfl,pa,fun z hz=>?_,(by show 1<=100;decide),fun H8 r8 s8 n8 h8=>?_⟩
   ·have:z=(ga,gd):=by simpa using hz
    subst this;exact⟨nn,hm,hm2⟩
   have s38:=(s4.trans s5).trans ((s6.trans s7).trans s8);refine⟨l0,r8,_,_,rfl,rfl,s38 _ _ upd_same,h8,?_,fun p9 hp9=>?_⟩
   ·rw[lmp,told_len];show 1+2*1<=sizeLine;decide
   have s28:=s23.trans s38;refine k _ p9 (ActPost.still O (s28.trans (Same.new hp9))) (s28.free hp9) ?_;unfold IntsAt;rw[upd_same,eq];simp[SN.told]
  ·rw[decide_eq_false hc];refine iteT ⟨(by show 1<=sizeLine;decide),fun p hp=>?_⟩;have e:Vbahar.step st (.gain (jz.toNat-1))=(st,[-7]):=by
    unfold Vbahar.step;simp only;rw[if_pos (by omega)]
   rw[e] at k;exact k _ p (ActPost.still O (Same.new hp)) hp upd_same
end
end My
end
section
set_option maxRecDepth 100000
set_option maxHeartbeats 2000000
namespace My
open PySem PySem.Spec PyProof.Rows L2
open Vbahar (State Journey)
open SN (jn capsI faresI demandsI waysI wayI)
section
variable{P:Program}{w:World}{K:PySem.W.Frag}{mg:Str->Option Value}{base:Heap}
abbrev sTellWhole:Stmt:=defAt "tell_whole"
def actWhole(s:State)(args row:List Int):State×List Int:=Vbahar.step s .whole
theorem scTellWhole:FnScope ["house","call"] ["house","call"] (defScope sTellWhole):=⟨rfl,rfl,rfl,by decide +kernel,rfl,by decide +kernel,by decide +kernel⟩
theorem most_sm{s:State}(g:Good s):∀ z,z∈(s.journeys.map fun j=>((Vbahar.mostOf s j:Nat):Int))->Sm (z+1):=fun z hz=>by
 obtain⟨j,hj,rfl⟩:=List.mem_map.mp hz;have h1:=(foldl_min_le (fun l=>s.caps.getD l 0) j.legs j.demand).1;have h2:=g.small.dem j hj;have h3:Vbahar.mostOf s j<=j.demand:=h1;exact⟨by omega,by omega⟩
theorem ok_tell_whole{f fC fM fB HC CC:Addr}{fd fdC fdM fdB:FuncData}(F:Fun K "tell_whole" "tell_whole" sTellWhole f fd)(T:HouC K HC)(CC':Cal P w K mg base 1 "choices" ["mosts"] spChoices fC fdC)(CM:Cal P w K mg base 2 "journey_mosts" ["capacities","demands","ways"] spMosts fM fdM)(CB:Cal P w K mg base 3 "best_whole_division" ["capacities","fares","demands","ways"] spBestWhole fB fdB)(n1:Num mg "MOST_CHOICES" 20000)(n2:Num mg "TOO_MANY_CHOICES" (-8)):FnOk P w K mg base CX0 4 f fd ["house","call"] (spAct HC CC pre0 actWhole):=by
 obtain⟨t1,n1⟩:=n1;obtain⟨t2,n2⟩:=n2;refine F.ok scTellWhole (fun vs H Q E h=>?_) (fun cdv A outer s H vs Q E hr h=>?_)
 ·obtain⟨x,dx,a,b,c,d,ws,st,y,dy,ar,rr,pl,en,args,row,rfl,_⟩:=h;rfl
 ·obtain⟨x,dx,a,b,c,d,ws,st,y,dy,ar,rr,pl,en,args,row,rfl,O,Co,r1,r2,r3,r4,q1,q2,q3,q4,hs,_,k⟩:=h;have hr1:Room 1 _:=hr.mono (by decide);have hr2:Room 2 _:=hr.mono (by decide);refine⟨_,pss_cons (ps_if (pt_cmpR op_gt (pe_call CC'.ok hr1 rfl CC'.mg CC'.kp CC'.b .nil pass0 (pa_cons (pe_call CM.ok hr2 rfl CM.mg CM.kp CM.b .nil pass0 (pa_cons (pe_fld (pv 0) rfl) (pa_cons (pe_fld (pv 0) rfl) (pa_cons (pe_fld (pv 0) rfl) pa_nil)))) pa_nil)) (pe_glob (v:=.int 20000) rfl n1 ⟨_,rfl⟩) (nomark _))
    (pss_one (ps_ret (pe_lst (pa_cons (pe_glob (v:=.int (-8)) rfl n2 ⟨_,rfl⟩) pa_nil)))) pss_nil)
   (pss_one (ps_ret (pe_op op_cat (pe_lst (pa_cons pe_int pa_nil)) (pe_call CB.ok hr rfl CB.mg CB.kp CB.b .nil pass0 (pa_cons (pe_fld (pv 0) rfl) (pa_cons (pe_fld (pv 0) rfl) (pa_cons (pe_fld (pv 0) rfl) (pa_cons (pe_fld (pv 0) rfl) pa_nil)))))))),?_⟩
  refine⟨_,rfl,x,HC,dx,_,_,rfl,O.ins,T.cl,T.caps,hf_caps a b c d,_,rfl,x,HC,dx,_,_,rfl,O.ins,T.cl,T.dems,hf_dems a b c d,_,rfl,x,HC,dx,_,_,rfl,O.ins,T.cl,T.ways,hf_ways a b c d,a,c,d,st,rfl,O.caps,O.dems,⟨ws,O.ways⟩,hs,fun H1 p s1 np hp=>?_⟩;refine⟨p,_,rfl,hp,most_sm hs,fun H2 s2=>?_⟩;rw[ways_fold st hs];have s12:=s1.trans s2;refine⟨_,_,rfl,rfl,_,rfl,?_⟩;refine ite2 (fun hc=>?_) (fun hc=>?_)
  ·have hc:=of_decide_eq_true hc;have e:actWhole st args row=(st,[-8]):=by
    unfold actWhole Vbahar.step;simp only;rw[if_pos (by show 20000<Vbahar.ways st;omega)]
   rw[e] at k;refine⟨(by show 1<=sizeLine;decide),fun q hq=>k _ q (ActPost.still O (s12.trans (Same.new hq))) (s12.free hq) upd_same⟩
  ·have hle:Vbahar.ways st<=20000:=by
    refine Nat.le_of_not_lt fun q=>hc (decide_eq_true ?_);omega
   have e:actWhole st args row=(st,0::(Vbahar.earns st (Vbahar.bestWhole st)::(Vbahar.bestWhole st).nums)):=by
    unfold actWhole Vbahar.step;simp only;rw[if_neg (by show ¬20000<Vbahar.ways st;omega)]
   rw[e] at k;refine⟨(by show 1<=sizeLine;decide),fun l hl=>?_⟩;have s3:=Same.new (o:=.lst [V.int 0]) hl;have O3:=O.same (s12.trans s3);refine⟨_,rfl,x,HC,dx,_,_,rfl,O3.ins,T.cl,T.caps,hf_caps a b c d,_,rfl,x,HC,dx,_,_,rfl,O3.ins,T.cl,T.fares,hf_fares a b c d,_,rfl,x,HC,dx,_,_,rfl,O3.ins,T.cl,T.dems,hf_dems a b c d,_,rfl,x,HC,dx,_,_,rfl,O3.ins,T.cl,T.ways,hf_ways a b c d,a,b,c,d,st,rfl,O3.as,hs,hle,fun H4 p4 s4 np4 hp4=>?_⟩;have hn:(Vbahar.bestWhole st).nums.length=st.journeys.length:=bestWhole_len st;have h5:=hs.small.jour;refine⟨l,p4,_,_,rfl,rfl,s4 _ _ upd_same,hp4,?_,fun q hq=>?_⟩
   ·rw[lmp];show 1+((Vbahar.bestWhole st).nums.length+1)<=sizeLine;rw[hn];have:=small1000 (n:=1+(st.journeys.length+1)) (by omega);omega
   have sA:=(s12.trans s3).trans s4;exact k _ q (ActPost.still O (sA.trans (Same.new hq))) (sA.free hq) upd_same
abbrev sTellFeas:Stmt:=defAt "tell_feasible"
def actFeas(s:State)(args row:List Int):State×List Int:=Vbahar.step s (.feasible (row.map Int.toNat))
def preFeas(s:State)(args row:List Int):Prop:=row.length<=5/\∀ z,z∈row->0<=z
theorem scTellFeas:FnScope ["house","call","seats","feasible"] ["house","call"] (defScope sTellFeas):=⟨rfl,rfl,rfl,by decide +kernel,rfl,by decide +kernel,by decide +kernel⟩
theorem divP_fits{s:State}{xs:List Int}(hl:xs.length=s.journeys.length)(h0:∀ z,z∈xs->0<=z):divP s xs=Vbahar.fits s {den:=1,nums:=xs}:=by
 rw[Bool.eq_iff_iff,fits_iff hl,<-feas_iff hl h0];unfold divP;rw[Bool.and_eq_true,List.all_eq_true,List.all_eq_true];refine and_congr ⟨fun h j hj=>?_,fun h b hb=>?_⟩ ⟨fun h z hz=>?_,fun h b hb=>?_⟩
 ·have hm:decide (xs.getD j 0<=(demandsI s).getD j 0)∈List.zipWith (fun g d=>decide (g<=d)) xs (demandsI s):=by
   refine List.mem_iff_getElem.mpr ⟨j,by simp[dems_len];omega,?_⟩;have h1:j<xs.length:=by omega
   have h2:j<(demandsI s).length:=by rw[dems_len];exact hj
   rw[List.getElem_zipWith];simp[gDe,h1,h2]
  have:=of_decide_eq_true (h _ hm);rwa [dems_get hj] at this
 ·obtain⟨j,hj,rfl⟩:=List.mem_iff_getElem.mp hb;have hj1:j<xs.length:=by simp at hj;omega
  have hj2:j<(demandsI s).length:=by simp at hj;omega
  have hjj:j<s.journeys.length:=by omega
  have:=h j hjj;rw[<-dems_get hjj] at this;rw[List.getElem_zipWith];have e1:xs.getD j 0=xs[j]:=by simp[gDe,hj1]
  have e2:(demandsI s).getD j 0=(demandsI s)[j]:=by simp[gDe,hj2]
  rw[e1,e2] at this;exact decide_eq_true this
 ·exact of_decide_eq_true (h _ (List.mem_map.mpr ⟨z,hz,rfl⟩))
 ·obtain⟨z,hz,rfl⟩:=List.mem_map.mp hb;exact decide_eq_true (h z hz)
theorem toNat_back{row:List Int}(h:∀ z,z∈row->0<=z):(row.map Int.toNat).map Int.ofNat=row:=by
 rw[List.map_map];refine(List.map_congr_left fun z hz=>?_).trans (List.map_id row);have:=h z hz;show((z.toNat:Nat):Int)=z;omega
theorem ok_tell_feas{f fD fE fO HC CC:Addr}{fd fdD fdE fdO:FuncData}(F:Fun K "tell_feasible" "tell_feasible" sTellFeas f fd)(B:Blt mg)(T:HouC K HC)(TC:CalC K CC)(CD:Cal P w K mg base 2 "is_division" ["seats","capacities","demands","ways"] spDivis fD fdD)(CE:Cal P w K mg base 1 "sum_earned" ["seats","fares"] spEarn fE fdE)(CO:Cal P w K mg base 1 "one_if" ["holds"] spOneIf fO fdO)(n1:Num mg "NOT_ONE_EACH" (-10)):FnOk P w K mg base CX0 3 f fd ["house","call"] (spAct HC CC preFeas actFeas):=by
 obtain⟨t1,n1⟩:=n1;refine F.ok scTellFeas (fun vs H Q E h=>?_) (fun cdv A outer s H vs Q E hr h=>?_)
 ·obtain⟨x,dx,a,b,c,d,ws,st,y,dy,ar,rr,pl,en,args,row,rfl,_⟩:=h;rfl
 ·obtain⟨x,dx,a,b,c,d,ws,st,y,dy,ar,rr,pl,en,args,row,rfl,O,Co,r1,r2,r3,r4,q1,q2,q3,q4,hs,⟨hl,h0⟩,k⟩:=h;have hr1:Room 1 _:=hr.mono (by decide);refine⟨_,pss_cons (ps_set (i:=2) scTellFeas.nd rfl (.inl rfl) (pe_fld (pv 1) rfl))
   (pss_cons (ps_if (pt_cmpR op_ne (pe_callB call_len_seq (by rfl) B.len PySem.boot_len (pa_cons (pv 2) pa_nil)) (pe_callB call_len_seq (by rfl) B.len PySem.boot_len (pa_cons (pe_fld (pv 0) rfl) pa_nil)) (nomark _)) (pss_one (ps_ret (pe_lst (pa_cons (pe_glob (v:=.int (-10)) rfl n1 ⟨_,rfl⟩) pa_nil)))) pss_nil)
   (pss_cons (ps_set (i:=3) scTellFeas.nd rfl (.inl rfl) (pe_call CD.ok hr rfl CD.mg CD.kp CD.b .nil pass0 (pa_cons (pv 2) (pa_cons (pe_fld (pv 0) rfl) (pa_cons (pe_fld (pv 0) rfl) (pa_cons (pe_fld (pv 0) rfl) pa_nil))))))
   (pss_one (ps_ret (pe_lst (pa_cons pe_int (pa_cons (pe_call CO.ok hr1 rfl CO.mg CO.kp CO.b .nil pass0 (pa_cons (pv 3) pa_nil)) (pa_cons (pe_call CE.ok hr1 rfl CE.mg CE.kp CE.b .nil pass0 (pa_cons (pv 2) (pa_cons (pe_fld (pv 0) rfl) pa_nil))) pa_nil)))))))),?_⟩
  have ew:(ws.map V.ref).length=st.journeys.length:=by rw[lmp,O.ways.len,ways_len]
  refine⟨_,rfl,y,CC,dy,_,_,rfl,Co.ins,TC.cl,TC.row,cf_row pl ar rr en,?_⟩;refine⟨_,rfl,rr,_,rfl,.inl (SqL.of Co.row),_,rfl,x,HC,dx,_,_,rfl,O.ins,T.cl,T.ways,hf_ways a b c d,d,_,rfl,.inl (SqL.of O.ways.lst),rfl,_,rfl,?_⟩;rw[ew,lmp];by_cases hn:row.length=st.journeys.length
  ·have e0:(!decide (V.int ((row.length:Nat):Int)=V.int ((st.journeys.length:Nat):Int)))=false:=by rw[hn];simp
   rw[e0];refine iteF ?_;have e:actFeas st args row=(st,[0,if Vbahar.fits st {den:=1,nums:=row}=true then 1 else 0,Vbahar.earns st {den:=1,nums:=row}]):=by
    unfold actFeas Vbahar.step;simp only;rw[if_neg (by rw[lmp];exact fun q=>q hn),toNat_back h0]
   rw[e] at k;refine⟨_,rfl,_,rfl,x,HC,dx,_,_,rfl,O.ins,T.cl,T.caps,hf_caps a b c d,_,rfl,x,HC,dx,_,_,rfl,O.ins,T.cl,T.dems,hf_dems a b c d,_,rfl,x,HC,dx,_,_,rfl,O.ins,T.cl,T.ways,hf_ways a b c d,rr,a,c,d,st,row,rfl,Co.row,O.caps,O.dems,⟨ws,O.ways⟩,hs,hn,fun H1 s1=>?_⟩;have O1:=O.same s1;refine⟨_,rfl,_,rfl,_,rfl,_,rfl,x,HC,dx,_,_,rfl,O1.ins,T.cl,T.fares,hf_fares a b c d,rr,b,_,_,rfl,s1 _ _ Co.row,O1.fares,by rw[hn,fares_len],by omega,fares_sm hs,fun H2 s2=>⟨(by show 3<=sizeLine;decide),fun p hp=>?_⟩⟩;have s12:=s1.trans s2;refine k _ p (ActPost.still O (s12.trans (Same.new hp))) (s12.free hp) ?_;unfold IntsAt;rw[upd_same,divP_fits hn h0,earn_eq];rfl
  ·have e0:(!decide (V.int ((row.length:Nat):Int)=V.int ((st.journeys.length:Nat):Int)))=true:=by
    rw[dec_int];simp;omega
   rw[e0];refine iteT ⟨(by show 1<=sizeLine;decide),fun p hp=>?_⟩;have e:actFeas st args row=(st,[-10]):=by
    unfold actFeas Vbahar.step;simp only;rw[if_pos (by rw[lmp];exact hn)]
   rw[e] at k;exact k _ p (ActPost.still O (Same.new hp)) hp upd_same
abbrev sGap:Stmt:=defAt "is_without_gap"
def lineOf(s:State)(j:Journey):Bool:=(List.range s.caps.length).all fun a=>(List.range s.caps.length).all fun b=>!(j.legs.contains a&&j.legs.contains b)||(List.range s.caps.length).all fun k=>decide (k<a)||(decide (b<k)||j.legs.contains k)
def spGap:Sp:=fun vs H Q _=>∃ (a:Addr) (s:State) (j:Journey),vs=[.ref a]/\IntsAt H a (wayI j.legs)/\Good s/\j∈s.journeys/\Q (.bl (lineOf s j)) H
theorem scGap:FnScope ["way"] ["way"] (defScope sGap):=⟨rfl,rfl,rfl,by decide +kernel,rfl,by decide +kernel,by decide +kernel⟩
theorem ok_gap{f:Addr}{fd:FuncData}(F:Fun K "is_without_gap" "is_without_gap" sGap f fd)(B:Blt mg):FnOk P w K mg base CX0 1 f fd ["way"] spGap:=by
 refine F.ok scGap (fun vs H Q E h=>?_) (fun cdv A outer s H vs Q E hr h=>?_)
 ·obtain⟨a,st,j,rfl,_⟩:=h;rfl
 ·obtain⟨a,st,j,rfl,ha,g,hj,k⟩:=h;refine⟨_,pss_one (ps_ret (pe_cmpR op_eq (pe_op op_add (pe_op op_sub (pe_callB (cr_max rfl) (by rfl) B.max PyProof.Rows.boot_max (pa_cons (pv 0) pa_nil)) (pe_callB (cr_min rfl) (by rfl) B.min PyProof.Rows.boot_min (pa_cons (pv 0) pa_nil))) pe_int) (pe_callB call_len_seq (by rfl) B.len PySem.boot_len (pa_cons (pv 0) pa_nil)) (nomark _))),?_⟩;have hl:(wayI j.legs).length=j.legs.length:=by simp[SN.wayI]
  have h1:=(g.way j hj).2.2;refine⟨_,rfl,a,_,rfl,SqL.of ha,by omega,fun mx m1 m2=>⟨_,rfl,a,_,rfl,SqL.of ha,by omega,fun mn m3 m4=>⟨_,_,rfl,rfl,_,_,rfl,rfl,_,rfl,a,_,rfl,.inl (SqL.of ha),rfl,?_⟩⟩⟩;have e:=line_one g hj m1 m2 m3 m4;rw[lmp,hl];have e2:decide (V.int (mx-mn+1)=V.int ((j.legs.length:Nat):Int))=decide (mx-mn+1=(j.legs.length:Int)):=by
   rw[dec_int];rw[Bool.eq_iff_iff];simp
  rw[e2,e];exact k
abbrev sTellLine:Stmt:=defAt "tell_line"
def actLine(s:State)(args row:List Int):State×List Int:=Vbahar.step s .line
theorem scTellLine:FnScope ["house","call","way"] ["house","call"] (defScope sTellLine):=⟨rfl,rfl,rfl,by decide +kernel,rfl,by decide +kernel,by decide +kernel⟩
theorem ok_tell_line{f fG fO HC CC:Addr}{fd fdG fdO:FuncData}(F:Fun K "tell_line" "tell_line" sTellLine f fd)(B:Blt mg)(T:HouC K HC)(CG:Cal P w K mg base 1 "is_without_gap" ["way"] spGap fG fdG)(CO:Cal P w K mg base 1 "one_if" ["holds"] spOneIf fO fdO):FnOk P w K mg base CX0 2 f fd ["house","call"] (spAct HC CC pre0 actLine):=by
 refine F.ok scTellLine (fun vs H Q E h=>?_) (fun cdv A outer s H vs Q E hr h=>?_)
 ·obtain⟨x,dx,a,b,c,d,ws,st,y,dy,ar,rr,pl,en,args,row,rfl,_⟩:=h;rfl
 ·obtain⟨x,dx,a,b,c,d,ws,st,y,dy,ar,rr,pl,en,args,row,rfl,O,Co,r1,r2,r3,r4,q1,q2,q3,q4,hs,_,k⟩:=h;refine⟨_,pss_one (ps_ret (pe_lst (pa_cons pe_int (pa_cons (pe_call CO.ok hr rfl CO.mg CO.kp CO.b .nil pass0 (pa_cons (pe_callB (cr_all rfl) (by rfl) B.all PyProof.Rows.boot_all (pa_cons (pe_lc rfl scTellLine.nd (pi_list (pe_fld (pv 0) rfl)) (blkOk_by (own:=[("way",2)]) (by rfl)) (fun _ _ _ _ _=>pg_name (i:=2) scTellLine.nd rfl (.inl rfl))
   (fun _ _ _ _ _=>pts_nil) (fun _ _ _ _ _=>pe_call CG.ok hr rfl CG.mg CG.kp CG.b .nil pass0 (pa_cons (pv 2) pa_nil))) pa_nil)) pa_nil)) pa_nil)))),?_⟩
  have lw:ws.length=st.journeys.length:=by rw[O.ways.len,ways_len]
  have h5:=hs.small.jour;refine⟨_,rfl,x,HC,dx,_,_,rfl,O.ins,T.cl,T.ways,hf_ways a b c d,d,rfl,⟨_,SqL.of O.ways.lst⟩,fun D hD=>?_⟩;refine coll_vals (n:=(ws.map V.ref).length) (fun i u H3=>(ws.map V.ref)[i]?=some u) ((st.journeys.map (lineOf st)).map V.bl) (itl_go (SqL.of O.ways.lst)) (itl_stop (SqL.of O.ways.lst)) (itl_yld (SqL.of O.ways.lst)) (by simp[lw]) (by rw[lmp];omega) hD ?_ (fun H1 s1 hq=>?_)
  ·intro i u v H4 R' hi hv sm hu hR;obtain⟨z,hz,rfl⟩:=refs_get hu;obtain⟨rfl,hi1⟩:=getV hv false;rw[lmp] at hi1;rw[SN.getD_map_lt _ _ _ SN.jz _ hi1] at hR;have hrow:=O.ways.at_ i z hz;rw[ways_get hi1] at hrow;exact⟨rfl,_,rfl,z,st,jn st i,rfl,sm _ _ hrow,hs,jn_mem hi1,hR H4 (Same.refl _)⟩
  ·refine⟨D,_,rfl,SqL.of hq,_,rfl,(by show 2<=sizeLine;decide),fun p hp=>?_⟩;refine k _ p (ActPost.still O (s1.trans (Same.new hp))) (s1.free hp) ?_;unfold IntsAt;rw[upd_same];have e:((st.journeys.map (lineOf st)).all id)=Vbahar.onLine st:=by rw[List.all_map];rfl
   rw[e];rfl
abbrev sClear:Stmt:=defAt "clear_house"
def actClear(s:State)(args row:List Int):State×List Int:=Vbahar.step s .clear
theorem scClear:FnScope ["house","call"] ["house","call"] (defScope sClear):=⟨rfl,rfl,rfl,by decide +kernel,rfl,by decide +kernel,by decide +kernel⟩
structure Emp(H H1:Hp)(x C dx:Addr)(fs:List (Str×V))(L:List Addr):Prop where
 bld:Bld H H1 x C dx fs
 nil:∀ z,z∈L->H1 z=some (.lst [])/\H z=none
theorem Emp.step{H H1:Hp}{x C dx p:Addr}{fs:List (Str×V)}{L:List Addr}(e:Emp H H1 x C dx fs L)(hp:H1 p=none)(fs':List (Str×V)):
  Emp H (upd (upd H1 p (.lst [])) x (.ins C dx fs')) x C dx fs' (p::L)/\upd H1 p (.lst []) x=some (.ins C dx fs)/\∀ z,z∈L->z≠p:=by
 have nx:x≠p:=ne_of_none e.bld.ins hp;have nL:∀ z,z∈L->z≠p:=fun z hz=>ne_of_none (e.nil z hz).1 hp;refine⟨⟨⟨fun y o q n=>?_,upd_same⟩,fun z hz=>?_⟩,by rw[upd_ne nx];exact e.bld.ins,nL⟩
 ·have h1:=e.bld.keep y o q n;rw[upd_ne n,upd_ne (ne_of_none h1 hp)];exact h1
 ·rcases List.mem_cons.mp hz with q | q
  ·rw[q,upd_ne nx.symm];exact⟨upd_same,e.bld.free hp⟩
  ·have h1:=e.nil z q;have zx:z≠x:=fun q'=>by rw[q',e.bld.ins] at h1;cases h1.1
   rw[upd_ne zx,upd_ne (nL z q)];exact h1
theorem ok_clear{f HC CC:Addr}{fd:FuncData}(F:Fun K "clear_house" "clear_house" sClear f fd)(T:HouC K HC):FnOk P w K mg base CX0 1 f fd ["house","call"] (spAct HC CC pre0 actClear):=by
 refine F.ok scClear (fun vs H Q E h=>?_) (fun cdv A outer s H vs Q E hr h=>?_)
 ·obtain⟨x,dx,a,b,c,d,ws,st,y,dy,ar,rr,pl,en,args,row,rfl,_⟩:=h;rfl
 ·obtain⟨x,dx,a,b,c,d,ws,st,y,dy,ar,rr,pl,en,args,row,rfl,O,Co,r1,r2,r3,r4,q1,q2,q3,q4,hs,_,k⟩:=h;refine⟨_,pss_cons (ps_fld (pv 0) (pe_lst pa_nil) rfl) (pss_cons (ps_fld (pv 0) (pe_lst pa_nil) rfl) (pss_cons (ps_fld (pv 0) (pe_lst pa_nil) rfl) (pss_cons (ps_fld (pv 0) (pe_lst pa_nil) rfl) (pss_one (ps_ret (pe_lst (pa_cons pe_int pa_nil))))))),?_⟩;have e0:Emp H H x HC dx (hf a b c d) []:=⟨⟨fun _ _ q _=>q,O.ins⟩,fun z hz=>by cases hz⟩;refine⟨Nat.zero_le _,fun a' ha=>?_⟩;have e1:=e0.step ha (putF "capacities" (V.ref a') (hf a b c d));refine⟨_,rfl,x,HC,dx,_,rfl,e1.2.1,T.cl,T.caps,(by show 4<1000;decide),?_⟩;rw[show putF "capacities" (V.ref a') (hf a b c d)=hf a' b c d from putF_in (pre:=[]) rfl] at e1 ⊢;obtain⟨e1,_,_⟩:=e1;generalize upd (upd H a' (.lst [])) x (.ins HC dx (hf a' b c d))=H1 at e1 ⊢;refine⟨Nat.zero_le _,fun b' hb=>?_⟩;have e2:=e1.step hb (putF "fares" (V.ref b') (hf a' b c d));refine⟨_,rfl,x,HC,dx,_,rfl,e2.2.1,T.cl,T.fares,(by show 4<1000;decide),?_⟩;rw[show putF "fares" (V.ref b') (hf a' b c d)=hf a' b' c d from putF_in (pre:=[("capacities",.ref a')]) (show(["capacities"]:List Str).contains "fares"=false by decide +kernel)] at e2 ⊢;obtain⟨e2,_,m2⟩:=e2;generalize upd (upd H1 b' (.lst [])) x (.ins HC dx (hf a' b' c d))=H2 at e2 ⊢;refine⟨Nat.zero_le _,fun c' hc=>?_⟩;have e3:=e2.step hc (putF "demands" (V.ref c') (hf a' b' c d));refine⟨_,rfl,x,HC,dx,_,rfl,e3.2.1,T.cl,T.dems,(by show 4<1000;decide),?_⟩;rw[show putF "demands" (V.ref c') (hf a' b' c d)=hf a' b' c' d from putF_in (pre:=[("capacities",.ref a'),("fares",.ref b')]) (show(["capacities","fares"]:List Str).contains "demands"=false by decide +kernel)] at e3 ⊢;obtain⟨e3,_,m3⟩:=e3;generalize upd (upd H2 c' (.lst [])) x (.ins HC dx (hf a' b' c' d))=H3 at e3 ⊢;refine⟨Nat.zero_le _,fun d' hd=>?_⟩;have e4:=e3.step hd (putF "ways" (V.ref d') (hf a' b' c' d));refine⟨_,rfl,x,HC,dx,_,rfl,e4.2.1,T.cl,T.ways,(by show 4<1000;decide),?_⟩;rw[show putF "ways" (V.ref d') (hf a' b' c' d)=hf a' b' c' d' from putF_in (pre:=[("capacities",.ref a'),("fares",.ref b'),("demands",.ref c')]) (show(["capacities","fares","demands"]:List Str).contains "ways"=false by decide +kernel)] at e4 ⊢;obtain⟨e4,_,m4⟩:=e4;generalize upd (upd H3 d' (.lst [])) x (.ins HC dx (hf a' b' c' d'))=H4 at e4 ⊢;refine⟨(by show 1<=sizeLine;decide),fun p hp=>?_⟩;have n4:=e4.nil;have O4:HouseOb HC H4 x dx a' b' c' d' [] Vbahar.start:=by
   refine⟨e4.bld.ins,(n4 a' (by simp)).1,(n4 b' (by simp)).1,(n4 c' (by simp)).1,⟨(n4 d' (by simp)).1,rfl,fun i z q=>by simp at q⟩,m2 a' (by simp),m3 a' (by simp),m3 b' (by simp),(m4 a' (by simp)).symm,(m4 b' (by simp)).symm,(m4 c' (by simp)).symm,fun z hz=>by cases hz⟩
  refine k _ p ⟨⟨a',b',c',d',[],O4.same (Same.new hp),fun z hz=>.inr (n4 z (by simp at hz ⊢;rcases hz with q | q | q | q<;>simp[q])).2,fun z hz=>by cases hz⟩,fun z o e n _ _ _ _=>Same.new hp _ _ (e4.bld.keep z o e n)⟩ (e4.bld.free hp) upd_same
abbrev sShown:Stmt:=defAt "tell_shown"
def actShown(s:State)(args row:List Int):State×List Int:=Vbahar.step s .shown
theorem scShown:FnScope ["house","call","told","fare","demand","way"] ["house","call"] (defScope sShown):=⟨rfl,rfl,rfl,by decide +kernel,rfl,by decide +kernel,by decide +kernel⟩
def oneShown(j:Journey):List Int:=[(j.fare:Int),(j.demand:Int),(j.legs.length:Int)]++wayI j.legs
def shownTo(s:State)(i:Nat):List Int:=[0,(s.caps.length:Int)]++capsI s++(s.journeys.take i).flatMap oneShown
theorem one_shown(j:Journey):oneShown j=([j.fare,j.demand,j.legs.length]++j.legs.map fun l=>l+1).map Int.ofNat:=by
 unfold oneShown SN.wayI;rw[List.map_append,List.map_map];rfl
theorem shown_all(s:State):shownTo s s.journeys.length=(Vbahar.step s .shown).2:=by
 unfold shownTo;rw[List.take_length];have e:(s.journeys.flatMap fun j=>[j.fare,j.demand,j.legs.length]++j.legs.map fun l=>l+1).map Int.ofNat=s.journeys.flatMap oneShown:=by
  rw[List.map_flatMap];exact congrArg (fun f=>s.journeys.flatMap f) (funext fun j=>(one_shown j).symm)
 show _=0::List.map Int.ofNat (s.caps.length::s.caps++s.journeys.flatMap fun j=>[j.fare,j.demand,j.legs.length]++j.legs.map fun l=>l+1);rw[List.map_append,e];rfl
theorem shown_le{s:State}(g:Good s){i:Nat}(h:i<=s.journeys.length):(shownTo s i).length<=7+8*i:=by
 unfold shownTo;have h5:=g.small.legs;have:=flatMap_le (f:=oneShown) (b:=8) (l:=s.journeys.take i) fun j hj=>by
  obtain⟨m,hm,e⟩:=List.mem_iff_getElem.mp (List.mem_of_mem_take hj);have:=way_len g hm;have ej:jn s m=j:=by unfold SN.jn;rw[gDe,gEe hm,e];rfl
  rw[ej] at this;unfold oneShown;rw[List.length_append];show 3+_<=8;omega
 rw[List.length_append,List.length_append,caps_len];rw[List.length_take] at this;show 2+_+_<=_;omega
theorem ok_shown{f HC CC:Addr}{fd:FuncData}(F:Fun K "tell_shown" "tell_shown" sShown f fd)(B:Blt mg)(T:HouC K HC):FnOk P w K mg base CX0 1 f fd ["house","call"] (spAct HC CC pre0 actShown):=by
 refine F.ok scShown (fun vs H Q E h=>?_) (fun cdv A outer s H vs Q E hr h=>?_)
 ·obtain⟨x,dx,a,b,c,d,ws,st,y,dy,ar,rr,pl,en,args,row,rfl,_⟩:=h;rfl
 ·obtain⟨x,dx,a,b,c,d,ws,st,y,dy,ar,rr,pl,en,args,row,rfl,O,Co,r1,r2,r3,r4,q1,q2,q3,q4,hs,_,k⟩:=h;refine⟨_,pss_cons (ps_set (i:=2) scShown.nd rfl (.inl rfl) (pe_op op_cat (pe_lst (pa_cons pe_int (pa_cons (pe_callB call_len_seq (by rfl) B.len PySem.boot_len (pa_cons (pe_fld (pv 0) rfl) pa_nil)) pa_nil))) (pe_fld (pv 0) rfl)))
   (pss_cons (ps_for PassesOwn.never rfl (pi_zip3 rfl B.zip (pa_cons (pe_fld (pv 0) rfl) (pa_cons (pe_fld (pv 0) rfl) (pa_cons (pe_fld (pv 0) rfl) pa_nil)))) (pg_tup rfl (pgs_cons (pg_name (i:=3) scShown.nd rfl (.inl rfl)) (pgs_cons (pg_name (i:=4) scShown.nd rfl (.inl rfl)) (pgs_cons (pg_name (i:=5) scShown.nd rfl (.inl rfl)) pgs_nil))))
    (pss_one (ps_expr (pe_bm PySem.F.plainAttrs_list PySem.F.slot_list_extend PySem.F.type_list_extend mt_extend (pv 2) (pa_cons (pe_op op_cat (pe_lst (pa_cons (pv 3) (pa_cons (pv 4) (pa_cons (pe_callB call_len_seq (by rfl) B.len PySem.boot_len (pa_cons (pv 5) pa_nil)) pa_nil)))) (pv 5)) pa_nil)))))
   (pss_one (ps_ret (pv 2)))),?_⟩
  have h5:=hs.small.jour;have h6:=hs.small.legs;have lw:ws.length=st.journeys.length:=by rw[O.ways.len,ways_len]
  refine⟨_,rfl,x,HC,dx,_,_,rfl,O.ins,T.cl,T.caps,hf_caps a b c d,a,_,rfl,.inl (SqL.of O.caps),(by show 2<=sizeLine;decide),fun l hl=>?_⟩;have s1:=Same.new (o:=.lst [V.int 0,V.int (((capsI st).map V.int).length:Nat)]) hl;have O1:=O.same s1;refine⟨_,rfl,x,HC,dx,_,_,rfl,O1.ins,T.cl,T.caps,hf_caps a b c d,l,a,_,_,rfl,rfl,upd_same,O1.caps,?_,fun q hq=>?_⟩
  ·rw[lmp,caps_len];show 2+st.caps.length<=sizeLine;have:=small1000 (n:=2+st.caps.length) (by omega);omega
  have s2:=s1.trans (Same.new (o:=.lst ([V.int 0,V.int (((capsI st).map V.int).length:Nat)]++(capsI st).map V.int)) hq);have nq:=s1.free hq;have i2:IntsAt (upd (upd H l (.lst [V.int 0,V.int (((capsI st).map V.int).length:Nat)])) q (.lst ([V.int 0,V.int (((capsI st).map V.int).length:Nat)]++(capsI st).map V.int))) q (shownTo st 0):=by
   unfold IntsAt shownTo;rw[upd_same,lmp,caps_len];simp
  generalize upd (upd H l (.lst [V.int 0,V.int (((capsI st).map V.int).length:Nat)])) q (.lst ([V.int 0,V.int (((capsI st).map V.int).length:Nat)]++(capsI st).map V.int))=H2 at s2 i2 ⊢;have O2:=O.same s2;refine⟨_,rfl,x,HC,dx,_,_,rfl,O2.ins,T.cl,T.fares,hf_fares a b c d,_,rfl,x,HC,dx,_,_,rfl,O2.ins,T.cl,T.dems,hf_dems a b c d,_,rfl,x,HC,dx,_,_,rfl,O2.ins,T.cl,T.ways,hf_ways a b c d,b,c,d,_,_,_,rfl,SqL.of O2.fares,SqL.of O2.dems,SqL.of O2.ways.lst,?_⟩;refine for_it (n:=((faresI st).map V.int).length) (fun i σ H'=>∃ v3 v4 v5,σ=[some (.ref x),some (.ref y),some (.ref q),v3,v4,v5]/\Same H H'/\IntsAt H' q (shownTo st i))
   ⟨none,none,none,rfl,s2,i2⟩ (fun i σ H' hi ⟨_,_,_,_,sm,_⟩=>⟨_,_,_,_,_,_,SqL.of (sm _ _ O.fares),SqL.of (sm _ _ O.dems),SqL.of (sm _ _ O.ways.lst),gEe hi,gEe (by simp[dems_len,fares_len] at hi ⊢;exact hi),gEe (by simp[fares_len] at hi ⊢;omega)⟩)
   (fun σ H' ⟨_,_,_,_,sm,_⟩=>⟨_,_,_,SqL.of (sm _ _ O.fares),SqL.of (sm _ _ O.dems),SqL.of (sm _ _ O.ways.lst),Nat.le_refl _⟩) ?_ ?_
  ·rintro i z σ H' H'' hi ⟨v3,v4,v5,rfl,sm,hI⟩ ⟨Tp,u,v,t,rfl,hT,rfl,y1,y2,y3⟩;obtain⟨rfl,hi1⟩:=ints_get (y1 _ (SqL.of (sm _ _ O.fares)));obtain⟨rfl,hi2⟩:=ints_get (y2 _ (SqL.of (sm _ _ O.dems)));obtain⟨b',hb',rfl⟩:=refs_get (y3 _ (SqL.of (sm _ _ O.ways.lst)));have hij:i<st.journeys.length:=by rw[<-fares_len];exact hi1
   have hrow:=sm _ _ (O.ways.at_ i b' hb');rw[ways_get hij] at hrow;rw[fares_get hij,dems_get hij];have sT:=Same.new (o:=.tup [V.int ((jn st i).fare:Int),V.int ((jn st i).demand:Int),V.ref b']) hT;refine⟨Tp,_,rfl,SqT.of upd_same,rfl,_,_,rfl,_,_,rfl,_,_,rfl,rfl,?_⟩;have hI1:=sT _ _ hI;have hrow1:=sT _ _ hrow;have smT:=sm.trans sT;generalize upd H' Tp (.tup [V.int ((jn st i).fare:Int),V.int ((jn st i).demand:Int),V.ref b'])=H1 at hI1 hrow1 smT ⊢;refine⟨_,rfl,.inl ⟨rfl,_,SqL.of hI1⟩,_,rfl,_,rfl,_,rfl,b',_,rfl,.inl (SqL.of hrow1),(by show 3<=sizeLine;decide),fun l1 hl1=>?_⟩;have t1:=Same.new (o:=.lst [V.int ((jn st i).fare:Int),V.int ((jn st i).demand:Int),V.int (((wayI (jn st i).legs).map V.int).length:Nat)]) hl1;have hw:=way_len hs hij;refine⟨_,rfl,l1,b',_,_,rfl,rfl,upd_same,t1 _ _ hrow1,?_,fun l2 hl2=>?_⟩
   ·rw[lmp];show 3+_<=sizeLine;have:=small1000 (n:=3+(wayI (jn st i).legs).length) (by omega);omega
   have t2:=t1.trans (Same.new (o:=.lst ([V.int ((jn st i).fare:Int),V.int ((jn st i).demand:Int),V.int (((wayI (jn st i).legs).map V.int).length:Nat)]++(wayI (jn st i).legs).map V.int)) hl2);have e1:[V.int ((jn st i).fare:Int),V.int ((jn st i).demand:Int),V.int (((wayI (jn st i).legs).map V.int).length:Nat)]++(wayI (jn st i).legs).map V.int=(oneShown (jn st i)).map V.int:=by
    unfold oneShown;simp[SN.wayI]
   have sl:=shown_le hs (i:=i) (by omega);refine⟨q,l2,_,_,rfl,rfl,t2 _ _ hI1,upd_same,?_,?_⟩
   ·rw[e1,lmp,lmp];have:(oneShown (jn st i)).length<=8:=by unfold oneShown;rw[List.length_append];show 3+_<=8;omega
    have:=small1000 (n:=(shownTo st i).length+(oneShown (jn st i)).length) (by omega);omega
   ·refine⟨_,_,_,rfl,?_,?_⟩
    ·intro z o e;rw[upd_ne (ne_of_none e nq)];exact t2 _ _ (smT _ _ e)
    ·unfold IntsAt;rw[upd_same,e1,<-List.map_append];have:shownTo st (i+1)=shownTo st i++oneShown (jn st i):=by
      unfold shownTo;rw[take_flat (x:=jn st i) (by unfold SN.jn;rw[gDe,gEe hij];rfl)];simp only[List.append_assoc]
     rw[this]
  ·rintro σ H' ⟨v3,v4,v5,rfl,sm,hI⟩;rw[lmp,fares_len,shown_all] at hI;exact⟨_,rfl,k H' q (ActPost.still O sm) nq hI⟩
end
end My
end
section
set_option maxRecDepth 100000
set_option maxHeartbeats 2000000
namespace My
open PySem PySem.Spec PyProof.Rows L2
open Vbahar (State)
structure DefIn(K:PySem.W.Frag)(x:Str)(st:Stmt)(f:Addr):Prop where
 ns:PySem.W.nsIn K mainGlobals x=some (some (.ref f))
 ex:∃ fd,Fun K x x st f fd
theorem defIn_mk{K:PySem.W.Frag}{x:Str}{st:Stmt}{f:Addr}{oc:Value}{od an:Option Addr}{osl:Array (Option Value)}{kV doc pm cdv ct:Value}(a:PySem.W.nsIn K mainGlobals x=some (some (.ref f)))(l:K.lookup f=some ⟨oc,od,.func (PySem.W.fnOf x x (defArgs st) (defBody st) (defScope st) .none kV doc pm an cdv ct),osl⟩)(c:PySem.W.codeIn K cdv x=true)(k:PySem.W.keepIn K (.ref f)=true):DefIn K x st f:=⟨a,_,fun_mk l c k⟩
structure ClsIn(K:PySem.W.Frag)(x qual:Str)(st:Stmt)(C f:Addr):Prop where
 ns:PySem.W.nsIn K mainGlobals x=some (some (.ref C))
 maker:Mk K C f
 cl:Cls K C
 ex:∃ fd,Fun K "__init__" qual st f fd
theorem clsIn_mk{K:PySem.W.Frag}{x qual:Str}{st:Stmt}{C f:Addr}{oc:Value}{od an:Option Addr}{osl:Array (Option Value)}{kV doc pm cdv ct:Value}(a:PySem.W.nsIn K mainGlobals x=some (some (.ref C)))(a1:PySem.W.findIn K (.ref C) "__init__"=some (some (.ref f)))(i1:PySem.W.isFn K (.ref f)=true)(l:K.lookup f=some ⟨oc,od,.func (PySem.W.fnOf "__init__" qual (defArgs st) (defBody st) (defScope st) .none kV doc pm an cdv ct),osl⟩)(c:PySem.W.codeIn K cdv qual=true)(k:PySem.W.keepIn K (.ref f)=true)(pg:PySem.W.plainGet K C Str.empty=true)(hd:PySem.W.hasDictIn K C=true)(po:PySem.W.plainOver K C=true)(sa:PySem.W.findIn K (.ref C) "__setattr__"=some (some (.builtin "object.__setattr__")))(mk:PySem.W.makesIn K C=true)(kc:PySem.W.keepIn K (.ref C)=true):
  ClsIn K x qual st C f:=⟨a,⟨mk,a1,i1,kc⟩,⟨pg,hd,po,sa⟩,_,fun_mk l c k⟩
def NumIn(K:PySem.W.Frag)(x:Str)(n:Int):Prop:=∃ t,PySem.W.nsIn K mainGlobals x=some (some (.int n t))
theorem numIn_mk{K:PySem.W.Frag}{x:Str}{n:Int}{t:Tok}(a:PySem.W.nsIn K mainGlobals x=some (some (.int n t))):NumIn K x n:=⟨t,a⟩
theorem NumIn.num{K:PySem.W.Frag}{h:Heap}{mg:Str->Option Value}{x:Str}{n:Int}(X:K.In h)(G:h.Ns mainGlobals mg)(a:NumIn K x n):Num mg x n:=by
 obtain⟨t,a⟩:=a;exact⟨t,PySem.W.mg_of X G a⟩
theorem pair_mk{K:PySem.W.Frag}{b:Addr}{od:Option Addr}{n:Nat}{sl:Array (Option Value)}{lo hi:Int}{t t':Tok}(h:K.lookup b=some ⟨.type "tuple",od,.seq #[.int lo t,.int hi t'] n,sl⟩):KTup K b [.int lo,.int hi]:=
 ⟨_,_,_,h,rfl,rfl,by show 2<=sizeLine;decide,.cons ⟨_,rfl⟩ (.cons ⟨_,rfl⟩ .nil)⟩
theorem bnd0_mk{K:PySem.W.Frag}{t:Addr}{od:Option Addr}{n:Nat}{sl:Array (Option Value)}(h:K.lookup t=some ⟨.type "tuple",od,.seq #[] n,sl⟩):Bnds K t []:=
 ⟨[],⟨_,_,_,h,rfl,rfl,by show 0<=sizeLine;decide,.nil⟩,rfl,fun i b e=>by cases e⟩
theorem bnd1_mk{K:PySem.W.Frag}{t b:Addr}{od:Option Addr}{n:Nat}{sl:Array (Option Value)}{lo hi:Int}(h:K.lookup t=some ⟨.type "tuple",od,.seq #[.ref b] n,sl⟩)(h1:KTup K b [.int lo,.int hi]):Bnds K t [(lo,hi)]:=
 ⟨[b],⟨_,_,_,h,rfl,rfl,by show 1<=sizeLine;decide,.cons rfl .nil⟩,rfl,fun i c e=>by
  match i,e with
  | 0,e=>cases e;exact h1⟩
theorem bnd2_mk{K:PySem.W.Frag}{t b c:Addr}{od:Option Addr}{n:Nat}{sl:Array (Option Value)}{lo hi lo' hi':Int}(h:K.lookup t=some ⟨.type "tuple",od,.seq #[.ref b,.ref c] n,sl⟩)(h1:KTup K b [.int lo,.int hi])(h2:KTup K c [.int lo',.int hi']):
  Bnds K t [(lo,hi),(lo',hi')]:=
 ⟨[b,c],⟨_,_,_,h,rfl,rfl,by show 2<=sizeLine;decide,.cons rfl (.cons rfl .nil)⟩,rfl,fun i d e=>by
  match i,e with
  | 0,e=>cases e;exact h1
  | 1,e=>cases e;exact h2⟩
inductive TabEs(K:PySem.W.Frag):List (Int×List (Int×Int))->List (Int×V)->Prop
 | nil:TabEs K [] []
 | cons {p:Int} {bs:List (Int×Int)} {t:Addr} {l:List (Int×List (Int×Int))} {kvs:List (Int×V)}:Bnds K t bs->TabEs K l kvs->TabEs K ((p,bs)::l) ((p,.ref t)::kvs)
def tabOf(l:List (Int×List (Int×Int)))(p:Int):Option (List (Int×Int)):=(l.find? fun q=>q.1=p).map (·.2)
theorem TabEs.at{K:PySem.W.Frag}{l:List (Int×List (Int×Int))}{kvs:List (Int×V)}(h:TabEs K l kvs)(p:Int):(tabOf l p=none->lk kvs p=none)/\∀ bs,tabOf l p=some bs->∃ t,lk kvs p=some (.ref t)/\Bnds K t bs:=by
 induction h with
 | nil=>exact⟨fun _=>rfl,fun bs e=>by cases e⟩
 | @cons q bs' t l kvs hB _ ih=>
  unfold tabOf lk at ih ⊢;simp only[List.find?_cons];by_cases e:q=p
  ·have e1:(decide (q=p))=true:=decide_eq_true e;simp only[e1];refine⟨fun z=>(by cases z),fun bs z=>?_⟩;cases z;exact⟨t,rfl,hB⟩
  ·have e1:(decide (q=p))=false:=decide_eq_false e;simp only[e1];exact ih
theorem TabEs.keys{K:PySem.W.Frag}{l:List (Int×List (Int×Int))}{kvs:List (Int×V)}(h:TabEs K l kvs):kvs.map (·.1)=l.map (·.1):=by
 induction h with
 | nil=>rfl
 | cons _ _ ih=>rw[List.map_cons,List.map_cons,ih]
theorem tabl_mk{K:PySem.W.Frag}{d:Addr}{l:List (Int×List (Int×Int))}{kvs:List (Int×V)}{es:List DictEntry}{ep:Nat}(hd:(d==sysModules)=false)(h:K.lookup d=some {cls:=.type "dict",data:=.dict es.toArray ep})(hE:IntEs kvs es)(hT:TabEs K l kvs)(nd:(l.map (·.1)).Nodup):
  Tabl K d (tabOf l):=⟨kvs,⟨hd,⟨es,ep,h,hE⟩,by rw[hT.keys];exact nd⟩,hT.at⟩
theorem tab_cons(p:Int)(bs:List (Int×Int))(l:List (Int×List (Int×Int)))(z:Int):tabOf ((p,bs)::l) z=if z=p then some bs else tabOf l z:=by
 unfold tabOf;rw[List.find?_cons];by_cases e:z=p
 ·rw[if_pos e];simp[e]
 ·have:decide (p=z)=false:=decide_eq_false fun q=>e q.symm;rw[if_neg e];simp[this]
theorem tab_nil(z:Int):tabOf [] z=none:=rfl
abbrev ent(k:Int)(t:Tok)(a:Addr):DictEntry:=⟨hashInt k,.int k t,.ref a⟩
theorem ent_cons{k:Int}{t:Tok}{a:Addr}{kvs:List (Int×V)}{es:List DictEntry}(h:IntEs kvs es):IntEs ((k,.ref a)::kvs) (ent k t a::es):=.cons rfl h
theorem calls_of{K:PySem.W.Frag}{H:Hp}(hO:OnlyF H){b:Addr}{xs:List V}(h:SqL K H b xs):CallsAt K H b xs:=by
 rcases h with (h | h) | h
 ·rcases hO b with q | ⟨o,u,q⟩
  ·rw[q] at h;cases h
  ·rw[q] at h;cases h
 ·exact .inl h
 ·exact .inr h
inductive ActEs(P:Program)(w:World)(K:PySem.W.Frag)(mg:Str->Option Value)(base:Heap)(HC CC:Addr)(k:Nat)(rtab:Int->Option (List (Int×Int)))(act:Int->State->List Int->List Int->State×List Int):List (Int×List (Int×Int))->List (Int×V)->Prop
 | nil:ActEs P w K mg base HC CC k rtab act [] []
 | cons {p:Int} {bs:List (Int×Int)} {f:Addr} {fd:FuncData} {pre:State->List Int->List Int->Prop} {l:List (Int×List (Int×Int))} {kvs:List (Int×V)}:PySem.W.keepIn K (.ref f)=true->Binds K fd ["house","call"] []->FnOk P w K mg base CX0 k f fd ["house","call"] (spAct HC CC pre (act p))->
   (∀ s args row,args.length=bs.length->callOk rtab p bs args row=true->pre s args row)->ActEs P w K mg base HC CC k rtab act l kvs->ActEs P w K mg base HC CC k rtab act ((p,bs)::l) ((p,.ref f)::kvs)
theorem ActEs.keys{P:Program}{w:World}{K:PySem.W.Frag}{mg:Str->Option Value}{base:Heap}{HC CC:Addr}{k:Nat}{rtab:Int->Option (List (Int×Int))}{act:Int->State->List Int->List Int->State×List Int}{l:List (Int×List (Int×Int))}{kvs:List (Int×V)}(h:ActEs P w K mg base HC CC k rtab act l kvs):kvs.map (·.1)=l.map (·.1):=by
 induction h with
 | nil=>rfl
 | cons _ _ _ _ _ ih=>rw[List.map_cons,List.map_cons,ih]
theorem ActEs.at{P:Program}{w:World}{K:PySem.W.Frag}{mg:Str->Option Value}{base:Heap}{HC CC:Addr}{k:Nat}{rtab:Int->Option (List (Int×Int))}{act:Int->State->List Int->List Int->State×List Int}{l:List (Int×List (Int×Int))}{kvs:List (Int×V)}(h:ActEs P w K mg base HC CC k rtab act l kvs):∀ pl bs,tabOf l pl=some bs->∃ (f:Addr) (fd:FuncData) (pre:State->List Int->List Int->Prop),lk kvs pl=some (.ref f)/\PySem.W.keepIn K (.ref f)=true/\Binds K fd ["house","call"] []/\
  FnOk P w K mg base CX0 k f fd ["house","call"] (spAct HC CC pre (act pl))/\∀ s args row,args.length=bs.length->callOk rtab pl bs args row=true->pre s args row:=by
 induction h with
 | nil=>intro pl bs e;cases e
 | @cons q bs' f fd pre l kvs h1 h2 h3 h4 _ ih=>
  intro p bs hz;have ih:=ih p bs;unfold tabOf at ih hz;unfold lk at ih ⊢;simp only[List.find?_cons] at hz ⊢;by_cases e:q=p
  ·have e1:(decide (q=p))=true:=decide_eq_true e;simp only[e1] at hz ⊢;cases hz;subst e;exact⟨f,fd,pre,rfl,h1,h2,h3,h4⟩
  ·have e1:(decide (q=p))=false:=decide_eq_false e;simp only[e1] at hz ⊢;exact ih hz
theorem acts_mk{P:Program}{w:World}{K:PySem.W.Frag}{mg:Str->Option Value}{base:Heap}{HC CC:Addr}{k:Nat}{rtab:Int->Option (List (Int×Int))}{act:Int->State->List Int->List Int->State×List Int}{l:List (Int×List (Int×Int))}{kvs:List (Int×V)}{d:Addr}{es:List DictEntry}{ep:Nat}(hd:(d==sysModules)=false)(h:K.lookup d=some {cls:=.type "dict",data:=.dict es.toArray ep})(hE:IntEs kvs es)(hA:ActEs P w K mg base HC CC k rtab act l kvs)(nd:(l.map (·.1)).Nodup):Acts P w K mg base HC CC k d (tabOf l) rtab act:=
 ⟨kvs,⟨hd,⟨es,ep,h,hE⟩,by rw[hA.keys];exact nd⟩,hA.at⟩
end My
end
section
set_option maxRecDepth 100000
set_option maxHeartbeats 4000000
namespace My
open PySem PySem.Spec PyProof.Rows L2
open Vbahar (State)
def atabL:List (Int×List (Int×Int)):=[(0,[(0,1000)]),(1,[(0,1000000),(0,1000)]),(2,[(1,5),(0,1000)]),(3,[(1,5),(0,1000)]),(4,[(1,5),(0,1000000)]),(5,[]),(6,[]),(7,[(1,5)]),(8,[(1,5)]),(9,[]),(10,[]),(11,[]),(12,[]),(13,[])]
def rtabL:List (Int×List (Int×Int)):=[(1,[(1,5),(1,5)]),(10,[(0,5),(0,1000)])]
theorem tabA:tabOf atabL=atabD:=by
 funext z;unfold atabL atabD;simp only[tab_cons,tab_nil]
theorem tabR:tabOf rtabL=rtabD:=by
 funext z;unfold rtabL rtabD;simp only[tab_cons,tab_nil]
theorem w_leg(s:State)(args row:List Int)(hl:args.length=([(0,1000)]:List (Int×Int)).length)(h:callOk (tabOf rtabL) 0 [(0,1000)] args row=true):preLeg s args row:=by
 obtain⟨x,rfl⟩:=len1 hl;unfold callOk at h;have h:=args1 ((Bool.and_eq_true _ _).mp h).1;exact⟨rfl,h.1⟩
theorem w_two{p:Int}{b b':Int×Int}(hb:1<=b.1)(hb':0<=b'.1)(s:State)(args row:List Int)(hl:args.length=[b,b'].length)(h:callOk (tabOf rtabL) p [b,b'] args row=true):pre2 s args row:=by
 obtain⟨x,y,rfl⟩:=len2 hl;unfold callOk at h;have h:=args2 ((Bool.and_eq_true _ _).mp h).1;exact⟨rfl,Int.le_trans hb h.1.1,Int.le_trans hb' h.2.1⟩
theorem w_none{p:Int}{bs:List (Int×Int)}(s:State)(args row:List Int)(hl:args.length=bs.length)(h:callOk (tabOf rtabL) p bs args row=true):pre0 s args row:=trivial
theorem w_journey(s:State)(args row:List Int)(hl:args.length=([(0,1000000),(0,1000)]:List (Int×Int)).length)(h:callOk (tabOf rtabL) 1 [(0,1000000),(0,1000)] args row=true):preJourney s args row:=by
 obtain⟨x,y,rfl⟩:=len2 hl;unfold callOk at h;have h:=(Bool.and_eq_true _ _).mp h;have h1:=args2 h.1;have h2:rowOk row (1,5) (1,5)=true:=h.2;have h3:=rowOk_iff.mp h2;refine⟨rfl,h1.1.1,h1.2.1,?_,fun z hz=>(h3.2 z hz).1⟩;have:=h3.1.2;simp only at this;omega
theorem w_one{p:Int}{b:Int×Int}(hb:1<=b.1)(s:State)(args row:List Int)(hl:args.length=[b].length)(h:callOk (tabOf rtabL) p [b] args row=true):pre1 s args row:=by
 obtain⟨x,rfl⟩:=len1 hl;unfold callOk at h;have h:=args1 ((Bool.and_eq_true _ _).mp h).1;exact⟨rfl,Int.le_trans hb h.1⟩
theorem w_feas(s:State)(args row:List Int)(hl:args.length=([]:List (Int×Int)).length)(h:callOk (tabOf rtabL) 10 [] args row=true):preFeas s args row:=by
 unfold callOk at h;have h:=(Bool.and_eq_true _ _).mp h;have h2:rowOk row (0,5) (0,1000)=true:=h.2;have h3:=rowOk_iff.mp h2;refine⟨?_,fun z hz=>(h3.2 z hz).1⟩;have:=h3.1.2;simp only at this;omega
theorem bd1{K:PySem.W.Frag}{x qual:Str}{st:Stmt}{f:Addr}{fd:FuncData}{ps:List Str}(F:Fun K x qual st f fd)(h:∀ (kV doc pm:Value) (an:Option Addr) (cdv ct u0:Value),bindArgs (PySem.W.fnOf x qual (defArgs st) (defBody st) (defScope st) .none kV doc pm an cdv ct) ⟨[u0],[]⟩=pure (ps.zip [u0]))(hl:ps.length=1:=by rfl):Binds K fd ps []:=F.binds fun a b c d e g us hu=>match us,hu.trans hl with | [u0],_=>h a b c d e g u0
theorem bd2{K:PySem.W.Frag}{x qual:Str}{st:Stmt}{f:Addr}{fd:FuncData}{ps:List Str}(F:Fun K x qual st f fd)(h:∀ (kV doc pm:Value) (an:Option Addr) (cdv ct u0 u1:Value),bindArgs (PySem.W.fnOf x qual (defArgs st) (defBody st) (defScope st) .none kV doc pm an cdv ct) ⟨[u0,u1],[]⟩=pure (ps.zip [u0,u1]))(hl:ps.length=2:=by rfl):Binds K fd ps []:=F.binds fun a b c d e g us hu=>match us,hu.trans hl with | [u0,u1],_=>h a b c d e g u0 u1
theorem bd3{K:PySem.W.Frag}{x qual:Str}{st:Stmt}{f:Addr}{fd:FuncData}{ps:List Str}(F:Fun K x qual st f fd)(h:∀ (kV doc pm:Value) (an:Option Addr) (cdv ct u0 u1 u2:Value),bindArgs (PySem.W.fnOf x qual (defArgs st) (defBody st) (defScope st) .none kV doc pm an cdv ct) ⟨[u0,u1,u2],[]⟩=pure (ps.zip [u0,u1,u2]))(hl:ps.length=3:=by rfl):Binds K fd ps []:=F.binds fun a b c d e g us hu=>match us,hu.trans hl with | [u0,u1,u2],_=>h a b c d e g u0 u1 u2
theorem bd4{K:PySem.W.Frag}{x qual:Str}{st:Stmt}{f:Addr}{fd:FuncData}{ps:List Str}(F:Fun K x qual st f fd)(h:∀ (kV doc pm:Value) (an:Option Addr) (cdv ct u0 u1 u2 u3:Value),bindArgs (PySem.W.fnOf x qual (defArgs st) (defBody st) (defScope st) .none kV doc pm an cdv ct) ⟨[u0,u1,u2,u3],[]⟩=pure (ps.zip [u0,u1,u2,u3]))(hl:ps.length=4:=by rfl):Binds K fd ps []:=F.binds fun a b c d e g us hu=>match us,hu.trans hl with | [u0,u1,u2,u3],_=>h a b c d e g u0 u1 u2 u3
theorem bd5{K:PySem.W.Frag}{x qual:Str}{st:Stmt}{f:Addr}{fd:FuncData}{ps:List Str}(F:Fun K x qual st f fd)(h:∀ (kV doc pm:Value) (an:Option Addr) (cdv ct u0 u1 u2 u3 u4:Value),bindArgs (PySem.W.fnOf x qual (defArgs st) (defBody st) (defScope st) .none kV doc pm an cdv ct) ⟨[u0,u1,u2,u3,u4],[]⟩=pure (ps.zip [u0,u1,u2,u3,u4]))(hl:ps.length=5:=by rfl):Binds K fd ps []:=F.binds fun a b c d e g us hu=>match us,hu.trans hl with | [u0,u1,u2,u3,u4],_=>h a b c d e g u0 u1 u2 u3 u4
theorem all_mk{P:Program}{w:World}{K:PySem.W.Frag}{h:Heap}{mg:Str->Option Value}{fa CT f_TI CH f_HI CC f_CI f_single f_leg_use f_cleared f_goal_rows f_limit_rows f_entering f_amount_parts f_reached_before f_leaving f_turn f_solved f_best_division f_bid_prices f_common_divisor f_fractions_told f_has_leg f_has_journey f_one_if f_spare_behind f_sum_earned f_most_seats f_journey_mosts f_choices f_is_division f_tries f_best_whole_division f_best_earned f_difference f_is_without_gap f_within f_row_in_ranges f_in_ranges f_read_call f_add_leg f_add_journey f_change_cap f_change_demand f_change_fare f_tell_best f_tell_bids f_tell_accept f_tell_gain f_tell_whole f_tell_feasible f_tell_line f_clear_house f_tell_shown f_answer_to f_answers dA uA0 uA1 uA2 uA3 uA4 uA5 uA6 uA7 uA8 uA9 uA10 uA11 uA12 uA13 dR uR1 uR10 dX:Addr}{tA0 tA1 tA2 tA3 tA4 tA5 tA6 tA7 tA8 tA9 tA10 tA11 tA12 tA13 tR1 tR10 tX0 tX1 tX2 tX3 tX4 tX5 tX6 tX7 tX8 tX9 tX10 tX11 tX12 tX13:Tok}{eA eR eX:Nat}(X:K.In h)(G:h.Ns mainGlobals mg)(hfa:mg "answers"=some (.ref fa))(c_Table:ClsIn K "Table" "Table.__init__" sTabInit CT f_TI)(a_Table_legs:NoAttr K CT "legs")(a_Table_journeys:NoAttr K CT "journeys")(a_Table_limits:NoAttr K CT "limits")(a_Table_goals:NoAttr K CT "goals")(a_Table_holders:NoAttr K CT "holders")(a_Table_below:NoAttr K CT "below")(c_House:ClsIn K "House" "House.__init__" sHouInit CH f_HI)(a_House_capacities:NoAttr K CH "capacities")(a_House_fares:NoAttr K CH "fares")(a_House_demands:NoAttr K CH "demands")(a_House_ways:NoAttr K CH "ways")(c_Call:ClsIn K "Call" "Call.__init__" sCalInit CC f_CI)(a_Call_place:NoAttr K CC "place")(a_Call_arguments:NoAttr K CC "arguments")(a_Call_row:NoAttr K CC "row")(a_Call_end:NoAttr K CC "end")(d_single:DefIn K "single" sSingle f_single)(d_leg_use:DefIn K "leg_use" sLegUse f_leg_use)(d_cleared:DefIn K "cleared" sCleared f_cleared)(d_goal_rows:DefIn K "goal_rows" sGoalRows f_goal_rows)(d_limit_rows:DefIn K "limit_rows" sLimitRows f_limit_rows)(d_entering:DefIn K "entering" sEntering f_entering)(d_amount_parts:DefIn K "amount_parts" sParts f_amount_parts)(d_reached_before:DefIn K "reached_before" sBefore f_reached_before)(d_leaving:DefIn K "leaving" sLeaving f_leaving)(d_turn:DefIn K "turn" sTurn f_turn)(d_solved:DefIn K "solved" sSolved f_solved)(d_best_division:DefIn K "best_division" sBest f_best_division)(d_bid_prices:DefIn K "bid_prices" sBids f_bid_prices)(d_common_divisor:DefIn K "common_divisor" sCommon f_common_divisor)(d_fractions_told:DefIn K "fractions_told" sTold f_fractions_told)(d_has_leg:DefIn K "has_leg" sHasLeg f_has_leg)(d_has_journey:DefIn K "has_journey" sHasJourney f_has_journey)(d_one_if:DefIn K "one_if" sOneIf f_one_if)(d_spare_behind:DefIn K "spare_behind" sSpare f_spare_behind)(d_sum_earned:DefIn K "sum_earned" sEarn f_sum_earned)(d_most_seats:DefIn K "most_seats" sMost f_most_seats)(d_journey_mosts:DefIn K "journey_mosts" sMosts f_journey_mosts)(d_choices:DefIn K "choices" sChoices f_choices)(d_is_division:DefIn K "is_division" sDivis f_is_division)(d_tries:DefIn K "tries" sTries f_tries)(d_best_whole_division:DefIn K "best_whole_division" sBestWhole f_best_whole_division)(d_best_earned:DefIn K "best_earned" sEarned f_best_earned)(d_difference:DefIn K "difference" sDiff f_difference)(d_is_without_gap:DefIn K "is_without_gap" sGap f_is_without_gap)(d_within:DefIn K "within" sWithin f_within)(d_row_in_ranges:DefIn K "row_in_ranges" sRowIn f_row_in_ranges)(d_in_ranges:DefIn K "in_ranges" sInRanges f_in_ranges)(d_read_call:DefIn K "read_call" sReadCall f_read_call)(d_add_leg:DefIn K "add_leg" sAddLeg f_add_leg)(d_add_journey:DefIn K "add_journey" sAddJourney f_add_journey)(d_change_cap:DefIn K "change_cap" sChangeCap f_change_cap)(d_change_demand:DefIn K "change_demand" sChangeDemand f_change_demand)(d_change_fare:DefIn K "change_fare" sChangeFare f_change_fare)(d_tell_best:DefIn K "tell_best" sTellBest f_tell_best)(d_tell_bids:DefIn K "tell_bids" sTellBids f_tell_bids)(d_tell_accept:DefIn K "tell_accept" sTellAccept f_tell_accept)(d_tell_gain:DefIn K "tell_gain" sTellGain f_tell_gain)(d_tell_whole:DefIn K "tell_whole" sTellWhole f_tell_whole)(d_tell_feasible:DefIn K "tell_feasible" sTellFeas f_tell_feasible)(d_tell_line:DefIn K "tell_line" sTellLine f_tell_line)(d_clear_house:DefIn K "clear_house" sClear f_clear_house)(d_tell_shown:DefIn K "tell_shown" sShown f_tell_shown)(d_answer_to:DefIn K "answer_to" sAnswerTo f_answer_to)(d_answers:DefIn K "answers" sAnswers f_answers)(z_len:PySem.W.nsIn K mainGlobals "len"=some none)(z_range:PySem.W.nsIn K mainGlobals "range"=some none)(z_enumerate:PySem.W.nsIn K mainGlobals "enumerate"=some none)(z_zip:PySem.W.nsIn K mainGlobals "zip"=some none)(z_all:PySem.W.nsIn K mainGlobals "all"=some none)(z_set:PySem.W.nsIn K mainGlobals "set"=some none)(z_sum:PySem.W.nsIn K mainGlobals "sum"=some none)(z_min:PySem.W.nsIn K mainGlobals "min"=some none)(z_max:PySem.W.nsIn K mainGlobals "max"=some none)(z_list:PySem.W.nsIn K mainGlobals "list"=some none)(n_OUT_OF_RANGE:NumIn K "OUT_OF_RANGE" (-2))(n_NO_SUCH_JOURNEY:NumIn K "NO_SUCH_JOURNEY" (-3))(n_NO_ROOM:NumIn K "NO_ROOM" (-6))(n_NO_SUCH_LEG:NumIn K "NO_SUCH_LEG" (-7))(n_TOO_MANY_CHOICES:NumIn K "TOO_MANY_CHOICES" (-8))(n_LEG_TWICE:NumIn K "LEG_TWICE" (-9))(n_NOT_ONE_EACH:NumIn K "NOT_ONE_EACH" (-10))(n_MOST_LEGS:NumIn K "MOST_LEGS" 5)(n_MOST_JOURNEYS:NumIn K "MOST_JOURNEYS" 5)(n_MOST_CHOICES:NumIn K "MOST_CHOICES" 20000)(g_ARGUMENTS:PySem.W.nsIn K mainGlobals "ARGUMENTS"=some (some (.ref dA)))(l_ARGUMENTS:K.lookup dA=some {cls:=.type "dict",data:=.dict #[ent 0 tA0 uA0,ent 1 tA1 uA1,ent 2 tA2 uA2,ent 3 tA3 uA3,ent 4 tA4 uA4,ent 5 tA5 uA5,ent 6 tA6 uA6,ent 7 tA7 uA7,ent 8 tA8 uA8,ent 9 tA9 uA9,ent 10 tA10 uA10,ent 11 tA11 uA11,ent 12 tA12 uA12,ent 13 tA13 uA13] eA})(s_ARGUMENTS:(dA==sysModules)=false)(bA0:Bnds K uA0 [(0,1000)])(bA1:Bnds K uA1 [(0,1000000),(0,1000)])(bA2:Bnds K uA2 [(1,5),(0,1000)])(bA3:Bnds K uA3 [(1,5),(0,1000)])(bA4:Bnds K uA4 [(1,5),(0,1000000)])(bA5:Bnds K uA5 [])(bA6:Bnds K uA6 [])(bA7:Bnds K uA7 [(1,5)])(bA8:Bnds K uA8 [(1,5)])(bA9:Bnds K uA9 [])(bA10:Bnds K uA10 [])(bA11:Bnds K uA11 [])(bA12:Bnds K uA12 [])(bA13:Bnds K uA13 [])(g_ROWS:PySem.W.nsIn K mainGlobals "ROWS"=some (some (.ref dR)))(l_ROWS:K.lookup dR=some {cls:=.type "dict",data:=.dict #[ent 1 tR1 uR1,ent 10 tR10 uR10] eR})(s_ROWS:(dR==sysModules)=false)(bR1:Bnds K uR1 [(1,5),(1,5)])(bR10:Bnds K uR10 [(0,5),(0,1000)])(g_ACTS:PySem.W.nsIn K mainGlobals "ACTS"=some (some (.ref dX)))(l_ACTS:K.lookup dX=some {cls:=.type "dict",data:=.dict #[ent 0 tX0 f_add_leg,ent 1 tX1 f_add_journey,ent 2 tX2 f_change_cap,ent 3 tX3 f_change_demand,ent 4 tX4 f_change_fare,ent 5 tX5 f_tell_best,ent 6 tX6 f_tell_bids,ent 7 tX7 f_tell_accept,ent 8 tX8 f_tell_gain,ent 9 tX9 f_tell_whole,ent 10 tX10 f_tell_feasible,ent 11 tX11 f_tell_line,ent 12 tX12 f_clear_house,ent 13 tX13 f_tell_shown] eX})(s_ACTS:(dX==sysModules)=false)
  : ∃ fd:FuncData,(∀ (s:Shared) (us:List Value),us.length=(["calls"]:List Str).length->BindsTo s fd ⟨us,[]⟩ ((["calls"]:List Str).zip us))/\∀ base:Heap,K.In base->base.Ns mainGlobals mg->FnOk P w K mg base CX0 10 fa fd ["calls"] (spAnswers (tabOf atabL) (tabOf rtabL) actD K):=by
 have e:=hfa.symm.trans (PySem.W.mg_of X G d_answers.ns);cases e;obtain⟨fd_answers,F_answers⟩:=d_answers.ex;refine⟨fd_answers,fun s us hu=>?_,fun base _ _=>?_⟩
 ·obtain⟨oc,od,kV,doc,pm,an,cdv,ct,osl,e,_,_⟩:=F_answers.ex;subst e;exact match us,hu with | [_],_=>.of_eq rfl
 have B:Blt mg:=⟨PySem.W.mg_none_of X G z_len,PySem.W.mg_none_of X G z_range,PySem.W.mg_none_of X G z_enumerate,PySem.W.mg_none_of X G z_zip,PySem.W.mg_none_of X G z_all,PySem.W.mg_none_of X G z_set,PySem.W.mg_none_of X G z_sum,PySem.W.mg_none_of X G z_min,PySem.W.mg_none_of X G z_max,PySem.W.mg_none_of X G z_list⟩;have N_OUT_OF_RANGE:=n_OUT_OF_RANGE.num X G;have N_NO_SUCH_JOURNEY:=n_NO_SUCH_JOURNEY.num X G;have N_NO_ROOM:=n_NO_ROOM.num X G;have N_NO_SUCH_LEG:=n_NO_SUCH_LEG.num X G;have N_TOO_MANY_CHOICES:=n_TOO_MANY_CHOICES.num X G;have N_LEG_TWICE:=n_LEG_TWICE.num X G;have N_NOT_ONE_EACH:=n_NOT_ONE_EACH.num X G;have N_MOST_LEGS:=n_MOST_LEGS.num X G;have N_MOST_JOURNEYS:=n_MOST_JOURNEYS.num X G;have N_MOST_CHOICES:=n_MOST_CHOICES.num X G;have TT:TabC K CT:=⟨c_Table.cl,a_Table_legs,a_Table_journeys,a_Table_limits,a_Table_goals,a_Table_holders,a_Table_below⟩;have mg_Table:=PySem.W.mg_of X G c_Table.ns;obtain⟨fd_TI,F_TI⟩:=c_Table.ex;have b_TI:=bd5 (ps:=["self","capacities","fares","demands","ways"]) F_TI fun _ _ _ _ _ _ _ _ _ _ _=>rfl;have TH:HouC K CH:=⟨c_House.cl,a_House_capacities,a_House_fares,a_House_demands,a_House_ways⟩;have mg_House:=PySem.W.mg_of X G c_House.ns;obtain⟨fd_HI,F_HI⟩:=c_House.ex;have b_HI:=bd1 (ps:=["self"]) F_HI fun _ _ _ _ _ _ _=>rfl;have TC:CalC K CC:=⟨c_Call.cl,a_Call_place,a_Call_arguments,a_Call_row,a_Call_end⟩;have mg_Call:=PySem.W.mg_of X G c_Call.ns;obtain⟨fd_CI,F_CI⟩:=c_Call.ex;have b_CI:=bd5 (ps:=["self","place","arguments","row","end"]) F_CI fun _ _ _ _ _ _ _ _ _ _ _=>rfl;have gA:=PySem.W.mg_of X G g_ARGUMENTS;have gR:=PySem.W.mg_of X G g_ROWS;have gX:=PySem.W.mg_of X G g_ACTS;have TA:Tabl K dA (tabOf atabL):=tabl_mk (es:=[ent 0 tA0 uA0,ent 1 tA1 uA1,ent 2 tA2 uA2,ent 3 tA3 uA3,ent 4 tA4 uA4,ent 5 tA5 uA5,ent 6 tA6 uA6,ent 7 tA7 uA7,ent 8 tA8 uA8,ent 9 tA9 uA9,ent 10 tA10 uA10,ent 11 tA11 uA11,ent 12 tA12 uA12,ent 13 tA13 uA13]) s_ARGUMENTS l_ARGUMENTS (ent_cons (ent_cons (ent_cons (ent_cons (ent_cons (ent_cons (ent_cons (ent_cons (ent_cons (ent_cons (ent_cons (ent_cons (ent_cons (ent_cons .nil)))))))))))))) (.cons bA0 (.cons bA1 (.cons bA2 (.cons bA3 (.cons bA4 (.cons bA5 (.cons bA6 (.cons bA7 (.cons bA8 (.cons bA9 (.cons bA10 (.cons bA11 (.cons bA12 (.cons bA13 .nil)))))))))))))) (by decide);have TR:Tabl K dR (tabOf rtabL):=tabl_mk (es:=[ent 1 tR1 uR1,ent 10 tR10 uR10]) s_ROWS l_ROWS (ent_cons (ent_cons .nil)) (.cons bR1 (.cons bR10 .nil)) (by decide);obtain⟨fd_single,F_single⟩:=d_single.ex;have b_single:=bd3 (ps:=["width","place","number"]) F_single fun _ _ _ _ _ _ _ _ _=>rfl;have C_single:Cal P w K mg base 1 "single" ["width","place","number"] spSingle f_single fd_single:=⟨ok_single F_single,PySem.W.mg_of X G d_single.ns,F_single.kp,b_single⟩;obtain⟨fd_leg_use,F_leg_use⟩:=d_leg_use.ex;have b_leg_use:=bd2 (ps:=["leg","ways"]) F_leg_use fun _ _ _ _ _ _ _ _=>rfl;have C_leg_use:Cal P w K mg base 1 "leg_use" ["leg","ways"] spLegUse f_leg_use fd_leg_use:=⟨ok_leg_use F_leg_use,PySem.W.mg_of X G d_leg_use.ns,F_leg_use.kp,b_leg_use⟩;obtain⟨fd_cleared,F_cleared⟩:=d_cleared.ex;have b_cleared:=bd4 (ps:=["row","pivot_row","column","below"]) F_cleared fun _ _ _ _ _ _ _ _ _ _=>rfl;have C_cleared:Cal P w K mg base 1 "cleared" ["row","pivot_row","column","below"] spCleared f_cleared fd_cleared:=⟨ok_cleared F_cleared B,PySem.W.mg_of X G d_cleared.ns,F_cleared.kp,b_cleared⟩;obtain⟨fd_goal_rows,F_goal_rows⟩:=d_goal_rows.ex;have b_goal_rows:=bd2 (ps:=["fares","width"]) F_goal_rows fun _ _ _ _ _ _ _ _=>rfl;have C_goal_rows:Cal P w K mg base 2 "goal_rows" ["fares","width"] spGoalRows f_goal_rows fd_goal_rows:=⟨ok_goal_rows F_goal_rows B C_single,PySem.W.mg_of X G d_goal_rows.ns,F_goal_rows.kp,b_goal_rows⟩;obtain⟨fd_limit_rows,F_limit_rows⟩:=d_limit_rows.ex;have b_limit_rows:=bd3 (ps:=["capacities","demands","ways"]) F_limit_rows fun _ _ _ _ _ _ _ _ _=>rfl;have C_limit_rows:Cal P w K mg base 2 "limit_rows" ["capacities","demands","ways"] spLimitRows f_limit_rows fd_limit_rows:=⟨ok_limit_rows F_limit_rows B C_single C_leg_use,PySem.W.mg_of X G d_limit_rows.ns,F_limit_rows.kp,b_limit_rows⟩;obtain⟨fd_entering,F_entering⟩:=d_entering.ex;have b_entering:=bd1 (ps:=["table"]) F_entering fun _ _ _ _ _ _ _=>rfl;have C_entering:Cal P w K mg base 1 "entering" ["table"] (spEntering CT) f_entering fd_entering:=⟨ok_entering F_entering B TT,PySem.W.mg_of X G d_entering.ns,F_entering.kp,b_entering⟩;obtain⟨fd_amount_parts,F_amount_parts⟩:=d_amount_parts.ex;have b_amount_parts:=bd2 (ps:=["table","number"]) F_amount_parts fun _ _ _ _ _ _ _ _=>rfl;have C_amount_parts:Cal P w K mg base 1 "amount_parts" ["table","number"] (spParts CT) f_amount_parts fd_amount_parts:=⟨ok_parts F_amount_parts TT,PySem.W.mg_of X G d_amount_parts.ns,F_amount_parts.kp,b_amount_parts⟩;obtain⟨fd_reached_before,F_reached_before⟩:=d_reached_before.ex;have b_reached_before:=bd4 (ps:=["table","number","other","column"]) F_reached_before fun _ _ _ _ _ _ _ _ _ _=>rfl;have C_reached_before:Cal P w K mg base 2 "reached_before" ["table","number","other","column"] (spBefore CT) f_reached_before fd_reached_before:=⟨ok_before F_reached_before TT C_amount_parts,PySem.W.mg_of X G d_reached_before.ns,F_reached_before.kp,b_reached_before⟩;obtain⟨fd_leaving,F_leaving⟩:=d_leaving.ex;have b_leaving:=bd2 (ps:=["table","column"]) F_leaving fun _ _ _ _ _ _ _ _=>rfl;have C_leaving:Cal P w K mg base 3 "leaving" ["table","column"] (spLeaving CT) f_leaving fd_leaving:=⟨ok_leaving F_leaving B TT C_reached_before,PySem.W.mg_of X G d_leaving.ns,F_leaving.kp,b_leaving⟩;obtain⟨fd_turn,F_turn⟩:=d_turn.ex;have b_turn:=bd3 (ps:=["table","number","column"]) F_turn fun _ _ _ _ _ _ _ _ _=>rfl;have C_turn:Cal P w K mg base 2 "turn" ["table","number","column"] (spTurn CT) f_turn fd_turn:=⟨ok_turn F_turn TT C_cleared,PySem.W.mg_of X G d_turn.ns,F_turn.kp,b_turn⟩;obtain⟨fd_solved,F_solved⟩:=d_solved.ex;have b_solved:=bd4 (ps:=["capacities","fares","demands","ways"]) F_solved fun _ _ _ _ _ _ _ _ _ _=>rfl;have C_solved:Cal P w K mg base 5 "solved" ["capacities","fares","demands","ways"] (spSolved CT) f_solved fd_solved:=⟨ok_solved F_solved TT c_Table.maker mg_Table b_TI (ok_tabInit F_TI B TT C_limit_rows C_goal_rows) C_entering C_leaving C_turn,PySem.W.mg_of X G d_solved.ns,F_solved.kp,b_solved⟩;obtain⟨fd_best_division,F_best_division⟩:=d_best_division.ex;have b_best_division:=bd4 (ps:=["capacities","fares","demands","ways"]) F_best_division fun _ _ _ _ _ _ _ _ _ _=>rfl;have C_best_division:Cal P w K mg base 6 "best_division" ["capacities","fares","demands","ways"] (spBestDiv CT) f_best_division fd_best_division:=⟨ok_best F_best_division TT C_solved,PySem.W.mg_of X G d_best_division.ns,F_best_division.kp,b_best_division⟩;obtain⟨fd_bid_prices,F_bid_prices⟩:=d_bid_prices.ex;have b_bid_prices:=bd4 (ps:=["capacities","fares","demands","ways"]) F_bid_prices fun _ _ _ _ _ _ _ _ _ _=>rfl;have C_bid_prices:Cal P w K mg base 6 "bid_prices" ["capacities","fares","demands","ways"] (spBids CT) f_bid_prices fd_bid_prices:=⟨ok_bids F_bid_prices TT C_solved,PySem.W.mg_of X G d_bid_prices.ns,F_bid_prices.kp,b_bid_prices⟩;obtain⟨fd_common_divisor,F_common_divisor⟩:=d_common_divisor.ex;have b_common_divisor:=bd2 (ps:=["above","below"]) F_common_divisor fun _ _ _ _ _ _ _ _=>rfl;have C_common_divisor:Cal P w K mg base 1 "common_divisor" ["above","below"] spCommon f_common_divisor fd_common_divisor:=⟨ok_common F_common_divisor,PySem.W.mg_of X G d_common_divisor.ns,F_common_divisor.kp,b_common_divisor⟩;obtain⟨fd_fractions_told,F_fractions_told⟩:=d_fractions_told.ex;have b_fractions_told:=bd1 (ps:=["pairs"]) F_fractions_told fun _ _ _ _ _ _ _=>rfl;have C_fractions_told:Cal P w K mg base 2 "fractions_told" ["pairs"] spTold f_fractions_told fd_fractions_told:=⟨ok_told F_fractions_told C_common_divisor,PySem.W.mg_of X G d_fractions_told.ns,F_fractions_told.kp,b_fractions_told⟩;obtain⟨fd_has_leg,F_has_leg⟩:=d_has_leg.ex;have b_has_leg:=bd2 (ps:=["house","leg"]) F_has_leg fun _ _ _ _ _ _ _ _=>rfl;have C_has_leg:Cal P w K mg base 1 "has_leg" ["house","leg"] (spHasLeg CH) f_has_leg fd_has_leg:=⟨ok_has_leg F_has_leg B TH,PySem.W.mg_of X G d_has_leg.ns,F_has_leg.kp,b_has_leg⟩;obtain⟨fd_has_journey,F_has_journey⟩:=d_has_journey.ex;have b_has_journey:=bd2 (ps:=["house","journey"]) F_has_journey fun _ _ _ _ _ _ _ _=>rfl;have C_has_journey:Cal P w K mg base 1 "has_journey" ["house","journey"] (spHasJourney CH) f_has_journey fd_has_journey:=⟨ok_has_journey F_has_journey B TH,PySem.W.mg_of X G d_has_journey.ns,F_has_journey.kp,b_has_journey⟩;obtain⟨fd_one_if,F_one_if⟩:=d_one_if.ex;have b_one_if:=bd1 (ps:=["holds"]) F_one_if fun _ _ _ _ _ _ _=>rfl;have C_one_if:Cal P w K mg base 1 "one_if" ["holds"] spOneIf f_one_if fd_one_if:=⟨ok_one_if F_one_if,PySem.W.mg_of X G d_one_if.ns,F_one_if.kp,b_one_if⟩;obtain⟨fd_spare_behind,F_spare_behind⟩:=d_spare_behind.ex;have b_spare_behind:=bd3 (ps:=["spare","given","way"]) F_spare_behind fun _ _ _ _ _ _ _ _ _=>rfl;have C_spare_behind:Cal P w K mg base 1 "spare_behind" ["spare","given","way"] spSpare f_spare_behind fd_spare_behind:=⟨ok_spare F_spare_behind B,PySem.W.mg_of X G d_spare_behind.ns,F_spare_behind.kp,b_spare_behind⟩;obtain⟨fd_sum_earned,F_sum_earned⟩:=d_sum_earned.ex;have b_sum_earned:=bd2 (ps:=["seats","fares"]) F_sum_earned fun _ _ _ _ _ _ _ _=>rfl;have C_sum_earned:Cal P w K mg base 1 "sum_earned" ["seats","fares"] spEarn f_sum_earned fd_sum_earned:=⟨ok_earn F_sum_earned B,PySem.W.mg_of X G d_sum_earned.ns,F_sum_earned.kp,b_sum_earned⟩;obtain⟨fd_most_seats,F_most_seats⟩:=d_most_seats.ex;have b_most_seats:=bd3 (ps:=["demand","way","spare"]) F_most_seats fun _ _ _ _ _ _ _ _ _=>rfl;have C_most_seats:Cal P w K mg base 1 "most_seats" ["demand","way","spare"] spMost f_most_seats fd_most_seats:=⟨ok_most F_most_seats B,PySem.W.mg_of X G d_most_seats.ns,F_most_seats.kp,b_most_seats⟩;obtain⟨fd_journey_mosts,F_journey_mosts⟩:=d_journey_mosts.ex;have b_journey_mosts:=bd3 (ps:=["capacities","demands","ways"]) F_journey_mosts fun _ _ _ _ _ _ _ _ _=>rfl;have C_journey_mosts:Cal P w K mg base 2 "journey_mosts" ["capacities","demands","ways"] spMosts f_journey_mosts fd_journey_mosts:=⟨ok_mosts F_journey_mosts B C_most_seats,PySem.W.mg_of X G d_journey_mosts.ns,F_journey_mosts.kp,b_journey_mosts⟩;obtain⟨fd_choices,F_choices⟩:=d_choices.ex;have b_choices:=bd1 (ps:=["mosts"]) F_choices fun _ _ _ _ _ _ _=>rfl;have C_choices:Cal P w K mg base 1 "choices" ["mosts"] spChoices f_choices fd_choices:=⟨ok_choices F_choices,PySem.W.mg_of X G d_choices.ns,F_choices.kp,b_choices⟩;obtain⟨fd_is_division,F_is_division⟩:=d_is_division.ex;have b_is_division:=bd4 (ps:=["seats","capacities","demands","ways"]) F_is_division fun _ _ _ _ _ _ _ _ _ _=>rfl;have C_is_division:Cal P w K mg base 2 "is_division" ["seats","capacities","demands","ways"] spDivis f_is_division fd_is_division:=⟨ok_divis F_is_division B C_spare_behind,PySem.W.mg_of X G d_is_division.ns,F_is_division.kp,b_is_division⟩;obtain⟨fd_tries,F_tries⟩:=d_tries.ex;have b_tries:=bd4 (ps:=["capacities","demands","ways","filled"]) F_tries fun _ _ _ _ _ _ _ _ _ _=>rfl;have C_tries:Cal P w K mg base 2 "tries" ["capacities","demands","ways","filled"] spTries f_tries fd_tries:=⟨ok_tries F_tries B C_most_seats C_spare_behind,PySem.W.mg_of X G d_tries.ns,F_tries.kp,b_tries⟩;obtain⟨fd_best_whole_division,F_best_whole_division⟩:=d_best_whole_division.ex;have b_best_whole_division:=bd4 (ps:=["capacities","fares","demands","ways"]) F_best_whole_division fun _ _ _ _ _ _ _ _ _ _=>rfl;have C_best_whole_division:Cal P w K mg base 3 "best_whole_division" ["capacities","fares","demands","ways"] spBestWhole f_best_whole_division fd_best_whole_division:=⟨ok_best_whole F_best_whole_division B C_journey_mosts C_tries C_most_seats C_sum_earned,PySem.W.mg_of X G d_best_whole_division.ns,F_best_whole_division.kp,b_best_whole_division⟩;obtain⟨fd_best_earned,F_best_earned⟩:=d_best_earned.ex;have b_best_earned:=bd2 (ps:=["house","capacities"]) F_best_earned fun _ _ _ _ _ _ _ _=>rfl;have C_best_earned:Cal P w K mg base 7 "best_earned" ["house","capacities"] (spEarned CH CT) f_best_earned fd_best_earned:=⟨ok_earned F_best_earned TH C_best_division,PySem.W.mg_of X G d_best_earned.ns,F_best_earned.kp,b_best_earned⟩;obtain⟨fd_difference,F_difference⟩:=d_difference.ex;have b_difference:=bd2 (ps:=["pair","other"]) F_difference fun _ _ _ _ _ _ _ _=>rfl;have C_difference:Cal P w K mg base 1 "difference" ["pair","other"] spDiff f_difference fd_difference:=⟨ok_diff F_difference,PySem.W.mg_of X G d_difference.ns,F_difference.kp,b_difference⟩;obtain⟨fd_is_without_gap,F_is_without_gap⟩:=d_is_without_gap.ex;have b_is_without_gap:=bd1 (ps:=["way"]) F_is_without_gap fun _ _ _ _ _ _ _=>rfl;have C_is_without_gap:Cal P w K mg base 1 "is_without_gap" ["way"] spGap f_is_without_gap fd_is_without_gap:=⟨ok_gap F_is_without_gap B,PySem.W.mg_of X G d_is_without_gap.ns,F_is_without_gap.kp,b_is_without_gap⟩;obtain⟨fd_within,F_within⟩:=d_within.ex;have b_within:=bd2 (ps:=["number","bounds"]) F_within fun _ _ _ _ _ _ _ _=>rfl;have C_within:Cal P w K mg base 1 "within" ["number","bounds"] (spWithin K) f_within fd_within:=⟨ok_within F_within,PySem.W.mg_of X G d_within.ns,F_within.kp,b_within⟩;obtain⟨fd_row_in_ranges,F_row_in_ranges⟩:=d_row_in_ranges.ex;have b_row_in_ranges:=bd2 (ps:=["row","ranges"]) F_row_in_ranges fun _ _ _ _ _ _ _ _=>rfl;have C_row_in_ranges:Cal P w K mg base 2 "row_in_ranges" ["row","ranges"] (spRowIn K) f_row_in_ranges fd_row_in_ranges:=⟨ok_row_in F_row_in_ranges B C_within,PySem.W.mg_of X G d_row_in_ranges.ns,F_row_in_ranges.kp,b_row_in_ranges⟩;obtain⟨fd_in_ranges,F_in_ranges⟩:=d_in_ranges.ex;have b_in_ranges:=bd1 (ps:=["call"]) F_in_ranges fun _ _ _ _ _ _ _=>rfl;have C_in_ranges:Cal P w K mg base 3 "in_ranges" ["call"] (spInRanges K CC (tabOf atabL) (tabOf rtabL)) f_in_ranges fd_in_ranges:=⟨ok_in_ranges F_in_ranges B TC TA TR gA gR C_within C_row_in_ranges,PySem.W.mg_of X G d_in_ranges.ns,F_in_ranges.kp,b_in_ranges⟩;obtain⟨fd_read_call,F_read_call⟩:=d_read_call.ex;have b_read_call:=bd2 (ps:=["calls","start"]) F_read_call fun _ _ _ _ _ _ _ _=>rfl;have C_read_call:Cal P w K mg base 3 "read_call" ["calls","start"] (spReadCall K CC (tabOf atabL) (tabOf rtabL)) f_read_call fd_read_call:=⟨ok_read_call F_read_call B TA TR gA gR c_Call.maker mg_Call b_CI (ok_calInit F_CI TC),PySem.W.mg_of X G d_read_call.ns,F_read_call.kp,b_read_call⟩;obtain⟨fd_add_leg,F_add_leg⟩:=d_add_leg.ex;have b_add_leg:=bd2 (ps:=["house","call"]) F_add_leg fun _ _ _ _ _ _ _ _=>rfl;obtain⟨fd_add_journey,F_add_journey⟩:=d_add_journey.ex;have b_add_journey:=bd2 (ps:=["house","call"]) F_add_journey fun _ _ _ _ _ _ _ _=>rfl;obtain⟨fd_change_cap,F_change_cap⟩:=d_change_cap.ex;have b_change_cap:=bd2 (ps:=["house","call"]) F_change_cap fun _ _ _ _ _ _ _ _=>rfl;obtain⟨fd_change_demand,F_change_demand⟩:=d_change_demand.ex;have b_change_demand:=bd2 (ps:=["house","call"]) F_change_demand fun _ _ _ _ _ _ _ _=>rfl;obtain⟨fd_change_fare,F_change_fare⟩:=d_change_fare.ex;have b_change_fare:=bd2 (ps:=["house","call"]) F_change_fare fun _ _ _ _ _ _ _ _=>rfl;obtain⟨fd_tell_best,F_tell_best⟩:=d_tell_best.ex;have b_tell_best:=bd2 (ps:=["house","call"]) F_tell_best fun _ _ _ _ _ _ _ _=>rfl;obtain⟨fd_tell_bids,F_tell_bids⟩:=d_tell_bids.ex;have b_tell_bids:=bd2 (ps:=["house","call"]) F_tell_bids fun _ _ _ _ _ _ _ _=>rfl;obtain⟨fd_tell_accept,F_tell_accept⟩:=d_tell_accept.ex;have b_tell_accept:=bd2 (ps:=["house","call"]) F_tell_accept fun _ _ _ _ _ _ _ _=>rfl;obtain⟨fd_tell_gain,F_tell_gain⟩:=d_tell_gain.ex;have b_tell_gain:=bd2 (ps:=["house","call"]) F_tell_gain fun _ _ _ _ _ _ _ _=>rfl;obtain⟨fd_tell_whole,F_tell_whole⟩:=d_tell_whole.ex;have b_tell_whole:=bd2 (ps:=["house","call"]) F_tell_whole fun _ _ _ _ _ _ _ _=>rfl;obtain⟨fd_tell_feasible,F_tell_feasible⟩:=d_tell_feasible.ex;have b_tell_feasible:=bd2 (ps:=["house","call"]) F_tell_feasible fun _ _ _ _ _ _ _ _=>rfl;obtain⟨fd_tell_line,F_tell_line⟩:=d_tell_line.ex;have b_tell_line:=bd2 (ps:=["house","call"]) F_tell_line fun _ _ _ _ _ _ _ _=>rfl;obtain⟨fd_clear_house,F_clear_house⟩:=d_clear_house.ex;have b_clear_house:=bd2 (ps:=["house","call"]) F_clear_house fun _ _ _ _ _ _ _ _=>rfl;obtain⟨fd_tell_shown,F_tell_shown⟩:=d_tell_shown.ex;have b_tell_shown:=bd2 (ps:=["house","call"]) F_tell_shown fun _ _ _ _ _ _ _ _=>rfl;have AX:Acts P w K mg base CH CC 8 dX (tabOf atabL) (tabOf rtabL) actD:=acts_mk (es:=[ent 0 tX0 f_add_leg,ent 1 tX1 f_add_journey,ent 2 tX2 f_change_cap,ent 3 tX3 f_change_demand,ent 4 tX4 f_change_fare,ent 5 tX5 f_tell_best,ent 6 tX6 f_tell_bids,ent 7 tX7 f_tell_accept,ent 8 tX8 f_tell_gain,ent 9 tX9 f_tell_whole,ent 10 tX10 f_tell_feasible,ent 11 tX11 f_tell_line,ent 12 tX12 f_clear_house,ent 13 tX13 f_tell_shown]) s_ACTS l_ACTS (ent_cons (ent_cons (ent_cons (ent_cons (ent_cons (ent_cons (ent_cons (ent_cons (ent_cons (ent_cons (ent_cons (ent_cons (ent_cons (ent_cons .nil))))))))))))))
  (.cons F_add_leg.kp b_add_leg (FnOk.mono ((ok_add_leg F_add_leg B TH TC (N_MOST_LEGS) (N_NO_ROOM))) (by decide)) (w_leg)
   (.cons F_add_journey.kp b_add_journey (FnOk.mono ((ok_add_journey F_add_journey B TH TC C_has_leg N_NO_SUCH_LEG N_LEG_TWICE N_MOST_JOURNEYS N_NO_ROOM)) (by decide)) (w_journey)
   (.cons F_change_cap.kp b_change_cap (FnOk.mono ((ok_change_cap F_change_cap TH TC C_has_leg N_NO_SUCH_LEG)) (by decide)) (w_two (by decide) (by decide))
   (.cons F_change_demand.kp b_change_demand (FnOk.mono ((ok_change_demand F_change_demand TH TC C_has_journey N_NO_SUCH_JOURNEY)) (by decide)) (w_two (by decide) (by decide))
   (.cons F_change_fare.kp b_change_fare (FnOk.mono ((ok_change_fare F_change_fare TH TC C_has_journey N_NO_SUCH_JOURNEY)) (by decide)) (w_two (by decide) (by decide))
   (.cons F_tell_best.kp b_tell_best (FnOk.mono ((ok_tell_best F_tell_best TH C_fractions_told C_best_division)) (by decide)) (w_none)
   (.cons F_tell_bids.kp b_tell_bids (FnOk.mono ((ok_tell_bids F_tell_bids TH C_fractions_told C_bid_prices)) (by decide)) (w_none)
   (.cons F_tell_accept.kp b_tell_accept (FnOk.mono ((ok_tell_accept F_tell_accept B TH TC C_has_journey C_bid_prices C_one_if N_NO_SUCH_JOURNEY)) (by decide)) (w_one (by decide))
   (.cons F_tell_gain.kp b_tell_gain (FnOk.mono ((ok_tell_gain F_tell_gain B TH TC C_has_leg C_fractions_told C_best_earned C_difference N_NO_SUCH_LEG)) (by decide)) (w_one (by decide))
   (.cons F_tell_whole.kp b_tell_whole (FnOk.mono ((ok_tell_whole F_tell_whole TH C_choices C_journey_mosts C_best_whole_division N_MOST_CHOICES N_TOO_MANY_CHOICES)) (by decide)) (w_none)
   (.cons F_tell_feasible.kp b_tell_feasible (FnOk.mono ((ok_tell_feas F_tell_feasible B TH TC C_is_division C_sum_earned C_one_if N_NOT_ONE_EACH)) (by decide)) (w_feas)
   (.cons F_tell_line.kp b_tell_line (FnOk.mono ((ok_tell_line F_tell_line B TH C_is_without_gap C_one_if)) (by decide)) (w_none)
   (.cons F_clear_house.kp b_clear_house (FnOk.mono ((ok_clear F_clear_house TH)) (by decide)) (w_none)
   (.cons F_tell_shown.kp b_tell_shown (FnOk.mono ((ok_shown F_tell_shown B TH)) (by decide)) (w_none)
   .nil)))))))))))))) (by decide)
 obtain⟨fd_answer_to,F_answer_to⟩:=d_answer_to.ex;have b_answer_to:=bd2 (ps:=["house","call"]) F_answer_to fun _ _ _ _ _ _ _ _=>rfl;have C_answer_to:Cal P w K mg base 9 "answer_to" ["house","call"] (spAnswerTo CH CC (tabOf atabL) (tabOf rtabL) actD) f_answer_to fd_answer_to:=⟨ok_answer_to F_answer_to TC gX AX N_OUT_OF_RANGE C_in_ranges (by decide),PySem.W.mg_of X G d_answer_to.ns,F_answer_to.kp,b_answer_to⟩;exact ok_answers F_answers B TC c_House.maker mg_House b_HI (ok_houInit F_HI TH) C_read_call C_answer_to (by decide)
end My
end
section
open PySem PySem.W PyProof.Rows
namespace PySem.W.Fast
def tw15854271338072317373:=0
def tw57948557510458086:=0
def tw7168504611565857206:=0
def tw15558384389957491467:=0
def tw5929900239190033489:=0
def tw17660916817947332788:=0
def tw18163868478849574902:=0
def tw17958113162814336396:=0
def tw17277124477707713727:=0
def tw17028807524699680597:=0
def tw3023155486861395884:=0
def tw17013897667920933129:=0
def tw10690162388789999858:=0
def tw4417466727769693560:=0
def tw5051853910238291729:=0
def tw9838317851164031072:=0
def tw14536567749001691459:=0
def tw3765360377689682558:=0
def tw7021585596507080707:=0
def tw4248966290513667524:=0
def tw7236186382104163792:=0
def tw8037306148611522681:=0
def tw18165767784468281204:=0
def tw14185195348335196601:=0
def tw8277339852712795053:=0
def tw4849234968363744724:=0
def tw18321180600142790435:=0
def tw5943543535631943859:=0
def tw11420999098747822717:=0
def tw293459147403694441:=0
def tw2282017241892770761:=0
def tw17637718357712835599:=0
def tw16078773291971235341:=0
def tw9329730148986664980:=0
def tw15795624920190719559:=0
def tw17890361165105818983:=0
def tw257216464340621021:=0
def tw595317147054804296:=0
def tw16472236724178732959:=0
def tw10082366965978928340:=0
def tw7510626289933098521:=0
def tw11457301662938355593:=0
def tw6845254298061973039:=0
def tw8486494089583984744:=0
def tw2217613234316957195:=0
def tw6420112561842232980:=0
def tw16810299203127469368:=0
def tw6601937249219456720:=0
def tw12130615182763462655:=0
def tw6763699643539721723:=0
def tw4872914416504848212:=0
def tw10737561177005491919:=0
def tw15898311767100595867:=0
def tw102442475576949917:=0
def tw17722645817602355126:=0
def tw17686728971066642468:=0
def tw1789375688698227219:=0
def tw5729837101160694001:=0
def tw6418045871478215778:=0
def tw1492443413762324680:=0
def tw12252143331943244346:=0
def tw7657093769584032003:=0
def tw4130077395058396437:=0
def tw10343677653746898083:=0
def tw4116611292239178171:=0
def tw18275338582556323364:=0
def tw15198385714700976422:=0
def tw124815107694630321:=0
def tw16593317070769849243:=0
def tw14705518628753305035:=0
def tw9359169717785990497:=0
def tw5609239602331654479:=0
def tw6327386331883355103:=0
def tw133320119613382386:=0
def tw8465285041666271149:=0
def tw15040201425553746760:=0
def tw17495716210233289496:=0
def tw2934248313133989662:=0
def tw905048282747412888:=0
def tw6877470176312971321:=0
def tw10781504430687786611:=0
def tw9101744789393006983:=0
def tw2476758765224278132:=0
def tw15701092746651628506:=0
def tw1212891433522935316:=0
def tw8962227440801779386:=0
def tw1659922373943931266:=0
def tw5711916439772166072:=0
def tw8676509534310374704:=0
def tw2346890162541583951:=0
def tw6538646873917196523:=0
def tw9661806348593193279:=0
def tw1638641210444695758:=0
def tw17512303507653422036:=0
def tw7861788880145404890:=0
def tw8000466761862760064:=0
def tw369822386891330862:=0
def tw1791232610426114694:=0
def tw2743786304045394841:=0
def tw15487565152409241663:=0
def tw6743334934357923638:=0
def tw6578471529411431314:=0
def tw6726995019340323315:=0
def tw18098565354177790010:=0
def tw4425121938742713699:=0
def tw5547345794140086124:=0
def tw15754851053459150170:=0
def tw8843958104082909600:=0
def tw2859238543898342042:=0
end PySem.W.Fast
set_option maxRecDepth 100000 in
set_option maxHeartbeats 0 in
theorem PySem.Challenge.cw_seatnetwork_s01_answers_holds : PySem.Challenge.rw_seatnetwork_s01_answers.Holds := by
 w_on;k_headS;(case hw=>exact⟨[.list [.int 12]],by decide +kernel,by decide +kernel⟩)
 k_fillS
 refine L2.walk_specK (r:=PySem.Challenge.rw_seatnetwork_s01_answers) (k:=10) (CX:=L2.CX0) (ps:=["calls"]) (sp:=My.spAnswers (My.tabOf My.atabL) (My.tabOf My.rtabL) My.actD) (by decide +kernel) rfl rfl ⟨rfl,by decide,by decide⟩ (fun w h Y=>PySem.W.kIn_of Y) ?F ?S (fun _ _ _ _ z=>z)
 case F=>
  intro w mg fa h Y KX G hmg;refine' My.all_mk KX G hmg ?c_Table ?a_Table_legs ?a_Table_journeys ?a_Table_limits ?a_Table_goals ?a_Table_holders ?a_Table_below ?c_House ?a_House_capacities ?a_House_fares ?a_House_demands ?a_House_ways ?c_Call ?a_Call_place ?a_Call_arguments ?a_Call_row ?a_Call_end ?d_single ?d_leg_use ?d_cleared ?d_goal_rows ?d_limit_rows ?d_entering ?d_amount_parts ?d_reached_before ?d_leaving ?d_turn ?d_solved ?d_best_division ?d_bid_prices ?d_common_divisor ?d_fractions_told ?d_has_leg ?d_has_journey ?d_one_if ?d_spare_behind ?d_sum_earned ?d_most_seats ?d_journey_mosts ?d_choices ?d_is_division ?d_tries ?d_best_whole_division ?d_best_earned ?d_difference ?d_is_without_gap ?d_within ?d_row_in_ranges ?d_in_ranges ?d_read_call ?d_add_leg ?d_add_journey ?d_change_cap ?d_change_demand ?d_change_fare ?d_tell_best ?d_tell_bids ?d_tell_accept ?d_tell_gain ?d_tell_whole ?d_tell_feasible ?d_tell_line ?d_clear_house ?d_tell_shown ?d_answer_to ?d_answers ?z_len ?z_range ?z_enumerate ?z_zip ?z_all ?z_set ?z_sum ?z_min ?z_max ?z_list ?n_OUT_OF_RANGE ?n_NO_SUCH_JOURNEY ?n_NO_ROOM ?n_NO_SUCH_LEG ?n_TOO_MANY_CHOICES ?n_LEG_TWICE ?n_NOT_ONE_EACH ?n_MOST_LEGS ?n_MOST_JOURNEYS ?n_MOST_CHOICES ?g_ARGUMENTS ?l_ARGUMENTS ?s_ARGUMENTS ?bA0 ?bA1 ?bA2 ?bA3 ?bA4 ?bA5 ?bA6 ?bA7 ?bA8 ?bA9 ?bA10 ?bA11 ?bA12 ?bA13 ?g_ROWS ?l_ROWS ?s_ROWS ?bR1 ?bR10 ?g_ACTS ?l_ACTS ?s_ACTS
  (case c_Table=>(refine' My.clsIn_mk ?a ?a1 ?i1 ?l ?c ?k ?pg ?hd ?po ?sa ?mk ?kc;(case a=>k_is);(case a1=>k_is);(case i1=>k_is);(case l=>k_is);(case c=>k_is);(case k=>k_is);(case pg=>k_is);(case hd=>k_is);(case po=>k_is);(case sa=>k_is);(case mk=>k_is);(case kc=>k_is)))
  (case a_Table_legs=>(show PySem.W.findIn _ _ _=_;k_is))
  (case a_Table_journeys=>(show PySem.W.findIn _ _ _=_;k_is))
  (case a_Table_limits=>(show PySem.W.findIn _ _ _=_;k_is))
  (case a_Table_goals=>(show PySem.W.findIn _ _ _=_;k_is))
  (case a_Table_holders=>(show PySem.W.findIn _ _ _=_;k_is))
  (case a_Table_below=>(show PySem.W.findIn _ _ _=_;k_is))
  (case c_House=>(refine' My.clsIn_mk ?a ?a1 ?i1 ?l ?c ?k ?pg ?hd ?po ?sa ?mk ?kc;(case a=>k_is);(case a1=>k_is);(case i1=>k_is);(case l=>k_is);(case c=>k_is);(case k=>k_is);(case pg=>k_is);(case hd=>k_is);(case po=>k_is);(case sa=>k_is);(case mk=>k_is);(case kc=>k_is)))
  (case a_House_capacities=>(show PySem.W.findIn _ _ _=_;k_is))
  (case a_House_fares=>(show PySem.W.findIn _ _ _=_;k_is))
  (case a_House_demands=>(show PySem.W.findIn _ _ _=_;k_is))
  (case a_House_ways=>(show PySem.W.findIn _ _ _=_;k_is))
  (case c_Call=>(refine' My.clsIn_mk ?a ?a1 ?i1 ?l ?c ?k ?pg ?hd ?po ?sa ?mk ?kc;(case a=>k_is);(case a1=>k_is);(case i1=>k_is);(case l=>k_is);(case c=>k_is);(case k=>k_is);(case pg=>k_is);(case hd=>k_is);(case po=>k_is);(case sa=>k_is);(case mk=>k_is);(case kc=>k_is)))
  (case a_Call_place=>(show PySem.W.findIn _ _ _=_;k_is))
  (case a_Call_arguments=>(show PySem.W.findIn _ _ _=_;k_is))
  (case a_Call_row=>(show PySem.W.findIn _ _ _=_;k_is))
  (case a_Call_end=>(show PySem.W.findIn _ _ _=_;k_is))
  (case d_single=>(refine' My.defIn_mk ?a ?l ?c ?k;(case a=>k_is);(case l=>k_is);(case c=>k_is);(case k=>k_is)))
  (case d_leg_use=>(refine' My.defIn_mk ?a ?l ?c ?k;(case a=>k_is);(case l=>k_is);(case c=>k_is);(case k=>k_is)))
  (case d_cleared=>(refine' My.defIn_mk ?a ?l ?c ?k;(case a=>k_is);(case l=>k_is);(case c=>k_is);(case k=>k_is)))
  (case d_goal_rows=>(refine' My.defIn_mk ?a ?l ?c ?k;(case a=>k_is);(case l=>k_is);(case c=>k_is);(case k=>k_is)))
  (case d_limit_rows=>(refine' My.defIn_mk ?a ?l ?c ?k;(case a=>k_is);(case l=>k_is);(case c=>k_is);(case k=>k_is)))
  (case d_entering=>(refine' My.defIn_mk ?a ?l ?c ?k;(case a=>k_is);(case l=>k_is);(case c=>k_is);(case k=>k_is)))
  (case d_amount_parts=>(refine' My.defIn_mk ?a ?l ?c ?k;(case a=>k_is);(case l=>k_is);(case c=>k_is);(case k=>k_is)))
  (case d_reached_before=>(refine' My.defIn_mk ?a ?l ?c ?k;(case a=>k_is);(case l=>k_is);(case c=>k_is);(case k=>k_is)))
  (case d_leaving=>(refine' My.defIn_mk ?a ?l ?c ?k;(case a=>k_is);(case l=>k_is);(case c=>k_is);(case k=>k_is)))
  (case d_turn=>(refine' My.defIn_mk ?a ?l ?c ?k;(case a=>k_is);(case l=>k_is);(case c=>k_is);(case k=>k_is)))
  (case d_solved=>(refine' My.defIn_mk ?a ?l ?c ?k;(case a=>k_is);(case l=>k_is);(case c=>k_is);(case k=>k_is)))
  (case d_best_division=>(refine' My.defIn_mk ?a ?l ?c ?k;(case a=>k_is);(case l=>k_is);(case c=>k_is);(case k=>k_is)))
  (case d_bid_prices=>(refine' My.defIn_mk ?a ?l ?c ?k;(case a=>k_is);(case l=>k_is);(case c=>k_is);(case k=>k_is)))
  (case d_common_divisor=>(refine' My.defIn_mk ?a ?l ?c ?k;(case a=>k_is);(case l=>k_is);(case c=>k_is);(case k=>k_is)))
  (case d_fractions_told=>(refine' My.defIn_mk ?a ?l ?c ?k;(case a=>k_is);(case l=>k_is);(case c=>k_is);(case k=>k_is)))
  (case d_has_leg=>(refine' My.defIn_mk ?a ?l ?c ?k;(case a=>k_is);(case l=>k_is);(case c=>k_is);(case k=>k_is)))
  (case d_has_journey=>(refine' My.defIn_mk ?a ?l ?c ?k;(case a=>k_is);(case l=>k_is);(case c=>k_is);(case k=>k_is)))
  (case d_one_if=>(refine' My.defIn_mk ?a ?l ?c ?k;(case a=>k_is);(case l=>k_is);(case c=>k_is);(case k=>k_is)))
  (case d_spare_behind=>(refine' My.defIn_mk ?a ?l ?c ?k;(case a=>k_is);(case l=>k_is);(case c=>k_is);(case k=>k_is)))
  (case d_sum_earned=>(refine' My.defIn_mk ?a ?l ?c ?k;(case a=>k_is);(case l=>k_is);(case c=>k_is);(case k=>k_is)))
  (case d_most_seats=>(refine' My.defIn_mk ?a ?l ?c ?k;(case a=>k_is);(case l=>k_is);(case c=>k_is);(case k=>k_is)))
  (case d_journey_mosts=>(refine' My.defIn_mk ?a ?l ?c ?k;(case a=>k_is);(case l=>k_is);(case c=>k_is);(case k=>k_is)))
  (case d_choices=>(refine' My.defIn_mk ?a ?l ?c ?k;(case a=>k_is);(case l=>k_is);(case c=>k_is);(case k=>k_is)))
  (case d_is_division=>(refine' My.defIn_mk ?a ?l ?c ?k;(case a=>k_is);(case l=>k_is);(case c=>k_is);(case k=>k_is)))
  (case d_tries=>(refine' My.defIn_mk ?a ?l ?c ?k;(case a=>k_is);(case l=>k_is);(case c=>k_is);(case k=>k_is)))
  (case d_best_whole_division=>(refine' My.defIn_mk ?a ?l ?c ?k;(case a=>k_is);(case l=>k_is);(case c=>k_is);(case k=>k_is)))
  (case d_best_earned=>(refine' My.defIn_mk ?a ?l ?c ?k;(case a=>k_is);(case l=>k_is);(case c=>k_is);(case k=>k_is)))
  (case d_difference=>(refine' My.defIn_mk ?a ?l ?c ?k;(case a=>k_is);(case l=>k_is);(case c=>k_is);(case k=>k_is)))
  (case d_is_without_gap=>(refine' My.defIn_mk ?a ?l ?c ?k;(case a=>k_is);(case l=>k_is);(case c=>k_is);(case k=>k_is)))
  (case d_within=>(refine' My.defIn_mk ?a ?l ?c ?k;(case a=>k_is);(case l=>k_is);(case c=>k_is);(case k=>k_is)))
  (case d_row_in_ranges=>(refine' My.defIn_mk ?a ?l ?c ?k;(case a=>k_is);(case l=>k_is);(case c=>k_is);(case k=>k_is)))
  (case d_in_ranges=>(refine' My.defIn_mk ?a ?l ?c ?k;(case a=>k_is);(case l=>k_is);(case c=>k_is);(case k=>k_is)))
  (case d_read_call=>(refine' My.defIn_mk ?a ?l ?c ?k;(case a=>k_is);(case l=>k_is);(case c=>k_is);(case k=>k_is)))
  (case d_add_leg=>(refine' My.defIn_mk ?a ?l ?c ?k;(case a=>k_is);(case l=>k_is);(case c=>k_is);(case k=>k_is)))
  (case d_add_journey=>(refine' My.defIn_mk ?a ?l ?c ?k;(case a=>k_is);(case l=>k_is);(case c=>k_is);(case k=>k_is)))
  (case d_change_cap=>(refine' My.defIn_mk ?a ?l ?c ?k;(case a=>k_is);(case l=>k_is);(case c=>k_is);(case k=>k_is)))
  (case d_change_demand=>(refine' My.defIn_mk ?a ?l ?c ?k;(case a=>k_is);(case l=>k_is);(case c=>k_is);(case k=>k_is)))
  (case d_change_fare=>(refine' My.defIn_mk ?a ?l ?c ?k;(case a=>k_is);(case l=>k_is);(case c=>k_is);(case k=>k_is)))
  (case d_tell_best=>(refine' My.defIn_mk ?a ?l ?c ?k;(case a=>k_is);(case l=>k_is);(case c=>k_is);(case k=>k_is)))
  (case d_tell_bids=>(refine' My.defIn_mk ?a ?l ?c ?k;(case a=>k_is);(case l=>k_is);(case c=>k_is);(case k=>k_is)))
  (case d_tell_accept=>(refine' My.defIn_mk ?a ?l ?c ?k;(case a=>k_is);(case l=>k_is);(case c=>k_is);(case k=>k_is)))
  (case d_tell_gain=>(refine' My.defIn_mk ?a ?l ?c ?k;(case a=>k_is);(case l=>k_is);(case c=>k_is);(case k=>k_is)))
  (case d_tell_whole=>(refine' My.defIn_mk ?a ?l ?c ?k;(case a=>k_is);(case l=>k_is);(case c=>k_is);(case k=>k_is)))
  (case d_tell_feasible=>(refine' My.defIn_mk ?a ?l ?c ?k;(case a=>k_is);(case l=>k_is);(case c=>k_is);(case k=>k_is)))
  (case d_tell_line=>(refine' My.defIn_mk ?a ?l ?c ?k;(case a=>k_is);(case l=>k_is);(case c=>k_is);(case k=>k_is)))
  (case d_clear_house=>(refine' My.defIn_mk ?a ?l ?c ?k;(case a=>k_is);(case l=>k_is);(case c=>k_is);(case k=>k_is)))
  (case d_tell_shown=>(refine' My.defIn_mk ?a ?l ?c ?k;(case a=>k_is);(case l=>k_is);(case c=>k_is);(case k=>k_is)))
  (case d_answer_to=>(refine' My.defIn_mk ?a ?l ?c ?k;(case a=>k_is);(case l=>k_is);(case c=>k_is);(case k=>k_is)))
  (case d_answers=>(refine' My.defIn_mk ?a ?l ?c ?k;(case a=>k_is);(case l=>k_is);(case c=>k_is);(case k=>k_is)))
  (case z_len=>k_is)
  (case z_range=>k_is)
  (case z_enumerate=>k_is)
  (case z_zip=>k_is)
  (case z_all=>k_is)
  (case z_set=>k_is)
  (case z_sum=>k_is)
  (case z_min=>k_is)
  (case z_max=>k_is)
  (case z_list=>k_is)
  (case n_OUT_OF_RANGE=>(refine' My.numIn_mk ?a;(case a=>k_is)))
  (case n_NO_SUCH_JOURNEY=>(refine' My.numIn_mk ?a;(case a=>k_is)))
  (case n_NO_ROOM=>(refine' My.numIn_mk ?a;(case a=>k_is)))
  (case n_NO_SUCH_LEG=>(refine' My.numIn_mk ?a;(case a=>k_is)))
  (case n_TOO_MANY_CHOICES=>(refine' My.numIn_mk ?a;(case a=>k_is)))
  (case n_LEG_TWICE=>(refine' My.numIn_mk ?a;(case a=>k_is)))
  (case n_NOT_ONE_EACH=>(refine' My.numIn_mk ?a;(case a=>k_is)))
  (case n_MOST_LEGS=>(refine' My.numIn_mk ?a;(case a=>k_is)))
  (case n_MOST_JOURNEYS=>(refine' My.numIn_mk ?a;(case a=>k_is)))
  (case n_MOST_CHOICES=>(refine' My.numIn_mk ?a;(case a=>k_is)))
  (case g_ARGUMENTS=>k_is)
  (case l_ARGUMENTS=>k_is)
  (case s_ARGUMENTS=>exact rfl)
  (case bA0=>(refine' My.bnd1_mk ?a ?b;(case a=>k_is);(case b=>(refine' My.pair_mk ?a;(case a=>k_is)))))
  (case bA1=>(refine' My.bnd2_mk ?a ?b ?c;(case a=>k_is);(case b=>(refine' My.pair_mk ?a;(case a=>k_is)));(case c=>(refine' My.pair_mk ?a;(case a=>k_is)))))
  (case bA2=>(refine' My.bnd2_mk ?a ?b ?c;(case a=>k_is);(case b=>(refine' My.pair_mk ?a;(case a=>k_is)));(case c=>(refine' My.pair_mk ?a;(case a=>k_is)))))
  (case bA3=>(refine' My.bnd2_mk ?a ?b ?c;(case a=>k_is);(case b=>(refine' My.pair_mk ?a;(case a=>k_is)));(case c=>(refine' My.pair_mk ?a;(case a=>k_is)))))
  (case bA4=>(refine' My.bnd2_mk ?a ?b ?c;(case a=>k_is);(case b=>(refine' My.pair_mk ?a;(case a=>k_is)));(case c=>(refine' My.pair_mk ?a;(case a=>k_is)))))
  (case bA5=>(refine' My.bnd0_mk ?a;(case a=>k_is)))
  (case bA6=>(refine' My.bnd0_mk ?a;(case a=>k_is)))
  (case bA7=>(refine' My.bnd1_mk ?a ?b;(case a=>k_is);(case b=>(refine' My.pair_mk ?a;(case a=>k_is)))))
  (case bA8=>(refine' My.bnd1_mk ?a ?b;(case a=>k_is);(case b=>(refine' My.pair_mk ?a;(case a=>k_is)))))
  (case bA9=>(refine' My.bnd0_mk ?a;(case a=>k_is)))
  (case bA10=>(refine' My.bnd0_mk ?a;(case a=>k_is)))
  (case bA11=>(refine' My.bnd0_mk ?a;(case a=>k_is)))
  (case bA12=>(refine' My.bnd0_mk ?a;(case a=>k_is)))
  (case bA13=>(refine' My.bnd0_mk ?a;(case a=>k_is)))
  (case g_ROWS=>k_is)
  (case l_ROWS=>k_is)
  (case s_ROWS=>exact rfl)
  (case bR1=>(refine' My.bnd2_mk ?a ?b ?c;(case a=>k_is);(case b=>(refine' My.pair_mk ?a;(case a=>k_is)));(case c=>(refine' My.pair_mk ?a;(case a=>k_is)))))
  (case bR10=>(refine' My.bnd2_mk ?a ?b ?c;(case a=>k_is);(case b=>(refine' My.pair_mk ?a;(case a=>k_is)));(case c=>(refine' My.pair_mk ?a;(case a=>k_is)))))
  (case g_ACTS=>k_is)
  (case l_ACTS=>k_is)
  (case s_ACTS=>exact rfl)
 case S=>
  intro K H xs a hO hwi hask hx;cases hx with
  | cons h1 h2=>
   cases h2;cases h1 with
   | lst hs ha=>
    have e:=L2.ints_dw a.1 _ ha;subst e;have hp:=My.play_all (l:=a.1) hask;rw[<-My.tabA,<-My.tabR] at hp;exact⟨_,a.1,_,rfl,My.calls_of hO hs,hp.1,hp.2,fun H' p h=>.lst (L2.SqL.of h) (L2.dw_ints _)⟩
end