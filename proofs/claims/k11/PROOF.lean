import PyProof.Rows.All
import Wide.All
import OpenK.AllK
import Wide.FinOn
import Lean
import PyProof.EqAt
import PyProof.EqKinds
import PyProof.TupleCall
import PySem.SetOps
import PyProof.TupleKey
import PyProof.DictKinds
import PyProof.SetKind
import PyProof.ListRange
import PyProof.Rows.SetFrom
import PyProof.CollectWalk
import PyProof.Rows.SortShell
import KE.KSortTup
import PyProof.NeKinds
import PyProof.StrLawsIn
import PyProof.StrLawsChain
import PyProof.StrBlockI
import PyProof.StrLawsRepr
import PyProof.ReprStr
import PyProof.StrWalks
import PyProof.StrOps2
import KE.KIntText
import PyProof.PureStr
import PyProof.DictFindH
import PyProof.FactsAll.bool
import KE.KDictList
import PyProof.Rows.SortRuns
import PyProof.Rows.SortWalk
import PyProof.ZipIter
import KE.KItemsList
import PyProof.RaisesMany
import PyProof.PassesOwn
import PyProof.ExcClass2
import PyProof.RulesAs
import PyProof.NsDelKeeps
import KE.KTryMore
import KE.KIsNot
import PyProof.ExcArgsOwn
import PyProof.ExcAttrAll.ValueError
import OpenK.KOwn
import PySem.Challenge.RW_keenscale_k11_whole_judge
set_option Elab.async false
set_option linter.all false
set_option maxRecDepth 100000
set_option maxHeartbeats 4000000
section
namespace L2
open PySem PySem.Spec PyProof.Rows
noncomputable abbrev Key:=Sum Int Str
noncomputable def keyIs:Key->Value->Bool
 | .inl k,v=>Value.isInt k v
 | .inr x,v=>Value.isStrOf x v
noncomputable def keyH(w:World):Key->Int
 | .inl k=>hashInt k
 | .inr x=>hashStr w x
theorem Zw:∀ {k:Key} {v:Value},keyIs k v=true->(∃ i t,k=Sum.inl i/\v=Value.int i t)∨(∃ x t,k=Sum.inr x/\v=Value.str x t)
 | .inl i,v,h=>by
  obtain⟨t,e⟩:=Value.isInt_shape (k:=i) (v:=v) h;exact .inl ⟨i,t,rfl,e⟩
 | .inr x,v,h=>by
  obtain⟨t,e⟩:=Value.isStrOf_shape (x:=x) (v:=v) h;exact .inr ⟨x,t,rfl,e⟩
theorem Zea(i:Int)(t:Tok):keyIs (.inl i) (.int i t)=true:=by simp[keyIs,Value.isInt]
theorem Zd9(x:Str)(t:Tok):keyIs (.inr x) (.str x t)=true:=by simp[keyIs,Value.isStrOf]
theorem Zjr(a b:Int):decide ((Sum.inl a:Key)=Sum.inl b)=(a == b):=by
 by_cases e:a=b
 ·subst e;simp
 ·have h:¬ (Sum.inl a:Key)=Sum.inl b:=fun q=>e (Sum.inl.inj q);rw[decide_eq_false h];exact (beq_eq_false_iff_ne.mpr e).symm
theorem Zjo(a b:Str):decide ((Sum.inr a:Key)=Sum.inr b)=decide (a=b):=by
 by_cases e:a=b
 ·subst e;simp
 ·have h:¬ (Sum.inr a:Key)=Sum.inr b:=fun q=>e (Sum.inr.inj q);rw[decide_eq_false h,decide_eq_false e]
theorem Zjq(a:Int)(b:Str):decide ((Sum.inl a:Key)=Sum.inr b)=false:=decide_eq_false (fun q=>nomatch q)
theorem Zjp(a:Str)(b:Int):decide ((Sum.inr a:Key)=Sum.inl b)=false:=decide_eq_false (fun q=>nomatch q)
noncomputable def mixKind(prog:Program)(w:World):PySem.KeyKind prog w Key where
 is:=keyIs
 hash:=keyH w
 inj:=fun v a b ha hb=>by
  rcases Zw ha with ⟨i,t,rfl,rfl⟩ | ⟨x,t,rfl,rfl⟩
  ·rcases Zw hb with ⟨j,u,rfl,e⟩ | ⟨y,u,rfl,e⟩
   ·injection e with e1 _;rw[e1]
   ·exact nomatch e
  ·rcases Zw hb with ⟨j,u,rfl,e⟩ | ⟨y,u,rfl,e⟩
   ·exact nomatch e
   ·injection e with e1 _;rw[e1]
 byValue:=fun k v h=>by
  rcases Zw h with ⟨i,t,rfl,rfl⟩ | ⟨x,t,rfl,rfl⟩<;>rfl
 pyHash:=fun hv h=>by
  rcases Zw hv with ⟨i,t,rfl,rfl⟩ | ⟨x,t,rfl,rfl⟩
  ·exact wpAny_pyHash_int h
  ·exact wpAny_pyHash_str h
 eqBool:=fun hu hv h=>by
  rcases Zw hu with ⟨i,t,rfl,rfl⟩ | ⟨x,t,rfl,rfl⟩
  ·rcases Zw hv with ⟨j,u,rfl,rfl⟩ | ⟨y,u,rfl,rfl⟩
   ·rw[Zjr] at h;exact wpAny_eqBool_int h
   ·rw[Zjq] at h;exact SeqAt.EqAt.int_str i t y u _ _ _ _ h
  ·rcases Zw hv with ⟨j,u,rfl,rfl⟩ | ⟨y,u,rfl,rfl⟩
   ·rw[Zjp] at h;exact SeqAt.EqAt.str_int x t j u _ _ _ _ h
   ·rw[Zjo] at h;exact wpAny_eqBool_str h
 «strs» :=fun k x t v h=>by
  rcases Zw h with ⟨i,u,rfl,e⟩ | ⟨y,u,rfl,e⟩
  ·exact nomatch e
  ·injection e with e1 _
   subst e1;cases v<;>rfl
theorem Zat(prog:Program)(w:World)(i:Int)(t:Tok):(mixKind prog w).is (.inl i) (.int i t)=true:=Zea i t
theorem Zas(prog:Program)(w:World)(x:Str)(t:Tok):(mixKind prog w).is (.inr x) (.str x t)=true:=Zd9 x t
end L2
namespace L2
open PySem PySem.Spec PyProof.Rows
inductive V where
 | non | bl (b:Bool) | int (i:Int) | str (x:Str) | byt (b:Array UInt8) | flt (b:UInt64) | ref (a:Addr) | ty (n:String)
 deriving DecidableEq
noncomputable def RelV:V->Value->Prop
 | .non,u=>u=Value.none
 | .bl b,u=>u=Value.bool b
 | .int i,u=>∃ t,u=Value.int i t
 | .str x,u=>∃ t,u=Value.str x t
 | .byt b,u=>∃ t,u=Value.bytes b t
 | .flt b,u=>∃ t,u=Value.float b t
 | .ref a,u=>u=Value.ref a
 | .ty n,u=>u=Value.type n
noncomputable abbrev Vals:List V->List Value->Prop:=Paired RelV
theorem Vals.length{xs:List V}{us:List Value}(r:Vals xs us):xs.length=us.length:=Paired.length r
theorem Vals.get:∀ {xs:List V} {us:List Value} {i:Nat} {x:V},Vals xs us->xs[i]? = some x->∃ u,us[i]? = some u/\RelV x u
 | _,_,_,_,.nil,e=>by simp at e
 | _,_,0,_,.cons r _,e=>by simp at e;subst e;exact⟨_,rfl,r⟩
 | _,_,i+1,x,.cons _ t,e=>by
  obtain⟨u,h1,h2⟩:=Vals.get (i:=i) (x:=x) t (by simpa using e)
  exact⟨u,by simpa using h1,h2⟩
theorem Vals.set{x:V}{u:Value}(r:RelV x u):∀ {xs:List V} {us:List Value} (i:Nat),Vals xs us->Vals (xs.set i x) (us.set i u)
 | _,_,_,.nil=>.nil
 | _,_,0,.cons _ t=>.cons r t
 | _,_,i+1,.cons q t=>.cons q (Vals.set r i t)
theorem Vals.append:∀ {xs ys:List V} {us ws:List Value},Vals xs us->Vals ys ws->Vals (xs++ys) (us++ws)
 | _,_,_,_,.nil,s=>s
 | _,_,_,_,.cons r t,s=>.cons r (Vals.append t s)
theorem Vals.take:∀ {xs:List V} {us:List Value} (n:Nat),Vals xs us->Vals (xs.take n) (us.take n)
 | _,_,0,_=>.nil
 | _,_,_+1,.nil=>.nil
 | _,_,n+1,.cons r t=>.cons r (Vals.take n t)
theorem Vals.drop:∀ {xs:List V} {us:List Value} (n:Nat),Vals xs us->Vals (xs.drop n) (us.drop n)
 | _,_,0,r=>r
 | _,_,_+1,.nil=>.nil
 | _,_,n+1,.cons _ t=>Vals.drop n t
noncomputable def RelO:Option V->Option Value->Prop
 | some v,some u=>RelV v u
 | none,none=>True
 | _,_=>False
noncomputable def KV{κ:Type}:List (κ×V)->List (κ×Value)->Prop:=Paired fun (p:κ×V) (q:κ×Value)=>p.1=q.1/\RelV p.2 q.2
noncomputable def kV:Key->V
 | .inl i=>.int i
 | .inr x=>.str x
inductive HO where
 | lst (xs:List V)
 | tup (xs:List V)
 | dK (kvs:List (Key×V)) | dT (kvs:List (List Key×V))
 | set (S:Int->Bool) (n:Nat)
 | ins (C dx:Addr) (fs:List (Str×V))
 | own (x:Addr)
 | xd (fs:List (Str×V))
 | met (f x:Addr)
 | rng (lo hi:Int)
 | frz (o:Obj) (u:HO)
 | tbl (ps:Array Value)
 | ext (φ:Heap->Prop)
noncomputable abbrev Hp:=Addr->Option HO
noncomputable def upd(H:Hp)(a:Addr)(o:HO):Hp:=fun b=>if b=a then some o else H b
theorem Zb{H:Hp}{a:Addr}{o:HO}:upd H a o a=some o:=by unfold upd;rw[if_pos rfl]
theorem Zh{H:Hp}{a b:Addr}{o:HO}(h:b≠a):upd H a o b=H b:=by unfold upd;rw[if_neg h]
theorem Zy{H:Hp}{a b:Addr}{o u:HO}(h:H a=some o)(h':H b=some u)(d:o≠u):a≠b:=by
 intro e;subst e;rw[h] at h';exact d (Option.some.inj h')
theorem Zf{H:Hp}{a b:Addr}{o:HO}(h:H a=some o)(h':H b=none):a≠b:=by
 intro e;subst e;rw[h] at h';cases h'
section
variable(P:Program)(w:World)
noncomputable def ObjOk(H:Hp)(h:Heap)(a:Addr):HO->Prop
 | .lst xs=>xs.length<=sizeLine/\∃ (its:List Value) (n:Nat),Vals xs its/\h.get? a=some { cls:=.type "list",data:=.seq its.toArray n }
 | .tup xs=>xs.length<=sizeLine/\∃ its:List Value,Vals xs its/\IsTup h a its.toArray
 | .dK kvs=>kvs.length<=sizeLine/\(a == sysModules)=false/\∃ vs,KV kvs vs/\h.DictOf (mixKind P w) a vs
 | .dT kvs=>kvs.length<=sizeLine/\(a == sysModules)=false/\∃ xs:List (List Key×Addr×Value),
   Paired (fun (p:List Key×V) (q:List Key×Addr×Value)=>p.1=q.1/\H q.2.1=some (.tup (p.1.map kV))/\RelV p.2 q.2.2) kvs xs /\
   ∃ o es ep,h.get? a=some o/\o.ExactDict/\o.data=.dict es ep/\es.toList=xs.map (entryOfKey (tupleKind (mixKind P w)))/\(xs.map (·.1)).Nodup
 | .set S n=>h.SetOf (intKind P w) a S n
 | .ins C dx fs=>H dx=some (.own a)/\fs.length<=1000/\dx≠a/\h.get? a=some (PySem.W.instObj C dx) /\
   ∃ mA,h.Ns1 dx mA/\(∀ f,RelO (fs.lookup f) (mA f))/\PySem.Within mA (fs.map (·.1))
 | .own _=>∃ o,h.get? a=some o
 | .xd fs=>∃ mA,h.Ns1 a mA/\∀ f,RelO (fs.lookup f) (mA f)
 | .rng lo hi=>∃ t u v,h.get? a=some { cls:=.type "range",data:=.fields #[.int lo t,.int hi u,.int 1 v] }
 | .frz o u=>h.get? a=some o/\ObjOk H h a u
 | .tbl ps=>h.get? a=some { cls:=.none,data:=.fields ps }
 | .met f x=>h.get? a=some (PySem.W.methodObj (.ref f) (.ref x))
 | .ext φ=>φ h/\(∃ o,h.get? a=some o)/\∀ h1 h2:Heap,φ h1->(∀ o,h1.get? a=some o->h2.get? a=some o)->φ h2
noncomputable def HOk(H:Hp)(h:Heap):Prop:=∀ a o,H a=some o->ObjOk P w H h a o
end
section
variable{P:Program}{w:World}{H H':Hp}{h h':Heap}{a:Addr}{o:HO}
theorem ObjOk.lt(x:ObjOk P w H h a o):a<h.objs.size:=by
 cases o with
 | lst xs=>obtain⟨_,_,_,_,e⟩:=x;exact Heap.lt_size e
 | tup xs=>obtain⟨_,_,_,p⟩:=x;exact p.lt
 | dK kvs=>obtain⟨_,_,_,_,o,_,_,e,_⟩:=x;exact Heap.lt_size e
 | dT kvs=>obtain⟨_,_,_,_,o,_,_,e,_⟩:=x;exact Heap.lt_size e
 | set S n=>obtain⟨o,_,_,_,e,_⟩:=x;exact Heap.lt_size e
 | ins C dx fs=>obtain⟨_,_,_,e,_⟩:=x;exact Heap.lt_size e
 | own y=>obtain⟨_,e⟩:=x;exact Heap.lt_size e
 | xd fs=>obtain⟨_,⟨_,_,_,e,_⟩,_⟩:=x;exact Heap.lt_size e
 | rng lo hi=>obtain⟨_,_,_,e⟩:=x;exact Heap.lt_size e
 | frz ob u=>obtain⟨e,_⟩:=x;exact Heap.lt_size e
 | tbl ps=>exact Heap.lt_size (show h.get? a=some _ from x)
 | met f y=>exact Heap.lt_size (show h.get? a=some _ from x)
 | ext φ=>obtain⟨_,⟨_,e⟩,_⟩:=x;exact Heap.lt_size e
theorem Paired.mapP{α β:Type}{F G:α->β->Prop}:∀ {l₁:List α} {l₂:List β},Paired F l₁ l₂->(∀ a b,F a b->G a b)->Paired G l₁ l₂
 | _,_,.nil,_=>.nil
 | _,_,.cons r t,f=>.cons (f _ _ r) (Paired.mapP t f)
theorem ObjOk.stay(x:ObjOk P w H h a o)(k:∀ b u,(b=a∨H b=some (.own a))->h.get? b=some u->h'.get? b=some u)
  (ho:∀ b,H b=some (.own a)->H' b=some (.own a)) (ht:∀ b xs,H b=some (.tup xs)->H' b=some (.tup xs)):ObjOk P w H' h' a o:=by
 induction o with
 | lst xs=>obtain⟨z,its,n,r,e⟩:=x;exact⟨z,its,n,r,k _ _ (.inl rfl) e⟩
 | tup xs=>obtain⟨z,its,r,ob,e,c⟩:=x;exact⟨z,its,r,ob,k _ _ (.inl rfl) e,c⟩
 | dK kvs=>obtain⟨z,y,vs,r,ob,es,ep,e,c⟩:=x;exact⟨z,y,vs,r,ob,es,ep,k _ _ (.inl rfl) e,c⟩
 | dT kvs=>
  obtain⟨z,y,xs,r,ob,es,ep,e,c⟩:=x;exact⟨z,y,xs,Paired.mapP r fun p q z=>⟨z.1,ht _ _ z.2.1,z.2.2⟩,ob,es,ep,k _ _ (.inl rfl) e,c⟩
 | set S n=>obtain⟨ob,es,ep,t,e,c⟩:=x;exact⟨ob,es,ep,t,k _ _ (.inl rfl) e,c⟩
 | ins C dx fs=>
  obtain⟨d,z,ne,e,mA,⟨od,es,ep,e2,c⟩,r⟩:=x;exact⟨ho _ d,z,ne,k _ _ (.inl rfl) e,mA,⟨od,es,ep,k _ _ (.inr d) e2,c⟩,r⟩
 | own y=>obtain⟨ob,e⟩:=x;exact⟨ob,k _ _ (.inl rfl) e⟩
 | xd fs=>obtain⟨mA,⟨od,es,ep,e,c⟩,r⟩:=x;exact⟨mA,⟨od,es,ep,k _ _ (.inl rfl) e,c⟩,r⟩
 | rng lo hi=>obtain⟨t,u,v,e⟩:=x;exact⟨t,u,v,k _ _ (.inl rfl) e⟩
 | frz ob u ih=>obtain⟨e,q⟩:=x;exact⟨k _ _ (.inl rfl) e,ih q⟩
 | tbl ps=>
  have e:h.get? a=some { cls:=.none,data:=.fields ps }:=x;show h'.get? a=some { cls:=.none,data:=.fields ps };exact k a _ (.inl rfl) e
 | met f y=>
  have e:h.get? a=some (PySem.W.methodObj (.ref f) (.ref y)):=x;show h'.get? a=some (PySem.W.methodObj (.ref f) (.ref y));exact k a _ (.inl rfl) e
 | ext φ=>obtain⟨p,⟨o,e⟩,st⟩:=x;exact⟨st _ _ p fun o q=>k _ _ (.inl rfl) q,⟨o,k _ _ (.inl rfl) e⟩,st⟩
theorem HOk.lt(x:HOk P w H h)(e:H a=some o):a<h.objs.size:=(x a o e).lt
theorem HOk.fresh(x:HOk P w H h)(e:h.objs.size<=a):H a=none:=by
 cases q:H a with
 | none=>rfl
 | some u=>exact absurd (Nat.lt_of_lt_of_le (x.lt q) e) (Nat.lt_irrefl _)
theorem HOk.kept(x:HOk P w H h)(k:∀ b u,h.get? b=some u->h'.get? b=some u):HOk P w H h':=fun a o e=>
 (x a o e).stay (fun b u _ q=>k b u q) (fun _ q=>q) fun _ _ q=>q
theorem HOk.laid(x:HOk P w H h)(k:∀ b u,h.get? b=some u->h'.get? b=some u)(hp:h.objs.size<=a)(new:ObjOk P w (upd H a o) h' a o):HOk P w (upd H a o) h':=fun b u e=>by
 have hn:=x.fresh hp;by_cases hb:b=a
 ·subst hb;rw[Zb] at e;cases e;exact new
 ·rw[Zh hb] at e;exact (x b u e).stay (fun c v _ q=>k c v q) (fun c q=>by rw[Zh (Zf q hn)];exact q) fun c xs q=>by rw[Zh (Zf q hn)];exact q
end
noncomputable def Rd(H:Hp)(a:Addr)(u:HO):Prop:=H a=some u∨∃ o,H a=some (.frz o u)
theorem Rd.ok{P:Program}{w:World}{H:Hp}{h:Heap}{a:Addr}{u:HO}(r:Rd H a u)(x:HOk P w H h):ObjOk P w H h a u:=by
 rcases r with r | ⟨o,r⟩
 ·exact x a u r
 ·obtain⟨_,q⟩:=x a _ r;exact q
noncomputable def Mut:Option HO->Prop
 | some (.lst _)=>True
 | some (.dK _)=>True
 | some (.dT _)=>True
 | some (.set _ _)=>True
 | some (.ins _ _ _)=>True
 | some (.ext _)=>True
 | _=>False
section
variable{P:Program}{w:World}{H:Hp}{h h':Heap}{x e:Addr}{o':HO}
theorem HOk.write(ok:HOk P w H h)(mu:Mut (H x))(he:e=x∨H e=some (.own x))(k:∀ b u,b≠e->h.get? b=some u->h'.get? b=some u)(heo:∃ u,h'.get? e=some u)
  (new:ObjOk P w (upd H x o') h' x o'):HOk P w (upd H x o') h':=fun b u q=>by
 have nown:∀ c y,H c=some (.own y)->c≠x:=fun c y r z=>by subst z;rw[r] at mu;exact mu
 have ntup:∀ c xs,H c=some (.tup xs)->c≠x:=fun c xs r z=>by subst z;rw[r] at mu;exact mu
 by_cases hb:b=x
 ·subst hb;rw[Zb] at q;cases q;exact new
 ·rw[Zh hb] at q;by_cases hbe:b=e
  ·have q':H b=some (.own x):=by
    rcases he with z | z
    ·exact absurd (hbe.trans z) hb
    ·rw[hbe];exact z
   rw[q] at q';cases q';obtain⟨v,hv⟩:=heo;exact⟨v,by rw[hbe];exact hv⟩
  ·refine (ok b u q).stay (fun c v hc r=>k c v ?_ r) (fun c r=>by rw[Zh (nown c b r)];exact r) fun c xs r=>by rw[Zh (ntup c xs r)];exact r
   rcases hc with rfl | hc
   ·exact hbe
   ·rintro rfl;rcases he with z | z
    ·exact nown c b hc z
    ·rw[hc] at z;cases z;exact hb rfl
end
structure Un(fs ex:List Addr)(H H':Hp)(h h':Heap):Prop where
 keep:∀ b o,h.get? b=some o->H b=none->b∉fs->b∉ex->h'.get? b=some o
 slot:∀ b o,h.get? b=some o->H b=none->b∈fs->b∉ex->∃ sl,h'.get? b=some { o with slots:=sl }
 free:∀ b o,h.get? b=some o->H b=none->b∉ex->H' b=none
 there:∀ b o,h.get? b=some o->b∉ex->∃ o',h'.get? b=some o'
 tups:∀ b xs,H b=some (.tup xs)->H' b=some (.tup xs)
 frzs:∀ b o u,H b=some (.frz o u)->H' b=some (.frz o u)
 tbls:∀ b ps,H b=some (.tbl ps)->∃ more,H' b=some (.tbl (ps++more))
section
variable{fs fs' ex ex':List Addr}{H H1 H2:Hp}{h h1 h2 h':Heap}{a x e:Addr}{o:HO}
theorem Un.any(u:Un fs ex H H1 h h1){b:Addr}{ob:Obj}(q:h.get? b=some ob)(n:H b=none)(hx:b∉ex):∃ sl,h1.get? b=some { ob with slots:=sl }:=by
 by_cases hb:b∈fs
 ·exact u.slot b ob q n hb hx
 ·exact⟨ob.slots,u.keep b ob q n hb hx⟩
theorem Un.kept(k:∀ b u,h.get? b=some u->h'.get? b=some u):Un fs ex H H h h':=
 ⟨fun b ob q _ _ _=>k b ob q,fun b ob q _ _ _=>⟨ob.slots,k b ob q⟩,fun _ _ _ n _=>n,fun b ob q _=>⟨ob,k b ob q⟩,fun _ _ q=>q,fun _ _ _ q=>q,fun _ ps q=>⟨#[],by rw[q];simp⟩⟩
theorem Un.refl:Un fs ex H H h h:=Un.kept fun _ _ q=>q
theorem Un.laid(k:∀ b u,h.get? b=some u->h'.get? b=some u)(hp:h.objs.size<=a)(hn:H a=none):Un fs ex H (upd H a o) h h' where
 keep:=fun b u q _ _ _=>k b u q
 slot:=fun b u q _ _ _=>⟨u.slots,k b u q⟩
 free:=fun b u q n _=>by rw[Zh (Nat.ne_of_lt (Nat.lt_of_lt_of_le (Heap.lt_size q) hp))];exact n
 there:=fun b u q _=>⟨u,k b u q⟩
 tups:=fun b xs q=>by rw[Zh (Zf q hn)];exact q
 frzs:=fun b u xs q=>by rw[Zh (Zf q hn)];exact q
 tbls:=fun b ps q=>⟨#[],by rw[Zh (Zf q hn),q];simp⟩
theorem Un.write(mu:Mut (H x))(he:e=x∨H e=some (.own x))(k:∀ b u,b≠e->h.get? b=some u->h'.get? b=some u)(heo:∃ u,h'.get? e=some u):Un fs ex H (upd H x o) h h':=by
 have hx:∀ b,H b=none->b≠x:=fun b n z=>by subst z;rw[n] at mu;exact mu
 have hb:∀ b,H b=none->b≠e:=fun b n z=>by
  subst z;rcases he with r | r
  ·exact hx b n r
  ·rw[n] at r;cases r
 have hm:∀ b u,H b=some u->¬ Mut (some u)->b≠x:=fun b u q nm z=>by subst z;rw[q] at mu;exact nm mu
 refine⟨fun b u q n _ _=>k b u (hb b n) q,fun b u q n _ _=>⟨u.slots,k b u (hb b n) q⟩,fun b u q n _=>by rw[Zh (hx b n)];exact n,fun b u q _=>?_,
  fun b xs q=>by rw[Zh (hm b _ q fun z=>z)];exact q,fun b u xs q=>by rw[Zh (hm b _ q fun z=>z)];exact q,fun b ps q=>⟨#[],by rw[Zh (hm b _ q fun z=>z),q];simp⟩⟩
 by_cases hbe:b=e
 ·subst hbe;exact heo
 ·exact⟨u,k b u hbe q⟩
end
noncomputable def trk(h:Heap)(H:Hp):List Addr:=(List.range h.objs.size).filter fun a=>(H a).isSome
noncomputable def hidT(h:Heap)(H:Hp):Heap:=PySem.W.hideAll h (trk h H)
theorem Zeg(h:Heap)(H:Hp):(hidT h H).objs.size=h.objs.size:=PySem.W.hideAll_size _ _
theorem Zgj{h:Heap}{H:Hp}{b:Addr}{o:Obj}(e:h.get? b=some o)(n:H b=none):(hidT h H).get? b=some o:=
 PySem.W.hideAll_get _ e fun hm=>by
  have q:(H b).isSome=true:=(List.mem_filter.mp hm).2;rw[n] at q;simp at q
theorem Zie{h:Heap}{H:Hp}{b:Addr}{o:Obj}(e:(hidT h H).get? b=some o):h.get? b=some o/\H b=none:=by
 have e':h.get? b=some o:=PySem.W.of_hideAll (trk h H) e;refine⟨e',?_⟩;cases q:H b with
 | none=>rfl
 | some x=>
  have hm:b∈trk h H:=List.mem_filter.mpr ⟨List.mem_range.mpr (Heap.lt_size e'),by simp[q]⟩
  have z:(hidT h H).get? b=none:=PySem.W.hideAll_none (trk h H) hm;rw[z] at e;cases e
end L2
namespace L2
open PySem PySem.Spec PyProof.Rows
structure Mod(K:PySem.W.Frag)(mg:Str->Option Value)(base:Heap):Prop where
 kin:K.In base
 glob:base.Ns mainGlobals mg
 blt:∃ mb,base.Ns builtinsNs mb/\∀ x:Str,x≠"__name__"->mb x=bootBuiltins x
 nolimit:base.NoLimit
structure Cx where
 prog:Program
 w:World
 K:PySem.W.Frag
 mg:Str->Option Value
 base:Heap
 A:Around
 N:List Str
 s₀:Shared
 H₀:Hp
 env:Env
 outer:List Env
 stack:List Env
 ex:List Addr
 fn:Str->Bool
 calm:Bool
 pn:List (Addr×Obj)
 xe:Value->Shared->Prop
noncomputable def frs(l:List Env):List Addr:=l.filterMap (·.frame)
noncomputable abbrev Cx.fs(X:Cx):List Addr:=frs X.outer
noncomputable def Vis(sc:Scope)(x:Str):Prop:=sc.names.lookup x=some .local∨sc.names.lookup x=some .cell∨sc.names.lookup x=some .free
noncomputable def Loc(sc:Scope)(x:Str):Prop:=sc.names.lookup x=some .local∨sc.names.lookup x=some .cell
noncomputable def Look(env:Env)(h:Heap)(m:Str->Option Value)(x:Str)(u:Value):Prop:=
 (env.kindOf x=some .local/\m x=some u)∨((env.kindOf x=some .cell∨env.kindOf x=some .free)/\∃ c,env.cells.lookup x=some c/\h.IsCell c (some u))
structure Cx.Ok(X:Cx):Prop where
 mod:Mod X.K X.mg X.base
 kind:X.env.scope.kind=.function
 glob:X.env.globals=mainGlobals
 blt:X.env.builtins=builtinsNs
 above:X.s₀.heap.objs.size<=X.env.locals
 inj:∀ x y c,X.env.cells.lookup x=some c->X.env.cells.lookup y=some c->x=y
 has:∀ x,(X.env.kindOf x=some .cell∨X.env.kindOf x=some .free)->∃ c,X.env.cells.lookup x=some c
 cab:∀ x c,X.fn x=true->X.env.cells.lookup x=some c->X.s₀.heap.objs.size<=c
 hd:X.calm=true->X.A.handled=none
 frames:X.A.frames=some X.stack
 stk:X.stack=X.outer∨(X.stack=X.env::X.outer/\X.env.frame=some X.env.locals)
 exf:∀ b∈X.ex,b≠X.env.locals/\∀ x c,X.env.cells.lookup x=some c->c≠b
 bs:∀ b o,X.base.get? b=some o->X.s₀.heap.get? b=some o/\X.H₀ b=none
 bsz:X.base.objs.size<=X.s₀.heap.objs.size
 noex:∀ b o,X.base.get? b=some o->b∉X.ex
 exfs:∀ b∈X.ex,b∉X.fs
 funs:X.s₀.heap.FunFrames X.base X.outer
 frf:∀ b∈X.fs,X.H₀ b=none
structure Inv(X:Cx)(pins:List (Addr×Obj))(σ:List (Option V))(H:Hp)(s:Shared):Prop where
 ok:X.Ok
 os:s.os=X.s₀.os
 bare:AllBare s.gens
 base:Un X.fs X.ex X.H₀ H X.s₀.heap s.heap
 loc:∃ m,s.heap.Ns X.env.locals m/\∀ (i:Nat) (x:Str) (v:V),X.N[i]? = some x->σ[i]? = some (some v)->Vis X.env.scope x->∃ u,RelV v u/\Look X.env s.heap m x u
 cell:∀ x c,X.env.cells.lookup x=some c->∃ v,s.heap.IsCell c v
 free:H X.env.locals=none
 freeC:∀ x c,X.env.cells.lookup x=some c->H c=none
 pin:∀ p∈X.pn++pins,s.heap.get? p.1=some p.2/\H p.1=none/\p.1≠X.env.locals/\p.1∉X.fs/\∀ v,p.2.data≠.cell v
 hok:HOk X.prog X.w H s.heap
 len:σ.length=X.N.length
section
variable{X:Cx}{pins:List (Addr×Obj)}{σ:List (Option V)}{H H':Hp}{s:Shared}{h':Heap}
theorem Cx.Ok.nofr(ok:X.Ok){b:Addr}{o:Obj}(e:X.base.get? b=some o):b∉X.fs:=fun hb=>by
 have:=(ok.funs.mem hb).1;rw[e] at this;cases this
theorem Inv.bs(I:Inv X pins σ H s):∀ b o,X.base.get? b=some o->s.heap.get? b=some o/\H b=none:=fun b o e=>
 ⟨I.base.keep b o (I.ok.bs b o e).1 (I.ok.bs b o e).2 (I.ok.nofr e) (I.ok.noex b o e),I.base.free b o (I.ok.bs b o e).1 (I.ok.bs b o e).2 (I.ok.noex b o e)⟩
theorem Inv.bk(I:Inv X pins σ H s):∀ b o,X.base.get? b=some o->s.heap.get? b=some o:=fun b o e=>(I.bs b o e).1
theorem Inv.mod(I:Inv X pins σ H s):Mod X.K X.mg X.base:=I.ok.mod
theorem Inv.kIn(I:Inv X pins σ H s):X.K.In s.heap:=I.ok.mod.kin.keeps I.bk
theorem Inv.lt(I:Inv X pins σ H s):X.env.locals<s.heap.objs.size:=let ⟨_,hn,_⟩:=I.loc;hn.lt
theorem Inv.sz(I:Inv X pins σ H s):X.s₀.heap.objs.size<=s.heap.objs.size:=Nat.le_trans I.ok.above (Nat.le_of_lt I.lt)
theorem Inv.nofs(I:Inv X pins σ H s){a:Addr}(h:s.heap.objs.size<=a):a∉X.fs:=fun hb=>by
 obtain⟨_,o,ho,_⟩:=I.ok.funs.mem hb;exact absurd (Nat.lt_of_lt_of_le (Heap.lt_size ho) (Nat.le_trans I.sz h)) (Nat.lt_irrefl _)
theorem Inv.cne(I:Inv X pins σ H s):∀ x c,X.env.cells.lookup x=some c->c≠X.env.locals:=fun x c e z=>by
 obtain⟨v,o,ho,hd⟩:=I.cell x c e;obtain⟨m,⟨o',es,ep,ho',hd',_⟩,_⟩:=I.loc;rw[z,ho'] at ho;cases ho;rw[hd'] at hd;cases hd
theorem Inv.funs(I:Inv X pins σ H s):s.heap.FunFrames X.base X.outer:=by
 have all:∀ (l:List Env),(∀ b∈frs l,b∈X.fs)->X.s₀.heap.FunFrames X.base l->s.heap.FunFrames X.base l:=by
  intro l
  induction l with
  | nil=>intro _ _;trivial
  | cons env r ih=>
   intro hs hl;obtain⟨hk,⟨L,o,hf,hn,ho,hd⟩,hr⟩:=hl;have hL:L∈X.fs:=hs L (by unfold frs;rw[List.filterMap_cons,hf];exact List.mem_cons_self)
   obtain⟨sl,e⟩:=I.base.slot L o ho (I.ok.frf L hL) hL fun z=>I.ok.exfs L z hL;exact⟨hk,⟨L,_,hf,hn,e,hd⟩,ih (fun b hb=>hs b (by unfold frs;rw[List.filterMap_cons,hf];exact List.mem_cons_of_mem _ hb)) hr⟩
 exact all X.outer (fun _ hb=>hb) I.ok.funs
theorem Inv.stack(I:Inv X pins σ H s):s.heap.FunFrames X.base X.stack:=by
 rcases I.ok.stk with e | ⟨e,hf⟩
 ·rw[e];exact I.funs
 ·rw[e];obtain⟨m,hn,_⟩:=I.loc;refine .cons (by rw[I.ok.kind];decide) hf hn ?_ I.funs
  exact Heap.get?_none_of_le (Nat.le_trans I.ok.bsz I.ok.above)
theorem Inv.stkSub(I:Inv X pins σ H s):∀ b∈frs X.stack,b∈X.env.locals::X.fs:=fun b hb=>by
 rcases I.ok.stk with e | ⟨e,hf⟩
 ·rw[e] at hb;exact List.mem_cons_of_mem _ hb
 ·rw[e] at hb;unfold frs at hb;rw[List.filterMap_cons,hf] at hb;exact hb
theorem Inv.stkFree(I:Inv X pins σ H s):∀ b∈frs X.stack,H b=none:=fun b hb=>by
 rcases List.mem_cons.mp (I.stkSub b hb) with e | hb
 ·rw[e];exact I.free
 ·obtain⟨_,o,ho,_⟩:=I.ok.funs.mem hb;exact I.base.free b o ho (I.ok.frf b hb) fun z=>I.ok.exfs b z hb
theorem Inv.step{g':Array GenState}{t':Nat}{d':Drawn}{ch:List Addr}(I:Inv X pins σ H s)
  (hch:∀ b∈ch,(b∈X.ex∨X.s₀.heap.objs.size<=b)/\b≠X.env.locals/\(∀ x c,X.env.cells.lookup x=some c->c≠b)/\∀ p∈X.pn++pins,p.1≠b)
  (keep:∀ b o,b≠X.env.locals->b∉X.fs->b∉ch->s.heap.get? b=some o->H b=none->h'.get? b=some o)
  (slot:∀ b o,b≠X.env.locals->b∈X.fs->b∉ch->s.heap.get? b=some o->H b=none->∃ sl,h'.get? b=some { o with slots:=sl }) (free:∀ b o,b∉ch->s.heap.get? b=some o->H b=none->H' b=none)
  (there:∀ b o,b∉ch->s.heap.get? b=some o->∃ o',h'.get? b=some o')
  (tups:∀ b xs,H b=some (.tup xs)->H' b=some (.tup xs)) (frzs:∀ b o u,H b=some (.frz o u)->H' b=some (.frz o u)) (tbls:∀ b ps,H b=some (.tbl ps)->∃ more,H' b=some (.tbl (ps++more)))
  (ns:∀ m,s.heap.Ns X.env.locals m->h'.Ns X.env.locals m) (hok:HOk X.prog X.w H' h') (hg:AllBare g'):
  Inv X pins σ H' { s with heap:=h',gens:=g',drawn:=d',toks:=t' }:=by
 have neL:∀ b o,X.s₀.heap.get? b=some o->b≠X.env.locals:=fun b o e=>Nat.ne_of_lt (Nat.lt_of_lt_of_le (Heap.lt_size e) I.ok.above);have neC:∀ b o,X.s₀.heap.get? b=some o->b∉X.ex->b∉ch:=fun b o e hx hb=>by
  rcases (hch b hb).1 with z | z
  ·exact hx z
  ·exact absurd (Nat.lt_of_lt_of_le (Heap.lt_size e) z) (Nat.lt_irrefl _)
 have cellK:∀ x c,X.env.cells.lookup x=some c->∀ v,s.heap.IsCell c v->h'.IsCell c v:=fun x c e v ⟨o,ho,hd⟩=>by
  have nch:c∉ch:=fun z=>(hch c z).2.2.1 x c e rfl;by_cases hc:c∈X.fs
  ·obtain⟨sl,q⟩:=slot c o (I.cne x c e) hc nch ho (I.freeC x c e);exact⟨_,q,hd⟩
  ·exact⟨o,keep c o (I.cne x c e) hc nch ho (I.freeC x c e),hd⟩
 refine⟨I.ok,I.os,hg,⟨fun b o e n hb hx=>?_,fun b o e n hb hx=>?_,fun b o e n hx=>?_,fun b o e hx=>?_,fun b xs e=>tups b xs (I.base.tups b xs e),fun b o xs e=>frzs b o xs (I.base.frzs b o xs e),fun b ps e=>?_⟩,?_,fun x c e=>?_,?_,fun x c e=>?_,fun p hp=>?_,hok,I.len⟩
 ·exact keep b o (neL b o e) hb (neC b o e hx) (I.base.keep b o e n hb hx) (I.base.free b o e n hx)
 ·obtain⟨sl,e1⟩:=I.base.slot b o e n hb hx;obtain⟨sl',e2⟩:=slot b _ (neL b o e) hb (neC b o e hx) e1 (I.base.free b o e n hx);exact⟨sl',e2⟩
 ·obtain⟨o',e1⟩:=I.base.there b o e hx;exact free b o' (neC b o e hx) e1 (I.base.free b o e n hx)
 ·obtain⟨o',e1⟩:=I.base.there b o e hx;exact there b o' (neC b o e hx) e1
 ·obtain⟨m1,e1⟩:=I.base.tbls b ps e;obtain⟨m2,e2⟩:=tbls b _ e1;exact⟨m1++m2,by rw[e2,Array.append_assoc]⟩
 ·obtain⟨m,hn,hl⟩:=I.loc;refine⟨m,ns m hn,fun i x v e1 e2 e3=>?_⟩;obtain⟨u,r,l⟩:=hl i x v e1 e2 e3;refine⟨u,r,?_⟩;rcases l with l | ⟨k,c,e,z⟩
  ·exact .inl l
  ·exact .inr ⟨k,c,e,cellK x c e _ z⟩
 ·obtain⟨v,z⟩:=I.cell x c e;exact⟨v,cellK x c e v z⟩
 ·obtain⟨m,⟨o,_,_,ho,_⟩,_⟩:=I.loc;exact free _ o (fun z=>(hch _ z).2.1 rfl) ho I.free
 ·obtain⟨v,o,ho,hd⟩:=I.cell x c e;exact free c o (fun z=>(hch c z).2.2.1 x c e rfl) ho (I.freeC x c e)
 ·obtain⟨e,n,ne,nf,d⟩:=I.pin p hp;have nch:p.1∉ch:=fun z=>(hch p.1 z).2.2.2 p hp rfl;exact⟨keep p.1 p.2 ne nf nch e n,free p.1 p.2 nch e n,ne,nf,d⟩
theorem Inv.un{t':Nat}(I:Inv X pins σ H s)(u:Un X.fs [] H H' s.heap h')(hok:HOk X.prog X.w H' h'):Inv X pins σ H' { s with heap:=h',toks:=t' }:=by
 obtain⟨m,⟨o,es,ep,ho,r⟩,_⟩:=id I.loc;obtain⟨sl,hL⟩:=u.any ho I.free (by simp)
 exact I.step (g':=s.gens) (d':=s.drawn) (ch:=[]) (fun _ z=>nomatch z) (fun b o _ hb _ e n=>u.keep b o e n hb (by simp)) (fun b o _ hb _ e n=>u.slot b o e n hb (by simp)) (fun b o _ e n=>u.free b o e n (by simp)) (fun b o _ e=>u.there b o e (by simp)) u.tups u.frzs u.tbls (fun m' hm=>by
  obtain⟨o',es',ep',ho',r'⟩:=hm;rw[ho] at ho';cases ho';exact⟨_,es',ep',hL,r'⟩) hok I.bare
theorem Inv.call{g':Array GenState}{t':Nat}{d':Drawn}{ch:List Addr}(I:Inv X pins σ H s)(u:Un (frs X.stack) ch H H' s.heap h')(hok:HOk X.prog X.w H' h')(hg:AllBare g')
  (hch:∀ b∈ch,(b∈X.ex∨X.s₀.heap.objs.size<=b)/\b≠X.env.locals/\(∀ x c,X.env.cells.lookup x=some c->c≠b)/\∀ p∈X.pn++pins,p.1≠b):
  Inv X pins σ H' { s with heap:=h',gens:=g',drawn:=d',toks:=t' }:=by
 obtain⟨m,⟨o,es,ep,ho,r⟩,_⟩:=id I.loc;obtain⟨sl,hL⟩:=u.any ho I.free fun z=>(hch _ z).2.1 rfl;exact I.step (ch:=ch) hch (fun b o hL hb hc e n=>u.keep b o e n (fun z=>(List.mem_cons.mp (I.stkSub b z)).elim hL hb) hc) (fun b o _ _ hc e n=>u.any e n hc) (fun b o hc e n=>u.free b o e n hc) (fun b o hc e=>u.there b o e hc) u.tups u.frzs u.tbls (fun m' hm=>by
  obtain⟨o',es',ep',ho',r'⟩:=hm;rw[ho] at ho';cases ho';exact⟨_,es',ep',hL,r'⟩) hok hg
theorem Inv.turned{t':Nat}{it:Addr}(I:Inv X pins σ H s)(k:∀ b o,b≠it->s.heap.get? b=some o->h'.get? b=some o)(hn:H it=none)(hL:it≠X.env.locals)
  (h1:it∈X.ex∨X.s₀.heap.objs.size<=it) (h2:∀ x c,X.env.cells.lookup x=some c->c≠it) (h3:∀ p∈X.pn++pins,p.1≠it):Inv X pins σ H { s with heap:=h',toks:=t' }:=by
 have nit:∀ b u,H b=some u->b≠it:=fun b u e z=>by rw[z,hn] at e;cases e
 refine I.step (g':=s.gens) (d':=s.drawn) (ch:=[it]) (fun b hb=>?_) (fun b o _ _ hc e _=>k b o (fun z=>hc (by simp[z])) e) (fun b o _ _ hc e _=>⟨o.slots,k b o (fun z=>hc (by simp[z])) e⟩) (fun _ _ _ _ n=>n)
  (fun b o hc e=>⟨o,k b o (fun z=>hc (by simp[z])) e⟩) (fun _ _ e=>e) (fun _ _ _ e=>e) (fun b ps e=>⟨#[],by rw[e];simp⟩) (fun m hm=>?_) (fun b u e=>?_) I.bare
 ·have e:b=it:=by simpa using hb
  subst e;exact⟨h1,hL,h2,h3⟩
 ·obtain⟨o,es,ep,ho,r⟩:=hm;exact⟨o,es,ep,k _ o (Ne.symm hL) ho,r⟩
 ·refine (I.hok b u e).stay (fun c v hc q=>k c v ?_ q) (fun _ q=>q) fun _ _ q=>q;rcases hc with z | z
  ·rw[z];exact nit b u e
  ·exact nit c _ z
theorem Inv.tok(I:Inv X pins σ H s)(t:Nat):Inv X pins σ H { s with toks:=t }:=I.un (h':=s.heap) (t':=t) Un.refl I.hok
theorem Inv.kept{t':Nat}(I:Inv X pins σ H s)(k:∀ b u,s.heap.get? b=some u->h'.get? b=some u):Inv X pins σ H { s with heap:=h',toks:=t' }:=I.un (Un.kept k) (I.hok.kept k)
theorem Inv.laid{a:Addr}{o:HO}{t':Nat}(I:Inv X pins σ H s)(k:∀ b u,s.heap.get? b=some u->h'.get? b=some u)(hp:s.heap.objs.size<=a)(new:ObjOk X.prog X.w (upd H a o) h' a o):
  Inv X pins σ (upd H a o) { s with heap:=h',toks:=t' }:=I.un (Un.laid k hp (I.hok.fresh hp)) (I.hok.laid k hp new)
theorem Inv.write{x e:Addr}{o:HO}{t':Nat}(I:Inv X pins σ H s)(mu:Mut (H x))(he:e=x∨H e=some (.own x))(k:∀ b u,b≠e->s.heap.get? b=some u->h'.get? b=some u)(heo:∃ u,h'.get? e=some u)
  (new:ObjOk X.prog X.w (upd H x o) h' x o):Inv X pins σ (upd H x o) { s with heap:=h',toks:=t' }:=I.un (Un.write mu he k heo) (I.hok.write mu he k heo new)
theorem Inv.weak{σ':List (Option V)}(I:Inv X pins σ H s)(hl:σ'.length=σ.length)(w:∀ (i:Nat) v,σ'[i]? = some (some v)->σ[i]? = some (some v)):Inv X pins σ' H s:=
 ⟨I.ok,I.os,I.bare,I.base,let ⟨m,hn,hl'⟩:=I.loc;⟨m,hn,fun i x v e1 e2 e3=>hl' i x v e1 (w i v e2) e3⟩,I.cell,I.free,I.freeC,I.pin,I.hok,hl.trans I.len⟩
theorem Inv.pins_of{pins':List (Addr×Obj)}(I:Inv X pins σ H s)(h:∀ p∈pins',s.heap.get? p.1=some p.2/\H p.1=none/\p.1≠X.env.locals/\p.1∉X.fs/\∀ v,p.2.data≠.cell v):Inv X pins' σ H s:=
 ⟨I.ok,I.os,I.bare,I.base,I.loc,I.cell,I.free,I.freeC,fun p hp=>(List.mem_append.mp hp).elim (fun z=>I.pin p (List.mem_append_left _ z)) (h p),I.hok,I.len⟩
theorem Ur{N:List Str}(hN:N.Nodup){i j:Nat}{x:Str}(a:N[i]? = some x)(b:N[j]? = some x):i=j:=by
 obtain⟨h1,e1⟩:=List.getElem?_eq_some_iff.mp a;obtain⟨h2,e2⟩:=List.getElem?_eq_some_iff.mp b;exact (List.getElem_inj hN).mp (e1.trans e2.symm)
theorem Zc6{M:Model}{A:Around}{E:Value->Shared->Prop}{i:Nat}{x:Str}{v:V}{u:Value}{Q:Unit->Shared->Prop}(I:Inv X pins σ H s)(hN:X.N.Nodup)(hi:X.N[i]? = some x)(hx:Loc X.env.scope x)(r:RelV v u)
  (h:∀ s',Inv X pins (σ.set i (some v)) H s'->(∃ a,Heap.SameBut a s.heap s'.heap/\(a=X.env.locals∨X.env.cells.lookup x=some a))->Q () s') (hf:X.fn x=true∨X.env.scope.names.lookup x=some .local:=by first | exact .inl rfl | exact .inr rfl | assumption):wpAny M A (storeName X.env x u) Q E s:=by
 obtain⟨m,hn,hl⟩:=id I.loc;have hcls:(X.env.scope.kind == .class||(X.env.scope.kind == .module&&X.env.locals != X.env.globals))=false:=by rw[I.ok.kind];rfl
 have hiσ:i<σ.length:=by rw[I.len];exact (List.getElem?_eq_some_iff.mp hi).1
 have cne:=I.cne;have tracked:∀ {a:Addr} {h':Heap},(∃ o,s.heap.get? a=some o/\H a=none)->Heap.SameBut a s.heap h'->HOk X.prog X.w H h':=fun {a h'} ha hs b ob e=>by
  obtain⟨_,_,hfree⟩:=ha;refine (I.hok b ob e).stay (fun c w' hc q=>(hs.2 c ?_).trans q) (fun _ q=>q) fun _ _ q=>q;rintro rfl;rcases hc with rfl | hc
  ·rw[hfree] at e;cases e
  ·rw[hfree] at hc;cases hc
 rcases hx with hk | hk
 ·refine wpAny_storeName_local hk hn (fun h' hn' hs=>?_) hcls;obtain⟨oL,_,_,hoL,_⟩:=id hn;refine h _ ⟨I.ok,I.os,I.bare,⟨fun b o e n hb hx=>?_,fun b o e n hb hx=>?_,I.base.free,fun b o e hx=>?_,I.base.tups,I.base.frzs,I.base.tbls⟩,⟨_,hn',fun j y v' e1 e2 e3=>?_⟩,fun y c e=>?_,I.free,I.freeC,fun p hp=>?_,tracked ⟨oL,hoL,I.free⟩ hs,by simpa using I.len⟩ ⟨_,hs,.inl rfl⟩
  ·exact (hs.2 b (Nat.ne_of_lt (Nat.lt_of_lt_of_le (Heap.lt_size e) I.ok.above))).trans (I.base.keep b o e n hb hx)
  ·obtain⟨sl,e1⟩:=I.base.slot b o e n hb hx;exact⟨sl,(hs.2 b (Nat.ne_of_lt (Nat.lt_of_lt_of_le (Heap.lt_size e) I.ok.above))).trans e1⟩
  ·obtain⟨o',e1⟩:=I.base.there b o e hx;exact⟨o',(hs.2 b (Nat.ne_of_lt (Nat.lt_of_lt_of_le (Heap.lt_size e) I.ok.above))).trans e1⟩
  ·by_cases hj:j=i
   ·subst hj;rw[hi] at e1;cases e1;rw[List.getElem?_set_self hiσ] at e2;cases e2;exact⟨u,r,.inl ⟨hk,by simp⟩⟩
   ·rw[List.getElem?_set_ne (Ne.symm hj)] at e2;obtain⟨u',r',q⟩:=hl j y v' e1 e2 e3;refine⟨u',r',?_⟩;rcases q with ⟨k,e⟩ | ⟨k,c,e,z⟩
    ·refine .inl ⟨k,?_⟩;have:y≠x:=fun e=>hj (Ur hN e1 (e▸hi));simp[this,e]
    ·exact .inr ⟨k,c,e,z.sameBut hs (cne y c e)⟩
  ·obtain⟨w',z⟩:=I.cell y c e;exact⟨w',z.sameBut hs (cne y c e)⟩
  ·obtain⟨e,n,ne,nf,d⟩:=I.pin p hp;exact⟨(hs.2 p.1 ne).trans e,n,ne,nf,d⟩
 ·have hfn:X.fn x=true:=by
   rcases hf with z | z
   ·exact z
   ·rw[z] at hk;cases hk
  obtain⟨c,hc⟩:=I.ok.has x (.inl hk);obtain⟨w',z⟩:=I.cell x c hc;refine wpAny_storeName_cell I.ok.kind hk hc z (fun h' hc' hs=>?_);obtain⟨oc,hoc,hocd⟩:=id z;refine h { s with heap:=h' } ⟨I.ok,I.os,I.bare,⟨fun b o e n hb hx=>?_,fun b o e n hb hx=>?_,I.base.free,fun b o e hx=>?_,I.base.tups,I.base.frzs,I.base.tbls⟩,⟨m,hn.sameBut hs (Ne.symm (cne x c hc)),fun j y v' e1 e2 e3=>?_⟩,fun y c' e=>?_,I.free,I.freeC,fun p hp=>?_,tracked ⟨oc,hoc,I.freeC x c hc⟩ hs,by simpa using I.len⟩ ⟨c,hs,.inr hc⟩
  ·exact (hs.2 b (Nat.ne_of_lt (Nat.lt_of_lt_of_le (Heap.lt_size e) (I.ok.cab x c hfn hc)))).trans (I.base.keep b o e n hb hx)
  ·obtain⟨sl,e1⟩:=I.base.slot b o e n hb hx;exact⟨sl,(hs.2 b (Nat.ne_of_lt (Nat.lt_of_lt_of_le (Heap.lt_size e) (I.ok.cab x c hfn hc)))).trans e1⟩
  ·obtain⟨o',e1⟩:=I.base.there b o e hx;exact⟨o',(hs.2 b (Nat.ne_of_lt (Nat.lt_of_lt_of_le (Heap.lt_size e) (I.ok.cab x c hfn hc)))).trans e1⟩
  ·by_cases hj:j=i
   ·subst hj;rw[hi] at e1;cases e1;rw[List.getElem?_set_self hiσ] at e2;cases e2;exact⟨u,r,.inr ⟨.inl hk,c,hc,hc'⟩⟩
   ·rw[List.getElem?_set_ne (Ne.symm hj)] at e2;obtain⟨u',r',q⟩:=hl j y v' e1 e2 e3;refine⟨u',r',?_⟩;rcases q with q | ⟨k,c',e,z'⟩
    ·exact .inl q
    ·refine .inr ⟨k,c',e,z'.sameBut hs ?_⟩;rintro rfl;exact hj (Ur hN e1 (I.ok.inj _ _ _ e hc▸hi))
  ·by_cases hcc:c'=c
   ·subst hcc;exact⟨_,hc'⟩
   ·obtain⟨w2,z2⟩:=I.cell y c' e;exact⟨w2,z2.sameBut hs hcc⟩
  ·obtain⟨e,n,ne,nf,d⟩:=I.pin p hp;refine⟨(hs.2 p.1 ?_).trans e,n,ne,nf,d⟩;intro q;rw[q,hoc] at e;have q':oc=p.2:=Option.some.inj e;exact d w' (by rw[← q'];exact hocd)
theorem Wl{M:Model}{A:Around}{E:Value->Shared->Prop}{i:Nat}{x:Str}{v:V}{u:Value}{Q:Unit->Shared->Prop}(I:Inv X pins σ H s)(hN:X.N.Nodup)(hi:X.N[i]? = some x)(hx:Loc X.env.scope x)(r:RelV v u)
  (h:∀ s',Inv X pins (σ.set i (some v)) H s'->Q () s') (hf:X.fn x=true∨X.env.scope.names.lookup x=some .local:=by first | exact .inl rfl | exact .inr rfl | assumption):wpAny M A (storeName X.env x u) Q E s:=
 Zc6 I hN hi hx r (fun s' I' _=>h s' I') hf
theorem Inv.call'{s':Shared}{ch:List Addr}(I:Inv X pins σ H s)(ho:s'.os=s.os)(u:Un (frs X.stack) ch H H' s.heap s'.heap)(hok:HOk X.prog X.w H' s'.heap)(hg:AllBare s'.gens)
  (hch:∀ b∈ch,(b∈X.ex∨X.s₀.heap.objs.size<=b)/\b≠X.env.locals/\(∀ x c,X.env.cells.lookup x=some c->c≠b)/\∀ p∈X.pn++pins,p.1≠b):Inv X pins σ H' s':=by
 obtain⟨h',g',d',t',o'⟩:=s';have e:o'=s.os:=ho;subst e;exact I.call (g':=g') (t':=t') (d':=d') u hok hg hch
end
noncomputable abbrev XK:=Value->Option Addr->Hp->Prop
noncomputable abbrev St:=List (Option V)
noncomputable abbrev VK:=V->Hp->Prop
noncomputable abbrev TE:=St->Hp->VK->Prop
noncomputable abbrev TT:=St->Hp->(Bool->Hp->Prop)->Prop
noncomputable abbrev TA:=St->Hp->(List V->Hp->Prop)->Prop
structure Ends where
 nx:St->Hp->Prop
 rt:VK
 bk:St->Hp->Prop:=fun _ _=>False
 ct:St->Hp->Prop:=fun _ _=>False
noncomputable abbrev TS:=Ends->St->Hp->Prop
noncomputable def EP(X:Cx)(pins:List (Addr×Obj))(σ:St)(Q:VK)(u:Value)(s':Shared):Prop:=∃ v H',Inv X pins σ H' s'/\RelV v u/\Q v H'
noncomputable def TP(X:Cx)(pins:List (Addr×Obj))(σ:St)(Q:Bool->Hp->Prop)(b:Bool)(s':Shared):Prop:=∃ H',Inv X pins σ H' s'/\Q b H'
noncomputable def AP(X:Cx)(pins:List (Addr×Obj))(σ:St)(Q:List V->Hp->Prop)(us:List Value)(s':Shared):Prop:=∃ vs H',Inv X pins σ H' s'/\Vals vs us/\Q vs H'
noncomputable def SP(X:Cx)(pins:List (Addr×Obj))(D:Ends)(f:Flow)(s':Shared):Prop:=
 match f with
 | .next=>∃ σ' H',Inv X pins σ' H' s'/\D.nx σ' H'
 | .brk=>∃ σ' H',Inv X pins σ' H' s'/\D.bk σ' H'
 | .cont=>∃ σ' H',Inv X pins σ' H' s'/\D.ct σ' H'
 | .ret u=>∃ v σ' H',Inv X pins σ' H' s'/\RelV v u/\D.rt v H'
noncomputable def PE(X:Cx)(e:Expr)(t:TE):Prop:=
 ∀ (pins:List (Addr×Obj)) (s:Shared) (σ:St) (H:Hp) (Q:VK),Inv X pins σ H s->t σ H Q->wpAny (model X.prog X.w) X.A (eval e X.env) (EP X pins σ Q) X.xe s
noncomputable def PT(X:Cx)(e:Expr)(t:TT):Prop:=
 ∀ (pins:List (Addr×Obj)) (s:Shared) (σ:St) (H:Hp) (Q:Bool->Hp->Prop),Inv X pins σ H s->t σ H Q->wpAny (model X.prog X.w) X.A (isTrue e X.env (eval e X.env)) (TP X pins σ Q) X.xe s
noncomputable def PW(X:Cx)(e:Expr)(t:TT):Prop:=
 ∀ (whole:Sem Value) (pins:List (Addr×Obj)) (s:Shared) (σ:St) (H:Hp) (Q:Bool->Hp->Prop),Inv X pins σ H s->t σ H Q->wpAny (model X.prog X.w) X.A (isTrue e X.env whole) (TP X pins σ Q) X.xe s
theorem PW.pt{X:Cx}{e:Expr}{t:TT}(h:PW X e t):PT X e t:=h _
noncomputable def PA(X:Cx)(es:List Expr)(t:TA):Prop:=
 ∀ (pos:Pos) (pins:List (Addr×Obj)) (s:Shared) (σ:St) (H:Hp) (Q:List V->Hp->Prop),Inv X pins σ H s->t σ H Q->wpAny (model X.prog X.w) X.A (spliced (backTo pos (starEach es X.env))) (AP X pins σ Q) X.xe s
noncomputable def PS(X:Cx)(st:Stmt)(t:TS):Prop:=
 ∀ (pins:List (Addr×Obj)) (s:Shared) (σ:St) (H:Hp) (D:Ends),Inv X pins σ H s->t D σ H->wpAny (model X.prog X.w) X.A (exec st X.env) (SP X pins D) X.xe s
noncomputable def PSs(X:Cx)(st:List Stmt)(t:TS):Prop:=
 ∀ (pins:List (Addr×Obj)) (s:Shared) (σ:St) (H:Hp) (D:Ends),Inv X pins σ H s->t D σ H->wpAny (model X.prog X.w) X.A (execs st X.env) (SP X pins D) X.xe s
theorem thn{α:Type}{t:Sem α}{Q Q':α->Shared->Prop}{M:Model}{A:Around}{E:Value->Shared->Prop}{s:Shared}(h:wpAny M A t Q E s)(hQ:∀ a s,Q a s->Q' a s):wpAny M A t Q' E s:=wpAny_mono h hQ fun _ _ x=>x
end L2
namespace L2
open PySem PySem.Spec PyProof.Rows
section
variable{X:Cx}
noncomputable def tVar(i:Nat):TE:=fun σ H Q=>∃ v,σ[i]? = some (some v)/\Q v H
noncomputable def tC(v:V):TE:=fun _ H Q=>Q v H
theorem Zja{i:Nat}{x:Str}{pos:Pos}(hN:X.N[i]? = some x)(hv:Vis X.env.scope x)(hd:(x == ("__debug__":Str))=false:=by decide)(hcd:(x == ("__classdict__":Str))=false:=by decide):PE X (.Name x pos) (tVar i):=by
 intro pins s σ H Q I h;obtain⟨v,e,h⟩:=h;obtain⟨m,hn,hl⟩:=I.loc;obtain⟨u,r,l⟩:=hl i x v hN e hv;have fin:EP X pins σ Q u s:=⟨v,H,I,r,h⟩;rcases l with ⟨hk,hm⟩ | ⟨hk,c,hc,hcell⟩
 ·exact wpAny_Name (wpAny_loadName_local I.ok.kind hk hn hm fin) hd
 ·rcases hk with hk | hk
  ·exact wpAny_Name (wpAny_loadName_cell I.ok.kind hk hc hcell fin) hd
  ·exact wpAny_Name (wpAny_loadName_free I.ok.kind hk hc hcell fin hcd) hd
theorem Zg{i j pos}:PE X (.Constant (.int i) j pos) (tC (.int i)):=fun _ _ _ H _ I h=>wpAny_Constant_int ⟨.int i,H,I.tok _,⟨_,rfl⟩,h⟩
theorem Ye{b j pos}:PE X (.Constant (.bool b) j pos) (tC (.bl b)):=fun _ _ _ H _ I h=>Constant_bool ⟨.bl b,H,I,rfl,h⟩
theorem Ya{j pos}:PE X (.Constant .none j pos) (tC .non):=fun _ _ _ H _ I h=>Constant_none ⟨.non,H,I,rfl,h⟩
theorem Y9{x j pos}:PE X (.Constant (.str x) j pos) (tC (.str x)):=fun _ _ _ H _ I h=>Calls.Constant_str ⟨.str x,H,I.tok _,⟨_,rfl⟩,h⟩
noncomputable def Gl(X:Cx)(x:Str):Prop:=X.env.kindOf x=some .globalImplicit
theorem Vc{E:Value->Shared->Prop}{pins:List (Addr×Obj)}{s:Shared}{σ:St}{H:Hp}{x:Str}{u:Value}{pos:Pos}{Q:Value->Shared->Prop}(I:Inv X pins σ H s)(hg:Gl X x)(hm:X.mg x=some u)(h:Q u s)
  (hd:(x == ("__debug__":Str))=false:=by decide):wpAny (model X.prog X.w) X.A (eval (.Name x pos) X.env) Q E s:=
 Calls.Name_function_global I.ok.kind hg (Calls.loadGlobal_global (by rw[I.ok.glob];exact I.mod.glob.keeps I.bk) hm h) hd
theorem Wf{E:Value->Shared->Prop}{pins:List (Addr×Obj)}{s:Shared}{σ:St}{H:Hp}{x:Str}{u:Value}{pos:Pos}{Q:Value->Shared->Prop}(I:Inv X pins σ H s)(hg:Gl X x)(hm:X.mg x=none)(hv:bootBuiltins x=some u)(h:Q u s)
  (hn:x≠"__name__":=by decide) (hd:(x == ("__debug__":Str))=false:=by decide):wpAny (model X.prog X.w) X.A (eval (.Name x pos) X.env) Q E s:=by
 obtain⟨mb,h1,h2⟩:=I.mod.blt;exact Calls.Name_function_global I.ok.kind hg (Calls.loadGlobal_builtin (by rw[I.ok.glob];exact I.mod.glob.keeps I.bk) hm (by rw[I.ok.blt];exact h1.keeps I.bk) ((h2 x hn).trans hv) h) hd
theorem Ww{x:Str}{v:V}{u:Value}{pos:Pos}(hg:Gl X x)(hm:X.mg x=some u)(r:RelV v u)(hd:(x == ("__debug__":Str))=false:=by decide):PE X (.Name x pos) (tC v):=
 fun _ _ _ H _ I h=>Vc I hg hm ⟨v,H,I,r,h⟩ hd
theorem X2{x:Str}{v:V}{u:Value}{pos:Pos}(hg:Gl X x)(hm:X.mg x=none)(hv:bootBuiltins x=some u)(r:RelV v u)(hn:x≠"__name__":=by decide)(hd:(x == ("__debug__":Str))=false:=by decide):PE X (.Name x pos) (tC v):=
 fun _ _ _ H _ I h=>Wf I hg hm hv ⟨v,H,I,r,h⟩ hn hd
variable{a b:Expr}{ta tb:TE}{pos:Pos}
noncomputable def PC(X:Cx)(op:CmpOp)(a b:Expr)(t:TE):Prop:=
 ∀ (pins:List (Addr×Obj)) (s:Shared) (σ:St) (H:Hp) (Q:VK),Inv X pins σ H s->t σ H Q ->
  wpAny (model X.prog X.w) X.A (eval a X.env) (fun v s₁=>wpAny (model X.prog X.w) X.A (eval b X.env) (fun u s₂=>wpAny (model X.prog X.w) X.A (compareOp op v u) (EP X pins σ Q) X.xe s₂) X.xe s₁) X.xe s
noncomputable def tB(t:TE):TT:=fun σ H Q=>t σ H fun x H1=>∃ c,x=.bl c/\Q c H1
theorem Zdg{op:CmpOp}{t:TE}(h:PC X op a b t)(h1:behindInMarks op b=false:=by first | exact nobehind _ (by decide) (by decide) | rfl):PT X (.Compare a [op] [b] pos) (tB t):=by
 intro pins s σ H Q I hw;refine wpAny_isTrue_Compare1 (thn (h pins s σ H _ I hw) fun v s1 h1=>thn h1 fun u s2 h2=>thn h2 fun c s3 ⟨x,H1,I1,r1,q1⟩=>?_) h1;obtain⟨d,rfl,q⟩:=q1;cases r1;exact wpAny_truthy_bool ⟨H1,I1,q⟩
theorem Z9{e:Expr}{t:TE}(h:PE X e t)(he:∀ whole,isTrue e X.env whole=(do let v ← whole;standAt e.pos;holding [v] (truthy v)):=by intro _;rfl):PT X e (tB t):=by
 intro pins s σ H Q I hw;refine isTrue_plain (thn (h pins s σ H _ I hw) fun v s1 ⟨x,H1,I1,r1,q1⟩=>?_) (he _);obtain⟨d,rfl,q⟩:=q1;cases r1;exact wpAny_truthy_bool ⟨H1,I1,q⟩
variable{tA tB':TT}{rest:List Expr}
noncomputable def tAnd(t u:TT):TT:=fun σ H Q=>t σ H fun c H1=>if c=true then u σ H1 Q else Q false H1
noncomputable def tOr(t u:TT):TT:=fun σ H Q=>t σ H fun c H1=>if c=true then Q true H1 else u σ H1 Q
noncomputable def tNot(t:TT):TT:=fun σ H Q=>t σ H fun c H1=>Q (!c) H1
theorem Ws(ha:PT X a tA):PW X (.BoolOp .And [a] pos) tA:=by
 intro wh pins s σ H Q I h;refine isTrue_and (thn (ha pins s σ H Q I h) fun c s1 e=>?_);cases c with
 | true=>exact isTrue_and_nil e
 | false=>exact e
theorem Vs(ha:PT X a tA):PW X (.BoolOp .Or [a] pos) tA:=by
 intro wh pins s σ H Q I h;refine isTrue_or (thn (ha pins s σ H Q I h) fun c s1 e=>?_);cases c with
 | false=>exact isTrue_or_nil e
 | true=>exact e
theorem U8(ha:PT X a tA)(hb:PW X (.BoolOp .And (b::rest) pos) tB'):PW X (.BoolOp .And (a::b::rest) pos) (tAnd tA tB'):=by
 intro wh pins s σ H Q I h;refine isTrue_and (thn (ha pins s σ H _ I h) fun c s1 ⟨H1,I1,q1⟩=>?_);cases c with
 | true=>exact hb wh pins s1 σ H1 Q I1 q1
 | false=>exact⟨H1,I1,q1⟩
theorem Zaq(ha:PT X a tA)(hb:PW X (.BoolOp .Or (b::rest) pos) tB'):PW X (.BoolOp .Or (a::b::rest) pos) (tOr tA tB'):=by
 intro wh pins s σ H Q I h;refine isTrue_or (thn (ha pins s σ H _ I h) fun c s1 ⟨H1,I1,q1⟩=>?_);cases c with
 | true=>exact⟨H1,I1,q1⟩
 | false=>exact hb wh pins s1 σ H1 Q I1 q1
theorem Yk(ha:PT X a tA):PT X (.UnaryOp .Not a pos) (tNot tA):=by
 intro pins s σ H Q I h;exact isTrue_not (ha pins s σ H (fun c H1=>Q (!c) H1) I h)
noncomputable def tAndV(ta tb:TE):TE:=fun σ H Q=>ta σ H fun x H1=>∃ c,x=.bl c/\if c=true then tb σ H1 Q else Q (.bl false) H1
noncomputable def tNotV(ta:TE):TE:=fun σ H Q=>ta σ H fun x H1=>∃ c,x=.bl c/\Q (.bl (!c)) H1
theorem Zbm{op}{t:TE}(h:PE X a t):PE X (.BoolOp op [a] pos) t:=fun pins s σ H Q I hw=>BoolOp_one (h pins s σ H Q I hw)
theorem U9(ha:PE X a ta)(hb:PE X (.BoolOp .And (b::rest) pos) tb):PE X (.BoolOp .And (a::b::rest) pos) (tAndV ta tb):=by
 intro pins s σ H Q I h;refine BoolOp_and (thn (ha pins s σ H _ I h) fun v s1 ⟨x,H1,I1,r1,q1⟩=>?_);obtain⟨c,rfl,q1⟩:=q1;cases r1;refine wpAny_truthy_bool ?_;cases c with
 | true=>exact hb pins s1 σ H1 Q I1 q1
 | false=>exact⟨.bl false,H1,I1,rfl,q1⟩
theorem Zjc(ha:PE X a ta):PE X (.UnaryOp .Not a pos) (tNotV ta):=by
 intro pins s σ H Q I h;refine UnaryOp_ (thn (ha pins s σ H _ I h) fun v s1 ⟨x,H1,I1,r1,q1⟩=>?_);obtain⟨c,rfl,q1⟩:=q1;cases r1;exact not_of (wpAny_truthy_bool ⟨.bl (!c),H1,I1,rfl,q1⟩)
end
end L2
namespace L2
open PySem PySem.Spec PyProof.Rows
noncomputable def SqL(K:PySem.W.Frag)(H:Hp)(a:Addr)(xs:List V):Prop:=
 Rd H a (.lst xs) ∨
  ∃ (o:Obj) (its:Array Value) (n:Nat),K.lookup a=some o/\o.cls=.type "list"/\o.dict=none/\o.data=.seq its n/\its.size<=sizeLine/\Vals xs its.toList
noncomputable def SqT(K:PySem.W.Frag)(H:Hp)(a:Addr)(xs:List V):Prop:=
 Rd H a (.tup xs) ∨
  ∃ (o:Obj) (its:Array Value) (n:Nat),K.lookup a=some o/\o.cls=.type "tuple"/\o.data=.seq its n/\its.size<=sizeLine/\Vals xs its.toList
noncomputable def absV:Value->Option V
 | .none=>some .non
 | .bool b=>some (.bl b)
 | .int i _=>some (.int i)
 | .str x _=>some (.str x)
 | .bytes b _=>some (.byt b)
 | .float b _=>some (.flt b)
 | .ref a=>some (.ref a)
 | .type n=>some (.ty n)
 | _=>none
theorem RelV.abs{x:V}{u:Value}(r:RelV x u):absV u=some x:=by
 cases x with
 | non=>cases r;rfl
 | bl _=>cases r;rfl
 | int _=>obtain⟨t,rfl⟩:=r;rfl
 | str _=>obtain⟨t,rfl⟩:=r;rfl
 | byt _=>obtain⟨t,rfl⟩:=r;rfl
 | flt _=>obtain⟨t,rfl⟩:=r;rfl
 | ref _=>cases r;rfl
 | ty _=>cases r;rfl
theorem RelV.inj{x y:V}{u:Value}(r:RelV x u)(q:RelV y u):x=y:=Option.some.inj (r.abs.symm.trans q.abs)
theorem Vals.inj:∀ {xs ys:List V} {us:List Value},Vals xs us->Vals ys us->xs=ys
 | _,_,_,.nil,.nil=>rfl
 | _,_,_,.cons r t,.cons r' t'=>by rw[r.inj r',Vals.inj t t']
section
variable{X:Cx}{pins:List (Addr×Obj)}{σ:St}{H:Hp}{s:Shared}{a:Addr}{xs ys:List V}
theorem SqL.of{K:PySem.W.Frag}(h:H a=some (.lst xs)):SqL K H a xs:=.inl (.inl h)
theorem SqT.of{K:PySem.W.Frag}(h:H a=some (.tup xs)):SqT K H a xs:=.inl (.inl h)
theorem Inv.list(I:Inv X pins σ H s)(h:SqL X.K H a xs):∃ its:List Value,Vals xs its/\PlainL s.heap a its.toArray/\xs.length<=sizeLine:=by
 rcases h with h | ⟨o,its,n,hk,hc,hd,hs,hz,r⟩
 ·obtain⟨z,its,n,r,e⟩:=h.ok I.hok;exact⟨its,r,⟨_,n,e,rfl,rfl,rfl⟩,z⟩
 ·refine⟨its.toList,r,⟨o,n,I.kIn a o hk,hc,hd,by simpa using hs⟩,?_⟩
  have e:=r.length;simp only[Array.length_toList] at e;omega
theorem Inv.tuple(I:Inv X pins σ H s)(h:SqT X.K H a xs):∃ its:List Value,Vals xs its/\IsTup s.heap a its.toArray/\xs.length<=sizeLine:=by
 rcases h with h | ⟨o,its,n,hk,hc,hs,hz,r⟩
 ·obtain⟨z,its,r,p⟩:=h.ok I.hok;exact⟨its,r,p,z⟩
 ·refine⟨its.toList,r,⟨o,I.kIn a o hk,hc,n,by simpa using hs⟩,?_⟩
  have e:=r.length;simp only[Array.length_toList] at e;omega
theorem Inv.list_inj(I:Inv X pins σ H s)(h:SqL X.K H a xs)(h':SqL X.K H a ys):xs=ys:=by
 obtain⟨its,r,⟨o,n,e,_,_,d⟩,_⟩:=I.list h;obtain⟨its',r',⟨o',n',e',_,_,d'⟩,_⟩:=I.list h';rw[e] at e';cases e';rw[d] at d';injection d' with d1 _
 have:its=its':=by simpa using congrArg Array.toList d1
 subst this;exact r.inj r'
theorem Inv.tuple_inj(I:Inv X pins σ H s)(h:SqT X.K H a xs)(h':SqT X.K H a ys):xs=ys:=by
 obtain⟨its,r,⟨o,e,_,n,d⟩,_⟩:=I.tuple h;obtain⟨its',r',⟨o',e',_,n',d'⟩,_⟩:=I.tuple h';rw[e] at e';cases e';rw[d] at d';injection d' with d1 _
 have:its=its':=by simpa using congrArg Array.toList d1
 subst this;exact r.inj r'
end
noncomputable abbrev Cx.wish(X:Cx)(E:Value->Shared->Prop):Cx:={ X with xe:=E }
noncomputable abbrev Cx.nox(X:Cx):Cx:=X.wish fun _ _=>False
theorem Cx.Ok.wish{X:Cx}(ok:X.Ok)(E:Value->Shared->Prop):(X.wish E).Ok:=
 ⟨ok.mod,ok.kind,ok.glob,ok.blt,ok.above,ok.inj,ok.has,ok.cab,ok.hd,ok.frames,ok.stk,ok.exf,ok.bs,ok.bsz,ok.noex,ok.exfs,ok.funs,ok.frf⟩
theorem Cx.Ok.unwish{X:Cx}{E:Value->Shared->Prop}(ok:(X.wish E).Ok):X.Ok:=
 ⟨ok.mod,ok.kind,ok.glob,ok.blt,ok.above,ok.inj,ok.has,ok.cab,ok.hd,ok.frames,ok.stk,ok.exf,ok.bs,ok.bsz,ok.noex,ok.exfs,ok.funs,ok.frf⟩
section
variable{X:Cx}{pins:List (Addr×Obj)}{σ:St}{H:Hp}{s:Shared}{E:Value->Shared->Prop}
theorem Inv.wish(I:Inv X pins σ H s)(E:Value->Shared->Prop):Inv (X.wish E) pins σ H s:=⟨I.ok.wish E,I.os,I.bare,I.base,I.loc,I.cell,I.free,I.freeC,I.pin,I.hok,I.len⟩
theorem Inv.unwish(I:Inv (X.wish E) pins σ H s):Inv X pins σ H s:=⟨I.ok.unwish,I.os,I.bare,I.base,I.loc,I.cell,I.free,I.freeC,I.pin,I.hok,I.len⟩
theorem SP.unwish{D:Ends}{f:Flow}{s':Shared}(h:SP (X.wish E) pins D f s'):SP X pins D f s':=by
 cases f with
 | next=>obtain⟨σ',H',I,q⟩:=h;exact⟨σ',H',I.unwish,q⟩
 | brk=>obtain⟨σ',H',I,q⟩:=h;exact⟨σ',H',I.unwish,q⟩
 | cont=>obtain⟨σ',H',I,q⟩:=h;exact⟨σ',H',I.unwish,q⟩
 | ret u=>obtain⟨v,σ',H',I,r,q⟩:=h;exact⟨v,σ',H',I.unwish,r,q⟩
theorem PSs.nox{st:List Stmt}{t:TS}(h:PSs X.nox st t):PSs X st t:=fun pins s σ H D I hw=>
 wpAny_mono (h pins s σ H D (I.wish _) hw) (fun _ _ q=>q.unwish) fun _ _ z=>False.elim z
end
section
variable{X:Cx}{st:Stmt}{rest:List Stmt}{t u:TS}{e:Expr}{te:TE}{pos:Pos}
noncomputable def tNext:TS:=fun D σ H=>D.nx σ H
noncomputable def tSeq(t u:TS):TS:=fun D σ H=>t { D with nx:=u D } σ H
theorem Zl:PSs X [] tNext:=fun _ _ σ H _ I h=>wpAny_execs_nil ⟨σ,H,I,h⟩
theorem Zd(h1:PS X st t)(h2:PSs X rest u):PSs X (st::rest) (tSeq t u):=by
 intro pins s σ H D I h;refine wpAny_execs_cons (thn (h1 pins s σ H { D with nx:=u D } I h) fun f s1 q=>?_)
 cases f with
 | next=>
  obtain⟨σ',H',I',q⟩:=q;exact h2 pins s1 σ' H' D I' q
 | ret v=>exact q
 | brk=>exact q
 | cont=>exact q
theorem Ze(h1:PS X st t):PSs X [st] t:=by
 intro pins s σ H D I h;refine wpAny_execs_cons (thn (h1 pins s σ H D I h) fun f s1 q=>?_);cases f with
 | next=>exact wpAny_execs_nil q
 | ret v=>exact q
 | brk=>exact q
 | cont=>exact q
noncomputable def tBreak:TS:=fun D σ H=>D.bk σ H
theorem Zfu:PS X (.Break pos) tBreak:=fun _ _ σ H _ I h=>wpAny_Break ⟨σ,H,I,h⟩
theorem Inv.quiet{pins:List (Addr×Obj)}{σ:St}{H:Hp}{s:Shared}(I:Inv X pins σ H s):interactive X.env=false:=by simp[interactive,I.ok.kind]
noncomputable def tDrop(te:TE):TS:=fun D σ H=>te σ H fun _ H1=>D.nx σ H1
theorem Zz(he:PE X e te)(hs:swapsWith e none pos.line X.env=pure false:=by rfl):PS X (.Expr e pos) (tDrop te):=by
 intro pins s σ H D I h;exact wpAny_Expr_any (thn (he pins s σ H _ I h) fun v s1 ⟨x,H1,I1,r1,q1⟩=>⟨σ,H1,I1,q1⟩) I.quiet hs
noncomputable def tRet(te:TE):TS:=fun D σ H=>te σ H D.rt
theorem Zj(he:PE X e te):PS X (.Return (some e) pos) (tRet te):=by
 intro pins s σ H D I h;exact wpAny_Return_some (thn (he pins s σ H _ I h) fun v s1 ⟨x,H1,I1,r1,q1⟩=>⟨x,σ,H1,I1,r1,q1⟩)
noncomputable def tIfS(c:TT)(t u:TS):TS:=fun D σ H=>c σ H fun b H1=>if b=true then t D σ H1 else u D σ H1
theorem Zv{c:Expr}{a b:List Stmt}{tc:TT}(hc:PT X c tc)(ha:PSs X a t)(hb:PSs X b u):PS X (.If c a b pos) (tIfS tc t u):=by
 intro pins s σ H D I h;refine wpAny_If (thn (hc pins s σ H _ I h) fun d s1 ⟨H1,I1,q1⟩=>?_);cases d with
 | true=>exact ha pins s1 σ H1 D I1 q1
 | false=>exact hb pins s1 σ H1 D I1 q1
noncomputable def tNever:TS:=fun _ _ _=>False
theorem Y7{sts:List Stmt}:PSs X sts tNever:=fun _ _ _ _ _ _ h=>h.elim
end
noncomputable abbrev TG:=V->St->Hp->(St->Hp->Prop)->Prop
noncomputable abbrev TGs:=List V->St->Hp->(St->Hp->Prop)->Prop
noncomputable def PG(X:Cx)(target:Expr)(t:TG):Prop:=
 ∀ (pins:List (Addr×Obj)) (s:Shared) (σ:St) (H:Hp) (v:V) (u:Value) (Q:St->Hp->Prop),Inv X pins σ H s->RelV v u->t v σ H Q ->
  wpAny (model X.prog X.w) X.A (assign target X.env u) (fun _ s'=>∃ σ' H',Inv X pins σ' H' s'/\Q σ' H') X.xe s
noncomputable def PGs(X:Cx)(ts:List Expr)(t:TGs):Prop:=
 ∀ (pins:List (Addr×Obj)) (s:Shared) (σ:St) (H:Hp) (vs:List V) (us:List Value) (Q:St->Hp->Prop),Inv X pins σ H s->Vals vs us->t vs σ H Q ->
  wpAny (model X.prog X.w) X.A (assignInOrder ((assignEach ts X.env).map (·.2)) us) (fun _ s'=>∃ σ' H',Inv X pins σ' H' s'/\Q σ' H') X.xe s
noncomputable abbrev TSet:=V->V->V->Hp->(Hp->Prop)->Prop
noncomputable def PSet(X:Cx)(t:TSet):Prop:=
 ∀ (pins:List (Addr×Obj)) (s:Shared) (σ:St) (H:Hp) (o i v:V) (ov iv u:Value) (Q:Hp->Prop),Inv X pins σ H s->RelV o ov->RelV i iv->RelV v u->t o i v H Q ->
  wpAny (model X.prog X.w) X.A (setItem ov iv u) (fun _ s'=>∃ H',Inv X pins σ H' s'/\Q H') X.xe s
section
variable{X:Cx}{pos:Pos}
noncomputable def gName(i:Nat):TG:=fun v σ H Q=>Q (σ.set i (some v)) H
theorem Zn{i:Nat}{x:Str}(hN:X.N.Nodup)(hi:X.N[i]? = some x)(hx:Loc X.env.scope x)(hf:X.fn x=true∨X.env.scope.names.lookup x=some .local:=by first | exact .inl rfl | exact .inr rfl | assumption):PG X (.Name x pos) (gName i):=by
 intro pins s σ H v u Q I r h;exact wpAny_assign_Name (Wl I hN hi hx r (fun s' I'=>⟨_,H,I',h⟩) hf)
noncomputable def gNil:TGs:=fun vs σ H Q=>vs=[]/\Q σ H
noncomputable def gCons(t:TG)(u:TGs):TGs:=fun vs σ H Q=>∃ v r,vs=v::r/\t v σ H fun σ' H'=>u r σ' H' Q
theorem Wv:PGs X [] gNil:=by
 intro pins s σ H vs us Q I r h;obtain⟨e,h⟩:=h;subst e;cases r;exact assignInOrder_nil ⟨σ,H,I,h⟩
theorem Z5{e:Expr}{es:List Expr}{t:TG}{u:TGs}(h1:PG X e t)(h2:PGs X es u)
  (hs:(assignEach (e::es) X.env).map (·.2)=assign e X.env::(assignEach es X.env).map (·.2):=by rfl):PGs X (e::es) (gCons t u):=by
 intro pins s σ H vs us Q I r h;obtain⟨v,vr,e1,h⟩:=h;subst e1;cases r with
 | cons r rr=>
  rw[hs];refine assignInOrder_cons (thn (h1 pins s σ H _ _ _ I r h) fun _ s1 ⟨σ1,H1,I1,q1⟩=>?_);exact h2 pins s1 σ1 H1 _ _ Q I1 rr q1
noncomputable def gTup(K:PySem.W.Frag)(n:Nat)(t:TGs):TG:=fun v σ H Q=>∃ a xs,v=.ref a/\SqT K H a xs/\xs.length=n/\t xs σ H Q
theorem Zg2{es:List Expr}{k:Nat}{t:TGs}{n:Nat}(hc:X.calm=true)(h:PGs X es t)
  (hn:(assignEach es X.env).length=n:=by rfl) (hst:(assignEach es X.env).findIdx? (·.1)=none:=by rfl):PG X (.Tuple es k pos) (gTup X.K n t):=by
 intro pins s σ H v u Q I r hw;obtain⟨a,xs,e1,hq,hl,hw⟩:=hw;subst e1;cases r;obtain⟨its,rv,ht,hz⟩:=I.tuple hq;refine assign_Tuple_tuple (I.ok.hd hc) ht (by simp[hn,← hl,rv.length]) hst fun h' hx=>?_
 have I1:Inv X pins σ H { s with heap:=h' }:=I.kept (t':=s.toks) fun b o e=>hx b o (Nat.ne_of_lt (Heap.lt_size e)) e
 exact h pins _ σ H xs _ Q I1 (by simpa using rv) hw
noncomputable def gSub(to ti:TE)(t:TSet):TG:=fun v σ H Q=>to σ H fun o H1=>ti σ H1 fun i H2=>t o i v H2 fun H3=>Q σ H3
theorem Zg3{o i:Expr}{to ti:TE}{t:TSet}(ho:PE X o to)(hi:PE X i ti)(hs:PSet X t)
  (ha:∀ v,assign (.Subscript o i pos) X.env v=(do
   let ov ← holding [v] (eval o X.env)
   let iv ← holding [v,ov] (eval i X.env)
   standAt pos
   holding [v,ov,iv] (setItem ov iv v)
   release [v,ov,iv] []):=by intro _;rfl):PG X (.Subscript o i pos) (gSub to ti t):=by
 intro pins s σ H v u Q I r h;rw[ha];refine wpAny_bind (wpAny_holding (thn (ho pins s σ H _ I h) fun ov s1 ⟨x,H1,I1,r1,q1⟩=>?_));refine wpAny_bind (wpAny_holding (thn (hi pins s1 σ H1 _ I1 q1) fun iv s2 ⟨y,H2,I2,r2,q2⟩=>?_));refine wpAny_bind (wpAny_standAt (wpAny_bind (wpAny_holding (thn (hs pins s2 σ H2 x y v ov iv u _ I2 r1 r2 r q2) fun _ s3 ⟨H3,I3,q3⟩=>?_))));exact wpAny_release ⟨σ,H3,I3,q3⟩
noncomputable def tAsg(te:TE)(g:TG):TS:=fun D σ H=>te σ H fun x H1=>g x σ H1 D.nx
theorem Zg0{tg e:Expr}{te:TE}{g:TG}(he:PE X e te)(hg:PG X tg g)(hs:swapsWithSole [tg] e pos.line X.env=pure false:=by rfl)(hw:swappedStores [tg] e X.env=pure none:=by rfl)
  (h1:(assignEach [tg] X.env).map (·.2)=[assign tg X.env]:=by rfl):PS X (.Assign [tg] e pos) (tAsg te g):=by
 intro pins s σ H D I h;refine wpAny_Assign_stores (thn (he pins s σ H _ I h) fun v s1 ⟨x,H1,I1,r1,q1⟩=>?_) hs hw;rw[h1];exact thn (hg pins s1 σ H1 x v _ I1 r1 q1) fun _ s2 q=>q
theorem Zk{i:Nat}{x:Str}{e:Expr}{te:TE}{pos':Pos}(hN:X.N.Nodup)(hi:X.N[i]? = some x)(hx:Loc X.env.scope x)(he:PE X e te)(hs:swapsWith e (some (.Name x pos')) pos.line X.env=pure false:=by rfl)(hf:X.fn x=true∨X.env.scope.names.lookup x=some .local:=by first | exact .inl rfl | exact .inr rfl | assumption):
  PS X (.Assign [.Name x pos'] e pos) (tAsg te (gName i)):=by
 intro pins s σ H D I h;refine wpAny_Assign_Name (thn (he pins s σ H _ I h) fun v s1 ⟨y,H1,I1,r1,q1⟩=>?_) hs;exact Wl I1 hN hi hx r1 (fun s2 I2=>⟨_,H1,I2,q1⟩) hf
end
section
variable{X:Cx}{pos:Pos}
noncomputable def tWhile(c:TT)(tb:TS):TS:=fun D σ H=>∃ W:Nat->St->Hp->Prop,(∃ m,W m σ H)/\∀ m σ H,W m σ H ->
 c σ H fun b H1=>if b=true then ∃ N:St->Hp->Prop,(∀ σ' H',N σ' H'->∃ m',m'<m/\W m' σ' H')/\tb { D with nx:=N,ct:=N,bk:=D.nx } σ H1 else D.nx σ H1
theorem Zbi{c:Expr}{body:List Stmt}{tc:TT}{tb:TS}(hp:PassesOwn (model X.prog X.w) X.A X.env X.xe)(hc:PT X c tc)(hb:PSs X body tb):PS X (.While c body [] pos) (tWhile tc tb):=by
 intro pins s σ H D I h;obtain⟨W,⟨m0,w0⟩,turn⟩:=h;refine wpAny_While (codeAny_whileLoop (fun n s'=>∃ σ' H',Inv X pins σ' H' s'/\W n σ' H') ?_ m0 ⟨σ,H,I,w0⟩);rintro n s1 ⟨σ1,H1,I1,w1⟩;refine wpAny_passesOwn hp (thn (hc pins s1 σ1 H1 _ I1 (turn n σ1 H1 w1)) fun b s2 ⟨H2,I2,q2⟩=>?_);cases b with
 | true=>
  obtain⟨N,hN,q2⟩:=q2;rw[if_pos rfl];refine wpAny_passesOwn hp (thn (hb pins s2 σ1 H2 _ I2 q2) fun f s3 q3=>?_);cases f with
  | next=>
   obtain⟨σ3,H3,I3,n3⟩:=q3;obtain⟨m',hm,w3⟩:=hN σ3 H3 n3;exact⟨m',hm,σ3,H3,I3,w3⟩
  | cont=>
   obtain⟨σ3,H3,I3,n3⟩:=q3;obtain⟨m',hm,w3⟩:=hN σ3 H3 n3;exact⟨m',hm,σ3,H3,I3,w3⟩
  | brk=>exact q3
  | ret v=>exact q3
 | false=>
  rw[if_neg Bool.false_ne_true];exact wpAny_execs_nil ⟨σ1,H2,I2,q2⟩
end
structure It where
 go:Nat->Hp->Prop
 yld:Nat->Hp->V->Hp->Prop
 stop:Nat->Hp->Prop
noncomputable def FpOk(X:Cx)(pins:List (Addr×Obj))(H:Hp)(b:Addr):Prop:=
 H b=none/\b≠X.env.locals/\b∉X.fs/\(b∈X.ex∨X.s₀.heap.objs.size<=b)/\(∀ x c,X.env.cells.lookup x=some c->c≠b)/\∀ p∈X.pn++pins,p.1≠b
theorem Inv.fpOk{X:Cx}{pins:List (Addr×Obj)}{σ:St}{H H':Hp}{s:Shared}{b:Addr}(I:Inv X pins σ H s)(hb:s.heap.objs.size<=b)(hn:H' b=none):FpOk X pins H' b:=by
 refine⟨hn,Nat.ne_of_gt (Nat.lt_of_lt_of_le I.lt hb),I.nofs hb,.inr (Nat.le_trans I.sz hb),fun x c e z=>?_,fun p hp z=>?_⟩
 ·obtain⟨v,q⟩:=I.cell x c e;exact absurd (Nat.lt_of_lt_of_le q.lt (by rw[z];exact hb)) (Nat.lt_irrefl _)
 ·exact absurd (Nat.lt_of_lt_of_le (Heap.lt_size (I.pin p hp).1) (by rw[z];exact hb)) (Nat.lt_irrefl _)
structure Turn(P:Program)(w:World)(K:PySem.W.Frag)(tg:Expr)(J:It)(fp:List Addr)(it:Addr)(tn:Nat->Heap->Prop):Prop where
 mem:it∈fp
 obj:∀ i h,tn i h->∀ b∈fp,∃ o,h.get? b=some o/\∀ v,o.data≠.cell v
 keep:∀ i h h',tn i h->(∀ b∈fp,∀ o,h.get? b=some o->h'.get? b=some o)->tn i h'
 item:∀ (X:Cx),X.prog=P->X.w=w->X.K=K->X.calm=true->∀ (i:Nat) (pins:List (Addr×Obj)) (s:Shared) (σ:St) (H:Hp) (E:Value->Shared->Prop),Inv X pins σ H s->(∀ b∈fp,FpOk X pins H b)->tn i s.heap->J.go i H ->
  wpAny (model P w) X.A (pyNext (.ref it)) (fun r s1=>∃ u,r=some u /\
   wpAny (model P w) X.A (letOwnedTupleGo tg (.ref it) u) (fun _ s2=>∃ x H',Inv X pins σ H' s2/\RelV x u/\J.yld i H x H'/\tn (i+1) s2.heap/\∀ b∈fp,H' b=none) E s1) E s
 done:∀ (X:Cx),X.prog=P->X.w=w->X.K=K->X.calm=true->∀ (i:Nat) (pins:List (Addr×Obj)) (s:Shared) (σ:St) (H:Hp) (E:Value->Shared->Prop),Inv X pins σ H s->(∀ b∈fp,FpOk X pins H b)->tn i s.heap->J.stop i H ->
  wpAny (model P w) X.A (pyNext (.ref it)) (fun r s1=>r=none/\Inv X pins σ H s1) E s
 self:∀ (A:Around) (i:Nat) (s:Shared) (Q:Value->Shared->Prop) (E:Value->Shared->Prop),tn i s.heap->Q (.ref it) s->wpAny (model P w) A (pyIter (.ref it)) Q E s
noncomputable abbrev TI:=St->Hp->(It->Hp->Prop)->Prop
noncomputable def PIE(X:Cx)(pins:List (Addr×Obj))(σ:St)(tg:Expr)(R:It->Hp->Prop)(itv:Value)(s2:Shared):Prop:=
 ∃ (it:Addr) (fp:List Addr) (tn:Nat->Heap->Prop) (J:It) (H':Hp),itv=.ref it/\Inv X pins σ H' s2/\Turn X.prog X.w X.K tg J fp it tn/\tn 0 s2.heap/\(∀ b∈fp,FpOk X pins H' b)/\R J H'
noncomputable def PI(X:Cx)(tg iter:Expr)(wi:TI):Prop:=
 ∀ (pins:List (Addr×Obj)) (s:Shared) (σ:St) (H:Hp) (R:It->Hp->Prop),Inv X pins σ H s->wi σ H R ->
  wpAny (model X.prog X.w) X.A (eval iter X.env) (fun v s1=>wpAny (model X.prog X.w) X.A (pyIter v) (PIE X pins σ tg R) X.xe s1) X.xe s
theorem Zit{M:Model}{A:Around}{E:Value->Shared->Prop}{s:Shared}{tg:Expr}{it:Addr}{u:Value}{o:Obj}{n:String}{vs:Array Value}{Q:Unit->Shared->Prop}(ho:s.heap.get? it=some o)(hc:o.cls=.type n)(hd:o.data=.fields vs)
  (hn:["enumerate","zip","dict_itemiterator","dict_reverseitemiterator","odict_iterator","itertools.zip_longest","itertools.pairwise"].contains n=false) (hQ:Q () s):wpAny M A (letOwnedTupleGo tg (.ref it) u) Q E s:=by
 unfold letOwnedTupleGo;cases tg<;>first
  | exact wpAny_pure hQ
  | (cases u<;>first
    | exact wpAny_pure hQ
    | (refine wpAny_bind (wpAny_load ho ?_)
       rw[hc,hd];show wpAny M A (if (["enumerate","zip","dict_itemiterator","dict_reverseitemiterator","odict_iterator","itertools.zip_longest","itertools.pairwise"].contains n&&vs[0]? == some (rawInt _))=true then _ else _) Q E s
       rw[if_neg (by intro h;rw[hn,Bool.false_and] at h;cases h)]
       exact wpAny_pure hQ))
noncomputable def Itl(K:PySem.W.Frag)(a:Addr):It:=
 ⟨fun i H=>∃ xs x,SqL K H a xs/\xs[i]? = some x,fun i H x H'=>H'=H/\∀ xs,SqL K H a xs->xs[i]? = some x,fun i H=>∃ xs,SqL K H a xs/\xs.length<=i⟩
noncomputable def Itt(K:PySem.W.Frag)(a:Addr):It:=
 ⟨fun i H=>∃ xs x,SqT K H a xs/\xs[i]? = some x,fun i H x H'=>H'=H/\∀ xs,SqT K H a xs->xs[i]? = some x,fun i H=>∃ xs,SqT K H a xs/\xs.length<=i⟩
noncomputable def Itr(lo:Int)(n:Nat):It:=⟨fun i _=>i<n,fun i H x H'=>H'=H/\x=.int (lo+i),fun i _=>n<=i⟩
theorem Zc5{P:Program}{w:World}{K:PySem.W.Frag}{tg:Expr}(a it:Addr):Turn P w K tg (Itl K a) [it] it (fun i h=>h.IsListIter it a i) where
 mem:=by simp
 obj:=fun i h st b hb=>by
  have e:b=it:=by simpa using hb
  subst e;obtain⟨o,e,c,d⟩:=st;exact⟨o,e,fun v z=>by rw[d] at z;cases z⟩
 keep:=fun i h h' st k=>st.at fun o e=>k it (by simp) o e
 item:=by
  intro X hP hw hK hc i pins s σ H E I hf st hg;subst hP hw hK;obtain⟨xs,x,hq,hx⟩:=hg;obtain⟨its,rv,p,hz⟩:=I.list hq;obtain⟨u,hu,ru⟩:=rv.get hx;obtain⟨f0,f1,f2,f3,f4,f5⟩:=hf it (by simp)
  refine wpAny_pyNext_list_item st p.isList (x:=u) (by simpa using hu) fun h' st' sb=>?_
  have I1:Inv X pins σ H { s with heap:=h' }:=I.turned (t':=s.toks) (fun b o hb e=>(sb.2 b hb).trans e) f0 f1 f3 f4 f5
  obtain⟨o,e,c,d⟩:=id st';exact⟨u,rfl,Zit (s:={ s with heap:=h' }) e c d (by decide) ⟨x,H,I1,ru,⟨rfl,fun ys hy=>by rw[I.list_inj hy hq];exact hx⟩,st',fun b hb=>(hf b hb).1⟩⟩
 done:=by
  intro X hP hw hK hc i pins s σ H E I hf st hg;subst hP hw hK;obtain⟨xs,hq,hx⟩:=hg;obtain⟨its,rv,p,hz⟩:=I.list hq;obtain⟨f0,f1,f2,f3,f4,f5⟩:=hf it (by simp)
  have hl:=rv.length;exact wpAny_pyNext_list_end (I.ok.hd hc) st p.isList (by simp;omega) fun h' eb=>⟨rfl,I.turned (t':=s.toks) (fun b o hb e=>eb b o hb e) f0 f1 f3 f4 f5⟩
 self:=fun _ _ _ _ _ st h=>wpAny_pyIter_listiter st h
theorem Zce{P:Program}{w:World}{K:PySem.W.Frag}{tg:Expr}(a it:Addr):Turn P w K tg (Itt K a) [it] it (fun i h=>h.IsTupleIter it a i) where
 mem:=by simp
 obj:=fun i h st b hb=>by
  have e:b=it:=by simpa using hb
  subst e;obtain⟨o,e,c,d⟩:=st;exact⟨o,e,fun v z=>by rw[d] at z;cases z⟩
 keep:=fun i h h' st k=>st.at fun o e=>k it (by simp) o e
 item:=by
  intro X hP hw hK hc i pins s σ H E I hf st hg;subst hP hw hK;obtain⟨xs,x,hq,hx⟩:=hg;obtain⟨its,rv,p,hz⟩:=I.tuple hq;obtain⟨u,hu,ru⟩:=rv.get hx;obtain⟨f0,f1,f2,f3,f4,f5⟩:=hf it (by simp)
  refine wpAny_pyNext_tuple_item st (show s.heap.IsTuple a its.toArray from p) (x:=u) (by simpa using hu) fun h' st' sb=>?_
  have I1:Inv X pins σ H { s with heap:=h' }:=I.turned (t':=s.toks) (fun b o hb e=>(sb.2 b hb).trans e) f0 f1 f3 f4 f5
  obtain⟨o,e,c,d⟩:=id st';exact⟨u,rfl,Zit (s:={ s with heap:=h' }) e c d (by decide) ⟨x,H,I1,ru,⟨rfl,fun ys hy=>by rw[I.tuple_inj hy hq];exact hx⟩,st',fun b hb=>(hf b hb).1⟩⟩
 done:=by
  intro X hP hw hK hc i pins s σ H E I hf st hg;subst hP hw hK;obtain⟨xs,hq,hx⟩:=hg;obtain⟨its,rv,p,hz⟩:=I.tuple hq;obtain⟨f0,f1,f2,f3,f4,f5⟩:=hf it (by simp)
  have hl:=rv.length;exact wpAny_pyNext_tuple_end (I.ok.hd hc) st (show s.heap.IsTuple a its.toArray from p) (by simp;omega) fun h' eb=>⟨rfl,I.turned (t':=s.toks) (fun b o hb e=>eb b o hb e) f0 f1 f3 f4 f5⟩
 self:=fun _ _ _ _ _ st h=>wpAny_pyIter_tupleiter st h
theorem Zcf{P:Program}{w:World}{K:PySem.W.Frag}{tg:Expr}(it:Addr)(lo:Int)(n:Nat):Turn P w K tg (Itr lo n) [it] it (fun i h=>IsRangeIter h it (lo+(i:Nat) * 1) ((n:Int) - (i:Nat)) 1) where
 mem:=by simp
 obj:=fun i h st b hb=>by
  have e:b=it:=by simpa using hb
  subst e;exact⟨_,st,fun v z=>by
   have z':Data.fields _=Data.cell v:=z;cases z'⟩
 keep:=fun i h h' st k=>k it (by simp) _ st
 item:=by
  intro X hP hw hK hc i pins s σ H E I hf st hg;subst hP hw hK;obtain⟨f0,f1,f2,f3,f4,f5⟩:=hf it (by simp)
  have W:=Walks.range (prog:=X.prog) (w:=X.w) (I.ok.hd hc) it lo 1 n;refine W.item i s _ _ hg st fun v h' tk hv st' kk=>?_;obtain⟨t,rfl⟩:=hv;have I1:Inv X pins σ H { s with heap:=h',toks:=tk }:=I.turned (fun b o hb e=>kk b o (by simpa using hb) e) f0 f1 f3 f4 f5
  refine⟨_,rfl,Zit (s:={ s with heap:=h',toks:=tk }) (n:="range_iterator") st' rfl rfl (by decide) ⟨.int (lo+i),H,I1,⟨t,?_⟩,⟨rfl,rfl⟩,st',fun b hb=>(hf b hb).1⟩⟩
  rw[Int.mul_one]
 done:=by
  intro X hP hw hK hc i pins s σ H E I hf st hg;subst hP hw hK;obtain⟨f0,f1,f2,f3,f4,f5⟩:=hf it (by simp)
  exact wpAny_pyNext_range_end (I.ok.hd hc) st (by have:n<=i:=hg;omega) fun h' eb=>⟨rfl,I.turned (t':=s.toks) (fun b o hb e=>eb b o hb e) f0 f1 f3 f4 f5⟩
 self:=fun _ _ _ _ _ st h=>wpAny_pyIter_rangeiter st h
end L2
namespace L2
open PySem PySem.Spec PyProof.Rows
section
variable{X:Cx}{tg:Expr}
noncomputable def iList(K:PySem.W.Frag)(tl:TE):TI:=fun σ H R=>tl σ H fun x H1=>∃ a,x=.ref a/\(∃ xs,SqL K H1 a xs)/\R (Itl K a) H1
noncomputable def iTup(K:PySem.W.Frag)(tl:TE):TI:=fun σ H R=>tl σ H fun x H1=>∃ a,x=.ref a/\(∃ xs,SqT K H1 a xs)/\R (Itt K a) H1
theorem Zh5{l:Expr}{tl:TE}(hl:PE X l tl):PI X tg l (iList X.K tl):=by
 intro pins s σ H R I h;refine thn (hl pins s σ H _ I h) fun v s1 ⟨x,H1,I1,r1,q1⟩=>?_;obtain⟨a,e,⟨xs,hq⟩,q⟩:=q1;subst e;cases r1;obtain⟨its,rv,p,hz⟩:=I1.list hq;refine wpAny_pyIter_list p.isList ?_;refine⟨s1.heap.objs.size,[s1.heap.objs.size],_,_,H1,rfl,I1.kept (t':=s1.toks) fun b o e=>Heap.get?_push_of_some _ e,Zc5 a _,⟨_,Heap.get?_push_size _ rfl,rfl,rfl⟩,fun b hb=>?_,q⟩;have e:b=s1.heap.objs.size:=by simpa using hb
 subst e;exact I1.fpOk (Nat.le_refl _) (I1.hok.fresh (Nat.le_refl _))
theorem Zg1{l:Expr}{tl:TE}(hl:PE X l tl):PI X tg l (iTup X.K tl):=by
 intro pins s σ H R I h;refine thn (hl pins s σ H _ I h) fun v s1 ⟨x,H1,I1,r1,q1⟩=>?_;obtain⟨a,e,⟨xs,hq⟩,q⟩:=q1;subst e;cases r1;obtain⟨its,rv,p,hz⟩:=I1.tuple hq;refine wpAny_pyIter_tuple (show s1.heap.IsTuple a its.toArray from p) ?_;refine⟨s1.heap.objs.size,[s1.heap.objs.size],_,_,H1,rfl,I1.kept (t':=s1.toks) fun b o e=>Heap.get?_push_of_some _ e,Zce a _,⟨_,Heap.get?_push_size _ rfl,rfl,rfl⟩,fun b hb=>?_,q⟩;have e:b=s1.heap.objs.size:=by simpa using hb
 subst e;exact I1.fpOk (Nat.le_refl _) (I1.hok.fresh (Nat.le_refl _))
theorem Zbf{pins:List (Addr×Obj)}{σ:St}{H:Hp}{s:Shared}{R:It->Hp->Prop}{E:Value->Shared->Prop}{lo hi:Int}{t u v:Tok}{tk:Nat}(I:Inv X pins σ H s)(h1 : -(2 ^ 62)<=lo)(h2:lo<2 ^ 62)(h3 : -(2 ^ 62)<=hi)(h4:hi<2 ^ 62)
  (q:R (Itr lo (hi - lo).toNat) H):wpAny (model X.prog X.w) X.A (pyIter (.ref s.heap.objs.size)) (PIE X pins σ tg R) E { s with heap:=s.heap.push { cls:=.type "range",data:=.fields #[.int lo t,.int hi u,.int 1 v] },toks:=tk }:=by
 refine wpAny_pyIter_range (IsRange.new ..) (small_one h1 h2 h3 h4) ?_;have I1:Inv X pins σ H { s with heap:=s.heap.push { cls:=.type "range",data:=.fields #[.int lo t,.int hi u,.int 1 v] },toks:=tk }:=I.kept fun b o e=>Heap.get?_push_of_some _ e
 refine⟨(s.heap.push { cls:=.type "range",data:=.fields #[.int lo t,.int hi u,.int 1 v] }).objs.size,[(s.heap.push { cls:=.type "range",data:=.fields #[.int lo t,.int hi u,.int 1 v] }).objs.size],_,_,H,rfl,
  I1.kept (t':=tk) fun b o e=>Heap.get?_push_of_some _ e,Zcf _ lo (hi - lo).toNat,?_,fun b hb=>?_,q⟩
 ·have e1:lo+((0:Nat):Int) * 1=lo:=by simp
  have e2:(((hi - lo).toNat:Nat):Int) - ((0:Nat):Int)=Builtin.Range.rangeSize lo hi 1:=by rw[rangeSize_one];split<;>omega
  show IsRangeIter _ _ (lo+((0:Nat):Int) * 1) ((((hi - lo).toNat:Nat):Int) - ((0:Nat):Int)) 1;rw[e1,e2];exact Heap.get?_push_size _ rfl
 ·have e:b=(s.heap.push { cls:=.type "range",data:=.fields #[.int lo t,.int hi u,.int 1 v] }).objs.size:=by simpa using hb
  subst e;exact I1.fpOk (Nat.le_refl _) (I1.hok.fresh (Nat.le_refl _))
noncomputable def iRng1(ta:TA):TI:=fun σ H R=>ta σ H fun vs H1=>∃ j:Int,vs=[.int j]/\-(2 ^ 62)<=j/\j<2 ^ 62/\R (Itr 0 j.toNat) H1
noncomputable def iRng2(ta:TA):TI:=fun σ H R=>ta σ H fun vs H1=>∃ i j:Int,vs=[.int i,.int j]/\(-(2 ^ 62)<=i/\i<2 ^ 62/\-(2 ^ 62)<=j/\j<2 ^ 62)/\R (Itr i (j - i).toNat) H1
theorem Zx{a:Expr}{ta:TA}{p pos:Pos}(hg:Gl X "range")(hm:X.mg "range"=none)(ha:PA X [a] ta)(hs:starEach [a] X.env=[(false,eval a X.env)]:=by rfl):PI X tg (.Call (.Name "range" p) [a] [] pos) (iRng1 ta):=by
 intro pins s σ H R I h;refine Call_ (Wf I hg hm boot_range (PyProof.Rows.callWith_type1 (thn (ha pos pins s σ H _ I h) fun us s1 ⟨vs,H1,I1,r1,q1⟩=>?_) hs rfl));obtain⟨j,e,q1,q2,q⟩:=q1;subst e;cases r1 with
 | cons r rr=>
  cases rr;obtain⟨t,rfl⟩:=r;exact call_range_1 (Zbf I1 (by omega) (by omega) q1 q2 (by simpa using q))
theorem Zdl{a b:Expr}{ta:TA}{p pos:Pos}(hg:Gl X "range")(hm:X.mg "range"=none)(ha:PA X [a,b] ta)(hs:starEach [a,b] X.env=[(false,eval a X.env),(false,eval b X.env)]:=by rfl)(hs2:starEach [b] X.env=[(false,eval b X.env)]:=by rfl):
  PI X tg (.Call (.Name "range" p) [a,b] [] pos) (iRng2 ta):=by
 intro pins s σ H R I h;refine Call_ (Wf I hg hm boot_range (PyProof.Rows.callWith_type1 (thn (ha pos pins s σ H _ I h) fun us s1 ⟨vs,H1,I1,r1,q1⟩=>?_) (by rw[hs,hs2]) (by rw[hs2];rfl)))
 obtain⟨i,j,e,⟨q1,q2,q3,q4⟩,q⟩:=q1;subst e;cases r1 with
 | cons r rr=>
  cases rr with
  | cons r' rr=>
   cases rr;obtain⟨t,rfl⟩:=r;obtain⟨t',rfl⟩:=r';exact call_range_2 (Zbf I1 q1 q2 q3 q4 q)
noncomputable def tFor(wi:TI)(g:TG)(tb:TS):TS:=fun D σ H=>wi σ H fun J H1=>∃ W:Nat->Nat->St->Hp->Prop,(∃ m,W 0 m σ H1)/\∀ i m σ H,W i m σ H ->
 (J.stop i H/\D.nx σ H)∨(J.go i H/\∃ N:St->Hp->Prop,(∀ σ' H',N σ' H'->∃ m',m'<m/\W (i+1) m' σ' H')/\∀ x H',J.yld i H x H'->g x σ H' fun σ2 H2=>tb { D with nx:=N,ct:=N,bk:=D.nx } σ2 H2)
noncomputable def pinsAt(fp:List Addr)(h:Heap):List (Addr×Obj):=fp.filterMap fun b=>(h.get? b).map fun o=>(b,o)
theorem Xg{fp:List Addr}{h:Heap}{b:Addr}{o:Obj}(hb:b∈fp)(e:h.get? b=some o):(b,o)∈pinsAt fp h:=List.mem_filterMap.mpr ⟨b,hb,by rw[e];rfl⟩
theorem Zdy{fp:List Addr}{h:Heap}{p:Addr×Obj}(hp:p∈pinsAt fp h):p.1∈fp/\h.get? p.1=some p.2:=by
 obtain⟨b,hb,e⟩:=List.mem_filterMap.mp hp;cases q:h.get? b with
 | none=>rw[q] at e;cases e
 | some o=>
  rw[q] at e;have e':(b,o)=p:=Option.some.inj e;subst e';exact⟨hb,q⟩
theorem Inv.pinned{pins:List (Addr×Obj)}{σ:St}{H:Hp}{s:Shared}{fp:List Addr}(I:Inv X pins σ H s)(hf:∀ b∈fp,FpOk X pins H b)(ho:∀ b∈fp,∃ o,s.heap.get? b=some o/\∀ v,o.data≠.cell v):Inv X (pins++pinsAt fp s.heap) σ H s:=
 I.pins_of fun p hp=>(List.mem_append.mp hp).elim (fun z=>I.pin p (List.mem_append_right _ z)) fun z=>by
  obtain⟨hb,e⟩:=Zdy z;obtain⟨f0,f1,f2,_⟩:=hf p.1 hb;obtain⟨o,e',d⟩:=ho p.1 hb;rw[e] at e';cases e';exact⟨e,f0,f1,f2,d⟩
theorem Inv.unpinned{pins pl:List (Addr×Obj)}{σ:St}{H:Hp}{s:Shared}(I:Inv X (pins++pl) σ H s):Inv X pins σ H s:=I.pins_of fun p hp=>I.pin p (List.mem_append_right _ (List.mem_append_left _ hp))
theorem Z0{iter:Expr}{body:List Stmt}{wi:TI}{g:TG}{tb:TS}{pos:Pos}(hp:PassesOwn (model X.prog X.w) X.A X.env X.xe)(hc:X.calm=true)(hi:PI X tg iter wi)(hg:PG X tg g)(hb:PSs X body tb)
  (hs:∀ x,foldedSetIterable iter X.env x=pure x:=by intro _;rfl):PS X (.For tg iter body [] pos) (tFor wi g tb):=by
 intro pins s σ H D I h;refine wpAny_For (thn (hi pins s σ H _ I h) fun v s1 h1=>thn h1 fun itv s2 h2=>?_) hs;obtain⟨it,fp,tn,J,H2,e,I2,T,st2,f2,W,⟨m0,w0⟩,turn⟩:=h2;subst e;have stat:∀ {H':Hp},(∀ b∈fp,H' b=none)->∀ b∈fp,FpOk X pins H' b:=fun hn b hb=>⟨hn b hb,(f2 b hb).2⟩;refine codeAny_forLoop_any (fun n s'=>∃ i σ' H',Inv X pins σ' H' s'/\tn i s'.heap/\(∀ b∈fp,H' b=none)/\W i n σ' H') ?_ m0 ⟨0,σ,H2,I2,st2,fun b hb=>(f2 b hb).1,w0⟩;rintro n s3 ⟨i,σ3,H3,I3,st3,fr3,w3⟩;rcases turn i n σ3 H3 w3 with ⟨stop,qn⟩ | ⟨go,N,hN,step⟩
 ·refine wpAny_passesOwn hp (thn (T.done X rfl rfl rfl hc i pins s3 σ3 H3 X.xe I3 (stat fr3) st3 stop) fun r s4 ⟨hr,I4⟩=>?_);subst hr;exact wpAny_execs_nil ⟨σ3,H3,I4,qn⟩
 ·refine wpAny_passesOwn hp (thn (T.item X rfl rfl rfl hc i pins s3 σ3 H3 X.xe I3 (stat fr3) st3 go) fun r s4 ⟨u,hr,h4⟩=>?_);subst hr;refine wpAny_passesOwn hp (thn h4 fun _ s5 ⟨x,H5,I5,r5,y5,st5,fr5⟩=>?_);have I5':=I5.pinned (stat fr5) (T.obj _ _ st5);refine wpAny_passesOwn hp (thn (hg _ s5 σ3 H5 x u _ I5' r5 (step x H5 y5)) fun _ s6 ⟨σ6,H6,I6,q6⟩=>?_);refine wpAny_passesOwn hp (thn (hb _ s6 σ6 H6 _ I6 q6) fun f s7 q7=>?_);have again:∀ {σ7:St} {H7:Hp},Inv X (pins++pinsAt fp s5.heap) σ7 H7 s7->N σ7 H7->∃ m,m<n/\∃ i σ' H',Inv X pins σ' H' s7/\tn i s7.heap/\(∀ b∈fp,H' b=none)/\W i m σ' H':=fun {σ7 H7} I7 n7=>by
   obtain⟨m',hm,w7⟩:=hN σ7 H7 n7;refine⟨m',hm,i+1,σ7,H7,I7.unpinned,T.keep _ _ _ st5 fun b hb o e=>(I7.pin (b,o) (List.mem_append_right _ (List.mem_append_right _ (Xg hb e)))).1,fun b hb=>?_,w7⟩;obtain⟨o,e,d⟩:=T.obj _ _ st5 b hb;exact (I7.pin (b,o) (List.mem_append_right _ (List.mem_append_right _ (Xg hb e)))).2.1
  cases f with
  | next=>obtain⟨σ7,H7,I7,n7⟩:=q7;exact again I7 n7
  | cont=>obtain⟨σ7,H7,I7,n7⟩:=q7;exact again I7 n7
  | brk=>obtain⟨σ7,H7,I7,q7⟩:=q7;exact⟨σ7,H7,I7.unpinned,q7⟩
  | ret v=>obtain⟨x7,σ7,H7,I7,r7,q7⟩:=q7;exact⟨x7,σ7,H7,I7.unpinned,r7,q7⟩
end
theorem Z8{K:PySem.W.Frag}{a:Addr}{xs:List V}{g:TG}{tb:TS}{D:Ends}{σ:St}{H:Hp}(Pv:Nat->St->Hp->Prop)(h0:Pv 0 σ H)(hl:∀ i σ H,i<=xs.length->Pv i σ H->SqL K H a xs)
  (hs:∀ i x σ H,xs[i]? = some x->Pv i σ H->g x σ H fun σ2 H2=>tb { D with nx:=Pv (i+1),ct:=Pv (i+1),bk:=D.nx } σ2 H2) (hd:∀ σ H,Pv xs.length σ H->D.nx σ H):
  ∃ W:Nat->Nat->St->Hp->Prop,(∃ m,W 0 m σ H)/\∀ i m σ H,W i m σ H ->
   ((Itl K a).stop i H/\D.nx σ H)∨((Itl K a).go i H/\∃ N:St->Hp->Prop,(∀ σ' H',N σ' H'->∃ m',m'<m/\W (i+1) m' σ' H')/\∀ x H',(Itl K a).yld i H x H'->g x σ H' fun σ2 H2=>tb { D with nx:=N,ct:=N,bk:=D.nx } σ2 H2):=by
 refine⟨fun i m σ H=>m=xs.length - i/\i<=xs.length/\Pv i σ H,⟨xs.length,by simp,Nat.zero_le _,h0⟩,?_⟩
 rintro i m σ H ⟨rfl,hi,p⟩;have q:=hl i σ H hi p;by_cases hlt:i<xs.length
 ·refine .inr ⟨⟨xs,xs[i],q,by simp[hlt]⟩,Pv (i+1),fun σ' H' p'=>⟨xs.length - (i+1),by omega,rfl,hlt,p'⟩,fun x H' y=>?_⟩
  obtain⟨e,y⟩:=y;subst e;exact hs i x σ _ (y xs q) p
 ·have e:i=xs.length:=by omega
  subst e;exact .inl ⟨⟨xs,q,Nat.le_refl _⟩,hd σ H p⟩
theorem Zem{K:PySem.W.Frag}{a:Addr}{xs:List V}{g:TG}{tb:TS}{D:Ends}{σ:St}{H:Hp}(Pv:Nat->St->Hp->Prop)(h0:Pv 0 σ H)(hl:∀ i σ H,i<=xs.length->Pv i σ H->SqT K H a xs)
  (hs:∀ i x σ H,xs[i]? = some x->Pv i σ H->g x σ H fun σ2 H2=>tb { D with nx:=Pv (i+1),ct:=Pv (i+1),bk:=D.nx } σ2 H2) (hd:∀ σ H,Pv xs.length σ H->D.nx σ H):
  ∃ W:Nat->Nat->St->Hp->Prop,(∃ m,W 0 m σ H)/\∀ i m σ H,W i m σ H ->
   ((Itt K a).stop i H/\D.nx σ H)∨((Itt K a).go i H/\∃ N:St->Hp->Prop,(∀ σ' H',N σ' H'->∃ m',m'<m/\W (i+1) m' σ' H')/\∀ x H',(Itt K a).yld i H x H'->g x σ H' fun σ2 H2=>tb { D with nx:=N,ct:=N,bk:=D.nx } σ2 H2):=by
 refine⟨fun i m σ H=>m=xs.length - i/\i<=xs.length/\Pv i σ H,⟨xs.length,by simp,Nat.zero_le _,h0⟩,?_⟩
 rintro i m σ H ⟨rfl,hi,p⟩;have q:=hl i σ H hi p;by_cases hlt:i<xs.length
 ·refine .inr ⟨⟨xs,xs[i],q,by simp[hlt]⟩,Pv (i+1),fun σ' H' p'=>⟨xs.length - (i+1),by omega,rfl,hlt,p'⟩,fun x H' y=>?_⟩
  obtain⟨e,y⟩:=y;subst e;exact hs i x σ _ (y xs q) p
 ·have e:i=xs.length:=by omega
  subst e;exact .inl ⟨⟨xs,q,Nat.le_refl _⟩,hd σ H p⟩
theorem Xb{lo:Int}{n:Nat}{g:TG}{tb:TS}{D:Ends}{σ:St}{H:Hp}(Pv:Nat->St->Hp->Prop)(h0:Pv 0 σ H)
  (hs:∀ i σ H,i<n->Pv i σ H->g (.int (lo+i)) σ H fun σ2 H2=>tb { D with nx:=Pv (i+1),ct:=Pv (i+1),bk:=D.nx } σ2 H2) (hd:∀ σ H,Pv n σ H->D.nx σ H):
  ∃ W:Nat->Nat->St->Hp->Prop,(∃ m,W 0 m σ H)/\∀ i m σ H,W i m σ H ->
   ((Itr lo n).stop i H/\D.nx σ H)∨((Itr lo n).go i H/\∃ N:St->Hp->Prop,(∀ σ' H',N σ' H'->∃ m',m'<m/\W (i+1) m' σ' H')/\∀ x H',(Itr lo n).yld i H x H'->g x σ H' fun σ2 H2=>tb { D with nx:=N,ct:=N,bk:=D.nx } σ2 H2):=by
 refine⟨fun i m σ H=>m=n - i/\i<=n/\Pv i σ H,⟨n,by simp,Nat.zero_le _,h0⟩,?_⟩
 rintro i m σ H ⟨rfl,hi,p⟩;by_cases hlt:i<n
 ·refine .inr ⟨hlt,Pv (i+1),fun σ' H' p'=>⟨n - (i+1),by omega,rfl,hlt,p'⟩,fun x H' y=>?_⟩
  obtain⟨e,y⟩:=y;subst e y;exact hs i σ _ hlt p
 ·have e:i=n:=by omega
  subst e;exact .inl ⟨Nat.le_refl _,hd σ H p⟩
end L2
namespace L2
open PySem PySem.Spec PyProof.Rows
noncomputable abbrev R2:=V->V->Hp->VK->Prop
noncomputable def OpR(X:Cx)(f:Value->Value->Sem Value)(r:R2):Prop:=
 ∀ (pins:List (Addr×Obj)) (s:Shared) (σ:St) (H:Hp) (x y:V) (v u:Value) (Q:VK),Inv X pins σ H s->RelV x v->RelV y u->r x y H Q ->
  wpAny (model X.prog X.w) X.A (f v u) (EP X pins σ Q) X.xe s
noncomputable def UnR(X:Cx)(f:Value->Sem Value)(r:V->Hp->VK->Prop):Prop:=
 ∀ (pins:List (Addr×Obj)) (s:Shared) (σ:St) (H:Hp) (x:V) (v:Value) (Q:VK),Inv X pins σ H s->RelV x v->r x H Q ->
  wpAny (model X.prog X.w) X.A (f v) (EP X pins σ Q) X.xe s
noncomputable def CallR(X:Cx)(f:Value)(r:List V->Hp->VK->Prop):Prop:=
 ∀ (pins:List (Addr×Obj)) (s:Shared) (σ:St) (H:Hp) (xs:List V) (us:List Value) (Q:VK),Inv X pins σ H s->Vals xs us->r xs H Q ->
  wpAny (model X.prog X.w) X.A (call f us) (EP X pins σ Q) X.xe s
noncomputable def TruR(X:Cx)(r:V->Hp->(Bool->Hp->Prop)->Prop):Prop:=
 ∀ (pins:List (Addr×Obj)) (s:Shared) (σ:St) (H:Hp) (x:V) (v:Value) (Q:Bool->Hp->Prop),Inv X pins σ H s->RelV x v->r x H Q ->
  wpAny (model X.prog X.w) X.A (truthy v) (TP X pins σ Q) X.xe s
noncomputable def tOp(r:R2)(ta tb:TE):TE:=fun σ H Q=>ta σ H fun x H1=>tb σ H1 fun y H2=>r x y H2 Q
noncomputable def tUn(r:V->Hp->VK->Prop)(ta:TE):TE:=fun σ H Q=>ta σ H fun x H1=>r x H1 Q
noncomputable def rI(C:Int->Int->Prop)(g:Int->Int->V):R2:=fun x y H Q=>∃ i j,x=.int i/\y=.int j/\C i j/\Q (g i j) H
noncomputable def rI0(g:Int->Int->V):R2:=fun x y H Q=>∃ i j,x=.int i/\y=.int j/\Q (g i j) H
noncomputable def rU(g:Int->V):V->Hp->VK->Prop:=fun x H Q=>∃ i,x=.int i/\Q (g i) H
section
variable{X:Cx}{a b c:Expr}{ta tb tc:TE}{pos:Pos}
theorem binT(ha:PE X a ta)(hb:PE X b tb){pins:List (Addr×Obj)}{s:Shared}{σ:St}{H:Hp}{R:V->V->Hp->Prop}(I:Inv X pins σ H s)
  (h:ta σ H fun x H1=>tb σ H1 fun y H2=>R x y H2) {Q:Value->Shared->Prop} {f:Value->Value->Sem Value}
  (hf:∀ v u s2 x y H2,Inv X pins σ H2 s2->RelV x v->RelV y u->R x y H2->wpAny (model X.prog X.w) X.A (f v u) Q X.xe s2):
  wpAny (model X.prog X.w) X.A (eval a X.env) (fun v s₁=>wpAny (model X.prog X.w) X.A (eval b X.env) (fun u s₂=>wpAny (model X.prog X.w) X.A (f v u) Q X.xe s₂) X.xe s₁) X.xe s:=by
 refine thn (ha pins s σ H _ I h) fun v s1 ⟨x,H1,I1,r1,q1⟩=>?_;refine thn (hb pins s1 σ H1 _ I1 q1) fun u s2 ⟨y,H2,I2,r2,q2⟩=>?_;exact hf v u s2 x y H2 I2 r1 r2 q2
theorem Zr{op:Operator}{r:R2}(ho:OpR X (binaryOp op) r)(ha:PE X a ta)(hb:PE X b tb):PE X (.BinOp a op b pos) (tOp r ta tb):=by
 intro pins s σ H Q I h;exact wpAny_BinOp (binT ha hb I h fun v u s2 x y H2 I2 rx ry q=>ho pins s2 σ H2 x y v u Q I2 rx ry q)
theorem Zjb{op:UnaryOp}{r:V->Hp->VK->Prop}(ho:UnR X (unaryOp op) r)(ha:PE X a ta):PE X (.UnaryOp op a pos) (tUn r ta):=by
 intro pins s σ H Q I h;exact UnaryOp_ (thn (ha pins s σ H _ I h) fun v s1 ⟨x,H1,I1,r1,q1⟩=>ho pins s1 σ H1 x v Q I1 r1 q1)
theorem opI{f:Value->Value->Sem Value}{C:Int->Int->Prop}{g:Int->Int->Int}
  (rule:∀ (i j:Int) (t u:Tok) (s:Shared) (Q:Value->Shared->Prop) (E:Value->Shared->Prop),C i j->Q (.int (g i j) s.toks) { s with toks:=s.toks+1 }->wpAny (model X.prog X.w) X.A (f (.int i t) (.int j u)) Q E s):
  OpR X f (rI C fun i j=>.int (g i j)):=by
 intro pins s σ H x y v u Q I rx ry h;obtain⟨i,j,rfl,rfl,hc,q⟩:=h;obtain⟨t,rfl⟩:=rx;obtain⟨t',rfl⟩:=ry;exact rule i j t t' s _ _ hc ⟨.int (g i j),H,I.tok _,⟨_,rfl⟩,q⟩
theorem opI0{f:Value->Value->Sem Value}{g:Int->Int->Int}
  (rule:∀ (i j:Int) (t u:Tok) (s:Shared) (Q:Value->Shared->Prop) (E:Value->Shared->Prop),Q (.int (g i j) s.toks) { s with toks:=s.toks+1 }->wpAny (model X.prog X.w) X.A (f (.int i t) (.int j u)) Q E s):
  OpR X f (rI0 fun i j=>.int (g i j)):=by
 intro pins s σ H x y v u Q I rx ry h;obtain⟨i,j,rfl,rfl,q⟩:=h;obtain⟨t,rfl⟩:=rx;obtain⟨t',rfl⟩:=ry;exact rule i j t t' s _ _ ⟨.int (g i j),H,I.tok _,⟨_,rfl⟩,q⟩
theorem opB0{f:Value->Value->Sem Value}{g:Int->Int->Bool}
  (rule:∀ (i j:Int) (t u:Tok) (s:Shared) (Q:Value->Shared->Prop) (E:Value->Shared->Prop),Q (.bool (g i j)) s->wpAny (model X.prog X.w) X.A (f (.int i t) (.int j u)) Q E s):
  OpR X f (rI0 fun i j=>.bl (g i j)):=by
 intro pins s σ H x y v u Q I rx ry h;obtain⟨i,j,rfl,rfl,q⟩:=h;obtain⟨t,rfl⟩:=rx;obtain⟨t',rfl⟩:=ry;exact rule i j t t' s _ _ ⟨.bl (g i j),H,I,rfl,q⟩
noncomputable def CDiv(i j:Int):Prop:=0<j/\j<1073741824
noncomputable def CPow(i j:Int):Prop:=0<=j/\j<=1000000/\i.natAbs<2 ^ 64
noncomputable def CMul(i j:Int):Prop:=(-(2 ^ 64)<i/\i<2 ^ 64)∨(-(2 ^ 64)<j/\j<2 ^ 64)
theorem CMul.ok{i j:Int}(h:CMul i j):IntMulOk i j:=by
 rcases h with ⟨h1,h2⟩ | ⟨h1,h2⟩
 ·exact .of_left (intBits_le_64 h1 h2)
 ·exact .of_right (intBits_le_64 h1 h2)
theorem Y2:OpR X (binaryOp .Add) (rI0 fun i j=>.int (i+j)):=opI0 fun _ _ _ _ _ _ _ q=>add_int q
theorem Zg4:OpR X (binaryOp .Sub) (rI0 fun i j=>.int (i - j)):=opI0 fun _ _ _ _ _ _ _ q=>sub_int q
theorem Zg8:OpR X (binaryOp .Mult) (rI CMul fun i j=>.int (i * j)):=opI fun _ _ _ _ _ _ _ hc q=>mul_int q hc.ok
theorem Yr:OpR X (binaryOp .FloorDiv) (rI CDiv fun i j=>.int (i / j)):=opI fun i j _ _ _ _ _ hc q=>by
 have h1:(0:Int)<j:=hc.1;have h2:j<1073741824:=hc.2;exact floordiv_int (by omega) (by rw[Int.fdiv_eq_ediv_of_nonneg i (by omega)];exact q) (.inl (PyProof.noPylong_small (by omega)))
theorem Yb:OpR X (binaryOp .Mod) (rI (fun _ j=>0<j) fun i j=>.int (i % j)):=opI fun i j _ _ _ _ _ hc q=>by
 have h1:(0:Int)<j:=hc;exact mod_int' (by omega) (by rw[Int.fmod_eq_emod_of_nonneg i (by omega)];exact q)
theorem Zg6:OpR X (binaryOp .Pow) (rI CPow fun i j=>.int (i ^ j.toNat)):=opI fun _ _ _ _ _ _ _ hc q=>pow_int_small hc.1 hc.2.1 hc.2.2 q
theorem unI{f:Value->Sem Value}{g:Int->Int}
  (rule:∀ (i:Int) (t:Tok) (s:Shared) (Q:Value->Shared->Prop) (E:Value->Shared->Prop),Q (.int (g i) s.toks) { s with toks:=s.toks+1 }->wpAny (model X.prog X.w) X.A (f (.int i t)) Q E s):
  UnR X f (rU fun i=>.int (g i)):=by
 intro pins s σ H x v Q I rx h;obtain⟨i,rfl,q⟩:=h;obtain⟨t,rfl⟩:=rx;exact rule i t s _ _ ⟨.int (g i),H,I.tok _,⟨_,rfl⟩,q⟩
theorem Zgt:UnR X (unaryOp .USub) (rU fun i=>.int (-i)):=unI fun _ _ _ _ _ q=>neg_int q
end
noncomputable def scal:V->V->Bool
 | .non,.non=>true | .non,.int _=>true | .int _,.non=>true | .non,.bl _=>true | .bl _,.non=>true | .non,.str _=>true | .str _,.non=>true
 | .int _,.int _=>true | .bl _,.bl _=>true | .str _,.str _=>true | .byt _,.byt _=>true
 | .int _,.str _=>true | .str _,.int _=>true | .bl _,.str _=>true | .str _,.bl _=>true
 | _,_=>false
noncomputable def rEq:R2:=fun x y H Q=>scal x y=true/\Q (.bl (decide (x=y))) H
noncomputable def rNe:R2:=fun x y H Q=>scal x y=true/\Q (.bl (!decide (x=y))) H
theorem Zev{i j:Int}:decide (V.int i=V.int j)=(i == j):=by
 rw[Bool.eq_iff_iff];simp
theorem Zhq{i j:Bool}:decide (V.bl i=V.bl j)=(i == j):=by
 rw[Bool.eq_iff_iff];simp
theorem Zeu{i j:Str}:decide (V.str i=V.str j)=(i == j):=by
 rw[Bool.eq_iff_iff];simp
theorem Zew{i j:Array UInt8}:decide (V.byt i=V.byt j)=(i.toList == j.toList):=by
 rw[Bool.eq_iff_iff];cases i;cases j;simp
section
variable{X:Cx}{a b c:Expr}{ta tb tc:TE}{pos:Pos}
theorem Zt{pins:List (Addr×Obj)}{σ:St}{H:Hp}{s:Shared}{Q:VK}{k k':Bool}(I:Inv X pins σ H s)(q:Q (.bl k) H)(e:k=k'):EP X pins σ Q (.bool k') s:=by
 subst e;exact⟨.bl k,H,I,rfl,q⟩
theorem Xr:OpR X (compareOp .Eq) rEq:=by
 intro pins s σ H x y v u Q I rx ry h;obtain⟨hs,q⟩:=h;cases x with
 | non=>
  cases rx;cases y with
  | non=>cases ry;exact PySem.EqNone.eq_none_none (Zt I q (by simp))
  | bl j=>cases ry;exact PySem.EqNone.eq_none_bool (Zt I q (by simp))
  | int j=>obtain⟨t',rfl⟩:=ry;exact PySem.EqNone.eq_none_int (Zt I q (by simp))
  | str j=>obtain⟨t',rfl⟩:=ry;exact PySem.EqNone.eq_none_str (Zt I q (by simp))
  | _=>exact absurd (show false=true from hs) Bool.false_ne_true
 | bl i=>
  cases rx;cases y with
  | non=>cases ry;exact PySem.EqNone.eq_bool_none (Zt I q (by simp))
  | bl j=>cases ry;exact eq_bool (Zt I q Zhq)
  | str j=>obtain⟨t',rfl⟩:=ry;exact PySem.EqMixed.eq_bool_str (Zt I q (by simp))
  | _=>exact absurd (show false=true from hs) Bool.false_ne_true
 | int i=>
  obtain⟨t,rfl⟩:=rx;cases y with
  | non=>cases ry;exact PySem.EqNone.eq_int_none (Zt I q (by simp))
  | int j=>obtain⟨t',rfl⟩:=ry;exact eq_int (Zt I q Zev)
  | str j=>obtain⟨t',rfl⟩:=ry;exact PySem.EqMixed.eq_int_str (Zt I q (by simp))
  | _=>exact absurd (show false=true from hs) Bool.false_ne_true
 | str i=>
  obtain⟨t,rfl⟩:=rx;cases y with
  | non=>cases ry;exact PySem.EqNone.eq_str_none (Zt I q (by simp))
  | bl j=>cases ry;exact PySem.EqMixed.eq_str_bool (Zt I q (by simp))
  | int j=>obtain⟨t',rfl⟩:=ry;exact PySem.EqMixed.eq_str_int (Zt I q (by simp))
  | str j=>obtain⟨t',rfl⟩:=ry;exact eq_str (Zt I q Zeu)
  | _=>exact absurd (show false=true from hs) Bool.false_ne_true
 | byt i=>
  obtain⟨t,rfl⟩:=rx;cases y with
  | byt j=>obtain⟨t',rfl⟩:=ry;exact PySem.W.eq_bytes (Zt I q Zew)
  | _=>exact absurd (show false=true from hs) Bool.false_ne_true
 | _=>cases y<;>exact absurd (show false=true from hs) Bool.false_ne_true
theorem Zh9:OpR X (compareOp .NotEq) rNe:=by
 intro pins s σ H x y v u Q I rx ry h;obtain⟨hs,q⟩:=h;cases x with
 | non=>
  cases rx;cases y with
  | non=>cases ry;exact PySem.EqNone.ne_none_none (Zt I q (by simp))
  | bl j=>cases ry;exact PySem.EqNone.ne_none_bool (Zt I q (by simp))
  | int j=>obtain⟨t',rfl⟩:=ry;exact PySem.EqNone.ne_none_int (Zt I q (by simp))
  | str j=>obtain⟨t',rfl⟩:=ry;exact PySem.EqNone.ne_none_str (Zt I q (by simp))
  | _=>exact absurd (show false=true from hs) Bool.false_ne_true
 | bl i=>
  cases rx;cases y with
  | non=>cases ry;exact PySem.EqNone.ne_bool_none (Zt I q (by simp))
  | bl j=>cases ry;exact ne_bool (Zt I q (congrArg not Zhq))
  | str j=>obtain⟨t',rfl⟩:=ry;exact PySem.EqMixed.ne_bool_str (Zt I q (by simp))
  | _=>exact absurd (show false=true from hs) Bool.false_ne_true
 | int i=>
  obtain⟨t,rfl⟩:=rx;cases y with
  | non=>cases ry;exact PySem.EqNone.ne_int_none (Zt I q (by simp))
  | int j=>obtain⟨t',rfl⟩:=ry;exact ne_int (Zt I q (congrArg not Zev))
  | str j=>obtain⟨t',rfl⟩:=ry;exact PySem.EqMixed.ne_int_str (Zt I q (by simp))
  | _=>exact absurd (show false=true from hs) Bool.false_ne_true
 | str i=>
  obtain⟨t,rfl⟩:=rx;cases y with
  | non=>cases ry;exact PySem.EqNone.ne_str_none (Zt I q (by simp))
  | bl j=>cases ry;exact PySem.EqMixed.ne_str_bool (Zt I q (by simp))
  | int j=>obtain⟨t',rfl⟩:=ry;exact PySem.EqMixed.ne_str_int (Zt I q (by simp))
  | str j=>obtain⟨t',rfl⟩:=ry;exact ne_str (Zt I q (congrArg not Zeu))
  | _=>exact absurd (show false=true from hs) Bool.false_ne_true
 | byt i=>
  obtain⟨t,rfl⟩:=rx;cases y with
  | byt j=>obtain⟨t',rfl⟩:=ry;exact PySem.W.ne_bytes (Zt I q (congrArg not Zew))
  | _=>exact absurd (show false=true from hs) Bool.false_ne_true
 | _=>cases y<;>exact absurd (show false=true from hs) Bool.false_ne_true
theorem Zfy:OpR X (compareOp .Lt) (rI0 fun i j=>.bl (decide (i<j))):=opB0 fun _ _ _ _ _ _ _ q=>lt_int q
theorem Zjg:OpR X (compareOp .LtE) (rI0 fun i j=>.bl (decide (i<=j))):=opB0 fun _ _ _ _ _ _ _ q=>le_int q
theorem Zj9:OpR X (compareOp .Gt) (rI0 fun i j=>.bl (decide (j<i))):=opB0 fun _ _ _ _ _ _ _ q=>gt_int q
theorem Zka:OpR X (compareOp .GtE) (rI0 fun i j=>.bl (decide (j<=i))):=opB0 fun _ _ _ _ _ _ _ q=>ge_int q
theorem Zbr:OpR X (compareOp .Is) (fun x y H Q=>y=.non/\Q (.bl (decide (x=.non))) H):=by
 intro pins s σ H x y v u Q I rx ry h;obtain⟨rfl,q⟩:=h;cases ry;refine is_none_gen (Zt I q ?_);cases x<;>first
  | (cases rx;rfl)
  | (obtain⟨t,rfl⟩:=rx;rfl)
theorem Wy:OpR X (compareOp .IsNot) (fun x y H Q=>y=.non/\Q (.bl (!decide (x=.non))) H):=by
 intro pins s σ H x y v u Q I rx ry h;obtain⟨rfl,q⟩:=h;cases ry;refine isnot_none_gen (Zt I q ?_);cases x<;>first
  | (cases rx;rfl)
  | (obtain⟨t,rfl⟩:=rx;rfl)
theorem nomark(b:Expr){op:CmpOp}(h:op≠.In:=by decide)(h2:op≠.NotIn:=by decide):behindInMarks op b=false:=by
 have e1:(op == CmpOp.In)=false:=by cases op<;>first | rfl | exact absurd rfl h
 have e2:(op == CmpOp.NotIn)=false:=by cases op<;>first | rfl | exact absurd rfl h2
 cases b<;>simp[behindInMarks,e1,e2]
theorem Xn{op:CmpOp}{r:R2}(ho:OpR X (compareOp op) r)(ha:PE X a ta)(hb:PE X b tb)(hm:behindInMarks op b=false):PE X (.Compare a [op] [b] pos) (tOp r ta tb):=by
 intro pins s σ H Q I h;exact wpAny_Compare1 (binT ha hb I h fun v u s2 x y H2 I2 rx ry q=>ho pins s2 σ H2 x y v u Q I2 rx ry q) hm
noncomputable def tTest(t:TE):TT:=fun σ H Q=>t σ H fun x H'=>∃ k,x=.bl k/\Q k H'
theorem Zo{op:CmpOp}{r:R2}(ho:OpR X (compareOp op) r)(ha:PE X a ta)(hb:PE X b tb)(hm:behindInMarks op b=false):PT X (.Compare a [op] [b] pos) (tTest (tOp r ta tb)):=by
 intro pins s σ H Q I h;refine wpAny_isTrue_Compare1 (thn (ha pins s σ H _ I h) fun v s1 ⟨x,H1,I1,r1,q1⟩=>thn (hb pins s1 σ H1 _ I1 q1) fun u s2 ⟨y,H2,I2,r2,q2⟩=>
  thn (ho pins s2 σ H2 x y v u _ I2 r1 r2 q2) fun c s3 ⟨z,H3,I3,r3,k,e,q3⟩=>?_) hm
 subst e;cases r3;exact wpAny_truthy_bool ⟨H3,I3,q3⟩
noncomputable def tChain(r r':R2)(ta tb tc:TE):TE:=fun σ H Q=>ta σ H fun x H1=>tb σ H1 fun y H2=>r x y H2 fun z H3=>∃ k,z=.bl k /\
 (if k=true then tc σ H3 fun w' H4=>r' y w' H4 Q else Q (.bl false) H3)
theorem Zbh{op op':CmpOp}{r r':R2}(ho:OpR X (compareOp op) r)(ho':OpR X (compareOp op') r')(ha:PE X a ta)(hb:PE X b tb)(hc:PE X c tc)
  (hm:lastMarks [op,op'] [b,c]=false:=by with_unfolding_all rfl):PT X (.Compare a [op,op'] [b,c] pos) (tTest (tChain r r' ta tb tc)):=by
 intro pins s σ H Q I h;refine isTrue_chain (thn (ha pins s σ H _ I h) fun v s1 ⟨x,H1,I1,r1,q1⟩=>test_link (thn (hb pins s1 σ H1 _ I1 q1) fun u s2 ⟨y,H2,I2,r2,q2⟩=>
  thn (ho pins s2 σ H2 x y v u _ I2 r1 r2 q2) fun d s3 ⟨z,H3,I3,r3,k,e,q3⟩=>?_)) hm
 subst e;cases r3;refine wpAny_truthy_bool ?_;cases k with
 | false=>
  obtain⟨k',e',q'⟩:=q3;cases e';exact ite_ff ⟨H3,I3,q'⟩
 | true=>
  refine ite_tt (test_last (thn (hc pins s3 σ H3 _ I3 q3) fun w' s4 ⟨z',H4,I4,r4,q4⟩=>thn (ho' pins s4 σ H4 y z' u w' _ I4 r2 r4 q4) fun d' s5 ⟨z2,H5,I5,r5,k2,e2,q5⟩=>?_));subst e2;cases r5;exact wpAny_truthy_bool ⟨H5,I5,q5⟩
noncomputable def TruV(K:PySem.W.Frag)(x:V)(H:Hp)(k:Bool):Prop:=
 match x with
 | .non=>k=false
 | .bl b=>k=b
 | .int i=>k=(i != 0)
 | .str y=>y.length<=sizeLine/\k=((y.length:Int) != 0)
 | .byt y=>y.size<=sizeLine/\k=((y.size:Int) != 0)
 | .ref p=>(∃ xs,SqL K H p xs/\k=!xs.isEmpty)∨(∃ xs,SqT K H p xs/\k=!xs.isEmpty)∨∃ kvs,H p=some (.dK kvs)/\k=!kvs.isEmpty
 | _=>False
theorem Zcr{κ:Type}{kvs:List (κ×V)}{vs:List (κ×Value)}(r:KV kvs vs):(!vs.isEmpty)=!kvs.isEmpty:=by
 cases r<;>rfl
theorem Vy{xs:List V}{its:List Value}(r:Vals xs its):(!its.toArray.isEmpty)=!xs.isEmpty:=by
 cases r<;>simp
theorem line63:(sizeLine:Nat)<2 ^ 63:=by rw[sizeLine_eq];decide
theorem Zi2:TruR X (fun x H Q=>∃ k,TruV X.K x H k/\Q k H):=by
 intro pins s σ H x v Q I rx h;obtain⟨k,e,q⟩:=h;have hl:=line63;have hs:sizeLine=16777216:=sizeLine_eq;cases x with
 | non=>
  cases rx;have e':k=false:=e;subst e';exact truthy_none ⟨H,I,q⟩
 | bl b=>
  cases rx;have e':k=b:=e;subst e';exact wpAny_truthy_bool ⟨H,I,q⟩
 | int i=>
  obtain⟨t,rfl⟩:=rx;have e':k=(i != 0):=e;subst e';exact PySem.P.truthy_int ⟨H,I,q⟩
 | str y=>
  obtain⟨t,rfl⟩:=rx;obtain⟨hy,e'⟩:y.length<=sizeLine/\k=((y.length:Int) != 0):=e;subst e';exact PySem.P.truthy_str (by omega) ⟨H,I.tok _,q⟩
 | byt y=>
  obtain⟨t,rfl⟩:=rx;obtain⟨hy,e'⟩:y.size<=sizeLine/\k=((y.size:Int) != 0):=e;subst e';exact PySem.W.truthy_bytes (by omega) ⟨H,I.tok _,q⟩
 | ref p=>
  cases rx;have e':(∃ xs,SqL X.K H p xs/\k=!xs.isEmpty)∨(∃ xs,SqT X.K H p xs/\k=!xs.isEmpty)∨∃ kvs,H p=some (.dK kvs)/\k=!kvs.isEmpty:=e;rcases e' with ⟨xs,hx,e'⟩ | ⟨xs,hx,e'⟩ | ⟨kvs,hx,e'⟩
  ·subst e';obtain⟨its,r,pl,hz⟩:=I.list hx;have hlen:=r.length;exact wpAny_truthy_list pl.isList (by simp only[List.size_toArray];omega) ⟨H,I.tok _,by rw[Vy r];exact q⟩
  ·subst e';obtain⟨its,r,pl,hz⟩:=I.tuple hx;have hlen:=r.length;exact truthy_tuple pl (by simp only[List.size_toArray];omega) ⟨H,I.tok _,by rw[Vy r];exact q⟩
  ·subst e';obtain⟨hz,hS,vs,r,m⟩:kvs.length<=sizeLine/\(p == sysModules)=false/\∃ vs,KV kvs vs/\s.heap.DictOf (mixKind X.prog X.w) p vs:=I.hok p _ hx;have hlen:kvs.length=vs.length:=Paired.length r;exact wpAny_truthy_dict hS m (by omega) ⟨H,I.tok _,by rw[Zcr r];exact q⟩
 | _=>exact (show False from e).elim
theorem Wn(ha:PE X a ta)(he:∀ whole,isTrue a X.env whole=(do let v ← whole;standAt a.pos;holding [v] (truthy v))):
  PT X a (fun σ H Q=>ta σ H fun x H'=>∃ k,TruV X.K x H' k/\Q k H'):=by
 intro pins s σ H Q I h;exact isTrue_plain (thn (ha pins s σ H _ I h) fun v s1 ⟨x,H1,I1,r1,q1⟩=>Zi2 pins s1 σ H1 x v Q I1 r1 q1) (he _)
theorem vals1{x:V}{us:List Value}(r:Vals [x] us):∃ u,us=[u]/\RelV x u:=by
 cases r with
 | cons r1 r2=>cases r2;exact⟨_,rfl,r1⟩
theorem vals2{x y:V}{us:List Value}(r:Vals [x,y] us):∃ u w',us=[u,w']/\RelV x u/\RelV y w':=by
 cases r with
 | cons r1 r2=>
  cases r2 with
  | cons r3 r4=>cases r4;exact⟨_,_,rfl,r1,r3⟩
theorem Ze4(hc:X.calm=true):CallR X (.builtin "max") (fun xs H Q=>∃ i j,xs=[.int i,.int j]/\Q (.int (if j > i then j else i)) H):=by
 intro pins s σ H xs us Q I r h;obtain⟨i,j,rfl,q⟩:=h;obtain⟨u,w',rfl,⟨t,rfl⟩,⟨t',rfl⟩⟩:=vals2 r;refine max_two_ints (I.ok.hd hc) fun h' tk k=>⟨_,H,I.kept k,?_,q⟩;by_cases hj:j > i
 ·rw[if_pos hj,if_pos hj];exact⟨_,rfl⟩
 ·rw[if_neg hj,if_neg hj];exact⟨_,rfl⟩
end
end L2
namespace L2
open PySem PySem.Spec PyProof.Rows
structure ObjM(h:Heap)(x dx C:Addr)(mA:Str->Option Value):Prop where
 obj:h.get? x=some (PySem.W.instObj C dx)
 ns:h.Ns1 dx mA
 ne:dx≠x
theorem Zd4{h:Heap}{dx:Addr}{mA:Str->Option Value}(n:h.Ns1 dx mA):∃ od,h.get? dx=some od/\∀ name,PySem.W.lookIn name od=some (mA name):=by
 obtain⟨o,es,ep,ho,hd,hk,_,hm⟩:=n;refine⟨o,ho,fun name=>?_⟩;have e:=hm name;unfold nsFind findBy at e;rw[← Array.find?_toList] at e;unfold PySem.W.lookIn;rw[hd];dsimp only
 split
 ·rename_i y q
  rw[q] at e;exact congrArg some e
 ·rename_i q
  rw[q] at e;have a:es.toList.any (·.refKey)=false:=by
   rw[List.any_eq_false];intro y hy;obtain⟨z,t,hkey⟩:=hk y (Array.mem_toList_iff.mp hy);simp[DictEntry.refKey,hkey]
  have a':¬ es.toList.any (·.refKey)=true:=by rw[a];exact Bool.false_ne_true
  rw[if_neg a'];exact congrArg some e
theorem ObjM.look{h:Heap}{x dx C:Addr}{mA:Str->Option Value}(I:ObjM h x dx C mA):∃ od,PySem.W.InstAt h x (PySem.W.instObj C dx) C (some od)/\∀ name,PySem.W.lookIn name od=some (mA name):=
 let ⟨od,ho,hl⟩:=Zd4 I.ns
 ⟨od,⟨I.obj,rfl,rfl,ho⟩,hl⟩
section
variable{prog:Program}{w:World}{A:Around}{E:Value->Shared->Prop}{s:Shared}{K:PySem.W.Frag}{x dx C f:Addr}{mA:Str->Option Value}{name:Str}{v:Value}
theorem Ziu{expr:Bool}{Q:Value->Shared->Prop}(X:K.In s.heap)(I:ObjM s.heap x dx C mA)(hg:PySem.W.plainGet K C name=true)(hh:PySem.W.hasDictIn K C=true)
  (ha:PySem.W.findIn K (.ref C) name=some none) (hv:mA name=some v) (hv':PySem.W.handedIn v=true) (h:Q v { s with toks:=s.toks+1 }):
  wpAny (model prog w) A (getAttr (.ref x) name expr) Q E s:=by
 obtain⟨od,J,hl⟩:=I.look;exact PySem.W.get_value X J (PySem.W.plainGet_of hg).1 (PySem.W.findObj_own hh ha rfl (by rw[hl,hv])) hv' h
theorem Zgl{pl:Sem Bool}{Q:Value×List Value->Shared->Prop}(X:K.In s.heap)(I:ObjM s.heap x dx C mA)(hg:PySem.W.plainGet K C name=true)
  (hf:PySem.W.findIn K (.ref C) name=some (some (.ref f))) (ht:PySem.W.isFn K (.ref f)=true) (hv:mA name=none) (h:Q (.ref f,[.ref x]) s):
  wpAny (model prog w) A (getMethod (.ref x) name pl) Q E s:=by
 obtain⟨od,J,hl⟩:=I.look;exact PySem.W.method_fn X J (PySem.W.plainGet_of hg).1 (PySem.W.plainGet_of hg).2 hf (beq_iff_eq.mp ht) (by show (PySem.W.lookIn name od).map (·.isSome)=some false;rw[hl,hv];rfl) h
theorem Zhz{ns:List Str}{Q:Unit->Shared->Prop}(X:K.In s.heap)(I:ObjM s.heap x dx C mA)
  (hs:PySem.W.findIn K (.ref C) "__setattr__"=some (some (.builtin "object.__setattr__"))) (hp:PySem.W.plainOver K C=true) (ht:PySem.W.takerIn K C name=some none) (hh:PySem.W.hasDictIn K C=true)
  (hw:PySem.Within mA ns) (hsz:ns.length<=sizeLine)
  (h:∀ h',ObjM h' x dx C (fun y=>if y=name then some v else mA y)->Heap.SameBut dx s.heap h'->Q () { s with heap:=h',toks:=s.toks+2 }):
  wpAny (model prog w) A (setAttr (.ref x) name v) Q E s:=by
 obtain⟨od,J,hl⟩:=I.look;refine PySem.W.set_plain X J hs (PySem.W.osa_open (s:={ s with toks:=s.toks+1 }) (r:=none) X J hp ht fun b=>?_)
 obtain⟨cd,hc,hd'⟩:=PySem.W.any_some hh;have hx:s.heap.get? x=some ⟨.ref C,some dx,.plain,#[]⟩:=I.obj;refine wpAny_bind (wpAny_pure (wpAny_bind (wpAny_bind (wpAny_loadPart hx (wpAny_bind (PySem.W.Looks.here (s:={ s with toks:=s.toks+1 }) (PySem.W.looks_clsIn X hc) ?_))))))
 rw[hd'];refine wpAny_pure (a:=some dx) (wpAny_bind (wpAny_pure (wpAny_bind ?_)));refine wpAny_nsSet1 (s:={ s with toks:=s.toks+1 }) I.ns fun h' hn2 hs2=>?_
 obtain⟨oD,esD,epD,hoD,hdD,hcD⟩:=hn2.count (PySem.Within.cons name v hw);refine wpAny_bind (wpAny_lookBehind hoD (by rw[hdD];exact pastItsLine_dict (Nat.le_trans hcD (by rw[List.length_cons];omega))) ?_)
 exact wpAny_pure (h _ ⟨(hs2.2 _ (Ne.symm I.ne)).trans I.obj,hn2,I.ne⟩ hs2)
theorem Zf9{R:Result->Shared->Prop}{vs:List Value}{kw:List (Str×Value)}(X:K.In s.heap)(hm:PySem.W.makesIn K C=true)
  (hi:PySem.W.findIn K (.ref C) "__init__"=some (some (.ref f))) (hf:PySem.W.typeIn K (.ref f)=some (.type "function"))
  (h:codeAny (model prog w) (A.under (.builtin "type.__call__" ⟨.ref C::vs,kw⟩)) (.call (.ref f) ⟨.ref (s.heap.objs.size+1)::vs,kw⟩) (PySem.W.InitBack (s.heap.objs.size+1) R)
   { s with heap:=(s.heap.push PySem.W.emptyDict).push (PySem.W.instObj C s.heap.objs.size) }):
  codeAny (model prog w) A (.call (.ref C) ⟨vs,kw⟩) R s:=by
 obtain⟨hh,g,d,t,os⟩:=s;exact PySem.W.make_core (PySem.W.makes_of X hm) (PySem.W.looks_findIn X hi) (fun self=>PySem.W.bind_fn X self hf) (.inl rfl) h
end
noncomputable def putF(f:Str)(v:V):List (Str×V)->List (Str×V)
 | []=>[(f,v)]
 | (g,x)::r=>if g=f then (g,v)::r else (g,x)::putF f v r
theorem Z4(f g:Str)(v:V):∀ fs:List (Str×V),(putF f v fs).lookup g=if g=f then some v else fs.lookup g
 | []=>by
  show List.lookup g [(f,v)]=_;by_cases h:g=f
  ·have hb:(g == f)=true:=beq_iff_eq.mpr h;simp only[List.lookup,hb,if_pos h]
  ·have hb:(g == f)=false:=beq_eq_false_iff_ne.mpr h;simp only[List.lookup,hb,if_neg h]
 | (k,x)::r=>by
  have ih:=Z4 f g v r;rw[show putF f v ((k,x)::r)=(if k=f then (k,v)::r else (k,x)::putF f v r) from rfl]
  by_cases hk:k=f
  ·rw[if_pos hk];by_cases h:g=k
   ·have hb:(g == k)=true:=beq_iff_eq.mpr h;simp only[List.lookup,hb,if_pos (h.trans hk)]
   ·have hb:(g == k)=false:=beq_eq_false_iff_ne.mpr h;simp only[List.lookup,hb,if_neg (fun e:g=f=>h (e.trans hk.symm))]
  ·rw[if_neg hk];by_cases h:g=k
   ·have hb:(g == k)=true:=beq_iff_eq.mpr h;simp only[List.lookup,hb,if_neg (fun e:g=f=>hk (h.symm.trans e))]
   ·have hb:(g == k)=false:=beq_eq_false_iff_ne.mpr h;simp only[List.lookup,hb];exact ih
theorem Vd(f:Str)(v:V):∀ fs:List (Str×V),f∈(putF f v fs).map (·.1)/\∀ g,g∈fs.map (·.1)->g∈(putF f v fs).map (·.1)
 | []=>⟨by simp[putF],fun g h=>by simp at h⟩
 | (k,x)::r=>by
  obtain⟨i1,i2⟩:=Vd f v r;rw[show putF f v ((k,x)::r)=(if k=f then (k,v)::r else (k,x)::putF f v r) from rfl]
  by_cases hk:k=f
  ·rw[if_pos hk];subst hk;exact⟨by simp,fun g h=>by simpa using h⟩
  ·rw[if_neg hk];refine⟨?_,fun g h=>?_⟩
   ·rw[List.map_cons];exact List.mem_cons_of_mem _ i1
   ·rw[List.map_cons] at h ⊢;rcases List.mem_cons.mp h with e | e
    ·exact List.mem_cons.mpr (.inl e)
    ·exact List.mem_cons_of_mem _ (i2 g e)
theorem Vb(f:Str)(v:V):∀ fs:List (Str×V),(putF f v fs).length<=fs.length+1
 | []=>by simp[putF]
 | (k,x)::r=>by
  have ih:=Vb f v r;rw[show putF f v ((k,x)::r)=(if k=f then (k,v)::r else (k,x)::putF f v r) from rfl]
  by_cases hk:k=f
  ·rw[if_pos hk,List.length_cons,List.length_cons];omega
  ·rw[if_neg hk,List.length_cons,List.length_cons];omega
theorem RelO.some_of{v:V}{o:Option Value}(r:RelO (some v) o):∃ u,o=some u/\RelV v u:=by
 cases o with
 | none=>exact (show False from r).elim
 | some u=>exact⟨u,rfl,r⟩
theorem RelO.none_of{o:Option Value}(r:RelO none o):o=none:=by
 cases o with
 | none=>rfl
 | some u=>exact (show False from r).elim
theorem Zei{v:V}{u:Value}(r:RelV v u):PySem.W.handedIn u=true:=by
 cases v with
 | non=>cases (show u=Value.none from r);rfl
 | bl b=>cases (show u=Value.bool b from r);rfl
 | int i=>obtain⟨t,e⟩:=(show ∃ t,u=Value.int i t from r);cases e;rfl
 | str x=>obtain⟨t,e⟩:=(show ∃ t,u=Value.str x t from r);cases e;rfl
 | byt b=>obtain⟨t,e⟩:=(show ∃ t,u=Value.bytes b t from r);cases e;rfl
 | flt b=>obtain⟨t,e⟩:=(show ∃ t,u=Value.float b t from r);cases e;rfl
 | ref a=>cases (show u=Value.ref a from r);rfl
 | ty n=>cases (show u=Value.type n from r);rfl
section
variable{P:Program}{w:World}{H H':Hp}{h h':Heap}{a C dx:Addr}{fs fs':List (Str×V)}
theorem Ut(hok:HOk P w H h)(e:H a=some (.ins C dx fs)):∃ mA,ObjM h a dx C mA/\(∀ f,RelO (fs.lookup f) (mA f))/\PySem.Within mA (fs.map (·.1))/\fs.length<=1000/\H dx=some (.own a):=by
 obtain⟨d,z,ne,ob,mA,n,r,q⟩:=(show ObjOk P w H h a (.ins C dx fs) from hok a _ e);exact⟨mA,⟨ob,n,ne⟩,r,q,z,d⟩
end
structure Cls(K:PySem.W.Frag)(C:Addr):Prop where
 pg:PySem.W.plainGet K C Str.empty=true
 hd:PySem.W.hasDictIn K C=true
 po:PySem.W.plainOver K C=true
 sa:PySem.W.findIn K (.ref C) "__setattr__"=some (some (.builtin "object.__setattr__"))
theorem Cls.get{K:PySem.W.Frag}{C:Addr}(c:Cls K C)(f:Str):PySem.W.plainGet K C f=true:=c.pg
noncomputable def NoAttr(K:PySem.W.Frag)(C:Addr)(f:Str):Prop:=PySem.W.findIn K (.ref C) f=some none
theorem NoAttr.taker{K:PySem.W.Frag}{C:Addr}{f:Str}(n:NoAttr K C f):PySem.W.takerIn K C f=some none:=by
 unfold PySem.W.takerIn;rw[show PySem.W.findIn K (.ref C) f=some none from n];rfl
structure Meth(K:PySem.W.Frag)(C:Addr)(m:Str)(f:Addr):Prop where
 at_:PySem.W.findIn K (.ref C) m=some (some (.ref f))
 fn:PySem.W.isFn K (.ref f)=true
 kp:PySem.W.keepIn K (.ref f)=true
section
variable{X:Cx}{pins:List (Addr×Obj)}{σ:St}{H:Hp}{s:Shared}{a C dx:Addr}{fs:List (Str×V)}{f:Str}{v:V}{A:Around}{E:Value->Shared->Prop}
theorem Zcs{b:Bool}{Q:Value->Shared->Prop}(I:Inv X pins σ H s)(e:H a=some (.ins C dx fs))(c:Cls X.K C)(n:NoAttr X.K C f)(l:fs.lookup f=some v)
  (h:∀ u s',Inv X pins σ H s'->RelV v u->Q u s'):wpAny (model X.prog X.w) A (getAttr (.ref a) f b) Q E s:=by
 obtain⟨mA,O,r,_,_,_⟩:=Ut I.hok e;obtain⟨u,hu,ru⟩:=RelO.some_of (v:=v) (o:=mA f) (by rw[← l];exact r f)
 exact Ziu I.kIn O (c.get f) c.hd n hu (Zei ru) (h u _ (I.tok _) ru)
theorem X6{m:Str}{g:Addr}{pl:Sem Bool}{Q:Value×List Value->Shared->Prop}(I:Inv X pins σ H s)(e:H a=some (.ins C dx fs))(c:Cls X.K C)(k:Meth X.K C m g)(l:fs.lookup m=none)
  (h:Q (.ref g,[.ref a]) s):wpAny (model X.prog X.w) A (getMethod (.ref a) m pl) Q E s:=by
 obtain⟨mA,O,r,_,_,_⟩:=Ut I.hok e;have hn:mA m=none:=RelO.none_of (by rw[← l];exact r m)
 exact Zgl I.kIn O (c.get m) k.at_ k.fn hn h
theorem Zch{y:V}{u:Value}{Q:Unit->Shared->Prop}(I:Inv X pins σ H s)(e:H a=some (.ins C dx fs))(c:Cls X.K C)(n:NoAttr X.K C f)(hl:fs.length<1000)(ry:RelV y u)
  (h:∀ s',Inv X pins σ (upd H a (.ins C dx (putF f y fs))) s'->Q () s'):wpAny (model X.prog X.w) A (setAttr (.ref a) f u) Q E s:=by
 obtain⟨mA,O,r,wi,_,ho⟩:=Ut I.hok e;have hz:(fs.map (·.1)).length<=sizeLine:=by rw[List.length_map,sizeLine_eq];omega
 refine Zhz I.kIn O c.sa c.po n.taker c.hd wi hz fun h' O' sb=>h _ ?_;have hd:∃ o,h'.get? dx=some o:=let ⟨o,_,_,e',_⟩:=O'.ns;⟨o,e'⟩
 refine I.write (x:=a) (e:=dx) (by rw[e];exact True.intro) (.inr ho) (fun b q hb z=>(sb.2 b hb).trans z) hd ?_
 refine⟨by rw[Zh O.ne];exact ho,?_,O.ne,O'.obj,_,O'.ns,fun g=>?_,fun g hg=>?_⟩
 ·have:=Vb f y fs;omega
 ·show RelO ((putF f y fs).lookup g) (if g=f then some u else mA g)
  rw[Z4];by_cases q:g=f
  ·rw[if_pos q,if_pos q];exact ry
  ·rw[if_neg q,if_neg q];exact r g
 ·by_cases q:g=f
  ·rw[q];exact (Vd f y fs).1
  ·refine (Vd f y fs).2 g (wi g fun z=>hg ?_);show (if g=f then some u else mA g)=none
   rw[if_neg q];exact z
theorem Inv.made(I:Inv X pins σ H s):Inv X pins σ (upd (upd H s.heap.objs.size (.own (s.heap.objs.size+1))) (s.heap.objs.size+1) (.ins C s.heap.objs.size []))
  { s with heap:=(s.heap.push PySem.W.emptyDict).push (PySem.W.instObj C s.heap.objs.size) }:=by
 have e1:(s.heap.push PySem.W.emptyDict).get? s.heap.objs.size=some PySem.W.emptyDict:=Heap.get?_push_size s.heap rfl;have e2:((s.heap.push PySem.W.emptyDict).push (PySem.W.instObj C s.heap.objs.size)).get? (s.heap.objs.size+1)=some (PySem.W.instObj C s.heap.objs.size):=by
  have:=Heap.get?_push_size (s.heap.push PySem.W.emptyDict) (o:=PySem.W.instObj C s.heap.objs.size) rfl
  rwa [Heap.size_push] at this
 have e3:(s.heap.push PySem.W.emptyDict).Ns s.heap.objs.size (fun _=>none):=⟨PySem.W.emptyDict,#[],_,e1,rfl,(fun e he=>absurd he (by simp)),fun _=>rfl⟩
 have I1:=I.laid (a:=s.heap.objs.size) (o:=.own (s.heap.objs.size+1)) (h':=s.heap.push PySem.W.emptyDict) (t':=s.toks) (fun b u q=>Heap.get?_push_of_some _ q) (Nat.le_refl _) ⟨_,e1⟩;refine I1.laid (a:=s.heap.objs.size+1) (o:=.ins C s.heap.objs.size []) (t':=s.toks) (fun b u q=>Heap.get?_push_of_some _ q) (Nat.le_of_eq (Heap.size_push _ _)) ?_;have ne:s.heap.objs.size≠s.heap.objs.size+1:=Nat.ne_of_lt (Nat.lt_succ_self _);refine⟨by rw[Zh ne,Zb],Nat.zero_le _,ne,e2,fun _=>none,(Heap.Ns1.of_empty e3).at fun o q=>Heap.get?_push_of_some _ q,fun _=>True.intro,fun y hy=>absurd rfl hy⟩
theorem Zi0{prog:Program}{w:World}{env:Env}{e:Expr}{f:Str}{pos:Pos}{s:Shared}{Q:Value->Shared->Prop}(hb:attributeBase e f env (eval e env)=eval e env)
  (h:wpAny (model prog w) A (eval e env) (fun o s₁=>wpAny (model prog w) A (getAttr o f true) Q E s₁) E s):wpAny (model prog w) A (eval (.Attribute e f pos) env) Q E s:=
 Attribute_any_ h (by rw[arm_eval_Attribute,hb])
end
noncomputable def tFld(K:PySem.W.Frag)(ta:TE)(f:Str):TE:=fun σ H Q=>ta σ H fun x H1=>∃ a C dx fs v,x=.ref a/\H1 a=some (.ins C dx fs)/\Cls K C/\NoAttr K C f/\fs.lookup f=some v/\Q v H1
noncomputable def sFld(K:PySem.W.Frag)(ta tv:TE)(f:Str):TS:=fun D σ H=>tv σ H fun y H1=>ta σ H1 fun x H2=>∃ a C dx fs,x=.ref a/\H2 a=some (.ins C dx fs)/\Cls K C/\NoAttr K C f/\fs.length<1000 /\
 D.nx σ (upd H2 a (.ins C dx (putF f y fs)))
section
variable{X:Cx}{o e value:Expr}{f:Str}{pos pos' tpos:Pos}{ta tv:TE}
theorem Yn(he:PE X e ta)(hb:attributeBase e f X.env (eval e X.env)=eval e X.env):PE X (.Attribute e f pos) (tFld X.K ta f):=by
 intro pins s σ H Q I h;refine Zi0 hb (thn (he pins s σ H _ I h) fun u s1 ⟨x,H1,I1,rx,a,C,dx,fs,v,ex,ea,c,n,l,q⟩=>?_);subst ex;obtain rfl:u=Value.ref a:=rx;exact Zcs I1 ea c n l fun u' s2 I2 ru=>⟨v,H1,I2,ru,q⟩
theorem Zgz(ha:PE X o ta)(hv:PE X value tv)(hs:swapsWith value (some (.Attribute o f pos')) pos.line X.env=pure false):PS X (.Assign [.Attribute o f pos'] value pos) (sFld X.K ta tv f):=by
 intro pins s σ H D I h;refine plainObj_wpAny_Assign_Attribute (thn (hv pins s σ H _ I h) fun u s1 ⟨y,H1,I1,ry,q⟩=>thn (ha pins s1 σ H1 _ I1 q) fun ov s2 ⟨x,H2,I2,rx,a,C,dx,fs,ex,ea,c,n,l,q2⟩=>?_) hs;subst ex;obtain rfl:ov=Value.ref a:=rx;exact Zch I2 ea c n l ry fun s3 I3=>⟨σ,_,I3,q2⟩
end
section
variable{X:Cx}{pins:List (Addr×Obj)}{σ:St}{H:Hp}{s:Shared}{A:Around}{E:Value->Shared->Prop}{Q:Value->Shared->Prop}{c:Value}{b:Bool}
inductive TyOf (K:PySem.W.Frag) (H:Hp):V->Value->Prop where
 | non:TyOf K H .non (.type "NoneType")
 | bl (x:Bool):TyOf K H (.bl x) (.type "bool")
 | int (i:Int):TyOf K H (.int i) (.type "int")
 | str (x:Str):TyOf K H (.str x) (.type "str")
 | flt (x:UInt64):TyOf K H (.flt x) (.type "float")
 | lst {a:Addr} {xs:List V} (e:H a=some (.lst xs)):TyOf K H (.ref a) (.type "list")
 | frz {a:Addr} {o:Obj} {xs:List V} (e:H a=some (.frz o (.lst xs))):TyOf K H (.ref a) (.type "list")
 | tup {a:Addr} {xs:List V} (e:H a=some (.tup xs)):TyOf K H (.ref a) (.type "tuple")
 | dK {a:Addr} {kvs:List (Key×V)} (e:H a=some (.dK kvs)):TyOf K H (.ref a) (.type "dict")
 | dT {a:Addr} {kvs:List (List Key×V)} (e:H a=some (.dT kvs)):TyOf K H (.ref a) (.type "dict")
 | ins {a C dx:Addr} {fs:List (Str×V)} (e:H a=some (.ins C dx fs)) (cl:Cls K C) (ha:PySem.W.findIn K (.ref C) "__class__"=some (some (.builtin "object.__class__")))
   (hn:PySem.W.specialIn K (.builtin "object.__class__") "__get__"=some (some (.builtin "getset_descriptor.__get__"))) (htk:PySem.W.takesIn K (.builtin "object.__class__")=some true)
   (hm:PySem.W.mroIn K C (.type "object")=some true):TyOf K H (.ref a) (.ref C)
theorem Zee{x:V}{u t:Value}(I:Inv X pins σ H s)(rx:RelV x u)(ty:TyOf X.K H x t)(e:PySem.W.kitOne X.K t c=some b)(h:∀ tk,Q (.bool b) { s with toks:=tk }):
  wpAny (model X.prog X.w) A (call (.builtin "isinstance") [u,c]) Q E s:=by
 cases ty with
 | non=>cases (show u=Value.none from rx);exact PySem.W.kia_one PySem.W.kitx_none I.kIn True.intro e (fun z=>nomatch z) h
 | bl y=>cases (show u=Value.bool y from rx);exact PySem.W.kia_one PySem.W.kitx_bool I.kIn True.intro e (fun z=>nomatch z) h
 | int i=>obtain⟨t,q⟩:=(show ∃ t,u=Value.int i t from rx);cases q;exact PySem.W.kia_one PySem.W.kitx_int I.kIn True.intro e (fun z=>nomatch z) h
 | str y=>obtain⟨t,q⟩:=(show ∃ t,u=Value.str y t from rx);cases q;exact PySem.W.kia_one PySem.W.kitx_str I.kIn True.intro e (fun z=>nomatch z) h
 | flt y=>obtain⟨t,q⟩:=(show ∃ t,u=Value.float y t from rx);cases q;exact PySem.W.kia_one PySem.W.kitx_float I.kIn True.intro e (fun z=>nomatch z) h
 | @lst a xs ea=>
  cases (show u=Value.ref a from rx);obtain⟨_,_,n,_,h1⟩:=(show ObjOk X.prog X.w H s.heap a (.lst xs) from I.hok a _ ea);exact PySem.W.kia_one PySem.W.kitx_list I.kIn ⟨_,h1,rfl⟩ e (fun z=>nomatch z) h
 | @frz a ob xs ea=>
  cases (show u=Value.ref a from rx);obtain⟨_,_,_,n,_,h1⟩:=(show ObjOk X.prog X.w H s.heap a (.frz ob (.lst xs)) from I.hok a _ ea);exact PySem.W.kia_one PySem.W.kitx_list I.kIn ⟨_,h1,rfl⟩ e (fun z=>nomatch z) h
 | @tup a xs ea=>
  cases (show u=Value.ref a from rx);obtain⟨_,_,_,p⟩:=(show ObjOk X.prog X.w H s.heap a (.tup xs) from I.hok a _ ea);obtain⟨o,h1,h2,_⟩:=p;exact PySem.W.kia_one PySem.W.kitx_tuple I.kIn ⟨o,h1,h2⟩ e (fun z=>nomatch z) h
 | @dK a kvs ea=>
  cases (show u=Value.ref a from rx);obtain⟨_,_,vs,_,p⟩:=(show ObjOk X.prog X.w H s.heap a (.dK kvs) from I.hok a _ ea);obtain⟨o,es,ep,h1,h2,_⟩:=p;exact PySem.W.kia_one PySem.W.kitx_dict I.kIn ⟨o,h1,h2.1⟩ e (fun z=>nomatch z) h
 | @dT a kvs ea=>
  cases (show u=Value.ref a from rx);obtain⟨_,_,xs,_,o,es,ep,h1,h2,_⟩:=(show ObjOk X.prog X.w H s.heap a (.dT kvs) from I.hok a _ ea);exact PySem.W.kia_one PySem.W.kitx_dict I.kIn ⟨o,h1,h2.1⟩ e (fun z=>nomatch z) h
 | @ins a C dx fs ea cl ha hn htk hm=>
  cases (show u=Value.ref a from rx);obtain⟨mA,O,_⟩:=Ut I.hok ea;obtain⟨od,J,_⟩:=O.look;exact PySem.W.kia_one (PySem.W.kitx_own (cl.get _) cl.hd ha hn htk hm) I.kIn J e (fun z=>nomatch z) h
end
end L2
namespace L2
open PySem PySem.Spec PyProof.Rows
structure Room(k:Nat)(A:Around):Prop where
 hd:A.handled=none
 dp:A.depth+3 * k+5<recursionLimit
 un:A.units+16 * k+200<cLine
theorem Room.mono{j k:Nat}{A:Around}(r:Room k A)(h:j<=k):Room j A:=⟨r.hd,by have:=r.dp;omega,by have:=r.un;omega⟩
theorem Room.deeper{k:Nat}{A:Around}(r:Room (k+1) A)(env:Env):Room k (A.deeper env):=
 ⟨r.hd,by have:=r.dp;show A.depth+1+3 * k+5<_;omega,by have:=r.un;show A.units+3+16 * k+200<_;omega⟩
theorem Zcp{A:Around}{C:Addr}{us:List Value}{kw:List (Str×Value)}:(A.under (.builtin "type.__call__" ⟨.ref C::us,kw⟩)).depth=A.depth+1:=by
 first | rfl | simp[Around.under,Code.weight,Code.isCreation,Code.isGuard,Code.isCaller,Code.frames,Code.isFrame,guardIds]
theorem Zco{A:Around}{C:Addr}{us:List Value}{kw:List (Str×Value)}:(A.under (.builtin "type.__call__" ⟨.ref C::us,kw⟩)).units=A.units+1:=by
 first | rfl | simp[Around.under,Code.cUnits,Code.frames,Code.isFrame]
theorem Room.make{k:Nat}{A:Around}(r:Room (k+1) A)(C:Addr)(us:List Value)(kw:List (Str×Value)):Room k (A.under (.builtin "type.__call__" ⟨.ref C::us,kw⟩)):=
 ⟨r.hd,by have:=r.dp;rw[Zcp];omega,by have:=r.un;rw[Zco];omega⟩
theorem Room.depth{k:Nat}{A:Around}(r:Room k A):A.depth<recursionLimit:=by have:=r.dp;omega
theorem Room.units{k:Nat}{A:Around}(r:Room k A):A.units+64<cLine:=by have:=r.un;omega
noncomputable def tNil:TA:=fun _ H Q=>Q [] H
noncomputable def tCons(ta:TE)(tr:TA):TA:=fun σ H Q=>ta σ H fun x H1=>tr σ H1 fun xs H2=>Q (x::xs) H2
section
variable{X:Cx}{e:Expr}{es:List Expr}{te:TE}{t:TA}{pos:Pos}
theorem Zc:PA X [] tNil:=fun _ _ _ _ H Q I h=>Calls.spliced_nil ⟨[],H,I,.nil,h⟩
theorem Za(ha:PE X e te)(hr:PA X es t)(hs:starEach (e::es) X.env=(false,eval e X.env)::starEach es X.env:=by rfl):PA X (e::es) (tCons te t):=by
 intro pos pins s σ H Q I h;rw[hs];show wpAny _ _ (spliced ((false,eval e X.env)::backTo pos (starEach es X.env))) _ _ s;refine Calls.spliced_cons (thn (ha pins s σ H _ I h) fun u s1 ⟨x,H1,I1,r1,q1⟩=>?_);exact thn (hr pos pins s1 σ H1 _ I1 q1) fun us s2 ⟨xs,H2,I2,r2,q2⟩=>⟨x::xs,H2,I2,.cons r1 r2,q2⟩
noncomputable def tTup(t:TA):TE:=fun σ H Q=>t σ H fun xs H1=>xs.length<=sizeLine/\∀ p,H1 p=none->Q (.ref p) (upd H1 p (.tup xs))
noncomputable def tLst(t:TA):TE:=fun σ H Q=>t σ H fun xs H1=>xs.length<=sizeLine/\∀ p,H1 p=none->Q (.ref p) (upd H1 p (.lst xs))
theorem Zu{x1}(h:PA X es t):PE X (.Tuple es x1 pos) (tTup t):=by
 intro pins s σ H Q I hq;refine wpAny_Tuple_spliced (thn (h pos pins s σ H _ I hq) fun us s1 ⟨xs,H1,I1,r,z,q⟩=>⟨by rw[← r.length];exact z,?_⟩)
 have hf:H1 s1.heap.objs.size=none:=I1.hok.fresh (Nat.le_refl _);refine⟨.ref s1.heap.objs.size,upd H1 s1.heap.objs.size (.tup xs),I1.laid (t':=s1.toks) (fun b u e=>Heap.get?_push_of_some _ e) (Nat.le_refl _) ?_,rfl,q _ hf⟩;exact⟨z,us,r,⟨_,Heap.get?_push_size _ rfl,rfl,_,rfl⟩⟩
theorem Z1(h:PA X es t):PE X (.List es pos) (tLst t):=by
 intro pins s σ H Q I hq;refine wpAny_List_spliced (thn (h pos pins s σ H _ I hq) fun us s1 ⟨xs,H1,I1,r,z,q⟩=>⟨by rw[← r.length];exact z,?_⟩)
 have hf:H1 s1.heap.objs.size=none:=I1.hok.fresh (Nat.le_refl _);refine⟨.ref s1.heap.objs.size,upd H1 s1.heap.objs.size (.lst xs),I1.laid (t':=s1.toks) (fun b u e=>Heap.get?_push_of_some _ e) (Nat.le_refl _) ?_,rfl,q _ hf⟩;exact⟨z,us,0,r,Heap.get?_push_size _ rfl⟩
end
noncomputable abbrev Sp:=List V->Hp->VK->XK->Prop
noncomputable abbrev CXT:=List Env->Hp->Shared->XK->Value->Shared->Prop
structure Env0(P:Program)(w:World)(K:PySem.W.Frag)(mg:Str->Option Value)(base:Heap)(A:Around)(outer:List Env)(s:Shared)(H:Hp):Prop where
 frames:A.frames=some outer
 mod:Mod K mg base
 bs:∀ b o,base.get? b=some o->s.heap.get? b=some o/\H b=none
 bsz:base.objs.size<=s.heap.objs.size
 funs:s.heap.FunFrames base outer
 frf:∀ b∈frs outer,H b=none
 hok:HOk P w H s.heap
 bare:AllBare s.gens
noncomputable def CE(outer:List Env)(P:Program)(w:World)(H:Hp)(s:Shared)(Q:VK)(u:Value)(s':Shared):Prop:=
 ∃ v H',s'.os=s.os/\AllBare s'.gens/\Un (frs outer) [] H H' s.heap s'.heap/\HOk P w H' s'.heap/\RelV v u/\Q v H'
noncomputable def CR(CX:CXT)(outer:List Env)(P:Program)(w:World)(H:Hp)(s:Shared)(Q:VK)(E:XK)(r:Result)(s':Shared):Prop:=
 match r with
 | .ok (.ret u)=>CE outer P w H s Q u s'
 | .ok _=>False
 | .error e=>CX outer H s E e s'
structure FnOk(P:Program)(w:World)(K:PySem.W.Frag)(mg:Str->Option Value)(base:Heap)(CX:CXT)(k:Nat)(f:Addr)(fd:FuncData)(ps:List Str)(sp:Sp):Prop where
 len:∀ vs H Q E,sp vs H Q E->vs.length=ps.length
 run:∀ (A:Around) (outer:List Env) (s:Shared) (H:Hp) (args:Args) (us:List Value) (vs:List V) (Q:VK) (E:XK),Room k A->Env0 P w K mg base A outer s H->BindsTo s fd args (ps.zip us)->Vals vs us->sp vs H Q E ->
  codeAny (model P w) A (.call (.ref f) args) (CR CX outer P w H s Q E) s
theorem Env0.make{P:Program}{w:World}{K:PySem.W.Frag}{mg:Str->Option Value}{base:Heap}{A:Around}{outer:List Env}{s:Shared}{H:Hp}(e:Env0 P w K mg base A outer s H)(C:Addr)(us:List Value)(kw:List (Str×Value)):
  Env0 P w K mg base (A.under (.builtin "type.__call__" ⟨.ref C::us,kw⟩)) outer s H:=⟨by first | exact e.frames | (simpa[Around.under,Code.envs,Code.isFrame,pushEnvs] using e.frames),e.mod,e.bs,e.bsz,e.funs,e.frf,e.hok,e.bare⟩
section
variable{X:Cx}{pins:List (Addr×Obj)}{σ:St}{H:Hp}{s s':Shared}
theorem Inv.env0(I:Inv X pins σ H s):Env0 X.prog X.w X.K X.mg X.base X.A X.stack s H:=
 ⟨I.ok.frames,I.ok.mod,I.bs,Nat.le_trans I.ok.bsz I.sz,I.stack,I.stkFree,I.hok,I.bare⟩
theorem Inv.after{Q:VK}{u:Value}(I:Inv X pins σ H s)(h:CE X.stack X.prog X.w H s Q u s'):EP X pins σ Q u s':=by
 obtain⟨v,H',os,bare,un,hok,r,q⟩:=h;obtain⟨hh,g,d,t,os'⟩:=s';obtain rfl:os'=s.os:=os;exact⟨v,H',I.call (h':=hh) (g':=g) (d':=d) (t':=t) (ch:=[]) un hok bare (fun b z=>absurd z (by simp)),r,q⟩
end
noncomputable def tCall(sp:Sp)(dvs:List V)(E:XK)(t:TA):TE:=fun σ H Q=>t σ H fun vs H1=>sp (vs++dvs) H1 Q E
noncomputable def tMeth(C:Addr)(m:Str)(sp:Sp)(dvs:List V)(E:XK)(ta:TE)(t:TA):TE:=fun σ H Q=>ta σ H fun x H1=>∃ a dx fs,x=.ref a/\H1 a=some (.ins C dx fs)/\fs.lookup m=none /\
 t σ H1 fun vs H2=>sp (x::(vs++dvs)) H2 Q E
noncomputable def tMake(C:Addr)(sp:Sp)(dvs:List V)(E:XK)(t:TA):TE:=fun σ H Q=>t σ H fun vs H1=>∀ x dx,H1 x=none->H1 dx=none->dx≠x ->
 sp (.ref x::(vs++dvs)) (upd (upd H1 dx (.own x)) x (.ins C dx [])) (fun v H2=>v=.non/\Q (.ref x) H2) E
noncomputable def Binds(K:PySem.W.Frag)(fd:FuncData)(ps:List Str)(ds:List Value):Prop:=
 ∀ (s:Shared) (us:List Value),K.In s.heap->(us++ds).length=ps.length->BindsTo s fd ⟨us,[]⟩ (ps.zip (us++ds))
theorem Binds.all{K:PySem.W.Frag}{fd:FuncData}{ps:List Str}(h:∀ us:List Value,us.length=ps.length->bindArgs fd ⟨us,[]⟩=pure (ps.zip us)):Binds K fd ps []:=fun s us _ hl=>by
 rw[List.append_nil] at hl ⊢;exact .of_eq (h us hl)
noncomputable def Passes(CX:CXT)(X:Cx)(E:XK):Prop:=∀ (pins:List (Addr×Obj)) (σ:St) (H:Hp) (s:Shared) (e:Value) (s':Shared),Inv X pins σ H s->CX X.stack H s E e s'->X.xe e s'
section
variable{X:Cx}{CX:CXT}{k:Nat}{f C:Addr}{fd:FuncData}{ps:List Str}{sp:Sp}{dvs:List V}{ds:List Value}{E:XK}{x m:Str}{p pos apos:Pos}{e o:Expr}{es:List Expr}{ta:TE}{t:TA}
theorem Zdb{pins:List (Addr×Obj)}{σ:St}{H:Hp}{s:Shared}{Q:VK}{us:List Value}{vs:List V}(F:FnOk X.prog X.w X.K X.mg X.base CX k f fd ps sp)(hr:Room k X.A)(hb:Binds X.K fd ps ds)(hd:Vals dvs ds)(hx:Passes CX X E)
  (I:Inv X pins σ H s) (r:Vals vs us) (h:sp (vs++dvs) H Q E):wpAny (model X.prog X.w) X.A (call (.ref f) us) (EP X pins σ Q) X.xe s:=by
 have r2:Vals (vs++dvs) (us++ds):=r.append hd;have hl:(us++ds).length=ps.length:=by rw[← r2.length];exact F.len _ _ _ _ h
 refine wpAny_call (codeAny_mono (F.run X.A X.stack s H ⟨us,[]⟩ (us++ds) (vs++dvs) Q E hr I.env0 (hb s us I.kIn hl) r2 h) fun r s' hq=>?_);cases r with
 | error e=>exact hx pins σ H s e s' I hq
 | ok fl=>
  cases fl with
  | ret u=>exact I.after hq
  | next=>exact False.elim hq
  | brk=>exact False.elim hq
  | cont=>exact False.elim hq
theorem Zi(F:FnOk X.prog X.w X.K X.mg X.base CX k f fd ps sp)(hr:Room k X.A)(hg:Gl X x)(hm:X.mg x=some (.ref f))(hk:PySem.W.keepIn X.K (.ref f)=true)(hb:Binds X.K fd ps ds)(hd:Vals dvs ds)(hx:Passes CX X E)
  (ha:PA X (e::es) t) (hdb:(x == ("__debug__":Str))=false:=by decide) (he:starEach (e::es) X.env=(false,eval e X.env)::starEach es X.env:=by rfl) (hpl:(backTo pos (starEach es X.env)).any (·.1)=false:=by rfl):
  PE X (.Call (.Name x p) (e::es) [] pos) (tCall sp dvs E t):=by
 intro pins s σ H Q I h;refine wpAny_Call_Name_kw (Vc I hg hm ?_ hdb);refine PySem.W.callWith_K (h₀:=X.base) I.ok.mod.kin hk (thn (ha pos pins s σ H _ I h) fun us s1 ⟨vs,H1,I1,r,q⟩=>⟨I1.kIn,?_⟩) he hpl;exact Zdb F hr hb hd hx I1 r q
theorem Uo{pl:Sem Bool}(he:PE X o ta)(c:Cls X.K C)(hm:Meth X.K C m f)(F:FnOk X.prog X.w X.K X.mg X.base CX k f fd ps sp)(hr:Room k X.A)(hb:Binds X.K fd ps ds)(hd:Vals dvs ds)(hx:Passes CX X E)(ha:PA X (e::es) t)
  (hst:starEach (e::es) X.env=(false,eval e X.env)::starEach es X.env:=by rfl) (hpl:(backTo pos (starEach es X.env)).any (·.1)=false:=by rfl)
  (ht:eval (.Call (.Attribute o m apos) (e::es) [] pos) X.env=(do
   let ov ← eval o X.env
   standAt apos.atName
   let (f,first) ← holding [ov] (getMethod ov m pl)
   callWith pos f first (backTo pos (starEach (e::es) X.env)) (backToKw pos (keywordEach [] X.env))):=by rfl):
  PE X (.Call (.Attribute o m apos) (e::es) [] pos) (tMeth C m sp dvs E ta t):=by
 intro pins s σ H Q I h;refine PySem.W.methodCall_KW (pl:=pl) (thn (he pins s σ H _ I h) fun u s1 ⟨x,H1,I1,rx,a,dx,fs,ex,ea,l,q⟩=>?_) ht;subst ex;obtain rfl:u=Value.ref a:=rx;refine X6 I1 ea c hm l ?_;refine PySem.W.callWith_K (first:=[.ref a]) (h₀:=X.base) I.ok.mod.kin hm.kp (thn (ha pos pins s1 σ H1 _ I1 q) fun us s2 ⟨vs,H2,I2,r,q2⟩=>⟨I2.kIn,?_⟩) hst hpl;exact Zdb (us:=.ref a::us) (vs:=.ref a::vs) F hr hb hd hx I2 (.cons rfl r) q2
theorem Yp{pl:Sem Bool}(he:PE X o ta)(c:Cls X.K C)(hm:Meth X.K C m f)(F:FnOk X.prog X.w X.K X.mg X.base CX k f fd ps sp)(hr:Room k X.A)(hb:Binds X.K fd ps ds)(hd:Vals dvs ds)(hx:Passes CX X E)
  (ht:eval (.Call (.Attribute o m apos) [] [] pos) X.env=(do
   let ov ← eval o X.env
   standAt apos.atName
   let (f,first) ← holding [ov] (getMethod ov m pl)
   callWith pos f first (backTo pos (starEach [] X.env)) (backToKw pos (keywordEach [] X.env))):=by rfl):
  PE X (.Call (.Attribute o m apos) [] [] pos) (tMeth C m sp dvs E ta tNil):=by
 intro pins s σ H Q I h;refine PySem.W.methodCall_KW (pl:=pl) (thn (he pins s σ H _ I h) fun u s1 ⟨x,H1,I1,rx,a,dx,fs,ex,ea,l,q⟩=>?_) ht;subst ex;obtain rfl:u=Value.ref a:=rx;refine X6 I1 ea c hm l ?_;exact PySem.W.callWith_K0 (first:=[.ref a]) I1.kIn hm.kp (Zdb (us:=[.ref a]) (vs:=[.ref a]) F hr hb hd hx I1 (.cons rfl .nil) q)
structure Mk(K:PySem.W.Frag)(C f:Addr):Prop where
 makes:PySem.W.makesIn K C=true
 init:PySem.W.findIn K (.ref C) "__init__"=some (some (.ref f))
 fn:PySem.W.isFn K (.ref f)=true
 kp:PySem.W.keepIn K (.ref C)=true
theorem Zfq{pins:List (Addr×Obj)}{σ:St}{H:Hp}{s:Shared}{Q:VK}{us:List Value}{vs:List V}(M:Mk X.K C f)(F:FnOk X.prog X.w X.K X.mg X.base CX k f fd ps sp)(hr:Room (k+1) X.A)(hb:Binds X.K fd ps ds)(hd:Vals dvs ds)
  (hx:Passes CX X E) (I:Inv X pins σ H s) (r:Vals vs us)
  (h:∀ x dx,H x=none->H dx=none->dx≠x->sp (.ref x::(vs++dvs)) (upd (upd H dx (.own x)) x (.ins C dx [])) (fun v H2=>v=.non/\Q (.ref x) H2) E):
  wpAny (model X.prog X.w) X.A (call (.ref C) us) (EP X pins σ Q) X.xe s:=by
 have hq:=h (s.heap.objs.size+1) s.heap.objs.size (I.hok.fresh (Nat.le_succ _)) (I.hok.fresh (Nat.le_refl _)) (Nat.ne_of_lt (Nat.lt_succ_self _));have I2:=Inv.made (C:=C) I;have r2:Vals (V.ref (s.heap.objs.size+1)::(vs++dvs)) (Value.ref (s.heap.objs.size+1)::(us++ds)):=.cons rfl (r.append hd);have hl:(Value.ref (s.heap.objs.size+1)::us++ds).length=ps.length:=by
  have e:=r2.length;rw[F.len _ _ _ _ hq] at e;exact e.symm
 refine wpAny_call (Zf9 (f:=f) I.kIn M.makes M.init (beq_iff_eq.mp M.fn) (codeAny_mono (F.run _ X.stack _ _ ⟨Value.ref (s.heap.objs.size+1)::us,[]⟩ (Value.ref (s.heap.objs.size+1)::(us++ds)) _ _ E (hr.make C us [])
  (I2.env0.make C us []) (hb _ (Value.ref (s.heap.objs.size+1)::us) I2.kIn hl) r2 hq) fun r s' hq'=>?_))
 cases r with
 | error e=>exact hx pins σ _ _ e s' I2 hq'
 | ok fl=>
  cases fl with
  | ret u=>
   obtain⟨v,H',I3,rv,ev,q3⟩:=I2.after hq';subst ev;exact⟨rv,⟨V.ref (s.heap.objs.size+1),H',I3,rfl,q3⟩⟩
  | next=>exact False.elim hq'
  | brk=>exact False.elim hq'
  | cont=>exact False.elim hq'
theorem Zdm(M:Mk X.K C f)(F:FnOk X.prog X.w X.K X.mg X.base CX k f fd ps sp)(hr:Room (k+1) X.A)(hg:Gl X x)(hm:X.mg x=some (.ref C))(hb:Binds X.K fd ps ds)(hd:Vals dvs ds)(hx:Passes CX X E)
  (ha:PA X (e::es) t) (hdb:(x == ("__debug__":Str))=false:=by decide) (he:starEach (e::es) X.env=(false,eval e X.env)::starEach es X.env:=by rfl) (hpl:(backTo pos (starEach es X.env)).any (·.1)=false:=by rfl):
  PE X (.Call (.Name x p) (e::es) [] pos) (tMake C sp dvs E t):=by
 intro pins s σ H Q I h;refine wpAny_Call_Name_kw (Vc I hg hm ?_ hdb);refine PySem.W.callWith_K (h₀:=X.base) I.ok.mod.kin M.kp (thn (ha pos pins s σ H _ I h) fun us s1 ⟨vs,H1,I1,r,q⟩=>⟨I1.kIn,?_⟩) he hpl;exact Zfq M F hr hb hd hx I1 r q
end
section
variable{X:Cx}{CX:CXT}{k:Nat}{f C:Addr}{fd:FuncData}{ps ks:List Str}{sp:Sp}{E:XK}{x m:Str}{p pos apos kpos:Pos}{e o:Expr}{es:List Expr}{kws:List Keyword}{te ta:TE}{t tk:TA}{nm:Option Str}
variable{g:List Value->List Value->List Value}{gV:List V->List V->List V}
end
structure FnScope(N P:List Str)(sc:Scope):Prop where
 kind:sc.kind=.function
 co:sc.isCoroutine=false
 gen:sc.isGenerator=false
 nd:N.Nodup
 pre:N.take P.length=P
 par:∀ x∈P,sc.names.lookup x=some .local∨sc.names.lookup x=some .cell
 nofree:∀ y∈sc.names,y.2≠.free
theorem J4{kindOf:Str->Option NameKind}{x:Str}:∀ {binds:List (Str×Value)} {m:Str->Option Value},(∀ v,(x,v)∉binds)->bindL kindOf binds m x=m x
 | [],_,_=>rfl
 | (n,v)::r,m,h=>by
  unfold bindL;rw[J4 fun w hw=>h w (List.mem_cons_of_mem _ hw)]
  split
  ·have:x≠n:=by rintro rfl;exact h v List.mem_cons_self
   simp[this]
  ·rfl
theorem Zab{kindOf:Str->Option NameKind}{x:Str}:∀ {binds:List (Str×Value)} {m:Str->Option Value},(∀ v,(x,v)∉binds)->bindC kindOf binds m x=m x
 | [],_,_=>rfl
 | (n,v)::r,m,h=>by
  unfold bindC;rw[Zab fun w hw=>h w (List.mem_cons_of_mem _ hw)]
  split
  ·rfl
  ·have:x≠n:=by rintro rfl;exact h v List.mem_cons_self
   simp[this]
theorem Zaa{kindOf:Str->Option NameKind}{x:Str}{v:Value}:∀ {P:List Str} {vs:List Value} {i:Nat} {m:Str->Option Value},P.Nodup->P[i]? = some x->vs[i]? = some v->kindOf x=some .local ->
  bindL kindOf (P.zip vs) m x=some v
 | [],_,_,_,_,h,_,_=>by simp at h
 | _::_,[],_,_,_,_,h,_=>by simp at h
 | p::P,w::vs,0,m,nd,h1,h2,hk=>by
  simp at h1 h2;subst h1;subst h2;show bindL kindOf ((p,w)::P.zip vs) m p=_;unfold bindL;rw[J4 fun v hv=>(List.nodup_cons.mp nd).1 (List.of_mem_zip hv).1,if_pos hk];simp
 | p::P,w::vs,i+1,m,nd,h1,h2,hk=>by
  show bindL kindOf ((p,w)::P.zip vs) m x=_;unfold bindL;exact Zaa (i:=i) (List.nodup_cons.mp nd).2 (by simpa using h1) (by simpa using h2) hk
theorem Zac{kindOf:Str->Option NameKind}{x:Str}{v:Value}:∀ {P:List Str} {vs:List Value} {i:Nat} {m:Str->Option Value},P.Nodup->P[i]? = some x->vs[i]? = some v->kindOf x≠some .local ->
  bindC kindOf (P.zip vs) m x=some v
 | [],_,_,_,_,h,_,_=>by simp at h
 | _::_,[],_,_,_,_,h,_=>by simp at h
 | p::P,w::vs,0,m,nd,h1,h2,hk=>by
  simp at h1 h2;subst h1;subst h2;show bindC kindOf ((p,w)::P.zip vs) m p=_;unfold bindC;rw[Zab fun v hv=>(List.nodup_cons.mp nd).1 (List.of_mem_zip hv).1,if_neg hk];simp
 | p::P,w::vs,i+1,m,nd,h1,h2,hk=>by
  show bindC kindOf ((p,w)::P.zip vs) m x=_;unfold bindC;exact Zac (i:=i) (List.nodup_cons.mp nd).2 (by simpa using h1) (by simpa using h2) hk
noncomputable def start(N:List Str)(vs:List V):St:=vs.map some++List.replicate (N.length - vs.length) none
noncomputable def cxOf(CX:CXT)(P:Program)(w:World)(K:PySem.W.Frag)(mg:Str->Option Value)(base:Heap)(N:List Str)(qual:Str)(scope:Scope)(f:Addr)(cd:Value)(A:Around)(outer:List Env)(s:Shared)(H:Hp)(E:XK):Cx where
 prog:=P
 w:=w
 K:=K
 mg:=mg
 base:=base
 A:=A.deeper (envOfC qual scope s.heap.objs.size f cd)
 N:=N
 s₀:=s
 H₀:=H
 env:=envOfC qual scope s.heap.objs.size f cd
 outer:=outer
 stack:=envOfC qual scope s.heap.objs.size f cd::outer
 ex:=[]
 calm:=true
 fn:=fun _=>true
 pn:=[]
 xe:=fun e s'=>wpAny (model P w) (A.deeper (envOfC qual scope s.heap.objs.size f cd)) (leaving (envOfC qual scope s.heap.objs.size f cd) e) (fun _ s''=>CX outer H s E e s'') (fun e' s''=>CX outer H s E e' s'') s'
theorem Zca{sc:Scope}{n:Nat}{x:Str}(h:sc.names.lookup x=some .cell):∃ c,(cellsFrom n sc.names []).lookup x=some c:=by
 have q:=PySem.W.cellsFrom_some sc.names n [] (.inl h);exact Option.isSome_iff_exists.mp q
theorem Jj{CX:CXT}{P:Program}{w:World}{K:PySem.W.Frag}{mg:Str->Option Value}{base:Heap}{N ps:List Str}{qual:Str}{scope:Scope}{f:Addr}{cd:Value}{A:Around}{outer:List Env}{s s1:Shared}{H:Hp}{E:XK}{us:List Value}{vs:List V}
  (S:FnScope N ps scope) (hd:A.handled=none) (e0:Env0 P w K mg base A outer s H) (hl:vs.length=ps.length) (r:Vals vs us)
  (x:InCallC s s.heap.objs.size (bindL (envOfC qual scope s.heap.objs.size f cd).kindOf (ps.zip us) fun _=>none) (cellsFrom (s.heap.objs.size+1) scope.names []) (bindC (envOfC qual scope s.heap.objs.size f cd).kindOf (ps.zip us) fun _=>none) s1):
  Inv (cxOf CX P w K mg base N qual scope f cd A outer s H E) [] (start N vs) H s1:=by
 have hpl:ps.length<=N.length:=by have:=congrArg List.length S.pre;rw[List.length_take] at this;omega
 obtain⟨h1,tk,rfl,hk⟩:=x.done;have noA:∀ b:Addr,b∉(cxOf CX P w K mg base N qual scope f cd A outer s H E).ex:=fun b z=>absurd (show b∈([]:List Addr) from z) (by simp)
 refine⟨⟨e0.mod,S.kind,rfl,rfl,Nat.le_refl _,fun y z c h1 h2=>?_,fun y hy=>?_,fun y c _ h=>?_,fun _=>hd,Around.frames_deeper e0.frames,.inr ⟨rfl,rfl⟩,fun b z=>absurd z (noA b),e0.bs,e0.bsz,fun b _ _=>noA b,fun b z=>absurd z (noA b),e0.funs,e0.frf⟩,
  rfl,e0.bare,Un.kept hk,⟨_,x.toInCall.ns,fun i y v h1 h2 h3=>?_⟩,fun y c h=>⟨_,x.cell y c h⟩,e0.hok.fresh (Nat.le_refl _),fun y c h=>?_,fun p hp=>absurd (show p∈([]:List (Addr×Obj)) from hp) (by simp),e0.hok.kept hk,?_⟩
 ·exact name_of_addr x.apart (PySem.mem_of_lookup h1) (PySem.mem_of_lookup h2)
 ·have hy:scope.names.lookup y=some .cell∨scope.names.lookup y=some .free:=hy;rcases hy with hy | hy
  ·exact Zca hy
  ·exact absurd rfl (S.nofree _ (PySem.mem_of_lookup hy))
 ·exact Nat.le_of_lt (x.above y c (PySem.mem_of_lookup h))
 ·have hi:i<vs.length:=by
   unfold start at h2;by_cases hi:i<vs.length
   ·exact hi
   ·rw[List.getElem?_append_right (by simpa using hi)] at h2
    rw[List.getElem?_replicate] at h2
    split at h2<;>cases h2
  have ha:vs[i]? = some v:=by
   unfold start at h2;rw[List.getElem?_append_left (by simpa using hi),List.getElem?_map] at h2
   cases e:vs[i]? with
   | none=>rw[e] at h2;cases h2
   | some a=>rw[e] at h2;cases h2;rfl
  obtain⟨u,hu,rv⟩:=r.get ha;have hp:ps[i]? = some y:=by
   rw[← S.pre,List.getElem?_take_of_lt (by omega)];exact h1
  have ndP:ps.Nodup:=by rw[← S.pre];exact S.nd.sublist (List.take_sublist _ _)
  refine⟨u,rv,?_⟩;rcases S.par y (List.mem_of_getElem? hp) with k | k
  ·exact .inl ⟨k,Zaa ndP hp hu k⟩
  ·obtain⟨c,e⟩:=Zca (n:=s.heap.objs.size+1) k;refine .inr ⟨.inl k,c,e,?_⟩;have q:=x.cell y c e;rw[Zac ndP hp hu (by show scope.names.lookup y≠_;rw[k];decide)] at q
   exact q
 ·exact e0.hok.fresh (Nat.le_of_lt (x.above y c (PySem.mem_of_lookup h)))
 ·unfold start;show _=N.length;rw[List.length_append,List.length_map,List.length_replicate];omega
theorem Zju{CX:CXT}{P:Program}{w:World}{K:PySem.W.Frag}{mg:Str->Option Value}{base:Heap}{k:Nat}{f:Addr}{name qual:Str}{params:Arguments}{body:List Stmt}{scope:Scope}{dV kV doc pm cdv ct oc:Value}{an od:Option Addr}
  {osl:Array (Option Value)} {N ps:List Str} {sp:Sp} (lk:K.lookup f=some ⟨oc,od,.func (PySem.W.fnOf name qual params body scope dV kV doc pm an cdv ct),osl⟩) (hcd:PySem.W.codeIn K cdv qual=true) (S:FnScope N ps scope)
  (len:∀ vs H Q E,sp vs H Q E->vs.length=ps.length)
  (hbody:∀ (A:Around) (outer:List Env) (s:Shared) (H:Hp) (vs:List V) (Q:VK) (E:XK),Room k (A.deeper (envOfC qual scope s.heap.objs.size f cdv))->sp vs H Q E ->
   ∃ t,PSs (cxOf CX P w K mg base N qual scope f cdv A outer s H E) body t/\t { nx:=fun _ H'=>Q .non H',rt:=Q } (start N vs) H):
  FnOk P w K mg base CX (k+1) f (PySem.W.fnOf name qual params body scope dV kV doc pm an cdv ct) ps sp:=by
 refine⟨len,fun A outer s H args us vs Q E hr e0 hb r hsp=>?_⟩;have hl:=len _ _ _ _ hsp;have KX:K.In s.heap:=e0.mod.kin.keeps fun b o e=>(e0.bs b o e).1;have lim:s.heap.NoLimit:=e0.mod.nolimit.keeps fun b o e=>(e0.bs b o e).1;have hkind:∀ y∈ps.zip us,scope.names.lookup y.1=some .local∨(scope.names.lookup y.1=some .cell/\((cellsFrom (s.heap.objs.size+1) scope.names []).lookup y.1).isSome=true):=fun⟨n,v⟩ hy=>by
  rcases S.par n (List.of_mem_zip hy).1 with q | q
  ·exact .inl q
  ·exact .inr ⟨q,PySem.W.cellsFrom_some _ _ _ (.inl q)⟩
 refine codeAny_call_function hr.depth (KX _ _ lk) rfl S.co S.gen rfl (PySem.W.codeRec_of KX hcd) (hb _ _ _ _ ?_);refine wpAny_newFunctionEnv_cells S.kind hkind fun env he s1 x=>?_;subst he;refine⟨lim.keeps x.toInCall.keep,codeAny_func ?_⟩;obtain⟨t,ht,hq⟩:=hbody A outer s H vs Q E (hr.deeper _) hsp;have I:Inv (cxOf CX P w K mg base N qual scope f cdv A outer s H E) [] (start N vs) H s1:=Jj S hr.hd e0 hl r x;refine wpAny_mono (ht [] s1 (start N vs) H _ I hq) (fun fl s' hs=>?_) fun e s' hs=>hs;have fin:∀ {σ':St} {H':Hp} {v:V} {u:Value},Inv (cxOf CX P w K mg base N qual scope f cdv A outer s H E) [] σ' H' s'->RelV v u->Q v H'->CE outer P w H s Q u s':=
  fun {σ' H' v u} J rv q=>⟨v,H',J.os,J.bare,J.base,J.hok,rv,q⟩
 cases fl with
 | ret u=>
  obtain⟨v,σ',H',J,rv,q⟩:=hs;exact fin J rv q
 | next=>
  obtain⟨σ',H',J,q⟩:=hs;exact fin (v:=V.non) (u:=Value.none) J rfl q
 | brk=>
  obtain⟨_,_,_,q⟩:=hs;exact False.elim q
 | cont=>
  obtain⟨_,_,_,q⟩:=hs;exact False.elim q
end L2
namespace L2
open PySem PySem.Spec PyProof.Rows
section
variable{X:Cx}{x:Str}{p pos:Pos}{e:Expr}{es:List Expr}{t:TA}{id T:String}{r:List V->Hp->VK->Prop}
noncomputable def tCB(r:List V->Hp->VK->Prop)(t:TA):TE:=fun σ H Q=>t σ H fun vs H1=>r vs H1 Q
theorem Zm(hc:CallR X (.builtin id) r)(hg:Gl X x)(hm:X.mg x=none)(hv:bootBuiltins x=some (.builtin id))(ha:PA X (e::es) t)(hn:x≠"__name__":=by decide)(hdb:(x == ("__debug__":Str))=false:=by decide)
  (he:starEach (e::es) X.env=(false,eval e X.env)::starEach es X.env:=by rfl) (hpl:(backTo pos (starEach es X.env)).any (·.1)=false:=by rfl):PE X (.Call (.Name x p) (e::es) [] pos) (tCB r t):=by
 intro pins s σ H Q I h;refine wpAny_Call_Name_kw (Wf I hg hm hv ?_ hn hdb);exact PyProof.Rows.callWith_builtin1 (thn (ha pos pins s σ H _ I h) fun us s1 ⟨vs,H1,I1,r1,q1⟩=>hc pins s1 σ H1 vs us Q I1 r1 q1) he hpl
theorem Yg(hc:CallR X (.type T) r)(hg:Gl X x)(hm:X.mg x=none)(hv:bootBuiltins x=some (.type T))(ha:PA X (e::es) t)(hn:x≠"__name__":=by decide)(hdb:(x == ("__debug__":Str))=false:=by decide)
  (he:starEach (e::es) X.env=(false,eval e X.env)::starEach es X.env:=by rfl) (hpl:(backTo pos (starEach es X.env)).any (·.1)=false:=by rfl):PE X (.Call (.Name x p) (e::es) [] pos) (tCB r t):=by
 intro pins s σ H Q I h;refine wpAny_Call_Name_kw (Wf I hg hm hv ?_ hn hdb);exact PyProof.Rows.callWith_type1 (thn (ha pos pins s σ H _ I h) fun us s1 ⟨vs,H1,I1,r1,q1⟩=>hc pins s1 σ H1 vs us Q I1 r1 q1) he hpl
end
end L2
namespace HT
open PySem PyProof.Rows
section
open PySem.SeqAt
open PySem.AutoSeq1 (wpAny_loadPart')
open PySem.MeetsSeq PySem.MeetsSeq2 PySem.MeetsSeq3
end
section
variable{prog:Program}{w:World}{A:Around}{E:Value->Shared->Prop}{s:Shared}
noncomputable def sIx(n d:Nat):Option Int->Nat
 | none=>d
 | some v=>if v<0 then (v+(n:Int)).toNat else min v.toNat n
theorem sIx_none(n d:Nat):sIx n d none=d:=rfl
theorem sIx_nat(n d k:Nat):sIx n d (some (k:Int))=min k n:=by
 show (if (k:Int)<0 then ((k:Int)+(n:Int)).toNat else min (k:Int).toNat n)=min k n
 rw[if_neg (by omega),Int.toNat_natCast]
end
end HT
namespace L2
open PySem PySem.Spec PyProof.Rows
noncomputable abbrev TO:=St->Hp->(Option Int->Hp->Prop)->Prop
noncomputable def PO(X:Cx)(e:Option Expr)(t:TO):Prop:=
 ∀ (pins:List (Addr×Obj)) (s:Shared) (σ:St) (H:Hp) (Q:Option Int->Hp->Prop),Inv X pins σ H s->t σ H Q ->
  wpAny (model X.prog X.w) X.A (evalPart e X.env) (fun u s'=>∃ o H',Inv X pins σ H' s'/\IsPart u o/\Q o H') X.xe s
noncomputable def tNoPart:TO:=fun _ H Q=>Q none H
noncomputable def tPart(t:TE):TO:=fun σ H Q=>t σ H fun x H1=>∃ i,x=.int i/\Q (some i) H1
theorem Vz{ns:List Int}:∀ {us:List Value},Vals (ns.map V.int) us->IntsAre us ns:=by
 induction ns with
 | nil=>intro us r;rw[List.map_nil] at r;cases r;exact .nil
 | cons n ns ih=>
  intro us r;rw[List.map_cons] at r;cases r with
  | cons r1 r2=>
   obtain⟨t,e⟩:=r1;subst e;exact .cons n t (ih r2)
section
variable{X:Cx}{e:Expr}{te:TE}{lo hi:Option Expr}{tl th:TO}{pos p2:Pos}
theorem Zh4:PO X none tNoPart:=by
 intro pins s σ H Q I h;rw[evalPart_none];exact wpAny_pure ⟨none,H,I,.none,h⟩
theorem Zh3(h:PE X e te):PO X (some e) (tPart te):=by
 intro pins s σ H Q I hw;rw[evalPart_some];refine thn (h pins s σ H _ I hw) fun u s1 ⟨x,H1,I1,r1,q1⟩=>?_;obtain⟨i,rfl,q⟩:=q1;obtain⟨t,rfl⟩:=r1;exact⟨some i,H1,I1,.int i t,q⟩
noncomputable def SlR(X:Cx)(r:V->Option Int->Option Int->Hp->VK->Prop):Prop:=
 ∀ (pins:List (Addr×Obj)) (s:Shared) (σ:St) (H:Hp) (x:V) (v vl vu:Value) (lo hi:Option Int) (sl:Addr) (Q:VK),Inv X pins σ H s->RelV x v->s.heap.IsSliceOf sl vl vu .none->IsPart vl lo->IsPart vu hi->r x lo hi H Q ->
  ∃ T id,typeLookup (.type T) "__getitem__"=pure (some (.builtin id))/\s.TypeIs v T/\wpAny (model X.prog X.w) X.A (getItem v (.ref sl)) (EP X pins σ Q) X.xe s
noncomputable def tSl(r:V->Option Int->Option Int->Hp->VK->Prop)(te:TE)(tl th:TO):TE:=fun σ H Q=>te σ H fun x H1=>tl σ H1 fun l H2=>th σ H2 fun u H3=>r x l u H3 Q
theorem Zfv{r:V->Option Int->Option Int->Hp->VK->Prop}(hr:SlR X r)(he:PE X e te)(hl:PO X lo tl)(hu:PO X hi th):PE X (.Subscript e (.Slice lo hi none p2) pos) (tSl r te tl th):=by
 intro pins s σ H Q I h;refine Subscript_ (thn (he pins s σ H _ I h) fun v s1 ⟨x,H1,I1,r1,q1⟩=>?_);refine wpAny_Slice (thn (hl pins s1 σ H1 _ I1 q1) fun vl s2 ⟨l,H2,I2,pl,q2⟩=>thn (hu pins s2 σ H2 _ I2 q2) fun vu s3 ⟨u,H3,I3,pu,q3⟩=>?_);rw[evalPart_none];refine wpAny_pure ?_;have I4:Inv X pins σ H3 { s3 with heap:=s3.heap.push { cls:=.type "slice",data:=.fields #[vl,vu,.none] } }:=I3.kept (t':=s3.toks) fun b ob q=>Heap.get?_push_of_some _ q
 obtain⟨T,id,hT,ht,hg⟩:=hr pins { s3 with heap:=s3.heap.push { cls:=.type "slice",data:=.fields #[vl,vu,.none] } } σ H3 x v vl vu l u s3.heap.objs.size Q I4 r1 (Heap.IsSliceOf.new ..) pl pu q3
 show wpAny (model X.prog X.w) X.A (subscriptTail e (.Slice lo hi none p2) v (.ref s3.heap.objs.size)) (EP X pins σ Q) X.xe { s3 with heap:=s3.heap.push { cls:=.type "slice",data:=.fields #[vl,vu,.none] } }
 exact tail_any (ops:=[.ref s3.heap.objs.size,v]) ht hT hg (by with_unfolding_all rfl)
noncomputable def cutV(xs:List V)(lo hi:Option Int):List V:=(xs.drop (HT.sIx xs.length 0 lo)).take (HT.sIx xs.length xs.length hi - HT.sIx xs.length 0 lo)
theorem Za0(xs:List V)(lo hi:Option Int):(cutV xs lo hi).length<=xs.length:=by
 unfold cutV;rw[List.length_take,List.length_drop];omega
end
end L2
namespace L2
open PySem PySem.Spec PyProof.Rows
noncomputable def ixN(n:Nat)(i:Int):Option Nat:=if 0<=i then (if i<n then some i.toNat else none) else if -(n:Int)<=i then some (i+n).toNat else none
noncomputable def atI{α:Type}(xs:List α)(i:Int):Option α:=(ixN xs.length i).bind fun j=>xs[j]?
theorem Zec{n:Nat}{i:Int}{j:Nat}(h:ixN n i=some j):seqIndex? i n=some j/\j<n/\-(n:Int)<=i/\i<n:=by
 unfold ixN at h;by_cases h0:0<=i
 ·rw[if_pos h0] at h;by_cases h1:i<n
  ·rw[if_pos h1] at h;have e:i.toNat=j:=Option.some.inj h;exact⟨by rw[seqIndex_of h0 h1,e],by omega,by omega,h1⟩
  ·rw[if_neg h1] at h;cases h
 ·rw[if_neg h0] at h;by_cases h1 : -(n:Int)<=i
  ·rw[if_pos h1] at h;have e:(i+n).toNat=j:=Option.some.inj h;exact⟨by rw[seqIndex_neg (by omega) h1,e],by omega,h1,by omega⟩
  ·rw[if_neg h1] at h;cases h
theorem Ze7{α:Type}{xs:List α}{i:Int}{v:α}(h:atI xs i=some v):∃ j,seqIndex? i xs.length=some j/\xs[j]? = some v/\j<xs.length/\-(xs.length:Int)<=i/\i<xs.length:=by
 unfold atI at h;cases e:ixN xs.length i with
 | none=>rw[e] at h;cases h
 | some j=>
  rw[e] at h;obtain⟨h1,h2,h3,h4⟩:=Zec e;exact⟨j,h1,h,h2,h3,h4⟩
theorem Yf{α:Type}{xs:List α}{j:Nat}{v:α}(h:xs[j]? = some v):atI xs (j:Int)=some v:=by
 have hj:j<xs.length:=(List.getElem?_eq_some_iff.mp h).1;have e:ixN xs.length (j:Int)=some j:=by
  unfold ixN;rw[if_pos (by omega),if_pos (by omega)];simp
 unfold atI;rw[e];exact h
noncomputable def PlainIx(b:Expr):Prop:=∀ o i,subscripted b false o i=operate [o,i] (getItem o i)
noncomputable def IxR(X:Cx)(r:R2):Prop:=
 ∀ (value slice:Expr) (pins:List (Addr×Obj)) (s:Shared) (σ:St) (H:Hp) (x y:V) (v u:Value) (Q:VK),Inv X pins σ H s->RelV x v->RelV y u->r x y H Q ->
  subscripted slice false v u=operate [v,u] (getItem v u)->wpAny (model X.prog X.w) X.A (subscriptTail value slice v u) (EP X pins σ Q) X.xe s
noncomputable def MtR(X:Cx)(id:String)(r:V->List V->Hp->VK->Prop):Prop:=
 ∀ (pins:List (Addr×Obj)) (s:Shared) (σ:St) (H:Hp) (x:V) (xs:List V) (v:Value) (us:List Value) (Q:VK),Inv X pins σ H s->RelV x v->Vals xs us->r x xs H Q ->
  wpAny (model X.prog X.w) X.A (call (.builtin id) (v::us)) (EP X pins σ Q) X.xe s
section
variable{X:Cx}{a b:Expr}{ta tb:TE}{pos:Pos}
theorem Zq{r:R2}(hr:IxR X r)(ha:PE X a ta)(hb:PE X b tb)(hs:PlainIx b):PE X (.Subscript a b pos) (tOp r ta tb):=by
 intro pins s σ H Q I h;exact Subscript_ (binT ha hb I h fun v u s2 x y H2 I2 rx ry q=>hr a b pins s2 σ H2 x y v u Q I2 rx ry q (hs _ _))
noncomputable def rIxL(K:PySem.W.Frag):R2:=fun x y H Q=>∃ p xs i v,x=.ref p/\y=.int i/\SqL K H p xs/\atI xs i=some v/\Q v H
noncomputable def rIxT(K:PySem.W.Frag):R2:=fun x y H Q=>∃ p xs i v,x=.ref p/\y=.int i/\SqT K H p xs/\atI xs i=some v/\Q v H
theorem Zio:IxR X (rIxL X.K):=by
 intro value slice pins s σ H x y v u Q I rx ry h hs;obtain⟨p,xs,i,z,rfl,rfl,hq,he,q⟩:=h;cases rx;obtain⟨t,rfl⟩:=ry;obtain⟨its,r,pl,hz⟩:=I.list hq;obtain⟨j,h1,h2,h3,h4,h5⟩:=Ze7 he;obtain⟨w,ew,rw'⟩:=r.get h2;have hl:=r.length;have hn:=line63;have fin:EP X pins σ Q w s:=⟨z,H,I,rw',q⟩;by_cases h0:0<=i
 ·have hj:i.toNat=j:=by
   rw[seqIndex_of h0 h5] at h1;exact Option.some.inj h1
  exact item_listR pl.isList h0 (by omega) (by rw[hj];simpa using ew) fin hs
 ·have hj:(i+(its.toArray.size:Int)).toNat=j:=by
   rw[seqIndex_neg (by omega) h4] at h1
   rw[List.size_toArray,← hl];exact Option.some.inj h1
  exact subscriptTail_builtinR (x:=w) pl.isList.typeIs slot_list_getitem.lookup
   (wpAny_getItem_list_neg (Q:=fun r s'=>r=w/\EP X pins σ Q r s') pl.isList (by omega) (by rw[List.size_toArray]<;>omega) (by omega) (by rw[hj];simpa using ew) ⟨rfl,fin⟩) hs
theorem Zjs:IxR X (rIxT X.K):=by
 intro value slice pins s σ H x y v u Q I rx ry h hs;obtain⟨p,xs,i,z,rfl,rfl,hq,he,q⟩:=h;cases rx;obtain⟨t,rfl⟩:=ry;obtain⟨its,r,pl,hz⟩:=I.tuple hq;obtain⟨j,h1,h2,h3,h4,h5⟩:=Ze7 he;obtain⟨w,ew,rw'⟩:=r.get h2;have hl:=r.length;have hn:=line63;have fin:EP X pins σ Q w s:=⟨z,H,I,rw',q⟩;exact subscriptTail_builtinR (x:=w) pl.typeIs slot_tuple_getitem.lookup
  (getItem_tuple (j:=j) (Q:=fun r s'=>r=w/\EP X pins σ Q r s') pl (by omega) (by omega) (by rw[List.size_toArray,← hl];exact h1) (by simpa using ew) ⟨rfl,fin⟩) hs
theorem Zcn(its:List Value)(n j:Nat)(u:Value):Obj.mapSeq (·.setIfInBounds j u) { cls:=.type "list",data:=.seq its.toArray n }={ cls:=.type "list",data:=.seq (its.set j u).toArray n }:=by
 simp[Obj.mapSeq]
theorem Inv.lst{pins:List (Addr×Obj)}{σ:St}{H:Hp}{s:Shared}{p:Addr}{xs:List V}(I:Inv X pins σ H s)(h:H p=some (.lst xs)):
  ∃ (its:List Value) (n:Nat),Vals xs its/\s.heap.get? p=some { cls:=.type "list",data:=.seq its.toArray n }/\xs.length<=sizeLine:=by
 obtain⟨z,its,n,r,e⟩:=I.hok p _ h;exact⟨its,n,r,e,z⟩
theorem Inv.lstUpd{pins:List (Addr×Obj)}{σ:St}{H:Hp}{s:Shared}{p:Addr}{xs ys:List V}{its its':List Value}{n n':Nat}{f:Obj->Obj}(I:Inv X pins σ H s)(h:H p=some (.lst xs))
  (ho:s.heap.get? p=some { cls:=.type "list",data:=.seq its.toArray n }) (hf:f { cls:=.type "list",data:=.seq its.toArray n }={ cls:=.type "list",data:=.seq its'.toArray n' }) (r:Vals ys its') (hz:ys.length<=sizeLine) (t:Nat):
  Inv X pins σ (upd H p (.lst ys)) { s with heap:=s.heap.update p f,toks:=t }:=by
 have e:(s.heap.update p f).get? p=some { cls:=.type "list",data:=.seq its'.toArray n' }:=by
  rw[Heap.get?_update_self f ho (by rw[hf]<;>rfl),hf]
 refine I.write (x:=p) (e:=p) (by rw[h];trivial) (.inl rfl) (fun b u hb q=>(Heap.get?_update_other _ _ (Ne.symm hb)).trans q) ⟨_,e⟩ ?_
 exact⟨hz,its',n',r,e⟩
noncomputable def rSetL:V->V->V->Hp->(Hp->Prop)->Prop:=fun o i v H Q=>∃ p xs k j,o=.ref p/\i=.int k/\H p=some (.lst xs)/\ixN xs.length k=some j/\Q (upd H p (.lst (xs.set j v)))
theorem Zbd:PSet X rSetL:=by
 intro pins s σ H o i v ov iv u Q I ro ri rv h;obtain⟨p,xs,k,j,rfl,rfl,hp,hj,q⟩:=h;cases ro;obtain⟨t,rfl⟩:=ri;obtain⟨its,n,r,ho,hz⟩:=I.lst hp;obtain⟨h1,h2,h3,h4⟩:=Zec hj;have hl:=r.length;have hn:=line63;have I':Inv X pins σ (upd H p (.lst (xs.set j v))) { s with heap:=s.heap.update p (Obj.mapSeq (·.setIfInBounds j u)) }:=
  I.lstUpd hp ho (Zcn its n j u) (r.set rv j) (by rw[List.length_set];exact hz) s.toks
 by_cases h0:0<=k
 ·have hk:k.toNat=j:=by
   rw[seqIndex_of h0 h4] at h1;exact Option.some.inj h1
  exact PySem.W.ki_setAt ho h0 (by omega) (by rw[List.size_toArray,← hl];exact h4) (by rw[hk];exact⟨_,I',q⟩)
 ·have hk:(k+(its.toArray.size:Int)).toNat=j:=by
   rw[seqIndex_neg (by omega) h3] at h1
   rw[List.size_toArray,← hl];exact Option.some.inj h1
  exact PySem.W.ki_setBack ho (by omega) (by rw[List.size_toArray,← hl];exact h3) (by omega) (by rw[hk];exact⟨_,I',q⟩)
theorem U3(lo hi:Option Int)(n:Nat):(sliceBounds lo hi none n).1=((HT.sIx n 0 lo:Nat):Int)/\(sliceBounds lo hi none n).2.1=((HT.sIx n n hi:Nat):Int)/\(sliceBounds lo hi none n).2.2=1:=by
 refine⟨?_,?_,rfl⟩
 ·cases lo with
  | none=>simp[sliceBounds,HT.sIx]
  | some i=>
   simp only[sliceBounds,HT.sIx,Option.getD_none,show (1:Int) > 0 by decide,if_true]
   by_cases h:i<0
   ·simp only[h,if_true]<;>omega
   ·simp only[h,if_false]<;>omega
 ·cases hi with
  | none=>simp[sliceBounds,HT.sIx]
  | some i=>
   simp only[sliceBounds,HT.sIx,Option.getD_none,show (1:Int) > 0 by decide,if_true]
   by_cases h:i<0
   ·simp only[h,if_true]<;>omega
   ·simp only[h,if_false]<;>omega
theorem Ui(its:List Value)(lo hi:Option Int):slicePick its.toArray lo hi none=((its.drop (HT.sIx its.length 0 lo)).take (HT.sIx its.length its.length hi - HT.sIx its.length 0 lo)).toArray:=by
 obtain⟨h1,h2,h3⟩:=U3 lo hi its.toArray.size;unfold slicePick;rw[h1,h2,h3];simp only[sliceRange_one,pick_run,List.size_toArray]<;>rfl
noncomputable def rSlL(K:PySem.W.Frag):V->Option Int->Option Int->Hp->VK->Prop:=fun x lo hi H Q=>∃ a xs,x=.ref a/\SqL K H a xs/\∀ p,H p=none->Q (.ref p) (upd H p (.lst (cutV xs lo hi)))
theorem Zhx:SlR X (rSlL X.K):=by
 intro pins s σ H x v vl vu lo hi sl Q I rx hs pl pu h;obtain⟨a,xs,rfl,hx,q⟩:=h;cases rx;obtain⟨its,r,ht,hz⟩:=I.list hx;have hlen:=r.length;refine⟨"list",_,slot_list_getitem.lookup,ht.isList.typeIs,?_⟩;refine wpAny_getItem_list_slice ht.isList hs pl pu .none (by simp) ?_ (by rw[List.size_toArray]<;>omega)
 rw[Ui,← hlen];refine⟨.ref s.heap.objs.size,_,I.laid (t':=s.toks) (o:=.lst (cutV xs lo hi)) (fun b ob q=>Heap.get?_push_of_some _ q) (Nat.le_refl _) ?_,rfl,q _ (I.hok.fresh (Nat.le_refl _))⟩;exact⟨Nat.le_trans (Za0 xs lo hi) hz,_,0,(r.drop (HT.sIx xs.length 0 lo)).take (HT.sIx xs.length xs.length hi - HT.sIx xs.length 0 lo),Heap.get?_push_size _ rfl⟩
noncomputable def flatV:V->Bool
 | .non=>true
 | .bl _=>true
 | .int _=>true
 | .str _=>true
 | _=>false
noncomputable def eqV:V->V->Bool
 | .non,.non=>true
 | .bl a,.bl b=>a == b
 | .bl a,.int b=>(if a then 1 else 0) == b
 | .int a,.bl b=>a == (if b then 1 else 0)
 | .int a,.int b=>a == b
 | .str a,.str b=>a == b
 | _,_=>false
theorem Zhp{A:Around}{s:Shared}{y x:V}{u v:Value}(ry:RelV y u)(rx:RelV x v)(fy:flatV y=true)(fx:flatV x=true):SeqAt.EqAt A s u v (eqV y x):=by
 cases y with
 | non=>
  cases ry;cases x with
  | non=>cases rx;exact SeqAt.EqAt.same _
  | bl b=>cases rx;exact SeqAt.EqAt.none_bool b
  | int b=>obtain⟨t,rfl⟩:=rx;exact SeqAt.EqAt.none_int b t
  | str b=>obtain⟨t,rfl⟩:=rx;exact SeqAt.EqAt.none_str b t
  | _=>exact absurd (show false=true from fx) Bool.false_ne_true
 | bl a=>
  cases ry;cases x with
  | non=>cases rx;exact SeqAt.EqAt.bool_none a
  | bl b=>cases rx;exact SeqAt.EqAt.bool_bool a b
  | int b=>obtain⟨t,rfl⟩:=rx;exact SeqAt.EqAt.bool_int a b t
  | str b=>obtain⟨t,rfl⟩:=rx;exact SeqAt.EqAt.bool_str a b t
  | _=>exact absurd (show false=true from fx) Bool.false_ne_true
 | int a=>
  obtain⟨t',rfl⟩:=ry;cases x with
  | non=>cases rx;exact SeqAt.EqAt.int_none a t'
  | bl b=>cases rx;exact SeqAt.EqAt.int_bool a t' b
  | int b=>obtain⟨t,rfl⟩:=rx;exact SeqAt.EqAt.int_int a t' b t
  | str b=>obtain⟨t,rfl⟩:=rx;exact SeqAt.EqAt.int_str a t' b t
  | _=>exact absurd (show false=true from fx) Bool.false_ne_true
 | str a=>
  obtain⟨t',rfl⟩:=ry;cases x with
  | non=>cases rx;exact SeqAt.EqAt.str_none a t'
  | bl b=>cases rx;exact SeqAt.EqAt.str_bool a t' b
  | int b=>obtain⟨t,rfl⟩:=rx;exact SeqAt.EqAt.str_int a t' b t
  | str b=>obtain⟨t,rfl⟩:=rx;exact SeqAt.EqAt.str_str a t' b t
  | _=>exact absurd (show false=true from fx) Bool.false_ne_true
 | _=>exact absurd (show false=true from fy) Bool.false_ne_true
noncomputable def eqU(x:V)(u:Value):Bool:=match u with
 | .none=>eqV .non x
 | .bool b=>eqV (.bl b) x
 | .int i _=>eqV (.int i) x
 | .str z _=>eqV (.str z) x
 | _=>false
theorem Zeq{x y:V}{u:Value}(r:RelV y u)(f:flatV y=true):eqU x u=eqV y x:=by
 cases y with
 | non=>cases r;rfl
 | bl b=>cases r;rfl
 | int i=>obtain⟨t,rfl⟩:=r;rfl
 | str z=>obtain⟨t,rfl⟩:=r;rfl
 | _=>exact absurd (show false=true from f) Bool.false_ne_true
theorem Za5{x:V}:∀ {xs:List V} {us:List Value},Vals xs us->xs.all flatV=true->us.any (eqU x)=xs.any fun y=>eqV y x
 | _,_,.nil,_=>rfl
 | y::xs,u::us,.cons r t,f=>by
  rw[List.all_cons,Bool.and_eq_true] at f;rw[List.any_cons,List.any_cons,Zeq r f.1,Za5 t f.2]
theorem Xu{A:Around}{s:Shared}{x:V}{v:Value}(rx:RelV x v)(fx:flatV x=true):∀ {xs:List V} {us:List Value},Vals xs us->xs.all flatV=true->∀ u∈us,SeqAt.EqAt A s u v (eqU x u)
 | _,_,.nil,_=>fun u hu=>by cases hu
 | y::xs,u::us,.cons r t,f=>fun u' hu=>by
  rw[List.all_cons,Bool.and_eq_true] at f;rcases List.mem_cons.mp hu with rfl | hu
  ·rw[Zeq r f.1];exact Zhp r rx f.1 fx
  ·exact Xu rx fx t f.2 u' hu
noncomputable def inV(x:V)(xs:List V):Bool:=xs.any fun y=>eqV y x
noncomputable def rIn(K:PySem.W.Frag)(neg:Bool):R2:=fun x y H Q=>∃ p xs,y=.ref p/\(SqL K H p xs∨SqT K H p xs)/\flatV x=true/\xs.all flatV=true/\Q (.bl (if neg then !inV x xs else inV x xs)) H
theorem Jb:OpR X (compareOp .NotIn) (rIn X.K true):=by
 intro pins s σ H x y v u Q I rx ry h;obtain⟨p,xs,rfl,hq,fx,fs,q⟩:=h;cases ry;rcases hq with hq | hq
 ·obtain⟨its,r,pl,hz⟩:=I.list hq;refine SeqAt.notIn_listAt (eqU x) pl.isList (fun w hw=>Xu rx fx r fs w (by simpa using hw)) ⟨.bl _,H,I,rfl,?_⟩
  rw[show its.toArray.any (eqU x)=its.any (eqU x) by simp,Za5 r fs]
  exact q
 ·obtain⟨its,r,pl,hz⟩:=I.tuple hq;refine SeqAt.notIn_tupleAt (eqU x) pl (fun w hw=>Xu rx fx r fs w (by simpa using hw)) ⟨.bl _,H,I,rfl,?_⟩
  rw[show its.toArray.any (eqU x)=its.any (eqU x) by simp,Za5 r fs]
  exact q
theorem J0:CallR X (.builtin "len") (fun xs H Q=>∃ p ys,xs=[.ref p]/\(SqL X.K H p ys∨SqT X.K H p ys)/\Q (.int ys.length) H):=by
 intro pins s σ H xs us Q I r h;obtain⟨p,ys,rfl,hq,q⟩:=h;obtain⟨u,rfl,rx⟩:=vals1 r;cases rx;have hn:=line63;rcases hq with hq | hq
 ·obtain⟨its,r',pl,hz⟩:=I.list hq;have hlen:=r'.length;exact Calls.call_len_list pl.isList (by simp only[List.size_toArray]<;>omega) ⟨.int ys.length,H,I.tok _,⟨s.toks+1,by rw[List.size_toArray,hlen]⟩,q⟩
 ·obtain⟨its,r',pl,hz⟩:=I.tuple hq;have hlen:=r'.length;exact len_tuple pl (by simp only[List.size_toArray]<;>omega) ⟨.int ys.length,H,I.tok _,⟨s.toks+1,by rw[List.size_toArray,hlen]⟩,q⟩
theorem Jz:CallR X (.type "list") (fun xs H Q=>∃ p ys,xs=[.ref p]/\(SqL X.K H p ys∨SqT X.K H p ys)/\∀ l,H l=none->Q (.ref l) (upd H l (.lst ys))):=by
 intro pins s σ H xs us Q I r h;obtain⟨p,ys,rfl,hq,q⟩:=h;obtain⟨u,rfl,rx⟩:=vals1 r;cases rx;have fin:∀ (its:List Value),Vals ys its->ys.length<=sizeLine->∀ (h':Heap) (c':Nat),(∀ b o',s.heap.get? b=some o'->h'.get? b=some o') ->
   h'.get? s.heap.objs.size=some { cls:=.type "list",dict:=none,data:=.seq its.toArray c',slots:=#[] }->EP X pins σ Q (.ref s.heap.objs.size) { s with heap:=h' }:=fun its r' hz h' c' kp e=>
  ⟨.ref s.heap.objs.size,_,I.laid (t':=s.toks) kp (Nat.le_refl _) (show ObjOk X.prog X.w _ h' _ (.lst ys) from⟨hz,its,c',r',e⟩),rfl,q _ (I.hok.fresh (Nat.le_refl _))⟩
 rcases hq with hq | hq
 ·obtain⟨its,r',pl,hz⟩:=I.list hq;have hlen:=r'.length;obtain⟨o,ho,hc,n,hd⟩:=pl.isList;exact call_list_seq p (.inl rfl) ho hc hd (fun h' c' kp e=>fin its r' hz h' c' kp e) (by simp only[List.size_toArray]<;>omega)
 ·obtain⟨its,r',pl,hz⟩:=I.tuple hq;have hlen:=r'.length;obtain⟨o,ho,hc,n,hd⟩:=pl;exact call_list_seq p (.inr rfl) ho hc hd (fun h' c' kp e=>fin its r' hz h' c' kp e) (by simp only[List.size_toArray]<;>omega)
noncomputable def tyV(K:PySem.W.Frag)(T:String)(x:V)(H:Hp):Prop:=match x with
 | .str _=>T="str"
 | .int _=>T="int"
 | .ref p=>(T="list"/\∃ xs,SqL K H p xs)∨(T="tuple"/\∃ o,K.lookup p=some o/\o.cls=.type "tuple"/\o.dict=none) ∨
   (T="dict"/\((∃ kvs,H p=some (.dK kvs))∨∃ kvs,H p=some (.dT kvs)))∨(T="set"/\∃ S n,H p=some (.set S n))
 | _=>False
theorem Zgu{pins:List (Addr×Obj)}{σ:St}{H:Hp}{s:Shared}{T:String}{x:V}{v:Value}(I:Inv X pins σ H s)(r:RelV x v)(ty:tyV X.K T x H):
  s.TypeIs v T/\∀ a,v=.ref a->∃ ob,s.heap.get? a=some ob/\ob.dict=none:=by
 cases x with
 | str z=>
  obtain⟨t,rfl⟩:=r;cases (show T="str" from ty);exact⟨typeIs_str s z t,fun _ e=>nomatch e⟩
 | int i=>
  obtain⟨t,rfl⟩:=r;cases (show T="int" from ty);exact⟨typeIs_int s i t,fun _ e=>nomatch e⟩
 | ref p=>
  cases r;rcases ty with ⟨rfl,xs,hq⟩ | ⟨rfl,o,hk,hc,hd⟩ | ⟨rfl,hk⟩ | ⟨rfl,S,n,hk⟩
  ·obtain⟨its,_,pl,_⟩:=I.list hq;refine⟨pl.isList.typeIs,fun a e=>?_⟩;cases e;obtain⟨o,n,e,c,hd,_⟩:=pl;exact⟨o,e,hd⟩
  ·refine⟨⟨o,I.kIn p o hk,hc⟩,fun a e=>?_⟩;cases e;exact⟨o,I.kIn _ o hk,hd⟩
  ·have z:∃ o,s.heap.get? p=some o/\o.ExactDict:=by
    rcases hk with ⟨kvs,hk⟩ | ⟨kvs,hk⟩
    ·obtain⟨_,_,_,_,o,_,_,e,ex,_⟩:=I.hok p _ hk;exact⟨o,e,ex⟩
    ·obtain⟨_,_,_,_,o,_,_,e,ex,_⟩:=I.hok p _ hk;exact⟨o,e,ex⟩
   obtain⟨o,e,ex⟩:=z;refine⟨⟨o,e,ex.1⟩,fun a e2=>?_⟩;cases e2;exact⟨o,e,ex.2.1⟩
  ·obtain⟨o,_,_,_,e,ex,_⟩:=I.hok p _ hk;refine⟨⟨o,e,ex.1⟩,fun a e2=>?_⟩;cases e2;exact⟨o,e,ex.2.1⟩
 | _=>exact False.elim ty
noncomputable def tBM0(K:PySem.W.Frag)(T:String)(r:V->List V->Hp->VK->Prop)(to:TE):TE:=fun σ H Q=>to σ H fun x H1=>tyV K T x H1/\r x [] H1 Q
noncomputable def tBM(K:PySem.W.Frag)(T:String)(r:V->List V->Hp->VK->Prop)(to:TE)(t:TA):TE:=fun σ H Q=>to σ H fun x H1=>tyV K T x H1/\t σ H1 fun xs H2=>r x xs H2 Q
variable{o e:Expr}{es:List Expr}{to:TE}{t:TA}{name:Str}{apos cpos:Pos}{T id:String}{r:V->List V->Hp->VK->Prop}
theorem Zje(pa:PlainAttrs T)(slot:Slot T name id)(hty:typeOf (.builtin id)=pure (.type "method_descriptor"))(hm:MtR X id r)(ho:PE X o to)
  (hbase:attributeBase o name X.env (eval o X.env)=eval o X.env:=by rfl) (hline:(apos.endLine == cpos.line)=true:=by rfl):PE X (.Call (.Attribute o name apos) [] [] cpos) (tBM0 X.K T r to):=by
 intro pins s σ H Q I h;refine wpAny_Call_method0_late hbase hline (thn (ho pins s σ H _ I h) fun v s1 ⟨x,H1,I1,r1,ty,q1⟩=>?_);obtain⟨h1,h2⟩:=Zgu I1 r1 ty;exact⟨T,id,pa,slot,hty,h1,h2,Calls.callWith_builtin rfl (PySem.evalArgs_none (hm pins s1 σ H1 x [] v [] Q I1 r1 .nil q1))⟩
theorem Zj7(pa:PlainAttrs T)(slot:Slot T name id)(hty:typeOf (.builtin id)=pure (.type "method_descriptor"))(hm:MtR X id r)(ho:PE X o to)(ha:PA X (e::es) t)
  (hbase:attributeBase o name X.env (eval o X.env)=eval o X.env:=by rfl)
  (hfew:((backTo cpos (starEach (e::es) X.env)).all (fun x=>!x.1)&&(backToKw cpos (keywordEach [] X.env)).all (fun x=>x.1.isSome)
   && decide ((e::es).length+([]:List Keyword).length+(if ([]:List Keyword).isEmpty then 0 else 1)<30))=true:=by rfl)
  (hline:(apos.endLine == cpos.line)=true:=by rfl) (hs:starEach (e::es) X.env=(false,eval e X.env)::starEach es X.env:=by rfl) (hplain:(backTo cpos (starEach es X.env)).any (·.1)=false:=by rfl):
  PE X (.Call (.Attribute o name apos) (e::es) [] cpos) (tBM X.K T r to t):=by
 intro pins s σ H Q I h;refine wpAny_Call_method_late hbase hfew hline rfl (thn (ho pins s σ H _ I h) fun v s1 ⟨x,H1,I1,r1,ty,q1⟩=>?_);obtain⟨h1,h2⟩:=Zgu I1 r1 ty;refine⟨T,id,pa,slot,hty,h1,h2,?_⟩;have hA:=ha cpos pins s1 σ H1 _ I1 q1;rw[hs] at hA ⊢;refine Calls.callWith_builtin (by show (false||(backTo cpos (starEach es X.env)).any (·.1))=false;rw[hplain]<;>rfl) (Calls.evalArgs_plain ?_)
 exact thn hA fun us s2 ⟨vs,H2,I2,r2,q2⟩=>hm pins s2 σ H2 x vs v us Q I2 r1 r2 q2
end
end L2
namespace L2
open PySem PySem.Spec PyProof.Rows
noncomputable def MtM(X:Cx)(id:String)(r:V->List V->Hp->VK->Prop):Prop:=
 ∀ (pins:List (Addr×Obj)) (s:Shared) (σ:St) (H:Hp) (x:V) (xs:List V) (v:Value) (us:List Value) (Q:VK),Inv X pins σ H s->RelV x v->Vals xs us->r x xs H Q ->
  wpAny (model X.prog X.w) X.A (call (.builtin id) (v::us)) (EP X pins σ Q) X.xe s
theorem Vals.one:∀ {x:V} {us:List Value},Vals [x] us->∃ u,us=[u]/\RelV x u
 :=by intro _ _ h;cases h with | cons r n=>cases n;exact⟨_,rfl,r⟩
theorem Vals.two:∀ {x y:V} {us:List Value},Vals [x,y] us->∃ u v,us=[u,v]/\RelV x u/\RelV y v
 :=by intro _ _ _ h;cases h with | cons r q=>cases q with | cons q n=>cases n;exact⟨_,_,rfl,r,q⟩
theorem Vals.zero:∀ {us:List Value},Vals [] us->us=[]
 | _,.nil=>rfl
theorem Vals.rep{xs:List V}{us:List Value}(h:Vals xs us):∀ k:Nat,Vals (List.replicate k xs).flatten (List.replicate k us).flatten
 | 0=>.nil
 | k+1=>by
  rw[List.replicate_succ,List.replicate_succ,List.flatten_cons,List.flatten_cons];exact Vals.append h (Vals.rep h k)
theorem Jo(its:List Value):∀ (k:Nat) (acc:List Value),
  List.foldl (fun x1 x2=>x1++x2) acc.toArray (List.replicate k its.toArray)=(acc++(List.replicate k its).flatten).toArray
 | 0,acc=>by simp
 | k+1,acc=>by
  have e:acc.toArray++its.toArray=(acc++its).toArray:=by simp
  have e2:(acc++its)++(List.replicate k its).flatten=acc++(List.replicate (k+1) its).flatten:=by
   rw[List.replicate_succ,List.flatten_cons,List.append_assoc]
  rw[← e2,← Jo its k (acc++its),← e,List.replicate_succ,List.foldl_cons]
section
variable{X:Cx}{pins:List (Addr×Obj)}{σ:St}{H:Hp}{s:Shared}{l b:Addr}{xs ys zs:List V}
theorem Inv.lset{its its':List Value}{n:Nat}{f:Array Value->Array Value}{t':Nat}(I:Inv X pins σ H s)(hH:H l=some (.lst xs))
  (e:s.heap.get? l=some { cls:=.type "list",data:=.seq its.toArray n }) (hf:f its.toArray=its'.toArray) (hv:Vals ys its') (hz:ys.length<=sizeLine):
  Inv X pins σ (upd H l (.lst ys)) { s with heap:=s.heap.update l (Obj.mapSeq f),toks:=t' }:=by
 have q:=PySem.IsL.update e f;rw[hf] at q;refine I.write (x:=l) (e:=l) (by rw[hH];exact trivial) (.inl rfl) (fun b' u hb hu=>(Heap.get?_update_other s.heap (Obj.mapSeq f) (Ne.symm hb)).trans hu) ⟨_,q⟩ ?_
 exact⟨hz,its',_,hv,q⟩
theorem Inv.lnew{its:List Value}{t':Nat}(I:Inv X pins σ H s)(hv:Vals ys its)(hz:ys.length<=sizeLine):
  Inv X pins σ (upd H s.heap.objs.size (.lst ys)) { s with heap:=s.heap.push { cls:=.type "list",data:=.seq its.toArray },toks:=t' }:=
 I.laid (fun _ _ q=>Heap.get?_push_of_some _ q) (Nat.le_refl _) ⟨hz,its,0,hv,Heap.get?_push_size _ rfl⟩
theorem Inv.fresh(I:Inv X pins σ H s):H s.heap.objs.size=none:=I.hok.fresh (Nat.le_refl _)
theorem Inv.lstM(I:Inv X pins σ H s)(hH:H l=some (.lst xs)):xs.length<=sizeLine/\∃ (its:List Value) (n:Nat),Vals xs its/\xs.length=its.length/\s.heap.get? l=some { cls:=.type "list",data:=.seq its.toArray n }:=by
 obtain⟨z,its,n,r,e⟩:=I.hok l _ hH;exact⟨z,its,n,r,r.length,e⟩
theorem notLongL{n:Nat}(h:n<=sizeLine):Builtin.List.listTooLong n=false:=by
 unfold Builtin.List.listTooLong;exact decide_eq_false (by omega)
end
section
variable{X:Cx}
noncomputable def rAppend:V->List V->Hp->VK->Prop:=fun x vs H Q=>∃ l xs y,x=.ref l/\vs=[y]/\H l=some (.lst xs)/\xs.length<sizeLine/\Q .non (upd H l (.lst (xs++[y])))
theorem Yw:MtM X "list.append" rAppend:=by
 intro pins s σ H x vs v us Q I rx rv h;obtain⟨l,xs,y,rfl,rfl,hH,hz,q⟩:=h;cases rx;obtain⟨u,rfl,ru⟩:=rv.one;obtain⟨z,its,n,r,hl,e⟩:=I.lstM hH;refine call_meets F.slot_list_append ⟨_,e,rfl⟩ F.entry_list_append (F.args_list_append_2 _ _) (PySem.list_append l its.toArray n u (by rw[List.size_toArray];omega)) ⟨e,?_⟩
 refine⟨.non,_,I.lset (its':=its++[u]) hH e (by simp) (r.append (.cons ru .nil)) ?_,rfl,q⟩
 rw[List.length_append,List.length_singleton];omega
noncomputable def rClear:V->List V->Hp->VK->Prop:=fun x vs H Q=>∃ l xs,x=.ref l/\vs=[]/\H l=some (.lst xs)/\Q .non (upd H l (.lst []))
theorem Zby:MtM X "list.clear" rClear:=by
 intro pins s σ H x vs v us Q I rx rv h;obtain⟨l,xs,rfl,rfl,hH,q⟩:=h;cases rx;have hus:=rv.zero;subst hus;obtain⟨z,its,n,r,hl,e⟩:=I.lstM hH;refine call_meets F.slot_list_clear ⟨_,e,rfl⟩ F.entry_list_clear (F.args_list_clear_1 _) (AutoSeq1.list_clear_list_0 l its.toArray n (by rw[List.size_toArray];omega)) ⟨e,?_⟩
 exact⟨.non,_,I.lset (its':=[]) (ys:=[]) hH e rfl .nil (Nat.zero_le _),rfl,q⟩
noncomputable def rCat:R2:=fun x y H Q=>∃ l b xs zs,x=.ref l/\y=.ref b/\H l=some (.lst xs)/\H b=some (.lst zs)/\xs.length+zs.length<=sizeLine/\∀ p,H p=none->Q (.ref p) (upd H p (.lst (xs++zs)))
theorem Zdp:OpR X (binaryOp .Add) rCat:=by
 intro pins s σ H x y v u Q I rx ry h;obtain⟨l,b,xs,zs,rfl,rfl,hH,hB,hz,q⟩:=h;cases rx;cases ry;obtain⟨z,its,n,r,hl,e⟩:=I.lstM hH;obtain⟨z2,its2,n2,r2,hl2,e2⟩:=I.lstM hB;refine PySem.P.add_list e e2 ?_ (by rw[List.size_toArray,List.size_toArray];omega)
 have ea:its.toArray++its2.toArray=(its++its2).toArray:=by simp
 rw[ea];exact⟨.ref _,_,I.lnew (t':=s.toks) (r.append r2) (by rw[List.length_append];omega),rfl,q _ I.fresh⟩
noncomputable def rRep:R2:=fun x y H Q=>∃ l k xs,x=.ref l/\y=.int k/\H l=some (.lst xs)/\-(2 ^ 63)<=k/\k<2 ^ 63/\xs.length * k.toNat<=sizeLine /\
 ∀ p,H p=none->Q (.ref p) (upd H p (.lst (List.replicate k.toNat xs).flatten))
theorem Zil{α:Type}(xs:List α)(k:Nat):(List.replicate k xs).flatten.length=k * xs.length:=by
 induction k with
 | zero=>simp
 | succ k ih=>rw[List.replicate_succ,List.flatten_cons,List.length_append,ih,Nat.succ_mul,Nat.add_comm]
theorem Zg5:OpR X (binaryOp .Mult) rRep:=by
 intro pins s σ H x y v u Q I rx ry h;obtain⟨l,k,xs,rfl,rfl,hH,h1,h2,hz,q⟩:=h;cases rx;obtain⟨t,rfl⟩:=ry;obtain⟨z,its,n,r,hl,e⟩:=I.lstM hH;have hlen:its.toArray.size * k.toNat<=sizeLine:=by rw[List.size_toArray,← hl];exact hz
 have hcap:¬ its.toArray.size * k.toNat > (2 ^ 63 - 1) / 8:=by
  have:(sizeLine:Nat)<=(2 ^ 63 - 1) / 8:=by decide
  omega
 have hfit:¬ (!Builtin.List.listFitsIndex k)=true:=by
  rw[fitsIndex_both h1 h2];exact Bool.false_ne_true
 have hlong:¬ Builtin.List.listTooLong (its.toArray.size * k.toNat)=true:=by
  rw[notLongL hlen];exact Bool.false_ne_true
 have hnew:List.foldl (fun x1 x2=>x1++x2) #[] (List.replicate (if its.toArray.isEmpty=true then 0 else k.toNat) its.toArray)=(List.replicate k.toNat its).flatten.toArray:=by
  have f0:∀ m:Nat,List.foldl (fun x1 x2=>x1++x2) #[] (List.replicate m its.toArray)=(List.replicate m its).flatten.toArray:=fun m=>by
   have:=Jo its m [];rw[List.nil_append] at this;exact this
  rw[f0];cases its with
  | nil=>simp
  | cons a r'=>rw[if_neg (by simp)]
 refine wpAny_binaryOp_repeat_ref (T:="list") (U:="int") (by decide) ⟨_,e,rfl⟩ (fun s'=>typeIs_int s' k t) noFill_list_mul F.fills_int_mul F.slot_int_rmul repeat_list F.slot_int_index.lookup
  (call_meets F.slot_int_rmul (typeIs_int s k t) F.entry_int_rmul (F.args_int_rmul_2 _ _) (int___rmul___int_list k t l its.toArray n)
   ⟨e,rfl,⟨_,e,rfl⟩,call_meets F.slot_list_mul ⟨_,e,rfl⟩ F.entry_list_mul (F.args_list_mul_2 _ _) (AutoListH.list___mul___list_int_3 l its.toArray n k t hfit hcap hlong) ⟨e,?_⟩⟩)
 rw[hnew];exact⟨.ref _,_,I.lnew (t':=s.toks) (r.rep k.toNat) (by rw[Zil,Nat.mul_comm];exact hz),rfl,q _ I.fresh⟩
end
section
variable{prog:Program}{w:World}{A:Around}{E:Value->Shared->Prop}{s:Shared}
set_option maxRecDepth 100000 in
end
section
variable{X:Cx}
end
end L2
namespace Att
open PySem PySem.W PySem.Calls PyProof.Rows
theorem Vf{P:Params}{h:Heap}:∀ (ns:List Int) (vs:List Value),WellAll P h vs (ns.map WData.int)->IntsAre vs ns:=by
 intro ns
 induction ns with
 | nil=>
  intro vs w;rw[List.map_nil] at w;cases w;exact .nil
 | cons n ns ih=>
  intro vs w;rw[List.map_cons] at w;cases w with
  | cons a b=>
   cases a;exact .cons _ _ (ih _ b)
theorem Zda{l:OpenLaw}{n:Nat}(hn:l.most=some n){P:Params}{h:Heap}{args:List WData}{vals:List Value}
  (hpre:l.row.toRowW.claim.pre args=true) (hwl:WellAll P h vals args):
  ∃ a vs ns,vals=[Value.ref a]/\args=[WData.list (ns.map WData.int)]/\h.get? a=some { cls:=.type "list",data:=.seq vs.toArray }/\IntsAre vs ns/\ns.length<=n:=by
 have hsh:WShape.hasAll [] args [.list .int]=true:=(pre_splitW hpre).1;have hc:l.pre.holds [] { args:=args }=true:=(pre_splitW hpre).2;obtain⟨d,r,rfl,h1,h2⟩:=hasAllW_cons hsh;obtain rfl:=hasAllW_nil h2;obtain⟨xs,rfl,h3⟩:=hasW_list h1;obtain⟨ns,rfl⟩:=items_int h3;have hlen:ns.length<=n:=by
  unfold OpenLaw.pre at hc;have h4:(WTm.not (.lt (.lit (.int (n:Int))) (.len (.arg 0)))).holds [] { args:=[.list (ns.map .int)] }=true:=by
   have h4:=(holds_andW hc).1;rw[hn] at h4;exact h4
  have h5:=condW_of h4 (w_not (w_lt w_lit (w_len_list (w_arg rfl))));rw[List.length_map] at h5;refine Nat.le_of_not_lt fun q=>?_;have q':(n:Int)<((ns.length:Nat):Int):=by omega
  first
   | (rw[decide_eq_true q'] at h5;exact absurd h5 (by decide))
   | (simp at h5;omega)
 cases hwl with
 | cons w1 w2=>
  cases w2;cases w1 with
  | list ho hall=>exact⟨_,_,ns,rfl,rfl,ho,Vf ns _ hall,hlen⟩
theorem Zdi(l:OpenLaw)(args:List WData):l.row.toRowW.claim.post args (.bool true) args=true:=
 postW_of (r:=l.row.toRowW) (X:=(true == true))
  (show WShape.has [] (.bool true) .bool=true by first | rfl | decide | simp[WShape.has,WShape.arms,WShape.armsAll])
  (show (WTm.eq .res (.lit (.bool true))).value [] { args:=args,res:=some (.bool true),after:=args }=some (.bool (true == true)) from w_eq_bool (w_res rfl) w_lit) rfl
theorem attach_call{l:OpenLaw}{n:Nat}{q:Program}{loose:List Str}{XP:(Str->Option Value)->Heap->Prop}{YP:World->Heap->Prop}{d:DefRec}
  (hn:l.most=some n) (hdf:d.params.defaults=[])
  (call:∀ (w:World) (s₀ s₁:Shared) (mg mb:Str->Option Value) (fa:Addr) (o:Obj) (pm cd doc:Value) (a:Addr) (vs:List Value) (ns:List Int),
   Ground q loose [] XP w s₀ mg mb s₁.heap->YP w s₁.heap ->
   s₁.heap.get? fa=some o->o.data=.func (docDef d.name d.params d.body d.scope pm cd doc)->s₁.heap.CodeRec cd d.name->mg d.name=some (.ref fa) ->
   s₁.heap.get? a=some { cls:=.type "list",data:=.seq vs.toArray }->IntsAre vs ns->ns.length<=n->s₁.gens=#[] ->
   codeAny (model l.prog w) callerA (.call (.ref fa) ⟨[.ref a],[]⟩) (fun r s'=>r=.ok (.ret (.bool true))/\OldK s₁.heap s'.heap/\s'.os=s₁.os/\AllBare s'.gens) s₁):
  WalkO q loose XP YP l.row.toRowW d [] (fun f vs=>PySem.call f vs):=by
 intro w s₀ s₁ mg mb G Y fa o pm cd doc dV kV ho hd hcd hD hmg hg args vals as hpre hlay hrd hwl hlo;obtain rfl:dV=.none:=Dflts.none hD hdf;obtain rfl:kV=.none:=Dflts.noKw hD;obtain⟨a,vs,ns,rfl,rfl,hobj,hints,hlen⟩:=Zda hn hpre hwl;refine enter_call (codeAny_mono (call w s₀ s₁ mg mb fa o pm cd doc a vs ns G Y ho (fd_plain hd) hcd hmg hobj hints hlen hg) fun r s' hq=>?_);obtain⟨rfl,h2,h3,h4⟩:=hq;exact⟨.inl ⟨.bool true,.bool true,[],rfl,fun _=>rfl,.bool true,Zdi l _,fun _=>⟨List.Pairwise.nil,fun _ hm=>(nomatch hm)⟩⟩,h2,h3,h4⟩
section
variable{prog:Program}{w:World}{A:Around}{E:Value->Shared->Prop}{s:Shared}{K:Frag}
end
end Att
namespace L2
open PySem PySem.Spec PyProof.Rows
theorem vals_ints:∀ {vs:List Value} {ns:List Int},IntsAre vs ns->Vals (ns.map V.int) vs
 | _,_,.nil=>.nil
 | _,_,.cons n t h=>.cons ⟨t,rfl⟩ (vals_ints h)
noncomputable def Only(H:Hp):Prop:=∀ b,H b=none∨∃ o xs,H b=some (.frz o (.lst xs))
theorem Zgc{P:Program}{w:World}{K:PySem.W.Frag}{mg mb:Str->Option Value}{CX:CXT}{k:Nat}{fa a:Addr}{fd:FuncData}{x:Str}{sp:Sp}{s₁:Shared}{vs:List Value}{ns:List Int}
  (KX:K.In s₁.heap) (hns:s₁.heap.Ns mainGlobals mg) (hb:s₁.heap.Ns builtinsNs mb) (hbb:∀ x:Str,x≠"__name__"->mb x=bootBuiltins x) (hlim:s₁.heap.NoLimit) (hg:s₁.gens=#[])
  (ha:s₁.heap.get? a=some { cls:=.type "list",data:=.seq vs.toArray }) (hi:IntsAre vs ns) (hl:ns.length<=sizeLine) (hr:Room k callerA)
  (F:∀ base:Heap,K.In base->base.Ns mainGlobals mg->FnOk P w K mg base CX k fa fd [x] sp) (hbind:∀ (s:Shared) (u:Value),BindsTo s fd ⟨[u],[]⟩ [(x,u)])
  (hsp:∀ H:Hp,Only H->SqL K H a (ns.map V.int)->sp [.ref a] H (fun v _=>v=.bl true) fun _ _ _=>False)
  (hCX:∀ H e s',CX [] H s₁ (fun _ _ _=>False) e s'->False):
  codeAny (model P w) callerA (.call (.ref fa) ⟨[.ref a],[]⟩) (fun r s'=>r=.ok (.ret (.bool true))/\OldK s₁.heap s'.heap/\s'.os=s₁.os/\AllBare s'.gens) s₁:=by
 have rv:=vals_ints hi;have lenV:=hi.length;have core:∀ H:Hp,Only H->SqL K H a (ns.map V.int)->HOk P w H s₁.heap->(∀ b,H b≠none->b=a)->(H a≠none->K.lookup a=none) ->
   codeAny (model P w) callerA (.call (.ref fa) ⟨[.ref a],[]⟩) (fun r s'=>r=.ok (.ret (.bool true))/\OldK s₁.heap s'.heap/\s'.os=s₁.os/\AllBare s'.gens) s₁:=by
  intro H hO hS hok hA hK;have base_of:∀ {b:Addr} {o:Obj},s₁.heap.get? b=some o->H b=none->(hidT s₁.heap H).get? b=some o:=fun e n=>Zgj e n;have noA:∀ {b:Addr} {o:Obj} {es:Array DictEntry} {ep:Nat},s₁.heap.get? b=some o->o.data=.dict es ep->H b=none:=fun {b o es ep} e d=>by
   cases q:H b with
   | none=>rfl
   | some u=>
    have e':b=a:=hA b (by rw[q];simp)
    subst e';rw[ha] at e;cases e;have d':Data.seq vs.toArray _=Data.dict es ep:=d;cases d'
  have nsK:∀ {b:Addr} {m:Str->Option Value},s₁.heap.Ns b m->(hidT s₁.heap H).Ns b m:=fun {b m} ⟨o,es,ep,e,d,r⟩=>⟨o,es,ep,base_of e (noA e d),d,r⟩;have hKb:K.In (hidT s₁.heap H):=fun b o e=>base_of (KX b o e) (by
   cases q:H b with
   | none=>rfl
   | some u=>
    have e':b=a:=hA b (by rw[q];simp)
    subst e';rw[hK (by rw[q];simp)] at e;cases e)
  have hM:Mod K mg (hidT s₁.heap H):=⟨hKb,nsK hns,⟨mb,nsK hb,hbb⟩,let ⟨mc,h1,h2⟩:=hlim;⟨mc,nsK h1,h2⟩⟩
  have e0:Env0 P w K mg (hidT s₁.heap H) callerA [] s₁ H:=⟨rfl,hM,fun b o e=>Zie e,Nat.le_of_eq (Zeg _ _),trivial,fun b hb=>absurd (show b∈([]:List Addr) from hb) (by simp),hok,.of_eq hg⟩
  refine codeAny_mono ((F _ hKb (nsK hns)).run callerA [] s₁ H ⟨[.ref a],[]⟩ [.ref a] [.ref a] _ _ hr e0 (hbind s₁ (.ref a)) (.cons rfl .nil) (hsp H hO hS)) fun r s' h=>?_;cases r with
  | error e=>exact (hCX H e s' h).elim
  | ok fl=>
   cases fl with
   | next=>exact False.elim h
   | brk=>exact False.elim h
   | cont=>exact False.elim h
   | ret u=>
    obtain⟨v,H',os,bare,un,hok',r',q⟩:=h;have q':v=.bl true:=q;subst q';obtain rfl:u=Value.bool true:=r';refine⟨rfl,OldK.of_keep fun b o e=>?_,os,bare⟩;cases q:H b with
    | none=>exact un.keep b o e q (by intro z;exact absurd (show b∈([]:List Addr) from z) (by simp)) (by simp)
    | some u=>
     rcases hO b with z | ⟨ob,xs,z⟩
     ·rw[q] at z;cases z
     ·have z2:=un.frzs b ob _ z;obtain⟨e1,_⟩:=hok b _ z;obtain⟨e2,_⟩:=hok' b _ z2;rw[e] at e1;cases e1;exact e2
 cases hk:K.lookup a with
 | some o=>
  have e:=KX a o hk;rw[ha] at e;cases e;refine core (fun _=>none) (fun _=>.inl rfl) (.inr ⟨_,vs.toArray,_,hk,rfl,rfl,rfl,by rw[List.size_toArray,lenV];exact hl,by simpa using rv⟩) (fun b u z=>by have z':(none:Option HO)=some u:=z;cases z') (fun b z=>absurd rfl z) fun z=>absurd rfl z
 | none=>
  refine core (fun b=>if b=a then some (.frz { cls:=.type "list",data:=.seq vs.toArray } (.lst (ns.map V.int))) else none) (fun b=>?_) (.inl (.inr ⟨{ cls:=.type "list",data:=.seq vs.toArray },if_pos rfl⟩)) (fun b u z=>?_) (fun b z=>?_) fun _=>hk
  ·by_cases hb:b=a
   ·exact .inr ⟨_,_,if_pos hb⟩
   ·exact .inl (if_neg hb)
  ·by_cases hb:b=a
   ·have z':=(if_pos hb).symm.trans z;cases z';subst hb;exact⟨ha,by rw[List.length_map];exact hl,vs,_,rv,ha⟩
   ·have z':=(if_neg hb).symm.trans z;cases z'
  ·by_cases hb:b=a
   ·exact hb
   ·exact absurd (if_neg hb) z
end L2
namespace L2
open PySem PySem.Spec PyProof.Rows
theorem walk_of{l:PySem.W.OpenLaw}{n k:Nat}{q:Program}{loose:List Str}{XP:(Str->Option Value)->Heap->Prop}{YP:World->Heap->Prop}{d:DefRec}{K:Params->PySem.W.Frag}{CX:World->CXT}{sp:World->Sp}{x:Str}
  (hn:l.most=some n) (hn2:n<=sizeLine) (hdf:d.params.defaults=[]) (hr:Room k callerA)
  (hY:∀ (w:World) (h:Heap),YP w h->(K w.params).In h)
  (F:∀ (w:World) (mg:Str->Option Value) (fa:Addr) (h:Heap),(K w.params).In h->h.Ns mainGlobals mg->mg d.name=some (.ref fa) ->
   ∃ fd:FuncData,(∀ (s:Shared) (u:Value),BindsTo s fd ⟨[u],[]⟩ [(x,u)]) /\
    ∀ base:Heap,(K w.params).In base->base.Ns mainGlobals mg->FnOk l.prog w (K w.params) mg base (CX w) k fa fd [x] (sp w))
  (hsp:∀ (w:World) (H:Hp) (a:Addr) (ns:List Int),ns.length<=n->Only H->SqL (K w.params) H a (ns.map V.int)->sp w [.ref a] H (fun v _=>v=.bl true) fun _ _ _=>False)
  (hCX:∀ (w:World) (H:Hp) (s:Shared) (e:Value) (s':Shared),CX w [] H s (fun _ _ _=>False) e s'->False):
  PySem.W.WalkO q loose XP YP l.row.toRowW d [] (fun f vs=>PySem.call f vs):=by
 refine Att.attach_call hn hdf fun w s₀ s₁ mg mb fa o pm cd doc a vs ns G Y ho hd hcd hmg hobj hints hlen hg=>?_;have KX:=hY w _ Y;obtain⟨fd,hb,hF⟩:=F w mg fa _ KX G.T.g hmg;exact Zgc KX G.T.g G.T.b G.T.builtins G.T.nolimit hg hobj hints (Nat.le_trans hlen hn2) hr hF hb (fun H hO hS=>hsp w H a ns hlen hO hS) fun H e s'=>hCX w H s₁ e s'
end L2
namespace L2
open PySem PySem.Spec PyProof.Rows
noncomputable def inClass(s:Stmt)(j:Nat):Stmt:=match s with
 | .ClassDef _ _ _ body _ _ _ _ _ _ _=>body.getD j (.Pass ⟨0,0,0,0⟩)
 | _=>.Pass ⟨0,0,0,0⟩
noncomputable def defArgs(s:Stmt):Arguments:=match s with
 | .FunctionDef _ a _ _ _ _ _ _ _ _=>a
 | _=>{ posonlyargs:=[],args:=[],vararg:=none,kwonlyargs:=[],kw_defaults:=[],kwarg:=none,defaults:=[] }
noncomputable def defBody(s:Stmt):List Stmt:=match s with
 | .FunctionDef _ _ b _ _ _ _ _ _ _=>b
 | _=>[]
noncomputable def defScope(s:Stmt):Scope:=match s with
 | .FunctionDef _ _ _ _ _ _ sc _ _ _=>sc
 | _=>{ kind:=.function,names:=[],isGenerator:=false,isCoroutine:=false }
noncomputable abbrev CX0:CXT:=fun _ _ _ _ _ _=>False
noncomputable abbrev E0:XK:=fun _ _ _=>False
theorem pass0{X:Cx}:Passes CX0 X E0:=fun _ _ _ _ _ _ _ h=>h.elim
structure Fun(K:PySem.W.Frag)(x qual:Str)(st:Stmt)(f:Addr)(fd:FuncData):Prop where
 ex:∃ (oc:Value) (od:Option Addr) (kV doc pm:Value) (an:Option Addr) (cdv ct:Value) (osl:Array (Option Value)),
  fd=PySem.W.fnOf x qual (defArgs st) (defBody st) (defScope st) .none kV doc pm an cdv ct/\K.lookup f=some ⟨oc,od,.func fd,osl⟩/\PySem.W.codeIn K cdv qual=true
 kp:PySem.W.keepIn K (.ref f)=true
section
variable{P:Program}{w:World}{K:PySem.W.Frag}{mg:Str->Option Value}{base:Heap}
theorem Fun.ok{x qual:Str}{st:Stmt}{f:Addr}{fd:FuncData}{N ps:List Str}{k:Nat}{sp:Sp}(F:Fun K x qual st f fd)(S:FnScope N ps (defScope st))(len:∀ vs H Q E,sp vs H Q E->vs.length=ps.length)
  (hbody:∀ (cdv:Value) (A:Around) (outer:List Env) (s:Shared) (H:Hp) (vs:List V) (Q:VK) (E:XK),Room k (A.deeper (envOfC qual (defScope st) s.heap.objs.size f cdv))->sp vs H Q E ->
   ∃ t,PSs (cxOf CX0 P w K mg base N qual (defScope st) f cdv A outer s H E).nox (defBody st) t/\t { nx:=fun _ H'=>Q .non H',rt:=Q } (start N vs) H):FnOk P w K mg base CX0 (k+1) f fd ps sp:=by
 obtain⟨oc,od,kV,doc,pm,an,cdv,ct,osl,rfl,lk,hcd⟩:=F.ex;refine Zju lk hcd S len fun A outer s H vs Q E hr hsp=>?_;obtain⟨t,h,q⟩:=hbody cdv A outer s H vs Q E hr hsp;exact⟨t,h.nox,q⟩
theorem Fun.binds{x qual:Str}{st:Stmt}{f:Addr}{fd:FuncData}{ps:List Str}(F:Fun K x qual st f fd)
  (h:∀ (kV doc pm:Value) (an:Option Addr) (cdv ct:Value) (us:List Value),us.length=ps.length->bindArgs (PySem.W.fnOf x qual (defArgs st) (defBody st) (defScope st) .none kV doc pm an cdv ct) ⟨us,[]⟩=pure (ps.zip us)):Binds K fd ps []:=by
 obtain⟨oc,od,kV,doc,pm,an,cdv,ct,osl,rfl,lk,hcd⟩:=F.ex;exact .all (h kV doc pm an cdv ct)
theorem Zs{x qual:Str}{st:Stmt}{f:Addr}{oc:Value}{od an:Option Addr}{osl:Array (Option Value)}{kV doc pm cdv ct:Value}(l:K.lookup f=some ⟨oc,od,.func (PySem.W.fnOf x qual (defArgs st) (defBody st) (defScope st) .none kV doc pm an cdv ct),osl⟩)
  (c:PySem.W.codeIn K cdv qual=true) (k:PySem.W.keepIn K (.ref f)=true):Fun K x qual st f (PySem.W.fnOf x qual (defArgs st) (defBody st) (defScope st) .none kV doc pm an cdv ct):=⟨⟨oc,od,kV,doc,pm,an,cdv,ct,osl,rfl,l,c⟩,k⟩
end
theorem Jk{A:Around}{k:Nat}(hr:Room k A):A.units+1<cLine:=Nat.lt_of_le_of_lt (Nat.add_le_add_left (by decide:1<=64) _) hr.units
section
variable{X:Cx}
theorem pv(i:Nat){x:Str}{pos:Pos}(hN:X.N[i]? = some x:=by rfl)(hv:Vis X.env.scope x:=by first | exact Or.inl rfl | exact Or.inr (Or.inl rfl) | exact Or.inr (Or.inr rfl))(hd:(x == ("__debug__":Str))=false:=by decide)
  (hcd:(x == ("__classdict__":Str))=false:=by decide):PE X (.Name x pos) (tVar i):=Zja hN hv hd hcd
end
theorem iteF{A B:Prop}(h:B):if false=true then A else B:=by
 rw[if_neg Bool.false_ne_true];exact h
theorem iteT{A B:Prop}(h:A):if true=true then A else B:=by
 rw[if_pos rfl];exact h
theorem ite2{c A B:Prop}[Decidable c](h1:c->A)(h2:¬ c->B):if c then A else B:=by
 by_cases h:c
 ·rw[if_pos h];exact h1 h
 ·rw[if_neg h];exact h2 h
theorem iteNS{c A B:Prop}[Decidable c](hc:c)(h:B):if (!decide c)=true then A else B:=by
 rw[decide_eq_true hc];exact iteF h
noncomputable def Same(H H':Hp):Prop:=∀ b o,H b=some o->H' b=some o
theorem Same.refl(H:Hp):Same H H:=fun _ _ h=>h
theorem Same.trans{H H1 H2:Hp}(a:Same H H1)(b:Same H1 H2):Same H H2:=fun c o h=>b c o (a c o h)
theorem Same.free{H H':Hp}(e:Same H H'){l:Addr}(h:H' l=Option.none):H l=Option.none:=by
 cases q:H l with
 | none=>rfl
 | some o=>
  rw[e l o q] at h;cases h
theorem Same.seq{K:PySem.W.Frag}{H H':Hp}{a:Addr}{xs:List V}(e:Same H H')(h:SqL K H a xs):SqL K H' a xs:=by
 rcases h with (h | ⟨o,h⟩) | h
 ·exact .inl (.inl (e _ _ h))
 ·exact .inl (.inr ⟨o,e _ _ h⟩)
 ·exact .inr h
end L2
end
section
namespace KsTab
open PySem PySem.SetTable
theorem nodup_sub_len{α:Type}[DecidableEq α]:∀ {l m:List α},l.Nodup->(∀ x∈l,x∈m)->l.length<=m.length
 | [],_,_,_=>Nat.zero_le _
 | a::l,m,nd,h=>by
  have ha:=h a List.mem_cons_self;have nd':=List.nodup_cons.mp nd;have:=nodup_sub_len (l:=l) (m:=m.erase a) nd'.2 fun x hx=>by
   have hne:x≠a:=fun e=>nd'.1 (e▸hx);exact (List.mem_erase_of_ne hne).mpr (h x (List.mem_cons_of_mem _ hx))
  rw[List.length_erase_of_mem ha] at this;have hp:0<m.length:=List.length_pos_of_mem ha;simp only[List.length_cons];omega
noncomputable def it(n:Nat):Nat->Nat->Nat
 | 0,i=>i
 | k+1,i=>it n k ((i * 5+1) % n)
theorem Zb4(n:Nat):∀ (a b i:Nat),it n (a+b) i=it n b (it n a i)
 | 0,b,i=>by simp[it]
 | a+1,b,i=>by rw[Nat.succ_add];exact Zb4 n a b _
noncomputable def orb(n:Nat):Nat->Nat->List Nat
 | 0,_=>[]
 | k+1,i=>i::orb n k ((i * 5+1) % n)
theorem Zau{n:Nat}:∀ {k i t:Nat},t∈orb n k i->∃ a,a<k/\it n a i=t
 | 0,_,_,h=>nomatch h
 | k+1,i,t,h=>by
  rcases List.mem_cons.mp h with rfl | h
  ·exact⟨0,Nat.succ_pos _,rfl⟩
  ·obtain⟨a,ha,e⟩:=Zau h;exact⟨a+1,by omega,e⟩
noncomputable def Full(n:Nat):Prop:=0<n/\it n n 0=0/\∀ t,t<n->t∈orb n n 0
theorem Full.reach{n:Nat}(f:Full n){i t:Nat}(hi:i<n)(ht:t<n):∃ k,k<n/\it n k i=t:=by
 obtain⟨hn,h0,h⟩:=f;obtain⟨a,ha,ea⟩:=Zau (h i hi);obtain⟨b,hb,eb⟩:=Zau (h t ht);by_cases hab:a<=b
 ·refine⟨b - a,by omega,?_⟩
  rw[← ea,← Zb4,show a+(b - a)=b by omega];exact eb
 ·refine⟨n+b - a,by omega,?_⟩
  rw[← ea,← Zb4,show a+(n+b - a)=n+b by omega,Zb4,h0];exact eb
theorem full8:Full 8:=⟨by decide,by decide,by decide⟩
theorem full32:Full 32:=⟨by decide,by decide,by decide⟩
theorem full128:Full 128:=⟨by decide,by decide +kernel,by decide +kernel⟩
noncomputable def lp(mask:Nat):Nat->Nat×Nat->Nat×Nat
 | 0,x=>x
 | k+1,x=>lp mask k (leap mask x.1 x.2)
theorem Zhe(mask:Nat):∀ (a b:Nat) (x:Nat×Nat),lp mask (a+b) x=lp mask b (lp mask a x)
 | 0,b,x=>by simp[lp]
 | a+1,b,x=>by rw[Nat.succ_add];exact Zhe mask a b _
theorem Zhd(mask:Nat):∀ (k:Nat) (x:Nat×Nat),(lp mask k x).2=x.2 / 32 ^ k
 | 0,x=>by simp[lp]
 | k+1,x=>by
  rw[lp,Zhd mask k];show x.2 / 32 / 32 ^ k=x.2 / 32 ^ (k+1);rw[Nat.div_div_eq_div_mul,Nat.pow_succ,Nat.mul_comm]
theorem Zjn(mask:Nat):∀ (k:Nat) {x:Nat×Nat},x.1<mask+1->(lp mask k x).1<mask+1
 | 0,_,h=>h
 | k+1,x,_=>Zjn mask k (Nat.mod_lt _ (Nat.succ_pos _))
theorem Zd3(mask:Nat):∀ (k i:Nat),lp mask k (i,0)=(it (mask+1) k i,0)
 | 0,i=>rfl
 | k+1,i=>by
  show lp mask k ((i * 5+1+0 / 32) % (mask+1),0 / 32)=_;rw[Nat.zero_div,Nat.add_zero,Zd3 mask k];rfl
theorem Zbz{mask:Nat}(f:Full (mask+1)){x:Nat×Nat}(h1:x.1<mask+1)(h2:x.2<2 ^ 64){t:Nat}(ht:t<mask+1):∃ k,k<13+(mask+1)/\(lp mask k x).1=t:=by
 have h13:(lp mask 13 x).2=0:=by
  rw[Zhd];exact Nat.div_eq_of_lt (Nat.lt_of_lt_of_le h2 (by decide))
 obtain⟨k,hk,e⟩:=f.reach (Zjn mask 13 h1) ht;refine⟨13+k,by omega,?_⟩
 rw[Zhe];have e2:lp mask 13 x=((lp mask 13 x).1,0):=by rw[← h13]
 rw[e2,Zd3];exact e
noncomputable def adv(t:SetTable):Nat->Probe->Probe
 | 0,p=>p
 | k+1,p=>adv t k (t.advance p)
theorem Za6(t:SetTable):∀ (a b:Nat) (p:Probe),adv t (a+b) p=adv t b (adv t a p)
 | 0,b,p=>by simp[adv]
 | a+1,b,p=>by rw[Nat.succ_add];exact Za6 t a b _
noncomputable def At(t:SetTable)(p:Probe)(x:Nat×Nat):Prop:=p.j=x.1/\p.more=runEnd t.mask x.1 - x.1/\p.i=x.1/\p.perturb=x.2/\p.dummy=none
theorem Zi5(mask i:Nat):runEnd mask i - i<=9:=by unfold runEnd;split<;>omega
theorem Ze8(t:SetTable):∀ (m:Nat) (p:Probe),p.more=m->∃ q,adv t (m+1) p=q/\q.j=(leap t.mask p.i p.perturb).1/\q.more=runEnd t.mask (leap t.mask p.i p.perturb).1 - (leap t.mask p.i p.perturb).1/\q.i=(leap t.mask p.i p.perturb).1/\q.perturb=(leap t.mask p.i p.perturb).2/\q.dummy=p.dummy
 | 0,p,h=>by
  refine⟨_,rfl,?_⟩;show (t.advance p).j=_/\(t.advance p).more=_/\(t.advance p).i=_/\(t.advance p).perturb=_/\(t.advance p).dummy=_;have:t.advance p={ p with j:=(leap t.mask p.i p.perturb).1,more:=runEnd t.mask (leap t.mask p.i p.perturb).1 - (leap t.mask p.i p.perturb).1,i:=(leap t.mask p.i p.perturb).1,perturb:=(leap t.mask p.i p.perturb).2 }:=by
   unfold advance;rw[if_neg (by omega)]
  rw[this];exact⟨rfl,rfl,rfl,rfl,rfl⟩
 | m+1,p,h=>by
  have e:t.advance p={ p with j:=p.j+1,more:=p.more - 1 }:=by
   unfold advance;rw[if_pos (by omega)]
  obtain⟨q,h1,h2⟩:=Ze8 t m (t.advance p) (by rw[e];show p.more - 1=m;omega)
  refine⟨q,h1,?_⟩;rw[e] at h2;exact h2
theorem Zht(t:SetTable):∀ (n:Nat) {p:Probe} {x:Nat×Nat},At t p x->∃ k,k<=10 * n/\At t (adv t k p) (lp t.mask n x)
 | 0,p,x,h=>⟨0,Nat.le_refl _,h⟩
 | n+1,p,x,h=>by
  obtain⟨h1,h2,h3,h4,h5⟩:=h;obtain⟨q,e,q1,q2,q3,q4,q5⟩:=Ze8 t _ p h2;rw[h3,h4] at q1 q2 q3 q4;obtain⟨k,hk,ha⟩:=Zht t n (p:=q) (x:=leap t.mask x.1 x.2) ⟨q1,q2,q3,q4,q5.trans h5⟩;refine⟨runEnd t.mask x.1 - x.1+1+k,?_,?_⟩
  ·have:=Zi5 t.mask x.1;omega
  ·rw[Za6,e];exact ha
theorem Ze6(h:Int):bits h<2 ^ 64:=by
 unfold bits;have h1:0<=h % (2 ^ 64:Int):=Int.emod_nonneg _ (by decide)
 have h2:h % (2 ^ 64:Int)<2 ^ 64:=Int.emod_lt_of_pos _ (by decide)
 omega
theorem Zfp(t:SetTable)(h:Int):At t (t.probeStart h) (bits h % (t.mask+1),bits h):=⟨rfl,rfl,rfl,rfl,rfl⟩
theorem Zax(j:Nat):has #[] j=false:=by unfold has;simp
theorem Xq{t:SetTable}{j i:Nat}(h:t.slot j=.live i):t.place[i]? = some j:=by
 unfold slot at h;dsimp only at h
 split at h
 ·rename_i e
  cases h;exact eq_of_beq e
 ·split at h<;>cases h
theorem Y5{t:SetTable}(hd:t.dummies=#[]){j:Nat}(h:t.slot j=.dummy):False:=by
 unfold slot at h;dsimp only at h
 split at h
 ·cases h
 ·rw[hd,Zax] at h;simp at h
theorem Zcu{t:SetTable}(hd:t.dummies=#[])(hs:t.place.size<=t.mask):∃ j,j<t.mask+1/\t.slot j=.empty:=by
 by_cases hx:∃ j,j<t.mask+1/\t.slot j=.empty
 ·exact hx
 ·exfalso;have all:∀ j∈List.range (t.mask+1),j∈t.place.toList:=fun j hj=>by
   have hj:=List.mem_range.mp hj;cases e:t.slot j with
   | empty=>exact absurd ⟨j,hj,e⟩ hx
   | dummy=>exact (Y5 hd e).elim
   | live i=>
    have q:=Xq e;rw[← Array.getElem?_toList] at q;exact List.mem_of_getElem? q
  have:=nodup_sub_len List.nodup_range all;rw[List.length_range,Array.length_toList] at this;omega
noncomputable def Near(t:SetTable)(n:Nat)(p:Probe):Prop:=∃ k,k<=n/\t.slot (adv t k p).j=.empty
theorem Vx{t:SetTable}(f:Full (t.mask+1))(hd:t.dummies=#[])(hs:t.place.size<=t.mask)(h:Int):Near t (10 * (13+t.mask)) (t.probeStart h):=by
 obtain⟨j,hj,e⟩:=Zcu hd hs;obtain⟨k,hk,ek⟩:=Zbz f (x:=(bits h % (t.mask+1),bits h)) (Nat.mod_lt _ (Nat.succ_pos _)) (Ze6 h) hj;obtain⟨a,ha,at1⟩:=Zht t k (Zfp t h);refine⟨a,by omega,?_⟩
 rw[at1.1,ek];exact e
theorem Zae(t:SetTable)(p:Probe):(t.advance p).dummy=p.dummy:=by
 unfold advance
 split<;>rfl
theorem Zbk{t:SetTable}{hashAt:Nat->Int}{h:Int}(hd:t.dummies=#[]):∀ (n:Nat) (fuel:Nat) (p:Probe),n<fuel->Near t n p->p.dummy=none ->
  (∃ j,probe.go t hashAt h fuel p=some (.empty j none)/\t.slot j=.empty) ∨
  (∃ j i next m,probe.go t hashAt h fuel p=some (.candidate j i next)/\t.slot j=.live i/\m<n/\Near t m next/\next.dummy=none/\hashAt i=h)
 | n,0,p,hf,_,_=>absurd hf (Nat.not_lt_zero _)
 | n,fuel+1,p,hf,hn,hp=>by
  obtain⟨k,hk,e⟩:=hn;unfold probe.go;cases es:t.slot p.j with
  | empty=>exact .inl ⟨p.j,by simp[hp],es⟩
  | dummy=>exact (Y5 hd es).elim
  | live i=>
   cases k with
   | zero=>
    have:t.slot p.j=.empty:=e;rw[es] at this;cases this
   | succ k=>
    have nr:Near t (n - 1) (t.advance p):=⟨k,by omega,e⟩
    have dd:(t.advance p).dummy=none:=(Zae t p).trans hp;dsimp only;by_cases hh:(hashAt i == h)=true
    ·rw[if_pos hh];exact .inr ⟨p.j,i,t.advance p,n - 1,rfl,es,by omega,nr,dd,eq_of_beq hh⟩
    ·rw[if_neg hh];rcases Zbk hd (n - 1) fuel (t.advance p) (by omega) nr dd with q | ⟨j,i',next,m,q1,q2,q3,q4⟩
     ·exact .inl q
     ·exact .inr ⟨j,i',next,m,q1,q2,by omega,q4⟩
theorem Zcj{t:SetTable}{hashAt:Nat->Int}{h:Int}(hd:t.dummies=#[]){n:Nat}{p:Probe}(hn:n<=10 * (13+t.mask))(hr:Near t n p)(hp:p.dummy=none):
  (∃ j,t.probe hashAt h p=some (.empty j none)/\t.slot j=.empty) ∨
  (∃ j i next m,t.probe hashAt h p=some (.candidate j i next)/\t.slot j=.live i/\m<n/\Near t m next/\next.dummy=none/\hashAt i=h):=
 Zbk hd n _ p (by unfold turns;omega) hr hp
theorem Zek{t:SetTable}{hashAt:Nat->Int}{h:Int}(hd:t.dummies=#[]):∀ (fuel:Nat) (p:Probe) (r:Met),p.dummy=none->probe.go t hashAt h fuel p=some r ->
  ∃ m,(∀ c,c<m->∃ i,t.slot (adv t c p).j=.live i/\hashAt i≠h)/\((r=.empty (adv t m p).j none/\t.slot (adv t m p).j=.empty)∨∃ i,r=.candidate (adv t m p).j i (adv t (m+1) p)/\t.slot (adv t m p).j=.live i/\hashAt i=h)
 | 0,p,r,_,e=>by
  unfold probe.go at e;cases e
 | fuel+1,p,r,hp,e=>by
  unfold probe.go at e;cases es:t.slot p.j with
  | empty=>
   rw[es,hp] at e;exact⟨0,(fun c hc=>absurd hc (Nat.not_lt_zero _)),.inl ⟨(Option.some.inj e).symm,es⟩⟩
  | dummy=>exact (Y5 hd es).elim
  | live i=>
   rw[es] at e;dsimp only at e;by_cases hh:(hashAt i == h)=true
   ·rw[if_pos hh] at e;exact⟨0,(fun c hc=>absurd hc (Nat.not_lt_zero _)),.inr ⟨i,(Option.some.inj e).symm,es,eq_of_beq hh⟩⟩
   ·rw[if_neg hh] at e;obtain⟨m,h1,h2⟩:=Zek hd fuel (t.advance p) r ((Zae t p).trans hp) e;refine⟨m+1,fun c hc=>?_,h2⟩;cases c with
    | zero=>exact⟨i,es,fun z=>hh (beq_iff_eq.mpr z)⟩
    | succ c=>exact h1 c (by omega)
end KsTab
end
section
namespace KsTab
open PySem PySem.SetTable
theorem Y1{α β:Type}{f g:α->Option β}:∀ {l:List α},(∀ x∈l,f x=g x)->l.filterMap f=l.filterMap g
 | [],_=>rfl
 | a::l,h=>by
  have ih:=Y1 (f:=f) (g:=g) (l:=l) fun x hx=>h x (List.mem_cons_of_mem _ hx);have ha:=h a List.mem_cons_self;cases q:g a with
  | none=>rw[List.filterMap_cons_none (ha.trans q),List.filterMap_cons_none q,ih]
  | some v=>rw[List.filterMap_cons_some (ha.trans q),List.filterMap_cons_some q,ih]
theorem U7{α:Type}:∀ (l:List α),(List.range l.length).filterMap (fun i=>l[i]?)=l
 | []=>rfl
 | a::l=>by
  rw[List.length_cons,List.range_succ_eq_map];have e1:List.filterMap (fun i=>(a::l)[i]?) (0::List.map Nat.succ (List.range l.length))=a::List.filterMap (fun i=>(a::l)[i]?) (List.map Nat.succ (List.range l.length)):=List.filterMap_cons_some rfl;rw[e1,List.filterMap_map];have:((fun i=>(a::l)[i]?)∘Nat.succ)=fun i=>l[i]? :=by funext i;simp
  rw[this,U7 l]
noncomputable def Ris(xs:Array Nat):Prop:=xs.toList.Pairwise (· < ·)
theorem Ris.lt{xs:Array Nat}(r:Ris xs){i k u v:Nat}(h:i<k)(hi:xs[i]? = some u)(hk:xs[k]? = some v):u<v:=by
 rw[← Array.getElem?_toList] at hi hk;obtain⟨h1,e1⟩:=List.getElem?_eq_some_iff.mp hi;obtain⟨h2,e2⟩:=List.getElem?_eq_some_iff.mp hk;have:=List.pairwise_iff_getElem.mp r i k h1 h2 h;rw[e1,e2] at this;exact this
theorem Ux{xs:Array Nat}{j:Nat}(r:Ris xs):∀ (fuel lo hi:Nat),lo<=hi->hi<=xs.size->hi - lo<=fuel ->
  (∀ i v,i<lo->xs[i]? = some v->v<j)->(∀ i v,hi<=i->xs[i]? = some v->j<=v) ->
  below.go xs j fuel lo hi<=xs.size/\(∀ i v,i<below.go xs j fuel lo hi->xs[i]? = some v->v<j)/\(∀ i v,below.go xs j fuel lo hi<=i->xs[i]? = some v->j<=v)
 | 0,lo,hi,h1,h2,h3,h4,h5=>by
  have e:lo=hi:=by omega
  subst e;exact⟨h2,h4,h5⟩
 | fuel+1,lo,hi,h1,h2,h3,h4,h5=>by
  unfold below.go;by_cases hlt:lo<hi
  ·rw[if_pos hlt];dsimp only;have hm:(lo+hi) / 2<xs.size:=by omega
   have eg:xs[(lo+hi) / 2]? = some (xs.getD ((lo+hi) / 2) j):=by simp[Array.getD,hm]
   by_cases hc:xs.getD ((lo+hi) / 2) j<j
   ·rw[if_pos hc];refine Ux r fuel _ hi (by omega) h2 (by omega) (fun i v hi' e=>?_) h5
    by_cases he:i=(lo+hi) / 2
    ·subst he;rw[eg] at e;cases e;exact hc
    ·exact Nat.lt_trans (r.lt (by omega) e eg) hc
   ·rw[if_neg hc];refine Ux r fuel lo _ (by omega) (by omega) (by omega) h4 fun i v hi' e=>?_
    by_cases he:i=(lo+hi) / 2
    ·subst he;rw[eg] at e;cases e;exact Nat.le_of_not_lt hc
    ·exact Nat.le_of_lt (Nat.lt_of_le_of_lt (Nat.le_of_not_lt hc) (r.lt (by omega) eg e))
  ·rw[if_neg hlt];have e:lo=hi:=by omega
   subst e;exact⟨h2,h4,h5⟩
theorem V9{xs:Array Nat}(r:Ris xs)(j:Nat):below xs j<=xs.size/\(∀ i v,i<below xs j->xs[i]? = some v->v<j)/\(∀ i v,below xs j<=i->xs[i]? = some v->j<=v):=
 Ux r _ _ _ (Nat.zero_le _) (Nat.le_refl _) (by omega) (fun i v h=>absurd h (Nat.not_lt_zero _)) fun i v h e=>by
  have:=(Array.getElem?_eq_some_iff.mp e).1;omega
theorem Ua{xs:Array Nat}(r:Ris xs){n slot:Nat}(hn:n<=xs.size)(h1:∀ i v,i<n->xs[i]? = some v->v<slot)(h2:∀ i v,n<=i->xs[i]? = some v->slot<=v):below xs slot=n:=by
 obtain⟨b0,b1,b2⟩:=V9 r slot;rcases Nat.lt_trichotomy (below xs slot) n with h | h | h
 ·have hs:below xs slot<xs.size:=by omega
  have e:xs[below xs slot]? = some xs[below xs slot]:=by simp[hs]
  have a:=h1 _ _ h e;have b:=b2 _ _ (Nat.le_refl _) e;omega
 ·exact h
 ·have hs:n<xs.size:=by omega
  have e:xs[n]? = some xs[n]:=by simp[hs]
  have a:=b1 _ _ h e;have b:=h2 _ _ (Nat.le_refl _) e;omega
theorem Z6{α:Type}(xs:Array α)(p:Nat)(x:α):(insertAt xs p x).toList=xs.toList.take p++x::xs.toList.drop p:=by
 unfold insertAt;simp[Array.toList_extract,List.take_of_length_le]
theorem Z7{α:Type}(xs:Array α)(p:Nat)(x:α):(insertAt xs p x).toList.Perm (xs.toList++[x]):=by
 rw[Z6];refine (List.perm_middle).trans ?_;rw[List.take_append_drop];exact (List.perm_append_singleton x xs.toList).symm
theorem Ym{α:Type}(xs:Array α)(p:Nat)(x:α):(insertAt xs p x).size=xs.size+1:=by
 rw[← Array.length_toList,(Z7 xs p x).length_eq,List.length_append,Array.length_toList];rfl
theorem Zav{α:Type}{xs:Array α}{v:α}(h:v∈xs.toList):∃ i:Nat,xs[i]? = some v:=by
 obtain⟨i,hi⟩:=List.getElem?_of_mem h;exact⟨i,by rw[← Array.getElem?_toList];exact hi⟩
theorem Vr{t:SetTable}(r:Ris t.place){j:Nat}(he:t.slot j=.empty):Ris (insertAt t.place (below t.place j) j):=by
 obtain⟨b0,b1,b2⟩:=V9 r j;have hne:t.place[below t.place j]?≠some j:=fun z=>by
  unfold slot at he;dsimp only at he;rw[z] at he;simp at he
 unfold Ris;rw[Z6];have l1:∀ v∈t.place.toList.take (below t.place j),v<j:=fun v hv=>by
  obtain⟨i,hi⟩:=List.getElem?_of_mem hv;rw[List.getElem?_take] at hi
  split at hi
  ·rename_i hlt
   rw[Array.getElem?_toList] at hi;exact b1 i v hlt hi
  ·cases hi
 have l2:∀ v∈t.place.toList.drop (below t.place j),j<v:=fun v hv=>by
  obtain⟨i,hi⟩:=List.getElem?_of_mem hv;rw[List.getElem?_drop,Array.getElem?_toList] at hi;have h1:=b2 _ _ (Nat.le_add_right _ _) hi;rcases Nat.lt_or_ge j v with h | h
  ·exact h
  ·exfalso;have ev:v=j:=by omega
   subst ev;cases i with
   | zero=>exact hne hi
   | succ i=>
    have hs:=(Array.getElem?_eq_some_iff.mp hi).1;have hb:below t.place v<t.place.size:=by omega
    have eb:t.place[below t.place v]? = some t.place[below t.place v]:=by simp[hb]
    have q1:=r.lt (by omega) eb hi
    have q2:=b2 _ _ (Nat.le_refl _) eb;omega
 refine List.pairwise_append.mpr ⟨r.sublist (List.take_sublist _ _),List.pairwise_cons.mpr ⟨l2,r.sublist (List.drop_sublist _ _)⟩,fun a ha b hb=>?_⟩;rcases List.mem_cons.mp hb with rfl | hb
 ·exact l1 a ha
 ·exact Nat.lt_trans (l1 a ha) (l2 b hb)
noncomputable def live(mask:Nat)(owner:Array (Option Nat)):List Nat:=(List.range (mask+1)).filterMap fun j=>owner.getD j none
structure Lay(mask:Nat)(owner:Array (Option Nat))(k:Nat):Prop where
 size:owner.size=mask+1
 perm:(live mask owner).Perm (List.range k)
theorem Xx{α β:Type}{f:α->Option β}:∀ {l:List α},(∀ x∈l,(f x).isSome=true)->(l.filterMap f).length=l.length
 | [],_=>rfl
 | a::l,h=>by
  obtain⟨b,e⟩:=Option.isSome_iff_exists.mp (h a List.mem_cons_self);rw[List.filterMap_cons_some e,List.length_cons,List.length_cons,Xx fun x hx=>h x (List.mem_cons_of_mem _ hx)]
theorem Lay.room{mask:Nat}{owner:Array (Option Nat)}{k:Nat}(L:Lay mask owner k)(hk:k<=mask):∃ j,j<mask+1/\(owner.getD j (some 0)).isNone=true:=by
 by_cases hx:∃ j,j<mask+1/\(owner.getD j (some 0)).isNone=true
 ·exact hx
 ·exfalso;have h1:=Xx (l:=List.range (mask+1)) (f:=fun j=>owner.getD j none) fun j hj=>by
   have hj:=List.mem_range.mp hj;cases e:owner.getD j none with
   | some v=>rfl
   | none=>
    refine (hx ⟨j,hj,?_⟩).elim;have hs:j<owner.size:=by rw[L.size];exact hj
    simp only[Array.getD,hs,dite_true] at e ⊢;rw[e];rfl
  have h2:=L.perm.length_eq;unfold live at h2;rw[h1,List.length_range,List.length_range] at h2;omega
theorem Jm{mask:Nat}{owner:Array (Option Nat)}:∀ (n fuel i p:Nat),n<fuel->(owner.getD (lp mask n (i,p)).1 (some 0)).isNone=true ->
  ∃ j,layClean.free mask owner fuel i p=some j/\(owner.getD j (some 0)).isNone=true
 | n,0,i,p,h,_=>absurd h (Nat.not_lt_zero _)
 | n,fuel+1,i,p,h,e=>by
  unfold layClean.free;cases q:(List.range (runEnd mask i+1 - i)).find? fun k=>(owner.getD (i+k) (some 0)).isNone with
  | some k=>exact⟨i+k,rfl,(List.find?_eq_some_iff_append.mp q).1⟩
  | none=>
   cases n with
   | zero=>
    exfalso;have z:=List.find?_eq_none.mp q 0 (List.mem_range.mpr (by unfold runEnd;split<;>omega))
    exact z e
   | succ n=>exact Jm n fuel _ _ (by omega) e
theorem Zbb{k j:Nat}{g:Nat->Option Nat}(hg:g j=none):∀ {l:List Nat},l.Nodup->j∈l->(l.filterMap fun x=>if x=j then some k else g x).Perm (k::l.filterMap g)
 | [],_,h=>nomatch h
 | a::l,nd,h=>by
  obtain⟨n1,n2⟩:=List.nodup_cons.mp nd;by_cases ha:a=j
  ·subst ha;have e:(l.filterMap fun x=>if x=a then some k else g x)=l.filterMap g:=Y1 fun x hx=>if_neg fun (z:x=a)=>n1 (z▸hx)
   have e1:((a::l).filterMap fun x=>if x=a then some k else g x)=k::l.filterMap fun x=>if x=a then some k else g x:=List.filterMap_cons_some (if_pos rfl)
   rw[e1,e,List.filterMap_cons_none hg]
  ·have hl:j∈l:=(List.mem_cons.mp h).resolve_left fun z=>ha z.symm;have ih:=Zbb (k:=k) hg n2 hl;cases q:g a with
   | none=>rw[List.filterMap_cons_none (by rw[if_neg ha];exact q),List.filterMap_cons_none q];exact ih
   | some v=>
    rw[List.filterMap_cons_some (b:=v) (by rw[if_neg ha];exact q),List.filterMap_cons_some q]
    exact (ih.cons v).trans (List.Perm.swap k v _)
theorem Lay.step{mask:Nat}{owner:Array (Option Nat)}{k j:Nat}(L:Lay mask owner k)(hj:(owner.getD j (some 0)).isNone=true):Lay mask (owner.setIfInBounds j (some k)) (k+1):=by
 have hs:j<owner.size:=by
  rcases Nat.lt_or_ge j owner.size with h | h
  ·exact h
  ·simp[Array.getD,Nat.not_lt.mpr h] at hj
 have e0:owner.getD j none=none:=by
  simp only[Array.getD,hs,dite_true] at hj ⊢;exact Option.isNone_iff_eq_none.mp hj
 refine⟨by rw[Array.size_setIfInBounds];exact L.size,?_⟩
 have e:live mask (owner.setIfInBounds j (some k))=(List.range (mask+1)).filterMap fun x=>if x=j then some k else owner.getD x none:=by
  unfold live;refine Y1 fun x hx=>?_;have hx:=List.mem_range.mp hx;have hxs:x<owner.size:=by rw[L.size];exact hx
  by_cases hxj:x=j
  ·subst hxj;simp[Array.getD,hxs]
  ·simp[Array.getD,hxs,hxj,Ne.symm hxj]
 rw[e];refine (Zbb e0 List.nodup_range (List.mem_range.mpr (by rw[← L.size];exact hs))).trans ?_
 refine (List.Perm.cons k L.perm).trans ?_;rw[List.range_succ];exact (List.perm_append_singleton k _).symm
theorem Zd7(mask:Nat):Lay mask (Array.replicate (mask+1) none) 0:=by
 refine⟨Array.size_replicate,?_⟩;have:live mask (Array.replicate (mask+1) none)=[]:=by
  unfold live;refine List.filterMap_eq_nil_iff.mpr fun j hj=>?_;have hj:=List.mem_range.mp hj;simp[Array.getD,hj]
 rw[this];exact List.Perm.refl _
theorem Zb0{mask:Nat}(f:Full (mask+1)):∀ (hs:List Int) (owner:Array (Option Nat)) (k:Nat),Lay mask owner k->k+hs.length<=mask ->
  ∃ owner',hs.foldl (fun (acc:Option (Array (Option Nat)×Nat)) h=>do
    let (owner,k) ← acc
    let j ← layClean.free mask owner (turns mask) (bits h % (mask+1)) (bits h)
    pure (owner.setIfInBounds j (some k),k+1)) (some (owner,k))=some (owner',k+hs.length)/\Lay mask owner' (k+hs.length)
 | [],owner,k,L,_=>⟨owner,rfl,L⟩
 | h::hs,owner,k,L,hk=>by
  rw[List.length_cons] at hk;obtain⟨t,ht,et⟩:=L.room (by omega)
  obtain⟨n,hn,en⟩:=Zbz f (x:=(bits h % (mask+1),bits h)) (Nat.mod_lt _ (Nat.succ_pos _)) (Ze6 h) ht;obtain⟨j,e1,e2⟩:=Jm (mask:=mask) (owner:=owner) n (turns mask) (bits h % (mask+1)) (bits h) (by unfold turns;omega) (by rw[en];exact et)
  obtain⟨o',h1,h2⟩:=Zb0 f hs _ (k+1) (L.step e2) (by omega)
  refine⟨o',?_,?_⟩
  ·rw[List.foldl_cons];show List.foldl _ (do let j ← layClean.free mask owner (turns mask) (bits h % (mask+1)) (bits h);pure (owner.setIfInBounds j (some k),k+1)) hs=_
   rw[e1];rw[List.length_cons,show k+(hs.length+1)=k+1+hs.length by omega]
   exact h1
  ·rw[List.length_cons,show k+(hs.length+1)=k+1+hs.length by omega]
   exact h2
theorem Jg{mask finger moves:Nat}{led plain:Bool}{hashes:Array Int}(f:Full (mask+1))(hk:hashes.size<=mask):
  ∃ t order,laid mask finger moves led plain hashes=some (t,order)/\t.mask=mask/\t.dummies=#[]/\t.led=led/\t.plain=plain/\Ris t.place/\t.place.size=hashes.size/\order.toList.Perm (List.range hashes.size):=by
 obtain⟨o,h1,L⟩:=Zb0 f hashes.toList _ 0 (Zd7 mask) (by rw[Array.length_toList];omega)
 rw[Nat.zero_add,Array.length_toList] at h1 L;have e:layClean mask hashes=some o:=by
  unfold layClean;rw[← Array.foldl_toList];rw[h1];rfl
 unfold laid;rw[e];refine⟨_,_,rfl,rfl,rfl,rfl,rfl,?_,?_,?_⟩
 ·unfold Ris;show List.Pairwise _ (List.map _ _);have:(List.filterMap (fun j=>(o.getD j none).map (j,·)) (List.range (mask+1))).map (·.1)=(List.range (mask+1)).filter fun j=>(o.getD j none).isSome:=by
   rw[List.map_filterMap];rw[← List.filterMap_eq_filter];refine Y1 fun x _=>?_;cases q:o.getD x none<;>simp[q,Option.guard]
  rw[this];exact List.pairwise_lt_range.sublist List.filter_sublist
 ·have:(List.filterMap (fun j=>(o.getD j none).map (j,·)) (List.range (mask+1))).length=(live mask o).length:=by
   unfold live;have e2:(List.range (mask+1)).filterMap (fun j=>o.getD j none)=((List.range (mask+1)).filterMap (fun j=>(o.getD j none).map (j,·))).map (·.2):=by
    rw[List.map_filterMap];refine Y1 fun x _=>?_;cases q:o.getD x none<;>simp[q]
   rw[e2,List.length_map]
  simp only[List.size_toArray,List.length_map];rw[this,L.perm.length_eq,List.length_range]
 ·have e2:((List.range (mask+1)).filterMap (fun j=>(o.getD j none).map (j,·))).map (·.2)=live mask o:=by
   unfold live;rw[List.map_filterMap];refine Y1 fun x _=>?_;cases q:o.getD x none<;>simp[q]
  show (List.map _ _).Perm _;rw[e2];exact L.perm
theorem Vw{α:Type}{es:Array α}{order:Array Nat}(h:order.toList.Perm (List.range es.size)):(order.filterMap (es[·]?)).toList.Perm es.toList:=by
 rw[Array.toList_filterMap];refine (h.filterMap _).trans ?_;have:(List.range es.size).filterMap (fun i=>es[i]?)=es.toList:=by
  have e:=U7 es.toList;rw[Array.length_toList] at e;rw[← e];refine Y1 fun x _=>?_;rw[Array.getElem?_toList]
 rw[this]
end KsTab
end
section
namespace KS
open PySem KsTab
section
variable{prog:Program}{w:World}{A:Around}{E:Value->Shared->Prop}{s:Shared}
structure Tk(t:SetTable)(n:Nat):Prop where
 mask:t.mask=7∨t.mask=31∨t.mask=127
 dum:t.dummies=#[]
 ris:Ris t.place
 size:t.place.size=n
 room:n * 5<t.mask * 3
 plain:t.plain=true
theorem Tk.full{t:SetTable}{n:Nat}(T:Tk t n):Full (t.mask+1):=by
 rcases T.mask with h | h | h<;>rw[h]
 ·exact full8
 ·exact full32
 ·exact full128
theorem Tk.odd{t:SetTable}{n:Nat}(T:Tk t n):t.gaveWay=false:=by
 unfold SetTable.gaveWay;rcases T.mask with h | h | h<;>rw[h]<;>rfl
theorem Tk.fits{t:SetTable}{n:Nat}(T:Tk t n):t.fits n=true:=by
 unfold SetTable.fits SetTable.fill;have h1:=T.size;have h2:=T.room;have h3:t.dummies.size=0:=by rw[T.dum];rfl
 simp only[Bool.and_eq_true,beq_iff_eq,decide_eq_true_eq];omega
theorem Tk.le{t:SetTable}{n:Nat}(T:Tk t n):t.place.size<=t.mask:=by
 have h1:=T.size;have h2:=T.room;omega
theorem Za9(f m:Nat)(led:Bool):Tk (.fresh f m led) 0:=⟨.inl rfl,rfl,List.Pairwise.nil,rfl,by show 0 * 5<7 * 3;decide,rfl⟩
noncomputable def Kof(prog:Program)(w:World)(h:Heap)(v:Value)(k:List Int):Prop:=∃ c,v=.ref c/\IsTupleKey (intKind prog w) h k c
theorem Kof.at{h h':Heap}{v:Value}{k:List Int}(x:Kof prog w h v k)(kp:∀ c o,v=.ref c->h.get? c=some o->h'.get? c=some o):Kof prog w h' v k:=by
 obtain⟨c,e,o,its,n,ho,r⟩:=x;exact⟨c,e,o,its,n,kp c o e ho,r⟩
theorem W3{k:List Int}{c:Addr}{Q:Bool->Shared->Prop}(hk:IsTupleKey (intKind prog w) s.heap k c)(h:Q false s):wpAny (model prog w) A (ofAClassStatement 8 (.ref c)) Q E s:=by
 have hT:=hk.typeIs;obtain⟨o,its,n,ho,_,hd,hi⟩:=hk;unfold ofAClassStatement;refine wpAny_bind (wpAny_typeOf hT ?_);dsimp only;rw[if_pos (by decide)]
 refine wpAny_bind (wpAny_pure ?_);simp only[Bool.not_true,Bool.false_eq_true,if_false];refine wpAny_bind (wpAny_seqItems ho hd ?_);dsimp only;refine wpAny_bind ?_;rw[← Array.forIn_toList];refine wpAny_forIn_list _ (fun rest (r:Option Bool×PUnit) s'=>r.1=none/\s'=s/\∀ v∈rest,∃ i t,v=Value.int i t) _ ?_ ?_ _ _ ⟨rfl,rfl,fun v hv=>?_⟩
 ·rintro v rest r s' ⟨hr,rfl,hv⟩;obtain⟨i,t,rfl⟩:=hv v List.mem_cons_self;refine wpAny_bind (m:=ofAClassStatement 7 _) (wpAny_pure ?_);simp only[Bool.false_eq_true,if_false];exact wpAny_pure ⟨rfl,rfl,fun u hu=>hv u (List.mem_cons_of_mem _ hu)⟩
 ·rintro⟨r1,r2⟩ s' ⟨hr,rfl,_⟩;simp only at hr;subst hr;exact wpAny_pure h
 ·generalize its.toList=l at hi hv;clear ho hT hd
  induction hi with
  | nil=>cases hv
  | @cons k0 _ _ _ h1 _ ih=>
   rcases List.mem_cons.mp hv with rfl | hv
   ·obtain⟨t,e⟩:=Value.isInt_shape h1;exact⟨k0,t,e⟩
   ·exact ih hv
theorem unseen{x:Value}{k:List Int}{Q:Bool->Shared->Prop}(hx:Kof prog w s.heap x k):∀ (l:List Value),(∀ y∈l,∃ k',Kof prog w s.heap y k')->Q false s->wpAny (model prog w) A (searchCouldBeSeen x l) Q E s:=by
 intro l hl h;obtain⟨c,rfl,hc⟩:=hx;unfold searchCouldBeSeen;refine wpAny_bind ?_;refine wpAny_forIn_list _ (fun rest (r:Option Bool×PUnit) s'=>r.1=none/\s'=s/\∀ v∈rest,∃ k',Kof prog w s.heap v k') _ ?_ ?_ _ _ ⟨rfl,rfl,hl⟩
 ·rintro v rest r s' ⟨hr,rfl,hv⟩;obtain⟨k',d,rfl,hd⟩:=hv v List.mem_cons_self;have hv':∀ v∈rest,∃ k',Kof prog w s'.heap v k':=fun u hu=>hv u (List.mem_cons_of_mem _ hu);dsimp only;refine wpAny_ite_split (fun _=>wpAny_pure ⟨rfl,rfl,hv'⟩) fun _=>?_;refine wpAny_bind (wpAny_eqIsQuiet_tuple hc ?_);refine wpAny_ite_split (fun z=>Bool.noConfusion z) fun _=>?_;refine wpAny_bind (wpAny_eqIsQuiet_tuple hd ?_);refine wpAny_ite_split (fun z=>Bool.noConfusion z) fun _=>?_;refine wpAny_bind (W3 hc ?_);refine wpAny_ite_split (fun z=>Bool.noConfusion z) fun _=>?_;refine wpAny_bind (W3 hd ?_);refine wpAny_ite_split (fun z=>Bool.noConfusion z) fun _=>?_;exact wpAny_pure ⟨rfl,rfl,hv'⟩
 ·rintro⟨r1,r2⟩ s' ⟨hr,rfl,_⟩;simp only at hr;subst hr;exact wpAny_pure h
theorem Wt{t:SetTable}{f:Nat->Int}{h:Int}(hd:t.dummies=#[]){n:Nat}{p:SetTable.Probe}(hn:n<=10 * (13+t.mask))(hr:Near t n p)(hp:p.dummy=none){r:Option SetTable.Met}(e:t.probe f h p=r):
  (∃ j,r=some (.empty j none)/\t.slot j=.empty)∨(∃ j i next m,r=some (.candidate j i next)/\t.slot j=.live i/\m<n/\Near t m next/\next.dummy=none/\f i=h):=by
 subst e;exact Zcj hd hn hr hp
noncomputable def Hist(t:SetTable)(es:Array (Int×Value))(kf:Value->List Int)(k:List Int)(h:Int)(c:Nat):Prop:=∀ c',c'<c->∃ i e,t.slot (adv t c' (t.probeStart h)).j=.live i/\es[i]? = some e/\(e.1=h->kf e.2≠k)
theorem Zck{t:SetTable}{es:Array (Int×Value)}{kf:Value->List Int}{k:List Int}{h:Int}{c:Nat}{f:Nat->Int}{p:SetTable.Probe}{r:SetTable.Met}(T:Tk t es.size)(hp:p.dummy=none)(hpc:p=adv t c (t.probeStart h))(H:Hist t es kf k h c)
  (hf:∀ i e,es[i]? = some e->f i=e.1) (e:t.probe f h p=some r):∃ m,Hist t es kf k h (c+m)/\((r=.empty (adv t (c+m) (t.probeStart h)).j none)∨∃ i,r=.candidate (adv t (c+m) (t.probeStart h)).j i (adv t (c+m+1) (t.probeStart h))/\t.slot (adv t (c+m) (t.probeStart h)).j=.live i):=by
 obtain⟨m,h1,h2⟩:=Zek T.dum _ p r hp e;have step:∀ a,adv t a p=adv t (c+a) (t.probeStart h):=fun a=>by rw[Za6,← hpc]
 refine⟨m,fun c' hc'=>?_,?_⟩
 ·by_cases hlt:c'<c
  ·exact H c' hlt
  ·obtain⟨i,g1,g2⟩:=h1 (c' - c) (by omega)
   rw[step,show c+(c' - c)=c' by omega] at g1
   have hi:i<es.size:=by
    have q:=(Array.getElem?_eq_some_iff.mp (Xq g1)).1;rw[T.size] at q;exact q
   have he:es[i]? = some es[i]:=by simp[hi]
   exact⟨i,es[i],g1,he,fun z=>absurd ((hf i _ he).trans z) g2⟩
 ·rcases h2 with ⟨h2,_⟩ | ⟨i,h2,h3,_⟩
  ·rw[step] at h2;exact .inl h2
  ·rw[step,step] at h2;rw[step] at h3;exact .inr ⟨i,h2,h3⟩
theorem U4{a:Addr}{o:Obj}{es:Array (Int×Value)}{ep:Nat}{t:SetTable}{x:Value}{k:List Int}{kf:Value->List Int}{h:Int}{Q:SetFound->Shared->Prop}(ho:s.heap.get? a=some o)(hd:o.data=.set es ep t)(T:Tk t es.size)(hu:A.units<cLine)
  (hE:∀ e∈es.toList,Kof prog w s.heap e.2 (kf e.2)) (hx:Kof prog w s.heap x k) (hfree:∀ j c,t.slot j=.empty->j=(adv t c (t.probeStart h)).j->Hist t es kf k h c->Q (.free j false) s) (hthere:(∃ e∈es.toList,kf e.2=k)->Q (.there none) s):
  ∀ (fuel m c:Nat) (stand:Option SetTable.Probe),m<fuel->m<=10 * (13+t.mask)->Near t m (stand.getD (t.probeStart h))->(stand.getD (t.probeStart h)).dummy=none->stand.getD (t.probeStart h)=adv t c (t.probeStart h)->Hist t es kf k h c->wpAny (model prog w) A (setSearchFrom a x h true fuel stand) Q E s
 | 0,m,_,_,hf,_,_,_,_,_=>absurd hf (Nat.not_lt_zero _)
 | fuel+1,m,c0,stand,hf,hm,hn,hdm,hst,hH=>by
  unfold setSearchFrom;refine wpAny_bind (wpAny_setState_of ho hd T.fits ?_);dsimp only;rw[T.odd];simp only[Bool.false_eq_true,if_false];have hpath:∀ r,t.probe (fun i=>(es[i]?.map (·.1)).getD 0) h (stand.getD (t.probeStart h))=some r->_:=fun r hr=>Zck (kf:=kf) (k:=k) T hdm hst hH (fun i e he=>by rw[he];rfl) hr
  generalize hr:t.probe _ h _=r;rcases Wt T.dum hm hn hdm hr with ⟨j,rfl,hj⟩ | ⟨j,i,next,m',rfl,hj,hm',hn',hd',hh⟩
  ·obtain⟨m1,hm1,hc1⟩:=hpath _ hr;rcases hc1 with hc1 | ⟨_,hc1,_⟩
   ·injection hc1 with hc1
    exact wpAny_pure (hfree j _ hj hc1 hm1)
   ·cases hc1
  ·obtain⟨m1,hh1,hc1⟩:=hpath _ hr;obtain⟨hnx,hsl⟩:next=adv t (c0+m1+1) (t.probeStart h)/\t.slot (adv t (c0+m1) (t.probeStart h)).j=.live i:=by
    rcases hc1 with hc1 | ⟨_,hc1,hc2⟩
    ·cases hc1
    ·injection hc1 with q1 q2 q3
     rw[q2];exact⟨q3,hc2⟩
   have hi:i<es.size:=by
    have q:=(Array.getElem?_eq_some_iff.mp (Xq hj)).1;rw[T.size] at q;exact q
   have he:es[i]? = some es[i]:=by simp[hi]
   have hm1:es[i]∈es.toList:=by simp
   obtain⟨d,hy,hyk⟩:=hE _ hm1;obtain⟨c,rfl,hc⟩:=id hx;have hall:∀ y∈(es.filter (·.1 == h)).toList.map (·.2),∃ k',Kof prog w s.heap y k':=fun y hy=>by
    obtain⟨e,h1,rfl⟩:=List.mem_map.mp hy;rw[Array.toList_filter] at h1;exact⟨_,hE e (List.mem_filter.mp h1).1⟩
   have same:t.sameMemory t.moves t.mask=some true:=by unfold SetTable.sameMemory;simp
   have he2:es[i]? = some (es[i].1,Value.ref d):=by rw[he,← hy]
   refine wpAny_ite_split (fun _=>wpAny_bind (unseen hx _ hall (wpAny_ite_split (fun z=>Bool.noConfusion z) fun _=>?_))) fun _=>?_
   all_goals
    rw[he2];dsimp only;refine wpAny_bind (wpAny_holding (wpAny_eqBool_tuple hu hyk hc ?_));refine wpAny_bind (wpAny_setState_of ho hd T.fits ?_);dsimp only;refine wpAny_ite_split (fun z=>?_) fun z=>?_
    ·simp only[Bool.true_and,decide_eq_true_eq] at z;exact wpAny_pure (hthere ⟨_,hm1,z⟩)
    ·have z':¬ kf es[i].2=k:=by simpa using z
     rw[same];dsimp only;rw[if_pos rfl,hj];dsimp only;rw[he2];dsimp only;refine wpAny_bind (m:=isSame (.ref d) (.ref d)) ?_;have sm:isSame (.ref d) (.ref d)=pure true:=by unfold isSame;simp
     rw[sm];refine wpAny_pure (wpAny_bind (wpAny_pure ?_));rw[if_pos rfl];dsimp only;rw[if_neg (by simpa using z')]
     refine U4 ho hd T hu hE hx hfree hthere fuel m' (c0+m1+1) (some next) (by omega) (by omega) hn' hd' hnx fun c' hc'=>?_
     by_cases hlt:c'<c0+m1
     ·exact hh1 c' hlt
     ·rw[show c'=c0+m1 by omega]
      exact⟨i,es[i],hsl,he,fun _=>z'⟩
theorem Ze5{k:List Int}{c:Addr}{Q:Bool->Shared->Prop}(hk:IsTupleKey (intKind prog w) s.heap k c)(h:Q true s):wpAny (model prog w) A (hashByValue 8 (.ref c)) Q E s:=by
 have hT:=hk.typeIs;obtain⟨o,its,n,ho,_,hd,hi⟩:=hk;unfold hashByValue;refine wpAny_bind (wpAny_specialOf hT F.slot_tuple_hash.lookup ?_);dsimp only;refine wpAny_bind (wpAny_seqItems ho hd ?_);refine wpAny_bind ?_;show wpAny _ _ (forIn its _ _) _ _ s;rw[← Array.forIn_toList];refine wpAny_forIn_list _ (fun rest (r:Option Bool×PUnit) s'=>r.1=none/\s'=s/\∀ v∈rest,∃ i t,v=Value.int i t) _ ?_ ?_ _ _ ⟨rfl,rfl,fun v hv=>?_⟩
 ·rintro v rest r s' ⟨hr,rfl,hv⟩;obtain⟨i,t,rfl⟩:=hv v List.mem_cons_self;refine wpAny_bind (m:=hashByValue 7 _) (wpAny_pure ?_);simp only[Bool.not_true,Bool.false_eq_true,if_false];exact wpAny_pure ⟨rfl,rfl,fun u hu=>hv u (List.mem_cons_of_mem _ hu)⟩
 ·rintro⟨r1,r2⟩ s' ⟨hr,rfl,_⟩;simp only at hr;subst hr;exact wpAny_pure h
 ·generalize its.toList=l at hi hv;clear ho hT hd
  induction hi with
  | nil=>cases hv
  | @cons k0 _ _ _ h1 _ ih=>
   rcases List.mem_cons.mp hv with rfl | hv
   ·obtain⟨t,e⟩:=Value.isInt_shape h1;exact⟨k0,t,e⟩
   ·exact ih hv
theorem Ze9{α β:Type}{A:List α}{B:List β}{n:Nat}{q:α×β}(h:q∈(A.take n).zip (B.take n)):q∈A.zip B:=by
 obtain⟨i,hi⟩:=List.mem_iff_getElem?.mp h;rw[List.getElem?_zip_eq_some] at hi;refine List.mem_iff_getElem?.mpr ⟨i,List.getElem?_zip_eq_some.mpr ?_⟩;rw[List.getElem?_take,List.getElem?_take] at hi;by_cases g:i<n
 ·rw[if_pos g,if_pos g] at hi;exact hi
 ·rw[if_neg g] at hi;cases hi.1
theorem Zfg{α β:Type}{A:List α}{B:List β}{n:Nat}{q:α×β}(h:q∈(A.drop n).zip (B.drop n)):q∈A.zip B:=by
 obtain⟨i,hi⟩:=List.mem_iff_getElem?.mp h;rw[List.getElem?_zip_eq_some,List.getElem?_drop,List.getElem?_drop] at hi;exact List.mem_iff_getElem?.mpr ⟨n+i,List.getElem?_zip_eq_some.mpr hi⟩
noncomputable def Rch(t:SetTable)(j:Nat)(h:Int):Prop:=∃ c,(adv t c (t.probeStart h)).j=j/\∀ c',c'<c->(adv t c' (t.probeStart h)).j∈t.place.toList
theorem Uy{t t':SetTable}(h:t'.mask=t.mask):∀ (c:Nat) (p:SetTable.Probe),adv t' c p=adv t c p
 | 0,_=>rfl
 | c+1,p=>by
  have e:t'.advance p=t.advance p:=by unfold SetTable.advance;rw[h]
  show adv t' c (t'.advance p)=adv t c (t.advance p);rw[e];exact Uy h c _
theorem Vp{t t':SetTable}(h:t'.mask=t.mask)(x:Int):t'.probeStart x=t.probeStart x:=by unfold SetTable.probeStart;rw[h]
theorem Rch.mono{t t':SetTable}{j:Nat}{x:Int}(r:Rch t j x)(h:t'.mask=t.mask)(hs:∀ y∈t.place.toList,y∈t'.place.toList):Rch t' j x:=by
 obtain⟨c,h1,h2⟩:=r;refine⟨c,by rw[Vp h,Uy h];exact h1,fun c' hc'=>?_⟩
 rw[Vp h,Uy h];exact hs _ (h2 c' hc')
theorem Zc8{t:SetTable}(r:Ris t.place){j i:Nat}(h:t.place[i]? = some j):t.slot j=.live i:=by
 have hi:=(Array.getElem?_eq_some_iff.mp h).1;have e:SetTable.below t.place j=i:=Ua r (Nat.le_of_lt hi) (fun i' v hi' hv=>r.lt hi' hv h) fun i' v hi' hv=>by
  by_cases z:i'=i
  ·rw[z,h] at hv;cases hv;exact Nat.le_refl _
  ·exact Nat.le_of_lt (r.lt (by omega) h hv)
 unfold SetTable.slot;dsimp only;rw[e,h,if_pos (by simp)]
theorem Zig{t:SetTable}{es:Array (Int×Value)}{kf:Value->List Int}{k:List Int}{h:Int}{c j:Nat}(T:Tk t es.size)(hj:t.slot j=.empty)(hc:j=(adv t c (t.probeStart h)).j)(H:Hist t es kf k h c)
  (R:∀ q∈t.place.toList.zip es.toList,q.2.1=h->Rch t q.1 q.2.1):∀ e∈es.toList,e.1=h->kf e.2≠k:=by
 intro e he heh hek;obtain⟨i,hi⟩:=Zav he;have hil:i<es.size:=(Array.getElem?_eq_some_iff.mp hi).1;have hip:i<t.place.size:=by rw[T.size];exact hil
 have ep:t.place[i]? = some t.place[i]:=by simp[hip]
 have hz:(t.place[i],e)∈t.place.toList.zip es.toList:=by
  refine List.mem_iff_getElem?.mpr ⟨i,?_⟩;rw[List.getElem?_zip_eq_some];exact⟨by rw[Array.getElem?_toList];exact ep,by rw[Array.getElem?_toList];exact hi⟩
 obtain⟨c1,h1,h2⟩:=R _ hz heh;dsimp only at h1 h2;rw[heh] at h1 h2;have live:=Zc8 T.ris ep;rcases Nat.lt_trichotomy c1 c with hlt | heq | hgt
 ·obtain⟨i',e',g1,g2,g3⟩:=H c1 hlt;rw[h1,live] at g1;injection g1 with g1
  rw[← g1,hi] at g2;cases g2;exact g3 heh hek
 ·rw[hc,← heq,h1,live] at hj;cases hj
 ·obtain⟨i',hi'⟩:=Zav (h2 c hgt);rw[hc,Zc8 T.ris hi'] at hj;cases hj
structure TS(w:World)(hf:List Int->Int)(kf:Value->List Int)(vs done:List Value)(h:Heap)(a:Addr)(es:Array (Int×Value)):Prop where
 ob:∃ o ep t,h.get? a=some o/\o.ExactSet/\o.data=.set es ep t/\Tk t es.size/\t.led=!w.params.followText "set-order"
 mem:∀ e∈es.toList,e.2∈vs
 cov:∀ v∈done,∃ e∈es.toList,kf e.2=kf v
 len:es.size<=done.length
 nd:done.length<=5->(es.toList.map fun e=>kf e.2).Nodup
 rc:done.length<=4->∀ o ep t,h.get? a=some o->o.data=.set es ep t->t.mask=7/\∀ q∈t.place.toList.zip es.toList,q.2.1=hf (kf q.2.2)/\Rch t q.1 q.2.1
theorem notScan{x:Value}{k:List Int}{es:Array (Int×Value)}(hx:Kof prog w s.heap x k):byScan x es=false:=by
 obtain⟨c,rfl,_⟩:=hx;rfl
theorem Zj0{hf:List Int->Int}{kf:Value->List Int}{vs done:List Value}{a:Addr}{es:Array (Int×Value)}{x:Value}{Q:Bool->Shared->Prop}(S:TS w hf kf vs done s.heap a es)(hV:∀ v∈vs,Kof prog w s.heap v (kf v))(hu:A.units<cLine)(hx:x∈vs)(hroom:done.length<76)
  (hQ:∀ b h' es',Heap.SameBut a s.heap h'->TS w hf kf vs (done++[x]) h' a es'->Q b { s with heap:=h' }) {hh:Int} (hhx:hh=hf (kf x)):wpAny (model prog w) A (setAddHashed a x hh) Q E s:=by
 obtain⟨⟨o,ep,t,ho,hex,hd,T,hled⟩,hmem,hcov,hlen,hnd,hrc⟩:=id S;have hkx:=hV x hx;unfold setAddHashed setAddHashedIn;refine wpAny_holding (wpAny_bind (wpAny_setState_of ho hd T.fits ?_));dsimp only;rw[notScan hkx];simp only[Bool.false_eq_true,if_false];unfold setSearch;refine wpAny_bind (U4 (kf:=kf) (k:=kf x) ho hd T hu (fun e he=>hV _ (hmem e he)) hkx (fun j c0 hj hjc hHc=>?_) (fun hth=>?_) 100000 (10 * (13+t.mask)) 0 none ?_ (Nat.le_refl _) (Vx T.full T.dum T.le hh) rfl rfl (fun c' hc'=>absurd hc' (Nat.not_lt_zero _)))
 ·dsimp only;refine wpAny_bind (wpAny_setState_of ho hd T.fits ?_);dsimp only;have hlike:done.length<=4->∀ e∈es.toList,kf e.2≠kf x:=fun hl e he hek=>by
   have hr:=(hrc hl o ep t ho hd).2;have hi:e.1=hh:=by
    obtain⟨i,hi⟩:=Zav he;have hil:i<es.size:=(Array.getElem?_eq_some_iff.mp hi).1;have hip:i<t.place.size:=by rw[T.size];exact hil
    have hz:(t.place[i],e)∈t.place.toList.zip es.toList:=by
     refine List.mem_iff_getElem?.mpr ⟨i,?_⟩;rw[List.getElem?_zip_eq_some];exact⟨by rw[Array.getElem?_toList];simp[hip],by rw[Array.getElem?_toList];exact hi⟩
    rw[(hr _ hz).1,hhx,hek]
   exact Zig T hj hjc hHc (fun q hq _=>(hr q hq).2) e he hi hek
  have hreach:Rch (t.put j).1 j hh:=by
   have hm:(t.put j).1.mask=t.mask:=rfl;have hs:∀ y∈t.place.toList,y∈(t.put j).1.place.toList:=fun y hy=>(Z7 t.place (SetTable.below t.place j) j).mem_iff.mpr (List.mem_append.mpr (.inl hy));refine Rch.mono ⟨c0,hjc.symm,fun c' hc'=>?_⟩ hm hs;obtain⟨i,e,g1,_⟩:=hHc c' hc';have:=Xq g1;rw[← Array.getElem?_toList] at this;exact List.mem_of_getElem? this
  have hzip:∀ q∈(t.put j).1.place.toList.zip (SetTable.insertAt es (t.put j).2 (hh,x)).toList,q=(j,hh,x)∨q∈t.place.toList.zip es.toList:=fun q hq=>by
   have e1:(t.put j).1.place=SetTable.insertAt t.place (SetTable.below t.place j) j:=rfl;have e2:(t.put j).2=SetTable.below t.place j:=rfl;rw[e1,e2,Z6,Z6,List.zip_append (by rw[List.length_take,List.length_take,Array.length_toList,Array.length_toList,T.size])] at hq
   rw[List.zip_cons_cons] at hq;rcases List.mem_append.mp hq with hq | hq
   ·exact .inr (Ze9 hq)
   ·rcases List.mem_cons.mp hq with hq | hq
    ·exact .inl hq
    ·exact .inr (Zfg hq)
  have hmono:∀ y∈t.place.toList,y∈(t.put j).1.place.toList:=fun y hy=>(Z7 t.place (SetTable.below t.place j) j).mem_iff.mpr (List.mem_append.mpr (.inl hy));obtain⟨c,rfl,hc⟩:=id hkx;have p1:(t.put j).1.mask=t.mask:=rfl;have p2:(t.put j).1.place=SetTable.insertAt t.place (SetTable.below t.place j) j:=rfl;have p3:(t.put j).1.dummies=#[]:=by
   show (if SetTable.has t.dummies j=true then _ else t.dummies)=#[]
   rw[T.dum,Zax];rfl
  have p4:(t.put j).1.plain=true:=T.plain;have p5:(t.put j).1.led=t.led:=rfl;have p6:(t.put j).2=SetTable.below t.place j:=rfl;have p7:Ris (t.put j).1.place:=Vr T.ris hj;have p8:(t.put j).1.place.size=es.size+1:=by rw[p2,Ym,T.size]
  have e1:=Z7 es (t.put j).2 (hh,Value.ref c);have e2:(SetTable.insertAt es (t.put j).2 (hh,Value.ref c)).size=es.size+1:=Ym es _ _;generalize hes:SetTable.insertAt es (t.put j).2 (hh,Value.ref c)=es1 at e1 e2 hzip ⊢;generalize ht1:(t.put j).1=t1 at p1 p2 p3 p4 p5 p7 p8 hzip hreach hmono ⊢;have ndAll:∀ {l:List (Int×Value)},l.Perm es1.toList->(done++[Value.ref c]).length<=5->(l.map fun e=>kf e.2).Nodup:=fun {l} hp hl=>by
   rw[List.length_append,List.length_singleton] at hl;refine ((hp.trans e1).map _).nodup_iff.mpr ?_;rw[List.map_append];refine List.nodup_append.mpr ⟨hnd (by omega),by simp,fun a1 ha b1 hb=>?_⟩
   obtain⟨e,he,rfl⟩:=List.mem_map.mp ha;obtain rfl:b1=kf (Value.ref c):=by simpa using hb
   exact hlike (by omega) e he
  rw[if_pos p4];refine wpAny_bind (Ze5 hc ?_);simp only[if_true];have hsz:es1.size<=sizeLine:=by rw[e2,sizeLine_eq];omega
  refine wpAny_bind (wpAny_storeSet_of ho hd ?_ hsz);have ho1:(s.heap.update a (Obj.putSet es1 t1)).get? a=some { o with data:=.set es1 (ep+1) t1 }:=by
   have q:=Heap.get?_update_self (Obj.putSet es1 t1) ho (by rw[putSet_of es1 t1 hd];rfl)
   rw[putSet_of es1 t1 hd] at q;exact q
  have hs1:=Heap.SameBut.update s.heap a (Obj.putSet es1 t1);have m1:∀ {l:List (Int×Value)},l.Perm es1.toList->(∀ e∈l,e.2∈vs)/\∀ v∈done++[Value.ref c],∃ e∈l,kf e.2=kf v:=fun {l} hp=>by
   have hm:∀ e,e∈l↔e∈es.toList∨e=(hh,Value.ref c):=fun e=>by
    rw[hp.mem_iff,e1.mem_iff,List.mem_append,List.mem_singleton]
   refine⟨fun e he=>?_,fun v hv=>?_⟩
   ·rcases (hm e).mp he with z | rfl
    ·exact hmem e z
    ·exact hx
   ·rcases List.mem_append.mp hv with z | z
    ·obtain⟨e,q1,q2⟩:=hcov v z;exact⟨e,(hm e).mpr (.inl q1),q2⟩
    ·rw[List.mem_singleton.mp z];exact⟨_,(hm _).mpr (.inr rfl),rfl⟩
  have hfill:t1.fill=es.size+1:=by
   unfold SetTable.fill;rw[p3,p8];rfl
  refine wpAny_ite_split (fun hfull=>?_) fun hfull=>?_
  ·have hfull':(es.size+1) * 5 ≥ t.mask * 3:=by
    simp only[Bool.not_false,Bool.true_and] at hfull;unfold SetTable.tooFull at hfull;rw[hfill,p1] at hfull;exact of_decide_eq_true hfull
   obtain⟨nm,f,hsa,hr1,hr2,hr3⟩:∃ nm,Full (nm+1)/\SetTable.sizeAbove (SetTable.grown (es.size+1))=nm+1/\(nm=7∨nm=31∨nm=127)/\es.size+1<=nm/\(es.size+1) * 5<nm * 3:=by
    have hr:=T.room;rcases T.mask with h | h | h
    ·have e:es.size+1=5:=by rw[h] at hr hfull';omega
     rw[e];exact⟨31,full32,by decide,by decide,by decide,by decide⟩
    ·have e:es.size+1=19:=by rw[h] at hr hfull';omega
     rw[e];exact⟨127,full128,by decide,by decide,by decide,by decide⟩
    ·rw[h] at hfull';omega
   have fits1:t1.fits es1.size=true:=by
    unfold SetTable.fits;rw[hfill,p8,e2,p1];simp only[Bool.and_eq_true,beq_iff_eq,decide_eq_true_eq,true_and];have:=T.room;rcases T.mask with h | h | h<;>(rw[h] at this ⊢;omega)
   unfold setRelay;refine wpAny_bind (wpAny_bind (wpAny_setState_of ho1 rfl fits1 ?_));dsimp only;rw[hsa];refine wpAny_ite_split (fun z=>absurd z (by rw[sizeLine_eq];rcases hr1 with h | h | h<;>(rw[h];omega))) fun _=>?_
   obtain⟨t2,order,el,q1,q2,q3,q4,q5,q6,q7⟩:=Jg (mask:=nm) (finger:=t1.finger) (moves:=t1.movedTo nm) (led:=t1.led) (plain:=t1.plain) (hashes:=es1.map (·.1)) f (by rw[Array.size_map,e2];exact hr2)
   have er:t1.relaid (es1.map (·.1)) (SetTable.grown (es.size+1))=some (t2,order):=by
    unfold SetTable.relaid;rw[hsa];exact el
   rw[er];rw[Array.size_map] at q6 q7;have op:=Vw (es:=es1) q7;have osz:(order.filterMap (es1[·]?)).size=es1.size:=by rw[← Array.length_toList,op.length_eq,Array.length_toList]
   refine wpAny_bind ?_;show wpAny _ _ (if ((order.filterMap (es1[·]?)).size != es1.size)=true then _ else pure (order.filterMap (es1[·]?),t2)) _ _ _
   rw[if_neg (by rw[osz];simp)]
   refine wpAny_pure (wpAny_storeSet_of ho1 rfl ?_ (by rw[osz];exact hsz))
   dsimp only;generalize order.filterMap (es1[·]?)=es2 at op osz ⊢;have ho2:((s.heap.update a (Obj.putSet es1 t1)).update a (Obj.putSet es2 t2)).get? a=some { o with data:=.set es2 (ep+1+1) t2 }:=Heap.get?_update_self (Obj.putSet es2 t2) ho1 rfl
   have hs2:=Heap.SameBut.update (s.heap.update a (Obj.putSet es1 t1)) a (Obj.putSet es2 t2);refine wpAny_pure (hQ true _ es2 (hs1.trans hs2) ⟨⟨_,ep+1+1,t2,ho2,hex,rfl,⟨by rw[q1];exact hr1,q2,q5,by rw[q6,osz],by rw[osz,e2,q1];exact hr3,q4.trans p4⟩,(q3.trans p5).trans hled⟩,(m1 op).1,(m1 op).2,?_,ndAll op,fun hl=>?_⟩)
   ·rw[osz,e2,List.length_append,List.length_singleton];omega
   ·exfalso;rw[List.length_append,List.length_singleton] at hl;rcases T.mask with h | h | h<;>(rw[h] at hfull';omega)
  ·have hfull':(es.size+1) * 5<t.mask * 3:=by
    simp only[Bool.not_false,Bool.true_and] at hfull;unfold SetTable.tooFull at hfull;rw[hfill,p1] at hfull;simpa using hfull
   refine wpAny_pure (hQ true _ es1 hs1 ⟨⟨_,ep+1,t1,ho1,hex,rfl,⟨by rw[p1];exact T.mask,p3,p7,p8.trans e2.symm,by rw[e2,p1];exact hfull',p4⟩,p5.trans hled⟩,(m1 (List.Perm.refl _)).1,(m1 (List.Perm.refl _)).2,?_,ndAll (List.Perm.refl _),fun hl o' ep' t' ho' hd'=>?_⟩)
   ·rw[e2,List.length_append,List.length_singleton];omega
   ·rw[List.length_append,List.length_singleton] at hl;rw[ho1] at ho';cases ho';injection hd' with _ _ hd'
    subst hd';obtain⟨g1,g2⟩:=hrc (by omega) o ep t ho hd
    refine⟨p1.trans g1,fun q hq=>?_⟩;rcases hzip q hq with rfl | hq
    ·exact⟨hhx,hreach⟩
    ·exact⟨(g2 q hq).1,(g2 q hq).2.mono p1 hmono⟩
 ·refine wpAny_pure ?_;have e:s={ s with heap:=s.heap }:=by cases s;rfl
  rw[e];refine hQ _ s.heap es (Heap.SameBut.refl a s.heap) ⟨S.ob,hmem,fun v hv=>?_,by rw[List.length_append];omega,fun hl=>hnd (by rw[List.length_append] at hl;omega),fun hl=>hrc (by rw[List.length_append] at hl;omega)⟩
  rcases List.mem_append.mp hv with z | z
  ·exact hcov v z
  ·rw[List.mem_singleton.mp z];exact hth
 ·rcases T.mask with h | h | h<;>omega
end
end KS
end
section
namespace KS
open PySem KsTab PyProof.Rows
section
variable{prog:Program}{w:World}{A:Around}{E:Value->Shared->Prop}{s:Shared}
noncomputable abbrev newSetO(w:World):Obj:={ cls:=.type "set",dict:=none,data:=.set #[] 0 (.fresh 0 0 (!w.params.followText "set-order")) }
theorem Zfl{hf:List Int->Int}{kf:Value->List Int}{vs:List Value}{h:Heap}{a:Addr}(e:h.get? a=some (newSetO w)):TS w hf kf vs [] h a #[]:=
 ⟨⟨_,0,_,e,⟨rfl,rfl,rfl⟩,rfl,Za9 _ _ _,rfl⟩,fun e he=>(by simp at he),fun v hv=>(nomatch hv),Nat.le_refl _,fun _=>List.nodup_nil,fun _ o ep t ho hd=>by
  rw[e] at ho;cases ho;injection hd with _ _ hd
  subst hd;exact⟨rfl,fun q hq=>nomatch hq⟩⟩
theorem TS.at{hf:List Int->Int}{kf:Value->List Int}{vs done:List Value}{h h':Heap}{a:Addr}{es:Array (Int×Value)}(S:TS w hf kf vs done h a es)(k:∀ o,h.get? a=some o->h'.get? a=some o):TS w hf kf vs done h' a es:=by
 obtain⟨⟨o,ep,t,ho,r⟩,q1,q2,q3,q4,q5⟩:=S;refine⟨⟨o,ep,t,k o ho,r⟩,q1,q2,q3,q4,fun hl o' ep' t' ho' hd'=>?_⟩;rw[k o ho] at ho';cases ho';exact q5 hl o ep' t' ho hd'
theorem Zeo{kf:Value->List Int}{R:Result->Shared->Prop}{I l S:Addr}{items:Array Value}(hh:A.in1.handled=none)(hIl:l≠I)(hSI:S≠I)(hSl:S≠l)(hu:A.in1.units<cLine)(hz:items.size<=76):
  ∀ (k i:Nat) (s:Shared) (es:Array (Int×Value)),items.size - i=k->i<=items.size->s.heap.IsListIter I l i->s.heap.IsList l items->(∀ v∈items.toList,Kof prog w s.heap v (kf v))->(∀ c,Value.ref c∈items.toList->c≠I/\c≠S) ->
   TS w (tupleKeyHash (intKind prog w)) kf items.toList (items.toList.take i) s.heap S es ->
   (∀ h' tk es',(∀ b o,b≠I->b≠S->s.heap.get? b=some o->h'.get? b=some o)->TS w (tupleKeyHash (intKind prog w)) kf items.toList items.toList h' S es'->R (.ok (.ret .none)) { s with heap:=h',toks:=tk }) ->
   codeAny (model prog w) A (.builtin "set.update.loop" ⟨[.ref S,.ref I],[]⟩) R s:=by
 intro k
 induction k with
 | zero=>
  intro i s es hk hi hit hl hV hne hS hR;have ei:i=items.size:=by omega
  subst ei;refine codeAny_builtin PyProof.Rows.F.entry_set_update_loop ?_;rw[Around.under_plainId PyProof.Rows.F.plain_set_update_loop _];show wpAny _ A.in1 (pyNext (.ref I) >>= _) _ _ s;refine wpAny_bind (wpAny_pyNext_list_end hh hit hl (by simp) fun h' he=>?_)
  show wpAny _ A.in1 (ret Value.none) _ _ _;have e1:items.toList.take items.size=items.toList:=by rw[← Array.length_toList,List.take_length]
  rw[e1] at hS;exact wpAny_pure (hR h' s.toks es (fun b o hb _ e=>he b o hb e) (hS.at fun o e=>he S o hSI e))
 | succ k ih=>
  intro i s es hk hi hit hl hV hne hS hR;have hlt:i<items.size:=by omega
  refine codeAny_builtin PyProof.Rows.F.entry_set_update_loop ?_;rw[Around.under_plainId PyProof.Rows.F.plain_set_update_loop _];show wpAny _ A.in1 (pyNext (.ref I) >>= _) _ _ s;refine wpAny_bind (wpAny_pyNext_list_item hit hl (x:=items[i]) (by simp[hlt]) fun h1 hit1 sb=>?_)
  have kp1:∀ b o,b≠I->s.heap.get? b=some o->h1.get? b=some o:=fun b o hb e=>sb.extBut b o hb e;have hx:items[i]∈items.toList:=by simp
  have hV1:∀ v∈items.toList,Kof prog w h1 v (kf v):=fun v hv=>(hV v hv).at fun c o e=>kp1 c o (hne c (e▸hv)).1;obtain⟨c,ec,hc⟩:=hV1 _ hx;show wpAny _ A.in1 (holding [items[i]] (setAdd S items[i]) >>= _) _ _ _;refine wpAny_bind (wpAny_holding ?_);unfold setAdd;refine wpAny_holding (wpAny_bind ?_);have hV2:∀ v∈items.toList,Kof prog w ({ s with heap:=h1,toks:=s.toks+((kf items[i]).length+1) }:Shared).heap v (kf v):=hV1
  rw[ec];rw[ec] at hx;refine wpAny_pyHash_tuple (s:={ s with heap:=h1 }) hu hc ?_
  refine Zj0 (s:={ s with heap:=h1,toks:=s.toks+((kf items[i]).length+1) }) (hS.at fun o e=>kp1 S o hSI e) hV2 hu hx (by rw[List.length_take,Array.length_toList];omega) (fun b h2 es2 sb2 S2=>?_) (by rw[← ec])
  have kp2:∀ b o,b≠S->h1.get? b=some o->h2.get? b=some o:=fun b o hb e=>sb2.extBut b o hb e;have e2:items.toList.take i++[Value.ref c]=items.toList.take (i+1):=by
   rw[← ec,List.take_add_one];simp[hlt]
  rw[e2] at S2;refine wpAny_pure ⟨plainId_quiet PyProof.Rows.F.plain_set_update_loop _,ih (i+1) _ es2 (by omega) hlt (hit1.at fun o e=>kp2 I o (Ne.symm hSI) e) ?_ ?_ hne S2 fun h' tk es' kp S'=>?_⟩
  ·exact (hl.at fun o e=>kp1 l o hIl e).at fun o e=>kp2 l o (Ne.symm hSl) e
  ·exact fun v hv=>(hV1 v hv).at fun c o e=>kp2 c o (hne c (e▸hv)).2
  ·exact hR h' tk es' (fun b o hb hb' e=>kp b o hb hb' (kp2 b o hb' (kp1 b o hb e))) S'
theorem Zbc(v:Value){Q₁:Value->Shared->Prop}(h:Q₁ (.ref s.heap.objs.size) { s with heap:=s.heap.push (newSetO w) }):
  codeAny (model prog w) A (.call (.builtin "set.__new__") ⟨[.type "set",v],[]⟩) (wants Q₁ E) s:=by
 refine codeAny_of_tree ?_;show wpAny _ A.in1 (checkBuiltinCall "set.__new__" ⟨[.type "set",v],[]⟩ >>= fun _=>again (.builtin "set.__new__" ⟨[.type "set",v],[]⟩)) _ _ s;refine wpAny_bind (wpAny_of_eq (PySem.F.newCall_set_1 v) (wpAny_pure ⟨plainId_quiet PySem.F.plain_set_new _,codeAny_builtin PySem.F.entry_set_new ?_⟩));rw[Around.under_plainId PySem.F.plain_set_new _];unfold Builtin.«set.__new__» Builtin.Frozenset.newClass;have hsb:=sub_set_self;obtain⟨hp,g,d,tk,os⟩:=s;dsimp only at h ⊢
 wp_walk
 refine wpAny_askSetting (wpAny_pure ?_);dsimp only;simp only[newObj];exact wpAny_bind (wpAny_alloc (wpAny_pure (wpAny_pure h)))
set_option maxHeartbeats 8000000 in
theorem Jx{kf:Value->List Int}{l:Addr}{items:Array Value}{Q:Value->Shared->Prop}(hd:A.handled=none)(hu:A.units+8<cLine)(hl:s.heap.IsList l items)(hV:∀ v∈items.toList,Kof prog w s.heap v (kf v))(hz:items.size<=76)
  (h:∀ (h':Heap) (tk:Nat) (es:Array (Int×Value)),TS w (tupleKeyHash (intKind prog w)) kf items.toList items.toList h' s.heap.objs.size es->(∀ b o,s.heap.get? b=some o->h'.get? b=some o)->Q (.ref s.heap.objs.size) { s with heap:=h',toks:=tk }):
  wpAny (model prog w) A (call (.type "set") [.ref l]) Q E s:=by
 obtain⟨cc,tt,hmro⟩:=PySem.F.called_set.mro;have hmade:=PySem.F.called_set.made;have hsubt:=PySem.F.called_set.sub;refine wpAny_call (codeAny_of_tree ?_);show wpAny _ _ (callAny (.type "set") _) _ _ _;refine wpAny_pure ⟨Code.quiet_builtin _ (by decide +kernel),codeAny_builtin PySem.F.entry_type_call ?_⟩
 rw[Around.under_plain (weight_type_call_type "set" [.ref l] []) rfl];have k1:=PySem.F.called_set.notType;have k2:=PySem.F.called_set.canCreate;have k3:=PySem.F.typeCall_set_1 (.ref l)
 repeat (any_goals (first | assumption | wp_step))
 refine codeAny_mono (Zbc (.ref l) (E:=E) (Q₁:=fun ob s1=>ob=.ref s.heap.objs.size/\s1={ s with heap:=s.heap.push (newSetO w) }) ⟨rfl,rfl⟩) fun r s1 hr=>?_
 cases r with
 | error e=>exact hr
 | ok fl=>
  cases fl with
  | ret ob=>
   obtain⟨rfl,rfl⟩:=hr;have hS:(s.heap.push (newSetO w)).get? s.heap.objs.size=some (newSetO w):=Heap.get?_push_size _ rfl;have hT:Shared.TypeIs { s with heap:=s.heap.push (newSetO w) } (.ref s.heap.objs.size) "set":=⟨_,hS,rfl⟩
   have k4:=PySem.F.called_set.init.lookup;have k5:=PySem.F.called_set.init.bind (.ref s.heap.objs.size)
   repeat (any_goals (first | assumption | wp_step))
   refine codeAny_mono (codeAny_call_builtin (R:=wants (fun r s2=>r=.none/\∃ h' tk es,s2={ s with heap:=h',toks:=tk }/\TS w (tupleKeyHash (intKind prog w)) kf items.toList items.toList h' s.heap.objs.size es /\
     (∀ b o,s.heap.get? b=some o->h'.get? b=some o)) E) PySem.F.called_set.init.plain PySem.F.entry_set_init (check_set_init_1 hT ?_)) fun r2 s2 hr2=>?_
   ·obtain⟨ol,hol,hcl,nl,hdl⟩:=id hl;obtain⟨oc,od,oda,osl⟩:=ol;simp only at hcl hdl;subst hcl;subst hdl;have ho1:(s.heap.push (newSetO w)).get? l=some { cls:=.type "list",dict:=od,data:=.seq items nl,slots:=osl }:=Heap.get?_push_of_some _ hol;have j1:=PySem.F.sub_list_set;have j2:=PySem.F.sub_list_frozenset;have j3:(Value.type "list" == Value.type "dict")=false:=by decide
    have hl1:(s.heap.push (newSetO w)).IsList l items:=⟨_,ho1,rfl,nl,rfl⟩;unfold Builtin.«set.__init__» noKeywords Builtin.Frozenset.updateFrom;generalize hPI:pyIter=PI
    wp_walk
    subst hPI;refine wpAny_pyIter_list hl1 (wpAny_bind (wpAny_runValue ?_));have hlS:l<s.heap.objs.size:=Heap.lt_size hol;have sz:(s.heap.push (newSetO w)).objs.size=s.heap.objs.size+1:=Heap.size_push ..;have kp0:∀ b o,s.heap.get? b=some o->((s.heap.push (newSetO w)).push { cls:=.type "list_iterator",data:=.fields #[.ref l,.int 0 0] }).get? b=some o:=fun b o e=>Heap.get?_push_of_some _ (Heap.get?_push_of_some _ e);refine Zeo (kf:=kf) (I:=(s.heap.push (newSetO w)).objs.size) (l:=l) (S:=s.heap.objs.size) (items:=items) (by simp[hd]) (by rw[sz];exact Nat.ne_of_lt (Nat.lt_succ_of_lt hlS)) (by rw[sz];exact Nat.ne_of_lt (Nat.lt_succ_self _)) (Nat.ne_of_gt hlS) ?_ hz (items.size - 0) 0 _ #[] rfl (Nat.zero_le _)
     ⟨_,Heap.get?_push_size _ rfl,rfl,rfl⟩ (hl1.push _) (fun v hv=>(hV v hv).at fun c o _ e=>kp0 c o e) (fun c hc=>?_) (Zfl (Heap.get?_push_of_some _ hS)) fun h' tk es kp S'=>?_
    ·show A.units+1+1+1<cLine;omega
    ·obtain⟨d,e,_,_,_,ho,_⟩:=hV _ hc;cases e;have q:=Heap.lt_size ho;exact⟨by rw[sz];exact Nat.ne_of_lt (Nat.lt_succ_of_lt q),Nat.ne_of_lt q⟩
    ·refine wpAny_pure ?_;show wpAny _ _ (ret Value.none) _ _ _;refine wpAny_pure ⟨rfl,h',tk,es,rfl,S',fun b o e=>kp b o ?_ ?_ (kp0 b o e)⟩
     ·rw[sz];exact Nat.ne_of_lt (Nat.lt_succ_of_lt (Heap.lt_size e))
     ·exact Nat.ne_of_lt (Heap.lt_size e)
   ·cases r2 with
    | error e=>exact hr2
    | ok f2=>
     cases f2 with
     | ret r=>
      obtain⟨rfl,h',tk,es,rfl,S',kp⟩:=hr2
      repeat (any_goals (first | assumption | wp_step))
      exact h _ _ es S' kp
     | _=>exact hr2.elim
  | _=>exact hr.elim
end
end KS
end
section
namespace KS
open PySem KsTab PyProof.Rows
theorem V4{α:Type}:∀ {l:List α} {i:Nat} (h:i<l.length),([l[i]]++l.eraseIdx i).Perm l
 | [],i,h=>absurd h (Nat.not_lt_zero _)
 | a::l,0,_=>by simp
 | a::l,i+1,h=>by
  have hi:i<l.length:=by simpa using h
  have ih:=V4 (l:=l) (i:=i) hi;simp only[List.getElem_cons_succ,List.eraseIdx_cons_succ,List.singleton_append] at ih ⊢;exact (List.Perm.swap a l[i] _).trans (ih.cons a)
theorem Zdk{α:Type}(next:Nat->Nat):∀ (fuel k:Nat) (left:List α) (out:Array α),left.length<=fuel->(pickOrder.go next fuel k left out).toList.Perm (out.toList++left)
 | 0,k,left,out,h=>by
  have:left=[]:=List.length_eq_zero_iff.mp (by omega)
  subst this;unfold pickOrder.go;simp
 | fuel+1,k,left,out,h=>by
  unfold pickOrder.go;cases left with
  | nil=>simp
  | cons a r=>
   have hl:next k % (a::r).length<(a::r).length:=Nat.mod_lt _ (by simp)
   have e:(a::r)[next k % (a::r).length]? = some (a::r)[next k % (a::r).length]:=List.getElem?_eq_getElem hl;rw[e];dsimp only;refine (Zdk next fuel (k+1) _ _ (by rw[List.length_eraseIdx_of_lt hl];simp only[List.length_cons] at h ⊢;omega)).trans ?_
   rw[Array.toList_push,List.append_assoc];refine List.Perm.append_left _ ?_;exact V4 hl
theorem Zdj{α:Type}(next:Nat->Nat)(xs:Array α):(pickOrder next xs).toList.Perm xs.toList:=by
 unfold pickOrder;refine (Zdk next _ _ _ _ (by simp)).trans ?_
 simp
noncomputable def walkOf(w:World)(S:Addr)(ep:Nat)(es:Array (Int×Value)):Array (Int×Value):=if w.params.followText "set-order"=true then pickOrder (w.params.setOrder S ep) es else es
theorem Yd(w:World)(S:Addr)(ep:Nat)(es:Array (Int×Value)):(walkOf w S ep es).toList.Perm es.toList:=by
 unfold walkOf
 split
 ·exact Zdj _ _
 ·exact List.Perm.refl _
theorem slot_setit_next:Slot "set_iterator" "__next__" "set_iterator.__next__":=.of (owner:="set_iterator") (n:="__next__") (by rw[typeLookup_type,builtinLookup_eq_fast];kernel_rfl) (by decide +kernel)
 (by decide +kernel) (by decide +kernel) (by first | exact .inl (by decide +kernel) | exact .inr (by decide +kernel)) (by rw[isSubtype_type];kernel_rfl)
theorem Y4:Slot "set_iterator" "__iter__" "set_iterator.__iter__":=.of (owner:="set_iterator") (n:="__iter__") (by rw[typeLookup_type,builtinLookup_eq_fast];kernel_rfl) (by decide +kernel)
 (by decide +kernel) (by decide +kernel) (by first | exact .inl (by decide +kernel) | exact .inr (by decide +kernel)) (by rw[isSubtype_type];kernel_rfl)
theorem Y3:entryFor table "set_iterator.__next__"=some Builtin.«set_iterator.__next__» :=entryFor_of_tree (by kernel_rfl)
theorem Xf(a:Value):argsOk "set_iterator.__next__" ⟨[a],[]⟩:=by unfold argsOk;kernel_rfl
theorem entry_set_iter':entryFor table "set.__iter__"=some Builtin.«frozenset.__iter__» :=entryFor_alias (id':="frozenset.__iter__") (by kernel_rfl) rfl (by decide +kernel) (by kernel_rfl)
section
variable{prog:Program}{w:World}{A:Around}{E:Value->Shared->Prop}{s:Shared}
noncomputable def SetIt(h:Heap)(I S:Addr)(n j size ep:Nat):Prop:=h.get? I=some { cls:=.type "set_iterator",data:=.fields #[.int (j:Int) 0,.int (n:Int) 0,.ref S,.int (size:Int) 0,.int (ep:Int) 0] }
structure SetNow(w:World)(h:Heap)(I S:Addr)(es:Array (Int×Value))(ep n:Nat):Prop where
 it:∃ j,SetIt h I S n j es.size ep/\∃ o t,h.get? S=some o/\o.ExactSet/\o.data=.set es ep t/\Tk t es.size/\t.led=(!w.params.followText "set-order") /\
  (w.params.followText "set-order"=false->(∀ i v,i<n->t.place[i]? = some v->v<j)/\∀ i v,n<=i->t.place[i]? = some v->j<=v)
 le:n<=es.size
theorem Vq{S:Addr}{es:Array (Int×Value)}{ep n j:Nat}{o:Obj}{t:SetTable}{Q:Option (Value×Nat)->Shared->Prop}(ho:s.heap.get? S=some o)(hd:o.data=.set es ep t)(T:Tk t es.size)(hled:t.led=(!w.params.followText "set-order"))(hle:n<=es.size)
  (hord:w.params.followText "set-order"=false->(∀ i v,i<n->t.place[i]? = some v->v<j)/\∀ i v,n<=i->t.place[i]? = some v->j<=v)
  (h0:(walkOf w S ep es)[n]? = none->Q none s)
  (h1:∀ x j',(walkOf w S ep es)[n]? = some x->(w.params.followText "set-order"=false->(∀ i v,i<n+1->t.place[i]? = some v->v<j')/\∀ i v,n+1<=i->t.place[i]? = some v->j'<=v)->Q (some (x.2,j')) s):
  wpAny (model prog w) A (setNext S j n ep) Q E s:=by
 unfold setNext;refine wpAny_bind (wpAny_setState_of ho hd T.fits ?_);dsimp only;unfold setsByText;refine wpAny_bind (wpAny_bind (wpAny_askSetting (wpAny_pure ?_)));show wpAny _ _ (if w.params.followText "set-order"=true then _ else _) _ _ s
 cases hb:w.params.followText "set-order" with
 | true=>
  rw[if_pos rfl];refine wpAny_ite_split (fun z=>absurd z (by simp)) fun _=>?_
  have ew:walkOf w S ep es=pickOrder (w.params.setOrder S ep) es:=by unfold walkOf;rw[if_pos hb]
  refine wpAny_bind ?_;unfold setWalk;refine wpAny_bind (wpAny_setState_of ho hd T.fits ?_);dsimp only;unfold setsByText;refine wpAny_bind (wpAny_bind (wpAny_askSetting (wpAny_pure ?_)));show wpAny _ _ (if w.params.followText "set-order"=true then _ else _) _ _ s
  rw[if_pos hb];refine wpAny_bind (wpAny_askSetting (wpAny_pure (wpAny_pure ?_)));show Q (Option.map _ (pickOrder (w.params.setOrder S ep) es)[n]?) s;rw[← ew];cases q:(walkOf w S ep es)[n]? with
  | none=>exact h0 q
  | some x=>exact h1 x j q fun z=>by rw[hb] at z;cases z
 | false=>
  rw[if_neg (by decide)]
  have ew:walkOf w S ep es=es:=by unfold walkOf;rw[if_neg (by rw[hb];decide)]
  obtain⟨o1,o2⟩:=hord hb;have hdr:(!t.plain&&decide (es.size > 1))=false:=by rw[T.plain];rfl
  refine wpAny_ite_split (fun z=>absurd (show (!t.plain&&decide (es.size > 1))=true from z) (by rw[hdr];decide)) fun _=>?_
  refine wpAny_bind ?_;have hl:t.led=true:=by rw[hled,hb];rfl
  show wpAny _ _ (if (!t.led&&!es.isEmpty)=true then _ else pure ()) _ _ s
  rw[hl,if_neg (by simp)]
  refine wpAny_pure (wpAny_pure ?_);have hp:SetTable.below t.place j=n:=Ua T.ris (by rw[T.size];exact hle) o1 o2
  show Q (match es[SetTable.below t.place j]?,t.place[SetTable.below t.place j]? with | some (_,x),some j=>some (x,j+1) | _,_=>none) s
  rw[hp];rw[ew] at h0 h1;cases q:es[n]? with
  | none=>exact h0 q
  | some x=>
   have hn:n<t.place.size:=by rw[T.size];exact (Array.getElem?_eq_some_iff.mp q).1
   have ep':t.place[n]? = some t.place[n]:=by simp[hn]
   rw[ep'];dsimp only;refine h1 x _ q fun _=>⟨fun i v hi e=>?_,fun i v hi e=>?_⟩
   ·by_cases hin:i=n
    ·subst hin;rw[ep'] at e;cases e;exact Nat.lt_succ_self _
    ·exact Nat.lt_succ_of_lt (T.ris.lt (by omega) e ep')
   ·exact T.ris.lt (by omega) ep' e
theorem Zcg{I S:Addr}{es:Array (Int×Value)}{ep n:Nat}{x:Int×Value}{Q:Option Value->Shared->Prop}(hne:I≠S)(N:SetNow w s.heap I S es ep n)(hx:(walkOf w S ep es)[n]? = some x)
  (hQ:∀ h',SetNow w h' I S es ep (n+1)->Heap.SameBut I s.heap h'->Q (some x.2) { s with heap:=h' }):wpAny (model prog w) A (pyNext (.ref I)) Q E s:=by
 obtain⟨⟨j,hit,o,t,ho,hex,hd,T,hled,hord⟩,hle⟩:=N;have hT:s.TypeIs (.ref I) "set_iterator":=⟨_,hit,rfl⟩;unfold pyNext;refine wpAny_bind (wpAny_attempt (wpAny_callSpecial?_slot (name:=Str.ofString "__next__") hT slot_setit_next (wpAny_call_entry slot_setit_next hT Y3 ?_ (Xf _))));show wpAny _ _ (fieldsOf (.ref I) >>= _) _ _ s;refine wpAny_bind (wpAny_fieldsOf hit rfl ?_);dsimp only;refine wpAny_bind ?_;unfold setEntries;refine wpAny_bind (wpAny_setState_of ho hd T.fits (wpAny_pure ?_));refine wpAny_ite_split (fun z=>absurd z (by simp)) fun _=>?_
 simp only[Int.toNat_natCast];have hn:n<es.size:=by
  have q:=(Array.getElem?_eq_some_iff.mp hx).1;rw[← Array.length_toList,(Yd w S ep es).length_eq,Array.length_toList] at q;exact q
 refine wpAny_bind (Vq ho hd T hled hle hord (fun z=>by rw[hx] at z;cases z) fun y j' hy hord'=>?_)
 rw[hx] at hy;cases hy;dsimp only;refine wpAny_bind (wpAny_setField_rec hit (by simp) fun h1 e1 sb1=>?_)
 refine wpAny_bind (wpAny_setField_rec (s:={ s with heap:=h1 }) e1 (by simp) fun h2 e2 sb2=>?_)
 refine wpAny_pure ⟨_,rfl,wpAny_pure (hQ h2 ⟨⟨j',?_,o,t,?_,hex,hd,T,hled,hord'⟩,hn⟩ (sb1.trans sb2))⟩
 ·exact e2
 ·exact (sb2.2 S (Ne.symm hne)).trans ((sb1.2 S (Ne.symm hne)).trans ho)
theorem Zc9{I S:Addr}{es:Array (Int×Value)}{ep:Nat}{Q:Option Value->Shared->Prop}(hh:A.handled=none)(N:SetNow w s.heap I S es ep es.size)
  (hQ:∀ h',Heap.ExtBut I s.heap h'->Q none { s with heap:=h' }):wpAny (model prog w) A (pyNext (.ref I)) Q E s:=by
 obtain⟨⟨j,hit,o,t,ho,hex,hd,T,hled,hord⟩,hle⟩:=N;have hT:s.TypeIs (.ref I) "set_iterator":=⟨_,hit,rfl⟩;unfold pyNext;refine wpAny_bind (wpAny_attempt (wpAny_callSpecial?_slot (name:=Str.ofString "__next__") hT slot_setit_next (wpAny_call_entry slot_setit_next hT Y3 ?_ (Xf _))));show wpAny _ _ (fieldsOf (.ref I) >>= _) _ _ s;refine wpAny_bind (wpAny_fieldsOf hit rfl ?_);dsimp only;refine wpAny_bind ?_;unfold setEntries;refine wpAny_bind (wpAny_setState_of ho hd T.fits (wpAny_pure ?_));refine wpAny_ite_split (fun z=>absurd z (by simp)) fun _=>?_
 simp only[Int.toNat_natCast];have hn:(walkOf w S ep es)[es.size]? = none:=by
  rw[Array.getElem?_eq_none_iff,← Array.length_toList,(Yd w S ep es).length_eq,Array.length_toList];exact Nat.le_refl _
 refine wpAny_bind (Vq ho hd T hled hle hord (fun _=>?_) fun y j' hy hord'=>by rw[hn] at hy;cases hy)
 dsimp only;refine wpAny_bind (wpAny_setField_rec hit (by simp) fun h1 e1 sb1=>?_)
 show wpAny _ _ (newExc (.type "StopIteration") [] >>= _) _ _ _;refine wpAny_bind ?_;simp only[newExc,newTuple];refine wpAny_bind (wpAny_newObj_type ?_ (by size_fits))
 refine wpAny_bind (m:=firstArgMember _ _) (wpAny_of_eq (a:=Value.none) (by first | rfl | (simp only[firstArgMember];rfl)) (wpAny_newObj_type ?_ (by size_fits)))
 simp only[raiseNew];refine wpAny_bind (wpAny_handled ?_);rw[show A.in1.handled=none from hh];refine wpAny_bind (wpAny_pure (wpAny_throw ?_));refine wpAny_bind (wpAny_isInstance (T:="StopIteration") (b:=true) ⟨_,Heap.get?_push_size _ rfl,rfl⟩ isSubtype_stop ?_);exact wpAny_pure (hQ _ ((sb1.extBut.push _).push _))
end
end KS
end
section
namespace KS
open PySem KsTab PyProof.Rows
theorem Wi:entryFor table "set_iterator.__iter__"=some Builtin.«dict_keyiterator.__iter__» :=entryFor_alias (id':="dict_keyiterator.__iter__") (by kernel_rfl) rfl (by decide +kernel) (by kernel_rfl)
theorem Vm(a:Value):argsOk "set_iterator.__iter__" ⟨[a],[]⟩:=by unfold argsOk;kernel_rfl
section
variable{prog:Program}{w:World}{A:Around}{E:Value->Shared->Prop}{s:Shared}
theorem Zci{S:Addr}{es:Array (Int×Value)}{ep:Nat}{o:Obj}{t:SetTable}{Q:Value->Shared->Prop}(ho:s.heap.get? S=some o)(hex:o.ExactSet)(hd:o.data=.set es ep t)(T:Tk t es.size)(hled:t.led=(!w.params.followText "set-order"))
  (hQ:∀ h',SetNow w h' s.heap.objs.size S es ep 0->(∀ b o,s.heap.get? b=some o->h'.get? b=some o)->Q (.ref s.heap.objs.size) { s with heap:=h' }):wpAny (model prog w) A (pyIter (.ref S)) Q E s:=by
 have hT:s.TypeIs (.ref S) "set":=⟨o,ho,hex.1⟩;refine wpAny_pyIter_slot hT F.slot_set_iter (wpAny_call_entry F.slot_set_iter hT entry_set_iter' ?_ (F.args_set_iter_1 _));show wpAny _ _ (Builtin.Frozenset.sizeOf S >>= _) _ _ s;unfold Builtin.Frozenset.sizeOf setEntries;refine wpAny_bind (wpAny_bind (wpAny_bind (wpAny_setState_of ho hd T.fits (wpAny_pure (wpAny_pure ?_)))));unfold setDrawn;refine wpAny_bind (wpAny_bind (wpAny_setState_of ho hd T.fits ?_));dsimp only;unfold setsByText;refine wpAny_bind (wpAny_bind (wpAny_askSetting (wpAny_pure (wpAny_pure ?_))));have hdr:(!t.plain&&decide (es.size > 1))=false:=by rw[T.plain];rfl
 refine wpAny_ite_split (fun z=>?_) fun _=>?_
 ·simp only[Bool.and_eq_true] at z;exact absurd (show (!t.plain&&decide (es.size > 1))=true from z.2) (by rw[hdr];decide)
 ·refine wpAny_bind (wpAny_pure (wpAny_bind (wpAny_setEpoch_of ho hd T.fits (wpAny_bind ?_))));unfold newFields;refine wpAny_newObj_type (wpAny_pure ⟨_,rfl,"set_iterator",_,⟨_,Heap.get?_push_size _ rfl,rfl⟩,slot_setit_next.lookup,hQ _ ⟨⟨0,Heap.get?_push_size _ rfl,o,t,Heap.get?_push_of_some _ ho,hex,hd,T,hled,fun _=>⟨fun i v hi=>absurd hi (Nat.not_lt_zero _),fun i v _ _=>Nat.zero_le _⟩⟩,Nat.zero_le _⟩ fun b o e=>Heap.get?_push_of_some _ e⟩)
theorem setWalks{I S:Addr}{es:Array (Int×Value)}{ep:Nat}(hh:A.handled=none)(hne:I≠S):
  Walks prog w A I [I,S] [I] es.size (fun i v=>∃ x,(walkOf w S ep es)[i]? = some x/\v=x.2) (fun i h=>SetNow w h I S es ep i) where
 sub:=fun b hb=>by simp at hb;simp[hb]
 frame:=fun i h h' N k=>by
  obtain⟨⟨j,hit,o,t,ho,r⟩,hle⟩:=N;exact⟨⟨j,k I (by simp) _ hit,o,t,k S (by simp) _ ho,r⟩,hle⟩
 item:=fun i s Q E hi N hQ=>by
  have hl:(walkOf w S ep es).size=es.size:=by rw[← Array.length_toList,(Yd w S ep es).length_eq,Array.length_toList]
  have hx:(walkOf w S ep es)[i]? = some (walkOf w S ep es)[i]:=by simp[hl,hi]
  exact Zcg hne N hx fun h' N' sb=>hQ _ h' s.toks ⟨_,hx,rfl⟩ N' fun b o hb e=>sb.extBut b o (fun z=>hb (by simp[z])) e
 done:=fun s Q E N hQ=>Zc9 hh N fun h' eb=>hQ h' s.toks fun b o hb e=>eb b o (fun z=>hb (by simp[z])) e
 self:=fun i s Q E N hQ=>by
  obtain⟨⟨j,hit,_⟩,_⟩:=N;have hT:s.TypeIs (.ref I) "set_iterator":=⟨_,hit,rfl⟩;refine wpAny_pyIter_slot hT Y4 (wpAny_call_entry Y4 hT Wi ?_ (Vm _));show wpAny _ _ (ret (.ref I)) _ _ s;exact wpAny_pure ⟨_,rfl,"set_iterator",_,hT,slot_setit_next.lookup,hQ⟩
theorem Zct{R:Result->Shared->Prop}{S D:Addr}{es:Array (Int×Value)}{ep c₀:Nat}{o:Obj}{t:SetTable}(hh:A.handled=none)(ho:s.heap.get? S=some o)(hex:o.ExactSet)(hd:o.data=.set es ep t)(T:Tk t es.size)(hled:t.led=(!w.params.followText "set-order"))(res:Value)
  (hDS:D≠S) (hD:s.heap.get? D=some { cls:=.type "list",data:=.seq #[] c₀ }) (hz:es.size<=sizeLine)
  (hR:∀ h' tk acc c,(∀ b o,b≠D->s.heap.get? b=some o->h'.get? b=some o)->h'.get? D=some { cls:=.type "list",dict:=none,data:=.seq acc c,slots:=#[] }->acc.toList=(walkOf w S ep es).toList.map (·.2)->R (.ok (.ret res)) { s with heap:=h',toks:=tk }):
  wpAny (model prog w) A.in1 (Builtin.List.listExtendWith (.ref D) (.ref S) res) (fun fin s'=>match fin with | .done f=>R (.ok f) s' | .again c'=>c'.quiet=true/\codeAny (model prog w) A c' R s') (fun e s'=>R (.error e) s') s:=by
 have hT:s.TypeIs (.ref S) "set":=⟨o,ho,hex.1⟩;unfold Builtin.List.listExtendWith;refine wpAny_bind (wpAny_typeOf hT ?_);have q1:Builtin.List.listSameRef (.ref D) (.ref S)=false:=by simp[Builtin.List.listSameRef,hDS]
 have q2:(Value.type "set" == Value.type "list")=false:=by decide
 have q3:(Value.type "set" == Value.type "tuple")=false:=by decide
 simp only[q1,q2,q3,Bool.or_false,Bool.false_eq_true,if_false];refine wpAny_bind (Zci ho hex hd T hled fun h1 N1 k1=>?_);have hT1:Shared.TypeIs { s with heap:=h1 } (.ref S) "set":=⟨o,k1 S o ho,hex.1⟩
 have hDI:D≠s.heap.objs.size:=Nat.ne_of_lt (Heap.lt_size hD);have hIS:s.heap.objs.size≠S:=Nat.ne_of_gt (Heap.lt_size ho);have go:∀ h c₁ tk,SetNow w h s.heap.objs.size S es ep 0->(∀ b o,b≠D->s.heap.get? b=some o->h.get? b=some o)->h.get? D=some { cls:=.type "list",data:=.seq #[] c₁ } ->
   codeAny (model prog w) A (.builtin "list.extend.loop" ⟨[.ref D,.ref s.heap.objs.size,res],[]⟩) R { s with heap:=h,toks:=tk }:=by
  intro h c₁ tk N hk hD1;refine codeAny_extend_loopS (setWalks (A:=A.in1) (ep:=ep) (es:=es) hh hIS).toS hz D (by simp[hDI,hDS]) res es.size 0 _ #[] c₁ rfl (Nat.zero_le _) N hD1 (ItemsOf.nil _) fun s' acc' c' hm hS' hacc=>?_
  rw[Moved.eq_with hm];refine hR s'.heap s'.toks acc' c' (fun b o hb e=>hm.heap b o (fun hmem=>?_) (hk b o hb e)) hS' ?_
  ·rcases List.mem_cons.mp hmem with z | z
   ·exact hb z
   ·rw[List.mem_singleton.mp z] at e;exact absurd (Heap.lt_size e) (Nat.lt_irrefl _)
  ·obtain⟨a1,a2⟩:=hacc;have hl:(walkOf w S ep es).size=es.size:=by rw[← Array.length_toList,(Yd w S ep es).length_eq,Array.length_toList]
   apply List.ext_getElem?;intro i;rw[List.getElem?_map,Array.getElem?_toList,Array.getElem?_toList];cases q:acc'[i]? with
   | none=>
    have:acc'.size<=i:=Array.getElem?_eq_none_iff.mp q;have:(walkOf w S ep es)[i]? = none:=Array.getElem?_eq_none_iff.mpr (by omega)
    rw[this];rfl
   | some v=>
    obtain⟨x,hx,rfl⟩:=a2 i v q;rw[hx];rfl
 refine wpAny_bind (wpAny_holding ?_);unfold Builtin.List.listLengthHint;refine wpAny_bind (wpAny_specialOf hT1 F.slot_set_len.lookup ?_);dsimp only;rw[show splitId "set.__len__"=some ("set","__len__") from by decide +kernel]
 dsimp only;refine wpAny_bind (wpAny_isInstance hT1 sub_set_self ?_);refine wpAny_ite_split (fun z=>absurd z (by decide)) fun _=>?_
 refine wpAny_ite_split (fun _=>?_) fun z=>absurd (by decide +kernel) z
 refine wpAny_bind (wpAny_typeOf hT1 ?_);dsimp only;refine wpAny_pure ?_;have hD1:=k1 D _ hD;refine wpAny_ite_split (fun _=>?_) fun _=>wpAny_pure ⟨plainId_quiet F.plain_extend_loop _,go h1 c₀ _ N1 (fun b o _ e=>k1 b o e) hD1⟩;refine wpAny_bind (wpAny_rule (wpAny_bind ?_));show wpAny _ _ (updateSeq D (·.push .none) >>= fun _=>updateSeq D (·.pop)) _ _ _;refine wpAny_bind (wpAny_updateSeq hD1 rfl ?_);have hD2:=Heap.get?_update_self (Obj.mapSeq (·.push Value.none)) hD1 rfl;refine wpAny_updateSeq (hz:=by seq_fits) hD2 rfl ?_
 have hD3:=Heap.get?_update_self (Obj.mapSeq (·.pop)) hD2 rfl;have oth:∀ b o,b≠D->h1.get? b=some o->((h1.update D (Obj.mapSeq (·.push Value.none))).update D (Obj.mapSeq (·.pop))).get? b=some o:=fun b o hb e=>(Heap.get?_update_other _ _ (Ne.symm hb)).trans ((Heap.get?_update_other _ _ (Ne.symm hb)).trans e);refine wpAny_pure ⟨plainId_quiet F.plain_extend_loop _,go _ _ _ ?_ (fun b o hb e=>oth b o hb (k1 b o e)) hD3⟩;exact (setWalks (prog:=prog) (w:=w) (A:=A) (ep:=ep) (es:=es) hh hIS).frame 0 _ _ N1 fun b hb o e=>oth b o (by
  simp only[List.mem_cons,List.mem_singleton,List.not_mem_nil,or_false] at hb;rcases hb with rfl | rfl
  ·exact Ne.symm hDI
  ·exact Ne.symm hDS) e
theorem Vj{S:Addr}{es:Array (Int×Value)}{ep:Nat}{o:Obj}{t:SetTable}{Q:List Value->Shared->Prop}(hh:A.handled=none)(ho:s.heap.get? S=some o)(hex:o.ExactSet)(hd:o.data=.set es ep t)(T:Tk t es.size)(hled:t.led=(!w.params.followText "set-order"))
  (hz:es.size<=sizeLine) (hQ:∀ h' tk,(∀ b o,s.heap.get? b=some o->h'.get? b=some o)->Q ((walkOf w S ep es).toList.map (·.2)) { s with heap:=h',toks:=tk }):
  wpAny (model prog w) A (collect (.ref S)) Q E s:=by
 have hDS:s.heap.objs.size≠S:=Nat.ne_of_gt (Heap.lt_size ho);have hD:(s.heap.push (seqObj "list" #[] 0)).get? s.heap.objs.size=some { cls:=.type "list",data:=.seq #[] 0 }:=Heap.get?_push_size _ rfl;unfold collect;refine wpAny_bind (wpAny_runValue (codeAny_builtin entry_proto_collect' ?_));rw[Around.under_plainId (by decide +kernel) _]
 show wpAny _ _ (newList [] >>= fun d=>again (.builtin "list.__iadd__" ⟨[d,.ref S],[]⟩)) _ _ s;refine wpAny_bind (wpAny_newList (wpAny_pure ⟨Code.quiet_builtin _ (by decide +kernel),codeAny_builtin entry_list_iadd' ?_⟩))
 rw[Around.under_plainId (by decide +kernel) _]
 show wpAny _ A.in1 (Builtin.List.listExtendWith (.ref s.heap.objs.size) (.ref S) (.ref s.heap.objs.size)) _ _ { s with heap:=s.heap.push (seqObj "list" #[] 0) }
 refine wpAny_mono (Zct (s:={ s with heap:=s.heap.push (seqObj "list" #[] 0) }) (R:=fun r s'=>∃ h' tk acc c,r=.ok (.ret (.ref s.heap.objs.size))/\s'={ s with heap:=h',toks:=tk }/\(∀ b o,s.heap.get? b=some o->h'.get? b=some o) /\
   h'.get? s.heap.objs.size=some { cls:=.type "list",dict:=none,data:=.seq acc c,slots:=#[] }/\acc.toList=(walkOf w S ep es).toList.map (·.2)) hh (Heap.get?_push_of_some _ ho) hex hd T hled _ hDS hD hz
  fun h' tk acc c kp hD' ha=>⟨h',tk,acc,c,rfl,rfl,fun b o e=>kp b o (Nat.ne_of_lt (Heap.lt_size e)) (Heap.get?_push_of_some _ e),hD',ha⟩) (fun fin s' hq=>?_) fun e s' ⟨_,_,_,_,z,_⟩=>by cases z
 cases fin with
 | done f=>
  obtain⟨h',tk,acc,c,z,rfl,kp,hD',ha⟩:=hq;cases z;show wpAny _ _ (load s.heap.objs.size >>= _) _ _ _;refine wpAny_bind (wpAny_load hD' ?_);dsimp only;refine wpAny_pure ?_;rw[ha];exact hQ h' tk kp
 | again c'=>
  refine⟨hq.1,codeAny_mono hq.2 fun r s1 ⟨h',tk,acc,c,z,e1,kp,hD',ha⟩=>?_⟩;subst z;subst e1;show wpAny _ _ (load s.heap.objs.size >>= _) _ _ _;refine wpAny_bind (wpAny_load hD' ?_);dsimp only;refine wpAny_pure ?_;rw[ha];exact hQ h' tk kp
end
end KS
end
section
namespace KS
open PySem KsTab PyProof.Rows PySem.W
section
variable{N:Nat}(hN:0<N)
include hN
end
section
variable{prog:Program}{w:World}{A:Around}{E:Value->Shared->Prop}{s:Shared}
theorem Us{k:List Int}:∀ {us:List Value},ItemsAre (intKind prog w) k us->∀ v∈us,∃ i t,v=Value.int i t:=by
 intro us h
 induction h with
 | nil=>intro v hv;cases hv
 | @cons k0 _ _ _ h1 _ ih=>
  intro v hv;rcases List.mem_cons.mp hv with rfl | hv
  ·obtain⟨t,e⟩:=Value.isInt_shape h1;exact⟨k0,t,e⟩
  ·exact ih v hv
theorem Jp{h:Heap}{kf:Value->List Int}:∀ (vs:List Value),(∀ v∈vs,Kof prog w h v (kf v)/\kf v≠[])->∃ fs,KatTups h vs fs/\fs.length=vs.length/\∀ v∈fs,∃ i t,v=Value.int i t
 | [],_=>⟨[],trivial,rfl,fun v hv=>(nomatch hv)⟩
 | v::vs,hv=>by
  obtain⟨fs,h1,h2,h3⟩:=Jp vs fun u hu=>hv u (List.mem_cons_of_mem _ hu);obtain⟨⟨a,rfl,o,its,n,ho,hc,hd,ti⟩,hne⟩:=hv v List.mem_cons_self;have hall:=Us ti;obtain⟨l,hl⟩:∃ l,its.toList=l:=⟨_,rfl⟩;rw[hl] at ti hall;generalize kf (Value.ref a)=kk at ti hne;cases ti with
  | nil=>exact absurd rfl hne
  | @cons k0 u ks us q1 q2=>
   obtain⟨i,t,eu⟩:=hall u List.mem_cons_self;refine⟨u::fs,KatTups.cons ho hc hd ?_ h1,by rw[List.length_cons,List.length_cons,h2],fun v hv=>?_⟩
   ·rw[← Array.getElem?_toList,hl];rfl
   ·rcases List.mem_cons.mp hv with rfl | hv
    ·exact⟨i,t,eu⟩
    ·exact h3 v hv
end
end KS
end
section
namespace KS
open PySem PySem.Spec L2
open PyProof.Rows hiding St
noncomputable def clFold(env:Env):List (Str×NameKind)->List (Str×Addr)->List (Str×Addr)
 | [],acc=>acc
 | (n,k)::r,acc=>if (k == NameKind.free)=true then clFold env r ((n,(env.cells.lookup n).getD 0)::acc) else clFold env r acc
theorem Xd{env:Env}:∀ (l:List (Str×NameKind)) (acc:List (Str×Addr)),(∀ y∈l,y.2=.free->(env.cells.lookup y.1).isSome=true) ->
  (forIn l acc fun (x:Str×NameKind) (r:List (Str×Addr))=>match x with
   | (name,kind)=>if (kind == NameKind.free)=true then do
      let a ← cellOf env name
      pure (ForInStep.yield ((name,a)::r))
     else pure (ForInStep.yield r):Sem (List (Str×Addr)))=pure (clFold env l acc)
 | [],acc,_=>rfl
 | (n,k)::l,acc,h=>by
  rw[List.forIn_cons];have hr:∀ y∈l,y.2=.free->(env.cells.lookup y.1).isSome=true:=fun y hy=>h y (List.mem_cons_of_mem _ hy);dsimp only;by_cases hk:(k == NameKind.free)=true
  ·rw[if_pos hk];obtain⟨c,hc⟩:=Option.isSome_iff_exists.mp (h (n,k) List.mem_cons_self (eq_of_beq hk));have e1:cellOf env n=pure c:=by unfold cellOf;rw[hc]
   have e2:clFold env ((n,k)::l) acc=clFold env l ((n,c)::acc):=by
    show (if (k == NameKind.free)=true then _ else _)=_
    rw[if_pos hk,hc];rfl
   rw[e1,e2];exact Xd l _ hr
  ·rw[if_neg hk];have e2:clFold env ((n,k)::l) acc=clFold env l acc:=by
    show (if (k == NameKind.free)=true then _ else _)=_
    rw[if_neg hk]
   rw[e2];exact Xd l _ hr
theorem V6{scope:Scope}{env:Env}(h:∀ y∈scope.names,y.2=.free->(env.cells.lookup y.1).isSome=true):closureFor scope env=pure (clFold env scope.names []):=by
 have e:=Xd scope.names [] h;unfold closureFor;simp only[] at e ⊢
 first
  | (rw[e];rfl)
  | exact e
  | (refine Eq.trans (congrArg (fun m=>m >>= fun r=>pure r) e) rfl)
theorem Yo{env:Env}{x:Str}{c:Addr}:∀ (l:List (Str×NameKind)) (acc:List (Str×Addr)),(∀ y∈l,y.2=.free->(env.cells.lookup y.1).isSome=true) ->
  (∀ y d,acc.lookup y=some d->env.cells.lookup y=some d)->(clFold env l acc).lookup x=some c->env.cells.lookup x=some c
 | [],acc,_,ha,h=>ha x c h
 | (n,k)::l,acc,hl,ha,h=>by
  have hr:∀ y∈l,y.2=.free->(env.cells.lookup y.1).isSome=true:=fun y hy=>hl y (List.mem_cons_of_mem _ hy);by_cases hk:(k == NameKind.free)=true
  ·have e2:clFold env ((n,k)::l) acc=clFold env l ((n,(env.cells.lookup n).getD 0)::acc):=by
    show (if (k == NameKind.free)=true then _ else _)=_
    rw[if_pos hk]
   rw[e2] at h;refine Yo l _ hr (fun y d e=>?_) h;rw[List.lookup_cons] at e;by_cases hy:(y == n)=true
   ·rw[hy] at e;have ey:y=n:=eq_of_beq hy;subst ey;obtain⟨c',hc⟩:=Option.isSome_iff_exists.mp (hl (y,k) List.mem_cons_self (eq_of_beq hk));rw[hc] at e ⊢;exact e
   ·have hy':(y == n)=false:=by cases q:(y == n) with | true=>exact absurd q hy | false=>rfl
    rw[hy'] at e;exact ha y d e
  ·have e2:clFold env ((n,k)::l) acc=clFold env l acc:=by
    show (if (k == NameKind.free)=true then _ else _)=_
    rw[if_neg hk]
   rw[e2] at h;exact Yo l _ hr ha h
theorem Xe{env:Env}{x:Str}:∀ (l:List (Str×NameKind)) (acc:List (Str×Addr)),(acc.lookup x).isSome=true->((clFold env l acc).lookup x).isSome=true
 | [],_,h=>h
 | (n,k)::l,acc,h=>by
  show (List.lookup x (if (k == NameKind.free)=true then _ else _)).isSome=true
  split
  ·refine Xe l _ ?_;rw[List.lookup_cons]
   split
   ·rfl
   ·exact h
  ·exact Xe l _ h
theorem Xj{env:Env}{x:Str}:∀ (l:List (Str×NameKind)) (acc:List (Str×Addr)),(x,NameKind.free)∈l->((clFold env l acc).lookup x).isSome=true
 | [],_,h=>nomatch h
 | (n,k)::l,acc,h=>by
  show (List.lookup x (if (k == NameKind.free)=true then _ else _)).isSome=true
  rcases List.mem_cons.mp h with e | h
  ·cases e;rw[if_pos (by rfl)]
   refine Xe l _ ?_;rw[List.lookup_cons];simp
  ·split
   ·exact Xj l _ h
   ·exact Xj l _ h
theorem Yq{scope:Scope}{env:Env}{x:Str}:(relabel scope env).names.lookup x =
  (scope.names.lookup x).map fun k=>if (k == NameKind.free&&env.scope.kind == .function&&env.kindOf x == some .cell)=true then .cell else k:=by
 unfold relabel;dsimp only
 induction scope.names with
 | nil=>rfl
 | cons y l ih=>
  obtain⟨n,k⟩:=y;rw[List.map_cons];by_cases hx:(x == n)=true
  ·have ex:x=n:=eq_of_beq hx;subst ex;dsimp only
   split
   ·rename_i hc
    rw[List.lookup_cons,List.lookup_cons,hx];show some NameKind.cell=_;simp only[Option.map_some];rw[if_pos hc]
   ·rename_i hc
    rw[List.lookup_cons,List.lookup_cons,hx];show some k=_;simp only[Option.map_some];rw[if_neg hc]
  ·have hx':(x == n)=false:=by cases q:(x == n) with | true=>exact absurd q hx | false=>rfl
   rw[List.lookup_cons (a:=x) (b:=k) (k:=n),hx'];dsimp only
   split
   ·rw[List.lookup_cons,hx'];exact ih
   ·rw[List.lookup_cons,hx'];exact ih
theorem Va{l:List (Str×NameKind)}{x:Str}{k:NameKind}(h:l.lookup x=some k):(x,k)∈l:=PySem.mem_of_lookup h
structure CompOk(scope:Scope)(xs:List Str)(osc:Scope)(N:List Str):Prop where
 kind:scope.kind=.function
 nocell:∀ y∈scope.names,y.2≠.cell
 free:∀ y∈scope.names,y.2=.free->osc.names.lookup y.1=some .cell∨osc.names.lookup y.1=some .free
 loc:∀ y∈scope.names,y.2=.local->scope.names.lookup y.1=some .local
 own:∀ y∈N,scope.names.lookup y=some .local->y∈xs
 empty:scope.names.lookup Str.empty=none
noncomputable def blkN(N xs:List Str):List Str:=N.map (fun y=>if xs.contains y=true then Str.empty else y)++xs
noncomputable def blk(X:Cx)(scope:Scope)(xs:List Str)(cl:List (Str×Addr))(C:Addr)(s₀:Shared)(H₀:Hp)(ex:List Addr):Cx:=
 { X with N:=blkN X.N xs,s₀:=s₀,H₀:=H₀,env:=compEnvC scope cl C X.env,outer:=X.stack,ex:=ex,fn:=fun _=>false,pn:=[],xe:=fun _ _=>False }
noncomputable def PIf(X:Cx)(ifs:List Expr)(t:TT):Prop:=
 ∀ (pins:List (Addr×Obj)) (s:Shared) (σ:St) (H:Hp) (Q:Bool->Hp->Prop),Inv X pins σ H s->t σ H Q ->
  wpAny (model X.prog X.w) X.A (forIn ifs true fun c r=>if r=true then do let ok ← isTrue c X.env (eval c X.env);pure (ForInStep.yield ok) else pure (ForInStep.yield r)) (TP X pins σ Q) X.xe s
noncomputable def tAll:TT:=fun _ H Q=>Q true H
theorem Um{X:Cx}:PIf X [] tAll:=fun _ _ _ H _ I h=>wpAny_tests_nil ⟨H,I,h⟩
theorem Wu{X:Cx}{c:Expr}{t:TT}(hc:PT X c t):PIf X [c] t:=fun pins s σ H Q I h=>wpAny_tests_one (hc pins s σ H Q I h)
noncomputable def CompW(n:Nat)(J:It)(g:TG)(tt:TT)(te:TE)(σ:St)(Q:VK)(W:Nat->Nat->List V->Hp->Prop):Prop:=
 ∀ i m ys H,W i m ys H ->
  (J.stop i H/\ys.length<=sizeLine/\∀ p,H p=none->Q (.ref p) (upd H p (.lst ys))) ∨
  (J.go i H/\ys.length<sizeLine/\∃ N:List V->Hp->Prop,(∀ ys' H',N ys' H'->∃ m',m'<m/\W (i+1) m' ys' H')/\∀ x H',J.yld i H x H'->g x (σ++List.replicate n none) H' fun σ2 H2=>σ2.take σ.length=σ /\
   tt σ2 H2 fun c H3=>if c=true then te σ2 H3 fun v H4=>N (ys++[v]) H4 else N ys H3)
noncomputable def tComp(n:Nat)(wi:TI)(g:TG)(tt:TT)(te:TE):TE:=fun σ H Q=>wi σ H fun J H1=>∃ W:Nat->Nat->List V->Hp->Prop,(∃ m,W 0 m [] H1)/\CompW n J g tt te σ Q W
theorem Xi{n k:Nat}{lo:Int}{g:TG}{tt:TT}{te:TE}{σ:St}{Q:VK}{H:Hp}(Pv:Nat->List V->Hp->Prop)(h0:Pv 0 [] H)(hn:n<sizeLine)(hl:∀ i ys H,Pv i ys H->ys.length<=i)
  (hs:∀ i ys H,i<n->Pv i ys H->g (.int (lo+i)) (σ++List.replicate k none) H fun σ2 H2=>σ2.take σ.length=σ/\tt σ2 H2 fun c H3=>if c=true then te σ2 H3 fun v H4=>Pv (i+1) (ys++[v]) H4 else Pv (i+1) ys H3)
  (hd:∀ ys H p,Pv n ys H->H p=none->Q (.ref p) (upd H p (.lst ys))):∃ W:Nat->Nat->List V->Hp->Prop,(∃ m,W 0 m [] H)/\CompW k (Itr lo n) g tt te σ Q W:=by
 refine⟨fun i m ys H=>m=n - i/\i<=n/\Pv i ys H,⟨n,by simp,Nat.zero_le _,h0⟩,?_⟩
 rintro i m ys H ⟨rfl,hi,p⟩;have hy:=hl i ys H p;by_cases hlt:i<n
 ·refine .inr ⟨hlt,by omega,Pv (i+1),fun ys' H' p'=>⟨n - (i+1),by omega,rfl,hlt,p'⟩,fun x H' y=>?_⟩
  obtain⟨e,y⟩:=y;subst e y;exact hs i ys _ hlt p
 ·have e:i=n:=by omega
  subst e;exact .inl ⟨Nat.le_refl _,by omega,fun q hq=>hd ys H q p hq⟩
theorem Xy{k:Nat}{K:PySem.W.Frag}{a:Addr}{xs:List V}{g:TG}{tt:TT}{te:TE}{σ:St}{Q:VK}{H:Hp}(Pv:Nat->List V->Hp->Prop)(h0:Pv 0 [] H)(hn:xs.length<sizeLine)(hl:∀ i ys H,Pv i ys H->ys.length<=i/\SqL K H a xs)
  (hs:∀ i x ys H,xs[i]? = some x->Pv i ys H->g x (σ++List.replicate k none) H fun σ2 H2=>σ2.take σ.length=σ/\tt σ2 H2 fun c H3=>if c=true then te σ2 H3 fun v H4=>Pv (i+1) (ys++[v]) H4 else Pv (i+1) ys H3)
  (hd:∀ ys H p,Pv xs.length ys H->H p=none->Q (.ref p) (upd H p (.lst ys))):∃ W:Nat->Nat->List V->Hp->Prop,(∃ m,W 0 m [] H)/\CompW k (Itl K a) g tt te σ Q W:=by
 refine⟨fun i m ys H=>m=xs.length - i/\i<=xs.length/\Pv i ys H,⟨xs.length,by simp,Nat.zero_le _,h0⟩,?_⟩
 rintro i m ys H ⟨rfl,hi,p⟩;obtain⟨hy,hq⟩:=hl i ys H p;by_cases hlt:i<xs.length
 ·refine .inr ⟨⟨xs,xs[i],hq,by simp[hlt]⟩,by omega,Pv (i+1),fun ys' H' p'=>⟨xs.length - (i+1),by omega,rfl,hlt,p'⟩,fun x H' y=>?_⟩
  obtain⟨e,y⟩:=y;subst e;exact hs i x ys _ (y xs hq) p
 ·have e:i=xs.length:=by omega
  subst e;exact .inl ⟨⟨xs,hq,Nat.le_refl _⟩,by omega,fun q hq=>hd ys H q p hq⟩
theorem Jq{prog:Program}{w:World}{A:Around}{R:Result->Shared->Prop}{s:Shared}{elt target iter:Expr}{ifs:List Expr}{scope:Scope}{pos:Pos}{it acc:Value}{env:Env}(Iv:Nat->Shared->Prop)
  (turn:∀ n s,Iv n s->wpAny (model prog w) A (pyNext it) (fun r s₁=>(r=none/\R (.ok .next) s₁)∨∃ v,r=some v /\
    wpAny (model prog w) A (letOwnedTupleGo target it v) (fun _ t₁=>wpAny (model prog w) A (assign target env v) (fun _ s₂=>
     wpAny (model prog w) A (forIn ifs true fun c r=>if r=true then do let ok ← isTrue c env (eval c env);pure (ForInStep.yield ok) else pure (ForInStep.yield r)) (fun ok s₃=>
      if ok=true then wpAny (model prog w) A (eval elt env) (fun x s₄=>
       wpAny (model prog w) A (call (.builtin "list.append") [acc,x]) (fun _ s₅=>∃ m,m<n/\Iv m s₅) (fun _ _=>False) s₄) (fun _ _=>False) s₃
      else ∃ m,m<n/\Iv m s₃) (fun _ _=>False) s₂) (fun _ _=>False) t₁) (fun _ _=>False) s₁) (fun _ _=>False) s)
  (n:Nat) (h:Iv n s):codeAny (model prog w) A (.compLoop (.ListComp elt [⟨target,iter,ifs,0⟩] scope pos) 0 it acc env) R s:=by
 refine codeAny_loop rfl Iv (fun n s hI=>?_) n h;show wpAny _ A ((compTurn (.ListComp elt [⟨target,iter,ifs,0⟩] scope pos) 0 it acc env).onRaise (fun x=>do noteFrame x env;theTreesLotGoes x)) _ _ s
 refine wpAny_noted ?_;rw[compTurn_list];refine wpAny_bind (wpAny_standAt (wpAny_bind (wpAny_mono (turn n s hI) (fun r s₁ q1=>?_) fun _ _ z=>z.elim)));rcases q1 with ⟨rfl,q⟩ | ⟨v,rfl,q⟩
 ·exact wpAny_pure q
 ·refine wpAny_bind (wpAny_mono q (fun _ t₁ q2=>?_) fun _ _ z=>z.elim);refine wpAny_bind (wpAny_mono q2 (fun _ s₂ q3=>?_) fun _ _ z=>z.elim);refine wpAny_bind (wpAny_mono q3 (fun ok s₃ q4=>?_) fun _ _ z=>z.elim);cases ok with
  | false=>
   have q5:∃ m,m<n/\Iv m s₃:=q4;exact wpAny_pure ⟨rfl,q5⟩
  | true=>
   refine wpAny_bind (wpAny_bind (wpAny_mono q4 (fun x s₄ q5=>?_) fun _ _ z=>z.elim));exact wpAny_bind (wpAny_mono q5 (fun _ s₅ q6=>wpAny_pure (wpAny_pure ⟨rfl,q6⟩)) fun _ _ z=>z.elim)
theorem HOk.adopt{P:Program}{w:World}{H:Hp}{h:Heap}{a:Addr}{o:HO}(x:HOk P w H h)(hn:H a=none)(new:ObjOk P w (upd H a o) h a o):HOk P w (upd H a o) h:=fun b u e=>by
 by_cases hb:b=a
 ·subst hb;rw[Zb] at e;cases e;exact new
 ·rw[Zh hb] at e;exact (x b u e).stay (fun _ _ _ q=>q) (fun c q=>by rw[Zh (Zf q hn)];exact q) fun c xs q=>by rw[Zh (Zf q hn)];exact q
section
variable{X:Cx}{elt tg iter:Expr}{ifs:List Expr}{scope:Scope}{xs:List Str}{pos:Pos}{g:TG}{tt:TT}{te:TE}
theorem Zjy{pins:List (Addr×Obj)}{σ:St}{H:Hp}{s:Shared}{C:Addr}{fp:List Addr}(I:Inv X pins σ H s)(K:CompOk scope xs X.env.scope X.N)(hC:s.heap.objs.size<=C)(hf:∀ b∈fp,FpOk X pins H b)(hfl:∀ b∈fp,b<s.heap.objs.size):
  (blk X scope xs (clFold X.env scope.names []) C s H fp).Ok:=by
 have hcl:∀ y∈scope.names,y.2=.free->(X.env.cells.lookup y.1).isSome=true:=fun y hy hk=>by
  obtain⟨c,hc⟩:=I.ok.has y.1 (K.free y hy hk);rw[hc];rfl
 have look:∀ x c,(clFold X.env scope.names []).lookup x=some c->X.env.cells.lookup x=some c:=fun x c e=>Yo scope.names [] hcl (fun y d z=>by cases z) e
 refine⟨I.ok.mod,K.kind,I.ok.glob,I.ok.blt,hC,fun x y c h1 h2=>I.ok.inj x y c (look x c h1) (look y c h2),fun x hx=>?_,fun x c z=>Bool.noConfusion z,I.ok.hd,I.ok.frames,.inl rfl,fun b hb=>⟨Nat.ne_of_lt (Nat.lt_of_lt_of_le (hfl b hb) hC),fun x c e=>(hf b hb).2.2.2.2.1 x c (look x c e)⟩,
  I.bs,Nat.le_trans I.ok.bsz I.sz,fun b o e hb=>?_,fun b hb hm=>?_,I.stack,I.stkFree⟩
 ·have hx':(relabel scope X.env).names.lookup x=some .cell∨(relabel scope X.env).names.lookup x=some .free:=hx;rw[Yq] at hx';cases q:scope.names.lookup x with
  | none=>rw[q] at hx';rcases hx' with z | z<;>cases z
  | some k=>
   have hm:=Va q;have hk:k=.free:=by
    rw[q] at hx';simp only[Option.map_some] at hx'
    split at hx'
    ·rename_i hc
     simp only[Bool.and_eq_true] at hc;exact eq_of_beq hc.1.1
    ·rcases hx' with z | z
     ·exact absurd (Option.some.inj z) (K.nocell (x,k) hm)
     ·exact Option.some.inj z
   subst hk;exact Option.isSome_iff_exists.mp (Xj scope.names [] hm)
 ·rcases (hf b hb).2.2.2.1 with z | z
  ·exact I.ok.noex b o e z
  ·exact absurd (Nat.lt_of_lt_of_le (Heap.lt_size e) (Nat.le_trans I.ok.bsz z)) (Nat.lt_irrefl _)
 ·rcases List.mem_cons.mp (I.stkSub b hm) with z | z
  ·exact (hf b hb).2.1 z
  ·exact (hf b hb).2.2.1 z
theorem Ziz{pins:List (Addr×Obj)}{σ:St}{H:Hp}{s:Shared}{C:Addr}{fp:List Addr}{h1:Heap}{m1:Str->Option Value}{tk:Nat}(I:Inv X pins σ H s)(K:CompOk scope xs X.env.scope X.N)(hC:s.heap.objs.size<=C)(hf:∀ b∈fp,FpOk X pins H b)(hfl:∀ b∈fp,b<s.heap.objs.size)
  (keep:∀ b o,s.heap.get? b=some o->h1.get? b=some o) (hns:h1.Ns C m1):
  Inv (blk X scope xs (clFold X.env scope.names []) C s H fp) [] (σ++List.replicate xs.length none) H { s with heap:=h1,toks:=tk }:=by
 have ok:=Zjy (scope:=scope) (xs:=xs) I K hC hf hfl;have hcl:∀ y∈scope.names,y.2=.free->(X.env.cells.lookup y.1).isSome=true:=fun y hy hk=>by
  obtain⟨c,hc⟩:=I.ok.has y.1 (K.free y hy hk);rw[hc];rfl
 have look:∀ x c,(clFold X.env scope.names []).lookup x=some c->X.env.cells.lookup x=some c:=fun x c e=>Yo scope.names [] hcl (fun y d z=>by cases z) e
 have cellK:∀ x c v,X.env.cells.lookup x=some c->s.heap.IsCell c v->h1.IsCell c v:=fun x c v _ ⟨o,ho,hd⟩=>⟨o,keep c o ho,hd⟩;refine⟨ok,rfl,I.bare,Un.kept keep,⟨m1,hns,fun i x v e1 e2 e3=>?_⟩,fun x c e=>?_,I.hok.fresh hC,fun x c e=>I.freeC x c (look x c e),fun p hp=>absurd (show p∈([]:List (Addr×Obj)) from hp) (by simp),I.hok.kept keep,?_⟩
 ·have hi:i<σ.length:=by
   by_cases hi:i<σ.length
   ·exact hi
   ·rw[List.getElem?_append_right (Nat.le_of_not_lt hi),List.getElem?_replicate] at e2
    split at e2<;>cases e2
  rw[List.getElem?_append_left hi] at e2;have hiN:i<X.N.length:=by rw[← I.len];exact hi
  have e1':((X.N.map fun y=>if xs.contains y=true then Str.empty else y)++xs)[i]? = some x:=e1
  rw[List.getElem?_append_left (by rw[List.length_map];exact hiN),List.getElem?_map] at e1'
  obtain⟨y,hy⟩:∃ y,X.N[i]? = some y:=⟨X.N[i],by simp[hiN]⟩
  rw[hy] at e1';simp only[Option.map_some,Option.some.injEq] at e1';have e3':(relabel scope X.env).names.lookup x=some .local∨(relabel scope X.env).names.lookup x=some .cell∨(relabel scope X.env).names.lookup x=some .free:=e3;rw[Yq] at e3';cases q:scope.names.lookup x with
  | none=>rw[q] at e3';rcases e3' with z | z | z<;>cases z
  | some k=>
   have hm:=Va q;have hxy:y=x/\xs.contains y≠true:=by
    by_cases hc:xs.contains y=true
    ·rw[if_pos hc] at e1';rw[← e1',K.empty] at q;cases q
    ·rw[if_neg hc] at e1';exact⟨e1',hc⟩
   obtain⟨rfl,hnx⟩:=hxy;have hk:k=.free:=by
    rw[q] at e3';simp only[Option.map_some] at e3'
    split at e3'
    ·rename_i hc
     simp only[Bool.and_eq_true] at hc;exact eq_of_beq hc.1.1
    ·rcases e3' with z | z | z
     ·exfalso;rw[Option.some.inj z] at q;exact hnx (List.contains_iff_mem.mpr (K.own y (List.mem_of_getElem? hy) q))
     ·exact absurd (Option.some.inj z) (K.nocell (y,k) hm)
     ·exact Option.some.inj z
   subst hk;have ho:=K.free (y,NameKind.free) hm rfl;obtain⟨m0,_,hl⟩:=I.loc;obtain⟨u,r,l⟩:=hl i y v hy e2 (.inr ho);refine⟨u,r,.inr ⟨?_,?_⟩⟩
   ·show (relabel scope X.env).names.lookup y=some .cell∨(relabel scope X.env).names.lookup y=some .free;rw[Yq,q];simp only[Option.map_some]
    split
    ·exact .inl rfl
    ·exact .inr rfl
   ·rcases l with ⟨z,_⟩ | ⟨_,c,hc,hcell⟩
    ·exfalso;have z':X.env.scope.names.lookup y=some .local:=z;rcases ho with h | h<;>(rw[z'] at h;cases h)
    ·obtain⟨c',hc'⟩:=Option.isSome_iff_exists.mp (Xj (env:=X.env) scope.names [] hm);have:=look y c' hc';rw[hc] at this;cases this;exact⟨c,hc',cellK y c _ hc hcell⟩
 ·obtain⟨v,z⟩:=I.cell x c (look x c e);exact⟨v,cellK x c v (look x c e) z⟩
 ·show (σ++List.replicate xs.length none).length=((X.N.map fun y=>if xs.contains y=true then Str.empty else y)++xs).length
  rw[List.length_append,List.length_append,List.length_replicate,List.length_map,I.len]
theorem Ze1{B:Cx}{σ:St}{n:Nat}{H:Hp}{s:Shared}{it D:Addr}{fp:List Addr}{tn:Nat->Heap->Prop}{J:It}{Q:VK}{R:Result->Shared->Prop}
  (hc:B.calm=true) (hx:B.xe=fun _ _=>False) (hpn:B.pn=[]) (hg:PG B tg g) (ht:PIf B ifs tt) (he:PE B elt te)
  (I:Inv B [] (σ++List.replicate n none) H s) (T:Turn B.prog B.w B.K tg J fp it tn) (st:tn 0 s.heap) (hf:∀ b∈fp,FpOk B [] H b) (hfD:FpOk B [] H D) (hDf:∀ b∈fp,D≠b)
  (hD:s.heap.get? D=some { cls:=.type "list",data:=.seq ([]:List Value).toArray 0 }) (W:Nat->Nat->List V->Hp->Prop) (w0:∃ m,W 0 m [] H) (hw:CompW n J g tt te σ Q W)
  (fin:∀ s' H' ys its k,Inv B [] (σ++List.replicate n none) H' s'->H' D=none->s'.heap.get? D=some { cls:=.type "list",data:=.seq (List.toArray its) k }->Vals ys its->ys.length<=sizeLine ->
   (∀ p,H' p=none->Q (.ref p) (upd H' p (.lst ys)))->R (.ok .next) s'):
  codeAny (model B.prog B.w) B.A (.compLoop (.ListComp elt [⟨tg,iter,ifs,0⟩] scope pos) 0 (.ref it) (.ref D) B.env) R s:=by
 obtain⟨m0,w0⟩:=w0;have no:∀ e t,B.xe e t->False:=fun e t z=>by rw[hx] at z;exact z
 refine Jq (fun q s'=>∃ i H' ys its k,Inv B [] (σ++List.replicate n none) H' s'/\tn i s'.heap/\(∀ b∈fp,H' b=none)/\H' D=none/\s'.heap.get? D=some { cls:=.type "list",data:=.seq (List.toArray its) k }/\Vals ys its/\W i q ys H') ?_ m0
  ⟨0,H,[],[],0,I,st,fun b hb=>(hf b hb).1,hfD.1,hD,.nil,w0⟩
 rintro q s' ⟨i,H',ys,its,k,I',st',fr',hDn,hDo,rv,w'⟩;have fD:∀ {H2:Hp},H2 D=none->FpOk B [] H2 D:=fun z=>⟨z,hfD.2⟩;have Ip:Inv B [(D,{ cls:=.type "list",data:=.seq (List.toArray its) k })] (σ++List.replicate n none) H' s':=I'.pins_of fun p hp=>by
  obtain rfl:=List.mem_singleton.mp hp;exact⟨hDo,hDn,hfD.2.1,hfD.2.2.1,fun v z=>by cases z⟩
 have ff:∀ {H2:Hp},(∀ b∈fp,H2 b=none)->∀ b∈fp,FpOk B [(D,{ cls:=.type "list",data:=.seq (List.toArray its) k })] H2 b:=fun z b hb=>by
  obtain⟨_,f1,f2,f3,f4,_⟩:=hf b hb;refine⟨z b hb,f1,f2,f3,f4,fun p hp=>?_⟩;rw[hpn] at hp;obtain rfl:=List.mem_singleton.mp hp;exact hDf b hb
 rcases hw i q ys H' w' with ⟨stop,hz,qq⟩ | ⟨go,hz,N,hN,step⟩
 ·refine wpAny_mono (T.done B rfl rfl rfl hc i _ s' _ H' (fun _ _=>False) Ip (ff fr') st' stop) (fun r s1 ⟨hr,I1⟩=>.inl ⟨hr,?_⟩) fun _ _ z=>z;have pD:=I1.pin _ (List.mem_append_right _ (List.mem_singleton.mpr rfl));exact fin s1 H' ys its k (I1.pins_of fun p hp=>nomatch hp) hDn pD.1 rv hz qq
 ·refine wpAny_mono (T.item B rfl rfl rfl hc i _ s' _ H' (fun _ _=>False) Ip (ff fr') st' go) (fun r s1 ⟨u,hr,h4⟩=>.inr ⟨u,hr,wpAny_mono h4 (fun _ s2 ⟨x,H2,I2,r2,y2,st2,fr2⟩=>?_) fun _ _ z=>z⟩) fun _ _ z=>z;have I2':=I2.pinned (ff fr2) (T.obj _ _ st2);refine wpAny_mono (hg _ s2 _ H2 x u _ I2' r2 (step x H2 y2)) (fun _ s3 ⟨σ3,H3,I3,tk3,q3⟩=>?_) no;refine wpAny_mono (ht _ s3 σ3 H3 _ I3 q3) (fun ok s4 ⟨H4,I4,q4⟩=>?_) no;have wk:∀ {H9:Hp} {s9:Shared},Inv B ([(D,{ cls:=.type "list",data:=.seq (List.toArray its) k })]++pinsAt fp s2.heap) σ3 H9 s9->Inv B [] (σ++List.replicate n none) H9 s9:=fun {H9 s9} I9=>by
   refine (I9.pins_of (pins':=[]) fun p hp=>nomatch hp).weak ?_ fun j v e=>?_
   ·rw[I.len,I9.len]
   ·have hj:j<σ.length:=by
     by_cases hj:j<σ.length
     ·exact hj
     ·rw[List.getElem?_append_right (Nat.le_of_not_lt hj),List.getElem?_replicate] at e
      split at e<;>cases e
    rw[List.getElem?_append_left hj,← tk3,List.getElem?_take_of_lt hj] at e;exact e
  have pinD:∀ {H9:Hp} {s9:Shared},Inv B ([(D,{ cls:=.type "list",data:=.seq (List.toArray its) k })]++pinsAt fp s2.heap) σ3 H9 s9->s9.heap.get? D=some { cls:=.type "list",data:=.seq (List.toArray its) k }/\H9 D=none:=fun I9=>
   let z:=I9.pin (D,_) (List.mem_append_right _ (List.mem_append_left _ (List.mem_singleton.mpr rfl)))
   ⟨z.1,z.2.1⟩
  have pinF:∀ {H9:Hp} {s9:Shared},Inv B ([(D,{ cls:=.type "list",data:=.seq (List.toArray its) k })]++pinsAt fp s2.heap) σ3 H9 s9->tn (i+1) s9.heap/\∀ b∈fp,H9 b=none:=fun I9=>
   ⟨T.keep _ _ _ st2 fun b hb o e=>(I9.pin (b,o) (List.mem_append_right _ (List.mem_append_right _ (Xg hb e)))).1,fun b hb=>by
    obtain⟨o,e,_⟩:=T.obj _ _ st2 b hb;exact (I9.pin (b,o) (List.mem_append_right _ (List.mem_append_right _ (Xg hb e)))).2.1⟩
  cases ok with
  | false=>
   obtain⟨m',hm,w4⟩:=hN ys H4 (show N ys H4 from q4);exact⟨m',hm,i+1,H4,ys,its,k,wk I4,(pinF I4).1,(pinF I4).2,(pinD I4).2,(pinD I4).1,rv,w4⟩
  | true=>
   rw[if_pos rfl];refine wpAny_mono (he _ s4 σ3 H4 _ I4 q4) (fun v s5 ⟨y,H5,I5,r5,n5⟩=>?_) no;obtain⟨m',hm,w5⟩:=hN _ H5 n5;obtain⟨e5,d5⟩:=pinD I5;have hlen:=rv.length;refine call_meets F.slot_list_append ⟨_,e5,rfl⟩ F.entry_list_append (F.args_list_append_2 _ _) (PySem.list_append D its.toArray k v (by rw[List.size_toArray];omega)) ⟨e5,?_⟩
   have up:=PySem.IsL.update e5 (·.push v);have up2:∃ k2,(s5.heap.update D (Obj.mapSeq (·.push v))).get? D=some { cls:=.type "list",data:=.seq (List.toArray (its++[v])) k2 }:=by
    rw[show its.toArray.push v=List.toArray (its++[v]) by simp] at up
    exact⟨_,up⟩
   obtain⟨k2,up2⟩:=up2;have oth:∀ b o,b≠D->s5.heap.get? b=some o->(s5.heap.update D (Obj.mapSeq (·.push v))).get? b=some o:=fun b o hb e=>(Heap.get?_update_other s5.heap (Obj.mapSeq (·.push v)) (Ne.symm hb)).trans e;obtain⟨g0,g1,g2,g3,g4,g5⟩:=fD (H2:=H5) d5;have I6:=(wk I5).turned (t':=s5.toks) oth g0 g1 g3 g4 g5;refine⟨m',hm,i+1,H5,ys++[y],its++[v],k2,I6,?_,(pinF I5).2,d5,up2,rv.append (.cons r5 .nil),w5⟩;exact T.keep _ _ _ (pinF I5).1 fun b hb o e=>oth b o (Ne.symm (hDf b hb)) e
theorem V5{pins:List (Addr×Obj)}{σ:St}{H:Hp}{s:Shared}{it:Addr}{fp:List Addr}{tn:Nat->Heap->Prop}{J:It}{Q:VK}{E:Value->Shared->Prop}{RR:Value->Addr->Result->Shared->Prop}
  (hc:X.calm=true) (K:CompOk scope xs X.env.scope X.N) (hg:∀ cl C s₀ H₀ ex,PG (blk X scope xs cl C s₀ H₀ ex) tg g) (ht:∀ cl C s₀ H₀ ex,PIf (blk X scope xs cl C s₀ H₀ ex) ifs tt) (he:∀ cl C s₀ H₀ ex,PE (blk X scope xs cl C s₀ H₀ ex) elt te)
  (I:Inv X pins σ H s) (T:Turn X.prog X.w X.K tg J fp it tn) (st:tn 0 s.heap) (hf:∀ b∈fp,FpOk X pins H b) (W:Nat->Nat->List V->Hp->Prop) (w0:∃ m,W 0 m [] H) (hw:CompW xs.length J g tt te σ Q W)
  (fin:∀ D C s' H' ys oC m,s'.heap.get? C=some oC->s'.heap.Ns C m->Inv X (pins++[(C,oC)]) σ (upd H' D (.lst ys)) s'->FpOk X pins (upd H' D (.lst ys)) C->Q (.ref D) (upd H' D (.lst ys))->RR (.ref D) C (.ok .next) s'):
  wpAny (model X.prog X.w) X.A (newList []) (fun acc s₃=>wpAny (model X.prog X.w) X.A (newFunctionEnv scope X.env.globals (clFold X.env scope.names []) [] X.env.qual none .none (some X.env)) (fun cenv s₄=>
   codeAny (model X.prog X.w) X.A (.compStart (.ListComp elt [⟨tg,iter,ifs,0⟩] scope pos) 0 (.ref it) acc { cenv with scope:=relabel scope X.env }) (RR acc cenv.locals) s₄) E s₃) E s:=by
 have hfl:∀ b∈fp,b<s.heap.objs.size:=fun b hb=>by
  obtain⟨o,e,_⟩:=T.obj 0 _ st b hb;exact Heap.lt_size e
 refine wpAny_newObj_type (wpAny_newFunctionEnv K.nocell (by intro y hy;simp at hy) (fun h₁ hns hsb=>?_) K.kind)
 dsimp only at hns hsb ⊢;generalize hP:s.heap.push { cls:=.type "list",dict:=none,data:=.seq ([]:List Value).toArray }=P at hns hsb ⊢;have hCs:P.objs.size=s.heap.objs.size+1:=by rw[← hP,Heap.size_push]
 have hDC:s.heap.objs.size≠P.objs.size:=by rw[hCs];exact Nat.ne_of_lt (Nat.lt_succ_self _)
 have hC:s.heap.objs.size<=P.objs.size:=by rw[hCs];exact Nat.le_succ _
 have keep:∀ b o,s.heap.get? b=some o->h₁.get? b=some o:=fun b o e=>by
  refine hsb.extBut b o ?_ (Heap.get?_push_of_some _ (hP▸Heap.get?_push_of_some _ e));have:=Heap.lt_size e;exact Nat.ne_of_lt (Nat.lt_of_lt_of_le this hC)
 have hD:h₁.get? s.heap.objs.size=some { cls:=.type "list",data:=.seq ([]:List Value).toArray 0 }:=hsb.extBut _ _ hDC (Heap.get?_push_of_some _ (hP▸Heap.get?_push_size _ rfl));have IB:=Ziz (scope:=scope) (xs:=xs) (tk:=s.toks+([]:List (Str×Value)).length) I K hC hf hfl keep hns;have fC:∀ {H2:Hp},H2 P.objs.size=none->FpOk X pins H2 P.objs.size:=fun z=>I.fpOk hC z;have look:∀ x c,(clFold X.env scope.names []).lookup x=some c->X.env.cells.lookup x=some c:=fun x c e=>Yo scope.names [] (fun y hy hk=>by
  obtain⟨c,hc⟩:=I.ok.has y.1 (K.free y hy hk);rw[hc];rfl) (fun y d z=>by cases z) e
 have nstk:∀ b,s.heap.objs.size<=b->b∉frs X.stack:=fun b hb hm=>by
  rcases List.mem_cons.mp (I.stkSub b hm) with z | z
  ·exact absurd (Nat.lt_of_lt_of_le I.lt (z▸hb)) (Nat.lt_irrefl _)
  ·exact I.nofs hb z
 have loop:codeAny (model X.prog X.w) X.A (.compLoop (.ListComp elt [⟨tg,iter,ifs,0⟩] scope pos) 0 (.ref it) (.ref s.heap.objs.size) (compEnvC scope (clFold X.env scope.names []) P.objs.size X.env))
   (RR (.ref s.heap.objs.size) P.objs.size) { s with heap:=h₁,toks:=s.toks+([]:List (Str×Value)).length }:=by
  refine Ze1 (B:=blk X scope xs (clFold X.env scope.names []) P.objs.size s H fp) (D:=s.heap.objs.size) hc rfl rfl (hg _ _ _ _ _) (ht _ _ _ _ _) (he _ _ _ _ _) IB T (T.keep _ _ _ st fun b _ o e=>keep b o e) (fun b hb=>?_) ?_ (fun b hb=>Nat.ne_of_gt (hfl b hb)) hD W w0 hw ?_
  ·refine⟨(hf b hb).1,Nat.ne_of_lt (Nat.lt_of_lt_of_le (hfl b hb) hC),?_,.inl hb,fun x c e=>(hf b hb).2.2.2.2.1 x c (look x c e),fun p hp=>absurd (show p∈([]:List (Addr×Obj)) from hp) (by simp)⟩
   intro hm;rcases List.mem_cons.mp (I.stkSub b hm) with z | z
   ·exact (hf b hb).2.1 z
   ·exact (hf b hb).2.2.1 z
  ·refine⟨I.hok.fresh (Nat.le_refl _),hDC,nstk _ (Nat.le_refl _),.inr (Nat.le_refl _),fun x c e z=>?_,fun p hp=>absurd (show p∈([]:List (Addr×Obj)) from hp) (by simp)⟩
   obtain⟨v,q⟩:=I.cell x c (look x c e);exact absurd q.lt (by rw[z];exact Nat.lt_irrefl _)
  ·intro s' H' ys its k I' hDn hDo rv hz qq;obtain⟨m,hnC,_⟩:=id I'.loc;obtain⟨oC,es,ep,hoC,hdC,_⟩:=id hnC;have u:=I'.base;have low:∀ b o,s.heap.get? b=some o->b≠s.heap.objs.size:=fun b o e=>Nat.ne_of_lt (Heap.lt_size e);have lowH:∀ b o,H b=some o->b≠s.heap.objs.size:=fun b o e=>Zf e (I.hok.fresh (Nat.le_refl _));have u':Un (frs X.stack) fp H (upd H' s.heap.objs.size (.lst ys)) s.heap s'.heap:=
    ⟨u.keep,u.slot,fun b o e n hx=>by rw[Zh (low b o e)];exact u.free b o e n hx,u.there,fun b ts e=>by rw[Zh (lowH b _ e)];exact u.tups b ts e,
     fun b o v e=>by rw[Zh (lowH b _ e)];exact u.frzs b o v e,fun b ps e=>by rw[Zh (lowH b _ e)];exact u.tbls b ps e⟩
   have hok':=HOk.adopt (o:=.lst ys) I'.hok hDn ⟨hz,its,k,rv,hDo⟩;have J1:Inv X pins σ (upd H' s.heap.objs.size (.lst ys)) s':=I.call' (ch:=fp) I'.os u' hok' I'.bare fun b hb=>⟨(hf b hb).2.2.2.1,(hf b hb).2.1,(hf b hb).2.2.2.2.1,(hf b hb).2.2.2.2.2⟩;have hCn:upd H' s.heap.objs.size (.lst ys) P.objs.size=none:=by rw[Zh (Ne.symm hDC)];exact I'.free
   have fc:=fC hCn;refine fin _ _ s' H' ys oC m hoC hnC (J1.pins_of fun p hp=>?_) fc (qq _ hDn);rcases List.mem_append.mp hp with z | z
   ·exact J1.pin p (List.mem_append_right _ z)
   ·obtain rfl:=List.mem_singleton.mp z;exact⟨hoC,hCn,fc.2.1,fc.2.2.1,fun v z=>by rw[hdC] at z;cases z⟩
 exact codeAny_compStart_list loop (T.self _ 0 _ _ _ (T.keep _ _ _ st fun b _ o e=>keep b o e) loop)
theorem Wx{wi:TI}(hc:X.calm=true)(K:CompOk scope xs X.env.scope X.N)(hi:PI X tg iter wi)(hg:∀ cl C s₀ H₀ ex,PG (blk X scope xs cl C s₀ H₀ ex) tg g)(ht:∀ cl C s₀ H₀ ex,PIf (blk X scope xs cl C s₀ H₀ ex) ifs tt)(he:∀ cl C s₀ H₀ ex,PE (blk X scope xs cl C s₀ H₀ ex) elt te)
  (hs:∀ x,foldedSetIterable iter X.env x=pure x:=by intro _;rfl):PE X (.ListComp elt [⟨tg,iter,ifs,0⟩] scope pos) (tComp xs.length wi g tt te):=by
 intro pins s σ H Q I h;have hcl:∀ y∈scope.names,y.2=.free->(X.env.cells.lookup y.1).isSome=true:=fun y hy hk=>by
  obtain⟨c,hc⟩:=I.ok.has y.1 (K.free y hy hk);rw[hc];rfl
 rw[eval_ListComp];refine wpAny_comprehension_free (use:=none) rfl hs (V6 hcl) K.kind K.loc (thn (hi pins s σ H _ I h) fun v s1 h1=>thn h1 fun itv s2 h2=>?_);obtain⟨it,fp,tn,J,H2,e,I2,T,st2,f2,W,w0,hw⟩:=h2;subst e;refine V5 (RR:=fun acc C=>compPost (model X.prog X.w) X.A X.xe none (EP X pins σ Q) acc C) hc K hg ht he I2 T st2 f2 W w0 hw ?_;intro D C s' H' ys oC m hoC hnC J fc q;refine⟨m,hnC,fun h' hsb=>⟨.ref D,_,?_,rfl,q⟩⟩;exact (J.pins_of (pins':=pins) fun p hp=>J.pin p (List.mem_append_right _ (List.mem_append_left _ hp))).turned (t':=s'.toks) (fun b o hb e=>hsb.extBut b o hb e) fc.1 fc.2.1 fc.2.2.2.1 fc.2.2.2.2.1 fc.2.2.2.2.2
theorem Ul{wi:TI}{i:Nat}{y:Str}{py spos:Pos}(hN:X.N.Nodup)(hi':X.N[i]? = some y)(hy:X.env.scope.names.lookup y=some .local)(hc:X.calm=true)(K:CompOk scope xs X.env.scope X.N)(hi:PI X tg iter wi)
  (hg:∀ cl C s₀ H₀ ex,PG (blk X scope xs cl C s₀ H₀ ex) tg g) (ht:∀ cl C s₀ H₀ ex,PIf (blk X scope xs cl C s₀ H₀ ex) ifs tt) (he:∀ cl C s₀ H₀ ex,PE (blk X scope xs cl C s₀ H₀ ex) elt te)
  (hsw:swapsWith (.ListComp elt [⟨tg,iter,ifs,0⟩] scope pos) (some (.Name y py)) spos.line X.env=pure true) (hs:∀ x,foldedSetIterable iter X.env x=pure x:=by intro _;rfl):
  PS X (.Assign [.Name y py] (.ListComp elt [⟨tg,iter,ifs,0⟩] scope pos) spos) (tAsg (tComp xs.length wi g tt te) (gName i)):=by
 intro pins s σ H D0 I h;have hcl:∀ y∈scope.names,y.2=.free->(X.env.cells.lookup y.1).isSome=true:=fun y hy hk=>by
  obtain⟨c,hc⟩:=I.ok.has y.1 (K.free y hy hk);rw[hc];rfl
 rw[exec_Assign_Name_used _ _ _ _ hsw];refine wpAny_bind (wpAny_standAt (wpAny_bind ?_));show wpAny _ _ (comprehension (.ListComp elt [⟨tg,iter,ifs,0⟩] scope pos) scope X.env _ (newList []) false (eval iter X.env) (some (assign (.Name y py) X.env)) >>= fun _=>pure ()) _ _ s;refine wpAny_bind (wpAny_mono (wpAny_comprehension_free (use:=some (assign (.Name y py) X.env)) (Q:=fun _ s'=>SP X pins D0 .next s') rfl hs (V6 hcl) K.kind K.loc (thn (hi pins s σ H _ I h) fun v s1 h1=>thn h1 fun itv s2 h2=>?_)) (fun _ s' hq=>wpAny_pure (wpAny_pure hq)) fun _ _ z=>z);obtain⟨it,fp,tn,J,H2,e,I2,T,st2,f2,W,w0,hw⟩:=h2;subst e;refine V5 (RR:=fun acc C=>compPost (model X.prog X.w) X.A X.xe (some (assign (.Name y py) X.env)) (fun _ s'=>SP X pins D0 .next s') acc C) hc K hg ht he I2 T st2 f2 W w0 hw ?_;intro D C s' H' ys oC m hoC hnC J fc q;show wpAny _ _ (assign (.Name y py) X.env (.ref D)) _ _ s';refine wpAny_assign_Name (Wl J hN hi' (.inl hy) (show RelV (.ref D) (.ref D) from rfl) (fun s2 I3=>?_) (.inr hy));have pC:=I3.pin (C,oC) (List.mem_append_right _ (List.mem_append_right _ (List.mem_singleton.mpr rfl)));obtain⟨o,es,ep,ho,r⟩:=hnC;rw[hoC] at ho;cases ho;refine⟨m,⟨oC,es,ep,pC.1,r⟩,fun h' hsb=>⟨_,_,?_,q⟩⟩;exact (I3.pins_of (pins':=pins) fun p hp=>I3.pin p (List.mem_append_right _ (List.mem_append_left _ hp))).turned (t':=s2.toks) (fun b o hb e=>hsb.extBut b o hb e) fc.1 fc.2.1 fc.2.2.2.1 fc.2.2.2.2.1 fc.2.2.2.2.2
end
end KS
end
section
namespace KS
open PySem PySem.Spec L2
open PyProof.Rows hiding St
section
variable{X:Cx}{elt tg iter:Expr}{ifs:List Expr}{scope:Scope}{x:Str}{pos:Pos}{g:TG}{tt:TT}{te:TE}
end
end KS
end
section
namespace KS
open PySem PySem.Spec L2
open PyProof.Rows hiding St
section
variable{X:Cx}
theorem Vk:CallR X (.type "range") (fun xs H Q=>∃ j:Int,xs=[.int j]/\∀ p,H p=none->Q (.ref p) (upd H p (.rng 0 j))):=by
 intro pins s σ H xs us Q I r h;obtain⟨j,rfl,q⟩:=h;obtain⟨u,rfl,t,rfl⟩:=vals1 r;refine call_range_1 ⟨.ref s.heap.objs.size,_,I.laid (o:=.rng 0 j) (fun b o e=>Heap.get?_push_of_some _ e) (Nat.le_refl _) ?_,rfl,q _ (I.hok.fresh (Nat.le_refl _))⟩;exact⟨_,_,_,Heap.get?_push_size _ rfl⟩
theorem Zcd:∀ {n:Nat} {us:List Value},us.length=n->(∀ (j:Nat) (v:Value),us[j]? = some v->∃ t,v=Value.int ((j:Nat):Int) t)->Vals ((List.range n).map fun i:Nat=>V.int (i:Int)) us:=by
 intro n us hl h;have key:∀ (k:Nat) (us:List Value),(∀ (j:Nat) (v:Value),us[j]? = some v->∃ t,v=Value.int (((k+j:Nat)):Int) t)->Vals ((List.range us.length).map fun i:Nat=>V.int ((k+i:Nat):Int)) us:=by
  intro k us
  induction us generalizing k with
  | nil=>intro _;exact .nil
  | cons u us ih=>
   intro h;rw[List.length_cons,List.range_succ_eq_map,List.map_cons,List.map_map];refine .cons (h 0 u rfl) ?_;have:=ih (k+1) fun j v e=>by
    obtain⟨t,e'⟩:=h (j+1) v (by simpa using e)
    exact⟨t,by rw[e'];congr 1;omega⟩
   have e2:(fun i:Nat=>V.int ((k+1+i:Nat):Int))=(fun i:Nat=>V.int ((k+i:Nat):Int))∘Nat.succ:=by
    funext i;show V.int _=V.int _
    congr 1
    simp only[Nat.succ_eq_add_one];omega
   rw[← e2];exact this
 have:=key 0 us (fun j v e=>by rw[Nat.zero_add];exact h j v e)
 rw[hl] at this;simpa using this
theorem V7(hc:X.calm=true):CallR X (.type "list") (fun xs H Q=>∃ (p:Addr) (n:Nat),xs=[.ref p]/\H p=some (.rng 0 n)/\n<=2 ^ 20/\∀ l,H l=none->Q (.ref l) (upd H l (.lst ((List.range n).map fun i:Nat=>V.int (i:Int))))):=by
 intro pins s σ H xs us Q I r h;obtain⟨p,n,rfl,hp,hn,q⟩:=h;obtain⟨u,rfl,rx⟩:=vals1 r;cases rx;obtain⟨t,u,v,e⟩:=I.hok p _ hp;refine call_list_range (n:=n) (I.ok.hd hc) e (small_one (by decide) (by decide) (by omega) (by omega)) (by rw[rangeSize_one];split<;>omega) (by omega) fun h' tk acc c kp e2 hI=>?_
 have hv:Vals ((List.range n).map fun i:Nat=>V.int (i:Int)) acc.toList:=Zcd (by rw[Array.length_toList];exact hI.1) fun j w ew=>by
  rw[Array.getElem?_toList] at ew;obtain⟨t,e⟩:=hI.2 j w ew;exact⟨t,by rw[e];congr 1;omega⟩
 refine⟨.ref s.heap.objs.size,_,I.laid (o:=.lst ((List.range n).map fun i:Nat=>V.int (i:Int))) kp (Nat.le_refl _) ?_,rfl,q _ (I.hok.fresh (Nat.le_refl _))⟩;exact⟨by rw[List.length_map,List.length_range,sizeLine_eq];omega,acc.toList,c,hv,by simpa using e2⟩
noncomputable def rIndex(K:PySem.W.Frag):V->List V->Hp->VK->Prop:=fun x vs H Q=>∃ (l:Addr) (ns:List Int) (k:Int),x=.ref l/\vs=[.int k]/\SqL K H l (ns.map V.int)/\k∈ns/\Q (.int (ns.idxOf k:Nat)) H
theorem Zjt{ns:List Int}{k:Int}:∀ {j:Nat} (hj:j<ns.length),j<ns.idxOf k->ns[j]≠k:=by
 induction ns with
 | nil=>intro j hj;exact absurd hj (Nat.not_lt_zero _)
 | cons a r ih=>
  intro j hj h;rw[List.idxOf_cons] at h;by_cases e:(a == k)=true
  ·rw[e] at h;exact absurd h (Nat.not_lt_zero _)
  ·have e':(a == k)=false:=by cases q:(a == k) with | true=>exact absurd q e | false=>rfl
   rw[e'] at h;cases j with
   | zero=>
    intro z;simp only[List.getElem_cons_zero] at z;rw[z] at e;simp at e
   | succ j=>
    simp only[List.getElem_cons_succ];exact ih (by simpa using hj) (by simpa using h)
theorem Zbx:MtM X "list.index" (rIndex X.K):=by
 intro pins s σ H x vs v us Q I rx rv h;obtain⟨l,ns,k,rfl,rfl,hl,hk,q⟩:=h;cases rx;obtain⟨u,rfl,t,rfl⟩:=rv.one;obtain⟨its,r,pl,hz⟩:=I.list hl;obtain⟨o,n,ho,hc,hdd,hd⟩:=pl;obtain⟨cls,dd,data,sl⟩:=o;simp only at hc hdd hd;subst hc hdd hd;have hlen:=r.length;rw[List.length_map] at hlen;have hj:ns.idxOf k<ns.length:=List.idxOf_lt_length_iff.mpr hk;have hs:=sizeLine_eq;have hz':ns.length<=sizeLine:=by rw[List.length_map] at hz;exact hz
 have flat:(ns.map V.int).all flatV=true:=by simp[flatV]
 have at_:∀ j (h1:j<its.length) (h2:j<ns.length),eqU (.int k) its[j]=(ns[j] == k):=fun j h1 h2=>by
  obtain⟨w,hw,rw'⟩:=r.get (i:=j) (x:=.int ns[j]) (by rw[List.getElem?_map,List.getElem?_eq_getElem h2];rfl)
  rw[List.getElem?_eq_getElem h1] at hw;rw[Option.some.inj hw,Zeq rw' rfl];rfl
 refine call_meets PySem.F.slot_list_index ⟨_,ho,rfl⟩ PySem.F.entry_list_index (PySem.F.args_list_index_2 _ _)
  (SeqAt.list_indexAt l its.toArray n none sl (.int k t) (eqU (.int k)) (ns.idxOf k) (by simpa[← hlen] using hj) (by omega) ?_ ?_) ⟨ho,fun y hy=>Xu (show RelV (.int k) (.int k t) from⟨t,rfl⟩) rfl r flat y (by simpa using hy),⟨.int _,H,I.tok _,⟨_,rfl⟩,q⟩⟩
 ·simp only[List.getElem_toArray];rw[at_ _ (by omega) hj]
  simpa using List.getElem_idxOf hj
 ·intro j hjs hlt;simp only[List.getElem_toArray];rw[at_ _ (by simpa using hjs) (by omega)]
  simpa using Zjt (by omega) hlt
theorem Xw{P:Program}{w:World}:∀ {ns:List Int} {us:List Value},Vals (ns.map V.int) us->ItemsAre (intKind P w) ns us
 | [],_,.nil=>.nil
 | n::ns,_,.cons r t=>by
  obtain⟨tk,rfl⟩:=r;exact .cons (by simp[intKind,Value.isInt]) (Xw t)
theorem Ue{P:Program}{w:World}{pins:List (Addr×Obj)}{σ:St}{H:Hp}{s:Shared}{a:Addr}{ns:List Int}(I:Inv X pins σ H s)(h:H a=some (.tup (ns.map V.int))):IsTupleKey (intKind P w) s.heap ns a:=by
 obtain⟨its,r,⟨o,ho,hc,n,hd⟩,_⟩:=I.tuple (SqT.of (K:=X.K) h);exact⟨o,its.toArray,n,ho,hc,hd,by simpa using Xw r⟩
theorem Uf{pins:List (Addr×Obj)}{σ:St}{H:Hp}{s:Shared}{a b:Addr}{ns ms:List Int}{A:Around}(hu:A.units<cLine)(I:Inv X pins σ H s)(ha:H a=some (.tup (ns.map V.int)))(hb:H b=some (.tup (ms.map V.int))):SeqAt.EqAt A s (.ref a) (.ref b) (decide (ns=ms)):=
 fun P w E Q hq=>wpAny_eqBool_tuple hu (Ue (P:=P) (w:=w) I ha) (Ue I hb) hq
noncomputable abbrev Tups(H:Hp)(kf:Addr->List Int)(rs:List Addr):Prop:=∀ r∈rs,H r=some (.tup ((kf r).map V.int))
noncomputable def kfV(kf:Addr->List Int):Value->List Int
 | .ref a=>kf a
 | _=>[]
theorem Yt:∀ {rs:List Addr} {us:List Value},Vals (rs.map V.ref) us->us=rs.map Value.ref
 | [],_,.nil=>rfl
 | r::rs,_,.cons q t=>by
  have q':_=Value.ref r:=q;rw[q',Yt t];rfl
theorem U6:∀ (rs:List Addr),Vals (rs.map V.ref) (rs.map Value.ref)
 | []=>.nil
 | r::rs=>.cons rfl (U6 rs)
noncomputable def rInT(K:PySem.W.Frag)(neg:Bool):R2:=fun x y H Q=>∃ (a p:Addr) (rs:List Addr) (kf:Addr->List Int),x=.ref a/\y=.ref p/\SqL K H p (rs.map V.ref)/\Tups H kf rs/\H a=some (.tup ((kf a).map V.int)) /\
 Q (.bl (if neg then !decide (kf a∈rs.map kf) else decide (kf a∈rs.map kf))) H
theorem Zcb(kf:Addr->List Int)(k:List Int)(rs:List Addr):(rs.map Value.ref).toArray.any (fun u=>decide (kfV kf u=k))=decide (k∈rs.map kf):=by
 rw[List.any_toArray,List.any_map];rw[Bool.eq_iff_iff];simp only[List.any_eq_true,List.mem_map,Function.comp_apply,kfV,decide_eq_true_eq];exact⟨fun⟨x,h1,h2⟩=>⟨x,h1,of_decide_eq_true h2⟩,fun⟨x,h1,h2⟩=>⟨x,h1,decide_eq_true h2⟩⟩
theorem Zjh(hu:X.A.units+1<cLine):OpR X (compareOp .In) (rInT X.K false):=by
 intro pins s σ H x y v u Q I rx ry h;obtain⟨a,p,rs,kf,rfl,rfl,hl,ht,ha,q⟩:=h;cases rx;cases ry;obtain⟨its,r,pl,_⟩:=I.list hl;obtain rfl:=Yt r;refine SeqAt.in_listAt (fun u=>decide (kfV kf u=kf a)) pl.isList (fun w hw=>?_) ⟨.bl _,H,I,rfl,by rw[Zcb];exact q⟩
 obtain⟨b,hb,rfl⟩:=List.mem_map.mp (show w∈rs.map Value.ref by simpa using hw)
 exact Uf (A:=X.A.in1) (by show X.A.units+1<cLine;exact hu) I (ht b hb) ha
theorem Zdo(hu:X.A.units+1<cLine):OpR X (compareOp .NotIn) (rInT X.K true):=by
 intro pins s σ H x y v u Q I rx ry h;obtain⟨a,p,rs,kf,rfl,rfl,hl,ht,ha,q⟩:=h;cases rx;cases ry;obtain⟨its,r,pl,_⟩:=I.list hl;obtain rfl:=Yt r;refine SeqAt.notIn_listAt (fun u=>decide (kfV kf u=kf a)) pl.isList (fun w hw=>?_) ⟨.bl _,H,I,rfl,by rw[Zcb];exact q⟩
 obtain⟨b,hb,rfl⟩:=List.mem_map.mp (show w∈rs.map Value.ref by simpa using hw)
 exact Uf (A:=X.A.in1) (by show X.A.units+1<cLine;exact hu) I (ht b hb) ha
noncomputable def SetP(w:World)(kf:Addr->List Int)(rs:List Addr)(S:Addr):Heap->Prop:=fun h=>∃ hf es,TS w hf (kfV kf) (rs.map Value.ref) (rs.map Value.ref) h S es
theorem kofs{pins:List (Addr×Obj)}{σ:St}{H:Hp}{s:Shared}{kf:Addr->List Int}{rs:List Addr}(I:Inv X pins σ H s)(ht:Tups H kf rs):∀ v∈rs.map Value.ref,Kof X.prog X.w s.heap v (kfV kf v):=fun v hv=>by
 obtain⟨r,hr,rfl⟩:=List.mem_map.mp hv;exact⟨r,rfl,Ue I (ht r hr)⟩
theorem Ze2(hc:X.calm=true)(hu:X.A.units+8<cLine):CallR X (.type "set") (fun xs H Q=>∃ (l:Addr) (rs:List Addr) (kf:Addr->List Int),xs=[.ref l]/\SqL X.K H l (rs.map V.ref)/\rs.length<=76/\Tups H kf rs/\∀ S,H S=none->Q (.ref S) (upd H S (.ext (SetP X.w kf rs S)))):=by
 intro pins s σ H xs us Q I r h;obtain⟨l,rs,kf,rfl,hl,hn,ht,q⟩:=h;obtain⟨u,rfl,rx⟩:=vals1 r;cases rx;obtain⟨its,r',pl,_⟩:=I.list hl;obtain rfl:=Yt r';refine Jx (kf:=kfV kf) (I.ok.hd hc) hu pl.isList (by simpa using kofs I ht) (by simpa using hn) fun h' tk es S' kp=>?_
 rw[show (rs.map Value.ref).toArray.toList=rs.map Value.ref by simp] at S'
 refine⟨.ref s.heap.objs.size,_,I.laid (o:=.ext (SetP X.w kf rs s.heap.objs.size)) kp (Nat.le_refl _) ?_,rfl,q _ (I.hok.fresh (Nat.le_refl _))⟩;refine⟨⟨_,es,S'⟩,?_,fun h1 h2 ⟨hf,es,z⟩ k=>⟨hf,es,z.at k⟩⟩;obtain⟨⟨o,_,_,ho,_⟩,_⟩:=S';exact⟨o,ho⟩
theorem ObjOk.there{P:Program}{w:World}{H:Hp}{h:Heap}{a:Addr}{o:HO}(x:ObjOk P w H h a o):∃ ob,h.get? a=some ob:=by
 cases o with
 | lst xs=>obtain⟨_,_,_,_,e⟩:=x;exact⟨_,e⟩
 | tup xs=>obtain⟨_,_,_,_,e,_⟩:=x;exact⟨_,e⟩
 | dK kvs=>obtain⟨_,_,_,_,o,_,_,e,_⟩:=x;exact⟨_,e⟩
 | dT kvs=>obtain⟨_,_,_,_,o,_,_,e,_⟩:=x;exact⟨_,e⟩
 | set S n=>obtain⟨o,_,_,_,e,_⟩:=x;exact⟨_,e⟩
 | ins C dx fs=>obtain⟨_,_,_,e,_⟩:=x;exact⟨_,e⟩
 | own y=>obtain⟨_,e⟩:=x;exact⟨_,e⟩
 | xd fs=>obtain⟨_,⟨_,_,_,e,_⟩,_⟩:=x;exact⟨_,e⟩
 | rng lo hi=>obtain⟨_,_,_,e⟩:=x;exact⟨_,e⟩
 | frz ob u=>obtain⟨e,_⟩:=x;exact⟨_,e⟩
 | tbl ps=>exact⟨_,(show h.get? a=some _ from x)⟩
 | met f y=>exact⟨_,(show h.get? a=some _ from x)⟩
 | ext φ=>obtain⟨_,⟨_,e⟩,_⟩:=x;exact⟨_,e⟩
theorem Inv.laidN{pins:List (Addr×Obj)}{σ:St}{H:Hp}{s:Shared}{h':Heap}{a:Addr}{o:HO}{t':Nat}(I:L2.Inv X pins σ H s)(k:∀ b u,s.heap.get? b=some u->h'.get? b=some u)(hn:s.heap.get? a=none)(new:ObjOk X.prog X.w (upd H a o) h' a o):
  H a=none/\L2.Inv X pins σ (upd H a o) { s with heap:=h',toks:=t' }:=by
 have hH:H a=none:=by
  cases q:H a with
  | none=>rfl
  | some u=>
   obtain⟨ob,e⟩:=ObjOk.there (I.hok a u q);rw[hn] at e;cases e
 have ne:∀ b u,s.heap.get? b=some u->b≠a:=fun b u e z=>by rw[z,hn] at e;cases e
 refine⟨hH,I.un ⟨fun b u q _ _ _=>k b u q,fun b u q _ _ _=>⟨u.slots,k b u q⟩,fun b u q n _=>by rw[Zh (ne b u q)];exact n,fun b u q _=>⟨u,k b u q⟩,fun b xs q=>by rw[Zh (Zf q hH)];exact q,fun b u xs q=>by rw[Zh (Zf q hH)];exact q,fun b ps q=>⟨#[],by rw[Zh (Zf q hH),q];simp⟩⟩ ?_⟩
 exact HOk.adopt (I.hok.kept k) hH new
end
end KS
end
section
namespace KS
open PySem PySem.Spec L2
open PyProof.Rows hiding St
section
variable{X:Cx}
theorem Za2:CallR X (.builtin "isinstance") (fun xs H Q=>∃ (x:V) (T:String) (t:Value) (b:Bool),xs=[x,.ty T]/\TyOf X.K H x t/\PySem.W.kitOne X.K t (.type T)=some b/\Q (.bl b) H):=by
 intro pins s σ H xs us Q I r h;obtain⟨x,T,t,b,rfl,ty,e,q⟩:=h;obtain⟨u,v,rfl,rx,ry⟩:=r.two;obtain rfl:v=Value.type T:=ry;exact Zee I rx ty e fun tk=>⟨.bl b,H,I.tok tk,rfl,q⟩
theorem kit1(K:PySem.W.Frag):PySem.W.kitOne K (.type "int") (.type "int")=some true:=by rfl
theorem kit2(K:PySem.W.Frag):PySem.W.kitOne K (.type "int") (.type "bool")=some false:=by rfl
theorem kit3(K:PySem.W.Frag):PySem.W.kitOne K (.type "list") (.type "list")=some true:=by rfl
variable{K:PySem.W.Frag}
theorem ixL(hK:X.K=K):IxR X (rIxL K):=hK▸Zio
theorem ixT(hK:X.K=K):IxR X (rIxT K):=hK▸Zjs
theorem truK{a:Expr}{ta:TE}(hK:X.K=K)(ha:PE X a ta)(he:∀ whole,isTrue a X.env whole=(do let v ← whole;standAt a.pos;holding [v] (truthy v))):PT X a (fun σ H Q=>ta σ H fun x H'=>∃ k,TruV K x H' k/\Q k H'):=hK▸Wn ha he
theorem inTK(hK:X.K=K)(hu:X.A.units+1<cLine):OpR X (compareOp .In) (rInT K false):=hK▸Zjh hu
end
end KS
end
section
namespace KS
open PySem PySem.Spec L2
open PyProof.Rows hiding St
section
variable{X:Cx}
theorem Ze3(hc:X.calm=true):CallR X (.builtin "max") (fun xs H Q=>∃ (l:Addr) (ns:List Int),xs=[.ref l]/\SqL X.K H l (ns.map V.int)/\ns≠[]/\∀ M,M∈ns->(∀ a∈ns,a<=M)->Q (.int M) H):=by
 intro pins s σ H xs us Q I r h;obtain⟨l,ns,rfl,hl,hne,q⟩:=h;obtain⟨u,rfl,rx⟩:=vals1 r;cases rx;obtain⟨its,r',pl,_⟩:=I.list hl;have hIA:=Vz r';obtain⟨xs',e⟩:=(hIA.allInts).items;have hnum:numsOf its=ns:=hIA.numsOf;have hpl:=pl.isList;rw[e] at hpl;have hlen:=r'.length;rw[List.length_map] at hlen;have hsz:0<xs'.size:=by
  have h1:its.toArray.size=(intItems xs').size:=by rw[e]
  simp[intItems] at h1;have:0<ns.length:=List.length_pos_iff.mpr hne;omega
 have hnum2:xs'.toList.map (·.1)=ns:=by
  rw[← hnum];have:=congrArg Array.toList e;rw[show its=its.toArray.toList by simp,this,nums_intItems]
 refine max_intList (I.ok.hd hc) hpl hsz fun v h' tk hv hk=>?_;obtain⟨t,rfl⟩:=intItems_at hv;obtain⟨h1,h2⟩:=argBest_gt (numAt xs') (xs'.size - 1);have hl':(xs'.toList.map (·.1)).length=xs'.size:=by rw[List.length_map,Array.length_toList]
 refine⟨.int (numAt xs' (argBest (fun i j=>decide (numAt xs' i > numAt xs' j)) (xs'.size - 1))),H,I.kept hk,⟨t,rfl⟩,q _ ?_ fun a ha=>?_⟩
 ·rw[numAt_eq,← hnum2];exact getD_mem (by rw[hl'];omega)
 ·rw[← hnum2] at ha;obtain⟨j,hj,rfl⟩:=mem_getD ha;rw[hl'] at hj;rw[← numAt_eq];exact h2 j (by omega)
noncomputable def rCount(K:PySem.W.Frag):V->List V->Hp->VK->Prop:=fun x vs H Q=>∃ (l:Addr) (bs:List Bool),x=.ref l/\vs=[.bl true]/\SqL K H l (bs.map V.bl)/\Q (.int ((bs.countP fun b=>b):Nat)) H
theorem Zf8:MtM X "list.count" (rCount X.K):=by
 intro pins s σ H x vs v us Q I rx rv h;obtain⟨l,bs,rfl,rfl,hl,q⟩:=h;cases rx;obtain⟨u,rfl,ru⟩:=rv.one;cases ru;obtain⟨its,r,pl,hz⟩:=I.list hl;obtain⟨o,n,ho,hc,hdd,hd⟩:=pl;obtain⟨cls,dd,data,sl⟩:=o;simp only at hc hdd hd;subst hc hdd hd;have flat:(bs.map V.bl).all flatV=true:=by simp[flatV]
 have hcount:its.toArray.toList.countP (eqU (.bl true))=bs.countP fun b=>b:=by
  clear ho hl hz q;simp only
  induction bs generalizing its with
  | nil=>cases r;rfl
  | cons b bs ih=>
   cases r with
   | cons r1 r2=>
    cases r1;have:=ih _ r2 (by simp[flatV])
    cases b with
    | true=>rw[List.countP_cons_of_pos (by rfl),List.countP_cons_of_pos (by rfl),this]
    | false=>rw[List.countP_cons_of_neg (by decide),List.countP_cons_of_neg (by decide),this]
 refine call_meets PySem.F.slot_list_count ⟨_,ho,rfl⟩ PySem.F.entry_list_count (PySem.F.args_list_count_2 _ _)
  (SeqAt.list_countAt l its.toArray n none sl (.bool true) (eqU (.bl true))) ⟨ho,fun y hy=>Xu (show RelV (.bl true) (.bool true) from rfl) rfl r flat y (by simpa using hy),⟨.int _,H,I.tok _,⟨_,rfl⟩,by rw[hcount];exact q⟩⟩
end
end KS
end
section
namespace KS
open PySem PySem.Spec L2
open PyProof.Rows hiding St
section
variable{X:Cx}{K:PySem.W.Frag}
noncomputable def rLenS(K:PySem.W.Frag):List V->Hp->VK->Prop:=fun xs H Q=>∃ p ys,xs=[.ref p]/\(SqL K H p ys∨SqT K H p ys)/\Q (.int ys.length) H
theorem lenS(hK:X.K=K):CallR X (.builtin "len") (rLenS K):=hK▸J0
noncomputable def rListS(K:PySem.W.Frag):List V->Hp->VK->Prop:=fun xs H Q=>∃ p ys,xs=[.ref p]/\(SqL K H p ys∨SqT K H p ys)/\∀ l,H l=none->Q (.ref l) (upd H l (.lst ys))
theorem listS(hK:X.K=K):CallR X (.type "list") (rListS K):=hK▸Jz
noncomputable def rIsin(K:PySem.W.Frag):List V->Hp->VK->Prop:=fun xs H Q=>∃ (x:V) (T:String) (t:Value) (b:Bool),xs=[x,.ty T]/\TyOf K H x t/\PySem.W.kitOne K t (.type T)=some b/\Q (.bl b) H
theorem isinS(hK:X.K=K):CallR X (.builtin "isinstance") (rIsin K):=hK▸Za2
noncomputable def rMaxL(K:PySem.W.Frag):List V->Hp->VK->Prop:=fun xs H Q=>∃ (l:Addr) (ns:List Int),xs=[.ref l]/\SqL K H l (ns.map V.int)/\ns≠[]/\∀ M,M∈ns->(∀ a∈ns,a<=M)->Q (.int M) H
theorem maxS(hK:X.K=K)(hc:X.calm=true):CallR X (.builtin "max") (rMaxL K):=hK▸Ze3 hc
theorem piL{tg l:Expr}{tl:TE}(hK:X.K=K)(hl:PE X l tl):PI X tg l (iList K tl):=hK▸Zh5 hl
theorem slL(hK:X.K=K):SlR X (rSlL K):=hK▸Zhx
theorem notInTK(hK:X.K=K)(hu:X.A.units+1<cLine):OpR X (compareOp .NotIn) (rInT K true):=hK▸Zdo hu
theorem pgT{es:List Expr}{k n:Nat}{t:TGs}{pos:Pos}(hK:X.K=K)(hc:X.calm=true)(h:PGs X es t)(hn:(assignEach es X.env).length=n:=by rfl)(hst:(assignEach es X.env).findIdx? (·.1)=none:=by rfl):PG X (.Tuple es k pos) (gTup K n t):=hK▸Zg2 hc h hn hst
variable{o e:Expr}{es:List Expr}{to:TE}{t:TA}{name:Str}{apos cpos:Pos}{T id:String}{r:V->List V->Hp->VK->Prop}
theorem peM0(hK:X.K=K)(pa:PlainAttrs T)(slot:Slot T name id)(hty:typeOf (.builtin id)=pure (.type "method_descriptor"))(hm:MtR X id r)(ho:PE X o to)
  (hbase:attributeBase o name X.env (eval o X.env)=eval o X.env:=by rfl) (hline:(apos.endLine == cpos.line)=true:=by rfl):PE X (.Call (.Attribute o name apos) [] [] cpos) (tBM0 K T r to):=hK▸Zje pa slot hty hm ho hbase hline
theorem peM(hK:X.K=K)(pa:PlainAttrs T)(slot:Slot T name id)(hty:typeOf (.builtin id)=pure (.type "method_descriptor"))(hm:MtR X id r)(ho:PE X o to)(ha:PA X (e::es) t)
  (hbase:attributeBase o name X.env (eval o X.env)=eval o X.env:=by rfl)
  (hfew:((backTo cpos (starEach (e::es) X.env)).all (fun x=>!x.1)&&(backToKw cpos (keywordEach [] X.env)).all (fun x=>x.1.isSome)
   && decide ((e::es).length+([]:List Keyword).length+(if ([]:List Keyword).isEmpty then 0 else 1)<30))=true:=by rfl)
  (hline:(apos.endLine == cpos.line)=true:=by rfl) (hs:starEach (e::es) X.env=(false,eval e X.env)::starEach es X.env:=by rfl) (hplain:(backTo cpos (starEach es X.env)).any (·.1)=false:=by rfl):
  PE X (.Call (.Attribute o name apos) (e::es) [] cpos) (tBM K T r to t):=hK▸Zj7 pa slot hty hm ho ha hbase hfew hline hs hplain
end
end KS
end
section
namespace KS
open PySem PySem.Spec L2
open PyProof.Rows hiding St
section
variable{X:Cx}{K:PySem.W.Frag}
end
end KS
end
section
namespace KT
open PySem PySem.Builtin PySem.Builtin.Str PySem.StrLaws
end KT
end
section
namespace KS
open PySem PySem.Spec L2
open PyProof.Rows hiding St
section
variable{X:Cx}{K:PySem.W.Frag}
noncomputable def tFv(te:TE):TE:=fun σ H Q=>te σ H fun v H1=>∃ i:Int,v=.int i/\i.natAbs.log2<1920/\Q (.str (Str.ofString (toString i))) H1
theorem Zh6{e:Expr}{te:TE}{pos:Pos}(he:PE X e te):PE X (.FormattedValue e (-1) none pos) (tFv te):=by
 intro pins s σ H Q I h;refine wpAny_FormattedValue_plain (thn (he pins s σ H _ I h) fun v s1 ⟨x,H1,I1,r1,i,e1,hi,q⟩=>?_);subst e1;obtain⟨t,rfl⟩:=r1;exact wpAny_formatField_int hi ⟨.str _,H1,I1.tok _,⟨_,rfl⟩,q⟩
noncomputable def tJn:List TE->Str->TE
 | [],acc=>fun _ H Q=>Q (.str acc) H
 | t::ts,acc=>fun σ H Q=>t σ H fun v H1=>∃ y:Str,v=.str y/\(acc++y).length<=sizeLine/\tJn ts (acc++y) σ H1 Q
theorem Zgg:∀ {es:List Expr} {ts:List TE},Paired (PE X) es ts->∀ (acc:Str) (pins:List (Addr×Obj)) (s:Shared) (σ:St) (H:Hp) (Q:VK),acc.length<=sizeLine->Inv X pins σ H s->tJn ts acc σ H Q ->
  Joins (model X.prog X.w) X.A X.xe (evalEach es X.env) acc (fun out s₁=>out.length<=sizeLine/\EP X pins σ Q (.str out s₁.toks) { s₁ with toks:=s₁.toks+1 }) s:=by
 intro es ts hp
 induction hp with
 | nil=>intro acc pins s σ H Q hz I h;exact⟨hz,.str acc,H,I.tok _,⟨_,rfl⟩,h⟩
 | cons he _ ih=>
  intro acc pins s σ H Q hz I h;show wpAny _ _ _ _ _ _;refine thn (he pins s σ H _ I h) fun v s1 ⟨x,H1,I1,r1,y,e1,hy,q⟩=>?_;subst e1;obtain⟨t,rfl⟩:=r1;exact⟨y,t,rfl,hy,ih _ pins s1 σ H1 Q hy I1 q⟩
theorem Zjd{v1 v2:Expr}{rest:List Expr}{ts:List TE}{pos:Pos}(hp:Paired (PE X) (v1::v2::rest) ts):PE X (.JoinedStr (v1::v2::rest) pos) (tJn ts Str.empty):=by
 intro pins s σ H Q I h;exact wpAny_JoinedStr (Zgg hp Str.empty pins s σ H Q (by decide) I h)
end
end KS
end
section
namespace KS
open PySem PySem.Spec L2
open PyProof.Rows hiding St
section
variable{X:Cx}{K:PySem.W.Frag}
end
end KS
end
section
namespace KS
open PySem PySem.Spec L2
open PyProof.Rows hiding St
section
variable{X:Cx}
end
end KS
end
section
namespace KS
open PySem PySem.Spec L2
open PyProof.Rows hiding St
section
variable{X:Cx}
end
section
variable{X:Cx}
end
end KS
end
section
namespace L2
open PySem PySem.Spec PyProof.Rows
section
variable{κ:Type}[DecidableEq κ]
noncomputable def valV(kvs:List (κ×V))(k:κ):Option V:=(kvs.find? fun kv=>decide (kv.1=k)).map (·.2)
noncomputable def putK(kvs:List (κ×V))(k:κ)(v:V):List (κ×V):=
 if (kvs.any fun kv=>decide (kv.1=k))=true then kvs.map (fun kv=>if kv.1=k then (kv.1,v) else kv) else kvs++[(k,v)]
theorem Z2{p:κ×V}{r:List (κ×V)}{k:κ}(e:p.1=k):valV (p::r) k=some p.2:=by simp[valV,List.find?_cons,e]
theorem Z3{p:κ×V}{r:List (κ×V)}{k:κ}(e:¬ p.1=k):valV (p::r) k=valV r k:=by simp[valV,List.find?_cons,e]
theorem Xo(k:κ):∀ kvs:List (κ×V),(kvs.any fun kv=>decide (kv.1=k))=(valV kvs k).isSome
 | []=>rfl
 | p::r=>by
  rw[List.any_cons];by_cases e:p.1=k
  ·simp only[Z2 e,decide_eq_true e,Bool.true_or,Option.isSome_some]
  ·rw[Z3 e,decide_eq_false e,Bool.false_or];exact Xo k r
theorem Za8(k j:κ)(y:V):∀ kvs:List (κ×V),valV (kvs.map fun kv=>if kv.1=k then (kv.1,y) else kv) j=(valV kvs j).map fun x=>if j=k then y else x
 | []=>rfl
 | p::r=>by
  have ih:=Za8 k j y r;rw[List.map_cons];by_cases h:p.1=k
  ·rw[if_pos h];by_cases e:p.1=j
   ·rw[Z2 (p:=(p.1,y)) e,Z2 e,Option.map_some,if_pos (e.symm.trans h)]
   ·rw[Z3 (p:=(p.1,y)) e,Z3 e,ih]
  ·rw[if_neg h];by_cases e:p.1=j
   ·rw[Z2 (p:=p) e,Z2 e,Option.map_some,if_neg (fun z=>h (e.trans z))]
   ·rw[Z3 (p:=p) e,Z3 e,ih]
theorem U0(k j:κ)(y:V):∀ kvs:List (κ×V),valV kvs k=none->valV (kvs++[(k,y)]) j=if j=k then some y else valV kvs j
 | [],_=>by
  by_cases e:k=j
  ·rw[if_pos e.symm];exact Z2 (p:=(k,y)) e
  ·rw[if_neg (fun z=>e z.symm)];exact Z3 (p:=(k,y)) e
 | p::r,hn=>by
  rw[List.cons_append];have hk:¬ p.1=k:=fun z=>by rw[Z2 z] at hn;cases hn
  rw[Z3 hk] at hn;have ih:=U0 k j y r hn;by_cases e:p.1=j
  ·rw[Z2 e,Z2 e,if_neg (fun z=>hk (e.trans z))]
  ·rw[Z3 e,Z3 e,ih]
theorem Za7(kvs:List (κ×V))(k j:κ)(y:V):valV (putK kvs k y) j=if j=k then some y else valV kvs j:=by
 unfold putK;by_cases a:(kvs.any fun kv=>decide (kv.1=k))=true
 ·rw[if_pos a,Za8];rw[Xo] at a;by_cases e:j=k
  ·obtain⟨x,hx⟩:=Option.isSome_iff_exists.mp a;rw[if_pos e,e,hx,Option.map_some,if_pos rfl]
  ·rw[if_neg e];cases valV kvs j with
   | none=>rfl
   | some x=>rw[Option.map_some,if_neg e]
 ·rw[if_neg a];refine U0 k j y kvs ?_;rw[Xo] at a;cases q:valV kvs k with
  | none=>rfl
  | some x=>rw[q] at a;exact (a rfl).elim
theorem Yz(kvs:List (κ×V))(k:κ)(v:V):(putK kvs k v).length<=kvs.length+1:=by
 unfold putK
 split
 ·rw[List.length_map];omega
 ·rw[List.length_append,List.length_cons,List.length_nil];omega
theorem Zft{kvs:List (κ×V)}{k:κ}(v:V)(h:valV kvs k=none):putK kvs k v=kvs++[(k,v)]:=by
 unfold putK;rw[Xo,h];exact if_neg (by decide)
theorem RelO.isSome_eq{o:Option V}{u:Option Value}(r:RelO o u):o.isSome=u.isSome:=by
 cases o with
 | none=>cases u with
  | none=>rfl
  | some _=>exact (show False from r).elim
 | some _=>cases u with
  | none=>exact (show False from r).elim
  | some _=>rfl
theorem KV.val{kvs:List (κ×V)}{vs:List (κ×Value)}(r:KV kvs vs)(k:κ):RelO (valV kvs k) (valueAt vs k):=by
 unfold KV at r
 induction r with
 | nil=>exact True.intro
 | @cons p q ps qs h t ih=>
  obtain⟨h1,h2⟩:=h;by_cases e:p.1=k
  ·have e':q.1=k:=h1.symm.trans e;have b:valueAt (q::qs) k=some q.2:=by simp[valueAt,List.find?_cons,e']
   rw[Z2 e,b];exact h2
  ·have e':¬ q.1=k:=fun z=>e (h1.trans z);have b:valueAt (q::qs) k=valueAt qs k:=by simp[valueAt,List.find?_cons,e']
   rw[Z3 e,b];exact ih
theorem KV.any{kvs:List (κ×V)}{vs:List (κ×Value)}(r:KV kvs vs)(k:κ):(kvs.any fun kv=>decide (kv.1=k))=vs.any fun kv=>decide (kv.1=k):=by
 unfold KV at r
 induction r with
 | nil=>rfl
 | cons h t ih=>rw[List.any_cons,List.any_cons,ih,h.1]
theorem KV.repl{kvs:List (κ×V)}{vs:List (κ×Value)}(r:KV kvs vs)(k:κ){y:V}{u:Value}(ry:RelV y u):
  KV (kvs.map fun kv=>if kv.1=k then (kv.1,y) else kv) (vs.map fun kv=>if kv.1=k then (kv.1,u) else kv):=by
 unfold KV at r ⊢
 induction r with
 | nil=>exact .nil
 | @cons p q ps qs h t ih=>
  rw[List.map_cons,List.map_cons];refine .cons ?_ ih;obtain⟨h1,h2⟩:=h;by_cases e:p.1=k
  ·rw[if_pos e,if_pos (h1.symm.trans e)];exact⟨h1,ry⟩
  ·rw[if_neg e,if_neg (fun z=>e (h1.trans z))];exact⟨h1,h2⟩
theorem KV.put{kvs:List (κ×V)}{vs:List (κ×Value)}(r:KV kvs vs)(k:κ){y:V}{u:Value}(ry:RelV y u):KV (putK kvs k y) (stored vs k u):=by
 unfold putK stored;rw[r.any k];by_cases e:(vs.any fun kv=>decide (kv.1=k))=true
 ·rw[if_pos e,if_pos e];exact r.repl k ry
 ·rw[if_neg e,if_neg e];exact Paired.snoc r ⟨rfl,ry⟩
theorem KV.length{kvs:List (κ×V)}{vs:List (κ×Value)}(r:KV kvs vs):kvs.length=vs.length:=Paired.length r
end
theorem Zeb{P:Program}{w:World}{k:Key}{u:Value}(r:RelV (kV k) u):(mixKind P w).is k u=true:=by
 cases k with
 | inl i=>obtain⟨t,e⟩:=(show ∃ t,u=Value.int i t from r);subst e;exact Zat P w i t
 | inr x=>obtain⟨t,e⟩:=(show ∃ t,u=Value.str x t from r);subst e;exact Zas P w x t
theorem Ji{P:Program}{w:World}:∀ {ks:List Key} {us:List Value},Vals (ks.map kV) us->ItemsAre (mixKind P w) ks us
 | [],_,r=>by rw[List.map_nil] at r;cases r;exact .nil
 | k::ks,_,r=>by
  rw[List.map_cons] at r;cases r with
  | cons h t=>exact .cons (Zeb h) (Ji t)
noncomputable abbrev KT(H:Hp):List (List Key×V)->List (List Key×Addr×Value)->Prop:=Paired fun p q=>p.1=q.1/\H q.2.1=some (.tup (p.1.map kV))/\RelV p.2 q.2.2
theorem KT.val{H:Hp}{kvs:List (List Key×V)}{xs:List (List Key×Addr×Value)}(r:KT H kvs xs)(k:List Key):RelO (valV kvs k) ((atKey xs k).map (·.2)):=by
 induction r with
 | nil=>exact True.intro
 | @cons p q ps qs h t ih=>
  obtain⟨h1,_,h2⟩:=h;by_cases e:p.1=k
  ·have e':q.1=k:=h1.symm.trans e;have b:atKey (q::qs) k=some q.2:=by simp[atKey,List.find?_cons,e']
   rw[Z2 e,b];exact h2
  ·have e':¬ q.1=k:=fun z=>e (h1.trans z);have b:atKey (q::qs) k=atKey qs k:=by simp[atKey,List.find?_cons,e']
   rw[Z3 e,b];exact ih
theorem KT.repl{H:Hp}{kvs:List (List Key×V)}{xs:List (List Key×Addr×Value)}(r:KT H kvs xs)(k:List Key){y:V}{u:Value}(ry:RelV y u):
  KT H (kvs.map fun kv=>if kv.1=k then (kv.1,y) else kv) (xs.map (putAt k u)):=by
 induction r with
 | nil=>exact .nil
 | @cons p q ps qs h t ih=>
  rw[List.map_cons,List.map_cons];refine .cons ?_ ih;obtain⟨h1,h2,h3⟩:=h;unfold putAt;by_cases e:p.1=k
  ·rw[if_pos e,if_pos (h1.symm.trans e)];exact⟨h1,h2,ry⟩
  ·rw[if_neg e,if_neg (fun z=>e (h1.trans z))];exact⟨h1,h2,h3⟩
theorem KT.put{H:Hp}{kvs:List (List Key×V)}{xs:List (List Key×Addr×Value)}(r:KT H kvs xs)(k:List Key){b:Addr}{y:V}{u:Value}(hb:H b=some (.tup (k.map kV)))(ry:RelV y u):
  KT H (putK kvs k y) (storedH xs k b u):=by
 have e:(kvs.any fun kv=>decide (kv.1=k))=(atKey xs k).isSome:=by
  rw[Xo,(r.val k).isSome_eq,Option.isSome_map]
 unfold putK storedH;rw[e];by_cases q:(atKey xs k).isSome=true
 ·rw[if_pos q,if_pos q];exact r.repl k ry
 ·rw[if_neg q,if_neg q];exact Paired.snoc r ⟨rfl,hb,ry⟩
theorem KT.keeps{H H':Hp}{kvs:List (List Key×V)}{xs:List (List Key×Addr×Value)}(r:KT H kvs xs)(ht:∀ b ys,H b=some (.tup ys)->H' b=some (.tup ys)):KT H' kvs xs:=
 Paired.mapP r fun _ _ z=>⟨z.1,ht _ _ z.2.1,z.2.2⟩
section
variable{P:Program}{w:World}{H:Hp}{h:Heap}{a:Addr}
theorem Zi6{u:HO}(ok:HOk P w H h)(e:Rd H a u):ObjOk P w H h a u:=e.ok ok
theorem Zet{kvs:List (Key×V)}(ok:HOk P w H h)(e:Rd H a (.dK kvs)):kvs.length<=sizeLine/\(a == sysModules)=false/\∃ vs,KV kvs vs/\h.DictOf (mixKind P w) a vs:=
 show ObjOk P w H h a (.dK kvs) from Zi6 ok e
theorem Zkk{kvs:List (Key×V)}(ok:HOk P w H h)(e:H a=some (.dK kvs)):kvs.length<=sizeLine/\(a == sysModules)=false/\∃ vs,KV kvs vs/\h.DictOf (mixKind P w) a vs:=Zet ok (.inl e)
theorem Ve{ks:List Key}(ok:HOk P w H h)(e:H a=some (.tup (ks.map kV))):(tupleKind (mixKind P w)).is h ks a:=by
 obtain⟨_,its,r,o,h1,h2,n,h3⟩:=(show ObjOk P w H h a (.tup (ks.map kV)) from ok a _ e);exact⟨o,its.toArray,n,h1,h2,h3,by simpa using Ji r⟩
theorem Zes{kvs:List (List Key×V)}(ok:HOk P w H h)(e:Rd H a (.dT kvs)):kvs.length<=sizeLine/\(a == sysModules)=false /\
  ∃ xs,KT H kvs xs/\h.DictOfH (tupleKind (mixKind P w)) a xs:=by
 obtain⟨z,y,xs,r,o,es,ep,h1,h2,h3,h4,h5⟩:=(show ObjOk P w H h a (.dT kvs) from Zi6 ok e);refine⟨z,y,xs,r,o,es,ep,h1,h2,h3,h4,fun x hx=>?_,h5⟩;have all:∀ {l:List (List Key×V)} {m:List (List Key×Addr×Value)},KT H l m->∀ x∈m,(tupleKind (mixKind P w)).is h x.1 x.2.1:=by
  intro l m q
  induction q with
  | nil=>intro x hx;exact nomatch hx
  | @cons p q ps qs hq t ih=>
   intro x hx;rcases List.mem_cons.mp hx with e | hx
   ·subst e;exact Ve ok (by rw[← hq.1];exact hq.2.1)
   ·exact ih x hx
 exact all r x hx
theorem Zjw{kvs:List (List Key×V)}(ok:HOk P w H h)(e:H a=some (.dT kvs)):kvs.length<=sizeLine/\(a == sysModules)=false /\
  ∃ xs,KT H kvs xs/\h.DictOfH (tupleKind (mixKind P w)) a xs:=Zes ok (.inl e)
end
noncomputable def DGet(H:Hp)(a:Addr)(y:V)(r:Option V):Prop:=
 (∃ kvs k,Rd H a (.dK kvs)/\y=kV k/\r=valV kvs k)∨∃ kvs k b,Rd H a (.dT kvs)/\y=.ref b/\H b=some (.tup (k.map kV))/\r=valV kvs k
noncomputable def DPut(H:Hp)(a:Addr)(y v:V)(H':Hp):Prop:=
 (∃ kvs k,H a=some (.dK kvs)/\y=kV k/\kvs.length<sizeLine/\H'=upd H a (.dK (putK kvs k v))) ∨
 ∃ kvs k b,H a=some (.dT kvs)/\y=.ref b/\H b=some (.tup (k.map kV))/\kvs.length<sizeLine/\H'=upd H a (.dT (putK kvs k v))
theorem DGet.k{H:Hp}{a:Addr}{kvs:List (Key×V)}{k:Key}(e:H a=some (.dK kvs)):DGet H a (kV k) (valV kvs k):=.inl ⟨kvs,k,.inl e,rfl,rfl⟩
theorem DGet.t{H:Hp}{a b:Addr}{kvs:List (List Key×V)}{k:List Key}(e:H a=some (.dT kvs))(eb:H b=some (.tup (k.map kV))):DGet H a (.ref b) (valV kvs k):=.inr ⟨kvs,k,b,.inl e,rfl,eb,rfl⟩
theorem DPut.k{H:Hp}{a:Addr}{kvs:List (Key×V)}{k:Key}{v:V}(e:H a=some (.dK kvs))(hl:kvs.length<sizeLine):DPut H a (kV k) v (upd H a (.dK (putK kvs k v))):=.inl ⟨kvs,k,e,rfl,hl,rfl⟩
theorem DPut.t{H:Hp}{a b:Addr}{kvs:List (List Key×V)}{k:List Key}{v:V}(e:H a=some (.dT kvs))(eb:H b=some (.tup (k.map kV)))(hl:kvs.length<sizeLine):
  DPut H a (.ref b) v (upd H a (.dT (putK kvs k v))):=.inr ⟨kvs,k,b,e,rfl,eb,hl,rfl⟩
section
variable{X:Cx}{pins:List (Addr×Obj)}{σ:St}{H:Hp}{s:Shared}{a:Addr}{y v:V}{u r:Value}{o:Option V}{A:Around}{E:Value->Shared->Prop}
theorem Inv.big(I:Inv X pins σ H s):sysModules<s.heap.objs.size:=by
 have h:mainGlobals<s.heap.objs.size:=(I.mod.glob.keeps I.bk).lt;exact Nat.lt_trans (by decide) h
theorem Zez{Q:Value->Shared->Prop}(hu:A.units+1<cLine)(I:Inv X pins σ H s)(g:DGet H a y (some v))(ry:RelV y u)(h:∀ w' s',Inv X pins σ H s'->RelV v w'->Q w' s'):
  wpAny (model X.prog X.w) A (getItem (.ref a) u) Q E s:=by
 rcases g with ⟨kvs,k,e,ey,l⟩ | ⟨kvs,k,b,e,ey,eb,l⟩
 ·subst ey;obtain⟨z,hd,vs,rel,dd⟩:=Zet I.hok e;obtain⟨w',hw,rw'⟩:=RelO.some_of (v:=v) (o:=valueAt vs k) (by rw[l];exact rel.val k)
  exact wpAny_getItem_of (Zeb ry) dd.mapOf hw (h w' _ (I.tok _) rw')
 ·subst ey;cases (show u=Value.ref b from ry);obtain⟨z,hd,xs,rel,dd⟩:=Zes I.hok e;obtain⟨w',hw,rw'⟩:=RelO.some_of (v:=v) (o:=(atKey xs k).map (·.2)) (by rw[l];exact rel.val k)
  obtain⟨p,hp,hp2⟩:=Option.map_eq_some_iff.mp hw;refine wpAny_getItem_heap (tupleKind_room_in1 hu) (Ve I.hok eb) dd hp ?_;rw[hp2];exact h w' _ (I.tok _) rw'
theorem Zkl{Q:Value->Shared->Prop}(hu:A.units+1<cLine)(I:Inv X pins σ H s)(g:DGet H a y o)(ry:RelV y u)(h:∀ s',Inv X pins σ H s'->Q (.bool o.isSome) s'):
  wpAny (model X.prog X.w) A (compareOp .In u (.ref a)) Q E s:=by
 rcases g with ⟨kvs,k,e,ey,l⟩ | ⟨kvs,k,b,e,ey,eb,l⟩
 ·subst ey;obtain⟨z,hd,vs,rel,dd⟩:=Zet I.hok e;refine wpAny_in_of (Zeb ry) hd dd.mapOf ?_;rw[← (rel.val k).isSome_eq,← l];exact h _ (I.tok _)
 ·subst ey;cases (show u=Value.ref b from ry);obtain⟨z,hd,xs,rel,dd⟩:=Zes I.hok e;refine wpAny_in_heap (tupleKind_room_in1 hu) (Ve I.hok eb) hd dd ?_;have q:=(rel.val k).isSome_eq;rw[Option.isSome_map] at q;rw[← q,← l];exact h _ (I.tok _)
theorem Ziy{Q:Value->Shared->Prop}(hu:A.units+1<cLine)(I:Inv X pins σ H s)(g:DGet H a y o)(ry:RelV y u)(h:∀ s',Inv X pins σ H s'->Q (.bool (!o.isSome)) s'):
  wpAny (model X.prog X.w) A (compareOp .NotIn u (.ref a)) Q E s:=by
 rcases g with ⟨kvs,k,e,ey,l⟩ | ⟨kvs,k,b,e,ey,eb,l⟩
 ·subst ey;obtain⟨z,hd,vs,rel,dd⟩:=Zet I.hok e;refine wpAny_notIn_of (Zeb ry) hd dd.mapOf ?_;rw[← (rel.val k).isSome_eq,← l];exact h _ (I.tok _)
 ·subst ey;cases (show u=Value.ref b from ry);obtain⟨z,hd,xs,rel,dd⟩:=Zes I.hok e;refine wpAny_notIn_heap (tupleKind_room_in1 hu) (Ve I.hok eb) hd dd ?_;have q:=(rel.val k).isSome_eq;rw[Option.isSome_map] at q;rw[← q,← l];exact h _ (I.tok _)
theorem Zex{h':Heap}{t':Nat}{ob:HO}(I:Inv X pins σ H s)(mu:Mut (H a))(hs:Heap.SameBut a s.heap h')(he:∃ q,h'.get? a=some q)(new:ObjOk X.prog X.w (upd H a ob) h' a ob):
  Inv X pins σ (upd H a ob) { s with heap:=h',toks:=t' }:=
 I.write (x:=a) (e:=a) mu (.inl rfl) (fun b q hb z=>(hs.2 b hb).trans z) he new
theorem Zjx{P:Program}{w:World}{H':Hp}{h':Heap}{kvs:List (Key×V)}{vs:List (Key×Value)}(z:kvs.length<=sizeLine)(hd:(a == sysModules)=false)(rel:KV kvs vs)(dd:h'.DictOf (mixKind P w) a vs):
  ObjOk P w H' h' a (.dK kvs):=⟨z,hd,vs,rel,dd⟩
theorem Zey{H':Hp}{Q:Unit->Shared->Prop}(hu:A.units+1<cLine)(I:Inv X pins σ H s)(g:DPut H a y v H')(ry:RelV y u)(rv:RelV v r)(h:∀ s',Inv X pins σ H' s'->Q () s'):
  wpAny (model X.prog X.w) A (setItem (.ref a) u r) Q E s:=by
 rcases g with ⟨kvs,k,e,ey,l,eH⟩ | ⟨kvs,k,b,e,ey,eb,l,eH⟩
 ·subst ey eH;obtain⟨z,hd,vs,rel,dd⟩:=Zkk I.hok e;have hz:vs.length<=sizeLine:=by rw[← rel.length];exact z
  have hl:(putK kvs k v).length<=sizeLine:=by have:=Yz kvs k v;omega
  refine wpAny_setItem_pairs (hsz:=hz) (Zeb ry) dd fun h' dd' hs=>h _ ?_;have he:∃ q,h'.get? a=some q:=let ⟨q,_,_,hq,_⟩:=dd';⟨q,hq⟩
  exact Zex I (by rw[e];exact True.intro) hs he (Zjx hl hd (rel.put k rv) dd')
 ·subst ey eH;cases (show u=Value.ref b from ry);obtain⟨z,hd,xs,rel,dd⟩:=Zjw I.hok e;have hz:xs.length<=sizeLine:=by rw[← Paired.length rel];exact z
  have hl:(putK kvs k v).length<=sizeLine:=by have:=Yz kvs k v;omega
  refine wpAny_setItem_heap (hsz:=hz) (tupleKind_room_in1 hu) (Ve I.hok eb) dd fun h' dd' hs=>h _ ?_;obtain⟨q,es,ep,hq,h2,h3,h4,_,h5⟩:=dd';refine Zex I (by rw[e];exact True.intro) hs ⟨q,hq⟩ ⟨hl,hd,_,(rel.put k eb rv).keeps fun c ys ec=>?_,q,es,ep,hq,h2,h3,h4,h5⟩
  rw[Zh (Zy ec e (fun z=>nomatch z))];exact ec
end
section
variable{X:Cx}{pins:List (Addr×Obj)}{σ:St}{H:Hp}{s:Shared}{a:Addr}{kvs:List (Key×V)}{k:Key}{u:Value}{A:Around}{E:Value->Shared->Prop}
end
noncomputable def NoSl(i:Expr):Prop:=∀ ov iv,subscripted i false ov iv=operate [ov,iv] (getItem ov iv)
theorem Zhw{prog:Program}{w:World}{A:Around}{E:Value->Shared->Prop}{s:Shared}{env:Env}{value slice:Expr}{pos:Pos}{T id:String}{Q:Value->Shared->Prop}
  (hl:typeLookup (.type T) "__getitem__"=pure (some (.builtin id))) (hs:NoSl slice)
  (h:wpAny (model prog w) A (eval value env) (fun o s₁=>wpAny (model prog w) A (eval slice env) (fun i s₂=>s₂.TypeIs o T/\wpAny (model prog w) A (getItem o i) Q E s₂) E s₁) E s):
  wpAny (model prog w) A (eval (.Subscript value slice pos) env) Q E s:=by
 refine Subscript_ (wpAny_mono h (fun o s₁ h₁=>wpAny_mono h₁ (fun i s₂ h₂=>?_) fun _ _ x=>x) fun _ _ x=>x);obtain⟨hT,h₂⟩:=h₂;unfold subscriptTail;refine wpAny_bind ?_;rw[getitemInPython_of_ne hT.not_modules];refine wpAny_bind (wpAny_specialOf hT hl ?_);have fin:wpAny (model prog w) A (subscripted slice false o i) (fun r s₃=>wpAny (model prog w) A (letTemporaryGo value o r >>= fun _=>pure r) Q E s₃) E s₂:=by
  rw[hs o i];exact wpAny_operating (wpAny_mono h₂ (fun r s₃ h₃=>wpAny_bind (wpAny_letTemporaryGo (wpAny_pure h₃))) fun _ _ x=>x)
 first
  | exact wpAny_pure (wpAny_bind fin)
  | exact wpAny_bind (wpAny_pure (wpAny_bind fin))
  | exact wpAny_bind fin
theorem Zay{X:Cx}{pins:List (Addr×Obj)}{σ:St}{H:Hp}{s:Shared}{a:Addr}{y:V}{o:Option V}(I:Inv X pins σ H s)(g:DGet H a y o):s.TypeIs (.ref a) "dict":=by
 rcases g with ⟨kvs,k,e,_,_⟩ | ⟨kvs,k,b,e,_,_,_⟩
 ·obtain⟨_,_,vs,_,dd⟩:=Zet I.hok e;exact dd.typeIs
 ·obtain⟨_,_,xs,_,dd⟩:=Zes I.hok e;exact dd.typeIs
noncomputable def tDGet(td ty:TE):TE:=fun σ H Q=>td σ H fun x H1=>ty σ H1 fun y H2=>∃ a v,x=.ref a/\DGet H2 a y (some v)/\Q v H2
noncomputable def tDIn(ty td:TE):TE:=fun σ H Q=>ty σ H fun y H1=>td σ H1 fun x H2=>∃ a o,x=.ref a/\DGet H2 a y o/\Q (.bl o.isSome) H2
noncomputable def tDNotIn(ty td:TE):TE:=fun σ H Q=>ty σ H fun y H1=>td σ H1 fun x H2=>∃ a o,x=.ref a/\DGet H2 a y o/\Q (.bl (!o.isSome)) H2
noncomputable def sDPut(td ty tv:TE):TS:=fun D σ H=>tv σ H fun v H1=>td σ H1 fun x H2=>ty σ H2 fun y H3=>∃ a H4,x=.ref a/\DPut H3 a y v H4/\D.nx σ H4
section
variable{X:Cx}{o i e value:Expr}{pos pos' tpos:Pos}{td ty tv:TE}
theorem Zh7(hu:X.A.units+1<cLine)(ho:PE X o td)(hi:PE X i ty)(hs:NoSl i):PE X (.Subscript o i pos) (tDGet td ty):=by
 intro pins s σ H Q I h;refine Zhw PySem.F.slot_dict_getitem.lookup hs (thn (ho pins s σ H _ I h) fun u s1 ⟨x,H1,I1,rx,q1⟩=>thn (hi pins s1 σ H1 _ I1 q1) fun iv s2 ⟨y,H2,I2,ry,a,v,ex,g,q2⟩=>?_);subst ex;obtain rfl:u=Value.ref a:=rx;exact⟨Zay I2 g,Zez hu I2 g ry fun w' s3 I3 rw'=>⟨v,H2,I3,rw',q2⟩⟩
theorem Zjf(hu:X.A.units+1<cLine)(hi:PE X i ty)(ho:PE X o td):PC X .In i o (tDIn ty td):=by
 intro pins s σ H Q I h;refine thn (hi pins s σ H _ I h) fun iv s1 ⟨y,H1,I1,ry,q1⟩=>thn (ho pins s1 σ H1 _ I1 q1) fun u s2 ⟨x,H2,I2,rx,a,ov,ex,g,q2⟩=>?_;subst ex;obtain rfl:u=Value.ref a:=rx;exact Zkl hu I2 g ry fun s3 I3=>⟨.bl ov.isSome,H2,I3,rfl,q2⟩
theorem Ja(hu:X.A.units+1<cLine)(hi:PE X i ty)(ho:PE X o td):PC X .NotIn i o (tDNotIn ty td):=by
 intro pins s σ H Q I h;refine thn (hi pins s σ H _ I h) fun iv s1 ⟨y,H1,I1,ry,q1⟩=>thn (ho pins s1 σ H1 _ I1 q1) fun u s2 ⟨x,H2,I2,rx,a,ov,ex,g,q2⟩=>?_;subst ex;obtain rfl:u=Value.ref a:=rx;exact Ziy hu I2 g ry fun s3 I3=>⟨.bl (!ov.isSome),H2,I3,rfl,q2⟩
theorem Zar(hu:X.A.units+1<cLine)(ho:PE X o td)(hi:PE X i ty)(hv:PE X value tv)(hs:swapsWith value (some (.Subscript o i pos')) pos.line X.env=pure false):
  PS X (.Assign [.Subscript o i pos'] value pos) (sDPut td ty tv):=by
 intro pins s σ H D I h;refine wpAny_Assign_Subscript (thn (hv pins s σ H _ I h) fun r s1 ⟨v,H1,I1,rv,q1⟩=>thn (ho pins s1 σ H1 _ I1 q1) fun u s2 ⟨x,H2,I2,rx,q2⟩=>thn (hi pins s2 σ H2 _ I2 q2) fun iv s3 ⟨y,H3,I3,ry,a,H4,ex,g,q3⟩=>?_) hs;subst ex;obtain rfl:u=Value.ref a:=rx;exact Zey hu I3 g ry rv fun s4 I4=>⟨σ,H4,I4,q3⟩
end
theorem Zgp{P:Program}{w:World}{H:Hp}(h:Heap)(hb:sysModules<h.objs.size):ObjOk P w H (h.push { cls:=.type "dict",data:=.dict #[] }) h.objs.size (.dK []):=
 ⟨Nat.zero_le _,beq_eq_false_iff_ne.mpr (Ne.symm (Nat.ne_of_lt hb)),[],.nil,Heap.DictOf.new h⟩
theorem Zgn{P:Program}{w:World}{H:Hp}(h:Heap)(hb:sysModules<h.objs.size):ObjOk P w H (h.push { cls:=.type "dict",data:=.dict #[] }) h.objs.size (.dT []):=
 ⟨Nat.zero_le _,beq_eq_false_iff_ne.mpr (Ne.symm (Nat.ne_of_lt hb)),[],.nil,_,#[],0,Heap.get?_push_size _ rfl,⟨rfl,rfl,rfl⟩,rfl,rfl,List.nodup_nil⟩
noncomputable def tDNewK:TE:=fun _ H Q=>∀ p,H p=none->Q (.ref p) (upd H p (.dK []))
noncomputable def tDNewT:TE:=fun _ H Q=>∀ p,H p=none->Q (.ref p) (upd H p (.dT []))
section
variable{X:Cx}{pos:Pos}
theorem Zbn:PE X (.Dict [] [] pos) tDNewK:=fun pins s σ H Q I h=>
 wpAny_Dict_empty ⟨.ref s.heap.objs.size,_,I.laid (a:=s.heap.objs.size) (o:=.dK []) (t':=s.toks) (fun _ _ q=>Heap.get?_push_of_some _ q) (Nat.le_refl _) (Zgp s.heap I.big),rfl,h _ (I.hok.fresh (Nat.le_refl _))⟩
theorem Zfw:PE X (.Dict [] [] pos) tDNewT:=fun pins s σ H Q I h=>
 wpAny_Dict_empty ⟨.ref s.heap.objs.size,_,I.laid (a:=s.heap.objs.size) (o:=.dT []) (t':=s.toks) (fun _ _ q=>Heap.get?_push_of_some _ q) (Nat.le_refl _) (Zgn s.heap I.big),rfl,h _ (I.hok.fresh (Nat.le_refl _))⟩
end
section
variable{X:Cx}{pins:List (Addr×Obj)}{σ:St}{H:Hp}{s:Shared}{a:Addr}{y d:V}{u r:Value}{o:Option V}{A:Around}{E:Value->Shared->Prop}
end
section
variable{X:Cx}{o e f:Expr}{apos cpos:Pos}{td ty tx:TE}
end
section
variable{X:Cx}{pins:List (Addr×Obj)}{σ:St}{H:Hp}{s:Shared}{a:Addr}{kvs:List (Key×V)}{A:Around}{E:Value->Shared->Prop}
end
section
variable{X:Cx}{pins:List (Addr×Obj)}{σ:St}{H:Hp}{s:Shared}{a:Addr}{y:V}{u:Value}{A:Around}{E:Value->Shared->Prop}
end
end L2
end
section
namespace KS
open PySem PySem.Spec L2
open PyProof.Rows hiding St
section
variable{P:Program}{w:World}{A:Around}{E:Value->Shared->Prop}{s:Shared}
end
section
variable{P:Program}{w:World}
variable{A:Around}{E:Value->Shared->Prop}{s:Shared}
end
end KS
end
section
namespace KS
open PySem PySem.Spec L2
open PyProof.Rows hiding St
noncomputable def EntAt(h:Heap)(d:Addr)(es:Array DictEntry)(ep:Nat):Prop:=∃ o,h.get? d=some o/\o.data=.dict es ep
theorem EntAt.keep{h h':Heap}{d:Addr}{es:Array DictEntry}{ep:Nat}(x:EntAt h d es ep)(k:∀ o,h.get? d=some o->h'.get? d=some o):EntAt h' d es ep:=let ⟨o,e,r⟩:=x;⟨o,k o e,r⟩
section
variable{P:Program}{w:World}{A:Around}{E:Value->Shared->Prop}{s:Shared}{v d z:Addr}{es:Array DictEntry}{ep i:Nat}
end
end KS
end
section
namespace KS
open PySem PySem.Spec L2
open PyProof.Rows hiding St
section
variable{P:Program}{w:World}{H:Hp}{h:Heap}{d v:Addr}{xs:List Row2}
end
section
variable{X:Cx}{pos:Pos}
end
section
variable{X:Cx}{o e:Expr}{es:List Expr}{to:TE}{t:TA}{name:Str}{apos cpos:Pos}{id:String}{r:V->List V->Hp->VK->Prop}
end
end KS
end
section
namespace KM
variable{α:Type}
noncomputable def Srt(kf:α->Int)(l:List α):Prop:=l.Pairwise fun x y=>kf x<=kf y
structure Mid(kf:α->Int)(a b out:List α)(ia ib:Nat):Prop where
 pm:(out++(a.drop ia++b.drop ib)).Perm (a++b)
 so:Srt kf out
 le:∀ x∈out,∀ y∈a.drop ia++b.drop ib,kf x<=kf y
variable{kf:α->Int}{a b out:List α}{ia ib k:Nat}{x:α}
theorem mid0:Mid kf a b [] 0 0:=⟨by simp,List.Pairwise.nil,(fun x hx=>nomatch hx)⟩
theorem Vi(h:a[ia]? = some x):a.drop ia=x::a.drop (ia+1):=by
 obtain⟨h1,h2⟩:=List.getElem?_eq_some_iff.mp h;rw[List.drop_eq_getElem_cons h1,h2]
theorem Yy(sa:Srt kf a)(h:a[ia]? = some x):∀ y∈a.drop ia,kf x<=kf y:=by
 have e:=Vi h;have s:Srt kf (a.drop ia):=List.Pairwise.sublist (List.drop_sublist _ _) sa;rw[e] at s ⊢;intro y hy;rcases List.mem_cons.mp hy with rfl | hy
 ·exact Int.le_refl _
 ·exact (List.pairwise_cons.mp s).1 y hy
theorem Zba(so:Srt kf out)(h:∀ z∈out,kf z<=kf x):Srt kf (out++[x]):=
 List.pairwise_append.mpr ⟨so,List.pairwise_singleton _ _,fun z hz y hy=>by rw[List.mem_singleton.mp hy];exact h z hz⟩
theorem Mid.one(M:Mid kf a b out ia ib)(sa:Srt kf a)(h:a[ia]? = some x)(hb:∀ y∈b.drop ib,kf x<=kf y):Mid kf a b (out++[x]) (ia+1) ib:=by
 have e:=Vi h;have s:=Yy sa h;refine⟨?_,Zba M.so fun z hz=>M.le z hz x (by rw[e];simp),fun z hz y hy=>?_⟩
 ·have p:=M.pm;rw[e] at p;simpa using p
 ·have hy':y∈a.drop ia∨y∈b.drop ib:=by
   rcases List.mem_append.mp hy with hy | hy
   ·exact .inl (by rw[e];exact List.mem_cons_of_mem _ hy)
   ·exact .inr hy
  rcases List.mem_append.mp hz with hz | hz
  ·exact M.le z hz y (List.mem_append.mpr hy')
  ·rw[List.mem_singleton.mp hz];rcases hy' with hy' | hy'
   ·exact s y hy'
   ·exact hb y hy'
theorem Mid.swap(M:Mid kf a b out ia ib):Mid kf b a out ib ia:=
 ⟨((List.perm_append_comm.append_left out).trans M.pm).trans List.perm_append_comm,M.so,fun z hz y hy=>M.le z hz y (List.mem_append.mpr (List.mem_append.mp hy).symm)⟩
theorem Mid.two(M:Mid kf a b out ia ib)(sb:Srt kf b)(h:b[ib]? = some x)(ha:∀ y∈a.drop ia,kf x<=kf y):Mid kf a b (out++[x]) ia (ib+1):=(M.swap.one sb h ha).swap
theorem Mid.as(M:Mid kf a b out ia ib)(sa:Srt kf a):∀ k,ia+k<=a.length->(∀ i x,ia<=i->i<ia+k->a[i]? = some x->∀ y∈b.drop ib,kf x<=kf y)->Mid kf a b (out++(a.drop ia).take k) (ia+k) ib
 | 0,_,_=>by simpa using M
 | k+1,hk,h=>by
  have ih:=M.as sa k (by omega) fun i x h1 h2=>h i x h1 (by omega)
  have e:a[ia+k]? = some (a[ia+k]'(by omega)):=List.getElem?_eq_getElem _
  have:=ih.one sa e (h (ia+k) _ (by omega) (by omega) e)
  rw[List.take_add_one,List.getElem?_drop,e,← List.append_assoc];exact this
theorem Mid.bs(M:Mid kf a b out ia ib)(sb:Srt kf b)(k:Nat)(hk:ib+k<=b.length)(h:∀ i x,ib<=i->i<ib+k->b[i]? = some x->∀ y∈a.drop ia,kf x<=kf y):Mid kf a b (out++(b.drop ib).take k) ia (ib+k):=
 (M.swap.as sb k hk h).swap
structure Whole(kf:α->Int)(a b r:List α):Prop where
 pm:r.Perm (a++b)
 so:Srt kf r
theorem Mid.doneB(M:Mid kf a b out ia ib)(sa:Srt kf a)(h:b.length<=ib):Whole kf a b (out++a.drop ia++b.drop ib):=by
 have e:b.drop ib=[]:=List.drop_eq_nil_of_le h;refine⟨by rw[List.append_assoc];exact M.pm,?_⟩
 rw[e,List.append_nil];exact List.pairwise_append.mpr ⟨M.so,List.Pairwise.sublist (List.drop_sublist _ _) sa,fun z hz y hy=>M.le z hz y (List.mem_append.mpr (.inl hy))⟩
theorem Mid.doneA(M:Mid kf a b out ia ib)(sb:Srt kf b)(h:a.length<=ia):Whole kf a b (out++a.drop ia++b.drop ib):=by
 have e:a.drop ia=[]:=List.drop_eq_nil_of_le h;refine⟨by rw[List.append_assoc];exact M.pm,?_⟩
 rw[e,List.append_nil];exact List.pairwise_append.mpr ⟨M.so,List.Pairwise.sublist (List.drop_sublist _ _) sb,fun z hz y hy=>M.le z hz y (List.mem_append.mpr (.inr hy))⟩
theorem Mid.last(M:Mid kf a b out ia ib)(sb:Srt kf b)(h:ia+1=a.length)(hl:∀ x,a[ia]? = some x->∀ y∈b,kf y<=kf x):Whole kf a b (out++b.drop ib++a.drop ia):=by
 have e:a[ia]? = some (a[ia]'(by omega)):=List.getElem?_eq_getElem _
 have e2:a.drop ia=[a[ia]'(by omega)]:=by rw[Vi e,List.drop_eq_nil_of_le (by omega)]
 refine⟨by rw[List.append_assoc];exact (List.perm_append_comm.append_left out).trans M.pm,?_⟩
 rw[e2];refine Zba ?_ fun z hz=>?_
 ·exact List.pairwise_append.mpr ⟨M.so,List.Pairwise.sublist (List.drop_sublist _ _) sb,fun z hz y hy=>M.le z hz y (List.mem_append.mpr (.inr hy))⟩
 ·rcases List.mem_append.mp hz with hz | hz
  ·exact M.le z hz _ (by rw[e2];simp)
  ·exact hl _ e z (List.mem_of_mem_drop hz)
theorem Xl(h:Srt kf a):Srt (fun x =>- kf x) a.reverse:=by
 unfold Srt;rw[List.pairwise_reverse];exact List.Pairwise.imp (fun h=>Int.neg_le_neg h) h
theorem Whole.rev(h:Whole (fun x =>- kf x) a.reverse b.reverse out):Whole kf a b out.reverse:=by
 refine⟨(List.reverse_perm _).trans (h.pm.trans ((List.reverse_perm _).append (List.reverse_perm _))),?_⟩;unfold Srt;rw[List.pairwise_reverse];exact List.Pairwise.imp (fun h=>Int.le_of_neg_le_neg h) h.so
theorem Uw(n:Nat)(h:n<=a.length):a.reverse.drop (a.length - n)=(a.take n).reverse:=by
 rw[List.drop_reverse]
 congr 2
 omega
theorem Zel{n:Nat}(h:n<a.length):a.reverse[a.length - (n+1)]? = a[n]? :=by
 rw[List.getElem?_reverse (by omega)]
 congr 1
 omega
end KM
end
section
namespace KS
open PySem PyProof.Rows KM
noncomputable def gallop':Bool->Keyed->Array Keyed->Nat->Nat->Nat->StateT SortSt Sem (Option Nat):=sortPriv% PySem.Builtin.gallop
noncomputable def mergeLo':Array Keyed->Array Keyed->StateT SortSt Sem (Array Keyed):=sortPriv% PySem.Builtin.mergeLo
noncomputable def mergeHi':Array Keyed->Array Keyed->StateT SortSt Sem (Array Keyed):=sortPriv% PySem.Builtin.mergeHi
noncomputable def setMG':Nat->StateT SortSt Sem Unit:=sortPriv% PySem.Builtin.setMinGallop
noncomputable def galB(left:Bool)(key:Keyed)(arr:Array Keyed)(base i:Nat):StateT SortSt Sem (Option Bool):=do
 let v ← elem' arr (base+i)
 if left then lt' v key else return (← lt' key v).map (!·)
theorem gallop'_eq(left:Bool)(key:Keyed)(arr:Array Keyed)(base n hint:Nat):gallop' left key arr base n hint=(do
 let mut la:=0
 let mut o:=1
 let mut l:=0
 let mut h:=0
 let some up ← galB left key arr base hint | return none
 if up then
  let mx:=n - hint
  for _ in [0:n] do
   if o ≥ mx then break
   let some on ← galB left key arr base (hint+o) | return none
   if !on then break
   la:=o
   o:=2 * o+1
  l:=hint+la+1
  h:=hint+min o mx
 else
  let mx:=hint+1
  for _ in [0:n] do
   if o ≥ mx then break
   let some on ← galB left key arr base (hint - o) | return none
   if on then break
   la:=o
   o:=2 * o+1
  l:=hint+1 - min o mx
  h:=hint - la
 for _ in [0:n] do
  if l ≥ h then break
  let mid:=l+(h - l) / 2
  let some on ← galB left key arr base mid | return none
  if on then l:=mid+1 else h:=mid
 return some h):=rfl
structure Cm(prog:Program)(w:World)(A:Around)(s:Shared)(κ:SortKind)(kf:Keyed->Int)(good:Keyed->Prop):Prop where
 lt:∀ x y,good x->good y->wpAny (model prog w) A (keyLt' κ x.1 y.1) (fun c s'=>s'=s/\c=decide (kf x<kf y)) (fun _ _=>False) s
section
variable{prog:Program}{w:World}{A:Around}{E:Value->Shared->Prop}{s:Shared}{κ:SortKind}{kf:Keyed->Int}{good:Keyed->Prop}{st:SortSt}
theorem Wq(C:Cm prog w A s κ kf good)(hk:kindOf st=κ){x y:Keyed}(hx:good x)(hy:good y){Q:Option Bool->SortSt->Prop}(h:Q (some (decide (kf x<kf y))) st):wpS (model prog w) A E s (lt' x y) Q st:=by
 rw[lt'_eq];refine wpS_bind (wpS_get ?_);rw[hk];refine wpS_bind (wpS_lift (wpAny_attempt (wpAny_mono (C.lt x y hx hy) (fun c s' hc=>?_) fun _ _ hF=>hF.elim)));obtain⟨rfl,rfl⟩:=hc;exact⟨rfl,wpS_pure h⟩
theorem Zp{xs:Array Keyed}{i:Nat}{x:Keyed}{Q:Keyed->SortSt->Prop}(hx:xs[i]? = some x)(h:Q x st):wpS (model prog w) A E s (elem' xs i) Q st:=by
 rw[elem'_eq,hx];exact wpS_pure h
theorem Zc2{left:Bool}{key:Keyed}{arr:Array Keyed}{base n l0 h0:Nat}{B:Nat->Bool}{Q:Option Nat->SortSt->Prop}
  (hb:∀ i,i<n->∀ R:Option Bool->SortSt->Prop,R (some (B i)) st->wpS (model prog w) A E s (galB left key arr base i) R st)
  (mono:∀ i j,i<=j->j<n->B j=true->B i=true) (h1:l0<=h0) (h2:h0<=n) (hl:∀ i,i<l0->B i=true) (hh:∀ i,h0<=i->i<n->B i=false)
  (h:∀ k,k<=n->(∀ i,i<k->B i=true)->(∀ i,k<=i->i<n->B i=false)->Q (some k) st):
  wpS (model prog w) A E s (do
   let mut l:=l0
   let mut h:=h0
   for _ in [0:n] do
    if l ≥ h then break
    let mid:=l+(h - l) / 2
    let some on ← galB left key arr base mid | return none
    if on then l:=mid+1 else h:=mid
   return some h) Q st:=by
 refine wpS_bind (wpS_mono (wpS_forRange (I:=fun x c st'=>st'=st/\∃ l h,c=(none,l,h)/\l<=h/\h<=n/\h - l<=n - x/\(∀ i,i<l->B i=true)/\(∀ i,h<=i->i<n->B i=false))
  (Q:=fun c st'=>st'=st/\∃ k,c=(none,k,k)/\k<=n/\(∀ i,i<k->B i=true)/\(∀ i,k<=i->i<n->B i=false)) ?step ?fin ⟨rfl,l0,h0,rfl,h1,h2,by omega,hl,hh⟩) ?post)
 case fin=>
  rintro c st' ⟨rfl,l,h,rfl,g1,g2,g3,g4,g5⟩;have:l=h:=by omega
  subst this;exact⟨rfl,l,rfl,g2,g4,g5⟩
 case post=>
  rintro c st' ⟨rfl,k,rfl,g2,g4,g5⟩;exact wpS_pure (h k g2 g4 g5)
 case step=>
  rintro x c st' _ hx ⟨rfl,l,h,rfl,g1,g2,g3,g4,g5⟩;dsimp only;by_cases hge:l ≥ h
  ·rw[if_pos hge];have:l=h:=by omega
   subst this;exact wpS_pure ⟨rfl,l,rfl,g2,g4,g5⟩
  ·rw[if_neg hge];refine wpS_bind (hb _ (by omega) _ ?_)
   dsimp only;cases e:B (l+(h - l) / 2) with
   | true=>
    rw[if_pos rfl];exact wpS_pure ⟨rfl,_,h,rfl,by omega,g2,by omega,fun i hi=>mono i _ (by omega) (by omega) e,g5⟩
   | false=>
    rw[if_neg (by decide)]
    refine wpS_pure ⟨rfl,l,_,rfl,by omega,by omega,by omega,g4,fun i hi hin=>?_⟩
    cases e2:B i with
    | false=>rfl
    | true=>rw[mono _ i hi hin e2] at e;cases e
theorem Vo{left:Bool}{key:Keyed}{arr:Array Keyed}{base n hint:Nat}{B:Nat->Bool}{Q:Option Nat->SortSt->Prop}
  (hb:∀ i,i<n->∀ R:Option Bool->SortSt->Prop,R (some (B i)) st->wpS (model prog w) A E s (galB left key arr base i) R st)
  (mono:∀ i j,i<=j->j<n->B j=true->B i=true) (hn:hint<n)
  (h:∀ k,k<=n->(∀ i,i<k->B i=true)->(∀ i,k<=i->i<n->B i=false)->Q (some k) st):wpS (model prog w) A E s (gallop' left key arr base n hint) Q st:=by
 rw[gallop'_eq];refine wpS_bind (hb hint hn _ ?_);dsimp only;cases e0:B hint with
 | true=>
  rw[if_pos rfl];refine wpS_bind (wpS_mono (wpS_forRange (I:=fun x c st'=>st'=st/\∃ la o,c=(none,la,o)/\la<o/\x+1<=o/\la<n - hint/\B (hint+la)=true)
   (Q:=fun c st'=>st'=st/\∃ la o,c=(none,la,o)/\la<o/\la<n - hint/\B (hint+la)=true/\(n - hint<=o∨B (hint+o)=false)) ?step ?fin ⟨rfl,0,1,rfl,by omega,by omega,by omega,e0⟩) ?post)
  case fin=>
   rintro c st' ⟨rfl,la,o,rfl,g1,g2,g3,g4⟩;exact⟨rfl,la,o,rfl,g1,g3,g4,.inl (by omega)⟩
  case step=>
   rintro x c st' _ hx ⟨rfl,la,o,rfl,g1,g2,g3,g4⟩;dsimp only;by_cases hge:o ≥ n - hint
   ·rw[if_pos hge];exact wpS_pure ⟨rfl,la,o,rfl,g1,g3,g4,.inl hge⟩
   ·rw[if_neg hge];refine wpS_bind (hb _ (by omega) _ ?_)
    dsimp only;cases e:B (hint+o) with
    | true=>
     rw[if_neg (by decide)]
     exact wpS_pure ⟨rfl,o,2 * o+1,rfl,by omega,by omega,by omega,e⟩
    | false=>
     rw[if_pos (by decide)]
     exact wpS_pure ⟨rfl,la,o,rfl,g1,g3,g4,.inr e⟩
  case post=>
   rintro c st' ⟨rfl,la,o,rfl,g1,g3,g4,g5⟩;dsimp only;refine Zc2 hb mono (by omega) (by omega) (fun i hi=>mono i (hint+la) (by omega) (by omega) g4) (fun i hi hin=>?_) h
   rcases g5 with g5 | g5
   ·omega
   ·cases e2:B i with
    | false=>rfl
    | true=>rw[mono _ i (by omega) hin e2] at g5;cases g5
 | false=>
  rw[if_neg (by decide)]
  refine wpS_bind (wpS_mono (wpS_forRange (I:=fun x c st'=>st'=st/\∃ la o,c=(none,la,o)/\la<o/\x+1<=o/\la<=hint/\B (hint - la)=false)
   (Q:=fun c st'=>st'=st/\∃ la o,c=(none,la,o)/\la<o/\la<=hint/\B (hint - la)=false/\(hint+1<=o∨B (hint - o)=true)) ?step ?fin ⟨rfl,0,1,rfl,by omega,by omega,by omega,e0⟩) ?post)
  case fin=>
   rintro c st' ⟨rfl,la,o,rfl,g1,g2,g3,g4⟩;exact⟨rfl,la,o,rfl,g1,g3,g4,.inl (by omega)⟩
  case step=>
   rintro x c st' _ hx ⟨rfl,la,o,rfl,g1,g2,g3,g4⟩;dsimp only;by_cases hge:o ≥ hint+1
   ·rw[if_pos hge];exact wpS_pure ⟨rfl,la,o,rfl,g1,g3,g4,.inl hge⟩
   ·rw[if_neg hge];refine wpS_bind (hb _ (by omega) _ ?_)
    dsimp only;cases e:B (hint - o) with
    | true=>
     rw[if_pos rfl];exact wpS_pure ⟨rfl,la,o,rfl,g1,g3,g4,.inr e⟩
    | false=>
     rw[if_neg (by decide)]
     exact wpS_pure ⟨rfl,o,2 * o+1,rfl,by omega,by omega,by omega,e⟩
  case post=>
   rintro c st' ⟨rfl,la,o,rfl,g1,g3,g4,g5⟩;dsimp only;refine Zc2 hb mono (by omega) (by omega) (fun i hi=>?_) (fun i hi hin=>?_) h
   ·rcases g5 with g5 | g5
    ·omega
    ·exact mono i (hint - o) (by omega) (by omega) g5
   ·cases e2:B i with
    | false=>rfl
    | true=>rw[mono _ i (by omega) hin e2] at g4;cases g4
end
end KS
end
section
namespace KS
open PySem PyProof.Rows KM
theorem mergeLo'_eq(a b:Array Keyed):mergeLo' a b=(do
 rule "list.sort.merge-lo"
 let tot:=a.size+b.size
 let dn (r:Array Keyed) (i j:Nat):=r++a.extract i a.size++b.extract j b.size
 let la (r:Array Keyed) (i j:Nat):=r++b.extract j b.size++a.extract i a.size
 let mut r:Array Keyed:=#[← elem' b 0]
 let mut i:=0
 let mut j:=1
 if j == b.size then return dn r i j
 if i+1 == a.size then return la r i j
 let mut g:=gallopOf (← get)
 for _ in [0:tot] do
  let mut ac:=0
  let mut bc:=0
  for _ in [0:tot] do
   let some bw ← lt' (← elem' b j) (← elem' a i) | return dn r i j
   if bw then
    r:=r.push (← elem' b j);j:=j+1;bc:=bc+1;ac:=0
    if j == b.size then return dn r i j
    if bc ≥ g then break
   else
    r:=r.push (← elem' a i);i:=i+1;ac:=ac+1;bc:=0
    if i+1 == a.size then return la r i j
    if ac ≥ g then break
  rule "list.sort.gallop"
  g:=g+1
  for _ in [0:tot] do
   if g > 1 then g:=g - 1
   setMG' g
   let some k ← gallop' false (← elem' b j) a i (a.size - i) 0 | return dn r i j
   ac:=k
   if k > 0 then
    r:=r++a.extract i (i+k);i:=i+k
    if i+1 == a.size then return la r i j
    if i == a.size then return dn r i j
   r:=r.push (← elem' b j);j:=j+1
   if j == b.size then return dn r i j
   let some k ← gallop' true (← elem' a i) b j (b.size - j) 0 | return dn r i j
   bc:=k
   if k > 0 then
    r:=r++b.extract j (j+k);j:=j+k
    if j == b.size then return dn r i j
   r:=r.push (← elem' a i);i:=i+1
   if i+1 == a.size then return la r i j
   if ac<7&&bc<7 then break
  g:=g+1
  setMG' g
 unsupported "internal:list.sort.merge-bound"):=rfl
noncomputable abbrev mgSt(st:SortSt)(g:Nat):SortSt:=SortSt.mk' (kindOf st) (arrOf st) (pendingOf st) g (failedOf st)
theorem V3(a:Array Keyed)(i:Nat):(a.extract i a.size).toList=a.toList.drop i:=by
 rw[Array.toList_extract,List.extract_eq_take_drop];rw[List.take_of_length_le (by simp)]
theorem Zhn(a:Array Keyed)(i k:Nat):(a.extract i (i+k)).toList=(a.toList.drop i).take k:=by
 rw[Array.toList_extract,List.extract_eq_take_drop]
 congr 1
 omega
theorem Xa{α:Type}{l:List α}{n:Nat}{y:α}(h:y∈l.drop n):∃ t,n<=t/\l[t]? = some y:=by
 obtain⟨t,ht⟩:=List.mem_iff_getElem?.mp h;rw[List.getElem?_drop] at ht;exact⟨n+t,by omega,ht⟩
section
variable{prog:Program}{w:World}{A:Around}{E:Value->Shared->Prop}{s:Shared}{κ:SortKind}{kf:Keyed->Int}{good:Keyed->Prop}{st:SortSt}
theorem Ys{g:Nat}{Q:Unit->SortSt->Prop}(h:Q () (mgSt st g)):wpS (model prog w) A E s (setMG' g) Q st:=wpS_modify h
theorem Yc{xs:Array Keyed}{i:Nat}(h:i<xs.size):∃ x,xs[i]? = some x/\xs.toList[i]? = some x/\x∈xs.toList:=by
 refine⟨xs[i],getElem?_pos xs i h,?_,by simp⟩
 rw[Array.getElem?_toList];exact getElem?_pos xs i h
theorem Ub(C:Cm prog w A s κ kf good)(hk:kindOf st=κ){key:Keyed}{arr:Array Keyed}{base n hint:Nat}{Q:Option Nat->SortSt->Prop}(gk:good key)(ga:∀ x∈arr.toList,good x)(hn:hint<n)(hz:base+n<=arr.size)
  (hs:∀ t u x y,t<=u->u<n->arr.toList[base+t]? = some x->arr.toList[base+u]? = some y->kf x<=kf y)
  (h:∀ k,k<=n->(∀ t x,t<k->arr.toList[base+t]? = some x->kf x<=kf key)->(∀ t x,k<=t->t<n->arr.toList[base+t]? = some x->kf key<kf x)->Q (some k) st):wpS (model prog w) A E s (gallop' false key arr base n hint) Q st:=by
 have at_:∀ i,i<n->arr.toList[base+i]? = some (arr.getD (base+i) (Value.none,Value.none)):=fun i hi=>by
  rw[Array.getElem?_toList,Array.getD_eq_getD_getElem?];rw[getElem?_pos arr (base+i) (by omega)]
  rfl
 refine Vo (B:=fun i=>!decide (kf key<kf (arr.getD (base+i) (Value.none,Value.none)))) (fun i hi R hR=>?_) (fun i j hij hj e=>?_) hn fun k hk1 h1 h2=>h k hk1 (fun t x ht hx=>?_) (fun t x ht htn hx=>?_)
 ·have e:=at_ i hi;unfold galB;refine wpS_bind (Zp (x:=arr.getD (base+i) (Value.none,Value.none)) (by rw[← Array.getElem?_toList];exact e) ?_)
  rw[if_neg (by decide)]
  exact wpS_bind (Wq C hk gk (ga _ (List.mem_of_getElem? e)) (wpS_pure hR))
 ·have:=hs i j _ _ hij hj (at_ i (by omega)) (at_ j hj)
  simp only[Bool.not_eq_true',decide_eq_false_iff_not] at e ⊢;omega
 ·have:=h1 t ht;rw[at_ t (by omega)] at hx
  cases hx;simp only[Bool.not_eq_true',decide_eq_false_iff_not] at this;omega
 ·have:=h2 t ht htn;rw[at_ t htn] at hx;cases hx;simpa using this
theorem Uc(C:Cm prog w A s κ kf good)(hk:kindOf st=κ){key:Keyed}{arr:Array Keyed}{base n hint:Nat}{Q:Option Nat->SortSt->Prop}(gk:good key)(ga:∀ x∈arr.toList,good x)(hn:hint<n)(hz:base+n<=arr.size)
  (hs:∀ t u x y,t<=u->u<n->arr.toList[base+t]? = some x->arr.toList[base+u]? = some y->kf x<=kf y)
  (h:∀ k,k<=n->(∀ t x,t<k->arr.toList[base+t]? = some x->kf x<kf key)->(∀ t x,k<=t->t<n->arr.toList[base+t]? = some x->kf key<=kf x)->Q (some k) st):wpS (model prog w) A E s (gallop' true key arr base n hint) Q st:=by
 have at_:∀ i,i<n->arr.toList[base+i]? = some (arr.getD (base+i) (Value.none,Value.none)):=fun i hi=>by
  rw[Array.getElem?_toList,Array.getD_eq_getD_getElem?];rw[getElem?_pos arr (base+i) (by omega)]
  rfl
 refine Vo (B:=fun i=>decide (kf (arr.getD (base+i) (Value.none,Value.none))<kf key)) (fun i hi R hR=>?_) (fun i j hij hj e=>?_) hn fun k hk1 h1 h2=>h k hk1 (fun t x ht hx=>?_) (fun t x ht htn hx=>?_)
 ·have e:=at_ i hi;unfold galB;refine wpS_bind (Zp (x:=arr.getD (base+i) (Value.none,Value.none)) (by rw[← Array.getElem?_toList];exact e) ?_)
  rw[if_pos rfl];exact Wq C hk (ga _ (List.mem_of_getElem? e)) gk hR
 ·have:=hs i j _ _ hij hj (at_ i (by omega)) (at_ j hj)
  simp only[decide_eq_true_eq] at e ⊢;omega
 ·have:=h1 t ht;rw[at_ t (by omega)] at hx
  cases hx;simpa using this
 ·have:=h2 t ht htn;rw[at_ t htn] at hx;cases hx;simpa using this
theorem U2{l:List Keyed}(hs:Srt kf l){t u:Nat}{x y:Keyed}(htu:t<=u)(hx:l[t]? = some x)(hy:l[u]? = some y):kf x<=kf y:=by
 obtain⟨d,rfl⟩:∃ d,u=t+d:=⟨u - t,by omega⟩
 exact Yy hs hx y (List.mem_iff_getElem?.mpr ⟨d,by rw[List.getElem?_drop];exact hy⟩)
structure Two(kf:Keyed->Int)(good:Keyed->Prop)(a b:Array Keyed):Prop where
 ga:∀ x∈a.toList,good x
 gb:∀ x∈b.toList,good x
 sa:Srt kf a.toList
 sb:Srt kf b.toList
 na:1<=a.size
 nb:1<=b.size
 fst:∀ x,b.toList[0]? = some x->∀ y∈a.toList,kf x<=kf y
 lst:∀ x,a.toList[a.size - 1]? = some x->∀ y∈b.toList,kf y<=kf x
variable{a b:Array Keyed}
noncomputable abbrev Jn(kf:Keyed->Int)(a b r:Array Keyed)(i j:Nat):Prop:=Mid kf a.toList b.toList r.toList i j/\i+1<a.size/\j<b.size
noncomputable abbrev Wh(kf:Keyed->Int)(a b r:Array Keyed):Prop:=Whole kf a.toList b.toList r.toList
theorem Wj(T:Two kf good a b){r:Array Keyed}{i j:Nat}(M:Mid kf a.toList b.toList r.toList i j)(h:j=b.size):Wh kf a b (r++a.extract i a.size++b.extract j b.size):=by
 show Whole kf _ _ _;rw[Array.toList_append,Array.toList_append,V3,V3];exact M.doneB T.sa (by rw[h];simp)
theorem Zfh(T:Two kf good a b){r:Array Keyed}{i j:Nat}(M:Mid kf a.toList b.toList r.toList i j)(h:i=a.size):Wh kf a b (r++a.extract i a.size++b.extract j b.size):=by
 show Whole kf _ _ _;rw[Array.toList_append,Array.toList_append,V3,V3];exact M.doneA T.sb (by rw[h];simp)
theorem Ud(T:Two kf good a b){r:Array Keyed}{i j:Nat}(M:Mid kf a.toList b.toList r.toList i j)(h:i+1=a.size):Wh kf a b (r++b.extract j b.size++a.extract i a.size):=by
 show Whole kf _ _ _;rw[Array.toList_append,Array.toList_append,V3,V3];refine M.last T.sb (by rw[h];simp) fun x hx=>T.lst x ?_
 rw[show a.size - 1=i by omega]
 exact hx
theorem Jd(T:Two kf good a b){r:Array Keyed}{i j:Nat}{x:Keyed}(M:Mid kf a.toList b.toList r.toList i j)(h:a.toList[i]? = some x)(hb:∀ y∈b.toList.drop j,kf x<=kf y):Mid kf a.toList b.toList (r.push x).toList (i+1) j:=by
 rw[Array.toList_push];exact M.one T.sa h hb
theorem Jc(T:Two kf good a b){r:Array Keyed}{i j:Nat}{x:Keyed}(M:Mid kf a.toList b.toList r.toList i j)(h:b.toList[j]? = some x)(ha:∀ y∈a.toList.drop i,kf x<=kf y):Mid kf a.toList b.toList (r.push x).toList i (j+1):=by
 rw[Array.toList_push];exact M.two T.sb h ha
noncomputable abbrev LoSt:=Option (Array Keyed)×Array Keyed×Nat×Nat×Nat×Nat×Nat
noncomputable def loEnd(a b r:Array Keyed)(i j g ac bc:Nat):StateT SortSt Sem (ForInStep LoSt):=do
 let x ← elem' a i
 if (i+1+1 == a.size)=true then pure (.done (some (r.push x++b.extract j b.size++a.extract (i+1) a.size),r.push x,i+1,j,g,ac,bc))
 else if (decide (ac<7)&&decide (bc<7))=true then pure (.done (none,r.push x,i+1,j,g,ac,bc))
 else pure (.yield (none,r.push x,i+1,j,g,ac,bc))
noncomputable def loMid(a b r:Array Keyed)(i j g ac bc:Nat):StateT SortSt Sem (ForInStep LoSt):=do
 let x ← elem' b j
 if (j+1 == b.size)=true then pure (.done (some (r.push x++a.extract i a.size++b.extract (j+1) b.size),r.push x,i,j+1,g,ac,bc))
 else do
  let key ← elem' a i
  let z ← gallop' true key b (j+1) (b.size - (j+1)) 0
  match z with
  | some k=>
   if k > 0 then
    if (j+1+k == b.size)=true then pure (.done (some (r.push x++b.extract (j+1) (j+1+k)++a.extract i a.size++b.extract (j+1+k) b.size),r.push x++b.extract (j+1) (j+1+k),i,j+1+k,g,ac,k))
    else loEnd a b (r.push x++b.extract (j+1) (j+1+k)) i (j+1+k) g ac k
   else loEnd a b (r.push x) i (j+1) g ac k
  | _=>pure (.done (some (r.push x++a.extract i a.size++b.extract (j+1) b.size),r.push x,i,j+1,g,ac,bc))
noncomputable def loTurn(a b r:Array Keyed)(i j g ac bc:Nat):StateT SortSt Sem (ForInStep LoSt):=do
 let key ← elem' b j
 let z ← gallop' false key a i (a.size - i) 0
 match z with
 | some k=>
  if k > 0 then
   if (i+k+1 == a.size)=true then pure (.done (some (r++a.extract i (i+k)++b.extract j b.size++a.extract (i+k) a.size),r++a.extract i (i+k),i+k,j,g,k,bc))
   else if (i+k == a.size)=true then pure (.done (some (r++a.extract i (i+k)++a.extract (i+k) a.size++b.extract j b.size),r++a.extract i (i+k),i+k,j,g,k,bc))
   else loMid a b (r++a.extract i (i+k)) (i+k) j g k bc
  else loMid a b r i j g k bc
 | _=>pure (.done (some (r++a.extract i a.size++b.extract j b.size),r,i,j,g,ac,bc))
noncomputable def LoOn(kf:Keyed->Int)(a b:Array Keyed)(m:Nat)(z:ForInStep LoSt):Prop:=match z with
 | .yield c=>∃ r i j g ac bc,c=(none,r,i,j,g,ac,bc)/\Jn kf a b r i j/\m+1<=i+j
 | .done c=>(∃ r i j g ac bc,c=(none,r,i,j,g,ac,bc)/\Jn kf a b r i j/\m<=i+j)∨∃ R z,c=(some R,z)/\Wh kf a b R
theorem Zhh(T:Two kf good a b){r:Array Keyed}{i j g ac bc m:Nat}(M:Mid kf a.toList b.toList r.toList i j)(hi:i+1<a.size)(hj:j<b.size)(hm:m<=i+j)(hle:∀ x,a.toList[i]? = some x->∀ y∈b.toList.drop j,kf x<=kf y){Q:ForInStep LoSt->SortSt->Prop}(h:∀ z,LoOn kf a b m z->Q z st):
  wpS (model prog w) A E s (loEnd a b r i j g ac bc) Q st:=by
 obtain⟨av,ea,ea',ma⟩:=Yc (show i<a.size by omega)
 have M1:=Jd T M ea' (hle av ea');unfold loEnd;refine wpS_bind (Zp ea ?_);by_cases h3:i+1+1=a.size
 ·rw[if_pos (by simpa using h3)]
  exact wpS_pure (h _ (.inr ⟨_,_,rfl,Ud T M1 h3⟩))
 ·rw[if_neg (by simpa using h3)]
  by_cases h4:(decide (ac<7)&&decide (bc<7))=true
  ·rw[if_pos h4];exact wpS_pure (h _ (.inl ⟨_,_,_,_,_,_,rfl,⟨M1,by omega,hj⟩,by omega⟩))
  ·rw[if_neg h4];exact wpS_pure (h _ ⟨_,_,_,_,_,_,rfl,⟨M1,by omega,hj⟩,by omega⟩)
theorem Zhg(C:Cm prog w A s κ kf good)(hk:kindOf st=κ)(T:Two kf good a b){r:Array Keyed}{i j g ac bc m:Nat}(M:Mid kf a.toList b.toList r.toList i j)(hi:i+1<a.size)(hj:j<b.size)(hm:m<=i+j)(hle:∀ x,b.toList[j]? = some x->∀ y∈a.toList.drop i,kf x<=kf y){Q:ForInStep LoSt->SortSt->Prop}(h:∀ z,LoOn kf a b m z->Q z st):
  wpS (model prog w) A E s (loMid a b r i j g ac bc) Q st:=by
 obtain⟨bv,eb,eb',mb⟩:=Yc hj;obtain⟨av,ea,ea',ma⟩:=Yc (show i<a.size by omega)
 have M1:=Jc T M eb' (hle bv eb');unfold loMid;refine wpS_bind (Zp eb ?_);by_cases h3:j+1=b.size
 ·rw[if_pos (by simpa using h3)]
  exact wpS_pure (h _ (.inr ⟨_,_,rfl,Wj T M1 h3⟩))
 ·rw[if_neg (by simpa using h3)]
  refine wpS_bind (Zp ea (wpS_bind (Uc C hk (T.ga av ma) T.gb (by omega) (by omega) (fun t u x y htu _ hx hy=>U2 T.sb (by omega) hx hy) fun k hk1 g1 g2=>?_)))
  dsimp only;have hlast:∀ x,a.toList[i]? = some x->∀ y∈b.toList.drop (j+1+k),kf x<=kf y:=fun x hx y hy=>by
   rw[ea'] at hx;cases hx;obtain⟨t,ht,hyt⟩:=Xa hy;have hlt:t<b.size:=by
    have:=(List.getElem?_eq_some_iff.mp hyt).1;simpa using this
   exact g2 (t - (j+1)) y (by omega) (by omega) (by rw[show j+1+(t - (j+1))=t by omega];exact hyt)
  by_cases hk0:k > 0
  ·rw[if_pos hk0];have M2:Mid kf a.toList b.toList (r.push bv++b.extract (j+1) (j+1+k)).toList i (j+1+k):=by
    rw[Array.toList_append,Zhn];refine M1.bs T.sb k (by rw[Array.length_toList];omega) fun t x h1 h2 hx y hy=>?_
    have:=g1 (t - (j+1)) x (by omega) (by rw[show j+1+(t - (j+1))=t by omega];exact hx)
    have:=Yy T.sa ea' y hy;omega
   by_cases h5:j+1+k=b.size
   ·rw[if_pos (by simpa using h5)]
    exact wpS_pure (h _ (.inr ⟨_,_,rfl,Wj T M2 h5⟩))
   ·rw[if_neg (by simpa using h5)]
    exact Zhh T M2 hi (by omega) (by omega) hlast h
  ·rw[if_neg hk0];obtain rfl:k=0:=by omega
   exact Zhh T M1 hi (by omega) (by omega) hlast h
theorem Zd5(C:Cm prog w A s κ kf good)(hk:kindOf st=κ)(T:Two kf good a b){r:Array Keyed}{i j g ac bc m:Nat}(M:Mid kf a.toList b.toList r.toList i j)(hi:i+1<a.size)(hj:j<b.size)(hm:m<=i+j){Q:ForInStep LoSt->SortSt->Prop}(h:∀ z,LoOn kf a b m z->Q z st):
  wpS (model prog w) A E s (loTurn a b r i j g ac bc) Q st:=by
 obtain⟨bv,eb,eb',mb⟩:=Yc hj;unfold loTurn;refine wpS_bind (Zp eb (wpS_bind (Ub C hk (T.gb bv mb) T.ga (by omega) (by omega) (fun t u x y htu _ hx hy=>U2 T.sa (by omega) hx hy) fun k hk1 g1 g2=>?_)))
 dsimp only;have hnext:∀ x,b.toList[j]? = some x->∀ y∈a.toList.drop (i+k),kf x<=kf y:=fun x hx y hy=>by
  rw[eb'] at hx;cases hx;obtain⟨t,ht,hyt⟩:=Xa hy;have hlt:t<a.size:=by
   have:=(List.getElem?_eq_some_iff.mp hyt).1;simpa using this
  exact Int.le_of_lt (g2 (t - i) y (by omega) (by omega) (by rw[show i+(t - i)=t by omega];exact hyt))
 by_cases hk0:k > 0
 ·rw[if_pos hk0];have M2:Mid kf a.toList b.toList (r++a.extract i (i+k)).toList (i+k) j:=by
   rw[Array.toList_append,Zhn];refine M.as T.sa k (by rw[Array.length_toList];omega) fun t x h1 h2 hx y hy=>?_
   have:=g1 (t - i) x (by omega) (by rw[show i+(t - i)=t by omega];exact hx)
   have:=Yy T.sb eb' y hy;omega
  by_cases h4:i+k+1=a.size
  ·rw[if_pos (by simpa using h4)]
   exact wpS_pure (h _ (.inr ⟨_,_,rfl,Ud T M2 h4⟩))
  ·rw[if_neg (by simpa using h4)]
   by_cases h5:i+k=a.size
   ·rw[if_pos (by simpa using h5)]
    exact wpS_pure (h _ (.inr ⟨_,_,rfl,Zfh T M2 h5⟩))
   ·rw[if_neg (by simpa using h5)]
    exact Zhg C hk T M2 (by omega) hj (by omega) hnext h
 ·rw[if_neg hk0];obtain rfl:k=0:=by omega
  exact Zhg C hk T M hi hj hm hnext h
theorem Zai(C:Cm prog w A s κ kf good)(hk:kindOf st=κ)(T:Two kf good a b){Q:Array Keyed->SortSt->Prop}(h:∀ r g,Wh kf a b r->Q r (mgSt st g)):wpS (model prog w) A E s (mergeLo' a b) Q st:=by
 obtain⟨b0,eb0,eb0',mb0⟩:=Yc (show 0<b.size from T.nb);have M1:Mid kf a.toList b.toList (#[b0]:Array Keyed).toList 0 1:=(mid0 (kf:=kf) (a:=a.toList) (b:=b.toList)).two T.sb eb0' (by rw[List.drop_zero];exact T.fst b0 eb0')
 have est:st=mgSt st (gallopOf st):=rfl;rw[mergeLo'_eq];refine wpS_bind (wpS_lift (wpAny_rule ⟨rfl,?_⟩));refine wpS_bind (Zp eb0 ?_);dsimp only;by_cases h1:1=b.size
 ·rw[if_pos (by simpa using h1)]
  exact wpS_pure (h _ (gallopOf st) (Wj T M1 h1))
 rw[if_neg (by simpa using h1)]
 by_cases h2:0+1=a.size
 ·rw[if_pos (by simpa using h2)]
  exact wpS_pure (h _ (gallopOf st) (Ud T M1 h2))
 rw[if_neg (by simpa using h2)]
 refine wpS_bind (wpS_get ?_);have hna:=T.na;have hnb:=T.nb;refine wpS_bind (wpS_mono (wpS_forRange (I:=fun x c st'=>∃ r i j g g',c=(none,r,i,j,g)/\st'=mgSt st g'/\Jn kf a b r i j/\x<=i+j)
  (Q:=fun c st'=>∃ R r i j g g',c=(some R,r,i,j,g)/\st'=mgSt st g'/\Wh kf a b R) ?step ?fin ⟨#[b0],0,1,_,gallopOf st,rfl,est,⟨M1,by omega,by omega⟩,by omega⟩) ?post)
 case fin=>
  rintro c st' ⟨r,i,j,g,g',rfl,rfl,⟨_,h3,h4⟩,h5⟩;exfalso;omega
 case post=>
  rintro c st' ⟨R,r,i,j,g,g',rfl,rfl,hW⟩;exact wpS_pure (h R g' hW)
 case step=>
  rintro x c st' _ hx ⟨r,i,j,g,g',rfl,rfl,⟨M,hi,hj⟩,hp⟩;dsimp only;refine wpS_bind (wpS_mono (wpS_forRange (I:=fun y c st'=>∃ r2 i2 j2 ac bc,c=(none,r2,i2,j2,ac,bc)/\st'=mgSt st g'/\Jn kf a b r2 i2 j2/\i+j+y<=i2+j2)
   (Q:=fun c st'=>st'=mgSt st g'/\((∃ r2 i2 j2 ac bc,c=(none,r2,i2,j2,ac,bc)/\Jn kf a b r2 i2 j2/\i+j+1<=i2+j2)∨∃ R z,c=(some R,z)/\Wh kf a b R)) ?s1 ?f1 ⟨r,i,j,0,0,rfl,rfl,⟨M,hi,hj⟩,by omega⟩) ?p1)
  case f1=>
   rintro c st' ⟨r2,i2,j2,ac,bc,rfl,rfl,⟨_,h3,h4⟩,h5⟩;exfalso;omega
  case s1=>
   rintro y c st' _ hy ⟨r2,i2,j2,ac,bc,rfl,rfl,⟨M2,hi2,hj2⟩,hp2⟩;dsimp only;obtain⟨bv,eb,eb',mb⟩:=Yc hj2;obtain⟨av,ea,ea',ma⟩:=Yc (show i2<a.size by omega)
   refine wpS_bind (Zp eb (wpS_bind (Zp ea (wpS_bind (Wq (st:=mgSt st g') C hk (T.gb bv mb) (T.ga av ma) ?_)))));dsimp only;by_cases hlt:kf bv<kf av
   ·rw[if_pos (decide_eq_true hlt)];refine wpS_bind (Zp eb ?_);have M3:=Jc T M2 eb' fun z hz=>Int.le_trans (Int.le_of_lt hlt) (Yy T.sa ea' z hz);by_cases h3:j2+1=b.size
    ·rw[if_pos (by simpa using h3)]
     exact wpS_pure ⟨rfl,.inr ⟨_,_,rfl,Wj T M3 h3⟩⟩
    ·rw[if_neg (by simpa using h3)]
     by_cases h4:bc+1 ≥ g
     ·rw[if_pos h4];exact wpS_pure ⟨rfl,.inl ⟨_,_,_,_,_,rfl,⟨M3,hi2,by omega⟩,by omega⟩⟩
     ·rw[if_neg h4];exact wpS_pure ⟨_,_,_,_,_,rfl,rfl,⟨M3,hi2,by omega⟩,by omega⟩
   ·rw[if_neg (by rw[decide_eq_false hlt];decide)]
    refine wpS_bind (Zp ea ?_);have M3:=Jd T M2 ea' fun z hz=>Int.le_trans (Int.not_lt.mp hlt) (Yy T.sb eb' z hz);by_cases h3:i2+1+1=a.size
    ·rw[if_pos (by simpa using h3)]
     exact wpS_pure ⟨rfl,.inr ⟨_,_,rfl,Ud T M3 h3⟩⟩
    ·rw[if_neg (by simpa using h3)]
     by_cases h4:ac+1 ≥ g
     ·rw[if_pos h4];exact wpS_pure ⟨rfl,.inl ⟨_,_,_,_,_,rfl,⟨M3,by omega,hj2⟩,by omega⟩⟩
     ·rw[if_neg h4];exact wpS_pure ⟨_,_,_,_,_,rfl,rfl,⟨M3,by omega,hj2⟩,by omega⟩
  case p1=>
   rintro c st' ⟨rfl,⟨r2,i2,j2,ac,bc,rfl,⟨M2,hi2,hj2⟩,hp2⟩ | ⟨R,⟨r2,i2,j2,ac,bc⟩,rfl,hW⟩⟩
   ·dsimp only;refine wpS_bind (wpS_lift (wpAny_rule ⟨rfl,?_⟩));refine wpS_bind (wpS_mono (wpS_forRange (I:=fun y c st'=>∃ r3 i3 j3 g3 ac bc g'',c=(none,r3,i3,j3,g3,ac,bc)/\st'=mgSt st g''/\Jn kf a b r3 i3 j3/\i2+j2+y<=i3+j3)
     (Q:=fun c st'=>(∃ r3 i3 j3 g3 ac bc g'',c=(none,r3,i3,j3,g3,ac,bc)/\st'=mgSt st g''/\Jn kf a b r3 i3 j3/\i2+j2<=i3+j3)∨∃ R z g'',c=(some R,z)/\st'=mgSt st g''/\Wh kf a b R) ?s2 ?f2 ⟨r2,i2,j2,_,ac,bc,g',rfl,rfl,⟨M2,hi2,hj2⟩,by omega⟩) ?p2)
    case f2=>
     rintro c st' ⟨r3,i3,j3,g3,ac,bc,g'',rfl,rfl,⟨_,h3,h4⟩,h5⟩;exfalso;omega
    case p2=>
     rintro c st' (⟨r3,i3,j3,g3,ac,bc,g'',rfl,rfl,⟨M3,hi3,hj3⟩,hp3⟩ | ⟨R,⟨r3,i3,j3,g3,ac,bc⟩,g'',rfl,rfl,hW⟩)
     ·dsimp only;exact wpS_bind (Ys (wpS_pure ⟨r3,i3,j3,_,_,rfl,rfl,⟨M3,hi3,hj3⟩,by omega⟩))
     ·exact wpS_pure ⟨R,r3,i3,j3,_,g'',rfl,rfl,hW⟩
    case s2=>
     rintro y c st' _ hy ⟨r3,i3,j3,g3,ac,bc,g'',rfl,rfl,⟨M3,hi3,hj3⟩,hp3⟩;dsimp only;have fin2:∀ g4 (z:ForInStep LoSt),LoOn kf a b (i2+j2+y) z->(match z with
      | .done c=>(∃ r3 i3 j3 g3 ac bc g'',c=(none,r3,i3,j3,g3,ac,bc)/\mgSt st g4=mgSt st g''/\Jn kf a b r3 i3 j3/\i2+j2<=i3+j3)∨∃ R z g'',c=(some R,z)/\mgSt st g4=mgSt st g''/\Wh kf a b R
      | .yield c=>∃ r3 i3 j3 g3 ac bc g'',c=(none,r3,i3,j3,g3,ac,bc)/\mgSt st g4=mgSt st g''/\Jn kf a b r3 i3 j3/\i2+j2+(y+1)<=i3+j3):=fun g4 z hz=>by
      cases z with
      | yield c=>
       obtain⟨r5,i5,j5,g5,ac5,bc5,rfl,hJ,hm⟩:=hz;exact⟨r5,i5,j5,g5,ac5,bc5,g4,rfl,rfl,hJ,by omega⟩
      | done c=>
       rcases hz with ⟨r5,i5,j5,g5,ac5,bc5,rfl,hJ,hm⟩ | ⟨R,z,rfl,hW⟩
       ·exact .inl ⟨r5,i5,j5,g5,ac5,bc5,g4,rfl,rfl,hJ,by omega⟩
       ·exact .inr ⟨R,z,g4,rfl,rfl,hW⟩
     by_cases hg:g3 > 1
     ·rw[if_pos hg];refine wpS_bind (Ys ?_);exact Zd5 (st:=mgSt st (g3 - 1)) (g:=g3 - 1) (ac:=ac) (bc:=bc) C hk T M3 hi3 hj3 hp3 fun z hz=>by
       have q:=fin2 (g3 - 1) z hz;cases z with
       | done c=>exact q
       | yield c=>exact q
     ·rw[if_neg hg];refine wpS_bind (Ys ?_);exact Zd5 (st:=mgSt st g3) (g:=g3) (ac:=ac) (bc:=bc) C hk T M3 hi3 hj3 hp3 fun z hz=>by
       have q:=fin2 g3 z hz;cases z with
       | done c=>exact q
       | yield c=>exact q
   ·exact wpS_pure ⟨R,r2,i2,j2,g,g',rfl,rfl,hW⟩
end
end KS
end
section
namespace KS
open PySem PyProof.Rows KM
theorem mergeHi'_eq(a b:Array Keyed):mergeHi' a b=(do
 rule "list.sort.merge-hi"
 let tot:=a.size+b.size
 let dn (r:Array Keyed) (p q:Nat):=a.extract 0 p++b.extract 0 q++r.reverse
 let fb (r:Array Keyed) (p q:Nat):=b.extract 0 q++a.extract 0 p++r.reverse
 let mut p:=a.size - 1
 let mut q:=b.size
 let mut r:Array Keyed:=#[← elem' a p]
 if p == 0 then return dn r p q
 if q == 1 then return fb r p q
 let mut g:=gallopOf (← get)
 for _ in [0:tot] do
  let mut ac:=0
  let mut bc:=0
  for _ in [0:tot] do
   let some aw ← lt' (← elem' b (q - 1)) (← elem' a (p - 1)) | return dn r p q
   if aw then
    p:=p - 1;r:=r.push (← elem' a p);ac:=ac+1;bc:=0
    if p == 0 then return dn r p q
    if ac ≥ g then break
   else
    q:=q - 1;r:=r.push (← elem' b q);bc:=bc+1;ac:=0
    if q == 1 then return fb r p q
    if bc ≥ g then break
  rule "list.sort.gallop"
  g:=g+1
  for _ in [0:tot] do
   if g > 1 then g:=g - 1
   setMG' g
   let some u ← gallop' false (← elem' b (q - 1)) a 0 p (p - 1) | return dn r p q
   let k:=p - u
   ac:=k
   if k > 0 then
    r:=r++(a.extract u p).reverse;p:=u
    if p == 0 then return dn r p q
   q:=q - 1;r:=r.push (← elem' b q)
   if q == 1 then return fb r p q
   let some u ← gallop' true (← elem' a (p - 1)) b 0 q (q - 1) | return dn r p q
   let k:=q - u
   bc:=k
   if k > 0 then
    r:=r++(b.extract u q).reverse;q:=u
    if q == 1 then return fb r p q
    if q == 0 then return dn r p q
   p:=p - 1;r:=r.push (← elem' a p)
   if p == 0 then return dn r p q
   if ac<7&&bc<7 then break
  g:=g+1
  setMG' g
 unsupported "internal:list.sort.merge-bound"):=rfl
theorem V2(a:Array Keyed)(p:Nat):(a.extract 0 p).toList=a.toList.take p:=by
 rw[Array.toList_extract,List.extract_eq_take_drop,List.drop_zero,Nat.sub_zero]
theorem Zep(a:Array Keyed){u p:Nat}(h:u<=p)(hp:p<=a.size):(a.extract u p).reverse.toList=(a.toList.reverse.drop (a.size - p)).take (p - u):=by
 rw[Array.toList_reverse,Array.toList_extract,List.extract_eq_take_drop];have e:=Uw (a:=a.toList) p (by simpa using hp)
 rw[Array.length_toList] at e;rw[e,List.take_reverse,List.length_take,Array.length_toList,Nat.min_eq_left hp,List.drop_take]
 congr 2
 ·omega
 ·congr 1
  omega
section
variable{prog:Program}{w:World}{A:Around}{E:Value->Shared->Prop}{s:Shared}{κ:SortKind}{kf:Keyed->Int}{good:Keyed->Prop}{st:SortSt}{a b:Array Keyed}
noncomputable abbrev MidH(kf:Keyed->Int)(a b r:Array Keyed)(p q:Nat):Prop:=Mid (fun x =>- kf x) a.toList.reverse b.toList.reverse r.toList (a.size - p) (b.size - q)/\p<=a.size/\q<=b.size
theorem revs{l:List Keyed}{n N:Nat}(hN:l.length=N)(h:n<=N){y:Keyed}(hy:y∈l.reverse.drop (N - n)):y∈l.take n:=by
 subst hN;rw[Uw n h] at hy;exact List.mem_reverse.mp hy
theorem Uv(T:Two kf good a b){r:Array Keyed}{p q:Nat}{x:Keyed}(M:MidH kf a b r (p+1) q)(h:a.toList[p]? = some x)(hb:∀ y∈b.toList.take q,kf y<=kf x):MidH kf a b (r.push x) p q:=by
 obtain⟨M,hp,hq⟩:=M;refine⟨?_,by omega,hq⟩
 rw[Array.toList_push,show a.size - p=a.size - (p+1)+1 by omega]
 refine M.one (Xl T.sa) ?_ fun y hy=>Int.neg_le_neg (hb y (revs (by simp) hq hy))
 have:=Zel (a:=a.toList) (n:=p) (by rw[Array.length_toList];omega)
 rw[Array.length_toList] at this;rw[this];exact h
theorem Zb5(T:Two kf good a b){r:Array Keyed}{p q:Nat}{x:Keyed}(M:MidH kf a b r p (q+1))(h:b.toList[q]? = some x)(ha:∀ y∈a.toList.take p,kf y<=kf x):MidH kf a b (r.push x) p q:=by
 obtain⟨M,hp,hq⟩:=M;refine⟨?_,hp,by omega⟩
 rw[Array.toList_push,show b.size - q=b.size - (q+1)+1 by omega]
 refine M.two (Xl T.sb) ?_ fun y hy=>Int.neg_le_neg (ha y (revs (by simp) hp hy))
 have:=Zel (a:=b.toList) (n:=q) (by rw[Array.length_toList];omega)
 rw[Array.length_toList] at this;rw[this];exact h
theorem Zdd{l:List Keyed}{N i:Nat}{x:Keyed}(hN:l.length=N)(h:l.reverse[i]? = some x):i<N/\l[N - 1 - i]? = some x:=by
 subst hN;have hi:=(List.getElem?_eq_some_iff.mp h).1;rw[List.length_reverse] at hi;rw[List.getElem?_reverse hi] at h;exact⟨hi,h⟩
theorem Zkj(T:Two kf good a b){r:Array Keyed}{p q u:Nat}(M:MidH kf a b r p q)(hu:u<=p)(h:∀ i x,u<=i->i<p->a.toList[i]? = some x->∀ y∈b.toList.take q,kf y<=kf x):MidH kf a b (r++(a.extract u p).reverse) u q:=by
 obtain⟨M,hp,hq⟩:=M;refine⟨?_,by omega,hq⟩
 rw[Array.toList_append,Zep a hu hp,show a.size - u=a.size - p+(p - u) by omega]
 refine M.as (Xl T.sa) (p - u) (by simp;omega) fun i x h1 h2 hx y hy=>?_
 obtain⟨hi,hx'⟩:=Zdd (N:=a.size) (by simp) hx
 exact Int.neg_le_neg (h (a.size - 1 - i) x (by omega) (by omega) hx' y (revs (by simp) hq hy))
theorem Zki(T:Two kf good a b){r:Array Keyed}{p q u:Nat}(M:MidH kf a b r p q)(hu:u<=q)(h:∀ i x,u<=i->i<q->b.toList[i]? = some x->∀ y∈a.toList.take p,kf y<=kf x):MidH kf a b (r++(b.extract u q).reverse) p u:=by
 obtain⟨M,hp,hq⟩:=M;refine⟨?_,hp,by omega⟩
 rw[Array.toList_append,Zep b hu hq,show b.size - u=b.size - q+(q - u) by omega]
 refine M.bs (Xl T.sb) (q - u) (by simp;omega) fun i x h1 h2 hx y hy=>?_
 obtain⟨hi,hx'⟩:=Zdd (N:=b.size) (by simp) hx
 exact Int.neg_le_neg (h (b.size - 1 - i) x (by omega) (by omega) hx' y (revs (by simp) hp hy))
theorem X8(l:Array Keyed){n:Nat}(h:n<=l.size):(l.toList.reverse.drop (l.size - n)).reverse=l.toList.take n:=by
 have:=Uw (a:=l.toList) n (by simpa using h)
 rw[Array.length_toList] at this;rw[this,List.reverse_reverse]
theorem Zfi(T:Two kf good a b){r:Array Keyed}{q:Nat}(M:MidH kf a b r 0 q):Wh kf a b (a.extract 0 0++b.extract 0 q++r.reverse):=by
 obtain⟨M,hp,hq⟩:=M;have:=(M.doneA (Xl T.sb) (by simp)).rev
 show Whole kf _ _ _;rw[List.reverse_append,List.reverse_append,X8 a hp,X8 b hq] at this;rw[Array.toList_append,Array.toList_append,V2,V2,Array.toList_reverse];simpa using this
theorem Zj3(T:Two kf good a b){r:Array Keyed}{p:Nat}(M:MidH kf a b r p 0):Wh kf a b (a.extract 0 p++b.extract 0 0++r.reverse):=by
 obtain⟨M,hp,hq⟩:=M;have:=(M.doneB (Xl T.sa) (by simp)).rev
 show Whole kf _ _ _;rw[List.reverse_append,List.reverse_append,X8 a hp,X8 b hq] at this;rw[Array.toList_append,Array.toList_append,V2,V2,Array.toList_reverse];simpa using this
theorem Zfj(T:Two kf good a b){r:Array Keyed}{p:Nat}(M:MidH kf a b r p 1):Wh kf a b (b.extract 0 1++a.extract 0 p++r.reverse):=by
 obtain⟨M,hp,hq⟩:=M;have:=(M.swap.last (Xl T.sa) (by simp;omega) fun x hx y hy=>?_).rev
 ·show Whole kf _ _ _;rw[List.reverse_append,List.reverse_append,X8 a hp,X8 b hq] at this;rw[Array.toList_append,Array.toList_append,V2,V2,Array.toList_reverse,List.append_assoc];exact⟨this.pm.trans List.perm_append_comm,this.so⟩
 ·obtain⟨hi,hx'⟩:=Zdd (N:=b.size) (by simp) hx
  rw[show b.size - 1 - (b.size - 1)=0 by omega] at hx'
  exact Int.neg_le_neg (T.fst x hx' y (List.mem_reverse.mp hy))
theorem Yh{l:List Keyed}{n:Nat}{y:Keyed}(h:y∈l.take n):∃ t,t<n/\l[t]? = some y:=by
 obtain⟨t,ht⟩:=List.mem_iff_getElem?.mp h;rw[List.getElem?_take] at ht;by_cases h:t<n
 ·rw[if_pos h] at ht;exact⟨t,h,ht⟩
 ·rw[if_neg h] at ht;cases ht
theorem Wm{l:List Keyed}(hs:Srt kf l){n:Nat}{x:Keyed}(hx:l[n]? = some x):∀ y∈l.take (n+1),kf y<=kf x:=fun y hy=>by
 obtain⟨t,ht,hy'⟩:=Yh hy;exact U2 hs (by omega) hy' hx
noncomputable abbrev JnH(kf:Keyed->Int)(a b r:Array Keyed)(p q:Nat):Prop:=MidH kf a b r p q/\1<=p/\2<=q
noncomputable abbrev HiSt:=Option (Array Keyed)×Nat×Nat×Array Keyed×Nat×Nat×Nat
noncomputable def hiEnd(a b r:Array Keyed)(p q g ac bc:Nat):StateT SortSt Sem (ForInStep HiSt):=do
 let x ← elem' a (p - 1)
 if (p - 1 == 0)=true then pure (.done (some (a.extract 0 (p - 1)++b.extract 0 q++(r.push x).reverse),p - 1,q,r.push x,g,ac,bc))
 else if (decide (ac<7)&&decide (bc<7))=true then pure (.done (none,p - 1,q,r.push x,g,ac,bc))
 else pure (.yield (none,p - 1,q,r.push x,g,ac,bc))
noncomputable def hiMid(a b r:Array Keyed)(p q g ac bc:Nat):StateT SortSt Sem (ForInStep HiSt):=do
 let x ← elem' b (q - 1)
 if (q - 1 == 1)=true then pure (.done (some (b.extract 0 (q - 1)++a.extract 0 p++(r.push x).reverse),p,q - 1,r.push x,g,ac,bc))
 else do
  let key ← elem' a (p - 1)
  let z ← gallop' true key b 0 (q - 1) (q - 1 - 1)
  match z with
  | some u=>
   if q - 1 - u > 0 then
    if (u == 1)=true then pure (.done (some (b.extract 0 u++a.extract 0 p++(r.push x++(b.extract u (q - 1)).reverse).reverse),p,u,r.push x++(b.extract u (q - 1)).reverse,g,ac,q - 1 - u))
    else if (u == 0)=true then pure (.done (some (a.extract 0 p++b.extract 0 u++(r.push x++(b.extract u (q - 1)).reverse).reverse),p,u,r.push x++(b.extract u (q - 1)).reverse,g,ac,q - 1 - u))
    else hiEnd a b (r.push x++(b.extract u (q - 1)).reverse) p u g ac (q - 1 - u)
   else hiEnd a b (r.push x) p (q - 1) g ac (q - 1 - u)
  | _=>pure (.done (some (a.extract 0 p++b.extract 0 (q - 1)++(r.push x).reverse),p,q - 1,r.push x,g,ac,bc))
noncomputable def hiTurn(a b r:Array Keyed)(p q g ac bc:Nat):StateT SortSt Sem (ForInStep HiSt):=do
 let key ← elem' b (q - 1)
 let z ← gallop' false key a 0 p (p - 1)
 match z with
 | some u=>
  if p - u > 0 then
   if (u == 0)=true then pure (.done (some (a.extract 0 u++b.extract 0 q++(r++(a.extract u p).reverse).reverse),u,q,r++(a.extract u p).reverse,g,p - u,bc))
   else hiMid a b (r++(a.extract u p).reverse) u q g (p - u) bc
  else hiMid a b r p q g (p - u) bc
 | _=>pure (.done (some (a.extract 0 p++b.extract 0 q++r.reverse),p,q,r,g,ac,bc))
noncomputable def HiOn(kf:Keyed->Int)(a b:Array Keyed)(m:Nat)(z:ForInStep HiSt):Prop:=match z with
 | .yield c=>∃ p q r g ac bc,c=(none,p,q,r,g,ac,bc)/\JnH kf a b r p q/\p+q+1<=m
 | .done c=>(∃ p q r g ac bc,c=(none,p,q,r,g,ac,bc)/\JnH kf a b r p q/\p+q<=m)∨∃ R z,c=(some R,z)/\Wh kf a b R
theorem Zhm(T:Two kf good a b){r:Array Keyed}{p q g ac bc m:Nat}(M:MidH kf a b r p q)(h1:1<=p)(h2:2<=q)(hm:p+q<=m)(hle:∀ x,a.toList[p - 1]? = some x->∀ y∈b.toList.take q,kf y<=kf x){Q:ForInStep HiSt->SortSt->Prop}(h:∀ z,HiOn kf a b m z->Q z st):
  wpS (model prog w) A E s (hiEnd a b r p q g ac bc) Q st:=by
 obtain⟨p,rfl⟩:∃ p0,p=p0+1:=⟨p - 1,by omega⟩
 obtain⟨av,ea,ea',ma⟩:=Yc (show p<a.size by have:=M.2.1;omega)
 have M1:=Uv T M ea' (hle av (by simpa using ea'))
 unfold hiEnd;refine wpS_bind (Zp ea ?_);rw[Nat.add_sub_cancel];by_cases h3:p=0
 ·rw[if_pos (by simpa using h3)]
  subst h3;exact wpS_pure (h _ (.inr ⟨_,_,rfl,Zfi T M1⟩))
 ·rw[if_neg (by simpa using h3)]
  by_cases h4:(decide (ac<7)&&decide (bc<7))=true
  ·rw[if_pos h4];exact wpS_pure (h _ (.inl ⟨_,_,_,_,_,_,rfl,⟨M1,by omega,h2⟩,by omega⟩))
  ·rw[if_neg h4];exact wpS_pure (h _ ⟨_,_,_,_,_,_,rfl,⟨M1,by omega,h2⟩,by omega⟩)
theorem Zhl(C:Cm prog w A s κ kf good)(hk:kindOf st=κ)(T:Two kf good a b){r:Array Keyed}{p q g ac bc m:Nat}(M:MidH kf a b r p q)(h1:1<=p)(h2:2<=q)(hm:p+q<=m)(hle:∀ x,b.toList[q - 1]? = some x->∀ y∈a.toList.take p,kf y<=kf x){Q:ForInStep HiSt->SortSt->Prop}(h:∀ z,HiOn kf a b m z->Q z st):
  wpS (model prog w) A E s (hiMid a b r p q g ac bc) Q st:=by
 obtain⟨q,rfl⟩:∃ q0,q=q0+1:=⟨q - 1,by omega⟩
 have hpz:=M.2.1;have hqz:=M.2.2;obtain⟨bv,eb,eb',mb⟩:=Yc (show q<b.size by omega)
 obtain⟨av,ea,ea',ma⟩:=Yc (show p - 1<a.size by omega)
 have M1:=Zb5 T M eb' (hle bv (by simpa using eb'))
 unfold hiMid;refine wpS_bind (Zp eb ?_);rw[Nat.add_sub_cancel];by_cases h3:q=1
 ·rw[if_pos (by simpa using h3)]
  subst h3;exact wpS_pure (h _ (.inr ⟨_,_,rfl,Zfj T M1⟩))
 ·rw[if_neg (by simpa using h3)]
  refine wpS_bind (Zp ea (wpS_bind (Uc C hk (T.ga av ma) T.gb (by omega) (by omega) (fun t u x y htu _ hx hy=>U2 T.sb (by omega) hx hy) fun u hu1 g1 g2=>?_)))
  dsimp only;have hlast:∀ x,a.toList[p - 1]? = some x->∀ y∈b.toList.take u,kf y<=kf x:=fun x hx y hy=>by
   rw[ea'] at hx;cases hx;obtain⟨t,ht,hyt⟩:=Yh hy;exact Int.le_of_lt (g1 t y ht (by rw[Nat.zero_add];exact hyt))
  by_cases hk0:q - u > 0
  ·rw[if_pos hk0];have M2:MidH kf a b (r.push bv++(b.extract u q).reverse) p u:=by
    refine Zki T M1 hu1 fun i x h1' h2' hx y hy=>?_;have:=g2 i x h1' h2' (by rw[Nat.zero_add];exact hx)
    have:=Wm T.sa ea' y (by rw[show p - 1+1=p by omega];exact hy)
    omega
   by_cases h5:u=1
   ·rw[if_pos (by simpa using h5)]
    subst h5;exact wpS_pure (h _ (.inr ⟨_,_,rfl,Zfj T M2⟩))
   ·rw[if_neg (by simpa using h5)]
    by_cases h6:u=0
    ·rw[if_pos (by simpa using h6)]
     subst h6;exact wpS_pure (h _ (.inr ⟨_,_,rfl,Zj3 T M2⟩))
    ·rw[if_neg (by simpa using h6)]
     exact Zhm T M2 h1 (by omega) (by omega) hlast h
  ·rw[if_neg hk0];obtain rfl:u=q:=by omega
   exact Zhm T M1 h1 (by omega) (by omega) hlast h
theorem Zeh(C:Cm prog w A s κ kf good)(hk:kindOf st=κ)(T:Two kf good a b){r:Array Keyed}{p q g ac bc m:Nat}(M:MidH kf a b r p q)(h1:1<=p)(h2:2<=q)(hm:p+q<=m){Q:ForInStep HiSt->SortSt->Prop}(h:∀ z,HiOn kf a b m z->Q z st):
  wpS (model prog w) A E s (hiTurn a b r p q g ac bc) Q st:=by
 have hpz:=M.2.1;have hqz:=M.2.2;obtain⟨bv,eb,eb',mb⟩:=Yc (show q - 1<b.size by omega)
 unfold hiTurn;refine wpS_bind (Zp eb (wpS_bind (Ub C hk (T.gb bv mb) T.ga (by omega) (by omega) (fun t u x y htu _ hx hy=>U2 T.sa (by omega) hx hy) fun u hu1 g1 g2=>?_)))
 dsimp only;have hnext:∀ x,b.toList[q - 1]? = some x->∀ y∈a.toList.take u,kf y<=kf x:=fun x hx y hy=>by
  rw[eb'] at hx;cases hx;obtain⟨t,ht,hyt⟩:=Yh hy;exact g1 t y ht (by rw[Nat.zero_add];exact hyt)
 by_cases hk0:p - u > 0
 ·rw[if_pos hk0];have M2:MidH kf a b (r++(a.extract u p).reverse) u q:=by
   refine Zkj T M hu1 fun i x h1' h2' hx y hy=>?_;have:=g2 i x h1' h2' (by rw[Nat.zero_add];exact hx)
   have:=Wm T.sb eb' y (by rw[show q - 1+1=q by omega];exact hy)
   omega
  by_cases h5:u=0
  ·rw[if_pos (by simpa using h5)]
   subst h5;exact wpS_pure (h _ (.inr ⟨_,_,rfl,Zfi T M2⟩))
  ·rw[if_neg (by simpa using h5)]
   exact Zhl C hk T M2 (by omega) h2 (by omega) hnext h
 ·rw[if_neg hk0];obtain rfl:u=p:=by omega
  exact Zhl C hk T M h1 h2 hm hnext h
theorem Zaj(C:Cm prog w A s κ kf good)(hk:kindOf st=κ)(T:Two kf good a b){Q:Array Keyed->SortSt->Prop}(h:∀ r g,Wh kf a b r->Q r (mgSt st g)):wpS (model prog w) A E s (mergeHi' a b) Q st:=by
 have hna:=T.na;have hnb:=T.nb;obtain⟨a0,ea0,ea0',ma0⟩:=Yc (show a.size - 1<a.size by omega)
 have M0:MidH kf a b #[] a.size b.size:=⟨by
  rw[Nat.sub_self,Nat.sub_self];exact mid0,Nat.le_refl _,Nat.le_refl _⟩
 have M1:MidH kf a b (#[].push a0) (a.size - 1) b.size:=Uv T (by rw[show a.size - 1+1=a.size by omega];exact M0) ea0' (fun y hy=>T.lst a0 ea0' y (List.mem_of_mem_take hy))
 rw[mergeHi'_eq];refine wpS_bind (wpS_lift (wpAny_rule ⟨rfl,?_⟩));refine wpS_bind (Zp ea0 ?_);dsimp only;by_cases h1:a.size - 1=0
 ·rw[if_pos (by simpa using h1)]
  rw[h1] at M1 ⊢;exact wpS_pure (h _ (gallopOf st) (Zfi T M1))
 rw[if_neg (by simpa using h1)]
 by_cases h2:b.size=1
 ·rw[if_pos (by simpa using h2)]
  rw[h2] at M1 ⊢;exact wpS_pure (h _ (gallopOf st) (Zfj T M1))
 rw[if_neg (by simpa using h2)]
 refine wpS_bind (wpS_get ?_);refine wpS_bind (wpS_mono (wpS_forRange (I:=fun x c st'=>∃ p q r g g',c=(none,p,q,r,g)/\st'=mgSt st g'/\JnH kf a b r p q/\p+q+x<=a.size+b.size)
  (Q:=fun c st'=>∃ R p q r g g',c=(some R,p,q,r,g)/\st'=mgSt st g'/\Wh kf a b R) ?step ?fin ⟨_,_,_,_,gallopOf st,rfl,rfl,⟨M1,by omega,by omega⟩,by omega⟩) ?post)
 case fin=>
  rintro c st' ⟨p,q,r,g,g',rfl,rfl,⟨_,h3,h4⟩,h5⟩;exfalso;omega
 case post=>
  rintro c st' ⟨R,p,q,r,g,g',rfl,rfl,hW⟩;exact wpS_pure (h R g' hW)
 case step=>
  rintro x c st' _ hx ⟨p,q,r,g,g',rfl,rfl,⟨M,hp,hq⟩,hm⟩;dsimp only;refine wpS_bind (wpS_mono (wpS_forRange (I:=fun y c st'=>∃ p2 q2 r2 ac bc,c=(none,p2,q2,r2,ac,bc)/\st'=mgSt st g'/\JnH kf a b r2 p2 q2/\p2+q2+y<=p+q)
   (Q:=fun c st'=>st'=mgSt st g'/\((∃ p2 q2 r2 ac bc,c=(none,p2,q2,r2,ac,bc)/\JnH kf a b r2 p2 q2/\p2+q2+1<=p+q)∨∃ R z,c=(some R,z)/\Wh kf a b R)) ?s1 ?f1 ⟨p,q,r,0,0,rfl,rfl,⟨M,hp,hq⟩,by omega⟩) ?p1)
  case f1=>
   rintro c st' ⟨p2,q2,r2,ac,bc,rfl,rfl,⟨⟨_,_,_⟩,h3,h4⟩,h5⟩;have:=M.2.1;have:=M.2.2;exfalso;omega
  case s1=>
   rintro y c st' _ hy ⟨p2,q2,r2,ac,bc,rfl,rfl,⟨M2,hp2,hq2⟩,hm2⟩;dsimp only;obtain⟨p2,rfl⟩:∃ p0,p2=p0+1:=⟨p2 - 1,by omega⟩
   obtain⟨q2,rfl⟩:∃ q0,q2=q0+1:=⟨q2 - 1,by omega⟩
   have hpz:=M2.2.1;have hqz:=M2.2.2;obtain⟨bv,eb,eb',mb⟩:=Yc (show q2<b.size by omega)
   obtain⟨av,ea,ea',ma⟩:=Yc (show p2<a.size by omega)
   rw[Nat.add_sub_cancel,Nat.add_sub_cancel];refine wpS_bind (Zp eb (wpS_bind (Zp ea (wpS_bind (Wq (st:=mgSt st g') C hk (T.gb bv mb) (T.ga av ma) ?_)))));dsimp only;by_cases hlt:kf bv<kf av
   ·rw[if_pos (decide_eq_true hlt)];refine wpS_bind (Zp ea ?_);have M3:=Uv T M2 ea' fun z hz=>Int.le_trans (Wm T.sb eb' z hz) (Int.le_of_lt hlt);by_cases h3:p2=0
    ·rw[if_pos (by simpa using h3)]
     subst h3;exact wpS_pure ⟨rfl,.inr ⟨_,_,rfl,Zfi T M3⟩⟩
    ·rw[if_neg (by simpa using h3)]
     by_cases h4:ac+1 ≥ g
     ·rw[if_pos h4];exact wpS_pure ⟨rfl,.inl ⟨_,_,_,_,_,rfl,⟨M3,by omega,by omega⟩,by omega⟩⟩
     ·rw[if_neg h4];exact wpS_pure ⟨_,_,_,_,_,rfl,rfl,⟨M3,by omega,by omega⟩,by omega⟩
   ·rw[if_neg (by rw[decide_eq_false hlt];decide)]
    refine wpS_bind (Zp eb ?_);have M3:=Zb5 T M2 eb' fun z hz=>Int.le_trans (Wm T.sa ea' z hz) (Int.not_lt.mp hlt);by_cases h3:q2=1
    ·rw[if_pos (by simpa using h3)]
     subst h3;exact wpS_pure ⟨rfl,.inr ⟨_,_,rfl,Zfj T M3⟩⟩
    ·rw[if_neg (by simpa using h3)]
     by_cases h4:bc+1 ≥ g
     ·rw[if_pos h4];exact wpS_pure ⟨rfl,.inl ⟨_,_,_,_,_,rfl,⟨M3,by omega,by omega⟩,by omega⟩⟩
     ·rw[if_neg h4];exact wpS_pure ⟨_,_,_,_,_,rfl,rfl,⟨M3,by omega,by omega⟩,by omega⟩
  case p1=>
   rintro c st' ⟨rfl,⟨p2,q2,r2,ac,bc,rfl,⟨M2,hp2,hq2⟩,hm2⟩ | ⟨R,⟨p2,q2,r2,ac,bc⟩,rfl,hW⟩⟩
   ·dsimp only;refine wpS_bind (wpS_lift (wpAny_rule ⟨rfl,?_⟩));refine wpS_bind (wpS_mono (wpS_forRange (I:=fun y c st'=>∃ p3 q3 r3 g3 ac bc g'',c=(none,p3,q3,r3,g3,ac,bc)/\st'=mgSt st g''/\JnH kf a b r3 p3 q3/\p3+q3+y<=p2+q2)
     (Q:=fun c st'=>(∃ p3 q3 r3 g3 ac bc g'',c=(none,p3,q3,r3,g3,ac,bc)/\st'=mgSt st g''/\JnH kf a b r3 p3 q3/\p3+q3<=p2+q2)∨∃ R z g'',c=(some R,z)/\st'=mgSt st g''/\Wh kf a b R) ?s2 ?f2 ⟨p2,q2,r2,_,ac,bc,g',rfl,rfl,⟨M2,hp2,hq2⟩,by omega⟩) ?p2)
    case f2=>
     rintro c st' ⟨p3,q3,r3,g3,ac,bc,g'',rfl,rfl,⟨_,h3,h4⟩,h5⟩;have:=M2.2.1;have:=M2.2.2;exfalso;omega
    case p2=>
     rintro c st' (⟨p3,q3,r3,g3,ac,bc,g'',rfl,rfl,⟨M3,hp3,hq3⟩,hm3⟩ | ⟨R,⟨p3,q3,r3,g3,ac,bc⟩,g'',rfl,rfl,hW⟩)
     ·dsimp only;exact wpS_bind (Ys (wpS_pure ⟨p3,q3,r3,_,_,rfl,rfl,⟨M3,hp3,hq3⟩,by omega⟩))
     ·exact wpS_pure ⟨R,p3,q3,r3,_,g'',rfl,rfl,hW⟩
    case s2=>
     rintro y c st' _ hy ⟨p3,q3,r3,g3,ac,bc,g'',rfl,rfl,⟨M3,hp3,hq3⟩,hm3⟩;dsimp only;have fin2:∀ g4 (z:ForInStep HiSt),HiOn kf a b (p2+q2 - y) z->(match z with
      | .done c=>(∃ p3 q3 r3 g3 ac bc g'',c=(none,p3,q3,r3,g3,ac,bc)/\mgSt st g4=mgSt st g''/\JnH kf a b r3 p3 q3/\p3+q3<=p2+q2)∨∃ R z g'',c=(some R,z)/\mgSt st g4=mgSt st g''/\Wh kf a b R
      | .yield c=>∃ p3 q3 r3 g3 ac bc g'',c=(none,p3,q3,r3,g3,ac,bc)/\mgSt st g4=mgSt st g''/\JnH kf a b r3 p3 q3/\p3+q3+(y+1)<=p2+q2):=fun g4 z hz=>by
      cases z with
      | yield c=>
       obtain⟨p5,q5,r5,g5,ac5,bc5,rfl,hJ,hm⟩:=hz;exact⟨p5,q5,r5,g5,ac5,bc5,g4,rfl,rfl,hJ,by omega⟩
      | done c=>
       rcases hz with ⟨p5,q5,r5,g5,ac5,bc5,rfl,hJ,hm⟩ | ⟨R,z,rfl,hW⟩
       ·exact .inl ⟨p5,q5,r5,g5,ac5,bc5,g4,rfl,rfl,hJ,by omega⟩
       ·exact .inr ⟨R,z,g4,rfl,rfl,hW⟩
     by_cases hg:g3 > 1
     ·rw[if_pos hg];refine wpS_bind (Ys ?_);exact Zeh (m:=p2+q2 - y) (st:=mgSt st (g3 - 1)) (g:=g3 - 1) (ac:=ac) (bc:=bc) C hk T M3 hp3 hq3 (by omega) fun z hz=>by
       have q:=fin2 (g3 - 1) z hz;cases z with
       | done c=>exact q
       | yield c=>exact q
     ·rw[if_neg hg];refine wpS_bind (Ys ?_);exact Zeh (m:=p2+q2 - y) (st:=mgSt st g3) (g:=g3) (ac:=ac) (bc:=bc) C hk T M3 hp3 hq3 (by omega) fun z hz=>by
       have q:=fin2 g3 z hz;cases z with
       | done c=>exact q
       | yield c=>exact q
   ·exact wpS_pure ⟨R,p2,q2,r2,g,g',rfl,rfl,hW⟩
end
end KS
end
section
namespace KS
open PySem PyProof.Rows KM
noncomputable def Kt(kf:Keyed->Int)(xs:Array Keyed)(i:Nat):Int:=match xs[i]? with
 | some p=>kf p
 | none=>0
theorem Kt.eq{kf:Keyed->Int}{xs ys:Array Keyed}{i j:Nat}(h:xs[i]? = ys[j]?):Kt kf xs i=Kt kf ys j:=by unfold Kt;rw[h]
theorem Kt.of{kf:Keyed->Int}{xs:Array Keyed}{i:Nat}{x:Keyed}(h:xs[i]? = some x):Kt kf xs i=kf x:=by unfold Kt;rw[h]
noncomputable def Up(kf:Keyed->Int)(xs:Array Keyed)(lo n:Nat):Prop:=∀ i j,i<=j->j<n->Kt kf xs (lo+i)<=Kt kf xs (lo+j)
noncomputable def Dn(kf:Keyed->Int)(xs:Array Keyed)(lo n:Nat):Prop:=∀ i j,i<=j->j<n->Kt kf xs (lo+j)<=Kt kf xs (lo+i)
structure Sg(st0:SortSt)(lo N:Nat)(st:SortSt):Prop where
 e:st=setArr st0 (arrOf st)
 pm:(arrOf st).Perm (arrOf st0)
 out:∀ i,(i<lo∨lo+N<=i)->(arrOf st)[i]? = (arrOf st0)[i]?
theorem Sg.refl(st:SortSt)(lo N:Nat):Sg st lo N st:=⟨rfl,Array.Perm.refl _,fun _ _=>rfl⟩
theorem Sg.size{st0 st:SortSt}{lo N:Nat}(S:Sg st0 lo N st):(arrOf st).size=(arrOf st0).size:=S.pm.size_eq
theorem Sg.kind{st0 st:SortSt}{lo N:Nat}(S:Sg st0 lo N st):kindOf st=kindOf st0:=by rw[S.e]
theorem Sg.step{st0 st:SortSt}{lo N:Nat}(S:Sg st0 lo N st){xs:Array Keyed}(h1:xs.Perm (arrOf st))(h2:∀ i,(i<lo∨lo+N<=i)->xs[i]? = (arrOf st)[i]?):Sg st0 lo N (setArr st xs):=
 ⟨by show setArr st xs=setArr st0 xs;rw[S.e],h1.trans S.pm,fun i hi=>(h2 i hi).trans (S.out i hi)⟩
theorem Sg.mirror{st0 st:SortSt}{lo N i j:Nat}(S:Sg st0 lo N st)(h1:lo<=i)(h2:j<=lo+N)(hz:lo+N<=(arrOf st0).size):Sg st0 lo N (setArr st (mirror (arrOf st) i j ((j - i) / 2))):=by
 refine S.step (mirror_perm _ _ _ _) fun k hk=>?_;rw[getElem?_mirror_all (by rw[S.size];omega),if_neg (by omega)]
theorem Vn{kf:Keyed->Int}{xs:Array Keyed}{i j:Nat}(hj:j<=xs.size)(k:Nat):Kt kf (mirror xs i j ((j - i) / 2)) k=if i<=k/\k<j then Kt kf xs (i+j - 1 - k) else Kt kf xs k:=by
 have e:=getElem?_mirror_all (i:=i) hj k;by_cases h1:i<=k/\k<j
 ·rw[if_pos h1] at e ⊢;exact Kt.eq e
 ·rw[if_neg h1] at e ⊢;exact Kt.eq e
theorem Yj{kf:Keyed->Int}{xs:Array Keyed}{i j:Nat}(hj:j<=xs.size)(heq:∀ k,i<=k->k<j->Kt kf xs k=Kt kf xs (j - 1))(k:Nat):Kt kf (mirror xs i j ((j - i) / 2)) k=Kt kf xs k:=by
 rw[Vn hj]
 split
 ·rw[heq _ (by omega) (by omega),heq k (by omega) (by omega)]
 ·rfl
theorem Zaf{kf:Keyed->Int}{xs:Array Keyed}{src d:Nat}(hs:src<xs.size)(hd:d<=src)(k:Nat):Kt kf (bubble xs src d) k=if k=src - d then Kt kf xs src else if src - d<k/\k<=src then Kt kf xs (k - 1) else Kt kf xs k:=by
 have e:=getElem?_bubble hs d hd k;by_cases h1:k=src - d
 ·rw[if_pos h1] at e ⊢;exact Kt.eq e
 ·rw[if_neg h1] at e ⊢;by_cases h2:src - d<k/\k<=src
  ·rw[if_pos h2] at e ⊢;exact Kt.eq e
  ·rw[if_neg h2] at e ⊢;exact Kt.eq e
noncomputable def rcUp(lo n0 nrem:Nat):StateT SortSt Sem (Option Nat):=do
 let mut n:=n0
 for _ in [n:nrem] do
  let some sm ← ltAt' (lo+n) (lo+n - 1) | return none
  if sm then break
  n:=n+1
 return some n
noncomputable def rcTail(lo n0 nrem:Nat):StateT SortSt Sem (Option Nat):=do
 let mut n:=n0
 reverseSlice' lo (lo+n)
 for _ in [n:nrem] do
  let some sm ← ltAt' (lo+n) (lo+n - 1) | return none
  if sm then break
  n:=n+1
 return some n
noncomputable def rcDown(lo n0 nrem:Nat):StateT SortSt Sem (Option Nat):=do
 let mut n:=n0
 rule "list.sort.descending-run"
 n:=n+1
 let mut ne:=0
 for _ in [n:nrem] do
  let some sm ← ltAt' (lo+n) (lo+n - 1) | return none
  if sm then
   if ne > 0 then reverseSlice' (lo+n - (ne+1)) (lo+n)
   ne:=0
  else
   let some lg ← ltAt' (lo+n - 1) (lo+n) | return none
   if lg then break
   ne:=ne+1
  n:=n+1
 if ne > 0 then reverseSlice' (lo+n - (ne+1)) (lo+n)
 reverseSlice' lo (lo+n)
 for _ in [n:nrem] do
  let some sm ← ltAt' (lo+n) (lo+n - 1) | return none
  if sm then break
  n:=n+1
 return some n
section
variable{prog:Program}{w:World}{A:Around}{E:Value->Shared->Prop}{s:Shared}{κ:SortKind}{kf:Keyed->Int}{good:Keyed->Prop}{st0 st:SortSt}{lo N:Nat}
theorem X0(C:Cm prog w A s κ kf good)(hk:kindOf st0=κ)(G:∀ x∈(arrOf st0).toList,good x)(S:Sg st0 lo N st){i j:Nat}(hi:i<(arrOf st0).size)(hj:j<(arrOf st0).size){Q:Option Bool->SortSt->Prop}
  (h:Q (some (decide (Kt kf (arrOf st) i<Kt kf (arrOf st) j))) st):wpS (model prog w) A E s (ltAt' i j) Q st:=by
 obtain⟨x,ex,_,mx⟩:=Yc (show i<(arrOf st).size by rw[S.size];exact hi)
 obtain⟨y,ey,_,my⟩:=Yc (show j<(arrOf st).size by rw[S.size];exact hj)
 have gm:∀ z∈(arrOf st).toList,good z:=fun z hz=>G z ((Array.perm_iff_toList_perm.mp S.pm).mem_iff.mp hz);rw[ltAt'_eq];refine wpS_bind (wpS_get ?_);show wpS _ _ _ _ (do let x ← elem' (arrOf st) i;let y ← elem' (arrOf st) j;lt' x y) Q st
 refine wpS_bind (Zp ex (wpS_bind (Zp ey (Wq C (S.kind.trans hk) (gm x mx) (gm y my) ?_))));rw[Kt.of ex,Kt.of ey] at h;exact h
theorem Zj5(C:Cm prog w A s κ kf good)(hk:kindOf st0=κ)(G:∀ x∈(arrOf st0).toList,good x)(S:Sg st0 lo N st)(hz:lo+N<=(arrOf st0).size){n:Nat}(h1:1<=n)(hn:n<=N)(hs:Up kf (arrOf st) lo n){Q:Option Nat->SortSt->Prop}
  (h:∀ m,n<=m->m<=N->Up kf (arrOf st) lo m->(m=N∨Kt kf (arrOf st) (lo+m)<Kt kf (arrOf st) (lo+m - 1))->Q (some m) st):wpS (model prog w) A E s (rcUp lo n N) Q st:=by
 unfold rcUp;refine wpS_bind (wpS_mono (wpS_forRange (I:=fun x c st'=>st'=st/\c=(none,x)/\Up kf (arrOf st) lo x)
  (Q:=fun c st'=>st'=st/\∃ m,c=(none,m)/\n<=m/\m<=N/\Up kf (arrOf st) lo m/\(m=N∨Kt kf (arrOf st) (lo+m)<Kt kf (arrOf st) (lo+m - 1))) ?step ?fin ⟨rfl,rfl,hs⟩) ?post)
 case fin=>
  rintro c st' ⟨rfl,rfl,hs'⟩;rw[show max n N=N by omega] at hs' ⊢
  exact⟨rfl,N,rfl,hn,Nat.le_refl _,hs',.inl rfl⟩
 case post=>
  rintro c st' ⟨rfl,m,rfl,g1,g2,g3,g4⟩;exact wpS_pure (h m g1 g2 g3 g4)
 case step=>
  rintro x c st' hax hxn ⟨rfl,rfl,hs'⟩;dsimp only;refine wpS_bind (X0 C hk G S (by omega) (by omega) ?_)
  by_cases hless:Kt kf (arrOf st') (lo+x)<Kt kf (arrOf st') (lo+x - 1)
  ·simp only[hless,decide_true,if_true];exact wpS_pure ⟨rfl,x,rfl,hax,by omega,hs',.inr hless⟩
  ·simp only[hless,decide_false,Bool.false_eq_true,if_false];refine wpS_pure ⟨rfl,rfl,fun i j hij hj=>?_⟩;by_cases hjx:j<x
   ·exact hs' i j hij hjx
   ·obtain rfl:j=x:=by omega
    by_cases hi':i=j
    ·subst hi';exact Int.le_refl _
    ·have q:=hs' i (j - 1) (by omega) (by omega)
     rw[show lo+(j - 1)=lo+j - 1 by omega] at q
     exact Int.le_trans q (Int.not_lt.mp hless)
theorem Zde(C:Cm prog w A s κ kf good)(hk:kindOf st0=κ)(G:∀ x∈(arrOf st0).toList,good x)(S:Sg st0 lo N st)(hz:lo+N<=(arrOf st0).size){n:Nat}(h1:1<=n)(hn:n<=N)(hs:Dn kf (arrOf st) lo n){Q:Option Nat->SortSt->Prop}
  (h:∀ m st',Sg st0 lo N st'->1<=m->m<=N->Up kf (arrOf st') lo m->Q (some m) st'):wpS (model prog w) A E s (rcTail lo n N) Q st:=by
 unfold rcTail;have hsz:lo+n<=(arrOf st).size:=by rw[S.size];omega
 refine wpS_bind (wpS_reverse ?_);have S':=S.mirror (i:=lo) (j:=lo+n) (Nat.le_refl _) (by omega) hz
 refine Zj5 C hk G S' hz h1 hn (fun i j hij hj=>?_) fun m hm1 hm2 hm3 _=>h m _ S' (by omega) hm2 hm3
 show Kt kf (mirror (arrOf st) lo (lo+n) ((lo+n - lo) / 2)) (lo+i)<=Kt kf (mirror (arrOf st) lo (lo+n) ((lo+n - lo) / 2)) (lo+j);rw[Vn hsz,Vn hsz,if_pos (by omega),if_pos (by omega)]
 have q:=hs (n - 1 - j) (n - 1 - i) (by omega) (by omega)
 rw[show lo+(lo+n) - 1 - (lo+i)=lo+(n - 1 - i) by omega,show lo+(lo+n) - 1 - (lo+j)=lo+(n - 1 - j) by omega]
 exact q
theorem Zdf(C:Cm prog w A s κ kf good)(hk:kindOf st0=κ)(G:∀ x∈(arrOf st0).toList,good x)(S:Sg st0 lo N st)(hz:lo+N<=(arrOf st0).size){n:Nat}(hn:n+1<=N)(hs:Dn kf (arrOf st) lo (n+1)){Q:Option Nat->SortSt->Prop}
  (h:∀ m st',Sg st0 lo N st'->1<=m->m<=N->Up kf (arrOf st') lo m->Q (some m) st'):wpS (model prog w) A E s (rcDown lo n N) Q st:=by
 unfold rcDown;refine wpS_bind (wpS_lift (wpAny_rule ⟨rfl,?_⟩));refine wpS_bind (wpS_mono (wpS_forRange (I:=fun x c st'=>∃ neq,c=(none,x,neq)/\Sg st0 lo N st'/\Dn kf (arrOf st') lo x/\neq+1<=x/\(∀ i,x - (neq+1)<=i->i<x->Kt kf (arrOf st') (lo+i)=Kt kf (arrOf st') (lo+x - 1)))
  (Q:=fun c st'=>∃ m neq,c=(none,m,neq)/\Sg st0 lo N st'/\1<=m/\m<=N/\Dn kf (arrOf st') lo m/\neq+1<=m/\(∀ i,m - (neq+1)<=i->i<m->Kt kf (arrOf st') (lo+i)=Kt kf (arrOf st') (lo+m - 1))) ?step ?fin ⟨0,rfl,S,hs,by omega,fun i h1 h2=>by congr 1;omega⟩) ?post)
 case fin=>
  rintro c st' ⟨neq,rfl,S',hs',hq,he⟩;rw[show max (n+1) N=N by omega] at hs' hq he ⊢
  exact⟨N,neq,rfl,S',by omega,Nat.le_refl _,hs',hq,he⟩
 case post=>
  rintro c st' ⟨m,neq,rfl,S',hm1,hm2,hs',hq,he⟩;dsimp only;have hsz:lo+m<=(arrOf st').size:=by rw[S'.size];omega
  by_cases hneq:neq > 0
  ·rw[if_pos hneq];refine wpS_bind (wpS_reverse (Zde C hk G (S'.mirror (i:=lo+m - (neq+1)) (j:=lo+m) (by omega) (by omega) hz) hz hm1 hm2 (fun i j hij hj=>?_) h))
   show Kt kf (mirror (arrOf st') _ _ _) _<=Kt kf (mirror (arrOf st') _ _ _) _;have e2:∀ k,lo+m - (neq+1)<=k->k<lo+m->Kt kf (arrOf st') k=Kt kf (arrOf st') (lo+m - 1):=fun k h1 h2=>by
    have:=he (k - lo) (by omega) (by omega)
    rw[show lo+(k - lo)=k by omega] at this
    exact this
   rw[Yj hsz e2,Yj hsz e2];exact hs' i j hij hj
  ·rw[if_neg hneq];exact Zde C hk G S' hz hm1 hm2 hs' h
 case step=>
  rintro x c st' hax hxn ⟨neq,rfl,S',hs',hq,he⟩;dsimp only;have hsz:lo+x<=(arrOf st').size:=by rw[S'.size];omega
  refine wpS_bind (X0 C hk G S' (by omega) (by omega) ?_)
  by_cases hless:Kt kf (arrOf st') (lo+x)<Kt kf (arrOf st') (lo+x - 1)
  ·simp only[hless,decide_true,if_true];have step1:∀ xs:Array Keyed,(∀ k,Kt kf xs k=Kt kf (arrOf st') k)->Dn kf xs lo (x+1):=by
    intro xs hkk i j hij hj;rw[hkk,hkk];by_cases hjx:j<x
    ·exact hs' i j hij hjx
    ·obtain rfl:j=x:=by omega
     by_cases hi':i=j
     ·subst hi';exact Int.le_refl _
     ·have q:=hs' i (j - 1) (by omega) (by omega)
      rw[show lo+(j - 1)=lo+j - 1 by omega] at q
      exact Int.le_trans (Int.le_of_lt hless) q
   have e2:∀ k,lo+x - (neq+1)<=k->k<lo+x->Kt kf (arrOf st') k=Kt kf (arrOf st') (lo+x - 1):=fun k h1 h2=>by
    have:=he (k - lo) (by omega) (by omega)
    rw[show lo+(k - lo)=k by omega] at this
    exact this
   by_cases hneq:neq > 0
   ·rw[if_pos hneq];exact wpS_bind (wpS_reverse (wpS_pure ⟨0,rfl,S'.mirror (by omega) (by omega) hz,step1 _ (Yj hsz e2),by omega,fun i h1 h2=>by congr 1;omega⟩))
   ·rw[if_neg hneq];exact wpS_pure ⟨0,rfl,S',step1 _ (fun _=>rfl),by omega,fun i h1 h2=>by congr 1;omega⟩
  ·simp only[hless,decide_false,Bool.false_eq_true,if_false];refine wpS_bind (X0 C hk G S' (by omega) (by omega) ?_)
   by_cases hlarger:Kt kf (arrOf st') (lo+x - 1)<Kt kf (arrOf st') (lo+x)
   ·simp only[hlarger,decide_true,if_true];exact wpS_pure ⟨x,neq,rfl,S',by omega,by omega,hs',hq,he⟩
   ·simp only[hlarger,decide_false,Bool.false_eq_true,if_false];have heqx:Kt kf (arrOf st') (lo+x)=Kt kf (arrOf st') (lo+x - 1):=by omega
    refine wpS_pure ⟨neq+1,rfl,S',fun i j hij hj=>?_,by omega,fun i h1 h2=>?_⟩
    ·by_cases hjx:j<x
     ·exact hs' i j hij hjx
     ·obtain rfl:j=x:=by omega
      by_cases hi':i=j
      ·subst hi';exact Int.le_refl _
      ·have q:=hs' i (j - 1) (by omega) (by omega)
       rw[show lo+(j - 1)=lo+j - 1 by omega] at q
       rw[heqx];exact q
    ·rw[show lo+(x+1) - 1=lo+x by omega]
     by_cases hix:i=x
     ·subst hix;rfl
     ·rw[heqx];exact he i (by omega) (by omega)
theorem Zc1(C:Cm prog w A s κ kf good)(hk:kindOf st0=κ)(G:∀ x∈(arrOf st0).toList,good x)(hz:lo+N<=(arrOf st0).size)(h1:1<=N){Q:Option Nat->SortSt->Prop}
  (h:∀ m st',Sg st0 lo N st'->1<=m->m<=N->Up kf (arrOf st') lo m->Q (some m) st'):wpS (model prog w) A E s (countRun' lo N) Q st0:=by
 have S:=Sg.refl st0 lo N;rw[countRun'_eq];have hs1:Up kf (arrOf st0) lo 1:=fun i j hij hj=>by
  obtain rfl:i=j:=by omega
  exact Int.le_refl _
 refine wpS_bind (wpS_mono (wpS_forRange (I:=fun x c st'=>st'=st0/\c=(none,x)/\Up kf (arrOf st0) lo x)
  (Q:=fun c st'=>st'=st0/\∃ m,c=(none,m)/\1<=m/\m<=N/\Up kf (arrOf st0) lo m/\(m=N∨Kt kf (arrOf st0) (lo+m)<Kt kf (arrOf st0) (lo+m - 1))) ?step ?fin ⟨rfl,rfl,hs1⟩) ?post)
 case fin=>
  rintro c st' ⟨rfl,rfl,hs'⟩;rw[show max 1 N=N by omega] at hs' ⊢
  exact⟨rfl,N,rfl,h1,Nat.le_refl _,hs',.inl rfl⟩
 case step=>
  rintro x c st' hax hxn ⟨rfl,rfl,hs'⟩;dsimp only;refine wpS_bind (X0 C hk G S (by omega) (by omega) ?_)
  by_cases hless:Kt kf (arrOf st') (lo+x)<Kt kf (arrOf st') (lo+x - 1)
  ·simp only[hless,decide_true,if_true];exact wpS_pure ⟨rfl,x,rfl,hax,by omega,hs',.inr hless⟩
  ·simp only[hless,decide_false,Bool.false_eq_true,if_false];refine wpS_pure ⟨rfl,rfl,fun i j hij hj=>?_⟩;by_cases hjx:j<x
   ·exact hs' i j hij hjx
   ·obtain rfl:j=x:=by omega
    by_cases hi':i=j
    ·subst hi';exact Int.le_refl _
    ·have q:=hs' i (j - 1) (by omega) (by omega)
     rw[show lo+(j - 1)=lo+j - 1 by omega] at q
     exact Int.le_trans q (Int.not_lt.mp hless)
 case post=>
  rintro c st' ⟨rfl,n,rfl,hn1,hn2,hsn,hor⟩;dsimp only;by_cases hnn:n=N
  ·rw[if_pos (by simpa using hnn)]
   exact wpS_pure (h n st' S hn1 hn2 hsn)
  ·rw[if_neg (by simpa using hnn)]
   have hlt:=hor.resolve_left hnn;by_cases hgt:n > 1
   ·rw[if_pos hgt];refine wpS_bind (X0 C hk G S (by omega) (by omega) ?_)
    by_cases hrose:Kt kf (arrOf st') lo<Kt kf (arrOf st') (lo+n - 1)
    ·simp only[hrose,decide_true,if_true];exact wpS_pure (h n st' S hn1 hn2 hsn)
    ·simp only[hrose,decide_false,Bool.false_eq_true,if_false];have hsz:lo+n<=(arrOf st').size:=by omega
     have hall:∀ k,lo<=k->k<lo+n->Kt kf (arrOf st') k=Kt kf (arrOf st') (lo+n - 1):=by
      intro k hk1 hk2;have a1:=hsn 0 (k - lo) (by omega) (by omega)
      have a2:=hsn (k - lo) (n - 1) (by omega) (by omega)
      rw[show lo+(k - lo)=k by omega] at a1 a2
      rw[show lo+(n - 1)=lo+n - 1 by omega] at a2
      rw[Nat.add_zero] at a1;omega
     refine wpS_bind (wpS_reverse (Zdf (n:=n) C hk G (S.mirror (i:=lo) (j:=lo+n) (Nat.le_refl _) (by omega) hz) hz (by omega) (fun i j hij hj=>?_) h))
     show Kt kf (mirror (arrOf st') _ _ _) _<=Kt kf (mirror (arrOf st') _ _ _) _;rw[Yj hsz hall,Yj hsz hall];by_cases hjn:j<n
     ·rw[hall (lo+i) (by omega) (by omega),hall (lo+j) (by omega) (by omega)];exact Int.le_refl _
     ·obtain rfl:j=n:=by omega
      by_cases hi':i=j
      ·subst hi';exact Int.le_refl _
      ·rw[hall (lo+i) (by omega) (by omega)];exact Int.le_of_lt hlt
   ·rw[if_neg hgt];obtain rfl:n=1:=by omega
    refine Zdf (n:=1) C hk G S hz (by omega) (fun i j hij hj=>?_) h
    by_cases hi':i=j
    ·subst hi';exact Int.le_refl _
    ·obtain rfl:i=0:=by omega
     obtain rfl:j=1:=by omega
     exact Int.le_of_lt hlt
theorem Zhv(C:Cm prog w A s κ kf good)(hk:kindOf st0=κ)(G:∀ x∈(arrOf st0).toList,good x)(S:Sg st0 lo N st)(hz:lo+N<=(arrOf st0).size){n ok:Nat}(hn:n<=N)(hok:ok<=n)(hs:Up kf (arrOf st) lo ok){Q:Bool->SortSt->Prop}
  (h:∀ st',Sg st0 lo N st'->Up kf (arrOf st') lo n->Q true st'):wpS (model prog w) A E s (binarySort' lo n ok) Q st:=by
 rw[binarySort'_eq];refine wpS_bind (wpS_mono (wpS_forRange (I:=fun k c st'=>c=(none,())/\Sg st0 lo N st'/\Up kf (arrOf st') lo (min k n))
  (Q:=fun c st'=>c=(none,())/\Sg st0 lo N st'/\Up kf (arrOf st') lo n) ?step ?fin ?init) ?post)
 case post=>
  rintro c st' ⟨rfl,S',hs'⟩;exact wpS_pure (h st' S' hs')
 case init=>
  refine⟨rfl,S,fun i j hij hj=>?_⟩;by_cases h1:ok=0
  ·obtain rfl:i=j:=by omega
   exact Int.le_refl _
  ·exact hs i j hij (by omega)
 case fin=>
  rintro c st' ⟨hc,S',hs'⟩;refine⟨hc,S',?_⟩
  rwa [show min (max (max ok 1) n) n=n by omega] at hs'
 case step=>
  rintro k c st' hak hkn ⟨rfl,S',hs'⟩;rw[show min k n=k by omega] at hs'
  have hkz:lo+k<(arrOf st0).size:=by omega
  refine wpS_bind (wpS_mono (wpS_forRange (I:=fun x c st''=>st''=st'/\∃ l r,c=(none,l,r)/\l<=r/\r<=k/\r - l<=k - x /\
    (∀ i,i<l->Kt kf (arrOf st') (lo+i)<=Kt kf (arrOf st') (lo+k))/\(∀ i,r<=i->i<k->Kt kf (arrOf st') (lo+k)<Kt kf (arrOf st') (lo+i)))
   (Q:=fun c st''=>st''=st'/\∃ l r,c=(none,l,r)/\l<=k /\
    (∀ i,i<l->Kt kf (arrOf st') (lo+i)<=Kt kf (arrOf st') (lo+k))/\(∀ i,l<=i->i<k->Kt kf (arrOf st') (lo+k)<Kt kf (arrOf st') (lo+i))) ?istep ?ifin ⟨rfl,0,k,rfl,by omega,by omega,by omega,fun i hi=>by omega,fun i h1 h2=>by omega⟩) ?ipost)
  case ifin=>
   rintro c st'' ⟨rfl,l,r,rfl,hlr,hrk,hm,hlo,hhi⟩;obtain rfl:l=r:=by omega
   exact⟨rfl,l,l,rfl,hrk,hlo,hhi⟩
  case istep=>
   rintro x c st'' _ hxk ⟨rfl,l,r,rfl,hlr,hrk,hm,hlo,hhi⟩;dsimp only;by_cases hge:l ≥ r
   ·rw[if_pos hge];obtain rfl:l=r:=by omega
    exact wpS_pure ⟨rfl,l,l,rfl,hrk,hlo,hhi⟩
   ·rw[if_neg hge];refine wpS_bind (X0 C hk G S' hkz (by omega) ?_)
    by_cases hless:Kt kf (arrOf st'') (lo+k)<Kt kf (arrOf st'') (lo+(l+r) / 2)
    ·simp only[hless,decide_true,if_true];refine wpS_pure ⟨rfl,l,(l+r) / 2,rfl,by omega,by omega,by omega,hlo,fun i h1 h2=>?_⟩
     exact Int.lt_of_lt_of_le hless (hs' _ _ h1 h2)
    ·simp only[hless,decide_false,Bool.false_eq_true,if_false];refine wpS_pure ⟨rfl,(l+r) / 2+1,r,rfl,by omega,by omega,by omega,fun i h1=>?_,hhi⟩
     exact Int.le_trans (hs' i ((l+r) / 2) (by omega) (by omega)) (Int.not_lt.mp hless)
  case ipost=>
   rintro c st'' ⟨rfl,l,r,rfl,hlk,hlo,hhi⟩;show wpS _ _ _ _ (do moveDown' (lo+k) (lo+l);pure (ForInStep.yield (none,()))) _ _
   rw[moveDown'_eq];have hks:lo+k<(arrOf st'').size:=by rw[S'.size];exact hkz
   refine wpS_bind (wpS_modify (wpS_pure ⟨rfl,S'.step (bubble_perm _ _ _) (fun i hi=>?_),?_⟩))
   ·rw[getElem?_bubble hks _ (by omega),if_neg (by omega),if_neg (by omega)]
   ·rw[show min (k+1) n=k+1 by omega]
    intro i j hij hj;show Kt kf (bubble (arrOf st'') (lo+k) (lo+k - (lo+l))) (lo+i)<=Kt kf (bubble (arrOf st'') (lo+k) (lo+k - (lo+l))) (lo+j);rw[Zaf hks (by omega),Zaf hks (by omega),show lo+k - (lo+k - (lo+l))=lo+l by omega]
    have hm1:∀ t,1<=t->lo+t - 1=lo+(t - 1):=fun t ht=>by omega
    repeat' split
    all_goals first
     | (exfalso;omega)
     | exact Int.le_refl _
     | exact hlo _ (by omega)
     | exact Int.le_of_lt (hhi _ (by omega) (by omega))
     | exact hs' _ _ (by omega) (by omega)
     | (rw[hm1 _ (by omega)];exact Int.le_of_lt (hhi _ (by omega) (by omega)))
     | (rw[hm1 j (by omega)];exact hs' _ _ (by omega) (by omega))
     | (rw[hm1 i (by omega)];exact hlo _ (by omega))
     | (rw[hm1 i (by omega)];exact hs' _ _ (by omega) (by omega))
     | (rw[hm1 i (by omega),hm1 j (by omega)];exact hs' _ _ (by omega) (by omega))
end
end KS
end
section
namespace KS
open PySem PyProof.Rows KM
theorem mergeAt'_eq(i:Nat):mergeAt' i=(do
 let s ← get
 let (some (sa,na,pw),some (sb,nb,_)):=((pendingOf s)[i]?,(pendingOf s)[i+1]?) | unsupported "internal:list.sort.pending"
 set (setPending s (((pendingOf s).setIfInBounds i (sa,na+nb,pw)).eraseIdxIfInBounds (i+1)))
 let some k ← gallop' false (← elem' (arrOf s) sb) (arrOf s) sa na 0 | return false
 let (sa,na):=(sa+k,na - k)
 if na == 0 then return true
 let some nb ← gallop' true (← elem' (arrOf s) (sa+na - 1)) (arrOf s) sb nb (nb - 1) | return false
 if nb == 0 then return true
 let u:=(arrOf s).extract sa sb
 let v:=(arrOf s).extract sb (sb+nb)
 let r ← if na<=nb then mergeLo' u v else mergeHi' u v
 modify fun s=>setArr s (r.toList.zipIdx.foldl (fun a (p,j)=>a.setIfInBounds (sa+j) p) (arrOf s))
 return (failedOf (← get)).isNone):=rfl
theorem Zhi(sa:Nat):∀ (l:List Keyed) (m:Nat) (xs:Array Keyed),sa+m+l.length<=xs.size ->
  ((l.zipIdx m).foldl (fun (a:Array Keyed) (z:Keyed×Nat)=>a.setIfInBounds (sa+z.2) z.1) xs).toList=xs.toList.take (sa+m)++l++xs.toList.drop (sa+m+l.length)
 | [],m,xs,_=>by simp
 | p::l,m,xs,h=>by
  rw[List.length_cons] at h;rw[List.zipIdx_cons,List.foldl_cons,Zhi sa l (m+1) _ (by simp;omega)]
  have e:(xs.setIfInBounds (sa+m) p).toList=xs.toList.take (sa+m)++p::xs.toList.drop (sa+m+1):=by
   rw[Array.toList_setIfInBounds,List.set_eq_take_append_cons_drop,if_pos (by simp;omega)]
  have hl:(xs.toList.take (sa+m)).length=sa+m:=by simp;omega
  dsimp only;rw[e];have e1:(xs.toList.take (sa+m)++p::xs.toList.drop (sa+m+1)).take (sa+(m+1))=xs.toList.take (sa+m)++[p]:=by
   rw[List.take_append,hl,show sa+(m+1) - (sa+m)=1 by omega,List.take_of_length_le (by omega)]
   rfl
  have e2:(xs.toList.take (sa+m)++p::xs.toList.drop (sa+m+1)).drop (sa+(m+1)+l.length)=xs.toList.drop (sa+m+(l.length+1)):=by
   rw[List.drop_append,hl,List.drop_of_length_le (by omega),show sa+(m+1)+l.length - (sa+m)=l.length+1 by omega,List.drop_succ_cons,List.drop_drop,List.nil_append]
   congr 1
   omega
  rw[e1,e2,List.length_cons];simp
theorem Zc4{kf:Keyed->Int}{xs:Array Keyed}{lo n:Nat}(h:Up kf xs lo n)(hz:lo+n<=xs.size):Srt kf ((xs.toList.drop lo).take n):=by
 unfold Srt;rw[List.pairwise_iff_getElem];intro i j hi hj hij;have hi':i<n:=by
  rw[List.length_take] at hi;omega
 have hj':j<n:=by
  rw[List.length_take] at hj;omega
 have q:=h i j (by omega) hj'
 have ei:xs[lo+i]? = some ((xs.toList.drop lo).take n)[i]:=by
  rw[← Array.getElem?_toList,← List.getElem?_drop,← List.getElem?_take_of_lt hi'];exact List.getElem?_eq_getElem hi
 have ej:xs[lo+j]? = some ((xs.toList.drop lo).take n)[j]:=by
  rw[← Array.getElem?_toList,← List.getElem?_drop,← List.getElem?_take_of_lt hj'];exact List.getElem?_eq_getElem hj
 rw[Kt.of ei,Kt.of ej] at q;exact q
theorem X7(xs:Array Keyed)(i j:Nat):(xs.extract i j).toList=(xs.toList.drop i).take (j - i):=by
 rw[Array.toList_extract,List.extract_eq_take_drop]
section
variable{prog:Program}{w:World}{A:Around}{E:Value->Shared->Prop}{s:Shared}{κ:SortKind}{kf:Keyed->Int}{good:Keyed->Prop}{st:SortSt}
theorem Zhu{st':SortSt}{Q:PUnit->SortSt->Prop}(h:Q ⟨⟩ st'):wpS (model prog w) A E s (set st':StateT SortSt Sem PUnit) Q st:=by
 unfold wpS;rw[StateT.run_set];exact wpAny_pure ⟨rfl,h⟩
theorem Uh{L1 L2:List Keyed}(h1:Srt kf L1)(h2:Srt kf L2)(h:∀ x∈L1,∀ y∈L2,kf x<=kf y):Srt kf (L1++L2):=List.pairwise_append.mpr ⟨h1,h2,h⟩
theorem Zak(C:Cm prog w A s κ kf good)(hk:kindOf st=κ)(G:∀ x∈(arrOf st).toList,good x)(hf:failedOf st=none){n1 n2 pw:Nat}(hp:pendingOf st=#[(0,n1,pw),(n1,n2,0)])(h1:1<=n1)(h2:1<=n2)(hz:n1+n2=(arrOf st).size)
  (u1:Up kf (arrOf st) 0 n1) (u2:Up kf (arrOf st) n1 n2) {Q:Bool->SortSt->Prop} (h:∀ st',(arrOf st').toList.Perm (arrOf st).toList->Srt kf (arrOf st').toList->failedOf st'=none->(pendingOf st').size=1->Q true st'):wpS (model prog w) A E s (mergeAt' 0) Q st:=by
 generalize hxs:arrOf st=xs at *;have s1:Srt kf (xs.toList.take n1):=by
  have:=Zc4 u1 (by omega)
  rwa [List.drop_zero] at this
 have s2:Srt kf (xs.toList.drop n1):=by
  have:=Zc4 u2 (by omega)
  rwa [List.take_of_length_le (by simp;omega)] at this
 obtain⟨k0,ek,ek',mk⟩:=Yc (show n1<xs.size by omega)
 obtain⟨l0,el,el',ml⟩:=Yc (show n1 - 1<xs.size by omega)
 have seg1:∀ t u x y,t<=u->u<n1->xs.toList[0+t]? = some x->xs.toList[0+u]? = some y->kf x<=kf y:=fun t u x y htu hu hx hy=>by
  have:=u1 t u htu hu;rw[Array.getElem?_toList] at hx hy;rw[Kt.of hx,Kt.of hy] at this;exact this
 have seg2:∀ t u x y,t<=u->u<n2->xs.toList[n1+t]? = some x->xs.toList[n1+u]? = some y->kf x<=kf y:=fun t u x y htu hu hx hy=>by
  have:=u2 t u htu hu;rw[Array.getElem?_toList] at hx hy;rw[Kt.of hx,Kt.of hy] at this;exact this
 have split:xs.toList=xs.toList.take n1++xs.toList.drop n1:=(List.take_append_drop n1 _).symm;rw[mergeAt'_eq];refine wpS_bind (wpS_get ?_);rw[hp,hxs];have p0:(#[(0,n1,pw),(n1,n2,0)]:Array (Nat×Nat×Nat))[0]? = some (0,n1,pw):=rfl;have p1:(#[(0,n1,pw),(n1,n2,0)]:Array (Nat×Nat×Nat))[0+1]? = some (n1,n2,0):=rfl;have pe:((#[(0,n1,pw),(n1,n2,0)]:Array (Nat×Nat×Nat)).setIfInBounds 0 (0,n1+n2,pw)).eraseIdxIfInBounds (0+1)=#[(0,n1+n2,pw)]:=by
  simp[Array.eraseIdxIfInBounds,Array.eraseIdx]
 rw[p0,p1];dsimp only;rw[pe];refine wpS_bind (Zhu ?_);have hps:(pendingOf (setPending st #[(0,n1+n2,pw)])).size=1:=rfl;have hks:kindOf (setPending st #[(0,n1+n2,pw)])=κ:=hk;have hfs:failedOf (setPending st #[(0,n1+n2,pw)])=none:=hf;have hxs':arrOf (setPending st #[(0,n1+n2,pw)])=xs:=hxs;generalize setPending st #[(0,n1+n2,pw)]=st1 at *;refine wpS_bind (Zp ek (wpS_bind (Ub C hks (G k0 mk) G (by omega) (by omega) seg1 fun k hk1 g1 g2=>?_)))
 dsimp only;simp only[Nat.zero_add] at g1 g2 ⊢;by_cases hna:n1 - k=0
 ·rw[if_pos (by simpa using hna)]
  refine wpS_pure (h st1 (by rw[hxs']) ?_ hfs hps)
  rw[hxs',split];refine Uh s1 s2 fun x hx y hy=>?_;obtain⟨t,ht,hxt⟩:=Yh hx;exact Int.le_trans (g1 t x (by omega) hxt) (Yy (a:=xs.toList.drop n1) (ia:=0) s2 (by rw[List.getElem?_drop];exact ek') y (by rw[List.drop_zero];exact hy))
 rw[if_neg (by simpa using hna)]
 rw[show k+(n1 - k) - 1=n1 - 1 by omega]
 refine wpS_bind (Zp el (wpS_bind (Uc C hks (G l0 ml) G (by omega) (by omega) seg2 fun nb hk2 g3 g4=>?_)))
 dsimp only;have lastle:∀ x∈xs.toList.take n1,kf x<=kf l0:=fun x hx=>by
  obtain⟨t,ht,hxt⟩:=Yh hx;exact seg1 t (n1 - 1) x l0 (by omega) (by omega) (by rw[Nat.zero_add];exact hxt) (by rw[Nat.zero_add];exact el')
 by_cases hnb:nb=0
 ·rw[if_pos (by simpa using hnb)]
  refine wpS_pure (h st1 (by rw[hxs']) ?_ hfs hps)
  rw[hxs',split];refine Uh s1 s2 fun x hx y hy=>?_;obtain⟨t,ht,hyt⟩:=Xa hy;have htz:t<xs.size:=by
   have:=(List.getElem?_eq_some_iff.mp hyt).1;simpa using this
  exact Int.le_trans (lastle x hx) (g4 (t - n1) y (by omega) (by omega) (by rw[show n1+(t - n1)=t by omega];exact hyt))
 rw[if_neg (by simpa using hnb)]
 have hsplit:xs.toList.take n1=xs.toList.take k++(xs.extract k n1).toList:=by
  rw[X7];have:=List.take_append_drop k (xs.toList.take n1);rw[List.take_take,Nat.min_eq_left (by omega),List.drop_take] at this
  exact this.symm
 have hsplit2:xs.toList.drop n1=(xs.extract n1 (n1+nb)).toList++xs.toList.drop (n1+nb):=by
  rw[X7,show n1+nb - n1=nb by omega]
  have:=List.take_append_drop nb (xs.toList.drop n1);rw[List.drop_drop] at this;exact this.symm
 have zu:(xs.extract k n1).size=n1 - k:=by rw[Array.size_extract];omega
 have zv:(xs.extract n1 (n1+nb)).size=nb:=by rw[Array.size_extract];omega
 have T:Two kf good (xs.extract k n1) (xs.extract n1 (n1+nb)):=by
  refine⟨fun x hx=>G x ?_,fun x hx=>G x ?_,?_,?_,by omega,by omega,fun x hx y hy=>?_,fun x hx y hy=>?_⟩
  ·exact List.mem_of_mem_take (by rw[hsplit];exact List.mem_append.mpr (.inr hx))
  ·exact List.mem_of_mem_drop (by rw[hsplit2];exact List.mem_append.mpr (.inl hx))
  ·rw[hsplit] at s1;exact (List.pairwise_append.mp s1).2.1
  ·rw[hsplit2] at s2;exact (List.pairwise_append.mp s2).1
  ·rw[X7,List.getElem?_take_of_lt (by omega),List.getElem?_drop,Nat.add_zero,ek'] at hx
   cases hx;rw[X7] at hy;obtain⟨t,ht,hyt⟩:=Yh hy;rw[List.getElem?_drop] at hyt;exact Int.le_of_lt (g2 (k+t) y (by omega) (by omega) hyt)
  ·rw[zu,X7,List.getElem?_take_of_lt (by omega),List.getElem?_drop,show k+(n1 - k - 1)=n1 - 1 by omega,el'] at hx
   cases hx;rw[X7] at hy;obtain⟨t,ht,hyt⟩:=Yh hy;rw[List.getElem?_drop] at hyt;exact Int.le_of_lt (g3 t y (by omega) hyt)
 have fin:∀ r g,Wh kf (xs.extract k n1) (xs.extract n1 (n1+nb)) r->wpS (model prog w) A E s (do
   modify fun s=>setArr s (r.toList.zipIdx.foldl (fun a (p,j)=>a.setIfInBounds (k+j) p) (arrOf s))
   return (failedOf (← get)).isNone) Q (mgSt st1 g):=fun r g W=>by
  refine wpS_bind (wpS_modify (wpS_bind (wpS_get ?_)));show wpS _ _ _ _ (pure (failedOf st1).isNone) Q _;rw[hfs];have hl:r.toList.length=n1 - k+nb:=by
   rw[W.pm.length_eq,List.length_append,Array.length_toList,Array.length_toList,zu,zv]
  have e:=Zhi k r.toList 0 xs (by rw[hl];omega)
  rw[Nat.add_zero,hl,show k+(n1 - k+nb)=n1+nb by omega] at e
  have mr:∀ x∈r.toList,x∈(xs.extract k n1).toList∨x∈(xs.extract n1 (n1+nb)).toList:=fun x hx=>List.mem_append.mp (W.pm.mem_iff.mp hx);refine wpS_pure (h _ ?_ ?_ hfs hps)
  ·show (List.foldl _ (arrOf st1) _).toList.Perm _;rw[hxs'];refine (List.Perm.of_eq e).trans ?_
   conv=>rhs;rw[split,hsplit,hsplit2]
   rw[List.append_assoc,List.append_assoc];refine List.Perm.append_left _ ?_;rw[← List.append_assoc];exact List.Perm.append_right _ W.pm
  ·show Srt kf (List.foldl _ (arrOf st1) _).toList;rw[hxs'];refine Eq.mpr (congrArg (Srt kf) e) ?_;rw[hsplit] at s1;rw[hsplit2] at s2;have s1':=List.pairwise_append.mp s1;have s2':=List.pairwise_append.mp s2;have kle:∀ x∈xs.toList.take k,kf x<=kf k0:=fun x hx=>by
    obtain⟨t,ht,hxt⟩:=Yh hx;exact g1 t x ht hxt
   have dle:∀ y∈xs.toList.drop n1,kf k0<=kf y:=fun y hy=>by
    obtain⟨t,ht,hyt⟩:=Xa hy;have htz:t<xs.size:=by
     have:=(List.getElem?_eq_some_iff.mp hyt).1;simpa using this
    exact seg2 0 (t - n1) k0 y (by omega) (by omega) ek' (by rw[show n1+(t - n1)=t by omega];exact hyt)
   have zle:∀ y∈xs.toList.drop (n1+nb),kf l0<=kf y:=fun y hy=>by
    obtain⟨t,ht,hyt⟩:=Xa hy;have htz:t<xs.size:=by
     have:=(List.getElem?_eq_some_iff.mp hyt).1;simpa using this
    exact g4 (t - n1) y (by omega) (by omega) (by rw[show n1+(t - n1)=t by omega];exact hyt)
   refine Uh (Uh s1'.1 W.so fun x hx y hy=>?_) s2'.2.1 fun x hx y hy=>?_
   ·rcases mr y hy with hy | hy
    ·exact s1'.2.2 x hx y hy
    ·exact Int.le_trans (kle x hx) (dle y (by rw[hsplit2];exact List.mem_append.mpr (.inl hy)))
   ·rcases List.mem_append.mp hx with hx | hx
    ·exact Int.le_trans (kle x hx) (dle y (by rw[hsplit2];exact List.mem_append.mpr (.inr hy)))
    ·rcases mr x hx with hx | hx
     ·exact Int.le_trans (lastle x (by rw[hsplit];exact List.mem_append.mpr (.inr hx))) (zle y hy)
     ·exact s2'.2.2 x hx y hy
 by_cases hle:n1 - k<=nb
 ·rw[if_pos hle];exact wpS_bind (Zai C hks T fun r g W=>fin r g W)
 ·rw[if_neg hle];exact wpS_bind (Zaj C hks T fun r g W=>fin r g W)
end
end KS
end
section
namespace KS
open PySem PyProof.Rows KM
theorem Zd0{n:Nat}(h2:2<=n)(h:n<128):n<=2 * minRun' n n 0/\minRun' n n 0<=n:=by
 obtain⟨f,rfl⟩:∃ f,n=f+2:=⟨n - 2,by omega⟩
 rw[minRun'_succ];by_cases h1:f+2<64
 ·rw[if_pos h1];omega
 ·rw[if_neg h1,minRun'_succ,if_pos (by omega)]
  omega
section
variable{prog:Program}{w:World}{A:Around}{E:Value->Shared->Prop}{s:Shared}{κ:SortKind}{kf:Keyed->Int}{good:Keyed->Prop}{st:SortSt}
structure Rn(κ:SortKind)(xs0:Array Keyed)(st:SortSt):Prop where
 pm:(arrOf st).Perm xs0
 kd:kindOf st=κ
 fl:failedOf st=none
theorem Rn.size{xs0:Array Keyed}(R:Rn κ xs0 st):(arrOf st).size=xs0.size:=R.pm.size_eq
theorem Rn.gd{xs0:Array Keyed}(R:Rn κ xs0 st)(G:∀ x∈xs0.toList,good x):∀ x∈(arrOf st).toList,good x:=fun x hx=>G x ((Array.perm_iff_toList_perm.mp R.pm).mem_iff.mp hx)
theorem Sg.rn{xs0:Array Keyed}{st':SortSt}{lo N:Nat}(S:Sg st lo N st')(R:Rn κ xs0 st):Rn κ xs0 st':=⟨S.pm.trans R.pm,S.kind.trans R.kd,by rw[S.e];exact R.fl⟩
theorem Sg.pend{st':SortSt}{lo N:Nat}(S:Sg st lo N st'):pendingOf st'=pendingOf st:=by rw[S.e]
theorem Zc0(C:Cm prog w A s κ kf good){xs0:Array Keyed}(G:∀ x∈xs0.toList,good x)(R:Rn κ xs0 st){lo mr:Nat}(hlo:lo<xs0.size){α:Type}{cont:Nat->StateT SortSt Sem α}{bad:StateT SortSt Sem α}{Q:α->SortSt->Prop}
  (h:∀ n st',Sg st lo (xs0.size - lo) st'->1<=n->n<=xs0.size - lo->(mr<=n∨n=xs0.size - lo)->Up kf (arrOf st') lo n->wpS (model prog w) A E s (cont n) Q st'):
  wpS (model prog w) A E s (do
   let r ← countRun' lo (xs0.size - lo)
   match r with
   | some found=>
    if found<mr then do
     liftM (rule "list.sort.binary-insertion")
     let b ← binarySort' lo (min (xs0.size - lo) mr) found
     if (!b)=true then bad else cont (min (xs0.size - lo) mr)
    else cont found
   | _=>bad) Q st:=by
 have hz:lo+(xs0.size - lo)<=(arrOf st).size:=by rw[R.size];omega
 refine wpS_bind (Zc1 C R.kd (R.gd G) hz (by omega) fun m st2 S hm1 hm2 hu=>?_)
 dsimp only;by_cases hlt:m<mr
 ·rw[if_pos hlt];refine wpS_bind (wpS_lift (wpAny_rule ⟨rfl,?_⟩));refine wpS_bind (Zhv C R.kd (R.gd G) S hz (by omega) (by omega) hu fun st3 S3 hu3=>?_)
  rw[if_neg (by decide)]
  exact h _ st3 S3 (by omega) (by omega) (by omega) hu3
 ·rw[if_neg hlt];exact h m st2 S hm1 hm2 (.inl (by omega)) hu
theorem Zah(C:Cm prog w A s κ kf good){xs0:Array Keyed}(G:∀ x∈xs0.toList,good x)(R:Rn κ xs0 st)(hp:pendingOf st=#[])(h2:2<=xs0.size)(h128:xs0.size<128){Q:Unit->SortSt->Prop}
  (h:∀ st',(arrOf st').toList.Perm xs0.toList->Srt kf (arrOf st').toList->failedOf st'=none->Q () st'):wpS (model prog w) A E s sortRuns' Q st:=by
 obtain⟨hm1,hm2⟩:=Zd0 h2 h128;rw[sortRuns'_eq];refine wpS_bind (wpS_get ?_);dsimp only;simp only[R.size];generalize minRun' xs0.size xs0.size 0=mr at hm1 hm2 ⊢;generalize hn:xs0.size=n at *;refine wpS_bind (wpS_mono (wpS_forRange
  (I:=fun x c st'=>Rn κ xs0 st'/\((x=0/\c=(none,0)/\pendingOf st'=#[])∨(∃ n1,1<=x/\c=(none,n1)/\1<=n1/\n1<=n/\n - n1<=mr/\(n1=n∨x=1)/\pendingOf st'=#[(0,n1,0)]/\Up kf (arrOf st') 0 n1) ∨
   (∃ n1 n2 pw,2<=x/\c=(none,n)/\1<=n1/\1<=n2/\n1+n2=n/\pendingOf st'=#[(0,n1,pw),(n1,n2,0)]/\Up kf (arrOf st') 0 n1/\Up kf (arrOf st') n1 n2)))
  (Q:=fun c st'=>c=(none,n)/\Rn κ xs0 st'/\((pendingOf st'=#[(0,n,0)]/\Up kf (arrOf st') 0 n)∨(∃ n1 n2 pw,1<=n1/\1<=n2/\n1+n2=n/\pendingOf st'=#[(0,n1,pw),(n1,n2,0)]/\Up kf (arrOf st') 0 n1/\Up kf (arrOf st') n1 n2))) ?step ?fin ⟨R,.inl ⟨rfl,rfl,hp⟩⟩) ?post)
 case fin=>
  rintro c st' ⟨R',⟨hx,_⟩ | ⟨n1,_,rfl,_,_,_,hor,hp',hu⟩ | ⟨n1,n2,pw,_,rfl,g⟩⟩
  ·omega
  ·obtain rfl:n1=n:=by omega
   exact⟨rfl,R',.inl ⟨hp',hu⟩⟩
  ·exact⟨rfl,R',.inr ⟨n1,n2,pw,g⟩⟩
 case step=>
  rintro x c st' _ hx ⟨R',⟨rfl,rfl,hp'⟩ | ⟨n1,hx1,rfl,hn1,hn2,hn3,hor,hp',hu⟩ | ⟨n1,n2,pw,hx2,rfl,g⟩⟩
  ·dsimp only;rw[if_neg (by omega)]
   subst hn;refine Zc0 (mr:=mr) (lo:=0) C G R' (by omega) fun m st2 S2 hm1' hm2' hm3' hu2=>?_
   refine wpS_bind (wpS_get ?_);have hb:(pendingOf st2).back? = none:=by rw[S2.pend,hp'];rfl
   rw[hb];dsimp only;refine wpS_bind (wpS_modify (wpS_pure ⟨⟨(S2.rn R').pm,(S2.rn R').kd,(S2.rn R').fl⟩,.inr (.inl ⟨m,by omega,by rw[Nat.zero_add],hm1',by omega,by omega,.inr rfl,?_,hu2⟩)⟩))
   show (pendingOf st2).push (0,m,0)=_;rw[S2.pend,hp'];rfl
  ·dsimp only;by_cases hge:n1 ≥ n
   ·rw[if_pos hge];obtain rfl:n1=n:=by omega
    exact wpS_pure ⟨rfl,R',.inl ⟨hp',hu⟩⟩
   ·rw[if_neg hge];obtain rfl:x=1:=by omega
    subst hn;refine Zc0 (mr:=mr) (lo:=n1) C G R' (by omega) fun m st2 S2 hm1' hm2' hm3' hu2=>?_
    obtain rfl:m=xs0.size - n1:=by omega
    refine wpS_bind (wpS_get ?_);have hpe:pendingOf st2=#[(0,n1,0)]:=S2.pend.trans hp';have hb:(pendingOf st2).back? = some (0,n1,0):=by rw[hpe];rfl
    rw[hb];dsimp only;refine wpS_bind (wpS_mono (wpS_forRange (I:=fun _ c st''=>st''=st2/\c=(none,())) (Q:=fun c st''=>st''=st2/\c=(none,())) ?_ (fun _ _ hh=>hh) ⟨rfl,rfl⟩) ?_)
    ·rintro x c st'' _ _ ⟨rfl,rfl⟩;refine wpS_bind (wpS_get ?_);rw[hpe];rw[if_neg (by show ¬ 1 > 1;decide)]
     exact wpS_pure ⟨rfl,rfl⟩
    ·rintro c st'' ⟨rfl,rfl⟩;dsimp only;refine wpS_bind (wpS_modify (wpS_bind (wpS_modify (wpS_pure ?_))));refine⟨⟨(S2.rn R').pm,(S2.rn R').kd,(S2.rn R').fl⟩,.inr (.inr ⟨n1,xs0.size - n1,power' xs0.size (2 * 0+n1) (2 * 0+n1+n1+(xs0.size - n1)) xs0.size,by omega,by rw[show n1+(xs0.size - n1)=xs0.size by omega],hn1,hm1',by omega,?_,?_,hu2⟩)⟩
     ·show ((pendingOf st'').modify ((pendingOf st'').size - 1) _).push _=_;rw[hpe];rfl
     ·intro i j hij hj;have q:=hu i j hij hj;have e1:Kt kf (arrOf st'') (0+i)=Kt kf (arrOf st') (0+i):=Kt.eq (S2.out _ (.inl (by omega)))
      have e2:Kt kf (arrOf st'') (0+j)=Kt kf (arrOf st') (0+j):=Kt.eq (S2.out _ (.inl (by omega)))
      show Kt kf (arrOf st'') (0+i)<=Kt kf (arrOf st'') (0+j);rw[e1,e2];exact q
  ·dsimp only;rw[if_pos (Nat.le_refl _)];exact wpS_pure ⟨rfl,R',.inr ⟨n1,n2,pw,g⟩⟩
 case post=>
  rintro c st' ⟨rfl,R',hcase⟩;dsimp only;refine wpS_bind (wpS_mono (wpS_forRange (I:=fun x c st''=>c=(none,())/\((x=0/\st''=st')∨((arrOf st'').toList.Perm xs0.toList/\Srt kf (arrOf st'').toList/\failedOf st''=none/\(pendingOf st'').size=1)))
   (Q:=fun c st''=>c=(none,())/\(arrOf st'').toList.Perm xs0.toList/\Srt kf (arrOf st'').toList/\failedOf st''=none) ?_ ?_ ⟨rfl,.inl ⟨rfl,rfl⟩⟩) ?_)
  ·rintro x c st'' _ _ ⟨rfl,⟨rfl,rfl⟩ | ⟨g1,g2,g3,g4⟩⟩
   ·refine wpS_bind (wpS_get ?_);rcases hcase with ⟨hp',hu⟩ | ⟨n1,n2,pw,hn1,hn2,hn3,hp',hu1,hu2⟩
    ·rw[hp',if_pos (by show 1<=1;decide)]
     refine wpS_pure ⟨rfl,Array.perm_iff_toList_perm.mp R'.pm,?_,R'.fl⟩;have:=Zc4 hu (by rw[R'.size];omega)
     rwa [List.drop_zero,List.take_of_length_le (by rw[Array.length_toList,R'.size];omega)] at this
    ·rw[hp',if_neg (by show ¬ 2<=1;decide)]
     show wpS _ _ _ _ (mergeAt' 0 >>= _) _ _;refine wpS_bind (Zak C R'.kd (R'.gd G) R'.fl hp' hn1 hn2 (by rw[R'.size];omega) hu1 hu2 fun st3 g1 g2 g3 g4=>?_)
     rw[if_neg (by decide)]
     exact wpS_pure ⟨rfl,.inr ⟨g1.trans (Array.perm_iff_toList_perm.mp R'.pm),g2,g3,g4⟩⟩
   ·refine wpS_bind (wpS_get ?_);rw[if_pos (by omega)]
    exact wpS_pure ⟨rfl,g1,g2,g3⟩
  ·rintro c st'' ⟨rfl,⟨hx,_⟩ | ⟨g1,g2,g3,g4⟩⟩
   ·omega
   ·exact⟨rfl,g1,g2,g3⟩
  ·rintro c st'' ⟨rfl,g1,g2,g3⟩;exact wpS_pure (h st'' g1 g2 g3)
end
end KS
end
section
namespace KS
open PySem KsTab PyProof.Rows PySem.W KM
section
variable{prog:Program}{w:World}{A:Around}{E:Value->Shared->Prop}{s:Shared}
theorem Zha{b:Bool}{m n:Int}{t u:Tok}{Q:Bool->Shared->Prop}(hq:Q (decide (m<n)) s):wpAny (model prog w) A (oneLt' b (.int m t) (.int n u)) Q E s:=by
 cases b with
 | true=>exact oneLt_int hq
 | false=>exact kat_one _ _ (lt_int hq)
theorem lex2{b:Bool}{Q:Bool->Shared->Prop}{m n m' n':Int}{t u t' u':Tok}(hq:Q (decide (m<n∨(m=n/\m'<n'))) s):KatLex prog w A b false Q [(.int m t,.int n u),(.int m' t',.int n' u')] 0 s:=by
 refine kat_cons (wpAny_eqBool_int (kat_go (fun e=>kat_yes (kat_cons (wpAny_eqBool_int (kat_go (fun e'=>kat_yes (kat_nil ?_)) fun e'=>kat_no (Zha ?_))))) fun e=>kat_no (Zha ?_)))
 ·have h1:m=n:=eq_of_beq e;have h2:m'=n':=eq_of_beq e';rw[decide_eq_false (by omega)] at hq
  exact hq
 ·have h1:m=n:=eq_of_beq e;rw[show decide (m'<n')=decide (m<n∨(m=n/\m'<n')) by simp[h1]]
  exact hq
 ·have h1:m≠n:=fun z=>by rw[z] at e;simp at e
  rw[show decide (m<n)=decide (m<n∨(m=n/\m'<n')) by simp[h1]]
  exact hq
theorem U1{k1 k2:Int}{its:Array Value}(h:ItemsAre (intKind prog w) [k1,k2] its.toList):∃ t u,its.toList=[.int k1 t,.int k2 u]:=by
 generalize its.toList=l at h;cases h with
 | cons h1 h=>
  cases h with
  | cons h2 h=>
   cases h;obtain⟨t,rfl⟩:=Value.isInt_shape h1;obtain⟨u,rfl⟩:=Value.isInt_shape h2;exact⟨t,u,rfl⟩
theorem cmp2{bb:Bool}{x y:Value}{a b a' b':Int}{C:Bool->Shared->Prop}(hx:Kof prog w s.heap x [a,b])(hy:Kof prog w s.heap y [a',b'])(h:C (decide (a<a'∨(a=a'/\b<b'))) s):wpAny (model prog w) A (keyLt' (tuples' bb) x y) C E s:=by
 obtain⟨c,rfl,oa,ia,na,ha,_,da,ta⟩:=hx;obtain⟨d,rfl,ob,ib,nb,hb,_,db,tb⟩:=hy;obtain⟨t,u,e1⟩:=U1 ta;obtain⟨t',u',e2⟩:=U1 tb;refine kat_lt ha da hb db ?_;have z1:ia.size=2:=by rw[← Array.length_toList,e1];rfl
 have z2:ib.size=2:=by rw[← Array.length_toList,e2];rfl
 rw[z1,z2,e1,e2];exact lex2 h
noncomputable def PrC(prog:Program)(w:World)(h:Heap)(code:Value->Int)(v:Value):Prop:=∃ a b,Kof prog w h v [a,b]/\0<=b/\b<1000/\code v=a * 1000+b
theorem PrC.at{h h':Heap}{code:Value->Int}{v:Value}(x:PrC prog w h code v)(kp:∀ c o,v=.ref c->h.get? c=some o->h'.get? c=some o):PrC prog w h' code v:=by
 obtain⟨a,b,k,r⟩:=x;exact⟨a,b,k.at kp,r⟩
theorem Jf{a:Addr}{vs:List Value}{n:Nat}{code:Value->Int}{P:PySem.Fin->Shared->Prop}(ho:s.heap.get? a=some (seqObj "list" vs.toArray n))(h128:vs.length<128)(hV:∀ v∈vs,PrC prog w s.heap code v)(hna:∀ v∈vs,v≠.ref a)
  (h:∀ h' out e,out.Perm vs->out.Pairwise (fun x y=>code x<=code y)->h'.get? a=some (seqObj "list" (List.toArray out) e)->(∀ b o,b≠a->s.heap.get? b=some o->h'.get? b=some o)->P (.done (.ret .none)) { s with heap:=h' }):
  wpAny (model prog w) A (Builtin.«list.sort» ⟨[.ref a],[]⟩) P E s:=by
 have ha:a<s.heap.objs.size:=Heap.lt_size ho;obtain⟨e1,ho1⟩:∃ e1,(s.heap.update a (Obj.mapSeq fun _=>(#[]:Array Value))).get? a=some (seqObj "list" #[] e1):=⟨_,get?_update_seq ho fun _=>#[]⟩;generalize hg:((s.heap.update a (Obj.mapSeq fun _=>(#[]:Array Value))).push (seqObj "tuple" vs.toArray 0)).push (seqObj "list" #[] 0)=g;have kp:∀ b o,b≠a->s.heap.get? b=some o->g.get? b=some o:=fun b o hb e=>by
  rw[← hg];exact Heap.get?_push_of_some _ (Heap.get?_push_of_some _ ((Heap.get?_update_other _ _ (Ne.symm hb)).trans e))
 have hoa:g.get? a=some (seqObj "list" #[] e1):=by
  rw[← hg];exact Heap.get?_push_of_some _ (Heap.get?_push_of_some _ ho1)
 have hVg:∀ v∈vs,PrC prog w g code v:=fun v hv=>(hV v hv).at fun c o e q=>kp c o (fun z=>hna v hv (by rw[e,z])) q
 have fin:∀ (st:SortSt) (out:List Value),(arrOf st).map (·.2)=List.toArray out->failedOf st=none->out.Perm vs->out.Pairwise (fun x y=>code x<=code y)->wpAny (model prog w) A (do
   let touched:=(← seqEpoch a) != e1
   Builtin.List.listUpdate (.ref a) fun _=>(arrOf st).map (·.2)
   if let some e:=failedOf st then rule "list.sort.comparison-raised";throw e
   if touched then rule "list.sort.modified";raiseError "ValueError" "list modified during sort"
   ret .none) P E { s with heap:=g }:=by
  intro st out hout hf hp hs;have hl:out.length<128:=by rw[hp.length_eq];exact h128
  refine wpAny_bind (seqEpoch_at hoa rfl ?_);rw[hout];refine wpAny_bind (listUpdate_at hoa rfl ?_ (Nat.zero_le _) (by rw[List.size_toArray,sizeLine_eq];omega))
  rw[hf];simp only[bne_self_eq_false,Bool.false_eq_true,if_false];obtain⟨c2,hc2⟩:∃ c2,(g.update a (Obj.mapSeq fun _=>List.toArray out)).get? a=some (seqObj "list" (List.toArray out) c2):=⟨_,get?_update_seq hoa fun _=>List.toArray out⟩;exact wpAny_pure (h _ out c2 hp hs hc2 fun b o hb e=>(Heap.get?_update_other _ _ (Ne.symm hb)).trans (kp b o hb e))
 rw[list_sort_plain];refine wpAny_bind (listItems_at ho rfl (wpAny_bind (listUpdate_at ho rfl ?_ (by rw[List.size_toArray,sizeLine_eq];omega) (Nat.zero_le _))))
 refine wpAny_bind (seqEpoch_at ho1 rfl (wpAny_bind (wpAny_newTuple ?_ (by show vs.length<=_;rw[sizeLine_eq];omega))))
 refine wpAny_bind (wpAny_newList (wpAny_holding ?_) (Nat.zero_le _));show wpAny (model prog w) A _ P E { s with heap:=((s.heap.update a (Obj.mapSeq fun _=>(#[]:Array Value))).push (seqObj "tuple" vs.toArray 0)).push (seqObj "list" #[] 0) }
 rw[hg];dsimp only;by_cases h2:vs.toArray.size<2
 ·rw[if_pos h2,if_pos h2];refine wpAny_bind (wpAny_pure ?_);rw[StateT.run_pure];refine wpAny_bind (wpAny_pure ?_);dsimp only;refine fin (SortSt.mk' general' (vs.toArray.zip vs.toArray) #[] 7 none) vs ?_ rfl (List.Perm.refl _) ?_
  ·show (vs.toArray.zip vs.toArray).map (·.2)=vs.toArray;simp only[List.zip_toArray,List.map_toArray];rw[List.map_snd_zip (Nat.le_refl _)]
  ·rw[List.size_toArray] at h2
   match vs,h2 with
   | [],_=>exact List.Pairwise.nil
   | [v],_=>exact List.pairwise_singleton _ _
 ·rw[if_neg h2,if_neg h2];rw[List.size_toArray] at h2;obtain⟨kf,hkf⟩:=Classical.axiomOfChoice (r:=fun (v:Value) (k:List Int)=>v∈vs->Kof prog w g v k/\k≠[]) fun v=>by
   by_cases hv:v∈vs
   ·obtain⟨a1,b1,k1,_⟩:=hVg v hv;exact⟨[a1,b1],fun _=>⟨k1,(fun z=>nomatch z)⟩⟩
   ·exact⟨[],fun z=>absurd z hv⟩
  obtain⟨fs,t1,t2,t3⟩:=Jp (prog:=prog) (w:=w) (h:=g) (kf:=kf) vs hkf;refine wpAny_bind (kat_kind (s:={ s with heap:=g }) t1 (by omega) (T:=.type "int") (fun v hv=>?_) (by decide) ?_)
  ·obtain⟨i,t,rfl⟩:=t3 v hv;exact Looks.of_pure rfl
  ·have zl:(vs.toArray.zip vs.toArray).toList=vs.zip vs:=by simp
   have zz:(vs.toArray.zip vs.toArray).size=vs.length:=by simp
   have C:Cm prog w A { s with heap:=g } (tuples' (Value.type "int" != Value.type "tuple")) (fun x=>code x.1) (fun x=>x.1∈vs):=⟨fun x y hx hy=>by
    obtain⟨a1,b1,k1,p1,p2,p3⟩:=hVg _ hx;obtain⟨a2,b2,k2,q1,q2,q3⟩:=hVg _ hy;refine cmp2 (s:={ s with heap:=g }) k1 k2 ⟨rfl,?_⟩
    rw[p3,q3];exact decide_eq_decide.mpr (by omega)⟩
   refine wpAny_bind (wpAny_mono (Zah (E:=E) (s:={ s with heap:=g }) (st:=SortSt.mk' (tuples' (Value.type "int" != Value.type "tuple")) (vs.toArray.zip vs.toArray) #[] 7 none) (xs0:=vs.toArray.zip vs.toArray) C (fun x hx=>by rw[zl] at hx;exact (mem_zip_self hx).2) ⟨Array.Perm.refl _,rfl,rfl⟩ rfl (by rw[zz];omega) (by rw[zz];exact h128)
    (Q:=fun _ st'=>(arrOf st').toList.Perm (vs.zip vs)/\Srt (fun x:Keyed=>code x.1) (arrOf st').toList/\failedOf st'=none) fun st' g1 g2 g3=>⟨by rw[zl] at g1;exact g1,g2,g3⟩) ?_ fun _ _ e=>e)
   rintro⟨⟨⟩,st'⟩ s' ⟨rfl,hp,hs,hf⟩;dsimp only;refine fin st' ((arrOf st').toList.map (·.2)) (by rw[← Array.toList_map]) hf ?_ ?_
   ·have:=hp.map (·.2)
    rwa [List.map_snd_zip (Nat.le_refl _)] at this
   ·rw[List.pairwise_map];refine List.Pairwise.imp_of_mem (fun {x y} hx hy hxy=>?_) hs;have e1:=(mem_zip_self (hp.mem_iff.mp hx)).1;have e2:=(mem_zip_self (hp.mem_iff.mp hy)).1;rw[← e1,← e2];exact hxy
theorem Xm{r:Addr}{vs:List Value}{code:Value->Int}{Q:Value->Shared->Prop}(hh:A.handled=none)
  (hcol:∀ (A':Around),A'.handled=none->∀ (Q':List Value->Shared->Prop) (E':Value->Shared->Prop),(∀ h' tk,(∀ b o,s.heap.get? b=some o->h'.get? b=some o)->Q' vs { s with heap:=h',toks:=tk })->wpAny (model prog w) A' (collect (.ref r)) Q' E' s)
  (h128:vs.length<128) (hV:∀ v∈vs,PrC prog w s.heap code v)
  (h:∀ D h' tk out e,out.Perm vs->out.Pairwise (fun x y=>code x<=code y)->s.heap.get? D=none->h'.get? D=some (seqObj "list" (List.toArray out) e)->(∀ b o,s.heap.get? b=some o->h'.get? b=some o)->Q (.ref D) { s with heap:=h',toks:=tk }):
  wpAny (model prog w) A (call (.builtin "sorted") [.ref r]) Q E s:=by
 refine Calls.call_function_entry kind_sorted plain_sorted entry_sorted (args_sorted1 _) ?_;unfold Builtin.«sorted»;refine wpAny_bind (m:=checkCount "sorted" 1 1 _) (wpAny_pure (wpAny_bind (hcol A.in1 hh _ _ fun h1 tk k1=>?_)));have low:∀ b o,s.heap.get? b=some o->b≠h1.objs.size:=fun b o e=>Nat.ne_of_lt (Heap.lt_size (k1 b o e));have hle:s.heap.get? h1.objs.size=none:=by
  cases q:s.heap.get? h1.objs.size with
  | none=>rfl
  | some o=>exact absurd (Heap.lt_size (k1 _ _ q)) (Nat.lt_irrefl _)
 refine wpAny_bind (wpAny_newList ?_ (by rw[sizeLine_eq];omega))
 show wpAny _ _ _ _ _ { s with heap:=h1.push (seqObj "list" vs.toArray 0),toks:=tk }
 have hoD:(h1.push (seqObj "list" vs.toArray 0)).get? h1.objs.size=some (seqObj "list" vs.toArray 0):=Heap.get?_push_size _ rfl;have kp2:∀ b o,s.heap.get? b=some o->(h1.push (seqObj "list" vs.toArray 0)).get? b=some o:=fun b o e=>Heap.get?_push_of_some _ (k1 b o e);refine wpAny_bind (wpAny_holding (wpAny_call_entry slot_list_sort ⟨_,hoD,rfl⟩ entry_list_sort (Jf (s:={ s with heap:=h1.push (seqObj "list" vs.toArray 0),toks:=tk }) (code:=code) hoD h128 (fun v hv=>(hV v hv).at fun c o _ e=>kp2 c o e) (fun v hv z=>?_) fun h' out e po so hD' kp=>⟨_,rfl,?_⟩) (args_list_sort _)))
 ·obtain⟨_,_,⟨c,ec,oc,_,_,hc,_⟩,_⟩:=hV v hv;rw[ec] at z;injection z with z
  exact low c oc hc z
 ·exact wpAny_pure ⟨_,rfl,h h1.objs.size h' tk out e po so hle hD' fun b o e=>kp b o (low b o e) (kp2 b o e)⟩
theorem Za1{T:String}{r d:Addr}{n:Nat}{P:Nat->Value->Prop}{OK:Heap->Prop}{Q:List Value->Shared->Prop}(K:KdlSrc prog w T r d n P OK)(hh:A.handled=none)(hok:OK s.heap)(hz:n<=sizeLine)
  (hQ:∀ h' tk (acc:Array Value),(∀ b o,s.heap.get? b=some o->h'.get? b=some o)->ItemsOf P acc n->Q acc.toList { s with heap:=h',toks:=tk }):wpAny (model prog w) A (collect (.ref r)) Q E s:=by
 have hlt:=K.there _ hok;have hD:(s.heap.push (seqObj "list" #[] 0)).get? s.heap.objs.size=some { cls:=.type "list",data:=.seq #[] 0 }:=Heap.get?_push_size _ rfl;unfold collect;refine wpAny_bind (wpAny_runValue (codeAny_builtin entry_proto_collect' ?_));rw[Around.under_plainId (by decide +kernel) _]
 show wpAny _ _ (newList [] >>= fun d=>again (.builtin "list.__iadd__" ⟨[d,.ref r],[]⟩)) _ _ s;refine wpAny_bind (wpAny_newList (wpAny_pure ⟨Code.quiet_builtin _ (by decide +kernel),codeAny_builtin entry_list_iadd' ?_⟩))
 rw[Around.under_plainId (by decide +kernel) _]
 show wpAny _ A.in1 (Builtin.List.listExtendWith (.ref s.heap.objs.size) (.ref r) (.ref s.heap.objs.size)) _ _ { s with heap:=s.heap.push (seqObj "list" #[] 0) }
 refine wpAny_mono (kdl_extend (s:={ s with heap:=s.heap.push (seqObj "list" #[] 0) }) (R:=fun rr s'=>∃ h' tk acc c,rr=.ok (.ret (.ref s.heap.objs.size))/\s'={ s with heap:=h',toks:=tk }/\(∀ b o,s.heap.get? b=some o->h'.get? b=some o) /\
   h'.get? s.heap.objs.size=some { cls:=.type "list",dict:=none,data:=.seq acc c,slots:=#[] }/\ItemsOf P acc n) K hh (K.keep _ _ hok fun b _ o e=>Heap.get?_push_of_some _ e) s.heap.objs.size (Nat.ne_of_gt hlt.1) (Nat.ne_of_gt hlt.2) _ 0 hD
  (fun h' tk acc c kp hD' ha=>⟨h',tk,acc,c,rfl,rfl,fun b o e=>kp b o (Nat.ne_of_lt (Heap.lt_size e)) (Heap.get?_push_of_some _ e),hD',ha⟩) hz) (fun fin s' hq=>?_) fun e s' ⟨_,_,_,_,z,_⟩=>by cases z
 cases fin with
 | done f=>
  obtain⟨h',tk,acc,c,z,rfl,kp,hD',ha⟩:=hq;cases z;show wpAny _ _ (load s.heap.objs.size >>= _) _ _ _;refine wpAny_bind (wpAny_load hD' ?_);dsimp only;exact wpAny_pure (hQ h' tk acc kp ha)
 | again c'=>
  refine⟨hq.1,codeAny_mono hq.2 fun rr s2 hr2=>?_⟩;obtain⟨h',tk,acc,c,rfl,rfl,kp,hD',ha⟩:=hr2;show wpAny _ _ (load s.heap.objs.size >>= _) _ _ _;refine wpAny_bind (wpAny_load hD' ?_);dsimp only;exact wpAny_pure (hQ h' tk acc kp ha)
end
end KS
end
section
namespace KS
open PySem PySem.Spec L2 KM
open PyProof.Rows hiding St
noncomputable def DicAt(h:Heap)(d:Addr)(es:Array DictEntry)(ep:Nat):Prop:=∃ o,h.get? d=some o/\o.ExactDict/\o.data=.dict es ep
theorem DicAt.keep{h h':Heap}{d:Addr}{es:Array DictEntry}{ep:Nat}(x:DicAt h d es ep)(k:∀ o,h.get? d=some o->h'.get? d=some o):DicAt h' d es ep:=let ⟨o,e,r⟩:=x;⟨o,k o e,r⟩
theorem DicAt.ent{h:Heap}{d:Addr}{es:Array DictEntry}{ep:Nat}(x:DicAt h d es ep):EntAt h d es ep:=let ⟨o,e,_,r⟩:=x;⟨o,e,r⟩
section
variable{P:Program}{w:World}{A:Around}{E:Value->Shared->Prop}{s:Shared}{d z:Addr}{es:Array DictEntry}{ep i:Nat}
theorem Zir{Q:Value->Shared->Prop}(lo:(d == sysModules)=false)(y:DicAt s.heap d es ep)
  (q:Q (.ref s.heap.objs.size) { s with heap:=s.heap.push { cls:=.type "dict_keyiterator",data:=.fields #[.ref d,.int 0 0,.int es.size 0,.int ep 0] } }):wpAny (model P w) A (pyIter (.ref d)) Q E s:=by
 obtain⟨od,e3,ex,e4⟩:=y;have ty:s.TypeIs (.ref d) "dict":=⟨od,e3,ex.1⟩;refine wpAny_pyIter_slot ty F.slot_dict_iter (wpAny_call_entry F.slot_dict_iter ty F.entry_dict_iter ?_ (F.args_dict_iter_1 _));unfold Builtin.«dict.__iter__» Builtin.Dict.dictSlotNone;refine wpAny_bind (wpAny_bind (wpAny_notOrdered_dict ty ?_));show wpAny _ _ (pure (Value.ref d)) _ _ s;refine wpAny_pure ?_;show wpAny _ _ (Builtin.Dict.showsAll d >>= _) _ _ s;unfold Builtin.Dict.showsAll;rw[if_neg (by rw[lo];decide)]
 refine wpAny_bind (wpAny_pure (wpAny_bind (wpAny_dictEntries e3 e4 (wpAny_bind (wpAny_dictEpoch e3 e4 ?_)))));refine wpAny_bind (wpAny_newObj_type (wpAny_pure ⟨_,rfl,"dict_keyiterator",_,⟨_,Heap.get?_push_size _ rfl,rfl⟩,F.slot_dict_keyiterator_next.lookup,?_⟩));simpa[rawInt] using q
theorem Zjm{e:DictEntry}{Q:Option Value->Shared->Prop}(x:s.heap.IsKeyIter z d i es.size ep)(y:EntAt s.heap d es ep)(g:es[i]? = some e)
  (q:∀ h',h'.IsKeyIter z d (i+1) es.size ep->Heap.SameBut z s.heap h'->Q (some e.key) { s with heap:=h' }):wpAny (model P w) A (pyNext (.ref z)) Q E s:=by
 have ty:=x.typeIs;obtain⟨oz,f1,f2,f3⟩:=x;obtain⟨od,e3,e4⟩:=y;have own:Builtin.Dict_items.ownsTuple "dict_keyiterator"=false:=by decide
 unfold pyNext;refine wpAny_bind (wpAny_attempt (wpAny_callSpecial?_slot (name:=Str.ofString "__next__") ty F.slot_dict_keyiterator_next (wpAny_call_entry F.slot_dict_keyiterator_next ty F.entry_dict_keyiterator_next ?_ (F.args_dict_keyiterator_next_1 _))));refine wpAny_bind (wpAny_pure (wpAny_bind (wpAny_bind (wpAny_bind (wpAny_typeNameOfWhole_keyiter ty (wpAny_pure (wpAny_bind (wpAny_fieldsOf f1 f3 ?_))))))));simp only[own,Bool.false_eq_true,if_false];show wpAny _ _ (if (Value.ref d == Value.none)=true then _ else _) _ _ _
 rw[if_neg (by rw[show (Value.ref d == Value.none)=false from rfl];decide)]
 refine wpAny_bind (wpAny_pure (wpAny_bind (wpAny_dictEntries e3 e4 ?_)));rw[if_neg (by simp)]
 refine wpAny_bind (wpAny_pure (wpAny_bind (wpAny_dictEpoch e3 e4 ?_)));rw[if_neg (by simp)]
 refine wpAny_pure ?_;simp only[show ¬ ((i:Int)<0) from by omega,if_false,Int.toNat_natCast,g]
 refine wpAny_bind (wpAny_bind (wpAny_typeNameOfWhole_keyiter ty (wpAny_pure (wpAny_bind (wpAny_isOneOf_keyiter ty ?_)))));show wpAny _ _ (setField (.ref z) 1 (rawInt ((i:Int)+1)) >>= _) _ _ _;refine wpAny_bind (wpAny_setField f1 f3 (by simp) ?_)
 have x':(s.heap.update z (Obj.mapFields (·.setIfInBounds 1 (rawInt ((i:Int)+1))))).IsKeyIter z d (i+1) es.size ep:=by
  refine⟨_,Heap.get?_update_self _ f1 (Obj.isFreed_of_fields (Obj.data_mapFields f3 _)),(Obj.cls_mapFields ..).trans f2,?_⟩;rw[Obj.data_mapFields f3];simp[rawInt]
 refine wpAny_bind (wpAny_holding (wpAny_bind (wpAny_isOneOf_keyiter x'.typeIs ?_)));show wpAny _ _ (pure e.key) _ _ _;exact wpAny_pure (wpAny_pure ⟨_,rfl,wpAny_pure (q _ x' (Heap.SameBut.update ..))⟩)
theorem Zjl{Q:Option Value->Shared->Prop}(hh:A.handled=none)(x:s.heap.IsKeyIter z d i es.size ep)(y:EntAt s.heap d es ep)(g:es.size<=i)(q:∀ h',Heap.ExtBut z s.heap h'->Q none { s with heap:=h' }):wpAny (model P w) A (pyNext (.ref z)) Q E s:=by
 have ty:=x.typeIs;obtain⟨oz,f1,f2,f3⟩:=x;obtain⟨od,e3,e4⟩:=y;have own:Builtin.Dict_items.ownsTuple "dict_keyiterator"=false:=by decide
 unfold pyNext;refine wpAny_bind (wpAny_attempt (wpAny_callSpecial?_slot (name:=Str.ofString "__next__") ty F.slot_dict_keyiterator_next (wpAny_call_entry F.slot_dict_keyiterator_next ty F.entry_dict_keyiterator_next ?_ (F.args_dict_keyiterator_next_1 _))));refine wpAny_bind (wpAny_pure (wpAny_bind (wpAny_bind (wpAny_bind (wpAny_typeNameOfWhole_keyiter ty (wpAny_pure (wpAny_bind (wpAny_fieldsOf f1 f3 ?_))))))));simp only[own,Bool.false_eq_true,if_false];show wpAny _ _ (if (Value.ref d == Value.none)=true then _ else _) _ _ _
 rw[if_neg (by rw[show (Value.ref d == Value.none)=false from rfl];decide)]
 refine wpAny_bind (wpAny_pure (wpAny_bind (wpAny_dictEntries e3 e4 ?_)));rw[if_neg (by simp)]
 refine wpAny_bind (wpAny_pure (wpAny_bind (wpAny_dictEpoch e3 e4 ?_)));rw[if_neg (by simp)]
 refine wpAny_pure ?_;simp only[show ¬ ((i:Int)<0) from by omega,if_false,Int.toNat_natCast,Array.getElem?_eq_none g]
 refine wpAny_bind (wpAny_bind (wpAny_typeNameOfWhole_keyiter ty (wpAny_pure ?_)));show wpAny _ _ (setField (.ref z) 0 .none >>= _) _ _ _;refine wpAny_bind (wpAny_setField f1 f3 (by simp) ?_)
 show wpAny _ _ (newExc (.type "StopIteration") [] >>= _) _ _ _;simp only[newExc,newTuple];refine wpAny_bind (wpAny_bind (wpAny_newObj_type (wpAny_bind (m:=firstArgMember _ _) (wpAny_of_eq (a:=Value.none) (by first | rfl | (simp only[firstArgMember];rfl)) (wpAny_newObj_type ?_ (by size_fits)))) (by size_fits)))
 simp only[raiseNew];refine wpAny_bind (wpAny_handled ?_);rw[show A.in1.handled=none from hh];refine wpAny_bind (wpAny_pure (wpAny_throw ?_));refine wpAny_bind (wpAny_isInstance (T:="StopIteration") (b:=true) ⟨_,Heap.get?_push_size _ rfl,rfl⟩ isSubtype_stop ?_);exact wpAny_pure (q _ (((Heap.SameBut.update ..).extBut.push _).push _))
theorem Zi1(hh:A.handled=none)(hne:d≠z):Walks P w A z [z,d] [z] es.size (fun i v=>∃ e,es[i]? = some e/\v=e.key) (fun i h=>h.IsKeyIter z d i es.size ep/\EntAt h d es ep) where
 sub:=fun b hb=>by rw[List.mem_singleton.mp hb];exact List.mem_cons_self
 frame:=fun _ _ _ st k=>⟨let ⟨o,e,r⟩:=st.1;⟨o,k z List.mem_cons_self o e,r⟩,st.2.keep fun o e=>k d (List.mem_cons_of_mem _ List.mem_cons_self) o e⟩
 item:=fun i t Q E hi st k=>by
  have g:es[i]? = some es[i]:=Array.getElem?_eq_getElem hi;refine Zjm st.1 st.2 g fun h' x' sb=>k _ h' t.toks ⟨_,g,rfl⟩ ⟨x',st.2.keep fun o e=>(sb.2 d hne).trans e⟩ fun b o hb e=>(sb.2 b fun n=>hb (n▸List.mem_cons_self)).trans e
 done:=fun t Q E st k=>Zjl hh st.1 st.2 (Nat.le_refl _) fun h' eb=>k h' t.toks fun b o hb e=>eb b o (fun n=>hb (n▸List.mem_cons_self)) e
 self:=fun _ _ _ _ st k=>wpAny_pyIter_keyiter st.1 k
theorem Zj4(lo:(d == sysModules)=false):PySem.W.KdlSrc P w "dict" d d es.size (fun i u=>∃ e,es[i]? = some e/\u=e.key) (fun h=>DicAt h d es ep) where
 type:=fun _ m=>let ⟨o,e,x,_⟩:=m;⟨o,e,x.1⟩
 there:=fun _ m=>let ⟨_,e,_⟩:=m;⟨Heap.lt_size e,Heap.lt_size e⟩
 keep:=fun _ _ m k=>m.keep fun o e=>k d (.inl rfl) o e
 notList:=by decide
 notTuple:=by decide
 hint:=fun _ _ _ _ m k=>PySem.W.kdl_hint_dict (let ⟨o,e,x,_⟩:=m;⟨o,e,x.1⟩) k
 iter:=fun _ t hh m=>⟨_,_,(fun _ _ k=>Zir lo m k),Zi1 (z:=t.heap.objs.size) hh (Nat.ne_of_lt (let ⟨_,e,_⟩:=m;Heap.lt_size e)),⟨⟨_,Heap.get?_push_size _ rfl,rfl,rfl⟩,(m.keep fun o e=>Heap.get?_push_of_some _ e).ent⟩⟩
end
noncomputable def PrH(H:Hp)(r:Addr)(p:Int×Int):Prop:=H r=some (.tup [.int p.1,.int p.2])
noncomputable def codeP(p:Int×Int):Int:=p.1 * 1000+p.2
noncomputable def SrtP(ps:List (Int×Int)):Prop:=ps.Pairwise fun p q=>codeP p<=codeP q
noncomputable def pf(H:Hp)(r:Addr):Int×Int:=match H r with
 | some (.tup [.int a,.int b])=>(a,b)
 | _=>(0,0)
theorem PrH.pf{H:Hp}{r:Addr}{p:Int×Int}(h:PrH H r p):pf H r=p:=by
 unfold KS.pf;rw[show H r=some (.tup [.int p.1,.int p.2]) from h]
theorem Y8{H:Hp}:∀ {rs:List Addr} {ps:List (Int×Int)},Paired (PrH H) rs ps->ps=rs.map (pf H)/\∀ r∈rs,PrH H r (pf H r):=by
 intro rs ps h
 induction h with
 | nil=>exact⟨rfl,(fun r hr=>nomatch hr)⟩
 | @cons a b l m q t ih=>
  refine⟨by rw[List.map_cons,q.pf,← ih.1],fun r hr=>?_⟩
  rcases List.mem_cons.mp hr with rfl | hr
  ·rw[q.pf];exact q
  ·exact ih.2 r hr
theorem Zbl{H:Hp}:∀ {rs:List Addr},(∀ r∈rs,PrH H r (pf H r))->Paired (PrH H) rs (rs.map (pf H))
 | [],_=>.nil
 | r::rs,h=>.cons (h r List.mem_cons_self) (Zbl fun q hq=>h q (List.mem_cons_of_mem _ hq))
noncomputable def codeV(H:Hp):Value->Int
 | .ref r=>codeP (pf H r)
 | _=>0
noncomputable def adrOf:Value->Addr
 | .ref r=>r
 | _=>0
section
variable{X:Cx}{pins:List (Addr×Obj)}{σ:St}{H:Hp}{s:Shared}
theorem Zdh{r:Addr}(I:Inv X pins σ H s)(h:PrH H r (pf H r))(hb:0<=(pf H r).2/\(pf H r).2<1000):PrC X.prog X.w s.heap (codeV H) (.ref r):=
 ⟨(pf H r).1,(pf H r).2,⟨r,rfl,Ue I (ns:=[(pf H r).1,(pf H r).2]) h⟩,hb.1,hb.2,rfl⟩
theorem X1{rs:List Addr}{out:List Value}{D:Addr}{h':Heap}{tk e:Nat}{Q:VK}(I:Inv X pins σ H s)(hr:∀ r∈rs,PrH H r (pf H r))(hp:out.Perm (rs.map Value.ref))(hs:out.Pairwise fun x y=>codeV H x<=codeV H y)
  (hl:rs.length<128) (hD:s.heap.get? D=none) (hD':h'.get? D=some (seqObj "list" (List.toArray out) e)) (kp:∀ b o,s.heap.get? b=some o->h'.get? b=some o)
  (q:∀ rs':List Addr,H D=none->rs'.Perm rs->SrtP (rs'.map (pf H))->Q (.ref D) (upd H D (.lst (rs'.map V.ref)))):EP X pins σ Q (.ref D) { s with heap:=h',toks:=tk }:=by
 have e1:out=(out.map adrOf).map Value.ref:=by
  rw[List.map_map];refine (List.map_id' out).symm.trans (List.map_congr_left fun v hv=>?_);obtain⟨r,_,rfl⟩:=List.mem_map.mp (hp.mem_iff.mp hv);rfl
 have hp2:(out.map adrOf).Perm rs:=by
  have:=hp.map adrOf;rw[List.map_map] at this;have e2:rs.map (adrOf∘Value.ref)=rs:=List.map_id' rs
  rwa [e2] at this
 have hs2:SrtP ((out.map adrOf).map (pf H)):=by
  unfold SrtP;rw[List.pairwise_map,List.pairwise_map];refine List.Pairwise.imp_of_mem (fun {x y} hx hy hxy=>?_) hs;obtain⟨r1,_,rfl⟩:=List.mem_map.mp (hp.mem_iff.mp hx);obtain⟨r2,_,rfl⟩:=List.mem_map.mp (hp.mem_iff.mp hy);exact hxy
 have vals:∀ l:List Addr,Vals (l.map V.ref) (l.map Value.ref):=fun l=>by
  induction l with
  | nil=>exact .nil
  | cons r l ih=>exact .cons rfl ih
 have new:ObjOk X.prog X.w (upd H D (.lst ((out.map adrOf).map V.ref))) h' D (.lst ((out.map adrOf).map V.ref)):=by
  refine⟨by rw[List.length_map,hp2.length_eq,sizeLine_eq];omega,(out.map adrOf).map Value.ref,e,vals _,?_⟩
  rw[← e1];exact hD'
 obtain⟨hH,I2⟩:=Inv.laidN (t':=tk) I kp hD new;exact⟨.ref D,_,I2,rfl,q _ hH hp2 hs2⟩
noncomputable def rSorted(H:Hp)(ps:List (Int×Int))(Q:VK):Prop:=∀ (D:Addr) (rs':List Addr) (ps':List (Int×Int)),H D=none->Paired (PrH H) rs' ps'->ps'.Perm ps->SrtP ps'->Q (.ref D) (upd H D (.lst (rs'.map V.ref)))
theorem Ju(hc:X.calm=true):CallR X (.builtin "sorted") (fun xs H Q=>∃ (l:Addr) (rs:List Addr) (ps:List (Int×Int)),xs=[.ref l]/\SqL X.K H l (rs.map V.ref)/\Paired (PrH H) rs ps/\(∀ p∈ps,0<=p.2/\p.2<1000)/\rs.length<128/\rSorted H ps Q):=by
 intro pins s σ H xs us Q I r h;obtain⟨l,rs,ps,rfl,hl,hP,hb,hn,q⟩:=h;obtain⟨u,rfl,rx⟩:=vals1 r;cases rx;obtain⟨rfl,hr⟩:=Y8 hP;obtain⟨its,r',pl,_⟩:=I.list hl;obtain rfl:=Yt r';refine Xm (vs:=rs.map Value.ref) (code:=codeV H) (I.ok.hd hc) (fun A' _ Q' E' hq=>collect_list pl.isList (hq _ s.toks fun b o e=>?_) (by rw[List.length_map,sizeLine_eq];omega)) (by rw[List.length_map];exact hn) (fun v hv=>?_) fun D h' tk out e hp hs hD hD' kp=>?_
 ·exact (Heap.get?_update_other _ _ (Nat.ne_of_gt (Heap.lt_size e))).trans (Heap.get?_push_of_some _ e)
 ·obtain⟨r,hr',rfl⟩:=List.mem_map.mp hv;exact Zdh I (hr r hr') (hb _ (List.mem_map.mpr ⟨r,hr',rfl⟩))
 ·refine X1 I hr hp hs hn hD hD' kp fun rs' hD0 hp' hs'=>q D rs' _ hD0 (Zbl fun r hr'=>hr r (hp'.mem_iff.mp hr')) (hp'.map _) hs'
theorem keysD{kvs:List (List Key×V)}{xs:List (List Key×Addr×Value)}{ps:List (Int×Int)}(r:Paired (fun (p:List Key×V) (q:List Key×Addr×Value)=>p.1=q.1/\H q.2.1=some (.tup (p.1.map kV))/\RelV p.2 q.2.2) kvs xs)
  (hk:kvs.map (·.1)=ps.map fun p=>[Sum.inl p.1,Sum.inl p.2]):Paired (PrH H) (xs.map fun x=>x.2.1) ps:=by
 induction r generalizing ps with
 | nil=>
  cases ps with
  | nil=>exact .nil
  | cons p ps=>cases hk
 | @cons a b l m q t ih=>
  cases ps with
  | nil=>cases hk
  | cons p ps=>
   rw[List.map_cons,List.map_cons] at hk;injection hk with h1 h2
   refine .cons ?_ (ih h2);have:=q.2.1;rw[h1] at this;exact this
theorem Jw(hc:X.calm=true):CallR X (.builtin "sorted") (fun xs H Q=>∃ (d:Addr) (kvs:List (List Key×V)) (ps:List (Int×Int)),xs=[.ref d]/\H d=some (.dT kvs)/\(kvs.map (·.1)=ps.map fun p=>[Sum.inl p.1,Sum.inl p.2])/\(∀ p∈ps,0<=p.2/\p.2<1000)/\ps.length<128/\rSorted H ps Q):=by
 intro pins s σ H xs us Q I r h;obtain⟨d,kvs,ps,rfl,hd,hk,hb,hn,q⟩:=h;obtain⟨u,rfl,rx⟩:=vals1 r;cases rx;obtain⟨_,lo,xs,rel,o,es,ep,h1,h2,h3,h4,h5⟩:=(show ObjOk X.prog X.w H s.heap d (.dT kvs) from I.hok d _ hd);have hP:=keysD rel hk;obtain⟨hps,hr⟩:=Y8 hP;have hlen:(xs.map fun x=>x.2.1).length=ps.length:=Paired.length hP;have hz:es.size=ps.length:=by rw[← Array.length_toList,h4,List.length_map,← hlen,List.length_map]
 have hkeys:es.toList.map (·.key)=(xs.map fun x=>x.2.1).map Value.ref:=by
  rw[h4,List.map_map,List.map_map];rfl
 refine Xm (vs:=(xs.map fun x=>x.2.1).map Value.ref) (code:=codeV H) (I.ok.hd hc) (fun A' hh Q' E' hq=>Za1 (Zj4 (es:=es) (ep:=ep) lo) hh ⟨o,h1,h2,h3⟩ (by rw[hz,sizeLine_eq];omega) fun h' tk acc kp hI=>?_) (by rw[List.length_map,hlen];exact hn) (fun v hv=>?_) fun D h' tk out e hp hs hD hD' kp=>?_
 ·have ea:acc.toList=(xs.map fun x=>x.2.1).map Value.ref:=by
   rw[← hkeys];refine List.ext_getElem? fun j=>?_;rw[List.getElem?_map,Array.getElem?_toList,Array.getElem?_toList];cases ga:acc[j]? with
   | none=>
    have g1:acc.size<=j:=Array.getElem?_eq_none_iff.mp ga;rw[Array.getElem?_eq_none (by rw[← hI.1];exact g1)]
    rfl
   | some u=>
    obtain⟨en,g1,g2⟩:=hI.2 j u ga;rw[g1,g2];rfl
  rw[ea];exact hq h' tk kp
 ·obtain⟨r,hr',rfl⟩:=List.mem_map.mp hv;exact Zdh I (hr r hr') (hb _ (by rw[hps];exact List.mem_map.mpr ⟨r,hr',rfl⟩))
 ·refine X1 I hr hp hs (by rw[hlen];exact hn) hD hD' kp fun rs' hD0 hp' hs'=>q D rs' _ hD0 (Zbl fun r hr'=>hr r (hp'.mem_iff.mp hr')) (by rw[hps];exact hp'.map _) hs'
theorem Jt(hc:X.calm=true):CallR X (.builtin "sorted") (fun xs H Q=>∃ (S:Addr) (rs:List Addr),xs=[.ref S]/\H S=some (.ext (SetP X.w (fun r=>[(pf H r).1,(pf H r).2]) rs S))/\rs.length<=5/\(∀ r∈rs,PrH H r (pf H r))/\(∀ r∈rs,0<=(pf H r).2/\(pf H r).2<1000) /\
  ∀ (D:Addr) (rs':List Addr) (ps':List (Int×Int)),H D=none->Paired (PrH H) rs' ps'->(∀ p,p∈ps'↔p∈rs.map (pf H))->ps'.Nodup->SrtP ps'->Q (.ref D) (upd H D (.lst (rs'.map V.ref)))):=by
 intro pins s σ H xs us Q I r h;obtain⟨S,rs,rfl,hS,hn,hr,hb,q⟩:=h;obtain⟨u,rfl,rx⟩:=vals1 r;cases rx;obtain⟨⟨hf,es,ts⟩,_,_⟩:=I.hok S _ hS;obtain⟨⟨o,ep,t,ho,hex,hd,T,hled⟩,hmem,hcov,hlen,hnd,_⟩:=ts;rw[List.length_map] at hlen hnd;have hw:=(Yd X.w S ep es).map (·.2);generalize hvs:(walkOf X.w S ep es).toList.map (·.2)=vs at hw;have hin:∀ v∈vs,∃ r∈rs,v=.ref r:=fun v hv=>by
  obtain⟨e,he,rfl⟩:=List.mem_map.mp (hw.mem_iff.mp hv);obtain⟨r,hr',er⟩:=List.mem_map.mp (hmem e he);exact⟨r,hr',er.symm⟩
 have hl:vs.length<=5:=by
  rw[hw.length_eq,List.length_map,Array.length_toList];omega
 have evs:vs=(vs.map adrOf).map Value.ref:=by
  rw[List.map_map];refine (List.map_id' vs).symm.trans (List.map_congr_left fun v hv=>?_);obtain⟨r,_,rfl⟩:=hin v hv;rfl
 have hrs:∀ r∈vs.map adrOf,r∈rs:=fun r hr'=>by
  obtain⟨v,hv,rfl⟩:=List.mem_map.mp hr';obtain⟨r,hr2,rfl⟩:=hin v hv;exact hr2
 refine Xm (vs:=vs) (code:=codeV H) (I.ok.hd hc) (fun A' hh Q' E' hq=>?_) (by omega) (fun v hv=>?_) fun D h' tk out e hp hs hD hD' kp=>?_
 ·refine Vj hh ho hex hd T hled (by rw[sizeLine_eq];omega) fun h' tk kp=>?_
  rw[hvs];exact hq h' tk kp
 ·obtain⟨r,hr',rfl⟩:=hin v hv;exact Zdh I (hr r hr') (hb r hr')
 ·rw[evs] at hp;refine X1 I (fun r hr'=>hr r (hrs r hr')) hp hs (by rw[List.length_map];omega) hD hD' kp fun rs' hD0 hp' hs'=>q D rs' _ hD0 (Zbl fun r hr'=>hr r (hrs r (hp'.mem_iff.mp hr'))) (fun p=>?_) ?_ hs'
  ·constructor
   ·intro hp2;obtain⟨r,hr',rfl⟩:=List.mem_map.mp hp2;exact List.mem_map.mpr ⟨r,hrs r (hp'.mem_iff.mp hr'),rfl⟩
   ·intro hp2;obtain⟨r,hr',rfl⟩:=List.mem_map.mp hp2;obtain⟨e,he,hk⟩:=hcov (.ref r) (List.mem_map.mpr ⟨r,hr',rfl⟩);have hv:e.2∈vs:=hw.mem_iff.mpr (List.mem_map.mpr ⟨e,he,rfl⟩);obtain⟨r2,hr2,e2⟩:=hin _ hv;rw[e2] at hk hv;have hk':[(pf H r2).1,(pf H r2).2]=[(pf H r).1,(pf H r).2]:=hk;injection hk' with k1 k2
    injection k2 with k2
    exact List.mem_map.mpr ⟨r2,hp'.mem_iff.mpr (List.mem_map.mpr ⟨_,hv,rfl⟩),Prod.ext k1 k2⟩
  ·have h1:=hnd (by omega)
   have h2:(vs.map fun v=>kfV (fun r=>[(pf H r).1,(pf H r).2]) v).Nodup:=by
    rw[(hw.map _).nodup_iff,List.map_map];exact h1
   have h3:((vs.map adrOf).map (pf H)).Nodup:=by
    rw[List.map_map];refine List.Pairwise.of_map (S:=fun x y:List Int=>x≠y) (fun p:Int×Int=>[p.1,p.2]) (fun a b hab z=>hab (by rw[z])) ?_
    rw[List.map_map];refine List.Pairwise.imp (fun hxy=>hxy) ?_;have e3:vs.map ((fun p:Int×Int=>[p.1,p.2])∘(pf H∘adrOf))=vs.map fun v=>kfV (fun r=>[(pf H r).1,(pf H r).2]) v:=List.map_congr_left fun v hv=>by
     obtain⟨r,_,rfl⟩:=hin v hv;rfl
    rw[e3];exact h2
   exact (hp'.map _).nodup_iff.mpr h3
end
theorem Zc7{ps qs:List (Int×Int)}(hp:ps.Perm qs)(h1:SrtP ps)(h2:SrtP qs)(hb:∀ p∈ps,0<=p.2/\p.2<1000):ps=qs:=
 hp.eq_of_pairwise (fun x y hx hy h1 h2=>by
  have a1:=hb x hx;have a2:=hb y (hp.mem_iff.mpr hy);unfold codeP at h1 h2;exact Prod.ext (by omega) (by omega)) h1 h2
end KS
end
section
namespace KS
open PySem PySem.Spec L2 KM
open PyProof.Rows hiding St
theorem Zfs(l:Addr)(its:Array Value)(n:Nat)(x:Value)(f:Value->Bool)(j:Nat)(hj:j<its.size)(hit:f its[j]=true)(hz:its.size<=sizeLine):∀ (k i:Nat),j - i=k->i<=j->(∀ m (hm:m<its.size),i<=m->m<j->f its[m]=false) ->
  Meets (Builtin.«list.remove.loop» ⟨[.ref l,x,rawInt i],[]⟩) (fun A R s=>s.heap.get? l=some { cls:=.type "list",data:=.seq its n }/\(∀ y,y∈its->SeqAt.EqAt A.in1 s y x (f y))/\R (.ok (.ret .none)) { s with heap:=s.heap.update l (Obj.mapSeq fun xs=>xs.eraseIdxIfInBounds j) }):=by
 intro k
 induction k with
 | zero=>
  rintro i hk hij hno prog w A R ⟨hp,g,d,tk,os⟩ ⟨hl,he,h⟩;obtain rfl:i=j:=by omega
  wp_walk using wpAny_loadPart' hl
  rw[show its[((i:Nat):Int).toNat]? = some its[i] by simp[hj]]
  refine wpAny_bind (he _ (Array.getElem_mem hj) prog w _ _ ?_);rw[hit];have hz':(its.eraseIdxIfInBounds i).size<=sizeLine+1:=by
   rw[Array.eraseIdxIfInBounds]
   split
   ·rw[Array.size_eraseIdx];omega
   ·omega
  wp_walk using (wpAny_updateSeq hl rfl (hz:=hz) (_hz':=hz')),wpAny_loadPart' hl
  simpa using h
 | succ k ih=>
  rintro i hk hij hno prog w A R ⟨hp,g,d,tk,os⟩ ⟨hl,he,h⟩;have hlt:i<its.size:=by omega
  wp_walk using wpAny_loadPart' hl
  have hc:((i:Int)+1)=((i+1:Nat):Int):=by push_cast;rfl
  rw[show its[((i:Nat):Int).toNat]? = some its[i] by simp[hlt]]
  refine wpAny_bind (he _ (Array.getElem_mem hlt) prog w _ _ ?_);rw[hno i hlt (Nat.le_refl _) (by omega)]
  wp_walk
  rw[hc];refine⟨plainId_quiet MeetsSeq.plain_remove_loop _,codeAny_builtin MeetsSeq.entry_remove_loop ?_⟩;rw[Around.under_plainId MeetsSeq.plain_remove_loop _];exact ih (i+1) (by omega) (by omega) (fun m hm h1 h2=>hno m hm (by omega) h2) prog w A R _ ⟨hl,he,h⟩
theorem Zh1(l:Addr)(its:Array Value)(n:Nat)(x:Value)(f:Value->Bool)(j:Nat)(hj:j<its.size)(hit:f its[j]=true)(hz:its.size<=sizeLine)(hno:∀ m (hm:m<its.size),m<j->f its[m]=false):
  Meets (Builtin.«list.remove» ⟨[.ref l,x],[]⟩) (fun A R s=>s.heap.get? l=some { cls:=.type "list",data:=.seq its n }/\(∀ y,y∈its->SeqAt.EqAt A.in1 s y x (f y))/\R (.ok (.ret .none)) { s with heap:=s.heap.update l (Obj.mapSeq fun xs=>xs.eraseIdxIfInBounds j) }):=by
 rintro prog w A R ⟨hp,g,d,tk,os⟩ ⟨hl,he,h⟩
 wp_walk using wpAny_loadPart' hl
 refine⟨plainId_quiet MeetsSeq.plain_remove_loop _,codeAny_builtin MeetsSeq.entry_remove_loop ?_⟩;rw[Around.under_plainId MeetsSeq.plain_remove_loop _];exact Zfs l its n x f j hj hit hz _ 0 rfl (Nat.zero_le _) (fun m hm _ h2=>hno m hm h2) prog w A R _ ⟨hl,he,h⟩
section
variable{X:Cx}
noncomputable def rRemP:V->List V->Hp->VK->Prop:=fun x vs H Q=>∃ (l t:Addr) (rs:List Addr) (p:Int×Int) (j:Nat),x=.ref l/\vs=[.ref t]/\H l=some (.lst (rs.map V.ref))/\(∀ r∈rs,PrH H r (pf H r))/\PrH H t p/\(rs.map (pf H))[j]? = some p/\(∀ m,m<j->(rs.map (pf H))[m]?≠some p) /\
 Q .non (upd H l (.lst ((rs.eraseIdx j).map V.ref)))
theorem Xc{α β:Type}(f:α->β):∀ (l:List α) (j:Nat),(l.eraseIdx j).map f=(l.map f).eraseIdx j
 | [],_=>rfl
 | _::_,0=>rfl
 | a::l,j+1=>by
  rw[List.eraseIdx_cons_succ,List.map_cons,List.map_cons,List.eraseIdx_cons_succ,Xc f l j]
theorem Zc3:∀ rs:List Addr,Vals (rs.map V.ref) (rs.map Value.ref)
 | []=>.nil
 | _::rs=>.cons rfl (Zc3 rs)
theorem Zih(hu:X.A.units+4<cLine):MtM X "list.remove" rRemP:=by
 intro pins s σ H x vs v us Q I rx rv h;obtain⟨l,t,rs,p,j,rfl,rfl,hl,hr,ht,hj,hno,q⟩:=h;cases rx;obtain⟨u,rfl,ru⟩:=rv.one;cases (show u=Value.ref t from ru);obtain⟨hz,its,n,r,ho⟩:=(show ObjOk X.prog X.w H s.heap l (.lst (rs.map V.ref)) from I.hok l _ hl);obtain rfl:=Yt r;rw[List.length_map] at hz;have hjl:j<rs.length:=by
  have:=(List.getElem?_eq_some_iff.mp hj).1
  rwa [List.length_map] at this
 have fat:∀ m (hm:m<(rs.map Value.ref).toArray.size),(decide ([(pf H (adrOf (rs.map Value.ref).toArray[m])).1,(pf H (adrOf (rs.map Value.ref).toArray[m])).2]=[p.1,p.2])=true)↔(rs.map (pf H))[m]? = some p:=fun m hm=>by
  have hm':m<rs.length:=by simpa using hm
  rw[List.getElem?_map,List.getElem?_eq_getElem hm'];simp only[List.getElem_toArray,List.getElem_map,adrOf,Option.map_some,Option.some.injEq,decide_eq_true_eq];constructor
  ·intro z;injection z with z1 z2
   injection z2 with z2
   exact Prod.ext z1 z2
  ·intro z;rw[z]
 refine call_meets PySem.F.slot_list_remove ⟨_,ho,rfl⟩ PySem.F.entry_list_remove (PySem.F.args_list_remove_2 _ _)
  (Zh1 l (rs.map Value.ref).toArray n (.ref t) (fun v=>decide ([(pf H (adrOf v)).1,(pf H (adrOf v)).2]=[p.1,p.2])) j (by simpa using hjl) ((fat j (by simpa using hjl)).mpr hj) (by simpa using hz) fun m hm hmj=>?_) ⟨ho,fun y hy=>?_,?_⟩
 ·cases e:decide ([(pf H (adrOf (rs.map Value.ref).toArray[m])).1,(pf H (adrOf (rs.map Value.ref).toArray[m])).2]=[p.1,p.2]) with
  | false=>rfl
  | true=>exact absurd ((fat m hm).mp e) (hno m hmj)
 ·obtain⟨b,hb,rfl⟩:=List.mem_map.mp (show y∈rs.map Value.ref by simpa using hy)
  exact Uf (by show X.A.units+1<cLine;omega) I (ns:=[(pf H b).1,(pf H b).2]) (ms:=[p.1,p.2]) (hr b hb) ht
 ·have e2:(rs.map Value.ref).toArray.eraseIdxIfInBounds j=((rs.eraseIdx j).map Value.ref).toArray:=by
   rw[Array.eraseIdxIfInBounds,dif_pos (by simpa using hjl)]
   apply Array.toList_inj.mp;rw[Array.toList_eraseIdx,Xc]
  refine⟨.non,_,I.write (x:=l) (e:=l) (o:=.lst ((rs.eraseIdx j).map V.ref)) (by rw[hl];exact trivial) (.inl rfl) (fun b u hb g=>(Heap.get?_update_other _ _ (Ne.symm hb)).trans g) ⟨_,get?_update_seq ho _⟩ ?_,rfl,q⟩
  have e3:=get?_update_seq ho fun xs=>xs.eraseIdxIfInBounds j;rw[e2] at e3;exact⟨by rw[List.length_map];have:=List.length_eraseIdx_le rs j;omega,(rs.eraseIdx j).map Value.ref,_,Zc3 _,e3⟩
noncomputable def rPopT:V->List V->Hp->VK->Prop:=fun x vs H Q=>∃ (d b:Addr) (kvs:List (List Key×V)) (k:List Key),x=.ref d/\vs=[.ref b]/\H d=some (.dT kvs)/\H b=some (.tup (k.map kV))/\(∃ v,(k,v)∈kvs) /\
 ∀ j v,kvs[j]? = some (k,v)->Q v (upd H d (.dT (kvs.eraseIdx j)))
theorem We{α β:Type}{F:α->β->Prop}{l:List α}{m:List β}(h:Paired F l m):∀ j,Paired F (l.eraseIdx j) (m.eraseIdx j):=by
 induction h with
 | nil=>exact fun j=>.nil
 | cons r t ih=>
  intro j;cases j with
  | zero=>exact t
  | succ j=>exact .cons r (ih j)
theorem Vv{α β:Type}{F:α->β->Prop}{l:List α}{m:List β}(h:Paired F l m):∀ {j:Nat} {b:β},m[j]? = some b->∃ a,l[j]? = some a/\F a b:=by
 induction h with
 | nil=>intro j b e;simp at e
 | cons r t ih=>
  intro j b e;cases j with
  | zero=>
   simp at e;subst e;exact⟨_,rfl,r⟩
  | succ j=>
   obtain⟨a,h1,h2⟩:=ih (j:=j) (b:=b) (by simpa using e)
   exact⟨a,by simpa using h1,h2⟩
theorem Vt{α β:Type}{F:α->β->Prop}{l:List α}{m:List β}(h:Paired F l m):∀ {a:α},a∈l->∃ b∈m,F a b:=by
 induction h with
 | nil=>intro a e;cases e
 | cons r t ih=>
  intro a e;rcases List.mem_cons.mp e with rfl | e
  ·exact⟨_,List.mem_cons_self,r⟩
  ·obtain⟨b,h1,h2⟩:=ih e;exact⟨b,List.mem_cons_of_mem _ h1,h2⟩
theorem Zii(hu:X.A.units+4<cLine):MtR X "dict.pop" rPopT:=by
 intro pins s σ H x vs v us Q I rx rv h;obtain⟨d,b,kvs,k,rfl,rfl,hd,hb,⟨v0,hin⟩,q⟩:=h;cases rx;obtain⟨u,rfl,ru⟩:=rv.one;cases (show u=Value.ref b from ru);obtain⟨hz,lo,xs,rel,o,es,ep,e,ex,hdat,hes,hn⟩:=(show ObjOk X.prog X.w H s.heap d (.dT kvs) from I.hok d _ hd);obtain⟨_,_,_,_,dd⟩:=Zjw I.hok hd;have ty:s.TypeIs (.ref d) "dict":=⟨o,e,ex.1⟩;have hK:=Ve I.hok hb;have his:∀ x∈xs,(tupleKind (mixKind X.prog X.w)).is s.heap x.1 x.2.1:=fun x hx=>by
  obtain⟨j,hj⟩:=List.mem_iff_getElem?.mp hx;obtain⟨p,_,h1,h2,_⟩:=Vv rel hj;exact Ve I.hok (by rw[← h1];exact h2)
 have hzs:es.size=xs.length:=by rw[← Array.length_toList,hes,List.length_map]
 have hne:xs≠[]:=fun z=>by
  obtain⟨y,hy,_⟩:=Vt rel hin;rw[z] at hy;cases hy
 refine wpAny_call_entry F.slot_dict_pop ty F.entry_dict_pop ?_ (F.args_dict_pop_2 _ _);unfold Builtin.«dict.pop» Builtin.Dict.keyAndDefault;refine wpAny_bind (wpAny_bind (wpAny_notOrdered_dict ty ?_));show wpAny _ _ (pure (d,Value.ref b,none)) _ _ _;refine wpAny_pure ?_;dsimp only;refine wpAny_bind (wpAny_dictEntries e hdat (wpAny_bind (wpAny_pure ?_)));have hem:es.isEmpty=false:=by
  cases q:es.isEmpty with
  | false=>rfl
  | true=>
   have:es.size=0:=by simpa[Array.isEmpty] using q
   exact absurd (List.length_eq_zero_iff.mp (by omega)) hne
 rw[hem,if_neg (by decide)]
 refine wpAny_bind ?_;show wpAny _ _ (Builtin.Dict.takeOut d (.ref b)) _ _ _;unfold Builtin.Dict.takeOut;refine wpAny_holding (wpAny_bind ((tupleKind (mixKind X.prog X.w)).pyHash (by first | exact tupleKind_room_in1 (by omega) | (show X.A.units+1+1<cLine;omega)) hK (wpAny_bind (wpAny_dictFind_heap (knd:=tupleKind (mixKind X.prog X.w)) (s:={ s with toks:=s.toks+(tupleKind (mixKind X.prog X.w)).draws k }) (by first | exact tupleKind_room_in1 (by omega) | (show X.A.units+1+1<cLine;omega)) hK e hdat hes his hn ?_ ?_))))
 ·intro no;exfalso;obtain⟨y,hy,h1,_⟩:=Vt rel hin;obtain⟨j,hj⟩:=List.mem_iff_getElem?.mp hy;exact no j (y.2.1,y.2.2) (by rw[hj];show some y=some (k,y.2.1,y.2.2);rw[show k=y.1 from h1])
 ·intro j p hj;dsimp only;refine wpAny_bind (wpAny_dictEntries e hdat ?_);have g:es[j]? = some (entryOfKey (tupleKind (mixKind X.prog X.w)) (k,p)):=by rw[← Array.getElem?_toList,hes,List.getElem?_map,hj];rfl
  rw[g];dsimp only;obtain⟨a,ha,h1,h2,h3⟩:=Vv rel hj;refine wpAny_bind (wpAny_updateDictKeys (hz:=by rw[hzs,sizeLine_eq];have:=Paired.length rel;rw[sizeLine_eq] at hz;omega) e hdat (wpAny_pure ?_))
  show wpAny _ _ (if (some _:Option DictEntry).isNone=true then _ else _) _ _ _
  rw[if_neg (by show ¬ false=true;decide)]
  refine wpAny_bind (wpAny_letGo (wpAny_pure ⟨_,rfl,?_⟩));refine⟨a.2,_,I.write (x:=d) (e:=d) (o:=.dT (kvs.eraseIdx j)) (by rw[hd];exact trivial) (.inl rfl) (fun b u hb g=>(Heap.get?_update_other _ _ (Ne.symm hb)).trans g) ⟨_,Heap.get?_update_self _ e (Obj.isFreed_of_dict (Obj.data_mapDictKeys hdat _))⟩ ?_,h3,q j a.2 (by rw[ha];show some a=some (k,a.2);rw[← show a.1=k from h1])⟩
  refine⟨Nat.le_trans (List.length_eraseIdx_le _ _) hz,lo,xs.eraseIdx j,Paired.mapP (We rel j) fun p q z=>⟨z.1,?_,z.2.2⟩,_,_,_,Heap.get?_update_self _ e (Obj.isFreed_of_dict (Obj.data_mapDictKeys hdat _)),ex.mapDictKeys _,Obj.data_mapDictKeys hdat _,?_,?_⟩
  ·rw[Zh (Zy z.2.1 hd (fun z=>nomatch z))];exact z.2.1
  ·have hjs:j<es.size:=(Array.getElem?_eq_some_iff.mp g).1;rw[Array.eraseIdxIfInBounds,dif_pos hjs,Array.toList_eraseIdx,hes,Xc]
  ·rw[Xc];exact hn.sublist (List.eraseIdx_sublist _ _)
end
section
variable{X:Cx}{o e:Expr}{es:List Expr}{to:TE}{t:TA}{name:Str}{apos cpos:Pos}{id:String}{r:V->List V->Hp->VK->Prop}
noncomputable def tBT(r:V->List V->Hp->VK->Prop)(to:TE)(t:TA):TE:=fun σ H Q=>to σ H fun x H1=>(∃ d kvs,x=.ref d/\H1 d=some (.dT kvs))/\t σ H1 fun xs H2=>r x xs H2 Q
theorem Zj6(slot:Slot "dict" name id)(hty:typeOf (.builtin id)=pure (.type "method_descriptor"))(hm:MtR X id r)(ho:PE X o to)(ha:PA X (e::es) t)
  (hbase:attributeBase o name X.env (eval o X.env)=eval o X.env:=by rfl)
  (hfew:((backTo cpos (starEach (e::es) X.env)).all (fun x=>!x.1)&&(backToKw cpos (keywordEach [] X.env)).all (fun x=>x.1.isSome)
   && decide ((e::es).length+([]:List Keyword).length+(if ([]:List Keyword).isEmpty then 0 else 1)<30))=true:=by rfl)
  (hline:(apos.endLine == cpos.line)=true:=by rfl) (hs:starEach (e::es) X.env=(false,eval e X.env)::starEach es X.env:=by rfl) (hplain:(backTo cpos (starEach es X.env)).any (·.1)=false:=by rfl):
  PE X (.Call (.Attribute o name apos) (e::es) [] cpos) (tBT r to t):=by
 intro pins s σ H Q I h;refine wpAny_Call_method_late hbase hfew hline rfl (thn (ho pins s σ H _ I h) fun v s1 ⟨x,H1,I1,r1,⟨d,kvs,ex,hd⟩,q1⟩=>?_);subst ex;obtain rfl:v=Value.ref d:=r1;obtain⟨_,_,_,_,ob,_,_,e1,xd,_⟩:=(show ObjOk X.prog X.w H1 s1.heap d (.dT kvs) from I1.hok d _ hd);refine⟨"dict",id,F.plainAttrs_dict,slot,hty,⟨ob,e1,xd.1⟩,fun a z=>?_,?_⟩
 ·cases z;exact⟨ob,e1,xd.2.1⟩
 have hA:=ha cpos pins s1 σ H1 _ I1 q1;rw[hs] at hA ⊢;refine Calls.callWith_builtin (by show (false||(backTo cpos (starEach es X.env)).any (·.1))=false;rw[hplain]<;>rfl) (Calls.evalArgs_plain ?_)
 exact thn hA fun us s2 ⟨vs,H2,I2,r2,q2⟩=>hm pins s2 σ H2 (.ref d) vs (.ref d) us Q I2 rfl r2 q2
end
end KS
end
section
namespace L2
open PySem PySem.Spec PyProof.Rows
section
variable{X:Cx}
noncomputable def tCut(t:TS):TS:=fun D σ H=>∃ N:St->Hp->Prop,t { D with nx:=N } σ H/\∀ σ' H',N σ' H'->D.nx σ' H'
theorem Xk{st:Stmt}{t:TS}(h:PS X st t):PS X st (tCut t):=by
 intro pins s σ H D I ⟨N,h1,h2⟩;refine thn (h pins s σ H { D with nx:=N } I h1) fun f s1 q=>?_
 cases f with
 | next=>
  obtain⟨σ',H',I',q⟩:=q;exact⟨σ',H',I',h2 σ' H' q⟩
 | ret v=>exact q
 | brk=>exact q
 | cont=>exact q
noncomputable def tCutT(t:TT):TT:=fun σ H Q=>∃ N:Bool->Hp->Prop,t σ H N/\∀ b H',N b H'->Q b H'
theorem Zi7{e:Expr}{t:TT}(h:PT X e t):PT X e (tCutT t):=by
 intro pins s σ H Q I ⟨N,h1,h2⟩;refine thn (h pins s σ H N I h1) fun u s1 ⟨H',I',q⟩=>⟨H',I',h2 _ H' q⟩
end
end L2
end
section
namespace KS
open PySem PySem.Spec L2
open PyProof.Rows hiding St
noncomputable def Sq2(K:PySem.W.Frag)(H:Hp)(a c:Addr)(xs ys:List V):Prop:=(SqL K H a xs/\SqL K H c ys)∨(SqT K H a xs/\SqT K H c ys)
noncomputable def allE(e:Nat->Bool)(n m:Nat):Bool:=(List.range (min n m)).all e&&n == m
noncomputable def EqD(K:PySem.W.Frag)(H:Hp):Nat->V->V->Bool->Prop
 | 0,x,y,b=>(x=y/\(∃ a,x=.ref a)/\b=true)∨(flatV x=true/\flatV y=true/\b=eqV x y)
 | n+1,x,y,b=>EqD K H n x y b∨∃ a c xs ys e,x=.ref a/\y=.ref c/\a≠c/\Sq2 K H a c xs ys/\(∀ (j:Nat) (x y:V),xs[j]? = some x->ys[j]? = some y->EqD K H n x y (e j))/\b=allE e xs.length ys.length
section
variable{X:Cx}{pins:List (Addr×Obj)}{σ:St}{H:Hp}{s:Shared}
theorem Wg{xs:List V}{us:List Value}(r:Vals xs us){j:Nat}(hj:j<us.toArray.size):∃ x,xs[j]? = some x/\RelV x us.toArray[j]:=by
 have hl:us.length=xs.length:=r.length.symm;have hj':j<us.length:=by simpa using hj
 have hx:j<xs.length:=by omega
 obtain⟨u,hu,ru⟩:=r.get (i:=j) (x:=xs[j]) (by simp[hx])
 refine⟨xs[j],by simp[hx],?_⟩
 rw[List.getElem?_eq_getElem hj'] at hu;rw[List.getElem_toArray,Option.some.inj hu];exact ru
theorem Zgx{A:Around}{n:Nat}{a c:Addr}{xs ys:List V}{e:Nat->Bool}(I:Inv X pins σ H s)(hu:A.units<cLine)(h2:Sq2 X.K H a c xs ys)
  (he:∀ (j:Nat) (x y:V) (u v:Value),xs[j]? = some x->ys[j]? = some y->RelV x u->RelV y v->SeqAt.EqAt A.in1 s u v (e j)):SeqAt.RcAt A s (.ref a) (.ref c) (allE e xs.length ys.length):=by
 rcases h2 with ⟨ha,hc⟩ | ⟨ha,hc⟩
 ·obtain⟨its,r,pa,_⟩:=I.list ha;obtain⟨its2,r2,pc,_⟩:=I.list hc;have l1:xs.length=its.toArray.size:=by simpa using r.length
  have l2:ys.length=its2.toArray.size:=by simpa using r2.length
  by_cases hl:its.toArray.size=its2.toArray.size
  ·have e1:allE e xs.length ys.length=(List.range its.toArray.size).all e:=by
    unfold allE;rw[l1,l2,← hl,Nat.min_self];simp
   rw[e1];refine SeqAt.RcAt.lists pa.isList pc.isList hl hu fun j h1 h2=>?_;obtain⟨x,hx,rx⟩:=Wg r h1;obtain⟨y,hy,ry⟩:=Wg r2 h2;exact he j x y _ _ hx hy rx ry
  ·have e1:allE e xs.length ys.length=false:=by
    unfold allE;rw[l1,l2];simp only[Bool.and_eq_false_iff]
    right
    simpa using hl
   rw[e1];exact SeqAt.RcAt.lists_lengths pa.isList pc.isList (by simpa using hl) hu
 ·obtain⟨its,r,pa,_⟩:=I.tuple ha;obtain⟨its2,r2,pc,_⟩:=I.tuple hc;have l1:xs.length=its.toArray.size:=by simpa using r.length
  have l2:ys.length=its2.toArray.size:=by simpa using r2.length
  unfold allE;rw[l1,l2];refine SeqAt.RcAt.tuples (show s.heap.IsTuple a its.toArray from pa) (show s.heap.IsTuple c its2.toArray from pc) hu fun j h1 h2=>?_;obtain⟨x,hx,rx⟩:=Wg r h1;obtain⟨y,hy,ry⟩:=Wg r2 h2;exact he j x y _ _ hx hy rx ry
theorem Zi4{A:Around}{n:Nat}{a c:Addr}{xs ys:List V}{e:Nat->Bool}(I:Inv X pins σ H s)(hu:A.units<cLine)(h2:Sq2 X.K H a c xs ys)
  (he:∀ (j:Nat) (x y:V) (u v:Value),xs[j]? = some x->ys[j]? = some y->RelV x u->RelV y v->SeqAt.EqAt A.in1 s u v (e j)):SeqAt.RcNeAt A s (.ref a) (.ref c) (!allE e xs.length ys.length):=by
 rcases h2 with ⟨ha,hc⟩ | ⟨ha,hc⟩
 ·obtain⟨its,r,pa,_⟩:=I.list ha;obtain⟨its2,r2,pc,_⟩:=I.list hc;have l1:xs.length=its.toArray.size:=by simpa using r.length
  have l2:ys.length=its2.toArray.size:=by simpa using r2.length
  by_cases hl:its.toArray.size=its2.toArray.size
  ·have e1:allE e xs.length ys.length=(List.range its.toArray.size).all e:=by
    unfold allE;rw[l1,l2,← hl,Nat.min_self];simp
   rw[e1];refine SeqAt.RcNeAt.lists pa.isList pc.isList hl hu fun j h1 h2=>?_;obtain⟨x,hx,rx⟩:=Wg r h1;obtain⟨y,hy,ry⟩:=Wg r2 h2;exact he j x y _ _ hx hy rx ry
  ·have e1:allE e xs.length ys.length=false:=by
    unfold allE;rw[l1,l2];simp only[Bool.and_eq_false_iff]
    right
    simpa using hl
   rw[e1];exact SeqAt.RcNeAt.lists_lengths pa.isList pc.isList (by simpa using hl) hu
 ·obtain⟨its,r,pa,_⟩:=I.tuple ha;obtain⟨its2,r2,pc,_⟩:=I.tuple hc;have l1:xs.length=its.toArray.size:=by simpa using r.length
  have l2:ys.length=its2.toArray.size:=by simpa using r2.length
  unfold allE;rw[l1,l2];refine SeqAt.RcNeAt.tuples (show s.heap.IsTuple a its.toArray from pa) (show s.heap.IsTuple c its2.toArray from pc) hu fun j h1 h2=>?_;obtain⟨x,hx,rx⟩:=Wg r h1;obtain⟨y,hy,ry⟩:=Wg r2 h2;exact he j x y _ _ hx hy rx ry
theorem Zb9(I:Inv X pins σ H s):∀ (n:Nat) (A:Around) (x y:V) (u v:Value) (b:Bool),A.units+n<cLine->EqD X.K H n x y b->RelV x u->RelV y v->SeqAt.EqAt A s u v b
 | 0,A,x,y,u,v,b,hu,h,rx,ry=>by
  rcases h with ⟨rfl,⟨a,rfl⟩,rfl⟩ | ⟨h1,h2,rfl⟩
  ·cases rx;cases ry;exact SeqAt.EqAt.same _
  ·exact Zhp rx ry h1 h2
 | n+1,A,x,y,u,v,b,hu,h,rx,ry=>by
  rcases h with h | ⟨a,c,xs,ys,e,rfl,rfl,hne,h2,he,rfl⟩
  ·exact Zb9 I n A x y u v b (by omega) h rx ry
  ·cases rx;cases ry;refine SeqAt.EqAt.of_refs hne (Zgx (n:=n) I (by omega) h2 fun j x y u v hx hy rx ry=>?_)
   exact Zb9 I n A.in1 x y u v (e j) (by show A.units+1+n<cLine;omega) (he j x y hx hy) rx ry
end
section
variable{X:Cx}
noncomputable def rEqS(K:PySem.W.Frag)(neg:Bool)(n:Nat):R2:=fun x y H Q=>∃ a c xs ys e,x=.ref a/\y=.ref c/\Sq2 K H a c xs ys/\(∀ (j:Nat) (x y:V),xs[j]? = some x->ys[j]? = some y->EqD K H n x y (e j))/\Q (.bl (if neg then !allE e xs.length ys.length else allE e xs.length ys.length)) H
theorem Zg9{n:Nat}(hu:X.A.units+n+1<cLine):OpR X (compareOp .Eq) (rEqS X.K false n):=by
 intro pins s σ H x y v u Q I rx ry h;obtain⟨a,c,xs,ys,e,rfl,rfl,h2,he,q⟩:=h;cases rx;cases ry;exact Zgx (n:=n) I (by omega) h2 (fun j x y u v hx hy rx ry=>Zb9 I n X.A.in1 x y u v (e j) (by show X.A.units+1+n<cLine;omega) (he j x y hx hy) rx ry) _ _ _ _ ⟨.bl _,H,I,rfl,q⟩
theorem Zg7{n:Nat}(hu:X.A.units+n+1<cLine):OpR X (compareOp .NotEq) (rEqS X.K true n):=by
 intro pins s σ H x y v u Q I rx ry h;obtain⟨a,c,xs,ys,e,rfl,rfl,h2,he,q⟩:=h;cases rx;cases ry;exact Zi4 (n:=n) I (by omega) h2 (fun j x y u v hx hy rx ry=>Zb9 I n X.A.in1 x y u v (e j) (by show X.A.units+1+n<cLine;omega) (he j x y hx hy) rx ry) _ _ _ _ ⟨.bl _,H,I,rfl,q⟩
end
theorem Zad{xs ys:List V}(h:xs.length=ys.length):allE (fun _=>true) xs.length ys.length=true:=by
 unfold allE;simp[h]
noncomputable def EqT(K:PySem.W.Frag)(H:Hp)(n:Nat)(x y:V):Prop:=EqD K H n x y true
theorem EqT.flat{K:PySem.W.Frag}{H:Hp}{n:Nat}{x:V}(h:flatV x=true)(he:eqV x x=true):EqT K H n x x:=by
 induction n with
 | zero=>exact .inr ⟨h,h,he.symm⟩
 | succ n ih=>exact .inl ih
theorem EqT.same{K:PySem.W.Frag}{H:Hp}{n:Nat}{a:Addr}:EqT K H n (.ref a) (.ref a):=by
 induction n with
 | zero=>exact .inl ⟨rfl,⟨a,rfl⟩,rfl⟩
 | succ n ih=>exact .inl ih
theorem EqT.seq{K:PySem.W.Frag}{H:Hp}{n:Nat}{a c:Addr}{xs ys:List V}(h2:Sq2 K H a c xs ys)(h:Paired (EqT K H n) xs ys):EqT K H (n+1) (.ref a) (.ref c):=by
 by_cases e:a=c
 ·subst e;exact EqT.same
 ·refine .inr ⟨a,c,xs,ys,fun _=>true,rfl,rfl,e,h2,fun j x y hx hy=>?_,(Zad (Paired.length h)).symm⟩;clear h2 e
  induction h generalizing j with
  | nil=>simp at hx
  | cons r t ih=>
   cases j with
   | zero=>simp at hx hy;subst hx;subst hy;exact r
   | succ j=>exact ih j (by simpa using hx) (by simpa using hy)
theorem rEqS.true{K:PySem.W.Frag}{H:Hp}{n:Nat}{a c:Addr}{xs ys:List V}{neg:Bool}{Q:VK}(h2:Sq2 K H a c xs ys)(h:Paired (EqT K H n) xs ys)(q:Q (.bl (!neg)) H):rEqS K neg n (.ref a) (.ref c) H Q:=by
 refine⟨a,c,xs,ys,fun _=>Bool.true,rfl,rfl,h2,fun j x y hx hy=>?_,?_⟩
 ·clear h2
  induction h generalizing j with
  | nil=>simp at hx
  | cons r t ih=>
   cases j with
   | zero=>simp at hx hy;subst hx;subst hy;exact r
   | succ j=>exact ih j (by simpa using hx) (by simpa using hy)
 ·rw[Zad (Paired.length h)];cases neg<;>exact q
end KS
end
section
namespace KS
open PySem KsTab PyProof.Rows
section
variable{prog:Program}{w:World}{A:Around}{E:Value->Shared->Prop}{s:Shared}
noncomputable def intOf:Value->Int
 | .int i _=>i
 | _=>0
theorem Zgh{i:Int}{v:Value}(h:(intKind prog w).is i v=true):∃ t,v=.int i t:=Value.isInt_shape h
structure SetTI(prog:Program)(w:World)(done:List Int)(h:Heap)(a:Addr)(es:Array (Int×Value)):Prop where
 ob:∃ o ep t,h.get? a=some o/\o.ExactSet/\o.data=.set es ep t/\Tk t es.size/\t.led=!w.params.followText "set-order"
 el:ElemsOf (intKind prog w) es.toList
 mem:∀ e∈es.toList,∃ i t,e.2=Value.int i t/\i∈done
 cov:∀ i∈done,∃ e∈es.toList,∃ t,e.2=Value.int i t
 len:es.size<=done.length
 nd:(es.toList.map fun e=>intOf e.2).Nodup
theorem Ziv{t:SetTable}{n:Nat}(T:Tk t n)(h:Int):∃ j,t.freeSlot h=some (j,false)/\t.slot j=.empty:=by
 have hf:10 * (13+t.mask)<=10 * (13+t.mask):=Nat.le_refl _;generalize hr:t.probe (fun _=>h+1) h (t.probeStart h)=r;rcases Wt T.dum hf (Vx T.full T.dum T.le h) rfl hr with ⟨j,rfl,hj⟩ | ⟨j,i,next,m',rfl,hj,hm',hn',hd',hh⟩
 ·refine⟨j,?_,hj⟩;unfold SetTable.freeSlot;rw[hr];rfl
 ·omega
theorem add_int{done:List Int}{a:Addr}{es:Array (Int×Value)}{i:Int}{tk:Tok}{Q:Bool->Shared->Prop}(S:SetTI prog w done s.heap a es)(hroom:done.length<76)
  (hQ:∀ b h' es',Heap.SameBut a s.heap h'->SetTI prog w (done++[i]) h' a es'->Q b { s with heap:=h' }):wpAny (model prog w) A (setAddHashed a (.int i tk) ((intKind prog w).hash i)) Q E s:=by
 obtain⟨⟨o,ep,t,ho,hex,hd,T,hled⟩,hel,hmem,hcov,hlen,hnd⟩:=id S;have hkey:(intKind prog w).is i (.int i tk)=true:=by show Value.isInt i (.int i tk)=true;simp[Value.isInt]
 have hsc:(Value.int i tk).scannable=true:=rfl;have hb:es.size<scanBound:=by show es.size<4096;omega
 unfold setAddHashed setAddHashedIn;refine wpAny_holding (wpAny_bind (wpAny_setState_of ho hd T.fits ?_));dsimp only;rw[byScan_of hsc hb hel];simp only[↓reduceIte];unfold setAddByScan;refine wpAny_bind ?_;refine wpAny_bind (wpAny_rule ?_);refine wpAny_bind (wpAny_setScan_of hkey ho hd T.fits hel ?_);cases hr:List.findIdx? (fun e=>(intKind prog w).is i e.2) es.toList with
 | some j=>
  dsimp only;obtain⟨hj,hpj,_⟩:=List.findIdx?_eq_some_iff_getElem.mp hr;refine wpAny_pure (wpAny_pure ?_);have e:s={ s with heap:=s.heap }:=by cases s;rfl
  rw[e];refine hQ _ s.heap es (Heap.SameBut.refl a s.heap) ⟨S.ob,hel,fun e he=>?_,fun v hv=>?_,by rw[List.length_append];omega,hnd⟩
  ·obtain⟨k,t',h1,h2⟩:=hmem e he;exact⟨k,t',h1,List.mem_append.mpr (.inl h2)⟩
  ·rcases List.mem_append.mp hv with z | z
   ·exact hcov v z
   ·rw[List.mem_singleton.mp z];exact⟨_,List.getElem_mem hj,Zgh hpj⟩
 | none=>
  dsimp only;have hnew:∀ e∈es.toList,intOf e.2≠i:=fun e he z=>by
   obtain⟨k,t',h1,h2⟩:=hmem e he;have:=List.findIdx?_eq_none_iff.mp hr e he;rw[h1] at this z;have z':k=i:=z;subst z';have h3:(intKind prog w).is k (Value.int k t')=true:=by show Value.isInt k (.int k t')=true;simp[Value.isInt]
   rw[h3] at this;cases this
  obtain⟨j,ef,hj⟩:=Ziv T ((intKind prog w).hash i);have p1:(t.put j).1.mask=t.mask:=rfl;have p2:(t.put j).1.place=SetTable.insertAt t.place (SetTable.below t.place j) j:=rfl;have p3:(t.put j).1.dummies=#[]:=by
   show (if SetTable.has t.dummies j=true then _ else t.dummies)=#[]
   rw[T.dum,Zax];rfl
  have p4:(t.put j).1.plain=true:=T.plain;have p5:(t.put j).1.led=t.led:=rfl;have p7:Ris (t.put j).1.place:=Vr T.ris hj;have p8:(t.put j).1.place.size=es.size+1:=by rw[p2,Ym,T.size]
  have e1:=Z7 es (t.put j).2 ((intKind prog w).hash i,Value.int i tk);have e2:(SetTable.insertAt es (t.put j).2 ((intKind prog w).hash i,Value.int i tk)).size=es.size+1:=Ym es _ _;have hfill:(t.put j).1.fill=es.size+1:=by
   unfold SetTable.fill;rw[p3,p8];rfl
  have fits1:(t.put j).1.fits (es.size+1)=true:=by
   unfold SetTable.fits;rw[hfill,p8,p1];simp only[Bool.and_eq_true,beq_iff_eq,decide_eq_true_eq,true_and];have:=T.room;rcases T.mask with h | h | h<;>(rw[h] at this ⊢;omega)
  have hlay:layNew t es ((intKind prog w).hash i) (.int i tk)=(SetTable.insertAt es (t.put j).2 ((intKind prog w).hash i,Value.int i tk),(t.put j).1,false,false):=by
   unfold layNew;rw[ef];dsimp only;rw[e2];unfold SetTable.orStandIn;rw[fits1];rfl
  rw[hlay];generalize hes:SetTable.insertAt es (t.put j).2 ((intKind prog w).hash i,Value.int i tk)=es1 at e1 e2 ⊢;generalize ht1:(t.put j).1=t1 at p1 p2 p3 p4 p5 p7 p8 hfill fits1 ⊢;dsimp only;refine wpAny_bind (wpAny_pure ?_);rw[if_pos p4];refine wpAny_bind ?_;rw[hashByValue_scannable 8 hsc];refine wpAny_pure ?_;have hpl:plainKind (Value.int i tk)=true:=rfl;rw[hpl];simp only[↓reduceIte];have hsz:es1.size<=sizeLine:=by rw[e2,sizeLine_eq];omega
  refine wpAny_bind (wpAny_storeSet_of ho hd ?_ hsz);have ho1:(s.heap.update a (Obj.putSet es1 t1)).get? a=some { o with data:=.set es1 (ep+1) t1 }:=by
   have q:=Heap.get?_update_self (Obj.putSet es1 t1) ho (by rw[putSet_of es1 t1 hd];rfl)
   rw[putSet_of es1 t1 hd] at q;exact q
  have hs1:=Heap.SameBut.update s.heap a (Obj.putSet es1 t1);have m1:∀ {l:List (Int×Value)},l.Perm es1.toList->ElemsOf (intKind prog w) l/\(∀ e∈l,∃ k t',e.2=Value.int k t'/\k∈done++[i])/\(∀ v∈done++[i],∃ e∈l,∃ t',e.2=Value.int v t')/\(l.map fun e=>intOf e.2).Nodup:=fun {l} hp=>by
   have hm:∀ e,e∈l↔e∈es.toList∨e=((intKind prog w).hash i,Value.int i tk):=fun e=>by
    rw[hp.mem_iff,e1.mem_iff,List.mem_append,List.mem_singleton]
   refine⟨fun e he=>?_,fun e he=>?_,fun v hv=>?_,?_⟩
   ·rcases (hm e).mp he with z | rfl
    ·exact hel e z
    ·exact⟨⟨i,hkey,rfl⟩,rfl⟩
   ·rcases (hm e).mp he with z | rfl
    ·obtain⟨k,t',h1,h2⟩:=hmem e z;exact⟨k,t',h1,List.mem_append.mpr (.inl h2)⟩
    ·exact⟨i,tk,rfl,List.mem_append.mpr (.inr (List.mem_singleton.mpr rfl))⟩
   ·rcases List.mem_append.mp hv with z | z
    ·obtain⟨e,q1,q2⟩:=hcov v z;exact⟨e,(hm e).mpr (.inl q1),q2⟩
    ·rw[List.mem_singleton.mp z];exact⟨_,(hm _).mpr (.inr rfl),tk,rfl⟩
   ·have hp2:=(hp.trans e1).map fun e=>intOf e.2;rw[hp2.nodup_iff,List.map_append];refine List.nodup_append.mpr ⟨hnd,List.nodup_cons.mpr ⟨(fun z=>nomatch z),List.nodup_nil⟩,fun x hx y hy=>?_⟩;obtain⟨e,he,rfl⟩:=List.mem_map.mp hx;have hy:y=i:=by simpa[intOf] using hy
    rw[hy];exact hnew e he
  refine wpAny_ite_split (fun hfull=>?_) fun hfull=>?_
  ·have hfull':(es.size+1) * 5 ≥ t.mask * 3:=by
    simp only[Bool.not_false,Bool.true_and] at hfull;unfold SetTable.tooFull at hfull;rw[hfill,p1] at hfull;exact of_decide_eq_true hfull
   obtain⟨nm,f,hsa,hr1,hr2,hr3⟩:∃ nm,Full (nm+1)/\SetTable.sizeAbove (SetTable.grown (es.size+1))=nm+1/\(nm=7∨nm=31∨nm=127)/\es.size+1<=nm/\(es.size+1) * 5<nm * 3:=by
    have hr:=T.room;rcases T.mask with h | h | h
    ·have e:es.size+1=5:=by rw[h] at hr hfull';omega
     rw[e];exact⟨31,full32,by decide,by decide,by decide,by decide⟩
    ·have e:es.size+1=19:=by rw[h] at hr hfull';omega
     rw[e];exact⟨127,full128,by decide,by decide,by decide,by decide⟩
    ·rw[h] at hfull';omega
   obtain⟨t2,order,el,q1,q2,q3,q4,q5,q6,q7⟩:=Jg (mask:=nm) (finger:=t1.finger) (moves:=t1.movedTo nm) (led:=t1.led) (plain:=t1.plain) (hashes:=es1.map (·.1)) f (by rw[Array.size_map,e2];exact hr2)
   have er:t1.relaid (es1.map (·.1)) (SetTable.grown es1.size)=some (t2,order):=by
    unfold SetTable.relaid;rw[e2,hsa];exact el
   rw[Array.size_map] at q6 q7;have op:=Vw (es:=es1) q7;have osz:(order.filterMap (es1[·]?)).size=es1.size:=by rw[← Array.length_toList,op.length_eq,Array.length_toList]
   have hfit2:t2.fits (order.filterMap (es1[·]?)).size=true:=by
    unfold SetTable.fits SetTable.fill;rw[q2,q6,osz,q1,e2];simp;exact hr2
   have hcv:coversAll order es1.size=true:=by
    unfold coversAll;exact List.isPerm_iff.mpr q7
   have hrel:relayAll t1 es1 (SetTable.grown es1.size)=(order.filterMap (es1[·]?),t2,false):=by
    unfold relayAll;rw[er];dsimp only;rw[hcv,hfit2];rfl
   rw[hrel];dsimp only;refine wpAny_bind (wpAny_pure (wpAny_bind (wpAny_storeSet_of ho1 rfl ?_ (by rw[osz];exact hsz))))
   generalize order.filterMap (es1[·]?)=es2 at op osz ⊢;have ho2:((s.heap.update a (Obj.putSet es1 t1)).update a (Obj.putSet es2 t2)).get? a=some { o with data:=.set es2 (ep+1+1) t2 }:=Heap.get?_update_self (Obj.putSet es2 t2) ho1 rfl
   have hs2:=Heap.SameBut.update (s.heap.update a (Obj.putSet es1 t1)) a (Obj.putSet es2 t2);refine wpAny_pure (wpAny_pure (hQ true _ es2 (hs1.trans hs2) ⟨⟨_,ep+1+1,t2,ho2,hex,rfl,⟨by rw[q1];exact hr1,q2,q5,by rw[q6,osz],by rw[osz,e2,q1];exact hr3,q4.trans p4⟩,(q3.trans p5).trans hled⟩,(m1 op).1,(m1 op).2.1,(m1 op).2.2.1,?_,(m1 op).2.2.2⟩))
   rw[osz,e2,List.length_append,List.length_singleton];omega
  ·have hfull':(es.size+1) * 5<t.mask * 3:=by
    simp only[Bool.not_false,Bool.true_and] at hfull;unfold SetTable.tooFull at hfull;rw[hfill,p1] at hfull;simpa using hfull
   have mm:=m1 (List.Perm.refl _);refine wpAny_pure (wpAny_pure (hQ true _ es1 hs1 ⟨⟨_,ep+1,t1,ho1,hex,rfl,⟨by rw[p1];exact T.mask,p3,p7,p8.trans e2.symm,by rw[e2,p1];exact hfull',p4⟩,p5.trans hled⟩,mm.1,mm.2.1,mm.2.2.1,?_,mm.2.2.2⟩))
   rw[e2,List.length_append,List.length_singleton];omega
end
end KS
end
section
namespace KS
open PySem KsTab PyProof.Rows
section
variable{prog:Program}{w:World}{A:Around}{E:Value->Shared->Prop}{s:Shared}
theorem Zfm{h:Heap}{a:Addr}(e:h.get? a=some (newSetO w)):SetTI prog w [] h a #[]:=
 ⟨⟨_,0,_,e,⟨rfl,rfl,rfl⟩,rfl,Za9 _ _ _,rfl⟩,fun e he=>(by simp at he),fun e he=>(by simp at he),fun v hv=>(nomatch hv),Nat.le_refl _,List.nodup_nil⟩
theorem SetTI.at{done:List Int}{h h':Heap}{a:Addr}{es:Array (Int×Value)}(S:SetTI prog w done h a es)(k:∀ o,h.get? a=some o->h'.get? a=some o):SetTI prog w done h' a es:=by
 obtain⟨⟨o,ep,t,ho,r⟩,q1,q2,q3,q4,q5⟩:=S;exact⟨⟨o,ep,t,k o ho,r⟩,q1,q2,q3,q4,q5⟩
theorem Zgm{R:Result->Shared->Prop}{I l S:Addr}{items:Array Value}{ns:List Int}(hh:A.in1.handled=none)(hIl:l≠I)(hSI:S≠I)(hSl:S≠l)(hz:items.size<=76)(hI:IntsAre items.toList ns):
  ∀ (k i:Nat) (s:Shared) (es:Array (Int×Value)),items.size - i=k->i<=items.size->s.heap.IsListIter I l i->s.heap.IsList l items ->
   SetTI prog w (ns.take i) s.heap S es ->
   (∀ h' tk es',(∀ b o,b≠I->b≠S->s.heap.get? b=some o->h'.get? b=some o)->SetTI prog w ns h' S es'->R (.ok (.ret .none)) { s with heap:=h',toks:=tk }) ->
   codeAny (model prog w) A (.builtin "set.update.loop" ⟨[.ref S,.ref I],[]⟩) R s:=by
 have hlen:ns.length=items.size:=by rw[← Array.length_toList];exact (IntsAre.length hI).symm
 intro k
 induction k with
 | zero=>
  intro i s es hk hi hit hl hS hR;have ei:i=items.size:=by omega
  subst ei;refine codeAny_builtin PyProof.Rows.F.entry_set_update_loop ?_;rw[Around.under_plainId PyProof.Rows.F.plain_set_update_loop _];show wpAny _ A.in1 (pyNext (.ref I) >>= _) _ _ s;refine wpAny_bind (wpAny_pyNext_list_end hh hit hl (by simp) fun h' he=>?_)
  show wpAny _ A.in1 (ret Value.none) _ _ _;have e1:ns.take items.size=ns:=by rw[← hlen,List.take_length]
  rw[e1] at hS;exact wpAny_pure (hR h' s.toks es (fun b o hb _ e=>he b o hb e) (hS.at fun o e=>he S o hSI e))
 | succ k ih=>
  intro i s es hk hi hit hl hS hR;have hlt:i<items.size:=by omega
  refine codeAny_builtin PyProof.Rows.F.entry_set_update_loop ?_;rw[Around.under_plainId PyProof.Rows.F.plain_set_update_loop _];show wpAny _ A.in1 (pyNext (.ref I) >>= _) _ _ s;refine wpAny_bind (wpAny_pyNext_list_item hit hl (x:=items[i]) (by simp[hlt]) fun h1 hit1 sb=>?_)
  have kp1:∀ b o,b≠I->s.heap.get? b=some o->h1.get? b=some o:=fun b o hb e=>sb.extBut b o hb e;obtain⟨t,et⟩:=IntsAre.int_at hI i items[i] (by simp[hlt])
  rw[et];show wpAny _ A.in1 (holding [Value.int (ns.getD i 0) t] (setAdd S (Value.int (ns.getD i 0) t)) >>= _) _ _ _;refine wpAny_bind (wpAny_holding ?_);unfold setAdd;refine wpAny_holding (wpAny_bind ?_);refine wpAny_pyHash_int (s:={ s with heap:=h1 }) ?_
  refine add_int (s:={ s with heap:=h1,toks:=s.toks+1 }) (i:=ns.getD i 0) (tk:=t) (hS.at fun o e=>kp1 S o hSI e) (by rw[List.length_take];omega) fun b h2 es2 sb2 S2=>?_
  have kp2:∀ b o,b≠S->h1.get? b=some o->h2.get? b=some o:=fun b o hb e=>sb2.extBut b o hb e;have e2:ns.take i++[ns.getD i 0]=ns.take (i+1):=by
   rw[List.take_add_one];have:i<ns.length:=by omega
   simp[this]
  rw[e2] at S2;refine wpAny_pure ⟨plainId_quiet PyProof.Rows.F.plain_set_update_loop _,ih (i+1) _ es2 (by omega) hlt (hit1.at fun o e=>kp2 I o (Ne.symm hSI) e) ?_ S2 fun h' tk es' kp S'=>?_⟩
  ·exact (hl.at fun o e=>kp1 l o hIl e).at fun o e=>kp2 l o (Ne.symm hSl) e
  ·exact hR h' tk es' (fun b o hb hb' e=>kp b o hb hb' (kp2 b o hb' (kp1 b o hb e))) S'
set_option maxHeartbeats 8000000 in
theorem Jy{l:Addr}{items:Array Value}{ns:List Int}{Q:Value->Shared->Prop}(hd:A.handled=none)(hu:A.units+8<cLine)(hl:s.heap.IsList l items)(hI:IntsAre items.toList ns)(hz:items.size<=76)
  (h:∀ (h':Heap) (tk:Nat) (es:Array (Int×Value)),SetTI prog w ns h' s.heap.objs.size es->(∀ b o,s.heap.get? b=some o->h'.get? b=some o)->Q (.ref s.heap.objs.size) { s with heap:=h',toks:=tk }):
  wpAny (model prog w) A (call (.type "set") [.ref l]) Q E s:=by
 obtain⟨cc,tt,hmro⟩:=PySem.F.called_set.mro;have hmade:=PySem.F.called_set.made;have hsubt:=PySem.F.called_set.sub;refine wpAny_call (codeAny_of_tree ?_);show wpAny _ _ (callAny (.type "set") _) _ _ _;refine wpAny_pure ⟨Code.quiet_builtin _ (by decide +kernel),codeAny_builtin PySem.F.entry_type_call ?_⟩
 rw[Around.under_plain (weight_type_call_type "set" [.ref l] []) rfl];have k1:=PySem.F.called_set.notType;have k2:=PySem.F.called_set.canCreate;have k3:=PySem.F.typeCall_set_1 (.ref l)
 repeat (any_goals (first | assumption | wp_step))
 refine codeAny_mono (Zbc (.ref l) (E:=E) (Q₁:=fun ob s1=>ob=.ref s.heap.objs.size/\s1={ s with heap:=s.heap.push (newSetO w) }) ⟨rfl,rfl⟩) fun r s1 hr=>?_
 cases r with
 | error e=>exact hr
 | ok fl=>
  cases fl with
  | ret ob=>
   obtain⟨rfl,rfl⟩:=hr;have hS:(s.heap.push (newSetO w)).get? s.heap.objs.size=some (newSetO w):=Heap.get?_push_size _ rfl;have hT:Shared.TypeIs { s with heap:=s.heap.push (newSetO w) } (.ref s.heap.objs.size) "set":=⟨_,hS,rfl⟩
   have k4:=PySem.F.called_set.init.lookup;have k5:=PySem.F.called_set.init.bind (.ref s.heap.objs.size)
   repeat (any_goals (first | assumption | wp_step))
   refine codeAny_mono (codeAny_call_builtin (R:=wants (fun r s2=>r=.none/\∃ h' tk es,s2={ s with heap:=h',toks:=tk }/\SetTI prog w ns h' s.heap.objs.size es /\
     (∀ b o,s.heap.get? b=some o->h'.get? b=some o)) E) PySem.F.called_set.init.plain PySem.F.entry_set_init (check_set_init_1 hT ?_)) fun r2 s2 hr2=>?_
   ·obtain⟨ol,hol,hcl,nl,hdl⟩:=id hl;obtain⟨oc,od,oda,osl⟩:=ol;simp only at hcl hdl;subst hcl;subst hdl;have ho1:(s.heap.push (newSetO w)).get? l=some { cls:=.type "list",dict:=od,data:=.seq items nl,slots:=osl }:=Heap.get?_push_of_some _ hol;have j1:=PySem.F.sub_list_set;have j2:=PySem.F.sub_list_frozenset;have j3:(Value.type "list" == Value.type "dict")=false:=by decide
    have hl1:(s.heap.push (newSetO w)).IsList l items:=⟨_,ho1,rfl,nl,rfl⟩;unfold Builtin.«set.__init__» noKeywords Builtin.Frozenset.updateFrom;generalize hPI:pyIter=PI
    wp_walk
    subst hPI;refine wpAny_pyIter_list hl1 (wpAny_bind (wpAny_runValue ?_));have hlS:l<s.heap.objs.size:=Heap.lt_size hol;have sz:(s.heap.push (newSetO w)).objs.size=s.heap.objs.size+1:=Heap.size_push ..;have kp0:∀ b o,s.heap.get? b=some o->((s.heap.push (newSetO w)).push { cls:=.type "list_iterator",data:=.fields #[.ref l,.int 0 0] }).get? b=some o:=fun b o e=>Heap.get?_push_of_some _ (Heap.get?_push_of_some _ e);refine Zgm (I:=(s.heap.push (newSetO w)).objs.size) (l:=l) (S:=s.heap.objs.size) (items:=items) (by simp[hd]) (by rw[sz];exact Nat.ne_of_lt (Nat.lt_succ_of_lt hlS)) (by rw[sz];exact Nat.ne_of_lt (Nat.lt_succ_self _)) (Nat.ne_of_gt hlS) hz hI (items.size - 0) 0 _ #[] rfl (Nat.zero_le _)
     ⟨_,Heap.get?_push_size _ rfl,rfl,rfl⟩ (hl1.push _) (Zfm (Heap.get?_push_of_some _ hS)) fun h' tk es kp S'=>?_
    refine wpAny_pure ?_;show wpAny _ _ (ret Value.none) _ _ _;refine wpAny_pure ⟨rfl,h',tk,es,rfl,S',fun b o e=>kp b o ?_ ?_ (kp0 b o e)⟩
    ·rw[sz];exact Nat.ne_of_lt (Nat.lt_succ_of_lt (Heap.lt_size e))
    ·exact Nat.ne_of_lt (Heap.lt_size e)
   ·cases r2 with
    | error e=>exact hr2
    | ok f2=>
     cases f2 with
     | ret r=>
      obtain⟨rfl,h',tk,es,rfl,S',kp⟩:=hr2
      repeat (any_goals (first | assumption | wp_step))
      exact h _ _ es S' kp
     | _=>exact hr2.elim
  | _=>exact hr.elim
theorem Zap{S:Addr}{es:Array (Int×Value)}{ks:List Int}{ep:Nat}{o:Obj}{t:SetTable}{Q:Value->Shared->Prop}(hh:A.handled=none)(ho:s.heap.get? S=some o)(hex:o.ExactSet)(hd:o.data=.set es ep t)(T:Tk t es.size)(hled:t.led=(!w.params.followText "set-order"))
  (h64:es.size<64) (hI:∀ e∈es.toList,∃ i t,e.2=Value.int i t)
  (h:∀ D h' tk (out:List Value) (ns:List Int) e,IntsAre out ns->ns.Perm (es.toList.map fun e=>intOf e.2)->ns.Pairwise (·<=·)->s.heap.get? D=none->h'.get? D=some (seqObj "list" (List.toArray out) e)->(∀ b o,s.heap.get? b=some o->h'.get? b=some o)->Q (.ref D) { s with heap:=h',toks:=tk }):
  wpAny (model prog w) A (call (.builtin "sorted") [.ref S]) Q E s:=by
 refine Calls.call_function_entry kind_sorted plain_sorted entry_sorted (args_sorted1 _) ?_;unfold Builtin.«sorted»;refine wpAny_bind (m:=checkCount "sorted" 1 1 _) (wpAny_pure (wpAny_bind (Vj hh ho hex hd T hled (by rw[sizeLine_eq];omega) fun h1 tk k1=>?_)))
 have hp:((walkOf w S ep es).toList.map (·.2)).Perm (es.toList.map (·.2)):=(Yd w S ep es).map _;generalize (walkOf w S ep es).toList.map (·.2)=vs at hp ⊢;have hl:vs.length<64:=by rw[hp.length_eq,List.length_map,Array.length_toList];exact h64
 have hV1:∀ v∈vs,∃ i t,v=Value.int i t:=fun v hv=>by
  obtain⟨e,he,rfl⟩:=List.mem_map.mp (hp.mem_iff.mp hv);exact hI e he
 have hIA:IntsAre vs (vs.map intOf):=by
  clear hp hl
  induction vs with
  | nil=>exact .nil
  | cons v vs ih=>
   obtain⟨i,t,rfl⟩:=hV1 v List.mem_cons_self;exact .cons _ _ (ih fun u hu=>hV1 u (List.mem_cons_of_mem _ hu))
 have hpi:(vs.map intOf).Perm (es.toList.map fun e=>intOf e.2):=by
  have:=hp.map intOf;rw[List.map_map] at this;exact this
 have low:∀ b o,s.heap.get? b=some o->b≠h1.objs.size:=fun b o e=>Nat.ne_of_lt (Heap.lt_size (k1 b o e));have hle:s.heap.get? h1.objs.size=none:=by
  cases q:s.heap.get? h1.objs.size with
  | none=>rfl
  | some o=>exact absurd (Heap.lt_size (k1 _ _ q)) (Nat.lt_irrefl _)
 refine wpAny_bind (wpAny_newList ?_ (by rw[sizeLine_eq];omega))
 show wpAny _ _ _ _ _ { s with heap:=h1.push (seqObj "list" vs.toArray 0),toks:=tk }
 have hoD:(h1.push (seqObj "list" vs.toArray 0)).get? h1.objs.size=some (seqObj "list" vs.toArray 0):=Heap.get?_push_size _ rfl;have kp2:∀ b o,s.heap.get? b=some o->(h1.push (seqObj "list" vs.toArray 0)).get? b=some o:=fun b o e=>Heap.get?_push_of_some _ (k1 b o e);refine wpAny_bind (wpAny_holding (wpAny_call_entry slot_list_sort ⟨_,hoD,rfl⟩ entry_list_sort (list_sort_tree (s:={ s with heap:=h1.push (seqObj "list" vs.toArray 0),toks:=tk }) hoD hIA hl fun out ns' a1 a2 a3=>⟨_,rfl,?_⟩) (args_list_sort _)))
 refine wpAny_pure ⟨_,rfl,?_⟩;obtain⟨e,he⟩:=sortedHeap_at (out:=out) hoD;refine h h1.objs.size _ tk out.toList ns' e a1 (a2.trans hpi) a3 hle (by rw[Array.toArray_toList];exact he) fun b o hb=>?_
 have:=sortedHeap_old (h:=h1.push (seqObj "list" vs.toArray 0)) (a:=h1.objs.size) (vs:=vs) (out:=out) (low b o hb) (Heap.lt_size (kp2 b o hb));show (sortedHeap _ _ _ _).get? b=some o;rw[this];exact kp2 b o hb
end
section
open L2
variable{X:Cx}
noncomputable def SetPI(prog:Program)(w:World)(ns:List Int)(S:Addr):Heap->Prop:=fun h=>∃ es,SetTI prog w ns h S es
theorem Zcv(hc:X.calm=true)(hu:X.A.units+8<cLine):CallR X (.type "set") (fun xs H Q=>∃ (l:Addr) (ns:List Int),xs=[.ref l]/\SqL X.K H l (ns.map V.int)/\ns.length<=76/\∀ S,H S=none->Q (.ref S) (upd H S (.ext (SetPI X.prog X.w ns S)))):=by
 intro pins s σ H xs us Q I r h;obtain⟨l,ns,rfl,hl,hn,q⟩:=h;obtain⟨u,rfl,rx⟩:=vals1 r;cases rx;obtain⟨its,r',pl,_⟩:=I.list hl;have hIA:=Vz r';refine Jy (I.ok.hd hc) hu pl.isList (by simpa using hIA) (by
  have:=r'.length;rw[List.length_map] at this;simp;omega) fun h' tk es S' kp=>?_
 refine⟨.ref s.heap.objs.size,_,I.laid (o:=.ext (SetPI X.prog X.w ns s.heap.objs.size)) kp (Nat.le_refl _) ?_,rfl,q _ (I.hok.fresh (Nat.le_refl _))⟩;refine⟨⟨es,S'⟩,?_,fun h1 h2 ⟨es,z⟩ k=>⟨es,z.at k⟩⟩;obtain⟨⟨o,_,_,ho,_⟩,_⟩:=S';exact⟨o,ho⟩
theorem vals_ints:∀ {us:List Value} {ns:List Int},IntsAre us ns->Vals (ns.map V.int) us
 | _,_,.nil=>.nil
 | _,_,.cons _ _ t=>.cons ⟨_,rfl⟩ (vals_ints t)
theorem Jv(hc:X.calm=true):CallR X (.builtin "sorted") (fun xs H Q=>∃ (S:Addr) (ns:List Int),xs=[.ref S]/\H S=some (.ext (SetPI X.prog X.w ns S))/\ns.length<64 /\
  ∀ (D:Addr) (ks:List Int),H D=none->(∀ k,k∈ks↔k∈ns)->ks.Pairwise (· < ·)->ks.length<=ns.length->Q (.ref D) (upd H D (.lst (ks.map V.int)))):=by
 intro pins s σ H xs us Q I r h;obtain⟨S,ns,rfl,hS,hn,q⟩:=h;obtain⟨u,rfl,rx⟩:=vals1 r;cases rx;obtain⟨⟨es,ts⟩,_,_⟩:=I.hok S _ hS;obtain⟨⟨o,ep,t,ho,hex,hd,T,hled⟩,hel,hmem,hcov,hlen,hnd⟩:=ts;refine Zap (ks:=ns) (I.ok.hd hc) ho hex hd T hled (by omega) (fun e he=>?_) fun D h' tk out ks c hIA hp hs hD hD' kp=>?_
 ·obtain⟨i,t,h1,_⟩:=hmem e he;exact⟨i,t,h1⟩
 ·have hl:ks.length<=ns.length:=by
   rw[hp.length_eq,List.length_map,Array.length_toList];exact hlen
  have hz:(ks.map V.int).length<=sizeLine:=by rw[List.length_map,sizeLine_eq];omega
  obtain⟨hH,I'⟩:=Inv.laidN (t':=tk) (o:=.lst (ks.map V.int)) I kp hD ⟨hz,out,c,vals_ints hIA,hD'⟩;refine⟨.ref D,_,I',rfl,q D ks hH (fun k=>?_) ?_ hl⟩
  ·rw[hp.mem_iff,List.mem_map];constructor
   ·rintro⟨e,he,rfl⟩;obtain⟨i,t,h1,h2⟩:=hmem e he;rw[h1];exact h2
   ·intro hk;obtain⟨e,he,t,h1⟩:=hcov k hk;exact⟨e,he,by rw[h1];rfl⟩
  ·have hnd':ks.Nodup:=hp.nodup_iff.mpr hnd;refine (hs.and hnd').imp fun {a b} hab=>?_;have:=hab.1;have:=hab.2;omega
end
end KS
end
section
namespace KS
open PySem PySem.Spec L2
open PyProof.Rows hiding St
section
variable{X:Cx}{pins:List (Addr×Obj)}{σ:St}{H:Hp}{s:Shared}{h':Heap}
theorem turnLay{ch:List Addr}{a:Addr}{o:HO}{t':Nat}(I:L2.Inv X pins σ H s)(hf:∀ b∈ch,FpOk X pins H b)(k:∀ b u,b∉ch->s.heap.get? b=some u->h'.get? b=some u)(hp:s.heap.objs.size<=a)(new:ObjOk X.prog X.w (upd H a o) h' a o):
  L2.Inv X pins σ (upd H a o) { s with heap:=h',toks:=t' }:=by
 have hn:=I.hok.fresh hp;have lt:∀ b u,s.heap.get? b=some u->b≠a:=fun b u e=>Nat.ne_of_lt (Nat.lt_of_lt_of_le (Heap.lt_size e) hp);have nit:∀ b u,H b=some u->b∉ch:=fun b u e z=>by rw[(hf b z).1] at e;cases e
 refine I.step (g':=s.gens) (d':=s.drawn) (ch:=ch) (fun b hb=>?_) (fun b o _ _ hc e _=>k b o hc e) (fun b o _ _ hc e _=>⟨o.slots,k b o hc e⟩) (fun b u _ e n=>by rw[Zh (lt b u e)];exact n)
  (fun b o hc e=>⟨o,k b o hc e⟩) (fun b xs e=>by rw[Zh (Zf e hn)];exact e) (fun b u xs e=>by rw[Zh (Zf e hn)];exact e) (fun b ps e=>⟨#[],by rw[Zh (Zf e hn),e];simp⟩) (fun m hm=>?_) (fun b u e=>?_) I.bare
 ·obtain⟨_,f1,_,f3,f4,f5⟩:=hf b hb;exact⟨f3,f1,f4,f5⟩
 ·obtain⟨o,es,ep,ho,r⟩:=hm;exact⟨o,es,ep,k _ o (fun z=>(hf _ z).2.1 rfl) ho,r⟩
 ·by_cases hb:b=a
  ·subst hb;rw[Zb] at e;cases e;exact new
  ·rw[Zh hb] at e;refine (I.hok b u e).stay (fun c v hc q=>k c v ?_ q) (fun c q=>by rw[Zh (Zf q hn)];exact q) fun c xs q=>by rw[Zh (Zf q hn)];exact q
   rcases hc with z | z
   ·rw[z];exact nit b u e
   ·exact nit c _ z
theorem turnL{ch:List Addr}{t':Nat}(I:L2.Inv X pins σ H s)(hf:∀ b∈ch,FpOk X pins H b)(k:∀ b u,b∉ch->s.heap.get? b=some u->h'.get? b=some u):L2.Inv X pins σ H { s with heap:=h',toks:=t' }:=by
 have nit:∀ b u,H b=some u->b∉ch:=fun b u e z=>by rw[(hf b z).1] at e;cases e
 refine I.step (g':=s.gens) (d':=s.drawn) (ch:=ch) (fun b hb=>?_) (fun b o _ _ hc e _=>k b o hc e) (fun b o _ _ hc e _=>⟨o.slots,k b o hc e⟩) (fun b u _ e n=>n)
  (fun b o hc e=>⟨o,k b o hc e⟩) (fun b xs e=>e) (fun b u xs e=>e) (fun b ps e=>⟨#[],by rw[e];simp⟩) (fun m hm=>?_) (fun b u e=>?_) I.bare
 ·obtain⟨_,f1,_,f3,f4,f5⟩:=hf b hb;exact⟨f3,f1,f4,f5⟩
 ·obtain⟨o,es,ep,ho,r⟩:=hm;exact⟨o,es,ep,k _ o (fun z=>(hf _ z).2.1 rfl) ho,r⟩
 ·refine (I.hok b u e).stay (fun c v hc q=>k c v ?_ q) (fun _ q=>q) fun _ _ q=>q;rcases hc with z | z
  ·rw[z];exact nit b u e
  ·exact nit c _ z
end
noncomputable def Itz(K:PySem.W.Frag)(a b:Addr):It:=
 ⟨fun i H=>∃ xs ys x y,SqL K H a xs/\SqL K H b ys/\xs[i]? = some x/\ys[i]? = some y,
   fun i H v H'=>∃ T x y,v=.ref T/\H T=none/\H'=upd H T (.tup [x,y])/\∀ xs ys,SqL K H a xs->SqL K H b ys->xs[i]? = some x/\ys[i]? = some y,
   fun i H=>∃ xs ys,SqL K H a xs/\SqL K H b ys/\(xs.length<=i∨ys.length<=i)⟩
noncomputable def ZipSt(z TI TO i1 i2 l1 l2:Addr)(i:Nat)(h:Heap):Prop:=IsZip h z TI TO .none/\IsPair h TI (.ref i1) (.ref i2)/\(∃ a b,IsPair h TO a b)/\h.IsListIter i1 l1 i/\h.IsListIter i2 l2 i
theorem Zfk{P:Program}{w:World}{K:PySem.W.Frag}{elts:List Expr}{kk:Nat}{pos:Pos}{z TI TO i1 i2 l1 l2:Addr}(D:ZipApart z TI TO i1 i2 l1 l2):
  Turn P w K (.Tuple elts kk pos) (Itz K l1 l2) [z,TI,TO,i1,i2] z (ZipSt z TI TO i1 i2 l1 l2) where
 mem:=by simp
 obj:=fun i h st b hb=>by
  obtain⟨hz,hTI,⟨a,c,hTO⟩,⟨o1,ho1,_,d1⟩,⟨o2,ho2,_,d2⟩⟩:=st;simp only[List.mem_cons,List.not_mem_nil,or_false] at hb;rcases hb with rfl | rfl | rfl | rfl | rfl
  ·exact⟨_,hz,fun v z=>by cases z⟩
  ·exact⟨_,hTI,fun v z=>by cases z⟩
  ·exact⟨_,hTO,fun v z=>by cases z⟩
  ·exact⟨o1,ho1,fun v z=>by rw[d1] at z;cases z⟩
  ·exact⟨o2,ho2,fun v z=>by rw[d2] at z;cases z⟩
 keep:=fun i h h' st k=>by
  obtain⟨hz,hTI,⟨a,c,hTO⟩,h1,h2⟩:=st;exact⟨k z (by simp) _ hz,k TI (by simp) _ hTI,⟨a,c,k TO (by simp) _ hTO⟩,h1.at fun o e=>k i1 (by simp) o e,h2.at fun o e=>k i2 (by simp) o e⟩
 item:=by
  intro X hP hw hK hc i pins s σ H E I hf st hg;subst hP hw hK;obtain⟨xs,ys,x,y,hq1,hq2,hx,hy⟩:=hg;obtain⟨its1,rv1,p1,_⟩:=I.list hq1;obtain⟨its2,rv2,p2,_⟩:=I.list hq2;obtain⟨u,hu,ru⟩:=rv1.get hx;obtain⟨v,hv,rv⟩:=rv2.get hy;obtain⟨hz,hTI,⟨a,c,hTO⟩,h1,h2⟩:=st;refine wpAny_pyNext_zip_item D hz hTI hTO h1 h2 p1.isList p2.isList (x:=u) (y:=v) (by simpa using hu) (by simpa using hv) fun h' a1 a2 a3 a4 a5 a6 hk=>?_
  have hk':∀ b o,b∉[z,TI,TO,i1,i2]->s.heap.get? b=some o->h'.get? b=some o:=fun b o hb e=>hk b o (fun q=>hb (by simp[q])) (fun q=>hb (by simp[q])) (fun q=>hb (by simp[q])) (fun q=>hb (by simp[q])) e
  have lt:∀ b∈[z,TI,TO,i1,i2],b<s.heap.objs.size:=fun b hb=>by
   obtain⟨o1,ho1,_⟩:=h1;obtain⟨o2,ho2,_⟩:=h2;simp only[List.mem_cons,List.not_mem_nil,or_false] at hb;rcases hb with rfl | rfl | rfl | rfl | rfl
   ·exact Heap.lt_size hz
   ·exact Heap.lt_size hTI
   ·exact Heap.lt_size hTO
   ·exact Heap.lt_size ho1
   ·exact Heap.lt_size ho2
  have hTI':IsPair h' TI (.ref i1) (.ref i2):=hk TI _ D.TIz D.TITO D.TIi1 D.TIi2 hTI;have I1:L2.Inv X pins σ (upd H s.heap.objs.size (.tup [x,y])) { s with heap:=h' }:=turnLay (t':=s.toks) I hf hk' (Nat.le_refl _) ⟨by show 2<=sizeLine;decide,[u,v],.cons ru (.cons rv .nil),_,a5,rfl,_,rfl⟩
  refine⟨_,rfl,wpAny_letOwnedTupleGo_zip (s:={ s with heap:=h' }) a1 fun h'' hz'' hs''=>?_⟩
  have fz:FpOk X pins (upd H s.heap.objs.size (.tup [x,y])) z:=by
   obtain⟨f0,f1,f2,f3,f4,f5⟩:=hf z (by simp)
   exact⟨by rw[Zh (Nat.ne_of_lt (lt z (by simp)))];exact f0,f1,f2,f3,f4,f5⟩
  have I2:L2.Inv X pins σ (upd H s.heap.objs.size (.tup [x,y])) { s with heap:=h'' }:=by
   refine I1.turned (t':=s.toks) (fun b o hb e=>hs''.extBut b o hb e) fz.1 fz.2.1 fz.2.2.2.1 fz.2.2.2.2.1 fz.2.2.2.2.2
  refine⟨.ref s.heap.objs.size,_,I2,rfl,⟨_,x,y,rfl,I.hok.fresh (Nat.le_refl _),rfl,fun xs' ys' e1 e2=>?_⟩,⟨hz'',hs''.extBut _ _ D.TIz hTI',⟨_,_,hs''.extBut _ _ D.TOz a2⟩,a3.extBut hs''.extBut D.i1z,a4.extBut hs''.extBut D.i2z⟩,fun b hb=>?_⟩
  ·rw[I.list_inj e1 hq1,I.list_inj e2 hq2];exact⟨hx,hy⟩
  ·rw[Zh (Nat.ne_of_lt (lt b hb))];exact (hf b hb).1
 done:=by
  intro X hP hw hK hc i pins s σ H E I hf st hg;subst hP hw hK;obtain⟨xs,ys,hq1,hq2,hend⟩:=hg;obtain⟨its1,rv1,p1,_⟩:=I.list hq1;obtain⟨its2,rv2,p2,_⟩:=I.list hq2;obtain⟨hz,hTI,⟨a,c,hTO⟩,h1,h2⟩:=st;have l1':=rv1.length;have l2':=rv2.length;refine wpAny_pyNext_zip_end (I.ok.hd hc) D hz hTI hTO h1 h2 p1.isList p2.isList ?_ fun h' hk=>⟨rfl,turnL (t':=s.toks) I hf fun b o hb e=>hk b o (fun q=>hb (by simp[q])) (fun q=>hb (by simp[q])) (fun q=>hb (by simp[q])) (fun q=>hb (by simp[q])) e⟩
  rcases hend with g | g
  ·exact .inl (by simp;omega)
  ·exact .inr (by simp;omega)
 self:=fun A i s Q E st h=>wpAny_pyIter_zip st.1 h
section
variable{X:Cx}
noncomputable def iZip(K:PySem.W.Frag)(ta:TA):TI:=fun σ H R=>ta σ H fun vs H1=>∃ a b xs ys,vs=[.ref a,.ref b]/\SqL K H1 a xs/\SqL K H1 b ys/\R (Itz K a b) H1
theorem Zi8{a b:Expr}{ta:TA}{p pos:Pos}{elts:List Expr}{kk:Nat}{tpos:Pos}(hg:Gl X "zip")(hm:X.mg "zip"=none)(ha:PA X [a,b] ta)(hs:starEach [a,b] X.env=[(false,eval a X.env),(false,eval b X.env)]:=by rfl)(hs2:starEach [b] X.env=[(false,eval b X.env)]:=by rfl):
  PI X (.Tuple elts kk tpos) (.Call (.Name "zip" p) [a,b] [] pos) (iZip X.K ta):=by
 intro pins s σ H R I h;refine Call_ (Wf I hg hm PyProof.Rows.boot_zip (PyProof.Rows.callWith_type1 (thn (ha pos pins s σ H _ I h) fun us s1 ⟨vs,H1,I1,r1,q1⟩=>?_) (by rw[hs,hs2]) (by rw[hs2];rfl)))
 obtain⟨l1,l2,xs,ys,e,hq1,hq2,q⟩:=q1;subst e;cases r1 with
 | cons r rr=>
  cases rr with
  | cons r' rr=>
   cases rr;cases r;cases r';obtain⟨its1,rv1,p1,_⟩:=I1.list hq1;obtain⟨its2,rv2,p2,_⟩:=I1.list hq2;have hl1:l1<s1.heap.objs.size:=by obtain⟨o,ho,_⟩:=p1.isList;exact Heap.lt_size ho
   have hl2:l2<s1.heap.objs.size:=by obtain⟨o,ho,_⟩:=p2.isList;exact Heap.lt_size ho
   refine call_zip_2 p1.isList p2.isList fun h' hz hTI hTO hi1 hi2 hsz hk=>?_;refine wpAny_pyIter_zip hz ?_;have I2:L2.Inv X pins σ H1 { s1 with heap:=h' }:=I1.kept (t':=s1.toks) hk
   refine⟨s1.heap.objs.size+4,[s1.heap.objs.size+4,s1.heap.objs.size+2,s1.heap.objs.size+3,s1.heap.objs.size,s1.heap.objs.size+1],_,_,H1,rfl,I2,Zfk (l1:=l1) (l2:=l2) (PyProof.Rows.zipApart_new hl1 hl2),⟨hz,hTI,⟨_,_,hTO⟩,hi1,hi2⟩,fun b hb=>?_,q⟩;have hb':s1.heap.objs.size<=b:=by
    simp only[List.mem_cons,List.not_mem_nil,or_false] at hb;rcases hb with rfl | rfl | rfl | rfl | rfl<;>omega
   exact I1.fpOk hb' (I1.hok.fresh hb')
end
theorem Zgq{k:Nat}{K:PySem.W.Frag}{a b:Addr}{xs ys:List V}{g:TG}{tt:TT}{te:TE}{σ:St}{Q:VK}{H:Hp}(Pv:Nat->List V->Hp->Prop)(h0:Pv 0 [] H)(hn:min xs.length ys.length<sizeLine)(hl:∀ i zs H,Pv i zs H->zs.length<=i/\SqL K H a xs/\SqL K H b ys)
  (hs:∀ i x y zs H T,xs[i]? = some x->ys[i]? = some y->Pv i zs H->H T=none->g (.ref T) (σ++List.replicate k none) (upd H T (.tup [x,y])) fun σ2 H2=>σ2.take σ.length=σ/\tt σ2 H2 fun c H3=>if c=true then te σ2 H3 fun v H4=>Pv (i+1) (zs++[v]) H4 else Pv (i+1) zs H3)
  (hd:∀ zs H p,Pv (min xs.length ys.length) zs H->H p=none->Q (.ref p) (upd H p (.lst zs))):∃ W:Nat->Nat->List V->Hp->Prop,(∃ m,W 0 m [] H)/\CompW k (Itz K a b) g tt te σ Q W:=by
 refine⟨fun i m zs H=>m=min xs.length ys.length - i/\i<=min xs.length ys.length/\Pv i zs H,⟨_,rfl,Nat.zero_le _,h0⟩,?_⟩;rintro i m zs H ⟨rfl,hi,p⟩;obtain⟨hy,hq1,hq2⟩:=hl i zs H p;by_cases hlt:i<min xs.length ys.length
 ·have h1:i<xs.length:=by omega
  have h2:i<ys.length:=by omega
  refine .inr ⟨⟨xs,ys,xs[i],ys[i],hq1,hq2,by simp[h1],by simp[h2]⟩,by omega,Pv (i+1),fun zs' H' p'=>⟨min xs.length ys.length - (i+1),by omega,rfl,hlt,p'⟩,fun v H' z=>?_⟩
  obtain⟨T,x,y,rfl,hT,rfl,hxy⟩:=z;obtain⟨e1,e2⟩:=hxy xs ys hq1 hq2;exact hs i x y zs H T e1 e2 p hT
 ·have e:i=min xs.length ys.length:=by omega
  subst e;exact .inl ⟨⟨xs,ys,hq1,hq2,by omega⟩,by omega,fun q hq=>hd zs H q p hq⟩
end KS
end
section
namespace KS
open PySem PySem.Calls PyProof.Rows PySem.Spec
noncomputable abbrev IsZipO(h:Heap)(z TI TO a:Addr)(f:Bool):Prop:=h.get? z=some { cls:=.type "zip",dict:=none,data:=.fields #[rawInt a,.bool f,.bool false,.ref TI,.ref TO],slots:=#[] }
section
variable{prog:Program}{w:World}{A:Around}{E:Value->Shared->Prop}{s:Shared}
theorem notFree{z TI TO a:Addr}{f:Bool}{oa:Obj}{Q:Bool->Shared->Prop}(hz:IsZipO s.heap z TI TO a f)(ha:s.heap.get? a=some oa)(hQ:∀ h',IsZipO h' z TI TO a true->Heap.SameBut z s.heap h'->Q false { s with heap:=h' }):
  wpAny (model prog w) A (Builtin.SmallTypes.ownedTupleIsFree (.ref z)) Q E s:=by
 unfold Builtin.SmallTypes.ownedTupleIsFree;refine wpAny_bind (wpAny_field hz rfl (x:=rawInt a) rfl ?_);show wpAny _ _ (loadIfAlive ((a:Int).toNat) >>= _) _ _ _;rw[Int.toNat_natCast];refine wpAny_bind (PySem.W.kdx_alive ha ?_);simp only[Option.isNone_some,Bool.false_eq_true,if_false];refine wpAny_bind (wpAny_field hz rfl (x:=.bool f) rfl ?_);cases f with
 | true=>
  rw[if_neg (show ¬ ((Value.bool true != Value.bool true)=true) from Bool.false_ne_true)];have e:s={ s with heap:=s.heap }:=by cases s;rfl
  rw[e];exact wpAny_pure (hQ s.heap hz (Heap.SameBut.refl _ _))
 | false=>
  rw[if_pos (show (Value.bool false != Value.bool true)=true from rfl)];refine wpAny_bind (wpAny_setField_rec hz (by simp) fun h₃ he₃ hs₃=>?_)
  exact wpAny_pure (hQ h₃ he₃ hs₃)
theorem Uz{z TI TO i1 i2 l1 l2 a:Addr}{f:Bool}{oa:Obj}{k1 k2:Nat}{xs ys:Array Value}{x y:Value}{Q:Value->Shared->Prop}(D:ZipApart z TI TO i1 i2 l1 l2)
  (hz:IsZipO s.heap z TI TO a f) (ha:s.heap.get? a=some oa) (hTI:IsPair s.heap TI (.ref i1) (.ref i2))
  (h1:s.heap.IsListIter i1 l1 k1) (h2:s.heap.IsListIter i2 l2 k2) (hl1:s.heap.IsList l1 xs) (hl2:s.heap.IsList l2 ys) (hx:xs[k1]? = some x) (hy:ys[k2]? = some y)
  (hQ:∀ h',IsZipO h' z TI TO a true->h'.IsListIter i1 l1 (k1+1)->h'.IsListIter i2 l2 (k2+1)->IsPair h' s.heap.objs.size x y->h'.objs.size=s.heap.objs.size+1 ->
   (∀ c o,c≠z->c≠i1->c≠i2->s.heap.get? c=some o->h'.get? c=some o)->Q (.ref s.heap.objs.size) { s with heap:=h' }):
  wpAny (model prog w) A (Builtin.«zip.__next__» ⟨[.ref z],[]⟩) (fun fin s'=>∃ v,fin=.done (.ret v)/\Q v s') E s:=by
 show wpAny _ _ (field (.ref z) 2 >>= _) _ _ _;refine wpAny_bind (wpAny_field hz rfl (x:=.bool false) rfl ?_);show wpAny _ _ (field (.ref z) 3 >>= _) _ _ _;refine wpAny_bind (wpAny_field hz rfl (x:=.ref TI) rfl ?_);refine wpAny_bind (wpAny_seqItems hTI rfl ?_);show wpAny _ _ (Builtin.SmallTypes.ownedTupleIsFree (.ref z) >>= _) _ _ _;refine wpAny_bind (notFree hz ha fun h₁ hz₁ hs₁=>?_);simp only[Bool.false_eq_true,if_false];refine wpAny_bind ?_;show wpAny _ _ (forIn (#[Value.ref i1,Value.ref i2]:Array Value) _ _) _ _ _;rw[← Array.forIn_toList];simp only[List.forIn_cons,List.forIn_nil];refine wpAny_bind (wpAny_bind (wpAny_holding ?_));show wpAny _ _ (Builtin.SmallTypes.nextOf (.ref i1) >>= _) _ _ _;refine wpAny_bind (wpAny_nextOf_list_item (h1.extBut hs₁.extBut D.i1z) (hl1.extBut hs₁.extBut D.l1z) hx fun h₂ h1₂ hs₂=>wpAny_pure ?_);refine wpAny_pure ?_;refine wpAny_bind (wpAny_bind (wpAny_holding ?_));show wpAny _ _ (Builtin.SmallTypes.nextOf (.ref i2) >>= _) _ _ _;refine wpAny_bind (wpAny_nextOf_list_item ((h2.extBut hs₁.extBut D.i2z).extBut hs₂.extBut D.i12.symm) ((hl2.extBut hs₁.extBut D.l2z).extBut hs₂.extBut D.l2i1) hy fun h₃ h2₃ hs₃=>wpAny_pure ?_);refine wpAny_pure (wpAny_pure ?_);have hsz:h₃.objs.size=s.heap.objs.size:=by rw[hs₃.1,hs₂.1,hs₁.1]
 have hz₃:IsZipO h₃ z TI TO a true:=hs₃.extBut _ _ D.i2z.symm (hs₂.extBut _ _ D.i1z.symm hz₁);have hk₃:∀ c o,c≠z->c≠i1->c≠i2->s.heap.get? c=some o->h₃.get? c=some o:=fun c o c1 c3 c4 e=>hs₃.extBut _ _ c4 (hs₂.extBut _ _ c3 (hs₁.extBut _ _ c1 e));refine wpAny_bind (wpAny_newTuple (hsz:=by show 2<=sizeLine;decide) ?_)
 refine wpAny_pure ⟨_,rfl,?_⟩;have hp:(h₃.push { cls:=.type "tuple",data:=.seq #[x,y] }).get? h₃.objs.size=some { cls:=.type "tuple",data:=.seq #[x,y] }:=Heap.get?_push_size _ rfl;show Q (.ref h₃.objs.size) _;rw[hsz] at hp ⊢;exact hQ _ (Heap.get?_push_of_some _ hz₃) ((h1₂.extBut hs₃.extBut D.i12).at fun o e=>Heap.get?_push_of_some _ e) (h2₃.at fun o e=>Heap.get?_push_of_some _ e) hp (by rw[Heap.size_push,hsz]) fun c o c1 c2 c3 e=>Heap.get?_push_of_some _ (hk₃ c o c1 c2 c3 e)
theorem Zag{z TI TO i1 i2 l1 l2 a:Addr}{f:Bool}{oa:Obj}{k1 k2:Nat}{xs ys:Array Value}{Q:Fin->Shared->Prop}(hh:A.handled=none)(D:ZipApart z TI TO i1 i2 l1 l2)
  (hz:IsZipO s.heap z TI TO a f) (ha:s.heap.get? a=some oa) (hTI:IsPair s.heap TI (.ref i1) (.ref i2))
  (h1:s.heap.IsListIter i1 l1 k1) (h2:s.heap.IsListIter i2 l2 k2) (hl1:s.heap.IsList l1 xs) (hl2:s.heap.IsList l2 ys) (hend:xs[k1]? = none∨ys[k2]? = none)
  (hE:∀ h' e,(∀ c o,c≠z->c≠TO->c≠i1->c≠i2->s.heap.get? c=some o->h'.get? c=some o)->(∃ o,h'.get? e=some o/\o.cls=.type "StopIteration")->E (.ref e) { s with heap:=h' }):
  wpAny (model prog w) A (Builtin.«zip.__next__» ⟨[.ref z],[]⟩) Q E s:=by
 show wpAny _ _ (field (.ref z) 2 >>= _) _ _ _;refine wpAny_bind (wpAny_field hz rfl (x:=.bool false) rfl ?_);show wpAny _ _ (field (.ref z) 3 >>= _) _ _ _;refine wpAny_bind (wpAny_field hz rfl (x:=.ref TI) rfl ?_);refine wpAny_bind (wpAny_seqItems hTI rfl ?_);show wpAny _ _ (Builtin.SmallTypes.ownedTupleIsFree (.ref z) >>= _) _ _ _;refine wpAny_bind (notFree hz ha fun h₁ hz₁ hs₁=>?_);simp only[Bool.false_eq_true,if_false];refine wpAny_bind ?_;show wpAny _ _ (forIn (#[Value.ref i1,Value.ref i2]:Array Value) _ _) _ _ _;rw[← Array.forIn_toList];simp only[List.forIn_cons,List.forIn_nil];refine wpAny_bind (wpAny_bind (wpAny_holding ?_));show wpAny _ _ (Builtin.SmallTypes.nextOf (.ref i1) >>= _) _ _ _;cases hx:xs[k1]? with
 | none=>
  refine wpAny_bind (wpAny_nextOf_list_end hh (h1.extBut hs₁.extBut D.i1z) (hl1.extBut hs₁.extBut D.l1z) hx fun h₂ e hs₂ he=>?_);exact hE h₂ e (fun c o c1 _ c3 _ x=>hs₂ _ _ c3 (hs₁.extBut _ _ c1 x)) he
 | some x=>
  have hy:ys[k2]? = none:=by
   rcases hend with h | h
   ·rw[hx] at h;cases h
   ·exact h
  refine wpAny_bind (wpAny_nextOf_list_item (h1.extBut hs₁.extBut D.i1z) (hl1.extBut hs₁.extBut D.l1z) hx fun h₂ h1₂ hs₂=>wpAny_pure ?_);refine wpAny_pure ?_;refine wpAny_bind (wpAny_bind (wpAny_holding ?_));show wpAny _ _ (Builtin.SmallTypes.nextOf (.ref i2) >>= _) _ _ _;refine wpAny_bind (wpAny_nextOf_list_end hh ((h2.extBut hs₁.extBut D.i2z).extBut hs₂.extBut D.i12.symm) ((hl2.extBut hs₁.extBut D.l2z).extBut hs₂.extBut D.l2i1) hy fun h₃ e hs₃ he=>?_);exact hE h₃ e (fun c o c1 _ c3 c4 x=>hs₃ _ _ c4 (hs₂.extBut _ _ c3 (hs₁.extBut _ _ c1 x))) he
structure ZOut(h:Heap)(z TI TO i1 i2 l1 l2 S:Addr)(i:Nat):Prop where
 z:(i=0/\IsZip h z TI TO .none)∨∃ a f oa,IsZipO h z TI TO a f/\h.get? a=some oa/\a≠z/\a≠S/\a≠i1/\a≠i2/\a≠TO
 ti:IsPair h TI (.ref i1) (.ref i2)
 to:∃ a b,IsPair h TO a b
 i1:h.IsListIter i1 l1 i
 i2:h.IsListIter i2 l2 i
theorem Zfb{z TI TO i1 i2 l1 l2 S:Addr}{i:Nat}{xs ys:Array Value}{x y:Value}{Q:Option Value->Shared->Prop}(D:ZipApart z TI TO i1 i2 l1 l2)(hSl:S<s.heap.objs.size)(N:ZOut s.heap z TI TO i1 i2 l1 l2 S i)
  (hl1:s.heap.IsList l1 xs) (hl2:s.heap.IsList l2 ys) (hx:xs[i]? = some x) (hy:ys[i]? = some y)
  (hQ:∀ h',ZOut h' z TI TO i1 i2 l1 l2 S (i+1)->IsPair h' s.heap.objs.size x y->h'.objs.size=s.heap.objs.size+1 ->
   (∀ c o,c≠z->c≠TO->c≠i1->c≠i2->s.heap.get? c=some o->h'.get? c=some o)->Q (some (.ref s.heap.objs.size)) { s with heap:=h' }):
  wpAny (model prog w) A (pyNext (.ref z)) Q E s:=by
 obtain⟨hz,hTI,⟨a0,b0,hTO⟩,h1,h2⟩:=N;have lz:∀ c o,s.heap.get? c=some o->s.heap.objs.size≠c:=fun c o e=>Nat.ne_of_gt (Heap.lt_size e);rcases hz with ⟨_,hz⟩ | ⟨a,f,oa,hz,ha,az,aS,a1,a2,aTO⟩
 ·refine wpAny_pyNext_zip_item D hz hTI hTO h1 h2 hl1 hl2 hx hy fun h' g1 g2 g3 g4 g5 g6 hk=>hQ h' ⟨.inr ⟨_,false,_,g1,g5,lz _ _ hz,Nat.ne_of_gt hSl,?_,?_,lz _ _ hTO⟩,hk TI _ D.TIz D.TITO D.TIi1 D.TIi2 hTI,⟨_,_,g2⟩,g3,g4⟩ g5 g6 hk
  ·obtain⟨_,e,_⟩:=h1;exact lz _ _ e
  ·obtain⟨_,e,_⟩:=h2;exact lz _ _ e
 ·have hT:s.TypeIs (.ref z) "zip":=⟨_,hz,rfl⟩;unfold pyNext;refine wpAny_bind (wpAny_attempt (wpAny_callSpecial?_slot (name:=Str.ofString "__next__") hT PySem.F.slot_zip_next
   (wpAny_call_entry PySem.F.slot_zip_next hT PySem.F.entry_zip_next
    (Uz D hz ha hTI h1 h2 hl1 hl2 hx hy fun h' g1 g3 g4 g5 g6 hk=>wpAny_pure (hQ h' ⟨.inr ⟨a,true,oa,g1,hk a oa az a1 a2 ha,az,aS,a1,a2,aTO⟩,hk TI _ D.TIz D.TIi1 D.TIi2 hTI,⟨_,_,hk TO _ D.TOz D.TOi1 D.TOi2 hTO⟩,g3,g4⟩ g5 g6 fun c o c1 _ c3 c4 e=>hk c o c1 c3 c4 e)) (PySem.F.args_zip_next_1 _))))
theorem Zfa{z TI TO i1 i2 l1 l2 S:Addr}{i:Nat}{xs ys:Array Value}{Q:Option Value->Shared->Prop}(hh:A.handled=none)(D:ZipApart z TI TO i1 i2 l1 l2)(N:ZOut s.heap z TI TO i1 i2 l1 l2 S i)
  (hl1:s.heap.IsList l1 xs) (hl2:s.heap.IsList l2 ys) (hend:xs[i]? = none∨ys[i]? = none)
  (hQ:∀ h',(∀ c o,c≠z->c≠TO->c≠i1->c≠i2->s.heap.get? c=some o->h'.get? c=some o)->Q none { s with heap:=h' }):wpAny (model prog w) A (pyNext (.ref z)) Q E s:=by
 obtain⟨hz,hTI,⟨a0,b0,hTO⟩,h1,h2⟩:=N;rcases hz with ⟨_,hz⟩ | ⟨a,f,oa,hz,ha,az,aS,a1,a2,aTO⟩
 ·exact wpAny_pyNext_zip_end hh D hz hTI hTO h1 h2 hl1 hl2 hend hQ
 ·have hT:s.TypeIs (.ref z) "zip":=⟨_,hz,rfl⟩;unfold pyNext;refine wpAny_bind (wpAny_attempt (wpAny_callSpecial?_slot (name:=Str.ofString "__next__") hT PySem.F.slot_zip_next
   (wpAny_call_entry PySem.F.slot_zip_next hT PySem.F.entry_zip_next (Zag hh D hz ha hTI h1 h2 hl1 hl2 hend fun h' e hk he=>?_) (PySem.F.args_zip_next_1 _))))
  obtain⟨o,ho,hc⟩:=he;refine wpAny_bind (wpAny_isInstance (T:="StopIteration") (b:=true) ⟨o,ho,hc⟩ isSubtype_stop ?_);exact wpAny_pure (hQ _ hk)
end
end KS
end
section
namespace KS
open PySem PySem.Calls PyProof.Rows PySem.Spec
section
variable{prog:Program}{w:World}{A:Around}{E:Value->Shared->Prop}{s:Shared}
theorem ZOut.keep{h h':Heap}{z TI TO i1 i2 l1 l2 S:Addr}{i:Nat}(N:ZOut h z TI TO i1 i2 l1 l2 S i)(hk:∀ b o,b≠S->h.get? b=some o->h'.get? b=some o)(hS:S≠z/\S≠TI/\S≠TO/\S≠i1/\S≠i2):ZOut h' z TI TO i1 i2 l1 l2 S i:=by
 obtain⟨hz,hTI,⟨a0,b0,hTO⟩,h1,h2⟩:=N;obtain⟨s1,s2,s3,s4,s5⟩:=hS;refine⟨?_,hk _ _ (Ne.symm s2) hTI,⟨_,_,hk _ _ (Ne.symm s3) hTO⟩,h1.at fun o e=>hk _ o (Ne.symm s4) e,h2.at fun o e=>hk _ o (Ne.symm s5) e⟩;rcases hz with ⟨e,hz⟩ | ⟨a,f,oa,hz,ha,r1,r2,r3⟩
 ·exact .inl ⟨e,hk _ _ (Ne.symm s1) hz⟩
 ·exact .inr ⟨a,f,oa,hk _ _ (Ne.symm s1) hz,hk _ _ r2 ha,r1,r2,r3⟩
structure ZG(xs ys:Array Value)(lo:Addr)(h:Heap)(as:List Addr):Prop where
 above:∀ a∈as,lo<a
 rise:as.Pairwise (· < ·)
 pairs:∀ (j:Nat) (a:Addr),as[j]? = some a->∃ x y,xs[j]? = some x/\ys[j]? = some y/\IsPair h a x y
theorem ZG.there{xs ys:Array Value}{lo:Addr}{h:Heap}{as:List Addr}(g:ZG xs ys lo h as){a:Addr}(ha:a∈as):a<h.objs.size:=by
 obtain⟨j,hj⟩:=List.mem_iff_getElem?.mp ha;obtain⟨_,_,_,_,e⟩:=g.pairs j a hj;exact Heap.lt_size e
theorem Zfc{R:Result->Shared->Prop}{z TI TO i1 i2 l1 l2 S:Addr}{xs ys:Array Value}(hh:A.handled=none)(D:ZipApart z TI TO i1 i2 l1 l2)(hS5:S≠z/\S≠TI/\S≠TO/\S≠i1/\S≠i2)(hSl1:S≠l1)(hSl2:S≠l2)(hz5:z<S/\TO<S/\i1<S/\i2<S)(hn:min xs.size ys.size<=sizeLine)(res:Value){h₁:Heap}
  (hR:∀ h' tk acc c as,(∀ b o,b≠S->b≠z->b≠TO->b≠i1->b≠i2->h₁.get? b=some o->h'.get? b=some o)->h'.get? S=some { cls:=.type "list",dict:=none,data:=.seq acc c,slots:=#[] }->as.length=min xs.size ys.size->ZG xs ys S h' as ->
   acc.toList=as.map Value.ref->R (.ok (.ret res)) { s with heap:=h',toks:=tk }):
  ∀ (k i:Nat) (h:Heap) (tk c:Nat) (acc:Array Value) (as:List Addr),min xs.size ys.size - i=k->i<=min xs.size ys.size->ZOut h z TI TO i1 i2 l1 l2 S i->h.IsList l1 xs->h.IsList l2 ys->(∀ b o,b≠S->b≠z->b≠TO->b≠i1->b≠i2->h₁.get? b=some o->h.get? b=some o) ->
   h.get? S=some { cls:=.type "list",dict:=none,data:=.seq acc c,slots:=#[] }->acc.toList=as.map Value.ref->as.length=i->ZG xs ys S h as ->
   codeAny (model prog w) A (.builtin "list.extend.loop" ⟨[.ref S,.ref z,res],[]⟩) R { s with heap:=h,toks:=tk }:=by
 obtain⟨s1,s2,s3,s4,s5⟩:=hS5;obtain⟨z1,z3,z4,z5⟩:=hz5;intro k
 induction k with
 | zero=>
  intro i h tk c acc as hk hi hst hl1 hl2 hkeep hS hacc hal hG;have hin:i=min xs.size ys.size:=by omega
  refine codeAny_builtin PySem.F.entry_extend_loop ?_;rw[Around.under_plainId PySem.F.plain_extend_loop _];show wpAny _ A.in1 (pyNext (.ref z) >>= _) _ _ _;have hend:xs[i]? = none∨ys[i]? = none:=by
   rcases Nat.le_total xs.size ys.size with g | g
   ·exact .inl (Array.getElem?_eq_none (by rw[hin,Nat.min_eq_left g];exact Nat.le_refl _))
   ·exact .inr (Array.getElem?_eq_none (by rw[hin,Nat.min_eq_right g];exact Nat.le_refl _))
  refine wpAny_bind (Zfa (s:={ s with heap:=h,toks:=tk }) (A:=A.in1) hh D hst hl1 hl2 hend fun h' he=>?_)
  refine wpAny_pure (hR h' tk acc c as (fun b o g0 g1 g2 g3 g4 e=>he b o g1 g2 g3 g4 (hkeep b o g0 g1 g2 g3 g4 e)) (he S _ s1 s3 s4 s5 hS) (by omega) ⟨hG.above,hG.rise,fun j a hj=>?_⟩ hacc)
  obtain⟨x,y,e1,e2,e3⟩:=hG.pairs j a hj;have hb:=hG.above a (List.mem_of_getElem? hj);exact⟨x,y,e1,e2,he a _ (Nat.ne_of_gt (Nat.lt_trans z1 hb)) (Nat.ne_of_gt (Nat.lt_trans z3 hb)) (Nat.ne_of_gt (Nat.lt_trans z4 hb)) (Nat.ne_of_gt (Nat.lt_trans z5 hb)) e3⟩
 | succ k ih=>
  intro i h tk c acc as hk hi hst hl1 hl2 hkeep hS hacc hal hG;have hlt1:i<xs.size:=by omega
  have hlt2:i<ys.size:=by omega
  have hsz:acc.size=i:=by rw[← Array.length_toList,hacc,List.length_map,hal]
  refine codeAny_builtin PySem.F.entry_extend_loop ?_;rw[Around.under_plainId PySem.F.plain_extend_loop _];show wpAny _ A.in1 (pyNext (.ref z) >>= _) _ _ _;refine wpAny_bind (Zfb (s:={ s with heap:=h,toks:=tk }) D (Heap.lt_size hS) hst hl1 hl2 (Array.getElem?_eq_getElem hlt1) (Array.getElem?_eq_getElem hlt2) fun h' hst' ht hz hkp=>?_)
  dsimp only at ht hz hkp ⊢;have hS':=hkp S _ s1 s3 s4 s5 hS;have up:∀ b o,b≠S->h'.get? b=some o->(h'.update S (Obj.mapSeq (·.push (Value.ref h.objs.size)))).get? b=some o:=fun b o hb e=>(Heap.get?_update_other _ _ (Ne.symm hb)).trans e;have hSl:S<h.objs.size:=Heap.lt_size hS;show wpAny _ A.in1 (updateSeq S (·.push (Value.ref h.objs.size)) >>= _) _ _ _;refine wpAny_bind ?_;refine wpAny_updateSeq hS' rfl (wpAny_pure ⟨plainId_quiet PySem.F.plain_extend_loop _,ih (i+1) _ tk _ (acc.push (Value.ref h.objs.size)) (as++[h.objs.size]) (by omega) (by omega) (hst'.keep up ⟨s1,s2,s3,s4,s5⟩)
   (hl1.at fun o e=>up l1 o (Ne.symm hSl1) (hkp l1 o D.l1z D.l1TO D.l1i1 D.l1i2 e)) (hl2.at fun o e=>up l2 o (Ne.symm hSl2) (hkp l2 o D.l2z D.l2TO D.l2i1 D.l2i2 e))
   (fun b o g0 g1 g2 g3 g4 e=>up b o g0 (hkp b o g1 g2 g3 g4 (hkeep b o g0 g1 g2 g3 g4 e))) (Heap.get?_update_self _ hS' rfl) (by rw[Array.toList_push,hacc,List.map_append];rfl) (by rw[List.length_append,hal];rfl) ⟨?_,?_,?_⟩⟩) (by rw[hsz];omega) (by show (acc.push (Value.ref h.objs.size)).size<=sizeLine+1;rw[Array.size_push,hsz];omega)
  ·intro a ha;rcases List.mem_append.mp ha with ha | ha
   ·exact hG.above a ha
   ·rw[List.mem_singleton.mp ha];exact hSl
  ·refine List.pairwise_append.mpr ⟨hG.rise,List.pairwise_singleton _ _,fun a ha b hb=>?_⟩;rw[List.mem_singleton.mp hb];exact hG.there ha
  ·intro j b hj;rcases Nat.lt_trichotomy j as.length with h1 | h1 | h1
   ·rw[List.getElem?_append_left h1] at hj;obtain⟨x',y',e1,e2,e3⟩:=hG.pairs j b hj;have hb:=hG.above b (List.mem_of_getElem? hj);exact⟨x',y',e1,e2,up b _ (Nat.ne_of_gt hb) (hkp b _ (Nat.ne_of_gt (Nat.lt_trans z1 hb)) (Nat.ne_of_gt (Nat.lt_trans z3 hb)) (Nat.ne_of_gt (Nat.lt_trans z4 hb)) (Nat.ne_of_gt (Nat.lt_trans z5 hb)) e3)⟩
   ·subst h1;have hb:h.objs.size=b:=by simpa using hj
    subst hb;exact⟨_,_,by rw[hal];exact Array.getElem?_eq_getElem hlt1,by rw[hal];exact Array.getElem?_eq_getElem hlt2,up _ _ (Nat.ne_of_gt hSl) ht⟩
   ·have hnone:(as++[h.objs.size])[j]? = none:=List.getElem?_eq_none (by rw[List.length_append,List.length_singleton];omega)
    rw[hnone] at hj;cases hj
theorem Zik:typeLookup (.type "zip") "__len__"=pure none:=by rw[typeLookup_type,builtinLookup_eq_fast];kernel_rfl
theorem Zgi:typeLookup (.type "zip") "__length_hint__"=pure none:=by rw[typeLookup_type,builtinLookup_eq_fast];kernel_rfl
theorem Zff{z:Addr}(hT:s.TypeIs (.ref z) "zip"){Q:Bool->Shared->Prop}(h:Q true s):wpAny (model prog w) A (Builtin.List.listLengthHint (.ref z)) Q E s:=by
 unfold Builtin.List.listLengthHint;refine wpAny_bind (wpAny_specialOf hT Zik ?_);dsimp only;rw[if_neg (by decide)]
 rw[if_neg (by simp)]
 refine wpAny_bind (wpAny_specialOf hT Zgi ?_);exact wpAny_pure h
theorem Zcc{R:Result->Shared->Prop}{z TI TO i1 i2 l1 l2 S:Addr}{xs ys:Array Value}(hh:A.handled=none)(D:ZipApart z TI TO i1 i2 l1 l2)(hz:IsZip s.heap z TI TO .none)(hTI:IsPair s.heap TI (.ref i1) (.ref i2))(hTO:∃ a b,IsPair s.heap TO a b)(h1:s.heap.IsListIter i1 l1 0)(h2:s.heap.IsListIter i2 l2 0)(hl1:s.heap.IsList l1 xs)(hl2:s.heap.IsList l2 ys)
  (hS5:S≠z/\S≠TI/\S≠TO/\S≠i1/\S≠i2) (hSl1:S≠l1) (hSl2:S≠l2) (hz5:z<S/\TO<S/\i1<S/\i2<S) (hn:min xs.size ys.size<=sizeLine) (res:Value) (c₀:Nat) (hS:s.heap.get? S=some { cls:=.type "list",data:=.seq #[] c₀ })
  (hR:∀ h' tk acc c as,(∀ b o,b≠S->b≠z->b≠TO->b≠i1->b≠i2->s.heap.get? b=some o->h'.get? b=some o)->h'.get? S=some { cls:=.type "list",dict:=none,data:=.seq acc c,slots:=#[] }->as.length=min xs.size ys.size->ZG xs ys S h' as ->
   acc.toList=as.map Value.ref->R (.ok (.ret res)) { s with heap:=h',toks:=tk }):
  wpAny (model prog w) A.in1 (Builtin.List.listExtendWith (.ref S) (.ref z) res)
   (fun fin s'=>match fin with | .done f=>R (.ok f) s' | .again c'=>c'.quiet=true/\codeAny (model prog w) A c' R s') (fun e s'=>R (.error e) s') s:=by
 have hT:s.TypeIs (.ref z) "zip":=⟨_,hz,rfl⟩;have N0:ZOut s.heap z TI TO i1 i2 l1 l2 S 0:=⟨.inl ⟨rfl,hz⟩,hTI,hTO,h1,h2⟩;have key:∀ (h:Heap) (c₁ tk:Nat),(∀ b o,b≠S->s.heap.get? b=some o->h.get? b=some o)->h.get? S=some { cls:=.type "list",data:=.seq #[] c₁ } ->
   codeAny (model prog w) A (.builtin "list.extend.loop" ⟨[.ref S,.ref z,res],[]⟩) R { s with heap:=h,toks:=tk }:=by
  intro h c₁ tk hk hS₁;refine Zfc (s:=s) (h₁:=s.heap) hh D hS5 hSl1 hSl2 hz5 hn res hR (min xs.size ys.size) 0 h tk c₁ #[] [] (Nat.sub_zero _) (Nat.zero_le _) (N0.keep hk hS5) (hl1.at fun o e=>hk l1 o (Ne.symm hSl1) e) (hl2.at fun o e=>hk l2 o (Ne.symm hSl2) e) (fun b o hb _ _ _ _ e=>hk b o hb e) hS₁ rfl rfl
   ⟨(fun _ ha=>nomatch ha),List.Pairwise.nil,(fun j a hj=>by simp at hj)⟩
 unfold Builtin.List.listExtendWith;refine wpAny_bind (wpAny_typeOf hT ?_);have q1:Builtin.List.listSameRef (.ref S) (.ref z)=false:=by simp[Builtin.List.listSameRef,hS5.1]
 have q2:(Value.type "zip" == Value.type "list")=false:=by decide
 have q3:(Value.type "zip" == Value.type "tuple")=false:=by decide
 simp only[q1,q2,q3,Bool.or_false,Bool.false_eq_true,if_false];refine wpAny_bind (wpAny_pyIter_zip hz ?_);refine wpAny_bind (wpAny_holding (Zff hT ?_));refine wpAny_ite_split (fun _=>?_) (fun _=>wpAny_pure ⟨plainId_quiet PySem.F.plain_extend_loop _,key s.heap c₀ _ (fun b o _ e=>e) hS⟩);refine wpAny_bind (wpAny_rule ?_);refine wpAny_bind ?_;show wpAny _ _ (updateSeq S (·.push .none) >>= fun _=>updateSeq S (·.pop)) _ _ _;refine wpAny_bind (wpAny_updateSeq hS rfl ?_);have hS₂:=Heap.get?_update_self (Obj.mapSeq (·.push Value.none)) hS rfl;refine wpAny_updateSeq (hz:=by seq_fits) hS₂ rfl ?_
 have hS₃:=Heap.get?_update_self (Obj.mapSeq (·.pop)) hS₂ rfl;refine wpAny_pure ⟨plainId_quiet PySem.F.plain_extend_loop _,key _ _ _ (fun b o hb e=>?_) hS₃⟩;exact (Heap.get?_update_other _ _ (Ne.symm hb)).trans ((Heap.get?_update_other _ _ (Ne.symm hb)).trans e)
theorem Zfe{R:Result->Shared->Prop}{z TI TO i1 i2 l1 l2 S:Addr}{xs ys:Array Value}(hh:A.handled=none)(D:ZipApart z TI TO i1 i2 l1 l2)(hz:IsZip s.heap z TI TO .none)(hTI:IsPair s.heap TI (.ref i1) (.ref i2))(hTO:∃ a b,IsPair s.heap TO a b)(h1:s.heap.IsListIter i1 l1 0)(h2:s.heap.IsListIter i2 l2 0)(hl1:s.heap.IsList l1 xs)(hl2:s.heap.IsList l2 ys)
  (hS5:S≠z/\S≠TI/\S≠TO/\S≠i1/\S≠i2) (hSl1:S≠l1) (hSl2:S≠l2) (hz5:z<S/\TO<S/\i1<S/\i2<S) (hn:min xs.size ys.size<=sizeLine) (hS:s.heap.get? S=some { cls:=.type "list",data:=.seq #[] })
  (hR:∀ h' tk acc c as,(∀ b o,b≠S->b≠z->b≠TO->b≠i1->b≠i2->s.heap.get? b=some o->h'.get? b=some o)->h'.get? S=some { cls:=.type "list",dict:=none,data:=.seq acc c,slots:=#[] }->as.length=min xs.size ys.size->ZG xs ys S h' as ->
   acc.toList=as.map Value.ref->R (.ok (.ret .none)) { s with heap:=h',toks:=tk }):
  wpAny (model prog w) A.in1 (Builtin.«list.__init__» ⟨[.ref S,.ref z],[]⟩)
   (fun fin s'=>match fin with | .done f=>R (.ok f) s' | .again c'=>c'.quiet=true/\codeAny (model prog w) A c' R s') (fun e s'=>R (.error e) s') s:=by
 show wpAny _ _ (do let old ← Builtin.List.listItems (.ref S);Builtin.List.listUpdate (.ref S) (fun _=>#[]);letGo old.toList.reverse;Builtin.List.listExtendWith (.ref S) (.ref z) .none) _ _ s
 refine wpAny_bind ?_;unfold Builtin.List.listItems;refine wpAny_bind (wpAny_seqItems hS rfl (wpAny_pure ?_));show wpAny _ _ (updateSeq S (fun _=>#[]) >>= fun _=>letGo (#[]:Array Value).toList.reverse >>= fun _=>Builtin.List.listExtendWith (.ref S) (.ref z) .none) _ _ s;refine wpAny_bind (wpAny_updateSeq hS rfl ?_);have hS₂:=Heap.get?_update_self (Obj.mapSeq (fun _=>(#[]:Array Value))) hS rfl;have oth:∀ b o,b≠S->s.heap.get? b=some o->(s.heap.update S (Obj.mapSeq (fun _=>(#[]:Array Value)))).get? b=some o:=
  fun b o hb e=>(Heap.get?_update_other _ _ (Ne.symm hb)).trans e
 refine wpAny_bind (wpAny_letGo ?_);obtain⟨s1,s2,s3,s4,s5⟩:=hS5;obtain⟨a0,b0,hTO⟩:=hTO;exact Zcc hh D (oth _ _ (Ne.symm s1) hz) (oth _ _ (Ne.symm s2) hTI) ⟨a0,b0,oth _ _ (Ne.symm s3) hTO⟩ (h1.at fun o e=>oth _ o (Ne.symm s4) e) (h2.at fun o e=>oth _ o (Ne.symm s5) e) (hl1.at fun o e=>oth _ o (Ne.symm hSl1) e) (hl2.at fun o e=>oth _ o (Ne.symm hSl2) e)
  ⟨s1,s2,s3,s4,s5⟩ hSl1 hSl2 hz5 hn .none _ hS₂ fun h' tk acc c as hk hS' hl hG hacc=>hR h' tk acc c as (fun b o g0 g1 g2 g3 g4 e=>hk b o g0 g1 g2 g3 g4 (oth b o g0 e)) hS' hl hG hacc
theorem Zfd{z TI TO i1 i2 l1 l2:Addr}{xs ys:Array Value}{Q:Value->Shared->Prop}(hh:A.handled=none)(D:ZipApart z TI TO i1 i2 l1 l2)(hz:IsZip s.heap z TI TO .none)(hTI:IsPair s.heap TI (.ref i1) (.ref i2))(hTO:∃ a b,IsPair s.heap TO a b)(h1:s.heap.IsListIter i1 l1 0)(h2:s.heap.IsListIter i2 l2 0)(hl1:s.heap.IsList l1 xs)(hl2:s.heap.IsList l2 ys)(hn:min xs.size ys.size<=sizeLine)
  (hQ:∀ h' tk acc c as,(∀ b o,b≠z->b≠TO->b≠i1->b≠i2->s.heap.get? b=some o->h'.get? b=some o)->h'.get? s.heap.objs.size=some { cls:=.type "list",dict:=none,data:=.seq acc c,slots:=#[] }->as.length=min xs.size ys.size->ZG xs ys s.heap.objs.size h' as ->
   acc.toList=as.map Value.ref->Q (.ref s.heap.objs.size) { s with heap:=h',toks:=tk }):
  wpAny (model prog w) A (call (.type "list") [.ref z]) Q E s:=by
 refine callType_codes (Q₁:=fun obj s₁=>obj=.ref s.heap.objs.size/\s₁={ s with heap:=s.heap.push { cls:=.type "list",data:=.seq #[] } }) PySem.F.called_list (PySem.F.typeCall_list_1 _) PySem.F.entry_list_init
  (code_list_new _ ⟨rfl,rfl⟩) fun obj s₁ h₁=>?_
 obtain⟨rfl,rfl⟩:=h₁;have hS:(s.heap.push { cls:=.type "list",data:=.seq #[] }).get? s.heap.objs.size=some { cls:=.type "list",data:=.seq #[] }:=Heap.get?_push_size _ rfl;have lt:∀ c o,s.heap.get? c=some o->c<s.heap.objs.size:=fun c o e=>Heap.lt_size e;obtain⟨a0,b0,hTO⟩:=hTO;obtain⟨o1,e1,r1⟩:=id h1;obtain⟨o2,e2,r2⟩:=id h2;obtain⟨o3,e3,r3⟩:=id hl1;obtain⟨o4,e4,r4⟩:=id hl2;refine⟨⟨_,hS,rfl⟩,PySem.F.args_list_init_2 _ _,Zfe (A:=A.in1) hh D (Heap.get?_push_of_some _ hz) (Heap.get?_push_of_some _ hTI) ⟨a0,b0,Heap.get?_push_of_some _ hTO⟩ (h1.at fun o e=>Heap.get?_push_of_some _ e) (h2.at fun o e=>Heap.get?_push_of_some _ e) (hl1.at fun o e=>Heap.get?_push_of_some _ e) (hl2.at fun o e=>Heap.get?_push_of_some _ e)
  ⟨Nat.ne_of_gt (lt _ _ hz),Nat.ne_of_gt (lt _ _ hTI),Nat.ne_of_gt (lt _ _ hTO),Nat.ne_of_gt (lt _ _ e1),Nat.ne_of_gt (lt _ _ e2)⟩ (Nat.ne_of_gt (lt _ _ e3)) (Nat.ne_of_gt (lt _ _ e4)) ⟨lt _ _ hz,lt _ _ hTO,lt _ _ e1,lt _ _ e2⟩ hn hS fun h' tk acc c as hk hS' hl hG hacc=>?_⟩
 exact⟨rfl,hQ h' tk acc c as (fun b o g1 g2 g3 g4 e=>hk b o (Nat.ne_of_lt (lt b o e)) g1 g2 g3 g4 (Heap.get?_push_of_some _ e)) hS' hl hG hacc⟩
end
end KS
end
section
namespace KS
open PySem PySem.Spec L2
open PyProof.Rows hiding St
section
variable{X:Cx}{pins:List (Addr×Obj)}{σ:St}{H:Hp}{s:Shared}{h':Heap}
theorem laidMany{H':Hp}{t':Nat}(I:L2.Inv X pins σ H s)(k:∀ b u,s.heap.get? b=some u->h'.get? b=some u)(low:∀ b,b<s.heap.objs.size->H' b=H b)(new:∀ b u,s.heap.objs.size<=b->H' b=some u->ObjOk X.prog X.w H' h' b u):
  L2.Inv X pins σ H' { s with heap:=h',toks:=t' }:=by
 have lt:∀ b u,H b=some u->b<s.heap.objs.size:=fun b u e=>by
  obtain⟨ob,ho⟩:=ObjOk.there (I.hok b u e);exact Heap.lt_size ho
 have same:∀ b u,H b=some u->H' b=some u:=fun b u e=>by rw[low b (lt b u e)];exact e
 refine I.step (g':=s.gens) (d':=s.drawn) (ch:=[]) (fun _ z=>nomatch z) (fun b o _ _ _ e _=>k b o e) (fun b o _ _ _ e _=>⟨o.slots,k b o e⟩) (fun b o _ e n=>by rw[low b (Heap.lt_size e)];exact n)
  (fun b o _ e=>⟨o,k b o e⟩) (fun b xs e=>same b _ e) (fun b u xs e=>same b _ e) (fun b ps e=>⟨#[],by rw[same b _ e];simp⟩) (fun m hm=>?_) (fun b u e=>?_) I.bare
 ·obtain⟨o,es,ep,ho,r⟩:=hm;exact⟨o,es,ep,k _ o ho,r⟩
 ·rcases Nat.lt_or_ge b s.heap.objs.size with g | g
  ·rw[low b g] at e;exact (I.hok b u e).stay (fun c v _ q=>k c v q) (fun c q=>same c _ q) fun c xs q=>same c _ q
  ·exact new b u g e
end
section
variable{X:Cx}
noncomputable def tListZip(K:PySem.W.Frag)(ta:TA):TE:=fun σ H Q=>ta σ H fun vs H1=>∃ a b xs ys,vs=[.ref a,.ref b]/\SqL K H1 a xs/\SqL K H1 b ys /\
 ∀ (p:Addr) (as:List Addr) (H':Hp),Same H1 H'->H1 p=none->H' p=some (.lst (as.map V.ref))->Paired (fun (r:Addr) (xy:V×V)=>H' r=some (.tup [xy.1,xy.2])) as (xs.zip ys)->Q (.ref p) H'
theorem Zcy{H:Hp}{xs ys:List V}:∀ (as:List Addr),as.length=min xs.length ys.length->(∀ (j:Nat) (a:Addr) (x y:V),as[j]? = some a->xs[j]? = some x->ys[j]? = some y->H a=some (.tup [x,y]))->Paired (fun (r:Addr) (xy:V×V)=>H r=some (.tup [xy.1,xy.2])) as (xs.zip ys):=by
 induction xs generalizing ys with
 | nil=>
  intro as hl _;have:as=[]:=List.length_eq_zero_iff.mp (by simpa using hl)
  subst this;exact .nil
 | cons x xs ih=>
  intro as hl h;cases ys with
  | nil=>
   have:as=[]:=List.length_eq_zero_iff.mp (by simpa using hl)
   subst this;exact .nil
  | cons y ys=>
   cases as with
   | nil=>simp at hl
   | cons a as=>
    refine .cons (h 0 a x y rfl rfl rfl) (ih as (by simp at hl ⊢;omega) fun j b u v e1 e2 e3=>h (j+1) b u v (by simpa using e1) (by simpa using e2) (by simpa using e3))
theorem Zcl{a b:Expr}{ta:TA}{p q pos pos':Pos}(hc:X.calm=true)(hg:Gl X "list")(hm:X.mg "list"=none)(hg2:Gl X "zip")(hm2:X.mg "zip"=none)(ha:PA X [a,b] ta)
  (hs:starEach [a,b] X.env=[(false,eval a X.env),(false,eval b X.env)]:=by rfl) (hs2:starEach [b] X.env=[(false,eval b X.env)]:=by rfl)
  (hs3:starEach [Expr.Call (.Name "zip" p) [a,b] [] pos] X.env=[(false,eval (Expr.Call (.Name "zip" p) [a,b] [] pos) X.env)]:=by rfl):
  PE X (.Call (.Name "list" q) [.Call (.Name "zip" p) [a,b] [] pos] [] pos') (tListZip X.K ta):=by
 intro pins s σ H Q I h;refine wpAny_Call_Name_kw (Wf I hg hm PyProof.Rows.boot_list ?_);refine PyProof.Rows.callWith_type1 ?_ (by rw[hs3];rfl) rfl
 rw[hs3];refine Calls.spliced_cons (wpAny_Call_Name_kw (Wf I hg2 hm2 PyProof.Rows.boot_zip (PyProof.Rows.callWith_type1 (thn (ha pos pins s σ H _ I h) fun us s1 ⟨vs,H1,I1,r1,q1⟩=>?_) (by rw[hs,hs2]) (by rw[hs2];rfl))))
 obtain⟨l1,l2,xs,ys,e,hq1,hq2,q⟩:=q1;subst e;cases r1 with
 | cons r rr=>
  cases rr with
  | cons r' rr=>
   cases rr;cases r;cases r';obtain⟨its1,rv1,p1,hz1⟩:=I1.list hq1;obtain⟨its2,rv2,p2,hz2⟩:=I1.list hq2;have n1:=rv1.length;have n2:=rv2.length;have hl1:l1<s1.heap.objs.size:=by obtain⟨o,ho,_⟩:=p1.isList;exact Heap.lt_size ho
   have hl2:l2<s1.heap.objs.size:=by obtain⟨o,ho,_⟩:=p2.isList;exact Heap.lt_size ho
   refine call_zip_2 p1.isList p2.isList fun h1 hz hTI hTO hi1 hi2 hsz hk=>?_;refine Calls.spliced_nil ?_;refine Zfd (s:={ s1 with heap:=h1 }) (I1.ok.hd hc) (PyProof.Rows.zipApart_new hl1 hl2) hz hTI ⟨_,_,hTO⟩ hi1 hi2 (p1.isList.at fun o e=>hk _ o e) (p2.isList.at fun o e=>hk _ o e) (by simp;omega) fun h' tk acc c as hk' hD hal hG hacc=>?_
   have hk2:∀ b o,s1.heap.get? b=some o->h'.get? b=some o:=fun b o e=>by
    have hb:=Heap.lt_size e;exact hk' b o (Nat.ne_of_lt (Nat.lt_of_lt_of_le hb (Nat.le_add_right _ _))) (Nat.ne_of_lt (Nat.lt_of_lt_of_le hb (Nat.le_add_right _ _))) (Nat.ne_of_lt hb) (Nat.ne_of_lt (Nat.lt_of_lt_of_le hb (Nat.le_add_right _ _))) (hk b o e)
   have hsz':({ s1 with heap:=h1 }:Shared).heap.objs.size=s1.heap.objs.size+5:=hsz
   generalize hP:({ s1 with heap:=h1 }:Shared).heap.objs.size=P at hD hG hsz' ⊢
   have hPge:s1.heap.objs.size<=P:=by rw[hsz'];exact Nat.le_add_right _ _
   have hmin:as.length=min xs.length ys.length:=by rw[hal];simp;omega
   have hget:∀ (j:Nat) (a:Addr) (x y:V),as[j]? = some a->xs[j]? = some x->ys[j]? = some y->∃ u v,RelV x u/\RelV y v/\IsPair h' a u v:=fun j a x y ea ex ey=>by
    obtain⟨u,v,eu,ev,hp⟩:=hG.pairs j a ea;obtain⟨u',hu',ru⟩:=rv1.get ex;obtain⟨v',hv',rv⟩:=rv2.get ey;have e1:its1[j]? = some u:=by simpa using eu
    have e2:its2[j]? = some v:=by simpa using ev
    rw[e1] at hu';rw[e2] at hv';cases hu';cases hv';exact⟨u,v,ru,rv,hp⟩
   have nd:as.Nodup:=hG.rise.imp fun h=>Nat.ne_of_lt h;have hidx:∀ a∈as,∃ x y j,as[j]? = some a/\xs[j]? = some x/\ys[j]? = some y:=fun a ha=>by
    obtain⟨j,hj⟩:=List.getElem?_of_mem ha;have hjl:=(List.getElem?_eq_some_iff.mp hj).1;have h1:j<xs.length:=by omega
    have h2:j<ys.length:=by omega
    exact⟨xs[j],ys[j],j,hj,List.getElem?_eq_getElem h1,List.getElem?_eq_getElem h2⟩
   let H2:Hp:=fun b=>if b=P then some (.lst (as.map V.ref)) else if b∈as then some (.tup [xs.getD (as.idxOf b) .non,ys.getD (as.idxOf b) .non]) else H1 b
   have above:∀ a∈as,P<a:=hG.above;have low:∀ b,b<s1.heap.objs.size->H2 b=H1 b:=fun b hb=>by
    show (if b=P then _ else if b∈as then _ else H1 b)=H1 b
    rw[if_neg (Nat.ne_of_lt (Nat.lt_of_lt_of_le hb hPge)),if_neg fun hm=>absurd (above b hm) (Nat.not_lt.mpr (Nat.le_of_lt (Nat.lt_of_lt_of_le hb hPge)))]
   have atP:H2 P=some (.lst (as.map V.ref)):=if_pos rfl;have atA:∀ (j:Nat) (a:Addr) (x y:V),as[j]? = some a->xs[j]? = some x->ys[j]? = some y->H2 a=some (.tup [x,y]):=fun j a x y ea ex ey=>by
    have hm:=List.mem_of_getElem? ea;show (if a=P then _ else if a∈as then _ else H1 a)=_
    rw[if_neg (Nat.ne_of_gt (above a hm)),if_pos hm];have hj:as.idxOf a=j:=by
     obtain⟨hlt,he⟩:=List.getElem?_eq_some_iff.mp ea;have h1:as.idxOf a<as.length:=List.idxOf_lt_length_iff.mpr hm;have h2:=List.getElem_idxOf h1;exact (List.getElem_inj nd).mp (h2.trans he.symm)
    rw[hj,List.getD_eq_getElem?_getD,List.getD_eq_getElem?_getD,ex,ey];rfl
   have I2:L2.Inv X pins σ H2 { s1 with heap:=h',toks:=tk }:=laidMany I1 hk2 low fun b u hb e=>by
    have e':(if b=P then some (HO.lst (as.map V.ref)) else if b∈as then some (.tup [xs.getD (as.idxOf b) .non,ys.getD (as.idxOf b) .non]) else H1 b)=some u:=e
    by_cases hbP:b=P
    ·rw[if_pos hbP] at e';cases e';subst hbP;refine⟨by rw[List.length_map];omega,as.map Value.ref,c,?_,by rw[hD];simp[← hacc]⟩
     exact U6 as
    ·rw[if_neg hbP] at e';by_cases hba:b∈as
     ·obtain⟨x,y,j,ea,ex,ey⟩:=hidx b hba;have:=atA j b x y ea ex ey;rw[e] at this;cases this;obtain⟨u',v',ru,rv,hp⟩:=hget j b x y ea ex ey;exact⟨by show 2<=sizeLine;decide,[u',v'],.cons ru (.cons rv .nil),_,hp,rfl,_,rfl⟩
     ·rw[if_neg hba] at e';rw[I1.hok.fresh hb] at e';cases e'
   have sm:Same H1 H2:=fun b u e=>by
    obtain⟨ob,ho⟩:=ObjOk.there (I1.hok b u e);rw[low b (Heap.lt_size ho)];exact e
   exact⟨.ref P,H2,I2,rfl,q P as H2 sm (I1.hok.fresh hPge) atP (Zcy as hmin fun j a x y ea ex ey=>atA j a x y ea ex ey)⟩
end
end KS
end
section
namespace KP
structure Rnd(r:Nat->Nat->Prop)(c:List Nat):Prop where
 ne:c≠[]
 nd:c.Nodup
 st:∀ (i:Nat) (x y:Nat),c[i]? = some x->c[i+1]? = some y->r x y
 cl:∀ (x y:Nat),c[c.length - 1]? = some x->c[0]? = some y->r x y
noncomputable def Fwd(r:Nat->Nat->Prop)(C:List Nat):Prop:=∀ x∈C,∃ y∈C,r x y
theorem Rnd.fwd{r:Nat->Nat->Prop}{c:List Nat}(h:Rnd r c):Fwd r c:=by
 intro x hx;obtain⟨i,hi⟩:=List.getElem?_of_mem hx;have hl:=(List.getElem?_eq_some_iff.mp hi).1;by_cases hn:i+1<c.length
 ·exact⟨c[i+1],List.getElem_mem hn,h.st i x _ hi (by simp[hn])⟩
 ·have e:i=c.length - 1:=by omega
  have h0:0<c.length:=by omega
  exact⟨c[0],List.getElem_mem h0,h.cl x _ (e▸hi) (by simp[h0])⟩
theorem Ug{α:Type}[DecidableEq α]:∀ {l m:List α},l.Nodup->(∀ x∈l,x∈m)->l.length<=m.length
 | [],_,_,_=>Nat.zero_le _
 | a::l,m,nd,h=>by
  have ha:=h a List.mem_cons_self;have nd':=List.nodup_cons.mp nd;have:=Ug (l:=l) (m:=m.erase a) nd'.2 fun x hx=>by
   have hne:x≠a:=fun e=>nd'.1 (e▸hx);exact (List.mem_erase_of_ne hne).mpr (h x (List.mem_cons_of_mem _ hx))
  rw[List.length_erase_of_mem ha] at this;have hp:0<m.length:=List.length_pos_of_mem ha;simp only[List.length_cons];omega
structure Wk(r:Nat->Nat->Prop)(S w:List Nat)(x:Nat):Prop where
 nd:w.Nodup
 sub:∀ y∈w,y∈S
 at_:x∈S
 st:∀ (i:Nat) (a b:Nat),w[i]? = some a->w[i+1]? = some b->r a b
 la:∀ a,w[w.length - 1]? = some a->r a x
theorem Wk.start{r:Nat->Nat->Prop}{S:List Nat}{x:Nat}(h:x∈S):Wk r S [] x:=
 ⟨List.nodup_nil,(fun _ h=>nomatch h),h,(fun i a b e=>by simp at e),(fun a e=>by simp at e)⟩
theorem Wk.step{r:Nat->Nat->Prop}{S w:List Nat}{x y:Nat}(h:Wk r S w x)(hx:x∉w)(hy:y∈S)(hr:r x y):Wk r S (w++[x]) y where
 nd:=List.nodup_append.mpr ⟨h.nd,List.nodup_cons.mpr ⟨(fun z=>nomatch z),List.nodup_nil⟩,fun a ha b hb=>by
  rw[List.mem_singleton.mp hb];exact fun e=>hx (e▸ha)⟩
 sub:=fun z hz=>(List.mem_append.mp hz).elim (h.sub z) fun q=>by rw[List.mem_singleton.mp q];exact h.at_
 at_:=hy
 st:=fun i a b e1 e2=>by
  have hl:=(List.getElem?_eq_some_iff.mp e2).1;rw[List.length_append,List.length_singleton] at hl;rw[List.getElem?_append_left (by omega)] at e1
  by_cases hi:i+1<w.length
  ·rw[List.getElem?_append_left hi] at e2;exact h.st i a b e1 e2
  ·have e:i+1=w.length:=by omega
   rw[List.getElem?_append_right (by omega),e,Nat.sub_self] at e2
   cases e2;exact h.la a (by rw[← e,Nat.add_sub_cancel];exact e1)
 la:=fun a e=>by
  rw[List.length_append,List.length_singleton,Nat.add_sub_cancel,List.getElem?_append_right (Nat.le_refl _),Nat.sub_self] at e;cases e;exact hr
theorem Wk.len{r:Nat->Nat->Prop}{S w:List Nat}{x:Nat}(h:Wk r S w x):w.length<=S.length:=Ug h.nd h.sub
theorem Wk.round{r:Nat->Nat->Prop}{S w:List Nat}{x j:Nat}(h:Wk r S w x)(hj:w[j]? = some x):Rnd r (w.drop j):=by
 have hl:=(List.getElem?_eq_some_iff.mp hj).1;have len:(w.drop j).length=w.length - j:=List.length_drop;refine⟨fun e=>?_,h.nd.sublist (List.drop_sublist _ _),fun i a b e1 e2=>?_,fun a b e1 e2=>?_⟩
 ·have:=congrArg List.length e;rw[len] at this;simp only[List.length_nil] at this;omega
 ·rw[List.getElem?_drop] at e1 e2;exact h.st (j+i) a b e1 (by rw[Nat.add_assoc];exact e2)
 ·rw[len,List.getElem?_drop,show j+(w.length - j - 1)=w.length - 1 by omega] at e1
  rw[List.getElem?_drop,Nat.add_zero,hj] at e2;cases e2;exact h.la a e1
theorem X9{r:Nat->Nat->Prop}{S:List Nat}(hS:Fwd r S):∀ (n:Nat) (w:List Nat) (x:Nat),S.length - w.length<=n->Wk r S w x->∃ c,Rnd r c/\∀ y∈c,y∈S
 | n,w,x,hn,h=>by
  by_cases hx:x∈w
  ·obtain⟨j,hj⟩:=List.getElem?_of_mem hx;exact⟨w.drop j,h.round hj,fun y hy=>h.sub y (List.mem_of_mem_drop hy)⟩
  ·obtain⟨y,hy,hr⟩:=hS x h.at_;have h2:=h.step hx hy hr;have l1:=h2.len;rw[List.length_append,List.length_singleton] at l1;cases n with
   | zero=>omega
   | succ n=>exact X9 hS n _ y (by rw[List.length_append,List.length_singleton];omega) h2
theorem round_fwd{r:Nat->Nat->Prop}{S:List Nat}(hS:Fwd r S)(hne:S≠[]):∃ c,Rnd r c/\∀ y∈c,y∈S:=by
 cases S with
 | nil=>exact absurd rfl hne
 | cons a S=>exact X9 hS _ [] a (Nat.le_refl _) (Wk.start List.mem_cons_self)
theorem filter_same{α:Type}{p:α->Bool}:∀ {l:List α},(l.filter p).length=l.length->l.filter p=l
 | [],_=>rfl
 | a::l,h=>by
  have hle:=List.length_filter_le p l;cases e:p a with
  | true=>
   rw[List.filter_cons_of_pos e] at h ⊢;rw[filter_same (by simpa using h)]
  | false=>
   rw[List.filter_cons_of_neg (by simp[e]),List.length_cons] at h
   omega
end KP
end
section
namespace KP
noncomputable def tab:List (List Nat):=[[0,0,0,0,0,0,0,0,0,0,0,0,0],[0,0,1,2,4,6,9,12,16,20,25,30,36],[0,0,1,3,5,8,12,16,21,27,33,40,48],[0,0,1,3,6,9,13,18,24,30,37,45,54],[0,0,1,3,6,10,14,19,25,32,40,48,57],[0,0,1,3,6,10,15,20,26,33,41,50,60],[0,0,1,3,6,10,15,21,27,34,42,51,61],[0,0,1,3,6,10,15,21,28,35,43,52,62]]
noncomputable def F(L n:Nat):Nat:=(tab.getD L []).getD n 0
theorem Zj1:∀ L,L<7->∀ n,n<=12->∀ k,k<=n->F L (n - k)+k * (n - k)<=F (L+1) n:=by decide +kernel
noncomputable def cnt(l:List Nat):Nat:=(l.map fun a=>l.countP fun b=>decide (b<a)).sum
theorem Wr{α:Type}(p:α->Bool)(f:α->Nat):∀ (l:List α),(l.map f).sum=((l.filter p).map f).sum+((l.filter fun x=>!p x).map f).sum
 | []=>rfl
 | a::l=>by
  have ih:=Wr p f l;cases e:p a with
  | true=>
   rw[List.filter_cons_of_pos e,List.filter_cons_of_neg (by simp[e])]
   simp only[List.map_cons,List.sum_cons];omega
  | false=>
   rw[List.filter_cons_of_neg (by simp[e]),List.filter_cons_of_pos (by simp[e])]
   simp only[List.map_cons,List.sum_cons];omega
theorem Yu{α:Type}(c:Nat):∀ (l:List α),(l.map fun _=>c).sum=l.length * c
 | []=>by simp
 | a::l=>by
  simp only[List.map_cons,List.sum_cons,List.length_cons,Yu c l,Nat.succ_mul];omega
theorem countP_filter'{α:Type}(p q:α->Bool):∀ (l:List α),(∀ x∈l,p x=true->q x=true)->l.countP p=(l.filter q).countP p
 | [],_=>rfl
 | a::l,h=>by
  have ih:=countP_filter' p q l fun x hx=>h x (List.mem_cons_of_mem _ hx);cases e:q a with
  | true=>
   rw[List.filter_cons_of_pos e,List.countP_cons,List.countP_cons,ih]
  | false=>
   have hp:p a=false:=by
    cases z:p a with
    | false=>rfl
    | true=>have:=h a List.mem_cons_self z;rw[e] at this;cases this
   rw[List.filter_cons_of_neg (by simp[e]),List.countP_cons,ih,hp]
   simp
theorem Zhs:∀ (L:Nat) (l:List Nat),L<=7->l.length<=12->(∀ x∈l,x<L+1)->cnt l<=F L l.length
 | 0,l,_,_,h=>by
  have:cnt l=(l.map fun _=>0).sum:=by
   unfold cnt
   congr 1
   refine List.map_congr_left fun a ha=>?_;rw[List.countP_eq_zero];intro b _;have:=h a ha;have:¬ b<a:=by omega
   simp[this]
  rw[this,Yu,Nat.mul_zero];exact Nat.zero_le _
 | L+1,l,hL,hn,h=>by
  have hr:∀ x∈l.filter (fun x=>!decide (x=L+1)),x<L+1:=fun x hx=>by
   obtain⟨h1,h2⟩:=List.mem_filter.mp hx;have:=h x h1;have:x≠L+1:=by simpa using h2
   omega
  have ih:=Zhs L _ (by omega) (Nat.le_trans (List.length_filter_le _ _) hn) hr
  have hlen:l.length=(l.filter (fun x=>decide (x=L+1))).length+(l.filter (fun x=>!decide (x=L+1))).length:=by
   have:=Wr (fun x=>decide (x=L+1)) (fun _=>1) l;rw[Yu,Yu,Yu] at this;omega
  have top:((l.filter (fun x=>decide (x=L+1))).map fun a=>l.countP fun b=>decide (b<a)).sum=(l.filter (fun x=>decide (x=L+1))).length * (l.filter (fun x=>!decide (x=L+1))).length:=by
   rw[← Yu]
   congr 1
   refine List.map_congr_left fun a ha=>?_;have ea:a=L+1:=by simpa using (List.mem_filter.mp ha).2
   rw[ea,List.countP_eq_length_filter]
   congr 1
   refine List.filter_congr fun x hx=>?_;have:=h x hx;by_cases e:x=L+1
   ·rw[e];simp
   ·have:x<L+1:=by omega
    simp[e,this]
  have low:((l.filter (fun x=>!decide (x=L+1))).map fun a=>l.countP fun b=>decide (b<a)).sum=cnt (l.filter (fun x=>!decide (x=L+1))):=by
   unfold cnt
   congr 1
   refine List.map_congr_left fun a ha=>?_;refine countP_filter' _ _ l fun x hx hp=>?_;have:=hr a ha;have:x<a:=by simpa using hp
   have:x≠L+1:=by omega
   simp[this]
  have tot:cnt l=(l.filter (fun x=>decide (x=L+1))).length * (l.filter (fun x=>!decide (x=L+1))).length+cnt (l.filter (fun x=>!decide (x=L+1))):=by
   unfold cnt at low ⊢;rw[Wr (fun x=>decide (x=L+1)),top,low]
  have st:=Zj1 L (by omega) l.length hn (l.filter (fun x=>decide (x=L+1))).length (by omega)
  have e:l.length - (l.filter (fun x=>decide (x=L+1))).length=(l.filter (fun x=>!decide (x=L+1))).length:=by omega
  rw[e] at st;omega
theorem F5:∀ n,n<=12->F 4 n<=57:=by decide +kernel
theorem Zgw{α:Type}{f g:α->Nat}:∀ {l:List α},(∀ x∈l,f x<=g x)->(l.map f).sum<=(l.map g).sum
 | [],_=>Nat.le_refl _
 | a::l,h=>by
  simp only[List.map_cons,List.sum_cons];have:=h a List.mem_cons_self;have:=Zgw (l:=l) fun x hx=>h x (List.mem_cons_of_mem _ hx);omega
theorem pairs_le{n L:Nat}(hn:n<=12)(hL:L<=7)(q:Nat->Nat)(p:Nat->Nat->Bool)(hq:∀ i,i<n->q i<L+1)(hp:∀ a b,a<n->b<n->p a b=true->q b<q a):
  ((List.range n).map fun a=>((List.range n).filter fun b=>p a b).length).sum<=F L n:=by
 have h:=Zhs L ((List.range n).map q) hL (by rw[List.length_map,List.length_range];exact hn) fun x hx=>by
  obtain⟨i,hi,e⟩:=List.mem_map.mp hx;rw[← e];exact hq i (List.mem_range.mp hi)
 rw[List.length_map,List.length_range] at h;refine Nat.le_trans ?_ h;unfold cnt;rw[List.map_map];refine Zgw fun a ha=>?_;have ha:=List.mem_range.mp ha;show _<=List.countP (fun b=>decide (b<q a)) (List.map q (List.range n));rw[List.countP_map,← List.countP_eq_length_filter];refine List.countP_mono_left fun b hb hpb=>?_;exact decide_eq_true (hp a b ha (List.mem_range.mp hb) hpb)
end KP
end
section
namespace KP
noncomputable def path(f:Nat->Nat->Int):List Nat->Int
 | []=>0
 | [_]=>0
 | x::y::r=>f x y+path f (y::r)
noncomputable def cyc(f:Nat->Nat->Int)(c:List Nat):Int:=f (c.getLastD 0) (c.headD 0)+path f c
theorem Zbq(f g:Nat->Nat->Int):∀ (l:List Nat),path (fun x y=>f x y+g x y) l=path f l+path g l
 | []=>rfl
 | [_]=>rfl
 | x::y::r=>by
  have:=Zbq f g (y::r);unfold path;rw[this];omega
theorem Zbo(m:Nat->Int):∀ (x:Nat) (r:List Nat),path (fun x y=>m y - m x) (x::r)=m ((x::r).getLastD 0) - m x
 | x,[]=>by simp[path]
 | x,y::r=>by
  have:=Zbo m y r;unfold path;rw[this];have e:(x::y::r).getLastD 0=(y::r).getLastD 0:=rfl;rw[e];omega
theorem cyc_tel(m:Nat->Int){c:List Nat}(h:c≠[]):cyc (fun x y=>m y - m x) c=0:=by
 cases c with
 | nil=>exact absurd rfl h
 | cons x r=>
  unfold cyc;rw[Zbo];simp only[List.headD_cons];omega
theorem Uq{f:Nat->Nat->Int}:∀ {l:List Nat},(∀ (i x y:Nat),l[i]? = some x->l[i+1]? = some y->0<=f x y)->0<=path f l
 | [],_=>Int.le_refl _
 | [_],_=>Int.le_refl _
 | x::y::r,h=>by
  unfold path;have h1:=h 0 x y rfl rfl;have h2:=Uq (f:=f) (l:=y::r) fun i a b ha hb=>h (i+1) a b (by simpa using ha) (by simpa using hb)
  omega
theorem Zbp{f:Nat->Nat->Int}:∀ {l:List Nat},(∀ (i x y:Nat),l[i]? = some x->l[i+1]? = some y->0<=f x y)->(∃ (i x y:Nat),l[i]? = some x/\l[i+1]? = some y/\0<f x y)->0<path f l
 | [],_,⟨i,x,y,h,_⟩=>by simp at h
 | [_],_,⟨i,x,y,h,h',_⟩=>by simp at h'
 | x::y::r,h,⟨i,a,b,h1,h2,h3⟩=>by
  unfold path;have g1:=h 0 x y rfl rfl;cases i with
  | zero=>
   simp at h1 h2;subst h1;subst h2;have g2:=Uq (f:=f) (l:=y::r) fun i a b ha hb=>h (i+1) a b (by simpa using ha) (by simpa using hb)
   omega
  | succ i=>
   have g2:=Zbp (f:=f) (l:=y::r) (fun i a b ha hb=>h (i+1) a b (by simpa using ha) (by simpa using hb)) ⟨i,a,b,by simpa using h1,by simpa using h2,h3⟩
   omega
theorem X3{c:List Nat}(h:c≠[]):c[c.length - 1]? = some (c.getLastD 0):=by
 cases c with
 | nil=>exact absurd rfl h
 | cons x r=>
  rw[List.getLastD_cons,← List.getLast?_eq_getElem?];rw[List.getLast?_cons];cases r<;>simp
theorem head_at{c:List Nat}(h:c≠[]):c[0]? = some (c.headD 0):=by
 cases c with
 | nil=>exact absurd rfl h
 | cons x r=>rfl
theorem cyc_pos{f:Nat->Nat->Int}{r:Nat->Nat->Prop}{c:List Nat}(hc:Rnd r c)(h0:∀ x∈c,∀ y,r x y->0<=f x y){v:Nat}(hv:v∈c)(h1:∀ y,r v y->0<f v y):0<cyc f c:=by
 have hl:=hc.cl _ _ (X3 hc.ne) (head_at hc.ne);have hlm:c.getLastD 0∈c:=List.mem_of_getElem? (X3 hc.ne);have g0:=h0 _ hlm _ hl;have gp:∀ (i x y:Nat),c[i]? = some x->c[i+1]? = some y->0<=f x y:=fun i x y hx hy=>h0 x (List.mem_of_getElem? hx) y (hc.st i x y hx hy);unfold cyc;obtain⟨i,hi⟩:=List.getElem?_of_mem hv;have hil:=(List.getElem?_eq_some_iff.mp hi).1;by_cases hn:i+1<c.length
 ·have hy:c[i+1]? = some c[i+1]:=by simp[hn]
  have:=Zbp gp ⟨i,v,c[i+1],hi,hy,h1 _ (hc.st i v _ hi hy)⟩;omega
 ·have e:i=c.length - 1:=by omega
  have e2:c.getLastD 0=v:=by
   have:=X3 hc.ne;rw[← e,hi] at this;exact (Option.some.inj this).symm
  have g1:0<f (c.getLastD 0) (c.headD 0):=by
   rw[e2];rw[e2] at hl;exact h1 _ hl
  have:=Uq gp;omega
theorem Zhr{f:Nat->Nat->Int}{r:Nat->Nat->Prop}{c:List Nat}(hc:Rnd r c)(h0:∀ x∈c,∀ y,r x y->0<=f x y):0<=cyc f c:=by
 have hl:=hc.cl _ _ (X3 hc.ne) (head_at hc.ne);have hlm:c.getLastD 0∈c:=List.mem_of_getElem? (X3 hc.ne);have g0:=h0 _ hlm _ hl;have gp:∀ (i x y:Nat),c[i]? = some x->c[i+1]? = some y->0<=f x y:=fun i x y hx hy=>h0 x (List.mem_of_getElem? hx) y (hc.st i x y hx hy);have:=Uq gp;unfold cyc;omega
theorem Zaz(f g:Nat->Nat->Int)(c:List Nat):cyc (fun x y=>f x y+g x y) c=cyc f c+cyc g c:=by
 unfold cyc;rw[Zbq];show f _ _+g _ _+_=_;omega
theorem Rnd.mono{r r':Nat->Nat->Prop}{c:List Nat}(h:Rnd r c)(m:∀ x∈c,∀ y,r x y->r' x y):Rnd r' c:=
 ⟨h.ne,h.nd,fun i x y a b=>m x (List.mem_of_getElem? a) y (h.st i x y a b),fun x y a b=>m x (List.mem_of_getElem? a) y (h.cl x y a b)⟩
theorem Rnd.mem{r:Nat->Nat->Prop}{c:List Nat}(h:Rnd r c){x:Nat}(hx:x∈c):∃ y∈c,r x y:=h.fwd x hx
noncomputable def wt(st:Nat->Nat->Option Int)(a b:Nat):Int:=(st a b).getD 0
structure MS(n:Nat)(st:Nat->Nat->Option Int)(m:Nat->Int)(nx:Nat->Option Nat)(L:Nat->Nat):Prop where
 nn:∀ a,0<=m a
 up:∀ a o,nx a=some o->a<n/\o<n/\∃ w,st a o=some w/\m a<=m o+w
 cy:∀ c,Rnd (fun a b=>nx a=some b) c->0<cyc (wt st) c
 z:∀ a,nx a=none->m a=0
 lz:∀ a,nx a=none->L a=0
 lo:∀ a o,nx a=some o->L a<=L o+1
theorem MS.start(n:Nat)(st:Nat->Nat->Option Int):MS n st (fun _=>0) (fun _=>none) (fun _=>0) where
 nn:=fun _=>Int.le_refl _
 up:=fun _ _ h=>nomatch h
 cy:=fun c hc=>by
  obtain⟨y,_,h⟩:=hc.mem (List.mem_of_getElem? (head_at hc.ne));cases h
 z:=fun _ _=>rfl
 lz:=fun _ _=>rfl
 lo:=fun _ _ h=>nomatch h
noncomputable def set1{α:Type}(f:Nat->α)(v:Nat)(x:α):Nat->α:=fun a=>if a=v then x else f a
theorem set1_same{α:Type}{f:Nat->α}{v:Nat}{x:α}:set1 f v x v=x:=if_pos rfl
theorem set1_ne{α:Type}{f:Nat->α}{v a:Nat}{x:α}(h:a≠v):set1 f v x a=f a:=if_neg h
theorem MS.rise{n:Nat}{st:Nat->Nat->Option Int}{m:Nat->Int}{nx:Nat->Option Nat}{L:Nat->Nat}(S:MS n st m nx L){v o j:Nat}{w:Int}(hv:v<n)(ho:o<n)(hs:st v o=some w)(hr:m v<m o+w)(hL:∀ a,L a<=j)(hj:j<=L o+1):
  MS n st (set1 m v (m o+w)) (set1 nx v (some o)) (set1 L v j):=by
 have mono:∀ a,m a<=set1 m v (m o+w) a:=fun a=>by
  by_cases e:a=v
  ·subst e;rw[set1_same];omega
  ·rw[set1_ne e];exact Int.le_refl _
 have monoL:∀ a,L a<=set1 L v j a:=fun a=>by
  by_cases e:a=v
  ·subst e;rw[set1_same];exact hL _
  ·rw[set1_ne e];exact Nat.le_refl _
 refine⟨fun a=>?_,fun a x hx=>?_,fun c hc=>?_,fun a ha=>?_,fun a ha=>?_,fun a x hx=>?_⟩
 ·have:=S.nn a;have:=mono a;omega
 ·by_cases e:a=v
  ·subst e;rw[set1_same] at hx;cases hx;refine⟨hv,ho,w,hs,?_⟩;rw[set1_same];by_cases e2:o=a
   ·subst e2;rw[set1_same];omega
   ·rw[set1_ne e2];exact Int.le_refl _
  ·rw[set1_ne e] at hx;obtain⟨h1,h2,w',h3,h4⟩:=S.up a x hx;refine⟨h1,h2,w',h3,?_⟩;rw[set1_ne e];have:=mono x;omega
 ·by_cases hvc:v∈c
  ·have key:0<cyc (fun x y=>wt st x y+(m y - m x)) c:=by
    refine cyc_pos hc (fun x hx y hxy=>?_) hvc (fun y hxy=>?_)
    ·by_cases e:x=v
     ·subst e;rw[set1_same] at hxy;cases hxy;unfold wt;rw[hs];simp only[Option.getD_some];omega
     ·rw[set1_ne e] at hxy;obtain⟨_,_,w',h3,h4⟩:=S.up x y hxy;unfold wt;rw[h3];simp only[Option.getD_some];omega
    ·rw[set1_same] at hxy;cases hxy;unfold wt;rw[hs];simp only[Option.getD_some];omega
   rw[Zaz,cyc_tel m hc.ne] at key;omega
  ·exact S.cy c (hc.mono fun x hx y hxy=>by
    have hne:x≠v:=fun e=>hvc (by rw[← e];exact hx)
    rw[set1_ne hne] at hxy;exact hxy)
 ·by_cases e:a=v
  ·subst e;rw[set1_same] at ha;cases ha
  ·rw[set1_ne e] at ha ⊢;exact S.z a ha
 ·by_cases e:a=v
  ·subst e;rw[set1_same] at ha;cases ha
  ·rw[set1_ne e] at ha ⊢;exact S.lz a ha
 ·by_cases e:a=v
  ·subst e;rw[set1_same] at hx;cases hx;rw[set1_same];have:=monoL o;omega
  ·rw[set1_ne e] at hx ⊢;have:=S.lo a x hx;have:=monoL x;omega
noncomputable def Seen(sts:List (Nat×Nat×Int))(m:Nat->Int)(L:Nat->Nat)(j i:Nat):Prop:=∀ (k v o:Nat) (w:Int),sts[k]? = some (v,o,w)->∀ p,p=(if k<i then j else j - 1)->p=0∨m o+w<=m v∨p<=L o
theorem Seen.start(sts:List (Nat×Nat×Int))(m:Nat->Int)(L:Nat->Nat):Seen sts m L 1 0:=fun k v o w _ p hp=>.inl (by simpa using hp)
theorem Seen.next{sts:List (Nat×Nat×Int)}{m:Nat->Int}{L:Nat->Nat}{j:Nat}(h:Seen sts m L j sts.length):Seen sts m L (j+1) 0:=fun k v o w hk p hp=>by
 have hl:=(List.getElem?_eq_some_iff.mp hk).1;exact h k v o w hk p (by rw[if_pos hl];simpa using hp)
theorem Seen.rise{sts:List (Nat×Nat×Int)}{m:Nat->Int}{L:Nat->Nat}{j i v o:Nat}{w:Int}(h:Seen sts m L j i)(hi:sts[i]? = some (v,o,w))(hr:m v<m o+w)(hL:∀ a,L a<=j):Seen sts (set1 m v (m o+w)) (set1 L v j) j (i+1):=by
 intro k x y w' hk p hp;have hpj:p<=j:=by
  rw[hp]
  split<;>omega
 by_cases ey:y=v
 ·refine .inr (.inr ?_);rw[ey,set1_same];exact hpj
 ·rw[set1_ne ey,set1_ne ey];by_cases ek:k=i
  ·subst ek;rw[hi] at hk;cases hk;rw[set1_same];exact .inr (.inl (Int.le_refl _))
  ·have e:(if k<i+1 then j else j - 1)=if k<i then j else j - 1:=by
    by_cases h1:k<i
    ·rw[if_pos h1,if_pos (by omega)]
    ·rw[if_neg h1,if_neg (by omega)]
   rcases h k x y w' hk p (by rw[hp,e]) with h1 | h1 | h1
   ·exact .inl h1
   ·refine .inr (.inl ?_);by_cases ex:x=v
    ·subst ex;rw[set1_same];omega
    ·rw[set1_ne ex];exact h1
   ·exact .inr (.inr h1)
theorem Seen.keep{sts:List (Nat×Nat×Int)}{m:Nat->Int}{L:Nat->Nat}{j i v o:Nat}{w:Int}(h:Seen sts m L j i)(hi:sts[i]? = some (v,o,w))(hr:¬ m v<m o+w):Seen sts m L j (i+1):=by
 intro k x y w' hk p hp;by_cases ek:k=i
 ·subst ek;rw[hi] at hk;cases hk;exact .inr (.inl (by omega))
 ·have e:(if k<i+1 then j else j - 1)=if k<i then j else j - 1:=by
   by_cases h1:k<i
   ·rw[if_pos h1,if_pos (by omega)]
   ·rw[if_neg h1,if_neg (by omega)]
  exact h k x y w' hk p (by rw[hp,e])
theorem Seen.lo{sts:List (Nat×Nat×Int)}{m:Nat->Int}{L:Nat->Nat}{j i v o:Nat}{w:Int}(h:Seen sts m L j i)(hj:1<=j)(hi:sts[i]? = some (v,o,w))(hr:m v<m o+w):j<=L o+1:=by
 rcases h i v o w hi _ rfl with h1 | h1 | h1
 ·rw[if_neg (by omega)] at h1;omega
 ·omega
 ·rw[if_neg (by omega)] at h1;omega
inductive Low (n:Nat) (st:Nat->Nat->Option Int) (m:Nat->Int):Nat->Prop
 | zero {a:Nat} (h:m a=0):Low n st m a
 | step {a b:Nat} {w:Int} (hb:b<n) (hl:Low n st m b) (hs:st a b=some w) (he:m a=m b+w):Low n st m a
theorem low_of{n:Nat}{st:Nat->Nat->Option Int}{m:Nat->Int}{nx:Nat->Option Nat}{L:Nat->Nat}(S:MS n st m nx L)(sat:∀ a b w,a<n->b<n->st a b=some w->m b+w<=m a):∀ a,a<n->Low n st m a:=by
 intro a0 ha0;apply Classical.byContradiction;intro hno
 haveI:DecidablePred (fun a=>¬ Low n st m a):=fun a=>Classical.propDecidable _
 have hS:Fwd (fun a b=>nx a=some b) ((List.range n).filter fun a=>decide (¬ Low n st m a)):=by
  intro x hx;obtain⟨hx1,hx2⟩:=List.mem_filter.mp hx;have hx2:¬ Low n st m x:=of_decide_eq_true hx2;cases e:nx x with
  | none=>exact absurd (Low.zero (S.z x e)) hx2
  | some o=>
   obtain⟨h1,h2,w,h3,h4⟩:=S.up x o e;refine⟨o,List.mem_filter.mpr ⟨List.mem_range.mpr h2,decide_eq_true fun hl=>?_⟩,e⟩;have:=sat x o w h1 h2 h3;exact hx2 (Low.step h2 hl h3 (by omega))
 obtain⟨c,hc,_⟩:=round_fwd hS (fun e=>by
  have:a0∈(List.range n).filter fun a=>decide (¬ Low n st m a):=List.mem_filter.mpr ⟨List.mem_range.mpr ha0,decide_eq_true hno⟩;rw[e] at this;cases this)
 have h1:=S.cy c hc;have h2:0<=cyc (fun x y =>- (wt st x y+(m y - m x))) c:=Zhr hc fun x hx y hxy=>by
  obtain⟨g1,g2,w,g3,g4⟩:=S.up x y hxy;have:=sat x y w g1 g2 g3;unfold wt;rw[g3];simp only[Option.getD_some];omega
 have neg:∀ (f:Nat->Nat->Int) (l:List Nat),path (fun x y =>- f x y) l = - path f l:=by
  intro f l
  induction l with
  | nil=>rfl
  | cons x r ih=>
   cases r with
   | nil=>rfl
   | cons y r=>
    unfold path;rw[ih];omega
 have e:cyc (fun x y =>- (wt st x y+(m y - m x))) c = - cyc (fun x y=>wt st x y+(m y - m x)) c:=by
  unfold cyc;rw[neg (fun x y=>wt st x y+(m y - m x))];show - (wt st _ _+(m _ - m _))+_ = - ((wt st _ _+(m _ - m _))+_);omega
 rw[e,Zaz,cyc_tel m hc.ne] at h2;omega
structure Mis(n:Nat)(st:Nat->Nat->Option Int)(c:List Nat):Prop where
 rd:Rnd (fun a b=>(st a b).isSome=true) c
 lt:∀ x∈c,x<n
 pos:0<cyc (wt st) c
theorem mis_no{n:Nat}{st:Nat->Nat->Option Int}{m:Nat->Int}{c:List Nat}(M:Mis n st c)(sat:∀ a b w,a<n->b<n->st a b=some w->m b+w<=m a):False:=by
 have h2:0<=cyc (fun x y=>(- 1:Int) * wt st x y+(m x - m y)) c:=by
  refine Zhr (r:=fun a b=>(st a b).isSome=true/\b∈c) ⟨M.rd.ne,M.rd.nd,fun i x y hx hy=>⟨M.rd.st i x y hx hy,List.mem_of_getElem? hy⟩,fun x y hx hy=>⟨M.rd.cl x y hx hy,List.mem_of_getElem? hy⟩⟩ fun x hx y hxy=>?_;obtain⟨h,hy⟩:=hxy;obtain⟨w,hw⟩:=Option.isSome_iff_exists.mp h;have:=sat x y w (M.lt x hx) (M.lt y hy) hw;unfold wt;rw[hw];simp only[Option.getD_some];omega
 have e1:cyc (fun x y=>(- 1:Int) * wt st x y+(m x - m y)) c+cyc (wt st) c=0:=by
  rw[← Zaz];have e:(fun x y=>(- 1:Int) * wt st x y+(m x - m y)+wt st x y)=fun x y=>(fun a =>- m a) y - (fun a =>- m a) x:=by
   funext x y;show _ = - m y - - m x;omega
  rw[e];exact cyc_tel _ M.rd.ne
 have:=M.pos;omega
noncomputable def chain(f:Nat->Nat)(v:Nat):Nat->Nat
 | 0=>v
 | k+1=>f (chain f v k)
theorem Jr{f:Nat->Nat}{v i j:Nat}(h:chain f v i=chain f v j):∀ k,chain f v (i+k)=chain f v (j+k)
 | 0=>h
 | k+1=>by
  show f (chain f v (i+k))=f (chain f v (j+k));rw[Jr h k]
theorem Js{f:Nat->Nat}{v n:Nat}(hn:1<=n)(hb:∀ k,k<=n->chain f v k<n):∀ y∈(List.range n).map (chain f v),f y∈(List.range n).map (chain f v):=by
 have last:chain f v n∈(List.range n).map (chain f v):=by
  apply Classical.byContradiction;intro hno;by_cases hd:((List.range n).map (chain f v)).Nodup
  ·have:=Ug (l:=chain f v n::(List.range n).map (chain f v)) (m:=List.range n) (List.nodup_cons.mpr ⟨hno,hd⟩) fun x hx=>by
    rcases List.mem_cons.mp hx with rfl | hx
    ·exact List.mem_range.mpr (hb n (Nat.le_refl _))
    ·obtain⟨k,hk,rfl⟩:=List.mem_map.mp hx;exact List.mem_range.mpr (hb k (Nat.le_of_lt (List.mem_range.mp hk)))
   simp at this;omega
  ·rw[List.Nodup,List.pairwise_map] at hd;have:∃ i j,i<j/\j<n/\chain f v i=chain f v j:=by
    apply Classical.byContradiction;intro hne;apply hd;have hp:(List.range n).Pairwise fun a b=>a<b/\b<n:=by
     rw[List.pairwise_iff_getElem];intro i j hi hj hij;rw[List.getElem_range,List.getElem_range];rw[List.length_range] at hj;exact⟨hij,hj⟩
    exact hp.imp fun {a b} hab e=>hne ⟨a,b,hab.1,hab.2,e⟩
   obtain⟨i,j,hij,hjn,e⟩:=this;have:=Jr e (n - j);rw[show j+(n - j)=n by omega] at this
   apply hno;rw[← this];exact List.mem_map.mpr ⟨_,List.mem_range.mpr (by omega),rfl⟩
 intro y hy;obtain⟨k,hk,rfl⟩:=List.mem_map.mp hy;have hk:=List.mem_range.mp hk;by_cases e:k+1=n
 ·rw[← e] at last;have:chain f v (k+1)∈(List.range n).map (chain f v):=by rw[← e];exact last
  exact this
 ·exact List.mem_map.mpr ⟨k+1,List.mem_range.mpr (by omega),rfl⟩
theorem MS.walk{n:Nat}{st:Nat->Nat->Option Int}{m:Nat->Int}{nx:Nat->Option Nat}{L:Nat->Nat}(S:MS n st m nx L){v:Nat}(hn:1<=n)(hv:v<n)(hL:n<=L v):
  ∃ S':List Nat,v∈S'/\S'.length=n/\∀ y∈S',nx y=some ((nx y).getD 0)/\(nx y).getD 0∈S':=by
 have key:∀ k,k<=n->chain (fun y=>(nx y).getD 0) v k<n/\n<=L (chain (fun y=>(nx y).getD 0) v k)+k:=by
  intro k
  induction k with
  | zero=>exact fun _=>⟨hv,hL⟩
  | succ k ih=>
   intro hk;obtain⟨h1,h2⟩:=ih (by omega)
   cases e:nx (chain (fun y=>(nx y).getD 0) v k) with
   | none=>
    have:=S.lz _ e;omega
   | some o=>
    have g1:=S.up _ o e;have g2:=S.lo _ o e;have e2:chain (fun y=>(nx y).getD 0) v (k+1)=o:=by
     show (nx (chain (fun y=>(nx y).getD 0) v k)).getD 0=o;rw[e];rfl
    rw[e2];exact⟨g1.2.1,by omega⟩
 refine⟨(List.range n).map (chain (fun y=>(nx y).getD 0) v),List.mem_map.mpr ⟨0,List.mem_range.mpr (by omega),rfl⟩,by rw[List.length_map,List.length_range],fun y hy=>⟨?_,Js hn (fun k hk=>(key k hk).1) y hy⟩⟩
 obtain⟨k,hk,rfl⟩:=List.mem_map.mp hy;have hk:=List.mem_range.mp hk;have h2:=(key k (by omega)).2
 cases e:nx (chain (fun y=>(nx y).getD 0) v k) with
 | none=>
  have:=S.lz _ e;omega
 | some o=>rfl
theorem MS.mis{n:Nat}{st:Nat->Nat->Option Int}{m:Nat->Int}{nx:Nat->Option Nat}{L:Nat->Nat}(S:MS n st m nx L){c:List Nat}(hc:Rnd (fun a b=>(nx a).getD 0=b) c)(hd:∀ y∈c,nx y=some ((nx y).getD 0)):Mis n st c:=by
 have hc':Rnd (fun a b=>nx a=some b) c:=hc.mono fun x hx y hxy=>by rw[hd x hx,hxy]
 refine⟨hc'.mono fun x hx y hxy=>?_,fun x hx=>(S.up x _ (hd x hx)).1,S.cy c hc'⟩;obtain⟨_,_,w,h,_⟩:=S.up x y hxy;rw[h];rfl
end KP
end
section
namespace KP
inductive Wd (rel:Nat->Nat->Bool) (n:Nat):Nat->List Bool->Nat->Prop
 | nil {x:Nat} (hx:x<n):Wd rel n x [] x
 | better {x y z:Nat} {w:List Bool} (hx:x<n) (h:rel x y=true) (t:Wd rel n y w z):Wd rel n x (true::w) z
 | neither {x y z:Nat} {w:List Bool} (hx:x<n) (h:rel x y=false) (h':rel y x=false) (t:Wd rel n y w z):Wd rel n x (false::w) z
theorem Wd.lt{rel:Nat->Nat->Bool}{n x y:Nat}{w:List Bool}(h:Wd rel n x w y):x<n:=by
 cases h<;>assumption
theorem Wd.append{rel:Nat->Nat->Bool}{n x y z:Nat}{w w':List Bool}(h:Wd rel n x w y)(h':Wd rel n y w' z):Wd rel n x (w++w') z:=by
 induction h with
 | nil _=>exact h'
 | better hx h _ ih=>exact .better hx h (ih h')
 | neither hx h1 h2 _ ih=>exact .neither hx h1 h2 (ih h')
theorem Wd.split{rel:Nat->Nat->Bool}{n z:Nat}:∀ {w w':List Bool} {x:Nat},Wd rel n x (w++w') z->∃ y,Wd rel n x w y/\Wd rel n y w' z
 | [],_,x,h=>⟨x,.nil h.lt,h⟩
 | _::w,w',x,.better hx h t=>by
  obtain⟨y,h1,h2⟩:=Wd.split (w:=w) t;exact⟨y,.better hx h h1,h2⟩
 | _::w,w',x,.neither hx h h' t=>by
  obtain⟨y,h1,h2⟩:=Wd.split (w:=w) t;exact⟨y,.neither hx h h' h1,h2⟩
noncomputable def nt(w:List Bool):Nat:=w.countP fun b=>b
noncomputable def nf(w:List Bool):Nat:=w.countP fun b=>!b
theorem W4(w w':List Bool):nt (w++w')=nt w+nt w':=List.countP_append
theorem W6(w w':List Bool):nf (w++w')=nf w+nf w':=List.countP_append
theorem Zif(w:List Bool):nt (true::w)=nt w+1:=List.countP_cons_of_pos (by rfl)
theorem Zj2(w:List Bool):nt (false::w)=nt w:=List.countP_cons_of_neg (by decide)
theorem Zcw(w:List Bool):nf (true::w)=nf w:=List.countP_cons_of_neg (by decide)
theorem Zf7(w:List Bool):nf (false::w)=nf w+1:=List.countP_cons_of_pos (by rfl)
noncomputable def Red(a b c:Bool):Prop:=(a,b,c)=(true,true,false)∨(a,b,c)=(true,false,true)∨(a,b,c)=(false,true,true)
theorem Zgy:∀ (w:List Bool),1<=nf w->∃ u v,true::true::w=u++[true,true,false]++v
 | [],h=>by simp[nf] at h
 | false::w,_=>⟨[],w,rfl⟩
 | true::w,h=>by
  rw[Zcw] at h;obtain⟨u,v,e⟩:=Zgy w h;exact⟨true::u,v,by rw[e];rfl⟩
theorem Zjz:∀ {w:List Bool},nf w=0->nt w=w.length
 | [],_=>rfl
 | true::w,h=>by
  rw[Zcw] at h;rw[Zif,Zjz h,List.length_cons]
 | false::w,h=>by
  rw[Zf7] at h;omega
theorem Wp:∀ (k:Nat) (w:List Bool),w.length<=k->nf w+1<=nt w->1<=nf w->∃ u v a b c,w=u++[a,b,c]++v/\Red a b c
 | _,[],_,h,_=>by simp[nt,nf] at h
 | 0,_::_,hk,_,_=>by simp at hk
 | k+1,false::w,hk,h1,h2=>by
  rw[Zj2,Zf7] at h1;by_cases h:1<=nf w
  ·obtain⟨u,v,a,b,c,e,r⟩:=Wp k w (by simpa using hk) (by omega) h
   exact⟨false::u,v,a,b,c,by rw[e];rfl,r⟩
  ·match w,h1,h with
   | [],h1,_=>simp[nt,nf] at h1
   | [true],h1,_=>simp[nt,nf] at h1
   | true::true::w,_,_=>exact⟨[],w,false,true,true,rfl,.inr (.inr rfl)⟩
   | false::w,_,h=>rw[Zf7] at h;omega
   | true::false::w,_,h=>rw[Zcw,Zf7] at h;omega
 | k+1,true::w,hk,h1,h2=>by
  rw[Zif,Zcw] at h1;rw[Zcw] at h2;by_cases h:nf w+1<=nt w
  ·obtain⟨u,v,a,b,c,e,r⟩:=Wp k w (by simpa using hk) h h2
   exact⟨true::u,v,a,b,c,by rw[e];rfl,r⟩
  ·match w,hk,h1,h2,h with
   | [],_,_,h2,_=>simp[nf] at h2
   | true::w,_,_,h2,_=>
    rw[Zcw] at h2;obtain⟨u,v,e⟩:=Zgy w h2;exact⟨u,v,true,true,false,e,.inl rfl⟩
   | false::w,hk,h1,h2,h=>
    rw[Zj2,Zf7] at h1 h;by_cases h3:1<=nf w
    ·obtain⟨u,v,a,b,c,e,r⟩:=Wp k w (by simp at hk;omega) (by omega) h3
     exact⟨true::false::u,v,a,b,c,by rw[e];rfl,r⟩
    ·match w,h1,h3 with
     | [],h1,_=>simp[nt,nf] at h1
     | true::w,_,_=>exact⟨[],w,true,false,true,rfl,.inr (.inl rfl)⟩
     | false::w,_,h3=>rw[Zf7] at h3;omega
structure Semi(rel:Nat->Nat->Bool)(n:Nat):Prop where
 ir:∀ a,a<n->rel a a=false
 bes:∀ a b c d,a<n->b<n->c<n->d<n->rel a b=true->rel c d=true->rel c b=false->rel a d=true
 row:∀ a b c d,a<n->b<n->c<n->d<n->rel a b=true->rel b c=true->rel d c=false->rel a d=true
 wor:∀ a b c d,a<n->b<n->c<n->d<n->rel b c=true->rel c d=true->rel b a=false->rel a d=true
theorem Semi.tr{rel:Nat->Nat->Bool}{n:Nat}(S:Semi rel n){a b c:Nat}(ha:a<n)(hb:b<n)(hc:c<n)(h1:rel a b=true)(h2:rel b c=true):rel a c=true:=by
 cases e:rel a c with
 | true=>rfl
 | false=>
  have:=S.row a b c a ha hb hc ha h1 h2 e;rw[S.ir a ha] at this;cases this
theorem Wd.end_lt{rel:Nat->Nat->Bool}{n x y:Nat}{w:List Bool}(h:Wd rel n x w y):y<n:=by
 induction h with
 | nil h=>exact h
 | better _ _ _ ih=>exact ih
 | neither _ _ _ _ ih=>exact ih
theorem Semi.all{rel:Nat->Nat->Bool}{n:Nat}(S:Semi rel n):∀ {w:List Bool} {x y:Nat},Wd rel n x w y->nf w=0->1<=nt w->rel x y=true
 | [],_,_,_,_,h=>by simp[nt] at h
 | false::w,_,_,_,h,_=>by rw[Zf7] at h;omega
 | true::w,x,y,.better (y:=m) hx h t,h0,_=>by
  rw[Zcw] at h0;cases w with
  | nil=>cases t;exact h
  | cons b w=>
   have h1:1<=nt (b::w):=by rw[Zjz h0];simp
   exact S.tr hx t.lt t.end_lt h (S.all t h0 h1)
theorem Semi.net{rel:Nat->Nat->Bool}{n:Nat}(S:Semi rel n):∀ (k:Nat) (w:List Bool) (x y:Nat),w.length<=k->Wd rel n x w y->nf w+1<=nt w->rel x y=true
 | 0,w,x,y,hk,h,h1=>by
  have:w=[]:=List.length_eq_zero_iff.mp (by omega)
  subst this;simp[nt,nf] at h1
 | k+1,w,x,y,hk,h,h1=>by
  by_cases h0:1<=nf w
  ·obtain⟨u,v,a,b,c,e,r⟩:=Wp w.length w (Nat.le_refl _) h1 h0;subst e;obtain⟨p,g1,g2⟩:=Wd.split h;obtain⟨q,g3,g4⟩:=Wd.split g1;have hp:p<n:=g2.lt;have hq:q<n:=g4.lt;have key:rel q p=true:=by
    rcases r with r | r | r
    ·cases r;cases g4 with
     | better _ e1 t1=>cases t1 with
      | better i1 e2 t2=>cases t2 with
       | neither i2 e3 e4 t3=>cases t3 with
        | nil _=>exact S.row _ _ _ _ hq i1 i2 hp e1 e2 e4
    ·cases r;cases g4 with
     | better _ e1 t1=>cases t1 with
      | neither i1 e2 e3 t2=>cases t2 with
       | better i2 e4 t3=>cases t3 with
        | nil _=>exact S.bes _ _ _ _ hq i1 i2 hp e1 e4 e3
    ·cases r;cases g4 with
     | neither _ e1 e2 t1=>cases t1 with
      | better i1 e3 t2=>cases t2 with
       | better i2 e4 t3=>cases t3 with
        | nil _=>exact S.wor _ _ _ _ hq i1 i2 hp e3 e4 e2
   have hcount:nt [a,b,c]=nf [a,b,c]+1:=by
    rcases r with r | r | r<;>cases r<;>rfl
   have hnf:nf [a,b,c]=1:=by
    rcases r with r | r | r<;>cases r<;>rfl
   refine S.net k (u++true::v) x y ?_ (g3.append (.better hq key g2)) ?_
   ·simp at hk ⊢;omega
   ·rw[W4,W4] at h1;rw[W6,W6] at h1;rw[W4,W6,Zif,Zcw];omega
  ·exact S.all h (by omega) (by omega)
theorem walk_of{rel:Nat->Nat->Bool}{n:Nat}{st:Nat->Nat->Option Int}{W:Int}(hst:∀ a b w,st a b=some w->(rel a b=true/\w=W)∨(rel a b=false/\rel b a=false/\w=1 - W)):
  ∀ (r:List Nat) (x:Nat),(∀ y∈x::r,y<n)->(∀ (i a b:Nat),(x::r)[i]? = some a->(x::r)[i+1]? = some b->(st a b).isSome=true) ->
   ∃ w,Wd rel n x w ((x::r).getLastD 0)/\w.length=r.length/\path (wt st) (x::r)=(nt w:Int) * W+(nf w:Int) * (1 - W)
 | [],x,hl,_=>⟨[],.nil (hl x List.mem_cons_self),rfl,by simp[path,nt,nf]⟩
 | y::r,x,hl,hs=>by
  obtain⟨w,h1,h2,h3⟩:=walk_of hst r y (fun z hz=>hl z (List.mem_cons_of_mem _ hz)) fun i a b ha hb=>hs (i+1) a b (by simpa using ha) (by simpa using hb)
  obtain⟨k,hk⟩:=Option.isSome_iff_exists.mp (hs 0 x y rfl rfl);have hx:=hl x List.mem_cons_self;have e1:(x::y::r).getLastD 0=(y::r).getLastD 0:=rfl;have e2:wt st x y=k:=by unfold wt;rw[hk];rfl
  rcases hst x y k hk with ⟨g1,rfl⟩ | ⟨g1,g2,rfl⟩
  ·refine⟨true::w,by rw[e1];exact .better hx g1 h1,by simp[h2],?_⟩
   unfold path;rw[h3,e2,Zif,Zcw];have:((nt w+1:Nat):Int) * k=(nt w:Int) * k+k:=by
    rw[Int.natCast_add,Int.add_mul];simp
   omega
  ·refine⟨false::w,by rw[e1];exact .neither hx g1 g2 h1,by simp[h2],?_⟩
   unfold path;rw[h3,e2,Zj2,Zf7];have:((nf w+1:Nat):Int) * (1 - W)=(nf w:Int) * (1 - W)+(1 - W):=by
    rw[Int.natCast_add,Int.add_mul];simp
   omega
theorem few{p q:Nat}{W:Int}(hW:((p+q:Nat):Int)<=W)(hW1:1<=W)(h:0<(p:Int) * W+(q:Int) * (1 - W)):q<=p/\1<=p:=by
 have e:(q:Int) * (1 - W)=(q:Int) - (q:Int) * W:=by rw[Int.mul_sub,Int.mul_one]
 rw[e] at h;have hp:1<=p:=by
  rcases Nat.lt_or_ge 0 p with g | g
  ·exact g
  ·have:p=0:=by omega
   subst this;have:(q:Int) * 1<=(q:Int) * W:=Int.mul_le_mul_of_nonneg_left hW1 (by omega)
   simp at h;omega
 refine⟨?_,hp⟩;rcases Nat.lt_or_ge p q with g | g
 ·have:((p:Int)+1) * W<=(q:Int) * W:=Int.mul_le_mul_of_nonneg_right (by omega) (by omega)
  rw[Int.add_mul,Int.one_mul] at this;omega
 ·exact g
theorem Semi.no_mis{rel:Nat->Nat->Bool}{n:Nat}(S:Semi rel n){st:Nat->Nat->Option Int}{W:Int}(hst:∀ a b w,st a b=some w->(rel a b=true/\w=W)∨(rel a b=false/\rel b a=false/\w=1 - W))(hW:(n:Int)<=W)(hW1:1<=W){c:List Nat}(M:Mis n st c):False:=by
 have hlen:c.length<=n:=by
  have:=Ug (m:=List.range n) M.rd.nd fun x hx=>List.mem_range.mpr (M.lt x hx);rw[List.length_range] at this;exact this
 cases c with
 | nil=>exact M.rd.ne rfl
 | cons x r=>
  obtain⟨w,h1,h2,h3⟩:=walk_of hst r x M.lt fun i a b ha hb=>M.rd.st i a b ha hb;have hcl:=M.rd.cl _ _ (X3 M.rd.ne) (head_at M.rd.ne);obtain⟨k,hk⟩:=Option.isSome_iff_exists.mp hcl;have hpos:=M.pos;unfold cyc at hpos;rw[h3] at hpos;have e2:wt st ((x::r).getLastD 0) ((x::r).headD 0)=k:=by unfold wt;rw[hk];rfl
  rw[e2] at hpos;have hx:x<n:=h1.lt;have hl:(x::r).getLastD 0<n:=h1.end_lt;have hsum:nt w+nf w=r.length:=by
   rw[← h2];unfold nt nf;clear h1 h3 hpos h2
   induction w with
   | nil=>rfl
   | cons b w ih=>cases b<;>simp[List.countP_cons]<;>omega
  simp only[List.length_cons] at hlen;rcases hst _ _ k hk with ⟨g1,rfl⟩ | ⟨g1,g2,rfl⟩
  ·have hh:=few (p:=nt w+1) (q:=nf w) (W:=k) (by omega) hW1 (by
    have:((nt w+1:Nat):Int) * k=(nt w:Int) * k+k:=by
     rw[Int.natCast_add,Int.add_mul];simp
    omega)
   have g1:rel ((x::r).getLastD 0) x=true:=g1;by_cases hq:nf w+1<=nt w+1 - 0/\nf w<nt w+1
   ·by_cases heq:nf w+1<=nt w
    ·
     have:=S.net _ (w++[true]) x x (Nat.le_refl _) (h1.append (.better hl g1 (.nil hx))) (by
      rw[W4,W6,Zif,Zcw];simp[nt,nf] at *;omega)
     rw[S.ir x hx] at this;cases this
    ·have:=S.net _ (w++[true]) x x (Nat.le_refl _) (h1.append (.better hl g1 (.nil hx))) (by
      have a1:nt (w++[true])=nt w+1:=by rw[W4,Zif];rfl
      have a2:nf (w++[true])=nf w:=by rw[W6,Zcw];rfl
      rw[a1,a2];omega)
     rw[S.ir x hx] at this;cases this
   ·
    have hq1:nf w=nt w+1:=by omega
    have hmem:false∈w:=by
     apply Classical.byContradiction;intro hno;have:nf w=0:=by
      unfold nf;rw[List.countP_eq_zero];intro b hb;cases b with
      | true=>decide
      | false=>exact absurd hb hno
     omega
    obtain⟨u,v,e⟩:=List.append_of_mem hmem;subst e;obtain⟨m,t1,t2⟩:=Wd.split h1;cases t2 with
    | @neither _ m' _ _ hm e1 e2 t3=>
     have:=S.net _ (v++true::u) m' m (Nat.le_refl _) (t3.append (.better hl g1 t1)) (by
      rw[W4,W6,Zif,Zcw];rw[W4,W6,Zj2,Zf7] at hq1;omega)
     rw[this] at e2;cases e2
  ·have hh:=few (p:=nt w) (q:=nf w+1) (W:=W) (by omega) hW1 (by
    have:((nf w+1:Nat):Int) * (1 - W)=(nf w:Int) * (1 - W)+(1 - W):=by
     rw[Int.natCast_add,Int.add_mul];simp
    omega)
   have:=S.net _ w x _ (Nat.le_refl _) h1 (by omega)
   have g2:rel x ((x::r).getLastD 0)=false:=g2;rw[this] at g2;cases g2
end KP
end
section
namespace KP
noncomputable def sz(n:Nat)(rel:Nat->Nat->Bool)(a:Nat):Nat:=(List.range n).countP fun b=>rel a b
structure Sizes(n:Nat)(rel:Nat->Nat->Bool)(ks:List Int):Prop where
 mem:∀ k,k∈ks↔∃ a,a<n/\k=(sz n rel a:Int)
 rise:ks.Pairwise (· < ·)
noncomputable def low(n:Nat)(rel:Nat->Nat->Bool)(ks:List Int)(a:Nat):Nat:=ks.idxOf (sz n rel a:Int)
structure Spans(n:Nat)(rel:Nat->Nat->Bool)(ks:List Int)(hi:Nat->Nat):Prop where
 at_:∀ b,b<n->∃ j,j<n/\rel j b=false/\hi b=low n rel ks j
 top:∀ b,b<n->∀ j,j<n->rel j b=false->low n rel ks j<=hi b
end KP
end
section
namespace KP
end KP
namespace KP
end KP
end
section
namespace KS
open PySem PySem.Spec L2
open PyProof.Rows hiding St
structure Trc(h:Heap)(e T:Addr)(C fl:Value):Prop where
 obj:∃ oe vs,h.get? e=some oe/\oe.cls=C/\oe.dict=none/\oe.data=.fields vs/\vs[1]? = some (.ref T)
 ne:T≠e
 stn:∃ oT ts,h.get? T=some oT/\oT.data=.fields ts/\ts[3]? = some fl
section
variable{M:Model}{A:Around}{E:Value->Shared->Prop}{s:Shared}{base:Heap}{env:Env}{outer:List Env}{L e:Addr}{oe:Obj}{vs:Array Value}
structure Gone(l:List Env)(e T:Addr)(C:Value)(g:List Addr)(h h':Heap):Prop where
 new:h.get? T=none
 trc:Trc h' e T C .none
 keep:∀ b o,b∉g->b∉frs l->h.get? b=some o->h'.get? b=some o
 slot:∀ b o,b∉g->h.get? b=some o->∃ sl,h'.get? b=some { o with slots:=sl }
 size:h.objs.size<=h'.objs.size
theorem entry1{head:Value}{hn:Bool}{Q:Unit->Shared->Prop}(k1:A.frames=some (env::outer))(k2:s.heap.FunFrames base (env::outer))(k3:env.frame=some L)(k4:s.heap.get? e=some oe)(k5:oe.dict=none)(k6:oe.data=.fields vs)(k7:1<vs.size)
  (q:∀ h' T,Gone (env::outer) e T oe.cls [e] s.heap h'->Q () { s with heap:=h' }):
  wpAny M A (do let a ← frameOf env;let pl ← entryPlaceOf L hn;let b ← EntryCells.newEntry head a .none (rawInt L) .none pl;setField (.ref e) 1 b) (fun _ s'=>wpAny M A (setFlight (.ref e) none) Q E s') E s:=by
 have nof:e∉frs (env::outer):=fun z=>by
  obtain⟨_,o,ho,nf⟩:=k2.mem z;rw[k4] at ho;cases ho;exact nf vs k6
 refine wpAny_bind (wpAny_frameOf_fun k1 k2 k3 fun g1 x1=>?_);refine wpAny_bind (wpAny_entryPlaceOf fun pl hpl=>?_);unfold EntryCells.newEntry newFields;refine wpAny_bind (wpAny_newObj_type ?_ (hpl.sizeOk5 _ _ _ _ _));generalize hts:([head,.ref L,.none,rawInt L,.none]++(if pl.isEmpty then List.replicate 6 Value.none else pl)).toArray=ts
 have hts3:3<ts.size:=by rw[← hts];simp
 have e1:g1.get? e=some oe:=(x1.2.1 e nof).trans k4;have e2:=Heap.get?_push_of_some (h:=g1) { cls:=.type "traceback",dict:=none,data:=.fields ts } e1;refine wpAny_setField e2 k6 k7 ?_;have dT:g1.objs.size≠e:=Nat.ne_of_gt (Heap.lt_size e1);have d3:=Obj.data_mapFields k6 (·.setIfInBounds 1 (Value.ref g1.objs.size));have e3:=Heap.get?_update_self (Obj.mapFields (·.setIfInBounds 1 (Value.ref g1.objs.size))) e2 (Obj.isFreed_of_fields d3);have t3:=(Heap.get?_update_other (g1.push { cls:=.type "traceback",dict:=none,data:=.fields ts }) (Obj.mapFields (·.setIfInBounds 1 (Value.ref g1.objs.size))) (Ne.symm dT)).trans (Heap.get?_push_size g1 rfl);unfold setFlight;refine wpAny_bind (wpAny_field e3 d3 (x:=.ref g1.objs.size) (by simp[k7]) ?_)
 rw[if_pos (show (Value.ref g1.objs.size != Value.none)=true by simp)]
 refine wpAny_setField t3 rfl hts3 (q _ g1.objs.size ?_);have oth:∀ b o,b≠e->g1.get? b=some o->((((g1.push { cls:=.type "traceback",dict:=none,data:=.fields ts }).update e (Obj.mapFields (·.setIfInBounds 1 (Value.ref g1.objs.size)))).update g1.objs.size
   (Obj.mapFields (·.setIfInBounds 3 ((none:Option Addr).elim Value.none fun f=>rawInt f)))).get? b)=some o:=fun b o hb ho=>by
  rw[Heap.get?_update_other _ _ (Nat.ne_of_gt (Heap.lt_size ho)),Heap.get?_update_other _ _ (Ne.symm hb)];exact Heap.get?_push_of_some _ ho
 refine⟨?_,⟨⟨_,_,?_,Obj.cls_mapFields _ _,?_,d3,by simp[k7]⟩,dT,⟨_,_,Heap.get?_update_self _ t3 (Obj.isFreed_of_fields (Obj.data_mapFields rfl _)),Obj.data_mapFields rfl _,by simp[hts3]⟩⟩,fun b o hb hf ho=>?_,fun b o hb ho=>?_,?_⟩
 ·exact Heap.get?_none_of_le (by rw[x1.1];exact Nat.le_refl _)
 ·rw[Heap.get?_update_other _ _ dT];exact e3
 ·obtain⟨c,dd,dt,sl⟩:=oe;cases k5;cases k6;rfl
 ·exact oth b o (fun z=>hb (List.mem_singleton.mpr z)) ((x1.2.1 b hf).trans ho)
 ·obtain⟨sl,hs⟩:=x1.2.2 b o ho;exact⟨sl,oth b _ (fun z=>hb (List.mem_singleton.mpr z)) hs⟩
 ·rw[Heap.size_after_update,Heap.size_after_update,Heap.size_push,x1.1];exact Nat.le_succ _
theorem Zd6{Q:Unit->Shared->Prop}(k1:A.frames=some (env::outer))(k2:s.heap.FunFrames base (env::outer))(k3:env.frame=some L)(k4:s.heap.get? e=some oe)(k5:oe.dict=none)(k6:oe.data=.fields vs)(k7:vs[1]? = some .none)
  (q:∀ h' T,Gone (env::outer) e T oe.cls [e] s.heap h'->Q () { s with heap:=h' }):wpAny M A (leaving env (.ref e)) Q E s:=by
 unfold leaving noteFrame;simp only[k3];refine wpAny_bind (wpAny_bind (wpAny_field k4 k6 k7 ?_));rw[if_neg (by decide)]
 exact entry1 k1 k2 k3 k4 k5 k6 (Array.getElem?_eq_some_iff.mp k7).1 q
theorem Zbw{T:Addr}{C:Value}{Q:Unit->Shared->Prop}(k1:A.frames=some (env::outer))(k2:s.heap.FunFrames base (env::outer))(k3:env.frame=some L)(k4:Trc s.heap e T C .none)
  (q:∀ h' T',Gone (env::outer) e T' C [e,T] s.heap h'->Q () { s with heap:=h' }):wpAny M A (noteFrame (.ref e) env) (fun _ s'=>wpAny M A (setFlight (.ref e) none) Q E s') E s:=by
 obtain⟨⟨oe,vs,a1,a2,a3,a4,a5⟩,ne,⟨oT,ts,b1,b2,b3⟩⟩:=k4;subst a2;unfold noteFrame;simp only[k3];refine wpAny_bind (wpAny_field a1 a4 a5 ?_);rw[if_pos (show (Value.ref T != Value.none)=true by simp)]
 refine wpAny_bind (wpAny_field b1 b2 b3 ?_);rw[if_neg (show ¬ ((Value.none == rawInt L)=true) by simp[rawInt])]
 refine wpAny_bind (wpAny_setField b1 b2 (Array.getElem?_eq_some_iff.mp b3).1 ?_);have ot:∀ b,b≠T->(s.heap.update T (Obj.mapFields (·.setIfInBounds 3 Value.none))).get? b=s.heap.get? b:=fun b hb=>Heap.get?_update_other _ _ (Ne.symm hb);have nr:∀ b o,s.heap.get? b=some o->(∀ vs,o.data≠.fields vs)->b≠T:=fun b o hb nf z=>by
  rw[z,b1] at hb;cases hb;exact nf ts b2
 refine entry1 (base:=base) k1 (k2.of_keeps fun b o hb nf=>⟨o,(ot b (nr b o hb nf)).trans hb,rfl⟩) k3 ((ot e (Ne.symm ne)).trans a1) a3 a4 (Array.getElem?_eq_some_iff.mp a5).1 fun h' T' g=>q h' T' ⟨?_,g.trc,fun b o hb hf ho=>?_,fun b o hb ho=>?_,?_⟩
 ·have:=g.new;cases hq:s.heap.get? T' with
  | none=>rfl
  | some o=>
   by_cases z:T'=T
   ·subst z;obtain⟨oo,ho⟩:∃ oo,(s.heap.update T' (Obj.mapFields (·.setIfInBounds 3 Value.none))).get? T'=some oo:=⟨_,Heap.get?_update_self _ b1 (Obj.isFreed_of_fields (Obj.data_mapFields b2 _))⟩;rw[ho] at this;cases this
   ·rw[ot T' z,hq] at this;cases this
 ·refine g.keep b o (fun z=>hb (List.mem_cons.mpr (.inl (List.mem_singleton.mp z)))) hf ((ot b fun z=>hb (z▸List.mem_cons_of_mem _ List.mem_cons_self)).trans ho)
 ·refine g.slot b o (fun z=>hb (List.mem_cons.mpr (.inl (List.mem_singleton.mp z)))) ((ot b fun z=>hb (z▸List.mem_cons_of_mem _ List.mem_cons_self)).trans ho)
 ·have:=g.size;rw[Heap.size_after_update] at this;exact this
theorem Zga{T:Addr}{C:Value}{Q:Unit->Shared->Prop}(k1:A.frames=some (env::outer))(k2:s.heap.FunFrames base (env::outer))(k3:env.frame=some L)(k4:Trc s.heap e T C .none)
  (q:∀ h' T',Gone (env::outer) e T' C [e,T] s.heap h'->Q () { s with heap:=h' }):wpAny M A (leaving env (.ref e)) Q E s:=by
 unfold leaving;exact wpAny_bind (Zbw k1 k2 k3 k4 q)
end
end KS
end
section
namespace KS
open PySem PySem.Spec L2
open PyProof.Rows hiding St
theorem Uu{P:Program}{w:World}{H:Hp}{h h':Heap}{l:List Env}{e T:Addr}{C:Value}{gl:List Addr}(ok:HOk P w H h)(g:Gone l e T C gl h h')(n1:∀ b∈gl,H b=none)(n2:∀ b∈frs l,H b=none):HOk P w H h':=fun a u ha=>by
 have tr:∀ b v,H b=some v->b∉gl/\b∉frs l:=fun b v hb=>⟨(fun z=>by rw[n1 b z] at hb;cases hb),(fun z=>by rw[n2 b z] at hb;cases hb)⟩
 refine (ok a u ha).stay (fun b v hb hv=>?_) (fun _ q=>q) fun _ _ q=>q;rcases hb with rfl | hb
 ·exact g.keep b v (tr b u ha).1 (tr b u ha).2 hv
 ·exact g.keep b v (tr b _ hb).1 (tr b _ hb).2 hv
noncomputable def CX1(P:Program)(w:World):CXT:=fun outer H s E e s'=>∃ a T C H',e=.ref a/\s'.os=s.os/\AllBare s'.gens/\Un (frs outer) [] H H' s.heap s'.heap/\HOk P w H' s'.heap/\H' a=none/\H' T=none/\s.heap.get? a=none/\s.heap.get? T=none/\Trc s'.heap a T C .none/\E C none H'
section
variable{X:Cx}{pins:List (Addr×Obj)}{σ:St}{H:Hp}{s:Shared}
theorem Inv.old_none(I:L2.Inv X pins σ H s){a:Addr}(hx:X.ex=[])(h:s.heap.get? a=none):X.s₀.heap.get? a=none:=by
 cases q:X.s₀.heap.get? a with
 | none=>rfl
 | some o=>
  obtain⟨o',e⟩:=I.base.there a o q (by rw[hx];exact fun z=>nomatch z)
  rw[h] at e;cases e
theorem Inv.free_none(I:L2.Inv X pins σ H s){a:Addr}(h:s.heap.get? a=none):H a=none:=by
 cases q:H a with
 | none=>rfl
 | some u=>
  obtain⟨o,e⟩:=ObjOk.there (I.hok a u q);rw[h] at e;cases e
theorem Zal{h':Heap}{e T:Addr}{C:Value}{gl:List Addr}(I:L2.Inv X pins σ H s)(hx:X.ex=[])(hs:X.stack=X.env::X.outer)(hf:X.env.frame=some X.env.locals)(g:Gone X.stack e T C gl s.heap h')(n0:∀ b∈gl,X.s₀.heap.get? b=none):Un X.fs [] X.H₀ H X.s₀.heap h':=by
 have u:=I.base;rw[hx] at u;have nl:∀ b o,X.s₀.heap.get? b=some o->b∉gl:=fun b o q z=>by rw[n0 b z] at q;cases q
 have nf:∀ b o,X.s₀.heap.get? b=some o->b∉X.fs->b∉frs X.stack:=fun b o q n z=>by
  rw[hs] at z;unfold frs at z;rw[List.filterMap_cons,hf] at z;rcases List.mem_cons.mp z with z | z
  ·subst z;exact absurd (Nat.lt_of_lt_of_le (Heap.lt_size q) I.ok.above) (Nat.lt_irrefl _)
  ·exact n z
 refine⟨fun b o q n nb nx=>?_,fun b o q n nb nx=>?_,u.free,fun b o q nx=>?_,u.tups,u.frzs,u.tbls⟩
 ·exact g.keep b o (nl b o q) (nf b o q nb) (u.keep b o q n nb nx)
 ·obtain⟨sl,e1⟩:=u.slot b o q n nb nx;obtain⟨sl',e2⟩:=g.slot b _ (nl b o q) e1;exact⟨sl',e2⟩
 ·obtain⟨o',e1⟩:=u.there b o q nx;obtain⟨sl,e2⟩:=g.slot b o' (nl b o q) e1;exact⟨_,e2⟩
end
section
variable{P:Program}{w:World}{K:PySem.W.Frag}{mg:Str->Option Value}{base:Heap}{N:List Str}{qual:Str}{scope:Scope}{f:Addr}{cd:Value}{A:Around}{outer:List Env}{s:Shared}{H:Hp}{E:XK}
noncomputable abbrev cx1(P:Program)(w:World)(K:PySem.W.Frag)(mg:Str->Option Value)(base:Heap)(N:List Str)(qual:Str)(scope:Scope)(f:Addr)(cd:Value)(A:Around)(outer:List Env)(s:Shared)(H:Hp)(E:XK):Cx:=cxOf (CX1 P w) P w K mg base N qual scope f cd A outer s H E
noncomputable def Raises(X:Cx)(E:XK):Prop:=∀ (pins:List (Addr×Obj)) (σ:St) (H:Hp) (s:Shared) (e t:Addr) (C:Value),L2.Inv X pins σ H s->s.heap.get? e=some { cls:=C,data:=.fields #[.ref t,.none,.none,.none,.bool false,.none] }->X.s₀.heap.get? e=none->H e=none->E C none H->X.xe (.ref e) s
theorem raises1:Raises (cx1 P w K mg base N qual scope f cd A outer s H E) E:=fun pins σ H1 s1 e t C I he h0 hn hE=>by
 refine Zd6 (base:=base) I.ok.frames I.stack rfl he rfl rfl rfl fun h' T g=>?_;refine⟨e,T,C,H1,rfl,I.os,I.bare,Zal I rfl rfl rfl g fun b hb=>?_,Uu I.hok g (fun b hb=>?_) I.stkFree,hn,Inv.free_none I g.new,h0,Inv.old_none I rfl g.new,g.trc,hE⟩
 ·rw[List.mem_singleton.mp hb];exact h0
 ·rw[List.mem_singleton.mp hb];exact hn
theorem pass1:Passes (CX1 P w) (cx1 P w K mg base N qual scope f cd A outer s H E) E:=fun pins σ H1 s1 e s' I hc=>by
 obtain⟨a,T,C,H',rfl,os,bare,un,hok,na,nT,ha,hT,tr,hE⟩:=hc;have I':L2.Inv (cx1 P w K mg base N qual scope f cd A outer s H E) pins σ H' s':=I.call' (ch:=[]) os un hok bare fun b z=>nomatch z;have ha0:=Inv.old_none I rfl ha;have hT0:=Inv.old_none I rfl hT;have two:∀ {p:Addr->Prop},p a->p T->∀ b∈[a,T],p b:=fun {p} h1 h2 b hb=>by
  rcases List.mem_cons.mp hb with rfl | hb
  ·exact h1
  ·rw[List.mem_singleton.mp hb];exact h2
 refine Zga (base:=base) I'.ok.frames I'.stack rfl tr fun h' T' g=>?_;exact⟨a,T',C,H',rfl,I'.os,I'.bare,Zal I' rfl rfl rfl g (two ha0 hT0),Uu I'.hok g (two na nT) I'.stkFree,na,Inv.free_none I' g.new,ha0,Inv.old_none I' rfl g.new,g.trc,hE⟩
theorem own1:PassesOwn (model P w) (cx1 P w K mg base N qual scope f cd A outer s H E).A (cx1 P w K mg base N qual scope f cd A outer s H E).env (cx1 P w K mg base N qual scope f cd A outer s H E).xe:=PassesOwn.leaving
end
section
variable{P:Program}{w:World}{K:PySem.W.Frag}{mg:Str->Option Value}{base:Heap}
theorem ok1{x qual:Str}{st:Stmt}{f:Addr}{fd:FuncData}{N ps:List Str}{k:Nat}{sp:Sp}(F:Fun K x qual st f fd)(S:FnScope N ps (defScope st))(len:∀ vs H Q E,sp vs H Q E->vs.length=ps.length)
  (hbody:∀ (cdv:Value) (A:Around) (outer:List Env) (s:Shared) (H:Hp) (vs:List V) (Q:VK) (E:XK),Room k (A.deeper (envOfC qual (defScope st) s.heap.objs.size f cdv))->sp vs H Q E ->
   ∃ t,PSs (cx1 P w K mg base N qual (defScope st) f cdv A outer s H E) (defBody st) t/\t { nx:=fun _ H'=>Q .non H',rt:=Q } (start N vs) H):FnOk P w K mg base (CX1 P w) (k+1) f fd ps sp:=by
 obtain⟨oc,od,kV,doc,pm,an,cdv,ct,osl,rfl,lk,hcd⟩:=F.ex;exact Zju lk hcd S len fun A outer s H vs Q E hr hsp=>hbody cdv A outer s H vs Q E hr hsp
theorem never1{CX:CXT}{k:Nat}{f:Addr}{fd:FuncData}{ps:List Str}:FnOk P w K mg base CX k f fd ps (fun _ _ _ _=>False):=⟨fun _ _ _ _ h=>h.elim,fun _ _ _ _ _ _ _ _ _ _ _ _ _ h=>h.elim⟩
end
structure XCls(K:PySem.W.Frag)(B newId initId:String)(bmB:List Value)(C:Addr):Prop where
 F:ExcBaseFacts B newId initId bmB
 obj:∀ h:Heap,K.In h->∃ bm N nm q bs hdct sn sub ab col dd k0 k1 k2 k3 k5 mN,h.get? C=some (excClassObj nm q C N bs bm hdct sn sub ab col dd k0 k1 k2 k3 k5 newId)/\h.Ns N mN/\mN "__init__"=none/\OwnTail h bmB bm
section
variable{X:Cx}{E:XK}{B newId initId:String}{bmB:List Value}{C:Addr}{x:Str}{np cpos pos:Pos}{a:Expr}{ta:TE}
noncomputable def tRaise(E:XK)(C:Value)(ta:TE):L2.TS:=fun _ σ H=>ta σ H fun _ H1=>E C none H1
theorem Zbj(hx:X.ex=[])(R:Raises X E)(hc:X.calm=true)(c:XCls X.K B newId initId bmB C)(hg:Gl X x)(hm:X.mg x=some (.ref C))(ha:PE X a ta)
  (hs:starEach [a] X.env=[(false,eval a X.env)]:=by rfl) (hd:(x == ("__debug__":Str))=false:=by decide):
  PS X (.Raise (some (.Call (.Name x np) [a] [] cpos)) none pos) (tRaise E (.ref C) ta):=by
 intro pins s σ H D I h;obtain⟨bm,N,nm,q,bs,hdct,sn,sub,ab,col,dd,k0,k1,k2,k3,k5,mN,c1,c2,c3,c4⟩:=c.obj _ I.ok.mod.kin;have bk:∀ {σ':St} {H':Hp} {s':Shared},L2.Inv X pins σ' H' s'->∀ b o,X.base.get? b=some o->s'.heap.get? b=some o:=fun J=>J.bk;refine wpAny_Raise_call_subT (C:=C) (nm:=nm) (q:=q) (N:=N) (bs:=bs) (bm:=bm) (hdct:=hdct) (sn:=sn) (sub:=sub) (ab:=ab) (col:=col) (dd:=dd) (k0:=k0) (k1:=k1) (k2:=k2) (k3:=k3) (k5:=k5) c.F (mN:=mN) (c4.hasType c.F.hasBase) (I.ok.hd hc) (by rw[hs];rfl) c3 ?_
 refine thn (Ww (v:=.ref C) hg hm rfl hd pins s σ H (fun v H'=>v=.ref C/\H'=H) I ⟨rfl,rfl⟩) fun u s1 ⟨v,H1,I1,r1,e1,e2⟩=>?_;subst e1 e2;refine⟨r1,?_⟩;rw[hs];refine Calls.evalArgs_plain (Calls.spliced_cons (thn (ha pins s1 σ H1 _ I1 h) fun u s2 ⟨v,H2,I2,r2,hE⟩=>Calls.spliced_nil ?_));refine⟨rfl,(by show 1<=sizeLine;decide),bk I2 _ _ c1,c2.keeps (bk I2),c4.keeps (bk I2),fun h' e m=>?_⟩
 obtain⟨t,g1,g2,g3⟩:=m.there;exact R pins σ H2 _ e t (.ref C) (I2.kept m.keeps) g1 (Inv.old_none I2 hx m.new) (Inv.free_none I2 m.new) hE
end
end KS
end
section
namespace KS
open PySem PySem.Spec L2
open PyProof.Rows hiding St
section
variable{X:Cx}{pins:List (Addr×Obj)}{σ:St}{H:Hp}{s:Shared}
theorem Inv.nfr(I:L2.Inv X pins σ H s){b:Addr}(h1:b≠X.env.locals)(h2:b∉X.fs):b∉frs X.stack:=fun z=>by
 rcases List.mem_cons.mp (I.stkSub b z) with z | z
 ·exact h1 z
 ·exact h2 z
theorem Inv.gone{h':Heap}{e T:Addr}{C:Value}{gl:List Addr}(I:L2.Inv X pins σ H s)(hx:X.ex=[])(hs:X.stack=X.env::X.outer)(hf:X.env.frame=some X.env.locals)(g:Gone X.stack e T C gl s.heap h')
  (n0:∀ b∈gl,X.s₀.heap.get? b=none) (n1:∀ b∈gl,H b=none) (nf:∀ b∈gl,∃ o vs,s.heap.get? b=some o/\o.data=.fields vs) (np:∀ p∈X.pn++pins,p.1∉gl):L2.Inv X pins σ H { s with heap:=h' }:=by
 have nL:X.env.locals∉gl:=fun z=>by
  obtain⟨m,⟨o,es,ep,ho,hd,_⟩,_⟩:=I.loc;obtain⟨o',vs,e1,e2⟩:=nf _ z;rw[ho] at e1;cases e1;rw[hd] at e2;cases e2
 have nC:∀ c v,s.heap.IsCell c v->c∉gl:=fun c v ⟨o,ho,hd⟩ z=>by
  obtain⟨o',vs,e1,e2⟩:=nf _ z;rw[ho] at e1;cases e1;rw[hd] at e2;cases e2
 have cellK:∀ c v,s.heap.IsCell c v->h'.IsCell c v:=fun c v hc=>by
  obtain⟨o,ho,hd⟩:=id hc;obtain⟨sl,e1⟩:=g.slot c o (nC c v hc) ho;exact⟨_,e1,hd⟩
 have u:=Zal I hx hs hf g n0;refine⟨I.ok,I.os,I.bare,by rw[hx];exact u,?_,fun x c e=>?_,I.free,I.freeC,fun p hp=>?_,Uu I.hok g n1 I.stkFree,I.len⟩
 ·obtain⟨m,⟨o,es,ep,ho,r⟩,hl⟩:=I.loc;obtain⟨sl,e1⟩:=g.slot _ o nL ho;refine⟨m,⟨_,es,ep,e1,r⟩,fun i x v e1 e2 e3=>?_⟩;obtain⟨w,r1,q⟩:=hl i x v e1 e2 e3;refine⟨w,r1,?_⟩;rcases q with q | ⟨k,c,e,z⟩
  ·exact .inl q
  ·exact .inr ⟨k,c,e,cellK c _ z⟩
 ·obtain⟨v,z⟩:=I.cell x c e;exact⟨v,cellK c v z⟩
 ·obtain⟨e1,n,ne,nfs,d⟩:=I.pin p hp;exact⟨g.keep p.1 p.2 (np p hp) (Inv.nfr I ne nfs) e1,n,ne,nfs,d⟩
theorem Inv.record{h':Heap}{T:Addr}{t':Nat}(I:L2.Inv X pins σ H s)(hx:X.ex=[])(keep:∀ b o,b≠T->s.heap.get? b=some o->h'.get? b=some o)(n0:X.s₀.heap.get? T=none)(n1:H T=none)(nf:∃ o vs,s.heap.get? T=some o/\o.data=.fields vs)(np:∀ p∈X.pn++pins,p.1≠T):
  L2.Inv X pins σ H { s with heap:=h',toks:=t' }:=by
 obtain⟨oT,vs,hT,hd⟩:=nf;have nL:X.env.locals≠T:=fun z=>by
  obtain⟨m,⟨o,es,ep,ho,hd',_⟩,_⟩:=I.loc;rw[z,hT] at ho;cases ho;rw[hd] at hd';cases hd'
 have nC:∀ c v,s.heap.IsCell c v->c≠T:=fun c v ⟨o,ho,hd'⟩ z=>by
  rw[z,hT] at ho;cases ho;rw[hd] at hd';cases hd'
 have cellK:∀ c v,s.heap.IsCell c v->h'.IsCell c v:=fun c v hc=>by
  obtain⟨o,ho,hd⟩:=id hc;exact⟨_,keep c o (nC c v hc) ho,hd⟩
 have u:=I.base;rw[hx] at u;have ns:∀ b o,X.s₀.heap.get? b=some o->b≠T:=fun b o e z=>by rw[z,n0] at e;cases e
 have u2:Un X.fs [] X.H₀ H X.s₀.heap h':=by
  refine⟨fun b o q n nb nx=>keep b o (ns b o q) (u.keep b o q n nb nx),fun b o q n nb nx=>?_,u.free,fun b o q nx=>?_,u.tups,u.frzs,u.tbls⟩
  ·obtain⟨sl,e1⟩:=u.slot b o q n nb nx;exact⟨sl,keep b _ (ns b o q) e1⟩
  ·obtain⟨o',e1⟩:=u.there b o q nx;exact⟨o',keep b _ (ns b o q) e1⟩
 refine⟨I.ok,I.os,I.bare,by rw[hx];exact u2,?_,fun x c e=>?_,I.free,I.freeC,fun p hp=>?_,fun a o ha=>?_,I.len⟩
 ·obtain⟨m,⟨o,es,ep,ho,r⟩,hl⟩:=I.loc;refine⟨m,⟨_,es,ep,keep _ o nL ho,r⟩,fun i x v e1 e2 e3=>?_⟩;obtain⟨w,r1,q⟩:=hl i x v e1 e2 e3;refine⟨w,r1,?_⟩;rcases q with q | ⟨k,c,e,z⟩
  ·exact .inl q
  ·exact .inr ⟨k,c,e,cellK c _ z⟩
 ·obtain⟨v,z⟩:=I.cell x c e;exact⟨v,cellK c v z⟩
 ·obtain⟨e1,n,ne,nfs,d⟩:=I.pin p hp;exact⟨keep p.1 p.2 (np p hp) e1,n,ne,nfs,d⟩
 ·have tr:∀ b v,H b=some v->b≠T:=fun b v hb z=>by rw[z,n1] at hb;cases hb
  refine (I.hok a o ha).stay (fun b v hb hv=>?_) (fun _ q=>q) fun _ _ q=>q;rcases hb with rfl | hb
  ·exact keep b v (tr b o ha) hv
  ·exact keep b v (tr b _ hb) hv
theorem Inv.name_gone{M:Model}{A:Around}{E:Value->Shared->Prop}{i:Nat}{n:Str}{pos:Pos}{Q:Unit->Shared->Prop}(I:L2.Inv X pins σ H s)(hN:X.N.Nodup)(hi:X.N[i]? = some n)(hl:X.env.kindOf n=some .local)
  (q:∀ s',L2.Inv X pins (σ.set i none) H s'->Q () s'):wpAny M A (do bindName X.env n .none;unbindBehindTheSuite X.env n pos) Q E s:=by
 obtain⟨m,hn,hv⟩:=id I.loc;have hcls:(X.env.scope.kind == .class||(X.env.scope.kind == .module&&X.env.locals != X.env.globals))=false:=by rw[I.ok.kind];rfl
 obtain⟨oL,_,_,hoL,_⟩:=id hn;have cne:=I.cne;refine wpAny_nameGoes_keeps hl hn hcls fun h' v hn' hs=>q _ ?_;have low:∀ b o,X.s₀.heap.get? b=some o->b≠X.env.locals:=fun b o e=>Nat.ne_of_lt (Nat.lt_of_lt_of_le (Heap.lt_size e) I.ok.above);refine⟨I.ok,I.os,I.bare,⟨fun b o e n hb hx=>(hs.2 b (low b o e)).trans (I.base.keep b o e n hb hx),fun b o e n hb hx=>?_,I.base.free,fun b o e hx=>?_,I.base.tups,I.base.frzs,I.base.tbls⟩,⟨_,hn',fun j y v' e1 e2 e3=>?_⟩,fun y c e=>?_,I.free,I.freeC,fun p hp=>?_,fun b ob e=>?_,by rw[List.length_set];exact I.len⟩
 ·obtain⟨sl,e1⟩:=I.base.slot b o e n hb hx;exact⟨sl,(hs.2 b (low b o e)).trans e1⟩
 ·obtain⟨o',e1⟩:=I.base.there b o e hx;exact⟨o',(hs.2 b (low b o e)).trans e1⟩
 ·by_cases hj:j=i
  ·subst hj;by_cases hlt:j<σ.length
   ·rw[List.getElem?_set_self hlt] at e2;cases e2
   ·rw[List.getElem?_eq_none (by rw[List.length_set];omega)] at e2
    cases e2
  ·rw[List.getElem?_set_ne (Ne.symm hj)] at e2;obtain⟨u',r',z⟩:=hv j y v' e1 e2 e3;refine⟨u',r',?_⟩;rcases z with ⟨k,e⟩ | ⟨k,c,e,z⟩
   ·refine .inl ⟨k,?_⟩;have:y≠n:=fun e=>hj (Ur hN e1 (e▸hi));simp[this,e]
   ·exact .inr ⟨k,c,e,z.sameBut hs (cne y c e)⟩
 ·obtain⟨w',z⟩:=I.cell y c e;exact⟨w',z.sameBut hs (cne y c e)⟩
 ·obtain⟨e,n,ne,nf,d⟩:=I.pin p hp;exact⟨(hs.2 p.1 ne).trans e,n,ne,nf,d⟩
 ·refine (I.hok b ob e).stay (fun c w' hc q=>(hs.2 c ?_).trans q) (fun _ q=>q) fun _ _ q=>q;rintro rfl;rcases hc with rfl | hc
  ·rw[I.free] at e;cases e
  ·rw[I.free] at hc;cases hc
end
theorem flight0{M:Model}{A:Around}{E:Value->Shared->Prop}{s:Shared}{e T:Addr}{C fl:Value}{Q:Unit->Shared->Prop}(t:Trc s.heap e T C fl)
  (q:∀ h',(∀ b o,b≠T->s.heap.get? b=some o->h'.get? b=some o)->Q () { s with heap:=h' }):wpAny M A (setFlight (.ref e) none) Q E s:=by
 obtain⟨⟨oe,vs,a1,a2,a3,a4,a5⟩,ne,⟨oT,ts,b1,b2,b3⟩⟩:=t;unfold setFlight;refine wpAny_bind (wpAny_field a1 a4 a5 ?_);rw[if_pos (show (Value.ref T != Value.none)=true by simp)]
 exact wpAny_setField b1 b2 (Array.getElem?_eq_some_iff.mp b3).1 (q _ fun b o hb ho=>(Heap.get?_update_other _ _ (Ne.symm hb)).trans ho)
section
variable{X:Cx}{pins:List (Addr×Obj)}{σ:St}{H:Hp}{s:Shared}{a:Addr}{oe:Obj}
end
structure XIs(K:PySem.W.Frag)(D:Addr):Prop where
 hd:PySem.W.hasDictIn K D=true
 ha:PySem.W.findIn K (.ref D) "__class__"=some (some (.builtin "object.__class__"))
 hn:PySem.W.specialIn K (.builtin "object.__class__") "__get__"=some (some (.builtin "getset_descriptor.__get__"))
 ht:PySem.W.takesIn K (.builtin "object.__class__")=some true
 hm:PySem.W.mroIn K D (.type "object")=some true
 hb:PySem.W.mroIn K D (.type "BaseException")=some true
 hga:PySem.W.findIn K (.ref D) "__getattribute__"=some (some (.builtin "BaseException.__getattribute__"))
 hgn:PySem.W.findIn K (.ref D) "__getattr__"=some none
section
open PySem.W
variable{prog:Program}{w:World}{A:Around}{E:Value->Shared->Prop}{K:Frag}{h:Heap}{g:Array GenState}{d:Drawn}{t:Nat}{os:OsState}{a D:Addr}{ox:Obj}
theorem Zgr{tk:Tok}{R:Result->Shared->Prop}(X:K.In h)(I:InstAt h a ox D none)(c:XIs K D)
  (q:R (.ok (.ret (.ref D))) ⟨h,g,d,t,os⟩):codeAny (model prog w) A (.call (.builtin "BaseException.__getattribute__") ⟨[.ref a,.str "__class__" tk],[]⟩) R ⟨h,g,d,t,os⟩:=by
 have L0:=I.type (M:=model prog w);have hf:findObj K D none "__class__"=some (.bind (.builtin "getset_descriptor.__get__") (.builtin "object.__class__")):=by
  obtain⟨cd,hcd,_⟩:=any_some c.hd;unfold findObj;simp[hcd,c.ha,c.hn,c.ht]
 have L3:=looks_find (M:=model prog w) X I hf;have L4:=looks_mroIn (M:=model prog w) X c.hb;refine codeAny_call_builtin PySem.F.attr_ValueError.ga.plain F.entry_bexc_ga ?_;have hk:builtinKind "BaseException.__getattribute__"=some .slot:=by decide +kernel
 have hsplit:splitId "BaseException.__getattribute__"=some ("BaseException","__getattribute__"):=by decide +kernel
 have ha:=F.args_bexc_ga (.ref a) (.str "__class__" tk);simp only[checkBuiltinCall,hk,hsplit];refine wpAny_bind ?_;unfold isInstance;refine wpAny_bind (L0.at (L4.at ?_));rw[if_neg (by decide)]
 have main:wpAny (model prog w) A.in1 (Builtin.«object.__getattribute__» ⟨[.ref a,.str "__class__" tk],[]⟩) (fun fin s'=>match fin with | .done f=>R (.ok f) s' | .again c'=>c'.quiet=true/\codeAny (model prog w) A c' R s') (fun e s'=>R (.error e) s') ⟨h,g,d,t,os⟩:=by
  unfold Builtin.«object.__getattribute__»;refine wpAny_bind (wpAny_pure (wpAny_bind (wpAny_pure (wpAny_bind (L0.at (wpAny_bind (L3.at ?_)))))));dsimp only;unfold Builtin.ObjectAttr.bindTo;dsimp only;refine wpAny_bind (wpAny_holding (wpAny_call (class_get (od:=none) X I c.hm ?_)));exact wpAny_pure q
 unfold argsOk at ha;generalize Manifest.signature? "BaseException.__getattribute__"=sg at ha ⊢;cases sg with
 | none=>exact wpAny_pure main
 | some sig=>
  dsimp only at ha ⊢;rw[ha];exact wpAny_pure main
theorem Zgs{Q:Option Value->Shared->Prop}{s:Shared}(X:K.In s.heap)(I:InstAt s.heap a ox D none)(c:XIs K D)
  (q:Q (some (.ref D)) { s with toks:=s.toks+1 }):wpAny (model prog w) A (getAttr? (.ref a) "__class__") Q E s:=by
 obtain⟨h,g,d,t,os⟩:=s;have L0:=I.type (M:=model prog w);have L1:=looks_findIn (M:=model prog w) X c.hga;have L2:=looks_findIn (M:=model prog w) X c.hgn;unfold getAttr? getAttrBy? getAttrBy;refine wpAny_bind (wpAny_mkText (wpAny_bind (wpAny_attempt (wpAny_holding (wpAny_bind (L0.at (wpAny_bind (L1.at ?_))))))));dsimp only;rw[if_neg (by simp[onTheHeap])]
 unfold getAttrByItsOwn hookBefore;rw[if_pos (by rfl)]
 refine wpAny_bind (L2.at (wpAny_bind (wpAny_attempt (wpAny_holding ?_))));unfold callGetattribute boundAndCalled;rw[if_neg (by decide)]
 refine wpAny_bind (wpAny_of_eq (PySem.F.attr_ValueError.ga.bind (.ref a)) ?_);refine wpAny_call (Zgr X I c ?_);refine handed_on rfl ?_;exact wpAny_pure q
theorem Zgf{x:Addr}(c:XIs K D):KitX K (.ref x) (.ref D) (fun h=>InstAt h x ox D none) where
 ty:=fun _ _ _ I=>I.type
 it:=fun _ _ X _=>by
  obtain⟨cd,hcd,_⟩:=any_some c.hd;unfold clsIn at hcd
  split at hcd
  ·rename_i q1 q2 q3 q4 hob
   intro A1 Q1 E1 s1 kk qq;unfold isType loadHead;exact wpAny_bind (wpAny_loadPart (kk _ _ (X _ _ hob)) (wpAny_pure qq))
  ·cases hcd
 ne:=fun h tp dd its n sl X htp=>by
  obtain⟨cd,hcd,_⟩:=any_some c.hd;refine Bool.eq_false_iff.mpr fun z=>?_;obtain rfl:D=tp:=Value.ref.inj (beq_iff_eq.mp z);unfold clsIn at hcd
  split at hcd
  ·rename_i q1 q2 q3 q4 hob
   have zz:=(X _ _ hob).symm.trans htp;cases zz
  ·cases hcd
 ca:=fun X I k=>Zgs X I c k
theorem Zb1{C:Addr}:kitOne K (.ref C) (.ref C)=some true:=by
 unfold kitOne;rw[if_pos (beq_self_eq_true _)]
theorem kitc{C:Addr}{b:Bool}(h1:isClsIn K D=true)(h2:typeIn K (.ref D)=some (.type "type"))(h3:mroIn K C (.ref D)=some b):kitCls K (.ref C) (.ref D)=some b:=by
 unfold isClsIn at h1;show (if ((clsIn K D).isSome&&typeIn K (.ref D) == some (.type "type"))=true then subIn K (.ref C) (.ref D) else none)=some b
 rw[h1,h2,if_pos (by rfl)]
 exact h3
theorem X4{C:Addr}(h0:mroIn K C (.ref C)=some true)(h1:isClsIn K D=true)(h2:typeIn K (.ref D)=some (.type "type"))(h3:mroIn K C (.ref D)=some false):kitOne K (.ref C) (.ref D)=some false:=by
 unfold kitOne;rw[if_neg fun z=>by
  obtain rfl:C=D:=Value.ref.inj (beq_iff_eq.mp z);rw[h0] at h3;cases h3]
 exact kitc h1 h2 h3
theorem Zhj{C:Addr}(h:mroIn K C (.type "ValueError")=some true):kitOne K (.ref C) (.type "ValueError")=some true:=by
 unfold kitOne;rw[if_neg (fun z=>by cases beq_iff_eq.mp z)]
 show (if kitMeta "ValueError"=true then subIn K (.ref C) (.type "ValueError") else none)=some true
 rw[if_pos (by decide +kernel)]
 exact h
theorem Zho{C:Addr}(h0:mroIn K D (.type "BaseException")=some true)(h1:isClsIn K D=true)(h2:typeIn K (.ref D)=some (.type "type"))(h3:mroIn K C (.ref D)=some true):exmOne K (.ref C) (.ref D)=some true:=by
 unfold exmOne;rw[if_pos (by show ((mroIn K D (.type "BaseException")) == some true)=true;rw[h0];rfl)]
 exact kitc h1 h2 h3
end
structure ExO(oe:Obj)(D:Addr):Prop where
 cls:oe.cls=.ref D
 dict:oe.dict=none
 data:∃ vs,oe.data=.fields vs
theorem ExO.inst{h:Heap}{a D:Addr}{oe:Obj}(x:ExO oe D)(e:h.get? a=some oe):PySem.W.InstAt h a oe D none:=by
 obtain⟨vs,hv⟩:=x.data;refine⟨e,x.cls,?_,?_⟩
 ·unfold PySem.W.notCls;rw[hv]
 ·rw[x.dict]
  trivial
section
variable{X:Cx}{K:PySem.W.Frag}{a:Addr}{oe:Obj}
end
section
variable{X:Cx}{k:Nat}{f Dc:Addr}{fd:FuncData}{ps:List Str}{sp:Sp}{x y n:Str}{p cpos epos np hpos pos:Pos}{e:Expr}{es:List Expr}{ta:TA}{b₀:Stmt}{suite:List Stmt}{th:Addr->Obj->L2.TS}{i:Nat}
end
end KS
end
section
namespace KS
open PySem PySem.Spec L2
open PyProof.Rows hiding St
abbrev bmVE:List Value:=[.type "ValueError",.type "Exception",.type "BaseException",.type "object"]
theorem Zcz{K:PySem.W.Frag}{C:Addr}(q:PySem.W.excIn K C bmVE "ValueError.__new__"=true):XCls K "ValueError" "ValueError.__new__" "ValueError.__init__" bmVE C:=by
 refine⟨PySem.F.excBase_ValueError,fun h X=>?_⟩;unfold PySem.W.excIn at q
 split at q
 ·rename_i dd cd sl hob
  split at q
  ·rename_i C1 bm j0 j1 j2 j3 nw j5 g1 g2
   simp only[Bool.and_eq_true,beq_iff_eq,Bool.not_eq_true'] at q;obtain⟨⟨⟨⟨⟨rfl,rfl⟩,q1⟩,q2⟩,q3⟩,q4⟩:=q;obtain⟨nm,bs,mro,ns,qn,hd,sn,sub,ab,col,del⟩:=cd;dsimp only at g1 q1 q3 q4;subst g1 q1;obtain rfl:sl=#[j0,j1,j2,j3,some (.builtin "ValueError.__new__"),j5]:=by
    obtain⟨l⟩:=sl;simp only at g2;rw[g2]
   exact⟨bm,ns,nm,qn,bs,hd,sn,sub,ab,col,dd,j0,j1,j2,j3,j5,_,X _ _ hob,.of_isNs (PySem.W.isNs_of_in X q3),PySem.W.nsMap_none_of_in X q3 q4,PySem.W.tail_of_in X q2⟩
  ·cases q
 ·cases q
theorem lift1{P:Program}{w:World}{K:PySem.W.Frag}{mg:Str->Option Value}{base:Heap}{k:Nat}{f:Addr}{fd:FuncData}{ps:List Str}{sp:Sp}(F:FnOk P w K mg base CX0 k f fd ps sp):FnOk P w K mg base (CX1 P w) k f fd ps sp:=
 ⟨F.len,fun A outer s H args us vs Q E hr he hb hv hs=>codeAny_mono (F.run A outer s H args us vs Q E hr he hb hv hs) fun r s' hq=>by
  cases r with
  | error e=>exact False.elim hq
  | ok fl=>cases fl<;>exact hq⟩
end KS
end
section
namespace KS
open PySem PySem.Spec L2
open PyProof.Rows hiding St
section
variable{M:Model}{A:Around}{E:Value->Shared->Prop}{s:Shared}{base:Heap}{env:Env}{outer:List Env}{L e T:Addr}{C fl:Value}
end
section
variable{X:Cx}{scope:Scope}{xs:List Str}{cl:List (Str×Addr)}{C:Addr}{s₀:Shared}{H₀:Hp}{ex:List Addr}{Ex:XK}{pins:List (Addr×Obj)}{σ:St}{H:Hp}{s:Shared}
end
section
variable{X:Cx}{elt tg iter:Expr}{ifs:List Expr}{scope:Scope}{xs:List Str}{pos:Pos}{g:TG}{tt:TT}{te:TE}
end
section
variable{P:Program}{w:World}{K:PySem.W.Frag}{mg:Str->Option Value}{base:Heap}{N:List Str}{qual:Str}{sc:Scope}{f:Addr}{cd:Value}{A:Around}{outer:List Env}{s0:Shared}{H0:Hp}{E:XK}{elt tg iter:Expr}{ifs:List Expr}{scope:Scope}{xs:List Str}{pos:Pos}{g:TG}{tt:TT}{te:TE}
end
end KS
end
section
namespace KS
open PySem PySem.Spec L2
open PyProof.Rows hiding St
section
variable{X:Cx}{k:Nat}{f Dc:Addr}{fd:FuncData}{ps:List Str}{sp:Sp}{x y n:Str}{p cpos epos np hpos pos:Pos}{e:Expr}{es:List Expr}{ta:TA}{b₀:Stmt}{suite:List Stmt}{th:Addr->Obj->L2.TS}{i:Nat}
end
end KS
end
section
namespace KS
open PySem PySem.Spec L2
open PyProof.Rows hiding St
noncomputable def ExcO(a D:Addr):HO:=.ext fun h=>∃ oe,h.get? a=some oe/\ExO oe D
theorem Zjv{P:Program}{w:World}{H:Hp}{h:Heap}{a D:Addr}{oe:Obj}(e:h.get? a=some oe)(x:ExO oe D):ObjOk P w H h a (ExcO a D):=
 ⟨⟨oe,e,x⟩,⟨oe,e⟩,fun h1 h2 ⟨o,e,x⟩ k=>⟨o,k o e,x⟩⟩
section
variable{X:Cx}
noncomputable def rIsX(K:PySem.W.Frag):List V->Hp->VK->Prop:=fun xs H Q=>∃ (a D:Addr) (v:V) (c:Value) (b:Bool),xs=[.ref a,v]/\(∀ u,RelV v u->u=c)/\H a=some (ExcO a D)/\XIs K D/\PySem.W.kitOne K (.ref D) c=some b/\Q (.bl b) H
theorem Xz{K:PySem.W.Frag}(hK:X.K=K):CallR X (.builtin "isinstance") (rIsX K):=by
 subst hK;intro pins s σ H xs us Q I r h;obtain⟨a,D,v,c,b,rfl,hv,hH,xi,e,q⟩:=h;obtain⟨u,v',rfl,rx,ry⟩:=r.two;cases (show u=Value.ref a from rx);obtain rfl:=hv _ ry;obtain⟨⟨oe,e1,xo⟩,_,_⟩:=I.hok a _ hH;exact PySem.W.kia_one (Zgf (K:=X.K) (x:=a) (ox:=oe) xi) I.kIn (xo.inst e1) e (fun z=>nomatch z) fun tk=>⟨.bl b,H,I.tok tk,rfl,q⟩
end
structure RoomH(k:Nat)(A:Around):Prop where
 dp:A.depth+3 * k+5<recursionLimit
 un:A.units+16 * k+200<cLine
theorem RoomH.deeper{k:Nat}{A:Around}(r:RoomH (k+1) A)(env:Env):RoomH k (A.deeper env):=
 ⟨by have:=r.dp;show A.depth+1+3 * k+5<_;omega,by have:=r.un;show A.units+3+16 * k+200<_;omega⟩
theorem RoomH.depth{k:Nat}{A:Around}(r:RoomH k A):A.depth<recursionLimit:=by have:=r.dp;omega
theorem _root_.L2.Room.h{k:Nat}{A:Around}(r:Room k A)(x:Option Value):RoomH k (A.mark x):=⟨r.dp,r.un⟩
structure FnOkH(P:Program)(w:World)(K:PySem.W.Frag)(mg:Str->Option Value)(base:Heap)(k:Nat)(f:Addr)(fd:FuncData)(ps:List Str)(sp:Sp):Prop where
 len:∀ vs H Q E,sp vs H Q E->vs.length=ps.length
 run:∀ (A:Around) (outer:List Env) (s:Shared) (H:Hp) (args:Args) (us:List Value) (vs:List V) (Q:VK) (E:XK),RoomH k A->Env0 P w K mg base A outer s H->BindsTo s fd args (ps.zip us)->Vals vs us->sp vs H Q E ->
  codeAny (model P w) A (.call (.ref f) args) (CR CX0 outer P w H s Q E) s
section
variable{P:Program}{w:World}{K:PySem.W.Frag}{mg:Str->Option Value}{base:Heap}
noncomputable abbrev cxH(P:Program)(w:World)(K:PySem.W.Frag)(mg:Str->Option Value)(base:Heap)(N:List Str)(qual:Str)(scope:Scope)(f:Addr)(cd:Value)(A:Around)(outer:List Env)(s:Shared)(H:Hp)(E:XK):Cx:={ cxOf CX0 P w K mg base N qual scope f cd A outer s H E with calm:=false }
theorem okH{x qual:Str}{st:Stmt}{f:Addr}{fd:FuncData}{N ps:List Str}{k:Nat}{sp:Sp}(F:Fun K x qual st f fd)(S:FnScope N ps (defScope st))(len:∀ vs H Q E,sp vs H Q E->vs.length=ps.length)
  (hbody:∀ (cdv:Value) (A:Around) (outer:List Env) (s:Shared) (H:Hp) (vs:List V) (Q:VK) (E:XK),RoomH k (A.deeper (envOfC qual (defScope st) s.heap.objs.size f cdv))->sp vs H Q E ->
   ∃ t,PSs (cxH P w K mg base N qual (defScope st) f cdv A outer s H E).nox (defBody st) t/\t { nx:=fun _ H'=>Q .non H',rt:=Q } (start N vs) H):FnOkH P w K mg base (k+1) f fd ps sp:=by
 obtain⟨oc,od,kV,doc,pm,an,cdv,ct,osl,rfl,lk,hcd⟩:=F.ex;refine⟨len,fun A outer s H args us vs Q E hr e0 hb r hsp=>?_⟩;have hl:=len _ _ _ _ hsp;have KX:K.In s.heap:=e0.mod.kin.keeps fun b o e=>(e0.bs b o e).1;have lim:s.heap.NoLimit:=e0.mod.nolimit.keeps fun b o e=>(e0.bs b o e).1;have hkind:∀ y∈ps.zip us,(defScope st).names.lookup y.1=some .local∨((defScope st).names.lookup y.1=some .cell/\((cellsFrom (s.heap.objs.size+1) (defScope st).names []).lookup y.1).isSome=true):=fun⟨n,v⟩ hy=>by
  rcases S.par n (List.of_mem_zip hy).1 with q | q
  ·exact .inl q
  ·exact .inr ⟨q,PySem.W.cellsFrom_some _ _ _ (.inl q)⟩
 refine codeAny_call_function hr.depth (KX _ _ lk) rfl S.co S.gen rfl (PySem.W.codeRec_of KX hcd) (hb _ _ _ _ ?_);refine wpAny_newFunctionEnv_cells S.kind hkind fun env he s1 x=>?_;subst he;refine⟨lim.keeps x.toInCall.keep,codeAny_func ?_⟩;obtain⟨t,ht,hq⟩:=hbody cdv A outer s H vs Q E (hr.deeper _) hsp;have I0:L2.Inv (cxOf CX0 P w K mg base N qual (defScope st) f cdv { A with handled:=none } outer s H E) [] (start N vs) H s1:=Jj S rfl ⟨e0.frames,e0.mod,e0.bs,e0.bsz,e0.funs,e0.frf,e0.hok,e0.bare⟩ hl r x
 have I:L2.Inv (cxH P w K mg base N qual (defScope st) f cdv A outer s H E).nox [] (start N vs) H s1:=
  ⟨⟨I0.ok.mod,I0.ok.kind,I0.ok.glob,I0.ok.blt,I0.ok.above,I0.ok.inj,I0.ok.has,I0.ok.cab,(fun z=>nomatch z),Around.frames_deeper e0.frames,I0.ok.stk,I0.ok.exf,I0.ok.bs,I0.ok.bsz,I0.ok.noex,I0.ok.exfs,I0.ok.funs,I0.ok.frf⟩,I0.os,I0.bare,I0.base,I0.loc,I0.cell,I0.free,I0.freeC,I0.pin,I0.hok,I0.len⟩
 refine wpAny_mono (ht [] s1 (start N vs) H _ I hq) (fun fl s' hs=>?_) fun e s' hs=>hs.elim;have fin:∀ {σ':St} {H':Hp} {v:V} {u:Value},L2.Inv (cxH P w K mg base N qual (defScope st) f cdv A outer s H E).nox [] σ' H' s'->RelV v u->Q v H'->CE outer P w H s Q u s':=
  fun {σ' H' v u} J rv q=>⟨v,H',J.os,J.bare,J.base,J.hok,rv,q⟩
 cases fl with
 | ret u=>
  obtain⟨v,σ',H',J,rv,q⟩:=hs;exact fin J rv q
 | next=>
  obtain⟨σ',H',J,q⟩:=hs;exact fin (v:=V.non) (u:=Value.none) J rfl q
 | brk=>
  obtain⟨_,_,_,q⟩:=hs;exact False.elim q
 | cont=>
  obtain⟨_,_,_,q⟩:=hs;exact False.elim q
end
section
variable{X:Cx}{k:Nat}{f:Addr}{fd:FuncData}{ps:List Str}{sp:Sp}{x:Str}{p pos:Pos}{e:Expr}{es:List Expr}{t:TA}
theorem Zfx(F:FnOkH X.prog X.w X.K X.mg X.base k f fd ps sp)(hr:RoomH k X.A)(hg:Gl X x)(hm:X.mg x=some (.ref f))(hk:PySem.W.keepIn X.K (.ref f)=true)(hb:Binds X.K fd ps [])
  (ha:PA X (e::es) t) (hdb:(x == ("__debug__":Str))=false:=by decide) (he:starEach (e::es) X.env=(false,eval e X.env)::starEach es X.env:=by rfl) (hpl:(backTo pos (starEach es X.env)).any (·.1)=false:=by rfl):
  PE X (.Call (.Name x p) (e::es) [] pos) (tCall sp [] E0 t):=by
 intro pins s σ H Q I h;refine wpAny_Call_Name_kw (Vc I hg hm ?_ hdb);refine PySem.W.callWith_K (h₀:=X.base) I.ok.mod.kin hk (thn (ha pos pins s σ H _ I h) fun us s1 ⟨vs,H1,I1,r,q⟩=>⟨I1.kIn,?_⟩) he hpl;have q':sp vs H1 Q E0:=by
  have q2:sp (vs++[]) H1 Q E0:=q;rw[List.append_nil] at q2;exact q2
 have hlen:us.length=ps.length:=by rw[← r.length];exact F.len _ _ _ _ q'
 have hbb:=hb s1 us I1.kIn (by rw[List.append_nil];exact hlen)
 rw[List.append_nil] at hbb;refine wpAny_call (codeAny_mono (F.run X.A X.stack s1 H1 ⟨us,[]⟩ us vs Q E0 hr I1.env0 hbb r q') fun rr s' hq=>?_);cases rr with
 | error ee=>exact False.elim hq
 | ok fl=>
  cases fl with
  | ret u=>exact I1.after hq
  | next=>exact False.elim hq
  | brk=>exact False.elim hq
  | cont=>exact False.elim hq
end
noncomputable abbrev TB:=St->Hp->(Hp->Prop)->XK->Prop
noncomputable def PB(X:Cx)(body:List Stmt)(tb:TB):Prop:=∀ (E:XK) (EX:Value->Shared->Prop) (pins:List (Addr×Obj)) (s:Shared) (σ:St) (H:Hp) (Q:Hp->Prop),L2.Inv X pins σ H s ->
 (∀ s1 H1 ee s',L2.Inv X pins σ H1 s1->CX1 X.prog X.w X.stack H1 s1 E ee s'->EX ee s')->tb σ H Q E->wpAny (model X.prog X.w) X.A (execs body X.env) (fun fl s'=>fl=.next/\∃ H',L2.Inv X pins σ H' s'/\Q H') EX s
section
variable{X:Cx}{k:Nat}{f C:Addr}{fd:FuncData}{ps:List Str}{sp:Sp}{m:Str}{cpos epos apos pos:Pos}{o e c:Expr}{es:List Expr}{ta:TE}{t:TA}{tc:TT}{b1 b2:List Stmt}{t1 t2:TB}
noncomputable def tbMeth(C:Addr)(m:Str)(sp:Sp)(ta:TE)(t:TA):TB:=fun σ H Q E=>ta σ H fun x H1=>∃ a dx fs,x=.ref a/\H1 a=some (.ins C dx fs)/\fs.lookup m=none/\t σ H1 fun vs H2=>sp (x::vs) H2 (fun _ H3=>Q H3) E
theorem Zdn{pl:Sem Bool}(ho:PE X.nox o ta)(hc:Cls X.K C)(hm:Meth X.K C m f)(F:FnOk X.prog X.w X.K X.mg X.base (CX1 X.prog X.w) k f fd ps sp)(hr:Room k X.A)(hb:Binds X.K fd ps [])(ha:PA X.nox (e::es) t)
  (hst:starEach (e::es) X.env=(false,eval e X.env)::starEach es X.env:=by rfl) (hpl:(backTo cpos (starEach es X.env)).any (·.1)=false:=by rfl) (hsw:swapsWith (.Call (.Attribute o m apos) (e::es) [] cpos) none epos.line X.env=pure false:=by rfl)
  (ht:eval (.Call (.Attribute o m apos) (e::es) [] cpos) X.env=(do
   let ov ← eval o X.env
   standAt apos.atName
   let (f,first) ← holding [ov] (getMethod ov m pl)
   callWith cpos f first (backTo cpos (starEach (e::es) X.env)) (backToKw cpos (keywordEach [] X.env))):=by rfl):
  PB X [.Expr (.Call (.Attribute o m apos) (e::es) [] cpos) epos] (tbMeth C m sp ta t):=by
 intro E EX pins s σ H Q I hex h;refine wpAny_execs_cons (wpAny_Expr_any ?_ I.quiet hsw);refine PySem.W.methodCall_KW (pl:=pl) (wpAny_mono (ho pins s σ H _ (I.wish _) h) (fun u s1 ⟨x,H1,I1',rx,a,dx,fs,ex,ea,l,q⟩=>?_) (fun _ _ z=>z.elim)) ht;subst ex;obtain rfl:u=Value.ref a:=rx;have I1:=I1'.unwish;refine X6 I1 ea hc hm l ?_;refine PySem.W.callWith_K (first:=[.ref a]) (h₀:=X.base) I.ok.mod.kin hm.kp (wpAny_mono (ha cpos pins s1 σ H1 _ (I1.wish _) q) (fun us s2 ⟨vs,H2,I2',r,q2⟩=>?_) (fun _ _ z=>z.elim)) hst hpl;have I2:=I2'.unwish;refine⟨I2.kIn,?_⟩;have r2:Vals (V.ref a::vs) (Value.ref a::us):=.cons rfl r;have hlen:(Value.ref a::us).length=ps.length:=by rw[← r2.length];exact F.len _ _ _ _ q2
 have hbb:=hb s2 (.ref a::us) I2.kIn (by rw[List.append_nil];exact hlen)
 rw[List.append_nil] at hbb;refine wpAny_call (codeAny_mono (F.run X.A X.stack s2 H2 ⟨.ref a::us,[]⟩ (.ref a::us) (.ref a::vs) _ _ hr I2.env0 hbb r2 q2) fun rr s' hq=>?_);cases rr with
 | ok fl=>
  cases fl with
  | ret u=>
   obtain⟨v,H3,I3,_,q3⟩:=I2.after hq;exact wpAny_execs_nil ⟨rfl,H3,I3,q3⟩
  | next=>exact False.elim hq
  | brk=>exact False.elim hq
  | cont=>exact False.elim hq
 | error ee=>exact hex s2 H2 ee s' I2 hq
noncomputable def tbIf(tc:TT)(t1 t2:TB):TB:=fun σ H Q E=>tc σ H fun b H1=>if b=true then t1 σ H1 Q E else t2 σ H1 Q E
theorem Zj8(hc:PT X.nox c tc)(h1:PB X b1 t1)(h2:PB X b2 t2):PB X [.If c b1 b2 pos] (tbIf tc t1 t2):=by
 intro E EX pins s σ H Q I hex h;refine wpAny_execs_cons (wpAny_If (wpAny_mono (hc pins s σ H _ (I.wish _) h) (fun d s1 ⟨H1,I1,q1⟩=>?_) (fun _ _ z=>z.elim)));cases d with
 | true=>
  refine wpAny_mono (h1 E EX pins s1 σ H1 Q I1.unwish hex q1) (fun fl s' hq=>?_) fun _ _ z=>z;obtain⟨rfl,hq⟩:=hq;exact wpAny_execs_nil ⟨rfl,hq⟩
 | false=>
  refine wpAny_mono (h2 E EX pins s1 σ H1 Q I1.unwish hex q1) (fun fl s' hq=>?_) fun _ _ z=>z;obtain⟨rfl,hq⟩:=hq;exact wpAny_execs_nil ⟨rfl,hq⟩
end
noncomputable def hcy(X:Cx)(a:Addr):Cx:={ X with A:=X.A.mark (some (.ref a)),calm:=false,xe:=fun _ _=>False }
section
variable{X:Cx}{pins:List (Addr×Obj)}{σ:St}{H:Hp}{s:Shared}{a:Addr}{oe:Obj}
theorem Inv.intoY(I:L2.Inv X pins σ H s):L2.Inv (hcy X a) pins σ H s:=
 ⟨⟨I.ok.mod,I.ok.kind,I.ok.glob,I.ok.blt,I.ok.above,I.ok.inj,I.ok.has,I.ok.cab,(fun z=>nomatch z),I.ok.frames,I.ok.stk,I.ok.exf,I.ok.bs,I.ok.bsz,I.ok.noex,I.ok.exfs,I.ok.funs,I.ok.frf⟩,I.os,I.bare,I.base,I.loc,I.cell,I.free,I.freeC,I.pin,I.hok,I.len⟩
theorem Inv.outofY(ok:X.Ok)(I:L2.Inv (hcy X a) pins σ H s):L2.Inv X pins σ H s:=⟨ok,I.os,I.bare,I.base,I.loc,I.cell,I.free,I.freeC,I.pin,I.hok,I.len⟩
theorem Inv.track{o:HO}(I:L2.Inv X pins σ H s)(e:s.heap.get? a=some oe)(hd:∃ vs,oe.data=.fields vs)(n:H a=none)(n0:X.s₀.heap.get? a=none)(aL:a≠X.env.locals)(np:∀ p∈X.pn++pins,p.1≠a)(new:ObjOk X.prog X.w (upd H a o) s.heap a o):L2.Inv X pins σ (upd H a o) s:=by
 have ns:∀ b ob,X.s₀.heap.get? b=some ob->b≠a:=fun b ob q z=>by rw[z,n0] at q;cases q
 have u:=I.base;refine⟨I.ok,I.os,I.bare,⟨u.keep,u.slot,fun b ob q m nx=>by rw[Zh (ns b ob q)];exact u.free b ob q m nx,u.there,fun b xs q=>?_,fun b ob xs q=>?_,fun b ps q=>?_⟩,I.loc,I.cell,by rw[Zh (Ne.symm aL)];exact I.free,fun y c hc=>?_,fun p hp=>?_,HOk.adopt I.hok n new,I.len⟩
 ·have:=u.tups b xs q;rw[Zh (Zf this n)];exact this
 ·have:=u.frzs b ob xs q;rw[Zh (Zf this n)];exact this
 ·obtain⟨more,g⟩:=u.tbls b ps q;exact⟨more,by rw[Zh (Zf g n)];exact g⟩
 ·have hne:c≠a:=fun z=>by
   obtain⟨v,ob,h1,h2⟩:=I.cell y c hc;rw[z,e] at h1;cases h1;obtain⟨vs,h3⟩:=hd;rw[h3] at h2;cases h2
  rw[Zh hne];exact I.freeC y c hc
 ·obtain⟨h1,h2,h3⟩:=I.pin p hp;exact⟨h1,by rw[Zh (np p hp)];exact h2,h3⟩
end
section
variable{X:Cx}{Dc:Addr}{y n:Str}{np hpos pos:Pos}{body:List Stmt}{tb:TB}{b₀:Stmt}{suite:List Stmt}{th:Addr->L2.TS}{i:Nat}
noncomputable def tTryG(K:PySem.W.Frag)(tb:TB)(Dc:Addr)(i:Nat)(th:Addr->L2.TS):L2.TS:=fun D σ H=>tb σ H (fun H2=>D.nx σ H2) fun C _ H2=>
 ∃ Ca,C=.ref Ca/\PySem.W.exmOne K (.ref Ca) (.ref Dc)=some true/\∀ a,H2 a=none->th a { nx:=fun σ' H'=>D.nx (σ'.set i none) H',rt:=D.rt } (σ.set i (some (.ref a))) (upd H2 a (ExcO a Ca))
theorem Zh2(hx:X.ex=[])(hs:X.stack=X.env::X.outer)(hf:X.env.frame=some X.env.locals)(hB:PB X body tb)
  (hgy:Gl X y) (hmy:X.mg y=some (.ref Dc)) (hN:X.N.Nodup) (hi:X.N[i]? = some n) (hl:X.env.kindOf n=some .local) (hh:∀ a,PSs (hcy X a) (b₀::suite) (th a))
  (hdy:(y == ("__debug__":Str))=false:=by decide):
  PS X (.Try body [.ExceptHandler (some (.Name y np)) (some n) (b₀::suite) hpos] [] [] pos) (tTryG X.K tb Dc i th):=by
 intro pins s σ H D I h;refine wpAny_Try_except (wpAny_mono (hB _ _ pins s σ H _ I (fun s1 H1 ee s' I1 hq=>?_) h) (fun fl s' hq=>?_) fun _ _ z=>z)
 ·obtain⟨a,T,C,H2,rfl,os,bare,un,hok,na,nT,ha0,hT0,tr,Ca,rfl,hm1,hE⟩:=hq;have I2:L2.Inv X pins σ H2 s':=I1.call' (ch:=[]) os un hok bare fun b z=>nomatch z;have two:∀ {p:Addr->Prop},p a->p T->∀ b∈[a,T],p b:=fun {p} h1 h2 b hb=>by
   rcases List.mem_cons.mp hb with rfl | hb
   ·exact h1
   ·rw[List.mem_singleton.mp hb];exact h2
  have oa:=Inv.old_none I1 hx ha0;have oT:=Inv.old_none I1 hx hT0;have pna:∀ p∈X.pn++pins,p.1≠a:=fun p hp z=>by
   have hp1:=(I1.pin p hp).1;rw[z,ha0] at hp1;cases hp1
  refine Zbw (base:=X.base) (env:=X.env) (outer:=X.outer) (by rw[I2.ok.frames,hs]) (by rw[← hs];exact I2.stack) hf tr fun h' T' g=>?_
  rw[← hs] at g;have I3:L2.Inv X pins σ H2 { s' with heap:=h' }:=by
   refine Inv.gone I2 hx hs hf g (two oa oT) (two na nT) (two ?_ ?_) fun p hp z=>?_
   ·obtain⟨⟨oe,vs,a1,_,_,a4,_⟩,_,_⟩:=tr;exact⟨oe,vs,a1,a4⟩
   ·obtain⟨_,_,⟨oT,ts,b1,b2,_⟩⟩:=tr;exact⟨oT,ts,b1,b2⟩
   ·have hp1:=(I1.pin p hp).1;rcases List.mem_cons.mp z with z | z
    ·rw[z,ha0] at hp1;cases hp1
    ·rw[List.mem_singleton.mp z,hT0] at hp1;cases hp1
  obtain⟨⟨oe,vs,a1,a2,a3,a4,a5⟩,ne,stn⟩:=id g.trc;have xo:ExO oe Ca:=⟨a2,a3,vs,a4⟩;have aL:a≠X.env.locals:=fun z=>by
   obtain⟨m,⟨o,es,ep,ho,hd,_⟩,_⟩:=I3.loc;rw[← z] at ho;rw[show h'.get? a=some o from ho] at a1;cases a1;rw[hd] at a4;cases a4
  have I4:L2.Inv (hcy X a) pins σ H2 { s' with heap:=h' }:=Inv.intoY I3
  refine wpAny_handleBy_cons (codeAny_handlers_test ?_) (by intro z;cases z)
  refine Vc (X:=hcy X a) I4 hgy hmy ?_ hdy;refine (PySem.W.exm_one (M:=model X.prog X.w) I3.kIn (xo.inst a1).type hm1).here ?_;show codeAny _ _ _ _ _;refine codeAny_handlers_suite_as ?_;refine flight0 g.trc fun h2 hk2=>?_;have I5:L2.Inv (hcy X a) pins σ H2 { s' with heap:=h2,toks:=s'.toks }:=by
   refine Inv.record (s:={ s' with heap:=h' }) (t':=s'.toks) I4 hx hk2 (Inv.old_none I2 hx g.new) (Inv.free_none I2 g.new) ?_ fun p hp z=>?_
   ·obtain⟨oT,ts,b1,b2,_⟩:=stn;exact⟨oT,ts,b1,b2⟩
   ·have:=(I2.pin p hp).1;rw[z,g.new] at this;cases this
  have I6:L2.Inv (hcy X a) pins σ (upd H2 a (ExcO a Ca)) { s' with heap:=h2,toks:=s'.toks }:=Inv.track I5 (oe:=oe) (hk2 a oe ne.symm a1) ⟨vs,a4⟩ na oa aL pna (Zjv (hk2 a oe ne.symm a1) xo)
  refine Wl (X:=hcy X a) (v:=.ref a) I6 hN hi (.inl hl) rfl (fun s6 I7=>?_) (.inr hl);refine wpAny_mono (hh a pins s6 _ _ _ I7 (hE a na)) (fun fl s7 q7=>?_) (fun _ _ z=>z.elim);cases fl with
  | next=>
   obtain⟨σ7,H7,I7,n7⟩:=q7;exact Inv.name_gone (Inv.outofY I3.ok I7) hN hi hl fun s8 I8=>⟨_,H7,I8,n7⟩
  | ret u=>
   obtain⟨v,σ7,H7,I7,r7,n7⟩:=q7;exact Inv.name_gone (Inv.outofY I3.ok I7) hN hi hl fun s8 I8=>⟨v,_,H7,I8,r7,n7⟩
  | brk=>
   obtain⟨σ7,H7,I7,n7⟩:=q7;exact n7.elim
  | cont=>
   obtain⟨σ7,H7,I7,n7⟩:=q7;exact n7.elim
 ·obtain⟨rfl,H',I',q'⟩:=hq;exact wpAny_execs_nil ⟨σ,H',I',q'⟩
end
end KS
end
namespace KS
open PySem PySem.Spec L2
open PyProof.Rows hiding St
noncomputable def top(i:Nat):Stmt:=PySem.Challenge.pw_keenscale_k11_whole_judge.main.body.getD i (.Pass ⟨0,0,0,0⟩)
structure Bl(mg:Str->Option Value):Prop where
 len:mg "len"=none
 range:mg "range"=none
 list:mg "list"=none
 sorted:mg "sorted"=none
 set:mg "set"=none
 isinstance:mg "isinstance"=none
 int:mg "int"=none
 bool:mg "bool"=none
 tuple:mg "tuple"=none
 str:mg "str"=none
 max:mg "max"=none
 min:mg "min"=none
 zip:mg "zip"=none
 ValueError:mg "ValueError"=none
structure Df(K:PySem.W.Frag)(mg:Str->Option Value)(x:Str)(st:Stmt)(f:Addr)(fd:FuncData):Prop where
 F:Fun K x x st f fd
 m:mg x=some (.ref f)
noncomputable abbrev mkSc(names:List (Str×NameKind)):Scope:={ kind:=.function,names:=names,isGenerator:=false,isCoroutine:=false,more:=[] }
theorem us1{n:Nat}{us:List Value}(h:us.length=n+1):∃ u r,us=u::r/\r.length=n:=by
 cases us with
 | nil=>cases h
 | cons u r=>exact⟨u,r,rfl,Nat.succ.inj h⟩
theorem bd1{K:PySem.W.Frag}{x:Str}{st:Stmt}{f:Addr}{fd:FuncData}{p0:Str}(F:Fun K x x st f fd)(h:∀ (kV doc pm:Value) (an:Option Addr) (cdv ct u0:Value),bindArgs (PySem.W.fnOf x x (defArgs st) (defBody st) (defScope st) .none kV doc pm an cdv ct) ⟨[u0],[]⟩=pure [(p0,u0)]):Binds K fd [p0] []:=
 F.binds fun _ _ _ _ _ _ us hl=>by
  obtain⟨u0,r0,rfl,h0⟩:=us1 hl;obtain rfl:=List.eq_nil_of_length_eq_zero h0;exact h _ _ _ _ _ _ _
theorem bd2{K:PySem.W.Frag}{x:Str}{st:Stmt}{f:Addr}{fd:FuncData}{p0 p1:Str}(F:Fun K x x st f fd)(h:∀ (kV doc pm:Value) (an:Option Addr) (cdv ct u0 u1:Value),bindArgs (PySem.W.fnOf x x (defArgs st) (defBody st) (defScope st) .none kV doc pm an cdv ct) ⟨[u0,u1],[]⟩=pure [(p0,u0),(p1,u1)]):Binds K fd [p0,p1] []:=
 F.binds fun _ _ _ _ _ _ us hl=>by
  obtain⟨u0,r0,rfl,h0⟩:=us1 hl;obtain⟨u1,r1,rfl,h1⟩:=us1 h0;obtain rfl:=List.eq_nil_of_length_eq_zero h1;exact h _ _ _ _ _ _ _ _
theorem bd3{K:PySem.W.Frag}{x:Str}{st:Stmt}{f:Addr}{fd:FuncData}{p0 p1 p2:Str}(F:Fun K x x st f fd)(h:∀ (kV doc pm:Value) (an:Option Addr) (cdv ct u0 u1 u2:Value),bindArgs (PySem.W.fnOf x x (defArgs st) (defBody st) (defScope st) .none kV doc pm an cdv ct) ⟨[u0,u1,u2],[]⟩=pure [(p0,u0),(p1,u1),(p2,u2)]):Binds K fd [p0,p1,p2] []:=
 F.binds fun _ _ _ _ _ _ us hl=>by
  obtain⟨u0,r0,rfl,h0⟩:=us1 hl;obtain⟨u1,r1,rfl,h1⟩:=us1 h0;obtain⟨u2,r2,rfl,h2⟩:=us1 h1;obtain rfl:=List.eq_nil_of_length_eq_zero h2;exact h _ _ _ _ _ _ _ _ _
theorem bd4{K:PySem.W.Frag}{x:Str}{st:Stmt}{f:Addr}{fd:FuncData}{p0 p1 p2 p3:Str}(F:Fun K x x st f fd)(h:∀ (kV doc pm:Value) (an:Option Addr) (cdv ct u0 u1 u2 u3:Value),bindArgs (PySem.W.fnOf x x (defArgs st) (defBody st) (defScope st) .none kV doc pm an cdv ct) ⟨[u0,u1,u2,u3],[]⟩=pure [(p0,u0),(p1,u1),(p2,u2),(p3,u3)]):Binds K fd [p0,p1,p2,p3] []:=
 F.binds fun _ _ _ _ _ _ us hl=>by
  obtain⟨u0,r0,rfl,h0⟩:=us1 hl;obtain⟨u1,r1,rfl,h1⟩:=us1 h0;obtain⟨u2,r2,rfl,h2⟩:=us1 h1;obtain⟨u3,r3,rfl,h3⟩:=us1 h2;obtain rfl:=List.eq_nil_of_length_eq_zero h3;exact h _ _ _ _ _ _ _ _ _ _
structure TxD(K:PySem.W.Frag)(mg:Str->Option Value)(x:Str)(st:Stmt) where
 a:Addr
 f:FuncData
 d:Df K mg x st a f
structure TxM(K:PySem.W.Frag)(C:Addr)(m q:Str)(st:Stmt) where
 a:Addr
 f:FuncData
 F:Fun K m q st a f
 me:Meth K C m a
set_option genInjectivity false in
set_option genSizeOfSpec false in
structure Tx(K:PySem.W.Frag)(mg:Str->Option Value) where
 B:Bl mg
 c_KeenError:Addr
 mc_KeenError:mg "KeenError"=some (.ref c_KeenError)
 c_BadSay:Addr
 mc_BadSay:mg "BadSay"=some (.ref c_BadSay)
 c_NoSay:Addr
 mc_NoSay:mg "NoSay"=some (.ref c_NoSay)
 c_NoWidth:Addr
 mc_NoWidth:mg "NoWidth"=some (.ref c_NoWidth)
 c_BadLine:Addr
 mc_BadLine:mg "BadLine"=some (.ref c_BadLine)
 kx_BadSay:XCls K "ValueError" "ValueError.__new__" "ValueError.__init__" bmVE c_BadSay
 ki_BadSay:XIs K c_BadSay
 em_BadSay:PySem.W.exmOne K (.ref c_BadSay) (.ref c_KeenError)=some true
 kv_BadSay:PySem.W.kitOne K (.ref c_BadSay) (.type "ValueError")=some true
 kk_BadSay_BadSay:PySem.W.kitOne K (.ref c_BadSay) (.ref c_BadSay)=some true
 kk_BadSay_NoSay:PySem.W.kitOne K (.ref c_BadSay) (.ref c_NoSay)=some false
 kk_BadSay_NoWidth:PySem.W.kitOne K (.ref c_BadSay) (.ref c_NoWidth)=some false
 kk_BadSay_BadLine:PySem.W.kitOne K (.ref c_BadSay) (.ref c_BadLine)=some false
 kx_NoSay:XCls K "ValueError" "ValueError.__new__" "ValueError.__init__" bmVE c_NoSay
 ki_NoSay:XIs K c_NoSay
 em_NoSay:PySem.W.exmOne K (.ref c_NoSay) (.ref c_KeenError)=some true
 kv_NoSay:PySem.W.kitOne K (.ref c_NoSay) (.type "ValueError")=some true
 kk_NoSay_BadSay:PySem.W.kitOne K (.ref c_NoSay) (.ref c_BadSay)=some false
 kk_NoSay_NoSay:PySem.W.kitOne K (.ref c_NoSay) (.ref c_NoSay)=some true
 kk_NoSay_NoWidth:PySem.W.kitOne K (.ref c_NoSay) (.ref c_NoWidth)=some false
 kk_NoSay_BadLine:PySem.W.kitOne K (.ref c_NoSay) (.ref c_BadLine)=some false
 c_Judge:Addr
 mc_Judge:mg "Judge"=some (.ref c_Judge)
 cl_Judge:Cls K c_Judge
 na_Judge_many:NoAttr K c_Judge "many"
 na_Judge_said:NoAttr K c_Judge "said"
 y_Judge___init__:TxM K c_Judge "__init__" "Judge.__init__" (inClass (top 27) 0)
 y_Judge_say:TxM K c_Judge "say" "Judge.say" (inClass (top 27) 1)
 y_Judge_unsay:TxM K c_Judge "unsay" "Judge.unsay" (inClass (top 27) 2)
 y_Judge_sayings:TxM K c_Judge "sayings" "Judge.sayings" (inClass (top 27) 3)
 y_Judge_by_marks:TxM K c_Judge "by_marks" "Judge.by_marks" (inClass (top 27) 4)
 y_Judge_by_spans:TxM K c_Judge "by_spans" "Judge.by_spans" (inClass (top 27) 5)
 mk_Judge:Mk K c_Judge y_Judge___init__.a
 x_refuse_strangers:TxD K mg "refuse_strangers" (top 7)
 x_table_of:TxD K mg "table_of" (top 8)
 x_beaten_by:TxD K mg "beaten_by" (top 9)
 x_things_without_ends:TxD K mg "things_without_ends" (top 10)
 x_come_round:TxD K mg "come_round" (top 11)
 x_round_in:TxD K mg "round_in" (top 12)
 x_beaten_by_one_alone:TxD K mg "beaten_by_one_alone" (top 14)
 x_two_pairs_in:TxD K mg "two_pairs_in" (top 15)
 x_spans_in:TxD K mg "spans_in" (top 16)
 x_what_forbids_spans:TxD K mg "what_forbids_spans" (top 17)
 x_spans:TxD K mg "spans" (top 18)
 x_steps_in:TxD K mg "steps_in" (top 20)
 x_raise_once:TxD K mg "raise_once" (top 21)
 x_marks_or_misfit:TxD K mg "marks_or_misfit" (top 22)
 x_least_width_in:TxD K mg "least_width_in" (top 23)
 x_three_row_in:TxD K mg "three_row_in" (top 24)
 x_marks:TxD K mg "marks" (top 25)
 x__law_cell_at:TxD K mg "_law_cell_at" (top 29)
 x__law_whole:TxD K mg "_law_whole" (top 30)
 x__law_marked:TxD K mg "_law_marked" (top 31)
 x__law_which:TxD K mg "_law_which" (top 32)
 x__law_refused:TxD K mg "_law_refused" (top 33)
 x__law_tells:TxD K mg "_law_tells" (top 34)
 x__law_deed:TxD K mg "_law_deed" (top 35)
 x__law_same:TxD K mg "_law_same" (top 36)
 x_law:TxD K mg "law" (top 37)
noncomputable abbrev Tx.a_refuse_strangers{K:PySem.W.Frag}{mg:Str->Option Value}(T:Tx K mg):Addr:=T.x_refuse_strangers.a
noncomputable abbrev Tx.f_refuse_strangers{K:PySem.W.Frag}{mg:Str->Option Value}(T:Tx K mg):FuncData:=T.x_refuse_strangers.f
theorem Tx.d_refuse_strangers{K:PySem.W.Frag}{mg:Str->Option Value}(T:Tx K mg):Df K mg "refuse_strangers" (top 7) T.a_refuse_strangers T.f_refuse_strangers:=T.x_refuse_strangers.d
noncomputable abbrev Tx.a_table_of{K:PySem.W.Frag}{mg:Str->Option Value}(T:Tx K mg):Addr:=T.x_table_of.a
noncomputable abbrev Tx.f_table_of{K:PySem.W.Frag}{mg:Str->Option Value}(T:Tx K mg):FuncData:=T.x_table_of.f
theorem Tx.d_table_of{K:PySem.W.Frag}{mg:Str->Option Value}(T:Tx K mg):Df K mg "table_of" (top 8) T.a_table_of T.f_table_of:=T.x_table_of.d
noncomputable abbrev Tx.a_beaten_by{K:PySem.W.Frag}{mg:Str->Option Value}(T:Tx K mg):Addr:=T.x_beaten_by.a
noncomputable abbrev Tx.f_beaten_by{K:PySem.W.Frag}{mg:Str->Option Value}(T:Tx K mg):FuncData:=T.x_beaten_by.f
theorem Tx.d_beaten_by{K:PySem.W.Frag}{mg:Str->Option Value}(T:Tx K mg):Df K mg "beaten_by" (top 9) T.a_beaten_by T.f_beaten_by:=T.x_beaten_by.d
noncomputable abbrev Tx.a_things_without_ends{K:PySem.W.Frag}{mg:Str->Option Value}(T:Tx K mg):Addr:=T.x_things_without_ends.a
noncomputable abbrev Tx.f_things_without_ends{K:PySem.W.Frag}{mg:Str->Option Value}(T:Tx K mg):FuncData:=T.x_things_without_ends.f
theorem Tx.d_things_without_ends{K:PySem.W.Frag}{mg:Str->Option Value}(T:Tx K mg):Df K mg "things_without_ends" (top 10) T.a_things_without_ends T.f_things_without_ends:=T.x_things_without_ends.d
noncomputable abbrev Tx.a_come_round{K:PySem.W.Frag}{mg:Str->Option Value}(T:Tx K mg):Addr:=T.x_come_round.a
noncomputable abbrev Tx.f_come_round{K:PySem.W.Frag}{mg:Str->Option Value}(T:Tx K mg):FuncData:=T.x_come_round.f
theorem Tx.d_come_round{K:PySem.W.Frag}{mg:Str->Option Value}(T:Tx K mg):Df K mg "come_round" (top 11) T.a_come_round T.f_come_round:=T.x_come_round.d
noncomputable abbrev Tx.a_round_in{K:PySem.W.Frag}{mg:Str->Option Value}(T:Tx K mg):Addr:=T.x_round_in.a
noncomputable abbrev Tx.f_round_in{K:PySem.W.Frag}{mg:Str->Option Value}(T:Tx K mg):FuncData:=T.x_round_in.f
theorem Tx.d_round_in{K:PySem.W.Frag}{mg:Str->Option Value}(T:Tx K mg):Df K mg "round_in" (top 12) T.a_round_in T.f_round_in:=T.x_round_in.d
noncomputable abbrev Tx.a_beaten_by_one_alone{K:PySem.W.Frag}{mg:Str->Option Value}(T:Tx K mg):Addr:=T.x_beaten_by_one_alone.a
noncomputable abbrev Tx.f_beaten_by_one_alone{K:PySem.W.Frag}{mg:Str->Option Value}(T:Tx K mg):FuncData:=T.x_beaten_by_one_alone.f
theorem Tx.d_beaten_by_one_alone{K:PySem.W.Frag}{mg:Str->Option Value}(T:Tx K mg):Df K mg "beaten_by_one_alone" (top 14) T.a_beaten_by_one_alone T.f_beaten_by_one_alone:=T.x_beaten_by_one_alone.d
noncomputable abbrev Tx.a_two_pairs_in{K:PySem.W.Frag}{mg:Str->Option Value}(T:Tx K mg):Addr:=T.x_two_pairs_in.a
noncomputable abbrev Tx.f_two_pairs_in{K:PySem.W.Frag}{mg:Str->Option Value}(T:Tx K mg):FuncData:=T.x_two_pairs_in.f
theorem Tx.d_two_pairs_in{K:PySem.W.Frag}{mg:Str->Option Value}(T:Tx K mg):Df K mg "two_pairs_in" (top 15) T.a_two_pairs_in T.f_two_pairs_in:=T.x_two_pairs_in.d
noncomputable abbrev Tx.a_spans_in{K:PySem.W.Frag}{mg:Str->Option Value}(T:Tx K mg):Addr:=T.x_spans_in.a
noncomputable abbrev Tx.f_spans_in{K:PySem.W.Frag}{mg:Str->Option Value}(T:Tx K mg):FuncData:=T.x_spans_in.f
theorem Tx.d_spans_in{K:PySem.W.Frag}{mg:Str->Option Value}(T:Tx K mg):Df K mg "spans_in" (top 16) T.a_spans_in T.f_spans_in:=T.x_spans_in.d
noncomputable abbrev Tx.a_what_forbids_spans{K:PySem.W.Frag}{mg:Str->Option Value}(T:Tx K mg):Addr:=T.x_what_forbids_spans.a
noncomputable abbrev Tx.f_what_forbids_spans{K:PySem.W.Frag}{mg:Str->Option Value}(T:Tx K mg):FuncData:=T.x_what_forbids_spans.f
theorem Tx.d_what_forbids_spans{K:PySem.W.Frag}{mg:Str->Option Value}(T:Tx K mg):Df K mg "what_forbids_spans" (top 17) T.a_what_forbids_spans T.f_what_forbids_spans:=T.x_what_forbids_spans.d
noncomputable abbrev Tx.a_spans{K:PySem.W.Frag}{mg:Str->Option Value}(T:Tx K mg):Addr:=T.x_spans.a
noncomputable abbrev Tx.f_spans{K:PySem.W.Frag}{mg:Str->Option Value}(T:Tx K mg):FuncData:=T.x_spans.f
theorem Tx.d_spans{K:PySem.W.Frag}{mg:Str->Option Value}(T:Tx K mg):Df K mg "spans" (top 18) T.a_spans T.f_spans:=T.x_spans.d
noncomputable abbrev Tx.a_steps_in{K:PySem.W.Frag}{mg:Str->Option Value}(T:Tx K mg):Addr:=T.x_steps_in.a
noncomputable abbrev Tx.f_steps_in{K:PySem.W.Frag}{mg:Str->Option Value}(T:Tx K mg):FuncData:=T.x_steps_in.f
theorem Tx.d_steps_in{K:PySem.W.Frag}{mg:Str->Option Value}(T:Tx K mg):Df K mg "steps_in" (top 20) T.a_steps_in T.f_steps_in:=T.x_steps_in.d
noncomputable abbrev Tx.a_raise_once{K:PySem.W.Frag}{mg:Str->Option Value}(T:Tx K mg):Addr:=T.x_raise_once.a
noncomputable abbrev Tx.f_raise_once{K:PySem.W.Frag}{mg:Str->Option Value}(T:Tx K mg):FuncData:=T.x_raise_once.f
theorem Tx.d_raise_once{K:PySem.W.Frag}{mg:Str->Option Value}(T:Tx K mg):Df K mg "raise_once" (top 21) T.a_raise_once T.f_raise_once:=T.x_raise_once.d
noncomputable abbrev Tx.a_marks_or_misfit{K:PySem.W.Frag}{mg:Str->Option Value}(T:Tx K mg):Addr:=T.x_marks_or_misfit.a
noncomputable abbrev Tx.f_marks_or_misfit{K:PySem.W.Frag}{mg:Str->Option Value}(T:Tx K mg):FuncData:=T.x_marks_or_misfit.f
theorem Tx.d_marks_or_misfit{K:PySem.W.Frag}{mg:Str->Option Value}(T:Tx K mg):Df K mg "marks_or_misfit" (top 22) T.a_marks_or_misfit T.f_marks_or_misfit:=T.x_marks_or_misfit.d
noncomputable abbrev Tx.a_least_width_in{K:PySem.W.Frag}{mg:Str->Option Value}(T:Tx K mg):Addr:=T.x_least_width_in.a
noncomputable abbrev Tx.f_least_width_in{K:PySem.W.Frag}{mg:Str->Option Value}(T:Tx K mg):FuncData:=T.x_least_width_in.f
theorem Tx.d_least_width_in{K:PySem.W.Frag}{mg:Str->Option Value}(T:Tx K mg):Df K mg "least_width_in" (top 23) T.a_least_width_in T.f_least_width_in:=T.x_least_width_in.d
noncomputable abbrev Tx.a_three_row_in{K:PySem.W.Frag}{mg:Str->Option Value}(T:Tx K mg):Addr:=T.x_three_row_in.a
noncomputable abbrev Tx.f_three_row_in{K:PySem.W.Frag}{mg:Str->Option Value}(T:Tx K mg):FuncData:=T.x_three_row_in.f
theorem Tx.d_three_row_in{K:PySem.W.Frag}{mg:Str->Option Value}(T:Tx K mg):Df K mg "three_row_in" (top 24) T.a_three_row_in T.f_three_row_in:=T.x_three_row_in.d
noncomputable abbrev Tx.a_marks{K:PySem.W.Frag}{mg:Str->Option Value}(T:Tx K mg):Addr:=T.x_marks.a
noncomputable abbrev Tx.f_marks{K:PySem.W.Frag}{mg:Str->Option Value}(T:Tx K mg):FuncData:=T.x_marks.f
theorem Tx.d_marks{K:PySem.W.Frag}{mg:Str->Option Value}(T:Tx K mg):Df K mg "marks" (top 25) T.a_marks T.f_marks:=T.x_marks.d
noncomputable abbrev Tx.a__law_cell_at{K:PySem.W.Frag}{mg:Str->Option Value}(T:Tx K mg):Addr:=T.x__law_cell_at.a
noncomputable abbrev Tx.f__law_cell_at{K:PySem.W.Frag}{mg:Str->Option Value}(T:Tx K mg):FuncData:=T.x__law_cell_at.f
theorem Tx.d__law_cell_at{K:PySem.W.Frag}{mg:Str->Option Value}(T:Tx K mg):Df K mg "_law_cell_at" (top 29) T.a__law_cell_at T.f__law_cell_at:=T.x__law_cell_at.d
noncomputable abbrev Tx.a__law_whole{K:PySem.W.Frag}{mg:Str->Option Value}(T:Tx K mg):Addr:=T.x__law_whole.a
noncomputable abbrev Tx.f__law_whole{K:PySem.W.Frag}{mg:Str->Option Value}(T:Tx K mg):FuncData:=T.x__law_whole.f
theorem Tx.d__law_whole{K:PySem.W.Frag}{mg:Str->Option Value}(T:Tx K mg):Df K mg "_law_whole" (top 30) T.a__law_whole T.f__law_whole:=T.x__law_whole.d
noncomputable abbrev Tx.a__law_marked{K:PySem.W.Frag}{mg:Str->Option Value}(T:Tx K mg):Addr:=T.x__law_marked.a
noncomputable abbrev Tx.f__law_marked{K:PySem.W.Frag}{mg:Str->Option Value}(T:Tx K mg):FuncData:=T.x__law_marked.f
theorem Tx.d__law_marked{K:PySem.W.Frag}{mg:Str->Option Value}(T:Tx K mg):Df K mg "_law_marked" (top 31) T.a__law_marked T.f__law_marked:=T.x__law_marked.d
noncomputable abbrev Tx.a__law_which{K:PySem.W.Frag}{mg:Str->Option Value}(T:Tx K mg):Addr:=T.x__law_which.a
noncomputable abbrev Tx.f__law_which{K:PySem.W.Frag}{mg:Str->Option Value}(T:Tx K mg):FuncData:=T.x__law_which.f
theorem Tx.d__law_which{K:PySem.W.Frag}{mg:Str->Option Value}(T:Tx K mg):Df K mg "_law_which" (top 32) T.a__law_which T.f__law_which:=T.x__law_which.d
noncomputable abbrev Tx.a__law_refused{K:PySem.W.Frag}{mg:Str->Option Value}(T:Tx K mg):Addr:=T.x__law_refused.a
noncomputable abbrev Tx.f__law_refused{K:PySem.W.Frag}{mg:Str->Option Value}(T:Tx K mg):FuncData:=T.x__law_refused.f
theorem Tx.d__law_refused{K:PySem.W.Frag}{mg:Str->Option Value}(T:Tx K mg):Df K mg "_law_refused" (top 33) T.a__law_refused T.f__law_refused:=T.x__law_refused.d
noncomputable abbrev Tx.a__law_tells{K:PySem.W.Frag}{mg:Str->Option Value}(T:Tx K mg):Addr:=T.x__law_tells.a
noncomputable abbrev Tx.f__law_tells{K:PySem.W.Frag}{mg:Str->Option Value}(T:Tx K mg):FuncData:=T.x__law_tells.f
theorem Tx.d__law_tells{K:PySem.W.Frag}{mg:Str->Option Value}(T:Tx K mg):Df K mg "_law_tells" (top 34) T.a__law_tells T.f__law_tells:=T.x__law_tells.d
noncomputable abbrev Tx.a__law_deed{K:PySem.W.Frag}{mg:Str->Option Value}(T:Tx K mg):Addr:=T.x__law_deed.a
noncomputable abbrev Tx.f__law_deed{K:PySem.W.Frag}{mg:Str->Option Value}(T:Tx K mg):FuncData:=T.x__law_deed.f
theorem Tx.d__law_deed{K:PySem.W.Frag}{mg:Str->Option Value}(T:Tx K mg):Df K mg "_law_deed" (top 35) T.a__law_deed T.f__law_deed:=T.x__law_deed.d
noncomputable abbrev Tx.a__law_same{K:PySem.W.Frag}{mg:Str->Option Value}(T:Tx K mg):Addr:=T.x__law_same.a
noncomputable abbrev Tx.f__law_same{K:PySem.W.Frag}{mg:Str->Option Value}(T:Tx K mg):FuncData:=T.x__law_same.f
theorem Tx.d__law_same{K:PySem.W.Frag}{mg:Str->Option Value}(T:Tx K mg):Df K mg "_law_same" (top 36) T.a__law_same T.f__law_same:=T.x__law_same.d
noncomputable abbrev Tx.a_law{K:PySem.W.Frag}{mg:Str->Option Value}(T:Tx K mg):Addr:=T.x_law.a
noncomputable abbrev Tx.f_law{K:PySem.W.Frag}{mg:Str->Option Value}(T:Tx K mg):FuncData:=T.x_law.f
theorem Tx.d_law{K:PySem.W.Frag}{mg:Str->Option Value}(T:Tx K mg):Df K mg "law" (top 37) T.a_law T.f_law:=T.x_law.d
section
variable{P:Program}{w:World}{K:PySem.W.Frag}{mg:Str->Option Value}{base:Heap}
noncomputable def cell(ns:List Int)(k:Int):Int:=ns.getD k.toNat 0
noncomputable def spCell(K:PySem.W.Frag):Sp:=fun vs H Q _=>∃ (a:Addr) (ns:List Int) (k:Int),vs=[.ref a,.int k]/\SqL K H a (ns.map V.int)/\0<=k/\Q (.int (cell ns k)) H
noncomputable abbrev sCell:Stmt:=(top 29)
noncomputable abbrev nCell:List Str:=["script","k"]
noncomputable abbrev pCell:List Str:=["script","k"]
theorem scCell:FnScope nCell pCell (defScope sCell):=⟨rfl,rfl,rfl,by decide +kernel,rfl,by decide +kernel,by decide +kernel⟩
theorem Zdx{f:Addr}{fd:FuncData}(D:Df K mg "_law_cell_at" sCell f fd)(B:Bl mg):FnOk P w K mg base CX0 1 f fd ["script","k"] (spCell K):=by
 refine D.F.ok scCell (fun vs H Q E h=>?_) (fun cdv A outer s H vs Q E hr h=>?_)
 ·obtain⟨a,ns,k,rfl,_⟩:=h;rfl
 ·obtain⟨a,ns,k,rfl,hS,h0,q⟩:=h;refine⟨_,Zd (Zv (Zo Zfy (pv 1) (Zm (lenS (K:=K) rfl) (by rfl) B.len PySem.boot_len (Za (pv 0) Zc)) (nomark _)) (Ze (Zj (Zq (ixL (K:=K) rfl) (pv 0) (pv 1) (fun _ _=>rfl)))) Zl)
   (Ze (Zj Zg)),?_⟩
  refine⟨_,rfl,_,rfl,a,_,rfl,.inl hS,_,_,rfl,rfl,_,rfl,?_⟩;rw[List.length_map];refine ite2 (fun h=>?_) (fun h=>?_)
  ·have h':k<(ns.length:Int):=of_decide_eq_true h;have e1:ns[k.toNat]? = some (cell ns k):=by
    have hl:k.toNat<ns.length:=by omega
    unfold cell;simp[hl]
   have e2:atI (ns.map V.int) k=some (.int (cell ns k)):=by
    have:=Yf (xs:=ns.map V.int) (j:=k.toNat) (v:=.int (cell ns k)) (by rw[List.getElem?_map,e1];rfl)
    rw[Int.toNat_of_nonneg h0] at this;exact this
   exact⟨_,rfl,_,rfl,a,_,_,_,rfl,rfl,hS,e2,q⟩
  ·have h':¬ k<(ns.length:Int):=fun z=>h (decide_eq_true z);have e1:cell ns k=0:=by
    unfold cell;have hl:ns.length<=k.toNat:=by omega
    simp[hl]
   rw[e1] at q;exact q
end
noncomputable def Pr(H:Hp)(r:Addr)(p:Int×Int):Prop:=H r=some (.tup [.int p.1,.int p.2])
noncomputable def Prs(K:PySem.W.Frag)(H:Hp)(l:Addr)(ps:List (Int×Int)):Prop:=∃ rs:List Addr,SqL K H l (rs.map V.ref)/\Paired (Pr H) rs ps
theorem Paired.at{α β:Type}{F:α->β->Prop}:∀ {l₁:List α} {l₂:List β} {i:Nat} {a:α},Paired F l₁ l₂->l₁[i]? = some a->∃ b,l₂[i]? = some b/\F a b
 | _,_,_,_,.nil,e=>by simp at e
 | _,_,0,_,.cons r _,e=>by simp at e;subst e;exact⟨_,rfl,r⟩
 | _,_,i+1,a,.cons _ t,e=>by
  obtain⟨b,h1,h2⟩:=Paired.at (i:=i) (a:=a) t (by simpa using e)
  exact⟨b,by simpa using h1,h2⟩
theorem Y6{rs:List Addr}{i:Nat}{y:V}(h:(rs.map V.ref)[i]? = some y):∃ r,rs[i]? = some r/\y=.ref r:=by
 rw[List.getElem?_map] at h;cases e:rs[i]? with
 | none=>rw[e] at h;cases h
 | some r=>rw[e] at h;exact⟨r,rfl,(Option.some.inj h).symm⟩
theorem _root_.L2.Same.put{H H':Hp}{p:Addr}{o:HO}(s:Same H H')(h:H p=none):Same H (upd H' p o):=fun b u e=>by
 rw[Zh (Zf e h)];exact s b u e
theorem _root_.L2.Same.new{H:Hp}{p:Addr}{o:HO}(h:H p=none):Same H (upd H p o):=Same.put (Same.refl H) h
noncomputable def In(n:Nat)(ps:List (Int×Int)):Prop:=∀ p∈ps,(0<=p.1/\p.1<n)/\0<=p.2/\p.2<n
noncomputable def better(ps:List (Int×Int))(i j:Nat):Bool:=decide (((i:Int),(j:Int))∈ps)
noncomputable def Iv(xs:List Nat):List V:=xs.map fun x:Nat=>V.int (x:Int)
theorem Zaw{xs:List Nat}{i:Nat}{y:V}(h:(Iv xs)[i]? = some y):∃ x,xs[i]? = some x/\y=.int (x:Int):=by
 unfold Iv at h;rw[List.getElem?_map] at h;cases e:xs[i]? with
 | none=>rw[e] at h;cases h
 | some r=>rw[e] at h;exact⟨r,rfl,(Option.some.inj h).symm⟩
theorem Yi(xs:List Nat):(Iv xs).length=xs.length:=by unfold Iv;rw[List.length_map]
theorem Jh(xs ys:List Nat):Iv (xs++ys)=Iv xs++Iv ys:=by unfold Iv;rw[List.map_append]
theorem Zed(xs:List Nat):Iv xs=(xs.map fun x:Nat=>(x:Int)).map V.int:=by unfold Iv;rw[List.map_map];rfl
theorem Ziq(xs:List Nat):(Iv xs).all flatV=true:=by unfold Iv;simp[flatV]
theorem Zkh(x:Nat)(xs:List Nat):inV (.int x) (Iv xs)=decide (x∈xs):=by
 unfold inV Iv;rw[List.any_map,Bool.eq_iff_iff];simp only[List.any_eq_true,Function.comp_apply,eqV,beq_iff_eq,decide_eq_true_eq];constructor
 ·rintro⟨y,h,e⟩;have:y=x:=by omega
  exact this▸h
 ·exact fun h=>⟨x,h,rfl⟩
theorem Vh{xs:List Nat}{i x:Nat}{p:Nat->Bool}(h:xs[i]? = some x):(xs.take (i+1)).filter p=(xs.take i).filter p++(if p x=true then [x] else []):=by
 rw[List.take_add_one,h,List.filter_append];simp only[Option.toList_some];cases e:p x<;>simp[e]
theorem Zgo(xs:List V)(i:Nat)(hi:i<=xs.length):cutV xs (some (i:Int)) none=xs.drop i:=by
 unfold cutV;rw[HT.sIx_nat,HT.sIx_none,Nat.min_eq_left hi];rw[List.take_of_length_le (by rw[List.length_drop];exact Nat.le_refl _)]
section
variable{P:Program}{w:World}{K:PySem.W.Frag}{mg:Str->Option Value}{base:Heap}
noncomputable def spRefuse(K:PySem.W.Frag):Sp:=fun vs H Q _=>∃ (l:Addr) (n:Nat) (ps:List (Int×Int)),vs=[.int n,.ref l]/\Prs K H l ps/\In n ps/\∀ H',Same H H'->Q .non H'
noncomputable abbrev sRefuse:Stmt:=(top 7)
noncomputable abbrev nRefuse:List Str:=["many","pairs","one","other","thing"]
noncomputable abbrev pRefuse:List Str:=["many","pairs"]
theorem scRefuse:FnScope nRefuse pRefuse (defScope sRefuse):=⟨rfl,rfl,rfl,by decide +kernel,rfl,by decide +kernel,by decide +kernel⟩
theorem Xs{f:Addr}{fd:FuncData}(D:Df K mg "refuse_strangers" sRefuse f fd):FnOk P w K mg base CX0 1 f fd ["many","pairs"] (spRefuse K):=by
 refine D.F.ok scRefuse (fun vs H Q E h=>?_) (fun cdv A outer s H vs Q E hr h=>?_)
 ·obtain⟨a,n,k,rfl,_⟩:=h;rfl
 ·obtain⟨l,n,ps,rfl,⟨rs,hS,hP⟩,hin,q⟩:=h;refine⟨_,Ze (Z0 PassesOwn.never rfl (piL (K:=K) rfl (pv 1)) (pgT (K:=K) rfl rfl (Z5 (Zn (i:=2) scRefuse.nd rfl (Or.inl rfl)) (Z5 (Zn (i:=3) scRefuse.nd rfl (Or.inl rfl)) Wv)))
   (Ze (Z0 PassesOwn.never rfl (Zg1 (Zu (Za (pv 2) (Za (pv 3) Zc)))) (Zn (i:=4) scRefuse.nd rfl (Or.inl rfl))
    (Ze (Zv (Yk (Zbh Zjg Zfy Zg (pv 4) (pv 0))) Y7 Zl))))),?_⟩
  refine⟨_,rfl,l,rfl,⟨_,hS⟩,Z8 (K:=K) (a:=l) (xs:=rs.map V.ref) (fun i σ H2=>∃ v1 v2 v3,σ=[some (.int n),some (.ref l),v1,v2,v3]/\Same H H2) ⟨none,none,none,rfl,Same.refl _⟩ (fun i σ H2 _ ⟨_,_,_,_,s2⟩=>s2.seq hS) ?_ ?_⟩
  ·rintro i y σ H2 hi ⟨v1,v2,v3,rfl,s2⟩;obtain⟨r,hr,rfl⟩:=Y6 hi;obtain⟨⟨a,b⟩,hab,hp⟩:=Paired.at hP hr;have hp2:=hin _ (List.mem_of_getElem? hab);simp only at hp2;refine⟨r,[.int a,.int b],rfl,SqT.of (s2 _ _ hp),rfl,_,_,rfl,_,_,rfl,rfl,?_⟩;refine⟨_,rfl,_,rfl,(by show 2<=sizeLine;decide),fun p hp0=>⟨p,rfl,⟨_,SqT.of Zb⟩,Zem (K:=K) (a:=p) (xs:=[.int a,.int b]) (fun i σ H3=>∃ v,σ=[some (.int n),some (.ref l),some (.int a),some (.int b),v]/\H3=upd H2 p (.tup [.int a,.int b])) ⟨_,rfl,rfl⟩ (fun i σ H3 _ ⟨_,_,e⟩=>by rw[e];exact SqT.of Zb) ?_ ?_⟩⟩
   ·rintro j x σ H3 hj ⟨v,rfl,rfl⟩;have hx:∃ k:Int,x=.int k/\0<=k/\k<n:=by
     match j,hj with
     | 0,hj=>exact⟨a,by simpa using hj.symm,hp2.1⟩
     | 1,hj=>exact⟨b,by simpa using hj.symm,hp2.2⟩
     | j+2,hj=>simp at hj
    obtain⟨k,rfl,k0,k1⟩:=hx;refine⟨_,rfl,_,_,rfl,rfl,_,rfl,?_⟩;rw[if_pos (decide_eq_true k0)];refine⟨_,rfl,_,_,rfl,rfl,_,rfl,?_⟩;rw[decide_eq_true k1];refine iteF ?_;exact⟨_,rfl,rfl⟩
   ·rintro σ H3 ⟨v,rfl,rfl⟩;exact⟨_,_,_,rfl,s2.put (s2.free hp0)⟩
  ·rintro σ H2 ⟨v1,v2,v3,rfl,s2⟩;exact q H2 s2
end
structure Tab(H:Hp)(p:Addr)(n:Nat)(rel:Nat->Nat->Bool)(rows:List Addr):Prop where
 top:H p=some (.lst (rows.map V.ref))
 len:rows.length=n
 nd:rows.Nodup
 row:∀ (i:Nat) (r:Addr),rows[i]? = some r->H r=some (.lst ((List.range n).map fun j=>V.bl (rel i j)))
theorem Tab.same{H H':Hp}{p:Addr}{n:Nat}{rel:Nat->Nat->Bool}{rows:List Addr}(T:Tab H p n rel rows)(s:Same H H'):Tab H' p n rel rows:=
 ⟨s _ _ T.top,T.len,T.nd,fun i r e=>s _ _ (T.row i r e)⟩
theorem Tab.at{H:Hp}{p:Addr}{n:Nat}{rel:Nat->Nat->Bool}{rows:List Addr}(T:Tab H p n rel rows){a:Int}(h0:0<=a)(h1:a<n):∃ r,rows[a.toNat]? = some r/\atI (rows.map V.ref) a=some (.ref r)/\H r=some (.lst ((List.range n).map fun j=>V.bl (rel a.toNat j))):=by
 have hl:a.toNat<rows.length:=by rw[T.len];omega
 have e:rows[a.toNat]? = some rows[a.toNat]:=by simp[hl]
 refine⟨_,e,?_,T.row _ _ e⟩;have:=Yf (xs:=rows.map V.ref) (j:=a.toNat) (v:=.ref rows[a.toNat]) (by rw[List.getElem?_map,e];rfl)
 rw[Int.toNat_of_nonneg h0] at this;exact this
theorem Zbe{n:Nat}{f:Nat->Bool}{b:Int}(h0:0<=b)(h1:b<n):atI ((List.range n).map fun j=>V.bl (f j)) b=some (.bl (f b.toNat)):=by
 have hl:b.toNat<n:=by omega
 have:=Yf (xs:=(List.range n).map fun j=>V.bl (f j)) (j:=b.toNat) (v:=.bl (f b.toNat)) (by rw[List.getElem?_map,List.getElem?_range hl];rfl)
 rw[Int.toNat_of_nonneg h0] at this;exact this
section
variable{P:Program}{w:World}{K:PySem.W.Frag}{mg:Str->Option Value}{base:Heap}
noncomputable def spTable(K:PySem.W.Frag):Sp:=fun vs H Q _=>∃ (l:Addr) (n:Nat) (ps:List (Int×Int)),vs=[.int n,.ref l]/\Prs K H l ps/\In n ps/\n<=1000 /\
 ∀ p rows H',Same H H'->Tab H' p n (better ps) rows->Q (.ref p) H'
noncomputable abbrev sTable:Stmt:=(top 8)
noncomputable abbrev nTable:List Str:=["many","pairs","table","one","other"]
noncomputable abbrev pTable:List Str:=["many","pairs"]
theorem scTable:FnScope nTable pTable (defScope sTable):=⟨rfl,rfl,rfl,by decide +kernel,rfl,by decide +kernel,by decide +kernel⟩
theorem coTable1:CompOk (mkSc [(".0",.local),("thing",.local),("many",.free)]) ["thing"] (defScope sTable) nTable:=⟨rfl,by decide +kernel,by decide +kernel,by decide +kernel,by decide +kernel,by decide +kernel⟩
theorem cnTable1:(blkN nTable ["thing"]).Nodup:=by decide +kernel
theorem Zf5{l:List Addr}(nd:l.Nodup){i j:Nat}{x:Addr}(a:l[i]? = some x)(b:l[j]? = some x):i=j:=by
 obtain⟨h1,e1⟩:=List.getElem?_eq_some_iff.mp a;obtain⟨h2,e2⟩:=List.getElem?_eq_some_iff.mp b;exact (List.getElem_inj nd).mp (e1.trans e2.symm)
theorem Zhy{n k:Nat}{f:Nat->Bool}(hk:k<n):((List.range n).map fun j=>V.bl (f j)).set k (.bl true)=(List.range n).map fun j=>V.bl (f j||decide (j=k)):=by
 apply List.ext_getElem?;intro i;rw[List.getElem?_set];by_cases hi:i<n
 ·by_cases e:k=i
  ·subst e;rw[if_pos rfl,if_pos (by simp[hi]),List.getElem?_map,List.getElem?_range hi]
   simp
  ·rw[if_neg e,List.getElem?_map,List.getElem?_map,List.getElem?_range hi];have:¬ i=k:=fun z=>e z.symm;simp[this]
 ·rw[List.getElem?_eq_none (by simp;omega)]
  rw[List.getElem?_eq_none (l:=List.map (fun j=>V.bl (f j||decide (j=k))) (List.range n)) (by simp;omega)]
  split
  ·rw[if_neg (by simp;omega)]
  ·rfl
theorem Zb7{n:Nat}{x:V}:(List.replicate n [x]).flatten=(List.range n).map fun _=>x:=by
 induction n with
 | zero=>rfl
 | succ n ih=>
  rw[List.replicate_succ,List.flatten_cons,ih,List.range_succ_eq_map,List.map_cons,List.map_map];rfl
theorem Tab.put{H:Hp}{p:Addr}{n:Nat}{rel:Nat->Nat->Bool}{rows:List Addr}(T:Tab H p n rel rows){a b:Nat}{r:Addr}(hr:rows[a]? = some r)(hb:b<n):r≠p/\Tab (upd H r (.lst (((List.range n).map fun j=>V.bl (rel a j)).set b (.bl true)))) p n (fun i j=>rel i j||(decide (i=a)&&decide (j=b))) rows:=by
 have ha:a<rows.length:=(List.getElem?_eq_some_iff.mp hr).1;have hrow:=T.row a r hr;have hne:p≠r:=Zy T.top hrow fun z=>by
  injection z with z
  have e:=congrArg (fun l=>l[a]?) z;simp only[List.getElem?_map,hr] at e;rw[List.getElem?_range (by rw[← T.len];exact ha)] at e
  simp at e
 refine⟨hne.symm,by rw[Zh hne];exact T.top,T.len,T.nd,fun i q hq=>?_⟩
 by_cases hi:i=a
 ·subst hi;rw[hr] at hq;cases hq;rw[Zb,Zhy hb];simp
 ·have hqr:q≠r:=fun z=>hi (Zf5 T.nd (z▸hq) hr);rw[Zh hqr,T.row i q hq];simp[hi]
theorem Za4{ps:List (Int×Int)}{i:Nat}{a b:Int}(h:ps[i]? = some (a,b))(h0:0<=a)(h1:0<=b):better (ps.take (i+1))=fun x y=>better (ps.take i) x y||(decide (x=a.toNat)&&decide (y=b.toNat)):=by
 funext x y;unfold better;rw[List.take_add_one,h];simp only[Option.toList_some];rw[Bool.eq_iff_iff];simp only[decide_eq_true_eq,List.mem_append,List.mem_singleton,Prod.mk.injEq,Bool.or_eq_true,Bool.and_eq_true];constructor
 ·rintro (h | ⟨h,h'⟩)
  ·exact .inl h
  ·exact .inr ⟨by omega,by omega⟩
 ·rintro (h | ⟨h,h'⟩)
  ·exact .inl h
  ·exact .inr ⟨by omega,by omega⟩
theorem Zbt{f fR:Addr}{fd fdR:FuncData}(D:Df K mg "table_of" sTable f fd)(DR:Df K mg "refuse_strangers" sRefuse fR fdR)(B:Bl mg):FnOk P w K mg base CX0 2 f fd ["many","pairs"] (spTable K):=by
 have GR:FnOk P w K mg base CX0 1 fR fdR ["many","pairs"] (spRefuse K):=Xs DR;have bR:Binds K _ ["many","pairs"] []:=bd2 DR.F fun _ _ _ _ _ _ _ _=>rfl;refine D.F.ok scTable (fun vs H Q E h=>?_) (fun cdv A outer s H vs Q E hr h=>?_)
 ·obtain⟨a,n,k,rfl,_⟩:=h;rfl
 ·obtain⟨l,n,ps,rfl,hP,hin,hn,q⟩:=h;refine⟨_,Zd (Zz (Zi GR hr rfl DR.m DR.F.kp bR .nil pass0 (Za (pv 0) (Za (pv 1) Zc))))
   (Zd (Ul (i:=2) scTable.nd rfl rfl rfl coTable1 (Zx rfl B.range (Za (pv 0) Zc)) (fun _ _ _ _ _=>Zn (i:=5) cnTable1 rfl (Or.inl rfl) (Or.inr rfl)) (fun _ _ _ _ _=>Um)
    (fun _ _ _ _ _=>Zr Zg5 (Z1 (Za Ye Zc)) (pv 0)) (by rfl))
   (Zd (Z0 PassesOwn.never rfl (piL (K:=K) rfl (pv 1)) (pgT (K:=K) rfl rfl (Z5 (Zn (i:=3) scTable.nd rfl (Or.inl rfl)) (Z5 (Zn (i:=4) scTable.nd rfl (Or.inl rfl)) Wv)))
    (Ze (Zg0 Ye (Zg3 (Zq (ixL (K:=K) rfl) (pv 2) (pv 3) (fun _ _=>rfl)) (pv 4) Zbd))))
   (Ze (Zj (pv 2))))),?_⟩
  refine⟨_,rfl,_,rfl,l,n,ps,rfl,hP,hin,fun H1 s1=>?_⟩;have hz:=sizeLine_eq;refine⟨_,rfl,n,rfl,by omega,by omega,Xi (k:=1) (fun i ys H2=>∃ rows:List Addr,ys=rows.map V.ref/\rows.length=i/\rows.Nodup/\Same H H2/\∀ r∈rows,H r=none/\H2 r=some (.lst ((List.range n).map fun _=>V.bl false))) ⟨[],rfl,rfl,List.nodup_nil,s1,fun r hr=>nomatch hr⟩
   (by rw[Int.toNat_natCast];omega) (fun i ys H2 ⟨rows,e1,e2,_⟩=>by rw[e1,List.length_map];omega) ?_ ?_⟩
  ·rintro i ys H2 hi ⟨rows,rfl,e2,nd,s2,hrow⟩;refine⟨rfl,(by show 1<=sizeLine;decide),fun p hp=>⟨_,rfl,p,n,[.bl false],rfl,rfl,Zb,by omega,by omega,by simp;omega,fun p2 hp2=>?_⟩⟩
   have hp2':p2≠p:=fun z=>by rw[z,Zb] at hp2;cases hp2
   rw[Zh hp2'] at hp2;have s3:Same H2 (upd (upd H2 p (.lst [.bl false])) p2 (.lst (List.replicate (n:Int).toNat [V.bl false]).flatten)):=((Same.refl H2).put hp).put hp2;refine⟨rows++[p2],by simp,by simp[e2],List.nodup_append.mpr ⟨nd,List.nodup_cons.mpr ⟨(fun z=>nomatch z),List.nodup_nil⟩,fun a ha b hb=>?_⟩,s2.trans s3,fun r hr=>?_⟩
   ·rw[List.mem_singleton.mp hb];exact Zf (hrow a ha).2 hp2
   ·rcases List.mem_append.mp hr with h | h
    ·exact⟨(hrow r h).1,s3 _ _ (hrow r h).2⟩
    ·rw[List.mem_singleton.mp h,Zb,Int.toNat_natCast,Zb7];exact⟨s2.free hp2,rfl⟩
  ·rintro ys H2 p ⟨rows,rfl,e2,nd,s2,hrow⟩ hp;rw[Int.toNat_natCast] at e2;obtain⟨rs,hS,hPr⟩:=hP;have hpn:=s2.free hp;have T0:Tab (upd H2 p (.lst (rows.map V.ref))) p n (better (ps.take 0)) rows:=⟨Zb,e2,nd,fun i r e=>by
    have hm:=hrow r (List.mem_of_getElem? e);rw[Zh (Zf hm.2 hp),hm.2];rfl⟩
   have hfr:∀ r∈rows,H r=none:=fun r hr=>(hrow r hr).1;refine⟨_,rfl,l,rfl,⟨_,(s2.put hpn).seq hS⟩,Z8 (K:=K) (a:=l) (xs:=rs.map V.ref) (fun i σ H3=>∃ v1 v2,σ=[some (.int n),some (.ref l),some (.ref p),v1,v2]/\Same H H3/\Tab H3 p n (better (ps.take i)) rows) ⟨none,none,rfl,s2.put hpn,T0⟩ (fun i σ H3 _ ⟨_,_,_,s3,_⟩=>s3.seq hS) ?_ ?_⟩
   ·rintro i y σ H3 hi ⟨v1,v2,rfl,s3,T3⟩;obtain⟨r,hr,rfl⟩:=Y6 hi;obtain⟨⟨a,b⟩,hab,hp2⟩:=Paired.at hPr hr;have hp3:=hin _ (List.mem_of_getElem? hab);simp only at hp3;refine⟨r,[.int a,.int b],rfl,SqT.of (s3 _ _ hp2),rfl,_,_,rfl,_,_,rfl,rfl,?_⟩;obtain⟨ra,ea,eat,hra⟩:=T3.at hp3.1.1 hp3.1.2;have hb:b.toNat<n:=by omega
    refine⟨_,rfl,_,rfl,p,_,_,_,rfl,rfl,SqL.of T3.top,eat,_,rfl,ra,_,b,b.toNat,rfl,rfl,hra,?_,?_⟩
    ·unfold ixN;rw[if_pos hp3.2.1,if_pos (by simp;omega)]
    ·obtain⟨hne,T4⟩:=T3.put ea hb;refine⟨_,_,rfl,s3.put (hfr ra (List.mem_of_getElem? ea)),?_⟩;rw[Za4 hab hp3.1.1 hp3.2.1];exact T4
   ·rintro σ H3 ⟨v1,v2,rfl,s3,T3⟩;have e:ps.take (rs.map V.ref).length=ps:=by
     rw[List.length_map,Paired.length hPr,List.take_length]
    rw[e] at T3;exact⟨_,rfl,q p rows H3 s3 T3⟩
end
theorem Yx{n:Nat}{g:TG}{tb:L2.TS}{D:Ends}{σ:St}{H:Hp}(Pv:Nat->St->Hp->Prop)(h0:Pv 0 σ H)
  (hs:∀ i σ H,i<n->Pv i σ H->g (.int i) σ H fun σ2 H2=>tb { D with nx:=Pv (i+1),ct:=Pv (i+1),bk:=D.nx } σ2 H2) (hd:∀ σ H,Pv n σ H->D.nx σ H):
  ∃ W:Nat->Nat->St->Hp->Prop,(∃ m,W 0 m σ H)/\∀ i m σ H,W i m σ H ->
   ((Itr 0 n).stop i H/\D.nx σ H)∨((Itr 0 n).go i H/\∃ N:St->Hp->Prop,(∀ σ' H',N σ' H'->∃ m',m'<m/\W (i+1) m' σ' H')/\∀ x H',(Itr 0 n).yld i H x H'->g x σ H' fun σ2 H2=>tb { D with nx:=N,ct:=N,bk:=D.nx } σ2 H2):=
 Xb (lo:=0) Pv h0 (fun i σ H hi h=>by rw[Int.zero_add];exact hs i σ H hi h) hd
theorem Zd1{α:Type}{xs:List α}{i:Nat}{x y:α}(h:xs[i]? = some x)(hy:y∈xs.take (i+1)):y∈xs.take i∨y=x:=by
 rw[List.take_add_one,h] at hy;simpa using hy
theorem two0{a b:V}:atI [a,b] 0=some a:=Yf (j:=0) rfl
theorem two1{a b:V}:atI [a,b] 1=some b:=Yf (j:=1) rfl
theorem three2{a b c:V}:atI [a,b,c] 2=some c:=Yf (j:=2) rfl
theorem iteNN{c A B:Prop}[Decidable c](hc:¬ c)(h:A):if (!decide c)=true then A else B:=by
 rw[decide_eq_false hc];exact h
section
variable{P:Program}{w:World}{K:PySem.W.Frag}{mg:Str->Option Value}{base:Heap}
noncomputable def spBeaten(K:PySem.W.Frag):Sp:=fun vs H Q _=>∃ (p a:Addr) (n t:Nat) (rel:Nat->Nat->Bool) (rows:List Addr) (xs:List Nat),vs=[.ref p,.int t,.ref a]/\Tab H p n rel rows/\t<n/\SqL K H a (Iv xs)/\(∀ x∈xs,x<n)/\xs.length<=1000 /\
 ∀ l H',Same H H'->H l=none->H' l=some (.lst (Iv (xs.filter fun x=>rel t x)))->Q (.ref l) H'
noncomputable abbrev sBeaten:Stmt:=(top 9)
noncomputable abbrev nBeaten:List Str:=["table","thing","among"]
noncomputable abbrev pBeaten:List Str:=["table","thing","among"]
theorem scBeaten:FnScope nBeaten pBeaten (defScope sBeaten):=⟨rfl,rfl,rfl,by decide +kernel,rfl,by decide +kernel,by decide +kernel⟩
theorem coBeaten1:CompOk (mkSc [(".0",.local),("other",.local),("table",.free),("thing",.free)]) ["other"] (defScope sBeaten) nBeaten:=⟨rfl,by decide +kernel,by decide +kernel,by decide +kernel,by decide +kernel,by decide +kernel⟩
theorem cnBeaten1:(blkN nBeaten ["other"]).Nodup:=by decide +kernel
theorem Wz{f:Addr}{fd:FuncData}(D:Df K mg "beaten_by" sBeaten f fd):FnOk P w K mg base CX0 1 f fd nBeaten (spBeaten K):=by
 refine D.F.ok scBeaten (fun vs H Q E h=>?_) (fun cdv A outer s H vs Q E hr h=>?_)
 ·obtain⟨a,n,k,_,_,_,_,rfl,_⟩:=h;rfl
 ·obtain⟨p,a,n,t,rel,rows,xs,rfl,T,ht,hS,hx,hn,q⟩:=h;refine⟨_,Ze (Zj (Wx rfl coBeaten1 (piL (K:=K) rfl (pv 2)) (fun _ _ _ _ _=>Zn (i:=3) cnBeaten1 rfl (Or.inl rfl) (Or.inr rfl))
   (fun _ _ _ _ _=>Wu (Z9 (Zq (ixL (K:=K) rfl) (Zq (ixL (K:=K) rfl) (pv 0) (pv 1) (fun _ _=>rfl)) (pv 3) (fun _ _=>rfl)))) (fun _ _ _ _ _=>pv 3))),?_⟩
  have hz:=sizeLine_eq;refine⟨_,rfl,a,rfl,⟨_,hS⟩,Xy (k:=1) (K:=K) (a:=a) (xs:=Iv xs) (fun i ys H2=>H2=H/\ys=Iv ((xs.take i).filter fun x=>rel t x)) ⟨rfl,rfl⟩ (by rw[Yi];omega) (fun i ys H2 ⟨e1,e2⟩=>⟨by
   rw[e2,Yi];exact Nat.le_trans (List.length_filter_le _ _) (List.length_take_le _ _),by rw[e1];exact hS⟩) ?_ ?_⟩
  ·rintro i y ys H2 hi ⟨rfl,rfl⟩;obtain⟨x,ex,rfl⟩:=Zaw hi;have hxn:=hx x (List.mem_of_getElem? ex);obtain⟨r,er,eat,hrow⟩:=T.at (a:=(t:Int)) (by omega) (by omega)
   rw[Int.toNat_natCast] at hrow;have e3:=Zbe (n:=n) (f:=rel t) (b:=(x:Int)) (by omega) (by omega)
   rw[Int.toNat_natCast] at e3;refine⟨rfl,_,rfl,_,rfl,p,_,_,_,rfl,rfl,SqL.of T.top,eat,_,rfl,r,_,_,_,rfl,rfl,SqL.of hrow,e3,_,rfl,?_⟩;rw[Vh ex,Jh];refine ite2 (fun h=>?_) (fun h=>?_)
   ·rw[if_pos h];exact⟨_,rfl,rfl,rfl⟩
   ·rw[if_neg h];exact⟨rfl,by simp[Iv]⟩
  ·rintro ys H2 l ⟨rfl,rfl⟩ hl;rw[Yi,List.take_length];exact q l _ (Same.new hl) hl Zb
end
section
variable{P:Program}{w:World}{K:PySem.W.Frag}{mg:Str->Option Value}{base:Heap}
noncomputable abbrev Rr(rel:Nat->Nat->Bool):Nat->Nat->Prop:=fun x y=>rel x y=true
noncomputable def spEnds(_:PySem.W.Frag):Sp:=fun vs H Q _=>∃ (p:Addr) (n:Nat) (rel:Nat->Nat->Bool) (rows:List Addr),vs=[.ref p]/\Tab H p n rel rows/\n<=1000 /\
 ∀ l xs H',Same H H'->H l=none->H' l=some (.lst (Iv xs))->(∀ x∈xs,x<n)->xs.length<=n->KP.Fwd (Rr rel) xs->(∀ C:List Nat,(∀ x∈C,x<n)->KP.Fwd (Rr rel) C->∀ x∈C,x∈xs)->Q (.ref l) H'
noncomputable abbrev sEnds:Stmt:=(top 10)
noncomputable abbrev nEnds:List Str:=["table","left","kept"]
noncomputable abbrev pEnds:List Str:=["table"]
theorem scEnds:FnScope nEnds pEnds (defScope sEnds):=⟨rfl,rfl,rfl,by decide +kernel,rfl,by decide +kernel,by decide +kernel⟩
theorem coEnds1:CompOk (mkSc [(".0",.local),("thing",.local),("beaten_by",.globalImplicit),("left",.free),("table",.free)]) ["thing"] (defScope sEnds) nEnds:=⟨rfl,by decide +kernel,by decide +kernel,by decide +kernel,by decide +kernel,by decide +kernel⟩
theorem cnEnds1:(blkN nEnds ["thing"]).Nodup:=by decide +kernel
theorem Zid{f fB:Addr}{fd fdB:FuncData}(D:Df K mg "things_without_ends" sEnds f fd)(DB:Df K mg "beaten_by" sBeaten fB fdB)(B:Bl mg):FnOk P w K mg base CX0 2 f fd ["table"] (spEnds K):=by
 have GB:FnOk P w K mg base CX0 1 fB fdB nBeaten (spBeaten K):=Wz DB;have bB:Binds K _ nBeaten []:=bd3 DB.F fun _ _ _ _ _ _ _ _ _=>rfl;refine D.F.ok scEnds (fun vs H Q E h=>?_) (fun cdv A outer s H vs Q E hr h=>?_)
 ·obtain⟨a,_,_,_,rfl,_⟩:=h;rfl
 ·obtain⟨p,n,rel,rows,rfl,T,hn,q⟩:=h;refine⟨_,Zd (Zk (i:=1) scEnds.nd rfl (Or.inr rfl) (Yg (V7 rfl) (by rfl) B.list (by decide +kernel) (Za (Yg Vk (by rfl) B.range (by decide +kernel) (Za (Zm (lenS (K:=K) rfl) (by rfl) B.len PySem.boot_len (Za (pv 0) Zc)) Zc)) Zc)))
   (Ze (Zbi PassesOwn.never (Z9 Ye)
    (Zd (Ul (i:=2) scEnds.nd rfl rfl rfl coEnds1 (piL (K:=K) rfl (pv 1)) (fun _ _ _ _ _=>Zn (i:=3) cnEnds1 rfl (Or.inl rfl) (Or.inr rfl))
     (fun _ _ _ _ _=>Wu (truK (K:=K) rfl (Zi GB hr rfl DB.m DB.F.kp bB .nil pass0 (Za (pv 0) (Za (pv 3) (Za (pv 1) Zc)))) (fun _=>rfl))) (fun _ _ _ _ _=>pv 3) (by rfl))
    (Zd (Zv (Zo Xr (Zm (lenS (K:=K) rfl) (by rfl) B.len PySem.boot_len (Za (pv 2) Zc)) (Zm (lenS (K:=K) rfl) (by rfl) B.len PySem.boot_len (Za (pv 1) Zc)) (nomark _)) (Ze (Zj (pv 2))) Zl)
    (Ze (Zk (i:=1) scEnds.nd rfl (Or.inr rfl) (pv 2))))))),?_⟩
  have hz:=sizeLine_eq;refine⟨_,rfl,p,_,rfl,.inl (SqL.of T.top),_,rfl,fun p1 h1=>⟨p1,n,rfl,?_,by omega,fun lf h2=>?_⟩⟩
  ·rw[Zb,List.length_map,T.len]
  ·have h2p:lf≠p1:=fun z=>by rw[z,Zb] at h2;cases h2
   have h2':H lf=none:=by rw[Zh h2p] at h2;exact h2
   refine⟨fun m σ H2=>∃ (a:Addr) (xs:List Nat) (v:Option V),σ=[some (.ref p),some (.ref a),v]/\Same H H2/\H2 a=some (.lst (Iv xs))/\(∀ x∈xs,x<n)/\xs.length<=n/\(∀ C:List Nat,(∀ x∈C,x<n)->KP.Fwd (Rr rel) C->∀ x∈C,x∈xs)/\m=xs.length,
    ⟨n,lf,List.range n,none,rfl,((Same.refl H).put h1).put h2',by rw[Zb];rfl,fun x hx=>List.mem_range.mp hx,by rw[List.length_range];exact Nat.le_refl _,fun C hC _ x hx=>List.mem_range.mpr (hC x hx),by rw[List.length_range]⟩,?_⟩
   rintro m σ H2 ⟨a,xs,v,rfl,s2,ha,hx,hl',hC,rfl⟩;refine⟨true,rfl,iteT ⟨_,fun σ' H' h=>h,?_⟩⟩;refine⟨_,rfl,a,rfl,⟨_,SqL.of ha⟩,Xy (k:=1) (K:=K) (a:=a) (xs:=Iv xs) (fun i ys H3=>Same H2 H3/\ys=Iv ((xs.take i).filter fun x=>!(xs.filter fun y=>rel x y).isEmpty)) ⟨Same.refl _,rfl⟩ (by rw[Yi];omega) (fun i ys H3 ⟨e1,e2⟩=>⟨by
    rw[e2,Yi];exact Nat.le_trans (List.length_filter_le _ _) (List.length_take_le _ _),e1.seq (SqL.of ha)⟩) ?_ ?_⟩
   ·rintro i y ys H3 hi ⟨s3,rfl⟩;obtain⟨x,ex,rfl⟩:=Zaw hi;have hxn:=hx x (List.mem_of_getElem? ex);refine⟨rfl,_,rfl,_,rfl,_,rfl,p,a,n,x,rel,rows,xs,rfl,T.same (s2.trans s3),hxn,s3.seq (SqL.of ha),hx,by omega,fun l H4 s4 _ hl4=>⟨_,.inl ⟨_,SqL.of hl4,rfl⟩,?_⟩⟩
    have ee:(Iv (xs.filter fun y=>rel x y)).isEmpty=(xs.filter fun y=>rel x y).isEmpty:=by unfold Iv;simp
    rw[Vh ex,Jh,ee];refine ite2 (fun h=>?_) (fun h=>?_)
    ·rw[if_pos h];exact⟨_,rfl,s3.trans s4,rfl⟩
    ·rw[if_neg h];exact⟨s3.trans s4,by simp[Iv]⟩
   ·rintro ys H3 l ⟨s3,rfl⟩ hl;rw[Yi,List.take_length];have s4:Same H (upd H3 l (.lst (Iv (xs.filter fun x=>!(xs.filter fun y=>rel x y).isEmpty)))):=(s2.trans s3).put ((s2.trans s3).free hl);have ha4:(upd H3 l (.lst (Iv (xs.filter fun x=>!(xs.filter fun y=>rel x y).isEmpty)))) a=some (.lst (Iv xs)):=by rw[Zh (Zf (s3 _ _ ha) hl)];exact s3 _ _ ha
    have fw:∀ x,(!(xs.filter fun y=>rel x y).isEmpty)=true->∃ y∈xs,Rr rel x y:=fun x h=>by
     cases e:xs.filter fun y=>rel x y with
     | nil=>rw[e] at h;simp at h
     | cons y r=>
      have hy:y∈xs.filter fun y=>rel x y:=by rw[e];exact List.mem_cons_self
      exact⟨y,(List.mem_filter.mp hy).1,(List.mem_filter.mp hy).2⟩
    refine⟨_,rfl,l,_,rfl,.inl (SqL.of Zb),_,rfl,a,_,rfl,.inl (SqL.of ha4),rfl,_,rfl,?_⟩;rw[Yi,Yi];refine ite2 (fun h=>?_) (fun h=>?_)
    ·have h':=of_decide_eq_true h;have h2:(xs.filter fun x=>!(xs.filter fun y=>rel x y).isEmpty).length=xs.length:=by
      injection h' with h'
      omega
     have h3:=KP.filter_same h2;refine⟨_,rfl,q l (xs.filter fun x=>!(xs.filter fun y=>rel x y).isEmpty) _ s4 ((s2.trans s3).free hl) Zb ?_ ?_ ?_ ?_⟩
     ·rw[h3];exact hx
     ·rw[h3];exact hl'
     ·intro x hx2;obtain⟨y,hy,hr⟩:=fw x (List.mem_filter.mp hx2).2;exact⟨y,by rw[h3];exact hy,hr⟩
     ·rw[h3];exact hC
    ·have h2:(xs.filter fun x=>!(xs.filter fun y=>rel x y).isEmpty).length<xs.length:=by
      have:=List.length_filter_le (fun x=>!(xs.filter fun y=>rel x y).isEmpty) xs;rcases Nat.lt_or_ge (xs.filter fun x=>!(xs.filter fun y=>rel x y).isEmpty).length xs.length with z | z
      ·exact z
      ·exfalso;apply h;apply decide_eq_true;have:(xs.filter fun x=>!(xs.filter fun y=>rel x y).isEmpty).length=xs.length:=by omega
       rw[this]
     refine⟨_,rfl,_,h2,l,_,_,rfl,s4,Zb,fun x hx2=>hx x (List.mem_filter.mp hx2).1,by omega,fun C h5 h6 x hx2=>List.mem_filter.mpr ⟨hC C h5 h6 x hx2,?_⟩,rfl⟩
     obtain⟨y,hy,hr⟩:=h6 x hx2;have hm:y∈xs.filter fun y=>rel x y:=List.mem_filter.mpr ⟨hC C h5 h6 y hy,hr⟩;cases e:xs.filter fun y=>rel x y with
     | nil=>rw[e] at hm;cases hm
     | cons _ _=>rfl
end
section
variable{P:Program}{w:World}{K:PySem.W.Frag}{mg:Str->Option Value}{base:Heap}
noncomputable def spCome(_:PySem.W.Frag):Sp:=fun vs H Q _=>∃ (d:Addr) (x:Nat) (kvs:List (Key×V)) (S:List Nat) (nx:Nat->Nat),vs=[.ref d,.int x]/\H d=some (.dK kvs)/\x∈S/\S.length<=1000/\(∀ y∈S,valV kvs (.inl (y:Int))=some (.int (nx y))/\nx y∈S) /\
 ∀ l c H',Same H H'->H l=none->H' l=some (.lst (Iv c))->KP.Rnd (fun a b=>nx a=b) c->(∀ y∈c,y∈S)->c.length<=S.length->Q (.ref l) H'
noncomputable abbrev sCome:Stmt:=(top 11)
noncomputable abbrev nCome:List Str:=["onward","thing","walked"]
noncomputable abbrev pCome:List Str:=["onward","thing"]
theorem scCome:FnScope nCome pCome (defScope sCome):=⟨rfl,rfl,rfl,by decide +kernel,rfl,by decide +kernel,by decide +kernel⟩
theorem Zdw{f:Addr}{fd:FuncData}(D:Df K mg "come_round" sCome f fd):FnOk P w K mg base CX0 1 f fd ["onward","thing"] (spCome K):=by
 refine D.F.ok scCome (fun vs H Q E h=>?_) (fun cdv A outer s H vs Q E hr h=>?_)
 ·obtain⟨a,_,_,_,_,rfl,_⟩:=h;rfl
 ·obtain⟨d,x0,kvs,S,nx,rfl,hd,hx0,hSl,hS,q⟩:=h;have hu:=Jk hr;have hz:=sizeLine_eq;refine⟨_,Zd (Zk (i:=2) scCome.nd rfl (Or.inl rfl) (Z1 Zc))
   (Zd (Zbi PassesOwn.never (Zo Jb (pv 1) (pv 2) (by with_unfolding_all rfl))
    (Zd (Zz (peM (K:=K) rfl PySem.F.plainAttrs_list PySem.F.slot_list_append PySem.F.type_list_append Yw (pv 2) (Za (pv 1) Zc)))
    (Ze (Zk (i:=1) scCome.nd rfl (Or.inl rfl) (Zh7 hu (pv 0) (pv 1) (fun _ _=>rfl))))))
   (Ze (Zj (Zfv (slL (K:=K) rfl) (pv 2) (Zh3 (peM (K:=K) rfl PySem.F.plainAttrs_list PySem.F.slot_list_index PySem.F.type_list_index Zbx (pv 2) (Za (pv 1) Zc))) Zh4)))),?_⟩
  refine⟨Nat.zero_le _,fun wk hwn=>?_⟩;refine⟨fun m σ H3=>∃ (ws:List Nat) (x:Nat),σ=[some (.ref d),some (.int x),some (.ref wk)]/\Same H H3/\H3 wk=some (.lst (Iv ws))/\KP.Wk (fun a b=>nx a=b) S ws x/\m+ws.length=S.length,
   ⟨_,[],x0,rfl,Same.new hwn,Zb,KP.Wk.start hx0,rfl⟩,?_⟩
  rintro m σ H3 ⟨ws,x,rfl,s3,hwk3,W,hm⟩;have hwlen:=W.len;refine⟨_,rfl,_,rfl,wk,_,rfl,.inl (SqL.of hwk3),rfl,Ziq _,_,rfl,?_⟩;rw[Zkh];by_cases hin:x∈ws
  ·rw[decide_eq_true hin];refine iteF ?_;have hk:(x:Int)∈ws.map fun x:Nat=>(x:Int):=List.mem_map.mpr ⟨x,hin,rfl⟩;have hj:=List.idxOf_lt_length_iff.mpr hk;have hg:=List.getElem_idxOf hj;refine⟨_,rfl,_,rfl,.inl ⟨rfl,_,SqL.of hwk3⟩,_,rfl,wk,ws.map (fun x:Nat=>(x:Int)),x,rfl,rfl,SqL.of (by rw[← Zed];exact hwk3),hk,_,rfl,wk,Iv ws,rfl,SqL.of hwk3,fun l hl=>?_⟩
   generalize hJ:(ws.map fun x:Nat=>(x:Int)).idxOf (x:Int)=j at hj hg ⊢;rw[List.length_map] at hj;rw[Zgo _ _ (by rw[Yi];omega)]
   have hxj:ws[j]? = some x:=by
    rw[List.getElem?_eq_getElem hj];simp only[List.getElem_map] at hg
    congr 1
    omega
   have hdr:(Iv ws).drop j=Iv (ws.drop j):=by unfold Iv;rw[List.map_drop]
   rw[hdr];refine q l (ws.drop j) _ (s3.put (s3.free hl)) (s3.free hl) Zb (W.round hxj) (fun y hy=>W.sub y (List.mem_of_mem_drop hy)) ?_;rw[List.length_drop];omega
  ·rw[decide_eq_false hin];refine iteT ⟨_,fun σ' H' h=>h,?_⟩;obtain⟨hv,hnx⟩:=hS x W.at_;refine⟨_,rfl,.inl ⟨rfl,_,SqL.of hwk3⟩,_,rfl,wk,_,_,rfl,rfl,hwk3,by rw[Yi];omega,?_⟩
   have hd4:(upd H3 wk (.lst (Iv ws++[.int x]))) d=some (.dK kvs):=(s3.put hwn) _ _ hd;have W2:=W.step hin hnx rfl;have l2:=W2.len;rw[List.length_append,List.length_singleton] at l2;refine⟨_,rfl,_,rfl,d,.int (nx x),rfl,?_,m - 1,by omega,ws++[x],nx x,rfl,s3.put hwn,?_,W2,?_⟩
   ·have:=DGet.k (k:=Sum.inl (x:Int)) hd4;rw[hv] at this;exact this
   ·rw[Jh];exact Zb
   ·rw[List.length_append,List.length_singleton];omega
end
section
variable{P:Program}{w:World}{K:PySem.W.Frag}{mg:Str->Option Value}{base:Heap}
noncomputable def RoundTold(n:Nat)(r:Nat->Nat->Prop)(H:Hp)(Q:VK):Prop:=
 (∀ H',Same H H'->(∀ C:List Nat,(∀ x∈C,x<n)->KP.Fwd r C->C=[])->Q .non H') /\
 ∀ l c H',Same H H'->H l=none->H' l=some (.lst (Iv c))->KP.Rnd r c->(∀ x∈c,x<n)->c.length<=n->Q (.ref l) H'
noncomputable def spRoundIn(_:PySem.W.Frag):Sp:=fun vs H Q _=>∃ (p:Addr) (n:Nat) (rel:Nat->Nat->Bool) (rows:List Addr),vs=[.ref p]/\Tab H p n rel rows/\n<=1000/\RoundTold n (Rr rel) H Q
noncomputable abbrev sRoundIn:Stmt:=(top 12)
noncomputable abbrev nRoundIn:List Str:=["table","left","onward","thing"]
noncomputable abbrev pRoundIn:List Str:=["table"]
theorem scRoundIn:FnScope nRoundIn pRoundIn (defScope sRoundIn):=⟨rfl,rfl,rfl,by decide +kernel,rfl,by decide +kernel,by decide +kernel⟩
theorem Zfr{r r':Nat->Nat->Prop}{c:List Nat}(h:KP.Rnd r c)(m:∀ x∈c,∀ y,r x y->r' x y):KP.Rnd r' c:=
 ⟨h.ne,h.nd,fun i x y a b=>m x (List.mem_of_getElem? a) y (h.st i x y a b),fun x y a b=>m x (List.mem_of_getElem? a) y (h.cl x y a b)⟩
theorem Zcm{f fB fE fC:Addr}{fd fdB fdE fdC:FuncData}(D:Df K mg "round_in" sRoundIn f fd)(DB:Df K mg "beaten_by" sBeaten fB fdB)(DE:Df K mg "things_without_ends" sEnds fE fdE)(DC:Df K mg "come_round" sCome fC fdC)(B:Bl mg):FnOk P w K mg base CX0 3 f fd ["table"] (spRoundIn K):=by
 have GB:FnOk P w K mg base CX0 1 fB fdB nBeaten (spBeaten K):=Wz DB;have bB:Binds K _ nBeaten []:=bd3 DB.F fun _ _ _ _ _ _ _ _ _=>rfl;have GE:FnOk P w K mg base CX0 2 fE fdE ["table"] (spEnds K):=Zid DE DB B;have bE:Binds K _ ["table"] []:=bd1 DE.F fun _ _ _ _ _ _ _=>rfl;have GC:FnOk P w K mg base CX0 1 fC fdC ["onward","thing"] (spCome K):=Zdw DC;have bC:Binds K _ ["onward","thing"] []:=bd2 DC.F fun _ _ _ _ _ _ _ _=>rfl;refine D.F.ok scRoundIn (fun vs H Q E h=>?_) (fun cdv A outer s H vs Q E hr h=>?_)
 ·obtain⟨a,_,_,_,rfl,_⟩:=h;rfl
 ·obtain⟨p,n,rel,rows,rfl,T,hn,q1,q2⟩:=h;have hr1:Room 1 _:=hr.mono (by decide)
  have hu:=Jk hr;have hz:=sizeLine_eq;refine⟨_,Zd (Zk (i:=1) scRoundIn.nd rfl (Or.inl rfl) (Zi GE hr rfl DE.m DE.F.kp bE .nil pass0 (Za (pv 0) Zc)))
   (Zd (Zv (Yk (Wn (pv 1) (fun _=>rfl))) (Ze (Zj Ya)) Zl)
   (Zd (Zk (i:=2) scRoundIn.nd rfl (Or.inl rfl) Zbn)
   (Zd (Z0 PassesOwn.never rfl (piL (K:=K) rfl (pv 1)) (Zn (i:=3) scRoundIn.nd rfl (Or.inl rfl))
    (Ze (Zar hu (pv 2) (pv 3) (Zq (ixL (K:=K) rfl) (Zi GB hr1 rfl DB.m DB.F.kp bB .nil pass0 (Za (pv 0) (Za (pv 3) (Za (pv 1) Zc)))) Zg (fun _ _=>rfl)) rfl)))
   (Ze (Zj (Zi GC hr1 rfl DC.m DC.F.kp bC .nil pass0 (Za (pv 2) (Za (Zq (ixL (K:=K) rfl) (pv 1) Zg (fun _ _=>rfl)) Zc)))))))),?_⟩
  refine⟨_,rfl,p,n,rel,rows,rfl,T,hn,fun lf xs H1 s1 hlf1 hlf hx hxl hfw hC=>?_⟩;refine⟨_,rfl,_,.inl ⟨_,SqL.of hlf,rfl⟩,?_⟩;cases xs with
  | nil=>
   refine iteT ?_;refine q1 H1 s1 fun C h1 h2=>?_;cases C with
   | nil=>rfl
   | cons x C=>exact absurd (hC (x::C) h1 h2 x List.mem_cons_self) (fun z=>nomatch z)
  | cons x0 xr=>
   refine iteF fun d hd0=>?_;generalize hX:x0::xr=xs at *;have hx0:x0∈xs:=by rw[← hX];exact List.mem_cons_self
   have h0at:xs[0]? = some x0:=by rw[← hX];rfl
   let nx:Nat->Nat:=fun y=>(xs.filter fun z=>rel y z).headD 0
   have hnx:∀ y∈xs,nx y∈xs/\rel y (nx y)=true/\(xs.filter fun z=>rel y z)[0]? = some (nx y):=by
    intro y hy;obtain⟨z,hz1,hz2⟩:=hfw y hy;have hm2:z∈xs.filter fun z=>rel y z:=List.mem_filter.mpr ⟨hz1,hz2⟩;have hh:∃ a r,(xs.filter fun z=>rel y z)=a::r:=by
     cases e:xs.filter fun z=>rel y z with
     | nil=>rw[e] at hm2;cases hm2
     | cons a r=>exact⟨a,r,rfl⟩
    obtain⟨a,r,e⟩:=hh;have ea:nx y=a:=by show (xs.filter fun z=>rel y z).headD 0=a;rw[e];rfl
    have ham:a∈xs.filter fun z=>rel y z:=by rw[e];exact List.mem_cons_self
    rw[ea,e];exact⟨(List.mem_filter.mp ham).1,(List.mem_filter.mp ham).2,rfl⟩
   have hdn:=s1.free hd0;have s2:Same H (upd H1 d (.dK [])):=s1.put hdn;have hlf2:(upd H1 d (.dK [])) lf=some (.lst (Iv xs)):=by rw[Zh (Zf hlf hd0)];exact hlf
   refine⟨_,rfl,lf,rfl,⟨_,SqL.of hlf2⟩,Z8 (K:=K) (a:=lf) (xs:=Iv xs) (fun i σ H3=>∃ (v:Option V) (kvs:List (Key×V)),σ=[some (.ref p),some (.ref lf),some (.ref d),v]/\Same H H3/\H3 lf=some (.lst (Iv xs))/\H3 d=some (.dK kvs)/\kvs.length<=i/\∀ y∈xs.take i,valV kvs (.inl (y:Int))=some (.int (nx y)))
    ⟨none,[],rfl,s2,hlf2,Zb,Nat.le_refl _,fun y hy=>by simp at hy⟩ (fun i σ H3 _ ⟨_,_,_,_,h,_⟩=>SqL.of h) ?_ ?_⟩
   ·rintro i y σ H3 hi ⟨v,kvs,rfl,s3,hlf3,hd3,hkl,hkv⟩;obtain⟨x,ex,rfl⟩:=Zaw hi;have hxm:=List.mem_of_getElem? ex;have hil:i<xs.length:=(List.getElem?_eq_some_iff.mp ex).1;refine⟨_,rfl,_,rfl,_,rfl,p,lf,n,x,rel,rows,xs,rfl,T.same s3,hx x hxm,SqL.of hlf3,hx,by omega,fun l H5 s5 hl hl5=>?_⟩
    obtain⟨n1,n2,n3⟩:=hnx x hxm;have hat:(Iv (xs.filter fun z=>rel x z))[0]? = some (.int (nx x)):=by unfold Iv;rw[List.getElem?_map,n3];rfl
    refine⟨l,_,_,.int (nx x),rfl,rfl,SqL.of hl5,Yf (j:=0) hat,_,rfl,_,rfl,d,_,rfl,DPut.k (k:=Sum.inl (x:Int)) (s5 _ _ hd3) (by omega),_,_,rfl,(s3.trans s5).put hdn,?_,Zb,?_,?_⟩
    ·rw[Zh (Zy (s5 _ _ hlf3) (s5 _ _ hd3) (by intro z;cases z))]
     exact s5 _ _ hlf3
    ·have:=Yz kvs (Sum.inl (x:Int)) (V.int (nx x));omega
    ·intro y hy;rw[Za7];rw[List.take_add_one,ex] at hy;simp only[Option.toList_some,List.mem_append,List.mem_singleton] at hy;by_cases e:y=x
     ·subst e;rw[if_pos rfl]
     ·rw[if_neg (by intro z;apply e;injection z with z;omega)]
      exact hkv y (hy.resolve_right e)
   ·rintro σ H3 ⟨v,kvs,rfl,s3,hlf3,hd3,hkl,hkv⟩;rw[Yi,List.take_length] at hkv;have hat:(Iv xs)[0]? = some (.int x0):=by unfold Iv;rw[List.getElem?_map,h0at];rfl
    refine⟨_,rfl,_,rfl,lf,_,_,.int x0,rfl,rfl,SqL.of hlf3,Yf (j:=0) hat,d,x0,kvs,xs,nx,rfl,hd3,hx0,by omega,fun y hy=>⟨hkv y hy,(hnx y hy).1⟩,fun l c H4 s4 hl hl4 hR hc hcl=>?_⟩
    refine q2 l c H4 (s3.trans s4) (s3.free hl) hl4 (Zfr hR fun a ha b e=>?_) (fun y hy=>hx y (hc y hy)) (by omega)
    subst e;exact (hnx a (hc a ha)).2.1
end
section
variable{P:Program}{w:World}{K:PySem.W.Frag}{mg:Str->Option Value}{base:Heap}
noncomputable def spWhole(_:PySem.W.Frag):Sp:=fun vs H Q _=>∃ i:Int,vs=[.int i]/\Q (.bl true) H
noncomputable abbrev sWhole:Stmt:=(top 30)
noncomputable abbrev nWhole:List Str:=["found"]
noncomputable abbrev pWhole:List Str:=["found"]
theorem scWhole:FnScope nWhole pWhole (defScope sWhole):=⟨rfl,rfl,rfl,by decide +kernel,rfl,by decide +kernel,by decide +kernel⟩
theorem Zbs{f:Addr}{fd:FuncData}(D:Df K mg "_law_whole" sWhole f fd)(B:Bl mg):FnOk P w K mg base CX0 1 f fd ["found"] (spWhole K):=by
 refine D.F.ok scWhole (fun vs H Q E h=>?_) (fun cdv A outer s H vs Q E hr h=>?_)
 ·obtain⟨a,rfl,_⟩:=h;rfl
 ·obtain⟨i,rfl,q⟩:=h;refine⟨_,Ze (Zj (U9 (Zm (isinS (K:=K) rfl) (by rfl) B.isinstance boot_isinstance (Za (pv 0) (Za (X2 (v:=.ty "int") (by rfl) B.int PyProof.Rows.boot_int rfl) Zc)))
   (Zbm (Zjc (Zm (isinS (K:=K) rfl) (by rfl) B.isinstance boot_isinstance (Za (pv 0) (Za (X2 (v:=.ty "bool") (by rfl) B.bool PyProof.Rows.boot_bool rfl) Zc))))))),?_⟩
  exact⟨_,rfl,_,_,_,_,rfl,.int _,kit1 K,_,rfl,_,rfl,_,_,_,_,rfl,.int _,kit2 K,_,rfl,q⟩
end
theorem Wo{α:Type}(f:Nat->α)(i:Nat):(List.range (i+1)).map f=(List.range i).map f++[f i]:=by
 rw[List.range_succ,List.map_append];rfl
theorem Yv{α β:Type}{F:α->β->Prop}:∀ {l₁:List α} {l₂:List β} {m₁:List α} {m₂:List β},Paired F l₁ l₂->Paired F m₁ m₂->Paired F (l₁++m₁) (l₂++m₂):=by
 intro l₁ l₂ m₁ m₂ h1 h
 induction h1 with
 | nil=>exact h
 | cons r _ ih=>exact .cons r ih
noncomputable def PrsO(H:Hp)(l:Addr)(ps:List (Int×Int)):Prop:=∃ rs:List Addr,H l=some (.lst (rs.map V.ref))/\Paired (Pr H) rs ps
theorem PrsO.prs{K:PySem.W.Frag}{H:Hp}{l:Addr}{ps:List (Int×Int)}(h:PrsO H l ps):Prs K H l ps:=by
 obtain⟨rs,h1,h2⟩:=h;exact⟨rs,SqL.of h1,h2⟩
theorem PrsO.same{H H':Hp}{l:Addr}{ps:List (Int×Int)}(h:PrsO H l ps)(s:Same H H'):PrsO H' l ps:=by
 obtain⟨rs,h1,h2⟩:=h;exact⟨rs,s _ _ h1,Paired.mapP h2 fun a b q=>s _ _ q⟩
theorem Yl{H H':Hp}{rs:List Addr}{ps:List (Int×Int)}(h:Paired (Pr H) rs ps)(s:Same H H'):Paired (Pr H') rs ps:=Paired.mapP h fun a b q=>s _ _ q
noncomputable def rowP(p:Nat->Bool)(a j:Nat):List (Int×Int):=((List.range j).filter p).map fun b:Nat=>((a:Int),(b:Int))
noncomputable def gridP(n:Nat)(p:Nat->Nat->Bool)(i:Nat):List (Int×Int):=(List.range i).flatMap fun a=>rowP (p a) a n
theorem Zdc(p:Nat->Bool)(a j:Nat):rowP p a (j+1)=rowP p a j++(if p j=true then [((a:Int),(j:Int))] else []):=by
 unfold rowP;rw[List.range_succ,List.filter_append,List.map_append];cases e:p j<;>simp[e]
theorem Uk(p:Nat->Bool)(a j:Nat):(rowP p a j).length<=j:=by
 unfold rowP;rw[List.length_map];have:=List.length_filter_le p (List.range j);rw[List.length_range] at this;exact this
theorem Xh(n:Nat)(p:Nat->Nat->Bool)(i:Nat):gridP n p (i+1)=gridP n p i++rowP (p i) i n:=by
 unfold gridP;rw[List.range_succ,List.flatMap_append];simp
theorem Zb6(n:Nat)(p:Nat->Nat->Bool):∀ i:Nat,(gridP n p i).length<=i * n
 | 0=>Nat.zero_le _
 | i+1=>by
  rw[Xh,List.length_append,Nat.add_mul,Nat.one_mul];have:=Zb6 n p i;have:=Uk (p i) i n;omega
theorem Jl(n:Nat)(p:Nat->Nat->Bool):∀ i:Nat,(gridP n p i).length=((List.range i).map fun a=>((List.range n).filter fun b=>p a b).length).sum
 | 0=>rfl
 | i+1=>by
  rw[Xh,List.length_append,Jl n p i,List.range_succ,List.map_append,List.sum_append];unfold rowP;simp
theorem Zgk(n:Nat)(p:Nat->Nat->Bool):In n (gridP n p n):=by
 intro q hq;unfold gridP rowP at hq;simp only[List.mem_flatMap,List.mem_range,List.mem_map,List.mem_filter] at hq;obtain⟨a,ha,b,⟨hb,_⟩,rfl⟩:=hq;simp only;omega
theorem Zef{n i:Nat}(f:Nat->Int)(hi:i<n):atI ((List.range n).map fun k=>V.int (f k)) ((0:Int)+(i:Int))=some (.int (f i)):=by
 rw[Int.zero_add];exact Yf (by rw[List.getElem?_map,List.getElem?_range hi];rfl)
section
variable{P:Program}{w:World}{K:PySem.W.Frag}{mg:Str->Option Value}{base:Heap}
noncomputable def spMarked(K:PySem.W.Frag):Sp:=fun vs H Q _=>∃ (a:Addr) (ns:List Int) (k:Int) (n:Nat),vs=[.ref a,.int k,.int n]/\SqL K H a (ns.map V.int)/\0<=k/\1<=n/\n<=12 /\
 ∀ l (p:Nat->Nat->Bool) H',Same H H'->H l=none->PrsO H' l (gridP n p n)->(gridP n p n).length<=57->Q (.ref l) H'
noncomputable abbrev sMarked:Stmt:=(top 31)
noncomputable abbrev nMarked:List Str:=["script","at","many","width","some","pairs","a"]
noncomputable abbrev pMarked:List Str:=["script","at","many"]
theorem scMarked:FnScope nMarked pMarked (defScope sMarked):=⟨rfl,rfl,rfl,by decide +kernel,rfl,by decide +kernel,by decide +kernel⟩
theorem coMarked1:CompOk (mkSc [(".0",.local),("k",.local),("_law_cell_at",.globalImplicit),("at",.free),("script",.free),("width",.free)]) ["k"] (defScope sMarked) nMarked:=⟨rfl,by decide +kernel,by decide +kernel,by decide +kernel,by decide +kernel,by decide +kernel⟩
theorem cnMarked1:(blkN nMarked ["k"]).Nodup:=by decide +kernel
theorem coMarked2:CompOk (mkSc [(".0",.local),("b",.local),("a",.free),("some",.free),("width",.free)]) ["b"] (defScope sMarked) nMarked:=⟨rfl,by decide +kernel,by decide +kernel,by decide +kernel,by decide +kernel,by decide +kernel⟩
theorem cnMarked2:(blkN nMarked ["b"]).Nodup:=by decide +kernel
theorem Zd2{n:Nat}(hn:n<=12){W:Int}(h1:1<=W){f:Nat->Int}(hf:∀ k,0<=f k/\f k<3 * W+2):(gridP n (fun a b=>decide (f b+W<=f a)) n).length<=57:=by
 rw[Jl];refine Nat.le_trans (KP.pairs_le (L:=4) hn (by decide) (fun i=>(f i / W).toNat) _ (fun i _=>?_) (fun a b _ _ h=>?_)) (KP.F5 n hn)
 ·obtain⟨h2,h3⟩:=hf i;have h4:f i / W<5:=Int.ediv_lt_of_lt_mul (by omega) (by omega)
  have h5:0<=f i / W:=Int.ediv_nonneg h2 (by omega)
  omega
 ·have h':f b+W<=f a:=of_decide_eq_true h;have h2:(f b+W) / W<=f a / W:=Int.ediv_le_ediv (by omega) h'
  rw[Int.add_ediv_of_dvd_right (Int.dvd_refl W),Int.ediv_self (by omega)] at h2
  have h5:0<=f b / W:=Int.ediv_nonneg (hf b).1 (by omega)
  omega
theorem Zdu(T:Tx K mg):FnOk P w K mg base CX0 2 T.a__law_marked T.f__law_marked pMarked (spMarked K):=by
 have GCell:FnOk P w K mg base CX0 1 T.a__law_cell_at T.f__law_cell_at pCell (spCell K):=Zdx T.d__law_cell_at T.B;have bCell:Binds K T.f__law_cell_at pCell []:=bd2 T.d__law_cell_at.F fun _ _ _ _ _ _ _ _=>rfl;refine T.d__law_marked.F.ok scMarked (fun vs H Q E h=>?_) (fun cdv A outer s H vs Q E hr h=>?_)
 ·obtain⟨_,_,_,_,rfl,_⟩:=h;rfl
 ·obtain⟨a,ns,k0,n,rfl,hS,hk0,hn1,hn,q⟩:=h;have hz:=sizeLine_eq;refine⟨_,Zd (Zk (i:=3) scMarked.nd rfl (Or.inr rfl) (Zr Y2 Zg (Zr Yb (Zi GCell hr rfl T.d__law_cell_at.m T.d__law_cell_at.F.kp bCell .nil pass0 (Za (pv 0) (Za (pv 1) Zc))) Zg)))
   (Zd (Zk (i:=4) scMarked.nd rfl (Or.inr rfl) (Wx rfl coMarked1 (Zx rfl T.B.range (Za (pv 2) Zc)) (fun _ _ _ _ _=>Zn (i:=7) cnMarked1 rfl (Or.inl rfl) (Or.inr rfl)) (fun _ _ _ _ _=>Um)
    (fun _ _ _ _ _=>Zr Yb (Zi GCell hr rfl T.d__law_cell_at.m T.d__law_cell_at.F.kp bCell .nil pass0 (Za (pv 0) (Za (Zr Y2 (Zr Y2 (pv 1) Zg) (pv 7)) Zc))) (Zr Y2 (Zr Zg8 Zg (pv 3)) Zg))))
   (Zd (Zk (i:=5) scMarked.nd rfl (Or.inl rfl) (Z1 Zc))
   (Zd (Z0 PassesOwn.never rfl (Zx rfl T.B.range (Za (pv 2) Zc)) (Zn (i:=6) scMarked.nd rfl (Or.inr rfl))
    (Ze (Zk (i:=5) scMarked.nd rfl (Or.inl rfl) (Zr Zdp (pv 5) (Wx rfl coMarked2 (Zx rfl T.B.range (Za (pv 2) Zc)) (fun _ _ _ _ _=>Zn (i:=7) cnMarked2 rfl (Or.inl rfl) (Or.inr rfl))
     (fun _ _ _ _ _=>Wu (Zo Zka (Zq (ixL (K:=K) rfl) (pv 4) (pv 6) (fun _ _=>rfl)) (Zr Y2 (Zq (ixL (K:=K) rfl) (pv 4) (pv 7) (fun _ _=>rfl)) (pv 3)) (nomark _)))
     (fun _ _ _ _ _=>Zu (Za (pv 6) (Za (pv 7) Zc))))))))
   (Ze (Zj (pv 5)))))),?_⟩
  refine⟨_,rfl,_,rfl,a,ns,k0,rfl,hS,hk0,_,_,rfl,rfl,(by show (0:Int)<6;decide),_,_,rfl,rfl,?_⟩
  have hW:1<=1+cell ns k0 % 6:=by omega
  show gName 3 (V.int (1+cell ns k0 % 6)) _ H _;generalize 1+cell ns k0 % 6=W at hW ⊢;generalize hf:(fun k:Nat=>cell ns (k0+2+(k:Int)) % (3 * W+2))=f;have hfb:∀ k,0<=f k/\f k<3 * W+2:=fun k=>by
   rw[← hf];exact⟨Int.emod_nonneg _ (by omega),Int.emod_lt_of_pos _ (by omega)⟩
  refine⟨_,rfl,n,rfl,by omega,by omega,Xi (k:=1) (fun i ys H2=>H2=H/\ys=(List.range i).map fun k=>V.int (f k)) ⟨rfl,rfl⟩ (by rw[Int.toNat_natCast];omega) (fun i ys H2 ⟨_,e⟩=>by rw[e];simp) ?_ ?_⟩
  ·rintro i ys H2 hi ⟨rfl,rfl⟩;refine⟨rfl,_,rfl,_,rfl,_,_,rfl,rfl,_,rfl,_,_,rfl,rfl,a,ns,_,rfl,hS,by omega,_,rfl,_,_,rfl,rfl,.inl ⟨by decide,by decide⟩,_,_,rfl,rfl,_,_,rfl,rfl,by omega,rfl,?_⟩
   rw[Wo,← hf,Int.zero_add]
  ·rintro ys H2 sl ⟨rfl,rfl⟩ hsl;rw[Int.toNat_natCast];refine⟨Nat.zero_le _,fun pl hpl=>?_⟩;have hpl0:H2 pl=none:=(Same.new hsl).free hpl;generalize hp:(fun a b:Nat=>decide (f b+W<=f a))=p;refine⟨_,rfl,n,rfl,by omega,by omega,?_⟩
   rw[Int.toNat_natCast];refine Xb (fun i σ H3=>∃ l v,σ=[some (.ref a),some (.int k0),some (.int n),some (.int W),some (.ref sl),some (.ref l),v]/\Same H2 H3/\H2 l=none/\H3 sl=some (.lst ((List.range n).map fun k=>V.int (f k)))/\PrsO H3 l (gridP n p i))
    ⟨pl,none,rfl,(Same.new hsl).put hpl0,hpl0,by rw[Zh (Zf Zb hpl)];exact Zb,[],Zb,.nil⟩ ?_ ?_
   ·rintro i σ H3 hi ⟨l,v,rfl,s3,hl,hsl3,rs,hl3,hP⟩;refine⟨_,rfl,_,rfl,n,rfl,by omega,by omega,Xi (k:=1) (fun j ys H4=>∃ rs2:List Addr,ys=rs2.map V.ref/\Same H3 H4/\Paired (Pr H4) rs2 (rowP (p i) i j)) ⟨[],rfl,Same.refl _,.nil⟩ (by rw[Int.toNat_natCast];omega) (fun j ys H4 ⟨rs2,e,_,h⟩=>by rw[e,List.length_map,Paired.length h];exact Uk _ _ _) ?_ ?_⟩
    ·rintro j ys H4 hj ⟨rs2,rfl,s4,hP2⟩;rw[Int.toNat_natCast] at hj;refine⟨rfl,_,rfl,_,rfl,sl,_,_,_,rfl,rfl,SqL.of (s4 _ _ hsl3),Zef f hi,_,rfl,_,rfl,sl,_,_,_,rfl,rfl,SqL.of (s4 _ _ hsl3),Zef f hj,_,rfl,_,_,rfl,rfl,_,_,rfl,rfl,_,rfl,?_⟩;rw[Zdc,← hp];refine ite2 (fun h=>?_) (fun h=>?_)
     ·rw[if_pos h];refine⟨_,rfl,_,rfl,(by show 2<=sizeLine;decide),fun t ht=>⟨rs2++[t],by rw[List.map_append];rfl,s4.put (s4.free ht),?_⟩⟩
      refine Yv (Yl (hp▸hP2) (Same.new ht)) (.cons ?_ .nil);show (upd H4 t _) t=_;rw[Zb,Int.zero_add,Int.zero_add]
     ·rw[if_neg h,List.append_nil];exact⟨rs2,rfl,s4,hp▸hP2⟩
    ·rintro ys H4 b ⟨rs2,rfl,s4,hP2⟩ hb;rw[Int.toNat_natCast] at hP2;have s5:Same H3 (upd H4 b (.lst (rs2.map V.ref))):=s4.put (s4.free hb);have e1:=Paired.length hP;have e2:=Paired.length hP2;have e3:=Zb6 n p i;have e4:=Uk (p i) i n;have e5:i * n<=144:=Nat.le_trans (Nat.mul_le_mul (Nat.le_of_lt (Nat.lt_of_lt_of_le hi hn)) hn) (by decide)
     refine⟨l,b,_,_,rfl,rfl,s5 _ _ hl3,Zb,by rw[List.length_map,List.length_map];omega,fun l2 hl2=>?_⟩
     have s6:Same H3 (upd (upd H4 b (.lst (rs2.map V.ref))) l2 (.lst (rs.map V.ref++rs2.map V.ref))):=s5.put (s5.free hl2);refine⟨l2,_,rfl,s3.trans s6,(s3.trans s5).free hl2,s6 _ _ hsl3,rs++rs2,by rw[List.map_append];exact Zb,?_⟩
     rw[Xh];exact Yv (Yl hP s6) (Yl hP2 ((Same.new hb).trans (Same.new hl2)))
   ·rintro σ H3 ⟨l,v,rfl,s3,hl,hsl3,hP⟩;exact⟨_,rfl,q l p H3 s3 hl hP (hp▸Zd2 hn hW hfb)⟩
end
noncomputable def spLaw(K:PySem.W.Frag):Sp:=fun vs H Q _=>∃ (a:Addr) (ns:List Int),vs=[.ref a]/\SqL K H a (ns.map V.int)/\ns.length<=63/\∀ H',Q (.bl true) H'
theorem V8{sp tp:List (Int×Int)}(h:∀ p,p∈sp↔p∈tp):better sp=better tp:=by
 funext i j;unfold better;rw[Bool.eq_iff_iff,decide_eq_true_eq,decide_eq_true_eq];exact h _
noncomputable def FourTold(n:Nat)(p:Nat->Nat->Nat->Nat->Prop)(H:Hp)(Q:VK):Prop:=
 (∀ H',Same H H'->(∀ a b c d,a<n->b<n->c<n->d<n->¬ p a b c d)->Q .non H') /\
 ∀ (t:Addr) (a b c d:Nat) (H':Hp),Same H H'->H t=none->H' t=some (.tup [.int a,.int b,.int c,.int d])->a<n->b<n->c<n->d<n->p a b c d->Q (.ref t) H'
noncomputable def PBes(rel:Nat->Nat->Bool)(a b c d:Nat):Prop:=rel a b=true/\rel c d=true/\rel a d=false/\rel c b=false
noncomputable def PRow(rel:Nat->Nat->Bool)(a b c d:Nat):Prop:=rel a b=true/\rel b c=true/\rel a d=false/\rel d c=false
section
variable{P:Program}{w:World}{K:PySem.W.Frag}{mg:Str->Option Value}{base:Heap}
noncomputable def aloneL(n:Nat)(rel:Nat->Nat->Bool)(a c:Nat)(i:Nat):List Nat:=(List.range i).filter fun x=>rel a x&&!rel c x
noncomputable def spAlone(_:PySem.W.Frag):Sp:=fun vs H Q _=>∃ (p:Addr) (n a c:Nat) (rel:Nat->Nat->Bool) (rows:List Addr),vs=[.ref p,.int a,.int c]/\Tab H p n rel rows/\a<n/\c<n/\n<=1000 /\
 ∀ l H',Same H H'->H l=none->H' l=some (.lst (Iv (aloneL n rel a c n)))->Q (.ref l) H'
noncomputable abbrev sAlone:Stmt:=(top 14)
noncomputable abbrev nAlone:List Str:=["table","one","other"]
noncomputable abbrev pAlone:List Str:=["table","one","other"]
theorem scAlone:FnScope nAlone pAlone (defScope sAlone):=⟨rfl,rfl,rfl,by decide +kernel,rfl,by decide +kernel,by decide +kernel⟩
theorem coAlone1:CompOk (mkSc [(".0",.local),("thing",.local),("one",.free),("other",.free),("table",.free)]) ["thing"] (defScope sAlone) nAlone:=⟨rfl,by decide +kernel,by decide +kernel,by decide +kernel,by decide +kernel,by decide +kernel⟩
theorem cnAlone1:(blkN nAlone ["thing"]).Nodup:=by decide +kernel
theorem Tab.look{H:Hp}{p:Addr}{n:Nat}{rel:Nat->Nat->Bool}{rows:List Addr}(T:Tab H p n rel rows){a b:Nat}(ha:a<n)(hb:b<n):∃ r,atI (rows.map V.ref) (a:Int)=some (.ref r)/\H r=some (.lst ((List.range n).map fun j=>V.bl (rel a j)))/\atI ((List.range n).map fun j=>V.bl (rel a j)) (b:Int)=some (.bl (rel a b)):=by
 obtain⟨r,_,eat,hrow⟩:=T.at (a:=(a:Int)) (by omega) (by omega)
 rw[Int.toNat_natCast] at hrow;have e3:=Zbe (n:=n) (f:=rel a) (b:=(b:Int)) (by omega) (by omega)
 rw[Int.toNat_natCast] at e3;exact⟨r,eat,hrow,e3⟩
theorem Zf4(T:Tx K mg):FnOk P w K mg base CX0 1 T.a_beaten_by_one_alone T.f_beaten_by_one_alone pAlone (spAlone K):=by
 refine T.d_beaten_by_one_alone.F.ok scAlone (fun vs H Q E h=>?_) (fun cdv A outer s H vs Q E hr h=>?_)
 ·obtain⟨_,_,_,_,_,_,rfl,_⟩:=h;rfl
 ·obtain⟨p,n,a,c,rel,rows,rfl,Tb,ha,hc,hn,q⟩:=h;have hz:=sizeLine_eq;refine⟨_,Ze (Zj (Wx rfl coAlone1 (Zx rfl T.B.range (Za (Zm (lenS (K:=K) rfl) (by rfl) T.B.len PySem.boot_len (Za (pv 0) Zc)) Zc)) (fun _ _ _ _ _=>Zn (i:=3) cnAlone1 rfl (Or.inl rfl) (Or.inr rfl))
   (fun _ _ _ _ _=>Wu (PW.pt (U8 (Z9 (Zq (ixL (K:=K) rfl) (Zq (ixL (K:=K) rfl) (pv 0) (pv 1) (fun _ _=>rfl)) (pv 3) (fun _ _=>rfl))) (Ws (Yk (Z9 (Zq (ixL (K:=K) rfl) (Zq (ixL (K:=K) rfl) (pv 0) (pv 2) (fun _ _=>rfl)) (pv 3) (fun _ _=>rfl)))))))) (fun _ _ _ _ _=>pv 3))),?_⟩
  refine⟨_,rfl,p,_,rfl,.inl (SqL.of Tb.top),_,rfl,by omega,by rw[List.length_map,Tb.len];omega,?_⟩
  rw[List.length_map,Tb.len,Int.toNat_natCast];refine Xi (k:=1) (fun i ys H2=>H2=H/\ys=Iv (aloneL n rel a c i)) ⟨rfl,rfl⟩ (by omega) (fun i ys H2 ⟨_,e⟩=>by
   rw[e,Yi];exact Nat.le_trans (List.length_filter_le _ _) (by rw[List.length_range];exact Nat.le_refl _)) ?_ ?_
  ·rintro i ys H2 hi ⟨rfl,rfl⟩;obtain⟨r1,x1,x2,x3⟩:=Tb.look ha hi;obtain⟨r2,y1,y2,y3⟩:=Tb.look hc hi;have es:aloneL n rel a c (i+1)=aloneL n rel a c i++(if (rel a i&&!rel c i)=true then [i] else []):=by
    unfold aloneL;rw[List.range_succ,List.filter_append];cases e:(rel a i&&!rel c i)<;>simp[e]
   refine⟨rfl,_,rfl,_,rfl,p,_,_,_,rfl,rfl,SqL.of Tb.top,x1,_,rfl,r1,_,_,_,rfl,rfl,SqL.of x2,(by rw[Int.zero_add];exact x3),_,rfl,?_⟩
   rw[es];cases e1:rel a i with
   | false=>exact iteF (iteF ⟨rfl,by simp⟩)
   | true=>
    refine iteT ⟨_,rfl,_,rfl,p,_,_,_,rfl,rfl,SqL.of Tb.top,y1,_,rfl,r2,_,_,_,rfl,rfl,SqL.of y2,(by rw[Int.zero_add];exact y3),_,rfl,?_⟩
    cases e2:rel c i with
    | true=>exact iteF ⟨rfl,by simp⟩
    | false=>
     refine iteT ⟨_,rfl,rfl,?_⟩;rw[Int.zero_add,Jh];rfl
  ·rintro ys H2 l ⟨rfl,rfl⟩ hl;exact q l _ (Same.new hl) hl Zb
noncomputable def spTwoIn(_:PySem.W.Frag):Sp:=fun vs H Q _=>∃ (p:Addr) (n:Nat) (rel:Nat->Nat->Bool) (rows:List Addr),vs=[.ref p]/\Tab H p n rel rows/\n<=1000/\FourTold n (PBes rel) H Q
noncomputable abbrev sTwoIn:Stmt:=(top 15)
noncomputable abbrev nTwoIn:List Str:=["table","a","c","beaten_by_a","beaten_by_c"]
noncomputable abbrev pTwoIn:List Str:=["table"]
theorem scTwoIn:FnScope nTwoIn pTwoIn (defScope sTwoIn):=⟨rfl,rfl,rfl,by decide +kernel,rfl,by decide +kernel,by decide +kernel⟩
theorem alone_mem{n:Nat}{rel:Nat->Nat->Bool}{a c x:Nat}:x∈aloneL n rel a c n↔x<n/\rel a x=true/\rel c x=false:=by
 unfold aloneL;rw[List.mem_filter,List.mem_range];simp
theorem Zb3(xs:List Nat):(Iv xs).isEmpty=xs.isEmpty:=by unfold Iv;simp
theorem Zf0(T:Tx K mg):FnOk P w K mg base CX0 2 T.a_two_pairs_in T.f_two_pairs_in pTwoIn (spTwoIn K):=by
 have GAlone:FnOk P w K mg base CX0 1 T.a_beaten_by_one_alone T.f_beaten_by_one_alone pAlone (spAlone K):=Zf4 T;have bAlone:Binds K T.f_beaten_by_one_alone pAlone []:=bd3 T.d_beaten_by_one_alone.F fun _ _ _ _ _ _ _ _ _=>rfl;refine T.d_two_pairs_in.F.ok scTwoIn (fun vs H Q E h=>?_) (fun cdv A outer s H vs Q E hr h=>?_)
 ·obtain⟨_,_,_,_,rfl,_⟩:=h;rfl
 ·obtain⟨p,n,rel,rows,rfl,Tb,hn,q1,q2⟩:=h;have hz:=sizeLine_eq;refine⟨_,Zd (Z0 PassesOwn.never rfl (Zx rfl T.B.range (Za (Zm (lenS (K:=K) rfl) (by rfl) T.B.len PySem.boot_len (Za (pv 0) Zc)) Zc)) (Zn (i:=1) scTwoIn.nd rfl (Or.inl rfl))
    (Ze (Z0 PassesOwn.never rfl (Zx rfl T.B.range (Za (pv 1) Zc)) (Zn (i:=2) scTwoIn.nd rfl (Or.inl rfl))
     (Zd (Zk (i:=3) scTwoIn.nd rfl (Or.inl rfl) (Zi GAlone hr rfl T.d_beaten_by_one_alone.m T.d_beaten_by_one_alone.F.kp bAlone .nil pass0 (Za (pv 0) (Za (pv 1) (Za (pv 2) Zc)))))
     (Zd (Zk (i:=4) scTwoIn.nd rfl (Or.inl rfl) (Zi GAlone hr rfl T.d_beaten_by_one_alone.m T.d_beaten_by_one_alone.F.kp bAlone .nil pass0 (Za (pv 0) (Za (pv 2) (Za (pv 1) Zc)))))
     (Ze (Zv (PW.pt (U8 (Wn (pv 3) (fun _=>rfl)) (Ws (Wn (pv 4) (fun _=>rfl)))))
      (Ze (Zj (Zu (Za (pv 1) (Za (Zq (ixL (K:=K) rfl) (pv 3) Zg (fun _ _=>rfl)) (Za (pv 2) (Za (Zq (ixL (K:=K) rfl) (pv 4) Zg (fun _ _=>rfl)) Zc))))))) Zl)))))))
   (Ze (Zj Ya)),?_⟩
  let no:Nat->Nat->Prop:=fun a c=>¬ ((∃ x,x∈aloneL n rel a c n)/\∃ x,x∈aloneL n rel c a n)
  refine⟨_,rfl,p,_,rfl,.inl (SqL.of Tb.top),_,rfl,by omega,by rw[List.length_map,Tb.len];omega,?_⟩
  rw[List.length_map,Tb.len,Int.toNat_natCast];refine Xb (fun i σ H2=>∃ v1 v2 v3 v4,σ=[some (.ref p),v1,v2,v3,v4]/\Same H H2/\∀ a,a<i->∀ c,c<a->no a c) ⟨none,none,none,none,rfl,Same.refl _,fun a ha=>by omega⟩ ?_ ?_
  ·rintro i σ H2 hi ⟨v1,v2,v3,v4,rfl,s2,hno⟩;refine⟨_,rfl,_,rfl,by omega,by omega,?_⟩
   rw[Int.zero_add,Int.toNat_natCast];refine Xb (fun j σ H3=>∃ v2 v3 v4,σ=[some (.ref p),some (.int i),v2,v3,v4]/\Same H H3/\∀ c,c<j->no i c) ⟨_,_,_,rfl,s2,fun c hc=>by omega⟩ ?_ ?_
   ·rintro j σ H3 hj ⟨v2,v3,v4,rfl,s3,hno2⟩;have hjn:j<n:=by omega
    have T3:=Tb.same s3;refine⟨_,rfl,_,rfl,_,rfl,p,n,i,j,rel,rows,(by rw[Int.zero_add];rfl),T3,hi,hjn,hn,fun l1 H4 s4 hl1 hl1'=>?_⟩
    refine⟨_,rfl,_,rfl,_,rfl,p,n,j,i,rel,rows,(by rw[Int.zero_add];rfl),T3.same s4,hjn,hi,hn,fun l2 H5 s5 hl2 hl2'=>?_⟩
    have hl15:=s5 _ _ hl1';have s35:=s3.trans (s4.trans s5);refine⟨_,rfl,_,.inl ⟨_,SqL.of hl15,rfl⟩,?_⟩;rw[Zb3];cases e1:aloneL n rel i j n with
    | nil=>
     refine iteF (iteF ⟨_,_,_,rfl,s35,fun c hc=>?_⟩);rcases Nat.lt_or_ge c j with h | h
     ·exact hno2 c h
     ·rintro⟨⟨x,hx⟩,_⟩;rw[show c=j by omega,e1] at hx
      cases hx
    | cons b1 r1=>
     refine iteT ⟨_,rfl,_,.inl ⟨_,SqL.of hl2',rfl⟩,?_⟩;rw[Zb3];cases e2:aloneL n rel j i n with
     | nil=>
      refine iteF ⟨_,_,_,rfl,s35,fun c hc=>?_⟩;rcases Nat.lt_or_ge c j with h | h
      ·exact hno2 c h
      ·rintro⟨_,⟨x,hx⟩⟩;rw[show c=j by omega,e2] at hx
       cases hx
     | cons b2 r2=>
      have m1:=alone_mem.mp (show b1∈aloneL n rel i j n by rw[e1];exact List.mem_cons_self)
      have m2:=alone_mem.mp (show b2∈aloneL n rel j i n by rw[e2];exact List.mem_cons_self)
      rw[e1] at hl15;rw[e2] at hl2';refine iteT ⟨_,rfl,_,rfl,l1,_,_,.int b1,rfl,rfl,SqL.of hl15,Yf (j:=0) rfl,_,rfl,_,rfl,l2,_,_,.int b2,rfl,rfl,SqL.of hl2',Yf (j:=0) rfl,(by show 4<=sizeLine;decide),fun t ht=>?_⟩
      refine q2 t i b1 j b2 _ (s35.put (s35.free ht)) (s35.free ht) ?_ hi m1.1 hjn m2.1 ⟨m1.2.1,m2.2.1,m2.2.2,m1.2.2⟩;rw[Zb,Int.zero_add]
   ·rintro σ H3 ⟨v2,v3,v4,rfl,s3,hno2⟩;refine⟨_,_,_,_,rfl,s3,fun a ha c hc=>?_⟩;rcases Nat.lt_or_ge a i with h | h
    ·exact hno a h c hc
    ·rw[show a=i by omega] at hc ⊢
     exact hno2 c hc
  ·rintro σ H2 ⟨v1,v2,v3,v4,rfl,s2,hno⟩;refine q1 H2 s2 fun a b c d ha hb hc hd hp=>?_;obtain⟨p1,p2,p3,p4⟩:=hp;rcases Nat.lt_trichotomy a c with h | h | h
   ·exact hno c hc a h ⟨⟨d,alone_mem.mpr ⟨hd,p2,p3⟩⟩,⟨b,alone_mem.mpr ⟨hb,p1,p4⟩⟩⟩
   ·rw[h,p4] at p1;cases p1
   ·exact hno a ha c h ⟨⟨b,alone_mem.mpr ⟨hb,p1,p4⟩⟩,⟨d,alone_mem.mpr ⟨hd,p2,p3⟩⟩⟩
end
section
variable{P:Program}{w:World}{K:PySem.W.Frag}{mg:Str->Option Value}{base:Heap}
noncomputable def spRowIn(_:PySem.W.Frag):Sp:=fun vs H Q _=>∃ (p:Addr) (n:Nat) (rel:Nat->Nat->Bool) (rows:List Addr),vs=[.ref p]/\Tab H p n rel rows/\n<=1000/\FourTold n (PRow rel) H Q
noncomputable abbrev sRowIn:Stmt:=(top 24)
noncomputable abbrev nRowIn:List Str:=["table","things","a","b","c","d"]
noncomputable abbrev pRowIn:List Str:=["table"]
theorem scRowIn:FnScope nRowIn pRowIn (defScope sRowIn):=⟨rfl,rfl,rfl,by decide +kernel,rfl,by decide +kernel,by decide +kernel⟩
theorem Zbg{n i x:Nat}(h:(List.range n)[i]? = some x):x=i/\i<n:=by
 obtain⟨h1,h2⟩:=List.getElem?_eq_some_iff.mp h;rw[List.getElem_range] at h2;rw[List.length_range] at h1;exact⟨h2.symm,h1⟩
theorem Xt{xs:List Nat}{i x y:Nat}(h:xs[i]? = some x)(hy:y∈xs.take (i+1)):y∈xs.take i∨y=x:=by
 rw[List.take_add_one,h] at hy;simpa using hy
noncomputable abbrev RowA(H1:Hp)(p th:Addr)(n:Nat)(rel:Nat->Nat->Bool)(i:Nat)(σ:St)(H2:Hp):Prop:=∃ v1 v2 v3 v4,σ=[some (.ref p),some (.ref th),v1,v2,v3,v4]/\Same H1 H2/\∀ a,a<i->∀ b c d,b<n->c<n->d<n->¬ PRow rel a b c d
noncomputable abbrev RowB(H3:Hp)(p th:Addr)(n:Nat)(rel:Nat->Nat->Bool)(a:Nat)(L1:List Nat)(j:Nat)(σ:St)(H4:Hp):Prop:=∃ v2 v3 v4,σ=[some (.ref p),some (.ref th),some (.int a),v2,v3,v4]/\Same H3 H4/\∀ b∈L1.take j,∀ c d,c<n->d<n->¬ PRow rel a b c d
noncomputable abbrev RowC(H5:Hp)(p th:Addr)(n:Nat)(rel:Nat->Nat->Bool)(a b:Nat)(L2:List Nat)(k:Nat)(σ:St)(H6:Hp):Prop:=∃ v3 v4,σ=[some (.ref p),some (.ref th),some (.int a),some (.int b),v3,v4]/\Same H5 H6/\∀ c∈L2.take k,∀ d,d<n->¬ PRow rel a b c d
noncomputable abbrev RowD(H6:Hp)(p th:Addr)(rel:Nat->Nat->Bool)(a b c:Nat)(m:Nat)(σ:St)(H7:Hp):Prop:=∃ v4,σ=[some (.ref p),some (.ref th),some (.int a),some (.int b),some (.int c),v4]/\H7=H6/\∀ d,d<m->¬ PRow rel a b c d
theorem Zf2(T:Tx K mg):FnOk P w K mg base CX0 2 T.a_three_row_in T.f_three_row_in pRowIn (spRowIn K):=by
 have GBeaten:FnOk P w K mg base CX0 1 T.a_beaten_by T.f_beaten_by pBeaten (spBeaten K):=Wz T.d_beaten_by;have bBeaten:Binds K T.f_beaten_by pBeaten []:=bd3 T.d_beaten_by.F fun _ _ _ _ _ _ _ _ _=>rfl;refine T.d_three_row_in.F.ok scRowIn (fun vs H Q E h=>?_) (fun cdv A outer s H vs Q E hr h=>?_)
 ·obtain⟨_,_,_,_,rfl,_⟩:=h;rfl
 ·obtain⟨p,n,rel,rows,rfl,Tb,hn,q1,q2⟩:=h;have hz:=sizeLine_eq;refine⟨_,Zd (Zk (i:=1) scRowIn.nd rfl (Or.inl rfl) (Yg (V7 rfl) (by rfl) T.B.list (by decide +kernel) (Za (Yg Vk (by rfl) T.B.range (by decide +kernel) (Za (Zm (lenS (K:=K) rfl) (by rfl) T.B.len PySem.boot_len (Za (pv 0) Zc)) Zc)) Zc)))
   (Zd (Z0 PassesOwn.never rfl (piL (K:=K) rfl (pv 1)) (Zn (i:=2) scRowIn.nd rfl (Or.inl rfl))
    (Ze (Z0 PassesOwn.never rfl (piL (K:=K) rfl (Zi GBeaten hr rfl T.d_beaten_by.m T.d_beaten_by.F.kp bBeaten .nil pass0 (Za (pv 0) (Za (pv 2) (Za (pv 1) Zc))))) (Zn (i:=3) scRowIn.nd rfl (Or.inl rfl))
     (Ze (Z0 PassesOwn.never rfl (piL (K:=K) rfl (Zi GBeaten hr rfl T.d_beaten_by.m T.d_beaten_by.F.kp bBeaten .nil pass0 (Za (pv 0) (Za (pv 3) (Za (pv 1) Zc))))) (Zn (i:=4) scRowIn.nd rfl (Or.inl rfl))
      (Ze (Z0 PassesOwn.never rfl (piL (K:=K) rfl (pv 1)) (Zn (i:=5) scRowIn.nd rfl (Or.inl rfl))
       (Ze (Zv (PW.pt (U8 (Yk (Z9 (Zq (ixL (K:=K) rfl) (Zq (ixL (K:=K) rfl) (pv 0) (pv 2) (fun _ _=>rfl)) (pv 5) (fun _ _=>rfl)))) (Ws (Yk (Z9 (Zq (ixL (K:=K) rfl) (Zq (ixL (K:=K) rfl) (pv 0) (pv 5) (fun _ _=>rfl)) (pv 4) (fun _ _=>rfl)))))))
        (Ze (Zj (Zu (Za (pv 2) (Za (pv 3) (Za (pv 4) (Za (pv 5) Zc))))))) Zl)))))))))
   (Ze (Zj Ya))),?_⟩
  refine⟨_,rfl,p,_,rfl,.inl (SqL.of Tb.top),_,rfl,fun p1 h1=>⟨p1,n,rfl,?_,by omega,fun th h2=>?_⟩⟩
  ·rw[Zb,List.length_map,Tb.len]
  have s1:=(Same.new (o:=.rng 0 ((rows.map V.ref).length:Int)) h1).trans (Same.new (o:=.lst ((List.range n).map fun i:Nat=>V.int (i:Int))) h2);have hth:(upd (upd H p1 (.rng 0 ((rows.map V.ref).length:Int))) th (.lst ((List.range n).map fun i:Nat=>V.int (i:Int)))) th=some (.lst (Iv (List.range n))):=Zb;revert s1 hth;generalize upd (upd H p1 (.rng 0 ((rows.map V.ref).length:Int))) th (.lst ((List.range n).map fun i:Nat=>V.int (i:Int)))=H1;intro s1 hth;have hall:∀ x∈List.range n,x<n:=fun x hx=>List.mem_range.mp hx;refine⟨_,rfl,th,rfl,⟨_,SqL.of hth⟩,Z8 (K:=K) (a:=th) (xs:=Iv (List.range n)) (RowA H1 p th n rel) ⟨none,none,none,none,rfl,Same.refl _,fun a ha=>by omega⟩ (fun i σ H2 _ ⟨_,_,_,_,_,s2,_⟩=>SqL.of (s2 _ _ hth)) ?_ ?_⟩
  ·rintro i y σ H2 hi ⟨v1,v2,v3,v4,rfl,s2,hno⟩;obtain⟨a,ea,rfl⟩:=Zaw hi;obtain⟨rfl,han⟩:=Zbg ea;have T2:=(Tb.same s1).same s2;refine⟨_,rfl,_,rfl,_,rfl,p,th,n,a,rel,rows,List.range n,rfl,T2,han,SqL.of (s2 _ _ hth),hall,by rw[List.length_range];exact hn,fun l1 H3 s3 hl1 hl1'=>?_⟩
   generalize hL1:(List.range n).filter (fun x=>rel a x)=L1 at hl1';refine⟨l1,rfl,⟨_,SqL.of hl1'⟩,Z8 (K:=K) (a:=l1) (xs:=Iv L1) (RowB H3 p th n rel a L1) ⟨_,_,_,rfl,Same.refl _,fun b hb=>by simp at hb⟩ (fun j σ H4 _ ⟨_,_,_,_,s4,_⟩=>SqL.of (s4 _ _ hl1')) ?_ ?_⟩
   ·rintro j y σ H4 hj ⟨v2,v3,v4,rfl,s4,hno2⟩;obtain⟨b,eb,rfl⟩:=Zaw hj;have hbm:=List.mem_of_getElem? eb;rw[← hL1] at hbm;obtain⟨hbn,hab⟩:=List.mem_filter.mp hbm;have hbn:=List.mem_range.mp hbn;have s14:=s2.trans (s3.trans s4);have T4:=(Tb.same s1).same s14;refine⟨_,rfl,_,rfl,_,rfl,p,th,n,b,rel,rows,List.range n,rfl,T4,hbn,SqL.of (s14 _ _ hth),hall,by rw[List.length_range];exact hn,fun l2 H5 s5 hl2 hl2'=>?_⟩
    generalize hL2:(List.range n).filter (fun x=>rel b x)=L2 at hl2';refine⟨l2,rfl,⟨_,SqL.of hl2'⟩,Z8 (K:=K) (a:=l2) (xs:=Iv L2) (RowC H5 p th n rel a b L2) ⟨_,_,rfl,Same.refl _,fun b hb=>by simp at hb⟩ (fun j σ H6 _ ⟨_,_,_,s6,_⟩=>SqL.of (s6 _ _ hl2')) ?_ ?_⟩
    ·rintro k y σ H6 hk ⟨v3,v4,rfl,s6,hno3⟩;obtain⟨c,ec,rfl⟩:=Zaw hk;have hcm:=List.mem_of_getElem? ec;rw[← hL2] at hcm;obtain⟨hcn,hbc⟩:=List.mem_filter.mp hcm;have hcn:=List.mem_range.mp hcn;have s16:=s14.trans (s5.trans s6);have T6:=(Tb.same s1).same s16;refine⟨_,rfl,th,rfl,⟨_,SqL.of (s16 _ _ hth)⟩,Z8 (K:=K) (a:=th) (xs:=Iv (List.range n)) (RowD H6 p th rel a b c) ⟨_,rfl,rfl,fun d hd=>by omega⟩ (fun j σ H7 _ ⟨_,_,e,_⟩=>by rw[e];exact SqL.of (s16 _ _ hth)) ?_ ?_⟩
     ·rintro m y σ H7 hm ⟨v4,rfl,rfl,hno4⟩;obtain⟨d,ed,rfl⟩:=Zaw hm;obtain⟨rfl,hdn⟩:=Zbg ed;obtain⟨r1,x1,x2,x3⟩:=T6.look han hdn;obtain⟨r2,y1,y2,y3⟩:=T6.look hdn hcn;refine⟨_,rfl,_,rfl,p,_,_,_,rfl,rfl,SqL.of T6.top,x1,_,rfl,r1,_,_,_,rfl,rfl,SqL.of x2,x3,_,rfl,?_⟩;have more:rel a d=true∨rel d c=true->∀ d',d'<d+1->¬ PRow rel a b c d':=fun hh d' hd' hp=>by
       rcases Nat.lt_or_ge d' d with h | h
       ·exact hno4 d' h hp
       ·obtain rfl:d'=d:=by omega
        obtain⟨_,_,p3,p4⟩:=hp;rcases hh with hh | hh
        ·rw[p3] at hh;cases hh
        ·rw[p4] at hh;cases hh
      cases e1:rel a d with
      | true=>exact iteF (iteF ⟨_,rfl,rfl,more (.inl e1)⟩)
      | false=>
       refine iteT ⟨_,rfl,_,rfl,p,_,_,_,rfl,rfl,SqL.of T6.top,y1,_,rfl,r2,_,_,_,rfl,rfl,SqL.of y2,y3,_,rfl,?_⟩;cases e2:rel d c with
       | true=>exact iteF ⟨_,rfl,rfl,more (.inr e2)⟩
       | false=>
        refine iteT ⟨_,rfl,_,rfl,_,rfl,_,rfl,(by show 4<=sizeLine;decide),fun t ht=>?_⟩
        have s17:=s1.trans s16;exact q2 t a b c d _ (s17.put (s17.free ht)) (s17.free ht) Zb han hbn hcn hdn ⟨hab,hbc,e1,e2⟩
     ·rintro σ H7 ⟨v4,rfl,rfl,hno4⟩;rw[Yi,List.length_range] at hno4;refine⟨_,_,rfl,s6,fun c' hc' d hd=>?_⟩;rcases Xt ec hc' with h | h
      ·exact hno3 c' h d hd
      ·rw[h];exact hno4 d hd
    ·rintro σ H6 ⟨v3,v4,rfl,s6,hno3⟩;rw[Yi,List.take_length] at hno3;refine⟨_,_,_,rfl,s4.trans (s5.trans s6),fun b' hb' c d hc hd=>?_⟩;rcases Xt eb hb' with h | h
     ·exact hno2 b' h c d hc hd
     ·rw[h];intro hp;refine hno3 c ?_ d hd hp;rw[← hL2];exact List.mem_filter.mpr ⟨List.mem_range.mpr hc,hp.2.1⟩
   ·rintro σ H4 ⟨v2,v3,v4,rfl,s4,hno2⟩;rw[Yi,List.take_length] at hno2;refine⟨_,_,_,_,rfl,s2.trans (s3.trans s4),fun a' ha' b c d hb hc hd=>?_⟩;rcases Nat.lt_or_ge a' a with h | h
    ·exact hno a' h b c d hb hc hd
    ·obtain rfl:a'=a:=by omega
     intro hp;refine hno2 b ?_ c d hc hd hp;rw[← hL1];exact List.mem_filter.mpr ⟨List.mem_range.mpr hb,hp.1⟩
  ·rintro σ H2 ⟨v1,v2,v3,v4,rfl,s2,hno⟩;rw[Yi,List.length_range] at hno;exact q1 H2 (s1.trans s2) fun a b c d ha hb hc hd=>hno a ha b c d hb hc hd
end
structure Four(H:Hp)(n:Nat)(t:Addr)(a b c d:Nat):Prop where
 at_:H t=some (.tup [.int a,.int b,.int c,.int d])
 ha:a<n
 hb:b<n
 hc:c<n
 hd:d<n
theorem Four.same{H H':Hp}{n:Nat}{t:Addr}{a b c d:Nat}(F:Four H n t a b c d)(s:Same H H'):Four H' n t a b c d:=⟨s _ _ F.at_,F.ha,F.hb,F.hc,F.hd⟩
noncomputable def FourV(H:Hp)(n:Nat)(p:Nat->Nat->Nat->Nat->Prop)(v:V):Prop:=(v=.non/\∀ a b c d,a<n->b<n->c<n->d<n->¬ p a b c d)∨∃ t a b c d,v=.ref t/\Four H n t a b c d/\p a b c d
theorem FourTold.of{n:Nat}{p:Nat->Nat->Nat->Nat->Prop}{H:Hp}{Q:VK}(h:∀ v H',Same H H'->FourV H' n p v->Q v H'):FourTold n p H Q:=
 ⟨fun H' s no=>h _ H' s (.inl ⟨rfl,no⟩),fun t a b c d H' s ht ht' ha hb hc hd hp=>h _ H' s (.inr ⟨t,a,b,c,d,rfl,⟨ht',ha,hb,hc,hd⟩,hp⟩)⟩
noncomputable def stW(rel:Nat->Nat->Bool)(W:Int)(a b:Nat):Option Int:=if rel a b=true then some W else if rel b a=true then none else some (1 - W)
noncomputable def Tr(H:Hp)(r:Addr)(p:Nat×Nat×Int):Prop:=H r=some (.tup [.int (p.1:Int),.int (p.2.1:Int),.int p.2.2])
noncomputable def rowS(st:Nat->Nat->Option Int)(a j:Nat):List (Nat×Nat×Int):=(List.range j).flatMap fun b=>(st a b).toList.map fun w=>(a,b,w)
noncomputable def gridS(n:Nat)(st:Nat->Nat->Option Int)(i:Nat):List (Nat×Nat×Int):=(List.range i).flatMap fun a=>rowS st a n
theorem U5(st:Nat->Nat->Option Int)(a j:Nat):rowS st a (j+1)=rowS st a j++(st a j).toList.map fun w=>(a,j,w):=by
 unfold rowS;rw[List.range_succ,List.flatMap_append];simp
theorem V0(n:Nat)(st:Nat->Nat->Option Int)(i:Nat):gridS n st (i+1)=gridS n st i++rowS st i n:=by
 unfold gridS;rw[List.range_succ,List.flatMap_append];simp
theorem Uj(st:Nat->Nat->Option Int)(a:Nat):∀ j:Nat,(rowS st a j).length<=j
 | 0=>Nat.zero_le _
 | j+1=>by
  rw[U5,List.length_append];have:=Uj st a j;have:((st a j).toList.map fun w=>(a,j,w)).length<=1:=by
   rw[List.length_map];cases st a j<;>simp
  omega
theorem Vg(n:Nat)(st:Nat->Nat->Option Int):∀ i:Nat,(gridS n st i).length<=i * n
 | 0=>Nat.zero_le _
 | i+1=>by
  rw[V0,List.length_append,Nat.add_mul,Nat.one_mul];have:=Vg n st i;have:=Uj st i n;omega
theorem gridS_mem{n:Nat}{st:Nat->Nat->Option Int}{s:Nat×Nat×Int}:s∈gridS n st n↔s.1<n/\s.2.1<n/\st s.1 s.2.1=some s.2.2:=by
 obtain⟨a,b,w⟩:=s;unfold gridS rowS;simp only[List.mem_flatMap,List.mem_range,List.mem_map,Option.mem_toList];constructor
 ·rintro⟨a',ha,b',hb,w',hw,e⟩;simp only[Prod.mk.injEq] at e;obtain⟨rfl,rfl,rfl⟩:=e;exact⟨ha,hb,hw⟩
 ·rintro⟨ha,hb,hw⟩;exact⟨a,ha,b,hb,w,hw,rfl⟩
noncomputable def Tells(n:Nat)(rel:Nat->Nat->Bool)(W:Int)(m:Nat->Int):Prop:=(∀ a,0<=m a)/\∀ a b,a<n->b<n->(m b+W<=m a↔rel a b=true)
theorem Zfn{n:Nat}{rel:Nat->Nat->Bool}{W:Int}{m:Nat->Int}(hW:1<=W)(nn:∀ a,0<=m a)(sat:∀ a b w,a<n->b<n->stW rel W a b=some w->m b+w<=m a):Tells n rel W m:=by
 refine⟨nn,fun a b ha hb=>?_⟩;have h1:=sat a b;have h2:=sat b a;unfold stW at h1 h2;cases e1:rel a b<;>cases e2:rel b a<;>simp only[e1,e2,if_true,if_false,Bool.false_eq_true,Option.some.injEq,forall_eq',reduceCtorEq,false_implies,implies_true] at h1 h2
 ·have:=h2 _ hb ha rfl;simp only[Bool.false_eq_true,iff_false];omega
 ·have:=h2 _ hb ha rfl;simp only[Bool.false_eq_true,iff_false];omega
 ·have:=h1 _ ha hb rfl;simp only[iff_true];omega
 ·have:=h1 _ ha hb rfl;simp only[iff_true];omega
theorem Tells.sat{n:Nat}{rel:Nat->Nat->Bool}{W:Int}{m:Nat->Int}(T:Tells n rel W m):∀ a b w,a<n->b<n->stW rel W a b=some w->m b+w<=m a:=by
 intro a b w ha hb h;unfold stW at h;cases e1:rel a b with
 | true=>
  rw[if_pos e1] at h;cases h;exact (T.2 a b ha hb).mpr e1
 | false=>
  rw[if_neg (by rw[e1];decide)] at h
  cases e2:rel b a with
  | true=>rw[if_pos e2] at h;cases h
  | false=>
   rw[if_neg (by rw[e2];decide)] at h
   cases h;have:=mt (T.2 b a hb ha).mp (by rw[e2];decide)
   omega
section
variable{P:Program}{w:World}{K:PySem.W.Frag}{mg:Str->Option Value}{base:Heap}
theorem Tab.look'{H:Hp}{p:Addr}{n:Nat}{rel:Nat->Nat->Bool}{rows:List Addr}(T:Tab H p n rel rows){a b:Nat}(ha:a<n)(hb:b<n):∃ r,atI (rows.map V.ref) (a:Int)=some (.ref r)/\H r=some (.lst ((List.range n).map fun j=>V.bl (rel a j)))/\atI ((List.range n).map fun j=>V.bl (rel a j)) (b:Int)=some (.bl (rel a b)):=by
 obtain⟨r,_,eat,hrow⟩:=T.at (a:=(a:Int)) (by omega) (by omega)
 rw[Int.toNat_natCast] at hrow;have e3:=Zbe (n:=n) (f:=rel a) (b:=(b:Int)) (by omega) (by omega)
 rw[Int.toNat_natCast] at e3;exact⟨r,eat,hrow,e3⟩
noncomputable def spSteps(_:PySem.W.Frag):Sp:=fun vs H Q _=>∃ (p:Addr) (n:Nat) (W:Int) (rel:Nat->Nat->Bool) (rows:List Addr),vs=[.ref p,.int W]/\Tab H p n rel rows/\n<=100 /\
 ∀ (l:Addr) (rs:List Addr) (H':Hp),Same H H'->H l=none->H' l=some (.lst (rs.map V.ref))->Paired (Tr H') rs (gridS n (stW rel W) n)->Q (.ref l) H'
noncomputable abbrev sSteps:Stmt:=(top 20)
noncomputable abbrev nSteps:List Str:=["table","width","steps","one","other"]
noncomputable abbrev pSteps:List Str:=["table","width"]
theorem scSteps:FnScope nSteps pSteps (defScope sSteps):=⟨rfl,rfl,rfl,by decide +kernel,rfl,by decide +kernel,by decide +kernel⟩
theorem Zgv{H:Hp}{l t:Addr}{rs:List Addr}{sts:List (Nat×Nat×Int)}{a b:Nat}{w:Int}(hl:H l=some (.lst (rs.map V.ref)))(hP:Paired (Tr H) rs sts)(ht:H t=none):
  Paired (Tr (upd (upd H t (.tup [.int a,.int b,.int w])) l (.lst (rs.map V.ref++[.ref t])))) (rs++[t]) (sts++[(a,b,w)]):=by
 have htl:l≠t:=Zf hl ht;refine Yv (Paired.mapP hP fun r p h=>?_) (.cons ?_ .nil)
 ·have hr:H r=some (.tup [.int (p.1:Int),.int (p.2.1:Int),.int p.2.2]):=h;have hrl:r≠l:=Zy hr hl (by intro z;cases z)
  show upd _ l _ r=_;rw[Zh hrl,Zh (Zf hr ht)];exact hr
 ·show upd _ l _ t=_;rw[Zh htl.symm];exact Zb
theorem Zf1(T:Tx K mg):FnOk P w K mg base CX0 1 T.a_steps_in T.f_steps_in pSteps (spSteps K):=by
 refine T.d_steps_in.F.ok scSteps (fun vs H Q E h=>?_) (fun cdv A outer s H vs Q E hr h=>?_)
 ·obtain⟨_,_,_,_,_,rfl,_⟩:=h;rfl
 ·obtain⟨p,n,W,rel,rows,rfl,Tb,hn,q⟩:=h;have hz:=sizeLine_eq;refine⟨_,(Zd (Zk (i:=2) scSteps.nd rfl (Or.inl rfl) (Z1 Zc))
   (Zd (Z0 PassesOwn.never rfl (Zx rfl T.B.range (Za (Zm (lenS (K:=K) rfl) (by rfl) T.B.len PySem.boot_len (Za (pv 0) Zc)) Zc)) (Zn (i:=3) scSteps.nd rfl (Or.inl rfl))
    (Ze (Z0 PassesOwn.never rfl (Zx rfl T.B.range (Za (Zm (lenS (K:=K) rfl) (by rfl) T.B.len PySem.boot_len (Za (pv 0) Zc)) Zc)) (Zn (i:=4) scSteps.nd rfl (Or.inl rfl))
     (Ze (Zv (Z9 (Zq (ixL (K:=K) rfl) (Zq (ixL (K:=K) rfl) (pv 0) (pv 3) (fun _ _=>rfl)) (pv 4) (fun _ _=>rfl)))
      (Ze (Zz (peM (K:=K) rfl PySem.F.plainAttrs_list PySem.F.slot_list_append PySem.F.type_list_append Yw (pv 2) (Za (Zu (Za (pv 3) (Za (pv 4) (Za (pv 1) Zc)))) Zc))))
      (Ze (Zv (Yk (Z9 (Zq (ixL (K:=K) rfl) (Zq (ixL (K:=K) rfl) (pv 0) (pv 4) (fun _ _=>rfl)) (pv 3) (fun _ _=>rfl))))
       (Ze (Zz (peM (K:=K) rfl PySem.F.plainAttrs_list PySem.F.slot_list_append PySem.F.type_list_append Yw (pv 2) (Za (Zu (Za (pv 3) (Za (pv 4) (Za (Zr Zg4 Zg (pv 1)) Zc)))) Zc))))
       Zl)))))))
   (Ze (Zj (pv 2))))),?_⟩
  refine⟨Nat.zero_le _,fun l hl0=>?_⟩;have s1:=Same.new (o:=.lst []) hl0;refine⟨_,rfl,p,_,rfl,.inl (SqL.of (s1 _ _ Tb.top)),_,rfl,by omega,by rw[List.length_map,Tb.len];omega,?_⟩
  rw[List.length_map,Tb.len,Int.toNat_natCast];refine Yx (fun i σ H2=>∃ rs v1 v2,σ=[some (.ref p),some (.int W),some (.ref l),v1,v2]/\Same H H2/\H2 l=some (.lst (rs.map V.ref))/\Paired (Tr H2) rs (gridS n (stW rel W) i)) ⟨[],none,none,rfl,s1,Zb,.nil⟩ ?_ ?_
  ·rintro i σ H2 hi ⟨rs0,v1,v2,rfl,s2,hl2,hP2⟩;refine⟨_,rfl,p,_,rfl,.inl (SqL.of (s2 _ _ Tb.top)),_,rfl,by omega,by rw[List.length_map,Tb.len];omega,?_⟩
   rw[List.length_map,Tb.len,Int.toNat_natCast];refine Yx (fun j σ H3=>∃ rs v2,σ=[some (.ref p),some (.int W),some (.ref l),some (.int i),v2]/\Same H H3/\H3 l=some (.lst (rs.map V.ref))/\Paired (Tr H3) rs (gridS n (stW rel W) i++rowS (stW rel W) i j)) ⟨rs0,_,rfl,s2,hl2,by
    have e:rowS (stW rel W) i 0=[]:=rfl;rw[e,List.append_nil];exact hP2⟩ ?_ ?_
   ·rintro j σ H3 hj ⟨rs,v2,rfl,s3,hl3,hP3⟩;have T3:=Tb.same s3;obtain⟨r1,x1,x2,x3⟩:=T3.look' hi hj;obtain⟨r2,y1,y2,y3⟩:=T3.look' hj hi;have e1:=Paired.length hP3;have hlen:rs.length<=20000:=by
     rw[e1,List.length_append];have h1:=Vg n (stW rel W) i;have h2:=Uj (stW rel W) i j;have h3:i * n<=100 * 100:=Nat.mul_le_mul (by omega) hn
     omega
    refine⟨_,rfl,_,rfl,p,_,_,_,rfl,rfl,SqL.of T3.top,x1,_,rfl,r1,_,_,_,rfl,rfl,SqL.of x2,x3,_,rfl,?_⟩;rw[U5,← List.append_assoc];unfold stW;cases g1:rel i j with
    | true=>
     refine iteT ⟨_,rfl,.inl ⟨rfl,_,SqL.of hl3⟩,_,rfl,_,rfl,_,rfl,(by show 3<=sizeLine;decide),fun t ht=>⟨l,_,_,rfl,rfl,by rw[Zh (Zf hl3 ht)];exact hl3,by rw[List.length_map];omega,rs++[t],_,rfl,(s3.put (s3.free ht)).put hl0,by rw[Zb,List.map_append];rfl,?_⟩⟩
     simp only[if_true,Option.toList_some,List.map_cons,List.map_nil];exact Zgv hl3 hP3 ht
    | false=>
     refine iteF ⟨_,rfl,_,rfl,p,_,_,_,rfl,rfl,SqL.of T3.top,y1,_,rfl,r2,_,_,_,rfl,rfl,SqL.of y2,y3,_,rfl,?_⟩;cases g2:rel j i with
     | true=>
      refine iteF ⟨rs,_,rfl,s3,hl3,?_⟩;simp only[if_true,Bool.false_eq_true,if_false,Option.toList_none,List.map_nil,List.append_nil];exact hP3
     | false=>
      refine iteT ⟨_,rfl,.inl ⟨rfl,_,SqL.of hl3⟩,_,rfl,_,rfl,_,rfl,_,_,rfl,rfl,(by show 3<=sizeLine;decide),fun t ht=>⟨l,_,_,rfl,rfl,by rw[Zh (Zf hl3 ht)];exact hl3,by rw[List.length_map];omega,rs++[t],_,rfl,(s3.put (s3.free ht)).put hl0,by rw[Zb,List.map_append];rfl,?_⟩⟩
      simp only[Bool.false_eq_true,if_false,Option.toList_some,List.map_cons,List.map_nil];exact Zgv hl3 hP3 ht
   ·rintro σ H3 ⟨rs,v2,rfl,s3,hl3,hP3⟩;exact⟨rs,_,_,rfl,s3,hl3,by rw[V0];exact hP3⟩
  ·rintro σ H2 ⟨rs,v1,v2,rfl,s2,hl2,hP2⟩;exact⟨_,rfl,q l rs H2 s2 hl0 hl2 hP2⟩
end
section
variable{P:Program}{w:World}{K:PySem.W.Frag}{mg:Str->Option Value}{base:Heap}
noncomputable def DOn(kvs:List (Key×V))(nx:Nat->Option Nat):Prop:=∀ a:Nat,valV kvs (.inl (a:Int))=(nx a).map fun o:Nat=>V.int (o:Int)
noncomputable def Fnd(n:Nat)(m:Nat->Int):List V:=(List.range n).map fun i=>V.int (m i)
theorem Zix(n:Nat)(m:Nat->Int):(Fnd n m).length=n:=by unfold Fnd;simp
theorem Zen{n a:Nat}{m:Nat->Int}(h:a<n):atI (Fnd n m) (a:Int)=some (.int (m a)):=Yf (by unfold Fnd;rw[List.getElem?_map,List.getElem?_range h];rfl)
theorem Ziw{n v:Nat}{m:Nat->Int}{x:Int}:(Fnd n m).set v (.int x)=Fnd n (KP.set1 m v x):=by
 apply List.ext_getElem?;intro i;unfold Fnd;rw[List.getElem?_set];by_cases hi:i<n
 ·rw[List.getElem?_map,List.getElem?_map,List.getElem?_range hi];by_cases e:v=i
  ·subst e;simp[hi,KP.set1]
  ·have e':¬ i=v:=fun z=>e z.symm;simp[e,KP.set1,e']
 ·have hi':n<=i:=by omega
  rw[List.getElem?_eq_none (by simpa using hi'),List.getElem?_eq_none (by simpa using hi')]
  simp only[List.length_map,List.length_range]
  split
  ·rw[if_neg (by omega)]
  ·rfl
theorem Zip{n a:Nat}(h:a<n):ixN n (a:Int)=some a:=by
 unfold ixN;rw[if_pos (by omega),if_pos (by omega),Int.toNat_natCast]
theorem DOn.put{kvs:List (Key×V)}{nx:Nat->Option Nat}(h:DOn kvs nx)(v o:Nat):DOn (putK kvs (Sum.inl (v:Int)) (.int o)) (KP.set1 nx v (some o)):=fun a=>by
 rw[Za7];by_cases e:a=v
 ·subst e;rw[if_pos rfl,KP.set1_same];rfl
 ·rw[if_neg (by intro z;apply e;injection z with z;omega),KP.set1_ne e]
  exact h a
noncomputable def spRaise(_:PySem.W.Frag):Sp:=fun vs H Q _=>∃ (sl f d:Addr) (n j:Nat) (rs:List Addr) (sts:List (Nat×Nat×Int)) (st:Nat->Nat->Option Int) (m:Nat->Int) (nx:Nat->Option Nat) (L:Nat->Nat) (kvs:List (Key×V)),
 vs=[.ref sl,.ref f,.ref d]/\H sl=some (.lst (rs.map V.ref))/\Paired (Tr H) rs sts/\sl≠f/\H f=some (.lst (Fnd n m))/\H d=some (.dK kvs)/\DOn kvs nx/\kvs.length+sts.length<=1000000/\(∀ s∈sts,s.1<n/\s.2.1<n/\st s.1 s.2.1=some s.2.2) /\
 KP.MS n st m nx L/\KP.Seen sts m L j 0/\1<=j/\(∀ a,L a<=j) /\
 ∀ (r:V) (m':Nat->Int) (nx':Nat->Option Nat) (L':Nat->Nat) (kvs':List (Key×V)) (H':Hp),(∀ b o,H b=some o->b≠f->b≠d->H' b=some o)->H' f=some (.lst (Fnd n m'))->H' d=some (.dK kvs')->DOn kvs' nx'->kvs'.length<=kvs.length+sts.length ->
  KP.MS n st m' nx' L'->KP.Seen sts m' L' j sts.length->(∀ a,L' a<=j)->((r=.non/\∀ s∈sts,m' s.2.1+s.2.2<=m' s.1)∨∃ v:Nat,r=.int v/\v<n/\L' v=j)->Q r H'
noncomputable abbrev sRaise:Stmt:=(top 21)
noncomputable abbrev nRaise:List Str:=["steps","found","onward","raised","one","other","worth"]
noncomputable abbrev pRaise:List Str:=["steps","found","onward"]
theorem scRaise:FnScope nRaise pRaise (defScope sRaise):=⟨rfl,rfl,rfl,by decide +kernel,rfl,by decide +kernel,by decide +kernel⟩
noncomputable abbrev RaiseI(H:Hp)(sl f d:Addr)(n j:Nat)(sts:List (Nat×Nat×Int))(st:Nat->Nat->Option Int)(kvs:List (Key×V))(i:Nat)(σ:St)(H2:Hp):Prop:=∃ m' nx' L' kvs' rv v1 v2 v3,σ=[some (.ref sl),some (.ref f),some (.ref d),some rv,v1,v2,v3]/\(∀ b o,H b=some o->b≠f->b≠d->H2 b=some o)/\H2 f=some (.lst (Fnd n m'))/\H2 d=some (.dK kvs')/\DOn kvs' nx'/\kvs'.length<=kvs.length+i /\
    KP.MS n st m' nx' L'/\KP.Seen sts m' L' j i/\(∀ a,L' a<=j)/\((rv=.non/\∀ s∈sts.take i,m' s.2.1+s.2.2<=m' s.1)∨∃ v:Nat,rv=.int v/\v<n/\L' v=j)
theorem Zf3(T:Tx K mg):FnOk P w K mg base CX0 1 T.a_raise_once T.f_raise_once pRaise (spRaise K):=by
 refine T.d_raise_once.F.ok scRaise (fun vs H Q E h=>?_) (fun cdv A outer s H vs Q E hr h=>?_)
 ·obtain⟨_,_,_,_,_,_,_,_,_,_,_,_,rfl,_⟩:=h;rfl
 ·obtain⟨sl,f,d,n,j,rs,sts,st,m,nx,L,kvs,rfl,hsl,hP,hne,hf,hd,hD,hlen,hst,S,Se,hj,hL,q⟩:=h;have hz:=sizeLine_eq;have hu:=Jk hr;have hfd:f≠d:=Zy hf hd (by intro z;cases z)
  have hsd:sl≠d:=Zy hsl hd (by intro z;cases z)
  refine⟨_,(Zd (Zk (i:=3) scRaise.nd rfl (Or.inl rfl) Ya)
   (Zd (Z0 PassesOwn.never rfl (piL (K:=K) rfl (pv 0)) (pgT (K:=K) rfl rfl (Z5 (Zn (i:=4) scRaise.nd rfl (Or.inl rfl)) (Z5 (Zn (i:=5) scRaise.nd rfl (Or.inl rfl)) (Z5 (Zn (i:=6) scRaise.nd rfl (Or.inl rfl)) Wv))))
    (Ze (Zv (Zo Zfy (Zq (ixL (K:=K) rfl) (pv 1) (pv 4) (fun _ _=>rfl)) (Zr Y2 (Zq (ixL (K:=K) rfl) (pv 1) (pv 5) (fun _ _=>rfl)) (pv 6)) (nomark _))
     (Zd (Zg0 (Zr Y2 (Zq (ixL (K:=K) rfl) (pv 1) (pv 5) (fun _ _=>rfl)) (pv 6)) (Zg3 (pv 1) (pv 4) Zbd))
   (Zd (Zar hu (pv 2) (pv 4) (pv 5) rfl)
   (Ze (Zk (i:=3) scRaise.nd rfl (Or.inl rfl) (pv 4))))) Zl)))
   (Ze (Zj (pv 3))))),?_⟩
  refine⟨_,rfl,sl,rfl,⟨_,SqL.of hsl⟩,Z8 (K:=K) (a:=sl) (xs:=rs.map V.ref) (RaiseI H sl f d n j sts st kvs)
   ⟨m,nx,L,kvs,.non,none,none,none,rfl,fun _ _ h _ _=>h,hf,hd,hD,Nat.le_refl _,S,Se,hL,.inl ⟨rfl,fun s hs=>by simp at hs⟩⟩ (fun i σ H2 _ ⟨_,_,_,_,_,_,_,_,_,h,_⟩=>SqL.of (h _ _ hsl hne hsd)) ?_ ?_⟩
  ·rintro i y σ H2 hi ⟨m',nx',L',kvs',rv,v1,v2,v3,rfl,fr,hf2,hd2,hD2,hl2,S2,Se2,hL2,hrv⟩;obtain⟨r,hr,rfl⟩:=Y6 hi;obtain⟨⟨a,b,wt⟩,hab,hp⟩:=Paired.at hP hr;have hp0:H r=some (.tup [.int (a:Int),.int (b:Int),.int wt]):=hp;have hp2:=fr _ _ hp0 (Zy hp0 hf (by intro z;cases z)) (Zy hp0 hd (by intro z;cases z))
   obtain⟨ha,hb,hs⟩:=hst _ (List.mem_of_getElem? hab);simp only at ha hb hs;have hil:=(List.getElem?_eq_some_iff.mp hab).1;refine⟨r,[.int (a:Int),.int (b:Int),.int wt],rfl,SqT.of hp2,rfl,_,_,rfl,_,_,rfl,_,_,rfl,rfl,?_⟩;refine⟨_,rfl,_,rfl,f,_,_,_,rfl,rfl,SqL.of hf2,Zen ha,_,rfl,_,rfl,f,_,_,_,rfl,rfl,SqL.of hf2,Zen hb,_,rfl,_,_,rfl,rfl,_,_,rfl,rfl,_,rfl,?_⟩;refine ite2 (fun h=>?_) (fun h=>?_)
   ·have hr:m' a<m' b+wt:=of_decide_eq_true h;refine⟨_,rfl,_,rfl,f,_,_,_,rfl,rfl,SqL.of hf2,Zen hb,_,rfl,_,_,rfl,rfl,_,rfl,_,rfl,f,_,(a:Int),a,rfl,rfl,hf2,by rw[Zix];exact Zip ha,?_⟩
    have hd3:(upd H2 f (.lst ((Fnd n m').set a (.int (m' b+wt))))) d=some (.dK kvs'):=by rw[Zh hfd.symm];exact hd2
    refine⟨_,rfl,_,rfl,_,rfl,d,_,rfl,DPut.k (k:=Sum.inl (a:Int)) hd3 (by omega),_,rfl,?_⟩
    refine⟨KP.set1 m' a (m' b+wt),KP.set1 nx' a (some b),KP.set1 L' a j,_,.int a,_,_,_,rfl,fun c o hc h1 h2=>?_,?_,Zb,hD2.put a b,?_,S2.rise ha hb hs hr hL2 (Se2.lo hj hab hr),Se2.rise hab hr hL2,fun x=>?_,.inr ⟨a,rfl,ha,KP.set1_same⟩⟩
    ·rw[Zh h2,Zh h1];exact fr c o hc h1 h2
    ·rw[Zh hfd,Zb,Ziw]
    ·have:=Yz kvs' (Sum.inl (a:Int)) (V.int b);omega
    ·by_cases e:x=a
     ·subst e;rw[KP.set1_same];exact Nat.le_refl _
     ·rw[KP.set1_ne e];exact hL2 x
   ·have hr:¬ m' a<m' b+wt:=fun z=>h (decide_eq_true z);refine⟨m',nx',L',kvs',rv,_,_,_,rfl,fr,hf2,hd2,hD2,by omega,S2,Se2.keep hab hr,hL2,?_⟩
    rcases hrv with ⟨e,hsat⟩ | hrv
    ·refine .inl ⟨e,fun s hs=>?_⟩;rcases Zd1 hab hs with h1 | h1
     ·exact hsat s h1
     ·rw[h1];show m' b+wt<=m' a;omega
    ·exact .inr hrv
  ·rintro σ H2 ⟨m',nx',L',kvs',rv,v1,v2,v3,rfl,fr,hf2,hd2,hD2,hl2,S2,Se2,hL2,hrv⟩;have e1:(rs.map V.ref).length=sts.length:=by rw[List.length_map,Paired.length hP]
   rw[e1] at hl2 Se2 hrv;rw[List.take_length] at hrv;exact⟨_,rfl,q rv m' nx' L' kvs' H2 fr hf2 hd2 hD2 hl2 S2 Se2 hL2 hrv⟩
end
section
variable{P:Program}{w:World}{K:PySem.W.Frag}{mg:Str->Option Value}{base:Heap}
noncomputable def MarkV(H0 H:Hp)(n:Nat)(rel:Nat->Nat->Bool)(W:Int)(v:V):Prop:=∃ l m,v=.ref l/\H0 l=none/\H l=some (.lst (Fnd n m))/\Tells n rel W m/\∀ a,a<n->KP.Low n (stW rel W) m a
noncomputable def MisV(H0 H:Hp)(n:Nat)(rel:Nat->Nat->Bool)(W:Int)(v:V):Prop:=∃ l c,v=.ref l/\H0 l=none/\H l=some (.lst (Iv c))/\KP.Mis n (stW rel W) c
noncomputable def spMM(_:PySem.W.Frag):Sp:=fun vs H Q _=>∃ (p:Addr) (n:Nat) (W:Int) (rel:Nat->Nat->Bool) (rows:List Addr),vs=[.ref p,.int W]/\Tab H p n rel rows/\n<=100/\1<=W /\
 ∀ (t:Addr) (v1 v2:V) (H':Hp),Same H H'->H t=none->H' t=some (.tup [v1,v2])->((v2=.non/\MarkV H H' n rel W v1)∨(v1=.non/\MisV H H' n rel W v2))->Q (.ref t) H'
noncomputable abbrev sMM:Stmt:=(top 22)
noncomputable abbrev nMM:List Str:=["table","width","steps","found","onward","raised","turn"]
noncomputable abbrev pMM:List Str:=["table","width"]
theorem scMM:FnScope nMM pMM (defScope sMM):=⟨rfl,rfl,rfl,by decide +kernel,rfl,by decide +kernel,by decide +kernel⟩
noncomputable abbrev MmA(H:Hp)(p sl f d:Addr)(W:Int)(n:Nat)(sts:List (Nat×Nat×Int))(st:Nat->Nat->Option Int)(σ:St)(H':Hp):Prop:=∃ m nx L kvs rv v,σ=[some (.ref p),some (.int W),some (.ref sl),some (.ref f),some (.ref d),some rv,v]/\Same H H'/\H' f=some (.lst (Fnd n m))/\H' d=some (.dK kvs)/\DOn kvs nx/\KP.MS n st m nx L/\((rv=.non/\∀ s∈sts,m s.2.1+s.2.2<=m s.1)∨∃ v:Nat,rv=.int v/\v<n/\L v=n/\1<=n)
noncomputable abbrev MmB(H:Hp)(p sl f d:Addr)(W:Int)(n:Nat)(sts:List (Nat×Nat×Int))(st:Nat->Nat->Option Int)(rs:List Addr)(i:Nat)(σ:St)(H':Hp):Prop:=∃ m nx L kvs rv v,σ=[some (.ref p),some (.int W),some (.ref sl),some (.ref f),some (.ref d),some rv,v]/\Same H H'/\H' sl=some (.lst (rs.map V.ref))/\Paired (Tr H') rs sts/\H' f=some (.lst (Fnd n m))/\H' d=some (.dK kvs)/\DOn kvs nx/\KP.MS n st m nx L/\KP.Seen sts m L (i+1) 0/\(∀ a,L a<=i)/\kvs.length<=i * 10000/\((rv=.non/\i=0)∨∃ v:Nat,rv=.int v/\v<n/\L v=i/\1<=i)
theorem Zjj(T:Tx K mg):FnOk P w K mg base CX0 2 T.a_marks_or_misfit T.f_marks_or_misfit pMM (spMM K):=by
 have GSteps:FnOk P w K mg base CX0 1 T.a_steps_in T.f_steps_in pSteps (spSteps K):=Zf1 T;have bSteps:Binds K T.f_steps_in pSteps []:=bd2 T.d_steps_in.F fun _ _ _ _ _ _ _ _=>rfl;have GRaise:FnOk P w K mg base CX0 1 T.a_raise_once T.f_raise_once pRaise (spRaise K):=Zf3 T;have bRaise:Binds K T.f_raise_once pRaise []:=bd3 T.d_raise_once.F fun _ _ _ _ _ _ _ _ _=>rfl;have GCome:FnOk P w K mg base CX0 1 T.a_come_round T.f_come_round pCome (spCome K):=Zdw T.d_come_round;have bCome:Binds K T.f_come_round pCome []:=bd2 T.d_come_round.F fun _ _ _ _ _ _ _ _=>rfl;refine T.d_marks_or_misfit.F.ok scMM (fun vs H Q E h=>?_) (fun cdv A outer s H vs Q E hr h=>?_)
 ·obtain⟨_,_,_,_,_,rfl,_⟩:=h;rfl
 ·obtain⟨p,n,W,rel,rows,rfl,Tb,hn,hW,q⟩:=h;have hz:=sizeLine_eq;have hu:=Jk hr;refine⟨_,(Zd (Zk (i:=2) scMM.nd rfl (Or.inl rfl) (Zi GSteps hr rfl T.d_steps_in.m T.d_steps_in.F.kp bSteps .nil pass0 (Za (pv 0) (Za (pv 1) Zc))))
   (Zd (Zk (i:=3) scMM.nd rfl (Or.inl rfl) (Zr Zg5 (Z1 (Za Zg Zc)) (Zm (lenS (K:=K) rfl) (by rfl) T.B.len PySem.boot_len (Za (pv 0) Zc))))
   (Zd (Zk (i:=4) scMM.nd rfl (Or.inl rfl) Zbn)
   (Zd (Zk (i:=5) scMM.nd rfl (Or.inl rfl) Ya)
   (Zd (Xk (Z0 PassesOwn.never rfl (Zx rfl T.B.range (Za (Zm (lenS (K:=K) rfl) (by rfl) T.B.len PySem.boot_len (Za (pv 0) Zc)) Zc)) (Zn (i:=6) scMM.nd rfl (Or.inl rfl))
    (Zd (Zk (i:=5) scMM.nd rfl (Or.inl rfl) (Zi GRaise hr rfl T.d_raise_once.m T.d_raise_once.F.kp bRaise .nil pass0 (Za (pv 2) (Za (pv 3) (Za (pv 4) Zc)))))
   (Ze (Zv (Zo Zbr (pv 5) Ya (nomark _)) (Ze (Zfu)) Zl)))))
   (Zd (Zv (Zo Zbr (pv 5) Ya (nomark _)) (Ze (Zj (Zu (Za (pv 3) (Za Ya Zc))))) Zl)
   (Ze (Zj (Zu (Za Ya (Za (Zi GCome hr rfl T.d_come_round.m T.d_come_round.F.kp bCome .nil pass0 (Za (pv 4) (Za (pv 5) Zc))) Zc))))))))))),?_⟩
  refine⟨_,rfl,_,rfl,p,n,W,rel,rows,rfl,Tb,hn,fun sl rs H1 s1 hsl0 hsl hP=>?_⟩;refine⟨(by show 1<=sizeLine;decide),fun z0 hz0=>?_⟩
  have s2:=Same.new (o:=.lst [.int 0]) hz0;refine⟨_,rfl,p,_,rfl,.inl (SqL.of (s2 _ _ (s1 _ _ Tb.top))),z0,_,_,rfl,rfl,Zb,by omega,by rw[List.length_map,Tb.len];omega,?_,fun f hf0=>?_⟩
  ·rw[List.length_map,Tb.len,Int.toNat_natCast];show 1 * n<=_;omega
  have s3:=Same.new (o:=.lst (List.replicate ((rows.map V.ref).length:Int).toNat [V.int 0]).flatten) hf0;have hfd0:(List.replicate ((rows.map V.ref).length:Int).toNat [V.int 0]).flatten=Fnd n (fun _=>0):=by
   rw[List.length_map,Tb.len,Int.toNat_natCast,Zb7];rfl
  have hf1:=Zb (H:=upd H1 z0 (.lst [.int 0])) (a:=f) (o:=.lst (List.replicate ((rows.map V.ref).length:Int).toNat [V.int 0]).flatten);rw[hfd0] at hf1 s3;rw[hfd0];have hsf:sl≠f:=Zf (s2 _ _ hsl) hf0;have hfH:H f=none:=(s1.trans s2).free hf0;have hsl3:=s3 _ _ (s2 _ _ hsl);have s03:=s1.trans (s2.trans s3);have hP3:Paired (Tr _) rs (gridS n (stW rel W) n):=Paired.mapP hP fun a b h=>(s2.trans s3) _ _ h;revert hf1 hsl3 s03 hP3;clear s3;generalize upd (upd H1 z0 (.lst [.int 0])) f (.lst (Fnd n fun _=>0))=H3;intro hf1 hsl3 s03 hP3;refine fun d hd0=>?_;have hdH:H d=none:=s03.free hd0;have s4:=Same.new (o:=.dK []) hd0;have hfd:f≠d:=Zf hf1 hd0;generalize hst:stW rel W=st at *;generalize hsts:gridS n st n=sts at *;have hstm:∀ s∈sts,s.1<n/\s.2.1<n/\st s.1 s.2.1=some s.2.2:=fun s hs=>by
   rw[← hsts] at hs;exact gridS_mem.mp hs
  have hstl:sts.length<=10000:=by
   rw[← hsts];exact Nat.le_trans (Vg n st n) (Nat.mul_le_mul hn hn)
  have hall:∀ (m:Nat->Int),(∀ s∈sts,m s.2.1+s.2.2<=m s.1)->∀ a b w,a<n->b<n->st a b=some w->m b+w<=m a:=fun m h a b w ha hb hw=>h (a,b,w) (by rw[← hsts];exact gridS_mem.mpr ⟨ha,hb,hw⟩)
  refine⟨MmA H p sl f d W n sts st,?_,?_⟩
  ·refine⟨_,rfl,p,_,rfl,.inl (SqL.of (s4 _ _ (s03 _ _ Tb.top))),_,rfl,by omega,by rw[List.length_map,Tb.len];omega,?_⟩
   rw[List.length_map,Tb.len,Int.toNat_natCast];refine Yx (MmB H p sl f d W n sts st rs)
    ⟨_,_,_,[],.non,none,rfl,s03.trans s4,s4 _ _ hsl3,Paired.mapP hP3 fun a b h=>s4 _ _ h,s4 _ _ hf1,Zb,fun a=>rfl,KP.MS.start n st,KP.Seen.start _ _ _,fun _=>Nat.le_refl _,Nat.zero_le _,.inl ⟨rfl,rfl⟩⟩ ?_ ?_
   ·rintro i σ H5 hi ⟨m,nx,L,kvs,rv,v,rfl,s5,hsl5,hP5,hf5,hd5,hD5,S5,Se5,hL5,hk5,_⟩;have hkb:i * 10000<=100 * 10000:=Nat.mul_le_mul (by omega) (Nat.le_refl _)
    have hkb2:i * 10000<=990000:=by
     have:i<=99:=by omega
     omega
    refine⟨_,rfl,_,rfl,_,rfl,sl,f,d,n,i+1,rs,sts,st,m,nx,L,kvs,rfl,hsl5,hP5,hsf,hf5,hd5,hD5,by omega,hstm,S5,Se5,by omega,fun a=>Nat.le_succ_of_le (hL5 a),fun r m' nx' L' kvs' H6 fr hf6 hd6 hD6 hk6 S6 Se6 hL6 hr6=>?_⟩
    have s6:Same H H6:=fun b o hb=>fr b o (s5 b o hb) (Zf hb hfH) (Zf hb hdH);rcases hr6 with ⟨rfl,hsat⟩ | ⟨v',rfl,hv',hLv⟩
    ·exact⟨_,rfl,rfl,_,rfl,iteT ⟨m',nx',L',kvs',_,_,rfl,s6,hf6,hd6,hD6,S6,.inl ⟨rfl,hsat⟩⟩⟩
    ·refine⟨_,rfl,rfl,_,rfl,iteF ⟨m',nx',L',kvs',_,_,rfl,s6,fr _ _ hsl5 hsf (Zy hsl5 hd5 (by intro z;cases z)),Paired.mapP hP5 fun a b h=>?_,hf6,hd6,hD6,S6,Se6.next,hL6,by omega,.inr ⟨v',rfl,hv',hLv,by omega⟩⟩⟩
     have hh:H5 a=some (.tup [.int (b.1:Int),.int (b.2.1:Int),.int b.2.2]):=h;exact fr _ _ hh (Zy hh hf5 (by intro z;cases z)) (Zy hh hd5 (by intro z;cases z))
   ·rintro σ H5 ⟨m,nx,L,kvs,rv,v,rfl,s5,hsl5,hP5,hf5,hd5,hD5,S5,Se5,hL5,hk5,hrv⟩;refine⟨m,nx,L,kvs,rv,v,rfl,s5,hf5,hd5,hD5,S5,?_⟩;rcases hrv with ⟨rfl,h0⟩ | ⟨v',rfl,hv',hLv,h1⟩
    ·refine .inl ⟨rfl,fun s hs=>?_⟩;have:=hstm s hs;omega
    ·exact .inr ⟨v',rfl,hv',hLv,h1⟩
  ·rintro σ H5 ⟨m,nx,L,kvs,rv,v,rfl,s5,hf5,hd5,hD5,S5,hrv⟩;rcases hrv with ⟨rfl,hsat⟩ | ⟨v',rfl,hv',hLv,h1⟩
   ·refine⟨_,rfl,rfl,_,rfl,iteT ⟨_,rfl,(by show 2<=sizeLine;decide),fun t ht=>?_⟩⟩
    have s6:=Same.new (o:=.tup [.ref f,.non]) ht;refine q t _ _ _ (s5.trans s6) (s5.free ht) Zb (.inl ⟨rfl,f,m,rfl,hfH,s6 _ _ hf5,?_,?_⟩)
    ·exact Zfn hW S5.nn (by rw[hst];exact hall m hsat)
    ·rw[hst];exact KP.low_of S5 (hall m hsat)
   ·obtain⟨Sl,hv1,hv2,hv3⟩:=S5.walk h1 hv' (by omega)
    refine⟨_,rfl,rfl,_,rfl,iteF ?_⟩;refine⟨_,rfl,_,rfl,d,v',kvs,Sl,fun y=>(nx y).getD 0,rfl,hd5,hv1,by omega,fun y hy=>⟨?_,(hv3 y hy).2⟩,fun l c H6 s6 hl0 hl6 hR hc hcl=>?_⟩
    ·rw[hD5 y,(hv3 y hy).1];rfl
    ·refine⟨(by show 2<=sizeLine;decide),fun t ht=>?_⟩
     have s7:=Same.new (o:=.tup [.non,.ref l]) ht;have s57:=s5.trans s6;refine q t _ _ _ (s57.trans s7) (s57.free ht) Zb (.inr ⟨rfl,l,c,rfl,s5.free hl0,s7 _ _ hl6,?_⟩);rw[hst];exact S5.mis hR fun y hy=>(hv3 y (hc y hy)).1
end
section
variable{P:Program}{w:World}{K:PySem.W.Frag}{mg:Str->Option Value}{base:Heap}
noncomputable def LWv(n:Nat)(rel:Nat->Nat->Bool)(v:V):Prop:=
 (∃ W:Nat,v=.int (W:Int)/\1<=W/\W<=max n 1/\(∃ m,Tells n rel W m)/\∀ W':Nat,1<=W'->W'<W->∃ c,KP.Mis n (stW rel (W':Int)) c) ∨
 (v=.non/\∀ W':Nat,1<=W'->W'<=max n 1->∃ c,KP.Mis n (stW rel (W':Int)) c)
noncomputable def spLWIn(_:PySem.W.Frag):Sp:=fun vs H Q _=>∃ (p:Addr) (n:Nat) (rel:Nat->Nat->Bool) (rows:List Addr),vs=[.ref p]/\Tab H p n rel rows/\n<=100/\∀ v H',Same H H'->LWv n rel v->Q v H'
noncomputable abbrev sLWIn:Stmt:=(top 23)
noncomputable abbrev nLWIn:List Str:=["table","width"]
noncomputable abbrev pLWIn:List Str:=["table"]
theorem scLWIn:FnScope nLWIn pLWIn (defScope sLWIn):=⟨rfl,rfl,rfl,by decide +kernel,rfl,by decide +kernel,by decide +kernel⟩
theorem Zic(T:Tx K mg):FnOk P w K mg base CX0 3 T.a_least_width_in T.f_least_width_in pLWIn (spLWIn K):=by
 have GMM:FnOk P w K mg base CX0 2 T.a_marks_or_misfit T.f_marks_or_misfit pMM (spMM K):=Zjj T;have bMM:Binds K T.f_marks_or_misfit pMM []:=bd2 T.d_marks_or_misfit.F fun _ _ _ _ _ _ _ _=>rfl;refine T.d_least_width_in.F.ok scLWIn (fun vs H Q E h=>?_) (fun cdv A outer s H vs Q E hr h=>?_)
 ·obtain⟨_,_,_,_,rfl,_⟩:=h;rfl
 ·obtain⟨p,n,rel,rows,rfl,Tb,hn,q⟩:=h;refine⟨_,(Zd (Z0 PassesOwn.never rfl (Zdl rfl T.B.range (Za Zg (Za (Zr Y2 (Zm (Ze4 rfl) (by rfl) T.B.max PyProof.Rows.boot_max (Za (Zm (lenS (K:=K) rfl) (by rfl) T.B.len PySem.boot_len (Za (pv 0) Zc)) (Za Zg Zc))) Zg) Zc))) (Zn (i:=1) scLWIn.nd rfl (Or.inl rfl))
    (Ze (Zv (Zo Zbr (Zq (ixT (K:=K) rfl) (Zi GMM hr rfl T.d_marks_or_misfit.m T.d_marks_or_misfit.F.kp bMM .nil pass0 (Za (pv 0) (Za (pv 1) Zc))) Zg (fun _ _=>rfl)) Ya (nomark _)) (Ze (Zj (pv 1))) Zl)))
   (Ze (Zj Ya))),?_⟩
  have hmx:(if (1:Int) > (n:Int) then (1:Int) else (n:Int))=((max n 1:Nat):Int):=by
   split<;>omega
  refine⟨_,rfl,p,_,rfl,.inl (SqL.of Tb.top),_,_,rfl,_,_,rfl,rfl,_,_,rfl,⟨by decide,by decide,?_,?_⟩,?_⟩
  ·rw[List.length_map,Tb.len]
   split<;>omega
  ·rw[List.length_map,Tb.len]
   split<;>omega
  ·rw[List.length_map,Tb.len];rw[hmx,show ((max n 1:Nat):Int)+1 - 1=((max n 1:Nat):Int) by omega,Int.toNat_natCast]
   refine Xb (lo:=1) (fun i σ H2=>∃ v,σ=[some (.ref p),v]/\Same H H2/\∀ W':Nat,1<=W'->W'<=i->∃ c,KP.Mis n (stW rel (W':Int)) c) ⟨none,rfl,Same.refl _,fun W' h1 h2=>by omega⟩ ?_ ?_
   ·rintro i σ H2 hi ⟨v,rfl,s2,hall⟩;rw[show (1:Int)+(i:Int)=((i+1:Nat):Int) by omega]
    refine⟨_,rfl,_,rfl,p,n,((i+1:Nat):Int),rel,rows,rfl,Tb.same s2,hn,by omega,fun t v1 v2 H3 s3 ht0 ht hv=>?_⟩
    refine⟨t,_,_,_,rfl,rfl,SqT.of ht,two1,?_⟩;rcases hv with ⟨rfl,l,m,_,_,_,hm,_⟩ | ⟨_,l,c,rfl,_,_,hc⟩
    ·refine⟨rfl,_,rfl,iteT ⟨_,rfl,q _ _ (s2.trans s3) (.inl ⟨i+1,rfl,by omega,by omega,⟨m,hm⟩,fun W' h1 h2=>hall W' h1 (by omega)⟩)⟩⟩
    ·refine⟨rfl,_,rfl,iteF ⟨_,rfl,s2.trans s3,fun W' h1 h2=>?_⟩⟩;rcases Nat.lt_or_ge W' (i+1) with g | g
     ·exact hall W' h1 (by omega)
     ·rw[show W'=i+1 by omega]
      exact⟨c,hc⟩
   ·rintro σ H2 ⟨v,rfl,s2,hall⟩;exact q _ _ s2 (.inr ⟨rfl,hall⟩)
end
section
variable{P:Program}{w:World}{K:PySem.W.Frag}{mg:Str->Option Value}{base:Heap}
noncomputable def NoRnd(n:Nat)(rel:Nat->Nat->Bool):Prop:=∀ C:List Nat,(∀ x∈C,x<n)->KP.Fwd (Rr rel) C->C=[]
noncomputable def NoFour(n:Nat)(p:Nat->Nat->Nat->Nat->Prop):Prop:=∀ a b c d,a<n->b<n->c<n->d<n->¬ p a b c d
noncomputable def RndV(H0 H:Hp)(n:Nat)(rel:Nat->Nat->Bool)(v:V):Prop:=∃ t l c,v=.ref t/\H t=some (.tup [.str "round",.ref l])/\H0 l=none/\H l=some (.lst (Iv c))/\KP.Rnd (Rr rel) c/\(∀ x∈c,x<n)/\c.length<=n
noncomputable def FourNV(H:Hp)(n:Nat)(name:Str)(p:Nat->Nat->Nat->Nat->Prop)(v:V):Prop:=∃ t t' a b c d,v=.ref t/\H t=some (.tup [.str name,.ref t'])/\Four H n t' a b c d/\p a b c d
noncomputable def ForbV(H0 H:Hp)(n:Nat)(rel:Nat->Nat->Bool)(v:V):Prop:=(v=.non/\NoRnd n rel/\NoFour n (PBes rel))∨RndV H0 H n rel v∨(NoRnd n rel/\FourNV H n "pairs" (PBes rel) v)
theorem RndV.old{H00 H0 H:Hp}{n:Nat}{rel:Nat->Nat->Bool}{v:V}(h:RndV H0 H n rel v)(s:Same H00 H0):RndV H00 H n rel v:=by
 obtain⟨t,l,c,h1,h2,h3,h4,h5⟩:=h;exact⟨t,l,c,h1,h2,s.free h3,h4,h5⟩
noncomputable def spForb(_:PySem.W.Frag):Sp:=fun vs H Q _=>∃ (p:Addr) (n:Nat) (rel:Nat->Nat->Bool) (rows:List Addr),vs=[.ref p]/\Tab H p n rel rows/\n<=1000/\∀ v H',Same H H'->ForbV H H' n rel v->Q v H'
noncomputable abbrev sForb:Stmt:=(top 17)
noncomputable abbrev nForb:List Str:=["table","walked","beside"]
noncomputable abbrev pForb:List Str:=["table"]
theorem scForb:FnScope nForb pForb (defScope sForb):=⟨rfl,rfl,rfl,by decide +kernel,rfl,by decide +kernel,by decide +kernel⟩
theorem Zdv(T:Tx K mg):FnOk P w K mg base CX0 4 T.a_what_forbids_spans T.f_what_forbids_spans pForb (spForb K):=by
 have GRoundIn:FnOk P w K mg base CX0 3 T.a_round_in T.f_round_in pRoundIn (spRoundIn K):=Zcm T.d_round_in T.d_beaten_by T.d_things_without_ends T.d_come_round T.B;have bRoundIn:Binds K T.f_round_in pRoundIn []:=bd1 T.d_round_in.F fun _ _ _ _ _ _ _=>rfl;have GTwoIn:FnOk P w K mg base CX0 2 T.a_two_pairs_in T.f_two_pairs_in pTwoIn (spTwoIn K):=Zf0 T;have bTwoIn:Binds K T.f_two_pairs_in pTwoIn []:=bd1 T.d_two_pairs_in.F fun _ _ _ _ _ _ _=>rfl;refine T.d_what_forbids_spans.F.ok scForb (fun vs H Q E h=>?_) (fun cdv A outer s H vs Q E hr h=>?_)
 ·obtain⟨_,_,_,_,rfl,_⟩:=h;rfl
 ·obtain⟨p,n,rel,rows,rfl,Tb,hn,q⟩:=h;have hr2:Room 2 _:=hr.mono (by decide)
  refine⟨_,(Zd (Zk (i:=1) scForb.nd rfl (Or.inl rfl) (Zi GRoundIn hr rfl T.d_round_in.m T.d_round_in.F.kp bRoundIn .nil pass0 (Za (pv 0) Zc)))
   (Zd (Zv (Zo Wy (pv 1) Ya (nomark _)) (Ze (Zj (Zu (Za Y9 (Za (pv 1) Zc))))) Zl)
   (Zd (Zk (i:=2) scForb.nd rfl (Or.inl rfl) (Zi GTwoIn hr2 rfl T.d_two_pairs_in.m T.d_two_pairs_in.F.kp bTwoIn .nil pass0 (Za (pv 0) Zc)))
   (Zd (Zv (Zo Wy (pv 2) Ya (nomark _)) (Ze (Zj (Zu (Za Y9 (Za (pv 2) Zc))))) Zl)
   (Ze (Zj Ya)))))),?_⟩
  refine⟨_,rfl,p,n,rel,rows,rfl,Tb,hn,fun H1 s1 hno=>?_,fun l c H1 s1 hl0 hl hR hc hcl=>?_⟩
  ·refine⟨_,rfl,rfl,_,rfl,iteF ?_⟩;refine⟨_,rfl,p,n,rel,rows,rfl,Tb.same s1,hn,FourTold.of fun v H2 s2 hv=>?_⟩;rcases hv with ⟨rfl,hno2⟩ | ⟨t,a,b,c,d,rfl,F,hp⟩
   ·exact⟨_,rfl,rfl,_,rfl,iteF (q _ _ (s1.trans s2) (.inl ⟨rfl,hno,hno2⟩))⟩
   ·refine⟨_,rfl,rfl,_,rfl,iteT ⟨_,rfl,(by show 2<=sizeLine;decide),fun t2 ht2=>?_⟩⟩
    have s3:=Same.new (o:=.tup [.str "pairs",.ref t]) ht2;exact q _ _ (s1.trans (s2.trans s3)) (.inr (.inr ⟨hno,t2,t,a,b,c,d,rfl,Zb,F.same s3,hp⟩))
  ·refine⟨_,rfl,rfl,_,rfl,iteT ⟨_,rfl,(by show 2<=sizeLine;decide),fun t2 ht2=>?_⟩⟩
   have s3:=Same.new (o:=.tup [.str "round",.ref l]) ht2;exact q _ _ (s1.trans s3) (.inr (.inl ⟨t2,l,c,rfl,Zb,hl0,s3 _ _ hl,hR,hc,hcl⟩))
end
theorem Zf6{n:Nat}{rel:Nat->Nat->Bool}(h:NoRnd n rel){a:Nat}(ha:a<n):rel a a=false:=by
 cases e:rel a a with
 | false=>rfl
 | true=>
  have:=h [a] (fun x hx=>by rw[List.mem_singleton.mp hx];exact ha) (fun x hx=>⟨a,List.mem_singleton.mpr rfl,by rw[List.mem_singleton.mp hx];exact e⟩)
  cases this
theorem Zh0{n:Nat}{rel:Nat->Nat->Bool}(h1:NoRnd n rel)(h2:NoFour n (PBes rel))(h3:NoFour n (PRow rel)):KP.Semi rel n where
 ir:=fun a ha=>Zf6 h1 ha
 bes:=fun a b c d ha hb hc hd e1 e2 e3=>by
  cases e:rel a d with
  | true=>rfl
  | false=>exact absurd ⟨e1,e2,e,e3⟩ (h2 a b c d ha hb hc hd)
 row:=fun a b c d ha hb hc hd e1 e2 e3=>by
  cases e:rel a d with
  | true=>rfl
  | false=>exact absurd ⟨e1,e2,e,e3⟩ (h3 a b c d ha hb hc hd)
 wor:=fun a b c d ha hb hc hd e1 e2 e3=>by
  cases e:rel a d with
  | true=>rfl
  | false=>exact absurd ⟨e1,e2,e3,e⟩ (h3 b c d a hb hc hd ha)
theorem Zi3{rel:Nat->Nat->Bool}{W:Int}:∀ a b w,stW rel W a b=some w->(rel a b=true/\w=W)∨(rel a b=false/\rel b a=false/\w=1 - W):=by
 intro a b w h;unfold stW at h;cases e1:rel a b with
 | true=>
  rw[if_pos e1] at h;cases h;exact .inl ⟨rfl,rfl⟩
 | false=>
  rw[if_neg (by rw[e1];decide)] at h
  cases e2:rel b a with
  | true=>rw[if_pos e2] at h;cases h
  | false=>
   rw[if_neg (by rw[e2];decide)] at h
   cases h;exact .inr ⟨rfl,rfl,rfl⟩
theorem Zan{n:Nat}{rel:Nat->Nat->Bool}{W:Int}{m:Nat->Int}(hW:1<=W)(T:Tells n rel W m):NoRnd n rel:=by
 intro C hC hF;cases C with
 | nil=>rfl
 | cons x C=>
  exfalso;obtain⟨c,hc,hcm⟩:=KP.round_fwd hF (fun z=>nomatch z);have h1:0<KP.cyc (fun x y=>m x - m y) c:=KP.cyc_pos (r:=fun a b=>Rr rel a b/\b∈c) ⟨hc.ne,hc.nd,fun i x y hx hy=>⟨hc.st i x y hx hy,List.mem_of_getElem? hy⟩,fun x y hx hy=>⟨hc.cl x y hx hy,List.mem_of_getElem? hy⟩⟩ (fun x hx y hxy=>by
   have:=(T.2 x y (hC x (hcm x hx)) (hC y (hcm y hxy.2))).mpr hxy.1;omega) (List.mem_of_getElem? (KP.head_at hc.ne)) (fun y hxy=>by
   have:=(T.2 _ y (hC _ (hcm _ (List.mem_of_getElem? (KP.head_at hc.ne)))) (hC y (hcm y hxy.2))).mpr hxy.1;omega)
  have e:(fun x y=>m x - m y)=fun x y=>(fun a =>- m a) y - (fun a =>- m a) x:=by
   funext x y;show _ = - m y - - m x;omega
  rw[e,KP.cyc_tel _ hc.ne] at h1;omega
theorem Zao{n:Nat}{rel:Nat->Nat->Bool}{W:Int}{m:Nat->Int}(T:Tells n rel W m):NoFour n (PBes rel):=by
 intro a b c d ha hb hc hd ⟨h1,h2,h3,h4⟩;have g1:=(T.2 a b ha hb).mpr h1;have g2:=(T.2 c d hc hd).mpr h2;have g3:=mt (T.2 a d ha hd).mp (by rw[h3];decide)
 have g4:=mt (T.2 c b hc hb).mp (by rw[h4];decide)
 omega
theorem Zam{n:Nat}{rel:Nat->Nat->Bool}{W:Int}{m:Nat->Int}(T:Tells n rel W m):NoFour n (PRow rel):=by
 intro a b c d ha hb hc hd ⟨h1,h2,h3,h4⟩;have g1:=(T.2 a b ha hb).mpr h1;have g2:=(T.2 b c hb hc).mpr h2;have g3:=mt (T.2 a d ha hd).mp (by rw[h3];decide)
 have g4:=mt (T.2 d c hd hc).mp (by rw[h4];decide)
 omega
theorem Zhf{n:Nat}{rel:Nat->Nat->Bool}{W:Int}{m m':Nat->Int}(T':Tells n rel W m'):∀ a,KP.Low n (stW rel W) m a->a<n->m a<=m' a:=by
 intro a h
 induction h with
 | zero h=>
  intro _;rw[h];exact T'.1 _
 | @step a b w hb _ hs he ih=>
  intro ha;have g1:=T'.sat a b w ha hb hs;have g2:=ih hb;omega
theorem Zgb{n:Nat}{rel:Nat->Nat->Bool}{W:Int}{m m':Nat->Int}(T:Tells n rel W m)(L:∀ a,a<n->KP.Low n (stW rel W) m a)(T':Tells n rel W m')(L':∀ a,a<n->KP.Low n (stW rel W) m' a):Fnd n m=Fnd n m':=by
 unfold Fnd;refine List.map_congr_left fun a ha=>?_;have ha:=List.mem_range.mp ha;have h1:=Zhf T' a (L a ha) ha;have h2:=Zhf T a (L' a ha) ha;rw[show m a=m' a by omega]
section
variable{P:Program}{w:World}{K:PySem.W.Frag}{mg:Str->Option Value}{base:Heap}
noncomputable def MkV(H0 H:Hp)(n:Nat)(rel:Nat->Nat->Bool)(v:V):Prop:=∃ t l m,∃ W:Nat,v=.ref t/\H t=some (.tup [.str "marks",.int (W:Int),.ref l])/\H0 l=none/\H l=some (.lst (Fnd n m))/\1<=W/\W<=max n 1/\Tells n rel W m/\(∀ a,a<n->KP.Low n (stW rel W) m a)/\∀ W':Nat,1<=W'->W'<W->∃ c,KP.Mis n (stW rel (W':Int)) c
noncomputable def MarksV(H0 H:Hp)(n:Nat)(rel:Nat->Nat->Bool)(v:V):Prop:=MkV H0 H n rel v∨RndV H0 H n rel v∨(NoRnd n rel/\FourNV H n "pairs" (PBes rel) v)∨(NoRnd n rel/\NoFour n (PBes rel)/\FourNV H n "row" (PRow rel) v)
noncomputable def spMarks(K:PySem.W.Frag):Sp:=fun vs H Q _=>∃ (l:Addr) (n:Nat) (ps:List (Int×Int)),vs=[.int n,.ref l]/\Prs K H l ps/\In n ps/\n<=100/\∀ v H',Same H H'->MarksV H H' n (better ps) v->Q v H'
noncomputable abbrev sMarks:Stmt:=(top 25)
noncomputable abbrev nMarks:List Str:=["many","pairs","table","forbidding","row","width"]
noncomputable abbrev pMarks:List Str:=["many","pairs"]
theorem scMarks:FnScope nMarks pMarks (defScope sMarks):=⟨rfl,rfl,rfl,by decide +kernel,rfl,by decide +kernel,by decide +kernel⟩
theorem Zbv(T:Tx K mg):FnOk P w K mg base CX0 5 T.a_marks T.f_marks pMarks (spMarks K):=by
 have GTable:FnOk P w K mg base CX0 2 T.a_table_of T.f_table_of pTable (spTable K):=Zbt T.d_table_of T.d_refuse_strangers T.B;have bTable:Binds K T.f_table_of pTable []:=bd2 T.d_table_of.F fun _ _ _ _ _ _ _ _=>rfl;have GForb:FnOk P w K mg base CX0 4 T.a_what_forbids_spans T.f_what_forbids_spans pForb (spForb K):=Zdv T;have bForb:Binds K T.f_what_forbids_spans pForb []:=bd1 T.d_what_forbids_spans.F fun _ _ _ _ _ _ _=>rfl;have GRowIn:FnOk P w K mg base CX0 2 T.a_three_row_in T.f_three_row_in pRowIn (spRowIn K):=Zf2 T;have bRowIn:Binds K T.f_three_row_in pRowIn []:=bd1 T.d_three_row_in.F fun _ _ _ _ _ _ _=>rfl;have GLWIn:FnOk P w K mg base CX0 3 T.a_least_width_in T.f_least_width_in pLWIn (spLWIn K):=Zic T;have bLWIn:Binds K T.f_least_width_in pLWIn []:=bd1 T.d_least_width_in.F fun _ _ _ _ _ _ _=>rfl;have GMM:FnOk P w K mg base CX0 2 T.a_marks_or_misfit T.f_marks_or_misfit pMM (spMM K):=Zjj T;have bMM:Binds K T.f_marks_or_misfit pMM []:=bd2 T.d_marks_or_misfit.F fun _ _ _ _ _ _ _ _=>rfl;refine T.d_marks.F.ok scMarks (fun vs H Q E h=>?_) (fun cdv A outer s H vs Q E hr h=>?_)
 ·obtain⟨_,_,_,rfl,_⟩:=h;rfl
 ·obtain⟨l,n,ps,rfl,hP,hin,hn,q⟩:=h;have hr2:Room 2 _:=hr.mono (by decide)
  have hr3:Room 3 _:=hr.mono (by decide)
  refine⟨_,(Zd (Zk (i:=2) scMarks.nd rfl (Or.inl rfl) (Zi GTable hr2 rfl T.d_table_of.m T.d_table_of.F.kp bTable .nil pass0 (Za (pv 0) (Za (pv 1) Zc))))
   (Zd (Zk (i:=3) scMarks.nd rfl (Or.inl rfl) (Zi GForb hr rfl T.d_what_forbids_spans.m T.d_what_forbids_spans.F.kp bForb .nil pass0 (Za (pv 2) Zc)))
   (Zd (Zv (Zo Wy (pv 3) Ya (nomark _)) (Ze (Zj (pv 3))) Zl)
   (Zd (Zk (i:=4) scMarks.nd rfl (Or.inl rfl) (Zi GRowIn hr2 rfl T.d_three_row_in.m T.d_three_row_in.F.kp bRowIn .nil pass0 (Za (pv 2) Zc)))
   (Zd (Zv (Zo Wy (pv 4) Ya (nomark _)) (Ze (Zj (Zu (Za Y9 (Za (pv 4) Zc))))) Zl)
   (Zd (Zk (i:=5) scMarks.nd rfl (Or.inl rfl) (Zi GLWIn hr3 rfl T.d_least_width_in.m T.d_least_width_in.F.kp bLWIn .nil pass0 (Za (pv 2) Zc)))
   (Ze (Zj (Zu (Za Y9 (Za (pv 5) (Za (Zq (ixT (K:=K) rfl) (Zi GMM hr2 rfl T.d_marks_or_misfit.m T.d_marks_or_misfit.F.kp bMM .nil pass0 (Za (pv 2) (Za (pv 5) Zc))) Zg (fun _ _=>rfl)) Zc)))))))))))),?_⟩
  refine⟨_,rfl,_,rfl,l,n,ps,rfl,hP,hin,by omega,fun p rows H1 s1 Tb=>?_⟩
  refine⟨_,rfl,p,n,better ps,rows,rfl,Tb,by omega,fun v H2 s2 hv=>?_⟩
  have s12:=s1.trans s2;rcases hv with ⟨rfl,hno,hnb⟩ | h | ⟨hno,h⟩
  ·refine⟨_,rfl,rfl,_,rfl,iteF ?_⟩;refine⟨_,rfl,p,n,better ps,rows,rfl,Tb.same s2,by omega,FourTold.of fun v H3 s3 hv=>?_⟩
   have s13:=s12.trans s3;rcases hv with ⟨rfl,hnr⟩ | ⟨t,a,b,c,d,rfl,F,hp⟩
   ·refine⟨_,rfl,rfl,_,rfl,iteF ?_⟩;refine⟨_,rfl,p,n,better ps,rows,rfl,(Tb.same s2).same s3,hn,fun v H4 s4 hv=>?_⟩;rcases hv with ⟨W,rfl,hW1,hW2,⟨m0,hm0⟩,hbelow⟩ | ⟨rfl,hall⟩
    ·refine⟨_,rfl,_,rfl,_,rfl,p,n,W,better ps,rows,rfl,((Tb.same s2).same s3).same s4,hn,by omega,fun t v1 v2 H5 s5 ht0 ht hv=>?_⟩
     have s15:=s13.trans (s4.trans s5);rcases hv with ⟨rfl,l2,m,rfl,hl20,hl2,hm,hlow⟩ | ⟨_,l2,c,_,_,_,hc⟩
     ·refine⟨t,_,_,_,rfl,rfl,SqT.of ht,two0,(by show 3<=sizeLine;decide),fun t2 ht2=>?_⟩
      have s6:=Same.new (o:=.tup [.str "marks",.int (W:Int),.ref l2]) ht2;exact q _ _ (s15.trans s6) (.inl ⟨t2,l2,m,W,rfl,Zb,(s13.trans s4).free hl20,s6 _ _ hl2,hW1,hW2,hm,hlow,hbelow⟩)
     ·exact (KP.mis_no hc hm0.sat).elim
    ·exfalso;obtain⟨c,hc⟩:=hall (max n 1) (by omega) (Nat.le_refl _)
     exact (Zh0 hno hnb hnr).no_mis Zi3 (by omega) (by omega) hc
   ·refine⟨_,rfl,rfl,_,rfl,iteT ⟨_,rfl,(by show 2<=sizeLine;decide),fun t2 ht2=>?_⟩⟩
    have s4:=Same.new (o:=.tup [.str "row",.ref t]) ht2;exact q _ _ (s13.trans s4) (.inr (.inr (.inr ⟨hno,hnb,t2,t,a,b,c,d,rfl,Zb,F.same s4,hp⟩)))
  ·obtain⟨t,l2,c,rfl,h2⟩:=h;exact⟨_,rfl,rfl,_,rfl,iteT ⟨_,rfl,q _ _ s12 (.inr (.inl (RndV.old ⟨t,l2,c,rfl,h2⟩ s1)))⟩⟩
  ·obtain⟨t,t',a,b,c,d,rfl,h2⟩:=h;exact⟨_,rfl,rfl,_,rfl,iteT ⟨_,rfl,q _ _ s12 (.inr (.inr (.inl ⟨hno,t,t',a,b,c,d,rfl,h2⟩)))⟩⟩
end
section
variable{X:Cx}{K:PySem.W.Frag}
theorem pgTupK{es:List Expr}{k n:Nat}{t:TGs}{pos:Pos}(hK:X.K=K)(hc:X.calm=true)(h:PGs X es t)(hn:(assignEach es X.env).length=n:=by rfl)(hst:(assignEach es X.env).findIdx? (·.1)=none:=by rfl):PG X (.Tuple es k pos) (gTup K n t):=hK▸Zg2 hc h hn hst
theorem peBmK{T name:String}{r:V->List V->Hp->VK->Prop}{o e:Expr}{es:List Expr}{apos cpos:Pos}{to:TE}{t:TA}(hK:X.K=K)(h:PE X (.Call (.Attribute o (Str.ofString name) apos) (e::es) [] cpos) (tBM X.K T r to t)):PE X (.Call (.Attribute o (Str.ofString name) apos) (e::es) [] cpos) (tBM K T r to t):=hK▸h
theorem mtCountK(hK:X.K=K):MtM X "list.count" (rCount K):=hK▸Zf8
theorem mtIndexK(hK:X.K=K):MtM X "list.index" (rIndex K):=hK▸Zbx
end
section
variable{P:Program}{w:World}{K:PySem.W.Frag}{mg:Str->Option Value}{base:Heap}
noncomputable def Spn(H:Hp)(r:Addr)(lh:Nat×Nat):Prop:=H r=some (.tup [.int (lh.1:Int),.int (lh.2:Int)])
noncomputable def SpansAt(H:Hp)(l:Addr)(n:Nat)(lo hi:Nat->Nat):Prop:=∃ rs:List Addr,H l=some (.lst (rs.map V.ref))/\Paired (Spn H) rs ((List.range n).map fun a=>(lo a,hi a))
noncomputable def spSpIn(_:PySem.W.Frag):Sp:=fun vs H Q _=>∃ (p:Addr) (n:Nat) (rel:Nat->Nat->Bool) (rows:List Addr),vs=[.ref p]/\Tab H p n rel rows/\n<=60/\(∀ a,a<n->rel a a=false) /\
 ∀ l ks hi H',Same H H'->H l=none->SpansAt H' l n (KP.low n rel ks) hi->KP.Sizes n rel ks->KP.Spans n rel ks hi->Q (.ref l) H'
noncomputable abbrev sSpIn:Stmt:=(top 16)
noncomputable abbrev nSpIn:List Str:=["table","sizes","steps","lows","highs","thing"]
noncomputable abbrev pSpIn:List Str:=["table"]
theorem scSpIn:FnScope nSpIn pSpIn (defScope sSpIn):=⟨rfl,rfl,rfl,by decide +kernel,rfl,by decide +kernel,by decide +kernel⟩
theorem coSpIn1:CompOk (mkSc [(".0",.local),("row",.local)]) ["row"] (defScope sSpIn) nSpIn:=⟨rfl,by decide +kernel,by decide +kernel,by decide +kernel,by decide +kernel,by decide +kernel⟩
theorem cnSpIn1:(blkN nSpIn ["row"]).Nodup:=by decide +kernel
theorem coSpIn2:CompOk (mkSc [(".0",.local),("size",.local),("steps",.free)]) ["size"] (defScope sSpIn) nSpIn:=⟨rfl,by decide +kernel,by decide +kernel,by decide +kernel,by decide +kernel,by decide +kernel⟩
theorem cnSpIn2:(blkN nSpIn ["size"]).Nodup:=by decide +kernel
theorem coSpIn3:CompOk (mkSc [(".0",.local),("low",.local),("row",.local),("thing",.free)]) ["low","row"] (defScope sSpIn) nSpIn:=⟨rfl,by decide +kernel,by decide +kernel,by decide +kernel,by decide +kernel,by decide +kernel⟩
theorem cnSpIn3:(blkN nSpIn ["low","row"]).Nodup:=by decide +kernel
theorem Zdz{n i:Nat}{f:Nat->Nat}{y:V}(h:((List.range n).map fun a=>V.int (f a:Int))[i]? = some y):i<n/\y=.int (f i:Int):=by
 rw[List.getElem?_map] at h;cases e:(List.range n)[i]? with
 | none=>rw[e] at h;cases h
 | some r=>
  rw[e] at h;obtain⟨h1,h2⟩:=List.getElem?_eq_some_iff.mp e;rw[List.getElem_range] at h2;rw[List.length_range] at h1;subst h2;exact⟨h1,(Option.some.inj h).symm⟩
theorem Zis{n:Nat}{f:Nat->Nat}:((List.range n).map fun a=>V.int (f a:Int))=((List.range n).map fun a=>(f a:Int)).map V.int:=by
 rw[List.map_map];rfl
noncomputable def lowsNot(n:Nat)(rel:Nat->Nat->Bool)(lo:Nat->Nat)(t i:Nat):List Nat:=((List.range i).filter fun j=>!rel j t).map lo
theorem Je(n:Nat)(rel:Nat->Nat->Bool)(lo:Nat->Nat)(t i:Nat):lowsNot n rel lo t (i+1)=lowsNot n rel lo t i++(if rel i t=false then [lo i] else []):=by
 unfold lowsNot;rw[List.range_succ,List.filter_append,List.map_append];cases e:rel i t<;>simp[e]
theorem Zcx{n:Nat}{f g:Nat->Nat}:((List.range n).map fun a=>V.int (f a:Int)).zip ((List.range n).map fun a=>V.int (g a:Int))=((List.range n).map fun a=>(V.int (f a:Int),V.int (g a:Int))):=by
 rw[List.zip_map,List.zip_eq_zipWith];apply List.ext_getElem?;intro i;rw[List.getElem?_map,List.getElem?_map,List.getElem?_zipWith];cases (List.range n)[i]?<;>rfl
theorem Vu{α β γ δ:Type}{F:α->β->Prop}{G:α->γ->Prop}{f:δ->β}{g:δ->γ}(h:∀ a x,F a (f x)->G a (g x)):∀ {as:List α} {l:List δ},Paired F as (l.map f)->Paired G as (l.map g)
 | [],[],_=>.nil
 | [],_::_,z=>nomatch z
 | _::_,[],z=>nomatch z
 | a::as,x::l,.cons r t=>.cons (h a x r) (Vu h t)
theorem Zia(T:Tx K mg):FnOk P w K mg base CX0 1 T.a_spans_in T.f_spans_in pSpIn (spSpIn K):=by
 refine T.d_spans_in.F.ok scSpIn (fun vs H Q E h=>?_) (fun cdv A outer s H vs Q E hr h=>?_)
 ·obtain⟨_,_,_,_,rfl,_⟩:=h;rfl
 ·obtain⟨p,n,rel,rows,rfl,Tb,hn,hir,q⟩:=h;have hz:=sizeLine_eq;have hu8:=Nat.lt_of_le_of_lt (Nat.add_le_add_left (by decide:8<=64) _) hr.units
  refine⟨_,(Zd (Ul (i:=1) scSpIn.nd rfl rfl rfl coSpIn1 (piL (K:=K) rfl (pv 0)) (fun _ _ _ _ _=>Zn (i:=6) cnSpIn1 rfl (Or.inl rfl) (Or.inr rfl)) (fun _ _ _ _ _=>Um)
    (fun _ _ _ _ _=>peBmK (K:=K) rfl (peM (K:=K) rfl PySem.F.plainAttrs_list PySem.F.slot_list_count PySem.F.type_list_count (mtCountK (K:=K) rfl) (pv 6) (Za Ye Zc))) (by rfl))
   (Zd (Xk (Zk (i:=2) scSpIn.nd rfl (Or.inr rfl) (Zm (Jv rfl) (by rfl) T.B.sorted PyProof.Rows.boot_sorted (Za (Yg (Zcv rfl hu8) (by rfl) T.B.set PyProof.Rows.boot_set (Za (pv 1) Zc)) Zc))))
   (Zd (Ul (i:=3) scSpIn.nd rfl rfl rfl coSpIn2 (piL (K:=K) rfl (pv 1)) (fun _ _ _ _ _=>Zn (i:=6) cnSpIn2 rfl (Or.inl rfl) (Or.inr rfl)) (fun _ _ _ _ _=>Um)
    (fun _ _ _ _ _=>peBmK (K:=K) rfl (peM (K:=K) rfl PySem.F.plainAttrs_list PySem.F.slot_list_index PySem.F.type_list_index (mtIndexK (K:=K) rfl) (pv 2) (Za (pv 6) Zc))) (by rfl))
   (Zd (Zk (i:=4) scSpIn.nd rfl (Or.inl rfl) (Z1 Zc))
   (Zd (Z0 PassesOwn.never rfl (Zx rfl T.B.range (Za (Zm (lenS (K:=K) rfl) (by rfl) T.B.len PySem.boot_len (Za (pv 0) Zc)) Zc)) (Zn (i:=5) scSpIn.nd rfl (Or.inr rfl))
    (Ze (Zz (peM (K:=K) rfl PySem.F.plainAttrs_list PySem.F.slot_list_append PySem.F.type_list_append Yw (pv 4) (Za (Zm (maxS (K:=K) rfl rfl) (by rfl) T.B.max PyProof.Rows.boot_max (Za
      (Wx rfl coSpIn3 (Zi8 rfl T.B.zip (Za (pv 3) (Za (pv 0) Zc))) (fun _ _ _ _ _=>pgTupK (K:=K) (n:=2) rfl rfl (Z5 (Zn (i:=6) cnSpIn3 rfl (Or.inl rfl) (Or.inr rfl)) (Z5 (Zn (i:=7) cnSpIn3 rfl (Or.inl rfl) (Or.inr rfl)) Wv)))
       (fun _ _ _ _ _=>Wu (Yk (Z9 (Zq (ixL (K:=K) rfl) (pv 7) (pv 5) (fun _ _=>rfl))))) (fun _ _ _ _ _=>pv 6)) Zc)) Zc)))))
   (Ze (Zj (Zcl rfl rfl T.B.list rfl T.B.zip (Za (pv 3) (Za (pv 4) Zc)))))))))),?_⟩
  have hz0:∀ {m:Nat} {f:Nat->V},((List.range m).map f).length=m:=fun {m f}=>by rw[List.length_map,List.length_range]
  refine⟨_,rfl,p,rfl,⟨_,SqL.of Tb.top⟩,Xy (k:=1) (K:=K) (a:=p) (xs:=rows.map V.ref) (fun i ys H2=>H2=H/\ys=(List.range i).map fun a=>V.int (KP.sz n rel a:Int)) ⟨rfl,rfl⟩ (by rw[List.length_map,Tb.len];omega) (fun i ys H2 ⟨e1,e2⟩=>⟨by rw[e2,hz0];exact Nat.le_refl _,by rw[e1];exact SqL.of Tb.top⟩) ?_ ?_⟩
  ·rintro i y ys H2 hi ⟨rfl,rfl⟩;obtain⟨r,hr,rfl⟩:=Y6 hi;have hrow:=Tb.row i r hr;refine⟨rfl,_,rfl,.inl ⟨rfl,_,SqL.of hrow⟩,r,(List.range n).map (rel i),rfl,rfl,by rw[List.map_map];exact SqL.of hrow,rfl,?_⟩
   rw[Wo,List.countP_map];rfl
  ·rintro ys H2 s1 ⟨rfl,rfl⟩ hs1;rw[List.length_map,Tb.len];have t1:=Same.new (o:=.lst ((List.range n).map fun a=>V.int (KP.sz n rel a:Int))) hs1;have hs1':=Zb (H:=H2) (a:=s1) (o:=.lst ((List.range n).map fun a=>V.int (KP.sz n rel a:Int)));revert t1 hs1';generalize upd H2 s1 (.lst ((List.range n).map fun a=>V.int (KP.sz n rel a:Int)))=H3;intro t1 hs1';refine⟨fun σ H'=>∃ D ks,σ=[some (.ref p),some (.ref s1),some (.ref D),none,none,none]/\Same H3 H'/\H' D=some (.lst (ks.map V.int))/\KP.Sizes n rel ks,?_,?_⟩
   ·refine⟨_,rfl,s1,(List.range n).map (fun a=>(KP.sz n rel a:Int)),rfl,SqL.of (by rw[← Zis];exact hs1'),by rw[List.length_map,List.length_range];omega,fun S hS=>?_⟩
    refine⟨S,_,rfl,Zb,by rw[List.length_map,List.length_range];omega,fun D ks hD hmem hrise hlen=>?_⟩
    refine⟨D,ks,rfl,(Same.new hS).trans (Same.new hD),Zb,fun k=>?_,hrise⟩;rw[hmem k,List.mem_map];constructor
    ·rintro⟨a,ha,e⟩;exact⟨a,List.mem_range.mp ha,e.symm⟩
    ·rintro⟨a,ha,e⟩;exact⟨a,List.mem_range.mpr ha,e.symm⟩
   rintro σ H4 ⟨D,ks,rfl,t2,hD',SZ⟩;have t13:=t1.trans t2;have hs3:=t2 _ _ hs1';refine⟨_,rfl,s1,rfl,⟨_,SqL.of hs3⟩,Xy (k:=1) (K:=K) (a:=s1) (xs:=(List.range n).map fun a=>V.int (KP.sz n rel a:Int)) (fun i ys H5=>H5=H4/\ys=(List.range i).map fun a=>V.int (KP.low n rel ks a:Int)) ⟨rfl,rfl⟩ (by rw[hz0];omega) (fun i ys H5 ⟨e1,e2⟩=>⟨by rw[e2,hz0];exact Nat.le_refl _,by rw[e1];exact SqL.of hs3⟩) ?_ ?_⟩
   ·rintro i y ys H5 hi ⟨rfl,rfl⟩;obtain⟨hin,rfl⟩:=Zdz hi;refine⟨rfl,_,rfl,.inl ⟨rfl,_,SqL.of hD'⟩,_,rfl,D,ks,_,rfl,rfl,SqL.of hD',(SZ.mem _).mpr ⟨i,hin,rfl⟩,rfl,?_⟩;rw[Wo];rfl
   ·rintro ys H5 lw ⟨rfl,rfl⟩ hlw;rw[hz0];have t3:=Same.new (o:=.lst ((List.range n).map fun a=>V.int (KP.low n rel ks a:Int))) hlw;have hlw':=Zb (H:=H5) (a:=lw) (o:=.lst ((List.range n).map fun a=>V.int (KP.low n rel ks a:Int)));have t15:=t13.trans t3;revert hlw' t15;clear t3;generalize upd H5 lw (.lst ((List.range n).map fun a=>V.int (KP.low n rel ks a:Int)))=H6;intro hlw' t15;refine⟨Nat.zero_le _,fun hl hhl=>?_⟩;have t4:=Same.new (o:=.lst []) hhl;have hlH:=t15.free hhl;refine⟨_,rfl,p,_,rfl,.inl (SqL.of (t4 _ _ (t15 _ _ Tb.top))),_,rfl,by omega,by rw[List.length_map,Tb.len];omega,?_⟩
    rw[List.length_map,Tb.len,Int.toNat_natCast];refine Yx (fun i σ H7=>∃ (hi:Nat->Nat) (v:Option V),σ=[some (.ref p),some (.ref s1),some (.ref D),some (.ref lw),some (.ref hl),v]/\Same H6 H7/\H7 hl=some (.lst ((List.range i).map fun b=>V.int (hi b:Int))) /\
      (∀ b,b<i->∃ j,j<n/\rel j b=false/\hi b=KP.low n rel ks j)/\∀ b,b<i->∀ j,j<n->rel j b=false->KP.low n rel ks j<=hi b)
     ⟨fun _=>0,none,rfl,t4,Zb,fun b hb=>by omega,fun b hb=>by omega⟩ ?_ ?_
    ·rintro i σ H7 hi ⟨hif,v,rfl,t7,hhl7,hat,htop⟩;have hlw7:=t7 _ _ hlw';have T7:=Tb.same (t15.trans t7);refine⟨_,rfl,.inl ⟨rfl,_,SqL.of hhl7⟩,_,rfl,_,rfl,lw,p,_,_,rfl,SqL.of hlw7,SqL.of T7.top,Zgq (k:=2) (K:=K) (fun j zs H8=>Same H7 H8/\zs=Iv (lowsNot n rel (KP.low n rel ks) i j)) ⟨Same.refl _,rfl⟩ (by rw[hz0];omega) (fun j zs H8 ⟨e1,e2⟩=>⟨?_,e1.seq (SqL.of hlw7),e1.seq (SqL.of T7.top)⟩) ?_ ?_⟩
     ·rw[e2,Yi];unfold lowsNot;rw[List.length_map];exact Nat.le_trans (List.length_filter_le _ _) (by rw[List.length_range];exact Nat.le_refl _)
     ·rintro j x y zs H8 TT hx hy ⟨t8,rfl⟩ hTT;obtain⟨hjn,rfl⟩:=Zdz hx;obtain⟨r,hr,rfl⟩:=Y6 hy;have t9:=t8.trans (Same.new (o:=.tup [.int (KP.low n rel ks j:Int),.ref r]) hTT);have hrow:=t9 _ _ (T7.row j r hr);have e3:=Zbe (n:=n) (f:=rel j) (b:=(i:Int)) (by omega) (by omega)
      rw[Int.toNat_natCast] at e3;refine⟨TT,_,rfl,SqT.of Zb,rfl,_,_,rfl,_,_,rfl,rfl,rfl,_,rfl,_,rfl,r,_,_,_,rfl,rfl,SqL.of hrow,e3,_,rfl,?_⟩;rw[Je];cases e:rel j i with
      | true=>exact iteF ⟨t9,by simp[Iv]⟩
      | false=>
       refine iteT ⟨_,rfl,t9,?_⟩;rw[if_pos rfl,Jh];rfl
     ·rintro zs H8 l ⟨t8,rfl⟩ hl0;have hmin:min ((List.range n).map fun a=>V.int (KP.low n rel ks a:Int)).length (rows.map V.ref).length=n:=by rw[hz0,List.length_map,Tb.len,Nat.min_self]
      rw[hmin];have t9:=t8.trans (Same.new (o:=.lst (Iv (lowsNot n rel (KP.low n rel ks) i n))) hl0);refine⟨l,(lowsNot n rel (KP.low n rel ks) i n).map (fun x:Nat=>(x:Int)),rfl,SqL.of (by rw[← Zed];exact Zb),?_,fun M hM hmax=>?_⟩
      ·intro z;have:KP.low n rel ks i∈lowsNot n rel (KP.low n rel ks) i n:=by
        unfold lowsNot;exact List.mem_map.mpr ⟨i,List.mem_filter.mpr ⟨List.mem_range.mpr hi,by rw[hir i hi];rfl⟩,rfl⟩
       have z2:=List.map_eq_nil_iff.mp z;rw[z2] at this;cases this
      ·obtain⟨m,hm,rfl⟩:=List.mem_map.mp hM;have hmem':∀ x,x∈lowsNot n rel (KP.low n rel ks) i n↔∃ j,j<n/\rel j i=false/\x=KP.low n rel ks j:=fun x=>by
        unfold lowsNot;rw[List.mem_map];constructor
        ·rintro⟨j,hj,e⟩;obtain⟨h1,h2⟩:=List.mem_filter.mp hj;exact⟨j,List.mem_range.mp h1,by simpa using h2,e.symm⟩
        ·rintro⟨j,h1,h2,e⟩;exact⟨j,List.mem_filter.mpr ⟨List.mem_range.mpr h1,by rw[h2];rfl⟩,e.symm⟩
       refine⟨hl,_,_,rfl,rfl,t9 _ _ hhl7,by rw[hz0];omega,KP.set1 hif i m,_,rfl,(t7.trans t9).put hhl,?_,fun b hb=>?_,fun b hb j hj hr=>?_⟩
       ·rw[Zb,Wo,KP.set1_same];have:((List.range i).map fun b=>V.int ((KP.set1 hif i m b:Nat):Int))=(List.range i).map fun b=>V.int (hif b:Int):=List.map_congr_left fun b hb=>by
         rw[KP.set1_ne (Nat.ne_of_lt (List.mem_range.mp hb))]
        rw[this]
       ·rcases Nat.lt_or_ge b i with g | g
        ·rw[KP.set1_ne (Nat.ne_of_lt g)];exact hat b g
        ·rw[show b=i by omega,KP.set1_same]
         exact (hmem' m).mp hm
       ·rcases Nat.lt_or_ge b i with g | g
        ·rw[KP.set1_ne (Nat.ne_of_lt g)];exact htop b g j hj hr
        ·have eb:b=i:=by omega
         subst eb;rw[KP.set1_same];have:=hmax _ (List.mem_map.mpr ⟨_,(hmem' _).mpr ⟨j,hj,hr,rfl⟩,rfl⟩);omega
    ·rintro σ H7 ⟨hif,v,rfl,t7,hhl7,hat,htop⟩;refine⟨_,rfl,_,rfl,lw,hl,_,_,rfl,SqL.of (t7 _ _ hlw'),SqL.of hhl7,fun l rs H8 t8 hl0 hl8 hP=>?_⟩;rw[Zcx] at hP;refine q l ks hif H8 (t15.trans (t7.trans t8)) ((t15.trans t7).free hl0) ⟨rs,hl8,Vu (F:=fun (r:Addr) (xy:V×V)=>H8 r=some (.tup [xy.1,xy.2])) (G:=Spn H8) (f:=fun a=>(V.int (KP.low n rel ks a:Int),V.int (hif a:Int))) (g:=fun a=>(KP.low n rel ks a,hif a)) (fun a x h=>h) hP⟩ SZ ⟨hat,htop⟩
end
section
variable{P:Program}{w:World}{K:PySem.W.Frag}{mg:Str->Option Value}{base:Heap}
theorem noRnd_ir'{n:Nat}{rel:Nat->Nat->Bool}(h:NoRnd n rel){a:Nat}(ha:a<n):rel a a=false:=by
 cases e:rel a a with
 | false=>rfl
 | true=>
  have:=h [a] (fun x hx=>by rw[List.mem_singleton.mp hx];exact ha) (fun x hx=>⟨a,List.mem_singleton.mpr rfl,by rw[List.mem_singleton.mp hx];exact e⟩)
  cases this
theorem SpansAt.same{H H':Hp}{l:Addr}{n:Nat}{lo hi:Nat->Nat}(h:SpansAt H l n lo hi)(s:Same H H'):SpansAt H' l n lo hi:=by
 obtain⟨rs,h1,h2⟩:=h;exact⟨rs,s _ _ h1,Paired.mapP h2 fun a b q=>s _ _ q⟩
noncomputable def SpV(H0 H:Hp)(n:Nat)(rel:Nat->Nat->Bool)(v:V):Prop:=∃ t l ks hi,v=.ref t/\H t=some (.tup [.str "spans",.ref l])/\H0 l=none/\SpansAt H l n (KP.low n rel ks) hi/\KP.Sizes n rel ks/\KP.Spans n rel ks hi/\NoRnd n rel/\NoFour n (PBes rel)
noncomputable def SpansV(H0 H:Hp)(n:Nat)(rel:Nat->Nat->Bool)(v:V):Prop:=SpV H0 H n rel v∨RndV H0 H n rel v∨(NoRnd n rel/\FourNV H n "pairs" (PBes rel) v)
noncomputable def spSpans(K:PySem.W.Frag):Sp:=fun vs H Q _=>∃ (l:Addr) (n:Nat) (ps:List (Int×Int)),vs=[.int n,.ref l]/\Prs K H l ps/\In n ps/\n<=60/\∀ v H',Same H H'->SpansV H H' n (better ps) v->Q v H'
noncomputable abbrev sSpans:Stmt:=(top 18)
noncomputable abbrev nSpans:List Str:=["many","pairs","table","forbidding"]
noncomputable abbrev pSpans:List Str:=["many","pairs"]
theorem scSpans:FnScope nSpans pSpans (defScope sSpans):=⟨rfl,rfl,rfl,by decide +kernel,rfl,by decide +kernel,by decide +kernel⟩
theorem Zbu(T:Tx K mg):FnOk P w K mg base CX0 5 T.a_spans T.f_spans pSpans (spSpans K):=by
 have GTable:FnOk P w K mg base CX0 2 T.a_table_of T.f_table_of pTable (spTable K):=Zbt T.d_table_of T.d_refuse_strangers T.B;have bTable:Binds K T.f_table_of pTable []:=bd2 T.d_table_of.F fun _ _ _ _ _ _ _ _=>rfl;have GForb:FnOk P w K mg base CX0 4 T.a_what_forbids_spans T.f_what_forbids_spans pForb (spForb K):=Zdv T;have bForb:Binds K T.f_what_forbids_spans pForb []:=bd1 T.d_what_forbids_spans.F fun _ _ _ _ _ _ _=>rfl;have GSpIn:FnOk P w K mg base CX0 1 T.a_spans_in T.f_spans_in pSpIn (spSpIn K):=Zia T;have bSpIn:Binds K T.f_spans_in pSpIn []:=bd1 T.d_spans_in.F fun _ _ _ _ _ _ _=>rfl;refine T.d_spans.F.ok scSpans (fun vs H Q E h=>?_) (fun cdv A outer s H vs Q E hr h=>?_)
 ·obtain⟨_,_,_,rfl,_⟩:=h;rfl
 ·obtain⟨l,n,ps,rfl,hP,hin,hn,q⟩:=h;have hr1:Room 1 _:=hr.mono (by decide)
  have hr2:Room 2 _:=hr.mono (by decide)
  refine⟨_,(Zd (Zk (i:=2) scSpans.nd rfl (Or.inl rfl) (Zi GTable hr2 rfl T.d_table_of.m T.d_table_of.F.kp bTable .nil pass0 (Za (pv 0) (Za (pv 1) Zc))))
   (Zd (Zk (i:=3) scSpans.nd rfl (Or.inl rfl) (Zi GForb hr rfl T.d_what_forbids_spans.m T.d_what_forbids_spans.F.kp bForb .nil pass0 (Za (pv 2) Zc)))
   (Zd (Zv (Zo Wy (pv 3) Ya (nomark _)) (Ze (Zj (pv 3))) Zl)
   (Ze (Zj (Zu (Za Y9 (Za (Zi GSpIn hr1 rfl T.d_spans_in.m T.d_spans_in.F.kp bSpIn .nil pass0 (Za (pv 2) Zc)) Zc)))))))),?_⟩
  refine⟨_,rfl,_,rfl,l,n,ps,rfl,hP,hin,by omega,fun p rows H1 s1 Tb=>?_⟩
  refine⟨_,rfl,p,n,better ps,rows,rfl,Tb,by omega,fun v H2 s2 hv=>?_⟩
  have s12:=s1.trans s2;rcases hv with ⟨rfl,hno,hnb⟩ | h | ⟨hno,h⟩
  ·refine⟨_,rfl,rfl,_,rfl,iteF ?_⟩;refine⟨_,rfl,p,n,better ps,rows,rfl,Tb.same s2,hn,fun a ha=>noRnd_ir' hno ha,fun l2 ks hi H3 s3 hl0 hl SZ SP=>?_⟩;refine⟨(by show 2<=sizeLine;decide),fun t ht=>?_⟩
   have s4:=Same.new (o:=.tup [.str "spans",.ref l2]) ht;exact q _ _ (s12.trans (s3.trans s4)) (.inl ⟨t,l2,ks,hi,rfl,Zb,s12.free hl0,hl.same s4,SZ,SP,hno,hnb⟩)
  ·obtain⟨t,l2,c,rfl,h2⟩:=h;exact⟨_,rfl,rfl,_,rfl,iteT ⟨_,rfl,q _ _ s12 (.inr (.inl (RndV.old ⟨t,l2,c,rfl,h2⟩ s1)))⟩⟩
  ·obtain⟨t,t',a,b,c,d,rfl,h2⟩:=h;exact⟨_,rfl,rfl,_,rfl,iteT ⟨_,rfl,q _ _ s12 (.inr (.inr ⟨hno,t,t',a,b,c,d,rfl,h2⟩))⟩⟩
end
noncomputable def Bad(K:PySem.W.Frag)(H:Hp)(l:Addr)(n:Nat)(ps:List (Int×Int)):Prop:=Prs K H l ps/\(∃ p∈ps,¬ ((0<=p.1/\p.1<n)/\0<=p.2/\p.2<n))/\∀ p∈ps,p.1.natAbs.log2<1920/\p.2.natAbs.log2<1920
theorem Za3{i:Int}(h:i.natAbs.log2<1920):(Str.ofString (toString i)).length<=2000:=by
 have e:=int_text_length_le (k:=1920) (by decide) h
 rw[PySem.ofString_length];omega
section
variable{P:Program}{w:World}{K:PySem.W.Frag}{mg:Str->Option Value}{base:Heap}
noncomputable def spRefX(T:Tx K mg):Sp:=fun vs H _ E=>∃ (l:Addr) (n:Nat) (ps:List (Int×Int)),vs=[.int n,.ref l]/\Bad K H l n ps/\∀ H',Same H H'->E (.ref T.c_BadSay) none H'
noncomputable abbrev sRefX:Stmt:=(top 7)
noncomputable abbrev nRefX:List Str:=["many","pairs","one","other","thing"]
noncomputable abbrev pRefX:List Str:=["many","pairs"]
theorem scRefX:FnScope nRefX pRefX (defScope sRefX):=⟨rfl,rfl,rfl,by decide +kernel,rfl,by decide +kernel,by decide +kernel⟩
theorem Zdt(T:Tx K mg):FnOk P w K mg base (CX1 P w) 1 T.a_refuse_strangers T.f_refuse_strangers pRefX (spRefX T):=by
 refine ok1 T.d_refuse_strangers.F scRefX (fun vs H Q E h=>?_) (fun cdv A outer s H vs Q E hr h=>?_)
 ·obtain⟨_,_,_,rfl,_⟩:=h;rfl
 ·obtain⟨l,n,ps,rfl,⟨⟨rs,hS,hP⟩,⟨pb,hpb,hbad⟩,hlog⟩,hE⟩:=h;have hz:=sizeLine_eq;refine⟨_,(Ze (Z0 own1 rfl (piL (K:=K) rfl (pv 1)) (pgT (K:=K) rfl rfl (Z5 (Zn (i:=2) scRefX.nd rfl (Or.inl rfl)) (Z5 (Zn (i:=3) scRefX.nd rfl (Or.inl rfl)) Wv)))
   (Ze (Z0 own1 rfl (Zg1 (Zu (Za (pv 2) (Za (pv 3) Zc)))) (Zn (i:=4) scRefX.nd rfl (Or.inl rfl))
    (Ze (Zv (Yk (Zbh Zjg Zfy Zg (pv 4) (pv 0))) (Ze (Zbj rfl raises1 rfl T.kx_BadSay rfl T.mc_BadSay (Zjd (.cons Y9 (.cons (Zh6 (pv 4)) .nil))))) Zl)))))),?_⟩
  refine⟨_,rfl,l,rfl,⟨_,hS⟩,Z8 (K:=K) (a:=l) (xs:=rs.map V.ref) (fun i σ H2=>∃ v1 v2 v3,σ=[some (.int n),some (.ref l),v1,v2,v3]/\Same H H2/\∀ p∈ps.take i,(0<=p.1/\p.1<n)/\0<=p.2/\p.2<n) ⟨none,none,none,rfl,Same.refl _,(fun p hp=>nomatch hp)⟩ (fun i σ H2 _ ⟨_,_,_,_,s2,_⟩=>s2.seq hS) ?_ ?_⟩
  ·rintro i y σ H2 hi ⟨v1,v2,v3,rfl,s2,hgood⟩;obtain⟨r,hr,rfl⟩:=Y6 hi;obtain⟨⟨a,b⟩,hab,hp⟩:=Paired.at hP hr;have hlg:=hlog _ (List.mem_of_getElem? hab);dsimp only at hlg;refine⟨r,[.int a,.int b],rfl,SqT.of (s2 _ _ hp),rfl,_,_,rfl,_,_,rfl,rfl,?_⟩;refine⟨_,rfl,_,rfl,(by show 2<=sizeLine;decide),fun p hp0=>⟨p,rfl,⟨_,SqT.of Zb⟩,Zem (K:=K) (a:=p) (xs:=[.int a,.int b]) (fun i σ H3=>∃ v,σ=[some (.int n),some (.ref l),some (.int a),some (.int b),v]/\H3=upd H2 p (.tup [.int a,.int b])/\(1<=i->0<=a/\a<n)/\(2<=i->0<=b/\b<n)) ⟨_,rfl,rfl,(fun z=>absurd z (by decide)),(fun z=>absurd z (by decide))⟩ (fun i σ H3 _ ⟨_,_,e,_⟩=>by rw[e];exact SqT.of Zb) ?_ ?_⟩⟩
   ·rintro j x σ H3 hj ⟨v,rfl,rfl,g1,g2⟩;have s3:=s2.put (o:=.tup [.int a,.int b]) (s2.free hp0);have hx:∃ k:Int,x=.int k/\k.natAbs.log2<1920/\((0<=k/\k<n)->(1<=j+1->0<=a/\a<n)/\(2<=j+1->0<=b/\b<n)):=by
     match j,hj with
     | 0,hj=>exact⟨a,by simpa using hj.symm,hlg.1,fun h=>⟨fun _=>h,(fun z=>absurd z (by decide))⟩⟩
     | 1,hj=>exact⟨b,by simpa using hj.symm,hlg.2,fun h=>⟨fun _=>g1 (by decide),fun _=>h⟩⟩
     | j+2,hj=>simp at hj
    obtain⟨k,rfl,hk,hnext⟩:=hx;have hl1:(Str.empty++Str.ofString "there is no thing ").length<=18:=by decide +kernel
    have hl2:(Str.empty++Str.ofString "there is no thing "++Str.ofString (toString k)).length<=2018:=by
     rw[strLen_append];have:=Za3 hk;omega
    have raised:∀ {D:Ends},tRaise E (.ref T.c_BadSay) (tJn [tC (.str (Str.ofString "there is no thing ")),tFv (tVar 4)] Str.empty) D [some (.int n),some (.ref l),some (.int a),some (.int b),some (.int k)] (upd H2 p (.tup [.int a,.int b])):=fun {D}=>
     ⟨_,rfl,Nat.le_trans hl1 (by omega),_,rfl,_,rfl,hk,_,rfl,Nat.le_trans hl2 (by omega),hE _ s3⟩
    refine⟨_,rfl,_,_,rfl,rfl,_,rfl,?_⟩;by_cases k0:0<=k
    ·rw[if_pos (decide_eq_true k0)];refine⟨_,rfl,_,_,rfl,rfl,_,rfl,?_⟩;by_cases k1:k<n
     ·rw[decide_eq_true k1];exact iteF ⟨_,rfl,rfl,hnext ⟨k0,k1⟩⟩
     ·rw[decide_eq_false k1];exact iteT raised
    ·rw[if_neg (by rw[decide_eq_false k0];exact Bool.false_ne_true)]
     exact⟨_,rfl,iteT raised⟩
   ·rintro σ H3 ⟨v,rfl,rfl,g1,g2⟩;refine⟨_,_,_,rfl,s2.put (s2.free hp0),fun q hq=>?_⟩;rw[List.take_add_one,hab] at hq;rcases List.mem_append.mp hq with hq | hq
    ·exact hgood q hq
    ·obtain rfl:=List.mem_singleton.mp hq;exact⟨g1 (by show 1<=2;decide),g2 (by show 2<=2;decide)⟩
  ·rintro σ H2 ⟨v1,v2,v3,rfl,s2,hgood⟩;rw[List.length_map,Paired.length hP,List.take_length] at hgood;exact absurd (hgood pb hpb) hbad
end
theorem bm1{K:PySem.W.Frag}{x q:Str}{st:Stmt}{f:Addr}{fd:FuncData}{p0:Str}(F:Fun K x q st f fd)(h:∀ (kV doc pm:Value) (an:Option Addr) (cdv ct u0:Value),bindArgs (PySem.W.fnOf x q (defArgs st) (defBody st) (defScope st) .none kV doc pm an cdv ct) ⟨[u0],[]⟩=pure [(p0,u0)]):Binds K fd [p0] []:=
 F.binds fun _ _ _ _ _ _ us hl=>by
  obtain⟨u0,r0,rfl,h0⟩:=us1 hl;obtain rfl:=List.eq_nil_of_length_eq_zero h0;exact h _ _ _ _ _ _ _
theorem bm2{K:PySem.W.Frag}{x q:Str}{st:Stmt}{f:Addr}{fd:FuncData}{p0 p1:Str}(F:Fun K x q st f fd)(h:∀ (kV doc pm:Value) (an:Option Addr) (cdv ct u0 u1:Value),bindArgs (PySem.W.fnOf x q (defArgs st) (defBody st) (defScope st) .none kV doc pm an cdv ct) ⟨[u0,u1],[]⟩=pure [(p0,u0),(p1,u1)]):Binds K fd [p0,p1] []:=
 F.binds fun _ _ _ _ _ _ us hl=>by
  obtain⟨u0,r0,rfl,h0⟩:=us1 hl;obtain⟨u1,r1,rfl,h1⟩:=us1 h0;obtain rfl:=List.eq_nil_of_length_eq_zero h1;exact h _ _ _ _ _ _ _ _
theorem bm3{K:PySem.W.Frag}{x q:Str}{st:Stmt}{f:Addr}{fd:FuncData}{p0 p1 p2:Str}(F:Fun K x q st f fd)(h:∀ (kV doc pm:Value) (an:Option Addr) (cdv ct u0 u1 u2:Value),bindArgs (PySem.W.fnOf x q (defArgs st) (defBody st) (defScope st) .none kV doc pm an cdv ct) ⟨[u0,u1,u2],[]⟩=pure [(p0,u0),(p1,u1),(p2,u2)]):Binds K fd [p0,p1,p2] []:=
 F.binds fun _ _ _ _ _ _ us hl=>by
  obtain⟨u0,r0,rfl,h0⟩:=us1 hl;obtain⟨u1,r1,rfl,h1⟩:=us1 h0;obtain⟨u2,r2,rfl,h2⟩:=us1 h1;obtain rfl:=List.eq_nil_of_length_eq_zero h2;exact h _ _ _ _ _ _ _ _ _
noncomputable def keyP(p:Int×Int):List Key:=[Sum.inl p.1,Sum.inl p.2]
noncomputable def kvsP(ps:List (Int×Int)):List (List Key×V):=ps.map fun p=>(keyP p,V.bl true)
theorem Zb2{p q:Int×Int}(h:keyP p=keyP q):p=q:=by
 injection h with h1 h2
 injection h2 with h2
 injection h1 with h1
 injection h2 with h2
 exact Prod.ext h1 h2
theorem valP(p:Int×Int):∀ ps:List (Int×Int),valV (kvsP ps) (keyP p)=if p∈ps then some (.bl true) else none
 | []=>by rw[if_neg (fun z=>nomatch z)];rfl
 | q::ps=>by
  by_cases e:q=p
  ·subst e;rw[if_pos List.mem_cons_self];exact Z2 rfl
  ·have e1:valV (kvsP (q::ps)) (keyP p)=valV (kvsP ps) (keyP p):=Z3 (p:=(keyP q,V.bl true)) fun z=>e (Zb2 z);rw[e1,valP p ps];by_cases h:p∈ps
   ·rw[if_pos h,if_pos (List.mem_cons_of_mem _ h)]
   ·rw[if_neg h,if_neg];intro z;rcases List.mem_cons.mp z with z | z
    ·exact e z.symm
    ·exact h z
theorem Zd8(ps:List (Int×Int)):(kvsP ps).map (·.1)=ps.map fun p=>[Sum.inl p.1,Sum.inl p.2]:=by
 unfold kvsP;rw[List.map_map];rfl
theorem Zge(ps:List (Int×Int)):(kvsP ps).length=ps.length:=List.length_map _
theorem Zgd{ps:List (Int×Int)}{p:Int×Int}(h:p∉ps):putK (kvsP ps) (keyP p) (V.bl true)=kvsP (ps++[p]):=by
 rw[Zft _ (by rw[valP,if_neg h])]
 unfold kvsP;rw[List.map_append];rfl
theorem Zcq(ps:List (Int×Int))(j:Nat):(kvsP ps).eraseIdx j=kvsP (ps.eraseIdx j):=(Xc _ ps j).symm
theorem Zim{ps:List (Int×Int)}{j:Nat}{p:Int×Int}{v:V}(h:(kvsP ps)[j]? = some (keyP p,v)):ps[j]? = some p:=by
 unfold kvsP at h;rw[List.getElem?_map] at h;cases e:ps[j]? with
 | none=>rw[e] at h;cases h
 | some q=>
  rw[e] at h;injection h with h
  injection h with h _
  rw[Zb2 h]
theorem ms:¬ (("many":Str)="said"):=by decide +kernel
noncomputable def jf(n:Nat)(d:Addr):List (Str×V):=putF "said" (.ref d) (putF "many" (.int n) [])
theorem Y0(n:Nat)(d:Addr):(jf n d).lookup ("many":Str)=some (.int n):=by
 unfold jf;rw[Z4,if_neg ms,Z4,if_pos rfl]
theorem X5(n:Nat)(d:Addr):(jf n d).lookup ("said":Str)=some (.ref d):=by
 unfold jf;rw[Z4,if_pos rfl]
theorem Xv(n:Nat)(d:Addr){m:Str}(h1:¬ m="said")(h2:¬ m="many"):(jf n d).lookup m=none:=by
 unfold jf;rw[Z4,if_neg h1,Z4,if_neg h2];rfl
structure JAt(C:Addr)(H:Hp)(p d:Addr)(n:Nat)(ps:List (Int×Int)):Prop where
 ob:∃ dx,H p=some (.ins C dx (jf n d))
 dc:H d=some (.dT (kvsP ps))
 nd:ps.Nodup
 hin:In n ps
theorem JAt.same{C:Addr}{H H':Hp}{p d:Addr}{n:Nat}{ps:List (Int×Int)}(J:JAt C H p d n ps)(s:Same H H'):JAt C H' p d n ps:=by
 obtain⟨⟨dx,h1⟩,h2,h3,h4⟩:=J;exact⟨⟨dx,s _ _ h1⟩,s _ _ h2,h3,h4⟩
section
variable{P:Program}{w:World}{K:PySem.W.Frag}{mg:Str->Option Value}{base:Heap}
noncomputable def spJI(C:Addr):Sp:=fun vs H Q _=>∃ (p dx:Addr) (n:Nat),vs=[.ref p,.int n]/\H p=some (.ins C dx [])/\∀ (d:Addr) (H':Hp),H d=none->JAt C H' p d n []->(∀ b o,H b=some o->b≠p->H' b=some o)->Q .non H'
noncomputable abbrev sJI:Stmt:=(inClass (top 27) 0)
noncomputable abbrev nJI:List Str:=["self","many"]
noncomputable abbrev pJI:List Str:=["self","many"]
theorem scJI:FnScope nJI pJI (defScope sJI):=⟨rfl,rfl,rfl,by decide +kernel,rfl,by decide +kernel,by decide +kernel⟩
theorem Zkd(T:Tx K mg):FnOk P w K mg base CX0 1 T.y_Judge___init__.a T.y_Judge___init__.f pJI (spJI T.c_Judge):=by
 refine T.y_Judge___init__.F.ok scJI (fun vs H Q E h=>?_) (fun cdv A outer s H vs Q E hr h=>?_)
 ·obtain⟨_,_,_,rfl,_⟩:=h;rfl
 ·obtain⟨p,dx,n,rfl,hp,q⟩:=h;refine⟨_,(Zd (Zgz (pv 0) (pv 1) rfl)
   (Ze (Zgz (pv 0) Zfw rfl))),?_⟩
  refine⟨_,rfl,_,rfl,p,T.c_Judge,dx,[],rfl,hp,T.cl_Judge,T.na_Judge_many,(by show 0<1000;decide),fun d hd=>?_⟩
  have npd:p≠d:=Zf Zb hd;have hd0:H d=none:=by rw[Zh npd.symm] at hd;exact hd
  refine⟨_,rfl,p,T.c_Judge,dx,_,rfl,(by rw[Zh npd];exact Zb),T.cl_Judge,T.na_Judge_said,(by show 1<1000;decide),?_⟩
  refine q d _ hd0 ⟨⟨dx,Zb⟩,by rw[Zh npd.symm,Zb];rfl,List.nodup_nil,(fun _ h=>nomatch h)⟩ fun b o e hb=>?_
  rw[Zh hb,Zh (Zf e hd0),Zh hb];exact e
noncomputable def spSay(C:Addr):Sp:=fun vs H Q _=>∃ (p d:Addr) (n:Nat) (ps:List (Int×Int)) (a b:Int),vs=[.ref p,.int a,.int b]/\JAt C H p d n ps/\((0<=a/\a<n)/\0<=b/\b<n)/\ps.length<=200 /\
 ∀ H',JAt C H' p d n (if (a,b)∈ps then ps else ps++[(a,b)])->(∀ c o,H c=some o->c≠d->H' c=some o)->Q (.bl (!decide ((a,b)∈ps))) H'
noncomputable abbrev sSay:Stmt:=(inClass (top 27) 1)
noncomputable abbrev nSay:List Str:=["self","one","other"]
noncomputable abbrev pSay:List Str:=["self","one","other"]
theorem scSay:FnScope nSay pSay (defScope sSay):=⟨rfl,rfl,rfl,by decide +kernel,rfl,by decide +kernel,by decide +kernel⟩
theorem Zhc(T:Tx K mg):FnOk P w K mg base CX0 2 T.y_Judge_say.a T.y_Judge_say.f pSay (spSay T.c_Judge):=by
 have GRefuse:FnOk P w K mg base CX0 1 T.a_refuse_strangers T.f_refuse_strangers pRefuse (spRefuse K):=Xs T.d_refuse_strangers;have bRefuse:Binds K T.f_refuse_strangers pRefuse []:=bd2 T.d_refuse_strangers.F fun _ _ _ _ _ _ _ _=>rfl;refine T.y_Judge_say.F.ok scSay (fun vs H Q E h=>?_) (fun cdv A outer s H vs Q E hr h=>?_)
 ·obtain⟨_,_,_,_,_,_,rfl,_⟩:=h;rfl
 ·obtain⟨p,d,n,ps,a,b,rfl,J,hab,hl,q⟩:=h;have hz:=sizeLine_eq;have hu:=Jk hr;obtain⟨⟨dx,h1⟩,hd,nd,hin⟩:=id J;refine⟨_,(Zd (Zz (Zi GRefuse hr rfl T.d_refuse_strangers.m T.d_refuse_strangers.F.kp bRefuse .nil pass0 (Za (Yn (pv 0) rfl) (Za (Z1 (Za (Zu (Za (pv 1) (Za (pv 2) Zc))) Zc)) Zc))))
   (Zd (Zv (Zdg (Zjf hu (Zu (Za (pv 1) (Za (pv 2) Zc))) (Yn (pv 0) rfl))) (Ze (Zj Ye)) Zl)
   (Zd (Zar hu (Yn (pv 0) rfl) (Zu (Za (pv 1) (Za (pv 2) Zc))) Ye rfl)
   (Ze (Zj Ye))))),?_⟩
  refine⟨_,rfl,p,T.c_Judge,dx,_,_,rfl,h1,T.cl_Judge,T.na_Judge_many,Y0 n d,_,rfl,_,rfl,(by show 2<=sizeLine;decide),fun t ht=>⟨(by show 1<=sizeLine;decide),fun l hl0=>?_⟩⟩
  have s2:Same H (upd (upd H t (.tup [.int a,.int b])) l (.lst [.ref t])):=(Same.new ht).trans (Same.new hl0);refine⟨l,n,[(a,b)],rfl,⟨[t],SqL.of Zb,.cons ?_ .nil⟩,(fun q hq=>by rw[List.mem_singleton.mp hq];exact hab),fun H3 s3=>?_⟩
  ·show (upd _ l _) t=_;exact (Same.new hl0) _ _ Zb
  have s13:=s2.trans s3;refine⟨_,rfl,_,rfl,(by show 2<=sizeLine;decide),fun t2 ht2=>?_⟩
  have s14:Same H (upd H3 t2 (.tup [.int a,.int b])):=s13.trans (Same.new ht2);refine⟨_,rfl,p,T.c_Judge,dx,_,_,rfl,s14 _ _ h1,T.cl_Judge,T.na_Judge_said,X5 n d,d,_,rfl,DGet.t (k:=keyP (a,b)) (s14 _ _ hd) Zb,_,rfl,?_⟩;rw[valP];by_cases hm:(a,b)∈ps
  ·rw[if_pos hm];refine iteT ?_;rw[decide_eq_true hm,if_pos hm] at q;exact q _ (J.same s14) fun c o e _=>s14 c o e
  ·rw[if_neg hm];refine iteF ⟨_,rfl,p,T.c_Judge,dx,_,_,rfl,s14 _ _ h1,T.cl_Judge,T.na_Judge_said,X5 n d,_,rfl,_,rfl,(by show 2<=sizeLine;decide),fun t3 ht3=>?_⟩
   have s15:=s14.trans (Same.new (o:=.tup [.int a,.int b]) ht3);refine⟨d,_,rfl,DPut.t (k:=keyP (a,b)) (s15 _ _ hd) Zb (by rw[Zge];omega),?_⟩
   have ndp:p≠d:=Zy h1 hd (by intro z;cases z)
   rw[decide_eq_false hm,if_neg hm] at q;refine q _ ?_ fun c o e hc=>?_
   ·refine⟨⟨dx,by rw[Zh ndp];exact s15 _ _ h1⟩,by rw[Zb,Zgd hm],List.nodup_append.mpr ⟨nd,by simp,fun x hx y hy=>?_⟩,fun z hz=>?_⟩
    ·rw[List.mem_singleton.mp hy];exact fun e=>hm (e▸hx)
    ·rcases List.mem_append.mp hz with hz | hz
     ·exact hin z hz
     ·rw[List.mem_singleton.mp hz];exact hab
   ·rw[Zh hc];exact s15 c o e
noncomputable def spJX(T:Tx K mg):Sp:=fun vs H _ E=>∃ (p d:Addr) (n:Nat) (ps:List (Int×Int)) (a b:Int),vs=[.ref p,.int a,.int b]/\JAt T.c_Judge H p d n ps/\¬ ((0<=a/\a<n)/\0<=b/\b<n)/\a.natAbs.log2<1920/\b.natAbs.log2<1920/\∀ H',Same H H'->E (.ref T.c_BadSay) none H'
theorem Zib(T:Tx K mg):FnOk P w K mg base (CX1 P w) 2 T.y_Judge_say.a T.y_Judge_say.f pSay (spJX T):=by
 have GRefX:FnOk P w K mg base (CX1 P w) 1 T.a_refuse_strangers T.f_refuse_strangers pRefX (spRefX T):=Zdt T;have bRefX:Binds K T.f_refuse_strangers pRefX []:=bd2 T.d_refuse_strangers.F fun _ _ _ _ _ _ _ _=>rfl;refine ok1 T.y_Judge_say.F scSay (fun vs H Q E h=>?_) (fun cdv A outer s H vs Q E hr h=>?_)
 ·obtain⟨_,_,_,_,_,_,rfl,_⟩:=h;rfl
 ·obtain⟨p,d,n,ps,a,b,rfl,J,hab,ha,hb,hE⟩:=h;obtain⟨⟨dx,h1⟩,hd,nd,hin⟩:=id J;refine⟨_,Zd (Zz (Zi GRefX hr rfl T.d_refuse_strangers.m T.d_refuse_strangers.F.kp bRefX .nil pass1 (Za (Yn (pv 0) rfl) (Za (Z1 (Za (Zu (Za (pv 1) (Za (pv 2) Zc))) Zc)) Zc)))) Y7,?_⟩;refine⟨_,rfl,p,T.c_Judge,dx,_,_,rfl,h1,T.cl_Judge,T.na_Judge_many,Y0 n d,_,rfl,_,rfl,(by show 2<=sizeLine;decide),fun t ht=>⟨(by show 1<=sizeLine;decide),fun l hl0=>?_⟩⟩
  have s2:Same H (upd (upd H t (.tup [.int a,.int b])) l (.lst [.ref t])):=(Same.new ht).trans (Same.new hl0);refine⟨l,n,[(a,b)],rfl,⟨⟨[t],SqL.of Zb,.cons ((Same.new hl0) _ _ Zb) .nil⟩,⟨(a,b),List.mem_singleton.mpr rfl,hab⟩,fun q hq=>by rw[List.mem_singleton.mp hq];exact⟨ha,hb⟩⟩,fun H3 s3=>hE _ (s2.trans s3)⟩
noncomputable abbrev sUns:Stmt:=(inClass (top 27) 2)
noncomputable abbrev nUns:List Str:=["self","one","other"]
noncomputable abbrev pUns:List Str:=["self","one","other"]
theorem scUns:FnScope nUns pUns (defScope sUns):=⟨rfl,rfl,rfl,by decide +kernel,rfl,by decide +kernel,by decide +kernel⟩
theorem Zdq(T:Tx K mg):FnOk P w K mg base (CX1 P w) 2 T.y_Judge_unsay.a T.y_Judge_unsay.f pUns (spJX T):=by
 have GRefX:FnOk P w K mg base (CX1 P w) 1 T.a_refuse_strangers T.f_refuse_strangers pRefX (spRefX T):=Zdt T;have bRefX:Binds K T.f_refuse_strangers pRefX []:=bd2 T.d_refuse_strangers.F fun _ _ _ _ _ _ _ _=>rfl;refine ok1 T.y_Judge_unsay.F scUns (fun vs H Q E h=>?_) (fun cdv A outer s H vs Q E hr h=>?_)
 ·obtain⟨_,_,_,_,_,_,rfl,_⟩:=h;rfl
 ·obtain⟨p,d,n,ps,a,b,rfl,J,hab,ha,hb,hE⟩:=h;obtain⟨⟨dx,h1⟩,hd,nd,hin⟩:=id J;refine⟨_,Zd (Zz (Zi GRefX hr rfl T.d_refuse_strangers.m T.d_refuse_strangers.F.kp bRefX .nil pass1 (Za (Yn (pv 0) rfl) (Za (Z1 (Za (Zu (Za (pv 1) (Za (pv 2) Zc))) Zc)) Zc)))) Y7,?_⟩;refine⟨_,rfl,p,T.c_Judge,dx,_,_,rfl,h1,T.cl_Judge,T.na_Judge_many,Y0 n d,_,rfl,_,rfl,(by show 2<=sizeLine;decide),fun t ht=>⟨(by show 1<=sizeLine;decide),fun l hl0=>?_⟩⟩
  have s2:Same H (upd (upd H t (.tup [.int a,.int b])) l (.lst [.ref t])):=(Same.new ht).trans (Same.new hl0);refine⟨l,n,[(a,b)],rfl,⟨⟨[t],SqL.of Zb,.cons ((Same.new hl0) _ _ Zb) .nil⟩,⟨(a,b),List.mem_singleton.mpr rfl,hab⟩,fun q hq=>by rw[List.mem_singleton.mp hq];exact⟨ha,hb⟩⟩,fun H3 s3=>hE _ (s2.trans s3)⟩
noncomputable def spJN(T:Tx K mg):Sp:=fun vs H _ E=>∃ (p d:Addr) (n:Nat) (ps:List (Int×Int)) (a b:Int),vs=[.ref p,.int a,.int b]/\JAt T.c_Judge H p d n ps/\((0<=a/\a<n)/\0<=b/\b<n)/\n<=1000/\(a,b)∉ps/\∀ H',Same H H'->E (.ref T.c_NoSay) none H'
theorem Xp{a:Int}{n:Nat}(h:0<=a/\a<n)(hn:n<=1000):a.natAbs.log2<1920:=by
 have h1:a.natAbs<1000:=by omega
 by_cases z:a.natAbs=0
 ·rw[z];decide +kernel
 ·exact (Nat.log2_lt z).mpr (Nat.lt_of_lt_of_le h1 (by decide +kernel))
theorem Zdr(T:Tx K mg):FnOk P w K mg base (CX1 P w) 2 T.y_Judge_unsay.a T.y_Judge_unsay.f pUns (spJN T):=by
 have GR:FnOk P w K mg base (CX1 P w) 1 T.a_refuse_strangers T.f_refuse_strangers pRefuse (spRefuse K):=lift1 (Xs T.d_refuse_strangers);have bR:Binds K T.f_refuse_strangers pRefuse []:=bd2 T.d_refuse_strangers.F fun _ _ _ _ _ _ _ _=>rfl;refine ok1 T.y_Judge_unsay.F scUns (fun vs H Q E h=>?_) (fun cdv A outer s H vs Q E hr h=>?_)
 ·obtain⟨_,_,_,_,_,_,rfl,_⟩:=h;rfl
 ·obtain⟨p,d,n,ps,a,b,rfl,J,hab,hn,hm,hE⟩:=h;have hz:=sizeLine_eq;have hu:=Jk hr;obtain⟨⟨dx,h1⟩,hd,nd,hin⟩:=id J;refine⟨_,Zd (Zz (Zi GR hr rfl T.d_refuse_strangers.m T.d_refuse_strangers.F.kp bR .nil pass1 (Za (Yn (pv 0) rfl) (Za (Z1 (Za (Zu (Za (pv 1) (Za (pv 2) Zc))) Zc)) Zc))))
   (Zd (Zv (Zdg (Ja hu (Zu (Za (pv 1) (Za (pv 2) Zc))) (Yn (pv 0) rfl))) (Ze (Zbj rfl raises1 rfl T.kx_NoSay rfl T.mc_NoSay (Zjd (.cons Y9 (.cons (Zh6 (pv 1)) (.cons Y9 (.cons (Zh6 (pv 2)) .nil))))))) Zl) Y7),?_⟩
  refine⟨_,rfl,p,T.c_Judge,dx,_,_,rfl,h1,T.cl_Judge,T.na_Judge_many,Y0 n d,_,rfl,_,rfl,(by show 2<=sizeLine;decide),fun t ht=>⟨(by show 1<=sizeLine;decide),fun l hl0=>?_⟩⟩
  have s2:Same H (upd (upd H t (.tup [.int a,.int b])) l (.lst [.ref t])):=(Same.new ht).trans (Same.new hl0);refine⟨l,n,[(a,b)],rfl,⟨[t],SqL.of Zb,.cons ((Same.new hl0) _ _ Zb) .nil⟩,(fun q hq=>by rw[List.mem_singleton.mp hq];exact hab),fun H3 s3=>?_⟩
  have s13:=s2.trans s3;refine⟨_,rfl,_,rfl,(by show 2<=sizeLine;decide),fun t2 ht2=>?_⟩
  have s14:Same H (upd H3 t2 (.tup [.int a,.int b])):=s13.trans (Same.new ht2);refine⟨_,rfl,p,T.c_Judge,dx,_,_,rfl,s14 _ _ h1,T.cl_Judge,T.na_Judge_said,X5 n d,d,_,rfl,DGet.t (k:=keyP (a,b)) (s14 _ _ hd) Zb,_,rfl,?_⟩;rw[valP,if_neg hm];have l1:=Za3 (Xp hab.1 hn);have l2:=Za3 (Xp hab.2 hn);have c1:(Str.empty++Str.ofString "it was not said that ").length<=40:=by decide +kernel
  have c2:(Str.ofString " is better than ").length<=40:=by decide +kernel
  refine iteT ⟨_,rfl,by omega,_,rfl,_,rfl,Xp hab.1 hn,_,rfl,by rw[strLen_append];omega,_,rfl,by rw[strLen_append,strLen_append];omega,_,rfl,_,rfl,Xp hab.2 hn,_,rfl,by rw[strLen_append,strLen_append,strLen_append];omega,hE _ s14⟩
noncomputable def spUns(C:Addr):Sp:=fun vs H Q _=>∃ (p d:Addr) (n:Nat) (ps:List (Int×Int)) (a b:Int),vs=[.ref p,.int a,.int b]/\JAt C H p d n ps/\(a,b)∈ps/\ps.length<=200 /\
 ∀ j H',ps[j]? = some (a,b)->JAt C H' p d n (ps.eraseIdx j)->(∀ c o,H c=some o->c≠d->H' c=some o)->Q .non H'
theorem Zfz(T:Tx K mg):FnOk P w K mg base CX0 2 T.y_Judge_unsay.a T.y_Judge_unsay.f pUns (spUns T.c_Judge):=by
 have GRefuse:FnOk P w K mg base CX0 1 T.a_refuse_strangers T.f_refuse_strangers pRefuse (spRefuse K):=Xs T.d_refuse_strangers;have bRefuse:Binds K T.f_refuse_strangers pRefuse []:=bd2 T.d_refuse_strangers.F fun _ _ _ _ _ _ _ _=>rfl;refine T.y_Judge_unsay.F.ok scUns (fun vs H Q E h=>?_) (fun cdv A outer s H vs Q E hr h=>?_)
 ·obtain⟨_,_,_,_,_,_,rfl,_⟩:=h;rfl
 ·obtain⟨p,d,n,ps,a,b,rfl,J,hm,hl,q⟩:=h;have hz:=sizeLine_eq;have hu:=Jk hr;have hu4:=Nat.lt_of_le_of_lt (Nat.add_le_add_left (by decide:4<=64) _) hr.units
  obtain⟨⟨dx,h1⟩,hd,nd,hin⟩:=id J;have hab:=hin _ hm;refine⟨_,(Zd (Zz (Zi GRefuse hr rfl T.d_refuse_strangers.m T.d_refuse_strangers.F.kp bRefuse .nil pass0 (Za (Yn (pv 0) rfl) (Za (Z1 (Za (Zu (Za (pv 1) (Za (pv 2) Zc))) Zc)) Zc))))
   (Zd (Zv (Zdg (Ja hu (Zu (Za (pv 1) (Za (pv 2) Zc))) (Yn (pv 0) rfl))) Y7 Zl)
   (Ze (Zz (Zj6 PySem.F.slot_dict_pop PySem.F.type_dict_pop (Zii hu4) (Yn (pv 0) rfl) (Za (Zu (Za (pv 1) (Za (pv 2) Zc))) Zc)))))),?_⟩
  refine⟨_,rfl,p,T.c_Judge,dx,_,_,rfl,h1,T.cl_Judge,T.na_Judge_many,Y0 n d,_,rfl,_,rfl,(by show 2<=sizeLine;decide),fun t ht=>⟨(by show 1<=sizeLine;decide),fun l hl0=>?_⟩⟩
  have s2:Same H (upd (upd H t (.tup [.int a,.int b])) l (.lst [.ref t])):=(Same.new ht).trans (Same.new hl0);refine⟨l,n,[(a,b)],rfl,⟨[t],SqL.of Zb,.cons ((Same.new hl0) _ _ Zb) .nil⟩,(fun q hq=>by rw[List.mem_singleton.mp hq];exact hab),fun H3 s3=>?_⟩
  have s13:=s2.trans s3;refine⟨_,rfl,_,rfl,(by show 2<=sizeLine;decide),fun t2 ht2=>?_⟩
  have s14:Same H (upd H3 t2 (.tup [.int a,.int b])):=s13.trans (Same.new ht2);refine⟨_,rfl,p,T.c_Judge,dx,_,_,rfl,s14 _ _ h1,T.cl_Judge,T.na_Judge_said,X5 n d,d,_,rfl,DGet.t (k:=keyP (a,b)) (s14 _ _ hd) Zb,_,rfl,?_⟩;rw[valP,if_pos hm];refine iteF ⟨_,rfl,p,T.c_Judge,dx,_,_,rfl,s14 _ _ h1,T.cl_Judge,T.na_Judge_said,X5 n d,⟨d,_,rfl,s14 _ _ hd⟩,_,rfl,_,rfl,(by show 2<=sizeLine;decide),fun t3 ht3=>?_⟩
  have s15:=s14.trans (Same.new (o:=.tup [.int a,.int b]) ht3);refine⟨d,t3,kvsP ps,keyP (a,b),rfl,rfl,s15 _ _ hd,Zb,⟨.bl true,List.mem_map.mpr ⟨_,hm,rfl⟩⟩,fun j v hj=>?_⟩;have ndp:p≠d:=Zy h1 hd (by intro z;cases z)
  refine q j _ (Zim hj) ⟨⟨dx,by rw[Zh ndp];exact s15 _ _ h1⟩,by rw[Zb,Zcq],nd.sublist (List.eraseIdx_sublist _ _),fun z hz=>hin z ((List.eraseIdx_sublist _ _).subset hz)⟩ fun c o e hc=>?_
  rw[Zh hc];exact s15 c o e
theorem In.lt1000{n:Nat}{ps:List (Int×Int)}(h:In n ps)(hn:n<=1000):∀ p∈ps,0<=p.2/\p.2<1000:=fun p hp=>by
 have:=h p hp;omega
noncomputable def spSayings(C:Addr):Sp:=fun vs H Q _=>∃ (p d:Addr) (n:Nat) (ps:List (Int×Int)),vs=[.ref p]/\JAt C H p d n ps/\n<=1000/\ps.length<128/\∀ D qs H',Same H H'->H D=none->PrsO H' D qs->qs.Perm ps->SrtP qs->Q (.ref D) H'
noncomputable abbrev sSys:Stmt:=(inClass (top 27) 3)
noncomputable abbrev nSys:List Str:=["self"]
noncomputable abbrev pSys:List Str:=["self"]
theorem scSys:FnScope nSys pSys (defScope sSys):=⟨rfl,rfl,rfl,by decide +kernel,rfl,by decide +kernel,by decide +kernel⟩
theorem Zds(T:Tx K mg):FnOk P w K mg base CX0 1 T.y_Judge_sayings.a T.y_Judge_sayings.f pSys (spSayings T.c_Judge):=by
 refine T.y_Judge_sayings.F.ok scSys (fun vs H Q E h=>?_) (fun cdv A outer s H vs Q E hr h=>?_)
 ·obtain⟨_,_,_,_,rfl,_⟩:=h;rfl
 ·obtain⟨p,d,n,ps,rfl,J,hn,hl,q⟩:=h;obtain⟨⟨dx,h1⟩,hd,nd,hin⟩:=id J;refine⟨_,(Ze (Zj (Zm (Jw rfl) (by rfl) T.B.sorted PyProof.Rows.boot_sorted (Za (Yn (pv 0) rfl) Zc)))),?_⟩
  refine⟨_,rfl,p,T.c_Judge,dx,_,_,rfl,h1,T.cl_Judge,T.na_Judge_said,X5 n d,d,_,ps,rfl,hd,Zd8 ps,hin.lt1000 hn,hl,fun D rs' ps' hD hP hp hs=>?_⟩;exact q D ps' _ (Same.new hD) hD ⟨rs',Zb,Paired.mapP hP fun a b z=>(Same.new hD) _ _ z⟩ hp hs
theorem Vl{ps qs:List (Int×Int)}(h:qs.Perm ps):better qs=better ps:=V8 fun p=>h.mem_iff
theorem In.perm{n:Nat}{ps qs:List (Int×Int)}(h:In n ps)(hp:qs.Perm ps):In n qs:=fun p hq=>h p (hp.mem_iff.mp hq)
theorem MarksV.old{H00 H0 H:Hp}{n:Nat}{rel:Nat->Nat->Bool}{v:V}(h:MarksV H0 H n rel v)(s:Same H00 H0):MarksV H00 H n rel v:=by
 rcases h with ⟨t,l,m,W,h1,h2,h3,h4⟩ | h | h | h
 ·exact .inl ⟨t,l,m,W,h1,h2,s.free h3,h4⟩
 ·exact .inr (.inl (h.old s))
 ·exact .inr (.inr (.inl h))
 ·exact .inr (.inr (.inr h))
theorem SpansV.old{H00 H0 H:Hp}{n:Nat}{rel:Nat->Nat->Bool}{v:V}(h:SpansV H0 H n rel v)(s:Same H00 H0):SpansV H00 H n rel v:=by
 rcases h with ⟨t,l,ks,hi,h1,h2,h3,h4⟩ | h | h
 ·exact .inl ⟨t,l,ks,hi,h1,h2,s.free h3,h4⟩
 ·exact .inr (.inl (h.old s))
 ·exact .inr (.inr h)
noncomputable def spBy(C:Addr)(V1:Hp->Hp->Nat->(Nat->Nat->Bool)->V->Prop):Sp:=fun vs H Q _=>∃ (p d:Addr) (n:Nat) (ps:List (Int×Int)),vs=[.ref p]/\JAt C H p d n ps/\n<=60/\ps.length<128/\∀ v H',Same H H'->V1 H H' n (better ps) v->Q v H'
noncomputable abbrev sBM:Stmt:=(inClass (top 27) 4)
noncomputable abbrev nBM:List Str:=["self"]
noncomputable abbrev pBM:List Str:=["self"]
theorem scBM:FnScope nBM pBM (defScope sBM):=⟨rfl,rfl,rfl,by decide +kernel,rfl,by decide +kernel,by decide +kernel⟩
theorem Zkg(T:Tx K mg):FnOk P w K mg base CX0 6 T.y_Judge_by_marks.a T.y_Judge_by_marks.f pBM (spBy T.c_Judge MarksV):=by
 have GMarks:FnOk P w K mg base CX0 5 T.a_marks T.f_marks pMarks (spMarks K):=Zbv T;have bMarks:Binds K T.f_marks pMarks []:=bd2 T.d_marks.F fun _ _ _ _ _ _ _ _=>rfl;have GS:FnOk P w K mg base CX0 1 T.y_Judge_sayings.a T.y_Judge_sayings.f pSys (spSayings T.c_Judge):=Zds T;have bS:Binds K T.y_Judge_sayings.f pSys []:=bm1 T.y_Judge_sayings.F fun _ _ _ _ _ _ _=>rfl;refine T.y_Judge_by_marks.F.ok scBM (fun vs H Q E h=>?_) (fun cdv A outer s H vs Q E hr h=>?_)
 ·obtain⟨_,_,_,_,rfl,_⟩:=h;rfl
 ·obtain⟨p,d,n,ps,rfl,J,hn,hl,q⟩:=h;have hr1:Room 1 _:=hr.mono (by decide)
  obtain⟨⟨dx,h1⟩,hd,nd,hin⟩:=id J;refine⟨_,(Ze (Zj (Zi GMarks hr rfl T.d_marks.m T.d_marks.F.kp bMarks .nil pass0 (Za (Yn (pv 0) rfl) (Za (Yp (pv 0) T.cl_Judge T.y_Judge_sayings.me GS hr1 bS .nil pass0) Zc))))),?_⟩;refine⟨_,rfl,p,T.c_Judge,dx,_,_,rfl,h1,T.cl_Judge,T.na_Judge_many,Y0 n d,_,rfl,p,dx,_,rfl,h1,Xv n d (by decide +kernel) (by decide +kernel),p,d,n,ps,rfl,J,by omega,hl,fun D qs H2 s2 hD hP hp hs=>?_⟩
  refine⟨D,n,qs,rfl,hP.prs,hin.perm hp,by omega,fun v H3 s3 hv=>q v H3 (s2.trans s3) ?_⟩
  rw[Vl hp] at hv;exact hv.old s2
noncomputable abbrev sBS:Stmt:=(inClass (top 27) 5)
noncomputable abbrev nBS:List Str:=["self"]
noncomputable abbrev pBS:List Str:=["self"]
theorem scBS:FnScope nBS pBS (defScope sBS):=⟨rfl,rfl,rfl,by decide +kernel,rfl,by decide +kernel,by decide +kernel⟩
theorem Zkf(T:Tx K mg):FnOk P w K mg base CX0 6 T.y_Judge_by_spans.a T.y_Judge_by_spans.f pBS (spBy T.c_Judge SpansV):=by
 have GSpans:FnOk P w K mg base CX0 5 T.a_spans T.f_spans pSpans (spSpans K):=Zbu T;have bSpans:Binds K T.f_spans pSpans []:=bd2 T.d_spans.F fun _ _ _ _ _ _ _ _=>rfl;have GS:FnOk P w K mg base CX0 1 T.y_Judge_sayings.a T.y_Judge_sayings.f pSys (spSayings T.c_Judge):=Zds T;have bS:Binds K T.y_Judge_sayings.f pSys []:=bm1 T.y_Judge_sayings.F fun _ _ _ _ _ _ _=>rfl;refine T.y_Judge_by_spans.F.ok scBS (fun vs H Q E h=>?_) (fun cdv A outer s H vs Q E hr h=>?_)
 ·obtain⟨_,_,_,_,rfl,_⟩:=h;rfl
 ·obtain⟨p,d,n,ps,rfl,J,hn,hl,q⟩:=h;have hr1:Room 1 _:=hr.mono (by decide)
  obtain⟨⟨dx,h1⟩,hd,nd,hin⟩:=id J;refine⟨_,(Ze (Zj (Zi GSpans hr rfl T.d_spans.m T.d_spans.F.kp bSpans .nil pass0 (Za (Yn (pv 0) rfl) (Za (Yp (pv 0) T.cl_Judge T.y_Judge_sayings.me GS hr1 bS .nil pass0) Zc))))),?_⟩;refine⟨_,rfl,p,T.c_Judge,dx,_,_,rfl,h1,T.cl_Judge,T.na_Judge_many,Y0 n d,_,rfl,p,dx,_,rfl,h1,Xv n d (by decide +kernel) (by decide +kernel),p,d,n,ps,rfl,J,by omega,hl,fun D qs H2 s2 hD hP hp hs=>?_⟩
  refine⟨D,n,qs,rfl,hP.prs,hin.perm hp,hn,fun v H3 s3 hv=>q v H3 (s2.trans s3) ?_⟩;rw[Vl hp] at hv;exact hv.old s2
end
theorem Zin{a b:Str}(h:(a == b)=false):¬ (V.str a=V.str b):=by
 intro z;injection z with z
 rw[z] at h;simp at h
theorem jfirst{x:V}{xs:List V}:atI (x::xs) 0=some x:=Yf (j:=0) rfl
open Classical in
noncomputable def kindM(n:Nat)(rel:Nat->Nat->Bool):Str:=if NoRnd n rel then (if NoFour n (PBes rel) then (if NoFour n (PRow rel) then "marks" else "row") else "pairs") else "round"
open Classical in
noncomputable def kindS(n:Nat)(rel:Nat->Nat->Bool):Str:=if NoRnd n rel then (if NoFour n (PBes rel) then "spans" else "pairs") else "round"
noncomputable def MkX(H0 H:Hp)(n:Nat)(rel:Nat->Nat->Bool)(xs:List V):Prop:=∃ l m,∃ W:Nat,xs=[.int (W:Int),.ref l]/\H0 l=none/\H l=some (.lst (Fnd n m))/\1<=W/\Tells n rel W m/\(∀ a,a<n->KP.Low n (stW rel W) m a)/\∀ W':Nat,1<=W'->W'<W->∃ c,KP.Mis n (stW rel (W':Int)) c
theorem MarksV.kd{H0 H:Hp}{n:Nat}{rel:Nat->Nat->Bool}{v:V}(h:MarksV H0 H n rel v):∃ t xs,v=.ref t/\H t=some (.tup (.str (kindM n rel)::xs))/\(kindM n rel="marks"->MkX H0 H n rel xs):=by
 rcases h with ⟨t,l,m,W,rfl,ht,hl0,hl,hW1,hW2,hm,hlow,hb⟩ | ⟨t,l,c,rfl,ht,hl0,hl,hR,hc,hcl⟩ | ⟨hno,t,t',x,y,z,u,rfl,ht,F,hp⟩ | ⟨hno,hnb,t,t',x,y,z,u,rfl,ht,F,hp⟩
 ·have e:kindM n rel="marks":=by
   unfold kindM;rw[if_pos (Zan (by omega) hm),if_pos (Zao hm),if_pos (Zam hm)]
  exact⟨t,_,rfl,by rw[e];exact ht,fun _=>⟨l,m,W,rfl,hl0,hl,hW1,hm,hlow,hb⟩⟩
 ·have e:kindM n rel="round":=by
   unfold kindM;rw[if_neg fun g=>hR.ne (g c hc hR.fwd)]
  exact⟨t,_,rfl,by rw[e];exact ht,fun z=>absurd (e.symm.trans z) (by decide +kernel)⟩
 ·have e:kindM n rel="pairs":=by
   unfold kindM;rw[if_pos hno,if_neg fun g=>g x y z u F.ha F.hb F.hc F.hd hp]
  exact⟨t,_,rfl,by rw[e];exact ht,fun z=>absurd (e.symm.trans z) (by decide +kernel)⟩
 ·have e:kindM n rel="row":=by
   unfold kindM;rw[if_pos hno,if_pos hnb,if_neg fun g=>g x y z u F.ha F.hb F.hc F.hd hp]
  exact⟨t,_,rfl,by rw[e];exact ht,fun z=>absurd (e.symm.trans z) (by decide +kernel)⟩
theorem Zij{n:Nat}{rel:Nat->Nat->Bool}{m m':Nat->Int}{W W':Nat}(T:Tells n rel W m)(L:∀ a,a<n->KP.Low n (stW rel W) m a)(b:∀ V:Nat,1<=V->V<W->∃ c,KP.Mis n (stW rel (V:Int)) c)(h1:1<=W)
  (T':Tells n rel W' m') (L':∀ a,a<n->KP.Low n (stW rel W') m' a) (b':∀ V:Nat,1<=V->V<W'->∃ c,KP.Mis n (stW rel (V:Int)) c) (h1':1<=W'):W=W'/\Fnd n m=Fnd n m':=by
 have e:W=W':=by
  rcases Nat.lt_trichotomy W W' with g | g | g
  ·obtain⟨c,hc⟩:=b' W h1 g;exact (KP.mis_no hc T.sat).elim
  ·exact g
  ·obtain⟨c,hc⟩:=b W' h1' g;exact (KP.mis_no hc T'.sat).elim
 subst e;exact⟨rfl,Zgb T L T' L'⟩
theorem SpansV.kd{H0 H:Hp}{n:Nat}{rel:Nat->Nat->Bool}{v:V}(h:SpansV H0 H n rel v)(hn:1<=n):∃ t x zs,v=.ref t/\H t=some (.tup [.str (kindS n rel),.ref x])/\zs≠[]/\((H0 x=none/\H x=some (.lst zs))∨(¬ (V.str (kindS n rel)=V.str "spans")/\H x=some (.tup zs))):=by
 rcases h with ⟨t,l,ks,hi,rfl,ht,hl0,⟨rs,hl,hP⟩,SZ,SP,hno,hnb⟩ | ⟨t,l,c,rfl,ht,hl0,hl,hR,hc,hcl⟩ | ⟨hno,t,t',x,y,z,u,rfl,ht,F,hp⟩
 ·have e:kindS n rel="spans":=by
   unfold kindS;rw[if_pos hno,if_pos hnb]
  refine⟨t,l,_,rfl,by rw[e];exact ht,?_,.inl ⟨hl0,hl⟩⟩
  intro z;have:=Paired.length hP;rw[List.length_map,List.length_range,show rs.length=0 from by simpa using congrArg List.length z] at this
  omega
 ·have e:kindS n rel="round":=by
   unfold kindS;rw[if_neg fun g=>hR.ne (g c hc hR.fwd)]
  refine⟨t,l,_,rfl,by rw[e];exact ht,?_,.inl ⟨hl0,hl⟩⟩
  intro z;exact hR.ne (by simpa[Iv] using z)
 ·have e:kindS n rel="pairs":=by
   unfold kindS;rw[if_pos hno,if_neg fun g=>g x y z u F.ha F.hb F.hc F.hd hp]
  exact⟨t,t',[.int x,.int y,.int z,.int u],rfl,by rw[e];exact ht,(fun z=>nomatch z),.inr ⟨by rw[e];exact Zin (by decide +kernel),F.at_⟩⟩
theorem Zb8{K:PySem.W.Frag}{H:Hp}{k:Nat}:∀ xs:List V,(∀ x∈xs,flatV x=true/\eqV x x=true)->Paired (EqT K H k) xs xs
 | [],_=>.nil
 | x::xs,h=>.cons (.flat (h x List.mem_cons_self).1 (h x List.mem_cons_self).2) (Zb8 xs fun y hy=>h y (List.mem_cons_of_mem _ hy))
section
variable{P:Program}{w:World}{K:PySem.W.Frag}{mg:Str->Option Value}{base:Heap}
noncomputable def spTells(C:Addr):Sp:=fun vs H Q _=>∃ (p d pl:Addr) (n:Nat) (ps qs:List (Int×Int)),vs=[.ref p,.ref pl,.int n]/\JAt C H p d n ps/\PrsO H pl qs/\(∀ x,x∈qs↔x∈ps)/\1<=n/\n<=60/\ps.length<128/\qs.length<1000/\∀ H',Same H H'->Q (.bl true) H'
noncomputable abbrev sTls:Stmt:=(top 34)
noncomputable abbrev nTls:List Str:=["judge","pairs","many","found","due","wide"]
noncomputable abbrev pTls:List Str:=["judge","pairs","many"]
theorem scTls:FnScope nTls pTls (defScope sTls):=⟨rfl,rfl,rfl,by decide +kernel,rfl,by decide +kernel,by decide +kernel⟩
theorem Zhb(T:Tx K mg):FnOk P w K mg base CX0 7 T.a__law_tells T.f__law_tells pTls (spTells T.c_Judge):=by
 have GMarks:FnOk P w K mg base CX0 5 T.a_marks T.f_marks pMarks (spMarks K):=Zbv T;have bMarks:Binds K T.f_marks pMarks []:=bd2 T.d_marks.F fun _ _ _ _ _ _ _ _=>rfl;have GSpans:FnOk P w K mg base CX0 5 T.a_spans T.f_spans pSpans (spSpans K):=Zbu T;have bSpans:Binds K T.f_spans pSpans []:=bd2 T.d_spans.F fun _ _ _ _ _ _ _ _=>rfl;have GM:FnOk P w K mg base CX0 6 T.y_Judge_by_marks.a T.y_Judge_by_marks.f pBM (spBy T.c_Judge MarksV):=Zkg T;have bM:Binds K T.y_Judge_by_marks.f pBM []:=bm1 T.y_Judge_by_marks.F fun _ _ _ _ _ _ _=>rfl;have GS:FnOk P w K mg base CX0 6 T.y_Judge_by_spans.a T.y_Judge_by_spans.f pBS (spBy T.c_Judge SpansV):=Zkf T;have bS:Binds K T.y_Judge_by_spans.f pBS []:=bm1 T.y_Judge_by_spans.F fun _ _ _ _ _ _ _=>rfl;refine T.d__law_tells.F.ok scTls (fun vs H Q E h=>?_) (fun cdv A outer s H vs Q E hr h=>?_)
 ·obtain⟨_,_,_,_,_,_,rfl,_⟩:=h;rfl
 ·obtain⟨p,d,pl,n,ps,qs,rfl,J,hQ,hiff,hn1,hn,hl,hql,q⟩:=h;have hz:=sizeLine_eq;have hu2:=Nat.lt_of_le_of_lt (Nat.add_le_add_left (by decide:1+1<=64) _) hr.units
  have hr5:Room 5 _:=hr.mono (by decide)
  obtain⟨⟨dx,h1⟩,hd,nd,hin⟩:=id J;have hinq:In n qs:=fun x hx=>hin x ((hiff x).mp hx);have hb:better qs=better ps:=V8 hiff;obtain⟨rq,hrq,hPq⟩:=id hQ;have hrl:rq.length<1000:=by rw[Paired.length hPq];exact hql
  refine⟨_,(Zd (Zk (i:=3) scTls.nd rfl (Or.inl rfl) (Yp (pv 0) T.cl_Judge T.y_Judge_by_marks.me GM hr bM .nil pass0))
   (Zd (Zk (i:=4) scTls.nd rfl (Or.inl rfl) (Zi GMarks hr5 rfl T.d_marks.m T.d_marks.F.kp bMarks .nil pass0 (Za (pv 2) (Za (Yg (listS (K:=K) rfl) (by rfl) T.B.list (by decide +kernel) (Za (pv 1) Zc)) Zc))))
   (Zd (Zk (i:=5) scTls.nd rfl (Or.inl rfl) (Yp (pv 0) T.cl_Judge T.y_Judge_by_spans.me GS hr bS .nil pass0))
   (Zd (Xk (Zv (PW.pt (Zaq (Zo Zh9 (Zq (ixT (K:=K) rfl) (pv 3) Zg (fun _ _=>rfl)) (Zq (ixT (K:=K) rfl) (pv 4) Zg (fun _ _=>rfl)) (nomark _)) (Vs (PW.pt (U8 (Zo Xr (Zq (ixT (K:=K) rfl) (pv 3) Zg (fun _ _=>rfl)) Y9 (nomark _)) (Ws (Zo (Zg7 (n:=1) hu2) (pv 3) (pv 4) (nomark _)))))))) (Ze (Zj Ye)) Zl))
   (Zd (Zv (Zo Zh9 (Zq (ixT (K:=K) rfl) (pv 5) Zg (fun _ _=>rfl)) (Zq (ixT (K:=K) rfl) (Zi GSpans hr5 rfl T.d_spans.m T.d_spans.F.kp bSpans .nil pass0 (Za (pv 2) (Za (Yg (listS (K:=K) rfl) (by rfl) T.B.list (by decide +kernel) (Za (pv 1) Zc)) Zc))) Zg (fun _ _=>rfl)) (nomark _)) (Ze (Zj Ye)) Zl)
   (Zd (Xk (Zv (Zo Xr (Zq (ixT (K:=K) rfl) (pv 3) Zg (fun _ _=>rfl)) Y9 (nomark _)) (Ze (Zz (peM0 (K:=K) rfl PySem.F.plainAttrs_list PySem.F.slot_list_clear PySem.F.type_list_clear Zby (Zq (ixT (K:=K) rfl) (pv 3) Zg (fun _ _=>rfl))))) Zl))
   (Zd (Xk (Zv (Zo Xr (Zq (ixT (K:=K) rfl) (pv 5) Zg (fun _ _=>rfl)) Y9 (nomark _)) (Ze (Zz (peM0 (K:=K) rfl PySem.F.plainAttrs_list PySem.F.slot_list_clear PySem.F.type_list_clear Zby (Zq (ixT (K:=K) rfl) (pv 5) Zg (fun _ _=>rfl))))) Zl))
   (Ze (Zj (U9 (Xn Xr (Zq (ixT (K:=K) rfl) (Yp (pv 0) T.cl_Judge T.y_Judge_by_marks.me GM hr bM .nil pass0) Zg (fun _ _=>rfl)) (Zq (ixT (K:=K) rfl) (pv 4) Zg (fun _ _=>rfl)) (nomark _)) (Zbm (Xn Zj9 (Zm (lenS (K:=K) rfl) (by rfl) T.B.len PySem.boot_len (Za (Zq (ixT (K:=K) rfl) (Yp (pv 0) T.cl_Judge T.y_Judge_by_spans.me GS hr bS .nil pass0) Zg (fun _ _=>rfl)) Zc)) Zg (nomark _))))))))))))),?_⟩
  have jn1:(jf n d).lookup ("by_marks":Str)=none:=Xv n d (by decide +kernel) (by decide +kernel)
  have jn2:(jf n d).lookup ("by_spans":Str)=none:=Xv n d (by decide +kernel) (by decide +kernel)
  refine⟨_,rfl,p,dx,_,rfl,h1,jn1,p,d,n,ps,rfl,J,hn,hl,fun v1 H1 s1 hv1=>?_⟩;obtain⟨t1,xs1,rfl,ht1,hk1⟩:=hv1.kd;refine⟨_,rfl,_,rfl,pl,_,rfl,.inl (SqL.of (s1 _ _ hrq)),fun c1 hc1=>?_⟩;have s2:=s1.trans (Same.new (o:=.lst (rq.map V.ref)) hc1);refine⟨c1,n,qs,rfl,⟨rq,SqL.of Zb,Yl hPq s2⟩,hinq,by omega,fun v2 H2 s12 hv2=>?_⟩
  have s3:=s2.trans s12;have s13:Same H1 H2:=(Same.new hc1).trans s12;rw[hb] at hv2;obtain⟨t2,xs2,rfl,ht2,hk2⟩:=hv2.kd;refine⟨_,rfl,p,dx,_,rfl,s3 _ _ h1,jn2,p,d,n,ps,rfl,J.same s3,hn,hl,fun v3 H3 s23 hv3=>?_⟩;have s4:=s3.trans s23;obtain⟨t3,x3,zs3,rfl,ht3,hz3,hx3⟩:=hv3.kd hn1;have ht1':=s23 _ _ (s13 _ _ ht1);have ht2':=s23 _ _ ht2;refine⟨fun σ' H'=>σ'=[some (.ref p),some (.ref pl),some (.int n),some (.ref t1),some (.ref t2),some (.ref t3)]/\H'=H3,?_,?_⟩
  ·refine⟨_,rfl,t1,_,_,_,rfl,rfl,SqT.of ht1',jfirst,_,rfl,t2,_,_,_,rfl,rfl,SqT.of ht2',jfirst,rfl,_,rfl,iteNS rfl ?_⟩;refine⟨_,rfl,t1,_,_,_,rfl,rfl,SqT.of ht1',jfirst,rfl,_,rfl,?_⟩;by_cases hk:kindM n (better ps)="marks"
   ·obtain⟨l1,m1,W1,rfl,hl10,hl1,hW1,hT1,hL1,hb1⟩:=hk1 hk;obtain⟨l2,m2,W2,rfl,hl20,hl2,hW2,hT2,hL2,hb2⟩:=hk2 hk;obtain⟨rfl,hF⟩:=Zij hT1 hL1 hb1 hW1 hT2 hL2 hb2 hW2;rw[decide_eq_true (by rw[hk])]
    refine iteT ⟨_,rfl,_,rfl,rEqS.true (.inr ⟨SqT.of ht1',SqT.of ht2'⟩) (.cons (.flat rfl (by simp[eqV])) (.cons (.flat rfl (by simp[eqV])) (.cons (EqT.seq (.inl ⟨SqL.of (s23 _ _ (s13 _ _ hl1)),SqL.of (s23 _ _ hl2)⟩) ?_) .nil))) ⟨_,rfl,iteF ⟨rfl,rfl⟩⟩⟩
    rw[hF];exact Zb8 _ fun x hx=>by
     unfold Fnd at hx;obtain⟨a,_,rfl⟩:=List.mem_map.mp hx;exact⟨rfl,by simp[eqV]⟩
   ·rw[decide_eq_false (by intro z;injection z with z;exact hk z)]
    exact iteF (iteF ⟨rfl,rfl⟩)
  ·rintro σ' H' ⟨rfl,rfl⟩;refine⟨_,rfl,t3,_,_,_,rfl,rfl,SqT.of ht3,two0,_,rfl,_,rfl,pl,_,rfl,.inl (SqL.of (s4 _ _ hrq)),fun c2 hc2=>?_⟩;have s5:=s4.trans (Same.new (o:=.lst (rq.map V.ref)) hc2);refine⟨c2,n,qs,rfl,⟨rq,SqL.of Zb,Yl hPq s5⟩,hinq,hn,fun v4 H4 s34 hv4=>?_⟩;have s6:=s5.trans s34;have s36:Same H' H4:=(Same.new hc2).trans s34;rw[hb] at hv4;obtain⟨t4,x4,zs4,rfl,ht4,hz4,hx4⟩:=hv4.kd hn1;refine⟨t4,_,_,_,rfl,rfl,SqT.of ht4,two0,rfl,_,rfl,iteNS rfl ?_⟩;have g1:=s36 _ _ ht1';have g2:=s36 _ _ ht2';have g3:=s36 _ _ ht3;refine⟨fun σ' H5=>σ'=[some (.ref p),some (.ref pl),some (.int n),some (.ref t1),some (.ref t2),some (.ref t3)]/\Same H H5/\H5 t2=some (.tup (.str (kindM n (better ps))::xs2))/\H5 t3=some (.tup [.str (kindS n (better ps)),.ref x3])/\((H x3=none/\∃ zs,H5 x3=some (.lst zs))∨¬ (V.str (kindS n (better ps))=V.str "spans")),?_,?_⟩
   ·have base3:(H x3=none/\∃ zs,H4 x3=some (.lst zs))∨¬ (V.str (kindS n (better ps))=V.str "spans"):=by
     rcases hx3 with ⟨a1,a2⟩ | ⟨a1,a2⟩
     ·exact .inl ⟨s3.free a1,_,s36 _ _ a2⟩
     ·exact .inr a1
    refine⟨_,rfl,t1,_,_,_,rfl,rfl,SqT.of g1,jfirst,rfl,_,rfl,?_⟩;by_cases hk:kindM n (better ps)="marks"
    ·obtain⟨l1,m1,W1,rfl,hl10,hl1,_⟩:=hk1 hk;have hl1':=s36 _ _ (s23 _ _ (s13 _ _ hl1));rw[decide_eq_true (by rw[hk])]
     refine iteT ⟨_,rfl,t1,_,_,_,rfl,rfl,SqT.of g1,three2,.inl ⟨rfl,_,SqL.of hl1'⟩,l1,_,rfl,rfl,hl1',rfl,s6.put hl10,?_,?_,?_⟩
     ·rw[Zh (Zy g2 hl1' (by intro z;cases z))]
      exact g2
     ·rw[Zh (Zy g3 hl1' (by intro z;cases z))]
      exact g3
     ·rcases base3 with ⟨a1,zs,a2⟩ | a1
      ·refine .inl ⟨a1,?_⟩;by_cases e:x3=l1
       ·rw[e];exact⟨_,Zb⟩
       ·exact⟨zs,by rw[Zh e];exact a2⟩
      ·exact .inr a1
    ·rw[decide_eq_false (by intro z;injection z with z;exact hk z)]
     exact iteF ⟨rfl,s6,g2,g3,base3⟩
   ·rintro σ' H5 ⟨rfl,s7,i2,i3,i4⟩;refine⟨fun σ' H6=>σ'=[some (.ref p),some (.ref pl),some (.int n),some (.ref t1),some (.ref t2),some (.ref t3)]/\Same H H6/\H6 t2=some (.tup (.str (kindM n (better ps))::xs2)),?_,?_⟩
    ·refine⟨_,rfl,t3,_,_,_,rfl,rfl,SqT.of i3,two0,rfl,_,rfl,?_⟩;by_cases hk:V.str (kindS n (better ps))=V.str "spans"
     ·rcases i4 with ⟨a1,zs,a2⟩ | a1
      ·rw[decide_eq_true hk];refine iteT ⟨_,rfl,t3,_,_,_,rfl,rfl,SqT.of i3,two1,.inl ⟨rfl,_,SqL.of a2⟩,x3,_,rfl,rfl,a2,rfl,s7.put a1,?_⟩;rw[Zh (Zy i2 a2 (by intro z;cases z))]
       exact i2
      ·exact absurd hk a1
     ·rw[decide_eq_false hk];exact iteF ⟨rfl,s7,i2⟩
    ·rintro σ' H6 ⟨rfl,s8,j2⟩;refine⟨_,rfl,p,dx,_,rfl,s8 _ _ h1,jn1,p,d,n,ps,rfl,J.same s8,hn,hl,fun v5 H7 s67 hv5=>?_⟩;obtain⟨t5,xs5,rfl,ht5,_⟩:=hv5.kd;have s9:=s8.trans s67;refine⟨t5,_,_,_,rfl,rfl,SqT.of ht5,jfirst,_,rfl,t2,_,_,_,rfl,rfl,SqT.of (s67 _ _ j2),jfirst,rfl,_,rfl,?_⟩;rw[decide_eq_true rfl];refine iteT ⟨_,rfl,p,dx,_,rfl,s9 _ _ h1,jn2,p,d,n,ps,rfl,J.same s9,hn,hl,fun v6 H8 s78 hv6=>?_⟩;obtain⟨t6,x6,zs6,rfl,ht6,hz6,hx6⟩:=hv6.kd hn1;have s10:=s9.trans s78;have hpos:decide ((0:Int)<(zs6.length:Int))=true:=decide_eq_true (by have:=List.length_pos_iff.mpr hz6;omega)
     rcases hx6 with ⟨_,a2⟩ | ⟨_,a2⟩
     ·refine⟨t6,_,_,_,rfl,rfl,SqT.of ht6,two1,x6,_,rfl,.inl (SqL.of a2),_,_,rfl,rfl,?_⟩;show Q (V.bl (decide ((0:Int)<(zs6.length:Int)))) _;rw[hpos];exact q _ s10
     ·refine⟨t6,_,_,_,rfl,rfl,SqT.of ht6,two1,x6,_,rfl,.inr (SqT.of a2),_,_,rfl,rfl,?_⟩;show Q (V.bl (decide ((0:Int)<(zs6.length:Int)))) _;rw[hpos];exact q _ s10
end
section
variable{P:Program}{w:World}{K:PySem.W.Frag}{mg:Str->Option Value}{base:Heap}
noncomputable def spWh(C:Addr)(xs:List V):Sp:=fun vs H Q _=>∃ a,vs=[.ref a]/\H a=some (ExcO a C)/\∀ l H',Same H H'->H l=none->H' l=some (.lst xs)->Q (.ref l) H'
noncomputable abbrev sWh:Stmt:=(top 32)
noncomputable abbrev nWh:List Str:=["e","some"]
noncomputable abbrev pWh:List Str:=["e"]
theorem scWh:FnScope nWh pWh (defScope sWh):=⟨rfl,rfl,rfl,by decide +kernel,rfl,by decide +kernel,by decide +kernel⟩
theorem Zkb(T:Tx K mg){C:Addr}{b1 b2 b3 b4:Bool}(xi:XIs K C)(kv:PySem.W.kitOne K (.ref C) (.type "ValueError")=some true)
  (k1:PySem.W.kitOne K (.ref C) (.ref T.c_BadSay)=some b1) (k2:PySem.W.kitOne K (.ref C) (.ref T.c_NoSay)=some b2) (k3:PySem.W.kitOne K (.ref C) (.ref T.c_NoWidth)=some b3) (k4:PySem.W.kitOne K (.ref C) (.ref T.c_BadLine)=some b4):
  FnOkH P w K mg base 1 T.a__law_which T.f__law_which pWh (spWh C [.bl b1,.bl b2,.bl b3,.bl b4,.bl true]):=by
 refine okH T.d__law_which.F scWh (fun vs H Q E h=>?_) (fun cdv A outer s H vs Q E hr h=>?_)
 ·obtain⟨_,rfl,_⟩:=h;rfl
 ·obtain⟨a,rfl,ha,q⟩:=h;have hz:=sizeLine_eq;refine⟨_,(Zd (Zk (i:=1) scWh.nd rfl (Or.inl rfl) (Z1 (Za (Zm (Xz rfl) (by rfl) T.B.isinstance boot_isinstance (Za (pv 0) (Za (Ww (v:=.ref T.c_BadSay) rfl T.mc_BadSay rfl) Zc))) (Za (Zm (Xz rfl) (by rfl) T.B.isinstance boot_isinstance (Za (pv 0) (Za (Ww (v:=.ref T.c_NoSay) rfl T.mc_NoSay rfl) Zc))) (Za (Zm (Xz rfl) (by rfl) T.B.isinstance boot_isinstance (Za (pv 0) (Za (Ww (v:=.ref T.c_NoWidth) rfl T.mc_NoWidth rfl) Zc))) (Za (Zm (Xz rfl) (by rfl) T.B.isinstance boot_isinstance (Za (pv 0) (Za (Ww (v:=.ref T.c_BadLine) rfl T.mc_BadLine rfl) Zc))) Zc))))))
   (Ze (Zj (Zr Zdp (pv 1) (Z1 (Za (Zm (Xz rfl) (by rfl) T.B.isinstance boot_isinstance (Za (pv 0) (Za (X2 (v:=.ty "ValueError") (by rfl) T.B.ValueError (by decide +kernel) rfl) Zc))) Zc)))))),?_⟩
  refine⟨_,rfl,a,C,_,_,b1,rfl,(fun _ r=>r),ha,xi,k1,_,rfl,a,C,_,_,b2,rfl,(fun _ r=>r),ha,xi,k2,_,rfl,a,C,_,_,b3,rfl,(fun _ r=>r),ha,xi,k3,_,rfl,a,C,_,_,b4,rfl,(fun _ r=>r),ha,xi,k4,(by show 4<=sizeLine;decide),fun l1 hl1=>?_⟩
  have s1:=Same.new (o:=.lst [.bl b1,.bl b2,.bl b3,.bl b4]) hl1;refine⟨_,rfl,_,rfl,a,C,_,_,true,rfl,(fun _ r=>r),s1 _ _ ha,xi,kv,(by show 1<=sizeLine;decide),fun l2 hl2=>?_⟩
  have s2:=Same.new (o:=.lst [.bl true]) hl2;refine⟨l1,l2,_,_,rfl,rfl,s2 _ _ Zb,Zb,(by show 4+1<=sizeLine;decide),fun l3 hl3=>?_⟩
  have s3:=s1.trans s2;exact q l3 _ (s3.trans (Same.new hl3)) (s3.free hl3) Zb
noncomputable abbrev sRf:Stmt:=(top 33)
noncomputable abbrev nRf:List Str:=["judge","way","one","other","told","e"]
noncomputable abbrev pRf:List Str:=["judge","way","one","other"]
theorem scRf:FnScope nRf pRf (defScope sRf):=⟨rfl,rfl,rfl,by decide +kernel,rfl,by decide +kernel,by decide +kernel⟩
noncomputable def spRf(C J:Addr)(sp1 sp2:Sp)(xs:List V):Sp:=fun vs H Q _=>∃ (p dx:Addr) (fs:List (Str×V)) (way a b:Int),vs=[.ref p,.int way,.int a,.int b]/\H p=some (.ins J dx fs)/\fs.lookup ("say":Str)=none/\fs.lookup ("unsay":Str)=none /\
 (way=0->∀ (H0:Hp) (Q':VK) (E':XK),Same H H0->(∀ H2,Same H0 H2->E' (.ref C) none H2)->sp1 [.ref p,.int a,.int b] H0 Q' E') /\
 (¬ way=0->∀ (H0:Hp) (Q':VK) (E':XK),Same H H0->(∀ H2,Same H0 H2->E' (.ref C) none H2)->sp2 [.ref p,.int a,.int b] H0 Q' E') /\
 ∀ l H',Same H H'->H l=none->H' l=some (.lst xs)->Q (.ref l) H'
theorem Zji(T:Tx K mg){C:Addr}{b1 b2 b3 b4:Bool}{sp1 sp2:Sp}(G1:FnOk P w K mg base (CX1 P w) 2 T.y_Judge_say.a T.y_Judge_say.f pSay sp1)(G2:FnOk P w K mg base (CX1 P w) 2 T.y_Judge_unsay.a T.y_Judge_unsay.f pUns sp2)(xi:XIs K C)(em:PySem.W.exmOne K (.ref C) (.ref T.c_KeenError)=some true)(kv:PySem.W.kitOne K (.ref C) (.type "ValueError")=some true)
  (k1:PySem.W.kitOne K (.ref C) (.ref T.c_BadSay)=some b1) (k2:PySem.W.kitOne K (.ref C) (.ref T.c_NoSay)=some b2) (k3:PySem.W.kitOne K (.ref C) (.ref T.c_NoWidth)=some b3) (k4:PySem.W.kitOne K (.ref C) (.ref T.c_BadLine)=some b4):
  FnOk P w K mg base CX0 3 T.a__law_refused T.f__law_refused pRf (spRf C T.c_Judge sp1 sp2 [.bl b1,.bl b2,.bl b3,.bl b4,.bl true]):=by
 have GW:=Zkb (P:=P) (w:=w) (base:=base) T xi kv k1 k2 k3 k4;have bW:Binds K T.f__law_which pWh []:=bd1 T.d__law_which.F fun _ _ _ _ _ _ _=>rfl;have c1:Binds K T.y_Judge_say.f pSay []:=bm3 T.y_Judge_say.F fun _ _ _ _ _ _ _ _ _=>rfl;have c2:Binds K T.y_Judge_unsay.f pUns []:=bm3 T.y_Judge_unsay.F fun _ _ _ _ _ _ _ _ _=>rfl;refine T.d__law_refused.F.ok scRf (fun vs H Q E h=>?_) (fun cdv A outer s H vs Q E hr h=>?_)
 ·obtain⟨_,_,_,_,_,_,rfl,_⟩:=h;rfl
 ·obtain⟨p,dx,fs,way,a,b,rfl,hp,n1,n2,h1,h2,q⟩:=h;have hr1:Room 1 _:=hr.mono (by decide)
  refine⟨_,(Zd (Zk (i:=4) scRf.nd rfl (Or.inl rfl) (Z1 Zc))
   (Zd (Zh2 (i:=5) rfl rfl rfl (Zj8 (Zo Xr (pv 1) Zg (nomark _)) (Zdn (pv 0) T.cl_Judge T.y_Judge_say.me G1 hr c1 (Za (pv 2) (Za (pv 3) Zc))) (Zdn (pv 0) T.cl_Judge T.y_Judge_unsay.me G2 hr c2 (Za (pv 2) (Za (pv 3) Zc)))) rfl T.mc_KeenError scRf.nd rfl rfl
    (fun e=>(Ze (Zk (i:=4) scRf.nd rfl (Or.inl rfl) (Zfx GW (hr1.h _) rfl T.d__law_which.m T.d__law_which.F.kp bW (Za (pv 5) Zc))))))
   (Ze (Zj (pv 4))))),?_⟩
  refine⟨Nat.zero_le _,fun l0 hl0=>?_⟩;have s1:Same H (upd H l0 (.lst [])):=Same.new hl0;have fin:∀ (H2:Hp) (e:Addr),Same (upd H l0 (.lst [])) H2->H2 e=none->∀ l H3,Same (upd H2 e (ExcO e C)) H3->(upd H2 e (ExcO e C)) l=none->H3 l=some (.lst [.bl b1,.bl b2,.bl b3,.bl b4,.bl true])->Q (.ref l) H3:=fun H2 e s2 he l H3 s3 hl hl3=>by
   have s4:=(s1.trans s2).trans (Same.new (o:=ExcO e C) he);exact q l H3 (s4.trans s3) (s4.free hl) hl3
  refine⟨_,rfl,rfl,_,rfl,ite2 (fun hw=>?_) (fun hw=>?_)⟩
  ·have hw0:way=0:=by
    have:=of_decide_eq_true hw;injection this
   refine⟨_,rfl,p,dx,fs,rfl,s1 _ _ hp,n1,_,rfl,_,rfl,h1 hw0 _ _ _ s1 fun H2 s2=>⟨C,rfl,em,fun e he=>?_⟩⟩;exact⟨_,rfl,e,rfl,Zb,fun l H3 s3 hl hl3=>⟨_,rfl,fin H2 e s2 he l H3 s3 hl hl3⟩⟩
  ·have hw0:¬ way=0:=fun z=>hw (decide_eq_true (by rw[z]))
   refine⟨_,rfl,p,dx,fs,rfl,s1 _ _ hp,n2,_,rfl,_,rfl,h2 hw0 _ _ _ s1 fun H2 s2=>⟨C,rfl,em,fun e he=>?_⟩⟩;exact⟨_,rfl,e,rfl,Zb,fun l H3 s3 hl hl3=>⟨_,rfl,fin H2 e s2 he l H3 s3 hl hl3⟩⟩
noncomputable def spSame(_:PySem.W.Frag):Sp:=fun vs H Q _=>∃ (l1 l2:Addr) (qs ps:List (Int×Int)),vs=[.ref l1,.ref l2]/\PrsO H l1 qs/\SrtP qs/\PrsO H l2 ps/\qs.Perm ps/\(∀ p∈ps,0<=p.2/\p.2<1000)/\ps.length<128/\∀ H',Same H H'->Q (.bl true) H'
theorem Zer{H:Hp}:∀ {rs rs':List Addr} {ps:List (Int×Int)},Paired (Pr H) rs ps->Paired (Pr H) rs' ps->Paired (EqT K H 1) (rs.map V.ref) (rs'.map V.ref)
 | [],_,_,.nil,.nil=>.nil
 | r::rs,_,_,.cons h1 t1,.cons h2 t2=>.cons (EqT.seq (.inr ⟨SqT.of h1,SqT.of h2⟩) (.cons (.flat rfl (by simp[eqV])) (.cons (.flat rfl (by simp[eqV])) .nil))) (Zer t1 t2)
theorem kitTT(K:PySem.W.Frag):PySem.W.kitOne K (.type "tuple") (.type "tuple")=some true:=by rfl
noncomputable abbrev sSm:Stmt:=(top 36)
noncomputable abbrev nSm:List Str:=["found","pairs","pair"]
noncomputable abbrev pSm:List Str:=["found","pairs"]
theorem scSm:FnScope nSm pSm (defScope sSm):=⟨rfl,rfl,rfl,by decide +kernel,rfl,by decide +kernel,by decide +kernel⟩
theorem Zkc(T:Tx K mg):FnOk P w K mg base CX0 2 T.a__law_same T.f__law_same pSm (spSame K):=by
 have GWhole:FnOk P w K mg base CX0 1 T.a__law_whole T.f__law_whole pWhole (spWhole K):=Zbs T.d__law_whole T.B;have bWhole:Binds K T.f__law_whole pWhole []:=bd1 T.d__law_whole.F fun _ _ _ _ _ _ _=>rfl;refine T.d__law_same.F.ok scSm (fun vs H Q E h=>?_) (fun cdv A outer s H vs Q E hr h=>?_)
 ·obtain⟨_,_,_,_,rfl,_⟩:=h;rfl
 ·obtain⟨l1,l2,qs,ps,rfl,⟨r1,hl1,hP1⟩,hs,⟨r2,hl2,hP2⟩,hp,hb,hlen,q⟩:=h;have hz:=sizeLine_eq;have hu2:=Nat.lt_of_le_of_lt (Nat.add_le_add_left (by decide:1+1<=64) _) hr.units
  refine⟨_,(Zd (Zv (PW.pt (Zaq (Yk (Z9 (Zm (isinS (K:=K) rfl) (by rfl) T.B.isinstance boot_isinstance (Za (pv 0) (Za (X2 (v:=.ty "list") (by rfl) T.B.list (by decide +kernel) rfl) Zc))))) (Vs (Zo (Zg7 (n:=1) hu2) (pv 0) (Zm (Ju rfl) (by rfl) T.B.sorted PyProof.Rows.boot_sorted (Za (pv 1) Zc)) (nomark _))))) (Ze (Zj Ye)) Zl)
   (Zd (Z0 PassesOwn.never rfl (piL (K:=K) rfl (pv 0)) (Zn (i:=2) scSm.nd rfl (Or.inl rfl))
    (Ze (Zv (PW.pt (Zaq (Yk (Z9 (Zm (isinS (K:=K) rfl) (by rfl) T.B.isinstance boot_isinstance (Za (pv 2) (Za (X2 (v:=.ty "tuple") (by rfl) T.B.tuple (by decide +kernel) rfl) Zc))))) (Zaq (Yk (Z9 (Zi GWhole hr rfl T.d__law_whole.m T.d__law_whole.F.kp bWhole .nil pass0 (Za (Zq (ixT (K:=K) rfl) (pv 2) Zg (fun _ _=>rfl)) Zc)))) (Vs (Yk (Z9 (Zi GWhole hr rfl T.d__law_whole.m T.d__law_whole.F.kp bWhole .nil pass0 (Za (Zq (ixT (K:=K) rfl) (pv 2) Zg (fun _ _=>rfl)) Zc)))))))) (Ze (Zj Ye)) Zl)))
   (Ze (Zj Ye)))),?_⟩
  refine⟨_,rfl,_,_,_,_,rfl,.lst hl1,kit3 K,_,rfl,iteF ?_⟩;refine⟨_,rfl,_,rfl,l2,r2,ps,rfl,SqL.of hl2,hP2,hb,by rw[Paired.length hP2];exact hlen,fun D rs' ps' hD hP' hp' hs'=>?_⟩
  have e:ps'=qs:=Zc7 (hp'.trans hp.symm) hs' hs fun p hp2=>hb p (hp'.mem_iff.mp hp2);subst e;have s1:=Same.new (o:=.lst (rs'.map V.ref)) hD;refine rEqS.true (.inl ⟨SqL.of (s1 _ _ hl1),SqL.of Zb⟩) (Zer (Yl hP1 s1) (Yl hP' s1)) ⟨_,rfl,iteF ?_⟩;refine⟨_,rfl,l1,rfl,⟨_,SqL.of (s1 _ _ hl1)⟩,Z8 (K:=K) (a:=l1) (xs:=r1.map V.ref) (fun i σ H2=>∃ v,σ=[some (.ref l1),some (.ref l2),v]/\Same H H2) ⟨none,rfl,s1⟩ (fun i σ H2 _ ⟨_,_,s2⟩=>s2.seq (SqL.of hl1)) ?_ ?_⟩
  ·rintro i y σ H2 hi ⟨v,rfl,s2⟩;obtain⟨r,hr',rfl⟩:=Y6 hi;obtain⟨⟨a,b⟩,hab,hpr⟩:=Paired.at hP1 hr';have hr2:=s2 _ _ hpr;refine⟨_,rfl,_,_,_,_,rfl,.tup hr2,kitTT K,_,rfl,iteF ⟨_,rfl,r,_,_,_,rfl,rfl,SqT.of hr2,two0,_,rfl,_,rfl,iteF ⟨_,rfl,r,_,_,_,rfl,rfl,SqT.of hr2,two1,_,rfl,_,rfl,iteF ⟨_,rfl,s2⟩⟩⟩⟩
  ·rintro σ H2 ⟨v,rfl,s2⟩;exact q H2 s2
end
theorem jmod{c:Int}{n:Nat}(h:1<=n):0<=c % (n:Int)/\c % (n:Int)<n:=⟨Int.emod_nonneg _ (by omega),Int.emod_lt_of_pos _ (by omega)⟩
theorem jlg{i:Int}(h1 : -(10 ^ 40:Int)<i)(h2:i<(10 ^ 40:Int)):i.natAbs.log2<1920:=by
 have h:i.natAbs<10 ^ 40:=by omega
 by_cases z:i.natAbs=0
 ·rw[z];decide +kernel
 ·exact (Nat.log2_lt z).mpr (Nat.lt_of_lt_of_le h (by decide +kernel))
theorem jpick4{p:Int->Prop}{b0 b1 b2 b3:Int}(c:Int)(h0:p b0)(h1:p b1)(h2:p b2)(h3:p b3):∃ W,atI [V.int b0,V.int b1,V.int b2,V.int b3] (c % 4)=some (.int W)/\p W:=by
 have e:c % 4=0∨c % 4=1∨c % 4=2∨c % 4=3:=by omega
 rcases e with e | e | e | e<;>rw[e]
 ·exact⟨b0,rfl,h0⟩
 ·exact⟨b1,rfl,h1⟩
 ·exact⟨b2,rfl,h2⟩
 ·exact⟨b3,rfl,h3⟩
theorem jpick2{p:Addr->Prop}{b0 b1:Addr}(c:Int)(h0:p b0)(h1:p b1):∃ r,atI [V.ref b0,V.ref b1] (c % 2)=some (V.ref r)/\p r:=by
 have e:c % 2=0∨c % 2=1:=by omega
 rcases e with e | e<;>rw[e]
 ·exact⟨b0,rfl,h0⟩
 ·exact⟨b1,rfl,h1⟩
theorem PrsO.but{H H':Hp}{l d:Addr}{ps:List (Int×Int)}{o:HO}(h:PrsO H l ps)(hd:H d=some o)(no:∀ xs,o≠.lst xs/\o≠.tup xs)(k:∀ c u,H c=some u->c≠d->H' c=some u):PrsO H' l ps:=by
 obtain⟨rs,h1,h2⟩:=h;refine⟨rs,k _ _ h1 (Zy h1 hd fun z=>(no _).1 z.symm),Paired.mapP h2 fun a b q=>k _ _ q (Zy q hd fun z=>(no _).2 z.symm)⟩
theorem Ze0{kvs:List (List Key×V)}:∀ xs,(HO.dT kvs)≠.lst xs/\(HO.dT kvs)≠.tup xs:=fun xs=>⟨(fun z=>nomatch z),(fun z=>nomatch z)⟩
theorem Zhk{H:Hp}{rs:List Addr}{ps:List (Int×Int)}{t:Addr}{p:Int×Int}(h:Paired (PrH H) rs ps)(ht:PrH H t p):((fun r=>[(pf H r).1,(pf H r).2]) t∈rs.map fun r=>[(pf H r).1,(pf H r).2])↔p∈ps:=by
 obtain⟨e,_⟩:=Y8 h;dsimp only;rw[ht.pf,e];constructor
 ·intro z;obtain⟨r,hr,q⟩:=List.mem_map.mp z;injection q with q1 q2
  injection q2 with q2
  exact List.mem_map.mpr ⟨r,hr,Prod.ext q1 q2⟩
 ·intro z;obtain⟨r,hr,q⟩:=List.mem_map.mp z;exact List.mem_map.mpr ⟨r,hr,by rw[q]⟩
theorem W5{ps:List (Int×Int)}(h:ps.Nodup){i j:Nat}{p:Int×Int}(hi:ps[i]? = some p)(hj:ps[j]? = some p):i=j:=by
 obtain⟨h1,h2⟩:=List.getElem?_eq_some_iff.mp hi;obtain⟨h3,h4⟩:=List.getElem?_eq_some_iff.mp hj;exact (List.getElem_inj h).mp (h2.trans h4.symm)
theorem kitBB(K:PySem.W.Frag):PySem.W.kitOne K (.type "bool") (.type "bool")=some true:=by rfl
section
variable{P:Program}{w:World}{K:PySem.W.Frag}{mg:Str->Option Value}{base:Heap}
noncomputable def spDeed(C:Addr):Sp:=fun vs H Q _=>∃ (p d pl:Addr) (n:Nat) (ps:List (Int×Int)) (cell:Int),vs=[.ref p,.ref pl,.int cell,.int n]/\JAt C H p d n ps/\PrsO H pl ps/\1<=n/\n<=12/\ps.length<120 /\
 ∀ ps' H',JAt C H' p d n ps'->PrsO H' pl ps'->ps'.length<=ps.length+1->(∀ c o,H c=some o->c≠d->c≠pl->H' c=some o)->Q (.bl true) H'
noncomputable abbrev sDd:Stmt:=(top 35)
noncomputable abbrev nDd:List Str:=["judge","pairs","cell","many","pair","way","gone","ill","found","new"]
noncomputable abbrev pDd:List Str:=["judge","pairs","cell","many"]
theorem scDd:FnScope nDd pDd (defScope sDd):=⟨rfl,rfl,rfl,by decide +kernel,rfl,by decide +kernel,by decide +kernel⟩
theorem Zke(T:Tx K mg):FnOk P w K mg base CX0 8 T.a__law_deed T.f__law_deed pDd (spDeed T.c_Judge):=by
 have GTls:FnOk P w K mg base CX0 7 T.a__law_tells T.f__law_tells pTls (spTells T.c_Judge):=Zhb T;have bTls:Binds K T.f__law_tells pTls []:=bd3 T.d__law_tells.F fun _ _ _ _ _ _ _ _ _=>rfl;have GX:=Zji (P:=P) (w:=w) (base:=base) T (Zib T) (Zdq T) T.ki_BadSay T.em_BadSay T.kv_BadSay T.kk_BadSay_BadSay T.kk_BadSay_NoSay T.kk_BadSay_NoWidth T.kk_BadSay_BadLine;have GN:=Zji (P:=P) (w:=w) (base:=base) T never1 (Zdr T) T.ki_NoSay T.em_NoSay T.kv_NoSay T.kk_NoSay_BadSay T.kk_NoSay_NoSay T.kk_NoSay_NoWidth T.kk_NoSay_BadLine;have bR:Binds K T.f__law_refused pRf []:=bd4 T.d__law_refused.F fun _ _ _ _ _ _ _ _ _ _=>rfl;have GS:FnOk P w K mg base CX0 2 T.y_Judge_say.a T.y_Judge_say.f pSay (spSay T.c_Judge):=Zhc T;have bS:Binds K T.y_Judge_say.f pSay []:=bm3 T.y_Judge_say.F fun _ _ _ _ _ _ _ _ _=>rfl;have GU:FnOk P w K mg base CX0 2 T.y_Judge_unsay.a T.y_Judge_unsay.f pUns (spUns T.c_Judge):=Zfz T;have bU:Binds K T.y_Judge_unsay.f pUns []:=bm3 T.y_Judge_unsay.F fun _ _ _ _ _ _ _ _ _=>rfl;refine T.d__law_deed.F.ok scDd (fun vs H Q E h=>?_) (fun cdv A outer s H vs Q E hr h=>?_)
 ·obtain⟨_,_,_,_,_,_,rfl,_⟩:=h;rfl
 ·obtain⟨p,d,pl,n,ps,cell,rfl,J,hL,hn1,hn,hlen,q⟩:=h;have hz:=sizeLine_eq;have hu:=Jk hr;have hu1:=Nat.lt_of_le_of_lt (Nat.add_le_add_left (by decide:0+1<=64) _) hr.units
  have hu4:=Nat.lt_of_le_of_lt (Nat.add_le_add_left (by decide:4<=64) _) hr.units
  have hr3:Room 3 _:=hr.mono (by decide)
  have hr2:Room 2 _:=hr.mono (by decide)
  have hn0:(0:Int)<n:=by omega
  obtain⟨⟨dx,h1⟩,hd,nd,hin⟩:=id J;obtain⟨rs,hpl,hP⟩:=id hL;have hrl:=Paired.length hP;have js:("say":Str)≠"said"/\("say":Str)≠"many"/\("unsay":Str)≠"said"/\("unsay":Str)≠"many":=by decide +kernel
  refine⟨_,(Zd (Zk (i:=4) scDd.nd rfl (Or.inl rfl) (Zu (Za (Zr Yb (Zr Yr (pv 2) Zg) (pv 3)) (Za (Zr Yb (Zr Yr (pv 2) (Zr Zg8 Zg (pv 3))) (pv 3)) Zc))))
   (Zd (Zk (i:=5) scDd.nd rfl (Or.inl rfl) (Zr Yb (pv 2) Zg))
   (Zd (Zv (Zo Xr (pv 5) Zg (nomark _)) (Ze (Zj (Zi GTls hr rfl T.d__law_tells.m T.d__law_tells.F.kp bTls .nil pass0 (Za (pv 0) (Za (pv 1) (Za (pv 3) Zc)))))) Zl)
   (Zd (Zv (Zo Xr (pv 5) Zg (nomark _)) (Zd (Zk (i:=6) scDd.nd rfl (Or.inl rfl) (Zq (ixL (K:=K) rfl) (Z1 (Za (Zjb Zgt Zg) (Za (pv 3) (Za (Zr Y2 (pv 3) (Zr Yb (Zr Yr (pv 2) Zg) (Zr Zg6 Zg Zg))) (Za (Zr Zg4 (Zjb Zgt Zg) (Zr Yb (Zr Yr (pv 2) Zg) (Zr Zg6 Zg Zg))) Zc))))) (Zr Yb (Zr Yr (pv 2) Zg) Zg) (fun _ _=>rfl)))
   (Zd (Zk (i:=7) scDd.nd rfl (Or.inl rfl) (Zq (ixL (K:=K) rfl) (Z1 (Za (Zu (Za (pv 6) (Za (Zq (ixT (K:=K) rfl) (pv 4) Zg (fun _ _=>rfl)) Zc))) (Za (Zu (Za (Zq (ixT (K:=K) rfl) (pv 4) Zg (fun _ _=>rfl)) (Za (pv 6) Zc))) Zc))) (Zr Yb (Zr Yr (pv 2) Zg) Zg) (fun _ _=>rfl)))
   (Ze (Zj (Xn (Zg9 (n:=0) hu1) (Zi GX hr3 rfl T.d__law_refused.m T.d__law_refused.F.kp bR .nil pass0 (Za (pv 0) (Za (Zr Yb (Zr Yr (pv 2) Zg) Zg) (Za (Zq (ixT (K:=K) rfl) (pv 7) Zg (fun _ _=>rfl)) (Za (Zq (ixT (K:=K) rfl) (pv 7) Zg (fun _ _=>rfl)) Zc))))) (Z1 (Za Ye (Za Ye (Za Ye (Za Ye (Za Ye Zc)))))) (nomark _)))))) Zl)
   (Zd (Zv (Zi7 (PW.pt (Zaq (Zo Xr (pv 5) Zg (nomark _)) (Vs (PW.pt (U8 (Zo Xr (pv 5) Zg (nomark _)) (Ws (Zo (inTK (K:=K) rfl hu) (pv 4) (pv 1) (by with_unfolding_all rfl))))))))) (Zd (Zv (Zo (notInTK (K:=K) rfl hu) (pv 4) (pv 1) (by with_unfolding_all rfl)) (Ze (Zj (Xn (Zg9 (n:=0) hu1) (Zi GN hr3 rfl T.d__law_refused.m T.d__law_refused.F.kp bR .nil pass0 (Za (pv 0) (Za Zg (Za (Zq (ixT (K:=K) rfl) (pv 4) Zg (fun _ _=>rfl)) (Za (Zq (ixT (K:=K) rfl) (pv 4) Zg (fun _ _=>rfl)) Zc))))) (Z1 (Za Ye (Za Ye (Za Ye (Za Ye (Za Ye Zc)))))) (nomark _)))) Zl)
   (Zd (Zz (peM (K:=K) rfl PySem.F.plainAttrs_list PySem.F.slot_list_remove PySem.F.type_list_remove (Zih hu4) (pv 1) (Za (pv 4) Zc)))
   (Ze (Zj (Xn Zbr (Uo (pv 0) T.cl_Judge T.y_Judge_unsay.me GU hr2 bU .nil pass0 (Za (Zq (ixT (K:=K) rfl) (pv 4) Zg (fun _ _=>rfl)) (Za (Zq (ixT (K:=K) rfl) (pv 4) Zg (fun _ _=>rfl)) Zc))) Ya (nomark _)))))) Zl)
   (Zd (Zk (i:=8) scDd.nd rfl (Or.inl rfl) (Uo (pv 0) T.cl_Judge T.y_Judge_say.me GS hr2 bS .nil pass0 (Za (Zq (ixT (K:=K) rfl) (pv 4) Zg (fun _ _=>rfl)) (Za (Zq (ixT (K:=K) rfl) (pv 4) Zg (fun _ _=>rfl)) Zc))))
   (Zd (Zk (i:=9) scDd.nd rfl (Or.inl rfl) (Xn (notInTK (K:=K) rfl hu) (pv 4) (pv 1) (by with_unfolding_all rfl)))
   (Zd (Xk (Zv (Z9 (pv 9)) (Ze (Zz (peM (K:=K) rfl PySem.F.plainAttrs_list PySem.F.slot_list_append PySem.F.type_list_append Yw (pv 1) (Za (pv 4) Zc)))) Zl))
   (Ze (Zj (U9 (Zm (isinS (K:=K) rfl) (by rfl) T.B.isinstance boot_isinstance (Za (pv 8) (Za (X2 (v:=.ty "bool") (by rfl) T.B.bool PyProof.Rows.boot_bool rfl) Zc))) (Zbm (Xn Xr (pv 8) (pv 9) (nomark _)))))))))))))),?_⟩
  refine⟨_,rfl,_,_,rfl,rfl,⟨by decide,by decide⟩,_,rfl,_,_,rfl,rfl,hn0,_,rfl,_,rfl,_,_,rfl,rfl,.inl ⟨by decide,by decide⟩,_,_,rfl,rfl,⟨by omega,by omega⟩,_,rfl,_,_,rfl,rfl,hn0,(by show 2<=sizeLine;decide),fun t ht=>?_⟩
  dsimp only at ht ⊢;have ha:=jmod (c:=cell / 8) hn1;have hb:=jmod (c:=cell / (8 * (n:Int))) hn1;revert ha hb ht;generalize cell / 8 % (n:Int)=a;generalize cell / (8 * (n:Int)) % (n:Int)=b;intro ht ha hb;have s1:Same H (upd H t (.tup [.int a,.int b])):=Same.new ht;have htt:(upd H t (.tup [.int a,.int b])) t=some (.tup [.int a,.int b]):=Zb;revert s1 htt;generalize upd H t (.tup [.int a,.int b])=H1;intro s1 htt;have J1:=J.same s1;have L1:=hL.same s1;have hP1:Paired (Pr H1) rs ps:=Yl hP s1;refine⟨_,rfl,_,_,rfl,rfl,(by decide:(0:Int)<8),?_⟩
  dsimp only;generalize cell % 8=way;refine⟨_,rfl,rfl,_,rfl,ite2 (fun hw=>?_) (fun hw=>?_)⟩
  ·exact⟨_,rfl,_,rfl,_,rfl,p,d,pl,n,ps,ps,rfl,J1,L1,(fun _=>Iff.rfl),hn1,by omega,by omega,by omega,fun H' s'=>q ps H' (J1.same s') (L1.same s') (by omega) fun c o e _ _=>s' c o (s1 c o e)⟩
  refine⟨_,rfl,rfl,_,rfl,ite2 (fun hw6=>?_) (fun hw6=>?_)⟩
  ·refine⟨_,rfl,_,rfl,_,rfl,_,rfl,_,_,rfl,rfl,⟨by decide,by decide⟩,_,_,rfl,rfl,⟨by decide,by decide,by decide⟩,_,_,rfl,rfl,(by decide:(0:Int)<10 ^ (30:Int).toNat),_,_,rfl,rfl,_,rfl,_,rfl,_,_,rfl,rfl,⟨by decide,by decide⟩,_,_,rfl,rfl,⟨by decide,by decide,by decide⟩,_,_,rfl,rfl,(by decide:(0:Int)<10 ^ (30:Int).toNat),_,_,rfl,rfl,(by show 4<=sizeLine;decide),fun gl hgl=>?_⟩
   dsimp only at hgl ⊢;have hf0:=Int.emod_nonneg (cell / 64) (b:=10 ^ (30:Int).toNat) (by decide)
   have hf1:cell / 64 % 10 ^ (30:Int).toNat<10 ^ 30:=Int.emod_lt_of_pos (cell / 64) (b:=10 ^ (30:Int).toNat) (by decide)
   revert hf0 hf1;generalize cell / 64 % 10 ^ (30:Int).toNat=far;intro hf0 hf1;have s2:Same H1 (upd H1 gl (.lst [.int (-1),.int n,.int (n+far),.int (-1 - far)])):=Same.new hgl;have hgl2:(upd H1 gl (.lst [.int (-1),.int n,.int (n+far),.int (-1 - far)])) gl=some (.lst [.int (-1),.int n,.int (n+far),.int (-1 - far)]):=Zb;revert s2 hgl2;show Same H1 (upd H1 gl (.lst [.int (-1),.int n,.int (n+far),.int (-1 - far)]))->_;generalize upd H1 gl (.lst [.int (-1),.int n,.int (n+far),.int (-1 - far)])=H2;intro s2 hgl2;obtain⟨g,hatg,hg1,hg2⟩:=jpick4 (p:=fun g=>¬ (0<=g/\g<n)/\g.natAbs.log2<1920) (b0 :=-1) (b1:=n) (b2:=n+far) (b3 :=-1 - far) (cell / 8) ⟨by omega,by decide +kernel⟩ ⟨by omega,jlg (by omega) (by omega)⟩ ⟨by omega,jlg (by omega) (by omega)⟩ ⟨by omega,jlg (by omega) (by omega)⟩
   refine⟨_,rfl,_,_,rfl,rfl,⟨by decide,by decide⟩,_,_,rfl,rfl,(by decide:(0:Int)<4),gl,_,_,_,rfl,rfl,SqL.of hgl2,hatg,?_⟩
   have htt2:=s2 _ _ htt;have hbl:b.natAbs.log2<1920:=jlg (by omega) (by omega)
   refine⟨_,rfl,_,rfl,t,_,_,_,rfl,rfl,SqT.of htt2,two1,(by show 2<=sizeLine;decide),fun t1 ht1=>?_⟩
   have s3:=Same.new (o:=.tup [.int g,.int b]) ht1;refine⟨_,rfl,t,_,_,_,rfl,rfl,SqT.of (s3 _ _ htt2),two1,_,rfl,(by show 2<=sizeLine;decide),fun t2 ht2=>⟨(by show 2<=sizeLine;decide),fun tl htl=>?_⟩⟩
   have s4:=(Same.new (o:=.tup [.int b,.int g]) ht2).trans (Same.new (o:=.lst [.ref t1,.ref t2]) htl);have h61:=s4 _ _ (Zb (H:=H2) (a:=t1) (o:=.tup [.int g,.int b]));have h62:=(Same.new (o:=.lst [.ref t1,.ref t2]) htl) _ _ Zb;have s6:=((s1.trans s2).trans s3).trans s4;have h63:=Zb (H:=upd (upd H2 t1 (.tup [.int g,.int b])) t2 (.tup [.int b,.int g])) (a:=tl) (o:=.lst [.ref t1,.ref t2]);revert s6 h61 h62 h63;generalize upd (upd (upd H2 t1 (.tup [.int g,.int b])) t2 (.tup [.int b,.int g])) tl (.lst [.ref t1,.ref t2])=H6;intro h61 h62 s6 h63;obtain⟨r,hatr,x,y,hrx,hxy,hlx,hly⟩:=jpick2 (p:=fun r=>∃ x y:Int,H6 r=some (.tup [.int x,.int y])/\¬ ((0<=x/\x<n)/\0<=y/\y<n)/\x.natAbs.log2<1920/\y.natAbs.log2<1920) (b0:=t1) (b1:=t2) (cell / 32) ⟨g,b,h61,fun z=>hg1 z.1,hg2,hbl⟩ ⟨b,g,h62,fun z=>hg1 z.2,hbl,hg2⟩;refine⟨_,rfl,_,_,rfl,rfl,⟨by decide,by decide⟩,_,_,rfl,rfl,(by decide:(0:Int)<2),tl,_,_,_,rfl,rfl,SqL.of h63,hatr,?_⟩
   refine⟨_,rfl,_,rfl,_,_,rfl,rfl,⟨by decide,by decide⟩,_,_,rfl,rfl,(by decide:(0:Int)<2),_,rfl,r,_,_,_,rfl,rfl,SqT.of hrx,two0,_,rfl,r,_,_,_,rfl,rfl,SqT.of hrx,two1,?_⟩
   have J6:=J.same s6;refine⟨p,dx,_,_,x,y,rfl,s6 _ _ h1,Xv n d js.1 js.2.1,Xv n d js.2.2.1 js.2.2.2,(fun _ H0 Q' E' s0 hE=>⟨p,d,n,ps,x,y,rfl,J6.same s0,hxy,hlx,hly,hE⟩),(fun _ H0 Q' E' s0 hE=>⟨p,d,n,ps,x,y,rfl,J6.same s0,hxy,hlx,hly,hE⟩),fun l' H7 s7 hl0 hl'=>?_⟩;refine⟨(by show 5<=sizeLine;decide),fun m hm=>rEqS.true (.inl ⟨SqL.of ((Same.new hm) _ _ hl'),SqL.of Zb⟩) (.cons (.flat rfl rfl) (.cons (.flat rfl rfl) (.cons (.flat rfl rfl) (.cons (.flat rfl rfl) (.cons (.flat rfl rfl) .nil))))) ?_⟩
   have s8:=(s6.trans s7).trans (Same.new (o:=.lst [.bl true,.bl false,.bl false,.bl false,.bl true]) hm);exact q ps _ (J.same s8) (hL.same s8) (by omega) fun c o e _ _=>s8 c o e
  have hT:Tups H1 (fun r=>[(pf H1 r).1,(pf H1 r).2]) rs:=(Y8 (H:=H1) hP1).2;have htt':H1 t=some (.tup (([(pf H1 t).1,(pf H1 t).2]:List Int).map V.int)):=by
   rw[show pf H1 t=(a,b) from PrH.pf (p:=(a,b)) htt];exact htt
  have hpl1:=s1 _ _ hpl;have hii:=Zhk (H:=H1) (t:=t) (p:=(a,b)) hP1 htt;refine⟨fun _ H'=>H'=H1,?_,?_⟩
  ·refine⟨_,rfl,rfl,_,rfl,ite2 (fun _=>rfl) (fun _=>?_)⟩;refine⟨_,rfl,rfl,_,rfl,ite2 (fun _=>?_) (fun _=>rfl)⟩;exact⟨_,rfl,_,rfl,t,pl,rs,_,rfl,rfl,SqL.of hpl1,hT,htt',_,rfl,rfl⟩
  ·rintro bb H' rfl;obtain⟨⟨dx1,h11⟩,hd1,_,_⟩:=id J1;have ndp:p≠d:=Zy h11 hd1 (by intro z;cases z)
   have ndl:pl≠d:=Zy hpl1 hd1 (by intro z;cases z)
   have npl:p≠pl:=Zy h11 hpl1 (by intro z;cases z)
   have ntl:t≠pl:=Zy htt hpl1 (by intro z;cases z)
   have ntd:t≠d:=Zy htt hd1 (by intro z;cases z)
   refine ite2 (fun _=>?_) (fun _=>?_)
   ·refine⟨_,rfl,_,rfl,t,pl,rs,_,rfl,rfl,SqL.of hpl1,hT,htt',_,rfl,?_⟩;show if (!decide _)=true then _ else _
    by_cases hm:(a,b)∈ps
    ·refine iteNS (hii.mpr hm) ?_;obtain⟨j,hj⟩:=List.mem_iff_getElem?.mp hm;have e2:=(Y8 (H:=H') hP1).1;refine⟨_,rfl,.inl ⟨rfl,_,SqL.of hpl1⟩,_,rfl,pl,t,rs,(a,b),j,rfl,rfl,hpl1,(Y8 (H:=H') hP1).2,htt,by rw[← e2];exact hj,(fun m hmj z=>by rw[← e2] at z;exact absurd (W5 nd z hj) (by omega)),?_⟩
     have hJ2:JAt T.c_Judge (upd H' pl (.lst ((rs.eraseIdx j).map V.ref))) p d n ps:=⟨⟨dx1,by rw[Zh npl];exact h11⟩,by rw[Zh ndl.symm];exact hd1,nd,hin⟩
     have hL2:PrsO (upd H' pl (.lst ((rs.eraseIdx j).map V.ref))) pl (ps.eraseIdx j):=⟨rs.eraseIdx j,Zb,Paired.mapP (We hP1 j) fun x y z=>by
      show (upd _ pl _) x=_;rw[Zh (Zy (show H' x=some _ from z) hpl1 (by intro z;cases z))]
      exact z⟩
     have htt3:(upd H' pl (.lst ((rs.eraseIdx j).map V.ref))) t=some (.tup [.int a,.int b]):=by rw[Zh ntl];exact htt
     obtain⟨⟨dx3,h13⟩,hd3,_,_⟩:=id hJ2;refine⟨_,rfl,p,dx3,_,rfl,h13,Xv n d js.2.2.1 js.2.2.2,_,rfl,t,_,_,_,rfl,rfl,SqT.of htt3,two0,_,rfl,t,_,_,_,rfl,rfl,SqT.of htt3,two1,p,d,n,ps,a,b,rfl,hJ2,hm,by omega,fun j' H3 hj' J3 k3=>?_⟩
     obtain rfl:j'=j:=W5 nd hj' hj;refine⟨rfl,?_⟩;rw[decide_eq_true rfl];refine q _ H3 J3 (hL2.but hd3 Ze0 k3) (by have:=List.length_eraseIdx_le ps j';omega) fun c o e hcd hcp=>k3 c o (by rw[Zh hcp];exact s1 c o e) hcd
    ·refine iteNN (fun z=>hm (hii.mp z)) ?_;refine⟨_,rfl,_,rfl,t,_,_,_,rfl,rfl,SqT.of htt,two0,_,rfl,t,_,_,_,rfl,rfl,SqT.of htt,two1,?_⟩;refine⟨p,dx1,_,_,a,b,rfl,h11,Xv n d js.1 js.2.1,Xv n d js.2.2.1 js.2.2.2,(fun z=>absurd z (by decide)),(fun _ H0 Q' E' s0 hE=>⟨p,d,n,ps,a,b,rfl,J1.same s0,⟨ha,hb⟩,by omega,hm,hE⟩),fun l' H7 s7 hl0 hl'=>?_⟩
     refine⟨(by show 5<=sizeLine;decide),fun m hm=>rEqS.true (.inl ⟨SqL.of ((Same.new hm) _ _ hl'),SqL.of Zb⟩) (.cons (.flat rfl rfl) (.cons (.flat rfl rfl) (.cons (.flat rfl rfl) (.cons (.flat rfl rfl) (.cons (.flat rfl rfl) .nil))))) ?_⟩
     have s8:=(s1.trans s7).trans (Same.new (o:=.lst [.bl false,.bl true,.bl false,.bl false,.bl true]) hm);exact q ps _ (J.same s8) (hL.same s8) (by omega) fun c o e _ _=>s8 c o e
   ·refine⟨_,rfl,p,dx1,_,rfl,h11,Xv n d js.1 js.2.1,_,rfl,t,_,_,_,rfl,rfl,SqT.of htt,two0,_,rfl,t,_,_,_,rfl,rfl,SqT.of htt,two1,p,d,n,ps,a,b,rfl,J1,⟨ha,hb⟩,by omega,fun H3 J3 k3=>?_⟩
    have L3:=L1.but hd1 Ze0 k3;have htt3:=k3 _ _ htt ntd;have hpl3:=k3 _ _ hpl1 ndl;have hP3:Paired (Pr H3) rs ps:=Paired.mapP hP1 fun x y z=>k3 _ _ z (Zy (show H' x=some _ from z) hd1 (by intro z;cases z))
    have hT3:Tups H3 (fun r=>[(pf H3 r).1,(pf H3 r).2]) rs:=(Y8 (H:=H3) hP3).2;have htt3':H3 t=some (.tup (([(pf H3 t).1,(pf H3 t).2]:List Int).map V.int)):=by
     rw[show pf H3 t=(a,b) from PrH.pf (p:=(a,b)) htt3];exact htt3
    have hii3:=Zhk (H:=H3) (t:=t) (p:=(a,b)) hP3 htt3;refine⟨_,rfl,_,rfl,t,pl,rs,_,rfl,rfl,SqL.of hpl3,hT3,htt3',?_⟩;have eb:(!decide ((fun r=>[(pf H3 r).1,(pf H3 r).2]) t∈rs.map fun r=>[(pf H3 r).1,(pf H3 r).2]))=!decide ((a,b)∈ps):=by rw[decide_eq_decide.mpr hii3]
    show gName 9 (V.bl (!decide ((fun r=>[(pf H3 r).1,(pf H3 r).2]) t∈rs.map fun r=>[(pf H3 r).1,(pf H3 r).2]))) _ H3 _;rw[eb];refine⟨fun σ H5=>σ=[some (.ref p),some (.ref pl),some (.int cell),some (.int n),some (.ref t),some (.int way),none,none,some (.bl (!decide ((a,b)∈ps))),some (.bl (!decide ((a,b)∈ps)))]/\∃ ps',JAt T.c_Judge H5 p d n ps'/\PrsO H5 pl ps'/\ps'.length<=ps.length+1/\∀ c o,H c=some o->c≠d->c≠pl->H5 c=some o,?_,?_⟩
    ·refine⟨_,rfl,_,rfl,?_⟩;by_cases hm:(a,b)∈ps
     ·rw[decide_eq_true hm];rw[if_pos hm] at J3;exact iteF ⟨rfl,ps,J3,L3,by omega,fun c o e hcd _=>k3 c o (s1 c o e) hcd⟩
     ·rw[decide_eq_false hm];rw[if_neg hm] at J3;obtain⟨⟨dx3,h13⟩,hd3,nd3,hin3⟩:=id J3;refine iteT ⟨_,rfl,.inl ⟨rfl,_,SqL.of hpl3⟩,_,rfl,pl,_,_,rfl,rfl,hpl3,by rw[List.length_map];omega,rfl,ps++[(a,b)],⟨⟨dx3,by rw[Zh npl];exact h13⟩,by rw[Zh ndl.symm];exact hd3,nd3,hin3⟩,⟨rs++[t],by rw[Zb,List.map_append];rfl,Yv (Paired.mapP hP3 fun x y z=>?_) (.cons ?_ .nil)⟩,by rw[List.length_append,List.length_singleton];omega,fun c o e hcd hcp=>by rw[Zh hcp];exact k3 c o (s1 c o e) hcd⟩
      ·show (upd _ pl _) x=_;rw[Zh (Zy (show H3 x=some _ from z) hpl3 (by intro z;cases z))]
       exact z
      ·show (upd _ pl _) t=_;rw[Zh ntl];exact htt3
    ·rintro σ H5 ⟨rfl,ps',J5,L5,hl5,k5⟩;refine⟨_,rfl,_,_,_,_,rfl,.bl _,kitBB K,_,rfl,_,rfl,_,rfl,rfl,?_⟩;rw[decide_eq_true rfl];exact q ps' H5 J5 L5 hl5 k5
end
theorem Zh8{X:Cx}:OpR X (compareOp .IsNot) (fun x y H Q=>x=.bl true/\y=.bl true/\Q (.bl false) H):=by
 intro pins s σ H x y v u Q I rx ry h;obtain⟨rfl,rfl,q⟩:=h;cases (show v=Value.bool true from rx);cases (show u=Value.bool true from ry);exact wpAny_isNot_self rfl ⟨.bl false,H,I,rfl,q⟩
theorem Zej(n:Nat)(p:Nat->Nat->Bool):∀ i:Nat,(gridP n p i).Nodup/\∀ q∈gridP n p i,q.1<(i:Int)
 | 0=>⟨List.nodup_nil,(fun q h=>nomatch h)⟩
 | i+1=>by
  obtain⟨h1,h2⟩:=Zej n p i;have hrow:∀ q∈rowP (p i) i n,q.1=(i:Int):=fun q hq=>by
   unfold rowP at hq;obtain⟨b,_,rfl⟩:=List.mem_map.mp hq;rfl
  rw[Xh];refine⟨List.nodup_append.mpr ⟨h1,?_,fun x hx y hy z=>?_⟩,fun q hq=>?_⟩
  ·unfold rowP;refine List.Pairwise.map _ (fun a b hab z=>?_) (List.nodup_range.sublist List.filter_sublist);injection z with _ z
   exact hab (by omega)
  ·have:=h2 x hx;rw[z,hrow y hy] at this;omega
  ·rcases List.mem_append.mp hq with hq | hq
   ·have:=h2 q hq;omega
   ·rw[hrow q hq];omega
theorem Zfo{ps:List (Int×Int)}(nd:ps.Nodup){i:Nat}{p:Int×Int}(h:ps[i]? = some p):p∉ps.take i:=fun z=>by
 obtain⟨j,hj⟩:=List.mem_iff_getElem?.mp z;rw[List.getElem?_take] at hj;by_cases g:j<i
 ·rw[if_pos g] at hj;exact absurd (W5 nd hj h) (by omega)
 ·rw[if_neg g] at hj;cases hj
theorem Zi9{H:Hp}{S:Addr}{φ:Heap->Prop}(h:H S=none):pf (upd H S (.ext φ))=pf H:=by
 funext r;unfold pf;by_cases e:r=S
 ·rw[e,Zb,h]
 ·rw[Zh e]
structure Two2(C:Addr)(H:Hp)(p1 d1 p2 d2 pl bl:Addr)(n:Nat)(ps qs bs:List (Int×Int)):Prop where
 j1:JAt C H p1 d1 n ps
 l1:PrsO H pl ps
 j2:JAt C H p2 d2 n qs
 l2:PrsO H bl bs
 iff:∀ x,x∈bs↔x∈qs
 nb:bs.Nodup
 dd:d1≠d2
 pb:pl≠bl
theorem Two2.same{C:Addr}{H H':Hp}{p1 d1 p2 d2 pl bl:Addr}{n:Nat}{ps qs bs:List (Int×Int)}(h:Two2 C H p1 d1 p2 d2 pl bl n ps qs bs)(s:Same H H'):Two2 C H' p1 d1 p2 d2 pl bl n ps qs bs:=
 ⟨h.j1.same s,h.l1.same s,h.j2.same s,h.l2.same s,h.iff,h.nb,h.dd,h.pb⟩
theorem Two2.perm{C:Addr}{H:Hp}{p1 d1 p2 d2 pl bl:Addr}{n:Nat}{ps qs bs:List (Int×Int)}(h:Two2 C H p1 d1 p2 d2 pl bl n ps qs bs):bs.Perm qs:=(List.perm_ext_iff_of_nodup h.nb h.j2.nd).mpr h.iff
theorem Two2.deed{C:Addr}{H H':Hp}{p1 d1 p2 d2 pl bl:Addr}{n:Nat}{ps ps' qs bs:List (Int×Int)}(h:Two2 C H p1 d1 p2 d2 pl bl n ps qs bs)(J:JAt C H' p1 d1 n ps')(L:PrsO H' pl ps')(k:∀ c o,H c=some o->c≠d1->c≠pl->H' c=some o):Two2 C H' p1 d1 p2 d2 pl bl n ps' qs bs:=by
 obtain⟨⟨dx,e1⟩,e2,e3,e4⟩:=h.j2;obtain⟨rb,f1,f2⟩:=h.l2;obtain⟨rp,g1,g2⟩:=h.l1;have hd:=h.j1.dc;refine⟨J,L,⟨⟨dx,k _ _ e1 (Zy e1 hd (by intro z;cases z)) (Zy e1 g1 (by intro z;cases z))⟩,k _ _ e2 h.dd.symm (Zy e2 g1 (by intro z;cases z)),e3,e4⟩,⟨rb,k _ _ f1 (Zy f1 hd (by intro z;cases z)) h.pb.symm,Paired.mapP f2 fun a b q=>k _ _ q (Zy (show H a=some _ from q) hd (by intro z;cases z)) (Zy (show H a=some _ from q) g1 (by intro z;cases z))⟩,h.iff,h.nb,h.dd,h.pb⟩
section
variable{P:Program}{w:World}{K:PySem.W.Frag}{mg:Str->Option Value}{base:Heap}
noncomputable abbrev sLaw:Stmt:=(top 37)
noncomputable abbrev nLaw:List Str:=["script","many","judge","other","pairs","beside","pair","k","found"]
noncomputable abbrev pLaw:List Str:=["script"]
theorem scLaw:FnScope nLaw pLaw (defScope sLaw):=⟨rfl,rfl,rfl,by decide +kernel,rfl,by decide +kernel,by decide +kernel⟩
theorem Zjk(T:Tx K mg):FnOk P w K mg base CX0 9 T.a_law T.f_law pLaw (spLaw K):=by
 have GCell:FnOk P w K mg base CX0 1 T.a__law_cell_at T.f__law_cell_at pCell (spCell K):=Zdx T.d__law_cell_at T.B;have bCell:Binds K T.f__law_cell_at pCell []:=bd2 T.d__law_cell_at.F fun _ _ _ _ _ _ _ _=>rfl;have GWhole:FnOk P w K mg base CX0 1 T.a__law_whole T.f__law_whole pWhole (spWhole K):=Zbs T.d__law_whole T.B;have bWhole:Binds K T.f__law_whole pWhole []:=bd1 T.d__law_whole.F fun _ _ _ _ _ _ _=>rfl;have GMarked:FnOk P w K mg base CX0 2 T.a__law_marked T.f__law_marked pMarked (spMarked K):=Zdu T;have bMarked:Binds K T.f__law_marked pMarked []:=bd3 T.d__law_marked.F fun _ _ _ _ _ _ _ _ _=>rfl;have GTls:FnOk P w K mg base CX0 7 T.a__law_tells T.f__law_tells pTls (spTells T.c_Judge):=Zhb T;have bTls:Binds K T.f__law_tells pTls []:=bd3 T.d__law_tells.F fun _ _ _ _ _ _ _ _ _=>rfl;have GDd:FnOk P w K mg base CX0 8 T.a__law_deed T.f__law_deed pDd (spDeed T.c_Judge):=Zke T;have bDd:Binds K T.f__law_deed pDd []:=bd4 T.d__law_deed.F fun _ _ _ _ _ _ _ _ _ _=>rfl;have GSm:FnOk P w K mg base CX0 2 T.a__law_same T.f__law_same pSm (spSame K):=Zkc T;have bSm:Binds K T.f__law_same pSm []:=bd2 T.d__law_same.F fun _ _ _ _ _ _ _ _=>rfl;have GI:FnOk P w K mg base CX0 1 T.y_Judge___init__.a T.y_Judge___init__.f pJI (spJI T.c_Judge):=Zkd T;have bI:Binds K T.y_Judge___init__.f pJI []:=bm2 T.y_Judge___init__.F fun _ _ _ _ _ _ _ _=>rfl;have GS:FnOk P w K mg base CX0 2 T.y_Judge_say.a T.y_Judge_say.f pSay (spSay T.c_Judge):=Zhc T;have bS:Binds K T.y_Judge_say.f pSay []:=bm3 T.y_Judge_say.F fun _ _ _ _ _ _ _ _ _=>rfl;have GY:FnOk P w K mg base CX0 1 T.y_Judge_sayings.a T.y_Judge_sayings.f pSys (spSayings T.c_Judge):=Zds T;have bY:Binds K T.y_Judge_sayings.f pSys []:=bm1 T.y_Judge_sayings.F fun _ _ _ _ _ _ _=>rfl;refine T.d_law.F.ok scLaw (fun vs H Q E h=>?_) (fun cdv A outer s H vs Q E hr h=>?_)
 ·obtain⟨_,_,rfl,_⟩:=h;rfl
 ·obtain⟨a,ns,rfl,hS,hlen,q⟩:=h;have hz:=sizeLine_eq;have hu8:=Nat.lt_of_le_of_lt (Nat.add_le_add_left (by decide:8<=64) _) hr.units
  have hr1:Room 1 _:=hr.mono (by decide)
  have hr2:Room 2 _:=hr.mono (by decide)
  have hr7:Room 7 _:=hr.mono (by decide)
  have js:("say":Str)≠"said"/\("say":Str)≠"many"/\("sayings":Str)≠"said"/\("sayings":Str)≠"many":=by decide +kernel
  refine⟨_,(Zd (Zk (i:=1) scLaw.nd rfl (Or.inl rfl) (Zr Y2 Zg (Zr Yb (Zi GCell hr1 rfl T.d__law_cell_at.m T.d__law_cell_at.F.kp bCell .nil pass0 (Za (pv 0) (Za Zg Zc))) Zg)))
   (Zd (Xk (Zv (Zo Xr (Zr Yb (Zr Yr (Zi GCell hr1 rfl T.d__law_cell_at.m T.d__law_cell_at.F.kp bCell .nil pass0 (Za (pv 0) (Za Zg Zc))) Zg) Zg) Zg (nomark _)) (Ze (Zk (i:=1) scLaw.nd rfl (Or.inl rfl) (Zr Y2 Zg (Zr Yb (Zr Yr (Zi GCell hr1 rfl T.d__law_cell_at.m T.d__law_cell_at.F.kp bCell .nil pass0 (Za (pv 0) (Za Zg Zc))) Zg) Zg)))) Zl))
   (Zd (Zk (i:=2) scLaw.nd rfl (Or.inl rfl) (Zdm T.mk_Judge GI hr2 rfl T.mc_Judge bI .nil pass0 (Za (pv 1) Zc)))
   (Zd (Zk (i:=3) scLaw.nd rfl (Or.inl rfl) (Zdm T.mk_Judge GI hr2 rfl T.mc_Judge bI .nil pass0 (Za (pv 1) Zc)))
   (Zd (Zk (i:=4) scLaw.nd rfl (Or.inl rfl) (Z1 Zc))
   (Zd (Zk (i:=5) scLaw.nd rfl (Or.inl rfl) (Z1 Zc))
   (Zd (Xk (Zv (Zo Xr (Zr Yb (Zr Yr (Zi GCell hr1 rfl T.d__law_cell_at.m T.d__law_cell_at.F.kp bCell .nil pass0 (Za (pv 0) (Za Zg Zc))) Zg) Zg) Zg (nomark _)) (Ze (Zk (i:=4) scLaw.nd rfl (Or.inl rfl) (Zi GMarked hr2 rfl T.d__law_marked.m T.d__law_marked.F.kp bMarked .nil pass0 (Za (pv 0) (Za Zg (Za (pv 1) Zc)))))) Zl))
   (Zd (Xk (Z0 PassesOwn.never rfl (piL (K:=K) rfl (pv 4)) (Zn (i:=6) scLaw.nd rfl (Or.inl rfl)) (Ze (Zv (Zo Zh8 (Uo (pv 2) T.cl_Judge T.y_Judge_say.me GS hr2 bS .nil pass0 (Za (Zq (ixT (K:=K) rfl) (pv 6) Zg (fun _ _=>rfl)) (Za (Zq (ixT (K:=K) rfl) (pv 6) Zg (fun _ _=>rfl)) Zc))) Ye (nomark _)) (Ze (Zj Ye)) Zl))))
   (Zd (Z0 PassesOwn.never rfl (Zx rfl T.B.range (Za (Zr Yb (Zi GCell hr1 rfl T.d__law_cell_at.m T.d__law_cell_at.F.kp bCell .nil pass0 (Za (pv 0) (Za Zg Zc))) Zg) Zc)) (Zn (i:=7) scLaw.nd rfl (Or.inl rfl)) (Zd (Zv (Yk (Z9 (Zi GDd hr rfl T.d__law_deed.m T.d__law_deed.F.kp bDd .nil pass0 (Za (pv 2) (Za (pv 4) (Za (Zi GCell hr1 rfl T.d__law_cell_at.m T.d__law_cell_at.F.kp bCell .nil pass0 (Za (pv 0) (Za (Zr Y2 Zg (pv 7)) Zc))) (Za (pv 1) Zc))))))) (Ze (Zj Ye)) Zl)
   (Zd (Xk (Zv (Zo Xr (Zr Yb (pv 7) Zg) Zg (nomark _)) (Zd (Zz (Uo (pv 3) T.cl_Judge T.y_Judge_say.me GS hr2 bS .nil pass0 (Za (Zr Yb (pv 7) (pv 1)) (Za Zg Zc))))
   (Ze (Zk (i:=5) scLaw.nd rfl (Or.inl rfl) (Zm (Jt rfl) (by rfl) T.B.sorted PyProof.Rows.boot_sorted (Za (Yg (Ze2 rfl hu8) (by rfl) T.B.set PyProof.Rows.boot_set (Za (Zr Zdp (pv 5) (Z1 (Za (Zu (Za (Zr Yb (pv 7) (pv 1)) (Za Zg Zc))) Zc))) Zc)) Zc))))) Zl))
   (Zd (Zk (i:=8) scLaw.nd rfl (Or.inl rfl) (Yp (pv 2) T.cl_Judge T.y_Judge_sayings.me GY hr1 bY .nil pass0))
   (Zd (Zv (PW.pt (Zaq (Yk (Z9 (Zi GSm hr2 rfl T.d__law_same.m T.d__law_same.F.kp bSm .nil pass0 (Za (pv 8) (Za (pv 4) Zc))))) (Vs (Yk (Z9 (Zi GSm hr2 rfl T.d__law_same.m T.d__law_same.F.kp bSm .nil pass0 (Za (Yp (pv 3) T.cl_Judge T.y_Judge_sayings.me GY hr1 bY .nil pass0) (Za (pv 5) Zc)))))))) (Ze (Zj Ye)) Zl)
   (Ze (Zz (peM (K:=K) rfl PySem.F.plainAttrs_list PySem.F.slot_list_append PySem.F.type_list_append Yw (pv 8) (Za (Zu (Za Zg (Za Zg Zc))) Zc)))))))))
   (Zd (Zv (PW.pt (Zaq (Yk (Z9 (Zi GWhole hr1 rfl T.d__law_whole.m T.d__law_whole.F.kp bWhole .nil pass0 (Za (Yn (pv 2) rfl) Zc)))) (Vs (Zo Zh9 (Yn (pv 2) rfl) (pv 1) (nomark _))))) (Ze (Zj Ye)) Zl)
   (Ze (Zj (U9 (Zi GTls hr7 rfl T.d__law_tells.m T.d__law_tells.F.kp bTls .nil pass0 (Za (pv 3) (Za (pv 5) (Za (pv 1) Zc)))) (U9 (Zi GTls hr7 rfl T.d__law_tells.m T.d__law_tells.F.kp bTls .nil pass0 (Za (pv 2) (Za (pv 4) (Za (pv 1) Zc)))) (Zbm (Zi GTls hr7 rfl T.d__law_tells.m T.d__law_tells.F.kp bTls .nil pass0 (Za (pv 3) (Za (pv 5) (Za (pv 1) Zc))))))))))))))))))),?_⟩
  refine⟨_,rfl,a,ns,0,rfl,hS,by decide,_,_,rfl,rfl,(by decide:(0:Int)<7),_,_,rfl,rfl,?_⟩
  dsimp only;have hm1:1<=1+cell ns 0 % 7/\1+cell ns 0 % 7<=12:=by omega
  revert hm1;generalize 1+cell ns 0 % 7=M0;intro hm1;refine⟨fun σ H1=>H1=H/\∃ n:Nat,σ=[some (.ref a),some (.int n),none,none,none,none,none,none,none]/\1<=n/\n<=12,?_,?_⟩
  ·refine⟨_,rfl,a,ns,0,rfl,hS,by decide,_,_,rfl,rfl,⟨by decide,by decide⟩,_,_,rfl,rfl,(by decide:(0:Int)<4),rfl,_,rfl,ite2 (fun _=>?_) (fun _=>?_)⟩
   ·refine⟨_,rfl,a,ns,0,rfl,hS,by decide,_,_,rfl,rfl,⟨by decide,by decide⟩,_,_,rfl,rfl,(by decide:(0:Int)<5),_,_,rfl,rfl,rfl,?_⟩
    have hm2:1<=8+cell ns 0 / 28 % 5/\8+cell ns 0 / 28 % 5<=12:=by omega
    refine⟨(8+cell ns 0 / 28 % 5).toNat,?_,by omega,by omega⟩
    rw[Int.toNat_of_nonneg (by omega)]
    rfl
   ·refine⟨rfl,M0.toNat,?_,by omega,by omega⟩
    rw[Int.toNat_of_nonneg (by omega)]
    rfl
  rintro σ H1 ⟨rfl,n,rfl,hn1,hn⟩;have hn0:(0:Int)<n:=by omega
  refine⟨_,rfl,fun p1 dx1 np1 ndx1 ne1=>⟨p1,dx1,n,rfl,Zb,fun d1 H2 hd1 J1 k1=>⟨rfl,?_⟩⟩⟩;have s0:Same H1 (upd (upd H1 dx1 (.own p1)) p1 (.ins T.c_Judge dx1 [])):=(Same.refl H1).put ndx1 |>.put np1
  have s1:Same H1 H2:=fun b o e=>k1 b o (s0 b o e) (Zf e np1);have hd10:H1 d1=none:=s0.free hd1;refine⟨_,rfl,fun p2 dx2 np2 ndx2 ne2=>⟨p2,dx2,n,rfl,Zb,fun d2 H3 hd2 J2 k2=>⟨rfl,?_⟩⟩⟩;have s02:Same H2 (upd (upd H2 dx2 (.own p2)) p2 (.ins T.c_Judge dx2 [])):=(Same.refl H2).put ndx2 |>.put np2
  have s2:Same H2 H3:=fun b o e=>k2 b o (s02 b o e) (Zf e np2);have hd20:H2 d2=none:=s02.free hd2;have d12:d1≠d2:=Zf J1.dc hd20;have J1':=J1.same s2;refine⟨Nat.zero_le _,fun pl hpl=>⟨Nat.zero_le _,fun bl hbl=>?_⟩⟩;have s3:Same H3 (upd (upd H3 pl (.lst [])) bl (.lst [])):=(Same.new hpl).trans (Same.new hbl);have hplx:(upd (upd H3 pl (.lst [])) bl (.lst [])) pl=some (.lst []):=(Same.new hbl) _ _ Zb;have hblx:(upd (upd H3 pl (.lst [])) bl (.lst [])) bl=some (.lst []):=Zb;have pbx:pl≠bl:=Zf (Zb (H:=H3) (a:=pl) (o:=.lst [])) hbl;revert s3 hplx hblx;generalize upd (upd H3 pl (.lst [])) bl (.lst [])=H4;intro s3 hplx hblx;have s14:=(s1.trans s2).trans s3;have hpl0:H1 pl=none:=(s1.trans s2).free hpl;refine⟨fun σ H5=>∃ pl ps,σ=[some (.ref a),some (.int n),some (.ref p1),some (.ref p2),some (.ref pl),some (.ref bl),none,none,none]/\Same H4 H5/\H1 pl=none/\pl≠bl/\PrsO H5 pl ps/\ps.Nodup/\In n ps/\ps.length<=57,?_,?_⟩
  ·refine⟨_,rfl,a,ns,0,rfl,s14.seq hS,by decide,_,_,rfl,rfl,⟨by decide,by decide⟩,_,_,rfl,rfl,(by decide:(0:Int)<3),rfl,_,rfl,ite2 (fun _=>?_) (fun _=>?_)⟩
   ·refine⟨_,rfl,_,rfl,a,ns,20,n,rfl,s14.seq hS,by decide,hn1,hn,fun l pp H5 s5 hl hP hle=>?_⟩
    exact⟨l,_,rfl,s5,s14.free hl,(Zf hblx hl).symm,hP,(Zej n pp n).1,Zgk n pp,hle⟩
   ·exact⟨pl,[],rfl,Same.refl _,hpl0,pbx,⟨[],hplx,.nil⟩,List.nodup_nil,(fun _ h=>nomatch h),Nat.zero_le _⟩
  clear hplx pbx hpl0 hpl hbl;rintro σ H5 ⟨pl,ps,rfl,s5,hpl0,pbx,hL,ndp,hinp,hlp⟩;have s15:=s14.trans s5;have J1a:=J1'.same (s3.trans s5);have J2a:=J2.same (s3.trans s5);have hbla:=s5 _ _ hblx;obtain⟨rs,hrs,hPs⟩:=id hL;refine⟨fun σ H6=>∃ v,σ=[some (.ref a),some (.int n),some (.ref p1),some (.ref p2),some (.ref pl),some (.ref bl),v,none,none]/\JAt T.c_Judge H6 p1 d1 n ps/\∀ c o,H5 c=some o->c≠d1->H6 c=some o,?_,?_⟩
  ·refine⟨_,rfl,pl,rfl,⟨_,SqL.of hrs⟩,Z8 (K:=K) (a:=pl) (xs:=rs.map V.ref) (fun i σ H6=>∃ v,σ=[some (.ref a),some (.int n),some (.ref p1),some (.ref p2),some (.ref pl),some (.ref bl),v,none,none]/\JAt T.c_Judge H6 p1 d1 n (ps.take i)/\∀ c o,H5 c=some o->c≠d1->H6 c=some o)
    ⟨none,rfl,by rw[List.take_zero];exact J1a,fun c o e _=>e⟩ (fun i σ H6 _ ⟨_,_,_,k6⟩=>SqL.of (k6 _ _ hrs (Zy hrs J1a.dc (by intro z;cases z)))) ?_ ?_⟩
   ·rintro i y σ H6 hi ⟨v,rfl,J6,k6⟩;obtain⟨r,hr',rfl⟩:=Y6 hi;obtain⟨⟨x,y⟩,hxy,hpr⟩:=Paired.at hPs hr';have hr6:=k6 _ _ hpr (Zy (show H5 r=some _ from hpr) J1a.dc (by intro z;cases z))
    obtain⟨⟨dx6,h16⟩,_⟩:=id J6;have hnew:=Zfo ndp hxy;refine⟨_,rfl,p1,dx6,_,rfl,h16,Xv n d1 js.1 js.2.1,_,rfl,r,_,_,_,rfl,rfl,SqT.of hr6,two0,_,rfl,r,_,_,_,rfl,rfl,SqT.of hr6,two1,p1,d1,n,ps.take i,x,y,rfl,J6,hinp _ (List.mem_of_getElem? hxy),(by rw[List.length_take];omega),fun H7 J7 k7=>?_⟩
    rw[decide_eq_false hnew];rw[if_neg hnew] at J7;refine⟨rfl,rfl,_,rfl,iteF ⟨_,rfl,?_,fun c o e hc=>k7 c o (k6 c o e hc) hc⟩⟩;rw[List.take_add_one,hxy];exact J7
   ·rintro σ H6 ⟨v,rfl,J6,k6⟩;rw[List.length_map,Paired.length hPs,List.take_length] at J6;exact⟨v,rfl,J6,k6⟩
  rintro σ H6 ⟨v6,rfl,J6,k6⟩;have s16:Same H1 H6:=fun c o e=>k6 c o (s15 c o e) (Zf e hd10);have W0:Two2 T.c_Judge H6 p1 d1 p2 d2 pl bl n ps [] []:=by
   obtain⟨⟨dxa,e1⟩,e2,e3,e4⟩:=id J2a;exact⟨J6,hL.but J1a.dc Ze0 k6,⟨⟨dxa,k6 _ _ e1 (Zy e1 J1a.dc (by intro z;cases z))⟩,k6 _ _ e2 d12.symm,e3,e4⟩,⟨[],k6 _ _ hbla (Zy hbla J1a.dc (by intro z;cases z)),.nil⟩,(fun _=>Iff.rfl),List.nodup_nil,d12,pbx⟩
  have hd200:H1 d2=none:=s1.free hd20;clear hL hrs hPs J1 J2 J1a J2a J1' J6 hbla hblx k6 s5 s3 s2 s14 s15 k1 k2;have hM:0<=cell ns 1 % 16/\cell ns 1 % 16<16:=by omega
  refine⟨_,rfl,a,ns,1,rfl,s16.seq hS,by decide,_,_,rfl,rfl,(by decide:(0:Int)<16),_,rfl,by omega,by omega,?_⟩
  refine Yx (fun i σ H7=>∃ ps qs bs bl v6 v7 v8,σ=[some (.ref a),some (.int n),some (.ref p1),some (.ref p2),some (.ref pl),some (.ref bl),v6,v7,v8]/\Same H1 H7/\Two2 T.c_Judge H7 p1 d1 p2 d2 pl bl n ps qs bs/\ps.length<=57+i/\bs.length<=i / 3)
   ⟨ps,[],[],bl,_,_,_,rfl,s16,W0,by omega,by show 0<=_;omega⟩ ?_ ?_
  ·clear W0 ndp hinp hlp pbx;rintro i σ H7 hi ⟨ps,qs,bs,bl,v6,v7,v8,rfl,s7,W7,hl7,hb7⟩;refine⟨_,rfl,_,rfl,_,rfl,_,rfl,_,_,rfl,rfl,a,ns,_,rfl,s7.seq hS,by omega,_,rfl,p1,d1,pl,n,ps,_,rfl,W7.j1,W7.l1,hn1,hn,by omega,fun ps' H8 J8 L8 hl8 k8=>⟨_,rfl,iteF ?_⟩⟩
   have W8:=W7.deed J8 L8 k8;have s8:Same H1 H8:=fun c o e=>k8 c o (s7 c o e) (Zf e hd10) (Zf e hpl0);refine⟨fun σ H9=>∃ qs bs bl,σ=[some (.ref a),some (.int n),some (.ref p1),some (.ref p2),some (.ref pl),some (.ref bl),v6,some (.int i),v8]/\Same H1 H9/\Two2 T.c_Judge H9 p1 d1 p2 d2 pl bl n ps' qs bs/\bs.length<=(i+1) / 3,?_,?_⟩
   ·refine⟨_,rfl,_,_,rfl,rfl,(by decide:(0:Int)<3),rfl,_,rfl,ite2 (fun h3=>?_) (fun h3=>?_)⟩
    ·have hi3:i % 3=2:=by
      have:=of_decide_eq_true h3;injection this with this
      omega
     obtain⟨⟨dx2,e1⟩,e2,e3,e4⟩:=id W8.j2;have hx:=jmod (c:=(i:Int)) hn1;refine⟨_,rfl,p2,dx2,_,rfl,e1,Xv n d2 js.1 js.2.1,_,rfl,_,rfl,_,_,rfl,rfl,hn0,p2,d2,n,qs,_,0,rfl,W8.j2,⟨hx,by decide,hn0⟩,(by have:=W8.perm.length_eq;omega),fun H9 J9 k9=>?_⟩
     obtain⟨⟨dx1a,f1⟩,f2,f3,f4⟩:=id W8.j1;have J1b:JAt T.c_Judge H9 p1 d1 n ps':=⟨⟨dx1a,k9 _ _ f1 (Zy f1 e2 (by intro z;cases z))⟩,k9 _ _ f2 d12,f3,f4⟩
     have L1b:=W8.l1.but e2 Ze0 k9;have L2b:=W8.l2.but e2 Ze0 k9;have s9:Same H1 H9:=fun c o e=>k9 c o (s8 c o e) (Zf e hd200);obtain⟨rb,hrb,hPb⟩:=id L2b;obtain⟨rp,hrp,hPp⟩:=id L1b;have hrbl:=Paired.length hPb;refine⟨_,rfl,_,rfl,_,rfl,_,_,rfl,rfl,hn0,(by show 2<=sizeLine;decide),fun t ht=>⟨(by show 1<=sizeLine;decide),fun l1 hl1=>?_⟩⟩
     change (upd H9 t (.tup [.int ((i:Int) % (n:Int)),.int 0])) l1=none at hl1;have s10:=(Same.new (o:=.tup [.int ((i:Int) % (n:Int)),.int 0]) ht).trans (Same.new (o:=.lst [.ref t]) hl1);have htt:(upd (upd H9 t (.tup [.int ((i:Int) % (n:Int)),.int 0])) l1 (.lst [.ref t])) t=some (.tup [.int ((i:Int) % (n:Int)),.int 0]):=(Same.new hl1) _ _ Zb;refine⟨bl,l1,_,_,rfl,rfl,s10 _ _ hrb,Zb,(by show _+1<=_;rw[List.length_map];omega),fun l2 hl2=>?_⟩
     have s11:=s10.trans (Same.new (o:=.lst (rb.map V.ref++[.ref t])) hl2);have htt2:=(Same.new (o:=.lst (rb.map V.ref++[.ref t])) hl2) _ _ htt;have hl22:(upd (upd (upd H9 t (.tup [.int ((i:Int) % (n:Int)),.int 0])) l1 (.lst [.ref t])) l2 (.lst (rb.map V.ref++[.ref t]))) l2=some (.lst ((rb++[t]).map V.ref)):=by rw[Zb,List.map_append];rfl
     revert s11 htt2 hl22;generalize upd (upd (upd H9 t (.tup [.int ((i:Int) % (n:Int)),.int 0])) l1 (.lst [.ref t])) l2 (.lst (rb.map V.ref++[.ref t]))=Ha;intro s11 htt2 hl22;have hPa:Paired (PrH Ha) (rb++[t]) (bs++[(((i:Int) % (n:Int)),0)]):=Yv (Yl hPb s11) (.cons htt2 .nil);obtain⟨ea,hra⟩:=Y8 hPa;refine⟨l2,rb++[t],fun r=>[(pf Ha r).1,(pf Ha r).2],rfl,SqL.of hl22,(by rw[List.length_append,List.length_singleton];omega),hra,fun S hSn=>?_⟩
     have epf:∀ φ,pf (upd Ha S (.ext φ))=pf Ha:=fun φ=>Zi9 hSn;have s12:∀ φ,Same Ha (upd Ha S (.ext φ)):=fun φ=>Same.new hSn;refine⟨S,rb++[t],rfl,(by rw[epf];exact Zb),(by rw[List.length_append,List.length_singleton];omega),(fun r hr'=>by rw[epf];exact s12 _ _ _ (hra r hr')),(fun r hr'=>?_),fun D rs' ps2 hD hP2 hiff2 hnd2 hs2=>?_⟩
     ·have:pf Ha r∈bs++[(((i:Int) % (n:Int)),0)]:=by rw[ea];exact List.mem_map.mpr ⟨r,hr',rfl⟩
      rw[epf];rcases List.mem_append.mp this with g | g
      ·have:=W8.j2.hin _ ((W8.iff _).mp g);omega
      ·rw[List.mem_singleton.mp g];exact⟨Int.le_refl 0,(by decide:(0:Int)<1000)⟩
     ·rw[epf,← ea] at hiff2;have s13:=(s11.trans (s12 _)).trans (Same.new (o:=.lst (rs'.map V.ref)) hD);have hD9:H9 D=none:=(s11.trans (s12 _)).free hD;have hmem:∀ p,p∈(if (((i:Int) % (n:Int)),(0:Int))∈qs then qs else qs++[(((i:Int) % (n:Int)),0)])↔p∈bs++[(((i:Int) % (n:Int)),0)]:=fun p=>by
       rw[List.mem_append,W8.iff p,List.mem_singleton];by_cases hm:(((i:Int) % (n:Int)),(0:Int))∈qs
       ·rw[if_pos hm];exact⟨.inl,fun z=>z.elim id fun z=>z▸hm⟩
       ·rw[if_neg hm,List.mem_append,List.mem_singleton]
      refine⟨_,ps2,D,rfl,s9.trans s13,⟨J1b.same s13,L1b.same s13,J9.same s13,⟨rs',Zb,Paired.mapP hP2 fun r p z=>(Same.new hD) _ _ z⟩,fun p=>(hiff2 p).trans (hmem p).symm,hnd2,d12,Zf hrp hD9⟩,?_⟩;have:=KsTab.nodup_sub_len hnd2 fun p hp=>(hiff2 p).mp hp;rw[List.length_append,List.length_singleton] at this;omega
    ·have hi3:¬ i % 3=2:=fun z=>h3 (decide_eq_true (by show V.int ((i:Int) % 3)=V.int 2;rw[show (i:Int) % 3=2 by omega]))
     exact⟨qs,bs,bl,rfl,s8,W8,by omega⟩
   ·rintro σ H9 ⟨qs,bs,bl,rfl,s9,W9,hb9⟩;obtain⟨⟨dxa,g1⟩,_⟩:=id W9.j1;refine⟨_,rfl,p1,dxa,_,rfl,g1,Xv n d1 js.2.2.1 js.2.2.2,p1,d1,n,ps',rfl,W9.j1,by omega,by omega,fun D q1 Ha sa hDn hPa hpa hsa=>?_⟩
    have Wa:=W9.same sa;refine⟨_,rfl,_,rfl,D,pl,q1,ps',rfl,hPa,hsa,Wa.l1,hpa,Wa.j1.hin.lt1000 (by omega),by omega,fun Hb sb=>⟨_,rfl,iteF ?_⟩⟩
    have Wb:=Wa.same sb;obtain⟨⟨dxb,g2⟩,_⟩:=id Wb.j2;have hqb:=Wb.perm;have hqb2:=hqb.length_eq;refine⟨_,rfl,p2,dxb,_,rfl,g2,Xv n d2 js.2.2.1 js.2.2.2,p2,d2,n,qs,rfl,Wb.j2,by omega,by omega,fun D2 q2 Hc sc hD2 hP2 hp2 hs2=>?_⟩
    have Wc:=Wb.same sc;refine⟨_,rfl,D2,bl,q2,bs,rfl,hP2,hs2,Wc.l2,hp2.trans hqb.symm,(fun p hp=>Wc.j2.hin.lt1000 (by omega) p ((Wc.iff p).mp hp)),by omega,fun Hd sd=>⟨_,rfl,iteF ?_⟩⟩
    have s9d:=(sa.trans sb).trans (sc.trans sd);have hDd:∃ rD:List Addr,Hd D=some (.lst (rD.map V.ref))/\rD.length<128:=by
     obtain⟨rD,e1,e2⟩:=hPa;refine⟨rD,(sb.trans (sc.trans sd)) _ _ e1,?_⟩;rw[Paired.length e2,hpa.length_eq];omega
    obtain⟨rD,hDd,hrD⟩:=hDd;refine⟨_,rfl,.inl ⟨rfl,_,SqL.of hDd⟩,(by show 2<=sizeLine;decide),fun t ht=>?_⟩
    have st:=Same.new (o:=.tup [.int 0,.int 0]) ht;refine⟨D,_,_,rfl,rfl,st _ _ hDd,by rw[List.length_map];omega,?_⟩
    have se:Same H9 (upd (upd Hd t (.tup [.int 0,.int 0])) D (.lst (rD.map V.ref++[.ref t]))):=(s9d.trans st).put hDn;exact⟨ps',qs,bs,bl,_,_,_,rfl,s9.trans se,W9.same se,by omega,hb9⟩
  ·rintro σ H7 ⟨ps,qs,bs,bl,v6,v7,v8,rfl,s7,W7,hl7,hb7⟩;have hl1:ps.length<128:=by omega
   have hl2:qs.length<128:=by have:=W7.perm.length_eq;omega
   obtain⟨⟨dx7,h17⟩,_⟩:=id W7.j1;refine⟨_,rfl,p1,T.c_Judge,dx7,_,_,rfl,h17,T.cl_Judge,T.na_Judge_many,Y0 n d1,_,rfl,_,rfl,iteF ?_⟩;refine⟨_,rfl,p1,T.c_Judge,dx7,_,_,rfl,h17,T.cl_Judge,T.na_Judge_many,Y0 n d1,_,rfl,rfl,_,rfl,iteNS rfl ?_⟩;have hbl2:bs.length<1000:=by have:=W7.perm.length_eq;omega
   refine⟨_,rfl,_,rfl,_,rfl,p2,d2,bl,n,qs,bs,rfl,W7.j2,W7.l2,W7.iff,hn1,by omega,hl2,hbl2,fun H8 s8=>⟨_,rfl,iteT ?_⟩⟩
   have W8:=W7.same s8;refine⟨_,rfl,_,rfl,_,rfl,p1,d1,pl,n,ps,ps,rfl,W8.j1,W8.l1,(fun _=>Iff.rfl),hn1,by omega,hl1,by omega,fun H9 s9=>⟨_,rfl,iteT ?_⟩⟩
   have W9:=W8.same s9;exact⟨_,rfl,_,rfl,_,rfl,p2,d2,bl,n,qs,bs,rfl,W9.j2,W9.l2,W9.iff,hn1,by omega,hl2,hbl2,fun H10 s10=>q _⟩
end
theorem all_mk{l:PySem.W.OpenLaw}{w:World}{K:PySem.W.Frag}{h:Heap}{mg:Str->Option Value}{fa F0 F1 F2 F3 F4 F5 F6 F7 F8 F9 F10 F11 F12 F13 F14 F15 F16 F17 F18 F19 F20 F21 F22 F23 F24 F25:Addr}(X:K.In h)(G:h.Ns mainGlobals mg)(hfa:mg "law"=some (.ref fa))
  {od0 an0 od1 an1 od2 an2 od3 an3 od4 an4 od5 an5 od6 an6 od7 an7 od8 an8 od9 an9 od10 an10 od11 an11 od12 an12 od13 an13 od14 an14 od15 an15 od16 an16 od17 an17 od18 an18 od19 an19 od20 an20 od21 an21 od22 an22 od23 an23 od24 an24 od25 an25:Option Addr} {sl0 sl1 sl2 sl3 sl4 sl5 sl6 sl7 sl8 sl9 sl10 sl11 sl12 sl13 sl14 sl15 sl16 sl17 sl18 sl19 sl20 sl21 sl22 sl23 sl24 sl25:Array (Option Value)} {oc0 kV0 dc0 pm0 cd0 ct0 oc1 kV1 dc1 pm1 cd1 ct1 oc2 kV2 dc2 pm2 cd2 ct2 oc3 kV3 dc3 pm3 cd3 ct3 oc4 kV4 dc4 pm4 cd4 ct4 oc5 kV5 dc5 pm5 cd5 ct5 oc6 kV6 dc6 pm6 cd6 ct6 oc7 kV7 dc7 pm7 cd7 ct7 oc8 kV8 dc8 pm8 cd8 ct8 oc9 kV9 dc9 pm9 cd9 ct9 oc10 kV10 dc10 pm10 cd10 ct10 oc11 kV11 dc11 pm11 cd11 ct11 oc12 kV12 dc12 pm12 cd12 ct12 oc13 kV13 dc13 pm13 cd13 ct13 oc14 kV14 dc14 pm14 cd14 ct14 oc15 kV15 dc15 pm15 cd15 ct15 oc16 kV16 dc16 pm16 cd16 ct16 oc17 kV17 dc17 pm17 cd17 ct17 oc18 kV18 dc18 pm18 cd18 ct18 oc19 kV19 dc19 pm19 cd19 ct19 oc20 kV20 dc20 pm20 cd20 ct20 oc21 kV21 dc21 pm21 cd21 ct21 oc22 kV22 dc22 pm22 cd22 ct22 oc23 kV23 dc23 pm23 cd23 ct23 oc24 kV24 dc24 pm24 cd24 ct24 oc25 kV25 dc25 pm25 cd25 ct25:Value}
  (a0:PySem.W.nsIn K mainGlobals "refuse_strangers"=some (some (.ref F0))) (l0:K.lookup F0=some ⟨oc0,od0,.func (PySem.W.fnOf "refuse_strangers" "refuse_strangers" (defArgs (top 7)) (defBody (top 7)) (defScope (top 7)) .none kV0 dc0 pm0 an0 cd0 ct0),sl0⟩) (c0:PySem.W.codeIn K cd0 "refuse_strangers"=true) (k0:PySem.W.keepIn K (.ref F0)=true)
  (a1:PySem.W.nsIn K mainGlobals "table_of"=some (some (.ref F1))) (l1:K.lookup F1=some ⟨oc1,od1,.func (PySem.W.fnOf "table_of" "table_of" (defArgs (top 8)) (defBody (top 8)) (defScope (top 8)) .none kV1 dc1 pm1 an1 cd1 ct1),sl1⟩) (c1:PySem.W.codeIn K cd1 "table_of"=true) (k1:PySem.W.keepIn K (.ref F1)=true)
  (a2:PySem.W.nsIn K mainGlobals "beaten_by"=some (some (.ref F2))) (l2:K.lookup F2=some ⟨oc2,od2,.func (PySem.W.fnOf "beaten_by" "beaten_by" (defArgs (top 9)) (defBody (top 9)) (defScope (top 9)) .none kV2 dc2 pm2 an2 cd2 ct2),sl2⟩) (c2:PySem.W.codeIn K cd2 "beaten_by"=true) (k2:PySem.W.keepIn K (.ref F2)=true)
  (a3:PySem.W.nsIn K mainGlobals "things_without_ends"=some (some (.ref F3))) (l3:K.lookup F3=some ⟨oc3,od3,.func (PySem.W.fnOf "things_without_ends" "things_without_ends" (defArgs (top 10)) (defBody (top 10)) (defScope (top 10)) .none kV3 dc3 pm3 an3 cd3 ct3),sl3⟩) (c3:PySem.W.codeIn K cd3 "things_without_ends"=true) (k3:PySem.W.keepIn K (.ref F3)=true)
  (a4:PySem.W.nsIn K mainGlobals "come_round"=some (some (.ref F4))) (l4:K.lookup F4=some ⟨oc4,od4,.func (PySem.W.fnOf "come_round" "come_round" (defArgs (top 11)) (defBody (top 11)) (defScope (top 11)) .none kV4 dc4 pm4 an4 cd4 ct4),sl4⟩) (c4:PySem.W.codeIn K cd4 "come_round"=true) (k4:PySem.W.keepIn K (.ref F4)=true)
  (a5:PySem.W.nsIn K mainGlobals "round_in"=some (some (.ref F5))) (l5:K.lookup F5=some ⟨oc5,od5,.func (PySem.W.fnOf "round_in" "round_in" (defArgs (top 12)) (defBody (top 12)) (defScope (top 12)) .none kV5 dc5 pm5 an5 cd5 ct5),sl5⟩) (c5:PySem.W.codeIn K cd5 "round_in"=true) (k5:PySem.W.keepIn K (.ref F5)=true)
  (a6:PySem.W.nsIn K mainGlobals "beaten_by_one_alone"=some (some (.ref F6))) (l6:K.lookup F6=some ⟨oc6,od6,.func (PySem.W.fnOf "beaten_by_one_alone" "beaten_by_one_alone" (defArgs (top 14)) (defBody (top 14)) (defScope (top 14)) .none kV6 dc6 pm6 an6 cd6 ct6),sl6⟩) (c6:PySem.W.codeIn K cd6 "beaten_by_one_alone"=true) (k6:PySem.W.keepIn K (.ref F6)=true)
  (a7:PySem.W.nsIn K mainGlobals "two_pairs_in"=some (some (.ref F7))) (l7:K.lookup F7=some ⟨oc7,od7,.func (PySem.W.fnOf "two_pairs_in" "two_pairs_in" (defArgs (top 15)) (defBody (top 15)) (defScope (top 15)) .none kV7 dc7 pm7 an7 cd7 ct7),sl7⟩) (c7:PySem.W.codeIn K cd7 "two_pairs_in"=true) (k7:PySem.W.keepIn K (.ref F7)=true)
  (a8:PySem.W.nsIn K mainGlobals "spans_in"=some (some (.ref F8))) (l8:K.lookup F8=some ⟨oc8,od8,.func (PySem.W.fnOf "spans_in" "spans_in" (defArgs (top 16)) (defBody (top 16)) (defScope (top 16)) .none kV8 dc8 pm8 an8 cd8 ct8),sl8⟩) (c8:PySem.W.codeIn K cd8 "spans_in"=true) (k8:PySem.W.keepIn K (.ref F8)=true)
  (a9:PySem.W.nsIn K mainGlobals "what_forbids_spans"=some (some (.ref F9))) (l9:K.lookup F9=some ⟨oc9,od9,.func (PySem.W.fnOf "what_forbids_spans" "what_forbids_spans" (defArgs (top 17)) (defBody (top 17)) (defScope (top 17)) .none kV9 dc9 pm9 an9 cd9 ct9),sl9⟩) (c9:PySem.W.codeIn K cd9 "what_forbids_spans"=true) (k9:PySem.W.keepIn K (.ref F9)=true)
  (a10:PySem.W.nsIn K mainGlobals "spans"=some (some (.ref F10))) (l10:K.lookup F10=some ⟨oc10,od10,.func (PySem.W.fnOf "spans" "spans" (defArgs (top 18)) (defBody (top 18)) (defScope (top 18)) .none kV10 dc10 pm10 an10 cd10 ct10),sl10⟩) (c10:PySem.W.codeIn K cd10 "spans"=true) (k10:PySem.W.keepIn K (.ref F10)=true)
  (a11:PySem.W.nsIn K mainGlobals "steps_in"=some (some (.ref F11))) (l11:K.lookup F11=some ⟨oc11,od11,.func (PySem.W.fnOf "steps_in" "steps_in" (defArgs (top 20)) (defBody (top 20)) (defScope (top 20)) .none kV11 dc11 pm11 an11 cd11 ct11),sl11⟩) (c11:PySem.W.codeIn K cd11 "steps_in"=true) (k11:PySem.W.keepIn K (.ref F11)=true)
  (a12:PySem.W.nsIn K mainGlobals "raise_once"=some (some (.ref F12))) (l12:K.lookup F12=some ⟨oc12,od12,.func (PySem.W.fnOf "raise_once" "raise_once" (defArgs (top 21)) (defBody (top 21)) (defScope (top 21)) .none kV12 dc12 pm12 an12 cd12 ct12),sl12⟩) (c12:PySem.W.codeIn K cd12 "raise_once"=true) (k12:PySem.W.keepIn K (.ref F12)=true)
  (a13:PySem.W.nsIn K mainGlobals "marks_or_misfit"=some (some (.ref F13))) (l13:K.lookup F13=some ⟨oc13,od13,.func (PySem.W.fnOf "marks_or_misfit" "marks_or_misfit" (defArgs (top 22)) (defBody (top 22)) (defScope (top 22)) .none kV13 dc13 pm13 an13 cd13 ct13),sl13⟩) (c13:PySem.W.codeIn K cd13 "marks_or_misfit"=true) (k13:PySem.W.keepIn K (.ref F13)=true)
  (a14:PySem.W.nsIn K mainGlobals "least_width_in"=some (some (.ref F14))) (l14:K.lookup F14=some ⟨oc14,od14,.func (PySem.W.fnOf "least_width_in" "least_width_in" (defArgs (top 23)) (defBody (top 23)) (defScope (top 23)) .none kV14 dc14 pm14 an14 cd14 ct14),sl14⟩) (c14:PySem.W.codeIn K cd14 "least_width_in"=true) (k14:PySem.W.keepIn K (.ref F14)=true)
  (a15:PySem.W.nsIn K mainGlobals "three_row_in"=some (some (.ref F15))) (l15:K.lookup F15=some ⟨oc15,od15,.func (PySem.W.fnOf "three_row_in" "three_row_in" (defArgs (top 24)) (defBody (top 24)) (defScope (top 24)) .none kV15 dc15 pm15 an15 cd15 ct15),sl15⟩) (c15:PySem.W.codeIn K cd15 "three_row_in"=true) (k15:PySem.W.keepIn K (.ref F15)=true)
  (a16:PySem.W.nsIn K mainGlobals "marks"=some (some (.ref F16))) (l16:K.lookup F16=some ⟨oc16,od16,.func (PySem.W.fnOf "marks" "marks" (defArgs (top 25)) (defBody (top 25)) (defScope (top 25)) .none kV16 dc16 pm16 an16 cd16 ct16),sl16⟩) (c16:PySem.W.codeIn K cd16 "marks"=true) (k16:PySem.W.keepIn K (.ref F16)=true)
  (a17:PySem.W.nsIn K mainGlobals "_law_cell_at"=some (some (.ref F17))) (l17:K.lookup F17=some ⟨oc17,od17,.func (PySem.W.fnOf "_law_cell_at" "_law_cell_at" (defArgs (top 29)) (defBody (top 29)) (defScope (top 29)) .none kV17 dc17 pm17 an17 cd17 ct17),sl17⟩) (c17:PySem.W.codeIn K cd17 "_law_cell_at"=true) (k17:PySem.W.keepIn K (.ref F17)=true)
  (a18:PySem.W.nsIn K mainGlobals "_law_whole"=some (some (.ref F18))) (l18:K.lookup F18=some ⟨oc18,od18,.func (PySem.W.fnOf "_law_whole" "_law_whole" (defArgs (top 30)) (defBody (top 30)) (defScope (top 30)) .none kV18 dc18 pm18 an18 cd18 ct18),sl18⟩) (c18:PySem.W.codeIn K cd18 "_law_whole"=true) (k18:PySem.W.keepIn K (.ref F18)=true)
  (a19:PySem.W.nsIn K mainGlobals "_law_marked"=some (some (.ref F19))) (l19:K.lookup F19=some ⟨oc19,od19,.func (PySem.W.fnOf "_law_marked" "_law_marked" (defArgs (top 31)) (defBody (top 31)) (defScope (top 31)) .none kV19 dc19 pm19 an19 cd19 ct19),sl19⟩) (c19:PySem.W.codeIn K cd19 "_law_marked"=true) (k19:PySem.W.keepIn K (.ref F19)=true)
  (a20:PySem.W.nsIn K mainGlobals "_law_which"=some (some (.ref F20))) (l20:K.lookup F20=some ⟨oc20,od20,.func (PySem.W.fnOf "_law_which" "_law_which" (defArgs (top 32)) (defBody (top 32)) (defScope (top 32)) .none kV20 dc20 pm20 an20 cd20 ct20),sl20⟩) (c20:PySem.W.codeIn K cd20 "_law_which"=true) (k20:PySem.W.keepIn K (.ref F20)=true)
  (a21:PySem.W.nsIn K mainGlobals "_law_refused"=some (some (.ref F21))) (l21:K.lookup F21=some ⟨oc21,od21,.func (PySem.W.fnOf "_law_refused" "_law_refused" (defArgs (top 33)) (defBody (top 33)) (defScope (top 33)) .none kV21 dc21 pm21 an21 cd21 ct21),sl21⟩) (c21:PySem.W.codeIn K cd21 "_law_refused"=true) (k21:PySem.W.keepIn K (.ref F21)=true)
  (a22:PySem.W.nsIn K mainGlobals "_law_tells"=some (some (.ref F22))) (l22:K.lookup F22=some ⟨oc22,od22,.func (PySem.W.fnOf "_law_tells" "_law_tells" (defArgs (top 34)) (defBody (top 34)) (defScope (top 34)) .none kV22 dc22 pm22 an22 cd22 ct22),sl22⟩) (c22:PySem.W.codeIn K cd22 "_law_tells"=true) (k22:PySem.W.keepIn K (.ref F22)=true)
  (a23:PySem.W.nsIn K mainGlobals "_law_deed"=some (some (.ref F23))) (l23:K.lookup F23=some ⟨oc23,od23,.func (PySem.W.fnOf "_law_deed" "_law_deed" (defArgs (top 35)) (defBody (top 35)) (defScope (top 35)) .none kV23 dc23 pm23 an23 cd23 ct23),sl23⟩) (c23:PySem.W.codeIn K cd23 "_law_deed"=true) (k23:PySem.W.keepIn K (.ref F23)=true)
  (a24:PySem.W.nsIn K mainGlobals "_law_same"=some (some (.ref F24))) (l24:K.lookup F24=some ⟨oc24,od24,.func (PySem.W.fnOf "_law_same" "_law_same" (defArgs (top 36)) (defBody (top 36)) (defScope (top 36)) .none kV24 dc24 pm24 an24 cd24 ct24),sl24⟩) (c24:PySem.W.codeIn K cd24 "_law_same"=true) (k24:PySem.W.keepIn K (.ref F24)=true)
  (a25:PySem.W.nsIn K mainGlobals "law"=some (some (.ref F25))) (l25:K.lookup F25=some ⟨oc25,od25,.func (PySem.W.fnOf "law" "law" (defArgs (top 37)) (defBody (top 37)) (defScope (top 37)) .none kV25 dc25 pm25 an25 cd25 ct25),sl25⟩) (c25:PySem.W.codeIn K cd25 "law"=true) (k25:PySem.W.keepIn K (.ref F25)=true)
  {CJ_Judge:Addr} (jC_Judge:PySem.W.nsIn K mainGlobals "Judge"=some (some (.ref CJ_Judge))) (jpg_Judge:PySem.W.plainGet K CJ_Judge Str.empty=true) (jhd_Judge:PySem.W.hasDictIn K CJ_Judge=true) (jpo_Judge:PySem.W.plainOver K CJ_Judge=true) (jsa_Judge:PySem.W.findIn K (.ref CJ_Judge) "__setattr__"=some (some (.builtin "object.__setattr__"))) (jmk_Judge:PySem.W.makesIn K CJ_Judge=true) (jkc_Judge:PySem.W.keepIn K (.ref CJ_Judge)=true) (jn0_Judge:PySem.W.findIn K (.ref CJ_Judge) "many"=some none) (jn1_Judge:PySem.W.findIn K (.ref CJ_Judge) "said"=some none)
  {Fm0:Addr} {odm0 anm0:Option Addr} {slm0:Array (Option Value)} {ocm0 kVm0 dcm0 pmm0 cdm0 ctm0:Value} (am0:PySem.W.findIn K (.ref CJ_Judge) "__init__"=some (some (.ref Fm0))) (im0:PySem.W.isFn K (.ref Fm0)=true) (lm0:K.lookup Fm0=some ⟨ocm0,odm0,.func (PySem.W.fnOf "__init__" "Judge.__init__" (defArgs (inClass (top 27) 0)) (defBody (inClass (top 27) 0)) (defScope (inClass (top 27) 0)) .none kVm0 dcm0 pmm0 anm0 cdm0 ctm0),slm0⟩) (cm0:PySem.W.codeIn K cdm0 "Judge.__init__"=true) (km0:PySem.W.keepIn K (.ref Fm0)=true)
  {Fm1:Addr} {odm1 anm1:Option Addr} {slm1:Array (Option Value)} {ocm1 kVm1 dcm1 pmm1 cdm1 ctm1:Value} (am1:PySem.W.findIn K (.ref CJ_Judge) "say"=some (some (.ref Fm1))) (im1:PySem.W.isFn K (.ref Fm1)=true) (lm1:K.lookup Fm1=some ⟨ocm1,odm1,.func (PySem.W.fnOf "say" "Judge.say" (defArgs (inClass (top 27) 1)) (defBody (inClass (top 27) 1)) (defScope (inClass (top 27) 1)) .none kVm1 dcm1 pmm1 anm1 cdm1 ctm1),slm1⟩) (cm1:PySem.W.codeIn K cdm1 "Judge.say"=true) (km1:PySem.W.keepIn K (.ref Fm1)=true)
  {Fm2:Addr} {odm2 anm2:Option Addr} {slm2:Array (Option Value)} {ocm2 kVm2 dcm2 pmm2 cdm2 ctm2:Value} (am2:PySem.W.findIn K (.ref CJ_Judge) "unsay"=some (some (.ref Fm2))) (im2:PySem.W.isFn K (.ref Fm2)=true) (lm2:K.lookup Fm2=some ⟨ocm2,odm2,.func (PySem.W.fnOf "unsay" "Judge.unsay" (defArgs (inClass (top 27) 2)) (defBody (inClass (top 27) 2)) (defScope (inClass (top 27) 2)) .none kVm2 dcm2 pmm2 anm2 cdm2 ctm2),slm2⟩) (cm2:PySem.W.codeIn K cdm2 "Judge.unsay"=true) (km2:PySem.W.keepIn K (.ref Fm2)=true)
  {Fm3:Addr} {odm3 anm3:Option Addr} {slm3:Array (Option Value)} {ocm3 kVm3 dcm3 pmm3 cdm3 ctm3:Value} (am3:PySem.W.findIn K (.ref CJ_Judge) "sayings"=some (some (.ref Fm3))) (im3:PySem.W.isFn K (.ref Fm3)=true) (lm3:K.lookup Fm3=some ⟨ocm3,odm3,.func (PySem.W.fnOf "sayings" "Judge.sayings" (defArgs (inClass (top 27) 3)) (defBody (inClass (top 27) 3)) (defScope (inClass (top 27) 3)) .none kVm3 dcm3 pmm3 anm3 cdm3 ctm3),slm3⟩) (cm3:PySem.W.codeIn K cdm3 "Judge.sayings"=true) (km3:PySem.W.keepIn K (.ref Fm3)=true)
  {Fm4:Addr} {odm4 anm4:Option Addr} {slm4:Array (Option Value)} {ocm4 kVm4 dcm4 pmm4 cdm4 ctm4:Value} (am4:PySem.W.findIn K (.ref CJ_Judge) "by_marks"=some (some (.ref Fm4))) (im4:PySem.W.isFn K (.ref Fm4)=true) (lm4:K.lookup Fm4=some ⟨ocm4,odm4,.func (PySem.W.fnOf "by_marks" "Judge.by_marks" (defArgs (inClass (top 27) 4)) (defBody (inClass (top 27) 4)) (defScope (inClass (top 27) 4)) .none kVm4 dcm4 pmm4 anm4 cdm4 ctm4),slm4⟩) (cm4:PySem.W.codeIn K cdm4 "Judge.by_marks"=true) (km4:PySem.W.keepIn K (.ref Fm4)=true)
  {Fm5:Addr} {odm5 anm5:Option Addr} {slm5:Array (Option Value)} {ocm5 kVm5 dcm5 pmm5 cdm5 ctm5:Value} (am5:PySem.W.findIn K (.ref CJ_Judge) "by_spans"=some (some (.ref Fm5))) (im5:PySem.W.isFn K (.ref Fm5)=true) (lm5:K.lookup Fm5=some ⟨ocm5,odm5,.func (PySem.W.fnOf "by_spans" "Judge.by_spans" (defArgs (inClass (top 27) 5)) (defBody (inClass (top 27) 5)) (defScope (inClass (top 27) 5)) .none kVm5 dcm5 pmm5 anm5 cdm5 ctm5),slm5⟩) (cm5:PySem.W.codeIn K cdm5 "Judge.by_spans"=true) (km5:PySem.W.keepIn K (.ref Fm5)=true)
  {XC_KeenError XC_BadSay XC_NoSay XC_NoWidth XC_BadLine:Addr} (xf0:PySem.W.nsIn K mainGlobals "KeenError"=some (some (.ref XC_KeenError))) (xf1:PySem.W.typeIn K (.ref XC_KeenError)=some (.type "type")) (xf2:PySem.W.isClsIn K XC_KeenError=true) (xf3:PySem.W.nsIn K mainGlobals "BadSay"=some (some (.ref XC_BadSay))) (xf4:PySem.W.typeIn K (.ref XC_BadSay)=some (.type "type")) (xf5:PySem.W.isClsIn K XC_BadSay=true) (xf6:PySem.W.nsIn K mainGlobals "NoSay"=some (some (.ref XC_NoSay))) (xf7:PySem.W.typeIn K (.ref XC_NoSay)=some (.type "type")) (xf8:PySem.W.isClsIn K XC_NoSay=true) (xf9:PySem.W.nsIn K mainGlobals "NoWidth"=some (some (.ref XC_NoWidth))) (xf10:PySem.W.typeIn K (.ref XC_NoWidth)=some (.type "type")) (xf11:PySem.W.isClsIn K XC_NoWidth=true) (xf12:PySem.W.nsIn K mainGlobals "BadLine"=some (some (.ref XC_BadLine))) (xf13:PySem.W.typeIn K (.ref XC_BadLine)=some (.type "type")) (xf14:PySem.W.isClsIn K XC_BadLine=true) (xf15:PySem.W.mroIn K XC_KeenError (.type "BaseException")=some true) (xf16:PySem.W.excIn K XC_BadSay bmVE "ValueError.__new__"=true) (xf17:PySem.W.hasDictIn K XC_BadSay=true) (xf18:PySem.W.findIn K (.ref XC_BadSay) "__class__"=some (some (.builtin "object.__class__"))) (xf19:PySem.W.specialIn K (.builtin "object.__class__") "__get__"=some (some (.builtin "getset_descriptor.__get__"))) (xf20:PySem.W.takesIn K (.builtin "object.__class__")=some true) (xf21:PySem.W.mroIn K XC_BadSay (.type "object")=some true) (xf22:PySem.W.mroIn K XC_BadSay (.type "BaseException")=some true) (xf23:PySem.W.findIn K (.ref XC_BadSay) "__getattribute__"=some (some (.builtin "BaseException.__getattribute__"))) (xf24:PySem.W.findIn K (.ref XC_BadSay) "__getattr__"=some none) (xf25:PySem.W.mroIn K XC_BadSay (.type "ValueError")=some true) (xf26:PySem.W.mroIn K XC_BadSay (.ref XC_KeenError)=some true) (xf27:PySem.W.mroIn K XC_BadSay (.ref XC_BadSay)=some true) (xf28:PySem.W.mroIn K XC_BadSay (.ref XC_NoSay)=some false) (xf29:PySem.W.mroIn K XC_BadSay (.ref XC_NoWidth)=some false) (xf30:PySem.W.mroIn K XC_BadSay (.ref XC_BadLine)=some false) (xf31:PySem.W.excIn K XC_NoSay bmVE "ValueError.__new__"=true) (xf32:PySem.W.hasDictIn K XC_NoSay=true) (xf33:PySem.W.findIn K (.ref XC_NoSay) "__class__"=some (some (.builtin "object.__class__"))) (xf34:PySem.W.specialIn K (.builtin "object.__class__") "__get__"=some (some (.builtin "getset_descriptor.__get__"))) (xf35:PySem.W.takesIn K (.builtin "object.__class__")=some true) (xf36:PySem.W.mroIn K XC_NoSay (.type "object")=some true) (xf37:PySem.W.mroIn K XC_NoSay (.type "BaseException")=some true) (xf38:PySem.W.findIn K (.ref XC_NoSay) "__getattribute__"=some (some (.builtin "BaseException.__getattribute__"))) (xf39:PySem.W.findIn K (.ref XC_NoSay) "__getattr__"=some none) (xf40:PySem.W.mroIn K XC_NoSay (.type "ValueError")=some true) (xf41:PySem.W.mroIn K XC_NoSay (.ref XC_KeenError)=some true) (xf42:PySem.W.mroIn K XC_NoSay (.ref XC_BadSay)=some false) (xf43:PySem.W.mroIn K XC_NoSay (.ref XC_NoSay)=some true) (xf44:PySem.W.mroIn K XC_NoSay (.ref XC_NoWidth)=some false) (xf45:PySem.W.mroIn K XC_NoSay (.ref XC_BadLine)=some false)
  (z0:PySem.W.nsIn K mainGlobals "len"=some none) (z1:PySem.W.nsIn K mainGlobals "range"=some none) (z2:PySem.W.nsIn K mainGlobals "list"=some none) (z3:PySem.W.nsIn K mainGlobals "sorted"=some none) (z4:PySem.W.nsIn K mainGlobals "set"=some none) (z5:PySem.W.nsIn K mainGlobals "isinstance"=some none) (z6:PySem.W.nsIn K mainGlobals "int"=some none) (z7:PySem.W.nsIn K mainGlobals "bool"=some none) (z8:PySem.W.nsIn K mainGlobals "tuple"=some none) (z9:PySem.W.nsIn K mainGlobals "str"=some none) (z10:PySem.W.nsIn K mainGlobals "max"=some none) (z11:PySem.W.nsIn K mainGlobals "min"=some none) (z12:PySem.W.nsIn K mainGlobals "zip"=some none) (z13:PySem.W.nsIn K mainGlobals "ValueError"=some none):
  ∃ fd:FuncData,(∀ (s:Shared) (v:Value),BindsTo s fd ⟨[v],[]⟩ [("script",v)])/\∀ base:Heap,K.In base->base.Ns mainGlobals mg->FnOk l.prog w K mg base CX0 9 fa fd ["script"] (spLaw K):=by
 have e:=hfa.symm.trans (PySem.W.mg_of X G a25);cases e;exact⟨(PySem.W.fnOf "law" "law" (defArgs (top 37)) (defBody (top 37)) (defScope (top 37)) .none kV25 dc25 pm25 an25 cd25 ct25),fun s v=>.of_eq rfl,fun base _ _=>Zjk (mg:=mg) (K:=K) ⟨⟨PySem.W.mg_none_of X G z0,PySem.W.mg_none_of X G z1,PySem.W.mg_none_of X G z2,PySem.W.mg_none_of X G z3,PySem.W.mg_none_of X G z4,PySem.W.mg_none_of X G z5,PySem.W.mg_none_of X G z6,PySem.W.mg_none_of X G z7,PySem.W.mg_none_of X G z8,PySem.W.mg_none_of X G z9,PySem.W.mg_none_of X G z10,PySem.W.mg_none_of X G z11,PySem.W.mg_none_of X G z12,PySem.W.mg_none_of X G z13⟩,
  XC_KeenError,PySem.W.mg_of X G xf0,
  XC_BadSay,PySem.W.mg_of X G xf3,
  XC_NoSay,PySem.W.mg_of X G xf6,
  XC_NoWidth,PySem.W.mg_of X G xf9,
  XC_BadLine,PySem.W.mg_of X G xf12,
  Zcz xf16,⟨xf17,xf18,xf19,xf20,xf21,xf22,xf23,xf24⟩,Zho xf15 xf2 xf1 xf26,Zhj xf25,Zb1,X4 xf27 xf8 xf7 xf28,X4 xf27 xf11 xf10 xf29,X4 xf27 xf14 xf13 xf30,
  Zcz xf31,⟨xf32,xf33,xf34,xf35,xf36,xf37,xf38,xf39⟩,Zho xf15 xf2 xf1 xf41,Zhj xf40,X4 xf43 xf5 xf4 xf42,Zb1,X4 xf43 xf11 xf10 xf44,X4 xf43 xf14 xf13 xf45,
  CJ_Judge,PySem.W.mg_of X G jC_Judge,⟨jpg_Judge,jhd_Judge,jpo_Judge,jsa_Judge⟩,jn0_Judge,jn1_Judge,
  ⟨Fm0,(PySem.W.fnOf "__init__" "Judge.__init__" (defArgs (inClass (top 27) 0)) (defBody (inClass (top 27) 0)) (defScope (inClass (top 27) 0)) .none kVm0 dcm0 pmm0 anm0 cdm0 ctm0),Zs (st:=(inClass (top 27) 0)) lm0 cm0 km0,⟨am0,im0,km0⟩⟩,
  ⟨Fm1,(PySem.W.fnOf "say" "Judge.say" (defArgs (inClass (top 27) 1)) (defBody (inClass (top 27) 1)) (defScope (inClass (top 27) 1)) .none kVm1 dcm1 pmm1 anm1 cdm1 ctm1),Zs (st:=(inClass (top 27) 1)) lm1 cm1 km1,⟨am1,im1,km1⟩⟩,
  ⟨Fm2,(PySem.W.fnOf "unsay" "Judge.unsay" (defArgs (inClass (top 27) 2)) (defBody (inClass (top 27) 2)) (defScope (inClass (top 27) 2)) .none kVm2 dcm2 pmm2 anm2 cdm2 ctm2),Zs (st:=(inClass (top 27) 2)) lm2 cm2 km2,⟨am2,im2,km2⟩⟩,
  ⟨Fm3,(PySem.W.fnOf "sayings" "Judge.sayings" (defArgs (inClass (top 27) 3)) (defBody (inClass (top 27) 3)) (defScope (inClass (top 27) 3)) .none kVm3 dcm3 pmm3 anm3 cdm3 ctm3),Zs (st:=(inClass (top 27) 3)) lm3 cm3 km3,⟨am3,im3,km3⟩⟩,
  ⟨Fm4,(PySem.W.fnOf "by_marks" "Judge.by_marks" (defArgs (inClass (top 27) 4)) (defBody (inClass (top 27) 4)) (defScope (inClass (top 27) 4)) .none kVm4 dcm4 pmm4 anm4 cdm4 ctm4),Zs (st:=(inClass (top 27) 4)) lm4 cm4 km4,⟨am4,im4,km4⟩⟩,
  ⟨Fm5,(PySem.W.fnOf "by_spans" "Judge.by_spans" (defArgs (inClass (top 27) 5)) (defBody (inClass (top 27) 5)) (defScope (inClass (top 27) 5)) .none kVm5 dcm5 pmm5 anm5 cdm5 ctm5),Zs (st:=(inClass (top 27) 5)) lm5 cm5 km5,⟨am5,im5,km5⟩⟩,
  ⟨jmk_Judge,am0,im0,jkc_Judge⟩,
  ⟨F0,(PySem.W.fnOf "refuse_strangers" "refuse_strangers" (defArgs (top 7)) (defBody (top 7)) (defScope (top 7)) .none kV0 dc0 pm0 an0 cd0 ct0),⟨Zs (st:=top 7) l0 c0 k0,PySem.W.mg_of X G a0⟩⟩,
  ⟨F1,(PySem.W.fnOf "table_of" "table_of" (defArgs (top 8)) (defBody (top 8)) (defScope (top 8)) .none kV1 dc1 pm1 an1 cd1 ct1),⟨Zs (st:=top 8) l1 c1 k1,PySem.W.mg_of X G a1⟩⟩,
  ⟨F2,(PySem.W.fnOf "beaten_by" "beaten_by" (defArgs (top 9)) (defBody (top 9)) (defScope (top 9)) .none kV2 dc2 pm2 an2 cd2 ct2),⟨Zs (st:=top 9) l2 c2 k2,PySem.W.mg_of X G a2⟩⟩,
  ⟨F3,(PySem.W.fnOf "things_without_ends" "things_without_ends" (defArgs (top 10)) (defBody (top 10)) (defScope (top 10)) .none kV3 dc3 pm3 an3 cd3 ct3),⟨Zs (st:=top 10) l3 c3 k3,PySem.W.mg_of X G a3⟩⟩,
  ⟨F4,(PySem.W.fnOf "come_round" "come_round" (defArgs (top 11)) (defBody (top 11)) (defScope (top 11)) .none kV4 dc4 pm4 an4 cd4 ct4),⟨Zs (st:=top 11) l4 c4 k4,PySem.W.mg_of X G a4⟩⟩,
  ⟨F5,(PySem.W.fnOf "round_in" "round_in" (defArgs (top 12)) (defBody (top 12)) (defScope (top 12)) .none kV5 dc5 pm5 an5 cd5 ct5),⟨Zs (st:=top 12) l5 c5 k5,PySem.W.mg_of X G a5⟩⟩,
  ⟨F6,(PySem.W.fnOf "beaten_by_one_alone" "beaten_by_one_alone" (defArgs (top 14)) (defBody (top 14)) (defScope (top 14)) .none kV6 dc6 pm6 an6 cd6 ct6),⟨Zs (st:=top 14) l6 c6 k6,PySem.W.mg_of X G a6⟩⟩,
  ⟨F7,(PySem.W.fnOf "two_pairs_in" "two_pairs_in" (defArgs (top 15)) (defBody (top 15)) (defScope (top 15)) .none kV7 dc7 pm7 an7 cd7 ct7),⟨Zs (st:=top 15) l7 c7 k7,PySem.W.mg_of X G a7⟩⟩,
  ⟨F8,(PySem.W.fnOf "spans_in" "spans_in" (defArgs (top 16)) (defBody (top 16)) (defScope (top 16)) .none kV8 dc8 pm8 an8 cd8 ct8),⟨Zs (st:=top 16) l8 c8 k8,PySem.W.mg_of X G a8⟩⟩,
  ⟨F9,(PySem.W.fnOf "what_forbids_spans" "what_forbids_spans" (defArgs (top 17)) (defBody (top 17)) (defScope (top 17)) .none kV9 dc9 pm9 an9 cd9 ct9),⟨Zs (st:=top 17) l9 c9 k9,PySem.W.mg_of X G a9⟩⟩,
  ⟨F10,(PySem.W.fnOf "spans" "spans" (defArgs (top 18)) (defBody (top 18)) (defScope (top 18)) .none kV10 dc10 pm10 an10 cd10 ct10),⟨Zs (st:=top 18) l10 c10 k10,PySem.W.mg_of X G a10⟩⟩,
  ⟨F11,(PySem.W.fnOf "steps_in" "steps_in" (defArgs (top 20)) (defBody (top 20)) (defScope (top 20)) .none kV11 dc11 pm11 an11 cd11 ct11),⟨Zs (st:=top 20) l11 c11 k11,PySem.W.mg_of X G a11⟩⟩,
  ⟨F12,(PySem.W.fnOf "raise_once" "raise_once" (defArgs (top 21)) (defBody (top 21)) (defScope (top 21)) .none kV12 dc12 pm12 an12 cd12 ct12),⟨Zs (st:=top 21) l12 c12 k12,PySem.W.mg_of X G a12⟩⟩,
  ⟨F13,(PySem.W.fnOf "marks_or_misfit" "marks_or_misfit" (defArgs (top 22)) (defBody (top 22)) (defScope (top 22)) .none kV13 dc13 pm13 an13 cd13 ct13),⟨Zs (st:=top 22) l13 c13 k13,PySem.W.mg_of X G a13⟩⟩,
  ⟨F14,(PySem.W.fnOf "least_width_in" "least_width_in" (defArgs (top 23)) (defBody (top 23)) (defScope (top 23)) .none kV14 dc14 pm14 an14 cd14 ct14),⟨Zs (st:=top 23) l14 c14 k14,PySem.W.mg_of X G a14⟩⟩,
  ⟨F15,(PySem.W.fnOf "three_row_in" "three_row_in" (defArgs (top 24)) (defBody (top 24)) (defScope (top 24)) .none kV15 dc15 pm15 an15 cd15 ct15),⟨Zs (st:=top 24) l15 c15 k15,PySem.W.mg_of X G a15⟩⟩,
  ⟨F16,(PySem.W.fnOf "marks" "marks" (defArgs (top 25)) (defBody (top 25)) (defScope (top 25)) .none kV16 dc16 pm16 an16 cd16 ct16),⟨Zs (st:=top 25) l16 c16 k16,PySem.W.mg_of X G a16⟩⟩,
  ⟨F17,(PySem.W.fnOf "_law_cell_at" "_law_cell_at" (defArgs (top 29)) (defBody (top 29)) (defScope (top 29)) .none kV17 dc17 pm17 an17 cd17 ct17),⟨Zs (st:=top 29) l17 c17 k17,PySem.W.mg_of X G a17⟩⟩,
  ⟨F18,(PySem.W.fnOf "_law_whole" "_law_whole" (defArgs (top 30)) (defBody (top 30)) (defScope (top 30)) .none kV18 dc18 pm18 an18 cd18 ct18),⟨Zs (st:=top 30) l18 c18 k18,PySem.W.mg_of X G a18⟩⟩,
  ⟨F19,(PySem.W.fnOf "_law_marked" "_law_marked" (defArgs (top 31)) (defBody (top 31)) (defScope (top 31)) .none kV19 dc19 pm19 an19 cd19 ct19),⟨Zs (st:=top 31) l19 c19 k19,PySem.W.mg_of X G a19⟩⟩,
  ⟨F20,(PySem.W.fnOf "_law_which" "_law_which" (defArgs (top 32)) (defBody (top 32)) (defScope (top 32)) .none kV20 dc20 pm20 an20 cd20 ct20),⟨Zs (st:=top 32) l20 c20 k20,PySem.W.mg_of X G a20⟩⟩,
  ⟨F21,(PySem.W.fnOf "_law_refused" "_law_refused" (defArgs (top 33)) (defBody (top 33)) (defScope (top 33)) .none kV21 dc21 pm21 an21 cd21 ct21),⟨Zs (st:=top 33) l21 c21 k21,PySem.W.mg_of X G a21⟩⟩,
  ⟨F22,(PySem.W.fnOf "_law_tells" "_law_tells" (defArgs (top 34)) (defBody (top 34)) (defScope (top 34)) .none kV22 dc22 pm22 an22 cd22 ct22),⟨Zs (st:=top 34) l22 c22 k22,PySem.W.mg_of X G a22⟩⟩,
  ⟨F23,(PySem.W.fnOf "_law_deed" "_law_deed" (defArgs (top 35)) (defBody (top 35)) (defScope (top 35)) .none kV23 dc23 pm23 an23 cd23 ct23),⟨Zs (st:=top 35) l23 c23 k23,PySem.W.mg_of X G a23⟩⟩,
  ⟨F24,(PySem.W.fnOf "_law_same" "_law_same" (defArgs (top 36)) (defBody (top 36)) (defScope (top 36)) .none kV24 dc24 pm24 an24 cd24 ct24),⟨Zs (st:=top 36) l24 c24 k24,PySem.W.mg_of X G a24⟩⟩,
  ⟨fa,(PySem.W.fnOf "law" "law" (defArgs (top 37)) (defBody (top 37)) (defScope (top 37)) .none kV25 dc25 pm25 an25 cd25 ct25),⟨Zs (st:=top 37) l25 c25 k25,PySem.W.mg_of X G a25⟩⟩⟩⟩
theorem walk{l:PySem.W.OpenLaw}{q:Program}{loose:List Str}{XP:(Str->Option Value)->Heap->Prop}{YP:World->Heap->Prop}{d:DefRec}{K:Params->PySem.W.Frag}(hn:l.most=some 63)(hdf:d.params.defaults=[])
  (hY:∀ (w:World) (h:Heap),YP w h->(K w.params).In h)
  (F:∀ (w:World) (mg:Str->Option Value) (fa:Addr) (h:Heap),(K w.params).In h->h.Ns mainGlobals mg->mg d.name=some (.ref fa) ->
   ∃ fd:FuncData,(∀ (s:Shared) (u:Value),BindsTo s fd ⟨[u],[]⟩ [("script",u)])/\∀ base:Heap,(K w.params).In base->base.Ns mainGlobals mg->FnOk l.prog w (K w.params) mg base CX0 9 fa fd ["script"] (spLaw (K w.params))):
  PySem.W.WalkO q loose XP YP l.row.toRowW d [] (fun f vs=>PySem.call f vs):=
 L2.walk_of (n:=63) (k:=9) (x:="script") (CX:=fun _=>CX0) (sp:=fun w=>spLaw (K w.params)) hn (by decide) hdf ⟨rfl,by decide,by decide⟩ hY F (fun _ _ a ns hl _ hS=>⟨a,ns,rfl,hS,hl,fun _=>rfl⟩) fun _ _ _ _ _ z=>z
end KS
namespace PySem.W.Fast
noncomputable def tw9596483382786169918:=0
noncomputable def tw2180960898977302984:=0
noncomputable def tw3976662465083006164:=0
noncomputable def tw8589499032534486285:=0
noncomputable def tw1292479933083624600:=0
noncomputable def tw3498019348821389090:=0
noncomputable def tw14082840002610642641:=0
noncomputable def tw12459650624115554040:=0
noncomputable def tw2104216575478430167:=0
noncomputable def tw5686202973605294112:=0
noncomputable def tw6345351465471135045:=0
noncomputable def tw15752757490134696885:=0
noncomputable def tw6144697943986727607:=0
noncomputable def tw1137705416842324340:=0
noncomputable def tw3060630640044121380:=0
noncomputable def tw15239071243506586717:=0
noncomputable def tw6476814798467617608:=0
noncomputable def tw701538574462609143:=0
noncomputable def tw5197199049857155683:=0
noncomputable def tw4119213247626726912:=0
noncomputable def tw8410287661240540993:=0
noncomputable def tw5422283826427446768:=0
noncomputable def tw7437829889154392323:=0
noncomputable def tw1397187939931100998:=0
noncomputable def tw5605752499253268503:=0
noncomputable def tw15146878768589502175:=0
noncomputable def tw3107249908832031295:=0
noncomputable def tw14061351894807094539:=0
noncomputable def tw2729434400222742063:=0
noncomputable def tw15669375671915024791:=0
noncomputable def tw13360160430774164542:=0
noncomputable def tw12573241509354617640:=0
noncomputable def tw8978406918813481346:=0
noncomputable def tw6634736399163558592:=0
noncomputable def tw14986806604226243064:=0
noncomputable def tw5377275667582409682:=0
noncomputable def tw6222527715300607468:=0
noncomputable def tw10556206035483127290:=0
noncomputable def tw16756228321338445198:=0
noncomputable def tw12928039565933655427:=0
noncomputable def tw8981535666996966776:=0
noncomputable def tw6079505554201612279:=0
noncomputable def tw14612603317629266543:=0
noncomputable def tw5754929395461591280:=0
noncomputable def tw12239254582507644007:=0
noncomputable def tw8338198066439389598:=0
noncomputable def tw17172808585037735420:=0
noncomputable def tw12220112965175706718:=0
noncomputable def tw10036784505886903501:=0
noncomputable def tw4155550934950567515:=0
noncomputable def tw3174007764033145516:=0
noncomputable def tw15613227864096336165:=0
noncomputable def tw5048963728325228413:=0
noncomputable def tw7089973056669527497:=0
noncomputable def tw3045621516439794929:=0
noncomputable def tw4439377761529402897:=0
noncomputable def tw18020561608088649638:=0
noncomputable def tw6985991208661602783:=0
noncomputable def tw9168821257114578229:=0
noncomputable def tw13108417303996126214:=0
noncomputable def tw5592502576405027337:=0
noncomputable def tw5825101292983909412:=0
noncomputable def tw15103836091422597487:=0
noncomputable def tw6571136956688399723:=0
noncomputable def tw1450745583727184874:=0
noncomputable def tw6327430246609357501:=0
noncomputable def tw2512957050574593671:=0
noncomputable def tw271326935290539499:=0
noncomputable def tw281931046775218389:=0
noncomputable def tw16320078049342448305:=0
noncomputable def tw12290054196647659105:=0
noncomputable def tw2418640129205716016:=0
noncomputable def tw8593213032568223181:=0
noncomputable def tw6754141763236788204:=0
noncomputable def tw3466055938608889341:=0
noncomputable def tw2708369223499055994:=0
noncomputable def tw5753475730118251517:=0
noncomputable def tw17664830736062751477:=0
noncomputable def tw9669884201984537291:=0
noncomputable def tw6461512081575259687:=0
noncomputable def tw8145885687491980919:=0
noncomputable def tw10476190421687237198:=0
noncomputable def tw10768036421218214215:=0
noncomputable def tw14089920110714141680:=0
noncomputable def tw14472826084451046568:=0
noncomputable def tw3940234724247541945:=0
noncomputable def tw6740855463197758847:=0
noncomputable def tw6193847573680223531:=0
noncomputable def tw9244834044688727787:=0
noncomputable def tw471145952099849804:=0
noncomputable def tw7542386689589998685:=0
noncomputable def tw11605952596329274485:=0
noncomputable def tw16613616524741684356:=0
noncomputable def tw4271581955803893916:=0
noncomputable def tw3016728239039574712:=0
noncomputable def tw9378601354234826286:=0
noncomputable def tw3193349735784336588:=0
noncomputable def tw11277128831046939872:=0
noncomputable def tw7576178257739774188:=0
noncomputable def tw3093210994392723409:=0
noncomputable def tw8549069588174906475:=0
noncomputable def tw704597842822197812:=0
noncomputable def tw17616502381717075700:=0
noncomputable def tw13589414883959473835:=0
noncomputable def tw3841580354774779942:=0
noncomputable def tw11353002832928235145:=0
noncomputable def tw3806911222409677465:=0
noncomputable def tw5671031901533055677:=0
noncomputable def tw14414471974663217560:=0
noncomputable def tw7471693321064087032:=0
noncomputable def tw873270828655926445:=0
noncomputable def tw2009733420974913025:=0
noncomputable def tw14796139694890706203:=0
noncomputable def tw10818832208865742900:=0
noncomputable def tw5550769372622847320:=0
noncomputable def tw3693833983695584332:=0
noncomputable def tw9002900940213920834:=0
noncomputable def tw8633642842200385469:=0
noncomputable def tw8229555644234092460:=0
noncomputable def tw1712529037446212273:=0
noncomputable def tw10132753406328149943:=0
noncomputable def tw7435793758609337954:=0
noncomputable def tw17007484140909438204:=0
noncomputable def tw15781480088188352363:=0
noncomputable def tw6824229597005653679:=0
noncomputable def tw6482647330226969810:=0
noncomputable def tw10218691954781401393:=0
noncomputable def tw9346359925307053131:=0
noncomputable def tw7123284347911104463:=0
noncomputable def tw12262221533606630918:=0
end PySem.W.Fast
open PySem PySem.W PyProof.Rows
set_option maxRecDepth 100000 in
set_option maxHeartbeats 0 in
theorem PySem.Challenge.cw_keenscale_k11_whole_judge_holds : PySem.Challenge.rw_keenscale_k11_whole_judge.Holds := by
 w_on;o_law;k_head;(case hw=>w_witness2)
 k_fill
 refine KS.walk (l:=PySem.Challenge.rw_keenscale_k11_whole_judge) rfl rfl (fun w h Y=>PySem.W.kIn_of Y) ?F
 case F=>
  intro w mg fa h KX G hmg;refine' KS.all_mk KX G hmg ?a0 ?l0 ?c0 ?k0 ?a1 ?l1 ?c1 ?k1 ?a2 ?l2 ?c2 ?k2 ?a3 ?l3 ?c3 ?k3 ?a4 ?l4 ?c4 ?k4 ?a5 ?l5 ?c5 ?k5 ?a6 ?l6 ?c6 ?k6 ?a7 ?l7 ?c7 ?k7 ?a8 ?l8 ?c8 ?k8 ?a9 ?l9 ?c9 ?k9 ?a10 ?l10 ?c10 ?k10 ?a11 ?l11 ?c11 ?k11 ?a12 ?l12 ?c12 ?k12 ?a13 ?l13 ?c13 ?k13 ?a14 ?l14 ?c14 ?k14 ?a15 ?l15 ?c15 ?k15 ?a16 ?l16 ?c16 ?k16 ?a17 ?l17 ?c17 ?k17 ?a18 ?l18 ?c18 ?k18 ?a19 ?l19 ?c19 ?k19 ?a20 ?l20 ?c20 ?k20 ?a21 ?l21 ?c21 ?k21 ?a22 ?l22 ?c22 ?k22 ?a23 ?l23 ?c23 ?k23 ?a24 ?l24 ?c24 ?k24 ?a25 ?l25 ?c25 ?k25 ?jC_Judge ?jpg_Judge ?jhd_Judge ?jpo_Judge ?jsa_Judge ?jmk_Judge ?jkc_Judge ?jn0_Judge ?jn1_Judge ?am0 ?im0 ?lm0 ?cm0 ?km0 ?am1 ?im1 ?lm1 ?cm1 ?km1 ?am2 ?im2 ?lm2 ?cm2 ?km2 ?am3 ?im3 ?lm3 ?cm3 ?km3 ?am4 ?im4 ?lm4 ?cm4 ?km4 ?am5 ?im5 ?lm5 ?cm5 ?km5 ?xf0 ?xf1 ?xf2 ?xf3 ?xf4 ?xf5 ?xf6 ?xf7 ?xf8 ?xf9 ?xf10 ?xf11 ?xf12 ?xf13 ?xf14 ?xf15 ?xf16 ?xf17 ?xf18 ?xf19 ?xf20 ?xf21 ?xf22 ?xf23 ?xf24 ?xf25 ?xf26 ?xf27 ?xf28 ?xf29 ?xf30 ?xf31 ?xf32 ?xf33 ?xf34 ?xf35 ?xf36 ?xf37 ?xf38 ?xf39 ?xf40 ?xf41 ?xf42 ?xf43 ?xf44 ?xf45 ?z0 ?z1 ?z2 ?z3 ?z4 ?z5 ?z6 ?z7 ?z8 ?z9 ?z10 ?z11 ?z12 ?z13
  (case a0=>k_is)
  (case l0=>k_is)
  (case c0=>k_is)
  (case k0=>k_is)
  (case a1=>k_is)
  (case l1=>k_is)
  (case c1=>k_is)
  (case k1=>k_is)
  (case a2=>k_is)
  (case l2=>k_is)
  (case c2=>k_is)
  (case k2=>k_is)
  (case a3=>k_is)
  (case l3=>k_is)
  (case c3=>k_is)
  (case k3=>k_is)
  (case a4=>k_is)
  (case l4=>k_is)
  (case c4=>k_is)
  (case k4=>k_is)
  (case a5=>k_is)
  (case l5=>k_is)
  (case c5=>k_is)
  (case k5=>k_is)
  (case a6=>k_is)
  (case l6=>k_is)
  (case c6=>k_is)
  (case k6=>k_is)
  (case a7=>k_is)
  (case l7=>k_is)
  (case c7=>k_is)
  (case k7=>k_is)
  (case a8=>k_is)
  (case l8=>k_is)
  (case c8=>k_is)
  (case k8=>k_is)
  (case a9=>k_is)
  (case l9=>k_is)
  (case c9=>k_is)
  (case k9=>k_is)
  (case a10=>k_is)
  (case l10=>k_is)
  (case c10=>k_is)
  (case k10=>k_is)
  (case a11=>k_is)
  (case l11=>k_is)
  (case c11=>k_is)
  (case k11=>k_is)
  (case a12=>k_is)
  (case l12=>k_is)
  (case c12=>k_is)
  (case k12=>k_is)
  (case a13=>k_is)
  (case l13=>k_is)
  (case c13=>k_is)
  (case k13=>k_is)
  (case a14=>k_is)
  (case l14=>k_is)
  (case c14=>k_is)
  (case k14=>k_is)
  (case a15=>k_is)
  (case l15=>k_is)
  (case c15=>k_is)
  (case k15=>k_is)
  (case a16=>k_is)
  (case l16=>k_is)
  (case c16=>k_is)
  (case k16=>k_is)
  (case a17=>k_is)
  (case l17=>k_is)
  (case c17=>k_is)
  (case k17=>k_is)
  (case a18=>k_is)
  (case l18=>k_is)
  (case c18=>k_is)
  (case k18=>k_is)
  (case a19=>k_is)
  (case l19=>k_is)
  (case c19=>k_is)
  (case k19=>k_is)
  (case a20=>k_is)
  (case l20=>k_is)
  (case c20=>k_is)
  (case k20=>k_is)
  (case a21=>k_is)
  (case l21=>k_is)
  (case c21=>k_is)
  (case k21=>k_is)
  (case a22=>k_is)
  (case l22=>k_is)
  (case c22=>k_is)
  (case k22=>k_is)
  (case a23=>k_is)
  (case l23=>k_is)
  (case c23=>k_is)
  (case k23=>k_is)
  (case a24=>k_is)
  (case l24=>k_is)
  (case c24=>k_is)
  (case k24=>k_is)
  (case a25=>k_is)
  (case l25=>k_is)
  (case c25=>k_is)
  (case k25=>k_is)
  (case jC_Judge=>k_is)
  (case jpg_Judge=>k_is)
  (case jhd_Judge=>k_is)
  (case jpo_Judge=>k_is)
  (case jsa_Judge=>k_is)
  (case jmk_Judge=>k_is)
  (case jkc_Judge=>k_is)
  (case jn0_Judge=>k_is)
  (case jn1_Judge=>k_is)
  (case am0=>k_is)
  (case im0=>k_is)
  (case lm0=>k_is)
  (case cm0=>k_is)
  (case km0=>k_is)
  (case am1=>k_is)
  (case im1=>k_is)
  (case lm1=>k_is)
  (case cm1=>k_is)
  (case km1=>k_is)
  (case am2=>k_is)
  (case im2=>k_is)
  (case lm2=>k_is)
  (case cm2=>k_is)
  (case km2=>k_is)
  (case am3=>k_is)
  (case im3=>k_is)
  (case lm3=>k_is)
  (case cm3=>k_is)
  (case km3=>k_is)
  (case am4=>k_is)
  (case im4=>k_is)
  (case lm4=>k_is)
  (case cm4=>k_is)
  (case km4=>k_is)
  (case am5=>k_is)
  (case im5=>k_is)
  (case lm5=>k_is)
  (case cm5=>k_is)
  (case km5=>k_is)
  (case xf0=>k_is)
  (case xf1=>k_is)
  (case xf2=>k_is)
  (case xf3=>k_is)
  (case xf4=>k_is)
  (case xf5=>k_is)
  (case xf6=>k_is)
  (case xf7=>k_is)
  (case xf8=>k_is)
  (case xf9=>k_is)
  (case xf10=>k_is)
  (case xf11=>k_is)
  (case xf12=>k_is)
  (case xf13=>k_is)
  (case xf14=>k_is)
  (case xf15=>k_is)
  (case xf16=>k_exc)
  (case xf17=>k_is)
  (case xf18=>k_is)
  (case xf19=>k_is)
  (case xf20=>k_is)
  (case xf21=>k_is)
  (case xf22=>k_is)
  (case xf23=>k_is)
  (case xf24=>k_is)
  (case xf25=>k_is)
  (case xf26=>k_is)
  (case xf27=>k_is)
  (case xf28=>k_is)
  (case xf29=>k_is)
  (case xf30=>k_is)
  (case xf31=>k_exc)
  (case xf32=>k_is)
  (case xf33=>k_is)
  (case xf34=>k_is)
  (case xf35=>k_is)
  (case xf36=>k_is)
  (case xf37=>k_is)
  (case xf38=>k_is)
  (case xf39=>k_is)
  (case xf40=>k_is)
  (case xf41=>k_is)
  (case xf42=>k_is)
  (case xf43=>k_is)
  (case xf44=>k_is)
  (case xf45=>k_is)
  (case z0=>k_is)
  (case z1=>k_is)
  (case z2=>k_is)
  (case z3=>k_is)
  (case z4=>k_is)
  (case z5=>k_is)
  (case z6=>k_is)
  (case z7=>k_is)
  (case z8=>k_is)
  (case z9=>k_is)
  (case z10=>k_is)
  (case z11=>k_is)
  (case z12=>k_is)
  (case z13=>k_is)
