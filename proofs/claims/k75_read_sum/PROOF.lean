import PyProof.Rows.All
import Wide.All
import OpenK.AllK
import Wide.FinOn
import Lean
import PyProof.EqAt
import PyProof.EqKinds
import PyProof.TupleCall
import PyProof.ListRange
import PyProof.PureStr
import PyProof.MeetsStr3
import PyProof.Draws
import PyProof.StrCalls2
import PyProof.StrBlockH
import KE.KIntText
import PyProof.StrLawsLast
import PyProof.StrLawsIn
import PySem.Challenge.RW_dockethall_k75_read_sum
namespace PySem.W.Fast
def tw18396799571819154509:=0
def tw15713622229221672978:=0
def tw15413571748213793847:=0
def tw15731256012686656776:=0
def tw7967031726619501132:=0
def tw11967076530721760068:=0
def tw14239775087356582182:=0
def tw5791501704197221431:=0
def tw4987687847844909631:=0
def tw11665183919162635080:=0
def tw12447345895259571639:=0
def tw4582747593899780454:=0
def tw4110051438162734301:=0
def tw8821602865172219619:=0
def tw8330924373415355052:=0
def tw2018202356569488255:=0
def tw8861110721279341463:=0
def tw16321356919135015975:=0
def tw34693559897292645:=0
def tw8684456012673790922:=0
def tw6254067013254518608:=0
def tw10131930676576328657:=0
def tw13745707884407194578:=0
def tw4466868180416127240:=0
def tw10970229360562799389:=0
def tw6709035082162696227:=0
def tw2197937120454100518:=0
def tw2643266078353791000:=0
def tw11437162220616308165:=0
def tw14086264108638092732:=0
def tw18358519315947835389:=0
def tw10349449657476658939:=0
def tw6655045500291416043:=0
def tw1502376262170547487:=0
def tw15046926607478649240:=0
def tw13037228715328313578:=0
def tw16146303193658904089:=0
def tw484719819352104418:=0
def tw15022390079637996269:=0
def tw157999331188346521:=0
def tw8872606136915454161:=0
end PySem.W.Fast
set_option Elab.async false
set_option linter.all false
set_option maxRecDepth 100000
theorem oi{a b:Prop}(h:a):a∨b:=Or.inl h
theorem dk{p:Prop}(h:p:=by decide +kernel):p:=h
namespace L2
open PySem PySem.Spec PyProof.Rows
abbrev Key:=Sum Int Str
def keyIs:Key->Value->Bool
 | .inl k,v=>Value.isInt k v
 | .inr x,v=>Value.isStrOf x v
def keyH(w:World):Key->Int
 | .inl k=>hashInt k
 | .inr x=>hashStr w x
theorem Q1:∀{k:Key}{v:Value},keyIs k v=true->(∃ i t,k=Sum.inl i/\v=Value.int i t)∨(∃ x t,k=Sum.inr x/\v=Value.str x t)
 | .inl i,v,h=>by
  obtain⟨t,e⟩:=Value.isInt_shape (k:=i) (v:=v) h
  exact .inl ⟨i,t,rfl,e⟩
 | .inr x,v,h=>by
  obtain⟨t,e⟩:=Value.isStrOf_shape (x:=x) (v:=v) h
  exact .inr ⟨x,t,rfl,e⟩
theorem QmL(a b:Int):decide ((Sum.inl a:Key)=Sum.inl b)=(a == b):=by
 by_cases e:a=b
 ·subst e;simp
 ·have h:¬ (Sum.inl a:Key)=Sum.inl b:=fun q=>e (Sum.inl.inj q)
  rw[decide_eq_false h]
  exact(beq_eq_false_iff_ne.mpr e).symm
theorem QmG(a b:Str):decide ((Sum.inr a:Key)=Sum.inr b)=decide (a=b):=by
 by_cases e:a=b
 ·subst e;simp
 ·have h:¬ (Sum.inr a:Key)=Sum.inr b:=fun q=>e (Sum.inr.inj q)
  rw[decide_eq_false h,decide_eq_false e]
theorem Qm7(a:Int)(b:Str):decide ((Sum.inl a:Key)=Sum.inr b)=false:=decide_eq_false (fun q=>nomatch q)
theorem Qnf(a:Str)(b:Int):decide ((Sum.inr a:Key)=Sum.inl b)=false:=decide_eq_false (fun q=>nomatch q)
def Qh5(prog:Program)(w:World):PySem.KeyKind prog w Key where
 is:=keyIs
 hash:=keyH w
 inj:=fun v a b ha hb=>by
  rcases Q1 ha with⟨i,t,rfl,rfl⟩ | ⟨x,t,rfl,rfl⟩
  ·rcases Q1 hb with⟨j,u,rfl,e⟩ | ⟨y,u,rfl,e⟩
   ·injection e with e1 _;rw[e1]
   ·exact nomatch e
  ·rcases Q1 hb with⟨j,u,rfl,e⟩ | ⟨y,u,rfl,e⟩
   ·exact nomatch e
   ·injection e with e1 _;rw[e1]
 byValue:=fun k v h=>by
  rcases Q1 h with⟨i,t,rfl,rfl⟩ | ⟨x,t,rfl,rfl⟩<;>rfl
 pyHash:=fun hv h=>by
  rcases Q1 hv with⟨i,t,rfl,rfl⟩ | ⟨x,t,rfl,rfl⟩
  ·exact wpAny_pyHash_int h
  ·exact wpAny_pyHash_str h
 eqBool:=fun hu hv h=>by
  rcases Q1 hu with⟨i,t,rfl,rfl⟩ | ⟨x,t,rfl,rfl⟩
  ·rcases Q1 hv with⟨j,u,rfl,rfl⟩ | ⟨y,u,rfl,rfl⟩
   ·rw[QmL]at h;exact wpAny_eqBool_int h
   ·rw[Qm7]at h;exact SeqAt.EqAt.int_str i t y u _ _ _ _ h
  ·rcases Q1 hv with⟨j,u,rfl,rfl⟩ | ⟨y,u,rfl,rfl⟩
   ·rw[Qnf]at h;exact SeqAt.EqAt.str_int x t j u _ _ _ _ h
   ·rw[QmG]at h;exact wpAny_eqBool_str h
 «strs»:=fun k x t v h=>by
  rcases Q1 h with⟨i,u,rfl,e⟩ | ⟨y,u,rfl,e⟩
  ·exact nomatch e
  ·injection e with e1 _
   subst e1
   cases v<;>rfl
end L2
namespace L2
open PySem PySem.Spec PyProof.Rows
inductive V where
 | non | bl (b:Bool) | int (i:Int) | str (x:Str) | byt (b:Array UInt8) | flt (b:UInt64) | ref (a:Addr) | ty (n:String)
 deriving DecidableEq
def RelV:V->Value->Prop
 | .non,u=>u=Value.none
 | .bl b,u=>u=Value.bool b
 | .int i,u=>∃ t,u=Value.int i t
 | .str x,u=>∃ t,u=Value.str x t
 | .byt b,u=>∃ t,u=Value.bytes b t
 | .flt b,u=>∃ t,u=Value.float b t
 | .ref a,u=>u=Value.ref a
 | .ty n,u=>u=Value.type n
abbrev Vals:List V->List Value->Prop:=Paired RelV
theorem Vals.length{xs:List V}{us:List Value}(r:Vals xs us):xs.length=us.length:=Paired.length r
theorem Vals.get:∀{xs:List V}{us:List Value}{i:Nat}{x:V},Vals xs us->xs[i]?=some x->∃ u,us[i]?=some u/\RelV x u
 | _,_,_,_,.nil,e=>by simp at e
 | _,_,0,_,.cons r _,e=>by simp at e;subst e;exact⟨_,rfl,r⟩
 | _,_,i+1,x,.cons _ t,e=>by
  obtain⟨u,h1,h2⟩:=Vals.get (i:=i) (x:=x) t (by simpa using e)
  exact⟨u,by simpa using h1,h2⟩
theorem Vals.set{x:V}{u:Value}(r:RelV x u):∀{xs:List V}{us:List Value}(i:Nat),Vals xs us->Vals (xs.set i x) (us.set i u)
 | _,_,_,.nil=>.nil
 | _,_,0,.cons _ t=>.cons r t
 | _,_,i+1,.cons q t=>.cons q (Vals.set r i t)
theorem Vals.append:∀{xs ys:List V}{us ws:List Value},Vals xs us->Vals ys ws->Vals (xs++ys) (us++ws)
 | _,_,_,_,.nil,s=>s
 | _,_,_,_,.cons r t,s=>.cons r (Vals.append t s)
theorem Vals.take:∀{xs:List V}{us:List Value}(n:Nat),Vals xs us->Vals (xs.take n) (us.take n)
 | _,_,0,_=>.nil
 | _,_,_+1,.nil=>.nil
 | _,_,n+1,.cons r t=>.cons r (Vals.take n t)
theorem Vals.drop:∀{xs:List V}{us:List Value}(n:Nat),Vals xs us->Vals (xs.drop n) (us.drop n)
 | _,_,0,r=>r
 | _,_,_+1,.nil=>.nil
 | _,_,n+1,.cons _ t=>Vals.drop n t
def RelO:Option V->Option Value->Prop
 | some v,some u=>RelV v u
 | none,none=>True
 | _,_=>False
def KV{κ:Type}:List (κ×V)->List (κ×Value)->Prop:=Paired fun(p:κ×V) (q:κ×Value)=>p.1=q.1/\RelV p.2 q.2
def kV:Key->V
 | .inl i=>.int i
 | .inr x=>.str x
inductive HO where
 /-- a list -/
 | lst (xs:List V)
 /-- a tuple (never changes) -/
 | tup (xs:List V)
 /-- a dict whose keys are ints and texts;one whose keys are tuples of ints and texts (the empty one is both) -/
 | dK (kvs:List (Key×V)) | dT (kvs:List (List Key×V))
 /-- a set of ints: its members,its size -/
 | set (S:Int->Bool) (n:Nat)
 /-- an instance of the class at C,its dict at dx,its attributes -/
 | ins (C dx:Addr) (fs:List (Str×V))
 /-- the dict of the instance at x -/
 | own (x:Addr)
 /-- the dict of an exception -/
 | xd (fs:List (Str×V))
 /-- a bound method,f of x -/
 | met (f x:Addr)
 /-- a range object lo,lo+1, .. below hi -/
 | rng (lo hi:Int)
 /-- a thing that is known to the object (the script;a dict while a loop walks it): read,never written while it is so -/
 | frz (o:Obj) (u:HO)
 /-- a code object's table -/
 | tbl (ps:Array Value)
 /-- any other thing,by what is true of its one object (a def of one's own: SetO a S n:=HO.ext fun h => ..) -/
 | ext (φ : Heap->Prop)
abbrev Hp:=Addr->Option HO
def upd(H:Hp)(a:Addr)(o:HO):Hp:=fun b=>if b=a then some o else H b
theorem QG{H:Hp}{a:Addr}{o:HO}:upd H a o a=some o:=by unfold upd;rw[if_pos rfl]
theorem Qg{H:Hp}{a b:Addr}{o:HO}(h:b≠a):upd H a o b=H b:=by unfold upd;rw[if_neg h]
theorem QB{H:Hp}{a b:Addr}{o:HO}(h:H a=some o)(h':H b=none):a≠b:=by
 intro e;subst e;rw[h]at h';cases h'
section
variable(P:Program)(w:World)
def ObjOk(H:Hp)(h:Heap)(a:Addr):HO->Prop
 | .lst xs=>xs.length<=sizeLine/\∃(its:List Value)(n:Nat),Vals xs its/\h.get? a=some { cls:=.type "list",data:=.seq its.toArray n }
 | .tup xs=>xs.length<=sizeLine/\∃ its:List Value,Vals xs its/\IsTup h a its.toArray
 | .dK kvs=>kvs.length<=sizeLine/\(a == sysModules)=false/\∃ vs,KV kvs vs/\h.DictOf (Qh5 P w) a vs
 | .dT kvs=>kvs.length<=sizeLine/\(a == sysModules)=false/\∃ xs:List (List Key×Addr×Value),
  Paired (fun(p:List Key×V) (q:List Key×Addr×Value)=>p.1=q.1/\H q.2.1=some (.tup (p.1.map kV))/\RelV p.2 q.2.2) kvs xs/\
  ∃ o es ep,h.get? a=some o/\o.ExactDict/\o.data=.dict es ep/\es.toList=xs.map (entryOfKey (tupleKind (Qh5 P w)))/\(xs.map (·.1)).Nodup
 | .set S n=>h.SetOf (intKind P w) a S n
 | .ins C dx fs=>H dx=some (.own a)/\fs.length<=1000/\dx≠a/\h.get? a=some (PySem.W.instObj C dx)/\
  ∃ mA,h.Ns1 dx mA/\(∀ f,RelO (fs.lookup f) (mA f))/\PySem.Within mA (fs.map (·.1))
 | .own _=>∃ o,h.get? a=some o
 | .xd fs=>∃ mA,h.Ns1 a mA/\∀ f,RelO (fs.lookup f) (mA f)
 | .rng lo hi=>∃ t u v,h.get? a=some { cls:=.type "range",data:=.fields #[.int lo t,.int hi u,.int 1 v] }
 | .frz o u=>h.get? a=some o/\ObjOk H h a u
 | .tbl ps=>h.get? a=some { cls:=.none,data:=.fields ps }
 | .met f x=>h.get? a=some (PySem.W.methodObj (.ref f) (.ref x))
 | .ext φ => φ h/\(∃ o,h.get? a=some o)/\∀ h1 h2:Heap, φ h1->(∀ o,h1.get? a=some o->h2.get? a=some o) -> φ h2
def HOk(H:Hp)(h:Heap):Prop:=∀ a o,H a=some o->ObjOk P w H h a o
end
section
variable{P:Program}{w:World}{H H':Hp}{h h':Heap}{a:Addr}{o:HO}
theorem ObjOk.lt(x:ObjOk P w H h a o):a<h.objs.size:=by
 cases o with
 | lst xs=>obtain⟨_,_,_,_,e⟩:=x;exact Heap.lt_size e
 | tup xs=>obtain⟨_,_,_,p⟩:=x;exact p.lt
 | dK kvs=>obtain⟨_,_,_,_,o,_,_,e,_⟩:=x;exact Heap.lt_size e
 | dT kvs=>obtain⟨_,_,_,_,o,_,_,e,_⟩:=x;exact Heap.lt_size e
 | set S n=>obtain⟨o,_,_,_,e,_⟩:=x;exact Heap.lt_size e
 | ins C dx fs=>obtain⟨_,_,_,e,_⟩:=x;exact Heap.lt_size e
 | own y=>obtain⟨_,e⟩:=x;exact Heap.lt_size e
 | xd fs=>obtain⟨_,⟨_,_,_,e,_⟩,_⟩:=x;exact Heap.lt_size e
 | rng lo hi=>obtain⟨_,_,_,e⟩:=x;exact Heap.lt_size e
 | frz ob u=>obtain⟨e,_⟩:=x;exact Heap.lt_size e
 | tbl ps=>exact Heap.lt_size (show h.get? a=some _ from x)
 | met f y=>exact Heap.lt_size (show h.get? a=some _ from x)
 | ext φ => obtain⟨_,⟨_,e⟩,_⟩:=x;exact Heap.lt_size e
theorem Paired.mapP{α β:Type}{F G:α->β->Prop}:∀{l₁:List α}{l₂ : List β},Paired F l₁ l₂ -> (∀ a b,F a b->G a b)->Paired G l₁ l₂
 | _,_,.nil,_=>.nil
 | _,_,.cons r t,f=>.cons (f _ _ r) (Paired.mapP t f)
theorem ObjOk.stay(x:ObjOk P w H h a o)(k:∀ b u,(b=a∨H b=some (.own a))->h.get? b=some u->h'.get? b=some u)
 (ho:∀ b,H b=some (.own a)->H' b=some (.own a)) (ht:∀ b xs,H b=some (.tup xs)->H' b=some (.tup xs)):ObjOk P w H' h' a o:=by
 induction o with
 | lst xs=>obtain⟨z,its,n,r,e⟩:=x;exact⟨z,its,n,r,k _ _ (.inl rfl) e⟩
 | tup xs=>obtain⟨z,its,r,ob,e,c⟩:=x;exact⟨z,its,r,ob,k _ _ (.inl rfl) e,c⟩
 | dK kvs=>obtain⟨z,y,vs,r,ob,es,ep,e,c⟩:=x;exact⟨z,y,vs,r,ob,es,ep,k _ _ (.inl rfl) e,c⟩
 | dT kvs=>
  obtain⟨z,y,xs,r,ob,es,ep,e,c⟩:=x
  exact⟨z,y,xs,Paired.mapP r fun p q z=>⟨z.1,ht _ _ z.2.1,z.2.2⟩,ob,es,ep,k _ _ (.inl rfl) e,c⟩
 | set S n=>obtain⟨ob,es,ep,t,e,c⟩:=x;exact⟨ob,es,ep,t,k _ _ (.inl rfl) e,c⟩
 | ins C dx fs=>
  obtain⟨d,z,ne,e,mA,⟨od,es,ep,e2,c⟩,r⟩:=x
  exact⟨ho _ d,z,ne,k _ _ (.inl rfl) e,mA,⟨od,es,ep,k _ _ (.inr d) e2,c⟩,r⟩
 | own y=>obtain⟨ob,e⟩:=x;exact⟨ob,k _ _ (.inl rfl) e⟩
 | xd fs=>obtain⟨mA,⟨od,es,ep,e,c⟩,r⟩:=x;exact⟨mA,⟨od,es,ep,k _ _ (.inl rfl) e,c⟩,r⟩
 | rng lo hi=>obtain⟨t,u,v,e⟩:=x;exact⟨t,u,v,k _ _ (.inl rfl) e⟩
 | frz ob u ih=>obtain⟨e,q⟩:=x;exact⟨k _ _ (.inl rfl) e,ih q⟩
 | tbl ps=>
  have e:h.get? a=some { cls:=.none,data:=.fields ps }:=x
  show h'.get? a=some { cls:=.none,data:=.fields ps }
  exact k a _ (.inl rfl) e
 | met f y=>
  have e:h.get? a=some (PySem.W.methodObj (.ref f) (.ref y)):=x
  show h'.get? a=some (PySem.W.methodObj (.ref f) (.ref y))
  exact k a _ (.inl rfl) e
 | ext φ => obtain⟨p,⟨o,e⟩,st⟩:=x;exact⟨st _ _ p fun o q=>k _ _ (.inl rfl) q,⟨o,k _ _ (.inl rfl) e⟩,st⟩
theorem HOk.lt(x:HOk P w H h)(e:H a=some o):a<h.objs.size:=(x a o e).lt
theorem HOk.fresh(x:HOk P w H h)(e:h.objs.size<=a):H a=none:=by
 cases q:H a with
 | none=>rfl
 | some u=>exact absurd (Nat.lt_of_lt_of_le (x.lt q) e) (Nat.lt_irrefl _)
theorem HOk.kept(x:HOk P w H h)(k:∀ b u,h.get? b=some u->h'.get? b=some u):HOk P w H h':=fun a o e=>
 (x a o e).stay (fun b u _ q=>k b u q) (fun _ q=>q) fun _ _ q=>q
theorem HOk.laid(x:HOk P w H h)(k:∀ b u,h.get? b=some u->h'.get? b=some u)(hp:h.objs.size<=a)(new:ObjOk P w (upd H a o) h' a o):HOk P w (upd H a o) h':=fun b u e=>by
 have hn:=x.fresh hp
 by_cases hb:b=a
 ·subst hb;rw[QG]at e;cases e;exact new
 ·rw[Qg hb]at e
  exact(x b u e).stay (fun c v _ q=>k c v q) (fun c q=>by rw[Qg (QB q hn)];exact q) fun c xs q=>by rw[Qg (QB q hn)];exact q
end
def Rd(H:Hp)(a:Addr)(u:HO):Prop:=H a=some u∨∃ o,H a=some (.frz o u)
theorem Rd.of{H:Hp}{a:Addr}{u:HO}(h:H a=some u):Rd H a u:=.inl h
theorem Rd.ok{P:Program}{w:World}{H:Hp}{h:Heap}{a:Addr}{u:HO}(r:Rd H a u)(x:HOk P w H h):ObjOk P w H h a u:=by
 rcases r with r | ⟨o,r⟩
 ·exact x a u r
 ·obtain⟨_,q⟩:=x a _ r
  exact q
def Mut:Option HO->Prop
 | some (.lst _)=>True
 | some (.dK _)=>True
 | some (.dT _)=>True
 | some (.set _ _)=>True
 | some (.ins _ _ _)=>True
 | some (.ext _)=>True
 | _=>False
section
variable{P:Program}{w:World}{H:Hp}{h h':Heap}{x e:Addr}{o':HO}
theorem HOk.write(ok:HOk P w H h)(mu:Mut (H x))(he:e=x∨H e=some (.own x))(k:∀ b u,b≠e->h.get? b=some u->h'.get? b=some u)(heo:∃ u,h'.get? e=some u)
 (new:ObjOk P w (upd H x o') h' x o'):HOk P w (upd H x o') h':=fun b u q=>by
 have nown:∀ c y,H c=some (.own y)->c≠x:=fun c y r z=>by subst z;rw[r]at mu;exact mu
 have ntup:∀ c xs,H c=some (.tup xs)->c≠x:=fun c xs r z=>by subst z;rw[r]at mu;exact mu
 by_cases hb:b=x
 ·subst hb;rw[QG]at q;cases q;exact new
 ·rw[Qg hb]at q
  by_cases hbe:b=e
  ·have q':H b=some (.own x):=by
    rcases he with z | z
    ·exact absurd (hbe.trans z) hb
    ·rw[hbe];exact z
   rw[q]at q';cases q'
   obtain⟨v,hv⟩:=heo
   exact⟨v,by rw[hbe];exact hv⟩
  ·refine(ok b u q).stay (fun c v hc r=>k c v ?_ r) (fun c r=>by rw[Qg (nown c b r)];exact r) fun c xs r=>by rw[Qg (ntup c xs r)];exact r
   rcases hc with rfl | hc
   ·exact hbe
   ·rintro rfl
    rcases he with z | z
    ·exact nown c b hc z
    ·rw[hc]at z;cases z;exact hb rfl
end
structure Un(fs ex:List Addr)(H H':Hp)(h h':Heap):Prop where
 keep:∀ b o,h.get? b=some o->H b=none->b∉fs->b∉ex->h'.get? b=some o
 slot:∀ b o,h.get? b=some o->H b=none->b∈fs->b∉ex->∃ sl,h'.get? b=some { o with slots:=sl }
 free:∀ b o,h.get? b=some o->H b=none->b∉ex->H' b=none
 there:∀ b o,h.get? b=some o->b∉ex->∃ o',h'.get? b=some o'
 tups:∀ b xs,H b=some (.tup xs)->H' b=some (.tup xs)
 frzs:∀ b o u,H b=some (.frz o u)->H' b=some (.frz o u)
 tbls:∀ b ps,H b=some (.tbl ps)->∃ more,H' b=some (.tbl (ps++more))
section
variable{fs fs' ex ex':List Addr}{H H1 H2:Hp}{h h1 h2 h':Heap}{a x e:Addr}{o:HO}
theorem Un.any(u:Un fs ex H H1 h h1){b:Addr}{ob:Obj}(q:h.get? b=some ob)(n:H b=none)(hx:b∉ex):∃ sl,h1.get? b=some { ob with slots:=sl }:=by
 by_cases hb:b∈fs
 ·exact u.slot b ob q n hb hx
 ·exact⟨ob.slots,u.keep b ob q n hb hx⟩
theorem Un.trans(a:Un fs ex H H1 h h1)(b:Un fs ex H1 H2 h1 h2):Un fs ex H H2 h h2 where
 keep:=fun c ob q n hc hx=>b.keep c ob (a.keep c ob q n hc hx) (a.free c ob q n hx) hc hx
 slot:=fun c ob q n hc hx=>by
  obtain⟨sl,e1⟩:=a.slot c ob q n hc hx
  obtain⟨sl',e2⟩:=b.slot c _ e1 (a.free c ob q n hx) hc hx
  exact⟨sl',e2⟩
 free:=fun c ob q n hx=>by
  obtain⟨o',e1⟩:=a.there c ob q hx
  exact b.free c o' e1 (a.free c ob q n hx) hx
 there:=fun c ob q hx=>by
  obtain⟨o',e1⟩:=a.there c ob q hx
  exact b.there c o' e1 hx
 tups:=fun c xs q=>b.tups c xs (a.tups c xs q)
 frzs:=fun c ob xs q=>b.frzs c ob xs (a.frzs c ob xs q)
 tbls:=fun c ps q=>by
  obtain⟨m1,e1⟩:=a.tbls c ps q
  obtain⟨m2,e2⟩:=b.tbls c _ e1
  exact⟨m1++m2,by rw[e2,Array.append_assoc]⟩
theorem Un.kept(k:∀ b u,h.get? b=some u->h'.get? b=some u):Un fs ex H H h h':=
 ⟨fun b ob q _ _ _=>k b ob q,fun b ob q _ _ _=>⟨ob.slots,k b ob q⟩,fun _ _ _ n _=>n,fun b ob q _=>⟨ob,k b ob q⟩,fun _ _ q=>q,fun _ _ _ q=>q,fun _ ps q=>⟨#[],by rw[q];simp⟩⟩
theorem Un.refl:Un fs ex H H h h:=Un.kept fun _ _ q=>q
theorem Un.laid(k:∀ b u,h.get? b=some u->h'.get? b=some u)(hp:h.objs.size<=a)(hn:H a=none):Un fs ex H (upd H a o) h h' where
 keep:=fun b u q _ _ _=>k b u q
 slot:=fun b u q _ _ _=>⟨u.slots,k b u q⟩
 free:=fun b u q n _=>by rw[Qg (Nat.ne_of_lt (Nat.lt_of_lt_of_le (Heap.lt_size q) hp))];exact n
 there:=fun b u q _=>⟨u,k b u q⟩
 tups:=fun b xs q=>by rw[Qg (QB q hn)];exact q
 frzs:=fun b u xs q=>by rw[Qg (QB q hn)];exact q
 tbls:=fun b ps q=>⟨#[],by rw[Qg (QB q hn),q];simp⟩
theorem Un.write(mu:Mut (H x))(he:e=x∨H e=some (.own x))(k:∀ b u,b≠e->h.get? b=some u->h'.get? b=some u)(heo:∃ u,h'.get? e=some u):Un fs ex H (upd H x o) h h':=by
 have hx:∀ b,H b=none->b≠x:=fun b n z=>by subst z;rw[n]at mu;exact mu
 have hb:∀ b,H b=none->b≠e:=fun b n z=>by
  subst z
  rcases he with r | r
  ·exact hx b n r
  ·rw[n]at r;cases r
 have hm:∀ b u,H b=some u->¬ Mut (some u)->b≠x:=fun b u q nm z=>by subst z;rw[q]at mu;exact nm mu
 refine⟨fun b u q n _ _=>k b u (hb b n) q,fun b u q n _ _=>⟨u.slots,k b u (hb b n) q⟩,fun b u q n _=>by rw[Qg (hx b n)];exact n,fun b u q _=>?_,
  fun b xs q=>by rw[Qg (hm b _ q fun z=>z)];exact q,fun b u xs q=>by rw[Qg (hm b _ q fun z=>z)];exact q,fun b ps q=>⟨#[],by rw[Qg (hm b _ q fun z=>z),q];simp⟩⟩
 by_cases hbe:b=e
 ·subst hbe;exact heo
 ·exact⟨u,k b u hbe q⟩
theorem Un.mono(u:Un fs ex H H1 h h1)(hs:∀ b∈fs,b∈fs')(hx:∀ b∈ex,b∈ex'):Un fs' ex' H H1 h h1:=
 ⟨fun b ob q n hb he=>u.keep b ob q n (fun z=>hb (hs b z)) fun z=>he (hx b z),fun _ _ q n _ he=>u.any q n fun z=>he (hx _ z),fun b ob q n he=>u.free b ob q n fun z=>he (hx b z),fun b ob q he=>u.there b ob q fun z=>he (hx b z),u.tups,u.frzs,u.tbls⟩
end
def trk(h:Heap)(H:Hp):List Addr:=(List.range h.objs.size).filter fun a=>(H a).isSome
def hidT(h:Heap)(H:Hp):Heap:=PySem.W.hideAll h (trk h H)
theorem Qkr(h:Heap)(H:Hp):(hidT h H).objs.size=h.objs.size:=PySem.W.hideAll_size _ _
theorem Qld{h:Heap}{H:Hp}{b:Addr}{o:Obj}(e:h.get? b=some o)(n:H b=none):(hidT h H).get? b=some o:=
 PySem.W.hideAll_get _ e fun hm=>by
  have q:(H b).isSome=true:=(List.mem_filter.mp hm).2
  rw[n]at q;simp at q
theorem QlA{h:Heap}{H:Hp}{b:Addr}{o:Obj}(e:(hidT h H).get? b=some o):h.get? b=some o/\H b=none:=by
 have e':h.get? b=some o:=PySem.W.of_hideAll (trk h H) e
 refine⟨e',?_⟩
 cases q:H b with
 | none=>rfl
 | some x=>
  have hm:b∈trk h H:=List.mem_filter.mpr ⟨List.mem_range.mpr (Heap.lt_size e'),by simp[q]⟩
  have z:(hidT h H).get? b=none:=PySem.W.hideAll_none (trk h H) hm
  rw[z]at e;cases e
def Qlv(g h:Heap)(L:Addr):List (Addr×Obj):=(List.range h.objs.size).filterMap fun a=>if a=L∨(g.get? a).isSome=true then none else(h.get? a).map fun o=>(a,o)
def rest(g h:Heap)(L d:Addr):List (Addr×Obj):=(Qlv g h L).filter fun p=>decide (p.1≠d)
end L2
namespace L2
open PySem PySem.Spec PyProof.Rows
structure Mod(K:PySem.W.Frag)(mg:Str->Option Value)(base:Heap):Prop where
 kin:K.In base
 glob:base.Ns mainGlobals mg
 blt:∃ mb,base.Ns builtinsNs mb/\∀ x:Str,x≠"__name__"->mb x=bootBuiltins x
 nolimit:base.NoLimit
structure Cx where
 prog:Program
 w:World
 K:PySem.W.Frag
 mg:Str->Option Value
 base:Heap
 A:Around
 N:List Str
 s₀:Shared
 H₀:Hp
 env:Env
 outer:List Env
 stack:List Env
 ex:List Addr
 fn:Str->Bool
 calm:Bool
 pn:List (Addr×Obj)
 xe:Value->Shared->Prop
def frs(l:List Env):List Addr:=l.filterMap (·.frame)
abbrev Cx.fs(X:Cx):List Addr:=frs X.outer
def Vis(sc:Scope)(x:Str):Prop:=sc.names.lookup x=some .local∨sc.names.lookup x=some .cell∨sc.names.lookup x=some .free
def Loc(sc:Scope)(x:Str):Prop:=sc.names.lookup x=some .local∨sc.names.lookup x=some .cell
def Look(env:Env)(h:Heap)(m:Str->Option Value)(x:Str)(u:Value):Prop:=
 (env.kindOf x=some .local/\m x=some u)∨((env.kindOf x=some .cell∨env.kindOf x=some .free)/\∃ c,env.cells.lookup x=some c/\h.IsCell c (some u))
structure Cx.Ok(X:Cx):Prop where
 mod:Mod X.K X.mg X.base
 kind:X.env.scope.kind=.function
 glob:X.env.globals=mainGlobals
 blt:X.env.builtins=builtinsNs
 above:X.s₀.heap.objs.size<=X.env.locals
 inj:∀ x y c,X.env.cells.lookup x=some c->X.env.cells.lookup y=some c->x=y
 has:∀ x,(X.env.kindOf x=some .cell∨X.env.kindOf x=some .free)->∃ c,X.env.cells.lookup x=some c
 cab:∀ x c,X.fn x=true->X.env.cells.lookup x=some c->X.s₀.heap.objs.size<=c
 hd:X.calm=true->X.A.handled=none
 frames:X.A.frames=some X.stack
 stk:X.stack=X.outer∨(X.stack=X.env::X.outer/\X.env.frame=some X.env.locals)
 exf:∀ b∈X.ex,b≠X.env.locals/\∀ x c,X.env.cells.lookup x=some c->c≠b
 bs:∀ b o,X.base.get? b=some o->X.s₀.heap.get? b=some o/\X.H₀ b=none
 bsz:X.base.objs.size<=X.s₀.heap.objs.size
 noex:∀ b o,X.base.get? b=some o->b∉X.ex
 exfs:∀ b∈X.ex,b∉X.fs
 funs:X.s₀.heap.FunFrames X.base X.outer
 frf:∀ b∈X.fs,X.H₀ b=none
structure Inv(X:Cx)(pins:List (Addr×Obj))(σ:List (Option V))(H:Hp)(s:Shared):Prop where
 ok:X.Ok
 os:s.os=X.s₀.os
 bare:AllBare s.gens
 base:Un X.fs X.ex X.H₀ H X.s₀.heap s.heap
 loc:∃ m,s.heap.Ns X.env.locals m/\∀(i:Nat)(x:Str)(v:V),X.N[i]?=some x->σ[i]?=some (some v)->Vis X.env.scope x->∃ u,RelV v u/\Look X.env s.heap m x u
 cell:∀ x c,X.env.cells.lookup x=some c->∃ v,s.heap.IsCell c v
 free:H X.env.locals=none
 freeC:∀ x c,X.env.cells.lookup x=some c->H c=none
 pin:∀ p∈X.pn++pins,s.heap.get? p.1=some p.2/\H p.1=none/\p.1≠X.env.locals/\p.1∉X.fs/\∀ v,p.2.data≠.cell v
 hok:HOk X.prog X.w H s.heap
 len:σ.length=X.N.length
section
variable{X:Cx}{pins:List (Addr×Obj)}{σ:List (Option V)}{H H':Hp}{s:Shared}{h':Heap}
theorem Cx.Ok.nofr(ok:X.Ok){b:Addr}{o:Obj}(e:X.base.get? b=some o):b∉X.fs:=fun hb=>by
 have:=(ok.funs.mem hb).1
 rw[e]at this;cases this
theorem Inv.bs(I:Inv X pins σ H s):∀ b o,X.base.get? b=some o->s.heap.get? b=some o/\H b=none:=fun b o e=>
 ⟨I.base.keep b o (I.ok.bs b o e).1 (I.ok.bs b o e).2 (I.ok.nofr e) (I.ok.noex b o e),I.base.free b o (I.ok.bs b o e).1 (I.ok.bs b o e).2 (I.ok.noex b o e)⟩
theorem Inv.bk(I:Inv X pins σ H s):∀ b o,X.base.get? b=some o->s.heap.get? b=some o:=fun b o e=>(I.bs b o e).1
theorem Inv.mod(I:Inv X pins σ H s):Mod X.K X.mg X.base:=I.ok.mod
theorem Inv.kIn(I:Inv X pins σ H s):X.K.In s.heap:=I.ok.mod.kin.keeps I.bk
theorem Inv.fr(I:Inv X pins σ H s):∃ m,Fr X.base X.env.locals s.heap m:=
 let ⟨m,hn,_⟩:=I.loc
 ⟨m,hn,I.bk,Nat.le_trans I.ok.bsz I.ok.above⟩
theorem Inv.lt(I:Inv X pins σ H s):X.env.locals<s.heap.objs.size:=let ⟨_,hn,_⟩:=I.loc;hn.lt
theorem Inv.sz(I:Inv X pins σ H s):X.s₀.heap.objs.size<=s.heap.objs.size:=Nat.le_trans I.ok.above (Nat.le_of_lt I.lt)
theorem Inv.nofs(I:Inv X pins σ H s){a:Addr}(h:s.heap.objs.size<=a):a∉X.fs:=fun hb=>by
 obtain⟨_,o,ho,_⟩:=I.ok.funs.mem hb
 exact absurd (Nat.lt_of_lt_of_le (Heap.lt_size ho) (Nat.le_trans I.sz h)) (Nat.lt_irrefl _)
theorem Inv.cne(I:Inv X pins σ H s):∀ x c,X.env.cells.lookup x=some c->c≠X.env.locals:=fun x c e z=>by
 obtain⟨v,o,ho,hd⟩:=I.cell x c e
 obtain⟨m,⟨o',es,ep,ho',hd',_⟩,_⟩:=I.loc
 rw[z,ho']at ho;cases ho;rw[hd']at hd;cases hd
theorem Inv.funs(I:Inv X pins σ H s):s.heap.FunFrames X.base X.outer:=by
 have all:∀(l:List Env),(∀ b∈frs l,b∈X.fs)->X.s₀.heap.FunFrames X.base l->s.heap.FunFrames X.base l:=by
  intro l
  induction l with
  | nil=>intro _ _;trivial
  | cons env r ih=>
   intro hs hl
   obtain⟨hk,⟨L,o,hf,hn,ho,hd⟩,hr⟩:=hl
   have hL:L∈X.fs:=hs L (by unfold frs;rw[List.filterMap_cons,hf];exact List.mem_cons_self)
   obtain⟨sl,e⟩:=I.base.slot L o ho (I.ok.frf L hL) hL fun z=>I.ok.exfs L z hL
   exact⟨hk,⟨L,_,hf,hn,e,hd⟩,ih (fun b hb=>hs b (by unfold frs;rw[List.filterMap_cons,hf];exact List.mem_cons_of_mem _ hb)) hr⟩
 exact all X.outer (fun _ hb=>hb) I.ok.funs
theorem Inv.stack(I:Inv X pins σ H s):s.heap.FunFrames X.base X.stack:=by
 rcases I.ok.stk with e | ⟨e,hf⟩
 ·rw[e];exact I.funs
 ·rw[e]
  obtain⟨m,hn,_⟩:=I.loc
  refine .cons (by rw[I.ok.kind];decide) hf hn ?_ I.funs
  exact Heap.get?_none_of_le (Nat.le_trans I.ok.bsz I.ok.above)
theorem Inv.stkSub(I:Inv X pins σ H s):∀ b∈frs X.stack,b∈X.env.locals::X.fs:=fun b hb=>by
 rcases I.ok.stk with e | ⟨e,hf⟩
 ·rw[e]at hb;exact List.mem_cons_of_mem _ hb
 ·rw[e]at hb
  unfold frs at hb
  rw[List.filterMap_cons,hf]at hb
  exact hb
theorem Inv.stkFree(I:Inv X pins σ H s):∀ b∈frs X.stack,H b=none:=fun b hb=>by
 rcases List.mem_cons.mp (I.stkSub b hb) with e | hb
 ·rw[e];exact I.free
 ·obtain⟨_,o,ho,_⟩:=I.ok.funs.mem hb
  exact I.base.free b o ho (I.ok.frf b hb) fun z=>I.ok.exfs b z hb
theorem Inv.step{g':Array GenState}{t':Nat}{d':Drawn}{ch:List Addr}(I:Inv X pins σ H s)
 (hch:∀ b∈ch,(b∈X.ex∨X.s₀.heap.objs.size<=b)/\b≠X.env.locals/\(∀ x c,X.env.cells.lookup x=some c->c≠b)/\∀ p∈X.pn++pins,p.1≠b)
 (keep:∀ b o,b≠X.env.locals->b∉X.fs->b∉ch->s.heap.get? b=some o->H b=none->h'.get? b=some o)
 (slot:∀ b o,b≠X.env.locals->b∈X.fs->b∉ch->s.heap.get? b=some o->H b=none->∃ sl,h'.get? b=some { o with slots:=sl }) (free:∀ b o,b∉ch->s.heap.get? b=some o->H b=none->H' b=none)
 (there:∀ b o,b∉ch->s.heap.get? b=some o->∃ o',h'.get? b=some o')
 (tups:∀ b xs,H b=some (.tup xs)->H' b=some (.tup xs)) (frzs:∀ b o u,H b=some (.frz o u)->H' b=some (.frz o u)) (tbls:∀ b ps,H b=some (.tbl ps)->∃ more,H' b=some (.tbl (ps++more)))
 (ns:∀ m,s.heap.Ns X.env.locals m->h'.Ns X.env.locals m) (hok:HOk X.prog X.w H' h') (hg:AllBare g'):
 Inv X pins σ H' { s with heap:=h',gens:=g',drawn:=d',toks:=t' }:=by
 have neL:∀ b o,X.s₀.heap.get? b=some o->b≠X.env.locals:=fun b o e=>Nat.ne_of_lt (Nat.lt_of_lt_of_le (Heap.lt_size e) I.ok.above)
 have neC:∀ b o,X.s₀.heap.get? b=some o->b∉X.ex->b∉ch:=fun b o e hx hb=>by
  rcases(hch b hb).1 with z | z
  ·exact hx z
  ·exact absurd (Nat.lt_of_lt_of_le (Heap.lt_size e) z) (Nat.lt_irrefl _)
 have cellK:∀ x c,X.env.cells.lookup x=some c->∀ v,s.heap.IsCell c v->h'.IsCell c v:=fun x c e v ⟨o,ho,hd⟩=>by
  have nch:c∉ch:=fun z=>(hch c z).2.2.1 x c e rfl
  by_cases hc:c∈X.fs
  ·obtain⟨sl,q⟩:=slot c o (I.cne x c e) hc nch ho (I.freeC x c e)
   exact⟨_,q,hd⟩
  ·exact⟨o,keep c o (I.cne x c e) hc nch ho (I.freeC x c e),hd⟩
 refine⟨I.ok,I.os,hg,⟨fun b o e n hb hx=>?_,fun b o e n hb hx=>?_,fun b o e n hx=>?_,fun b o e hx=>?_,fun b xs e=>tups b xs (I.base.tups b xs e),fun b o xs e=>frzs b o xs (I.base.frzs b o xs e),fun b ps e=>?_⟩,?_,fun x c e=>?_,?_,fun x c e=>?_,fun p hp=>?_,hok,I.len⟩
 ·exact keep b o (neL b o e) hb (neC b o e hx) (I.base.keep b o e n hb hx) (I.base.free b o e n hx)
 ·obtain⟨sl,e1⟩:=I.base.slot b o e n hb hx
  obtain⟨sl',e2⟩:=slot b _ (neL b o e) hb (neC b o e hx) e1 (I.base.free b o e n hx)
  exact⟨sl',e2⟩
 ·obtain⟨o',e1⟩:=I.base.there b o e hx
  exact free b o' (neC b o e hx) e1 (I.base.free b o e n hx)
 ·obtain⟨o',e1⟩:=I.base.there b o e hx
  exact there b o' (neC b o e hx) e1
 ·obtain⟨m1,e1⟩:=I.base.tbls b ps e
  obtain⟨m2,e2⟩:=tbls b _ e1
  exact⟨m1++m2,by rw[e2,Array.append_assoc]⟩
 ·obtain⟨m,hn,hl⟩:=I.loc
  refine⟨m,ns m hn,fun i x v e1 e2 e3=>?_⟩
  obtain⟨u,r,l⟩:=hl i x v e1 e2 e3
  refine⟨u,r,?_⟩
  rcases l with l | ⟨k,c,e,z⟩
  ·exact .inl l
  ·exact .inr ⟨k,c,e,cellK x c e _ z⟩
 ·obtain⟨v,z⟩:=I.cell x c e
  exact⟨v,cellK x c e v z⟩
 ·obtain⟨m,⟨o,_,_,ho,_⟩,_⟩:=I.loc
  exact free _ o (fun z=>(hch _ z).2.1 rfl) ho I.free
 ·obtain⟨v,o,ho,hd⟩:=I.cell x c e
  exact free c o (fun z=>(hch c z).2.2.1 x c e rfl) ho (I.freeC x c e)
 ·obtain⟨e,n,ne,nf,d⟩:=I.pin p hp
  have nch:p.1∉ch:=fun z=>(hch p.1 z).2.2.2 p hp rfl
  exact⟨keep p.1 p.2 ne nf nch e n,free p.1 p.2 nch e n,ne,nf,d⟩
theorem Inv.un{t':Nat}(I:Inv X pins σ H s)(u:Un X.fs [] H H' s.heap h')(hok:HOk X.prog X.w H' h'):Inv X pins σ H' { s with heap:=h',toks:=t' }:=by
 obtain⟨m,⟨o,es,ep,ho,r⟩,_⟩:=id I.loc
 obtain⟨sl,hL⟩:=u.any ho I.free (by simp)
 exact I.step (g':=s.gens) (d':=s.drawn) (ch:=[]) (fun _ z=>nomatch z) (fun b o _ hb _ e n=>u.keep b o e n hb (by simp)) (fun b o _ hb _ e n=>u.slot b o e n hb (by simp)) (fun b o _ e n=>u.free b o e n (by simp)) (fun b o _ e=>u.there b o e (by simp)) u.tups u.frzs u.tbls (fun m' hm=>by
  obtain⟨o',es',ep',ho',r'⟩:=hm
  rw[ho]at ho';cases ho'
  exact⟨_,es',ep',hL,r'⟩) hok I.bare
theorem Inv.call{g':Array GenState}{t':Nat}{d':Drawn}{ch:List Addr}(I:Inv X pins σ H s)(u:Un (frs X.stack) ch H H' s.heap h')(hok:HOk X.prog X.w H' h')(hg:AllBare g')
 (hch:∀ b∈ch,(b∈X.ex∨X.s₀.heap.objs.size<=b)/\b≠X.env.locals/\(∀ x c,X.env.cells.lookup x=some c->c≠b)/\∀ p∈X.pn++pins,p.1≠b):
 Inv X pins σ H' { s with heap:=h',gens:=g',drawn:=d',toks:=t' }:=by
 obtain⟨m,⟨o,es,ep,ho,r⟩,_⟩:=id I.loc
 obtain⟨sl,hL⟩:=u.any ho I.free fun z=>(hch _ z).2.1 rfl
 exact I.step (ch:=ch) hch (fun b o hL hb hc e n=>u.keep b o e n (fun z=>(List.mem_cons.mp (I.stkSub b z)).elim hL hb) hc) (fun b o _ _ hc e n=>u.any e n hc) (fun b o hc e n=>u.free b o e n hc) (fun b o hc e=>u.there b o e hc) u.tups u.frzs u.tbls (fun m' hm=>by
  obtain⟨o',es',ep',ho',r'⟩:=hm
  rw[ho]at ho';cases ho'
  exact⟨_,es',ep',hL,r'⟩) hok hg
theorem Inv.turned{t':Nat}{it:Addr}(I:Inv X pins σ H s)(k:∀ b o,b≠it->s.heap.get? b=some o->h'.get? b=some o)(hn:H it=none)(hL:it≠X.env.locals)
 (h1:it∈X.ex∨X.s₀.heap.objs.size<=it) (h2:∀ x c,X.env.cells.lookup x=some c->c≠it) (h3:∀ p∈X.pn++pins,p.1≠it):Inv X pins σ H { s with heap:=h',toks:=t' }:=by
 have nit:∀ b u,H b=some u->b≠it:=fun b u e z=>by rw[z,hn]at e;cases e
 refine I.step (g':=s.gens) (d':=s.drawn) (ch:=[it]) (fun b hb=>?_) (fun b o _ _ hc e _=>k b o (fun z=>hc (by simp[z])) e) (fun b o _ _ hc e _=>⟨o.slots,k b o (fun z=>hc (by simp[z])) e⟩) (fun _ _ _ _ n=>n)
  (fun b o hc e=>⟨o,k b o (fun z=>hc (by simp[z])) e⟩) (fun _ _ e=>e) (fun _ _ _ e=>e) (fun b ps e=>⟨#[],by rw[e];simp⟩) (fun m hm=>?_) (fun b u e=>?_) I.bare
 ·have e:b=it:=by simpa using hb
  subst e
  exact⟨h1,hL,h2,h3⟩
 ·obtain⟨o,es,ep,ho,r⟩:=hm
  exact⟨o,es,ep,k _ o (Ne.symm hL) ho,r⟩
 ·refine(I.hok b u e).stay (fun c v hc q=>k c v ?_ q) (fun _ q=>q) fun _ _ q=>q
  rcases hc with z | z
  ·rw[z];exact nit b u e
  ·exact nit c _ z
theorem Inv.tok(I:Inv X pins σ H s)(t:Nat):Inv X pins σ H { s with toks:=t }:=I.un (h':=s.heap) (t':=t) Un.refl I.hok
theorem Inv.kept{t':Nat}(I:Inv X pins σ H s)(k:∀ b u,s.heap.get? b=some u->h'.get? b=some u):Inv X pins σ H { s with heap:=h',toks:=t' }:=I.un (Un.kept k) (I.hok.kept k)
theorem Inv.laid{a:Addr}{o:HO}{t':Nat}(I:Inv X pins σ H s)(k:∀ b u,s.heap.get? b=some u->h'.get? b=some u)(hp:s.heap.objs.size<=a)(new:ObjOk X.prog X.w (upd H a o) h' a o):
 Inv X pins σ (upd H a o) { s with heap:=h',toks:=t' }:=I.un (Un.laid k hp (I.hok.fresh hp)) (I.hok.laid k hp new)
theorem Inv.write{x e:Addr}{o:HO}{t':Nat}(I:Inv X pins σ H s)(mu:Mut (H x))(he:e=x∨H e=some (.own x))(k:∀ b u,b≠e->s.heap.get? b=some u->h'.get? b=some u)(heo:∃ u,h'.get? e=some u)
 (new:ObjOk X.prog X.w (upd H x o) h' x o):Inv X pins σ (upd H x o) { s with heap:=h',toks:=t' }:=I.un (Un.write mu he k heo) (I.hok.write mu he k heo new)
theorem Inv.pins_of{pins':List (Addr×Obj)}(I:Inv X pins σ H s)(h:∀ p∈pins',s.heap.get? p.1=some p.2/\H p.1=none/\p.1≠X.env.locals/\p.1∉X.fs/\∀ v,p.2.data≠.cell v):Inv X pins' σ H s:=
 ⟨I.ok,I.os,I.bare,I.base,I.loc,I.cell,I.free,I.freeC,fun p hp=>(List.mem_append.mp hp).elim (fun z=>I.pin p (List.mem_append_left _ z)) (h p),I.hok,I.len⟩
theorem Qf3{N:List Str}(hN:N.Nodup){i j:Nat}{x:Str}(a:N[i]?=some x)(b:N[j]?=some x):i=j:=by
 obtain⟨h1,e1⟩:=List.getElem?_eq_some_iff.mp a
 obtain⟨h2,e2⟩:=List.getElem?_eq_some_iff.mp b
 exact(List.getElem_inj hN).mp (e1.trans e2.symm)
theorem QjV{M:Model}{A:Around}{E:Value->Shared->Prop}{i:Nat}{x:Str}{v:V}{u:Value}{Q:Unit->Shared->Prop}(I:Inv X pins σ H s)(hN:X.N.Nodup)(hi:X.N[i]?=some x)(hx:Loc X.env.scope x)(r:RelV v u)
 (h:∀ s',Inv X pins (σ.set i (some v)) H s'->(∃ a,Heap.SameBut a s.heap s'.heap/\(a=X.env.locals∨X.env.cells.lookup x=some a))->Q () s') (hf:X.fn x=true∨X.env.scope.names.lookup x=some .local:=by first | exact .inl rfl | exact .inr rfl | assumption):wpAny M A (storeName X.env x u) Q E s:=by
 obtain⟨m,hn,hl⟩:=id I.loc
 have hcls:(X.env.scope.kind == .class||(X.env.scope.kind == .module&&X.env.locals != X.env.globals))=false:=by rw[I.ok.kind];rfl
 have hiσ:i<σ.length:=by rw[I.len];exact(List.getElem?_eq_some_iff.mp hi).1
 have cne:=I.cne
 have tracked:∀{a:Addr}{h':Heap},(∃ o,s.heap.get? a=some o/\H a=none)->Heap.SameBut a s.heap h'->HOk X.prog X.w H h':=fun {a h'} ha hs b ob e=>by
  obtain⟨_,_,hfree⟩:=ha
  refine(I.hok b ob e).stay (fun c w' hc q=>(hs.2 c ?_).trans q) (fun _ q=>q) fun _ _ q=>q
  rintro rfl
  rcases hc with rfl | hc
  ·rw[hfree]at e;cases e
  ·rw[hfree]at hc;cases hc
 rcases hx with hk | hk
 ·refine wpAny_storeName_local hk hn (fun h' hn' hs=>?_) hcls
  obtain⟨oL,_,_,hoL,_⟩:=id hn
  refine h _ ⟨I.ok,I.os,I.bare,⟨fun b o e n hb hx=>?_,fun b o e n hb hx=>?_,I.base.free,fun b o e hx=>?_,I.base.tups,I.base.frzs,I.base.tbls⟩,⟨_,hn',fun j y v' e1 e2 e3=>?_⟩,fun y c e=>?_,I.free,I.freeC,fun p hp=>?_,tracked ⟨oL,hoL,I.free⟩ hs,by simpa using I.len⟩ ⟨_,hs,.inl rfl⟩
  ·exact(hs.2 b (Nat.ne_of_lt (Nat.lt_of_lt_of_le (Heap.lt_size e) I.ok.above))).trans (I.base.keep b o e n hb hx)
  ·obtain⟨sl,e1⟩:=I.base.slot b o e n hb hx
   exact⟨sl,(hs.2 b (Nat.ne_of_lt (Nat.lt_of_lt_of_le (Heap.lt_size e) I.ok.above))).trans e1⟩
  ·obtain⟨o',e1⟩:=I.base.there b o e hx
   exact⟨o',(hs.2 b (Nat.ne_of_lt (Nat.lt_of_lt_of_le (Heap.lt_size e) I.ok.above))).trans e1⟩
  ·by_cases hj:j=i
   ·subst hj
    rw[hi]at e1;cases e1
    rw[List.getElem?_set_self hiσ]at e2
    cases e2
    exact⟨u,r,.inl ⟨hk,by simp⟩⟩
   ·rw[List.getElem?_set_ne (Ne.symm hj)]at e2
    obtain⟨u',r',q⟩:=hl j y v' e1 e2 e3
    refine⟨u',r',?_⟩
    rcases q with⟨k,e⟩ | ⟨k,c,e,z⟩
    ·refine .inl ⟨k,?_⟩
     have:y≠x:=fun e=>hj (Qf3 hN e1 (e ▸ hi))
     simp[this,e]
    ·exact .inr ⟨k,c,e,z.sameBut hs (cne y c e)⟩
  ·obtain⟨w',z⟩:=I.cell y c e
   exact⟨w',z.sameBut hs (cne y c e)⟩
  ·obtain⟨e,n,ne,nf,d⟩:=I.pin p hp
   exact⟨(hs.2 p.1 ne).trans e,n,ne,nf,d⟩
 ·have hfn:X.fn x=true:=by
   rcases hf with z | z
   ·exact z
   ·rw[z]at hk;cases hk
  obtain⟨c,hc⟩:=I.ok.has x (.inl hk)
  obtain⟨w',z⟩:=I.cell x c hc
  refine wpAny_storeName_cell I.ok.kind hk hc z (fun h' hc' hs=>?_)
  obtain⟨oc,hoc,hocd⟩:=id z
  refine h { s with heap:=h' } ⟨I.ok,I.os,I.bare,⟨fun b o e n hb hx=>?_,fun b o e n hb hx=>?_,I.base.free,fun b o e hx=>?_,I.base.tups,I.base.frzs,I.base.tbls⟩,⟨m,hn.sameBut hs (Ne.symm (cne x c hc)),fun j y v' e1 e2 e3=>?_⟩,fun y c' e=>?_,I.free,I.freeC,fun p hp=>?_,tracked ⟨oc,hoc,I.freeC x c hc⟩ hs,by simpa using I.len⟩ ⟨c,hs,.inr hc⟩
  ·exact(hs.2 b (Nat.ne_of_lt (Nat.lt_of_lt_of_le (Heap.lt_size e) (I.ok.cab x c hfn hc)))).trans (I.base.keep b o e n hb hx)
  ·obtain⟨sl,e1⟩:=I.base.slot b o e n hb hx
   exact⟨sl,(hs.2 b (Nat.ne_of_lt (Nat.lt_of_lt_of_le (Heap.lt_size e) (I.ok.cab x c hfn hc)))).trans e1⟩
  ·obtain⟨o',e1⟩:=I.base.there b o e hx
   exact⟨o',(hs.2 b (Nat.ne_of_lt (Nat.lt_of_lt_of_le (Heap.lt_size e) (I.ok.cab x c hfn hc)))).trans e1⟩
  ·by_cases hj:j=i
   ·subst hj
    rw[hi]at e1;cases e1
    rw[List.getElem?_set_self hiσ]at e2
    cases e2
    exact⟨u,r,.inr ⟨.inl hk,c,hc,hc'⟩⟩
   ·rw[List.getElem?_set_ne (Ne.symm hj)]at e2
    obtain⟨u',r',q⟩:=hl j y v' e1 e2 e3
    refine⟨u',r',?_⟩
    rcases q with q | ⟨k,c',e,z'⟩
    ·exact .inl q
    ·refine .inr ⟨k,c',e,z'.sameBut hs ?_⟩
     rintro rfl
     exact hj (Qf3 hN e1 (I.ok.inj _ _ _ e hc ▸ hi))
  ·by_cases hcc:c'=c
   ·subst hcc;exact⟨_,hc'⟩
   ·obtain⟨w2,z2⟩:=I.cell y c' e
    exact⟨w2,z2.sameBut hs hcc⟩
  ·obtain⟨e,n,ne,nf,d⟩:=I.pin p hp
   refine⟨(hs.2 p.1 ?_).trans e,n,ne,nf,d⟩
   intro q
   rw[q,hoc]at e
   have q':oc=p.2:=Option.some.inj e
   exact d w' (by rw[← q'];exact hocd)
theorem QfY{M:Model}{A:Around}{E:Value->Shared->Prop}{i:Nat}{x:Str}{v:V}{u:Value}{Q:Unit->Shared->Prop}(I:Inv X pins σ H s)(hN:X.N.Nodup)(hi:X.N[i]?=some x)(hx:Loc X.env.scope x)(r:RelV v u)
 (h:∀ s',Inv X pins (σ.set i (some v)) H s'->Q () s') (hf:X.fn x=true∨X.env.scope.names.lookup x=some .local:=by first | exact .inl rfl | exact .inr rfl | assumption):wpAny M A (storeName X.env x u) Q E s:=
 QjV I hN hi hx r (fun s' I' _=>h s' I') hf
theorem Inv.call'{s':Shared}{ch:List Addr}(I:Inv X pins σ H s)(ho:s'.os=s.os)(u:Un (frs X.stack) ch H H' s.heap s'.heap)(hok:HOk X.prog X.w H' s'.heap)(hg:AllBare s'.gens)
 (hch:∀ b∈ch,(b∈X.ex∨X.s₀.heap.objs.size<=b)/\b≠X.env.locals/\(∀ x c,X.env.cells.lookup x=some c->c≠b)/\∀ p∈X.pn++pins,p.1≠b):Inv X pins σ H' s':=by
 obtain⟨h',g',d',t',o'⟩:=s'
 have e:o'=s.os:=ho
 subst e
 exact I.call (g':=g') (t':=t') (d':=d') u hok hg hch
end
abbrev XK:=Value->Option Addr->Hp->Prop
abbrev St:=List (Option V)
abbrev VK:=V->Hp->Prop
abbrev TE:=St->Hp->VK->Prop
abbrev TT:=St->Hp->(Bool->Hp->Prop)->Prop
abbrev TA:=St->Hp->(List V->Hp->Prop)->Prop
structure Ends where
 nx:St->Hp->Prop
 rt:VK
 bk:St->Hp->Prop:=fun _ _=>False
 ct:St->Hp->Prop:=fun _ _=>False
abbrev TS:=Ends->St->Hp->Prop
def EP(X:Cx)(pins:List (Addr×Obj))(σ:St)(Q:VK)(u:Value)(s':Shared):Prop:=∃ v H',Inv X pins σ H' s'/\RelV v u/\Q v H'
def TP(X:Cx)(pins:List (Addr×Obj))(σ:St)(Q:Bool->Hp->Prop)(b:Bool)(s':Shared):Prop:=∃ H',Inv X pins σ H' s'/\Q b H'
def AP(X:Cx)(pins:List (Addr×Obj))(σ:St)(Q:List V->Hp->Prop)(us:List Value)(s':Shared):Prop:=∃ vs H',Inv X pins σ H' s'/\Vals vs us/\Q vs H'
def SP(X:Cx)(pins:List (Addr×Obj))(D:Ends)(f:Flow)(s':Shared):Prop:=
 match f with
 | .next=>∃ σ' H',Inv X pins σ' H' s'/\D.nx σ' H'
 | .brk=>∃ σ' H',Inv X pins σ' H' s'/\D.bk σ' H'
 | .cont=>∃ σ' H',Inv X pins σ' H' s'/\D.ct σ' H'
 | .ret u=>∃ v σ' H',Inv X pins σ' H' s'/\RelV v u/\D.rt v H'
def PE(X:Cx)(e:Expr)(t:TE):Prop:=
 ∀(pins:List (Addr×Obj))(s:Shared)(σ:St)(H:Hp)(Q:VK),Inv X pins σ H s->t σ H Q->wpAny (model X.prog X.w) X.A (eval e X.env) (EP X pins σ Q) X.xe s
def PT(X:Cx)(e:Expr)(t:TT):Prop:=
 ∀(pins:List (Addr×Obj))(s:Shared)(σ:St)(H:Hp)(Q:Bool->Hp->Prop),Inv X pins σ H s->t σ H Q->wpAny (model X.prog X.w) X.A (isTrue e X.env (eval e X.env)) (TP X pins σ Q) X.xe s
def PW(X:Cx)(e:Expr)(t:TT):Prop:=
 ∀(whole:Sem Value)(pins:List (Addr×Obj))(s:Shared)(σ:St)(H:Hp)(Q:Bool->Hp->Prop),Inv X pins σ H s->t σ H Q->wpAny (model X.prog X.w) X.A (isTrue e X.env whole) (TP X pins σ Q) X.xe s
theorem PW.pt{X:Cx}{e:Expr}{t:TT}(h:PW X e t):PT X e t:=h _
def PA(X:Cx)(es:List Expr)(t:TA):Prop:=
 ∀(pos:Pos)(pins:List (Addr×Obj))(s:Shared)(σ:St)(H:Hp)(Q:List V->Hp->Prop),Inv X pins σ H s->t σ H Q->wpAny (model X.prog X.w) X.A (spliced (backTo pos (starEach es X.env))) (AP X pins σ Q) X.xe s
def PS(X:Cx)(st:Stmt)(t:TS):Prop:=
 ∀(pins:List (Addr×Obj))(s:Shared)(σ:St)(H:Hp)(D:Ends),Inv X pins σ H s->t D σ H->wpAny (model X.prog X.w) X.A (exec st X.env) (SP X pins D) X.xe s
def PSs(X:Cx)(st:List Stmt)(t:TS):Prop:=
 ∀(pins:List (Addr×Obj))(s:Shared)(σ:St)(H:Hp)(D:Ends),Inv X pins σ H s->t D σ H->wpAny (model X.prog X.w) X.A (execs st X.env) (SP X pins D) X.xe s
theorem thn{α:Type}{t:Sem α}{Q Q':α->Shared->Prop}{M:Model}{A:Around}{E:Value->Shared->Prop}{s:Shared}(h:wpAny M A t Q E s)(hQ:∀ a s,Q a s->Q' a s):wpAny M A t Q' E s:=wpAny_mono h hQ fun _ _ x=>x
end L2
namespace L2
open PySem PySem.Spec PyProof.Rows
section
variable{X:Cx}
def tVar(i:Nat):TE:=fun σ H Q=>∃ v,σ[i]?=some (some v)/\Q v H
def tC(v:V):TE:=fun _ H Q=>Q v H
theorem QdI{i:Nat}{x:Str}{pos:Pos}(hN:X.N[i]?=some x)(hv:Vis X.env.scope x)(hd:(x == ("__debug__":Str))=false:=by decide)(hcd:(x == ("__classdict__":Str))=false:=by decide):PE X (.Name x pos) (tVar i):=by
 intro pins s σ H Q I h
 obtain⟨v,e,h⟩:=h
 obtain⟨m,hn,hl⟩:=I.loc
 obtain⟨u,r,l⟩:=hl i x v hN e hv
 have fin:EP X pins σ Q u s:=⟨v,H,I,r,h⟩
 rcases l with⟨hk,hm⟩ | ⟨hk,c,hc,hcell⟩
 ·exact wpAny_Name (wpAny_loadName_local I.ok.kind hk hn hm fin) hd
 ·rcases hk with hk | hk
  ·exact wpAny_Name (wpAny_loadName_cell I.ok.kind hk hc hcell fin) hd
  ·exact wpAny_Name (wpAny_loadName_free I.ok.kind hk hc hcell fin hcd) hd
theorem Qm5{i j pos}:PE X (.Constant (.int i) j pos) (tC (.int i)):=fun _ _ _ H _ I h=>wpAny_Constant_int ⟨.int i,H,I.tok _,⟨_,rfl⟩,h⟩
theorem pe_bl{b j pos}:PE X (.Constant (.bool b) j pos) (tC (.bl b)):=fun _ _ _ H _ I h=>Constant_bool ⟨.bl b,H,I,rfl,h⟩
theorem QmU{j pos}:PE X (.Constant .none j pos) (tC .non):=fun _ _ _ H _ I h=>Constant_none ⟨.non,H,I,rfl,h⟩
theorem Qnh{x j pos}:PE X (.Constant (.str x) j pos) (tC (.str x)):=fun _ _ _ H _ I h=>Calls.Constant_str ⟨.str x,H,I.tok _,⟨_,rfl⟩,h⟩
def Gl(X:Cx)(x:Str):Prop:=X.env.kindOf x=some .globalImplicit
theorem Qh2{E:Value->Shared->Prop}{pins:List (Addr×Obj)}{s:Shared}{σ:St}{H:Hp}{x:Str}{u:Value}{pos:Pos}{Q:Value->Shared->Prop}(I:Inv X pins σ H s)(hg:Gl X x)(hm:X.mg x=some u)(h:Q u s)
 (hd:(x == ("__debug__":Str))=false:=by decide):wpAny (model X.prog X.w) X.A (eval (.Name x pos) X.env) Q E s:=
 Calls.Name_function_global I.ok.kind hg (Calls.loadGlobal_global (by rw[I.ok.glob];exact I.mod.glob.keeps I.bk) hm h) hd
theorem Qc5{E:Value->Shared->Prop}{pins:List (Addr×Obj)}{s:Shared}{σ:St}{H:Hp}{x:Str}{u:Value}{pos:Pos}{Q:Value->Shared->Prop}(I:Inv X pins σ H s)(hg:Gl X x)(hm:X.mg x=none)(hv:bootBuiltins x=some u)(h:Q u s)
 (hn:x≠"__name__":=by decide) (hd:(x == ("__debug__":Str))=false:=by decide):wpAny (model X.prog X.w) X.A (eval (.Name x pos) X.env) Q E s:=by
 obtain⟨mb,h1,h2⟩:=I.mod.blt
 exact Calls.Name_function_global I.ok.kind hg (Calls.loadGlobal_builtin (by rw[I.ok.glob];exact I.mod.glob.keeps I.bk) hm (by rw[I.ok.blt];exact h1.keeps I.bk) ((h2 x hn).trans hv) h) hd
theorem Qmg{x:Str}{v:V}{u:Value}{pos:Pos}(hg:Gl X x)(hm:X.mg x=some u)(r:RelV v u)(hd:(x == ("__debug__":Str))=false:=by decide):PE X (.Name x pos) (tC v):=
 fun _ _ _ H _ I h=>Qh2 I hg hm ⟨v,H,I,r,h⟩ hd
theorem Qmd{x:Str}{v:V}{u:Value}{pos:Pos}(hg:Gl X x)(hm:X.mg x=none)(hv:bootBuiltins x=some u)(r:RelV v u)(hn:x≠"__name__":=by decide)(hd:(x == ("__debug__":Str))=false:=by decide):PE X (.Name x pos) (tC v):=
 fun _ _ _ H _ I h=>Qc5 I hg hm hv ⟨v,H,I,r,h⟩ hn hd
variable{a b:Expr}{ta tb:TE}{pos:Pos}
def tB(t:TE):TT:=fun σ H Q=>t σ H fun x H1=>∃ c,x=.bl c/\Q c H1
theorem Qm9{e:Expr}{t:TE}(h:PE X e t)(he:∀ whole,isTrue e X.env whole=(do let v ← whole;standAt e.pos;holding [v] (truthy v)):=by intro _;rfl):PT X e (tB t):=by
 intro pins s σ H Q I hw
 refine isTrue_plain (thn (h pins s σ H _ I hw) fun v s1 ⟨x,H1,I1,r1,q1⟩=>?_) (he _)
 obtain⟨d,rfl,q⟩:=q1
 cases r1
 exact wpAny_truthy_bool ⟨H1,I1,q⟩
variable{tA tB':TT}{rest:List Expr}
def tAnd(t u:TT):TT:=fun σ H Q=>t σ H fun c H1=>if c=true then u σ H1 Q else Q false H1
def tOr(t u:TT):TT:=fun σ H Q=>t σ H fun c H1=>if c=true then Q true H1 else u σ H1 Q
def tNot(t:TT):TT:=fun σ H Q=>t σ H fun c H1=>Q (!c) H1
theorem QlS(ha:PT X a tA):PW X (.BoolOp .And [a] pos) tA:=by
 intro wh pins s σ H Q I h
 refine isTrue_and (thn (ha pins s σ H Q I h) fun c s1 e=>?_)
 cases c with
 | true=>exact isTrue_and_nil e
 | false=>exact e
theorem QmJ(ha:PT X a tA):PW X (.BoolOp .Or [a] pos) tA:=by
 intro wh pins s σ H Q I h
 refine isTrue_or (thn (ha pins s σ H Q I h) fun c s1 e=>?_)
 cases c with
 | false=>exact isTrue_or_nil e
 | true=>exact e
theorem QmB(ha:PT X a tA)(hb:PW X (.BoolOp .And (b::rest) pos) tB'):PW X (.BoolOp .And (a::b::rest) pos) (tAnd tA tB'):=by
 intro wh pins s σ H Q I h
 refine isTrue_and (thn (ha pins s σ H _ I h) fun c s1 ⟨H1,I1,q1⟩=>?_)
 cases c with
 | true=>exact hb wh pins s1 σ H1 Q I1 q1
 | false=>exact⟨H1,I1,q1⟩
theorem pw_or(ha:PT X a tA)(hb:PW X (.BoolOp .Or (b::rest) pos) tB'):PW X (.BoolOp .Or (a::b::rest) pos) (tOr tA tB'):=by
 intro wh pins s σ H Q I h
 refine isTrue_or (thn (ha pins s σ H _ I h) fun c s1 ⟨H1,I1,q1⟩=>?_)
 cases c with
 | true=>exact⟨H1,I1,q1⟩
 | false=>exact hb wh pins s1 σ H1 Q I1 q1
theorem QmD(ha:PT X a tA):PT X (.UnaryOp .Not a pos) (tNot tA):=by
 intro pins s σ H Q I h
 exact isTrue_not (ha pins s σ H (fun c H1=>Q (!c) H1) I h)
def tAndV(ta tb:TE):TE:=fun σ H Q=>ta σ H fun x H1=>∃ c,x=.bl c/\if c=true then tb σ H1 Q else Q (.bl false) H1
def tOrV(ta tb:TE):TE:=fun σ H Q=>ta σ H fun x H1=>∃ c,x=.bl c/\if c=true then Q (.bl true) H1 else tb σ H1 Q
def tNotV(ta:TE):TE:=fun σ H Q=>ta σ H fun x H1=>∃ c,x=.bl c/\Q (.bl (!c)) H1
theorem Qm0{op}{t:TE}(h:PE X a t):PE X (.BoolOp op [a] pos) t:=fun pins s σ H Q I hw=>BoolOp_one (h pins s σ H Q I hw)
theorem Qnt(ha:PE X a ta)(hb:PE X (.BoolOp .And (b::rest) pos) tb):PE X (.BoolOp .And (a::b::rest) pos) (tAndV ta tb):=by
 intro pins s σ H Q I h
 refine BoolOp_and (thn (ha pins s σ H _ I h) fun v s1 ⟨x,H1,I1,r1,q1⟩=>?_)
 obtain⟨c,rfl,q1⟩:=q1
 cases r1
 refine wpAny_truthy_bool ?_
 cases c with
 | true=>exact hb pins s1 σ H1 Q I1 q1
 | false=>exact⟨.bl false,H1,I1,rfl,q1⟩
theorem pe_or(ha:PE X a ta)(hb:PE X (.BoolOp .Or (b::rest) pos) tb):PE X (.BoolOp .Or (a::b::rest) pos) (tOrV ta tb):=by
 intro pins s σ H Q I h
 refine BoolOp_or (thn (ha pins s σ H _ I h) fun v s1 ⟨x,H1,I1,r1,q1⟩=>?_)
 obtain⟨c,rfl,q1⟩:=q1
 cases r1
 refine wpAny_truthy_bool ?_
 cases c with
 | false=>exact hb pins s1 σ H1 Q I1 q1
 | true=>exact⟨.bl true,H1,I1,rfl,q1⟩
theorem QmH(ha:PE X a ta):PE X (.UnaryOp .Not a pos) (tNotV ta):=by
 intro pins s σ H Q I h
 refine UnaryOp_ (thn (ha pins s σ H _ I h) fun v s1 ⟨x,H1,I1,r1,q1⟩=>?_)
 obtain⟨c,rfl,q1⟩:=q1
 cases r1
 exact not_of (wpAny_truthy_bool ⟨.bl (!c),H1,I1,rfl,q1⟩)
end
end L2
namespace L2
open PySem PySem.Spec PyProof.Rows
def SqL(K:PySem.W.Frag)(H:Hp)(a:Addr)(xs:List V):Prop:=
 Rd H a (.lst xs)∨
  ∃(o:Obj)(its:Array Value)(n:Nat),K.lookup a=some o/\o.cls=.type "list"/\o.dict=none/\o.data=.seq its n/\its.size<=sizeLine/\Vals xs its.toList
def SqT(K:PySem.W.Frag)(H:Hp)(a:Addr)(xs:List V):Prop:=
 Rd H a (.tup xs)∨
  ∃(o:Obj)(its:Array Value)(n:Nat),K.lookup a=some o/\o.cls=.type "tuple"/\o.data=.seq its n/\its.size<=sizeLine/\Vals xs its.toList
def absV:Value->Option V
 | .none=>some .non
 | .bool b=>some (.bl b)
 | .int i _=>some (.int i)
 | .str x _=>some (.str x)
 | .bytes b _=>some (.byt b)
 | .float b _=>some (.flt b)
 | .ref a=>some (.ref a)
 | .type n=>some (.ty n)
 | _=>none
theorem RelV.abs{x:V}{u:Value}(r:RelV x u):absV u=some x:=by
 cases x with
 | non=>cases r;rfl
 | bl _=>cases r;rfl
 | int _=>obtain⟨t,rfl⟩:=r;rfl
 | str _=>obtain⟨t,rfl⟩:=r;rfl
 | byt _=>obtain⟨t,rfl⟩:=r;rfl
 | flt _=>obtain⟨t,rfl⟩:=r;rfl
 | ref _=>cases r;rfl
 | ty _=>cases r;rfl
theorem RelV.inj{x y:V}{u:Value}(r:RelV x u)(q:RelV y u):x=y:=Option.some.inj (r.abs.symm.trans q.abs)
theorem Vals.inj:∀{xs ys:List V}{us:List Value},Vals xs us->Vals ys us->xs=ys
 | _,_,_,.nil,.nil=>rfl
 | _,_,_,.cons r t,.cons r' t'=>by rw[r.inj r',Vals.inj t t']
section
variable{X:Cx}{pins:List (Addr×Obj)}{σ:St}{H:Hp}{s:Shared}{a:Addr}{xs ys:List V}
theorem SqL.of{K:PySem.W.Frag}(h:H a=some (.lst xs)):SqL K H a xs:=.inl (.inl h)
theorem SqT.of{K:PySem.W.Frag}(h:H a=some (.tup xs)):SqT K H a xs:=.inl (.inl h)
theorem Inv.list(I:Inv X pins σ H s)(h:SqL X.K H a xs):∃ its:List Value,Vals xs its/\PlainL s.heap a its.toArray/\xs.length<=sizeLine:=by
 rcases h with h | ⟨o,its,n,hk,hc,hd,hs,hz,r⟩
 ·obtain⟨z,its,n,r,e⟩:=h.ok I.hok
  exact⟨its,r,⟨_,n,e,rfl,rfl,rfl⟩,z⟩
 ·refine⟨its.toList,r,⟨o,n,I.kIn a o hk,hc,hd,by simpa using hs⟩,?_⟩
  have e:=r.length
  simp only[Array.length_toList]at e
  omega
theorem Inv.tuple(I:Inv X pins σ H s)(h:SqT X.K H a xs):∃ its:List Value,Vals xs its/\IsTup s.heap a its.toArray/\xs.length<=sizeLine:=by
 rcases h with h | ⟨o,its,n,hk,hc,hs,hz,r⟩
 ·obtain⟨z,its,r,p⟩:=h.ok I.hok
  exact⟨its,r,p,z⟩
 ·refine⟨its.toList,r,⟨o,I.kIn a o hk,hc,n,by simpa using hs⟩,?_⟩
  have e:=r.length
  simp only[Array.length_toList]at e
  omega
theorem Inv.list_inj(I:Inv X pins σ H s)(h:SqL X.K H a xs)(h':SqL X.K H a ys):xs=ys:=by
 obtain⟨its,r,⟨o,n,e,_,_,d⟩,_⟩:=I.list h
 obtain⟨its',r',⟨o',n',e',_,_,d'⟩,_⟩:=I.list h'
 rw[e]at e';cases e'
 rw[d]at d'
 injection d' with d1 _
 have:its=its':=by simpa using congrArg Array.toList d1
 subst this
 exact r.inj r'
theorem Inv.tuple_inj(I:Inv X pins σ H s)(h:SqT X.K H a xs)(h':SqT X.K H a ys):xs=ys:=by
 obtain⟨its,r,⟨o,e,_,n,d⟩,_⟩:=I.tuple h
 obtain⟨its',r',⟨o',e',_,n',d'⟩,_⟩:=I.tuple h'
 rw[e]at e';cases e'
 rw[d]at d'
 injection d' with d1 _
 have:its=its':=by simpa using congrArg Array.toList d1
 subst this
 exact r.inj r'
end
abbrev Cx.wish(X:Cx)(E:Value->Shared->Prop):Cx:={ X with xe:=E }
abbrev Cx.nox(X:Cx):Cx:=X.wish fun _ _=>False
theorem Cx.Ok.wish{X:Cx}(ok:X.Ok)(E:Value->Shared->Prop):(X.wish E).Ok:=
 ⟨ok.mod,ok.kind,ok.glob,ok.blt,ok.above,ok.inj,ok.has,ok.cab,ok.hd,ok.frames,ok.stk,ok.exf,ok.bs,ok.bsz,ok.noex,ok.exfs,ok.funs,ok.frf⟩
theorem Cx.Ok.unwish{X:Cx}{E:Value->Shared->Prop}(ok:(X.wish E).Ok):X.Ok:=
 ⟨ok.mod,ok.kind,ok.glob,ok.blt,ok.above,ok.inj,ok.has,ok.cab,ok.hd,ok.frames,ok.stk,ok.exf,ok.bs,ok.bsz,ok.noex,ok.exfs,ok.funs,ok.frf⟩
section
variable{X:Cx}{pins:List (Addr×Obj)}{σ:St}{H:Hp}{s:Shared}{E:Value->Shared->Prop}
theorem Inv.wish(I:Inv X pins σ H s)(E:Value->Shared->Prop):Inv (X.wish E) pins σ H s:=⟨I.ok.wish E,I.os,I.bare,I.base,I.loc,I.cell,I.free,I.freeC,I.pin,I.hok,I.len⟩
theorem Inv.unwish(I:Inv (X.wish E) pins σ H s):Inv X pins σ H s:=⟨I.ok.unwish,I.os,I.bare,I.base,I.loc,I.cell,I.free,I.freeC,I.pin,I.hok,I.len⟩
theorem SP.unwish{D:Ends}{f:Flow}{s':Shared}(h:SP (X.wish E) pins D f s'):SP X pins D f s':=by
 cases f with
 | next=>obtain⟨σ',H',I,q⟩:=h;exact⟨σ',H',I.unwish,q⟩
 | brk=>obtain⟨σ',H',I,q⟩:=h;exact⟨σ',H',I.unwish,q⟩
 | cont=>obtain⟨σ',H',I,q⟩:=h;exact⟨σ',H',I.unwish,q⟩
 | ret u=>obtain⟨v,σ',H',I,r,q⟩:=h;exact⟨v,σ',H',I.unwish,r,q⟩
theorem PE.nox{e:Expr}{t:TE}(h:PE X.nox e t):PE X e t:=fun pins s σ H Q I hw=>
 wpAny_mono (h pins s σ H Q (I.wish _) hw) (fun _ _ ⟨v,H',I',r,q⟩=>⟨v,H',I'.unwish,r,q⟩) fun _ _ z=>False.elim z
theorem PT.nox{e:Expr}{t:TT}(h:PT X.nox e t):PT X e t:=fun pins s σ H Q I hw=>
 wpAny_mono (h pins s σ H Q (I.wish _) hw) (fun _ _ ⟨H',I',q⟩=>⟨H',I'.unwish,q⟩) fun _ _ z=>False.elim z
theorem PSs.nox{st:List Stmt}{t:TS}(h:PSs X.nox st t):PSs X st t:=fun pins s σ H D I hw=>
 wpAny_mono (h pins s σ H D (I.wish _) hw) (fun _ _ q=>q.unwish) fun _ _ z=>False.elim z
end
section
variable{X:Cx}{st:Stmt}{rest:List Stmt}{t u:TS}{e:Expr}{te:TE}{pos:Pos}
def tNext:TS:=fun D σ H=>D.nx σ H
def tSeq(t u:TS):TS:=fun D σ H=>t { D with nx:=u D } σ H
theorem Qls:PSs X [] tNext:=fun _ _ σ H _ I h=>wpAny_execs_nil ⟨σ,H,I,h⟩
theorem Qlm(h1:PS X st t)(h2:PSs X rest u):PSs X (st::rest) (tSeq t u):=by
 intro pins s σ H D I h
 refine wpAny_execs_cons (thn (h1 pins s σ H { D with nx:=u D } I h) fun f s1 q=>?_)
 cases f with
 | next=>
  obtain⟨σ',H',I',q⟩:=q
  exact h2 pins s1 σ' H' D I' q
 | ret v=>exact q
 | brk=>exact q
 | cont=>exact q
theorem Ql7(h1:PS X st t):PSs X [st] t:=by
 intro pins s σ H D I h
 refine wpAny_execs_cons (thn (h1 pins s σ H D I h) fun f s1 q=>?_)
 cases f with
 | next=>exact wpAny_execs_nil q
 | ret v=>exact q
 | brk=>exact q
 | cont=>exact q
theorem Inv.quiet{pins:List (Addr×Obj)}{σ:St}{H:Hp}{s:Shared}(I:Inv X pins σ H s):interactive X.env=false:=by simp[interactive,I.ok.kind]
def tDrop(te:TE):TS:=fun D σ H=>te σ H fun _ H1=>D.nx σ H1
theorem Qmc(he:PE X e te)(hs:swapsWith e none pos.line X.env=pure false:=by rfl):PS X (.Expr e pos) (tDrop te):=by
 intro pins s σ H D I h
 exact wpAny_Expr_any (thn (he pins s σ H _ I h) fun v s1 ⟨x,H1,I1,r1,q1⟩=>⟨σ,H1,I1,q1⟩) I.quiet hs
def tRet(te:TE):TS:=fun D σ H=>te σ H D.rt
theorem Qga(he:PE X e te):PS X (.Return (some e) pos) (tRet te):=by
 intro pins s σ H D I h
 exact wpAny_Return_some (thn (he pins s σ H _ I h) fun v s1 ⟨x,H1,I1,r1,q1⟩=>⟨x,σ,H1,I1,r1,q1⟩)
def tIfS(c:TT)(t u:TS):TS:=fun D σ H=>c σ H fun b H1=>if b=true then t D σ H1 else u D σ H1
theorem ps_if{c:Expr}{a b:List Stmt}{tc:TT}(hc:PT X c tc)(ha:PSs X a t)(hb:PSs X b u):PS X (.If c a b pos) (tIfS tc t u):=by
 intro pins s σ H D I h
 refine wpAny_If (thn (hc pins s σ H _ I h) fun d s1 ⟨H1,I1,q1⟩=>?_)
 cases d with
 | true=>exact ha pins s1 σ H1 D I1 q1
 | false=>exact hb pins s1 σ H1 D I1 q1
def QjN:TS:=fun _ _ _=>False
theorem Qlc:PS X st QjN:=fun _ _ _ _ _ _ h=>h.elim
theorem Qjl{sts:List Stmt}:PSs X sts QjN:=fun _ _ _ _ _ _ h=>h.elim
end
abbrev TG:=V->St->Hp->(St->Hp->Prop)->Prop
abbrev TGs:=List V->St->Hp->(St->Hp->Prop)->Prop
def PG(X:Cx)(target:Expr)(t:TG):Prop:=
 ∀(pins:List (Addr×Obj))(s:Shared)(σ:St)(H:Hp)(v:V)(u:Value)(Q:St->Hp->Prop),Inv X pins σ H s->RelV v u->t v σ H Q->
  wpAny (model X.prog X.w) X.A (assign target X.env u) (fun _ s'=>∃ σ' H',Inv X pins σ' H' s'/\Q σ' H') X.xe s
def PGs(X:Cx)(ts:List Expr)(t:TGs):Prop:=
 ∀(pins:List (Addr×Obj))(s:Shared)(σ:St)(H:Hp)(vs:List V)(us:List Value)(Q:St->Hp->Prop),Inv X pins σ H s->Vals vs us->t vs σ H Q->
  wpAny (model X.prog X.w) X.A (assignInOrder ((assignEach ts X.env).map (·.2)) us) (fun _ s'=>∃ σ' H',Inv X pins σ' H' s'/\Q σ' H') X.xe s
section
variable{X:Cx}{pos:Pos}
def gName(i:Nat):TG:=fun v σ H Q=>Q (σ.set i (some v)) H
theorem Qh4{i:Nat}{x:Str}(hN:X.N.Nodup)(hi:X.N[i]?=some x)(hx:Loc X.env.scope x)(hf:X.fn x=true∨X.env.scope.names.lookup x=some .local:=by first | exact .inl rfl | exact .inr rfl | assumption):PG X (.Name x pos) (gName i):=by
 intro pins s σ H v u Q I r h
 exact wpAny_assign_Name (QfY I hN hi hx r (fun s' I'=>⟨_,H,I',h⟩) hf)
def gNil:TGs:=fun vs σ H Q=>vs=[]/\Q σ H
def gCons(t:TG)(u:TGs):TGs:=fun vs σ H Q=>∃ v r,vs=v::r/\t v σ H fun σ' H'=>u r σ' H' Q
theorem Qmi:PGs X [] gNil:=by
 intro pins s σ H vs us Q I r h
 obtain⟨e,h⟩:=h
 subst e
 cases r
 exact assignInOrder_nil ⟨σ,H,I,h⟩
theorem Qk5{e:Expr}{es:List Expr}{t:TG}{u:TGs}(h1:PG X e t)(h2:PGs X es u)
 (hs:(assignEach (e::es) X.env).map (·.2)=assign e X.env::(assignEach es X.env).map (·.2):=by rfl):PGs X (e::es) (gCons t u):=by
 intro pins s σ H vs us Q I r h
 obtain⟨v,vr,e1,h⟩:=h
 subst e1
 cases r with
 | cons r rr=>
  rw[hs]
  refine assignInOrder_cons (thn (h1 pins s σ H _ _ _ I r h) fun _ s1 ⟨σ1,H1,I1,q1⟩=>?_)
  exact h2 pins s1 σ1 H1 _ _ Q I1 rr q1
def gTup(K:PySem.W.Frag)(n:Nat)(t:TGs):TG:=fun v σ H Q=>∃ a xs,v=.ref a/\SqT K H a xs/\xs.length=n/\t xs σ H Q
theorem QmE{es:List Expr}{k:Nat}{t:TGs}{n:Nat}(hc:X.calm=true)(h:PGs X es t)
 (hn:(assignEach es X.env).length=n:=by rfl) (hst:(assignEach es X.env).findIdx? (·.1)=none:=by rfl):PG X (.Tuple es k pos) (gTup X.K n t):=by
 intro pins s σ H v u Q I r hw
 obtain⟨a,xs,e1,hq,hl,hw⟩:=hw
 subst e1
 cases r
 obtain⟨its,rv,ht,hz⟩:=I.tuple hq
 refine assign_Tuple_tuple (I.ok.hd hc) ht (by simp[hn, ← hl,rv.length]) hst fun h' hx=>?_
 have I1:Inv X pins σ H { s with heap:=h' }:=I.kept (t':=s.toks) fun b o e=>hx b o (Nat.ne_of_lt (Heap.lt_size e)) e
 exact h pins _ σ H xs _ Q I1 (by simpa using rv) hw
def tAsg(te:TE)(g:TG):TS:=fun D σ H=>te σ H fun x H1=>g x σ H1 D.nx
theorem Qko{i:Nat}{x:Str}{e:Expr}{te:TE}{pos':Pos}(hN:X.N.Nodup)(hi:X.N[i]?=some x)(hx:Loc X.env.scope x)(he:PE X e te)(hs:swapsWith e (some (.Name x pos')) pos.line X.env=pure false:=by rfl)(hf:X.fn x=true∨X.env.scope.names.lookup x=some .local:=by first | exact .inl rfl | exact .inr rfl | assumption):
 PS X (.Assign [.Name x pos'] e pos) (tAsg te (gName i)):=by
 intro pins s σ H D I h
 refine wpAny_Assign_Name (thn (he pins s σ H _ I h) fun v s1 ⟨y,H1,I1,r1,q1⟩=>?_) hs
 exact QfY I1 hN hi hx r1 (fun s2 I2=>⟨_,H1,I2,q1⟩) hf
end
section
variable{X:Cx}{pos:Pos}
def Qmz(c:TT)(tb:TS):TS:=fun D σ H=>∃ W:Nat->St->Hp->Prop,(∃ m,W m σ H)/\∀ m σ H,W m σ H->
 c σ H fun b H1=>if b=true then ∃ N:St->Hp->Prop,(∀ σ' H',N σ' H'->∃ m',m'<m/\W m' σ' H')/\tb { D with nx:=N,ct:=N,bk:=D.nx } σ H1 else D.nx σ H1
theorem Qk6{c:Expr}{body:List Stmt}{tc:TT}{tb:TS}(hp:PassesOwn (model X.prog X.w) X.A X.env X.xe)(hc:PT X c tc)(hb:PSs X body tb):PS X (.While c body [] pos) (Qmz tc tb):=by
 intro pins s σ H D I h
 obtain⟨W,⟨m0,w0⟩,turn⟩:=h
 refine wpAny_While (codeAny_whileLoop (fun n s'=>∃ σ' H',Inv X pins σ' H' s'/\W n σ' H') ?_ m0 ⟨σ,H,I,w0⟩)
 rintro n s1 ⟨σ1,H1,I1,w1⟩
 refine wpAny_passesOwn hp (thn (hc pins s1 σ1 H1 _ I1 (turn n σ1 H1 w1)) fun b s2 ⟨H2,I2,q2⟩=>?_)
 cases b with
 | true=>
  obtain⟨N,hN,q2⟩:=q2
  rw[if_pos rfl]
  refine wpAny_passesOwn hp (thn (hb pins s2 σ1 H2 _ I2 q2) fun f s3 q3=>?_)
  cases f with
  | next=>
   obtain⟨σ3,H3,I3,n3⟩:=q3
   obtain⟨m',hm,w3⟩:=hN σ3 H3 n3
   exact⟨m',hm,σ3,H3,I3,w3⟩
  | cont=>
   obtain⟨σ3,H3,I3,n3⟩:=q3
   obtain⟨m',hm,w3⟩:=hN σ3 H3 n3
   exact⟨m',hm,σ3,H3,I3,w3⟩
  | brk=>exact q3
  | ret v=>exact q3
 | false=>
  rw[if_neg Bool.false_ne_true]
  exact wpAny_execs_nil ⟨σ1,H2,I2,q2⟩
end
structure It where
 go:Nat->Hp->Prop
 yld:Nat->Hp->V->Hp->Prop
 stop:Nat->Hp->Prop
def FpOk(X:Cx)(pins:List (Addr×Obj))(H:Hp)(b:Addr):Prop:=
 H b=none/\b≠X.env.locals/\b∉X.fs/\(b∈X.ex∨X.s₀.heap.objs.size<=b)/\(∀ x c,X.env.cells.lookup x=some c->c≠b)/\∀ p∈X.pn++pins,p.1≠b
theorem Inv.fpOk{X:Cx}{pins:List (Addr×Obj)}{σ:St}{H H':Hp}{s:Shared}{b:Addr}(I:Inv X pins σ H s)(hb:s.heap.objs.size<=b)(hn:H' b=none):FpOk X pins H' b:=by
 refine⟨hn,Nat.ne_of_gt (Nat.lt_of_lt_of_le I.lt hb),I.nofs hb,.inr (Nat.le_trans I.sz hb),fun x c e z=>?_,fun p hp z=>?_⟩
 ·obtain⟨v,q⟩:=I.cell x c e
  exact absurd (Nat.lt_of_lt_of_le q.lt (by rw[z];exact hb)) (Nat.lt_irrefl _)
 ·exact absurd (Nat.lt_of_lt_of_le (Heap.lt_size (I.pin p hp).1) (by rw[z];exact hb)) (Nat.lt_irrefl _)
structure Turn(P:Program)(w:World)(K:PySem.W.Frag)(tg:Expr)(J:It)(fp:List Addr)(it:Addr)(tn:Nat->Heap->Prop):Prop where
 mem:it∈fp
 obj:∀ i h,tn i h->∀ b∈fp,∃ o,h.get? b=some o/\∀ v,o.data≠.cell v
 keep:∀ i h h',tn i h->(∀ b∈fp,∀ o,h.get? b=some o->h'.get? b=some o)->tn i h'
 item:∀(X:Cx),X.prog=P->X.w=w->X.K=K->X.calm=true->∀(i:Nat)(pins:List (Addr×Obj))(s:Shared)(σ:St)(H:Hp)(E:Value->Shared->Prop),Inv X pins σ H s->(∀ b∈fp,FpOk X pins H b)->tn i s.heap->J.go i H->
  wpAny (model P w) X.A (pyNext (.ref it)) (fun r s1=>∃ u,r=some u/\
   wpAny (model P w) X.A (letOwnedTupleGo tg (.ref it) u) (fun _ s2=>∃ x H',Inv X pins σ H' s2/\RelV x u/\J.yld i H x H'/\tn (i+1) s2.heap/\∀ b∈fp,H' b=none) E s1) E s
 done:∀(X:Cx),X.prog=P->X.w=w->X.K=K->X.calm=true->∀(i:Nat)(pins:List (Addr×Obj))(s:Shared)(σ:St)(H:Hp)(E:Value->Shared->Prop),Inv X pins σ H s->(∀ b∈fp,FpOk X pins H b)->tn i s.heap->J.stop i H->
  wpAny (model P w) X.A (pyNext (.ref it)) (fun r s1=>r=none/\Inv X pins σ H s1) E s
 self:∀(A:Around)(i:Nat)(s:Shared)(Q:Value->Shared->Prop)(E:Value->Shared->Prop),tn i s.heap->Q (.ref it) s->wpAny (model P w) A (pyIter (.ref it)) Q E s
abbrev TI:=St->Hp->(It->Hp->Prop)->Prop
def PIE(X:Cx)(pins:List (Addr×Obj))(σ:St)(tg:Expr)(R:It->Hp->Prop)(itv:Value)(s2:Shared):Prop:=
 ∃(it:Addr)(fp:List Addr)(tn:Nat->Heap->Prop)(J:It)(H':Hp),itv=.ref it/\Inv X pins σ H' s2/\Turn X.prog X.w X.K tg J fp it tn/\tn 0 s2.heap/\(∀ b∈fp,FpOk X pins H' b)/\R J H'
def PI(X:Cx)(tg iter:Expr)(wi:TI):Prop:=
 ∀(pins:List (Addr×Obj))(s:Shared)(σ:St)(H:Hp)(R:It->Hp->Prop),Inv X pins σ H s->wi σ H R->
  wpAny (model X.prog X.w) X.A (eval iter X.env) (fun v s1=>wpAny (model X.prog X.w) X.A (pyIter v) (PIE X pins σ tg R) X.xe s1) X.xe s
theorem go_of{M:Model}{A:Around}{E:Value->Shared->Prop}{s:Shared}{tg:Expr}{it:Addr}{u:Value}{o:Obj}{n:String}{vs:Array Value}{Q:Unit->Shared->Prop}(ho:s.heap.get? it=some o)(hc:o.cls=.type n)(hd:o.data=.fields vs)
 (hn:["enumerate","zip","dict_itemiterator","dict_reverseitemiterator","odict_iterator","itertools.zip_longest","itertools.pairwise"].contains n=false) (hQ:Q () s):wpAny M A (letOwnedTupleGo tg (.ref it) u) Q E s:=by
 unfold letOwnedTupleGo
 cases tg<;>first
  | exact wpAny_pure hQ
  | (cases u<;>first
   | exact wpAny_pure hQ
   | (refine wpAny_bind (wpAny_load ho ?_)
      rw[hc,hd]
      show wpAny M A (if (["enumerate","zip","dict_itemiterator","dict_reverseitemiterator","odict_iterator","itertools.zip_longest","itertools.pairwise"].contains n&&vs[0]? == some (rawInt _))=true then _ else _) Q E s
      rw[if_neg (by intro h;rw[hn,Bool.false_and]at h;cases h)]
      exact wpAny_pure hQ))
def Itl(K:PySem.W.Frag)(a:Addr):It:=
 ⟨fun i H=>∃ xs x,SqL K H a xs/\xs[i]?=some x,fun i H x H'=>H'=H/\∀ xs,SqL K H a xs->xs[i]?=some x,fun i H=>∃ xs,SqL K H a xs/\xs.length<=i⟩
def Itr(lo:Int)(n:Nat):It:=⟨fun i _=>i<n,fun i H x H'=>H'=H/\x=.int (lo+i),fun i _=>n<=i⟩
theorem QkF{P:Program}{w:World}{K:PySem.W.Frag}{tg:Expr}(a it:Addr):Turn P w K tg (Itl K a) [it] it (fun i h=>h.IsListIter it a i) where
 mem:=by simp
 obj:=fun i h st b hb=>by
  have e:b=it:=by simpa using hb
  subst e
  obtain⟨o,e,c,d⟩:=st
  exact⟨o,e,fun v z=>by rw[d]at z;cases z⟩
 keep:=fun i h h' st k=>st.at fun o e=>k it (by simp) o e
 item:=by
  intro X hP hw hK hc i pins s σ H E I hf st hg
  subst hP hw hK
  obtain⟨xs,x,hq,hx⟩:=hg
  obtain⟨its,rv,p,hz⟩:=I.list hq
  obtain⟨u,hu,ru⟩:=rv.get hx
  obtain⟨f0,f1,f2,f3,f4,f5⟩:=hf it (by simp)
  refine wpAny_pyNext_list_item st p.isList (x:=u) (by simpa using hu) fun h' st' sb=>?_
  have I1:Inv X pins σ H { s with heap:=h' }:=I.turned (t':=s.toks) (fun b o hb e=>(sb.2 b hb).trans e) f0 f1 f3 f4 f5
  obtain⟨o,e,c,d⟩:=id st'
  exact⟨u,rfl,go_of (s:={ s with heap:=h' }) e c d (by decide) ⟨x,H,I1,ru,⟨rfl,fun ys hy=>by rw[I.list_inj hy hq];exact hx⟩,st',fun b hb=>(hf b hb).1⟩⟩
 done:=by
  intro X hP hw hK hc i pins s σ H E I hf st hg
  subst hP hw hK
  obtain⟨xs,hq,hx⟩:=hg
  obtain⟨its,rv,p,hz⟩:=I.list hq
  obtain⟨f0,f1,f2,f3,f4,f5⟩:=hf it (by simp)
  have hl:=rv.length
  exact wpAny_pyNext_list_end (I.ok.hd hc) st p.isList (by simp;omega) fun h' eb=>⟨rfl,I.turned (t':=s.toks) (fun b o hb e=>eb b o hb e) f0 f1 f3 f4 f5⟩
 self:=fun _ _ _ _ _ st h=>wpAny_pyIter_listiter st h
theorem QiR{P:Program}{w:World}{K:PySem.W.Frag}{tg:Expr}(it:Addr)(lo:Int)(n:Nat):Turn P w K tg (Itr lo n) [it] it (fun i h=>IsRangeIter h it (lo+(i:Nat) * 1) ((n:Int) - (i:Nat)) 1) where
 mem:=by simp
 obj:=fun i h st b hb=>by
  have e:b=it:=by simpa using hb
  subst e
  exact⟨_,st,fun v z=>by
   have z':Data.fields _=Data.cell v:=z
   cases z'⟩
 keep:=fun i h h' st k=>k it (by simp) _ st
 item:=by
  intro X hP hw hK hc i pins s σ H E I hf st hg
  subst hP hw hK
  obtain⟨f0,f1,f2,f3,f4,f5⟩:=hf it (by simp)
  have W:=Walks.range (prog:=X.prog) (w:=X.w) (I.ok.hd hc) it lo 1 n
  refine W.item i s _ _ hg st fun v h' tk hv st' kk=>?_
  obtain⟨t,rfl⟩:=hv
  have I1:Inv X pins σ H { s with heap:=h',toks:=tk }:=I.turned (fun b o hb e=>kk b o (by simpa using hb) e) f0 f1 f3 f4 f5
  refine⟨_,rfl,go_of (s:={ s with heap:=h',toks:=tk }) (n:="range_iterator") st' rfl rfl (by decide) ⟨.int (lo+i),H,I1,⟨t,?_⟩,⟨rfl,rfl⟩,st',fun b hb=>(hf b hb).1⟩⟩
  rw[Int.mul_one]
 done:=by
  intro X hP hw hK hc i pins s σ H E I hf st hg
  subst hP hw hK
  obtain⟨f0,f1,f2,f3,f4,f5⟩:=hf it (by simp)
  exact wpAny_pyNext_range_end (I.ok.hd hc) st (by have:n<=i:=hg;omega) fun h' eb=>⟨rfl,I.turned (t':=s.toks) (fun b o hb e=>eb b o hb e) f0 f1 f3 f4 f5⟩
 self:=fun _ _ _ _ _ st h=>wpAny_pyIter_rangeiter st h
end L2
namespace L2
open PySem PySem.Spec PyProof.Rows
section
variable{X:Cx}{tg:Expr}
def iList(K:PySem.W.Frag)(tl:TE):TI:=fun σ H R=>tl σ H fun x H1=>∃ a,x=.ref a/\(∃ xs,SqL K H1 a xs)/\R (Itl K a) H1
theorem Qml{l:Expr}{tl:TE}(hl:PE X l tl):PI X tg l (iList X.K tl):=by
 intro pins s σ H R I h
 refine thn (hl pins s σ H _ I h) fun v s1 ⟨x,H1,I1,r1,q1⟩=>?_
 obtain⟨a,e,⟨xs,hq⟩,q⟩:=q1
 subst e
 cases r1
 obtain⟨its,rv,p,hz⟩:=I1.list hq
 refine wpAny_pyIter_list p.isList ?_
 refine⟨s1.heap.objs.size,[s1.heap.objs.size],_,_,H1,rfl,I1.kept (t':=s1.toks) fun b o e=>Heap.get?_push_of_some _ e,QkF a _,⟨_,Heap.get?_push_size _ rfl,rfl,rfl⟩,fun b hb=>?_,q⟩
 have e:b=s1.heap.objs.size:=by simpa using hb
 subst e
 exact I1.fpOk (Nat.le_refl _) (I1.hok.fresh (Nat.le_refl _))
theorem QkP{pins:List (Addr×Obj)}{σ:St}{H:Hp}{s:Shared}{R:It->Hp->Prop}{E:Value->Shared->Prop}{lo hi:Int}{t u v:Tok}{tk:Nat}(I:Inv X pins σ H s)(h1 : -(2 ^ 62)<=lo)(h2:lo<2 ^ 62)(h3 : -(2 ^ 62)<=hi)(h4:hi<2 ^ 62)
 (q:R (Itr lo (hi - lo).toNat) H):wpAny (model X.prog X.w) X.A (pyIter (.ref s.heap.objs.size)) (PIE X pins σ tg R) E { s with heap:=s.heap.push { cls:=.type "range",data:=.fields #[.int lo t,.int hi u,.int 1 v] },toks:=tk }:=by
 refine wpAny_pyIter_range (IsRange.new ..) (small_one h1 h2 h3 h4) ?_
 have I1:Inv X pins σ H { s with heap:=s.heap.push { cls:=.type "range",data:=.fields #[.int lo t,.int hi u,.int 1 v] },toks:=tk }:=I.kept fun b o e=>Heap.get?_push_of_some _ e
 refine⟨(s.heap.push { cls:=.type "range",data:=.fields #[.int lo t,.int hi u,.int 1 v] }).objs.size,[(s.heap.push { cls:=.type "range",data:=.fields #[.int lo t,.int hi u,.int 1 v] }).objs.size],_,_,H,rfl,
  I1.kept (t':=tk) fun b o e=>Heap.get?_push_of_some _ e,QiR _ lo (hi - lo).toNat,?_,fun b hb=>?_,q⟩
 ·have e1:lo+((0:Nat):Int) * 1=lo:=by simp
  have e2:(((hi - lo).toNat:Nat):Int) - ((0:Nat):Int)=Builtin.Range.rangeSize lo hi 1:=by rw[rangeSize_one];split<;>omega
  show IsRangeIter _ _ (lo+((0:Nat):Int) * 1) ((((hi - lo).toNat:Nat):Int) - ((0:Nat):Int)) 1
  rw[e1,e2]
  exact Heap.get?_push_size _ rfl
 ·have e:b=(s.heap.push { cls:=.type "range",data:=.fields #[.int lo t,.int hi u,.int 1 v] }).objs.size:=by simpa using hb
  subst e
  exact I1.fpOk (Nat.le_refl _) (I1.hok.fresh (Nat.le_refl _))
def iRng1(ta:TA):TI:=fun σ H R=>ta σ H fun vs H1=>∃ j:Int,vs=[.int j] /\ -(2 ^ 62)<=j/\j<2 ^ 62/\R (Itr 0 j.toNat) H1
theorem Qki{a:Expr}{ta:TA}{p pos:Pos}(hg:Gl X "range")(hm:X.mg "range"=none)(ha:PA X [a] ta)(hs:starEach [a] X.env=[(false,eval a X.env)]:=by rfl):PI X tg (.Call (.Name "range" p) [a] [] pos) (iRng1 ta):=by
 intro pins s σ H R I h
 refine Call_ (Qc5 I hg hm boot_range (PyProof.Rows.callWith_type1 (thn (ha pos pins s σ H _ I h) fun us s1 ⟨vs,H1,I1,r1,q1⟩=>?_) hs rfl))
 obtain⟨j,e,q1,q2,q⟩:=q1
 subst e
 cases r1 with
 | cons r rr=>
  cases rr
  obtain⟨t,rfl⟩:=r
  exact call_range_1 (QkP I1 (by omega) (by omega) q1 q2 (by simpa using q))
def tFor(wi:TI)(g:TG)(tb:TS):TS:=fun D σ H=>wi σ H fun J H1=>∃ W:Nat->Nat->St->Hp->Prop,(∃ m,W 0 m σ H1)/\∀ i m σ H,W i m σ H->
 (J.stop i H/\D.nx σ H)∨(J.go i H/\∃ N:St->Hp->Prop,(∀ σ' H',N σ' H'->∃ m',m'<m/\W (i+1) m' σ' H')/\∀ x H',J.yld i H x H'->g x σ H' fun σ2 H2=>tb { D with nx:=N,ct:=N,bk:=D.nx } σ2 H2)
def Qdw(fp:List Addr)(h:Heap):List (Addr×Obj):=fp.filterMap fun b=>(h.get? b).map fun o=>(b,o)
theorem QbY{fp:List Addr}{h:Heap}{b:Addr}{o:Obj}(hb:b∈fp)(e:h.get? b=some o):(b,o)∈Qdw fp h:=List.mem_filterMap.mpr ⟨b,hb,by rw[e];rfl⟩
theorem Qjg{fp:List Addr}{h:Heap}{p:Addr×Obj}(hp:p∈Qdw fp h):p.1∈fp/\h.get? p.1=some p.2:=by
 obtain⟨b,hb,e⟩:=List.mem_filterMap.mp hp
 cases q:h.get? b with
 | none=>rw[q]at e;cases e
 | some o=>
  rw[q]at e
  have e':(b,o)=p:=Option.some.inj e
  subst e'
  exact⟨hb,q⟩
theorem Inv.pinned{pins:List (Addr×Obj)}{σ:St}{H:Hp}{s:Shared}{fp:List Addr}(I:Inv X pins σ H s)(hf:∀ b∈fp,FpOk X pins H b)(ho:∀ b∈fp,∃ o,s.heap.get? b=some o/\∀ v,o.data≠.cell v):Inv X (pins++Qdw fp s.heap) σ H s:=
 I.pins_of fun p hp=>(List.mem_append.mp hp).elim (fun z=>I.pin p (List.mem_append_right _ z)) fun z=>by
  obtain⟨hb,e⟩:=Qjg z
  obtain⟨f0,f1,f2,_⟩:=hf p.1 hb
  obtain⟨o,e',d⟩:=ho p.1 hb
  rw[e]at e';cases e'
  exact⟨e,f0,f1,f2,d⟩
theorem Inv.unpinned{pins pl:List (Addr×Obj)}{σ:St}{H:Hp}{s:Shared}(I:Inv X (pins++pl) σ H s):Inv X pins σ H s:=I.pins_of fun p hp=>I.pin p (List.mem_append_right _ (List.mem_append_left _ hp))
theorem Qnr{iter:Expr}{body:List Stmt}{wi:TI}{g:TG}{tb:TS}{pos:Pos}(hp:PassesOwn (model X.prog X.w) X.A X.env X.xe)(hc:X.calm=true)(hi:PI X tg iter wi)(hg:PG X tg g)(hb:PSs X body tb)
 (hs:∀ x,foldedSetIterable iter X.env x=pure x:=by intro _;rfl):PS X (.For tg iter body [] pos) (tFor wi g tb):=by
 intro pins s σ H D I h
 refine wpAny_For (thn (hi pins s σ H _ I h) fun v s1 h1=>thn h1 fun itv s2 h2=>?_) hs
 obtain⟨it,fp,tn,J,H2,e,I2,T,st2,f2,W,⟨m0,w0⟩,turn⟩:=h2
 subst e
 -- what stays true of the iterator's objects through the loop
 have stat:∀{H':Hp},(∀ b∈fp,H' b=none)->∀ b∈fp,FpOk X pins H' b:=fun hn b hb=>⟨hn b hb,(f2 b hb).2⟩
 refine codeAny_forLoop_any (fun n s'=>∃ i σ' H',Inv X pins σ' H' s'/\tn i s'.heap/\(∀ b∈fp,H' b=none)/\W i n σ' H') ?_ m0 ⟨0,σ,H2,I2,st2,fun b hb=>(f2 b hb).1,w0⟩
 rintro n s3 ⟨i,σ3,H3,I3,st3,fr3,w3⟩
 rcases turn i n σ3 H3 w3 with⟨stop,qn⟩ | ⟨go,N,hN,step⟩
 ·refine wpAny_passesOwn hp (thn (T.done X rfl rfl rfl hc i pins s3 σ3 H3 X.xe I3 (stat fr3) st3 stop) fun r s4 ⟨hr,I4⟩=>?_)
  subst hr
  exact wpAny_execs_nil ⟨σ3,H3,I4,qn⟩
 ·refine wpAny_passesOwn hp (thn (T.item X rfl rfl rfl hc i pins s3 σ3 H3 X.xe I3 (stat fr3) st3 go) fun r s4 ⟨u,hr,h4⟩=>?_)
  subst hr
  refine wpAny_passesOwn hp (thn h4 fun _ s5 ⟨x,H5,I5,r5,y5,st5,fr5⟩=>?_)
  have I5':=I5.pinned (stat fr5) (T.obj _ _ st5)
  refine wpAny_passesOwn hp (thn (hg _ s5 σ3 H5 x u _ I5' r5 (step x H5 y5)) fun _ s6 ⟨σ6,H6,I6,q6⟩=>?_)
  refine wpAny_passesOwn hp (thn (hb _ s6 σ6 H6 _ I6 q6) fun f s7 q7=>?_)
  have again:∀{σ7:St}{H7:Hp},Inv X (pins++Qdw fp s5.heap) σ7 H7 s7->N σ7 H7->∃ m,m<n/\∃ i σ' H',Inv X pins σ' H' s7/\tn i s7.heap/\(∀ b∈fp,H' b=none)/\W i m σ' H':=fun {σ7 H7} I7 n7=>by
   obtain⟨m',hm,w7⟩:=hN σ7 H7 n7
   refine⟨m',hm,i+1,σ7,H7,I7.unpinned,T.keep _ _ _ st5 fun b hb o e=>(I7.pin (b,o) (List.mem_append_right _ (List.mem_append_right _ (QbY hb e)))).1,fun b hb=>?_,w7⟩
   obtain⟨o,e,d⟩:=T.obj _ _ st5 b hb
   exact(I7.pin (b,o) (List.mem_append_right _ (List.mem_append_right _ (QbY hb e)))).2.1
  cases f with
  | next=>obtain⟨σ7,H7,I7,n7⟩:=q7;exact again I7 n7
  | cont=>obtain⟨σ7,H7,I7,n7⟩:=q7;exact again I7 n7
  | brk=>obtain⟨σ7,H7,I7,q7⟩:=q7;exact⟨σ7,H7,I7.unpinned,q7⟩
  | ret v=>obtain⟨x7,σ7,H7,I7,r7,q7⟩:=q7;exact⟨x7,σ7,H7,I7.unpinned,r7,q7⟩
end
end L2
namespace L2
open PySem PySem.Spec PyProof.Rows
abbrev R2:=V->V->Hp->VK->Prop
def OpR(X:Cx)(f:Value->Value->Sem Value)(r:R2):Prop:=
 ∀(pins:List (Addr×Obj))(s:Shared)(σ:St)(H:Hp)(x y:V)(v u:Value)(Q:VK),Inv X pins σ H s->RelV x v->RelV y u->r x y H Q->
  wpAny (model X.prog X.w) X.A (f v u) (EP X pins σ Q) X.xe s
def UnR(X:Cx)(f:Value->Sem Value)(r:V->Hp->VK->Prop):Prop:=
 ∀(pins:List (Addr×Obj))(s:Shared)(σ:St)(H:Hp)(x:V)(v:Value)(Q:VK),Inv X pins σ H s->RelV x v->r x H Q->
  wpAny (model X.prog X.w) X.A (f v) (EP X pins σ Q) X.xe s
def CallR(X:Cx)(f:Value)(r:List V->Hp->VK->Prop):Prop:=
 ∀(pins:List (Addr×Obj))(s:Shared)(σ:St)(H:Hp)(xs:List V)(us:List Value)(Q:VK),Inv X pins σ H s->Vals xs us->r xs H Q->
  wpAny (model X.prog X.w) X.A (call f us) (EP X pins σ Q) X.xe s
def tOp(r:R2)(ta tb:TE):TE:=fun σ H Q=>ta σ H fun x H1=>tb σ H1 fun y H2=>r x y H2 Q
def tUn(r:V->Hp->VK->Prop)(ta:TE):TE:=fun σ H Q=>ta σ H fun x H1=>r x H1 Q
def rI(C:Int->Int->Prop)(g:Int->Int->V):R2:=fun x y H Q=>∃ i j,x=.int i/\y=.int j/\C i j/\Q (g i j) H
def rI0(g:Int->Int->V):R2:=fun x y H Q=>∃ i j,x=.int i/\y=.int j/\Q (g i j) H
def rU(g:Int->V):V->Hp->VK->Prop:=fun x H Q=>∃ i,x=.int i/\Q (g i) H
section
variable{X:Cx}{a b c:Expr}{ta tb tc:TE}{pos:Pos}
theorem binT(ha:PE X a ta)(hb:PE X b tb){pins:List (Addr×Obj)}{s:Shared}{σ:St}{H:Hp}{R:V->V->Hp->Prop}(I:Inv X pins σ H s)
 (h:ta σ H fun x H1=>tb σ H1 fun y H2=>R x y H2) {Q:Value->Shared->Prop} {f:Value->Value->Sem Value}
 (hf:∀ v u s2 x y H2,Inv X pins σ H2 s2->RelV x v->RelV y u->R x y H2->wpAny (model X.prog X.w) X.A (f v u) Q X.xe s2):
 wpAny (model X.prog X.w) X.A (eval a X.env) (fun v s₁=>wpAny (model X.prog X.w) X.A (eval b X.env) (fun u s₂ => wpAny (model X.prog X.w) X.A (f v u) Q X.xe s₂) X.xe s₁) X.xe s:=by
 refine thn (ha pins s σ H _ I h) fun v s1 ⟨x,H1,I1,r1,q1⟩=>?_
 refine thn (hb pins s1 σ H1 _ I1 q1) fun u s2 ⟨y,H2,I2,r2,q2⟩=>?_
 exact hf v u s2 x y H2 I2 r1 r2 q2
theorem pe_op{op:Operator}{r:R2}(ho:OpR X (binaryOp op) r)(ha:PE X a ta)(hb:PE X b tb):PE X (.BinOp a op b pos) (tOp r ta tb):=by
 intro pins s σ H Q I h
 exact wpAny_BinOp (binT ha hb I h fun v u s2 x y H2 I2 rx ry q=>ho pins s2 σ H2 x y v u Q I2 rx ry q)
theorem pe_un{op:UnaryOp}{r:V->Hp->VK->Prop}(ho:UnR X (unaryOp op) r)(ha:PE X a ta):PE X (.UnaryOp op a pos) (tUn r ta):=by
 intro pins s σ H Q I h
 exact UnaryOp_ (thn (ha pins s σ H _ I h) fun v s1 ⟨x,H1,I1,r1,q1⟩=>ho pins s1 σ H1 x v Q I1 r1 q1)
theorem opI{f:Value->Value->Sem Value}{C:Int->Int->Prop}{g:Int->Int->Int}
 (rule:∀(i j:Int)(t u:Tok)(s:Shared)(Q:Value->Shared->Prop)(E:Value->Shared->Prop),C i j->Q (.int (g i j) s.toks) { s with toks:=s.toks+1 }->wpAny (model X.prog X.w) X.A (f (.int i t) (.int j u)) Q E s):
 OpR X f (rI C fun i j=>.int (g i j)):=by
 intro pins s σ H x y v u Q I rx ry h
 obtain⟨i,j,rfl,rfl,hc,q⟩:=h
 obtain⟨t,rfl⟩:=rx
 obtain⟨t',rfl⟩:=ry
 exact rule i j t t' s _ _ hc ⟨.int (g i j),H,I.tok _,⟨_,rfl⟩,q⟩
theorem opI0{f:Value->Value->Sem Value}{g:Int->Int->Int}
 (rule:∀(i j:Int)(t u:Tok)(s:Shared)(Q:Value->Shared->Prop)(E:Value->Shared->Prop),Q (.int (g i j) s.toks) { s with toks:=s.toks+1 }->wpAny (model X.prog X.w) X.A (f (.int i t) (.int j u)) Q E s):
 OpR X f (rI0 fun i j=>.int (g i j)):=by
 intro pins s σ H x y v u Q I rx ry h
 obtain⟨i,j,rfl,rfl,q⟩:=h
 obtain⟨t,rfl⟩:=rx
 obtain⟨t',rfl⟩:=ry
 exact rule i j t t' s _ _ ⟨.int (g i j),H,I.tok _,⟨_,rfl⟩,q⟩
theorem opB0{f:Value->Value->Sem Value}{g:Int->Int->Bool}
 (rule:∀(i j:Int)(t u:Tok)(s:Shared)(Q:Value->Shared->Prop)(E:Value->Shared->Prop),Q (.bool (g i j)) s->wpAny (model X.prog X.w) X.A (f (.int i t) (.int j u)) Q E s):
 OpR X f (rI0 fun i j=>.bl (g i j)):=by
 intro pins s σ H x y v u Q I rx ry h
 obtain⟨i,j,rfl,rfl,q⟩:=h
 obtain⟨t,rfl⟩:=rx
 obtain⟨t',rfl⟩:=ry
 exact rule i j t t' s _ _ ⟨.bl (g i j),H,I,rfl,q⟩
def CMul(i j:Int):Prop:=(-(2 ^ 64)<i/\i<2 ^ 64)∨(-(2 ^ 64)<j/\j<2 ^ 64)
theorem CMul.ok{i j:Int}(h:CMul i j):IntMulOk i j:=by
 rcases h with⟨h1,h2⟩ | ⟨h1,h2⟩
 ·exact .of_left (intBits_le_64 h1 h2)
 ·exact .of_right (intBits_le_64 h1 h2)
theorem Qm2:OpR X (binaryOp .Add) (rI0 fun i j=>.int (i+j)):=opI0 fun _ _ _ _ _ _ _ q=>add_int q
theorem Qne:OpR X (binaryOp .Sub) (rI0 fun i j=>.int (i - j)):=opI0 fun _ _ _ _ _ _ _ q=>sub_int q
theorem QlJ:OpR X (binaryOp .Mod) (rI (fun _ j=>j≠0) fun i j=>.int (i.fmod j)):=opI fun _ _ _ _ _ _ _ hc q=>mod_int' hc q
theorem unI{f:Value->Sem Value}{g:Int->Int}
 (rule:∀(i:Int)(t:Tok)(s:Shared)(Q:Value->Shared->Prop)(E:Value->Shared->Prop),Q (.int (g i) s.toks) { s with toks:=s.toks+1 }->wpAny (model X.prog X.w) X.A (f (.int i t)) Q E s):
 UnR X f (rU fun i=>.int (g i)):=by
 intro pins s σ H x v Q I rx h
 obtain⟨i,rfl,q⟩:=h
 obtain⟨t,rfl⟩:=rx
 exact rule i t s _ _ ⟨.int (g i),H,I.tok _,⟨_,rfl⟩,q⟩
theorem Qni:UnR X (unaryOp .USub) (rU fun i=>.int (-i)):=unI fun _ _ _ _ _ q=>neg_int q
end
def scal:V->V->Bool
 | .non,.non=>true | .non,.int _=>true | .int _,.non=>true | .non,.bl _=>true | .bl _,.non=>true | .non,.str _=>true | .str _,.non=>true
 | .int _,.int _=>true | .bl _,.bl _=>true | .str _,.str _=>true | .byt _,.byt _=>true
 | .int _,.str _=>true | .str _,.int _=>true | .bl _,.str _=>true | .str _,.bl _=>true
 | _,_=>false
section
variable{X:Cx}{a b c:Expr}{ta tb tc:TE}{pos:Pos}
theorem Qnb{pins:List (Addr×Obj)}{σ:St}{H:Hp}{s:Shared}{Q:VK}{k k':Bool}(I:Inv X pins σ H s)(q:Q (.bl k) H)(e:k=k'):EP X pins σ Q (.bool k') s:=by
 subst e
 exact⟨.bl k,H,I,rfl,q⟩
theorem op_lt:OpR X (compareOp .Lt) (rI0 fun i j=>.bl (decide (i<j))):=opB0 fun _ _ _ _ _ _ _ q=>lt_int q
theorem op_le:OpR X (compareOp .LtE) (rI0 fun i j=>.bl (decide (i<=j))):=opB0 fun _ _ _ _ _ _ _ q=>le_int q
theorem op_gt:OpR X (compareOp .Gt) (rI0 fun i j=>.bl (decide (j<i))):=opB0 fun _ _ _ _ _ _ _ q=>gt_int q
theorem op_ge:OpR X (compareOp .GtE) (rI0 fun i j=>.bl (decide (j<=i))):=opB0 fun _ _ _ _ _ _ _ q=>ge_int q
theorem Qfc:OpR X (compareOp .In) (fun x y H Q=>∃ i j,x=.str i/\y=.str j/\Q (.bl (!(Builtin.Str.occurrences j i 0 j.length 1).isEmpty)) H):=by
 intro pins s σ H x y v u Q I rx ry h
 obtain⟨i,j,rfl,rfl,q⟩:=h
 obtain⟨t,rfl⟩:=rx
 obtain⟨t',rfl⟩:=ry
 exact in_str (Qnb I q rfl)
theorem OpR.or{f:Value->Value->Sem Value}{r r':R2}(h:OpR X f r)(h':OpR X f r'):OpR X f (fun x y H Q=>r x y H Q∨r' x y H Q):=by
 intro pins s σ H x y v u Q I rx ry q
 rcases q with q | q
 ·exact h pins s σ H x y v u Q I rx ry q
 ·exact h' pins s σ H x y v u Q I rx ry q
theorem QbR(b:Expr){op:CmpOp}(h:op≠.In:=by decide)(h2:op≠.NotIn:=by decide):behindInMarks op b=false:=by
 have e1:(op == CmpOp.In)=false:=by cases op<;>first | rfl | exact absurd rfl h
 have e2:(op == CmpOp.NotIn)=false:=by cases op<;>first | rfl | exact absurd rfl h2
 cases b<;>simp[behindInMarks,e1,e2]
theorem Qmq{op:CmpOp}{r:R2}(ho:OpR X (compareOp op) r)(ha:PE X a ta)(hb:PE X b tb)(hm:behindInMarks op b=false):PE X (.Compare a [op] [b] pos) (tOp r ta tb):=by
 intro pins s σ H Q I h
 exact wpAny_Compare1 (binT ha hb I h fun v u s2 x y H2 I2 rx ry q=>ho pins s2 σ H2 x y v u Q I2 rx ry q) hm
def tTest(t:TE):TT:=fun σ H Q=>t σ H fun x H'=>∃ k,x=.bl k/\Q k H'
theorem Ql8{op:CmpOp}{r:R2}(ho:OpR X (compareOp op) r)(ha:PE X a ta)(hb:PE X b tb)(hm:behindInMarks op b=false):PT X (.Compare a [op] [b] pos) (tTest (tOp r ta tb)):=by
 intro pins s σ H Q I h
 refine wpAny_isTrue_Compare1 (thn (ha pins s σ H _ I h) fun v s1 ⟨x,H1,I1,r1,q1⟩=>thn (hb pins s1 σ H1 _ I1 q1) fun u s2 ⟨y,H2,I2,r2,q2⟩=>
  thn (ho pins s2 σ H2 x y v u _ I2 r1 r2 q2) fun c s3 ⟨z,H3,I3,r3,k,e,q3⟩=>?_) hm
 subst e
 cases r3
 exact wpAny_truthy_bool ⟨H3,I3,q3⟩
def Qgz(r r':R2)(ta tb tc:TE):TE:=fun σ H Q=>ta σ H fun x H1=>tb σ H1 fun y H2=>r x y H2 fun z H3=>∃ k,z=.bl k/\
 (if k=true then tc σ H3 fun w' H4=>r' y w' H4 Q else Q (.bl false) H3)
theorem QkH{op op':CmpOp}{r r':R2}(ho:OpR X (compareOp op) r)(ho':OpR X (compareOp op') r')(ha:PE X a ta)(hb:PE X b tb)(hc:PE X c tc)
 (hm:lastMarks [op,op'] [b,c]=false:=by with_unfolding_all rfl):PE X (.Compare a [op,op'] [b,c] pos) (Qgz r r' ta tb tc):=by
 intro pins s σ H Q I h
 refine Compare_chain (thn (ha pins s σ H _ I h) fun v s1 ⟨x,H1,I1,r1,q1⟩=>chain_link (thn (hb pins s1 σ H1 _ I1 q1) fun u s2 ⟨y,H2,I2,r2,q2⟩=>
  thn (ho pins s2 σ H2 x y v u _ I2 r1 r2 q2) fun d s3 ⟨z,H3,I3,r3,k,e,q3⟩=>?_)) hm
 subst e
 cases r3
 refine wpAny_truthy_bool ?_
 cases k with
 | false=>exact ite_ff ⟨.bl false,H3,I3,rfl,q3⟩
 | true=>exact ite_tt (chain_last (thn (hc pins s3 σ H3 _ I3 q3) fun w' s4 ⟨z',H4,I4,r4,q4⟩=>ho' pins s4 σ H4 y z' u w' Q I4 r2 r4 q4))
theorem Qli{op op':CmpOp}{r r':R2}(ho:OpR X (compareOp op) r)(ho':OpR X (compareOp op') r')(ha:PE X a ta)(hb:PE X b tb)(hc:PE X c tc)
 (hm:lastMarks [op,op'] [b,c]=false:=by with_unfolding_all rfl):PT X (.Compare a [op,op'] [b,c] pos) (tTest (Qgz r r' ta tb tc)):=by
 intro pins s σ H Q I h
 refine isTrue_chain (thn (ha pins s σ H _ I h) fun v s1 ⟨x,H1,I1,r1,q1⟩=>test_link (thn (hb pins s1 σ H1 _ I1 q1) fun u s2 ⟨y,H2,I2,r2,q2⟩=>
  thn (ho pins s2 σ H2 x y v u _ I2 r1 r2 q2) fun d s3 ⟨z,H3,I3,r3,k,e,q3⟩=>?_)) hm
 subst e
 cases r3
 refine wpAny_truthy_bool ?_
 cases k with
 | false=>
  obtain⟨k',e',q'⟩:=q3
  cases e'
  exact ite_ff ⟨H3,I3,q'⟩
 | true=>
  refine ite_tt (test_last (thn (hc pins s3 σ H3 _ I3 q3) fun w' s4 ⟨z',H4,I4,r4,q4⟩=>thn (ho' pins s4 σ H4 y z' u w' _ I4 r2 r4 q4) fun d' s5 ⟨z2,H5,I5,r5,k2,e2,q5⟩=>?_))
  subst e2
  cases r5
  exact wpAny_truthy_bool ⟨H5,I5,q5⟩
theorem QdD:(sizeLine:Nat)<2 ^ 63:=by rw[sizeLine_eq];decide
theorem Qin:OpR X (binaryOp .Add) (fun x y H Q=>∃ i j,x=.str i/\y=.str j/\i.length+j.length<=sizeLine/\Q (.str (i++j)) H):=by
 intro pins s σ H x y v u Q I rx ry h
 obtain⟨i,j,rfl,rfl,hz,q⟩:=h
 obtain⟨t,rfl⟩:=rx
 obtain⟨t',rfl⟩:=ry
 exact add_str (fun t' tk=>⟨.str (i++j),H,I.tok _,⟨_,rfl⟩,q⟩) hz
theorem vals1{x:V}{us:List Value}(r:Vals [x] us):∃ u,us=[u]/\RelV x u:=by
 cases r with
 | cons r1 r2=>cases r2;exact⟨_,rfl,r1⟩
theorem vals2{x y:V}{us:List Value}(r:Vals [x,y] us):∃ u w',us=[u,w']/\RelV x u/\RelV y w':=by
 cases r with
 | cons r1 r2=>
  cases r2 with
  | cons r3 r4=>cases r4;exact⟨_,_,rfl,r1,r3⟩
theorem QfO:CallR X (.type "str") (fun xs H Q=>∃ i,xs=[.int i]/\i.natAbs.log2<1920/\Q (.str (toString i)) H):=by
 intro pins s σ H xs us Q I r h
 obtain⟨i,rfl,hz,q⟩:=h
 obtain⟨u,rfl,t,rfl⟩:=vals1 r
 exact PySem.P.str_of_int hz ⟨.str _,H,I.tok _,⟨_,rfl⟩,q⟩
end
end L2
namespace L2
open PySem PySem.Spec PyProof.Rows
structure ObjM(h:Heap)(x dx C:Addr)(mA:Str->Option Value):Prop where
 obj:h.get? x=some (PySem.W.instObj C dx)
 ns:h.Ns1 dx mA
 ne:dx≠x
theorem QjL{h:Heap}{dx:Addr}{mA:Str->Option Value}(n:h.Ns1 dx mA):∃ od,h.get? dx=some od/\∀ name,PySem.W.lookIn name od=some (mA name):=by
 obtain⟨o,es,ep,ho,hd,hk,_,hm⟩:=n
 refine⟨o,ho,fun name=>?_⟩
 have e:=hm name
 unfold nsFind findBy at e
 rw[← Array.find?_toList]at e
 unfold PySem.W.lookIn
 rw[hd]
 dsimp only
 split
 ·rename_i y q
  rw[q]at e
  exact congrArg some e
 ·rename_i q
  rw[q]at e
  have a:es.toList.any (·.refKey)=false:=by
   rw[List.any_eq_false]
   intro y hy
   obtain⟨z,t,hkey⟩:=hk y (Array.mem_toList_iff.mp hy)
   simp[DictEntry.refKey,hkey]
  have a':¬ es.toList.any (·.refKey)=true:=by rw[a];exact Bool.false_ne_true
  rw[if_neg a']
  exact congrArg some e
theorem ObjM.look{h:Heap}{x dx C:Addr}{mA:Str->Option Value}(I:ObjM h x dx C mA):∃ od,PySem.W.InstAt h x (PySem.W.instObj C dx) C (some od)/\∀ name,PySem.W.lookIn name od=some (mA name):=
 let ⟨od,ho,hl⟩:=QjL I.ns
 ⟨od,⟨I.obj,rfl,rfl,ho⟩,hl⟩
section
variable{prog:Program}{w:World}{A:Around}{E:Value->Shared->Prop}{s:Shared}{K:PySem.W.Frag}{x dx C f:Addr}{mA:Str->Option Value}{name:Str}{v:Value}
end
section
variable{P:Program}{w:World}{H H':Hp}{h h':Heap}{a C dx:Addr}{fs fs':List (Str×V)}
theorem QlF(hok:HOk P w H h)(e:H a=some (.ins C dx fs)):∃ mA,ObjM h a dx C mA/\(∀ f,RelO (fs.lookup f) (mA f))/\PySem.Within mA (fs.map (·.1))/\fs.length<=1000/\H dx=some (.own a):=by
 obtain⟨d,z,ne,ob,mA,n,r,q⟩:=(show ObjOk P w H h a (.ins C dx fs) from hok a _ e)
 exact⟨mA,⟨ob,n,ne⟩,r,q,z,d⟩
end
structure Cls(K:PySem.W.Frag)(C:Addr):Prop where
 pg:PySem.W.plainGet K C Str.empty=true
 hd:PySem.W.hasDictIn K C=true
 po:PySem.W.plainOver K C=true
 sa:PySem.W.findIn K (.ref C) "__setattr__"=some (some (.builtin "object.__setattr__"))
theorem Cls.get{K:PySem.W.Frag}{C:Addr}(c:Cls K C)(f:Str):PySem.W.plainGet K C f=true:=c.pg
section
variable{X:Cx}{pins:List (Addr×Obj)}{σ:St}{H:Hp}{s:Shared}{a C dx:Addr}{fs:List (Str×V)}{f:Str}{v:V}{A:Around}{E:Value->Shared->Prop}
end
section
variable{X:Cx}{o e value:Expr}{f:Str}{pos pos' tpos:Pos}{ta tv:TE}
end
section
variable{X:Cx}{pins:List (Addr×Obj)}{σ:St}{H:Hp}{s:Shared}{A:Around}{E:Value->Shared->Prop}{Q:Value->Shared->Prop}{c:Value}{b:Bool}
end
end L2
namespace L2
open PySem PySem.Spec PyProof.Rows
structure Room(k:Nat)(A:Around):Prop where
 hd:A.handled=none
 dp:A.depth+3 * k+5<recursionLimit
 un:A.units+16 * k+200<cLine
theorem Room.mono{j k:Nat}{A:Around}(r:Room k A)(h:j<=k):Room j A:=⟨r.hd,by have:=r.dp;omega,by have:=r.un;omega⟩
theorem Room.deeper{k:Nat}{A:Around}(r:Room (k+1) A)(env:Env):Room k (A.deeper env):=
 ⟨r.hd,by have:=r.dp;show A.depth+1+3 * k+5<_;omega,by have:=r.un;show A.units+3+16 * k+200<_;omega⟩
theorem Room.depth{k:Nat}{A:Around}(r:Room k A):A.depth<recursionLimit:=by have:=r.dp;omega
theorem Room.units{k:Nat}{A:Around}(r:Room k A):A.units+64<cLine:=by have:=r.un;omega
def tNil:TA:=fun _ H Q=>Q [] H
def tCons(ta:TE)(tr:TA):TA:=fun σ H Q=>ta σ H fun x H1=>tr σ H1 fun xs H2=>Q (x::xs) H2
section
variable{X:Cx}{e:Expr}{es:List Expr}{te:TE}{t:TA}{pos:Pos}
theorem Qck:PA X [] tNil:=fun _ _ _ _ H Q I h=>Calls.spliced_nil ⟨[],H,I,.nil,h⟩
theorem QaZ(ha:PE X e te)(hr:PA X es t)(hs:starEach (e::es) X.env=(false,eval e X.env)::starEach es X.env:=by rfl):PA X (e::es) (tCons te t):=by
 intro pos pins s σ H Q I h
 rw[hs]
 show wpAny _ _ (spliced ((false,eval e X.env)::backTo pos (starEach es X.env))) _ _ s
 refine Calls.spliced_cons (thn (ha pins s σ H _ I h) fun u s1 ⟨x,H1,I1,r1,q1⟩=>?_)
 exact thn (hr pos pins s1 σ H1 _ I1 q1) fun us s2 ⟨xs,H2,I2,r2,q2⟩=>⟨x::xs,H2,I2,.cons r1 r2,q2⟩
def tTup(t:TA):TE:=fun σ H Q=>t σ H fun xs H1=>xs.length<=sizeLine/\∀ p,H1 p=none->Q (.ref p) (upd H1 p (.tup xs))
def tLst(t:TA):TE:=fun σ H Q=>t σ H fun xs H1=>xs.length<=sizeLine/\∀ p,H1 p=none->Q (.ref p) (upd H1 p (.lst xs))
theorem Qm1{x1}(h:PA X es t):PE X (.Tuple es x1 pos) (tTup t):=by
 intro pins s σ H Q I hq
 refine wpAny_Tuple_spliced (thn (h pos pins s σ H _ I hq) fun us s1 ⟨xs,H1,I1,r,z,q⟩=>⟨by rw[← r.length];exact z,?_⟩)
 have hf:H1 s1.heap.objs.size=none:=I1.hok.fresh (Nat.le_refl _)
 refine⟨.ref s1.heap.objs.size,upd H1 s1.heap.objs.size (.tup xs),I1.laid (t':=s1.toks) (fun b u e=>Heap.get?_push_of_some _ e) (Nat.le_refl _) ?_,rfl,q _ hf⟩
 exact⟨z,us,r,⟨_,Heap.get?_push_size _ rfl,rfl,_,rfl⟩⟩
theorem Qnk(h:PA X es t):PE X (.List es pos) (tLst t):=by
 intro pins s σ H Q I hq
 refine wpAny_List_spliced (thn (h pos pins s σ H _ I hq) fun us s1 ⟨xs,H1,I1,r,z,q⟩=>⟨by rw[← r.length];exact z,?_⟩)
 have hf:H1 s1.heap.objs.size=none:=I1.hok.fresh (Nat.le_refl _)
 refine⟨.ref s1.heap.objs.size,upd H1 s1.heap.objs.size (.lst xs),I1.laid (t':=s1.toks) (fun b u e=>Heap.get?_push_of_some _ e) (Nat.le_refl _) ?_,rfl,q _ hf⟩
 exact⟨z,us,0,r,Heap.get?_push_size _ rfl⟩
end
abbrev Sp:=List V->Hp->VK->XK->Prop
abbrev CXT:=List Env->Hp->Shared->XK->Value->Shared->Prop
structure Env0(P:Program)(w:World)(K:PySem.W.Frag)(mg:Str->Option Value)(base:Heap)(A:Around)(outer:List Env)(s:Shared)(H:Hp):Prop where
 frames:A.frames=some outer
 mod:Mod K mg base
 bs:∀ b o,base.get? b=some o->s.heap.get? b=some o/\H b=none
 bsz:base.objs.size<=s.heap.objs.size
 funs:s.heap.FunFrames base outer
 frf:∀ b∈frs outer,H b=none
 hok:HOk P w H s.heap
 bare:AllBare s.gens
def CE(outer:List Env)(P:Program)(w:World)(H:Hp)(s:Shared)(Q:VK)(u:Value)(s':Shared):Prop:=
 ∃ v H',s'.os=s.os/\AllBare s'.gens/\Un (frs outer) [] H H' s.heap s'.heap/\HOk P w H' s'.heap/\RelV v u/\Q v H'
def CR(CX:CXT)(outer:List Env)(P:Program)(w:World)(H:Hp)(s:Shared)(Q:VK)(E:XK)(r:Result)(s':Shared):Prop:=
 match r with
 | .ok (.ret u)=>CE outer P w H s Q u s'
 | .ok _=>False
 | .error e=>CX outer H s E e s'
structure FnOk(P:Program)(w:World)(K:PySem.W.Frag)(mg:Str->Option Value)(base:Heap)(CX:CXT)(k:Nat)(f:Addr)(fd:FuncData)(ps:List Str)(sp:Sp):Prop where
 len:∀ vs H Q E,sp vs H Q E->vs.length=ps.length
 run:∀(A:Around)(outer:List Env)(s:Shared)(H:Hp)(args:Args)(us:List Value)(vs:List V)(Q:VK)(E:XK),Room k A->Env0 P w K mg base A outer s H->BindsTo s fd args (ps.zip us)->Vals vs us->sp vs H Q E->
  codeAny (model P w) A (.call (.ref f) args) (CR CX outer P w H s Q E) s
theorem FnOk.mono{P:Program}{w:World}{K:PySem.W.Frag}{mg:Str->Option Value}{base:Heap}{CX:CXT}{j k:Nat}{f:Addr}{fd:FuncData}{ps:List Str}{sp:Sp}(F:FnOk P w K mg base CX j f fd ps sp)(h:j<=k):
 FnOk P w K mg base CX k f fd ps sp:=⟨F.len,fun A outer s H args us vs Q E hr=>F.run A outer s H args us vs Q E (hr.mono h)⟩
theorem FnOk.imp{P:Program}{w:World}{K:PySem.W.Frag}{mg:Str->Option Value}{base:Heap}{CX:CXT}{k:Nat}{f:Addr}{fd:FuncData}{ps:List Str}{sp sp':Sp}(F:FnOk P w K mg base CX k f fd ps sp)
 (h:∀ vs H Q E,sp' vs H Q E->sp vs H Q E):FnOk P w K mg base CX k f fd ps sp':=
 ⟨fun vs H Q E q=>F.len vs H Q E (h _ _ _ _ q),fun A outer s H args us vs Q E hr he hb hv hs=>F.run A outer s H args us vs Q E hr he hb hv (h _ _ _ _ hs)⟩
section
variable{X:Cx}{pins:List (Addr×Obj)}{σ:St}{H:Hp}{s s':Shared}
theorem Inv.env0(I:Inv X pins σ H s):Env0 X.prog X.w X.K X.mg X.base X.A X.stack s H:=
 ⟨I.ok.frames,I.ok.mod,I.bs,Nat.le_trans I.ok.bsz I.sz,I.stack,I.stkFree,I.hok,I.bare⟩
theorem Inv.after{Q:VK}{u:Value}(I:Inv X pins σ H s)(h:CE X.stack X.prog X.w H s Q u s'):EP X pins σ Q u s':=by
 obtain⟨v,H',os,bare,un,hok,r,q⟩:=h
 obtain⟨hh,g,d,t,os'⟩:=s'
 obtain rfl:os'=s.os:=os
 exact⟨v,H',I.call (h':=hh) (g':=g) (d':=d) (t':=t) (ch:=[]) un hok bare (fun b z=>absurd z (by simp)),r,q⟩
end
def tCall(sp:Sp)(dvs:List V)(E:XK)(t:TA):TE:=fun σ H Q=>t σ H fun vs H1=>sp (vs++dvs) H1 Q E
def Binds(K:PySem.W.Frag)(fd:FuncData)(ps:List Str)(ds:List Value):Prop:=
 ∀(s:Shared)(us:List Value),K.In s.heap->(us++ds).length=ps.length->BindsTo s fd ⟨us,[]⟩ (ps.zip (us++ds))
theorem Binds.all{K:PySem.W.Frag}{fd:FuncData}{ps:List Str}(h:∀ us:List Value,us.length=ps.length->bindArgs fd ⟨us,[]⟩=pure (ps.zip us)):Binds K fd ps []:=fun s us _ hl=>by
 rw[List.append_nil]at hl ⊢
 exact .of_eq (h us hl)
def Qgr(CX:CXT)(X:Cx)(E:XK):Prop:=∀(pins:List (Addr×Obj))(σ:St)(H:Hp)(s:Shared)(e:Value)(s':Shared),Inv X pins σ H s->CX X.stack H s E e s'->X.xe e s'
section
variable{X:Cx}{CX:CXT}{k:Nat}{f C:Addr}{fd:FuncData}{ps:List Str}{sp:Sp}{dvs:List V}{ds:List Value}{E:XK}{x m:Str}{p pos apos:Pos}{e o:Expr}{es:List Expr}{ta:TE}{t:TA}
theorem Qm3{pins:List (Addr×Obj)}{σ:St}{H:Hp}{s:Shared}{Q:VK}{us:List Value}{vs:List V}(F:FnOk X.prog X.w X.K X.mg X.base CX k f fd ps sp)(hr:Room k X.A)(hb:Binds X.K fd ps ds)(hd:Vals dvs ds)(hx:Qgr CX X E)
 (I:Inv X pins σ H s) (r:Vals vs us) (h:sp (vs++dvs) H Q E):wpAny (model X.prog X.w) X.A (call (.ref f) us) (EP X pins σ Q) X.xe s:=by
 have r2:Vals (vs++dvs) (us++ds):=r.append hd
 have hl:(us++ds).length=ps.length:=by rw[← r2.length];exact F.len _ _ _ _ h
 refine wpAny_call (codeAny_mono (F.run X.A X.stack s H ⟨us,[]⟩ (us++ds) (vs++dvs) Q E hr I.env0 (hb s us I.kIn hl) r2 h) fun r s' hq=>?_)
 cases r with
 | error e=>exact hx pins σ H s e s' I hq
 | ok fl=>
  cases fl with
  | ret u=>exact I.after hq
  | next=>exact False.elim hq
  | brk=>exact False.elim hq
  | cont=>exact False.elim hq
theorem QhJ(F:FnOk X.prog X.w X.K X.mg X.base CX k f fd ps sp)(hr:Room k X.A)(hg:Gl X x)(hm:X.mg x=some (.ref f))(hk:PySem.W.keepIn X.K (.ref f)=true)(hb:Binds X.K fd ps ds)(hd:Vals dvs ds)(hx:Qgr CX X E)
 (ha:PA X (e::es) t) (hdb:(x == ("__debug__":Str))=false:=by decide) (he:starEach (e::es) X.env=(false,eval e X.env)::starEach es X.env:=by rfl) (hpl:(backTo pos (starEach es X.env)).any (·.1)=false:=by rfl):
 PE X (.Call (.Name x p) (e::es) [] pos) (tCall sp dvs E t):=by
 intro pins s σ H Q I h
 refine wpAny_Call_Name_kw (Qh2 I hg hm ?_ hdb)
 refine PySem.W.callWith_K (h₀:=X.base) I.ok.mod.kin hk (thn (ha pos pins s σ H _ I h) fun us s1 ⟨vs,H1,I1,r,q⟩=>⟨I1.kIn,?_⟩) he hpl
 exact Qm3 F hr hb hd hx I1 r q
end
section
variable{X:Cx}{CX:CXT}{k:Nat}{f C:Addr}{fd:FuncData}{ps ks:List Str}{sp:Sp}{E:XK}{x m:Str}{p pos apos kpos:Pos}{e o:Expr}{es:List Expr}{kws:List Keyword}{te ta:TE}{t tk:TA}{nm:Option Str}
variable{g:List Value->List Value->List Value}{gV:List V->List V->List V}
end
structure QC(N P:List Str)(sc:Scope):Prop where
 kind:sc.kind=.function
 co:sc.isCoroutine=false
 gen:sc.isGenerator=false
 nd:N.Nodup
 pre:N.take P.length=P
 par:∀ x∈P,sc.names.lookup x=some .local∨sc.names.lookup x=some .cell
 nofree:∀ y∈sc.names,y.2≠.free
theorem Qfe{kindOf:Str->Option NameKind}{x:Str}:∀{binds:List (Str×Value)}{m:Str->Option Value},(∀ v,(x,v)∉binds)->bindL kindOf binds m x=m x
 | [],_,_=>rfl
 | (n,v)::r,m,h=>by
  unfold bindL
  rw[Qfe fun w hw=>h w (List.mem_cons_of_mem _ hw)]
  split
  ·have:x≠n:=by rintro rfl;exact h v List.mem_cons_self
   simp[this]
  ·rfl
theorem Qfu{kindOf:Str->Option NameKind}{x:Str}:∀{binds:List (Str×Value)}{m:Str->Option Value},(∀ v,(x,v)∉binds)->bindC kindOf binds m x=m x
 | [],_,_=>rfl
 | (n,v)::r,m,h=>by
  unfold bindC
  rw[Qfu fun w hw=>h w (List.mem_cons_of_mem _ hw)]
  split
  ·rfl
  ·have:x≠n:=by rintro rfl;exact h v List.mem_cons_self
   simp[this]
theorem Qfk{kindOf:Str->Option NameKind}{x:Str}{v:Value}:∀{P:List Str}{vs:List Value}{i:Nat}{m:Str->Option Value},P.Nodup->P[i]?=some x->vs[i]?=some v->kindOf x=some .local->
 bindL kindOf (P.zip vs) m x=some v
 | [],_,_,_,_,h,_,_=>by simp at h
 | _::_,[],_,_,_,_,h,_=>by simp at h
 | p::P,w::vs,0,m,nd,h1,h2,hk=>by
  simp at h1 h2;subst h1;subst h2
  show bindL kindOf ((p,w)::P.zip vs) m p=_
  unfold bindL
  rw[Qfe fun v hv=>(List.nodup_cons.mp nd).1 (List.of_mem_zip hv).1,if_pos hk]
  simp
 | p::P,w::vs,i+1,m,nd,h1,h2,hk=>by
  show bindL kindOf ((p,w)::P.zip vs) m x=_
  unfold bindL
  exact Qfk (i:=i) (List.nodup_cons.mp nd).2 (by simpa using h1) (by simpa using h2) hk
theorem Qfm{kindOf:Str->Option NameKind}{x:Str}{v:Value}:∀{P:List Str}{vs:List Value}{i:Nat}{m:Str->Option Value},P.Nodup->P[i]?=some x->vs[i]?=some v->kindOf x≠some .local->
 bindC kindOf (P.zip vs) m x=some v
 | [],_,_,_,_,h,_,_=>by simp at h
 | _::_,[],_,_,_,_,h,_=>by simp at h
 | p::P,w::vs,0,m,nd,h1,h2,hk=>by
  simp at h1 h2;subst h1;subst h2
  show bindC kindOf ((p,w)::P.zip vs) m p=_
  unfold bindC
  rw[Qfu fun v hv=>(List.nodup_cons.mp nd).1 (List.of_mem_zip hv).1,if_neg hk]
  simp
 | p::P,w::vs,i+1,m,nd,h1,h2,hk=>by
  show bindC kindOf ((p,w)::P.zip vs) m x=_
  unfold bindC
  exact Qfm (i:=i) (List.nodup_cons.mp nd).2 (by simpa using h1) (by simpa using h2) hk
def start(N:List Str)(vs:List V):St:=vs.map some++List.replicate (N.length - vs.length) none
def cxOf(CX:CXT)(P:Program)(w:World)(K:PySem.W.Frag)(mg:Str->Option Value)(base:Heap)(N:List Str)(qual:Str)(scope:Scope)(f:Addr)(cd:Value)(A:Around)(outer:List Env)(s:Shared)(H:Hp)(E:XK):Cx where
 prog:=P
 w:=w
 K:=K
 mg:=mg
 base:=base
 A:=A.deeper (envOfC qual scope s.heap.objs.size f cd)
 N:=N
 s₀:=s
 H₀:=H
 env:=envOfC qual scope s.heap.objs.size f cd
 outer:=outer
 stack:=envOfC qual scope s.heap.objs.size f cd::outer
 ex:=[]
 calm:=true
 fn:=fun _=>true
 pn:=[]
 xe:=fun e s'=>wpAny (model P w) (A.deeper (envOfC qual scope s.heap.objs.size f cd)) (leaving (envOfC qual scope s.heap.objs.size f cd) e) (fun _ s''=>CX outer H s E e s'') (fun e' s''=>CX outer H s E e' s'') s'
theorem Qf1{sc:Scope}{n:Nat}{x:Str}(h:sc.names.lookup x=some .cell):∃ c,(cellsFrom n sc.names []).lookup x=some c:=by
 have q:=PySem.W.cellsFrom_some sc.names n [] (.inl h)
 exact Option.isSome_iff_exists.mp q
theorem QjX{CX:CXT}{P:Program}{w:World}{K:PySem.W.Frag}{mg:Str->Option Value}{base:Heap}{N ps:List Str}{qual:Str}{scope:Scope}{f:Addr}{cd:Value}{A:Around}{outer:List Env}{s s1:Shared}{H:Hp}{E:XK}{us:List Value}{vs:List V}
 (S:QC N ps scope) (hd:A.handled=none) (e0:Env0 P w K mg base A outer s H) (hl:vs.length=ps.length) (r:Vals vs us)
 (x:InCallC s s.heap.objs.size (bindL (envOfC qual scope s.heap.objs.size f cd).kindOf (ps.zip us) fun _=>none) (cellsFrom (s.heap.objs.size+1) scope.names []) (bindC (envOfC qual scope s.heap.objs.size f cd).kindOf (ps.zip us) fun _=>none) s1):
 Inv (cxOf CX P w K mg base N qual scope f cd A outer s H E) [] (start N vs) H s1:=by
 have hpl:ps.length<=N.length:=by have:=congrArg List.length S.pre;rw[List.length_take]at this;omega
 obtain⟨h1,tk,rfl,hk⟩:=x.done
 have noA:∀ b:Addr,b∉(cxOf CX P w K mg base N qual scope f cd A outer s H E).ex:=fun b z=>absurd (show b∈([]:List Addr) from z) (by simp)
 refine⟨⟨e0.mod,S.kind,rfl,rfl,Nat.le_refl _,fun y z c h1 h2=>?_,fun y hy=>?_,fun y c _ h=>?_,fun _=>hd,Around.frames_deeper e0.frames,.inr ⟨rfl,rfl⟩,fun b z=>absurd z (noA b),e0.bs,e0.bsz,fun b _ _=>noA b,fun b z=>absurd z (noA b),e0.funs,e0.frf⟩,
  rfl,e0.bare,Un.kept hk,⟨_,x.toInCall.ns,fun i y v h1 h2 h3=>?_⟩,fun y c h=>⟨_,x.cell y c h⟩,e0.hok.fresh (Nat.le_refl _),fun y c h=>?_,fun p hp=>absurd (show p∈([]:List (Addr×Obj)) from hp) (by simp),e0.hok.kept hk,?_⟩
 ·exact name_of_addr x.apart (PySem.mem_of_lookup h1) (PySem.mem_of_lookup h2)
 ·have hy:scope.names.lookup y=some .cell∨scope.names.lookup y=some .free:=hy
  rcases hy with hy | hy
  ·exact Qf1 hy
  ·exact absurd rfl (S.nofree _ (PySem.mem_of_lookup hy))
 ·exact Nat.le_of_lt (x.above y c (PySem.mem_of_lookup h))
 ·have hi:i<vs.length:=by
   unfold start at h2
   by_cases hi:i<vs.length
   ·exact hi
   ·rw[List.getElem?_append_right (by simpa using hi)]at h2
    rw[List.getElem?_replicate]at h2
    split at h2<;>cases h2
  have ha:vs[i]?=some v:=by
   unfold start at h2
   rw[List.getElem?_append_left (by simpa using hi),List.getElem?_map]at h2
   cases e:vs[i]? with
   | none=>rw[e]at h2;cases h2
   | some a=>rw[e]at h2;cases h2;rfl
  obtain⟨u,hu,rv⟩:=r.get ha
  have hp:ps[i]?=some y:=by
   rw[← S.pre,List.getElem?_take_of_lt (by omega)];exact h1
  have ndP:ps.Nodup:=by rw[← S.pre];exact S.nd.sublist (List.take_sublist _ _)
  refine⟨u,rv,?_⟩
  rcases S.par y (List.mem_of_getElem? hp) with k | k
  ·exact .inl ⟨k,Qfk ndP hp hu k⟩
  ·obtain⟨c,e⟩:=Qf1 (n:=s.heap.objs.size+1) k
   refine .inr ⟨.inl k,c,e,?_⟩
   have q:=x.cell y c e
   rw[Qfm ndP hp hu (by show scope.names.lookup y≠_;rw[k];decide)]at q
   exact q
 ·exact e0.hok.fresh (Nat.le_of_lt (x.above y c (PySem.mem_of_lookup h)))
 ·unfold start
  show _=N.length
  rw[List.length_append,List.length_map,List.length_replicate]
  omega
theorem fn_of{CX:CXT}{P:Program}{w:World}{K:PySem.W.Frag}{mg:Str->Option Value}{base:Heap}{k:Nat}{f:Addr}{name qual:Str}{params:Arguments}{body:List Stmt}{scope:Scope}{dV kV doc pm cdv ct oc:Value}{an od:Option Addr}
 {osl:Array (Option Value)} {N ps:List Str} {sp:Sp} (lk:K.lookup f=some ⟨oc,od,.func (PySem.W.fnOf name qual params body scope dV kV doc pm an cdv ct),osl⟩) (hcd:PySem.W.codeIn K cdv qual=true) (S:QC N ps scope)
 (len:∀ vs H Q E,sp vs H Q E->vs.length=ps.length)
 (hbody:∀(A:Around)(outer:List Env)(s:Shared)(H:Hp)(vs:List V)(Q:VK)(E:XK),Room k (A.deeper (envOfC qual scope s.heap.objs.size f cdv))->sp vs H Q E->
  ∃ t,PSs (cxOf CX P w K mg base N qual scope f cdv A outer s H E) body t/\t { nx:=fun _ H'=>Q .non H',rt:=Q } (start N vs) H):
 FnOk P w K mg base CX (k+1) f (PySem.W.fnOf name qual params body scope dV kV doc pm an cdv ct) ps sp:=by
 refine⟨len,fun A outer s H args us vs Q E hr e0 hb r hsp=>?_⟩
 have hl:=len _ _ _ _ hsp
 have KX:K.In s.heap:=e0.mod.kin.keeps fun b o e=>(e0.bs b o e).1
 have lim:s.heap.NoLimit:=e0.mod.nolimit.keeps fun b o e=>(e0.bs b o e).1
 have hkind:∀ y∈ps.zip us,scope.names.lookup y.1=some .local∨(scope.names.lookup y.1=some .cell/\((cellsFrom (s.heap.objs.size+1) scope.names []).lookup y.1).isSome=true):=fun⟨n,v⟩ hy=>by
  rcases S.par n (List.of_mem_zip hy).1 with q | q
  ·exact .inl q
  ·exact .inr ⟨q,PySem.W.cellsFrom_some _ _ _ (.inl q)⟩
 refine codeAny_call_function hr.depth (KX _ _ lk) rfl S.co S.gen rfl (PySem.W.codeRec_of KX hcd) (hb _ _ _ _ ?_)
 refine wpAny_newFunctionEnv_cells S.kind hkind fun env he s1 x=>?_
 subst he
 refine⟨lim.keeps x.toInCall.keep,codeAny_func ?_⟩
 obtain⟨t,ht,hq⟩:=hbody A outer s H vs Q E (hr.deeper _) hsp
 have I:Inv (cxOf CX P w K mg base N qual scope f cdv A outer s H E) [] (start N vs) H s1:=QjX S hr.hd e0 hl r x
 refine wpAny_mono (ht [] s1 (start N vs) H _ I hq) (fun fl s' hs=>?_) fun e s' hs=>hs
 have fin:∀{σ':St}{H':Hp}{v:V}{u:Value},Inv (cxOf CX P w K mg base N qual scope f cdv A outer s H E) [] σ' H' s'->RelV v u->Q v H'->CE outer P w H s Q u s':=
  fun {σ' H' v u} J rv q=>⟨v,H',J.os,J.bare,J.base,J.hok,rv,q⟩
 cases fl with
 | ret u=>
  obtain⟨v,σ',H',J,rv,q⟩:=hs
  exact fin J rv q
 | next=>
  obtain⟨σ',H',J,q⟩:=hs
  exact fin (v:=V.non) (u:=Value.none) J rfl q
 | brk=>
  obtain⟨_,_,_,q⟩:=hs
  exact False.elim q
 | cont=>
  obtain⟨_,_,_,q⟩:=hs
  exact False.elim q
end L2
namespace L2
open PySem PySem.Spec PyProof.Rows
section
variable{X:Cx}{x:Str}{p pos:Pos}{e:Expr}{es:List Expr}{t:TA}{id T:String}{r:List V->Hp->VK->Prop}
def tCB(r:List V->Hp->VK->Prop)(t:TA):TE:=fun σ H Q=>t σ H fun vs H1=>r vs H1 Q
theorem QfM(hc:CallR X (.builtin id) r)(hg:Gl X x)(hm:X.mg x=none)(hv:bootBuiltins x=some (.builtin id))(ha:PA X (e::es) t)(hn:x≠"__name__":=by decide)(hdb:(x == ("__debug__":Str))=false:=by decide)
 (he:starEach (e::es) X.env=(false,eval e X.env)::starEach es X.env:=by rfl) (hpl:(backTo pos (starEach es X.env)).any (·.1)=false:=by rfl):PE X (.Call (.Name x p) (e::es) [] pos) (tCB r t):=by
 intro pins s σ H Q I h
 refine wpAny_Call_Name_kw (Qc5 I hg hm hv ?_ hn hdb)
 exact PyProof.Rows.callWith_builtin1 (thn (ha pos pins s σ H _ I h) fun us s1 ⟨vs,H1,I1,r1,q1⟩=>hc pins s1 σ H1 vs us Q I1 r1 q1) he hpl
theorem Qkc(hc:CallR X (.type T) r)(hg:Gl X x)(hm:X.mg x=none)(hv:bootBuiltins x=some (.type T))(ha:PA X (e::es) t)(hn:x≠"__name__":=by decide)(hdb:(x == ("__debug__":Str))=false:=by decide)
 (he:starEach (e::es) X.env=(false,eval e X.env)::starEach es X.env:=by rfl) (hpl:(backTo pos (starEach es X.env)).any (·.1)=false:=by rfl):PE X (.Call (.Name x p) (e::es) [] pos) (tCB r t):=by
 intro pins s σ H Q I h
 refine wpAny_Call_Name_kw (Qc5 I hg hm hv ?_ hn hdb)
 exact PyProof.Rows.callWith_type1 (thn (ha pos pins s σ H _ I h) fun us s1 ⟨vs,H1,I1,r1,q1⟩=>hc pins s1 σ H1 vs us Q I1 r1 q1) he hpl
end
end L2
namespace HT
open PySem PyProof.Rows
section
open PySem.SeqAt
open PySem.AutoSeq1 (wpAny_loadPart')
open PySem.MeetsSeq PySem.MeetsSeq2 PySem.MeetsSeq3
end
section
variable{prog:Program}{w:World}{A:Around}{E:Value->Shared->Prop}{s:Shared}
def sIx(n d:Nat):Option Int->Nat
 | none=>d
 | some v=>if v<0 then(v+(n:Int)).toNat else min v.toNat n
theorem sIx_none(n d:Nat):sIx n d none=d:=rfl
theorem sIx_nat(n d k:Nat):sIx n d (some (k:Int))=min k n:=by
 show(if (k:Int)<0 then((k:Int)+(n:Int)).toNat else min (k:Int).toNat n)=min k n
 rw[if_neg (by omega),Int.toNat_natCast]
theorem Qno(n d:Nat)(hd:d<=n)(o:Option Int):sIx n d o<=n:=by
 cases o with
 | none=>exact hd
 | some v=>
  show(if v<0 then(v+(n:Int)).toNat else min v.toNat n)<=n
  by_cases hv:v<0
  ·rw[if_pos hv];omega
  ·rw[if_neg hv];exact Nat.min_le_right _ _
theorem Qh7(v:Int)(n d:Nat):(if v<0 then max (v+(n:Int)) 0 else min v (n:Int))=((sIx n d (some v):Nat):Int):=by
 show(if v<0 then max (v+(n:Int)) 0 else min v (n:Int))=(((if v<0 then(v+(n:Int)).toNat else min v.toNat n):Nat):Int)
 by_cases hv:v<0
 ·simp only[if_pos hv];omega
 ·simp only[if_neg hv];omega
theorem QiL(lo hi:Option Int)(n:Nat):Builtin.Slice.sliceAdjust lo hi 1 (n:Int)=(((sIx n 0 lo:Nat):Int),((sIx n n hi:Nat):Int)):=by
 have h1:¬ ((1:Int)<0):=by omega
 unfold Builtin.Slice.sliceAdjust
 simp only[h1,if_false]
 refine Prod.ext ?_ ?_
 ·cases lo with
  | none=>rfl
  | some v=>exact Qh7 v n 0
 ·cases hi with
  | none=>rfl
  | some v=>exact Qh7 v n n
theorem Qjb(i j:Nat):Builtin.Slice.slicePlaces (i:Int) (j:Int) 1=j - i:=by
 unfold Builtin.Slice.slicePlaces
 have h1:(1:Int) > 0:=by omega
 simp only[h1,if_true,Int.ediv_one]
 split<;>omega
theorem Qeu{v:Value}{o:Option Int}{Q:Option Int->Shared->Prop}(p:IsPart v o)(h:Q o s):wpAny (model prog w) A (Builtin.Slice.slicePartIndex v) Q E s:=by
 cases p with
 | none=>exact slicePart_none h
 | int i t=>exact slicePart_int h
theorem Qeo{sl:Addr}{vl vu:Value}{lo hi:Option Int}{n:Nat}{Q:Int×Int×Nat->Shared->Prop}(hs:s.heap.IsSliceOf sl vl vu .none)(pl:IsPart vl lo)(pu:IsPart vu hi)
 (h:Q (((sIx n 0 lo:Nat):Int),1,sIx n n hi - sIx n 0 lo) s):wpAny (model prog w) A (Builtin.Slice.sliceApplied (.ref sl) (pure (n:Int))) Q E s:=by
 obtain⟨os,hos,hcs,hds⟩:=id hs
 unfold Builtin.Slice.sliceApplied Builtin.Slice.sliceFields
 refine wpAny_bind (wpAny_bind (wpAny_field hos hds (x:=vl) rfl (wpAny_bind (wpAny_field hos hds (x:=vu) rfl (wpAny_bind (wpAny_field hos hds (x:=.none) rfl (wpAny_pure ?_)))))))
 refine wpAny_bind (slicePart_none ?_)
 show wpAny _ _ (if ((1:Int) == 0)=true then _ else _) _ _ s
 rw[if_neg (by decide)]
 refine wpAny_bind (Qeu pl (wpAny_bind (Qeu pu (wpAny_bind (wpAny_pure ?_)))))
 show wpAny _ _ (match Builtin.Slice.sliceAdjust lo hi 1 (n:Int) with | (lo,hi)=>pure (lo,(1:Int),Builtin.Slice.slicePlaces lo hi 1)) _ _ s
 rw[QiL lo hi n]
 show wpAny _ _ (pure (((sIx n 0 lo:Nat):Int),(1:Int),Builtin.Slice.slicePlaces ((sIx n 0 lo:Nat):Int) ((sIx n n hi:Nat):Int) 1)) _ _ s
 rw[Qjb]
 exact wpAny_pure h
theorem Qle(xs:Array Value)(i k:Nat):((List.range k).filterMap fun(m:Nat)=>xs[((i:Int)+(m:Int) * 1).toNat]?).toArray=((xs.toList.drop i).take k).toArray:=by
 have e:(fun(m:Nat)=>xs[((i:Int)+(m:Int) * 1).toNat]?)=fun m=>xs[i+m]?:=by
  funext m
  have:((i:Int)+(m:Int) * 1).toNat=i+m:=by omega
  rw[this]
 rw[e]
 have:=pick_run xs i k
 rw[List.filterMap_map]at this
 have e2:((fun x=>xs[x]?) ∘ fun x=>i+x)=fun m=>xs[i+m]?:=rfl
 rw[e2]at this
 rw[this]
theorem getItem_tuple_cut{t sl:Addr}{items:Array Value}{vl vu:Value}{lo hi:Option Int}{Q:Value->Shared->Prop}(ht:IsTup s.heap t items)(hs:s.heap.IsSliceOf sl vl vu .none)(pl:IsPart vl lo)(pu:IsPart vu hi)
 (hw:¬ (sIx items.size 0 lo=0/\sIx items.size items.size hi=items.size))
 (h:Q (.ref s.heap.objs.size) { s with heap:=s.heap.push { cls:=.type "tuple",data:=.seq ((items.toList.drop (sIx items.size 0 lo)).take (sIx items.size items.size hi - sIx items.size 0 lo)).toArray } })
 (hsz:items.size<=sizeLine):wpAny (model prog w) A (getItem (.ref t) (.ref sl)) Q E s:=by
 have htake:sizeOk (.seq ((items.toList.drop (sIx items.size 0 lo)).take (sIx items.size items.size hi - sIx items.size 0 lo)).toArray):=by
  show((items.toList.drop (sIx items.size 0 lo)).take (sIx items.size items.size hi - sIx items.size 0 lo)).toArray.size<=sizeLine
  rw[List.size_toArray,List.length_take,List.length_drop,Array.length_toList]
  omega
 have hj:sIx items.size items.size hi<=items.size:=Qno _ _ (Nat.le_refl _) hi
 obtain⟨os,hos,hcs,hds⟩:=id hs
 have hTs:s.TypeIs (.ref sl) "slice":=⟨os,hos,hcs⟩
 unfold getItem
 try with_reducible refine wpAny_holding ?_
 first | refine wpAny_bind (wpAny_pure ?_) | skip
 refine wpAny_bind (wpAny_sequenceKey ht.typeIs (by decide) ?_)
 refine wpAny_bind (wpAny_callSpecial?_slot (name:=Str.ofString "__getitem__") ht.typeIs PyProof.Rows.slot_tuple_getitem
  (wpAny_call_entry PyProof.Rows.slot_tuple_getitem ht.typeIs entry_tuple_getitem ?_ (args_tuple_getitem _ _)))
 show wpAny _ _ (Builtin.Tuple.tupleItemsOf (.ref t)>>=_) _ _ s
 refine wpAny_bind (tupleItemsOf_ ht ?_)
 refine wpAny_bind (wpAny_typeOf hTs ?_)
 rw[if_pos (by decide)]
 refine wpAny_bind (Qeo hs pl pu ?_)
 have hno:¬ ((((sIx items.size 0 lo:Nat):Int) == 0&&(1:Int) == 1&&(sIx items.size items.size hi - sIx items.size 0 lo) == items.size)=true):=by
  intro q
  rw[Bool.and_eq_true,Bool.and_eq_true]at q
  have q1:((sIx items.size 0 lo:Nat):Int)=0:=eq_of_beq q.1.1
  have q2:sIx items.size items.size hi - sIx items.size 0 lo=items.size:=eq_of_beq q.2
  exact hw ⟨by omega,by omega⟩
 show wpAny _ _ (if (((sIx items.size 0 lo:Nat):Int) == 0&&(1:Int) == 1&&(sIx items.size items.size hi - sIx items.size 0 lo) == items.size)=true then _ else _) _ _ s
 rw[if_neg hno,Qle]
 first
  | exact wpAny_bind (m:=Builtin.Tuple.tupleExact _) (wpAny_newObj_type (wpAny_pure ⟨_,rfl,wpAny_pure h⟩) htake)
  | exact wpAny_bind (m:=Builtin.Tuple.tupleExact _) (wpAny_newObj_type (wpAny_bind (wpAny_pure (wpAny_pure ⟨_,rfl,wpAny_pure h⟩))) htake)
  | exact wpAny_bind (wpAny_bind (m:=Builtin.Tuple.tupleExact _) (wpAny_newObj_type (wpAny_pure (wpAny_pure ⟨_,rfl,wpAny_pure h⟩)) htake))
  | exact wpAny_bind (wpAny_bind (m:=Builtin.Tuple.tupleExact _) (wpAny_newObj_type (wpAny_pure ⟨_,rfl,wpAny_pure h⟩) htake))
end
end HT
namespace L2
open PySem PySem.Spec PyProof.Rows
abbrev TO:=St->Hp->(Option Int->Hp->Prop)->Prop
def PO(X:Cx)(e:Option Expr)(t:TO):Prop:=
 ∀(pins:List (Addr×Obj))(s:Shared)(σ:St)(H:Hp)(Q:Option Int->Hp->Prop),Inv X pins σ H s->t σ H Q->
  wpAny (model X.prog X.w) X.A (evalPart e X.env) (fun u s'=>∃ o H',Inv X pins σ H' s'/\IsPart u o/\Q o H') X.xe s
def Ql0:TO:=fun _ H Q=>Q none H
def tPart(t:TE):TO:=fun σ H Q=>t σ H fun x H1=>∃ i,x=.int i/\Q (some i) H1
section
variable{X:Cx}{e:Expr}{te:TE}{lo hi:Option Expr}{tl th:TO}{pos p2:Pos}
theorem Ql9:PO X none Ql0:=by
 intro pins s σ H Q I h
 rw[evalPart_none]
 exact wpAny_pure ⟨none,H,I,.none,h⟩
theorem Ql6(h:PE X e te):PO X (some e) (tPart te):=by
 intro pins s σ H Q I hw
 rw[evalPart_some]
 refine thn (h pins s σ H _ I hw) fun u s1 ⟨x,H1,I1,r1,q1⟩=>?_
 obtain⟨i,rfl,q⟩:=q1
 obtain⟨t,rfl⟩:=r1
 exact⟨some i,H1,I1,.int i t,q⟩
def SlR(X:Cx)(r:V->Option Int->Option Int->Hp->VK->Prop):Prop:=
 ∀(pins:List (Addr×Obj))(s:Shared)(σ:St)(H:Hp)(x:V)(v vl vu:Value)(lo hi:Option Int)(sl:Addr)(Q:VK),Inv X pins σ H s->RelV x v->s.heap.IsSliceOf sl vl vu .none->IsPart vl lo->IsPart vu hi->r x lo hi H Q->
  ∃ T id,typeLookup (.type T) "__getitem__"=pure (some (.builtin id))/\s.TypeIs v T/\wpAny (model X.prog X.w) X.A (getItem v (.ref sl)) (EP X pins σ Q) X.xe s
def tSl(r:V->Option Int->Option Int->Hp->VK->Prop)(te:TE)(tl th:TO):TE:=fun σ H Q=>te σ H fun x H1=>tl σ H1 fun l H2=>th σ H2 fun u H3=>r x l u H3 Q
theorem Qel{r:V->Option Int->Option Int->Hp->VK->Prop}(hr:SlR X r)(he:PE X e te)(hl:PO X lo tl)(hu:PO X hi th):PE X (.Subscript e (.Slice lo hi none p2) pos) (tSl r te tl th):=by
 intro pins s σ H Q I h
 refine Subscript_ (thn (he pins s σ H _ I h) fun v s1 ⟨x,H1,I1,r1,q1⟩=>?_)
 refine wpAny_Slice (thn (hl pins s1 σ H1 _ I1 q1) fun vl s2 ⟨l,H2,I2,pl,q2⟩=>thn (hu pins s2 σ H2 _ I2 q2) fun vu s3 ⟨u,H3,I3,pu,q3⟩=>?_)
 rw[evalPart_none]
 refine wpAny_pure ?_
 have I4:Inv X pins σ H3 { s3 with heap:=s3.heap.push { cls:=.type "slice",data:=.fields #[vl,vu,.none] } }:=I3.kept (t':=s3.toks) fun b ob q=>Heap.get?_push_of_some _ q
 obtain⟨T,id,hT,ht,hg⟩:=hr pins { s3 with heap:=s3.heap.push { cls:=.type "slice",data:=.fields #[vl,vu,.none] } } σ H3 x v vl vu l u s3.heap.objs.size Q I4 r1 (Heap.IsSliceOf.new ..) pl pu q3
 show wpAny (model X.prog X.w) X.A (subscriptTail e (.Slice lo hi none p2) v (.ref s3.heap.objs.size)) (EP X pins σ Q) X.xe { s3 with heap:=s3.heap.push { cls:=.type "slice",data:=.fields #[vl,vu,.none] } }
 exact tail_any (ops:=[.ref s3.heap.objs.size,v]) ht hT hg (by with_unfolding_all rfl)
def cutV(xs:List V)(lo hi:Option Int):List V:=(xs.drop (HT.sIx xs.length 0 lo)).take (HT.sIx xs.length xs.length hi - HT.sIx xs.length 0 lo)
theorem Qd3(xs:List V)(lo hi:Option Int):(cutV xs lo hi).length<=xs.length:=by
 unfold cutV
 rw[List.length_take,List.length_drop]
 omega
def rSlT(K:PySem.W.Frag):V->Option Int->Option Int->Hp->VK->Prop:=fun x lo hi H Q=>∃ a xs,x=.ref a/\SqT K H a xs/\
 ¬ (HT.sIx xs.length 0 lo=0/\HT.sIx xs.length xs.length hi=xs.length)/\∀ p,H p=none->Q (.ref p) (upd H p (.tup (cutV xs lo hi)))
theorem Qmt:SlR X (rSlT X.K):=by
 intro pins s σ H x v vl vu lo hi sl Q I rx hs pl pu h
 obtain⟨a,xs,rfl,hx,hw,q⟩:=h
 cases rx
 obtain⟨its,r,ht,hz⟩:=I.tuple hx
 have hlen:its.toArray.size=xs.length:=by rw[List.size_toArray];exact r.length.symm
 refine⟨"tuple",_,PyProof.Rows.slot_tuple_getitem.lookup,ht.typeIs,?_⟩
 refine HT.getItem_tuple_cut ht hs pl pu (by rw[hlen];exact hw) ?_ (by rw[hlen];exact hz)
 rw[hlen]
 refine⟨.ref s.heap.objs.size,_,I.laid (t':=s.toks) (o:=.tup (cutV xs lo hi)) (fun b ob q=>Heap.get?_push_of_some _ q) (Nat.le_refl _) ?_,rfl,q _ (I.hok.fresh (Nat.le_refl _))⟩
 exact⟨Nat.le_trans (Qd3 xs lo hi) hz,_,(r.drop (HT.sIx xs.length 0 lo)).take (HT.sIx xs.length xs.length hi - HT.sIx xs.length 0 lo),IsTup.new _ _⟩
end
end L2
namespace L2
open PySem PySem.Spec PyProof.Rows
def ixN(n:Nat)(i:Int):Option Nat:=if 0<=i then(if i<n then some i.toNat else none) else if -(n:Int)<=i then some (i+n).toNat else none
def atI{α:Type}(xs:List α)(i:Int):Option α:=(ixN xs.length i).bind fun j=>xs[j]?
theorem Qme{n:Nat}{i:Int}{j:Nat}(h:ixN n i=some j):seqIndex? i n=some j/\j<n /\ -(n:Int)<=i/\i<n:=by
 unfold ixN at h
 by_cases h0:0<=i
 ·rw[if_pos h0]at h
  by_cases h1:i<n
  ·rw[if_pos h1]at h
   have e:i.toNat=j:=Option.some.inj h
   exact⟨by rw[seqIndex_of h0 h1,e],by omega,by omega,h1⟩
  ·rw[if_neg h1]at h;cases h
 ·rw[if_neg h0]at h
  by_cases h1 : -(n:Int)<=i
  ·rw[if_pos h1]at h
   have e:(i+n).toNat=j:=Option.some.inj h
   exact⟨by rw[seqIndex_neg (by omega) h1,e],by omega,h1,by omega⟩
  ·rw[if_neg h1]at h;cases h
theorem Qe4{α:Type}{xs:List α}{i:Int}{v:α}(h:atI xs i=some v):∃ j,seqIndex? i xs.length=some j/\xs[j]?=some v/\j<xs.length /\ -(xs.length:Int)<=i/\i<xs.length:=by
 unfold atI at h
 cases e:ixN xs.length i with
 | none=>rw[e]at h;cases h
 | some j=>
  rw[e]at h
  obtain⟨h1,h2,h3,h4⟩:=Qme e
  exact⟨j,h1,h,h2,h3,h4⟩
theorem Qce{α:Type}{xs:List α}{j:Nat}{v:α}(h:xs[j]?=some v):atI xs (j:Int)=some v:=by
 have hj:j<xs.length:=(List.getElem?_eq_some_iff.mp h).1
 have e:ixN xs.length (j:Int)=some j:=by
  unfold ixN
  rw[if_pos (by omega),if_pos (by omega)];simp
 unfold atI;rw[e];exact h
def QeY(b:Expr):Prop:=∀ o i,subscripted b false o i=operate [o,i] (getItem o i)
def IxR(X:Cx)(r:R2):Prop:=
 ∀(value slice:Expr)(pins:List (Addr×Obj))(s:Shared)(σ:St)(H:Hp)(x y:V)(v u:Value)(Q:VK),Inv X pins σ H s->RelV x v->RelV y u->r x y H Q->
  subscripted slice false v u=operate [v,u] (getItem v u)->wpAny (model X.prog X.w) X.A (subscriptTail value slice v u) (EP X pins σ Q) X.xe s
def MtR(X:Cx)(id:String)(r:V->List V->Hp->VK->Prop):Prop:=
 ∀(pins:List (Addr×Obj))(s:Shared)(σ:St)(H:Hp)(x:V)(xs:List V)(v:Value)(us:List Value)(Q:VK),Inv X pins σ H s->RelV x v->Vals xs us->r x xs H Q->
  wpAny (model X.prog X.w) X.A (call (.builtin id) (v::us)) (EP X pins σ Q) X.xe s
section
variable{X:Cx}{a b:Expr}{ta tb:TE}{pos:Pos}
theorem IxR.or{r r':R2}(h:IxR X r)(h':IxR X r'):IxR X (fun x y H Q=>r x y H Q∨r' x y H Q):=by
 intro value slice pins s σ H x y v u Q I rx ry q hs
 rcases q with q | q
 ·exact h value slice pins s σ H x y v u Q I rx ry q hs
 ·exact h' value slice pins s σ H x y v u Q I rx ry q hs
theorem pe_ix{r:R2}(hr:IxR X r)(ha:PE X a ta)(hb:PE X b tb)(hs:QeY b):PE X (.Subscript a b pos) (tOp r ta tb):=by
 intro pins s σ H Q I h
 exact Subscript_ (binT ha hb I h fun v u s2 x y H2 I2 rx ry q=>hr a b pins s2 σ H2 x y v u Q I2 rx ry q (hs _ _))
def rIxL(K:PySem.W.Frag):R2:=fun x y H Q=>∃ p xs i v,x=.ref p/\y=.int i/\SqL K H p xs/\atI xs i=some v/\Q v H
def rIxT(K:PySem.W.Frag):R2:=fun x y H Q=>∃ p xs i v,x=.ref p/\y=.int i/\SqT K H p xs/\atI xs i=some v/\Q v H
def rIxS:R2:=fun x y H Q=>∃ z i c,x=.str z/\y=.int i/\z.length<=sizeLine/\atI z.cps.toList i=some c/\Q (.str ⟨#[c]⟩) H
theorem QlB:IxR X (rIxL X.K):=by
 intro value slice pins s σ H x y v u Q I rx ry h hs
 obtain⟨p,xs,i,z,rfl,rfl,hq,he,q⟩:=h
 cases rx
 obtain⟨t,rfl⟩:=ry
 obtain⟨its,r,pl,hz⟩:=I.list hq
 obtain⟨j,h1,h2,h3,h4,h5⟩:=Qe4 he
 obtain⟨w,ew,rw'⟩:=r.get h2
 have hl:=r.length
 have hn:=QdD
 have fin:EP X pins σ Q w s:=⟨z,H,I,rw',q⟩
 by_cases h0:0<=i
 ·have hj:i.toNat=j:=by
   rw[seqIndex_of h0 h5]at h1
   exact Option.some.inj h1
  exact item_listR pl.isList h0 (by omega) (by rw[hj];simpa using ew) fin hs
 ·have hj:(i+(its.toArray.size:Int)).toNat=j:=by
   rw[seqIndex_neg (by omega) h4]at h1
   rw[List.size_toArray, ← hl]
   exact Option.some.inj h1
  exact subscriptTail_builtinR (x:=w) pl.isList.typeIs slot_list_getitem.lookup
   (wpAny_getItem_list_neg (Q:=fun r s'=>r=w/\EP X pins σ Q r s') pl.isList (by omega) (by rw[List.size_toArray]<;>omega) (by omega) (by rw[hj];simpa using ew) ⟨rfl,fin⟩) hs
theorem QmZ:IxR X (rIxT X.K):=by
 intro value slice pins s σ H x y v u Q I rx ry h hs
 obtain⟨p,xs,i,z,rfl,rfl,hq,he,q⟩:=h
 cases rx
 obtain⟨t,rfl⟩:=ry
 obtain⟨its,r,pl,hz⟩:=I.tuple hq
 obtain⟨j,h1,h2,h3,h4,h5⟩:=Qe4 he
 obtain⟨w,ew,rw'⟩:=r.get h2
 have hl:=r.length
 have hn:=QdD
 have fin:EP X pins σ Q w s:=⟨z,H,I,rw',q⟩
 exact subscriptTail_builtinR (x:=w) pl.typeIs slot_tuple_getitem.lookup
  (getItem_tuple (j:=j) (Q:=fun r s'=>r=w/\EP X pins σ Q r s') pl (by omega) (by omega) (by rw[List.size_toArray, ← hl];exact h1) (by simpa using ew) ⟨rfl,fin⟩) hs
theorem QmO:IxR X rIxS:=by
 intro value slice pins s σ H x y v u Q I rx ry h hs
 obtain⟨z,i,c,rfl,rfl,hz,he,q⟩:=h
 obtain⟨t,rfl⟩:=rx
 obtain⟨t',rfl⟩:=ry
 obtain⟨j,h1,h2,h3,h4,h5⟩:=Qe4 he
 have hl:z.cps.toList.length=z.length:=by simp[Str.length]
 rw[hl]at h1 h4 h5
 have hn:=QdD
 exact tail_any (typeIs_str s z t) slot_str_getitem.lookup (getItem_str (c:=c) (by
  have e1:decide (i < -(2 ^ 63:Int))=false:=decide_eq_false (by omega)
  have e2:decide (i ≥ 2 ^ 63)=false:=decide_eq_false (by omega)
  rw[e1,e2,Bool.or_false]) (by rw[h1];simpa using h2) ⟨.str ⟨#[c]⟩,H,I.tok _,⟨_,rfl⟩,q⟩) hs
def rIx(K:PySem.W.Frag):R2:=fun x y H Q=>rIxL K x y H Q∨rIxT K x y H Q∨rIxS x y H Q
theorem Qji:IxR X (rIx X.K):=QlB.or (QmZ.or QmO)
theorem Inv.lst{pins:List (Addr×Obj)}{σ:St}{H:Hp}{s:Shared}{p:Addr}{xs:List V}(I:Inv X pins σ H s)(h:H p=some (.lst xs)):
 ∃(its:List Value)(n:Nat),Vals xs its/\s.heap.get? p=some { cls:=.type "list",data:=.seq its.toArray n }/\xs.length<=sizeLine:=by
 obtain⟨z,its,n,r,e⟩:=I.hok p _ h
 exact⟨its,n,r,e,z⟩
theorem Qgq(lo hi:Option Int)(n:Nat):(sliceBounds lo hi none n).1=((HT.sIx n 0 lo:Nat):Int)/\(sliceBounds lo hi none n).2.1=((HT.sIx n n hi:Nat):Int)/\(sliceBounds lo hi none n).2.2=1:=by
 refine⟨?_,?_,rfl⟩
 ·cases lo with
  | none=>simp[sliceBounds,HT.sIx]
  | some i=>
   simp only[sliceBounds,HT.sIx,Option.getD_none,show(1:Int) > 0 by decide,if_true]
   by_cases h:i<0
   ·simp only[h,if_true]<;>omega
   ·simp only[h,if_false]<;>omega
 ·cases hi with
  | none=>simp[sliceBounds,HT.sIx]
  | some i=>
   simp only[sliceBounds,HT.sIx,Option.getD_none,show(1:Int) > 0 by decide,if_true]
   by_cases h:i<0
   ·simp only[h,if_true]<;>omega
   ·simp only[h,if_false]<;>omega
theorem QfI(its:List Value)(lo hi:Option Int):slicePick its.toArray lo hi none=((its.drop (HT.sIx its.length 0 lo)).take (HT.sIx its.length its.length hi - HT.sIx its.length 0 lo)).toArray:=by
 obtain⟨h1,h2,h3⟩:=Qgq lo hi its.toArray.size
 unfold slicePick
 rw[h1,h2,h3]
 simp only[sliceRange_one,pick_run,List.size_toArray]<;>rfl
def rSlL(K:PySem.W.Frag):V->Option Int->Option Int->Hp->VK->Prop:=fun x lo hi H Q=>∃ a xs,x=.ref a/\SqL K H a xs/\∀ p,H p=none->Q (.ref p) (upd H p (.lst (cutV xs lo hi)))
theorem QlV:SlR X (rSlL X.K):=by
 intro pins s σ H x v vl vu lo hi sl Q I rx hs pl pu h
 obtain⟨a,xs,rfl,hx,q⟩:=h
 cases rx
 obtain⟨its,r,ht,hz⟩:=I.list hx
 have hlen:=r.length
 refine⟨"list",_,slot_list_getitem.lookup,ht.isList.typeIs,?_⟩
 refine wpAny_getItem_list_slice ht.isList hs pl pu .none (by simp) ?_ (by rw[List.size_toArray]<;>omega)
 rw[QfI, ← hlen]
 refine⟨.ref s.heap.objs.size,_,I.laid (t':=s.toks) (o:=.lst (cutV xs lo hi)) (fun b ob q=>Heap.get?_push_of_some _ q) (Nat.le_refl _) ?_,rfl,q _ (I.hok.fresh (Nat.le_refl _))⟩
 exact⟨Nat.le_trans (Qd3 xs lo hi) hz,_,0,(r.drop (HT.sIx xs.length 0 lo)).take (HT.sIx xs.length xs.length hi - HT.sIx xs.length 0 lo),Heap.get?_push_size _ rfl⟩
def flatV:V->Bool
 | .non=>true
 | .bl _=>true
 | .int _=>true
 | .str _=>true
 | _=>false
def eqV:V->V->Bool
 | .non,.non=>true
 | .bl a,.bl b=>a == b
 | .bl a,.int b=>(if a then 1 else 0) == b
 | .int a,.bl b=>a == (if b then 1 else 0)
 | .int a,.int b=>a == b
 | .str a,.str b=>a == b
 | _,_=>false
theorem QmP{A:Around}{s:Shared}{y x:V}{u v:Value}(ry:RelV y u)(rx:RelV x v)(fy:flatV y=true)(fx:flatV x=true):SeqAt.EqAt A s u v (eqV y x):=by
 cases y with
 | non=>
  cases ry
  cases x with
  | non=>cases rx;exact SeqAt.EqAt.same _
  | bl b=>cases rx;exact SeqAt.EqAt.none_bool b
  | int b=>obtain⟨t,rfl⟩:=rx;exact SeqAt.EqAt.none_int b t
  | str b=>obtain⟨t,rfl⟩:=rx;exact SeqAt.EqAt.none_str b t
  | _=>exact absurd (show false=true from fx) Bool.false_ne_true
 | bl a=>
  cases ry
  cases x with
  | non=>cases rx;exact SeqAt.EqAt.bool_none a
  | bl b=>cases rx;exact SeqAt.EqAt.bool_bool a b
  | int b=>obtain⟨t,rfl⟩:=rx;exact SeqAt.EqAt.bool_int a b t
  | str b=>obtain⟨t,rfl⟩:=rx;exact SeqAt.EqAt.bool_str a b t
  | _=>exact absurd (show false=true from fx) Bool.false_ne_true
 | int a=>
  obtain⟨t',rfl⟩:=ry
  cases x with
  | non=>cases rx;exact SeqAt.EqAt.int_none a t'
  | bl b=>cases rx;exact SeqAt.EqAt.int_bool a t' b
  | int b=>obtain⟨t,rfl⟩:=rx;exact SeqAt.EqAt.int_int a t' b t
  | str b=>obtain⟨t,rfl⟩:=rx;exact SeqAt.EqAt.int_str a t' b t
  | _=>exact absurd (show false=true from fx) Bool.false_ne_true
 | str a=>
  obtain⟨t',rfl⟩:=ry
  cases x with
  | non=>cases rx;exact SeqAt.EqAt.str_none a t'
  | bl b=>cases rx;exact SeqAt.EqAt.str_bool a t' b
  | int b=>obtain⟨t,rfl⟩:=rx;exact SeqAt.EqAt.str_int a t' b t
  | str b=>obtain⟨t,rfl⟩:=rx;exact SeqAt.EqAt.str_str a t' b t
  | _=>exact absurd (show false=true from fx) Bool.false_ne_true
 | _=>exact absurd (show false=true from fy) Bool.false_ne_true
def eqU(x:V)(u:Value):Bool:=match u with
 | .none=>eqV .non x
 | .bool b=>eqV (.bl b) x
 | .int i _=>eqV (.int i) x
 | .str z _=>eqV (.str z) x
 | _=>false
theorem Qjx{x y:V}{u:Value}(r:RelV y u)(f:flatV y=true):eqU x u=eqV y x:=by
 cases y with
 | non=>cases r;rfl
 | bl b=>cases r;rfl
 | int i=>obtain⟨t,rfl⟩:=r;rfl
 | str z=>obtain⟨t,rfl⟩:=r;rfl
 | _=>exact absurd (show false=true from f) Bool.false_ne_true
theorem QeR{x:V}:∀{xs:List V}{us:List Value},Vals xs us->xs.all flatV=true->us.any (eqU x)=xs.any fun y=>eqV y x
 | _,_,.nil,_=>rfl
 | y::xs,u::us,.cons r t,f=>by
  rw[List.all_cons,Bool.and_eq_true]at f
  rw[List.any_cons,List.any_cons,Qjx r f.1,QeR t f.2]
theorem Qek{A:Around}{s:Shared}{x:V}{v:Value}(rx:RelV x v)(fx:flatV x=true):∀{xs:List V}{us:List Value},Vals xs us->xs.all flatV=true->∀ u∈us,SeqAt.EqAt A s u v (eqU x u)
 | _,_,.nil,_=>fun u hu=>by cases hu
 | y::xs,u::us,.cons r t,f=>fun u' hu=>by
  rw[List.all_cons,Bool.and_eq_true]at f
  rcases List.mem_cons.mp hu with rfl | hu
  ·rw[Qjx r f.1];exact QmP r rx f.1 fx
  ·exact Qek rx fx t f.2 u' hu
def inV(x:V)(xs:List V):Bool:=xs.any fun y=>eqV y x
def rIn(K:PySem.W.Frag)(neg:Bool):R2:=fun x y H Q=>∃ p xs,y=.ref p/\(SqL K H p xs∨SqT K H p xs)/\flatV x=true/\xs.all flatV=true/\Q (.bl (if neg then !inV x xs else inV x xs)) H
theorem Qkt:OpR X (compareOp .In) (rIn X.K false):=by
 intro pins s σ H x y v u Q I rx ry h
 obtain⟨p,xs,rfl,hq,fx,fs,q⟩:=h
 cases ry
 rcases hq with hq | hq
 ·obtain⟨its,r,pl,hz⟩:=I.list hq
  refine SeqAt.in_listAt (eqU x) pl.isList (fun w hw=>Qek rx fx r fs w (by simpa using hw)) ⟨.bl _,H,I,rfl,?_⟩
  rw[show its.toArray.any (eqU x)=its.any (eqU x) by simp,QeR r fs]
  exact q
 ·obtain⟨its,r,pl,hz⟩:=I.tuple hq
  refine SeqAt.in_tupleAt (eqU x) pl (fun w hw=>Qek rx fx r fs w (by simpa using hw)) ⟨.bl _,H,I,rfl,?_⟩
  rw[show its.toArray.any (eqU x)=its.any (eqU x) by simp,QeR r fs]
  exact q
theorem Qgp:CallR X (.builtin "len") (fun xs H Q=>∃ p ys,xs=[.ref p]/\(SqL X.K H p ys∨SqT X.K H p ys)/\Q (.int ys.length) H):=by
 intro pins s σ H xs us Q I r h
 obtain⟨p,ys,rfl,hq,q⟩:=h
 obtain⟨u,rfl,rx⟩:=vals1 r
 cases rx
 have hn:=QdD
 rcases hq with hq | hq
 ·obtain⟨its,r',pl,hz⟩:=I.list hq
  have hlen:=r'.length
  exact Calls.call_len_list pl.isList (by simp only[List.size_toArray]<;>omega) ⟨.int ys.length,H,I.tok _,⟨s.toks+1,by rw[List.size_toArray,hlen]⟩,q⟩
 ·obtain⟨its,r',pl,hz⟩:=I.tuple hq
  have hlen:=r'.length
  exact len_tuple pl (by simp only[List.size_toArray]<;>omega) ⟨.int ys.length,H,I.tok _,⟨s.toks+1,by rw[List.size_toArray,hlen]⟩,q⟩
theorem Qgl:CallR X (.builtin "len") (fun xs H Q=>∃ z,xs=[.str z]/\z.length<=sizeLine/\Q (.int z.length) H):=by
 intro pins s σ H xs us Q I r h
 obtain⟨z,rfl,hz,q⟩:=h
 obtain⟨u,rfl,t,rfl⟩:=vals1 r
 have hn:=QdD
 exact len_str (by omega) ⟨.int z.length,H,I.tok _,⟨_,rfl⟩,q⟩
theorem CallR.or{f:Value}{r r':List V->Hp->VK->Prop}(h:CallR X f r)(h':CallR X f r'):CallR X f (fun xs H Q=>r xs H Q∨r' xs H Q):=by
 intro pins s σ H xs us Q I rs q
 rcases q with q | q
 ·exact h pins s σ H xs us Q I rs q
 ·exact h' pins s σ H xs us Q I rs q
def tyV(K:PySem.W.Frag)(T:String)(x:V)(H:Hp):Prop:=match x with
 | .str _=>T="str"
 | .int _=>T="int"
 | .ref p=>(T="list"/\∃ xs,SqL K H p xs)∨(T="tuple"/\∃ o,K.lookup p=some o/\o.cls=.type "tuple"/\o.dict=none)∨
  (T="dict"/\((∃ kvs,H p=some (.dK kvs))∨∃ kvs,H p=some (.dT kvs)))∨(T="set"/\∃ S n,H p=some (.set S n))
 | _=>False
theorem Qnn{pins:List (Addr×Obj)}{σ:St}{H:Hp}{s:Shared}{T:String}{x:V}{v:Value}(I:Inv X pins σ H s)(r:RelV x v)(ty:tyV X.K T x H):
 s.TypeIs v T/\∀ a,v=.ref a->∃ ob,s.heap.get? a=some ob/\ob.dict=none:=by
 cases x with
 | str z=>
  obtain⟨t,rfl⟩:=r
  cases (show T="str" from ty)
  exact⟨typeIs_str s z t,fun _ e=>nomatch e⟩
 | int i=>
  obtain⟨t,rfl⟩:=r
  cases (show T="int" from ty)
  exact⟨typeIs_int s i t,fun _ e=>nomatch e⟩
 | ref p=>
  cases r
  rcases ty with⟨rfl,xs,hq⟩ | ⟨rfl,o,hk,hc,hd⟩ | ⟨rfl,hk⟩ | ⟨rfl,S,n,hk⟩
  ·obtain⟨its,_,pl,_⟩:=I.list hq
   refine⟨pl.isList.typeIs,fun a e=>?_⟩
   cases e
   obtain⟨o,n,e,c,hd,_⟩:=pl
   exact⟨o,e,hd⟩
  ·refine⟨⟨o,I.kIn p o hk,hc⟩,fun a e=>?_⟩
   cases e
   exact⟨o,I.kIn _ o hk,hd⟩
  ·have z:∃ o,s.heap.get? p=some o/\o.ExactDict:=by
    rcases hk with⟨kvs,hk⟩ | ⟨kvs,hk⟩
    ·obtain⟨_,_,_,_,o,_,_,e,ex,_⟩:=I.hok p _ hk
     exact⟨o,e,ex⟩
    ·obtain⟨_,_,_,_,o,_,_,e,ex,_⟩:=I.hok p _ hk
     exact⟨o,e,ex⟩
   obtain⟨o,e,ex⟩:=z
   refine⟨⟨o,e,ex.1⟩,fun a e2=>?_⟩
   cases e2
   exact⟨o,e,ex.2.1⟩
  ·obtain⟨o,_,_,_,e,ex,_⟩:=I.hok p _ hk
   refine⟨⟨o,e,ex.1⟩,fun a e2=>?_⟩
   cases e2
   exact⟨o,e,ex.2.1⟩
 | _=>exact False.elim ty
def tBM(K:PySem.W.Frag)(T:String)(r:V->List V->Hp->VK->Prop)(to:TE)(t:TA):TE:=fun σ H Q=>to σ H fun x H1=>tyV K T x H1/\t σ H1 fun xs H2=>r x xs H2 Q
variable{o e:Expr}{es:List Expr}{to:TE}{t:TA}{name:Str}{apos cpos:Pos}{T id:String}{r:V->List V->Hp->VK->Prop}
theorem pe_bm(pa:PlainAttrs T)(slot:Slot T name id)(hty:typeOf (.builtin id)=pure (.type "method_descriptor"))(hm:MtR X id r)(ho:PE X o to)(ha:PA X (e::es) t)
 (hbase:attributeBase o name X.env (eval o X.env)=eval o X.env:=by rfl)
 (hfew:((backTo cpos (starEach (e::es) X.env)).all (fun x => !x.1)&&(backToKw cpos (keywordEach [] X.env)).all (fun x=>x.1.isSome)
  && decide ((e::es).length+([]:List Keyword).length+(if ([]:List Keyword).isEmpty then 0 else 1)<30))=true:=by rfl)
 (hline:(apos.endLine == cpos.line)=true:=by rfl) (hs:starEach (e::es) X.env=(false,eval e X.env)::starEach es X.env:=by rfl) (hplain:(backTo cpos (starEach es X.env)).any (·.1)=false:=by rfl):
 PE X (.Call (.Attribute o name apos) (e::es) [] cpos) (tBM X.K T r to t):=by
 intro pins s σ H Q I h
 refine wpAny_Call_method_late hbase hfew hline rfl (thn (ho pins s σ H _ I h) fun v s1 ⟨x,H1,I1,r1,ty,q1⟩=>?_)
 obtain⟨h1,h2⟩:=Qnn I1 r1 ty
 refine⟨T,id,pa,slot,hty,h1,h2,?_⟩
 have hA:=ha cpos pins s1 σ H1 _ I1 q1
 rw[hs]at hA ⊢
 refine Calls.callWith_builtin (by show(false||(backTo cpos (starEach es X.env)).any (·.1))=false;rw[hplain]<;>rfl) (Calls.evalArgs_plain ?_)
 exact thn hA fun us s2 ⟨vs,H2,I2,r2,q2⟩=>hm pins s2 σ H2 x vs v us Q I2 r1 r2 q2
end
end L2
namespace L2
open PySem PySem.Spec PyProof.Rows
def MtM(X:Cx)(id:String)(r:V->List V->Hp->VK->Prop):Prop:=
 ∀(pins:List (Addr×Obj))(s:Shared)(σ:St)(H:Hp)(x:V)(xs:List V)(v:Value)(us:List Value)(Q:VK),Inv X pins σ H s->RelV x v->Vals xs us->r x xs H Q->
  wpAny (model X.prog X.w) X.A (call (.builtin id) (v::us)) (EP X pins σ Q) X.xe s
theorem Vals.one:∀{x:V}{us:List Value},Vals [x] us->∃ u,us=[u]/\RelV x u
 | _,_,.cons r .nil=>⟨_,rfl,r⟩
section
variable{X:Cx}{pins:List (Addr×Obj)}{σ:St}{H:Hp}{s:Shared}{l b:Addr}{xs ys zs:List V}
theorem Inv.lset{its its':List Value}{n:Nat}{f:Array Value->Array Value}{t':Nat}(I:Inv X pins σ H s)(hH:H l=some (.lst xs))
 (e:s.heap.get? l=some { cls:=.type "list",data:=.seq its.toArray n }) (hf:f its.toArray=its'.toArray) (hv:Vals ys its') (hz:ys.length<=sizeLine):
 Inv X pins σ (upd H l (.lst ys)) { s with heap:=s.heap.update l (Obj.mapSeq f),toks:=t' }:=by
 have q:=PySem.IsL.update e f
 rw[hf]at q
 refine I.write (x:=l) (e:=l) (by rw[hH];exact trivial) (.inl rfl) (fun b' u hb hu=>(Heap.get?_update_other s.heap (Obj.mapSeq f) (Ne.symm hb)).trans hu) ⟨_,q⟩ ?_
 exact⟨hz,its',_,hv,q⟩
theorem Inv.lnew{its:List Value}{t':Nat}(I:Inv X pins σ H s)(hv:Vals ys its)(hz:ys.length<=sizeLine):
 Inv X pins σ (upd H s.heap.objs.size (.lst ys)) { s with heap:=s.heap.push { cls:=.type "list",data:=.seq its.toArray },toks:=t' }:=
 I.laid (fun _ _ q=>Heap.get?_push_of_some _ q) (Nat.le_refl _) ⟨hz,its,0,hv,Heap.get?_push_size _ rfl⟩
theorem Inv.lstM(I:Inv X pins σ H s)(hH:H l=some (.lst xs)):xs.length<=sizeLine/\∃(its:List Value)(n:Nat),Vals xs its/\xs.length=its.length/\s.heap.get? l=some { cls:=.type "list",data:=.seq its.toArray n }:=by
 obtain⟨z,its,n,r,e⟩:=I.hok l _ hH
 exact⟨z,its,n,r,r.length,e⟩
theorem Qlp{n:Nat}(h:n<=sizeLine):Builtin.List.listTooLong n=false:=by
 unfold Builtin.List.listTooLong
 exact decide_eq_false (by omega)
end
section
variable{X:Cx}
def QlU:V->List V->Hp->VK->Prop:=fun x vs H Q=>∃ l xs y,x=.ref l/\vs=[y]/\H l=some (.lst xs)/\xs.length<sizeLine/\Q .non (upd H l (.lst (xs++[y])))
theorem QjJ:MtM X "list.append" QlU:=by
 intro pins s σ H x vs v us Q I rx rv h
 obtain⟨l,xs,y,rfl,rfl,hH,hz,q⟩:=h
 cases rx
 obtain⟨u,rfl,ru⟩:=rv.one
 obtain⟨z,its,n,r,hl,e⟩:=I.lstM hH
 refine call_meets F.slot_list_append ⟨_,e,rfl⟩ F.entry_list_append (F.args_list_append_2 _ _) (PySem.list_append l its.toArray n u (by rw[List.size_toArray];omega)) ⟨e,?_⟩
 refine⟨.non,_,I.lset (its':=its++[u]) hH e (by simp) (r.append (.cons ru .nil)) ?_,rfl,q⟩
 rw[List.length_append,List.length_singleton]
 omega
def Qmf:V->List V->Hp->VK->Prop:=fun x vs H Q=>∃ l b xs zs,x=.ref l/\vs=[.ref b]/\H l=some (.lst xs)/\H b=some (.lst zs)/\xs.length+zs.length<=sizeLine/\Q .non (upd H l (.lst (xs++zs)))
theorem Qjk:MtM X "list.extend" Qmf:=by
 intro pins s σ H x vs v us Q I rx rv h
 obtain⟨l,b,xs,zs,rfl,rfl,hH,hB,hz,q⟩:=h
 cases rx
 obtain⟨u,rfl,ru⟩:=rv.one
 cases ru
 obtain⟨z,its,n,r,hl,e⟩:=I.lstM hH
 obtain⟨z2,its2,n2,r2,hl2,e2⟩:=I.lstM hB
 have hsz:its.toArray.size+its2.toArray.size<=sizeLine:=by rw[List.size_toArray,List.size_toArray];omega
 have hlong:¬ (!its.toArray.isEmpty&&Builtin.List.listTooLong (its.toArray.size+its2.toArray.size))=true:=by
  rw[Qlp hsz,Bool.and_false]
  exact Bool.false_ne_true
 refine call_meets F.slot_list_extend ⟨_,e,rfl⟩ F.entry_list_extend (F.args_list_extend_2 _ _)
  (AutoSeq1.list_extend_list_list_0 l its.toArray n b its2.toArray n2 hlong (by rw[List.size_toArray];omega) (by omega)) ⟨e,e2,?_⟩
 refine⟨.non,_,I.lset (its':=its++its2) hH e (by simp) (r.append r2) ?_,rfl,q⟩
 rw[List.length_append]
 omega
end
section
variable{prog:Program}{w:World}{A:Around}{E:Value->Shared->Prop}{s:Shared}
end
section
variable{X:Cx}
end
end L2
namespace Att
open PySem PySem.W PySem.Calls PyProof.Rows
theorem Qev{P:Params}{h:Heap}:∀(ns:List Int)(vs:List Value),WellAll P h vs (ns.map WData.int)->IntsAre vs ns:=by
 intro ns
 induction ns with
 | nil=>
  intro vs w
  rw[List.map_nil]at w
  cases w
  exact .nil
 | cons n ns ih=>
  intro vs w
  rw[List.map_cons]at w
  cases w with
  | cons a b=>
   cases a
   exact .cons _ _ (ih _ b)
theorem script_of{l:OpenLaw}{n:Nat}(hn:l.most=some n){P:Params}{h:Heap}{args:List WData}{vals:List Value}
 (hpre:l.row.toRowW.claim.pre args=true) (hwl:WellAll P h vals args):
 ∃ a vs ns,vals=[Value.ref a]/\args=[WData.list (ns.map WData.int)]/\h.get? a=some { cls:=.type "list",data:=.seq vs.toArray }/\IntsAre vs ns/\ns.length<=n:=by
 have hsh:WShape.hasAll [] args [.list .int]=true:=(pre_splitW hpre).1
 have hc:l.pre.holds [] { args:=args }=true:=(pre_splitW hpre).2
 obtain⟨d,r,rfl,h1,h2⟩:=hasAllW_cons hsh
 obtain rfl:=hasAllW_nil h2
 obtain⟨xs,rfl,h3⟩:=hasW_list h1
 obtain⟨ns,rfl⟩:=items_int h3
 have hlen:ns.length<=n:=by
  unfold OpenLaw.pre at hc
  have h4:(WTm.not (.lt (.lit (.int (n:Int))) (.len (.arg 0)))).holds [] { args:=[.list (ns.map .int)] }=true:=by
   have h4:=(holds_andW hc).1
   rw[hn]at h4
   exact h4
  have h5:=condW_of h4 (w_not (w_lt w_lit (w_len_list (w_arg rfl))))
  rw[List.length_map]at h5
  refine Nat.le_of_not_lt fun q=>?_
  have q':(n:Int)<((ns.length:Nat):Int):=by omega
  first
   | (rw[decide_eq_true q']at h5;exact absurd h5 (by decide))
   | (simp at h5;omega)
 cases hwl with
 | cons w1 w2=>
  cases w2
  cases w1 with
  | list ho hall=>exact⟨_,_,ns,rfl,rfl,ho,Qev ns _ hall,hlen⟩
theorem post_true(l:OpenLaw)(args:List WData):l.row.toRowW.claim.post args (.bool true) args=true:=
 postW_of (r:=l.row.toRowW) (X:=(true == true))
  (show WShape.has [] (.bool true) .bool=true by first | rfl | decide | simp[WShape.has,WShape.arms,WShape.armsAll])
  (show(WTm.eq .res (.lit (.bool true))).value [] { args:=args,res:=some (.bool true),after:=args }=some (.bool (true == true)) from w_eq_bool (w_res rfl) w_lit) rfl
section
variable{prog:Program}{w:World}{A:Around}{E:Value->Shared->Prop}{s:Shared}{K:Frag}
end
end Att
namespace L2
open PySem PySem.Spec PyProof.Rows
theorem Qfh:∀{vs:List Value}{ns:List Int},IntsAre vs ns->Vals (ns.map V.int) vs
 | _,_,.nil=>.nil
 | _,_,.cons n t h=>.cons ⟨t,rfl⟩ (Qfh h)
def Only(H:Hp):Prop:=∀ b,H b=none∨∃ o xs,H b=some (.frz o (.lst xs))
theorem QkS{P:Program}{w:World}{K:PySem.W.Frag}{mg mb:Str->Option Value}{CX:CXT}{k:Nat}{fa a:Addr}{fd:FuncData}{x:Str}{sp:Sp}{s₁:Shared}{vs:List Value}{ns:List Int}
 (KX:K.In s₁.heap) (hns:s₁.heap.Ns mainGlobals mg) (hb:s₁.heap.Ns builtinsNs mb) (hbb:∀ x:Str,x≠"__name__"->mb x=bootBuiltins x) (hlim:s₁.heap.NoLimit) (hg:s₁.gens = #[])
 (ha:s₁.heap.get? a=some { cls:=.type "list",data:=.seq vs.toArray }) (hi:IntsAre vs ns) (hl:ns.length<=sizeLine) (hr:Room k callerA)
 (F:∀ base:Heap,K.In base->base.Ns mainGlobals mg->FnOk P w K mg base CX k fa fd [x] sp) (hbind:∀(s:Shared)(u:Value),BindsTo s fd ⟨[u],[]⟩ [(x,u)])
 (hsp:∀ H:Hp,Only H->SqL K H a (ns.map V.int)->sp [.ref a] H (fun v _=>v=.bl true) fun _ _ _=>False)
 (hCX:∀ H e s',CX [] H s₁ (fun _ _ _=>False) e s'->False):
 codeAny (model P w) callerA (.call (.ref fa) ⟨[.ref a],[]⟩) (fun r s'=>r=.ok (.ret (.bool true))/\OldK s₁.heap s'.heap/\s'.os=s₁.os/\AllBare s'.gens) s₁:=by
 have rv:=Qfh hi
 have lenV:=hi.length
 -- from an abstract heap in which nothing but the script may be tracked
 have core:∀ H:Hp,Only H->SqL K H a (ns.map V.int)->HOk P w H s₁.heap->(∀ b,H b≠none->b=a)->(H a≠none->K.lookup a=none)->
  codeAny (model P w) callerA (.call (.ref fa) ⟨[.ref a],[]⟩) (fun r s'=>r=.ok (.ret (.bool true))/\OldK s₁.heap s'.heap/\s'.os=s₁.os/\AllBare s'.gens) s₁:=by
  intro H hO hS hok hA hK
  have base_of:∀{b:Addr}{o:Obj},s₁.heap.get? b=some o->H b=none->(hidT s₁.heap H).get? b=some o:=fun e n=>Qld e n
  have noA:∀{b:Addr}{o:Obj}{es:Array DictEntry}{ep:Nat},s₁.heap.get? b=some o->o.data=.dict es ep->H b=none:=fun {b o es ep} e d=>by
   cases q:H b with
   | none=>rfl
   | some u=>
    have e':b=a:=hA b (by rw[q];simp)
    subst e'
    rw[ha]at e;cases e
    have d':Data.seq vs.toArray _=Data.dict es ep:=d
    cases d'
  have nsK:∀{b:Addr}{m:Str->Option Value},s₁.heap.Ns b m->(hidT s₁.heap H).Ns b m:=fun {b m} ⟨o,es,ep,e,d,r⟩=>⟨o,es,ep,base_of e (noA e d),d,r⟩
  have hKb:K.In (hidT s₁.heap H):=fun b o e=>base_of (KX b o e) (by
   cases q:H b with
   | none=>rfl
   | some u=>
    have e':b=a:=hA b (by rw[q];simp)
    subst e'
    rw[hK (by rw[q];simp)]at e;cases e)
  have hM:Mod K mg (hidT s₁.heap H):=⟨hKb,nsK hns,⟨mb,nsK hb,hbb⟩,let ⟨mc,h1,h2⟩:=hlim;⟨mc,nsK h1,h2⟩⟩
  have e0:Env0 P w K mg (hidT s₁.heap H) callerA [] s₁ H:=⟨rfl,hM,fun b o e=>QlA e,Nat.le_of_eq (Qkr _ _),trivial,fun b hb=>absurd (show b∈([]:List Addr) from hb) (by simp),hok,.of_eq hg⟩
  refine codeAny_mono ((F _ hKb (nsK hns)).run callerA [] s₁ H ⟨[.ref a],[]⟩ [.ref a] [.ref a] _ _ hr e0 (hbind s₁ (.ref a)) (.cons rfl .nil) (hsp H hO hS)) fun r s' h=>?_
  cases r with
  | error e=>exact(hCX H e s' h).elim
  | ok fl=>
   cases fl with
   | next=>exact False.elim h
   | brk=>exact False.elim h
   | cont=>exact False.elim h
   | ret u=>
    obtain⟨v,H',os,bare,un,hok',r',q⟩:=h
    have q':v=.bl true:=q
    subst q'
    obtain rfl:u=Value.bool true:=r'
    refine⟨rfl,OldK.of_keep fun b o e=>?_,os,bare⟩
    cases q:H b with
    | none=>exact un.keep b o e q (by intro z;exact absurd (show b∈([]:List Addr) from z) (by simp)) (by simp)
    | some u=>
     rcases hO b with z | ⟨ob,xs,z⟩
     ·rw[q]at z;cases z
     ·have z2:=un.frzs b ob _ z
      obtain⟨e1,_⟩:=hok b _ z
      obtain⟨e2,_⟩:=hok' b _ z2
      rw[e]at e1;cases e1
      exact e2
 cases hk:K.lookup a with
 | some o=>
  -- the script is one of the module's own objects
  have e:=KX a o hk
  rw[ha]at e
  cases e
  refine core (fun _=>none) (fun _=>.inl rfl) (.inr ⟨_,vs.toArray,_,hk,rfl,rfl,rfl,by rw[List.size_toArray,lenV];exact hl,by simpa using rv⟩) (fun b u z=>by have z':(none:Option HO)=some u:=z;cases z') (fun b z=>absurd rfl z) fun z=>absurd rfl z
 | none=>
  refine core (fun b=>if b=a then some (.frz { cls:=.type "list",data:=.seq vs.toArray } (.lst (ns.map V.int))) else none) (fun b=>?_) (.inl (.inr ⟨{ cls:=.type "list",data:=.seq vs.toArray },if_pos rfl⟩)) (fun b u z=>?_) (fun b z=>?_) fun _=>hk
  ·by_cases hb:b=a
   ·exact .inr ⟨_,_,if_pos hb⟩
   ·exact .inl (if_neg hb)
  ·by_cases hb:b=a
   ·have z':=(if_pos hb).symm.trans z
    cases z'
    subst hb
    exact⟨ha,by rw[List.length_map];exact hl,vs,_,rv,ha⟩
   ·have z':=(if_neg hb).symm.trans z
    cases z'
  ·by_cases hb:b=a
   ·exact hb
   ·exact absurd (if_neg hb) z
end L2
namespace L2
open PySem PySem.Spec PyProof.Rows
end L2
namespace L2
open PySem PySem.Spec PyProof.Rows
def Qbk(s:Stmt):Arguments:=match s with
 | .FunctionDef _ a _ _ _ _ _ _ _ _=>a
 | _=>{ posonlyargs:=[],args:=[],vararg:=none,kwonlyargs:=[],kw_defaults:=[],kwarg:=none,defaults:=[] }
def QaM(s:Stmt):List Stmt:=match s with
 | .FunctionDef _ _ b _ _ _ _ _ _ _=>b
 | _=>[]
def Qk(s:Stmt):Scope:=match s with
 | .FunctionDef _ _ _ _ _ _ sc _ _ _=>sc
 | _=>{ kind:=.function,names:=[],isGenerator:=false,isCoroutine:=false }
abbrev CX0:CXT:=fun _ _ _ _ _ _=>False
abbrev E0:XK:=fun _ _ _=>False
theorem pass0{X:Cx}:Qgr CX0 X E0:=fun _ _ _ _ _ _ _ h=>h.elim
structure Fun(K:PySem.W.Frag)(x qual:Str)(st:Stmt)(f:Addr)(fd:FuncData):Prop where
 ex:∃(oc:Value)(od:Option Addr)(kV doc pm:Value)(an:Option Addr)(cdv ct:Value)(osl:Array (Option Value)),
  fd=PySem.W.fnOf x qual (Qbk st) (QaM st) (Qk st) .none kV doc pm an cdv ct/\K.lookup f=some ⟨oc,od,.func fd,osl⟩/\PySem.W.codeIn K cdv qual=true
 kp:PySem.W.keepIn K (.ref f)=true
section
variable{P:Program}{w:World}{K:PySem.W.Frag}{mg:Str->Option Value}{base:Heap}
theorem Fun.ok{x qual:Str}{st:Stmt}{f:Addr}{fd:FuncData}{N ps:List Str}{k:Nat}{sp:Sp}(F:Fun K x qual st f fd)(S:QC N ps (Qk st))(len:∀ vs H Q E,sp vs H Q E->vs.length=ps.length)
 (hbody:∀(cdv:Value)(A:Around)(outer:List Env)(s:Shared)(H:Hp)(vs:List V)(Q:VK)(E:XK),Room k (A.deeper (envOfC qual (Qk st) s.heap.objs.size f cdv))->sp vs H Q E->
  ∃ t,PSs (cxOf CX0 P w K mg base N qual (Qk st) f cdv A outer s H E).nox (QaM st) t/\t { nx:=fun _ H'=>Q .non H',rt:=Q } (start N vs) H):FnOk P w K mg base CX0 (k+1) f fd ps sp:=by
 obtain⟨oc,od,kV,doc,pm,an,cdv,ct,osl,rfl,lk,hcd⟩:=F.ex
 refine fn_of lk hcd S len fun A outer s H vs Q E hr hsp=>?_
 obtain⟨t,h,q⟩:=hbody cdv A outer s H vs Q E hr hsp
 exact⟨t,h.nox,q⟩
end
section
variable{X:Cx}
end
theorem iteF{A B:Prop}(h:B):if false=true then A else B:=by
 rw[if_neg Bool.false_ne_true]
 exact h
theorem iteT{A B:Prop}(h:A):if true=true then A else B:=by
 rw[if_pos rfl]
 exact h
def Same(H H':Hp):Prop:=∀ b o,H b=some o->H' b=some o
theorem Same.refl(H:Hp):Same H H:=fun _ _ h=>h
theorem Same.trans{H H1 H2:Hp}(a:Same H H1)(b:Same H1 H2):Same H H2:=fun c o h=>b c o (a c o h)
theorem Same.free{H H':Hp}(e:Same H H'){l:Addr}(h:H' l=Option.none):H l=Option.none:=by
 cases q:H l with
 | none=>rfl
 | some o=>
  rw[e l o q]at h
  cases h
theorem Same.seq{K:PySem.W.Frag}{H H':Hp}{a:Addr}{xs:List V}(e:Same H H')(h:SqL K H a xs):SqL K H' a xs:=by
 rcases h with(h | ⟨o,h⟩) | h
 ·exact .inl (.inl (e _ _ h))
 ·exact .inl (.inr ⟨o,e _ _ h⟩)
 ·exact .inr h
end L2
namespace L2
open PySem PySem.Spec PyProof.Rows
section
variable{κ:Type}[DecidableEq κ]
def valV(kvs:List (κ×V))(k:κ):Option V:=(kvs.find? fun kv=>decide (kv.1=k)).map (·.2)
def putK(kvs:List (κ×V))(k:κ)(v:V):List (κ×V):=
 if (kvs.any fun kv=>decide (kv.1=k))=true then kvs.map (fun kv=>if kv.1=k then(kv.1,v) else kv) else kvs++[(k,v)]
theorem KV.any{kvs:List (κ×V)}{vs:List (κ×Value)}(r:KV kvs vs)(k:κ):(kvs.any fun kv=>decide (kv.1=k))=vs.any fun kv=>decide (kv.1=k):=by
 unfold KV at r
 induction r with
 | nil=>rfl
 | cons h t ih=>rw[List.any_cons,List.any_cons,ih,h.1]
theorem KV.length{kvs:List (κ×V)}{vs:List (κ×Value)}(r:KV kvs vs):kvs.length=vs.length:=Paired.length r
end
section
variable{P:Program}{w:World}{H:Hp}{h:Heap}{a:Addr}
end
def DGet(H:Hp)(a:Addr)(y:V)(r:Option V):Prop:=
 (∃ kvs k,Rd H a (.dK kvs)/\y=kV k/\r=valV kvs k)∨∃ kvs k b,Rd H a (.dT kvs)/\y=.ref b/\H b=some (.tup (k.map kV))/\r=valV kvs k
def DPut(H:Hp)(a:Addr)(y v:V)(H':Hp):Prop:=
 (∃ kvs k,H a=some (.dK kvs)/\y=kV k/\kvs.length<sizeLine/\H'=upd H a (.dK (putK kvs k v)))∨
 ∃ kvs k b,H a=some (.dT kvs)/\y=.ref b/\H b=some (.tup (k.map kV))/\kvs.length<sizeLine/\H'=upd H a (.dT (putK kvs k v))
theorem DGet.k{H:Hp}{a:Addr}{kvs:List (Key×V)}{k:Key}(e:H a=some (.dK kvs)):DGet H a (kV k) (valV kvs k):=.inl ⟨kvs,k,.inl e,rfl,rfl⟩
theorem DGet.t{H:Hp}{a b:Addr}{kvs:List (List Key×V)}{k:List Key}(e:H a=some (.dT kvs))(eb:H b=some (.tup (k.map kV))):DGet H a (.ref b) (valV kvs k):=.inr ⟨kvs,k,b,.inl e,rfl,eb,rfl⟩
theorem DPut.k{H:Hp}{a:Addr}{kvs:List (Key×V)}{k:Key}{v:V}(e:H a=some (.dK kvs))(hl:kvs.length<sizeLine):DPut H a (kV k) v (upd H a (.dK (putK kvs k v))):=.inl ⟨kvs,k,e,rfl,hl,rfl⟩
theorem DPut.t{H:Hp}{a b:Addr}{kvs:List (List Key×V)}{k:List Key}{v:V}(e:H a=some (.dT kvs))(eb:H b=some (.tup (k.map kV)))(hl:kvs.length<sizeLine):
 DPut H a (.ref b) v (upd H a (.dT (putK kvs k v))):=.inr ⟨kvs,k,b,e,rfl,eb,hl,rfl⟩
section
variable{X:Cx}{pins:List (Addr×Obj)}{σ:St}{H:Hp}{s:Shared}{a:Addr}{y v:V}{u r:Value}{o:Option V}{A:Around}{E:Value->Shared->Prop}
end
section
variable{X:Cx}{pins:List (Addr×Obj)}{σ:St}{H:Hp}{s:Shared}{a:Addr}{kvs:List (Key×V)}{k:Key}{u:Value}{A:Around}{E:Value->Shared->Prop}
end
section
variable{X:Cx}{o i e value:Expr}{pos pos' tpos:Pos}{td ty tv:TE}
end
section
variable{X:Cx}{pos:Pos}
end
section
variable{X:Cx}{pins:List (Addr×Obj)}{σ:St}{H:Hp}{s:Shared}{a:Addr}{y d:V}{u r:Value}{o:Option V}{A:Around}{E:Value->Shared->Prop}
end
section
variable{X:Cx}{o e f:Expr}{apos cpos:Pos}{td ty tx:TE}
end
section
variable{X:Cx}{pins:List (Addr×Obj)}{σ:St}{H:Hp}{s:Shared}{a:Addr}{kvs:List (Key×V)}{A:Around}{E:Value->Shared->Prop}
end
section
variable{X:Cx}{pins:List (Addr×Obj)}{σ:St}{H:Hp}{s:Shared}{a:Addr}{y:V}{u:Value}{A:Around}{E:Value->Shared->Prop}
end
end L2
namespace L2
open PySem PySem.Spec PyProof.Rows
section
variable{P:Program}{w:World}{l:List Env}{H H':Hp}{s s':Shared}{ea C t:Addr}{B h':Heap}
end
section
variable{X:Cx}{pins:List (Addr×Obj)}{σ:St}{H1:Hp}{s1:Shared}{E:XK}{ea C:Addr}{vs:List Value}{h':Heap}{Ex:Value->Shared->Prop}{M:Model}
end
section
variable{P:Program}{w:World}{K:PySem.W.Frag}{mg:Str->Option Value}{base:Heap}{N:List Str}{qual:Str}{scope:Scope}{f:Addr}{cd:Value}{A:Around}{outer:List Env}{s:Shared}{H:Hp}{E:XK}
end
end L2
namespace L2
open PySem PySem.Spec PyProof.Rows
section
variable{X:Cx}{C:Addr}{E:XK}{x:Str}{e₀:Expr}{rest:List Expr}{ta:TA}{np cpos pos:Pos}
end
end L2
namespace L2
open PySem PySem.Spec PyProof.Rows
def exO(ea C:Addr):HO:=.ext fun h=>∃ o vs,h.get? ea=some o/\o.cls=.ref C/\o.data=.fields vs
section
variable{X:Cx}{pins:List (Addr×Obj)}{σ:St}{H H':Hp}{s s':Shared}{ea C t:Addr}{B:Heap}
end
section
variable{X:Cx}{pins:List (Addr×Obj)}{σ:St}{H H':Hp}{s s':Shared}{ea C DD t:Addr}{B:Heap}{x n:Str}{np hpos:Pos}{b₀:Stmt}{suite:List Stmt}{rest:List ExceptHandler}{D:Ends}{Ex:Value->Shared->Prop}{i:Nat}{ts:TS}
end
end L2
namespace L2
open PySem PySem.Spec PyProof.Rows
abbrev TXS:=Ends->St->Hp->(St->XK)->Prop
section
variable{X:Cx}{k:Nat}{f:Addr}{fd:FuncData}{ps:List Str}{sp:Sp}{dvs:List V}{ds:List Value}{x:Str}{p pos:Pos}{e:Expr}{es:List Expr}{ta:TA}
theorem PA.nox{es:List Expr}{t:TA}(h:PA X.nox es t){pos:Pos}{pins:List (Addr×Obj)}{s:Shared}{σ:St}{H:Hp}{Q:List V->Hp->Prop}{E:Value->Shared->Prop}(I:Inv X pins σ H s)(q:t σ H Q):
 wpAny (model X.prog X.w) X.A (spliced (backTo pos (starEach es X.env))) (AP X pins σ Q) E s:=
 wpAny_mono (h pos pins s σ H Q (I.wish _) q) (fun _ _ ⟨v,H',I',r,q⟩=>⟨v,H',I'.unwish,r,q⟩) fun _ _ z=>False.elim z
variable{t u:TXS}{te:TX}{st:Stmt}{rest:List Stmt}{i:Nat}{px:Pos}
end
end L2
namespace L2
open PySem PySem.Spec PyProof.Rows
def ExAt(x D:Addr)(h:Heap):Prop:=∃ o vs,h.get? x=some o/\o.cls=.ref D/\o.data=.fields vs
section
open PySem.W PySem.Calls Builtin Builtin.ObjectAttr Builtin.Getset_descriptor
variable{K:PySem.W.Frag}{x D:Addr}
theorem QcN{M:Model}{h:Heap}(I:ExAt x D h):Looks M h (typeOf (.ref x)) (.ref D):=by
 obtain⟨o,vs,h1,h2,_⟩:=I
 exact h2 ▸ (Looks.ld h1).andThen .now
theorem QeH{M:Model}{h:Heap}(X:K.In h){name:Str}{a g:Value}(ha:findIn K (.ref D) name=some (some a))(hg:specialIn K a "__get__"=some (some g))(ht:takesIn K a=some true):
 Looks M h (find (.ref x) (.ref D) name) (.bind g a):=by
 have L1:=looks_findIn (M:=M) X ha
 have L2:Looks M h (getOf (some a)) (some g):=looks_specialIn X hg
 have L3:=looks_takesIn (M:=M) X ht
 exact L1.andThen (L2.andThen ((show Looks M h (dataDescriptor? (some a) (some g)) (some (g,a)) from L3.andThen .now).andThen (Looks.tag .now)))
variable{prog:Program}{w:World}{A:Around}{E:Value->Shared->Prop}{s:Shared}{name:Str}
theorem Qla{M:Model}{nameV:Value}{Q:Unit->Shared->Prop}(X:K.In s.heap)(I:ExAt x D s.heap)(hb:mroIn K D (.type "BaseException")=some true)(hq:Q () s):wpAny M A (checkBuiltinCall "BaseException.__getattribute__" ⟨[.ref x,nameV],[]⟩) Q E s:=by
 obtain⟨hh,g,dr,t,os⟩:=s
 have hk:builtinKind "BaseException.__getattribute__"=some .slot:=dk
 have hsplit:splitId "BaseException.__getattribute__"=some ("BaseException","__getattribute__"):=dk
 have L0:=QcN (M:=M) I
 have L1:=looks_mroIn (M:=M) X hb
 have ha:=F.args_bexc_ga (.ref x) nameV
 simp only[checkBuiltinCall,hk,hsplit]
 refine wpAny_bind ?_
 unfold isInstance
 repeat (first | lk | wp_step)
 exact hq
theorem QmQ{R:Result->Shared->Prop}{tp:Value}(X:K.In s.heap)(I:ExAt x D s.heap)(hm:mroIn K D (.type "object")=some true)
 (h:R (.ok (.ret (.ref D))) s):codeAny (model prog w) A (.call (.builtin "getset_descriptor.__get__") ⟨[.builtin "object.__class__",.ref x,tp],[]⟩) R s:=by
 obtain⟨hh,g,dr,t,os⟩:=s
 have L0:=QcN (M:=model prog w) I
 have L1:=looks_mroIn (M:=model prog w) X hm
 refine codeAny_call_builtin KF.slot_gs.plain KF.entry_gs (KF.slot_gs.check _ _ _ _ _ _ _ _ KF.type_class (KF.args_gs _ _ _) ?_)
 unfold Builtin.«getset_descriptor.__get__» descrGet
 rw[dga_obj]
 refine wpAny_bind (wpAny_pure ?_)
 unfold descrGetter descrCheckInstance descrNameAndClass isInstance
 simp only[KF.owner_class]
 repeat lk
 refine⟨Code.quiet_builtin _ (dk),codeAny_builtin KF.entry_class ?_⟩
 unfold Builtin.«object.__class__» shownTypeOf
 repeat lk
 exact h
theorem Qlg{g a:Value}{tk:Tok}{Q:Fin->Shared->Prop}(X:K.In s.heap)(I:ExAt x D s.heap)(ha:findIn K (.ref D) "__class__"=some (some (.builtin "object.__class__")))
 (hn:specialIn K (.builtin "object.__class__") "__get__"=some (some (.builtin "getset_descriptor.__get__"))) (ht:takesIn K (.builtin "object.__class__")=some true) (hm:mroIn K D (.type "object")=some true)
 (hq:Q (.done (.ret (.ref D))) s):wpAny (model prog w) A (Builtin.«object.__getattribute__» ⟨[.ref x,.str "__class__" tk],[]⟩) Q E s:=by
 have L3:=QeH (x:=x) (M:=model prog w) X ha hn ht
 have L0:=QcN (M:=model prog w) I
 obtain⟨hh,gg,d,t,os⟩:=s
 refine wpAny_bind (wpAny_pure ?_)
 refine wpAny_bind (wpAny_pure (wpAny_bind (L0.at (wpAny_bind (L3.at ?_)))))
 show wpAny _ _ (holding [_] (call (.builtin "getset_descriptor.__get__") [.builtin "object.__class__",.ref x,.ref D])>>=ret) _ _ _
 exact wpAny_bind (wpAny_holding (wpAny_call (QmQ (s:=⟨hh,gg,d,t,os⟩) X I hm (wpAny_pure hq))))
theorem Qlz{Q:Option Value->Shared->Prop}(X:K.In s.heap)(I:ExAt x D s.heap)(g1:findIn K (.ref D) "__getattribute__"=some (some (.builtin "BaseException.__getattribute__")))(hb:mroIn K D (.type "BaseException")=some true)
 (g2:findIn K (.ref D) "__getattr__"=some none) (ha:findIn K (.ref D) "__class__"=some (some (.builtin "object.__class__")))
 (hn:specialIn K (.builtin "object.__class__") "__get__"=some (some (.builtin "getset_descriptor.__get__"))) (ht:takesIn K (.builtin "object.__class__")=some true) (hm:mroIn K D (.type "object")=some true)
 (h:Q (some (.ref D)) { s with toks:=s.toks+1 }):wpAny (model prog w) A (getAttr? (.ref x) "__class__") Q E s:=by
 obtain⟨hh,g,d,t,os⟩:=s
 have L0:=QcN (M:=model prog w) I
 have L1:=looks_findIn (M:=model prog w) X g1
 have L2:=looks_findIn (M:=model prog w) X g2
 have f3:=PySem.F.attr_ValueError.ga.bind (.ref x)
 have hx2:(Value.builtin "BaseException.__getattribute__" == Value.builtin "object.__getattribute__")=false:=dk
 have hx1:(onTheHeap (Value.ref D)&&Value.builtin "BaseException.__getattribute__" == Value.builtin "object.__getattribute__")=false:=by rw[hx2];rfl
 unfold getAttr? getAttrBy? getAttrBy
 refine wpAny_bind (wpAny_mkText (wpAny_bind (wpAny_attempt (wpAny_holding (wpAny_bind (L0.at (wpAny_bind (L1.at ?_))))))))
 show wpAny _ _ (if (onTheHeap (Value.ref D)&&Value.builtin "BaseException.__getattribute__" == Value.builtin "object.__getattribute__")=true then _ else getAttrByItsOwn _ _ _ _ _ _) _ _ _
 rw[hx1,if_neg (by decide)]
 unfold getAttrByItsOwn
 refine wpAny_bind ?_
 show wpAny _ _ (typeLookup (.ref D) "__getattr__") _ _ _
 refine L2.at ?_
 refine wpAny_bind (wpAny_attempt ?_)
 refine wpAny_holding ?_
 show wpAny _ _ (boundAndCalled (.builtin "BaseException.__getattribute__") (.ref x) _) _ _ _
 unfold boundAndCalled
 refine wpAny_bind (wpAny_of_eq f3 ?_)
 refine wpAny_call (codeAny_call_builtin PySem.F.attr_ValueError.ga.plain F.entry_bexc_ga (Qla (s:=⟨hh,g,d,t+1,os⟩) X I hb (Qlg (g:=.none) (a:=.none) (s:=⟨hh,g,d,t+1,os⟩) X I ha hn ht hm ?_)))
 show wpAny _ _ (handedOut (.ref D)) _ _ _
 exact handed_on rfl (wpAny_pure h)
structure ExCls(K:PySem.W.Frag)(D:Addr):Prop where
 cl:(clsIn K D).isSome=true
 g1:findIn K (.ref D) "__getattribute__"=some (some (.builtin "BaseException.__getattribute__"))
 hb:mroIn K D (.type "BaseException")=some true
 g2:findIn K (.ref D) "__getattr__"=some none
 ha:findIn K (.ref D) "__class__"=some (some (.builtin "object.__class__"))
 hn:specialIn K (.builtin "object.__class__") "__get__"=some (some (.builtin "getset_descriptor.__get__"))
 htk:takesIn K (.builtin "object.__class__")=some true
 hm:mroIn K D (.type "object")=some true
theorem Qlb(e:ExCls K D):KitX K (.ref x) (.ref D) (ExAt x D) where
 ty:=fun _ _ _ I=>QcN I
 it:=fun _ _ X _=>by
  obtain⟨cdD,hcD⟩:=Option.isSome_iff_exists.mp e.cl
  unfold clsIn at hcD
  split at hcD
  ·rename_i c' d' cd' sl' ho
   intro A' Q' E' s' k q
   unfold isType loadHead
   exact wpAny_bind (wpAny_loadPart (k _ _ (X _ _ ho)) (wpAny_pure q))
  ·cases hcD
 ne:=fun h tp dd its n sl X htp=>by
  obtain⟨cdD,hcD⟩:=Option.isSome_iff_exists.mp e.cl
  refine Bool.eq_false_iff.mpr fun q=>?_
  have e:D=tp:=Value.ref.inj (beq_iff_eq.mp q)
  subst e
  unfold clsIn at hcD
  split at hcD
  ·rename_i c' d' cd' sl' ho
   have z:=(X _ _ ho).symm.trans htp
   cases z
  ·cases hcD
 ca:=fun X I k=>Qlz X I e.g1 e.hb e.g2 e.ha e.hn e.htk e.hm k
end
end L2
set_option maxHeartbeats 1000000
namespace L2
open PySem PySem.Spec PyProof.Rows
section
variable{prog:Program}{w:World}{A:Around}{R:Result->Shared->Prop}{s:Shared}
theorem Qf9{elt target iter:Expr}{ifs:List Expr}{scope:Scope}{pos:Pos}{it acc:Value}{env:Env}(I:Nat->Shared->Prop)(NB:Value->Shared->Prop)(hNB:∀ e s',NB e s'->notedBy (model prog w) A env (fun e s'=>R (.error e) s') e s')
 (turn:∀ n s,I n s->wpAny (model prog w) A (pyNext it) (fun r s₁=>match r with
  | none=>R (.ok .next) s₁
  | some v=>wpAny (model prog w) A (letOwnedTupleGo target it v) (fun _ s₁'=>wpAny (model prog w) A (assign target env v) (fun _ s₂ =>
   wpAny (model prog w) A (forIn ifs true fun c r=>if r=true then do let ok ← isTrue c env (eval c env);pure (ForInStep.yield ok) else pure (ForInStep.yield r)) (fun ok s₃ =>
    if ok=true then wpAny (model prog w) A (eval elt env) (fun x s₄ =>
     wpAny (model prog w) A (call (.builtin "list.append") [acc,x]) (fun _ s₅ => ∃ m,m<n/\I m s₅) NB s₄) NB s₃
    else ∃ m,m<n/\I m s₃) NB s₂) NB s₁') NB s₁) NB s)
 (n:Nat) (h:I n s):
 codeAny (model prog w) A (.compLoop (.ListComp elt [⟨target,iter,ifs,0⟩] scope pos) 0 it acc env) R s:=by
 refine codeAny_loop rfl I (fun n s hI=>?_) n h
 show wpAny _ A ((compTurn (.ListComp elt [⟨target,iter,ifs,0⟩] scope pos) 0 it acc env).onRaise (fun x=>do noteFrame x env;theTreesLotGoes x)) _ _ s
 refine wpAny_noted ?_
 rw[compTurn_list]
 refine wpAny_bind (wpAny_standAt (wpAny_bind (wpAny_mono (turn n s hI) (fun r s₁ h₁=>?_) hNB)))
 cases r with
 | none=>exact wpAny_pure h₁
 | some v=>
  refine wpAny_bind (wpAny_mono h₁ (fun _ s₁' h₁'=>?_) hNB)
  refine wpAny_bind (wpAny_mono h₁' (fun _ s₂ h₂ => wpAny_bind (wpAny_mono h₂ (fun ok s₃ h₃ => ?_) hNB)) hNB)
  cases ok with
  | false=>exact wpAny_pure ⟨rfl,h₃⟩
  | true=>
   exact wpAny_bind (wpAny_bind (wpAny_mono h₃ (fun x s₄ h₄ => wpAny_bind (wpAny_mono h₄ (fun _ s₅ h₅ => wpAny_pure (wpAny_pure ⟨rfl,h₅⟩)) hNB)) hNB))
end
def Qbg(scope outer:Scope):Scope:=
 { scope with names:=scope.names.map fun(n,k)=>if (k == .free&&outer.kind == .function&&outer.names.lookup n == some .cell) then(n,.cell) else(n,k) }
theorem Qc3(c:Str->NameKind->Bool)(x:Str):∀ names:List (Str×NameKind),(names.map fun(n,k)=>if c n k=true then(n,NameKind.cell) else(n,k)).lookup x=(names.lookup x).map fun k=>if c x k=true then NameKind.cell else k
 | []=>rfl
 | (n,k)::r=>by
  have ih:=Qc3 c x r
  show List.lookup x ((if c n k=true then(n,NameKind.cell) else(n,k))::_)=_
  by_cases hx:x=n
  ·subst hx
   by_cases hc:c x k=true
   ·rw[if_pos hc,List.lookup_cons_self,List.lookup_cons_self];simp[hc]
   ·rw[if_neg hc,List.lookup_cons_self,List.lookup_cons_self];simp[hc]
  ·have hb:(x == n)=false:=by simpa using hx
   by_cases hc:c n k=true
   ·rw[if_pos hc,List.lookup_cons,List.lookup_cons,hb];exact ih
   ·rw[if_neg hc,List.lookup_cons,List.lookup_cons,hb];exact ih
theorem Qcu(scope outer:Scope)(x:Str):(Qbg scope outer).names.lookup x=(scope.names.lookup x).map fun k=>if (k == .free&&outer.kind == .function&&outer.names.lookup x == some .cell)=true then NameKind.cell else k:=
 Qc3 (fun n k=>k == .free&&outer.kind == .function&&outer.names.lookup n == some .cell) x scope.names
theorem Qfz{scope outer:Scope}{x:Str}(h:scope.names.lookup x=some .free):(Qbg scope outer).names.lookup x=some .cell∨(Qbg scope outer).names.lookup x=some .free:=by
 rw[Qcu,h]
 show some (if _ then _ else _)=_∨some (if _ then _ else _)=_
 split
 ·exact .inl rfl
 ·exact .inr rfl
theorem QfG{scope outer:Scope}{x:Str}(h:(Qbg scope outer).names.lookup x=some .cell∨(Qbg scope outer).names.lookup x=some .free):scope.names.lookup x=some .cell∨scope.names.lookup x=some .free:=by
 rw[Qcu]at h
 cases e:scope.names.lookup x with
 | none=>rw[e]at h;rcases h with h | h<;>cases h
 | some k=>
  rw[e]at h
  cases k with
  | free=>exact .inr rfl
  | cell=>exact .inl rfl
  | _=>rcases h with h | h<;>cases h
def QW(env:Env):List (Str×NameKind)->List (Str×Addr)->List (Str×Addr)
 | [],acc=>acc
 | (n,k)::r,acc=>if (k == .free)=true then QW env r ((n,(env.cells.lookup n).getD 0)::acc) else QW env r acc
theorem QiU{scope:Scope}{env:Env}(h:∀ y∈scope.names,y.2=.free->(env.cells.lookup y.1).isSome=true):closureFor scope env=pure (QW env scope.names []):=by
 have go:∀(names:List (Str×NameKind))(acc:List (Str×Addr)),(∀ y∈names,y.2=.free->(env.cells.lookup y.1).isSome=true)->
  (forIn names acc fun x r=>if (x.2 == NameKind.free)=true then(cellOf env x.1>>=fun a=>pure (ForInStep.yield ((x.1,a)::r))) else pure (ForInStep.yield r):Sem (List (Str×Addr)))=pure (QW env names acc):=by
  intro names
  induction names with
  | nil=>intro acc _;rfl
  | cons y r ih=>
   intro acc hy
   obtain⟨n,k⟩:=y
   rw[List.forIn_cons]
   unfold QW
   by_cases hk:(k == NameKind.free)=true
   ·obtain⟨c,hc⟩:=Option.isSome_iff_exists.mp (hy (n,k) List.mem_cons_self (beq_iff_eq.mp hk))
    have e:cellOf env n=pure c:=by unfold cellOf;rw[show env.cells.lookup n=some c from hc]
    simp only[hk,if_true,e]
    rw[show(env.cells.lookup n).getD 0=c from by rw[show env.cells.lookup n=some c from hc];rfl]
    exact ih _ fun y hm=>hy y (List.mem_cons_of_mem _ hm)
   ·simp only[hk]
    exact ih _ fun y hm=>hy y (List.mem_cons_of_mem _ hm)
 have e:=go scope.names [] h
 unfold closureFor
 exact congrArg (fun m=>m>>=fun s=>(pure s:Sem (List (Str×Addr)))) e
theorem Qb8{env:Env}{p:Str×Addr}:∀{names:List (Str×NameKind)}{acc:List (Str×Addr)},p∈QW env names acc->p∈acc∨p.2=(env.cells.lookup p.1).getD 0/\∃ y∈names,y.1=p.1/\y.2=.free
 | [],_,h=>.inl h
 | (n,k)::r,acc,h=>by
  unfold QW at h
  split at h
  ·rename_i hk
   rcases Qb8 h with h | ⟨h,y,hy,e⟩
   ·rcases List.mem_cons.mp h with h | h
    ·subst h;exact .inr ⟨rfl,(n,k),List.mem_cons_self,rfl,beq_iff_eq.mp hk⟩
    ·exact .inl h
   ·exact .inr ⟨h,y,List.mem_cons_of_mem _ hy,e⟩
  ·rcases Qb8 h with h | ⟨h,y,hy,e⟩
   ·exact .inl h
   ·exact .inr ⟨h,y,List.mem_cons_of_mem _ hy,e⟩
theorem Qb4{env:Env}{x:Str}:∀{names:List (Str×NameKind)}{acc:List (Str×Addr)},(acc.lookup x).isSome=true∨(∃ y∈names,y.1=x/\y.2=.free)->((QW env names acc).lookup x).isSome=true
 | [],_,h=>h.elim id fun⟨_,hy,_⟩=>nomatch hy
 | (n,k)::r,acc,h=>by
  unfold QW
  split
  ·rename_i hk
   refine Qb4 ?_
   rcases h with h | ⟨y,hy,e1,e2⟩
   ·refine .inl ?_
    rw[List.lookup_cons]
    split
    ·rfl
    ·exact h
   ·rcases List.mem_cons.mp hy with rfl | hy
    ·refine .inl ?_
     have e1:n=x:=e1
     subst e1
     rw[List.lookup_cons_self];rfl
    ·exact .inr ⟨y,hy,e1,e2⟩
  ·rename_i hk
   refine Qb4 ?_
   rcases h with h | ⟨y,hy,e1,e2⟩
   ·exact .inl h
   ·rcases List.mem_cons.mp hy with rfl | hy
    ·have e2:k=.free:=e2
     subst e2
     exact absurd rfl hk
    ·exact .inr ⟨y,hy,e1,e2⟩
theorem Q7{α:Type}{l:List (Str×α)}{x:Str}{c:α}(h:l.lookup x=some c):(x,c)∈l:=PySem.mem_of_lookup h
theorem Qeq{p:Str×Addr}:∀{names:List (Str×NameKind)}{n:Nat}{acc:List (Str×Addr)},p∈cellsFrom n names acc->p∈acc∨n<=p.2
 | [],_,_,h=>.inl h
 | (y,k)::r,n,acc,h=>by
  unfold cellsFrom at h
  split at h
  ·rcases Qeq h with h | h
   ·rcases List.mem_cons.mp h with h | h
    ·subst h;exact .inr (Nat.le_refl _)
    ·exact .inl h
   ·exact .inr (Nat.le_of_succ_le h)
  ·exact Qeq h
theorem QfU:∀{names:List (Str×NameKind)}{n:Nat}{acc:List (Str×Addr)},(∀ p∈acc,p.2<n)->(∀ p∈acc,∀ q∈acc,p.2=q.2->p.1=q.1)->∀ p∈cellsFrom n names acc,∀ q∈cellsFrom n names acc,p.2=q.2->p.1=q.1
 | [],_,_,_,h=>h
 | (y,k)::r,n,acc,hl,hi=>by
  unfold cellsFrom
  split
  ·refine QfU (fun p hp=>?_) fun p hp q hq e=>?_
   ·rcases List.mem_cons.mp hp with rfl | hp
    ·exact Nat.lt_succ_self _
    ·exact Nat.lt_succ_of_lt (hl p hp)
   ·rcases List.mem_cons.mp hp with rfl | hp<;>rcases List.mem_cons.mp hq with rfl | hq
    ·rfl
    ·exact absurd e (Nat.ne_of_gt (hl q hq))
    ·exact absurd e (Nat.ne_of_lt (hl p hp))
    ·exact hi p hp q hq e
  ·exact QfU hl hi
theorem Qe9:∀{names:List (Str×NameKind)}{h:Heap}{acc:List (Str×Addr)},(∀ p∈acc,∃ v,h.IsCell p.2 v)->∀ p∈cellsFrom h.objs.size names acc,∃ v,(pushCells h names).IsCell p.2 v
 | [],_,_,h=>h
 | (y,k)::r,h,acc,hc=>by
  unfold cellsFrom pushCells
  split
  ·have:=Qe9 (names:=r) (h:=h.push { cls:=.type "cell",data:=.cell none }) (acc:=(y,h.objs.size)::acc) fun p hp=>by
    rcases List.mem_cons.mp hp with rfl | hp
    ·exact⟨none,_,Heap.get?_push_size _ rfl,rfl⟩
    ·obtain⟨v,q⟩:=hc p hp
     exact⟨v,q.keeps fun b o e=>Heap.get?_push_of_some _ e⟩
   rwa [Heap.size_push]at this
  ·exact Qe9 hc
theorem Qe1{x:Str}:∀{names:List (Str×NameKind)}{n:Nat}{acc:List (Str×Addr)},(∀ y∈names,y.1=x->y.2=.free)->(cellsFrom n names acc).lookup x=acc.lookup x
 | [],_,_,_=>rfl
 | (y,k)::r,n,acc,h=>by
  unfold cellsFrom
  split
  ·rename_i hk
   rw[Qe1 fun z hz=>h z (List.mem_cons_of_mem _ hz),List.lookup_cons]
   split
   ·rename_i hb
    have hx:x=y:=beq_iff_eq.mp hb
    have:=h (y,k) List.mem_cons_self hx.symm
    have this:k=.free:=this
    subst this
    exact absurd hk (by decide)
   ·rfl
  ·exact Qe1 fun z hz=>h z (List.mem_cons_of_mem _ hz)
def QfP(scope:Scope)(cl:List (Str×Addr))(L:Addr)(env:Env):Env:=
 { scope:=Qbg scope env.scope,locals:=L,globals:=env.globals,cells:=cellsFrom (L+1) scope.names cl,qual:=env.qual,func:=none,code:=env.code,frame:=env.frame,builtins:=env.builtins }
theorem QlT{M:Model}{A:Around}{E:Value->Shared->Prop}{s:Shared}{scope:Scope}{cl:List (Str×Addr)}{env:Env}{Q:Env->Shared->Prop}
 (h:∀ c,{ c with scope:=relabel scope env }=QfP scope cl s.heap.objs.size env->c.locals=s.heap.objs.size->Q c { s with heap:=pushCells (s.heap.push { cls:=.type "dict",data:=.dict #[] }) scope.names }):
 wpAny M A (newFunctionEnv scope env.globals cl [] env.qual none .none (some env)) Q E s:=by
 simp only[newFunctionEnv,Option.isSome_some,if_true]
 refine wpAny_bind (wpAny_alloc ?_)
 refine wpAny_bind (wpAny_layCells _ (fun name kind cells=>by cases hkc:kind == NameKind.cell<;>simp[hkc]) _ _ _ _ ?_)
 rw[show({ s with heap:=s.heap.push { cls:=.type "dict",data:=.dict #[] } }:Shared).heap.objs.size=s.heap.objs.size+1 from Heap.size_push ..]
 refine wpAny_bind (wpAny_pure (wpAny_pure (h _ ?_ rfl)))
 rfl
def capt(js:List (Option Nat))(σ:St):St:=js.map fun j=>j.bind fun j=>(σ[j]?).join
structure Qbb(N':List Str)(js:List (Option Nat))(scope outer:Scope)(N:List Str):Prop where
 kind:scope.kind=.function
 uniq:∀ y∈scope.names,scope.names.lookup y.1=some y.2
 nd:N'.Nodup
 len:js.length=N'.length
 free:∀ y∈scope.names,y.2=.free->outer.names.lookup y.1=some .cell∨outer.names.lookup y.1=some .free
 cap:((N'.zip js).all fun p=>match p.2 with
  | none=>true
  | some j=>decide (N[j]?=some p.1)&&decide (scope.names.lookup p.1=some .free))=true
theorem Qbb.capOf{N':List Str}{js:List (Option Nat)}{scope outer:Scope}{N:List Str}(S:Qbb N' js scope outer N){i j:Nat}{x:Str}(h1:N'[i]?=some x)(h2:js[i]?=some (some j)):
 N[j]?=some x/\scope.names.lookup x=some .free/\∀ y∈scope.names,y.1=x->y.2=.free:=by
 have h:=List.all_eq_true.mp S.cap (x,some j) (by
  refine List.mem_of_getElem? (i:=i) ?_
  rw[List.getElem?_zip_eq_some]
  exact⟨h1,h2⟩)
 simp only[Bool.and_eq_true,decide_eq_true_eq]at h
 exact⟨h.1,h.2,fun y hy e=>by
  have:=S.uniq y hy
  rw[e,h.2]at this
  exact(Option.some.inj this).symm⟩
theorem Qbb.names{N':List Str}{js:List (Option Nat)}{scope outer:Scope}{N:List Str}(S:Qbb N' js scope outer N):∀ y∈scope.names,y.2=.local->scope.names.lookup y.1=some .local:=fun y hy e=>by
 rw[S.uniq y hy,e]
def cxC(X:Cx)(N':List Str)(scope:Scope)(fp:List Addr)(s:Shared)(H:Hp):Cx:=
 { X with N:=N',s₀:=s,H₀:=H,env:=QfP scope (QW X.env scope.names []) s.heap.objs.size X.env,outer:=X.stack,ex:=fp,
          fn:=fun x=>match scope.names.lookup x with | some .cell=>true | _=>false,pn:=[],xe:=fun _ _=>False }
theorem Qll{X:Cx}{N':List Str}{js:List (Option Nat)}{scope:Scope}{pins:List (Addr×Obj)}{σ:St}{H:Hp}{s:Shared}{fp:List Addr}(S:Qbb N' js scope X.env.scope X.N)(I:Inv X pins σ H s)(hf:∀ b∈fp,FpOk X pins H b)
 (hlt:∀ b∈fp,b<s.heap.objs.size):
 Inv (cxC X N' scope fp s H) [] (capt js σ) H { s with heap:=pushCells (s.heap.push { cls:=.type "dict",data:=.dict #[] }) scope.names }:=by
 have hk:∀ b o,s.heap.get? b=some o->(pushCells (s.heap.push { cls:=.type "dict",data:=.dict #[] }) scope.names).get? b=some o:=fun b o e=>pushCells_keeps _ _ b o (Heap.get?_push_of_some _ e)
 have sz:(s.heap.push { cls:=.type "dict",data:=.dict #[] }).objs.size=s.heap.objs.size+1:=Heap.size_push ..
 -- captured cells stand in the outer frame
 have out:∀ x,(∃ y∈scope.names,y.1=x/\y.2=.free)->∃ c,X.env.cells.lookup x=some c:=fun x ⟨y,hy,e1,e2⟩=>by
  subst e1
  exact I.ok.has y.1 (S.free y hy e2)
 have clm:∀ p∈QW X.env scope.names [],X.env.cells.lookup p.1=some p.2:=fun p hp=>by
  rcases Qb8 hp with h | ⟨h,hy⟩
  ·cases h
  ·obtain⟨c,hc⟩:=out p.1 hy
   rw[hc]at h ⊢
   rw[h];rfl
 have cllt:∀ p∈QW X.env scope.names [],p.2<s.heap.objs.size:=fun p hp=>by
  obtain⟨v,q⟩:=I.cell p.1 p.2 (clm p hp)
  exact q.lt
 have cin:∀ x c,(cellsFrom (s.heap.objs.size+1) scope.names (QW X.env scope.names [])).lookup x=some c->X.env.cells.lookup x=some c∨s.heap.objs.size+1<=c:=fun x c e=>by
  rcases Qeq (Q7 e) with h | h
  ·exact .inl (clm _ h)
  ·exact .inr h
 have capL:∀ x,scope.names.lookup x=some .free->(∀ y∈scope.names,y.1=x->y.2=.free)->(cellsFrom (s.heap.objs.size+1) scope.names (QW X.env scope.names [])).lookup x=X.env.cells.lookup x:=fun x hx hy=>by
  rw[Qe1 hy]
  have hs:=Qb4 (env:=X.env) (x:=x) (names:=scope.names) (acc:=[]) (.inr ⟨_,Q7 hx,rfl,rfl⟩)
  obtain⟨c,hc⟩:=Option.isSome_iff_exists.mp hs
  rw[hc,clm _ (Q7 hc)]
 refine⟨⟨I.ok.mod,S.kind,I.ok.glob,I.ok.blt,Nat.le_refl _,fun x y c h1 h2=>?_,fun x hx=>?_,fun x c hx h=>?_,I.ok.hd,I.ok.frames,.inl rfl,fun b hb=>?_,I.bs,Nat.le_trans I.ok.bsz I.sz,fun b o e hb=>?_,fun b hb hz=>?_,I.stack,I.stkFree⟩,
  rfl,I.bare,Un.kept hk,?_,fun x c h=>?_,I.hok.fresh (Nat.le_refl _),fun x c h=>?_,fun p hp=>absurd (show p∈([]:List (Addr×Obj)) from hp) (by simp),I.hok.kept hk,?_⟩
 ·refine QfU (names:=scope.names) (n:=s.heap.objs.size+1) (acc:=QW X.env scope.names []) (fun p hp=>Nat.lt_succ_of_lt (cllt p hp)) (fun p hp q hq e=>?_) (x,c) (Q7 h1) (y,c) (Q7 h2) rfl
  have a:=clm p hp
  have b:=clm q hq
  rw[← e]at b
  exact I.ok.inj _ _ _ a b
 ·have hx':=QfG (show(Qbg scope X.env.scope).names.lookup x=some .cell∨_ from hx)
  refine Option.isSome_iff_exists.mp (PySem.W.cellsFrom_some scope.names _ _ ?_)
  rcases hx' with h | h
  ·exact .inl h
  ·exact .inr (Qb4 (.inr ⟨_,Q7 h,rfl,rfl⟩))
 ·rcases Qeq (Q7 h) with hm | hm
  ·-- an own cell's name is captured too: its first entry is the own one
   have hx':scope.names.lookup x=some .cell:=by
    have hx2:(match scope.names.lookup x with | some .cell=>true | _=>false)=true:=hx
    split at hx2
    ·assumption
    ·cases hx2
   rcases Qb8 hm with q | ⟨_,y,hy,e1,e2⟩
   ·cases q
   ·have:=S.uniq y hy
    have e1:y.1=x:=e1
    rw[e1,hx',e2]at this
    cases this
  ·exact Nat.le_of_succ_le hm
 ·refine⟨Nat.ne_of_lt (hlt b hb),fun x c h e=>?_⟩
  rcases cin x c h with q | q
  ·exact(hf b hb).2.2.2.2.1 x c q e
  ·have:=hlt b hb
   rw[← e]at this
   exact absurd (Nat.lt_of_lt_of_le this (Nat.le_of_succ_le q)) (Nat.lt_irrefl _)
 ·rcases(hf b hb).2.2.2.1 with z | z
  ·exact I.ok.noex b o e z
  ·exact absurd (Nat.lt_of_lt_of_le (Heap.lt_size (I.ok.bs b o e).1) z) (Nat.lt_irrefl _)
 ·rcases List.mem_cons.mp (I.stkSub b hz) with e | e
  ·exact(hf b hb).2.1 e
  ·exact(hf b hb).2.2.1 e
 ·obtain⟨m,hn,hl⟩:=I.loc
  refine⟨fun _=>none,(Heap.Ns.new s.heap (.type "dict")).keeps (pushCells_keeps _ _),fun i x v h1 h2 h3=>?_⟩
  have h2':((js[i]?).map fun j=>j.bind fun j=>(σ[j]?).join)=some (some v):=by
   unfold capt at h2
   rw[List.getElem?_map]at h2
   exact h2
  cases e:js[i]? with
  | none=>rw[e]at h2';cases h2'
  | some o=>
   rw[e]at h2'
   cases o with
   | none=>cases h2'
   | some j=>
    have h4:(σ[j]?).join=some v:=Option.some.inj h2'
    have h5:σ[j]?=some (some v):=by
     cases z:σ[j]? with
     | none=>rw[z]at h4;cases h4
     | some o=>rw[z]at h4;have h4:o=some v:=h4;rw[h4]
    obtain⟨hN,hx,hy⟩:=S.capOf h1 e
    have hvis:=S.free _ (Q7 hx) rfl
    obtain⟨u,r,lk⟩:=hl j x v hN h5 (.inr hvis)
    refine⟨u,r,.inr ⟨Qfz hx,?_⟩⟩
    rcases lk with⟨k,_⟩ | ⟨_,c,hc,z⟩
    ·have k:X.env.scope.names.lookup x=some .local:=k
     rcases hvis with q | q
     ·rw[k]at q;cases q
     ·rw[k]at q;cases q
    ·exact⟨c,(capL x hx hy).trans hc,z.keeps hk⟩
 ·have:=Qe9 (names:=scope.names) (h:=s.heap.push { cls:=.type "dict",data:=.dict #[] }) (acc:=QW X.env scope.names []) (fun p hp=>by
   obtain⟨v,q⟩:=I.cell p.1 p.2 (clm p hp)
   exact⟨v,q.keeps fun b o e=>Heap.get?_push_of_some _ e⟩) (x,c) (by rw[sz];exact Q7 h)
  exact this
 ·rcases cin x c h with q | q
  ·exact I.freeC x c q
  ·exact I.hok.fresh (Nat.le_of_succ_le q)
 ·show(js.map _).length=N'.length
  rw[List.length_map];exact S.len
def eMax(X:Cx)(e:Expr):TE:=fun σ H Q=>∃ t,PE X e t/\t σ H Q
theorem QmT{X:Cx}{e:Expr}:PE X e (eMax X e):=fun pins s σ H Q I ⟨t,ht,h⟩=>ht pins s σ H Q I h
def gMax(X:Cx)(e:Expr):TG:=fun v σ H Q=>∃ t,PG X e t/\t v σ H Q
theorem QmV{X:Cx}{e:Expr}:PG X e (gMax X e):=fun pins s σ H v u Q I r ⟨t,ht,h⟩=>ht pins s σ H v u Q I r h
def PIf(X:Cx)(ifs:List Expr)(tc:TT):Prop:=(ifs=[]/\tc=fun _ H Q=>Q true H)∨∃ c,ifs=[c]/\PT X c tc
theorem QlD{X:Cx}:PIf X [] (fun _ H Q=>Q true H):=.inl ⟨rfl,rfl⟩
theorem PIf.run{X:Cx}{ifs:List Expr}{tc:TT}(h:PIf X ifs tc){pins:List (Addr×Obj)}{s:Shared}{σ:St}{H:Hp}{Q:Bool->Hp->Prop}(I:Inv X pins σ H s)(q:tc σ H Q):
 wpAny (model X.prog X.w) X.A (forIn ifs true fun c r=>if r=true then do let ok ← isTrue c X.env (eval c X.env);pure (ForInStep.yield ok) else pure (ForInStep.yield r)) (TP X pins σ Q) X.xe s:=by
 rcases h with⟨rfl,rfl⟩ | ⟨c,rfl,h⟩
 ·exact wpAny_tests_nil ⟨H,I,q⟩
 ·exact wpAny_tests_one (h pins s σ H Q I q)
def cMax(X:Cx)(ifs:List Expr):TT:=fun σ H Q=>∃ t,PIf X ifs t/\t σ H Q
def CompW(X':Cx)(js:List (Option Nat))(tg elt:Expr)(ifs:List Expr)(σ:St)(H1:Hp)(J:It)(p:Addr)(Q:VK):Prop:=
 ∃ W:Nat->Nat->St->Hp->Prop,(∃ m,W 0 m (capt js σ) (upd H1 p (.lst [])))/\∀ i m τ H',W i m τ H'->
 (J.stop i H'/\Q (.ref p) H')∨(J.go i H'/\∃ N:St->Hp->Prop,(∀ τ' H'',N τ' H''->∃ m',m'<m/\W (i+1) m' τ' H'')/\∀ x H'',J.yld i H' x H''->gMax X' tg x τ H'' fun τ2 H2=>cMax X' ifs τ2 H2 fun b H3=>
  if b=true then eMax X' elt τ2 H3 fun y H4=>∃ ys,H4 p=some (.lst ys)/\ys.length<sizeLine/\N τ2 (upd H4 p (.lst (ys++[y]))) else N τ2 H3)
def tComp(X:Cx)(N':List Str)(js:List (Option Nat))(scope:Scope)(tg elt:Expr)(ifs:List Expr)(wi:TI):TE:=fun σ H Q=>wi σ H fun J H1=>∀ p,H1 p=none->∀ fp s,
 CompW (cxC X N' scope fp s (upd H1 p (.lst []))) js tg elt ifs σ H1 J p Q
section
variable{X:Cx}{N':List Str}{js:List (Option Nat)}{scope:Scope}{tg iter elt:Expr}{ifs:List Expr}{wi:TI}{pos:Pos}
theorem Qil{pins:List (Addr×Obj)}{σ:St}{H:Hp}{s:Shared}{R:V->Hp->Prop}{E:Value->Shared->Prop}(hc:X.calm=true)(S:Qbb N' js scope X.env.scope X.N)
 {it:Addr} {fp:List Addr} {tn:Nat->Heap->Prop} {J:It} (I2:Inv X pins σ H s) (T:Turn X.prog X.w X.K tg J fp it tn) (st:tn 0 s.heap) (hf:∀ b∈fp,FpOk X pins H b)
 (hW:∀ p,H p=none->∀ fp s,CompW (cxC X N' scope fp s (upd H p (.lst []))) js tg elt ifs σ H J p R)
 {RR:Value->Addr->Result->Shared->Prop}
 (hRR:∀(D C:Addr)(s':Shared)(H':Hp),Inv X pins σ H' s'->(∃ m,s'.heap.Ns C m)->H' C=none->C≠X.env.locals->X.s₀.heap.objs.size<=C->(∀ x c,X.env.cells.lookup x=some c->c≠C)->(∀ p∈X.pn++pins,p.1≠C)->R (.ref D) H'->RR (.ref D) C (.ok .next) s'):
 wpAny (model X.prog X.w) X.A (newList []) (fun acc s₃ => wpAny (model X.prog X.w) X.A (newFunctionEnv scope X.env.globals (QW X.env scope.names []) [] X.env.qual none .none (some X.env)) (fun cenv s₄ =>
  codeAny (model X.prog X.w) X.A (.compStart (.ListComp elt [⟨tg,iter,ifs,0⟩] scope pos) 0 (.ref it) acc { cenv with scope:=relabel scope X.env }) (RR acc cenv.locals) s₄) E s₃) E s:=by
 refine wpAny_newObj_type ?_
 have hfresh:H s.heap.objs.size=none:=I2.hok.fresh (Nat.le_refl _)
 have I3:Inv X pins σ (upd H s.heap.objs.size (.lst [])) { s with heap:=s.heap.push { cls:=.type "list",data:=.seq ([]:List Value).toArray } }:=I2.lnew (t':=s.toks) .nil (Nat.zero_le _)
 generalize hs3:({ s with heap:=s.heap.push { cls:=.type "list",data:=.seq ([]:List Value).toArray } }:Shared)=s3 at I3 ⊢
 have hsz3:s3.heap.objs.size=s.heap.objs.size+1:=by rw[← hs3];exact Heap.size_push ..
 have hk3:∀ b o,s.heap.get? b=some o->s3.heap.get? b=some o:=fun b o e=>by rw[← hs3];exact Heap.get?_push_of_some _ e
 have flt:∀ b∈fp,b<s.heap.objs.size:=fun b hb=>by
  obtain⟨o,e,_⟩:=T.obj _ _ st b hb
  exact Heap.lt_size e
 have hf3:∀ b∈fp,FpOk X pins (upd H s.heap.objs.size (.lst [])) b:=fun b hb=>⟨by rw[Qg (Nat.ne_of_lt (flt b hb))];exact(hf b hb).1,(hf b hb).2⟩
 have st3:tn 0 s3.heap:=T.keep _ _ _ st fun b _ o e=>hk3 b o e
 refine QlT fun cenv ecenv el=>?_
 rw[ecenv,el]
 have I4:=Qll (fp:=fp) S I3 hf3 fun b hb=>by rw[hsz3];exact Nat.lt_succ_of_lt (flt b hb)
 obtain⟨W,⟨m0,w0⟩,turn⟩:=hW _ hfresh fp s3
 generalize hX':cxC X N' scope fp s3 (upd H s.heap.objs.size (.lst []))=X' at I4 turn
 generalize hs4:({ s3 with heap:=pushCells (s3.heap.push { cls:=.type "dict",data:=.dict #[] }) scope.names }:Shared)=s4 at I4 ⊢
 have eenv:QfP scope (QW X.env scope.names []) s3.heap.objs.size X.env=X'.env:=by rw[← hX'];rfl
 have eprog:X'.prog=X.prog:=by rw[← hX'];rfl
 have ew:X'.w=X.w:=by rw[← hX'];rfl
 have eK:X'.K=X.K:=by rw[← hX'];rfl
 have eA:X'.A=X.A:=by rw[← hX'];rfl
 have ecalm:X'.calm=true:=by rw[← hX'];exact hc
 have exe:∀ e s',X'.xe e s'->False:=fun e s' h=>by rw[← hX']at h;exact h
 have eex:X'.ex=fp:=by rw[← hX'];rfl
 have efs:X'.fs=frs X.stack:=by rw[← hX'];rfl
 have epn:X'.pn=[]:=by rw[← hX'];rfl
 have es0:X'.s₀=s3:=by rw[← hX'];rfl
 have eH0:X'.H₀=upd H s.heap.objs.size (.lst []):=by rw[← hX'];rfl
 have eloc:X'.env.locals=s3.heap.objs.size:=by rw[← eenv];rfl
 rw[eenv]
 have st4:tn 0 s4.heap:=T.keep _ _ _ st3 fun b _ o e=>by rw[← hs4];exact pushCells_keeps _ _ b o (Heap.get?_push_of_some _ e)
 -- the iterator's objects,seen from the block
 have fpok:∀{H':Hp},(∀ b∈fp,H' b=none)->∀ b∈fp,FpOk X' [] H' b:=fun {H'} hn b hb=>by
  obtain⟨h1,h2⟩:=I4.ok.exf b (by rw[eex];exact hb)
  exact⟨hn b hb,h1,fun z=>I4.ok.exfs b (by rw[eex];exact hb) z,.inl (by rw[eex];exact hb),h2,fun p hp=>by rw[epn]at hp;cases hp⟩
 have loop:∀ s5,s5=s4->codeAny (model X.prog X.w) X.A (.compLoop (.ListComp elt [⟨tg,iter,ifs,0⟩] scope pos) 0 (.ref it) (.ref s.heap.objs.size) X'.env) (RR (.ref s.heap.objs.size) s3.heap.objs.size) s5:=by
  rintro s5 rfl
  refine Qf9 (fun n s'=>∃ i τ H',Inv X' [] τ H' s'/\tn i s'.heap/\(∀ b∈fp,H' b=none)/\W i n τ H') (fun _ _=>False) (fun _ _ h=>h.elim) ?_ m0 ⟨0,_,_,I4,st4,fun b hb=>(hf3 b hb).1,w0⟩
  rintro n s6 ⟨i,τ,H6,I6,st6,fr6,w6⟩
  have A1:∀{α:Type}{t:Sem α}{Q:α->Shared->Prop}{s:Shared},wpAny (model X'.prog X'.w) X'.A t Q X'.xe s->wpAny (model X.prog X.w) X.A t Q (fun _ _=>False) s:=fun {α t Q s} h=>by
   rw[eprog,ew,eA]at h
   exact wpAny_mono h (fun _ _ q=>q) exe
  rcases turn i n τ H6 w6 with⟨stop,qn⟩ | ⟨go,N,hN,step⟩
  ·have h7:=T.done X' eprog ew eK ecalm i [] s6 τ H6 (fun _ _=>False) I6 (fpok fr6) st6 stop
   rw[eA]at h7
   refine thn h7 fun r s7 ⟨hr,I7⟩=>?_
   subst hr
   -- back to the frame around
   have un:=I7.base
   rw[es0,eH0,efs,eex]at un
   have Iout:Inv X pins σ H6 s7:=I3.call' (ch:=fp) (by rw[I7.os,es0]) un (by have:=I7.hok;rw[eprog,ew]at this;exact this) I7.bare fun b hb=>by
    obtain⟨f0,f1,f2,f3,f4,f5⟩:=hf3 b hb
    exact⟨f3,f1,f4,f5⟩
   refine hRR _ _ s7 H6 Iout ?_ ?_ ?_ ?_ ?_ ?_ qn
   ·obtain⟨m,hn,_⟩:=I7.loc
    rw[eloc]at hn
    exact⟨m,hn⟩
   ·have:=I7.free
    rw[eloc]at this
    exact this
   ·exact Nat.ne_of_gt I3.lt
   ·exact I3.sz
   ·intro x c e z
    obtain⟨v,q⟩:=I3.cell x c e
    exact absurd q.lt (by rw[z];exact Nat.lt_irrefl _)
   ·intro p hp z
    exact absurd (Heap.lt_size (I3.pin p hp).1) (by rw[z];exact Nat.lt_irrefl _)
  ·have h6:=T.item X' eprog ew eK ecalm i [] s6 τ H6 (fun _ _=>False) I6 (fpok fr6) st6 go
   rw[eA]at h6
   refine thn h6 fun r s7 ⟨u,hr,h7⟩=>?_
   subst hr
   refine thn h7 fun _ s8 ⟨x,H8,I8,r8,y8,st8,fr8⟩=>?_
   have I8':=I8.pinned (fpok fr8) (T.obj _ _ st8)
   refine thn (A1 (QmV _ s8 τ H8 x u _ I8' r8 (step x H8 y8))) fun _ s9 ⟨τ9,H9,I9,q9⟩=>?_
   obtain⟨tcc,hif,q9⟩:=q9
   refine thn (A1 (hif.run I9 q9)) fun ok s10 ⟨H10,I10,q10⟩=>?_
   have again:∀{τ':St}{H':Hp}{s':Shared},Inv X' ([]++Qdw fp s8.heap) τ' H' s'->N τ' H'->∃ m,m<n/\∃ i τ H',Inv X' [] τ H' s'/\tn i s'.heap/\(∀ b∈fp,H' b=none)/\W i m τ H':=fun {τ' H' s'} I' n'=>by
    obtain⟨m',hm,w'⟩:=hN τ' H' n'
    refine⟨m',hm,i+1,τ',H',I'.unpinned,T.keep _ _ _ st8 fun b hb o e=>(I'.pin (b,o) (List.mem_append_right _ (List.mem_append_right _ (QbY hb e)))).1,fun b hb=>?_,w'⟩
    obtain⟨o,e,d⟩:=T.obj _ _ st8 b hb
    exact(I'.pin (b,o) (List.mem_append_right _ (List.mem_append_right _ (QbY hb e)))).2.1
   cases ok with
   | false=>
    rw[if_neg Bool.false_ne_true]at q10 ⊢
    exact again I10 q10
   | true=>
    rw[if_pos rfl]at q10 ⊢
    refine thn (A1 (QmT _ s10 τ9 H10 _ I10 q10)) fun y s11 ⟨yv,H11,I11,r11,ys,hp11,hz,n11⟩=>?_
    refine thn (A1 (QjJ _ s11 τ9 H11 (.ref s.heap.objs.size) [yv] (.ref s.heap.objs.size) [y] (fun _ H'=>N τ9 H') I11 rfl (.cons r11 .nil) ⟨_,ys,yv,rfl,rfl,hp11,hz,n11⟩)) fun _ s12 ⟨v12,H12,I12,_,n12⟩=>?_
    exact again I12 n12
 exact codeAny_compStart_list (loop _ rfl) (T.self _ 0 _ _ _ st4 (loop _ rfl))
theorem QlN(hc:X.calm=true)(S:Qbb N' js scope X.env.scope X.N)(hi:PI X tg iter wi)
 (hs:∀ x,foldedSetIterable iter X.env x=pure x:=by intro _;rfl):PE X (.ListComp elt [⟨tg,iter,ifs,0⟩] scope pos) (tComp X N' js scope tg elt ifs wi):=by
 intro pins s σ H Q I h
 rw[eval_ListComp]
 have hcl:closureFor scope X.env=pure (QW X.env scope.names []):=QiU fun y hy e=>by
  obtain⟨c,hc⟩:=I.ok.has y.1 (S.free y hy e)
  rw[hc];rfl
 refine wpAny_comprehension_free (use:=none) rfl hs hcl S.kind S.names (thn (hi pins s σ H _ I h) fun v s1 h1=>thn h1 fun itv s2 h2=>?_)
 obtain⟨it,fp,tn,J,H2,e,I2,T,st2,f2,hW⟩:=h2
 subst e
 refine Qil (R:=Q) (RR:=fun acc C=>compPost (model X.prog X.w) X.A X.xe none (EP X pins σ Q) acc C) hc S I2 T st2 f2 hW ?_
 intro D C s' H' I' ⟨m,hn⟩ hC h1 h2 h3 h4 q
 refine⟨m,hn,fun h' hsb=>⟨.ref D,H',?_,rfl,q⟩⟩
 exact I'.turned (t':=s'.toks) (fun b o hb e=>(hsb.2 b hb).trans e) hC (Ne.symm (Ne.symm h1)) (.inr h2) h3 h4
end
end L2
namespace DL
open PySem PySem.Spec PyProof.Rows L2
inductive D where
 | non | bl (b:Bool) | int (i:Int) | str (x:Str)
 | lst (xs:List D) | tup (xs:List D) | dic (kvs:List (Key×D)) | ins (c:Str) (fs:List (Str×D)) | err (c:Str)
instance:Inhabited D:=⟨.non⟩
abbrev CTab:=Str->Option Addr
section
variable(K:PySem.W.Frag)(CT:CTab)(H:Hp)
mutual
def Rep:D->V->Prop
 | .non,v=>v=.non
 | .bl b,v=>v=.bl b
 | .int i,v=>v=.int i
 | .str x,v=>v=.str x
 | .lst ds,v=>∃ a vs,v=.ref a/\SqL K H a vs/\RepL ds vs
 | .tup ds,v=>∃ a vs,v=.ref a/\SqT K H a vs/\RepL ds vs
 | .dic kds,v=>∃ a kvs,v=.ref a/\Rd H a (.dK kvs)/\RepK kds kvs
 | .ins c fds,v=>∃ a C dx fs,v=.ref a/\CT c=some C/\H a=some (.ins C dx fs)/\RepF fds fs
 | .err c,v=>∃ a C,v=.ref a/\CT c=some C/\H a=some (exO a C)
def RepL:List D->List V->Prop
 | [],vs=>vs=[]
 | d::ds,vs=>∃ v r,vs=v::r/\Rep d v/\RepL ds r
def RepK:List (Key×D)->List (Key×V)->Prop
 | [],kvs=>kvs=[]
 | (k,d)::ds,kvs=>∃ v r,kvs=(k,v)::r/\Rep d v/\RepK ds r
def RepF:List (Str×D)->List (Str×V)->Prop
 | [],kvs=>kvs=[]
 | (k,d)::ds,kvs=>∃ v r,kvs=(k,v)::r/\Rep d v/\RepF ds r
end
end
section
variable{K:PySem.W.Frag}{CT:CTab}{H H':Hp}
theorem Same.sqT{a:Addr}{xs:List V}(e:Same H H')(h:SqT K H a xs):SqT K H' a xs:=by
 rcases h with(h | ⟨o,h⟩) | h
 ·exact .inl (.inl (e _ _ h))
 ·exact .inl (.inr ⟨o,e _ _ h⟩)
 ·exact .inr h
theorem Same.rd{a:Addr}{u:HO}(e:Same H H')(h:Rd H a u):Rd H' a u:=by
 rcases h with h | ⟨o,h⟩
 ·exact .inl (e _ _ h)
 ·exact .inr ⟨o,e _ _ h⟩
mutual
theorem Rep.mono(e:Same H H'):∀(d:D)(v:V),Rep K CT H d v->Rep K CT H' d v
 | .non,_,h=>h
 | .bl _,_,h=>h
 | .int _,_,h=>h
 | .str _,_,h=>h
 | .lst ds,_,⟨a,vs,h1,h2,h3⟩=>⟨a,vs,h1,e.seq h2,RepL.mono e ds vs h3⟩
 | .tup ds,_,⟨a,vs,h1,h2,h3⟩=>⟨a,vs,h1,Same.sqT e h2,RepL.mono e ds vs h3⟩
 | .dic ds,_,⟨a,vs,h1,h2,h3⟩=>⟨a,vs,h1,Same.rd e h2,RepK.mono e ds vs h3⟩
 | .ins c ds,_,⟨a,C,dx,fs,h1,h2,h3,h4⟩=>⟨a,C,dx,fs,h1,h2,e _ _ h3,RepF.mono e ds fs h4⟩
 | .err c,_,⟨a,C,h1,h2,h3⟩=>⟨a,C,h1,h2,e _ _ h3⟩
theorem RepL.mono(e:Same H H'):∀(ds:List D)(vs:List V),RepL K CT H ds vs->RepL K CT H' ds vs
 | [],_,h=>h
 | d::ds,_,⟨v,r,h1,h2,h3⟩=>⟨v,r,h1,Rep.mono e d v h2,RepL.mono e ds r h3⟩
theorem RepK.mono(e:Same H H'):∀(ds:List (Key×D))(vs:List (Key×V)),RepK K CT H ds vs->RepK K CT H' ds vs
 | [],_,h=>h
 | (k,d)::ds,_,⟨v,r,h1,h2,h3⟩=>⟨v,r,h1,Rep.mono e d v h2,RepK.mono e ds r h3⟩
theorem RepF.mono(e:Same H H'):∀(ds:List (Str×D))(vs:List (Str×V)),RepF K CT H ds vs->RepF K CT H' ds vs
 | [],_,h=>h
 | (k,d)::ds,_,⟨v,r,h1,h2,h3⟩=>⟨v,r,h1,Rep.mono e d v h2,RepF.mono e ds r h3⟩
end
theorem RepL.length:∀{ds:List D}{vs:List V},RepL K CT H ds vs->ds.length=vs.length
 | [],_,h=>by cases h;rfl
 | d::ds,_,⟨v,r,h1,h2,h3⟩=>by subst h1;simp[RepL.length h3]
theorem RepL.get:∀{ds:List D}{vs:List V}{i:Nat}{d:D},RepL K CT H ds vs->ds[i]?=some d->∃ v,vs[i]?=some v/\Rep K CT H d v
 | [],_,_,_,_,e=>by simp at e
 | d::ds,_,0,_,⟨v,r,h1,h2,h3⟩,e=>by subst h1;simp at e;subst e;exact⟨v,rfl,h2⟩
 | d::ds,_,i+1,x,⟨v,r,h1,h2,h3⟩,e=>by
  subst h1
  obtain⟨u,a,b⟩:=RepL.get (i:=i) (d:=x) h3 (by simpa using e)
  exact⟨u,by simpa using a,b⟩
theorem RepL.append:∀{ds es:List D}{vs us:List V},RepL K CT H ds vs->RepL K CT H es us->RepL K CT H (ds++es) (vs++us)
 | [],_,_,_,h,k=>by cases h;exact k
 | d::ds,_,_,_,⟨v,r,h1,h2,h3⟩,k=>by subst h1;exact⟨v,_,rfl,h2,RepL.append h3 k⟩
theorem RepL.take:∀(n:Nat){ds:List D}{vs:List V},RepL K CT H ds vs->RepL K CT H (ds.take n) (vs.take n)
 | 0,_,_,_=>by simp[RepL]
 | n+1,[],_,h=>by cases h;simp[RepL]
 | n+1,d::ds,_,⟨v,r,h1,h2,h3⟩=>by subst h1;exact⟨v,_,rfl,h2,RepL.take n h3⟩
theorem RepL.drop:∀(n:Nat){ds:List D}{vs:List V},RepL K CT H ds vs->RepL K CT H (ds.drop n) (vs.drop n)
 | 0,_,_,h=>h
 | n+1,[],_,h=>by cases h;simp[RepL]
 | n+1,d::ds,_,⟨v,r,h1,h2,h3⟩=>by subst h1;exact RepL.drop n h3
theorem RepL.set{d:D}{v:V}(q:Rep K CT H d v):∀(i:Nat){ds:List D}{vs:List V},RepL K CT H ds vs->RepL K CT H (ds.set i d) (vs.set i v)
 | _,[],_,h=>by cases h;simp[RepL]
 | 0,_::ds,_,⟨w,r,h1,h2,h3⟩=>by subst h1;exact⟨v,r,rfl,q,h3⟩
 | i+1,e::ds,_,⟨w,r,h1,h2,h3⟩=>by subst h1;exact⟨w,_,rfl,h2,RepL.set q i h3⟩
theorem RepL.one{d:D}{v:V}(h:Rep K CT H d v):RepL K CT H [d] [v]:=⟨v,[],rfl,h,rfl⟩
theorem RepL.map_int:∀(ns:List Int),RepL K CT H (ns.map D.int) (ns.map V.int)
 | []=>rfl
 | n::ns=>⟨_,_,rfl,rfl,RepL.map_int ns⟩
end
inductive Out(α:Type) where
 | ok (a:α) | exc (x:D) | stuck
namespace Out
def bind{α β:Type}:Out α->(α->Out β)->Out β
 | .ok a,f=>f a
 | .exc x,_=>.exc x
 | .stuck,_=>.stuck
instance:Monad Out where
 pure:=.ok
 bind:=bind
def post{α:Type}(o:Out α)(k:α->Prop)(x:D->Prop):Prop:=match o with
 | .ok a=>k a
 | .exc e=>x e
 | .stuck=>False
@[simp] theorem bind_ok{α β:Type}(a:α)(f:α->Out β):(Out.ok a>>=f)=f a:=rfl
@[simp] theorem bind_exc{α β:Type}(x:D)(f:α->Out β):((Out.exc x:Out α)>>=f)=.exc x:=rfl
@[simp] theorem bind_stuck{α β:Type}(f:α->Out β):((Out.stuck:Out α)>>=f)=.stuck:=rfl
@[simp] theorem QnD{α β:Type}(a:α)(f:α->Out β):(Out.ok a).bind f=f a:=rfl
@[simp] theorem QnC{α β:Type}(x:D)(f:α->Out β):(Out.exc x:Out α).bind f=.exc x:=rfl
@[simp] theorem Qnu{α β:Type}(f:α->Out β):(Out.stuck:Out α).bind f=.stuck:=rfl
@[simp] theorem pure_eq{α:Type}(a:α):(pure a:Out α)=.ok a:=rfl
theorem post_bind{α β:Type}(o:Out α)(f:α->Out β)(k:β->Prop)(x:D->Prop):(o>>=f).post k x↔o.post (fun a=>(f a).post k x) x:=by
 cases o<;>exact Iff.rfl
theorem post_mono{α:Type}{o:Out α}{k k':α->Prop}{x:D->Prop}(h:o.post k x)(hk:∀ a,k a->k' a):o.post k' x:=by
 cases o with
 | ok a=>exact hk a h
 | exc e=>exact h
 | stuck=>exact h
end Out
end DL
namespace DL
open PySem PySem.Spec PyProof.Rows L2
abbrev St:=L2.St
inductive SM where
 | k | o | l | s
abbrev SD:=List (Option (SM×D))
structure Dc where
 X:Cx
 CT:CTab
 G0:Hp
 XD:D->Prop
 /-- what is lent -/
 B:Hp
 /-- what of the entry's objects may be written -/
 M:Addr->Prop
 /-- which address a written slot holds -/
 W:Nat->Option Addr:=fun _=>none
 /-- what was there at the entry,and what is kept besides -/
 H0:Hp:=X.H₀
abbrev Dc.K(C:Dc):PySem.W.Frag:=C.X.K
def Own(K:PySem.W.Frag)(CT:CTab)(G H:Hp)(p:Addr):D->Prop
 | .lst ds=>∃ vs,H p=some (.lst vs)/\RepL K CT G ds vs
 | .dic ds=>∃ kvs,H p=some (.dK kvs)/\RepK K CT G ds kvs
 | .ins c ds=>∃ A dx fs,CT c=some A/\H p=some (.ins A dx fs)/\RepF K CT G ds fs
 | _=>False
theorem Own.there{K:PySem.W.Frag}{CT:CTab}{G H:Hp}{p:Addr}:∀{d:D},Own K CT G H p d->∃ o,H p=some o
 | .lst _,⟨_,h,_⟩=>⟨_,h⟩
 | .dic _,⟨_,h,_⟩=>⟨_,h⟩
 | .ins _ _,⟨_,_,_,_,h,_⟩=>⟨_,h⟩
 | .non,h=>h.elim
 | .bl _,h=>h.elim
 | .int _,h=>h.elim
 | .str _,h=>h.elim
 | .tup _,h=>h.elim
theorem Own.mono{K:PySem.W.Frag}{CT:CTab}{G G' H H':Hp}{p:Addr}(g:Same G G')(h:∀ o,H p=some o->H' p=some o):∀{d:D},Own K CT G H p d->Own K CT G' H' p d
 | .lst ds,⟨vs,a,b⟩=>⟨vs,h _ a,RepL.mono g ds vs b⟩
 | .dic ds,⟨vs,a,b⟩=>⟨vs,h _ a,RepK.mono g ds vs b⟩
 | .ins _ ds,⟨A,dx,fs,e,a,b⟩=>⟨A,dx,fs,e,h _ a,RepF.mono g ds fs b⟩
 | .non,h=>h.elim
 | .bl _,h=>h.elim
 | .int _,h=>h.elim
 | .str _,h=>h.elim
 | .tup _,h=>h.elim
theorem Own.rep{K:PySem.W.Frag}{CT:CTab}{G H:Hp}{p:Addr}(g:Same G H):∀{d:D},Own K CT G H p d->Rep K CT H d (.ref p)
 | .lst ds,⟨vs,a,b⟩=>⟨p,vs,rfl,SqL.of a,RepL.mono g ds vs b⟩
 | .dic ds,⟨vs,a,b⟩=>⟨p,vs,rfl,Rd.of a,RepK.mono g ds vs b⟩
 | .ins _ ds,⟨A,dx,fs,e,a,b⟩=>⟨p,A,dx,fs,rfl,e,a,RepF.mono g ds fs b⟩
 | .non,h=>h.elim
 | .bl _,h=>h.elim
 | .int _,h=>h.elim
 | .str _,h=>h.elim
 | .tup _,h=>h.elim
structure GH(C:Dc)(G H:Hp):Prop where
 sub:Same G H
 g0:Same C.G0 G
 new:∀ b,C.G0 b=none->G b≠none->C.H0 b=none
 fr:∀ b o,C.H0 b=some o->¬ C.M b->H b=some o
 dom:∀ b,H b=none->C.H0 b=none
 bs:Same C.B H
 bh:∀ b,C.H0 b=none->C.B b=none
structure StR(C:Dc)(G H:Hp)(σ:St)(ς:SD):Prop extends GH C G H where
 len:σ.length=ς.length
 fz:∀(i:Nat) d,ς[i]?=some (some (.k,d))->∃ v,σ[i]?=some (some v)/\Rep C.X.K C.CT G d v
 ow:∀(i:Nat) d,ς[i]?=some (some (.o,d))->∃ p,σ[i]?=some (some (.ref p))/\G p=none/\C.H0 p=none/\Own C.X.K C.CT G H p d
 ln:∀(i:Nat) d,ς[i]?=some (some (.l,d))->∃ v,σ[i]?=some (some v)/\Rep C.X.K C.CT C.B d v/\∀ p,C.W i=some p->v=.ref p
 inj:∀(i j:Nat) d e p,i≠j->ς[i]?=some (some (.o,d))->ς[j]?=some (some (.o,e))->σ[i]?=some (some (.ref p))->σ[j]?≠some (some (.ref p))
 sf:∀(i:Nat) d,ς[i]?=some (some (.s,d))->∃ p,σ[i]?=some (some (.ref p))/\G p=none/\C.H0 p≠none/\(C.M p/\C.W i=some p)/\C.B p=none/\Own C.X.K C.CT G H p d
 su:∀(i j:Nat) d e p,i≠j->ς[i]?=some (some (.s,d))->ς[j]?=some (some (.s,e))->σ[i]?=some (some (.ref p))->σ[j]?≠some (some (.ref p))
section
variable{C:Dc}{G G' H H':Hp}{σ:St}{ς:SD}
theorem GH.gnone(S:GH C G H){p:Addr}(h:H p=none):G p=none:=S.sub.free h
theorem GH.h0none(S:GH C G H){p:Addr}(h:H p=none):C.H0 p=none:=S.dom p h
theorem Qj{H:Hp}{p:Addr}{o:HO}(h:H p=none):Same H (upd H p o):=fun b u e=>by
 rw[Qg (QB e h)];exact e
theorem QdN{G H:Hp}{p:Addr}{o:HO}(s:Same G H):Same (upd G p o) (upd H p o):=fun b u e=>by
 by_cases hb:b=p
 ·subst hb;rw[QG]at e ⊢;exact e
 ·rw[Qg hb]at e ⊢;exact s b u e
theorem GH.grow(S:GH C G H)(hH:Same H H')(hG:Same G G')(hs:Same G' H')(hn:∀ b,G b=none->G' b≠none->H b=none):GH C G' H' where
 sub:=hs
 g0:=S.g0.trans hG
 new:=fun b h0 h1=>by
  cases q:G b with
  | none=>exact S.h0none (hn b q h1)
  | some o=>exact S.new b h0 (by rw[q];simp)
 fr:=fun b o e m=>hH b o (S.fr b o e m)
 dom:=fun b e=>S.dom b (hH.free e)
 bs:=S.bs.trans hH
 bh:=S.bh
theorem StR.own_ne(S:StR C G H σ ς){i:Nat}{d:D}{p:Addr}(h:ς[i]?=some (some (.o,d)))(hp:σ[i]?=some (some (.ref p))):∃ o,H p=some o:=by
 obtain⟨q,e,_,_,o⟩:=S.ow i d h
 rw[hp]at e;cases e
 exact o.there
theorem StR.grow(S:StR C G H σ ς)(hH:Same H H')(hG:Same G G')(hs:Same G' H')(hn:∀ b,G b=none->G' b≠none->H b=none):StR C G' H' σ ς where
 toGH:=S.toGH.grow hH hG hs hn
 len:=S.len
 fz:=fun i d e=>let ⟨v,a,b⟩:=S.fz i d e;⟨v,a,Rep.mono hG d v b⟩
 ow:=fun i d e=>by
  obtain⟨p,a,b,c,o⟩:=S.ow i d e
  refine⟨p,a,?_,c,o.mono hG fun u q=>hH _ _ q⟩
  cases q:G' p with
  | none=>rfl
  | some u=>
   obtain⟨w,hw⟩:=o.there
   have:=hn p b (by rw[q];simp)
   rw[hw]at this;cases this
 ln:=S.ln
 inj:=S.inj
 sf:=fun i d e=>by
  obtain⟨p,a,b,c,m,z,o⟩:=S.sf i d e
  refine⟨p,a,?_,c,m,z,o.mono hG fun u q=>hH _ _ q⟩
  cases q:G' p with
  | none=>rfl
  | some u=>
   obtain⟨w,hw⟩:=o.there
   have:=hn p b (by rw[q];simp)
   rw[hw]at this;cases this
 su:=S.su
theorem StR.alloc(S:StR C G H σ ς){p:Addr}{o:HO}(h:H p=none):StR C (upd G p o) (upd H p o) σ ς:=
 S.grow (Qj h) (Qj (S.sub.free h)) (QdN S.sub) fun b g n=>by
  by_cases hb:b=p
  ·subst hb;exact h
  ·rw[Qg hb,g]at n;exact absurd rfl n
theorem StR.allocO(S:StR C G H σ ς){p:Addr}{o:HO}(h:H p=none):StR C G (upd H p o) σ ς:=
 S.grow (Qj h) (Same.refl G) (S.sub.trans (Qj h)) fun b g n=>absurd g n
end
def KD(C:Dc)(G H:Hp)(σ:St)(ς:SD)(Q:VK)(d:D):Prop:=∀ v H' G',StR C G' H' σ ς->Same H H'->Same G G'->Rep C.X.K C.CT G' d v->Q v H'
def KB(C:Dc)(G H:Hp)(σ:St)(ς:SD)(Q:VK)(d:D):Prop:=∀ v H' G',StR C G' H' σ ς->Same H H'->Same G G'->Rep C.X.K C.CT H' d v->Q v H'
def KF(C:Dc)(G H:Hp)(σ:St)(ς:SD)(Q:VK)(d:D):Prop:=∀ p H' G',StR C G' H' σ ς->Same H H'->Same G G'->H p=none->G' p=none->Own C.X.K C.CT G' H' p d->Q (.ref p) H'
def DE(C:Dc)(e:Expr)(E:SD->Out D):Prop:=∃ t,PE C.X e t/\∀ G H σ ς Q,StR C G H σ ς->(E ς).post (KD C G H σ ς Q) C.XD->t σ H Q
def DB(C:Dc)(e:Expr)(E:SD->Out D):Prop:=∃ t,PE C.X e t/\∀ G H σ ς Q,StR C G H σ ς->(E ς).post (KB C G H σ ς Q) C.XD->t σ H Q
def DF(C:Dc)(e:Expr)(E:SD->Out D):Prop:=∃ t,PE C.X e t/\∀ G H σ ς Q,StR C G H σ ς->(E ς).post (KF C G H σ ς Q) C.XD->t σ H Q
def KT(C:Dc)(G H:Hp)(σ:St)(ς:SD)(Q:Bool->Hp->Prop)(b:Bool):Prop:=∀ H' G',StR C G' H' σ ς->Same H H'->Same G G'->Q b H'
def DT(C:Dc)(e:Expr)(T:SD->Out Bool):Prop:=∃ t,PT C.X e t/\∀ G H σ ς Q,StR C G H σ ς->(T ς).post (KT C G H σ ς Q) C.XD->t σ H Q
def DW(C:Dc)(e:Expr)(T:SD->Out Bool):Prop:=∃ t,PW C.X e t/\∀ G H σ ς Q,StR C G H σ ς->(T ς).post (KT C G H σ ς Q) C.XD->t σ H Q
def DA(C:Dc)(es:List Expr)(A:SD->Out (List D)):Prop:=∃ t,PA C.X es t/\∀ G H σ ς Q,StR C G H σ ς->
 (A ς).post (fun ds=>∀ vs H' G',StR C G' H' σ ς->Same H H'->Same G G'->RepL C.X.K C.CT G' ds vs->Q vs H') C.XD->t σ H Q
def DAB(C:Dc)(es:List Expr)(A:SD->Out (List D)):Prop:=∃ t,PA C.X es t/\∀ G H σ ς Q,StR C G H σ ς->
 (A ς).post (fun ds=>∀ vs H' G',StR C G' H' σ ς->Same H H'->Same G G'->RepL C.X.K C.CT H' ds vs->Q vs H') C.XD->t σ H Q
inductive Fl where
 | nx (ς:SD) | rt (fr:Bool) (d:D) | bk (ς:SD) | ct (ς:SD)
def RetR(K:PySem.W.Frag)(CT:CTab)(fr:Bool)(H0 G' H':Hp)(d:D)(v:V):Prop:=
 if fr=true then ∃ p,v=.ref p/\H0 p=none/\G' p=none/\Own K CT G' H' p d else Rep K CT G' d v
def FlK(C:Dc)(G:Hp)(W:Ends):Fl->Prop
 | .nx ς'=>∀ σ' H' G',StR C G' H' σ' ς'->Same G G'->W.nx σ' H'
 | .bk ς'=>∀ σ' H' G',StR C G' H' σ' ς'->Same G G'->W.bk σ' H'
 | .ct ς'=>∀ σ' H' G',StR C G' H' σ' ς'->Same G G'->W.ct σ' H'
 | .rt fr d=>∀ v H' G',GH C G' H'->Same G G'->RetR C.X.K C.CT fr C.H0 G' H' d v->W.rt v H'
def DS(C:Dc)(st:Stmt)(T:SD->Out Fl):Prop:=∃ t,PS C.X st t/\∀ G H σ ς W,StR C G H σ ς->(T ς).post (FlK C G W) C.XD->t W σ H
def DSs(C:Dc)(st:List Stmt)(T:SD->Out Fl):Prop:=∃ t,PSs C.X st t/\∀ G H σ ς W,StR C G H σ ς->(T ς).post (FlK C G W) C.XD->t W σ H
section
variable{C:Dc}{e:Expr}{E:SD->Out D}
theorem StR.freeze{G H:Hp}{σ:St}{ς:SD}(S:StR C G H σ ς){p:Addr}{o:HO}(hp:H p=some o)(hg:G p=none)(h0:C.H0 p=none)(hn:∀(i:Nat) d,ς[i]?=some (some (.o,d))->σ[i]?≠some (some (.ref p))):StR C (upd G p o) H σ ς where
 sub:=fun b u q=>by
  by_cases hb:b=p
  ·subst hb;rw[QG]at q;cases q;exact hp
  ·rw[Qg hb]at q;exact S.sub b u q
 g0:=S.g0.trans (Qj hg)
 new:=fun b h1 h2=>by
  by_cases hb:b=p
  ·subst hb;exact h0
  ·rw[Qg hb]at h2;exact S.new b h1 h2
 fr:=S.fr
 dom:=S.dom
 bs:=S.bs
 bh:=S.bh
 len:=S.len
 fz:=fun i d q=>let ⟨v,a,b⟩:=S.fz i d q;⟨v,a,Rep.mono (Qj hg) d v b⟩
 ow:=fun i d q=>by
  obtain⟨r,a,b,c,w⟩:=S.ow i d q
  refine⟨r,a,?_,c,w.mono (Qj hg) fun _ z=>z⟩
  rw[Qg (by rintro rfl;exact hn i d q a)];exact b
 ln:=S.ln
 inj:=S.inj
 sf:=fun i d q=>by
  obtain⟨r,a,b,c,m,z,w⟩:=S.sf i d q
  refine⟨r,a,?_,c,m,z,w.mono (Qj hg) fun _ z=>z⟩
  rw[Qg (by rintro rfl;exact c h0)];exact b
 su:=S.su
theorem Own.known{K:PySem.W.Frag}{CT:CTab}{G H:Hp}{p:Addr}{o:HO}(hg:G p=none)(hp:H p=some o):∀{d:D},Own K CT G H p d->Rep K CT (upd G p o) d (.ref p)
 | .lst ds,⟨vs,a,b⟩=>by rw[hp]at a;cases a;exact⟨p,vs,rfl,SqL.of QG,RepL.mono (Qj hg) ds vs b⟩
 | .dic ds,⟨vs,a,b⟩=>by rw[hp]at a;cases a;exact⟨p,vs,rfl,Rd.of QG,RepK.mono (Qj hg) ds vs b⟩
 | .ins _ ds,⟨A,dx,fs,e,a,b⟩=>by rw[hp]at a;cases a;exact⟨p,A,dx,fs,rfl,e,QG,RepF.mono (Qj hg) ds fs b⟩
 | .non,h=>h.elim
 | .bl _,h=>h.elim
 | .int _,h=>h.elim
 | .str _,h=>h.elim
 | .tup _,h=>h.elim
theorem StR.new_ne{G H:Hp}{σ:St}{ς:SD}(S:StR C G H σ ς){p:Addr}(h:H p=none):∀(i:Nat) d,ς[i]?=some (some (.o,d))->σ[i]?≠some (some (.ref p)):=fun i d q z=>by
 obtain⟨o,w⟩:=S.own_ne q z
 rw[h]at w;cases w
theorem KD.ofF{G H:Hp}{σ:St}{ς:SD}{Q:VK}{d:D}(S:StR C G H σ ς)(k:KD C G H σ ς Q d):KF C G H σ ς Q d:=fun p H' G' S' hH hG hp hg ow=>by
 obtain⟨o,ho⟩:=ow.there
 exact k _ _ _ (S'.freeze ho hg (S.h0none hp) (S.new_ne hp)) hH (hG.trans (Qj hg)) (ow.known hg ho)
theorem DF.de(h:DF C e E):DE C e E:=by
 obtain⟨t,h1,h2⟩:=h
 refine⟨t,h1,fun G H σ ς Q S q=>h2 G H σ ς Q S (Out.post_mono q fun d k=>KD.ofF S k)⟩
theorem DE.db(h:DE C e E):DB C e E:=by
 obtain⟨t,h1,h2⟩:=h
 refine⟨t,h1,fun G H σ ς Q S q=>h2 G H σ ς Q S (Out.post_mono q fun d k v H' G' S' a b r=>k v H' G' S' a b (Rep.mono S'.sub d v r))⟩
def D.scal:D->Bool
 | .non=>true
 | .bl _=>true
 | .int _=>true
 | .str _=>true
 | _=>false
theorem Rep.scal{K:PySem.W.Frag}{CT:CTab}{G H:Hp}:∀{d:D}{v:V},d.scal=true->Rep K CT H d v->Rep K CT G d v
 | .non,_,_,h=>h
 | .bl _,_,_,h=>h
 | .int _,_,_,h=>h
 | .str _,_,_,h=>h
theorem KD.now{G H:Hp}{σ:St}{ς:SD}{Q:VK}{d:D}{v:V}(k:KD C G H σ ς Q d)(S:StR C G H σ ς)(r:Rep C.X.K C.CT G d v):Q v H:=k v H G S (Same.refl H) (Same.refl G) r
theorem KB.now{G H:Hp}{σ:St}{ς:SD}{Q:VK}{d:D}{v:V}(k:KB C G H σ ς Q d)(S:StR C G H σ ς)(r:Rep C.X.K C.CT H d v):Q v H:=k v H G S (Same.refl H) (Same.refl G) r
theorem KT.now{G H:Hp}{σ:St}{ς:SD}{Q:Bool->Hp->Prop}{b:Bool}(k:KT C G H σ ς Q b)(S:StR C G H σ ς):Q b H:=k H G S (Same.refl H) (Same.refl G)
theorem KD.later{G H G1 H1:Hp}{σ:St}{ς:SD}{Q:VK}{d:D}(k:KD C G H σ ς Q d)(hH:Same H H1)(hG:Same G G1):KD C G1 H1 σ ς Q d:=fun v H' G' S a b r=>k v H' G' S (hH.trans a) (hG.trans b) r
theorem KT.later{G H G1 H1:Hp}{σ:St}{ς:SD}{Q:Bool->Hp->Prop}{d:Bool}(k:KT C G H σ ς Q d)(hH:Same H H1)(hG:Same G G1):KT C G1 H1 σ ς Q d:=fun H' G' S a b=>k H' G' S (hH.trans a) (hG.trans b)
theorem KF.later{G H G1 H1:Hp}{σ:St}{ς:SD}{Q:VK}{d:D}(k:KF C G H σ ς Q d)(hH:Same H H1)(hG:Same G G1):KF C G1 H1 σ ς Q d:=fun p H' G' S a b hp hg ow=>k p H' G' S (hH.trans a) (hG.trans b) (hH.free hp) hg ow
theorem KF.lst{G H:Hp}{σ:St}{ς:SD}{Q:VK}{ds:List D}{vs:List V}(k:KF C G H σ ς Q (.lst ds))(S:StR C G H σ ς)(r:RepL C.X.K C.CT G ds vs):∀ p,H p=none->Q (.ref p) (upd H p (.lst vs)):=fun p hp=>
 k p _ G (S.allocO hp) (Qj hp) (Same.refl G) hp (S.gnone hp) ⟨vs,QG,r⟩
theorem KD.lst{G H:Hp}{σ:St}{ς:SD}{Q:VK}{ds:List D}{vs:List V}(k:KD C G H σ ς Q (.lst ds))(S:StR C G H σ ς)(r:RepL C.X.K C.CT G ds vs):∀ p,H p=none->Q (.ref p) (upd H p (.lst vs)):=fun p hp=>
 k _ _ _ (S.alloc hp) (Qj hp) (Qj (S.gnone hp)) ⟨p,vs,rfl,SqL.of QG,RepL.mono (Qj (S.gnone hp)) ds vs r⟩
theorem KD.tup{G H:Hp}{σ:St}{ς:SD}{Q:VK}{ds:List D}{vs:List V}(k:KD C G H σ ς Q (.tup ds))(S:StR C G H σ ς)(r:RepL C.X.K C.CT G ds vs):∀ p,H p=none->Q (.ref p) (upd H p (.tup vs)):=fun p hp=>
 k _ _ _ (S.alloc hp) (Qj hp) (Qj (S.gnone hp)) ⟨p,vs,rfl,SqT.of QG,RepL.mono (Qj (S.gnone hp)) ds vs r⟩
end
end DL
namespace DL
open PySem PySem.Spec PyProof.Rows L2
def eVar(i:Nat):SD->Out D:=fun ς=>match ς[i]? with | some (some (.k,d))=>.ok d | _=>.stuck
def eVarB(i:Nat):SD->Out D:=fun ς=>match ς[i]? with | some (some (_,d))=>.ok d | _=>.stuck
def eC(d:D):SD->Out D:=fun _=>.ok d
section
variable{C:Dc}{pos:Pos}
theorem QkM{i:Nat}{ς:SD}{k:D->Prop}{x:D->Prop}(h:(eVar i ς).post k x):∃ d,ς[i]?=some (some (.k,d))/\k d:=by
 unfold eVar at h
 split at h
 ·rename_i d e;exact⟨d,e,h⟩
 ·exact h.elim
theorem Qjm{i:Nat}{ς:SD}{k:D->Prop}{x:D->Prop}(h:(eVarB i ς).post k x):∃ b d,ς[i]?=some (some (b,d))/\k d:=by
 unfold eVarB at h
 split at h
 ·rename_i b d e;exact⟨b,d,e,h⟩
 ·exact h.elim
theorem Qa(i:Nat){x:Str}(hN:C.X.N[i]?=some x:=by rfl)(hv:Vis C.X.env.scope x:=by first | exact Or.inl rfl | exact Or.inr (oi rfl) | exact Or.inr (Or.inr rfl))
 (hd:(x == ("__debug__":Str))=false:=by decide) (hcd:(x == ("__classdict__":Str))=false:=by decide):DE C (.Name x pos) (eVar i):=by
 refine⟨_,QdI (i:=i) hN hv hd hcd,fun G H σ ς Q S q=>?_⟩
 obtain⟨d,e,k⟩:=QkM q
 obtain⟨v,a,b⟩:=S.fz i d e
 exact⟨v,a,k.now S b⟩
theorem Qkv(i:Nat){x:Str}(hN:C.X.N[i]?=some x:=by rfl)(hv:Vis C.X.env.scope x:=by first | exact Or.inl rfl | exact Or.inr (oi rfl) | exact Or.inr (Or.inr rfl))
 (hd:(x == ("__debug__":Str))=false:=by decide) (hcd:(x == ("__classdict__":Str))=false:=by decide):DB C (.Name x pos) (eVarB i):=by
 refine⟨_,QdI (i:=i) hN hv hd hcd,fun G H σ ς Q S q=>?_⟩
 obtain⟨b,d,e,k⟩:=Qjm q
 cases b with
 | k=>
  obtain⟨v,a,b⟩:=S.fz i d e
  exact⟨v,a,k.now S (Rep.mono S.sub d v b)⟩
 | o=>
  obtain⟨p,a,b,c,w⟩:=S.ow i d e
  exact⟨_,a,k.now S (w.rep S.sub)⟩
 | l=>
  obtain⟨v,a,b,_⟩:=S.ln i d e
  exact⟨v,a,k.now S (Rep.mono S.bs d v b)⟩
 | s=>
  obtain⟨p,a,b,c,m,z,w⟩:=S.sf i d e
  exact⟨_,a,k.now S (w.rep S.sub)⟩
theorem Qc{i:Int}{j}:DE C (.Constant (.int i) j pos) (eC (.int i)):=⟨_,Qm5,fun G H σ ς Q S q=>KD.now q S rfl⟩
theorem de_bl{b:Bool}{j}:DE C (.Constant (.bool b) j pos) (eC (.bl b)):=⟨_,pe_bl,fun G H σ ς Q S q=>KD.now q S rfl⟩
theorem QjB{j}:DE C (.Constant .none j pos) (eC .non):=⟨_,QmU,fun G H σ ς Q S q=>KD.now q S rfl⟩
theorem Qh{x:Str}{j}:DE C (.Constant (.str x) j pos) (eC (.str x)):=⟨_,Qnh,fun G H σ ς Q S q=>KD.now q S rfl⟩
def toV:D->V
 | .bl b=>.bl b
 | .int i=>.int i
 | .str x=>.str x
 | _=>.non
theorem QeS{K:PySem.W.Frag}{CT:CTab}{H:Hp}:∀{d:D},d.scal=true->Rep K CT H d (toV d)
 | .non,_=>rfl
 | .bl _,_=>rfl
 | .int _,_=>rfl
 | .str _,_=>rfl
theorem Qag{x:Str}{d:D}{u:Value}(hg:Gl C.X x)(hm:C.X.mg x=some u)(hs:d.scal=true)(r:RelV (toV d) u)(hd:(x == ("__debug__":Str))=false:=by decide):DE C (.Name x pos) (eC d):=
 ⟨_,Qmg hg hm r hd,fun G H σ ς Q S q=>KD.now q S (QeS hs)⟩
end
def e1(f:D->Out D)(a:SD->Out D):SD->Out D:=fun ς=>a ς>>=f
def e2(f:D->D->Out D)(a b:SD->Out D):SD->Out D:=fun ς=>a ς>>=fun x=>b ς>>=fun y=>f x y
def DRS(C:Dc)(r:R2)(f:D->D->Out D):Prop:=∀ G H σ ς (Q:VK) x y vx vy,StR C G H σ ς->Rep C.X.K C.CT H x vx->Rep C.X.K C.CT H y vy->
 (f x y).post (fun d=>d.scal=true/\Q (toV d) H) (fun _=>False)->r vx vy H Q
def scal2(f:D->D->Out D):Prop:=∀ x y,match f x y with | .ok d=>d.scal=true | .exc _=>False | .stuck=>True
section
variable{C:Dc}{a b c:Expr}{A B A':SD->Out D}{pos:Pos}
theorem Qco{o:Out D}{G H:Hp}{σ:St}{ς:SD}{Q:VK}(S:StR C G H σ ς)(hs:match o with | .ok d=>d.scal=true | .exc _=>False | .stuck=>True)(q:o.post (KD C G H σ ς Q) C.XD):
 o.post (fun d=>d.scal=true/\Q (toV d) H) (fun _=>False):=by
 cases o with
 | ok d=>exact⟨hs,KD.now q S (QeS hs)⟩
 | exc _=>exact hs
 | stuck=>exact q
theorem dop{t:TE}{r:R2}{f:D->D->Out D}{ta tb:TE}(hr:DRS C r f)(hs:scal2 f)
 (h1:∀ G H σ ς Q,StR C G H σ ς->(A ς).post (KB C G H σ ς Q) C.XD->ta σ H Q) (h2:∀ G H σ ς Q,StR C G H σ ς->(B ς).post (KB C G H σ ς Q) C.XD->tb σ H Q):
 ∀ G H σ ς Q,StR C G H σ ς->(e2 f A B ς).post (KD C G H σ ς Q) C.XD->tOp r ta tb σ H Q:=by
 intro G H σ ς Q S q
 unfold e2 at q
 rw[Out.post_bind]at q
 refine h1 G H σ ς _ S (Out.post_mono q fun x k v1 H1 G1 S1 a1 b1 r1=>?_)
 rw[Out.post_bind]at k
 refine h2 G1 H1 σ ς _ S1 (Out.post_mono k fun y k2 v2 H2 G2 S2 a2 b2 r2=>?_)
 refine hr G2 H2 σ ς _ x y v1 v2 S2 (Rep.mono a2 x v1 r1) r2 (Qco S2 (hs x y) ?_)
 exact Out.post_mono k2 fun d kd=>KD.later kd (a1.trans a2) (b1.trans b2)
theorem de_op{op:Operator}{r:R2}{f:D->D->Out D}(ho:OpR C.X (binaryOp op) r)(hr:DRS C r f)(hs:scal2 f)(ha:DB C a A)(hb:DB C b B):DE C (.BinOp a op b pos) (e2 f A B):=by
 obtain⟨ta,p1,q1⟩:=ha
 obtain⟨tb,p2,q2⟩:=hb
 exact⟨_,pe_op ho p1 p2,dop (t:=ta) hr hs q1 q2⟩
theorem QeL{op:CmpOp}{r:R2}{f:D->D->Out D}(ho:OpR C.X (compareOp op) r)(hr:DRS C r f)(hs:scal2 f)(ha:DB C a A)(hb:DB C b B)(hm:behindInMarks op b=false):DE C (.Compare a [op] [b] pos) (e2 f A B):=by
 obtain⟨ta,p1,q1⟩:=ha
 obtain⟨tb,p2,q2⟩:=hb
 exact⟨_,Qmq ho p1 p2 hm,dop (t:=ta) hr hs q1 q2⟩
def tVal(a:SD->Out D):SD->Out Bool:=fun ς=>a ς>>=fun d=>match d with | .bl b=>.ok b | _=>.stuck
theorem QdM{o:Out D}{G H:Hp}{σ:St}{ς:SD}{Q:Bool->Hp->Prop}(q:(o>>=fun d=>match d with | .bl b=>Out.ok b | _=>.stuck).post (KT C G H σ ς Q) C.XD):
 o.post (KD C G H σ ς fun x H'=>∃ k,x=.bl k/\Q k H') C.XD:=by
 rw[Out.post_bind]at q
 refine Out.post_mono q fun d k v H' G' S' a b r=>?_
 cases d with
 | bl c=>exact⟨c,r,k H' G' S' a b⟩
 | _=>exact k.elim
theorem Qcn{op:CmpOp}{r:R2}{f:D->D->Out D}(ho:OpR C.X (compareOp op) r)(hr:DRS C r f)(hs:scal2 f)(ha:DB C a A)(hb:DB C b B)(hm:behindInMarks op b=false):DT C (.Compare a [op] [b] pos) (tVal (e2 f A B)):=by
 obtain⟨ta,p1,q1⟩:=ha
 obtain⟨tb,p2,q2⟩:=hb
 exact⟨_,Ql8 ho p1 p2 hm,fun G H σ ς Q S q=>dop (t:=ta) hr hs q1 q2 G H σ ς _ S (QdM q)⟩
theorem QQ(h:DE C a A)(he:∀ whole,isTrue a C.X.env whole=(do let v ← whole;standAt a.pos;holding [v] (truthy v)):=by intro _;rfl):DT C a (tVal A):=by
 obtain⟨ta,p1,q1⟩:=h
 exact⟨_,Qm9 p1 he,fun G H σ ς Q S q=>q1 G H σ ς _ S (QdM q)⟩
def QaI(f g:D->D->Out D)(a b c:SD->Out D):SD->Out D:=fun ς=>a ς>>=fun x=>b ς>>=fun y=>f x y>>=fun z=>match z with
 | .bl true=>c ς>>=fun w=>g y w
 | .bl false=>.ok (.bl false)
 | _=>.stuck
theorem Qjs{r r':R2}{f g:D->D->Out D}{ta tb tc:TE}(hr:DRS C r f)(hs:scal2 f)(hr':DRS C r' g)(hs':scal2 g)
 (h1:∀ G H σ ς Q,StR C G H σ ς->(A ς).post (KB C G H σ ς Q) C.XD->ta σ H Q) (h2:∀ G H σ ς Q,StR C G H σ ς->(B ς).post (KB C G H σ ς Q) C.XD->tb σ H Q)
 (h3:∀ G H σ ς Q,StR C G H σ ς->(A' ς).post (KB C G H σ ς Q) C.XD->tc σ H Q):
 ∀ G H σ ς Q,StR C G H σ ς->(QaI f g A B A' ς).post (KD C G H σ ς Q) C.XD->Qgz r r' ta tb tc σ H Q:=by
 intro G H σ ς Q S q
 unfold QaI at q
 rw[Out.post_bind]at q
 refine h1 G H σ ς _ S (Out.post_mono q fun x k v1 H1 G1 S1 a1 b1 r1=>?_)
 rw[Out.post_bind]at k
 refine h2 G1 H1 σ ς _ S1 (Out.post_mono k fun y k2 v2 H2 G2 S2 a2 b2 r2=>?_)
 rw[Out.post_bind]at k2
 refine hr G2 H2 σ ς _ x y v1 v2 S2 (Rep.mono a2 x v1 r1) r2 ?_
 have hxy:=hs x y
 cases e:f x y with
 | exc _=>rw[e]at hxy;exact hxy
 | stuck=>rw[e]at k2;exact k2.elim
 | ok z=>
  rw[e]at k2
  refine⟨by rw[e]at hxy;exact hxy,?_⟩
  cases z with
  | bl cc=>
   refine⟨cc,rfl,?_⟩
   cases cc with
   | false=>exact iteF (KD.now (KD.later (show KD C G H σ ς Q (.bl false) from k2) (a1.trans a2) (b1.trans b2)) S2 rfl)
   | true=>
    refine iteT (h3 G2 H2 σ ς _ S2 ?_)
    have k2':(A' ς>>=fun w=>g y w).post (KD C G H σ ς Q) C.XD:=k2
    rw[Out.post_bind]at k2'
    refine Out.post_mono k2' fun w k3 v3 H3 G3 S3 a3 b3 r3=>?_
    refine hr' G3 H3 σ ς _ y w v2 v3 S3 (Rep.mono a3 y v2 r2) r3 (Qco S3 (hs' y w) ?_)
    exact Out.post_mono k3 fun d kd=>KD.later kd ((a1.trans a2).trans a3) ((b1.trans b2).trans b3)
  | _=>exact k2.elim
theorem Qk7{op op':CmpOp}{r r':R2}{f g:D->D->Out D}(ho:OpR C.X (compareOp op) r)(hr:DRS C r f)(hs:scal2 f)(ho':OpR C.X (compareOp op') r')(hr':DRS C r' g)(hs':scal2 g)
 (ha:DB C a A) (hb:DB C b B) (hc:DB C c A') (hm:lastMarks [op,op'] [b,c]=false:=by with_unfolding_all rfl):DE C (.Compare a [op,op'] [b,c] pos) (QaI f g A B A'):=by
 obtain⟨ta,p1,q1⟩:=ha
 obtain⟨tb,p2,q2⟩:=hb
 obtain⟨tc,p3,q3⟩:=hc
 exact⟨_,QkH ho ho' p1 p2 p3 hm,Qjs hr hs hr' hs' q1 q2 q3⟩
theorem Qgw{op op':CmpOp}{r r':R2}{f g:D->D->Out D}(ho:OpR C.X (compareOp op) r)(hr:DRS C r f)(hs:scal2 f)(ho':OpR C.X (compareOp op') r')(hr':DRS C r' g)(hs':scal2 g)
 (ha:DB C a A) (hb:DB C b B) (hc:DB C c A') (hm:lastMarks [op,op'] [b,c]=false:=by with_unfolding_all rfl):DT C (.Compare a [op,op'] [b,c] pos) (tVal (QaI f g A B A')):=by
 obtain⟨ta,p1,q1⟩:=ha
 obtain⟨tb,p2,q2⟩:=hb
 obtain⟨tc,p3,q3⟩:=hc
 exact⟨_,Qli ho ho' p1 p2 p3 hm,fun G H σ ς Q S q=>Qjs hr hs hr' hs' q1 q2 q3 G H σ ς _ S (QdM q)⟩
end
section
variable{C:Dc}
def dI(cnd:Int->Int->Bool)(g:Int->Int->D):D->D->Out D
 | .int i,.int j=>if cnd i j=true then .ok (g i j) else .stuck
 | _,_=>.stuck
def dI0(g:Int->Int->D):D->D->Out D
 | .int i,.int j=>.ok (g i j)
 | _,_=>.stuck
theorem QF{α:Type}{c:Prop}[Decidable c]{a b:Out α}{k:α->Prop}{x:D->Prop}(h:(if c then a else b).post k x):(c/\a.post k x)∨(¬ c/\b.post k x):=by
 by_cases e:c
 ·rw[if_pos e]at h;exact .inl ⟨e,h⟩
 ·rw[if_neg e]at h;exact .inr ⟨e,h⟩
theorem QaQ{c:Prop}[Decidable c]{d:D}(h:d.scal=true):match (if c then Out.ok d else Out.stuck:Out D) with | .ok d=>d.scal=true | .exc _=>False | .stuck=>True:=by
 by_cases e:c
 ·rw[if_pos e];exact h
 ·rw[if_neg e];exact True.intro
theorem Qe7{cnd:Int->Int->Bool}{g:Int->Int->D}(h:∀ i j,(g i j).scal=true):scal2 (dI cnd g):=by
 intro x y
 cases x with
 | int i=>
  cases y with
  | int j=>exact QaQ (h i j)
  | _=>exact True.intro
 | _=>exact True.intro
theorem Qar{g:Int->Int->D}(h:∀ i j,(g i j).scal=true):scal2 (dI0 g):=by
 intro x y
 cases x<;>cases y<;>simp[dI0,h]
theorem Qgd{cnd:Int->Int->Bool}{P:Int->Int->Prop}{g:Int->Int->D}(hP:∀ i j,cnd i j=true->P i j):DRS C (rI P fun i j=>toV (g i j)) (dI cnd g):=by
 intro G H σ ς Q x y vx vy S hx hy q
 cases x with
 | int i=>
  cases y with
  | int j=>
   cases hx;cases hy
   refine⟨i,j,rfl,rfl,?_⟩
   rcases QF (show(if cnd i j=true then Out.ok (g i j) else Out.stuck).post _ _ from q) with⟨hc,q⟩ | ⟨hc,q⟩
   ·exact⟨hP i j hc,q.2⟩
   ·exact q.elim
  | _=>exact q.elim
 | _=>exact q.elim
theorem QaN{g:Int->Int->D}:DRS C (rI0 fun i j=>toV (g i j)) (dI0 g):=by
 intro G H σ ς Q x y vx vy S hx hy q
 cases x with
 | int i=>
  cases y with
  | int j=>
   cases hx;cases hy
   exact⟨i,j,rfl,rfl,q.2⟩
  | _=>exact q.elim
 | _=>exact q.elim
variable{a b c:Expr}{A B:SD->Out D}{pos:Pos}
def dSub:D->D->Out D:=dI0 fun i j=>.int (i - j)
def big(i:Int):Bool:=decide (i.natAbs<2 ^ 9000)
def dMul:D->D->Out D:=dI (fun i j=>decide (Builtin.Int.intBits i+Builtin.Int.intBits j<=134217728)) fun i j=>.int (i * j)
def dFdiv:D->D->Out D:=dI (fun i j=>decide (j≠0)&&big j) fun i j=>.int (i.fdiv j)
def dMod:D->D->Out D:=dI (fun i j=>decide (j≠0)) fun i j=>.int (i.fmod j)
theorem QkW{i:Int}(h:big i=true):i.natAbs.log2<9000:=by
 have h':i.natAbs<2 ^ 9000:=of_decide_eq_true h
 by_cases z:i.natAbs=0
 ·rw[z];decide
 ·exact(Nat.log2_lt z).mpr h'
theorem QlH{X:Cx}:OpR X (binaryOp .Mult) (rI IntMulOk fun i j=>.int (i * j)):=opI fun _ _ _ _ _ _ _ hc q=>mul_int q hc
def CDivB(i j:Int):Prop:=j≠0/\j.natAbs.log2<9000
theorem Qlk{X:Cx}:OpR X (binaryOp .FloorDiv) (rI CDivB fun i j=>.int (i.fdiv j)):=opI fun _ _ _ _ _ _ _ hc q=>floordiv_int hc.1 q (.inl (PyProof.noPylong_of_log2 hc.2))
theorem QgC(ha:DB C a A)(hb:DB C b B):DE C (.BinOp a .Sub b pos) (e2 dSub A B):=de_op Qne QaN (Qar fun _ _=>rfl) ha hb
theorem QdH(ha:DB C a A)(hb:DB C b B):DE C (.BinOp a .Mult b pos) (e2 dMul A B):=de_op QlH (Qgd fun i j h=>IntMulOk.of_le (Nat.le_refl _) (Nat.le_refl _) (of_decide_eq_true h)) (Qe7 fun _ _=>rfl) ha hb
theorem QcO(ha:DB C a A)(hb:DB C b B):DE C (.BinOp a .FloorDiv b pos) (e2 dFdiv A B):=de_op Qlk (Qgd fun i j h=>by
 rw[Bool.and_eq_true]at h
 exact⟨of_decide_eq_true h.1,QkW h.2⟩) (Qe7 fun _ _=>rfl) ha hb
theorem Qa8(ha:DB C a A)(hb:DB C b B):DE C (.BinOp a .Mod b pos) (e2 dMod A B):=de_op QlJ (Qgd fun i j h=>of_decide_eq_true h) (Qe7 fun _ _=>rfl) ha hb
def dAdd:D->D->Out D
 | .int i,.int j=>.ok (.int (i+j))
 | .str x,.str y=>if x.length+y.length<=sizeLine then .ok (.str (x++y)) else .stuck
 | _,_=>.stuck
theorem Qn(ha:DB C a A)(hb:DB C b B):DE C (.BinOp a .Add b pos) (e2 dAdd A B):=by
 refine de_op (Qm2.or Qin) ?_ ?_ ha hb
 ·intro G H σ ς Q x y vx vy S hx hy q
  cases x with
  | int i=>
   cases y with
   | int j=>
    cases hx;cases hy
    exact .inl ⟨i,j,rfl,rfl,q.2⟩
   | _=>exact q.elim
  | str i=>
   cases y with
   | str j=>
    cases hx;cases hy
    rcases QF (show(if i.length+j.length<=sizeLine then Out.ok (D.str (i++j)) else Out.stuck).post _ _ from q) with⟨hc,q⟩ | ⟨hc,q⟩
    ·exact .inr ⟨i,j,rfl,rfl,hc,q.2⟩
    ·exact q.elim
   | _=>exact q.elim
  | _=>exact q.elim
 ·intro x y
  cases x with
  | int i=>
   cases y with
   | int j=>exact rfl
   | _=>exact True.intro
  | str i=>
   cases y with
   | str j=>exact QaQ rfl
   | _=>exact True.intro
  | _=>exact True.intro
def dLt:D->D->Out D:=dI0 fun i j=>.bl (decide (i<j))
def dLe:D->D->Out D:=dI0 fun i j=>.bl (decide (i<=j))
def dGt:D->D->Out D:=dI0 fun i j=>.bl (decide (j<i))
def dGe:D->D->Out D:=dI0 fun i j=>.bl (decide (j<=i))
end
section
variable{C:Dc}{a b c:Expr}{A B:SD->Out D}{pos:Pos}
def dNeg:D->Out D
 | .int i=>.ok (.int (-i))
 | _=>.stuck
theorem Qgy(ha:DB C a A):DE C (.UnaryOp .USub a pos) (e1 dNeg A):=by
 obtain⟨ta,p1,q1⟩:=ha
 refine⟨_,pe_un Qni p1,fun G H σ ς Q S q=>?_⟩
 unfold e1 at q
 rw[Out.post_bind]at q
 refine q1 G H σ ς _ S (Out.post_mono q fun x k v1 H1 G1 S1 a1 b1 r1=>?_)
 cases x with
 | int i=>cases r1;exact⟨i,rfl,KD.now (KD.later k a1 b1) S1 rfl⟩
 | _=>exact k.elim
variable{TA TB:SD->Out Bool}{rest:List Expr}
def tAnd'(a b:SD->Out Bool):SD->Out Bool:=fun ς=>a ς>>=fun c=>if c=true then b ς else .ok false
def tOr'(a b:SD->Out Bool):SD->Out Bool:=fun ς=>a ς>>=fun c=>if c=true then .ok true else b ς
def tNot'(a:SD->Out Bool):SD->Out Bool:=fun ς=>a ς>>=fun c=>.ok (!c)
theorem DW.dt{e:Expr}{T:SD->Out Bool}(h:DW C e T):DT C e T:=let ⟨t,p,q⟩:=h;⟨t,p.pt,q⟩
theorem Qa0(ha:DT C a TA):DW C (.BoolOp .And [a] pos) TA:=let ⟨t,p,q⟩:=ha;⟨t,QlS p,q⟩
theorem Qa9(ha:DT C a TA):DW C (.BoolOp .Or [a] pos) TA:=let ⟨t,p,q⟩:=ha;⟨t,QmJ p,q⟩
theorem Qbs(ha:DT C a TA)(hb:DW C (.BoolOp .And (b::rest) pos) TB):DW C (.BoolOp .And (a::b::rest) pos) (tAnd' TA TB):=by
 obtain⟨t1,p1,q1⟩:=ha
 obtain⟨t2,p2,q2⟩:=hb
 refine⟨_,QmB p1 p2,fun G H σ ς Q S q=>?_⟩
 unfold tAnd' at q
 rw[Out.post_bind]at q
 refine q1 G H σ ς _ S (Out.post_mono q fun x k H1 G1 S1 a1 b1=>?_)
 cases x with
 | true=>exact iteT (q2 G1 H1 σ ς _ S1 (Out.post_mono (show(TB ς).post _ _ from k) fun x k=>KT.later k a1 b1))
 | false=>exact iteF (KT.now (KT.later (show KT C G H σ ς Q false from k) a1 b1) S1)
theorem dw_or(ha:DT C a TA)(hb:DW C (.BoolOp .Or (b::rest) pos) TB):DW C (.BoolOp .Or (a::b::rest) pos) (tOr' TA TB):=by
 obtain⟨t1,p1,q1⟩:=ha
 obtain⟨t2,p2,q2⟩:=hb
 refine⟨_,pw_or p1 p2,fun G H σ ς Q S q=>?_⟩
 unfold tOr' at q
 rw[Out.post_bind]at q
 refine q1 G H σ ς _ S (Out.post_mono q fun x k H1 G1 S1 a1 b1=>?_)
 cases x with
 | true=>exact iteT (KT.now (KT.later (show KT C G H σ ς Q true from k) a1 b1) S1)
 | false=>exact iteF (q2 G1 H1 σ ς _ S1 (Out.post_mono (show(TB ς).post _ _ from k) fun x k=>KT.later k a1 b1))
theorem Qaa(ha:DT C a TA):DT C (.UnaryOp .Not a pos) (tNot' TA):=by
 obtain⟨t1,p1,q1⟩:=ha
 refine⟨_,QmD p1,fun G H σ ς Q S q=>?_⟩
 unfold tNot' at q
 rw[Out.post_bind]at q
 exact q1 G H σ ς _ S (Out.post_mono q fun x k H1 G1 S1 a1 b1=>k H1 G1 S1 a1 b1)
def eAnd(a b:SD->Out D):SD->Out D:=fun ς=>a ς>>=fun d=>match d with | .bl true=>b ς | .bl false=>.ok (.bl false) | _=>.stuck
def eOr(a b:SD->Out D):SD->Out D:=fun ς=>a ς>>=fun d=>match d with | .bl true=>.ok (.bl true) | .bl false=>b ς | _=>.stuck
def eNot(a:SD->Out D):SD->Out D:=fun ς=>a ς>>=fun d=>match d with | .bl c=>.ok (.bl (!c)) | _=>.stuck
theorem Qch{op}(h:DE C a A):DE C (.BoolOp op [a] pos) A:=let ⟨t,p,q⟩:=h;⟨t,Qm0 p,q⟩
theorem Qcj(ha:DE C a A)(hb:DE C (.BoolOp .And (b::rest) pos) B):DE C (.BoolOp .And (a::b::rest) pos) (eAnd A B):=by
 obtain⟨t1,p1,q1⟩:=ha
 obtain⟨t2,p2,q2⟩:=hb
 refine⟨_,Qnt p1 p2,fun G H σ ς Q S q=>?_⟩
 unfold eAnd at q
 rw[Out.post_bind]at q
 refine q1 G H σ ς _ S (Out.post_mono q fun x k v1 H1 G1 S1 a1 b1 r1=>?_)
 cases x with
 | bl c=>
  refine⟨c,r1,?_⟩
  cases c with
  | true=>exact iteT (q2 G1 H1 σ ς _ S1 (Out.post_mono (show(B ς).post _ _ from k) fun x k=>KD.later k a1 b1))
  | false=>exact iteF (KD.now (KD.later (show KD C G H σ ς Q (.bl false) from k) a1 b1) S1 rfl)
 | _=>exact k.elim
theorem de_or(ha:DE C a A)(hb:DE C (.BoolOp .Or (b::rest) pos) B):DE C (.BoolOp .Or (a::b::rest) pos) (eOr A B):=by
 obtain⟨t1,p1,q1⟩:=ha
 obtain⟨t2,p2,q2⟩:=hb
 refine⟨_,pe_or p1 p2,fun G H σ ς Q S q=>?_⟩
 unfold eOr at q
 rw[Out.post_bind]at q
 refine q1 G H σ ς _ S (Out.post_mono q fun x k v1 H1 G1 S1 a1 b1 r1=>?_)
 cases x with
 | bl c=>
  refine⟨c,r1,?_⟩
  cases c with
  | true=>exact iteT (KD.now (KD.later (show KD C G H σ ς Q (.bl true) from k) a1 b1) S1 rfl)
  | false=>exact iteF (q2 G1 H1 σ ς _ S1 (Out.post_mono (show(B ς).post _ _ from k) fun x k=>KD.later k a1 b1))
 | _=>exact k.elim
theorem QkC(ha:DE C a A):DE C (.UnaryOp .Not a pos) (eNot A):=by
 obtain⟨t1,p1,q1⟩:=ha
 refine⟨_,QmH p1,fun G H σ ς Q S q=>?_⟩
 unfold eNot at q
 rw[Out.post_bind]at q
 refine q1 G H σ ς _ S (Out.post_mono q fun x k v1 H1 G1 S1 a1 b1 r1=>?_)
 cases x with
 | bl c=>exact⟨c,r1,KD.now (KD.later (show KD C G H σ ς Q (.bl (!c)) from k) a1 b1) S1 rfl⟩
 | _=>exact k.elim
def eIf(t:SD->Out Bool)(a b:SD->Out D):SD->Out D:=fun ς=>t ς>>=fun c=>if c=true then a ς else b ς
end
end DL
namespace DL
open PySem PySem.Spec PyProof.Rows L2
def aNil:SD->Out (List D):=fun _=>.ok []
def aCons(a:SD->Out D)(r:SD->Out (List D)):SD->Out (List D):=fun ς=>a ς>>=fun x=>r ς>>=fun xs=>.ok (x::xs)
section
variable{C:Dc}{e:Expr}{es:List Expr}{E:SD->Out D}{A:SD->Out (List D)}{pos:Pos}
theorem Qf:DA C [] aNil:=⟨_,Qck,fun G H σ ς Q S q=>q [] H G S (Same.refl H) (Same.refl G) rfl⟩
theorem QD:DAB C [] aNil:=⟨_,Qck,fun G H σ ς Q S q=>q [] H G S (Same.refl H) (Same.refl G) rfl⟩
theorem Qb(ha:DE C e E)(hr:DA C es A)(hs:starEach (e::es) C.X.env=(false,eval e C.X.env)::starEach es C.X.env:=by rfl):DA C (e::es) (aCons E A):=by
 obtain⟨t1,p1,q1⟩:=ha
 obtain⟨t2,p2,q2⟩:=hr
 refine⟨_,QaZ p1 p2 hs,fun G H σ ς Q S q=>?_⟩
 unfold aCons at q
 rw[Out.post_bind]at q
 refine q1 G H σ ς _ S (Out.post_mono q fun x k v1 H1 G1 S1 a1 b1 r1=>?_)
 rw[Out.post_bind]at k
 refine q2 G1 H1 σ ς _ S1 (Out.post_mono k fun xs k2 vs H2 G2 S2 a2 b2 r2=>?_)
 exact k2 (v1::vs) H2 G2 S2 (a1.trans a2) (b1.trans b2) ⟨v1,vs,rfl,Rep.mono b2 x v1 r1,r2⟩
theorem QA(ha:DB C e E)(hr:DAB C es A)(hs:starEach (e::es) C.X.env=(false,eval e C.X.env)::starEach es C.X.env:=by rfl):DAB C (e::es) (aCons E A):=by
 obtain⟨t1,p1,q1⟩:=ha
 obtain⟨t2,p2,q2⟩:=hr
 refine⟨_,QaZ p1 p2 hs,fun G H σ ς Q S q=>?_⟩
 unfold aCons at q
 rw[Out.post_bind]at q
 refine q1 G H σ ς _ S (Out.post_mono q fun x k v1 H1 G1 S1 a1 b1 r1=>?_)
 rw[Out.post_bind]at k
 refine q2 G1 H1 σ ς _ S1 (Out.post_mono k fun xs k2 vs H2 G2 S2 a2 b2 r2=>?_)
 exact k2 (v1::vs) H2 G2 S2 (a1.trans a2) (b1.trans b2) ⟨v1,vs,rfl,Rep.mono a2 x v1 r1,r2⟩
def fits(n:Nat):Bool:=decide (n<=sizeLine)
def eTup(a:SD->Out (List D)):SD->Out D:=fun ς=>a ς>>=fun xs=>if fits xs.length=true then .ok (.tup xs) else .stuck
def eLst(a:SD->Out (List D)):SD->Out D:=fun ς=>a ς>>=fun xs=>if fits xs.length=true then .ok (.lst xs) else .stuck
theorem Q6{x1}(h:DA C es A):DE C (.Tuple es x1 pos) (eTup A):=by
 obtain⟨t,p,q⟩:=h
 refine⟨_,Qm1 p,fun G H σ ς Q S k=>?_⟩
 unfold eTup at k
 rw[Out.post_bind]at k
 refine q G H σ ς _ S (Out.post_mono k fun xs k2 vs H1 G1 S1 a1 b1 r1=>?_)
 rcases QF k2 with⟨hc,k3⟩ | ⟨_,k3⟩
 ·exact⟨by rw[← r1.length];exact of_decide_eq_true hc,KD.tup (KD.later k3 a1 b1) S1 r1⟩
 ·exact k3.elim
theorem Qcl(h:DA C es A):DF C (.List es pos) (eLst A):=by
 obtain⟨t,p,q⟩:=h
 refine⟨_,Qnk p,fun G H σ ς Q S k=>?_⟩
 unfold eLst at k
 rw[Out.post_bind]at k
 refine q G H σ ς _ S (Out.post_mono k fun xs k2 vs H1 G1 S1 a1 b1 r1=>?_)
 rcases QF k2 with⟨hc,k3⟩ | ⟨_,k3⟩
 ·exact⟨by rw[← r1.length];exact of_decide_eq_true hc,KF.lst (KF.later k3 a1 b1) S1 r1⟩
 ·exact k3.elim
end
theorem Qfb{K:PySem.W.Frag}{CT:CTab}{H:Hp}{ds:List D}{vs:List V}{i:Int}{d:D}(r:RepL K CT H ds vs)(h:atI ds i=some d):∃ v,atI vs i=some v/\Rep K CT H d v:=by
 unfold atI at h ⊢
 rw[← r.length]
 cases e:ixN ds.length i with
 | none=>rw[e]at h;cases h
 | some j=>
  rw[e]at h
  exact r.get h
def optO{α:Type}:Option α->Out α
 | some a=>.ok a
 | none=>.stuck
theorem Qdl{α:Type}{o:Option α}{k:α->Prop}{x:D->Prop}(h:(optO o).post k x):∃ a,o=some a/\k a:=by
 cases o with
 | none=>exact h.elim
 | some a=>exact⟨a,rfl,h⟩
def dIx:D->D->Out D
 | .lst xs,.int i=>optO (atI xs i)
 | .tup xs,.int i=>optO (atI xs i)
 | .str x,.int i=>if fits x.length=true then optO ((atI x.cps.toList i).map fun c=>D.str ⟨#[c]⟩) else .stuck
 | _,_=>.stuck
section
variable{C:Dc}{a b:Expr}{A B:SD->Out D}{pos:Pos}
theorem de_ix(ha:DE C a A)(hb:DB C b B)(hs:QeY b:=by intro _ _;rfl):DE C (.Subscript a b pos) (e2 dIx A B):=by
 obtain⟨ta,p1,q1⟩:=ha
 obtain⟨tb,p2,q2⟩:=hb
 refine⟨_,pe_ix Qji p1 p2 hs,fun G H σ ς Q S q=>?_⟩
 unfold e2 at q
 rw[Out.post_bind]at q
 refine q1 G H σ ς _ S (Out.post_mono q fun x k v1 H1 G1 S1 a1 b1 r1=>?_)
 rw[Out.post_bind]at k
 refine q2 G1 H1 σ ς _ S1 (Out.post_mono k fun y k2 v2 H2 G2 S2 a2 b2 r2=>?_)
 have r1':=Rep.mono b2 x v1 r1
 cases y with
 | int i=>
  cases r2
  cases x with
  | lst xs=>
   obtain⟨p,vs,rfl,h2,h3⟩:=r1'
   obtain⟨d,e,kd⟩:=Qdl k2
   obtain⟨v,e2,r⟩:=Qfb h3 e
   exact .inl ⟨p,vs,i,v,rfl,rfl,S2.sub.seq h2,e2,KD.now (KD.later kd (a1.trans a2) (b1.trans b2)) S2 r⟩
  | tup xs=>
   obtain⟨p,vs,rfl,h2,h3⟩:=r1'
   obtain⟨d,e,kd⟩:=Qdl k2
   obtain⟨v,e2,r⟩:=Qfb h3 e
   exact .inr (.inl ⟨p,vs,i,v,rfl,rfl,Same.sqT S2.sub h2,e2,KD.now (KD.later kd (a1.trans a2) (b1.trans b2)) S2 r⟩)
  | str z=>
   cases r1'
   rcases QF (show(if fits z.length=true then optO ((atI z.cps.toList i).map fun c=>D.str ⟨#[c]⟩) else .stuck).post _ C.XD from k2) with⟨hc,q⟩ | ⟨_,q⟩
   ·obtain⟨d,e,kd⟩:=Qdl q
    cases e3:atI z.cps.toList i with
    | none=>rw[e3]at e;cases e
    | some c=>
     rw[e3]at e
     cases e
     exact .inr (.inr ⟨z,i,c,rfl,rfl,of_decide_eq_true hc,e3,KD.now (KD.later kd (a1.trans a2) (b1.trans b2)) S2 rfl⟩)
   ·exact q.elim
  | _=>exact k2.elim
 | _=>cases x<;>exact k2.elim
end
def cutD{α:Type}(xs:List α)(lo hi:Option Int):List α:=(xs.drop (HT.sIx xs.length 0 lo)).take (HT.sIx xs.length xs.length hi - HT.sIx xs.length 0 lo)
theorem QhZ{K:PySem.W.Frag}{CT:CTab}{H:Hp}{ds:List D}{vs:List V}(lo hi:Option Int)(r:RepL K CT H ds vs):RepL K CT H (cutD ds lo hi) (cutV vs lo hi):=by
 unfold cutD cutV
 rw[r.length]
 exact(r.drop _).take _
def oNo:SD->Out (Option Int):=fun _=>.ok none
def oSome(e:SD->Out D):SD->Out (Option Int):=fun ς=>e ς>>=fun d=>match d with | .int i=>.ok (some i) | _=>.stuck
def DO(C:Dc)(e:Option Expr)(T:SD->Out (Option Int)):Prop:=∃ t,PO C.X e t/\∀ G H σ ς Q,StR C G H σ ς->(T ς).post (fun o=>∀ H' G',StR C G' H' σ ς->Same H H'->Same G G'->Q o H') C.XD->t σ H Q
section
variable{C:Dc}{a b:Expr}{A B:SD->Out D}{lo hi:Option Expr}{L U:SD->Out (Option Int)}{pos p2:Pos}
theorem Qcd:DO C none oNo:=⟨_,Ql9,fun G H σ ς Q S q=>q H G S (Same.refl H) (Same.refl G)⟩
theorem Qae(h:DB C a A):DO C (some a) (oSome A):=by
 obtain⟨t,p,q⟩:=h
 refine⟨_,Ql6 p,fun G H σ ς Q S k=>?_⟩
 unfold oSome at k
 rw[Out.post_bind]at k
 refine q G H σ ς _ S (Out.post_mono k fun x k2 v1 H1 G1 S1 a1 b1 r1=>?_)
 cases x with
 | int i=>cases r1;exact⟨i,rfl,k2 H1 G1 S1 a1 b1⟩
 | _=>exact k2.elim
def eSl(a:SD->Out D)(l u:SD->Out (Option Int)):SD->Out D:=fun ς=>a ς>>=fun x=>l ς>>=fun i=>u ς>>=fun j=>match x with
 | .lst xs=>.ok (.lst (cutD xs i j))
 | _=>.stuck
theorem df_sl(ha:DE C a A)(hl:DO C lo L)(hu:DO C hi U):DF C (.Subscript a (.Slice lo hi none p2) pos) (eSl A L U):=by
 obtain⟨ta,p1,q1⟩:=ha
 obtain⟨tl,p3,q3⟩:=hl
 obtain⟨tu,p4,q4⟩:=hu
 refine⟨_,Qel QlV p1 p3 p4,fun G H σ ς Q S q=>?_⟩
 unfold eSl at q
 rw[Out.post_bind]at q
 refine q1 G H σ ς _ S (Out.post_mono q fun x k v1 H1 G1 S1 a1 b1 r1=>?_)
 rw[Out.post_bind]at k
 refine q3 G1 H1 σ ς _ S1 (Out.post_mono k fun i k2 H2 G2 S2 a2 b2=>?_)
 rw[Out.post_bind]at k2
 refine q4 G2 H2 σ ς _ S2 (Out.post_mono k2 fun j k3 H3 G3 S3 a3 b3=>?_)
 cases x with
 | lst xs=>
  obtain⟨p,vs,rfl,h2,h3⟩:=Rep.mono (b2.trans b3) _ v1 r1
  exact⟨p,vs,rfl,S3.sub.seq h2,KF.lst (KF.later (show KF C G H σ ς Q (.lst (cutD xs i j)) from k3) ((a1.trans a2).trans a3) ((b1.trans b2).trans b3)) S3 (QhZ i j h3)⟩
 | _=>exact k3.elim
end
section
variable{C:Dc}{x:Str}{p pos:Pos}{e:Expr}{es:List Expr}{A:SD->Out (List D)}{id T:String}
def eA(f:List D->Out D)(a:SD->Out (List D)):SD->Out D:=fun ς=>a ς>>=f
def DCS(C:Dc)(r:List V->Hp->VK->Prop)(f:List D->Out D):Prop:=∀ G H σ ς (Q:VK) xs vs,StR C G H σ ς->RepL C.X.K C.CT H xs vs->
 (f xs).post (fun d=>d.scal=true/\Q (toV d) H) (fun _=>False)->r vs H Q
def scalA(f:List D->Out D):Prop:=∀ xs,match f xs with | .ok d=>d.scal=true | .exc _=>False | .stuck=>True
theorem dcall{r:List V->Hp->VK->Prop}{f:List D->Out D}{t:TA}(hr:DCS C r f)(hs:scalA f)
 (h:∀ G H σ ς Q,StR C G H σ ς->(A ς).post (fun ds=>∀ vs H' G',StR C G' H' σ ς->Same H H'->Same G G'->RepL C.X.K C.CT H' ds vs->Q vs H') C.XD->t σ H Q):
 ∀ G H σ ς Q,StR C G H σ ς->(eA f A ς).post (KD C G H σ ς Q) C.XD->tCB r t σ H Q:=by
 intro G H σ ς Q S q
 unfold eA at q
 rw[Out.post_bind]at q
 refine h G H σ ς _ S (Out.post_mono q fun ds k vs H1 G1 S1 a1 b1 r1=>?_)
 exact hr G1 H1 σ ς Q ds vs S1 r1 (Qco S1 (hs ds) (Out.post_mono k fun d kd=>KD.later kd a1 b1))
theorem Qgu{r:List V->Hp->VK->Prop}{f:List D->Out D}(hc:CallR C.X (.builtin id) r)(hr:DCS C r f)(hs:scalA f)(hg:Gl C.X x)(hm:C.X.mg x=none)(hv:bootBuiltins x=some (.builtin id))(ha:DAB C (e::es) A)(hn:x≠"__name__":=by decide)(hdb:(x == ("__debug__":Str))=false:=by decide)
 (he:starEach (e::es) C.X.env=(false,eval e C.X.env)::starEach es C.X.env:=by rfl) (hpl:(backTo pos (starEach es C.X.env)).any (·.1)=false:=by rfl):DE C (.Call (.Name x p) (e::es) [] pos) (eA f A):=by
 obtain⟨t,p1,q1⟩:=ha
 exact⟨_,QfM hc hg hm hv p1 hn hdb he hpl,dcall hr hs q1⟩
theorem Qfj{r:List V->Hp->VK->Prop}{f:List D->Out D}(hc:CallR C.X (.type T) r)(hr:DCS C r f)(hs:scalA f)(hg:Gl C.X x)(hm:C.X.mg x=none)(hv:bootBuiltins x=some (.type T))(ha:DAB C (e::es) A)(hn:x≠"__name__":=by decide)(hdb:(x == ("__debug__":Str))=false:=by decide)
 (he:starEach (e::es) C.X.env=(false,eval e C.X.env)::starEach es C.X.env:=by rfl) (hpl:(backTo pos (starEach es C.X.env)).any (·.1)=false:=by rfl):DE C (.Call (.Name x p) (e::es) [] pos) (eA f A):=by
 obtain⟨t,p1,q1⟩:=ha
 exact⟨_,Qkc hc hg hm hv p1 hn hdb he hpl,dcall hr hs q1⟩
def fLen:List D->Out D
 | [.lst xs]=>.ok (.int xs.length)
 | [.tup xs]=>.ok (.int xs.length)
 | [.str x]=>if fits x.length=true then .ok (.int x.length) else .stuck
 | _=>.stuck
theorem Qlr:DCS C (fun xs H Q=>(∃ p ys,xs=[.ref p]/\(SqL C.X.K H p ys∨SqT C.X.K H p ys)/\Q (.int ys.length) H)∨∃ z,xs=[.str z]/\z.length<=sizeLine/\Q (.int z.length) H) fLen:=by
 intro G H σ ς Q xs vs S r q
 cases xs with
 | nil=>exact q.elim
 | cons x xr=>
  obtain⟨v,vr,rfl,r1,r2⟩:=r
  cases xr with
  | cons y yr=>cases x<;>exact q.elim
  | nil=>
   cases r2
   cases x with
   | lst ys=>
    obtain⟨p,us,rfl,h2,h3⟩:=r1
    exact .inl ⟨p,us,rfl,.inl h2,by rw[← h3.length];exact q.2⟩
   | tup ys=>
    obtain⟨p,us,rfl,h2,h3⟩:=r1
    exact .inl ⟨p,us,rfl,.inr h2,by rw[← h3.length];exact q.2⟩
   | str z=>
    cases r1
    rcases QF (show(if fits z.length=true then Out.ok (D.int z.length) else .stuck).post _ _ from q) with⟨hc,q⟩ | ⟨_,q⟩
    ·exact .inr ⟨z,rfl,of_decide_eq_true hc,q.2⟩
    ·exact q.elim
   | _=>exact q.elim
theorem QkK:scalA fLen:=by
 intro xs
 cases xs with
 | nil=>exact True.intro
 | cons x xr=>
  cases xr with
  | cons y yr=>cases x<;>exact True.intro
  | nil=>
   cases x with
   | lst ys=>exact rfl
   | tup ys=>exact rfl
   | str z=>exact QaQ rfl
   | _=>exact True.intro
theorem Qan(hg:Gl C.X "len")(hm:C.X.mg "len"=none)(ha:DAB C (e::es) A)
 (he:starEach (e::es) C.X.env=(false,eval e C.X.env)::starEach es C.X.env:=by rfl) (hpl:(backTo pos (starEach es C.X.env)).any (·.1)=false:=by rfl):DE C (.Call (.Name "len" p) (e::es) [] pos) (eA fLen A):=
 Qgu (Qgp.or Qgl) Qlr QkK hg hm PySem.boot_len ha (by decide) (by decide) he hpl
def f1(g:D->Out D):List D->Out D
 | [x]=>g x
 | _=>.stuck
theorem Qfa{g:D->Out D}(h:∀ x,match g x with | .ok d=>d.scal=true | .exc _=>False | .stuck=>True):scalA (f1 g):=by
 intro xs
 match xs with
 | []=>exact True.intro
 | [x]=>exact h x
 | _::_::_=>exact True.intro
def dAbs:D->Out D
 | .int i=>.ok (.int (if i<0 then -i else i))
 | _=>.stuck
theorem QfR{r:List V->Hp->VK->Prop}{g:D->Out D}(h:∀ G H σ ς (Q:VK) x v,StR C G H σ ς->Rep C.X.K C.CT H x v->(g x).post (fun d=>d.scal=true/\Q (toV d) H) (fun _=>False)->r [v] H Q):DCS C r (f1 g):=by
 intro G H σ ς Q xs vs S r q
 match xs,r with
 | [],_=>exact q.elim
 | [x],⟨v,vr,e1,r1,r2⟩=>cases r2;subst e1;exact h G H σ ς Q x v S r1 q
 | _::_::_,_=>exact q.elim
end
mutual
def D.py:D->PyData
 | .non=>.none
 | .bl b=>.bool b
 | .int i=>.int i
 | .str x=>.str x
 | .lst xs=>.list (D.pys xs)
 | .tup xs=>.tuple (D.pys xs)
 | .dic _=>.dict []
 | .ins _ _=>.dict []
 | .err _=>.dict []
def D.pys:List D->List PyData
 | []=>[]
 | x::xs=>D.py x::D.pys xs
end
section
variable{X:Cx}{pins:List (Addr×Obj)}{σ:L2.St}{H:Hp}{s:Shared}{CT:CTab}
mutual
theorem Qci(I:Inv X pins σ H s):∀(d:D)(v:V)(u:Value),Rep X.K CT H d v->RelV v u->d.py.canLay0=true->∃ as,Reads s.heap u d.py as
 | .non,_,_,h,r,_=>by cases h;cases r;exact⟨_,.none⟩
 | .bl b,_,_,h,r,_=>by cases h;cases r;exact⟨_,.bool b⟩
 | .int i,_,_,h,r,_=>by cases h;obtain⟨t,rfl⟩:=r;exact⟨_,.int i t⟩
 | .str x,_,_,h,r,_=>by cases h;obtain⟨t,rfl⟩:=r;exact⟨_,.str x t⟩
 | .lst ds,_,_,⟨a,vs,h1,h2,h3⟩,r,c=>by
  subst h1;cases r
  obtain⟨its,q,⟨o,n,ho,hc,_,hd⟩,_⟩:=I.list h2
  obtain⟨as,ra⟩:=QdK I ds vs its h3 q (by simpa [D.py,PyData.canLay0] using c)
  exact⟨_,.list ho hc hd (by simpa using ra)⟩
 | .tup ds,_,_,⟨a,vs,h1,h2,h3⟩,r,c=>by
  subst h1;cases r
  obtain⟨its,q,⟨o,ho,hc,n,hd⟩,_⟩:=I.tuple h2
  obtain⟨as,ra⟩:=QdK I ds vs its h3 q (by simpa [D.py,PyData.canLay0] using c)
  exact⟨_,.tuple ho hc hd (by simpa using ra)⟩
 | .dic _,_,_,_,_,c=>by simp[D.py,PyData.canLay0]at c
 | .ins _ _,_,_,_,_,c=>by simp[D.py,PyData.canLay0]at c
 | .err _,_,_,_,_,c=>by simp[D.py,PyData.canLay0]at c
theorem QdK(I:Inv X pins σ H s):∀(ds:List D)(vs:List V)(us:List Value),RepL X.K CT H ds vs->Vals vs us->PyData.canLayAll0 (D.pys ds)=true->∃ as,ReadsAll s.heap us (D.pys ds) as
 | [],_,_,h,r,_=>by cases h;cases r;exact⟨_,.nil⟩
 | d::ds,_,_,⟨v,w,h1,h2,h3⟩,r,c=>by
  subst h1
  cases r with
  | cons r1 r2=>
   have c':d.py.canLay0=true/\PyData.canLayAll0 (D.pys ds)=true:=by simpa [D.pys,PyData.canLayAll0] using c
   obtain⟨as,q1⟩:=Qci I d v _ h2 r1 c'.1
   obtain⟨bs,q2⟩:=QdK I ds w _ h3 r2 c'.2
   exact⟨_,.cons q1 q2⟩
end
end
def shp(d:D):Bool:=SeqAt.shaped d.py
def dEq(x y:D):Out D:=if (shp x&&shp y)=true then .ok (.bl (PyData.eqv x.py y.py)) else .stuck
def dNe(x y:D):Out D:=if (shp x&&shp y)=true then .ok (.bl (!PyData.eqv x.py y.py)) else .stuck
section
variable{C:Dc}{a b:Expr}{A B:SD->Out D}{pos:Pos}
def rEqD(C:Dc)(n:Bool):R2:=fun vx vy H Q=>∃ x y,Rep C.X.K C.CT H x vx/\Rep C.X.K C.CT H y vy/\shp x=true/\shp y=true/\Q (.bl (n != PyData.eqv x.py y.py)) H
theorem QjA(hu:C.X.A.units+64<cLine):OpR C.X (compareOp .Eq) (rEqD C false):=by
 intro pins s σ H vx vy u w Q I rx ry h
 obtain⟨x,y,h1,h2,h3,h4,q⟩:=h
 obtain⟨as,ra⟩:=Qci I x vx u h1 rx (SeqAt.canLay_of_shaped h3)
 obtain⟨bs,rb⟩:=Qci I y vy w h2 ry (SeqAt.canLay_of_shaped h4)
 exact eq_dataH ra rb h3 h4 hu ⟨.bl _,H,I,rfl,by simpa using q⟩
theorem Qkj(hu:C.X.A.units+64<cLine):OpR C.X (compareOp .NotEq) (rEqD C true):=by
 intro pins s σ H vx vy u w Q I rx ry h
 obtain⟨x,y,h1,h2,h3,h4,q⟩:=h
 obtain⟨as,ra⟩:=Qci I x vx u h1 rx (SeqAt.canLay_of_shaped h3)
 obtain⟨bs,rb⟩:=Qci I y vy w h2 ry (SeqAt.canLay_of_shaped h4)
 exact ne_dataH ra rb h3 h4 hu ⟨.bl _,H,I,rfl,by simpa using q⟩
theorem Qkf:DRS C (rEqD C false) dEq:=by
 intro G H σ ς Q x y vx vy S hx hy q
 rcases QF q with⟨hc,q⟩ | ⟨_,q⟩
 ·rw[Bool.and_eq_true]at hc
  exact⟨x,y,hx,hy,hc.1,hc.2,by simpa [toV] using q.2⟩
 ·exact q.elim
theorem Qjr:DRS C (rEqD C true) dNe:=by
 intro G H σ ς Q x y vx vy S hx hy q
 rcases QF q with⟨hc,q⟩ | ⟨_,q⟩
 ·rw[Bool.and_eq_true]at hc
  exact⟨x,y,hx,hy,hc.1,hc.2,by simpa [toV] using q.2⟩
 ·exact q.elim
theorem QhV:scal2 dEq:=fun x y=>QaQ rfl
theorem Qia:scal2 dNe:=fun x y=>QaQ rfl
theorem dt_lt(ha:DB C a A)(hb:DB C b B):DT C (.Compare a [.Lt] [b] pos) (tVal (e2 dLt A B)):=Qcn op_lt QaN (Qar fun _ _=>rfl) ha hb (QbR _)
theorem dt_gt(ha:DB C a A)(hb:DB C b B):DT C (.Compare a [.Gt] [b] pos) (tVal (e2 dGt A B)):=Qcn op_gt QaN (Qar fun _ _=>rfl) ha hb (QbR _)
theorem dt_ge(ha:DB C a A)(hb:DB C b B):DT C (.Compare a [.GtE] [b] pos) (tVal (e2 dGe A B)):=Qcn op_ge QaN (Qar fun _ _=>rfl) ha hb (QbR _)
theorem de_eq(hu:C.X.A.units+64<cLine)(ha:DB C a A)(hb:DB C b B):DE C (.Compare a [.Eq] [b] pos) (e2 dEq A B):=QeL (QjA hu) Qkf QhV ha hb (QbR _)
theorem de_ne(hu:C.X.A.units+64<cLine)(ha:DB C a A)(hb:DB C b B):DE C (.Compare a [.NotEq] [b] pos) (e2 dNe A B):=QeL (Qkj hu) Qjr Qia ha hb (QbR _)
theorem dt_eq(hu:C.X.A.units+64<cLine)(ha:DB C a A)(hb:DB C b B):DT C (.Compare a [.Eq] [b] pos) (tVal (e2 dEq A B)):=Qcn (QjA hu) Qkf QhV ha hb (QbR _)
theorem dt_ne(hu:C.X.A.units+64<cLine)(ha:DB C a A)(hb:DB C b B):DT C (.Compare a [.NotEq] [b] pos) (tVal (e2 dNe A B)):=Qcn (Qkj hu) Qjr Qia ha hb (QbR _)
end
end DL
namespace DL
open PySem PySem.Spec PyProof.Rows L2
def isD:D->D->Bool
 | .non,.non=>true
 | .bl a,.bl b=>a == b
 | _,_=>false
def cstD:D->Bool
 | .non=>true
 | .bl _=>true
 | _=>false
def Qer(x y:D):Out D:=if cstD y=true then .ok (.bl (!isD x y)) else .stuck
section
variable{C:Dc}{a b:Expr}{A B:SD->Out D}{pos:Pos}
def rIs(C:Dc)(n:Bool):R2:=fun vx vy H Q=>∃ x y,Rep C.X.K C.CT H x vx/\Rep C.X.K C.CT H y vy/\cstD y=true/\Q (.bl (n != isD x y)) H
theorem Qj9{M:Model}{A:Around}{E:Value->Shared->Prop}{s:Shared}{Q:Value->Shared->Prop}{v:Value}{c:Bool}{x:V}(r:RelV x v)(h:Q (.bool (!(v == .bool c))) s):wpAny M A (compareOp .IsNot v (.bool c)) Q E s:=by
 cases x<;>first
  | (cases r;exact wpAny_pure h)
  | (obtain⟨t,rfl⟩:=r;exact wpAny_pure h)
theorem Qlt{K:PySem.W.Frag}{CT:CTab}{H:Hp}{x:D}{v:V}{u:Value}(h:Rep K CT H x v)(r:RelV v u):(u == Value.none)=isD x .non:=by
 cases x with
 | non=>cases h;cases r;rfl
 | bl _=>cases h;cases r;rfl
 | int _=>cases h;obtain⟨t,rfl⟩:=r;rfl
 | str _=>cases h;obtain⟨t,rfl⟩:=r;rfl
 | lst _=>obtain⟨a,vs,rfl,_⟩:=h;cases r;rfl
 | tup _=>obtain⟨a,vs,rfl,_⟩:=h;cases r;rfl
 | dic _=>obtain⟨a,vs,rfl,_⟩:=h;cases r;rfl
 | ins _ _=>obtain⟨a,_,_,_,rfl,_⟩:=h;cases r;rfl
 | err _=>obtain⟨a,_,rfl,_⟩:=h;cases r;rfl
theorem QmN{K:PySem.W.Frag}{CT:CTab}{H:Hp}{x:D}{v:V}{u:Value}{c:Bool}(h:Rep K CT H x v)(r:RelV v u):(u == Value.bool c)=isD x (.bl c):=by
 cases x with
 | non=>cases h;cases r;rfl
 | bl d=>cases h;cases r;cases c<;>cases d<;>rfl
 | int _=>cases h;obtain⟨t,rfl⟩:=r;rfl
 | str _=>cases h;obtain⟨t,rfl⟩:=r;rfl
 | lst _=>obtain⟨a,vs,rfl,_⟩:=h;cases r;rfl
 | tup _=>obtain⟨a,vs,rfl,_⟩:=h;cases r;rfl
 | dic _=>obtain⟨a,vs,rfl,_⟩:=h;cases r;rfl
 | ins _ _=>obtain⟨a,_,_,_,rfl,_⟩:=h;cases r;rfl
 | err _=>obtain⟨a,_,rfl,_⟩:=h;cases r;rfl
theorem QkY:OpR C.X (compareOp .IsNot) (rIs C true):=by
 intro pins s σ H vx vy u w Q I rx ry h
 obtain⟨x,y,h1,h2,h3,q⟩:=h
 cases y with
 | non=>cases h2;cases ry;exact isnot_none_gen ⟨.bl _,H,I,by rw[Qlt h1 rx];rfl,by simpa using q⟩
 | bl c=>cases h2;cases ry;exact Qj9 rx ⟨.bl _,H,I,by rw[QmN h1 rx];rfl,by simpa using q⟩
 | _=>cases h3
theorem QjQ:DRS C (rIs C true) Qer:=by
 intro G H σ ς Q x y vx vy S hx hy q
 rcases QF q with⟨hc,q⟩ | ⟨_,q⟩
 ·exact⟨x,y,hx,hy,hc,by simpa [toV] using q.2⟩
 ·exact q.elim
theorem QkO(ha:DB C a A)(hb:DB C b B):DE C (.Compare a [.IsNot] [b] pos) (e2 Qer A B):=QeL QkY QjQ (fun _ _=>QaQ rfl) ha hb (QbR _)
end
def QJ:D->String
 | .non=>"NoneType"
 | .bl _=>"bool"
 | .int _=>"int"
 | .str _=>"str"
 | .lst _=>"list"
 | .tup _=>"tuple"
 | .dic _=>"dict"
 | .ins _ _=>"object"
 | .err _=>"object"
structure ClsD(K:PySem.W.Frag)(A:Addr):Prop where
 cl:Cls K A
 ha:PySem.W.findIn K (.ref A) "__class__"=some (some (.builtin "object.__class__"))
 hn:PySem.W.specialIn K (.builtin "object.__class__") "__get__"=some (some (.builtin "getset_descriptor.__get__"))
 htk:PySem.W.takesIn K (.builtin "object.__class__")=some true
 hm:PySem.W.mroIn K A (.type "object")=some true
def KitD(K:PySem.W.Frag)(CT:CTab)(d:D)(uc:Value)(b:Bool):Prop:=match d with
 | .ins c _=>∀ A,CT c=some A->ClsD K A/\PySem.W.kitOne K (.ref A) uc=some b
 | .err c=>∀ A,CT c=some A->ExCls K A/\PySem.W.kitOne K (.ref A) uc=some b
 | d=>PySem.W.kitOne K (.type (QJ d)) uc=some b
section
variable{C:Dc}{e cx:Expr}{E:SD->Out D}{p pos:Pos}{vc:V}{uc:Value}
theorem QlC{pins:List (Addr×Obj)}{σ:L2.St}{H:Hp}{s:Shared}{A:Around}{Ex:Value->Shared->Prop}{Q:Value->Shared->Prop}{d:D}{v:V}{u:Value}{b:Bool}(I:Inv C.X pins σ H s)(h:Rep C.X.K C.CT H d v)(r:RelV v u)(k:KitD C.X.K C.CT d uc b)
 (q:∀ tk,Q (.bool b) { s with toks:=tk }):wpAny (model C.X.prog C.X.w) A (call (.builtin "isinstance") [u,uc]) Q Ex s:=by
 cases d with
 | non=>cases h;cases r;exact PySem.W.kia_one PySem.W.kitx_none I.kIn True.intro k (fun z=>nomatch z) q
 | bl y=>cases h;cases r;exact PySem.W.kia_one PySem.W.kitx_bool I.kIn True.intro k (fun z=>nomatch z) q
 | int i=>cases h;obtain⟨t,rfl⟩:=r;exact PySem.W.kia_one PySem.W.kitx_int I.kIn True.intro k (fun z=>nomatch z) q
 | str i=>cases h;obtain⟨t,rfl⟩:=r;exact PySem.W.kia_one PySem.W.kitx_str I.kIn True.intro k (fun z=>nomatch z) q
 | lst ds=>
  obtain⟨a,vs,rfl,h2,_⟩:=h;cases r
  obtain⟨its,_,⟨o,n,ho,hc,_⟩,_⟩:=I.list h2
  exact PySem.W.kia_one PySem.W.kitx_list I.kIn ⟨o,ho,hc⟩ k (fun z=>nomatch z) q
 | tup ds=>
  obtain⟨a,vs,rfl,h2,_⟩:=h;cases r
  obtain⟨its,_,⟨o,ho,hc,_⟩,_⟩:=I.tuple h2
  exact PySem.W.kia_one PySem.W.kitx_tuple I.kIn ⟨o,ho,hc⟩ k (fun z=>nomatch z) q
 | dic ds=>
  obtain⟨a,kvs,rfl,h2,_⟩:=h;cases r
  obtain⟨_,_,vs,_,p⟩:=h2.ok I.hok
  obtain⟨o,es,ep,h1,h2,_⟩:=p
  exact PySem.W.kia_one PySem.W.kitx_dict I.kIn ⟨o,h1,h2.1⟩ k (fun z=>nomatch z) q
 | ins c fs=>
  obtain⟨a,A',dx,fs',rfl,h1,h2,_⟩:=h;cases r
  obtain⟨cd,kk⟩:=k A' h1
  obtain⟨mA,O,_⟩:=QlF I.hok h2
  obtain⟨od,J,_⟩:=O.look
  exact PySem.W.kia_one (PySem.W.kitx_own (cd.cl.get _) cd.cl.hd cd.ha cd.hn cd.htk cd.hm) I.kIn J kk (fun z=>nomatch z) q
 | err c=>
  obtain⟨a,A',rfl,h1,h2⟩:=h;cases r
  obtain⟨cd,kk⟩:=k A' h1
  obtain⟨J,_⟩:=(show ObjOk C.X.prog C.X.w H s.heap a (exO a A') from I.hok a _ h2)
  exact PySem.W.kia_one (Qlb cd) I.kIn J kk (fun z=>nomatch z) q
def clsV:V->Option Value
 | .ty n=>some (.type n)
 | .ref a=>some (.ref a)
 | _=>none
def eIsa(f:D->Out Bool)(a:SD->Out D):SD->Out D:=fun ς=>a ς>>=fun d=>f d>>=fun b=>.ok (.bl b)
theorem QmY{f:D->Out Bool}(hc:PE C.X cx (tC vc))(rc:clsV vc=some uc)(hf:∀ d,match f d with | .ok b=>KitD C.X.K C.CT d uc b | .exc _=>False | .stuck=>True)(hg:Gl C.X "isinstance")(hm:C.X.mg "isinstance"=none)(h:DB C e E)
 (he:starEach (e::[cx]) C.X.env=(false,eval e C.X.env)::starEach [cx] C.X.env:=by rfl) (he2:starEach (cx::[]) C.X.env=(false,eval cx C.X.env)::starEach [] C.X.env:=by rfl)
 (hpl:(backTo pos (starEach [cx] C.X.env)).any (·.1)=false:=by rfl):DE C (.Call (.Name "isinstance" p) [e,cx] [] pos) (eIsa f E):=by
 obtain⟨t,p1,q1⟩:=h
 have hR:CallR C.X (.builtin "isinstance") (fun xs H Q=>∃ d x b,xs=[x,vc]/\Rep C.X.K C.CT H d x/\KitD C.X.K C.CT d uc b/\Q (.bl b) H):=by
  intro pins s σ H xs us Q I r h
  obtain⟨d,x,b,rfl,h1,h2,q⟩:=h
  obtain⟨u,w,rfl,r1,r2⟩:=vals2 r
  have:w=uc:=by
   cases vc<;>first
    | (cases rc;cases r2;rfl)
    | cases rc
  subst this
  exact QlC I h1 r1 h2 fun tk=>⟨.bl b,H,I.tok _,rfl,q⟩
 refine⟨_,QfM hR hg hm PyProof.Rows.Boot.«isinstance» (QaZ p1 (QaZ hc Qck he2) he) (by decide) (by decide) he hpl,fun G H σ ς Q S q=>?_⟩
 unfold eIsa at q
 rw[Out.post_bind]at q
 refine q1 G H σ ς _ S (Out.post_mono q fun d k v1 H1 G1 S1 a1 b1 r1=>?_)
 rw[Out.post_bind]at k
 have hd:=hf d
 cases e:f d with
 | exc _=>rw[e]at hd;exact hd.elim
 | stuck=>rw[e]at k;exact k.elim
 | ok b=>
  rw[e]at k hd
  exact⟨d,v1,b,rfl,r1,hd,KD.now (KD.later (show KD C G H σ ς Q (.bl b) from k) a1 b1) S1 rfl⟩
end
end DL
namespace DL
open PySem PySem.Spec PyProof.Rows L2
section
variable{C:Dc}{G H:Hp}{σ:St}{ς:SD}
theorem QH{α:Type}{xs:List α}{i j:Nat}{x y:α}(h:(xs.set i x)[j]?=some y):(i=j/\y=x/\i<xs.length)∨(i≠j/\xs[j]?=some y):=by
 rw[List.getElem?_set]at h
 by_cases e:i=j
 ·rw[if_pos e]at h
  by_cases l:i<xs.length
  ·rw[if_pos l]at h;exact .inl ⟨e,(Option.some.inj h).symm,l⟩
  ·rw[if_neg l]at h;cases h
 ·rw[if_neg e]at h;exact .inr ⟨e,h⟩
theorem QcS{α:Type}{xs:List α}{i:Nat}{x:α}(h:i<xs.length):(xs.set i x)[i]?=some x:=by
 rw[List.getElem?_set,if_pos rfl,if_pos h]
theorem Qr{α:Type}{xs:List α}{i j:Nat}{x:α}(h:i≠j):(xs.set i x)[j]?=xs[j]?:=by
 rw[List.getElem?_set,if_neg h]
theorem StR.set(S:StR C G H σ ς){d:D}{v:V}(i:Nat)(r:Rep C.X.K C.CT G d v):StR C G H (σ.set i (some v)) (ς.set i (some (.k,d))) where
 toGH:=S.toGH
 len:=by rw[List.length_set,List.length_set];exact S.len
 fz:=fun j e h=>by
  rcases QH h with⟨rfl,h2,l⟩ | ⟨ne,h2⟩
  ·cases h2
   exact⟨v,QcS (by rw[S.len];exact l),r⟩
  ·rw[Qr ne];exact S.fz j e h2
 ow:=fun j e h=>by
  rcases QH h with⟨rfl,h2,l⟩ | ⟨ne,h2⟩
  ·cases h2
  ·rw[Qr ne];exact S.ow j e h2
 ln:=fun j e h=>by
  rcases QH h with⟨rfl,h2,l⟩ | ⟨ne,h2⟩
  ·cases h2
  ·rw[Qr ne];exact S.ln j e h2
 inj:=fun j k d1 d2 p hjk h1 h2 h3=>by
  rcases QH h1 with⟨rfl,q1,l⟩ | ⟨n1,q1⟩
  ·cases q1
  ·rcases QH h2 with⟨rfl,q2,l⟩ | ⟨n2,q2⟩
   ·cases q2
   ·rw[Qr n1]at h3
    rw[Qr n2];exact S.inj j k d1 d2 p hjk q1 q2 h3
 sf:=fun j e h=>by
  rcases QH h with⟨rfl,h2,l⟩ | ⟨ne,h2⟩
  ·cases h2
  ·rw[Qr ne];exact S.sf j e h2
 su:=fun j k d1 d2 p hjk h1 h2 h3=>by
  rcases QH h1 with⟨rfl,q1,l⟩ | ⟨n1,q1⟩
  ·cases q1
  ·rcases QH h2 with⟨rfl,q2,l⟩ | ⟨n2,q2⟩
   ·cases q2
   ·rw[Qr n1]at h3
    rw[Qr n2];exact S.su j k d1 d2 p hjk q1 q2 h3
theorem StR.setO(S:StR C G H σ ς){d:D}{p:Addr}(i:Nat)(hg:G p=none)(h0:C.H0 p=none)(ow:Own C.X.K C.CT G H p d)(hn:∀(j:Nat) e,j≠i->ς[j]?=some (some (.o,e))->σ[j]?≠some (some (.ref p))):
 StR C G H (σ.set i (some (.ref p))) (ς.set i (some (.o,d))) where
 toGH:=S.toGH
 len:=by rw[List.length_set,List.length_set];exact S.len
 fz:=fun j e h=>by
  rcases QH h with⟨rfl,h2,l⟩ | ⟨ne,h2⟩
  ·cases h2
  ·rw[Qr ne];exact S.fz j e h2
 ow:=fun j e h=>by
  rcases QH h with⟨rfl,h2,l⟩ | ⟨ne,h2⟩
  ·cases h2
   exact⟨p,QcS (by rw[S.len];exact l),hg,h0,ow⟩
  ·rw[Qr ne];exact S.ow j e h2
 ln:=fun j e h=>by
  rcases QH h with⟨rfl,h2,l⟩ | ⟨ne,h2⟩
  ·cases h2
  ·rw[Qr ne];exact S.ln j e h2
 inj:=fun j k d1 d2 q hjk h1 h2 h3=>by
  rcases QH h1 with⟨rfl,q1,l1⟩ | ⟨n1,q1⟩
  ·rcases QH h2 with⟨rfl,q2,l⟩ | ⟨n2,q2⟩
   ·exact absurd rfl hjk
   ·rw[QcS (by rw[S.len];exact l1)]at h3
    cases h3
    rw[Qr n2];exact hn k d2 (Ne.symm n2) q2
  ·rcases QH h2 with⟨rfl,q2,l⟩ | ⟨n2,q2⟩
   ·rw[Qr n1]at h3
    rw[QcS (by rw[S.len];exact l)]
    intro z;cases z
    exact hn j d1 (Ne.symm n1) q1 h3
   ·rw[Qr n1]at h3
    rw[Qr n2];exact S.inj j k d1 d2 q hjk q1 q2 h3
 sf:=fun j e h=>by
  rcases QH h with⟨rfl,h2,l⟩ | ⟨ne,h2⟩
  ·cases h2
  ·rw[Qr ne];exact S.sf j e h2
 su:=fun j k d1 d2 p hjk h1 h2 h3=>by
  rcases QH h1 with⟨rfl,q1,l⟩ | ⟨n1,q1⟩
  ·cases q1
  ·rcases QH h2 with⟨rfl,q2,l⟩ | ⟨n2,q2⟩
   ·cases q2
   ·rw[Qr n1]at h3
    rw[Qr n2];exact S.su j k d1 d2 p hjk q1 q2 h3
end
def sNil:SD->Out Fl:=fun ς=>.ok (.nx ς)
def thenF(U:SD->Out Fl):Fl->Out Fl
 | .nx ς=>U ς
 | .rt b d=>.ok (.rt b d)
 | .bk ς=>.ok (.bk ς)
 | .ct ς=>.ok (.ct ς)
def sSeq(T U:SD->Out Fl):SD->Out Fl:=fun ς=>T ς>>=thenF U
section
variable{C:Dc}{e:Expr}{E:SD->Out D}{st:Stmt}{rest:List Stmt}{T U:SD->Out Fl}{pos:Pos}
theorem FlK.later{G G1:Hp}{W:Ends}{f:Fl}(h:FlK C G W f)(s:Same G G1):FlK C G1 W f:=by
 cases f with
 | nx ς=>exact fun σ' H' G' S q=>h σ' H' G' S (s.trans q)
 | bk ς=>exact fun σ' H' G' S q=>h σ' H' G' S (s.trans q)
 | ct ς=>exact fun σ' H' G' S q=>h σ' H' G' S (s.trans q)
 | rt b d=>exact fun σ' H' G' S q=>h σ' H' G' S (s.trans q)
theorem Qm:DSs C [] sNil:=⟨_,Qls,fun G H σ ς W S q=>q σ H G S (Same.refl G)⟩
theorem Qd(h1:DS C st T)(h2:DSs C rest U):DSs C (st::rest) (sSeq T U):=by
 obtain⟨t1,p1,q1⟩:=h1
 obtain⟨t2,p2,q2⟩:=h2
 refine⟨_,Qlm p1 p2,fun G H σ ς W S q=>?_⟩
 unfold sSeq at q
 rw[Out.post_bind]at q
 refine q1 G H σ ς _ S (Out.post_mono q fun f k=>?_)
 cases f with
 | nx ς'=>exact fun σ' H' G' S' s'=>q2 G' H' σ' ς' W S' (Out.post_mono (show(U ς').post _ _ from k) fun f k=>FlK.later k s')
 | bk ς'=>exact k
 | ct ς'=>exact k
 | rt b d=>exact k
theorem Qe(h1:DS C st T):DSs C [st] T:=let ⟨t,p,q⟩:=h1;⟨t,Ql7 p,q⟩
def sSet(i:Nat)(E:SD->Out D):SD->Out Fl:=fun ς=>E ς>>=fun d=>.ok (.nx (ς.set i (some (.k,d))))
def sSetO(i:Nat)(E:SD->Out D):SD->Out Fl:=fun ς=>E ς>>=fun d=>.ok (.nx (ς.set i (some (.o,d))))
theorem Qw{i:Nat}{x:Str}{pos':Pos}(hN:C.X.N.Nodup)(hi:C.X.N[i]?=some x)(hx:Loc C.X.env.scope x)(he:DE C e E)(hs:swapsWith e (some (.Name x pos')) pos.line C.X.env=pure false:=by rfl)
 (hf:C.X.fn x=true∨C.X.env.scope.names.lookup x=some .local:=by first | exact .inl rfl | exact .inr rfl | assumption):DS C (.Assign [.Name x pos'] e pos) (sSet i E):=by
 obtain⟨t,p,q⟩:=he
 refine⟨_,Qko hN hi hx p hs hf,fun G H σ ς W S k=>?_⟩
 unfold sSet at k
 rw[Out.post_bind]at k
 exact q G H σ ς _ S (Out.post_mono k fun d k v H1 G1 S1 a1 b1 r1=>k _ H1 G1 (S1.set i r1) b1)
theorem Qlu{i:Nat}{x:Str}{pos':Pos}(hN:C.X.N.Nodup)(hi:C.X.N[i]?=some x)(hx:Loc C.X.env.scope x)(he:DF C e E)(hs:swapsWith e (some (.Name x pos')) pos.line C.X.env=pure false:=by rfl)
 (hf:C.X.fn x=true∨C.X.env.scope.names.lookup x=some .local:=by first | exact .inl rfl | exact .inr rfl | assumption):DS C (.Assign [.Name x pos'] e pos) (sSetO i E):=by
 obtain⟨t,p,q⟩:=he
 refine⟨_,Qko hN hi hx p hs hf,fun G H σ ς W S k=>?_⟩
 unfold sSetO at k
 rw[Out.post_bind]at k
 exact q G H σ ς _ S (Out.post_mono k fun d k p H1 G1 S1 a1 b1 hp hg ow=>k _ H1 G1 (S1.setO i hg (S.h0none hp) ow fun j e _ z=>S.new_ne hp j e z) b1)
def sPar(i j:Nat)(A:SD->Out (List D)):SD->Out Fl:=fun ς=>A ς>>=fun ds=>match ds with
 | [x,y]=>.ok (.nx ((ς.set i (some (.k,x))).set j (some (.k,y))))
 | _=>.stuck
def Qab:List Nat->List D->SD->Out SD
 | [],[],ς=>.ok ς
 | i::is,d::ds,ς=>Qab is ds (ς.set i (some (.k,d)))
 | _,_,_=>.stuck
def DGs(C:Dc)(es:List Expr)(is:List Nat):Prop:=∃ t,PGs C.X es t/\∀ G H σ ς ds vs ς' (Q:St->Hp->Prop),StR C G H σ ς->RepL C.X.K C.CT G ds vs->Qab is ds ς=.ok ς'->
 (∀ σ',StR C G H σ' ς'->Q σ' H)->t vs σ H Q
theorem QhX:DGs C [] []:=by
 refine⟨_,Qmi,fun G H σ ς ds vs ς' Q S r h q=>?_⟩
 cases ds with
 | nil=>
  cases h
  exact⟨r,q σ S⟩
 | cons d ds=>cases h
theorem Qdi{i:Nat}{is:List Nat}{x:Str}{es:List Expr}(hN:C.X.N.Nodup)(hi:C.X.N[i]?=some x)(hx:Loc C.X.env.scope x)(h2:DGs C es is)
 (hf:C.X.fn x=true∨C.X.env.scope.names.lookup x=some .local:=by first | exact .inl rfl | exact .inr rfl | assumption)
 (hs:(assignEach (.Name x pos::es) C.X.env).map (·.2)=assign (.Name x pos) C.X.env::(assignEach es C.X.env).map (·.2):=by rfl):DGs C (.Name x pos::es) (i::is):=by
 obtain⟨t,p,q⟩:=h2
 refine⟨_,Qk5 (Qh4 hN hi hx hf) p hs,fun G H σ ς ds vs ς' Q S r h k=>?_⟩
 cases ds with
 | nil=>cases h
 | cons d ds=>
  obtain⟨v,w,rfl,r1,r2⟩:=r
  exact⟨v,w,rfl,q G H _ _ ds w ς' Q (S.set i r1) r2 h k⟩
def sUnp(is:List Nat)(E:SD->Out D):SD->Out Fl:=fun ς=>E ς>>=fun d=>match d with
 | .tup ds=>Qab is ds ς>>=fun ς'=>.ok (.nx ς')
 | _=>.stuck
theorem QeA:∀{is:List Nat}{ds:List D}{ς ς':SD},Qab is ds ς=.ok ς'->ds.length=is.length
 | [],[],_,_,_=>rfl
 | i::is,d::ds,ς,ς',h=>by
  have:=QeA (is:=is) (ds:=ds) h
  simp[this]
 | [],_::_,_,_,h=>by cases h
 | _::_,[],_,_,h=>by cases h
def sRet(E:SD->Out D):SD->Out Fl:=fun ς=>E ς>>=fun d=>.ok (.rt false d)
def sRetF(E:SD->Out D):SD->Out Fl:=fun ς=>E ς>>=fun d=>.ok (.rt true d)
theorem Qp(he:DE C e E):DS C (.Return (some e) pos) (sRet E):=by
 obtain⟨t,p,q⟩:=he
 refine⟨_,Qga p,fun G H σ ς W S k=>?_⟩
 unfold sRet at k
 rw[Out.post_bind]at k
 exact q G H σ ς _ S (Out.post_mono k fun d k v H1 G1 S1 a1 b1 r1=>k v H1 G1 S1.toGH b1 r1)
theorem QdY(he:DF C e E):DS C (.Return (some e) pos) (sRetF E):=by
 obtain⟨t,p,q⟩:=he
 refine⟨_,Qga p,fun G H σ ς W S k=>?_⟩
 unfold sRetF at k
 rw[Out.post_bind]at k
 exact q G H σ ς _ S (Out.post_mono k fun d k p H1 G1 S1 a1 b1 hp hg ow=>k _ H1 G1 S1.toGH b1 ⟨p,rfl,S.h0none hp,hg,ow⟩)
def sRetO(i:Nat):SD->Out Fl:=fun ς=>match ς[i]? with | some (some (.o,d))=>.ok (.rt true d) | _=>.stuck
theorem Ql5(i:Nat){x:Str}{px:Pos}(hN:C.X.N[i]?=some x:=by rfl)(hv:Vis C.X.env.scope x:=by first | exact Or.inl rfl | exact Or.inr (oi rfl) | exact Or.inr (Or.inr rfl))
 (hd:(x == ("__debug__":Str))=false:=by decide) (hcd:(x == ("__classdict__":Str))=false:=by decide):DS C (.Return (some (.Name x px)) pos) (sRetO i):=by
 refine⟨_,Qga (QdI (i:=i) hN hv hd hcd),fun G H σ ς W S k=>?_⟩
 unfold sRetO at k
 split at k
 ·rename_i d z
  obtain⟨p,a,b,c,w⟩:=S.ow i d z
  exact⟨_,a,k _ H G S.toGH (Same.refl G) ⟨p,rfl,c,b,w⟩⟩
 ·exact k.elim
def sIf(c:SD->Out Bool)(T U:SD->Out Fl):SD->Out Fl:=fun ς=>c ς>>=fun b=>if b=true then T ς else U ς
theorem ds_if{c:Expr}{a b:List Stmt}{TC:SD->Out Bool}(hc:DT C c TC)(ha:DSs C a T)(hb:DSs C b U):DS C (.If c a b pos) (sIf TC T U):=by
 obtain⟨t0,p0,q0⟩:=hc
 obtain⟨t1,p1,q1⟩:=ha
 obtain⟨t2,p2,q2⟩:=hb
 refine⟨_,ps_if p0 p1 p2,fun G H σ ς W S k=>?_⟩
 unfold sIf at k
 rw[Out.post_bind]at k
 refine q0 G H σ ς _ S (Out.post_mono k fun b k H1 G1 S1 a1 b1=>?_)
 cases b with
 | true=>exact iteT (q1 G1 H1 σ ς W S1 (Out.post_mono (show(T ς).post _ _ from k) fun f k=>FlK.later k b1))
 | false=>exact iteF (q2 G1 H1 σ ς W S1 (Out.post_mono (show(U ς).post _ _ from k) fun f k=>FlK.later k b1))
def QaH:SD->Out Fl:=fun _=>.stuck
theorem Qc8:DS C st QaH:=⟨_,Qlc,fun G H σ ς W S k=>k.elim⟩
theorem Qbh{sts:List Stmt}:DSs C sts QaH:=⟨_,Qjl,fun G H σ ς W S k=>k.elim⟩
end
def loopD(body:D->SD->Out Fl):List D->SD->Out Fl
 | [],ς=>.ok (.nx ς)
 | x::xs,ς=>body x ς>>=fun f=>match f with
  | .nx ς'=>loopD body xs ς'
  | .ct ς'=>loopD body xs ς'
  | .bk ς'=>.ok (.nx ς')
  | .rt b d=>.ok (.rt b d)
def DG(C:Dc)(tg:Expr)(g:D->SD->Out SD):Prop:=∃ t,PG C.X tg t/\∀ G H σ ς d v ς' (Q:St->Hp->Prop),StR C G H σ ς->Rep C.X.K C.CT G d v->g d ς=.ok ς'->(∀ σ',StR C G H σ' ς'->Q σ' H)->t v σ H Q
def gN(i:Nat):D->SD->Out SD:=fun d ς=>.ok (ς.set i (some (.k,d)))
def gT(is:List Nat):D->SD->Out SD:=fun d ς=>match d with | .tup ds=>Qab is ds ς | _=>.stuck
def noExc{α β γ : Type}(g:α->β->Out γ):Prop:=∀ a b x,g a b≠.exc x
theorem Qcm(i:Nat):noExc (gN i):=fun _ _ _ h=>by cases h
theorem Qf7(is:List Nat):∀(ds:List D) (ς:SD) x,Qab is ds ς≠.exc x:=by
 induction is with
 | nil=>intro ds ς x h;cases ds<;>cases h
 | cons i is ih=>intro ds ς x h;cases ds with
  | nil=>cases h
  | cons d ds=>exact ih ds _ x h
theorem Qf6(is:List Nat):noExc (gT is):=fun d ς x h=>by
 cases d with
 | tup ds=>exact Qf7 is ds ς x h
 | _=>cases h
section
variable{C:Dc}{e tg iter:Expr}{E:SD->Out D}{body:List Stmt}{T U:SD->Out Fl}{pos:Pos}{g:D->SD->Out SD}
theorem QcU{i:Nat}{x:Str}(hN:C.X.N.Nodup)(hi:C.X.N[i]?=some x)(hx:Loc C.X.env.scope x)
 (hf:C.X.fn x=true∨C.X.env.scope.names.lookup x=some .local:=by first | exact .inl rfl | exact .inr rfl | assumption):DG C (.Name x pos) (gN i):=
 ⟨_,Qh4 hN hi hx hf,fun G H σ ς d v ς' Q S r h k=>by cases h;exact k _ (S.set i r)⟩
theorem Qka{es:List Expr}{is:List Nat}{k:Nat}(hc:C.X.calm=true)(hg:DGs C es is)(hn:(assignEach es C.X.env).length=is.length:=by rfl)(hst:(assignEach es C.X.env).findIdx? (·.1)=none:=by rfl):
 DG C (.Tuple es k pos) (gT is):=by
 obtain⟨t2,p2,q2⟩:=hg
 refine⟨_,QmE hc p2 hn hst,fun G H σ ς d v ς' Q S r h k=>?_⟩
 cases d with
 | tup ds=>
  obtain⟨a,vs,rfl,h2,h3⟩:=r
  exact⟨a,vs,rfl,Same.sqT S.sub h2,by rw[← h3.length];exact QeA h,q2 G H σ ς ds vs ς' Q S h3 h k⟩
 | _=>cases h
def sFor(g:D->SD->Out SD)(its:SD->Out (List D))(T:SD->Out Fl):SD->Out Fl:=fun ς=>its ς>>=fun xs=>loopD (fun x ς=>g x ς>>=fun ς'=>T ς') xs ς
def itL(E:SD->Out D):SD->Out (List D):=fun ς=>E ς>>=fun d=>match d with | .lst xs=>.ok xs | _=>.stuck
theorem turnD{W:Ends}{x:D}{v:V}{xs:List D}{G H:Hp}{σ:St}{ς:SD}{tb:TS}{tt:TG}{N:L2.St->Hp->Prop}(hne:noExc g)
 (hg:∀ G H σ ς d v ς' (Q:St->Hp->Prop),StR C G H σ ς->Rep C.X.K C.CT G d v->g d ς=.ok ς'->(∀ σ',StR C G H σ' ς'->Q σ' H)->tt v σ H Q)
 (hb:∀ G H σ ς W,StR C G H σ ς->(T ς).post (FlK C G W) C.XD->tb W σ H)
 (S:StR C G H σ ς) (r:Rep C.X.K C.CT G x v) (q:(loopD (fun x ς=>g x ς>>=fun ς'=>T ς') (x::xs) ς).post (FlK C G W) C.XD)
 (hN:∀ σ' H' G' ς',StR C G' H' σ' ς'->Same G G'->(loopD (fun x ς=>g x ς>>=fun ς'=>T ς') xs ς').post (FlK C G' W) C.XD->N σ' H'):
 tt v σ H fun σ2 H2=>tb { W with nx:=N,ct:=N,bk:=W.nx } σ2 H2:=by
 have q':((g x ς>>=fun ς'=>T ς')>>=fun f=>match f with
  | .nx ς'=>loopD (fun x ς=>g x ς>>=fun ς'=>T ς') xs ς'
  | .ct ς'=>loopD (fun x ς=>g x ς>>=fun ς'=>T ς') xs ς'
  | .bk ς'=>.ok (.nx ς')
  | .rt b d=>.ok (.rt b d)).post (FlK C G W) C.XD:=q
 rw[Out.post_bind,Out.post_bind]at q'
 cases z:g x ς with
 | exc y=>exact absurd z (hne _ _ _)
 | stuck=>rw[z]at q';exact q'.elim
 | ok ς1=>
  rw[z]at q'
  refine hg G H σ ς x v ς1 _ S r z fun σ1 S1=>hb G H σ1 ς1 _ S1 (Out.post_mono q' fun f k=>?_)
  cases f with
  | nx ς'=>exact fun σ' H' G' S' s'=>hN σ' H' G' ς' S' s' (Out.post_mono (show(loopD _ xs ς').post _ _ from k) fun f k=>FlK.later k s')
  | ct ς'=>exact fun σ' H' G' S' s'=>hN σ' H' G' ς' S' s' (Out.post_mono (show(loopD _ xs ς').post _ _ from k) fun f k=>FlK.later k s')
  | bk ς'=>exact fun σ' H' G' S' s'=>(show FlK C G W (.nx ς') from k) σ' H' G' S' s'
  | rt b d=>exact k
theorem Qfd{α:Type}{xs:List α}{i:Nat}{x:α}(h:xs[i]?=some x):xs.drop i=x::xs.drop (i+1):=by
 obtain⟨l,e⟩:=List.getElem?_eq_some_iff.mp h
 rw[List.drop_eq_getElem_cons l,e]
def QaT(lo:Int)(n:Nat):List D:=(List.range n).map fun(i:Nat)=>D.int (lo+i)
theorem QiQ{lo:Int}{n i:Nat}(h:i<n):(QaT lo n)[i]?=some (D.int (lo+i)):=by
 unfold QaT
 rw[List.getElem?_map,List.getElem?_range h];rfl
theorem QeD{lo:Int}{n:Nat}:(QaT lo n).length=n:=by simp[QaT]
def Qc0(i:Int):Bool:=decide (-(2 ^ 62)<=i)&&decide (i<2 ^ 62)
def itR1(A:SD->Out D):SD->Out (List D):=fun ς=>A ς>>=fun d=>match d with
 | .int n=>if Qc0 n=true then .ok (QaT 0 n.toNat) else .stuck
 | _=>.stuck
theorem Qi4{i:Int}(h:Qc0 i=true) : -(2 ^ 62)<=i/\i<2 ^ 62:=by
 unfold Qc0 at h
 rw[Bool.and_eq_true]at h
 exact⟨of_decide_eq_true h.1,of_decide_eq_true h.2⟩
def Qz(c:SD->Out Bool)(b:SD->Out Fl):Nat->SD->Out Fl
 | 0,_=>.stuck
 | n+1,ς=>c ς>>=fun t=>if t=true then b ς>>=fun f=>match f with
  | .nx ς'=>Qz c b n ς'
  | .ct ς'=>Qz c b n ς'
  | .bk ς'=>.ok (.nx ς')
  | .rt b d=>.ok (.rt b d)
  else .ok (.nx ς)
def Qgt(m:SD->Nat)(c:SD->Out Bool)(b:SD->Out Fl):SD->Out Fl:=fun ς=>Qz c b (m ς) ς
theorem Qk9(m:SD->Nat){c:Expr}{TC:SD->Out Bool}(hp:PassesOwn (model C.X.prog C.X.w) C.X.A C.X.env C.X.xe)(hc:DT C c TC)(hb:DSs C body T):DS C (.While c body [] pos) (Qgt m TC T):=by
 obtain⟨t0,p0,q0⟩:=hc
 obtain⟨t1,p1,q1⟩:=hb
 refine⟨_,Qk6 hp p0 p1,fun G H σ ς W S k=>?_⟩
 refine⟨fun n σ' H'=>∃ G' ς',StR C G' H' σ' ς'/\(Qz TC T n ς').post (FlK C G' W) C.XD,⟨m ς,G,ς,S,k⟩,?_⟩
 rintro n σ' H' ⟨G',ς',S',k'⟩
 cases n with
 | zero=>exact k'.elim
 | succ n=>
  rw[Qz,Out.post_bind]at k'
  refine q0 G' H' σ' ς' _ S' (Out.post_mono k' fun b k H1 G1 S1 a1 b1=>?_)
  cases b with
  | false=>exact iteF ((show FlK C G' W (.nx ς') from k) σ' H1 G1 S1 b1)
  | true=>
   rw[if_pos rfl,Out.post_bind]at k
   refine iteT ⟨fun σ2 H2=>∃ G2 ς2,StR C G2 H2 σ2 ς2/\(Qz TC T n ς2).post (FlK C G2 W) C.XD,fun σ2 H2 h=>⟨n,Nat.lt_succ_self n,h⟩,?_⟩
   refine q1 G1 H1 σ' ς' _ S1 (Out.post_mono k fun f k=>?_)
   cases f with
   | nx ς2=>exact fun σ2 H2 G2 S2 s2=>⟨G2,ς2,S2,Out.post_mono (show(Qz TC T n ς2).post _ _ from k) fun f k=>FlK.later k (b1.trans s2)⟩
   | ct ς2=>exact fun σ2 H2 G2 S2 s2=>⟨G2,ς2,S2,Out.post_mono (show(Qz TC T n ς2).post _ _ from k) fun f k=>FlK.later k (b1.trans s2)⟩
   | bk ς2=>exact fun σ2 H2 G2 S2 s2=>(show FlK C G' W (.nx ς2) from k) σ2 H2 G2 S2 (b1.trans s2)
   | rt b d=>exact FlK.later (show FlK C G' W (.rt b d) from k) b1
noncomputable def fuelC(c:SD->Out Bool)(b:SD->Out Fl)(ς:SD):Nat:=by
 classical exact if h:∃ n,Qz c b n ς≠.stuck then Classical.choose h else 0
noncomputable def QcQ(c:SD->Out Bool)(b:SD->Out Fl):SD->Out Fl:=Qgt (fuelC c b) c b
theorem QjT{c:Expr}{TC:SD->Out Bool}(hp:PassesOwn (model C.X.prog C.X.w) C.X.A C.X.env C.X.xe)(hc:DT C c TC)(hb:DSs C body T):DS C (.While c body [] pos) (QcQ TC T):=Qk9 (fuelC TC T) hp hc hb
theorem QcD{c:SD->Out Bool}{b:SD->Out Fl}:∀(n:Nat)(ς:SD),Qz c b n ς≠.stuck->Qz c b (n+1) ς=Qz c b n ς
 | 0,ς,h=>absurd rfl h
 | n+1,ς,h=>by
  rw[Qz,Qz]
  rw[Qz]at h
  cases hc:c ς with
  | stuck=>rfl
  | exc _=>rfl
  | ok t=>
   rw[hc]at h
   cases t with
   | false=>rfl
   | true=>
    have h':(b ς>>=fun f=>match f with
     | .nx ς'=>Qz c b n ς'
     | .ct ς'=>Qz c b n ς'
     | .bk ς'=>.ok (.nx ς')
     | .rt b d=>.ok (.rt b d))≠.stuck:=h
    show(b ς>>=fun f=>match f with
     | .nx ς'=>Qz c b (n+1) ς'
     | .ct ς'=>Qz c b (n+1) ς'
     | .bk ς'=>.ok (.nx ς')
     | .rt b d=>.ok (.rt b d))=(b ς>>=fun f=>match f with
     | .nx ς'=>Qz c b n ς'
     | .ct ς'=>Qz c b n ς'
     | .bk ς'=>.ok (.nx ς')
     | .rt b d=>.ok (.rt b d))
    cases hb:b ς with
    | stuck=>rfl
    | exc _=>rfl
    | ok f=>
     rw[hb]at h'
     cases f with
     | nx ς'=>exact QcD n ς' h'
     | ct ς'=>exact QcD n ς' h'
     | bk _=>rfl
     | rt _ _=>rfl
theorem QdE{c:SD->Out Bool}{b:SD->Out Fl}{ς:SD}{n:Nat}(h:Qz c b n ς≠.stuck):∀ k,Qz c b (n+k) ς=Qz c b n ς
 | 0=>rfl
 | k+1=>by
  have ih:=QdE h k
  rw[← Nat.add_assoc,QcD (n+k) ς (by rw[ih];exact h),ih]
theorem QiD{c:SD->Out Bool}{b:SD->Out Fl}{ς:SD}(n:Nat)(h:Qz c b n ς≠.stuck):QcQ c b ς=Qz c b n ς:=by
 have hx:∃ n,Qz c b n ς≠.stuck:=⟨n,h⟩
 have e:fuelC c b ς=Classical.choose hx:=by unfold fuelC;rw[dif_pos hx]
 unfold QcQ Qgt
 rw[e]
 have h2:=Classical.choose_spec hx
 generalize Classical.choose hx=m at h2 ⊢
 rcases Nat.le_total n m with hl | hl
 ·obtain⟨k,rfl⟩:=Nat.exists_eq_add_of_le hl
  exact QdE h k
 ·obtain⟨k,rfl⟩:=Nat.exists_eq_add_of_le hl
  exact(QdE h2 k).symm
end
end DL
namespace DL
open PySem PySem.Spec PyProof.Rows L2
def RetG(K:PySem.W.Frag)(CT:CTab)(fr:Bool)(H0 G' H':Hp)(d:D)(v:V):Prop:=
 if (fr && !d.scal)=true then ∃ p,v=.ref p/\H0 p=none/\G' p=none/\Own K CT G' H' p d else Rep K CT G' d v
def retF(fr:Bool):Fl->Out D
 | .rt b d=>if (!fr||b||d.scal)=true then .ok d else .stuck
 | .nx _=>.ok .non
 | _=>.stuck
def bodyF(fr:Bool)(n len:Nat)(T:SD->Out Fl):List D->Out D:=fun ds=>
 if ds.length=n then T (ds.map (fun d=>some (.k,d))++List.replicate (len - n) none)>>=retF fr else .stuck
def SpD(K:PySem.W.Frag)(CT:CTab)(fr:Bool)(m:List D->Out D):Sp:=fun vs H Q _=>∃ ds G0,Same G0 H/\RepL K CT G0 ds vs/\
 (m ds).post (fun d=>∀ v H' G',Same G0 G'->Same H H'->Same G' H'->(∀ b,G0 b=none->G' b≠none->H b=none)->RetG K CT fr H G' H' d v->Q v H') (fun _=>False)
structure FunV(K:PySem.W.Frag)(x qual:Str)(st:Stmt)(f:Addr)(fd:FuncData)(dV:Value):Prop where
 ex:∃(oc:Value)(od:Option Addr)(kV doc pm:Value)(an:Option Addr)(cdv ct:Value)(osl:Array (Option Value)),
  fd=PySem.W.fnOf x qual (Qbk st) (QaM st) (Qk st) dV kV doc pm an cdv ct/\K.lookup f=some ⟨oc,od,.func fd,osl⟩/\PySem.W.codeIn K cdv qual=true
 kp:PySem.W.keepIn K (.ref f)=true
theorem funV_mk{K:PySem.W.Frag}{x qual:Str}{st:Stmt}{f:Addr}{oc:Value}{od an:Option Addr}{osl:Array (Option Value)}{dV kV doc pm cdv ct:Value}(l:K.lookup f=some ⟨oc,od,.func (PySem.W.fnOf x qual (Qbk st) (QaM st) (Qk st) dV kV doc pm an cdv ct),osl⟩)
 (c:PySem.W.codeIn K cdv qual=true) (k:PySem.W.keepIn K (.ref f)=true):FunV K x qual st f (PySem.W.fnOf x qual (Qbk st) (QaM st) (Qk st) dV kV doc pm an cdv ct) dV:=⟨⟨oc,od,kV,doc,pm,an,cdv,ct,osl,rfl,l,c⟩,k⟩
theorem FunV.binds{K:PySem.W.Frag}{x qual:Str}{st:Stmt}{f:Addr}{fd:FuncData}{ps:List Str}(F:FunV K x qual st f fd .none)
 (h:∀(kV doc pm:Value)(an:Option Addr)(cdv ct:Value)(us:List Value),us.length=ps.length->bindArgs (PySem.W.fnOf x qual (Qbk st) (QaM st) (Qk st) .none kV doc pm an cdv ct) ⟨us,[]⟩=pure (ps.zip us)):Binds K fd ps []:=by
 obtain⟨oc,od,kV,doc,pm,an,cdv,ct,osl,rfl,lk,hcd⟩:=F.ex
 exact .all (h kV doc pm an cdv ct)
abbrev dcOf(P:Program)(w:World)(K:PySem.W.Frag)(mg:Str->Option Value)(base:Heap)(CT:CTab)(N:List Str)(qual:Str)(sc:Scope)(f:Addr)(cdv:Value)(A:Around)(outer:List Env)(s:Shared)(H:Hp)(E:XK)(G:Hp):Dc:=
 { X:=(cxOf CX0 P w K mg base N qual sc f cdv A outer s H E).nox,CT:=CT,G0:=G,XD:=fun _=>False,B:=H,M:=fun _=>False }
theorem Qj1{N:List Str}{vs:List V}{i:Nat}{v:V}(h:vs[i]?=some v):(L2.start N vs)[i]?=some (some v):=by
 unfold L2.start
 have hi:i<vs.length:=(List.getElem?_eq_some_iff.mp h).1
 rw[List.getElem?_append_left (by simpa using hi),List.getElem?_map,h];rfl
theorem Qbl{ds:List D}{k:Nat}{i:Nat}{x:SM×D}(h:(ds.map (fun d=>some (SM.k,d))++List.replicate k (none:Option (SM×D)))[i]?=some (some x)):∃ d,ds[i]?=some d/\x=(.k,d):=by
 by_cases hi:i<ds.length
 ·rw[List.getElem?_append_left (by simpa using hi),List.getElem?_map]at h
  cases e:ds[i]? with
  | none=>rw[e]at h;cases h
  | some d=>rw[e]at h;cases h;exact⟨d,rfl,rfl⟩
 ·rw[List.getElem?_append_right (by simpa using hi),List.getElem?_replicate]at h
  split at h<;>cases h
theorem GH.freezeR{C:Dc}{G' H':Hp}(S:GH C G' H'){p:Addr}{o:HO}(hp:H' p=some o)(hg:G' p=none)(h0:C.H0 p=none):GH C (upd G' p o) H' where
 sub:=fun b u q=>by
  by_cases hb:b=p
  ·subst hb;rw[QG]at q;cases q;exact hp
  ·rw[Qg hb]at q;exact S.sub b u q
 g0:=S.g0.trans (Qj hg)
 new:=fun b h1 h2=>by
  by_cases hb:b=p
  ·subst hb;exact h0
  ·rw[Qg hb]at h2;exact S.new b h1 h2
 fr:=S.fr
 dom:=S.dom
 bs:=S.bs
 bh:=S.bh
theorem fnV{P:Program}{w:World}{K:PySem.W.Frag}{mg:Str->Option Value}{base:Heap}{CT:CTab}{fr:Bool}{x qual:Str}{st:Stmt}{f:Addr}{fd:FuncData}{dV:Value}{N ps:List Str}{k:Nat}{T:SD->Out Fl}
 (F:FunV K x qual st f fd dV) (S:QC N ps (Qk st))
 (hb:∀(cdv:Value)(A:Around)(outer:List Env)(s:Shared)(H:Hp)(E:XK)(G:Hp),Room k (A.deeper (envOfC qual (Qk st) s.heap.objs.size f cdv))->DSs (dcOf P w K mg base CT N qual (Qk st) f cdv A outer s H E G) (QaM st) T):
 FnOk P w K mg base CX0 (k+1) f fd ps (SpD K CT fr (bodyF fr ps.length N.length T)):=by
 obtain⟨oc,od,kV,doc,pm,an,cdv,ct,osl,rfl,lk,hcd⟩:=F.ex
 have hpl:ps.length<=N.length:=by have:=congrArg List.length S.pre;rw[List.length_take]at this;omega
 have len:∀ vs H Q E,SpD K CT fr (bodyF fr ps.length N.length T) vs H Q E->vs.length=ps.length:=by
  intro vs H Q E ⟨ds,G0,sub,r,q⟩
  unfold bodyF at q
  by_cases hl:ds.length=ps.length
  ·rw[← r.length];exact hl
  ·rw[if_neg hl]at q;exact q.elim
 refine fn_of lk hcd S len fun A outer s H vs Q E hr hsp=>?_
 have hlen:=len vs H Q E hsp
 obtain⟨ds,G0,sub,r,q⟩:=hsp
 obtain⟨t,p1,q1⟩:=hb cdv A outer s H E G0 hr
 have hl:ds.length=ps.length:=by rw[r.length];exact hlen
 refine⟨t,p1.nox,?_⟩
 unfold bodyF at q
 rw[if_pos hl,Out.post_bind]at q
 have S0:StR (dcOf P w K mg base CT N qual (Qk st) f cdv A outer s H E G0) G0 H (L2.start N vs) (ds.map (fun d=>some (.k,d))++List.replicate (N.length - ps.length) none):={
  sub:=sub
  g0:=Same.refl _
  new:=fun b h1 h2=>absurd h1 h2
  fr:=fun b o e _=>e
  dom:=fun b e=>e
  bs:=Same.refl _
  bh:=fun b e=>e
  len:=by unfold L2.start;simp;omega
  fz:=fun i d e=>by
   obtain⟨d',e1,e2⟩:=Qbl e
   cases e2
   obtain⟨v,e3,rv⟩:=r.get e1
   exact⟨v,Qj1 e3,rv⟩
  ow:=fun i d e=>by
   obtain⟨d',e1,e2⟩:=Qbl e
   cases e2
  ln:=fun i d e=>by
   obtain⟨d',e1,e2⟩:=Qbl e
   cases e2
  inj:=fun i j d e p _ h=>by
   obtain⟨d',e1,e2⟩:=Qbl h
   cases e2
  sf:=fun i d e=>by
   obtain⟨d',e1,e2⟩:=Qbl e
   cases e2
  su:=fun i j d e p _ h=>by
   obtain⟨d',e1,e2⟩:=Qbl h
   cases e2 }
 refine q1 G0 H (L2.start N vs) _ _ S0 (Out.post_mono q fun fl kk=>?_)
 cases fl with
 | nx ς'=>exact fun σ' H' G' S' s'=>kk .non H' G' s' (fun b o e=>S'.fr b o e id) S'.sub S'.new (by unfold RetG;rw[if_neg (by cases fr<;>decide)];rfl)
 | bk ς'=>exact fun σ' H' G' S' s'=>kk.elim
 | ct ς'=>exact fun σ' H' G' S' s'=>kk.elim
 | rt b d=>
  intro v H' G' S' s' ret
  have kk':(if (!fr||b||d.scal)=true then Out.ok d else Out.stuck).post (fun d=>∀ v H' G',Same G0 G'->Same H H'->Same G' H'->(∀ b,G0 b=none->G' b≠none->H b=none)->RetG K CT fr H G' H' d v->Q v H') (fun _=>False):=kk
  rcases QF kk' with⟨hc,k2⟩ | ⟨_,k2⟩
  ·have k3:∀ v H' G',Same G0 G'->Same H H'->Same G' H'->(∀ b,G0 b=none->G' b≠none->H b=none)->RetG K CT fr H G' H' d v->Q v H':=k2
   cases b with
   | false=>
    refine k3 v H' G' s' (fun b o e=>S'.fr b o e id) S'.sub S'.new ?_
    unfold RetG
    have hn:¬ (fr && !d.scal)=true:=by revert hc;cases fr<;>cases d.scal<;>simp
    rw[if_neg hn]
    exact ret
   | true=>
    obtain⟨p,rfl,h0,hg,ow⟩:=(show ∃ p,v=.ref p/\H p=none/\G' p=none/\Own K CT G' H' p d from ret)
    cases fr with
    | true=>
     refine k3 _ H' G' s' (fun b o e=>S'.fr b o e id) S'.sub S'.new ?_
     have hs:d.scal=false:=by cases d<;>first | rfl | exact ow.elim
     unfold RetG
     rw[if_pos (by rw[hs];rfl)]
     exact⟨p,rfl,h0,hg,ow⟩
    | false=>
     obtain⟨o,ho⟩:=ow.there
     have S2:=GH.freezeR S' ho hg h0
     refine k3 _ H' _ (s'.trans (Qj hg)) (fun b o e=>S2.fr b o e id) S2.sub S2.new ?_
     unfold RetG
     rw[if_neg (by simp)]
     exact ow.known hg ho
  ·exact k2.elim
theorem FnOk.as{P:Program}{w:World}{K:PySem.W.Frag}{mg:Str->Option Value}{base:Heap}{CT:CTab}{fr:Bool}{k:Nat}{f:Addr}{fd:FuncData}{ps:List Str}{m m':List D->Out D}
 (F:FnOk P w K mg base CX0 k f fd ps (SpD K CT fr m)) (h:∀ ds,m' ds=.stuck∨m' ds=m ds):FnOk P w K mg base CX0 k f fd ps (SpD K CT fr m'):=by
 refine F.imp fun vs H Q E ⟨ds,G0,sub,r,q⟩=>⟨ds,G0,sub,r,?_⟩
 rcases h ds with e | e
 ·rw[e]at q;exact q.elim
 ·rw[← e];exact q
def DefOk(P:Program)(w:World)(K:PySem.W.Frag)(mg:Str->Option Value)(base:Heap)(CT:CTab)(x:Str)(k:Nat)(fr:Bool)(dd:List D)(m:List D->Out D):Prop:=
 ∃ f fd ps ds,FnOk P w K mg base CX0 k f fd ps (SpD K CT fr m)/\mg x=some (.ref f)/\PySem.W.keepIn K (.ref f)=true/\Binds K fd ps ds/\Vals (dd.map toV) ds
theorem Qei{K:PySem.W.Frag}{CT:CTab}{H:Hp}:∀{dd:List D},dd.all D.scal=true->RepL K CT H dd (dd.map toV)
 | [],_=>rfl
 | d::ds,h=>by
  rw[List.all_cons,Bool.and_eq_true]at h
  exact⟨_,_,rfl,QeS h.1,Qei h.2⟩
def Qbm(o:Out D):Out D:=o>>=fun d=>if d.scal=true then .stuck else .ok d
section
variable{C:Dc}{x:Str}{k:Nat}{fr:Bool}{dd:List D}{m:List D->Out D}{e:Expr}{es:List Expr}{A:SD->Out (List D)}{p pos:Pos}
theorem de_f(h:DefOk C.X.prog C.X.w C.X.K C.X.mg C.X.base C.CT x k fr dd m)(hr:Room k C.X.A)(ha:DA C (e::es) A)(hg:Gl C.X x)(hs:dd.all D.scal=true:=by rfl)(hx:∀ x,¬ C.XD x:=by exact fun _ h=>h)
 (hdb:(x == ("__debug__":Str))=false:=by decide) (he:starEach (e::es) C.X.env=(false,eval e C.X.env)::starEach es C.X.env:=by rfl) (hpl:(backTo pos (starEach es C.X.env)).any (·.1)=false:=by rfl):
 DE C (.Call (.Name x p) (e::es) [] pos) (eA (fun xs=>m (xs++dd)) A):=by
 obtain⟨f,fd,ps,ds,F,hm,hk,hb,hd⟩:=h
 obtain⟨t,p1,q1⟩:=ha
 refine⟨_,QhJ F hr hg hm hk hb hd pass0 p1 hdb he hpl,fun G H σ ς Q S q=>?_⟩
 unfold eA at q
 rw[Out.post_bind]at q
 refine q1 G H σ ς _ S (Out.post_mono q fun xs kk vs H1 G1 S1 a1 b1 r1=>⟨xs++dd,G1,S1.sub,r1.append (Qei hs),?_⟩)
 cases z:m (xs++dd) with
 | stuck=>rw[z]at kk;exact kk.elim
 | exc y=>rw[z]at kk;exact absurd kk (hx y)
 | ok d=>
  rw[z]at kk
  intro v H' G' g1 h1 s1 n1 ret
  unfold RetG at ret
  by_cases hc:(fr && !d.scal)=true
  ·rw[if_pos hc]at ret
   obtain⟨pp,rfl,h0,hg',ow⟩:=ret
   obtain⟨o,ho⟩:=ow.there
   have S2:=(S1.grow h1 g1 s1 n1).freeze ho hg' (S1.h0none h0) (fun i d' z1 z2=>by
    obtain⟨o',ho'⟩:=S1.own_ne z1 z2
    rw[h0]at ho';cases ho')
   exact(show KD C G H σ ς Q d from kk) _ _ _ S2 (a1.trans h1) ((b1.trans g1).trans (Qj hg')) (ow.known hg' ho)
  ·rw[if_neg hc]at ret
   exact(show KD C G H σ ς Q d from kk) v H' G' (S1.grow h1 g1 s1 n1) (a1.trans h1) (b1.trans g1) ret
theorem df_f(h:DefOk C.X.prog C.X.w C.X.K C.X.mg C.X.base C.CT x k true dd m)(hr:Room k C.X.A)(ha:DA C (e::es) A)(hg:Gl C.X x)(hs:dd.all D.scal=true:=by rfl)(hx:∀ x,¬ C.XD x:=by exact fun _ h=>h)
 (hdb:(x == ("__debug__":Str))=false:=by decide) (he:starEach (e::es) C.X.env=(false,eval e C.X.env)::starEach es C.X.env:=by rfl) (hpl:(backTo pos (starEach es C.X.env)).any (·.1)=false:=by rfl):
 DF C (.Call (.Name x p) (e::es) [] pos) (fun ς=>Qbm (eA (fun xs=>m (xs++dd)) A ς)):=by
 obtain⟨f,fd,ps,ds,F,hm,hk,hb,hd⟩:=h
 obtain⟨t,p1,q1⟩:=ha
 refine⟨_,QhJ F hr hg hm hk hb hd pass0 p1 hdb he hpl,fun G H σ ς Q S q=>?_⟩
 unfold Qbm eA at q
 rw[Out.post_bind,Out.post_bind]at q
 refine q1 G H σ ς _ S (Out.post_mono q fun xs kk vs H1 G1 S1 a1 b1 r1=>⟨xs++dd,G1,S1.sub,r1.append (Qei hs),?_⟩)
 cases z:m (xs++dd) with
 | stuck=>rw[z]at kk;exact kk.elim
 | exc y=>rw[z]at kk;exact absurd kk (hx y)
 | ok d=>
  rw[z]at kk
  intro v H' G' g1 h1 s1 n1 ret
  rcases QF (show(if d.scal=true then Out.stuck else Out.ok d).post _ _ from kk) with⟨_,kk⟩ | ⟨hc,kk⟩
  ·exact kk.elim
  ·unfold RetG at ret
   rw[if_pos (by cases hh:d.scal with | true=>exact absurd hh hc | false=>rfl)]at ret
   obtain⟨pp,rfl,h0,hg',ow⟩:=ret
   exact(show KF C G H σ ς Q d from kk) pp H' G' (S1.grow h1 g1 s1 n1) (a1.trans h1) (b1.trans g1) (a1.free h0) hg' ow
end
abbrev bitsI(i:Int):Nat:=Builtin.Int.intBits i
theorem QeB:∀{xs:List PySem.W.WData}{x:PySem.W.WData},x∈xs->x.weight<=PySem.W.WData.weightAll xs
 | y::r,x,hx=>by
  rcases List.mem_cons.mp hx with rfl | hx'
  ·simp only[PySem.W.WData.weightAll];omega
  ·have:=QeB hx'
   simp only[PySem.W.WData.weightAll];omega
theorem Qg3{ns:List Int}(h:PySem.W.WData.layableAll [PySem.W.WData.list (ns.map PySem.W.WData.int)]=true):∀ z∈ns,bitsI z<=1048576:=fun z hz=>by
 have h1:(PySem.W.WData.list (ns.map PySem.W.WData.int)).layable=true:=by simpa [PySem.W.WData.layableAll] using h
 have h2:(PySem.W.WData.list (ns.map PySem.W.WData.int)).weight<=2 ^ 20:=of_decide_eq_true (Bool.and_eq_true_iff.mp h1).2
 have h3:(PySem.W.WData.int z).weight<=PySem.W.WData.weightAll (ns.map PySem.W.WData.int):=QeB (List.mem_map.mpr ⟨z,hz,rfl⟩)
 have h4:(PySem.W.WData.int z).weight<=1048576:=by
  have e:(2:Nat) ^ 20=1048576:=by decide
  simp only[PySem.W.WData.weight]at h2
  omega
 simpa only[PySem.W.WData.weight,Builtin.Int.intBits] using h4
theorem walk_of{l:PySem.W.OpenLaw}{n k:Nat}{q:Program}{loose:List Str}{XP:(Str->Option Value)->Heap->Prop}{YP:World->Heap->Prop}{d:DefRec}{K:Params->PySem.W.Frag}{CX:World->CXT}{sp:World->Sp}{x:Str}
 (hn:l.most=some n) (hn2:n<=sizeLine) (hdf:d.params.defaults=[]) (hr:Room k callerA)
 (hY:∀(w:World)(h:Heap),YP w h->(K w.params).In h)
 (F:∀(w:World)(mg:Str->Option Value)(fa:Addr)(h:Heap),(K w.params).In h->h.Ns mainGlobals mg->mg d.name=some (.ref fa)->
  ∃ fd:FuncData,(∀(s:Shared)(u:Value),BindsTo s fd ⟨[u],[]⟩ [(x,u)])/\
   ∀ base:Heap,(K w.params).In base->base.Ns mainGlobals mg->FnOk l.prog w (K w.params) mg base (CX w) k fa fd [x] (sp w))
 (hsp:∀(w:World)(H:Hp)(a:Addr)(ns:List Int),ns.length<=n->(∀ z∈ns,bitsI z<=1048576)->Only H->SqL (K w.params) H a (ns.map V.int)->sp w [.ref a] H (fun v _=>v=.bl true) fun _ _ _=>False)
 (hCX:∀(w:World)(H:Hp)(s:Shared)(e:Value)(s':Shared),CX w [] H s (fun _ _ _=>False) e s'->False):
 PySem.W.WalkO q loose XP YP l.row.toRowW d [] (fun f vs=>PySem.call f vs):=by
 intro w s₀ s₁ mg mb G Y fa o pm cd doc dV kV ho hd hcd hD hmg hg args vals as hpre hlay hrd hwl hlo
 obtain rfl:dV=.none:=PySem.W.Dflts.none hD hdf
 obtain rfl:kV=.none:=PySem.W.Dflts.noKw hD
 obtain⟨a,vs,ns,rfl,rfl,hobj,hints,hlen⟩:=Att.script_of hn hpre hwl
 have KX:=hY w _ Y
 obtain⟨fd,hb,hF⟩:=F w mg fa _ KX G.T.g hmg
 refine PySem.W.enter_call (codeAny_mono (QkS KX G.T.g G.T.b G.T.builtins G.T.nolimit hg hobj hints (Nat.le_trans hlen hn2) hr hF hb (fun H hO hS=>hsp w H a ns hlen (Qg3 hlay) hO hS) fun H e s'=>hCX w H s₁ e s') fun r s' hq=>?_)
 obtain⟨rfl,h2,h3,h4⟩:=hq
 exact⟨.inl ⟨.bool true,.bool true,[],rfl,fun _=>rfl,.bool true,Att.post_true l _,fun _=>⟨List.Pairwise.nil,fun _ hm=>(nomatch hm)⟩⟩,h2,h3,h4⟩
end DL
namespace DL
open PySem PySem.Spec PyProof.Rows L2
section
variable{C:Dc}{a b:Expr}{A B:SD->Out D}{pos:Pos}
end
section
variable{C:Dc}{e:Expr}{es:List Expr}{A:SD->Out (List D)}{p pos:Pos}
def dStr:D->Out D
 | .int i=>if decide (i.natAbs.log2<1920)=true then .ok (.str (toString i)) else .stuck
 | _=>.stuck
theorem Qcf(hg:Gl C.X "str")(hm:C.X.mg "str"=none)(ha:DAB C (e::es) A)
 (he:starEach (e::es) C.X.env=(false,eval e C.X.env)::starEach es C.X.env:=by rfl) (hpl:(backTo pos (starEach es C.X.env)).any (·.1)=false:=by rfl):DE C (.Call (.Name "str" p) (e::es) [] pos) (eA (f1 dStr) A):=by
 refine Qfj QfO (QfR ?_) (Qfa ?_) hg hm PyProof.Rows.Boot.«str» ha (by decide) (by decide) he hpl
 ·intro G H σ ς Q x v S r q
  cases x with
  | int i=>
   cases r
   rcases QF (show(if decide (i.natAbs.log2<1920)=true then Out.ok (D.str (toString i)) else .stuck).post _ _ from q) with⟨hc,q⟩ | ⟨_,q⟩
   ·exact⟨i,rfl,of_decide_eq_true hc,q.2⟩
   ·exact q.elim
  | _=>exact q.elim
 ·intro x
  cases x with
  | int i=>exact QaQ rfl
  | _=>exact True.intro
end
def isaT(T:String):D->Out Bool
 | .ins _ _=>.stuck
 | .err _=>.stuck
 | .bl _=>.ok (T == "bool"||T == "int")
 | d=>.ok (QJ d == T)
structure Kit(K:PySem.W.Frag)(T:String):Prop where
 h:∀ d:D,(match d with | .ins _ _=>True | .err _=>True | .bl _=>PySem.W.kitOne K (.type "bool") (.type T)=some (T == "bool"||T == "int") | d=>PySem.W.kitOne K (.type (QJ d)) (.type T)=some (QJ d == T))
section
variable{C:Dc}{e:Expr}{E:SD->Out D}{p pc pos:Pos}
theorem Qaw(T:Str){T':String}(k:Kit C.X.K T')(hgT:Gl C.X T)(hmT:C.X.mg T=none)(hb:bootBuiltins T=some (.type T'))(hg:Gl C.X "isinstance")(hm:C.X.mg "isinstance"=none)(h:DB C e E)
 (hn:T≠"__name__":=by decide) (hdb:(T == ("__debug__":Str))=false:=by decide)
 (he:starEach (e::[.Name T pc]) C.X.env=(false,eval e C.X.env)::starEach [.Name T pc] C.X.env:=by rfl) (he2:starEach (.Name T pc::[]) C.X.env=(false,eval (.Name T pc) C.X.env)::starEach [] C.X.env:=by rfl)
 (hpl:(backTo pos (starEach [.Name T pc] C.X.env)).any (·.1)=false:=by rfl):DE C (.Call (.Name "isinstance" p) [e,.Name T pc] [] pos) (eIsa (isaT T') E):=by
 refine QmY (vc:=.ty T') (uc:=.type T') (Qmd hgT hmT hb rfl hn hdb) rfl (fun d=>?_) hg hm h he he2 hpl
 have:=k.h d
 cases d<;>first | exact True.intro | exact this
end
theorem Qet{K:PySem.W.Frag}{T:String}(h1:PySem.W.kitOne K (.type "NoneType") (.type T)=some ("NoneType" == T))(h2:PySem.W.kitOne K (.type "bool") (.type T)=some (T == "bool"||T == "int"))
 (h3:PySem.W.kitOne K (.type "int") (.type T)=some ("int" == T)) (h4:PySem.W.kitOne K (.type "str") (.type T)=some ("str" == T)) (h5:PySem.W.kitOne K (.type "list") (.type T)=some ("list" == T))
 (h6:PySem.W.kitOne K (.type "tuple") (.type T)=some ("tuple" == T)) (h7:PySem.W.kitOne K (.type "dict") (.type T)=some ("dict" == T)):Kit K T:=⟨fun d=>by
 cases d with
 | non=>exact h1
 | bl _=>exact h2
 | int _=>exact h3
 | str _=>exact h4
 | lst _=>exact h5
 | tup _=>exact h6
 | dic _=>exact h7
 | ins _ _=>exact True.intro
 | err _=>exact True.intro⟩
theorem QeQ{K:PySem.W.Frag}:Kit K "int":=Qet (by rfl) (by rfl) (by rfl) (by rfl) (by rfl) (by rfl) (by rfl)
theorem Qf2{K:PySem.W.Frag}:Kit K "bool":=Qet (by rfl) (by rfl) (by rfl) (by rfl) (by rfl) (by rfl) (by rfl)
theorem Qe6{K:PySem.W.Frag}:Kit K "str":=Qet (by rfl) (by rfl) (by rfl) (by rfl) (by rfl) (by rfl) (by rfl)
theorem QdB{K:PySem.W.Frag}:Kit K "tuple":=Qet (by rfl) (by rfl) (by rfl) (by rfl) (by rfl) (by rfl) (by rfl)
section
variable{C:Dc}{G H:Hp}{σ:St}{ς:SD}
theorem Qf8{α:Type}{xs:List α}{i:Nat}{x:α}(h:xs[i]?=some x):xs.set i x=xs:=by
 obtain⟨hi,e⟩:=List.getElem?_eq_some_iff.mp h
 rw[← e];exact List.set_getElem_self hi
theorem StR.write(S:StR C G H σ ς){i:Nat}{p:Addr}{xs ys:List D}{vs ws:List V}(hi:ς[i]?=some (some (.o,.lst xs)))(hp:σ[i]?=some (some (.ref p)))(hH:H p=some (.lst vs))(r:RepL C.X.K C.CT G ys ws):
 StR C G (upd H p (.lst ws)) σ (ς.set i (some (.o,.lst ys))):=by
 obtain⟨p',e1,hg,h0,ow⟩:=S.ow i _ hi
 rw[hp]at e1;cases e1
 have hil:i<ς.length:=(List.getElem?_eq_some_iff.mp hi).1
 have ne:∀ b o,G b=some o->b≠p:=fun b o e z=>by subst z;rw[hg]at e;cases e
 have S':StR C G (upd H p (.lst ws)) (σ.set i (some (.ref p))) (ς.set i (some (.o,.lst ys))):={
  sub:=fun b o e=>by rw[Qg (ne b o e)];exact S.sub b o e
  g0:=S.g0
  new:=S.new
  fr:=fun b o e m=>by
   rw[Qg (by rintro rfl;rw[h0]at e;cases e)];exact S.fr b o e m
  dom:=fun b e=>by
   by_cases hb:b=p
   ·subst hb;exact h0
   ·rw[Qg hb]at e;exact S.dom b e
  bs:=fun b o e=>by
   rw[Qg (by rintro rfl;rw[S.bh _ h0]at e;cases e)];exact S.bs b o e
  bh:=S.bh
  len:=by rw[List.length_set,List.length_set];exact S.len
  fz:=fun j d h=>by
   rcases QH h with⟨rfl,h2,l⟩ | ⟨hne,h2⟩
   ·cases h2
   ·rw[Qr hne];exact S.fz j d h2
  ow:=fun j d h=>by
   rcases QH h with⟨rfl,h2,l⟩ | ⟨hne,h2⟩
   ·cases h2
    exact⟨p,QcS (by rw[S.len];exact l),hg,h0,⟨ws,QG,r⟩⟩
   ·rw[Qr hne]
    obtain⟨q,a,b,c,w⟩:=S.ow j d h2
    have qp:q≠p:=by
     rintro rfl
     exact S.inj i j _ _ q hne hi h2 hp a
    exact⟨q,a,b,c,w.mono (Same.refl G) fun o z=>by rw[Qg qp];exact z⟩
  ln:=fun j d h=>by
   rcases QH h with⟨rfl,h2,l⟩ | ⟨hne,h2⟩
   ·cases h2
   ·rw[Qr hne];exact S.ln j d h2
  inj:=fun j k d1 d2 q hjk h1 h2 h3=>by
   have get:∀(j:Nat) d,(ς.set i (some (.o,D.lst ys)))[j]?=some (some (.o,d))->∃ d',ς[j]?=some (some (.o,d')):=fun j d h=>by
    rcases QH h with⟨rfl,h2,l⟩ | ⟨hne,h2⟩
    ·exact⟨_,hi⟩
    ·exact⟨_,h2⟩
   obtain⟨d1',g1⟩:=get j d1 h1
   obtain⟨d2',g2⟩:=get k d2 h2
   rw[Qf8 hp]at h3 ⊢
   exact S.inj j k d1' d2' q hjk g1 g2 h3
  sf:=fun j d h=>by
   rcases QH h with⟨rfl,h2,l⟩ | ⟨hne,h2⟩
   ·cases h2
   ·rw[Qr hne]
    obtain⟨q,a,b,c,m,z,w⟩:=S.sf j d h2
    have qp:q≠p:=by
     rintro rfl
     exact c h0
    exact⟨q,a,b,c,m,z,w.mono (Same.refl G) fun o z=>by rw[Qg qp];exact z⟩
  su:=fun j k d1 d2 q hjk h1 h2 h3=>by
   rcases QH h1 with⟨rfl,q1,l⟩ | ⟨n1,q1⟩
   ·cases q1
   ·rcases QH h2 with⟨rfl,q2,l⟩ | ⟨n2,q2⟩
    ·cases q2
    ·rw[Qr n1]at h3
     rw[Qr n2];exact S.su j k d1 d2 q hjk q1 q2 h3 }
 rw[Qf8 hp]at S'
 exact S'
variable{a e:Expr}{A E:SD->Out D}{pos p1 p2 p3:Pos}{x:Str}
end
end DL
namespace DL
open PySem PySem.Spec PyProof.Rows L2
structure DIt(K:PySem.W.Frag)(CT:CTab)(G1:Hp)(J:It)(ds:List D):Prop where
 go:∀ G H (i:Nat) d,Same G1 G->Same G H->ds[i]?=some d->J.go i H/\∀ x H',J.yld i H x H'->∃ G',Same G G'/\Same H H'/\Same G' H'/\(∀ b,G b=none->G' b≠none->H b=none)/\Rep K CT G' d x
 stop:∀ G H,Same G1 G->Same G H->J.stop ds.length H
structure DItB(K:PySem.W.Frag)(CT:CTab)(B1 G1:Hp)(J:It)(ds:List D):Prop where
 go:∀ G H (i:Nat) d,Same G1 G->Same G H->Same B1 H->ds[i]?=some d->J.go i H/\∀ x H',J.yld i H x H'->∃ G',Same G G'/\Same H H'/\Same G' H'/\(∀ b,G b=none->G' b≠none->H b=none)/\Rep K CT G' d x
 stop:∀ G H,Same G1 G->Same G H->Same B1 H->J.stop ds.length H
theorem DIt.b{K:PySem.W.Frag}{CT:CTab}{B1 G1:Hp}{J:It}{ds:List D}(h:DIt K CT G1 J ds):DItB K CT B1 G1 J ds:=⟨fun G H i d a b _ e=>h.go G H i d a b e,fun G H a b _=>h.stop G H a b⟩
def DIB(C:Dc)(tg iter:Expr)(its:SD->Out (List D)):Prop:=∃ wi,PI C.X tg iter wi/\∀ G H σ ς (R:It->Hp->Prop),StR C G H σ ς->
 (its ς).post (fun ds=>∀ J H1 G1,StR C G1 H1 σ ς->Same H H1->Same G G1->DItB C.X.K C.CT H1 G1 J ds->R J H1) C.XD->wi σ H R
def DI(C:Dc)(tg iter:Expr)(its:SD->Out (List D)):Prop:=∃ wi,PI C.X tg iter wi/\∀ G H σ ς (R:It->Hp->Prop),StR C G H σ ς->
 (its ς).post (fun ds=>∀ J H1 G1,StR C G1 H1 σ ς->Same H H1->Same G G1->DIt C.X.K C.CT G1 J ds->R J H1) C.XD->wi σ H R
section
variable{C:Dc}{e tg iter:Expr}{E:SD->Out D}{body:List Stmt}{T U:SD->Out Fl}{pos:Pos}{g:D->SD->Out SD}{its:SD->Out (List D)}
theorem DI.b(h:DI C tg iter its):DIB C tg iter its:=by
 obtain⟨wi,p,q⟩:=h
 exact⟨wi,p,fun G H σ ς R S k=>q G H σ ς R S (Out.post_mono k fun ds kd J H1 G1 S1 a b dit=>kd J H1 G1 S1 a b dit.b)⟩
theorem Qk0{K:PySem.W.Frag}{CT:CTab}{G1:Hp}{a:Addr}{ds:List D}{vs:List V}(h:SqL K G1 a vs)(r:RepL K CT G1 ds vs):DIt K CT G1 (Itl K a) ds where
 go:=fun G H i d s1 sH hd=>by
  obtain⟨v,hv,rv⟩:=r.get hd
  have hq:SqL K H a vs:=sH.seq (s1.seq h)
  refine⟨⟨vs,v,hq,hv⟩,fun x H' ⟨e,y⟩=>?_⟩
  have ex:vs[i]?=some x:=y vs hq
  rw[hv]at ex;cases ex
  subst e
  exact⟨G,Same.refl _,Same.refl _,sH,fun b g n=>absurd g n,Rep.mono s1 d v rv⟩
 stop:=fun G H s1 sH=>⟨vs,sH.seq (s1.seq h),by rw[r.length];exact Nat.le_refl _⟩
theorem Qjv{K:PySem.W.Frag}{CT:CTab}{G1:Hp}{lo:Int}{n:Nat}:DIt K CT G1 (Itr lo n) (QaT lo n) where
 go:=fun G H i d s1 sH hd=>by
  have hi:i<n:=by
   have:=(List.getElem?_eq_some_iff.mp hd).1
   rw[QeD]at this;exact this
  rw[QiQ hi]at hd;cases hd
  exact⟨hi,fun x H' ⟨e,y⟩=>by
   subst e y
   exact⟨G,Same.refl _,Same.refl _,sH,fun b g n=>absurd g n,rfl⟩⟩
 stop:=fun G H s1 sH=>by rw[QeD];exact Nat.le_refl _
theorem QlL(h:DE C iter E):DI C tg iter (itL E):=by
 obtain⟨t,p,q⟩:=h
 refine⟨_,Qml p,fun G H σ ς R S k=>?_⟩
 unfold itL at k
 rw[Out.post_bind]at k
 refine q G H σ ς _ S (Out.post_mono k fun d k v H1 G1 S1 a1 b1 r1=>?_)
 cases d with
 | lst xs=>
  obtain⟨a,vs,rfl,h2,h3⟩:=r1
  exact⟨a,rfl,⟨vs,S1.sub.seq h2⟩,k _ H1 G1 S1 a1 b1 (Qk0 h2 h3)⟩
 | _=>exact k.elim
theorem Qfo{a:Expr}{A:SD->Out D}{p1 p2:Pos}(hgl:Gl C.X "range")(hm:C.X.mg "range"=none)(ha:DB C a A)
 (hst:starEach [a] C.X.env=(false,eval a C.X.env)::starEach [] C.X.env:=by rfl):DI C tg (.Call (.Name "range" p1) [a] [] p2) (itR1 A):=by
 obtain⟨t,p,q⟩:=ha
 refine⟨_,Qki hgl hm (QaZ p Qck hst) hst,fun G H σ ς R S k=>?_⟩
 unfold itR1 at k
 rw[Out.post_bind]at k
 refine q G H σ ς _ S (Out.post_mono k fun d k v H1 G1 S1 a1 b1 r=>?_)
 cases d with
 | int n=>
  cases r
  rcases QF k with⟨hc,k⟩ | ⟨_,k⟩
  ·obtain⟨c1,c2⟩:=Qi4 hc
   exact⟨n,rfl,c1,c2,k _ H1 G1 S1 a1 b1 Qjv⟩
  ·exact k.elim
 | _=>exact k.elim
theorem QcY(hp:PassesOwn (model C.X.prog C.X.w) C.X.A C.X.env C.X.xe)(hc:C.X.calm=true)(hi:DI C tg iter its)(hg:DG C tg g)(hne:noExc g)(hb:DSs C body T)
 (hs:∀ x,foldedSetIterable iter C.X.env x=pure x:=by intro _;rfl):DS C (.For tg iter body [] pos) (sFor g its T):=by
 obtain⟨t0,p0,q0⟩:=hi
 obtain⟨t1,p1,q1⟩:=hg
 obtain⟨t2,p2,q2⟩:=hb
 refine⟨_,Qnr hp hc p0 p1 p2 hs,fun G H σ ς W S k=>?_⟩
 unfold sFor at k
 rw[Out.post_bind]at k
 refine q0 G H σ ς _ S (Out.post_mono k fun xs k J H1 G1 S1 a1 b1 dit=>?_)
 refine⟨fun i m σ' H'=>m=xs.length - i/\i<=xs.length/\∃ G' ς',StR C G' H' σ' ς'/\Same G1 G'/\(loopD (fun x ς=>g x ς>>=fun ς'=>T ς') (xs.drop i) ς').post (FlK C G' W) C.XD,
  ⟨xs.length,by simp,Nat.zero_le _,G1,ς,S1,Same.refl _,Out.post_mono (by simpa using k) fun f k=>FlK.later k b1⟩,?_⟩
 rintro i m σ' H' ⟨rfl,hle,G',ς',S',s',q'⟩
 by_cases hlt:i<xs.length
 ·have hd:xs[i]?=some xs[i]:=by simp[hlt]
  obtain⟨hgo,hy⟩:=dit.go G' H' i _ s' S'.sub hd
  refine .inr ⟨hgo,fun σ2 H2=>∃ G2 ς2,StR C G2 H2 σ2 ς2/\Same G1 G2/\(loopD (fun x ς=>g x ς>>=fun ς'=>T ς') (xs.drop (i+1)) ς2).post (FlK C G2 W) C.XD,
   fun σ2 H2 h2=>⟨xs.length - (i+1),by omega,rfl,hlt,h2⟩,fun x H'' y=>?_⟩
  obtain⟨G'',g1,h1,s1,n1,r⟩:=hy x H'' y
  rw[Qfd hd]at q'
  exact turnD hne q1 q2 (S'.grow h1 g1 s1 n1) r (Out.post_mono q' fun f k=>FlK.later k g1) fun σ2 H2 G2 ς2 S2 s2 q2=>⟨G2,ς2,S2,(s'.trans g1).trans s2,q2⟩
 ·have e:i=xs.length:=by omega
  subst e
  rw[List.drop_length]at q'
  exact .inl ⟨dit.stop G' H' s' S'.sub,q' σ' H' G' S' (Same.refl _)⟩
end
def compM(f:D->Out (Option D)):List D->Out (List D)
 | []=>.ok []
 | x::xs=>f x>>=fun o=>compM f xs>>=fun ys=>.ok (o.toList++ys)
def captS(ς:SD)(j:Nat):Option (SM×D):=match ς[j]? with
 | some (some (.k,d))=>some (.k,d)
 | some (some (_,d))=>some (.l,d)
 | _=>none
def captD(js:List (Option Nat))(ς:SD):SD:=js.map fun j=>j.bind (captS ς)
def turnC(js:List (Option Nat))(g:D->SD->Out SD)(c:SD->Out Bool)(e:SD->Out D)(ς:SD)(x:D):Out (Option D):=
 g x (captD js ς)>>=fun τ=>c τ>>=fun b=>if b=true then e τ>>=fun y=>.ok (some y) else .ok none
def eComp(js:List (Option Nat))(its:SD->Out (List D))(g:D->SD->Out SD)(c:SD->Out Bool)(e:SD->Out D):SD->Out D:=fun ς=>
 its ς>>=fun xs=>compM (turnC js g c e ς) xs>>=fun ys=>if fits ys.length=true then .ok (.lst ys) else .stuck
def DIf(C:Dc)(ifs:List Expr)(T:SD->Out Bool):Prop:=∃ t,PIf C.X ifs t/\∀ G H σ ς Q,StR C G H σ ς->(T ς).post (KT C G H σ ς Q) C.XD->t σ H Q
def cTrue:SD->Out Bool:=fun _=>.ok true
theorem QhU{C:Dc}:DIf C [] cTrue:=⟨_,QlD,fun G H σ ς Q S q=>KT.now q S⟩
def gKeep(g:D->SD->Out SD)(τ0:SD):Prop:=∀ x τ,g x τ0=.ok τ->τ.length=τ0.length/\∀(i:Nat) md,τ0[i]?=some (some md)->τ[i]?=some (some md)
theorem QfN{i:Nat}{τ0:SD}(h:τ0[i]?=some none):gKeep (gN i) τ0:=by
 intro x τ e
 cases e
 refine⟨List.length_set ..,fun j md hj=>?_⟩
 rw[Qr (by rintro rfl;rw[h]at hj;cases hj)];exact hj
theorem QeG{js:List (Option Nat)}{i:Nat}(h:js[i]?=some none)(ς:SD):(captD js ς)[i]?=some none:=by
 unfold captD
 rw[List.getElem?_map,h];rfl
section
variable{C:Dc}{G H:Hp}{σ:St}{ς:SD}
theorem StR.weak{ς':SD}(S:StR C G H σ ς')(hl:ς'.length=ς.length)(h:∀(i:Nat) md,ς[i]?=some (some md)->ς'[i]?=some (some md)):StR C G H σ ς:=
 { S with len:=by rw[S.len,hl],fz:=fun i d e=>S.fz i d (h i _ e),ow:=fun i d e=>S.ow i d (h i _ e),ln:=fun i d e=>S.ln i d (h i _ e),inj:=fun i j d e p n h1 h2=>S.inj i j d e p n (h i _ h1) (h j _ h2),sf:=fun i d e=>S.sf i d (h i _ e),su:=fun i j d e p n h1 h2=>S.su i j d e p n (h i _ h1) (h j _ h2) }
theorem StR.updM(S:StR C G H σ ς){p:Addr}{o:HO}(hM:C.M p)(h0:C.H0 p≠none)(hno:∀(i:Nat) d,ς[i]?≠some (some (.s,d)))(hB:C.B p=none)(hg:G p=none):StR C G (upd H p o) σ ς where
 sub:=fun b u e=>by rw[Qg (by rintro rfl;rw[hg]at e;cases e)];exact S.sub b u e
 g0:=S.g0
 new:=S.new
 fr:=fun b u e m=>by rw[Qg (by rintro rfl;exact m hM)];exact S.fr b u e m
 dom:=fun b e=>by
  by_cases hb:b=p
  ·subst hb;rw[QG]at e;cases e
  ·rw[Qg hb]at e;exact S.dom b e
 bs:=fun b u e=>by rw[Qg (by rintro rfl;rw[hB]at e;cases e)];exact S.bs b u e
 bh:=S.bh
 len:=S.len
 fz:=S.fz
 ow:=fun i d e=>by
  obtain⟨q,a,b,c,w⟩:=S.ow i d e
  exact⟨q,a,b,c,w.mono (Same.refl G) fun u z=>by rw[Qg (by rintro rfl;exact h0 c)];exact z⟩
 ln:=S.ln
 inj:=S.inj
 sf:=fun i d e=>absurd e (hno i d)
 su:=S.su
abbrev ccOf(C:Dc)(N':List Str)(scope:Scope)(fp:List Addr)(s:Shared)(H1 G1:Hp)(p:Addr):Dc:=
 { X:=cxC C.X N' scope fp s (upd H1 p (.lst [])),CT:=C.CT,G0:=G1,XD:=fun _=>False,B:=H1,M:=fun b=>b=p }
theorem QbU{js:List (Option Nat)}{i:Nat}{md:SM×D}(h:(captD js ς)[i]?=some (some md)):∃ j,js[i]?=some (some j)/\captS ς j=some md:=by
 unfold captD at h
 rw[List.getElem?_map]at h
 cases e:js[i]? with
 | none=>rw[e]at h;cases h
 | some o=>
  rw[e]at h
  cases o with
  | none=>cases h
  | some j=>exact⟨j,rfl,Option.some.inj h⟩
theorem Qdh{js:List (Option Nat)}{i j:Nat}{v:V}(h:js[i]?=some (some j))(hv:σ[j]?=some (some v)):(capt js σ)[i]?=some (some v):=by
 unfold capt
 rw[List.getElem?_map,h]
 show some ((σ[j]?).join)=_
 rw[hv];rfl
theorem Qa7{j:Nat}{m:SM}{d:D}(h:captS ς j=some (m,d)):(m=.k/\ς[j]?=some (some (.k,d)))∨(m=.l/\(ς[j]?=some (some (.o,d))∨ς[j]?=some (some (.l,d))∨ς[j]?=some (some (.s,d)))):=by
 unfold captS at h
 split at h
 ·rename_i d' e;cases h;exact .inl ⟨rfl,e⟩
 ·rename_i m' d' hne e
  cases h
  cases m' with
  | k=>exact(hne rfl).elim
  | o=>exact .inr ⟨rfl,.inl e⟩
  | l=>exact .inr ⟨rfl,.inr (.inl e)⟩
  | s=>exact .inr ⟨rfl,.inr (.inr e)⟩
 ·cases h
theorem Qen{js:List (Option Nat)}{i:Nat}{d:D}(h:(captD js ς)[i]?=some (some (.s,d))):False:=by
 obtain⟨j,h1,h2⟩:=QbU h
 rcases Qa7 h2 with⟨h3,_⟩ | ⟨h3,_⟩<;>cases h3
theorem StR.comp{N':List Str}{scope:Scope}{fp:List Addr}{s:Shared}{js:List (Option Nat)}{p:Addr}(S:StR C G H σ ς)(hp:H p=none):StR (ccOf C N' scope fp s H G p) G (upd H p (.lst [])) (capt js σ) (captD js ς) where
 sub:=S.sub.trans (Qj hp)
 g0:=Same.refl _
 new:=fun b h1 h2=>absurd h1 h2
 fr:=fun b o e _=>e
 dom:=fun b e=>e
 bs:=Qj hp
 bh:=fun b e=>by
  have e':upd H p (.lst []) b=none:=e
  by_cases hb:b=p
  ·subst hb;exact hp
  ·rw[Qg hb]at e';exact e'
 len:=by unfold capt captD;rw[List.length_map,List.length_map]
 fz:=fun i d e=>by
  obtain⟨j,h1,h2⟩:=QbU e
  rcases Qa7 h2 with⟨_,h3⟩ | ⟨h3,_⟩
  ·obtain⟨v,a,b⟩:=S.fz j d h3
   exact⟨v,Qdh h1 a,b⟩
  ·cases h3
 ow:=fun i d e=>by
  obtain⟨j,h1,h2⟩:=QbU e
  rcases Qa7 h2 with⟨h3,_⟩ | ⟨h3,_⟩<;>cases h3
 ln:=fun i d e=>by
  obtain⟨j,h1,h2⟩:=QbU e
  rcases Qa7 h2 with⟨h3,_⟩ | ⟨_,h3 | h3 | h3⟩
  ·cases h3
  ·obtain⟨q,a,_,_,w⟩:=S.ow j d h3
   exact⟨_,Qdh h1 a,w.rep S.sub,fun _ h=>nomatch h⟩
  ·obtain⟨v,a,b,_⟩:=S.ln j d h3
   exact⟨v,Qdh h1 a,Rep.mono S.bs d v b,fun _ h=>nomatch h⟩
  ·obtain⟨q,a,_,_,_,_,w⟩:=S.sf j d h3
   exact⟨_,Qdh h1 a,w.rep S.sub,fun _ h=>nomatch h⟩
 inj:=fun i j d e q _ h=>by
  obtain⟨j,h1,h2⟩:=QbU h
  rcases Qa7 h2 with⟨h3,_⟩ | ⟨h3,_⟩<;>cases h3
 sf:=fun i d e=>(Qen e).elim
 su:=fun i j d e p _ h=>(Qen h).elim
variable{N':List Str}{js:List (Option Nat)}{scope:Scope}{tg iter elt:Expr}{ifs:List Expr}{its:SD->Out (List D)}{g:D->SD->Out SD}{c:SD->Out Bool}{e:SD->Out D}{pos:Pos}
theorem QkZ{J:It}{xs:List D}{p:Addr}{fp:List Addr}{s:Shared}{Q:VK}(S:StR C G H σ ς)(hp:H p=none)(dit:DItB C.X.K C.CT H G J xs)(hx:∀ x,¬ C.XD x)(hk:gKeep g (captD js ς))(hne:noExc g)
 (hin:DG (ccOf C N' scope fp s H G p) tg g/\DIf (ccOf C N' scope fp s H G p) ifs c/\DE (ccOf C N' scope fp s H G p) elt e)
 (q:(compM (turnC js g c e ς) xs>>=fun ys=>if fits ys.length=true then Out.ok (D.lst ys) else .stuck).post (fun d=>∀ H' G',StR C G' H' σ ς->Same H H'->Same G G'->G' p=none->Own C.X.K C.CT G' H' p d->Q (.ref p) H') C.XD):
 CompW (cxC C.X N' scope fp s (upd H p (.lst []))) js tg elt ifs σ H J p Q:=by
 obtain⟨⟨tt,pg,hg⟩,⟨tcc,pif,hcI⟩,⟨te,pe,he⟩⟩:=hin
 generalize hτ:captD js ς=τ0 at hk
 have S0:StR (ccOf C N' scope fp s H G p) G (upd H p (.lst [])) (capt js σ) τ0:=by rw[← hτ];exact S.comp hp
 refine⟨fun i m τ H'=>m=xs.length - i/\i<=xs.length/\∃ G' acc vs,StR (ccOf C N' scope fp s H G p) G' H' τ τ0/\H' p=some (.lst vs)/\RepL C.X.K C.CT G' acc vs/\G' p=none/\
  (compM (turnC js g c e ς) (xs.drop i)).post (fun ys=>(if fits (acc++ys).length=true then Out.ok (D.lst (acc++ys)) else .stuck).post (fun d=>∀ H' G',StR C G' H' σ ς->Same H H'->Same G G'->G' p=none->Own C.X.K C.CT G' H' p d->Q (.ref p) H') C.XD) C.XD,
  ⟨xs.length,by simp,Nat.zero_le _,G,[],[],S0,QG,rfl,S.sub.free hp,by rw[Out.post_bind]at q;simpa using q⟩,?_⟩
 rintro i m τ H' ⟨rfl,hle,G',acc,vs,S',hp',r',hg',q'⟩
 have hH0:(ccOf C N' scope fp s H G p).H0 p≠none:=by
  show upd H p (.lst []) p≠none
  rw[QG];simp
 by_cases hlt:i<xs.length
 ·have hd:xs[i]?=some xs[i]:=by simp[hlt]
  obtain⟨hgo,hy⟩:=dit.go G' H' i _ S'.g0 S'.sub S'.bs hd
  refine .inr ⟨hgo,fun τ2 H2=>i+1<=xs.length/\∃ G' acc vs,StR (ccOf C N' scope fp s H G p) G' H2 τ2 τ0/\H2 p=some (.lst vs)/\RepL C.X.K C.CT G' acc vs/\G' p=none/\
   (compM (turnC js g c e ς) (xs.drop (i+1))).post (fun ys=>(if fits (acc++ys).length=true then Out.ok (D.lst (acc++ys)) else .stuck).post (fun d=>∀ H' G',StR C G' H' σ ς->Same H H'->Same G G'->G' p=none->Own C.X.K C.CT G' H' p d->Q (.ref p) H') C.XD) C.XD,
   fun τ2 H2 h2=>⟨xs.length - (i+1),by omega,rfl,h2⟩,fun x H'' y=>?_⟩
  obtain⟨G'',g1,h1,s1,n1,r⟩:=hy x H'' y
  have S'':=S'.grow h1 g1 s1 n1
  have hgp:G'' p=none:=by
   cases z:G'' p with
   | none=>rfl
   | some o=>
    have:=n1 p hg' (by rw[z];simp)
    rw[hp']at this;cases this
  rw[Qfd hd,compM,Out.post_bind]at q'
  have tu:turnC js g c e ς xs[i]=(g xs[i] τ0>>=fun τ=>c τ>>=fun b=>if b=true then e τ>>=fun y=>Out.ok (some y) else Out.ok none):=by unfold turnC;rw[hτ]
  rw[tu,Out.post_bind]at q'
  cases z:g xs[i] τ0 with
  | exc w=>exact absurd z (hne _ _ _)
  | stuck=>rw[z]at q';exact q'.elim
  | ok τ1=>
   rw[z]at q'
   obtain⟨hl1,hk1⟩:=hk _ _ z
   refine⟨tt,pg,hg G'' H'' τ τ0 xs[i] x τ1 _ S'' r z fun τ2 S2=>?_⟩
   have q2:(c τ1>>=fun b=>if b=true then e τ1>>=fun y=>Out.ok (some y) else Out.ok none).post _ _:=q'
   rw[Out.post_bind]at q2
   -- no refusal leaves the block
   have q3:(c τ1).post (fun b=>(if b=true then e τ1>>=fun y=>Out.ok (some y) else Out.ok none).post (fun o=>(compM (turnC js g c e ς) (xs.drop (i+1))>>=fun ys=>Out.ok (o.toList++ys)).post (fun ys=>(if fits (acc++ys).length=true then Out.ok (D.lst (acc++ys)) else .stuck).post (fun d=>∀ H' G',StR C G' H' σ ς->Same H H'->Same G G'->G' p=none->Own C.X.K C.CT G' H' p d->Q (.ref p) H') C.XD) C.XD) C.XD) (fun _=>False):=by
    cases w:c τ1 with
    | ok b=>rw[w]at q2;exact q2
    | exc w'=>rw[w]at q2;exact absurd q2 (hx _)
    | stuck=>rw[w]at q2;exact q2.elim
   refine⟨tcc,pif,hcI G'' H'' τ2 τ1 _ S2 (Out.post_mono q3 fun b kb H3 G3 S3 a3 b3=>?_)⟩
   have hp3:H3 p=some (.lst vs):=a3 _ _ (h1 _ _ hp')
   have hg3:G3 p=none:=by
    cases z3:G3 p with
    | none=>rfl
    | some o=>
     have e3:(ccOf C N' scope fp s H G p).G0 p=none:=S.sub.free hp
     exact absurd (S3.new p e3 (by rw[z3];simp)) hH0
   cases b with
   | false=>
    refine iteF ⟨hlt,G3,acc,vs,S3.weak (by rw[hl1]) hk1,hp3,RepL.mono (g1.trans b3) acc vs r',hg3,?_⟩
    have kb':(compM (turnC js g c e ς) (xs.drop (i+1))>>=fun ys=>Out.ok ((none:Option D).toList++ys)).post (fun ys=>(if fits (acc++ys).length=true then Out.ok (D.lst (acc++ys)) else .stuck).post (fun d=>∀ H' G',StR C G' H' σ ς->Same H H'->Same G G'->G' p=none->Own C.X.K C.CT G' H' p d->Q (.ref p) H') C.XD) C.XD:=kb
    rw[Out.post_bind]at kb'
    exact Out.post_mono kb' fun ys k=>k
   | true=>
    have kb:(e τ1>>=fun y=>Out.ok (some y)).post (fun o=>(compM (turnC js g c e ς) (xs.drop (i+1))>>=fun ys=>Out.ok (o.toList++ys)).post (fun ys=>(if fits (acc++ys).length=true then Out.ok (D.lst (acc++ys)) else .stuck).post (fun d=>∀ H' G',StR C G' H' σ ς->Same H H'->Same G G'->G' p=none->Own C.X.K C.CT G' H' p d->Q (.ref p) H') C.XD) C.XD) C.XD:=kb
    rw[Out.post_bind]at kb
    have kb2:(e τ1).post (fun y=>(compM (turnC js g c e ς) (xs.drop (i+1))>>=fun ys=>Out.ok ((some y:Option D).toList++ys)).post (fun ys=>(if fits (acc++ys).length=true then Out.ok (D.lst (acc++ys)) else .stuck).post (fun d=>∀ H' G',StR C G' H' σ ς->Same H H'->Same G G'->G' p=none->Own C.X.K C.CT G' H' p d->Q (.ref p) H') C.XD) C.XD) (fun _=>False):=by
     cases w:e τ1 with
     | ok b=>rw[w]at kb;exact kb
     | exc w'=>rw[w]at kb;exact absurd kb (hx _)
     | stuck=>rw[w]at kb;exact kb.elim
    refine iteT ⟨te,pe,he G3 H3 τ2 τ1 _ S3 (Out.post_mono kb2 fun y ky v4 H4 G4 S4 a4 b4 r4=>?_)⟩
    rw[Out.post_bind]at ky
    have hp4:H4 p=some (.lst vs):=a4 _ _ hp3
    have hg4:G4 p=none:=by
     cases z3:G4 p with
     | none=>rfl
     | some o=>
      have e3:(ccOf C N' scope fp s H G p).G0 p=none:=S.sub.free hp
      exact absurd (S4.new p e3 (by rw[z3];simp)) hH0
    have rr:=RepL.mono ((g1.trans b3).trans b4) acc vs r'
    refine⟨vs,hp4,?_,hlt,G4,acc++[y],vs++[v4],?_,QG,rr.append (RepL.one r4),hg4,?_⟩
    ·cases w:compM (turnC js g c e ς) (xs.drop (i+1)) with
     | stuck=>rw[w]at ky;exact ky.elim
     | exc w'=>rw[w]at ky;exact absurd ky (hx _)
     | ok ys=>
      rw[w]at ky
      rcases QF (show(if fits (acc++((some y:Option D).toList++ys)).length=true then Out.ok (D.lst (acc++((some y:Option D).toList++ys))) else .stuck).post _ _ from ky) with⟨hc,_⟩ | ⟨_,k⟩
      ·have hc':=of_decide_eq_true hc
       rw[List.length_append,List.length_append]at hc'
       have:(some y:Option D).toList.length=1:=rfl
       have hl:=r'.length
       omega
      ·exact k.elim
    ·exact(S4.weak (by rw[hl1]) hk1).updM rfl hH0 (fun i d z=>by rw[← hτ]at z;exact Qen z) hp hg4
    ·exact Out.post_mono ky fun ys k=>by
      have e5:acc++[y]++ys=acc++((some y:Option D).toList++ys):=by simp
      rw[e5];exact k
 ·have ei:i=xs.length:=by omega
  subst ei
  rw[List.drop_length]at q'
  refine .inl ⟨dit.stop G' H' S'.g0 S'.sub S'.bs,?_⟩
  have q2:(if fits (acc++[]).length=true then Out.ok (D.lst (acc++[])) else .stuck).post _ C.XD:=q'
  rcases QF q2 with⟨_,k⟩ | ⟨_,k⟩
  ·rw[List.append_nil]at k
   have hHH:Same H H':=fun b o eb=>S'.fr b o (by
    show upd H p (.lst []) b=some o
    rw[Qg (QB eb hp)];exact eb) (QB eb hp)
   have SG:StR C G' H' σ ς:=S.grow hHH S'.g0 S'.sub fun b h1 h2=>by
    have:=S'.new b h1 h2
    have this:upd H p (.lst []) b=none:=this
    by_cases hb:b=p
    ·subst hb;exact hp
    ·rw[Qg hb]at this;exact this
   exact k H' G' SG hHH S'.g0 hg' ⟨vs,hp',r'⟩
  ·exact k.elim
theorem compT(hi:∃ wi,PI C.X tg iter wi/\∀ G H σ ς (R:It->Hp->Prop),StR C G H σ ς->(its ς).post (fun ds=>∀ J H1 G1,StR C G1 H1 σ ς->Same H H1->Same G G1->DItB C.X.K C.CT H1 G1 J ds->R J H1) C.XD->wi σ H R)
 (hx:∀ x,¬ C.XD x) (hk:∀ ς,gKeep g (captD js ς)) (hne:noExc g)
 (hin:∀ fp s H G p,DG (ccOf C N' scope fp s H G p) tg g/\DIf (ccOf C N' scope fp s H G p) ifs c/\DE (ccOf C N' scope fp s H G p) elt e):
 ∃ wi,PI C.X tg iter wi/\∀ G H σ ς Q,StR C G H σ ς->(eComp js its g c e ς).post (KF C G H σ ς Q) C.XD->tComp C.X N' js scope tg elt ifs wi σ H Q:=by
 obtain⟨wi,pi,hq⟩:=hi
 refine⟨wi,pi,fun G H σ ς Q S k=>?_⟩
 unfold eComp at k
 rw[Out.post_bind]at k
 refine hq G H σ ς _ S (Out.post_mono k fun xs k J H1 G1 S1 a1 b1 dit p hp fp s=>?_)
 refine QkZ S1 hp dit hx (hk ς) hne (hin fp s H1 G1 p) (Out.post_mono k fun d kd H' G' S' h1 g1 hg ow=>?_)
 exact kd p H' G' S' (a1.trans h1) (b1.trans g1) (a1.free hp) hg ow
theorem Qh3(hc:C.X.calm=true)(S:Qbb N' js scope C.X.env.scope C.X.N)(hi:DIB C tg iter its)(hk:∀ ς,gKeep g (captD js ς))(hne:noExc g)
 (hin:∀ fp s H G p,DG (ccOf C N' scope fp s H G p) tg g/\DIf (ccOf C N' scope fp s H G p) ifs c/\DE (ccOf C N' scope fp s H G p) elt e)
 (hx:∀ x,¬ C.XD x:=by exact fun _ h=>h) (hs:∀ x,foldedSetIterable iter C.X.env x=pure x:=by intro _;rfl):DF C (.ListComp elt [⟨tg,iter,ifs,0⟩] scope pos) (eComp js its g c e):=by
 obtain⟨wi,pi,h⟩:=compT hi hx hk hne hin
 exact⟨_,QlN hc S pi hs,h⟩
variable{i:Nat}{x:Str}{px spos:Pos}
end
end DL
namespace L2
open PySem PySem.Spec PyProof.Rows
def Its(x:Str):It:=⟨fun i _=>i<x.cps.size,fun i H v H'=>H'=H/\∃ c,x.cps[i]?=some c/\v=.str ⟨#[c]⟩,fun i _=>x.cps.size<=i⟩
section
variable{X:Cx}{tg:Expr}
theorem Qfg{P:Program}{w:World}{K:PySem.W.Frag}{tg:Expr}{x:Str}{ty:String}{t:Tok}(it:Addr)(hn:["enumerate","zip","dict_itemiterator","dict_reverseitemiterator","odict_iterator","itertools.zip_longest","itertools.pairwise"].contains ty=false)
 (hs:∀(A:Around)(i:Nat)(s:Shared)(Q:Value->Shared->Prop)(E:Value->Shared->Prop),s.heap.IsStrIter it ty x t i->Q (.ref it) s->wpAny (model P w) A (pyIter (.ref it)) Q E s)
 (W:∀ A':Around,A'.handled=none->Walks P w A' it [it] [it] x.cps.size (SignAt x) (fun i h=>h.IsStrIter it ty x t i)):Turn P w K tg (Its x) [it] it (fun i h=>h.IsStrIter it ty x t i/\i<=x.cps.size) where
 mem:=by simp
 obj:=fun i h st b hb=>by
  have e:b=it:=by simpa using hb
  subst e
  obtain⟨⟨o,e,c,d⟩,_⟩:=st
  exact⟨o,e,fun v z=>by rw[d]at z;cases z⟩
 keep:=fun i h h' st k=>⟨by obtain⟨⟨o,e,c,d⟩,_⟩:=st;exact⟨o,k it (by simp) o e,c,d⟩,st.2⟩
 item:=by
  intro X hP hw hK hc i pins s σ H E I hf st hg
  subst hP hw hK
  obtain⟨f0,f1,f2,f3,f4,f5⟩:=hf it (by simp)
  refine(W X.A (I.ok.hd hc)).item i s _ _ hg st.1 fun v h' tk hv st' kk=>?_
  obtain⟨c,u,hcx,rfl⟩:=hv
  have I1:Inv X pins σ H { s with heap:=h',toks:=tk }:=I.turned (fun b o hb e=>kk b o (by simpa using hb) e) f0 f1 f3 f4 f5
  obtain⟨o,e,c',d⟩:=id st'
  exact⟨_,rfl,go_of (s:={ s with heap:=h',toks:=tk }) e c' d hn ⟨.str ⟨#[c]⟩,H,I1,⟨u,rfl⟩,⟨rfl,c,hcx,rfl⟩,⟨st',hg⟩,fun b hb=>(hf b hb).1⟩⟩
 done:=by
  intro X hP hw hK hc i pins s σ H E I hf st hg
  subst hP hw hK
  obtain⟨f0,f1,f2,f3,f4,f5⟩:=hf it (by simp)
  have hg':x.cps.size<=i:=hg
  have e:i=x.cps.size:=Nat.le_antisymm st.2 hg'
  subst e
  exact(W X.A (I.ok.hd hc)).done s _ _ st.1 fun h' tk kk=>⟨rfl,I.turned (fun b o hb e=>kk b o (by simpa using hb) e) f0 f1 f3 f4 f5⟩
 self:=fun A i s Q E st h=>hs A i s Q E st.1 h
def iStr(tl:TE):TI:=fun σ H R=>tl σ H fun x H1=>∃ z,x=.str z/\R (Its z) H1
theorem QmA{l:Expr}{tl:TE}(hl:PE X l tl):PI X tg l (iStr tl):=by
 intro pins s σ H R I h
 refine thn (hl pins s σ H _ I h) fun v s1 ⟨x,H1,I1,r1,q1⟩=>?_
 obtain⟨z,e,q⟩:=q1
 subst e
 obtain⟨t,rfl⟩:=r1
 cases ha:z.cps.all (· < 128)
 ·refine wpAny_pyIter_wide ha ⟨s1.heap.objs.size,[s1.heap.objs.size],_,_,H1,rfl,I1.kept (t':=s1.toks) fun b o e=>Heap.get?_push_of_some _ e,Qfg (x:=z) (ty:="str_iterator") (t:=t) _ (by decide) (fun _ _ _ _ _ st h=>wpAny_pyIter_striter_wide st h) (fun A' hA=>Walks.strWide hA _ z t),⟨⟨_,Heap.get?_push_size _ rfl,rfl,rfl⟩,Nat.zero_le _⟩,fun b hb=>?_,q⟩
  have e:b=s1.heap.objs.size:=by simpa using hb
  subst e
  exact I1.fpOk (Nat.le_refl _) (I1.hok.fresh (Nat.le_refl _))
 ·refine wpAny_pyIter_ascii ha ⟨s1.heap.objs.size,[s1.heap.objs.size],_,_,H1,rfl,I1.kept (t':=s1.toks) fun b o e=>Heap.get?_push_of_some _ e,Qfg (x:=z) (ty:="str_ascii_iterator") (t:=t) _ (by decide) (fun _ _ _ _ _ st h=>wpAny_pyIter_striter_ascii st h) (fun A' hA=>Walks.strAscii hA _ z t),⟨⟨_,Heap.get?_push_size _ rfl,rfl,rfl⟩,Nat.zero_le _⟩,fun b hb=>?_,q⟩
  have e:b=s1.heap.objs.size:=by simpa using hb
  subst e
  exact I1.fpOk (Nat.le_refl _) (I1.hok.fresh (Nat.le_refl _))
theorem Qkp(bs:List Bool):(List.range bs.length).all (fun i=>(bs[i]?).getD false)=bs.all id:=by
 rw[Bool.eq_iff_iff,List.all_eq_true,List.all_eq_true]
 constructor
 ·intro h b hb
  obtain⟨i,hi,e⟩:=List.mem_iff_getElem.mp hb
  have:=h i (List.mem_range.mpr hi)
  rw[List.getElem?_eq_getElem hi,Option.getD_some,e]at this
  exact this
 ·intro h i hi
  have hi':=List.mem_range.mp hi
  rw[List.getElem?_eq_getElem hi',Option.getD_some]
  exact h _ (List.getElem_mem hi')
theorem Qj4(hc:X.calm=true):CallR X (.builtin "all") (fun xs H Q=>∃(p:Addr)(bs:List Bool),xs=[.ref p]/\SqL X.K H p (bs.map V.bl)/\Q (.bl (bs.all id)) H):=by
 intro pins s σ H xs us Q I r h
 obtain⟨p,bs,rfl,hq,q⟩:=h
 obtain⟨u,rfl,rx⟩:=vals1 r
 cases rx
 obtain⟨its,rv,pl,hz⟩:=I.list hq
 have hlen:=rv.length
 refine call_all_walk ?_
 refine wpAny_pyIter_list pl.isList ?_
 have hp:p<s.heap.objs.size:=by obtain⟨o,n,ho,_⟩:=pl;exact Heap.lt_size ho
 have hne:p≠s.heap.objs.size:=Nat.ne_of_lt hp
 refine⟨_,_,_,_,_,_,fun i=>(bs[i]?).getD false,rfl,Walks.list (A:=X.A.in1) (I.ok.hd hc) _ p hne its.toArray,⟨⟨_,Heap.get?_push_size _ rfl,rfl,rfl⟩,pl.isList.at fun o e=>Heap.get?_push_of_some _ e⟩,?_,fun h' tk kk=>⟨.bl (bs.all id),H,?_,?_,q⟩⟩
 ·intro i v s2 Q2 E2 hv hQ2
  have hv':its[i]?=some v:=by simpa using hv
  have hi:i<bs.length:=by
   have:=(List.getElem?_eq_some_iff.mp hv').1
   rw[List.length_map]at hlen
   omega
  obtain⟨y,hy,ry⟩:=rv.get (i:=i) (x:=.bl bs[i]) (by rw[List.getElem?_map,List.getElem?_eq_getElem hi];rfl)
  rw[hv']at hy
  cases hy
  cases ry
  have hQ2:Q2 ((bs[i]?).getD false) s2:=hQ2
  rw[List.getElem?_eq_getElem hi,Option.getD_some]at hQ2
  exact wpAny_pure hQ2
 ·exact I.kept fun b o e=>kk b o (by
   intro hb
   have e2:b=s.heap.objs.size:=by simpa using hb
   subst e2
   exact absurd (Heap.lt_size e) (Nat.lt_irrefl _)) (Heap.get?_push_of_some _ e)
 ·rw[List.size_toArray, ← hlen,List.length_map,Qkp];exact rfl
end
end L2
namespace DL
open PySem PySem.Spec PyProof.Rows L2
def signs(z:Str):List D:=z.cps.toList.map fun c=>D.str ⟨#[c]⟩
def itS(E:SD->Out D):SD->Out (List D):=fun ς=>E ς>>=fun d=>match d with | .str z=>.ok (signs z) | _=>.stuck
section
variable{C:Dc}{e tg iter a b:Expr}{E A B:SD->Out D}{pos p:Pos}{es:List Expr}{AA:SD->Out (List D)}
theorem Qly{K:PySem.W.Frag}{CT:CTab}{G1:Hp}{z:Str}:DIt K CT G1 (Its z) (signs z) where
 go:=fun G H i d s1 sH hd=>by
  unfold signs at hd
  rw[List.getElem?_map]at hd
  cases hc:z.cps.toList[i]? with
  | none=>rw[hc]at hd;cases hd
  | some c=>
   rw[hc]at hd
   cases hd
   have hi:i<z.cps.size:=by
    have:=(List.getElem?_eq_some_iff.mp hc).1
    simpa using this
   refine⟨hi,fun x H' ⟨e,c',h1,h2⟩=>?_⟩
   subst e h2
   have h1':z.cps.toList[i]?=some c':=by simpa using h1
   rw[hc]at h1'
   cases h1'
   exact⟨G,Same.refl _,Same.refl _,sH,fun b g n=>absurd g n,rfl⟩
 stop:=fun G H s1 sH=>by
  unfold signs
  show z.cps.size<=_
  rw[List.length_map];simp
theorem QjP(h:DB C iter E):DI C tg iter (itS E):=by
 obtain⟨t,p,q⟩:=h
 refine⟨_,QmA p,fun G H σ ς R S k=>?_⟩
 unfold itS at k
 rw[Out.post_bind]at k
 refine q G H σ ς _ S (Out.post_mono k fun d k v H1 G1 S1 a1 b1 r1=>?_)
 cases d with
 | str z=>cases r1;exact⟨z,rfl,k _ H1 G1 S1 a1 b1 Qly⟩
 | _=>exact k.elim
def dIn:D->D->Out D
 | .str x,.str y=>.ok (.bl (!(Builtin.Str.occurrences y x 0 y.length 1).isEmpty))
 | _,_=>.stuck
theorem Qjz:DRS C (fun x y H Q=>∃ i j,x=.str i/\y=.str j/\Q (.bl (!(Builtin.Str.occurrences j i 0 j.length 1).isEmpty)) H) dIn:=by
 intro G H σ ς Q x y vx vy S hx hy q
 cases x with
 | str x=>
  cases y with
  | str y=>cases hx;cases hy;exact⟨x,y,rfl,rfl,q.2⟩
  | _=>exact q.elim
 | _=>cases y<;>exact q.elim
theorem QhN:scal2 dIn:=fun x y=>by cases x<;>cases y<;>first | exact rfl | exact True.intro
theorem de_in(ha:DB C a A)(hb:DB C b B)(hm:behindInMarks .In b=false:=by rfl):DE C (.Compare a [.In] [b] pos) (e2 dIn A B):=QeL Qfc Qjz QhN ha hb hm
theorem dt_in(ha:DB C a A)(hb:DB C b B)(hm:behindInMarks .In b=false:=by rfl):DT C (.Compare a [.In] [b] pos) (tVal (e2 dIn A B)):=Qcn Qfc Qjz QhN ha hb hm
def blsOf:List D->Option (List Bool)
 | []=>some []
 | .bl b::r=>(blsOf r).map (b :: ·)
 | _::_=>none
theorem Qfx{K:PySem.W.Frag}{CT:CTab}{H:Hp}:∀{ds:List D}{bs:List Bool}{vs:List V},blsOf ds=some bs->RepL K CT H ds vs->vs=bs.map V.bl
 | [],bs,vs,h,r=>by cases h;exact r
 | d::ds,bs,vs,h,⟨v,w,h1,h2,h3⟩=>by
  cases d with
  | bl b=>
   cases e:blsOf ds with
   | none=>rw[blsOf,e]at h;cases h
   | some cs=>
    rw[blsOf,e]at h
    cases h
    cases h2
    rw[h1,Qfx e h3];rfl
  | _=>cases h
def fAll:D->Out D
 | .lst xs=>match blsOf xs with | some bs=>.ok (.bl (bs.all id)) | none=>.stuck
 | _=>.stuck
theorem QjR(hc:C.X.calm=true)(hg:Gl C.X "all")(hm:C.X.mg "all"=none)(ha:DAB C (e::es) AA)
 (he:starEach (e::es) C.X.env=(false,eval e C.X.env)::starEach es C.X.env:=by rfl) (hpl:(backTo pos (starEach es C.X.env)).any (·.1)=false:=by rfl):DE C (.Call (.Name "all" p) (e::es) [] pos) (eA (f1 fAll) AA):=by
 refine Qgu (Qj4 hc) (QfR ?_) (Qfa ?_) hg hm PyProof.Rows.Boot.«all» ha (by decide) (by decide) he hpl
 ·intro G H σ ς Q x v S r q
  cases x with
  | lst xs=>
   cases eb:blsOf xs with
   | none=>rw[fAll,eb]at q;exact q.elim
   | some bs=>
    rw[fAll,eb]at q
    obtain⟨a,vs,rfl,h2,h3⟩:=r
    rw[Qfx eb h3]at h2
    exact⟨a,bs,rfl,h2,q.2⟩
  | _=>exact q.elim
 ·intro x
  cases x with
  | lst xs=>
   rw[fAll]
   cases blsOf xs with
   | none=>exact True.intro
   | some bs=>exact rfl
  | _=>exact True.intro
end
end DL
namespace DL
open PySem PySem.Spec PyProof.Rows L2
def ctOf(K:PySem.W.Frag):CTab:=fun c=>match PySem.W.nsIn K mainGlobals c with | some (some (.ref a))=>some a | _=>none
abbrev Dc.nox(C:Dc):Dc:={ C with X:=C.X.nox,XD:=fun _=>False }
section
variable{C:Dc}{G H:Hp}{σ:St}{ς:SD}{e:Expr}{es:List Expr}{st:Stmt}{sts:List Stmt}
theorem GH.nox(S:GH C G H):GH C.nox G H:=⟨S.sub,S.g0,S.new,S.fr,S.dom,S.bs,S.bh⟩
theorem GH.unnox(S:GH C.nox G H):GH C G H:=⟨S.sub,S.g0,S.new,S.fr,S.dom,S.bs,S.bh⟩
theorem StR.nox(S:StR C G H σ ς):StR C.nox G H σ ς:=⟨S.toGH.nox,S.len,S.fz,S.ow,S.ln,S.inj,S.sf,S.su⟩
theorem StR.unnox(S:StR C.nox G H σ ς):StR C G H σ ς:=⟨S.toGH.unnox,S.len,S.fz,S.ow,S.ln,S.inj,S.sf,S.su⟩
theorem FlK.nox{W:Ends}{f:Fl}(h:FlK C G W f):FlK C.nox G W f:=by
 cases f with
 | nx ς=>exact fun σ' H' G' S q=>h σ' H' G' S.unnox q
 | bk ς=>exact fun σ' H' G' S q=>h σ' H' G' S.unnox q
 | ct ς=>exact fun σ' H' G' S q=>h σ' H' G' S.unnox q
 | rt b d=>exact fun v H' G' S q r=>h v H' G' S.unnox q r
variable{x:Str}{k:Nat}{fr:Bool}{dd:List D}{m:List D->Out D}{A:SD->Out (List D)}{p pos:Pos}{E:XK}
end
end DL
namespace DL
open PySem PySem.Spec PyProof.Rows L2
section
variable{C:Dc}{x:Str}{k:Nat}{fr:Bool}{dd:List D}{m:List D->Out D}{e:Expr}{es:List Expr}{A:SD->Out (List D)}{p pos:Pos}
variable{T U:SD->Out FX}{TE:SD->Out EX}{st:Stmt}{sts rest:List Stmt}{i:Nat}{px:Pos}
section
variable{G H:Hp}{σ:St}{ς:SD}{ea:Addr}
end
end
end DL
namespace L2
open PySem PySem.Spec PyProof.Rows
end L2
namespace DL
open PySem PySem.Spec PyProof.Rows L2
section
variable{C:Dc}{pos p:Pos}{e cx:Expr}{E:SD->Out D}
end
end DL
namespace L2
open PySem PySem.Spec PyProof.Rows
section
variable{X:Cx}
theorem Qjo(n l1 l2:Nat)(h1:l1<n)(h2:l2<n):ZipApart (n+4) (n+2) (n+3) n (n+1) l1 l2:=⟨(show ¬ ((n+2:Nat)=n+4) by omega),(show ¬ ((n+3:Nat)=n+4) by omega),(show ¬ ((n:Nat)=n+4) by omega),(show ¬ ((n+1:Nat)=n+4) by omega),(show ¬ ((n+2:Nat)=n+3) by omega),(show ¬ ((n+2:Nat)=n) by omega),(show ¬ ((n+2:Nat)=n+1) by omega),(show ¬ ((n+3:Nat)=n) by omega),(show ¬ ((n+3:Nat)=n+1) by omega),(show ¬ ((n:Nat)=n+1) by omega),(show ¬ ((l1:Nat)=n+4) by omega),(show ¬ ((l1:Nat)=n+3) by omega),(show ¬ ((l1:Nat)=n) by omega),(show ¬ ((l1:Nat)=n+1) by omega),(show ¬ ((l2:Nat)=n+4) by omega),(show ¬ ((l2:Nat)=n+3) by omega),(show ¬ ((l2:Nat)=n) by omega),(show ¬ ((l2:Nat)=n+1) by omega)⟩
end
end L2
namespace DL
open PySem PySem.Spec PyProof.Rows L2
section
variable{C:Dc}{a b:Expr}{A B:SD->Out D}
end
end DL
namespace DL
open PySem PySem.Spec PyProof.Rows L2
section
variable{K:PySem.W.Frag}{CT:CTab}{H H':Hp}
theorem RepF.len:∀{fds:List (Str×D)}{fs:List (Str×V)},RepF K CT H fds fs->fds.length=fs.length
 | [],_,h=>by cases h;rfl
 | (k,d)::fds,_,⟨v,r,h1,h2,h3⟩=>by subst h1;rw[List.length_cons,List.length_cons,RepF.len h3]
end
section
variable{C:Dc}{e:Expr}{E:SD->Out D}{f:Str}{cs:List Str}{pos:Pos}
end
end DL
namespace L2
open PySem PySem.Spec PyProof.Rows
section
variable{X:Cx}{CX:CXT}{k:Nat}{m:Str}{dvs:List V}{E:XK}{o e:Expr}{es:List Expr}{ta:TE}{t:TA}{apos pos:Pos}{cs:Addr->Sp->Prop}
end
end L2
namespace DL
open PySem PySem.Spec PyProof.Rows L2
end DL
namespace DL
open PySem PySem.Spec PyProof.Rows L2
section
variable{C:Dc}{E:XK}{c:Str}{A f:Addr}{fd:FuncData}{ps:List Str}{ds:List Value}{dd:List D}{k:Nat}{m:Str->List (Str×D)->List D->Out (List (Str×D))}{e:Expr}{es:List Expr}{AA:SD->Out (List D)}{p pos:Pos}
end
section
variable{C:Dc}{name:Str}{k:Nat}{cs:List Str}{fr:Bool}{mt:Str->List D->Out D}{o e:Expr}{es:List Expr}{O:SD->Out D}{AA:SD->Out (List D)}{apos pos:Pos}
end
end DL
namespace DL
open PySem PySem.Spec PyProof.Rows L2
section
variable{C:Dc}{name:Str}{k:Nat}{cs:List Str}{mt:Str->List D->Out D}{o e:Expr}{es:List Expr}{O:SD->Out D}{AA:SD->Out (List D)}{apos pos:Pos}
variable{E:XK}{m:Str->List (Str×D)->List D->Out (List (Str×D))}{x:Str}{px spos:Pos}
end
end DL
namespace DL
open PySem PySem.Spec PyProof.Rows L2
section
variable{C:Dc}{pos p:Pos}{e cx:Expr}{E:SD->Out D}
end
def eIxO(i:Nat)(b:SD->Out D):SD->Out D:=fun ς=>match (ς[i]?:Option (Option (SM×D))) with
 | some (some (SM.o,D.lst xs))=>b ς>>=fun k=>match k with | .int k=>optO (atI xs k) | _=>.stuck
 | _=>.stuck
section
variable{C:Dc}{pos px:Pos}{b:Expr}{B:SD->Out D}{x f:Str}{cs:List Str}
theorem Qkm(i:Nat)(hb:DB C b B)(hN:C.X.N[i]?=some x:=by rfl)(hv:Vis C.X.env.scope x:=by first | exact Or.inl rfl | exact Or.inr (oi rfl) | exact Or.inr (Or.inr rfl))
 (hd:(x == ("__debug__":Str))=false:=by decide) (hcd:(x == ("__classdict__":Str))=false:=by decide) (hs:QeY b:=by intro _ _;rfl):DE C (.Subscript (.Name x px) b pos) (eIxO i B):=by
 obtain⟨tb,p2,q2⟩:=hb
 refine⟨_,pe_ix Qji (QdI (i:=i) hN hv hd hcd) p2 hs,fun G H σ ς Q S q=>?_⟩
 unfold eIxO at q
 split at q
 ·rename_i xs z
  obtain⟨p,e1',hg,h0,ow⟩:=S.ow i _ z
  rw[Out.post_bind]at q
  refine⟨_,e1',q2 G H σ ς _ S (Out.post_mono q fun y k2 v2 H2 G2 S2 a2 b2 r2=>?_)⟩
  cases y with
  | int k=>
   cases r2
   obtain⟨d,e2',kd⟩:=Qdl k2
   obtain⟨p',e3',hg',h0',vs,hv1,hv2⟩:=S2.ow i _ z
   rw[e1']at e3';cases e3'
   obtain⟨v,e4',rv⟩:=Qfb hv2 e2'
   exact .inl ⟨p,vs,k,v,rfl,rfl,SqL.of hv1,e4',KD.now (KD.later kd a2 b2) S2 rv⟩
  | _=>exact k2.elim
 ·exact q.elim
end
end DL
namespace L2
open PySem PySem.Spec PyProof.Rows
section
variable{X:Cx}
end
end L2
namespace DL
open PySem PySem.Spec PyProof.Rows L2
def enumD(i:Nat):List D->List D
 | []=>[]
 | x::xs=>.tup [.int i,x]::enumD (i+1) xs
theorem Qfp:∀(xs:List D)(i:Nat),(enumD i xs).length=xs.length
 | [],_=>rfl
 | x::xs,i=>by simp[enumD,Qfp xs]
theorem Qfi:∀(xs:List D)(n i:Nat),(enumD n xs)[i]?=xs[i]?.map fun x=>.tup [.int (n+i:Nat),x]
 | [],_,_=>rfl
 | x::xs,n,0=>rfl
 | x::xs,n,i+1=>by
  show(enumD (n+1) xs)[i]?=_
  rw[Qfi xs (n+1) i,show n+1+i=n+(i+1) by omega]
  rfl
section
variable{C:Dc}{a:Expr}{A:SD->Out D}
end
end DL
namespace L2
open PySem PySem.Spec PyProof.Rows
section
variable{X:Cx}
end
end L2
namespace DL
open PySem PySem.Spec PyProof.Rows L2
section
variable{C:Dc}{o e:Expr}{O E:SD->Out D}{apos cpos:Pos}
end
end DL
namespace L2
open PySem PySem.Spec PyProof.Rows
section
variable{X:Cx}{k:Nat}{f ea:Addr}{fd:FuncData}{ps:List Str}{sp:Sp}{dvs:List V}{ds:List Value}{x:Str}{p pos:Pos}{e:Expr}{es:List Expr}{t:TA}
end
end L2
namespace DL
open PySem PySem.Spec PyProof.Rows L2
section
variable{C:Dc}{ea:Addr}{x:Str}{k:Nat}{m:List D->Out D}{e:Expr}{es:List Expr}{A:SD->Out (List D)}{p pos:Pos}
end
end DL
namespace L2
open PySem PySem.Spec PyProof.Rows
section
variable{X:Cx}{tg:Expr}
end
end L2
namespace DL
open PySem PySem.Spec PyProof.Rows L2
section
variable{C:Dc}{a b c e:Expr}{es:List Expr}{A B E:SD->Out D}{AA:SD->Out (List D)}{tg:Expr}{p pos:Pos}
def frz(j:Nat)(ς:SD):SD:=match (ς[j]?:Option (Option (SM×D))) with
 | some (some (SM.o,d))=>ς.set j (some (.k,d))
 | _=>ς
theorem StR.frz{G H:Hp}{σ:L2.St}{ς:SD}(S:StR C G H σ ς){j:Nat}{d:D}(z:ς[j]?=some (some (.o,d))):∃ G',Same G G'/\StR C G' H σ (ς.set j (some (.k,d))):=by
 obtain⟨p,e,hg,h0,ow⟩:=S.ow j d z
 obtain⟨o,ho⟩:=ow.there
 have hj:j<ς.length:=(List.getElem?_eq_some_iff.mp z).1
 have get:∀(i:Nat) x,(ς.set j (some (.k,d)))[i]?=some (some x)->(i=j/\x=(.k,d))∨(i≠j/\ς[i]?=some (some x)):=fun i x h=>by
  rw[List.getElem?_set]at h
  by_cases q:j=i
  ·rw[if_pos q,if_pos (by omega)]at h
   cases h
   exact .inl ⟨q.symm,rfl⟩
  ·rw[if_neg q]at h
   exact .inr ⟨fun w=>q w.symm,h⟩
 refine⟨upd G p o,Qj hg,?_⟩
 have hn:∀(i:Nat) d',i≠j->ς[i]?=some (some (.o,d'))->σ[i]?≠some (some (.ref p)):=fun i d' hi q w=>S.inj i j d' d p hi q z w e
 exact {
  toGH:=GH.freezeR S.toGH ho hg h0
  len:=by rw[List.length_set];exact S.len
  fz:=fun i d' q=>by
   rcases get i _ q with⟨rfl,w⟩ | ⟨_,w⟩
   ·cases w
    exact⟨_,e,ow.known hg ho⟩
   ·obtain⟨v,a,b⟩:=S.fz i d' w
    exact⟨v,a,Rep.mono (Qj hg) d' v b⟩
  ow:=fun i d' q=>by
   rcases get i _ q with⟨rfl,w⟩ | ⟨hi,w⟩
   ·cases w
   ·obtain⟨r,a,b,c,w'⟩:=S.ow i d' w
    refine⟨r,a,?_,c,w'.mono (Qj hg) fun _ z=>z⟩
    rw[Qg (by rintro rfl;exact hn i d' hi w a)];exact b
  ln:=fun i d' q=>by
   rcases get i _ q with⟨rfl,w⟩ | ⟨_,w⟩
   ·cases w
   ·exact S.ln i d' w
  inj:=fun i k d1 d2 q hne h1 h2=>by
   rcases get i _ h1 with⟨rfl,w⟩ | ⟨_,w⟩
   ·cases w
   ·rcases get k _ h2 with⟨rfl,w2⟩ | ⟨_,w2⟩
    ·cases w2
    ·exact S.inj i k d1 d2 q hne w w2
  sf:=fun i d' q=>by
   rcases get i _ q with⟨rfl,w⟩ | ⟨_,w⟩
   ·cases w
   ·obtain⟨r,a,b,c,m,z',w'⟩:=S.sf i d' w
    refine⟨r,a,?_,c,m,z',w'.mono (Qj hg) fun _ z=>z⟩
    rw[Qg (by rintro rfl;exact c h0)];exact b
  su:=fun i k d1 d2 q hne h1 h2=>by
   rcases get i _ h1 with⟨rfl,w⟩ | ⟨_,w⟩
   ·cases w
   ·rcases get k _ h2 with⟨rfl,w2⟩ | ⟨_,w2⟩
    ·cases w2
    ·exact S.su i k d1 d2 q hne w w2 }
end
end DL
namespace LS
open PySem PySem.Spec PyProof.Rows
section
variable{pg:Program}{wd:World}
variable{ar:Around}{Res:Result->Shared->Prop}{it:Addr}{ff wt:List Addr}{Gn:Array GenState->Array GenState->Prop}{n:Nat}{Pv:Nat->Value->Prop}{Sv:Nat->Shared->Prop}
end
section
variable{pg:Program}{wd:World}{ar:Around}{Ex:Value->Shared->Prop}{st:Shared}
end
end LS
namespace DL
open PySem PySem.Spec PyProof.Rows L2
section
variable{K:PySem.W.Frag}{CT:CTab}{H:Hp}
theorem RepK.len:∀{ds:List (Key×D)}{vs:List (Key×V)},RepK K CT H ds vs->ds.length=vs.length
 | [],_,h=>by cases h;rfl
 | (k,d)::ds,_,⟨v,r,h1,h2,h3⟩=>by rw[h1,List.length_cons,List.length_cons,RepK.len h3]
theorem RepK.any(k:Key):∀{ds:List (Key×D)}{vs:List (Key×V)},RepK K CT H ds vs->(ds.any fun kv=>decide (kv.1=k))=vs.any fun kv=>decide (kv.1=k)
 | [],_,h=>by cases h;rfl
 | (k',d)::ds,_,⟨v,r,h1,h2,h3⟩=>by
  subst h1
  rw[List.any_cons,List.any_cons,RepK.any k h3]
end
section
variable{C:Dc}{a b c:Expr}{A B Z:SD->Out D}{pos apos:Pos}
variable{e:Expr}{E:SD->Out D}{p1 p2:Pos}{x:Str}
end
end DL
namespace DL
open PySem PySem.Spec PyProof.Rows L2
section
variable{X:Cx}{e:Expr}{te:TA}{p1 p2 p3 pos:Pos}
end
section
variable{C:Dc}{a:Expr}{A:SD->Out D}{p1 p2 p3 pos:Pos}
end
end DL
namespace DL
open PySem PySem.Spec PyProof.Rows L2
section
variable{C:Dc}{e:Expr}{E:SD->Out D}{p pos tp1:Pos}{cs:List Expr}
end
end DL
namespace DL
open PySem PySem.Spec PyProof.Rows L2
theorem QfZ{K:PySem.W.Frag}{CT:CTab}{H:Hp}{d:D}{v:V}(h:d.scal=true)(r:Rep K CT H d v):v=toV d:=by
 cases d with
 | non=>exact r
 | bl b=>exact r
 | int i=>exact r
 | str x=>exact r
 | _=>cases h
theorem Qfw{K:PySem.W.Frag}{CT:CTab}{H:Hp}:∀{ds:List D}{vs:List V},ds.all D.scal=true->RepL K CT H ds vs->vs=ds.map toV
 | [],_,_,r=>by cases r;rfl
 | d::ds,_,h,⟨v,r,h1,h2,h3⟩=>by
  rw[List.all_cons,Bool.and_eq_true]at h
  rw[h1,QfZ h.1 h2,Qfw h.2 h3];rfl
theorem Qfr{d:D}(h:d.scal=true):flatV (toV d)=true:=by
 cases d with
 | non=>rfl
 | bl b=>rfl
 | int i=>rfl
 | str x=>rfl
 | _=>cases h
theorem QeK:∀{ds:List D},ds.all D.scal=true->(ds.map toV).all flatV=true
 | [],_=>rfl
 | d::ds,h=>by
  rw[List.all_cons,Bool.and_eq_true]at h
  rw[List.map_cons,List.all_cons,Qfr h.1,QeK h.2];rfl
section
variable{C:Dc}{a b:Expr}{A B:SD->Out D}{pos:Pos}
end
end DL
namespace DL
open PySem PySem.Spec PyProof.Rows L2
def dInT:D->D->Out D
 | x,.tup ds=>if (x.scal&&ds.all D.scal)=true then .ok (.bl (inV (toV x) (ds.map toV))) else .stuck
 | _,_=>.stuck
section
variable{C:Dc}{a b:Expr}{A B:SD->Out D}{pos:Pos}
theorem Qmj:DRS C (rIn C.X.K false) dInT:=by
 intro G H σ ς Q x y vx vy S hx hy q
 cases y with
 | tup ds=>
  have q:(if (x.scal&&ds.all D.scal)=true then Out.ok (D.bl (inV (toV x) (ds.map toV))) else .stuck).post _ _:=q
  rcases QF q with⟨hc,q⟩ | ⟨_,q⟩
  ·rw[Bool.and_eq_true]at hc
   obtain⟨p,vs,rfl,h2,h3⟩:=hy
   have e1:=QfZ hc.1 hx
   have e2:=Qfw hc.2 h3
   subst e1;subst e2
   exact⟨p,_,rfl,.inr h2,Qfr hc.1,QeK hc.2,q.2⟩
  ·exact q.elim
 | _=>exact q.elim
theorem Qk1:scal2 dInT:=fun x y=>by
 cases y with
 | tup ds=>
  show match (if (x.scal&&ds.all D.scal)=true then Out.ok (D.bl (inV (toV x) (ds.map toV))) else .stuck) with | .ok d=>d.scal=true | .exc _=>False | .stuck=>True
  split<;>rename_i h<;>(split at h<;>cases h)<;>first | rfl | trivial
 | _=>exact True.intro
theorem QmM(ha:DB C a A)(hb:DB C b B)(hm:behindInMarks .In b=false:=by rfl):DT C (.Compare a [.In] [b] pos) (tVal (e2 dInT A B)):=Qcn Qkt Qmj Qk1 ha hb hm
end
end DL
namespace DL
open PySem PySem.Spec PyProof.Rows L2
def QdU(i:Nat)(E:SD->Out D):SD->Out Fl:=fun ς=>match ς[i]? with
 | some (some (.o,.lst xs))=>E ς>>=fun d=>match d with
  | .lst zs=>if decide (xs.length+zs.length<=sizeLine)=true then .ok (.nx (ς.set i (some (.o,.lst (xs++zs))))) else .stuck
  | _=>.stuck
 | _=>.stuck
section
variable{C:Dc}{e:Expr}{E:SD->Out D}{pos p1 p2 p3:Pos}{x:Str}
theorem Qjj(i:Nat)(he:DF C e E)(hN:C.X.N[i]?=some x:=by rfl)(hv:Vis C.X.env.scope x:=by first | exact Or.inl rfl | exact Or.inr (oi rfl) | exact Or.inr (Or.inr rfl))
 (hd:(x == ("__debug__":Str))=false:=by decide) (hcd:(x == ("__classdict__":Str))=false:=by decide)
 (hbase:attributeBase (.Name x p1) "extend" C.X.env (eval (.Name x p1) C.X.env)=eval (.Name x p1) C.X.env:=by rfl)
 (hfew:((backTo p3 (starEach (e::[]) C.X.env)).all (fun x => !x.1)&&(backToKw p3 (keywordEach [] C.X.env)).all (fun x=>x.1.isSome)
  && decide ((e::[]).length+([]:List Keyword).length+(if ([]:List Keyword).isEmpty then 0 else 1)<30))=true:=by rfl)
 (hline:(p2.endLine == p3.line)=true:=by rfl) (hs:starEach (e::[]) C.X.env=(false,eval e C.X.env)::starEach [] C.X.env:=by rfl)
 (hsw:swapsWith (.Call (.Attribute (.Name x p1) "extend" p2) [e] [] p3) none pos.line C.X.env=pure false:=by rfl):
 DS C (.Expr (.Call (.Attribute (.Name x p1) "extend" p2) [e] [] p3) pos) (QdU i E):=by
 obtain⟨t,p,q⟩:=he
 refine⟨_,Qmc (pe_bm PySem.F.plainAttrs_list PySem.F.slot_list_extend PySem.F.type_list_extend Qjk (QdI (i:=i) hN hv hd hcd) (QaZ p Qck hs) hbase hfew hline hs rfl) hsw,fun G H σ ς W S k=>?_⟩
 unfold QdU at k
 split at k
 ·rename_i xs z
  obtain⟨pp,e1,hg,h0,ow⟩:=S.ow i _ z
  obtain⟨vs,hv1,hv2⟩:=ow
  rw[Out.post_bind]at k
  refine⟨_,e1,.inl ⟨rfl,vs,SqL.of hv1⟩,q G H σ ς _ S (Out.post_mono k fun d k2 b H1 G1 S1 a1 b1 hb hgb ob=>?_)⟩
  cases d with
  | lst zs=>
   obtain⟨ws,hw1,hw2⟩:=ob
   have k2:(if decide (xs.length+zs.length<=sizeLine)=true then Out.ok (Fl.nx (ς.set i (some (.o,.lst (xs++zs))))) else .stuck).post _ _:=k2
   rcases QF k2 with⟨hc,k3⟩ | ⟨_,k3⟩
   ·have hl:=hv2.length
    have hl2:=hw2.length
    refine⟨pp,b,vs,ws,rfl,rfl,a1 _ _ hv1,hw1,by rw[← hl, ← hl2];exact of_decide_eq_true hc,?_⟩
    exact k3 σ _ G1 (S1.write z e1 (a1 _ _ hv1) ((RepL.mono b1 xs vs hv2).append hw2)) b1
   ·exact k3.elim
  | _=>exact k2.elim
 ·exact k.elim
end
end DL
namespace DL
open PySem PySem.Spec PyProof.Rows L2
section
variable{K:PySem.W.Frag}{CT:CTab}{G H:Hp}
end
section
variable{C:Dc}{a b:Expr}{A B:SD->Out D}{pos:Pos}
end
end DL
namespace DL
open PySem PySem.Spec PyProof.Rows L2
def frzs:List Nat->SD->SD
 | [],ς=>ς
 | i::is,ς=>frzs is (frz i ς)
section
variable{X:Cx}{e:Expr}{te:TA}{p1 p2 p3 pos:Pos}
end
section
variable{C:Dc}{e:Expr}{A:SD->Out (List D)}{p1 p2 p3 pos:Pos}
end
end DL
namespace DL
open PySem PySem.Spec PyProof.Rows L2
section
variable{C:Dc}{e:Expr}{E:SD->Out D}{pos:Pos}
end
end DL
namespace DL
open PySem PySem.Spec PyProof.Rows L2
def stsA(x y:Str)(i:Int):Bool:=decide (fromIndex x.length i+y.length<=x.length)&&Builtin.Str.subAt x y (fromIndex x.length i)
def sts0(x y:Str):Bool:=decide (0+y.length<=x.length)&&Builtin.Str.subAt x y 0
def Qh6:V->List V->Hp->VK->Prop:=fun v vs H Q=>∃ x y,v=.str x/\((vs=[.str y]/\Q (.bl (sts0 x y)) H)∨∃ i,vs=[.str y,.int i]/\Q (.bl (stsA x y i)) H)
theorem Qff{X:Cx}:MtR X "str.startswith" Qh6:=by
 intro pins s σ H v vs u us Q I rx rv h
 obtain⟨x,y,rfl,h⟩:=h
 obtain⟨t,rfl⟩:=rx
 rcases h with⟨rfl,q⟩ | ⟨i,rfl,q⟩
 ·obtain⟨u,rfl,ru⟩:=vals1 rv
  obtain⟨t',rfl⟩:=ru
  exact call_gives F.slot_str_startswith rfl F.entry_str_startswith (F.args_str_startswith_2 _ _) (gives_str_startswith x y t t') ⟨.bl _,H,I,rfl,q⟩
 ·obtain⟨u,u',rfl,ru,ru'⟩:=vals2 rv
  obtain⟨t',rfl⟩:=ru
  obtain⟨t2,rfl⟩:=ru'
  exact call_gives F.slot_str_startswith rfl F.entry_str_startswith (F.args_str_startswith_3 _ _ _) (gives_str_startswith_from x y i t t' t2) ⟨.bl _,H,I,rfl,q⟩
def ends0(x y:Str):Bool:=decide (0+y.length<=x.length)&&Builtin.Str.subAt x y (x.length - y.length)
def rEnds:V->List V->Hp->VK->Prop:=fun v vs H Q=>∃ x y,v=.str x/\vs=[.str y]/\Q (.bl (ends0 x y)) H
theorem Qmh{X:Cx}:MtR X "str.endswith" rEnds:=by
 intro pins s σ H v vs u us Q I rx rv h
 obtain⟨x,y,rfl,rfl,q⟩:=h
 obtain⟨t,rfl⟩:=rx
 obtain⟨u,rfl,ru⟩:=vals1 rv
 obtain⟨t',rfl⟩:=ru
 exact call_gives F.slot_str_endswith rfl F.entry_str_endswith (F.args_str_endswith_2 _ _) (gives_str_endswith x y t t') ⟨.bl _,H,I,rfl,q⟩
def partF(x y:Str):Str×Str×Str:=match Builtin.Str.occurrences x y 0 x.length 1 with
 | i::_=>(Builtin.Str.strSub x 0 i,y,Builtin.Str.strSub x (i+y.length) x.length)
 | []=>(x,Str.empty,Str.empty)
def QbS(x y:Str):Str×Str×Str:=match Builtin.Str.lastOccurrence x y 0 x.length with
 | some i=>(Builtin.Str.strSub x 0 i,y,Builtin.Str.strSub x (i+y.length) x.length)
 | none=>(Str.empty,Str.empty,x)
def rPart(f:Str->Str->Str×Str×Str):V->List V->Hp->VK->Prop:=fun v vs H Q=>∃ x y,v=.str x/\vs=[.str y]/\(y.length == 0)=false/\x.length<=sizeLine/\∀ p,H p=none->Q (.ref p) (upd H p (.tup [.str (f x y).1,.str (f x y).2.1,.str (f x y).2.2]))
theorem tup3{X:Cx}{pins:List (Addr×Obj)}{σ:St}{H:Hp}{s:Shared}{Q:VK}{a b c:Str}{t1 t2 t3:Tok}{tk:Nat}(I:Inv X pins σ H s)(q:∀ p,H p=none->Q (.ref p) (upd H p (.tup [.str a,.str b,.str c]))):
 EP X pins σ Q (.ref s.heap.objs.size) { s with toks:=tk,heap:=s.heap.push { cls:=.type "tuple",data:=.seq [.str a t1,.str b t2,.str c t3].toArray } }:=by
 have hf:H s.heap.objs.size=none:=I.hok.fresh (Nat.le_refl _)
 refine⟨.ref s.heap.objs.size,upd H s.heap.objs.size (.tup [.str a,.str b,.str c]),I.laid (t':=tk) (fun b u e=>Heap.get?_push_of_some _ e) (Nat.le_refl _) ?_,rfl,q _ hf⟩
 exact⟨by show 3<=sizeLine;decide,[.str a t1,.str b t2,.str c t3],.cons ⟨_,rfl⟩ (.cons ⟨_,rfl⟩ (.cons ⟨_,rfl⟩ .nil)),⟨_,Heap.get?_push_size _ rfl,rfl,_,rfl⟩⟩
theorem QlY{X:Cx}:MtR X "str.partition" (rPart partF):=by
 intro pins s σ H v vs u us Q I rx rv h
 obtain⟨x,y,rfl,rfl,hy,hx,q⟩:=h
 obtain⟨t,rfl⟩:=rx
 obtain⟨u,rfl,ru⟩:=vals1 rv
 obtain⟨t',rfl⟩:=ru
 refine call_meets F.slot_str_partition rfl F.entry_str_partition (F.args_str_partition_2 _ _) (meets_str_partition x y t t' hy hx) ?_
 unfold partF at q
 cases ho:Builtin.Str.occurrences x y 0 x.length 1 with
 | nil=>rw[ho]at q;exact tup3 I q
 | cons i r=>rw[ho]at q;exact tup3 I q
theorem Qln{X:Cx}:MtR X "str.rpartition" (rPart QbS):=by
 intro pins s σ H v vs u us Q I rx rv h
 obtain⟨x,y,rfl,rfl,hy,hx,q⟩:=h
 obtain⟨t,rfl⟩:=rx
 obtain⟨u,rfl,ru⟩:=vals1 rv
 obtain⟨t',rfl⟩:=ru
 refine call_meets F.slot_str_rpartition rfl F.entry_str_rpartition (F.args_str_rpartition_2 _ _) (meets_str_rpartition x y t t' hy hx) ?_
 unfold QbS at q
 cases ho:Builtin.Str.lastOccurrence x y 0 x.length with
 | none=>rw[ho]at q;exact tup3 I q
 | some i=>rw[ho]at q;exact tup3 I q
def fSts:D->List D->Out D
 | .str x,[.str y]=>.ok (.bl (sts0 x y))
 | .str x,[.str y,.int i]=>.ok (.bl (stsA x y i))
 | _,_=>.stuck
def fEnds:D->List D->Out D
 | .str x,[.str y]=>.ok (.bl (ends0 x y))
 | _,_=>.stuck
def fPart(f:Str->Str->Str×Str×Str):D->List D->Out D
 | .str x,[.str y]=>if (!(y.length == 0)&&decide (x.length<=sizeLine))=true then .ok (.tup [.str (f x y).1,.str (f x y).2.1,.str (f x y).2.2]) else .stuck
 | _,_=>.stuck
def eSm(f:D->List D->Out D)(O:SD->Out D)(A:SD->Out (List D)):SD->Out D:=fun ς=>O ς>>=fun x=>match x with
 | .str z=>A ς>>=fun ys=>f (.str z) ys
 | _=>.stuck
section
variable{C:Dc}{o e:Expr}{es:List Expr}{O:SD->Out D}{A:SD->Out (List D)}{apos cpos:Pos}{m:Str}{id:String}{r:V->List V->Hp->VK->Prop}{f:D->List D->Out D}
theorem de_sm(slot:Slot "str" m id)(hty:typeOf (.builtin id)=pure (.type "method_descriptor"))(hm:MtR C.X id r)(ho:DB C o O)(ha:DA C (e::es) A)
 (hr:∀ G H σ ς (Q:VK) z ys vs,StR C G H σ ς->RepL C.X.K C.CT G ys vs->(f (.str z) ys).post (KD C G H σ ς Q) C.XD->r (.str z) vs H Q)
 (hbase:attributeBase o m C.X.env (eval o C.X.env)=eval o C.X.env:=by rfl)
 (hfew:((backTo cpos (starEach (e::es) C.X.env)).all (fun x => !x.1)&&(backToKw cpos (keywordEach [] C.X.env)).all (fun x=>x.1.isSome)
  && decide ((e::es).length+([]:List Keyword).length+(if ([]:List Keyword).isEmpty then 0 else 1)<30))=true:=by rfl)
 (hline:(apos.endLine == cpos.line)=true:=by rfl) (hs:starEach (e::es) C.X.env=(false,eval e C.X.env)::starEach es C.X.env:=by rfl) (hplain:(backTo cpos (starEach es C.X.env)).any (·.1)=false:=by rfl):
 DE C (.Call (.Attribute o m apos) (e::es) [] cpos) (eSm f O A):=by
 obtain⟨t0,p0,q0⟩:=ho
 obtain⟨t1,p1,q1⟩:=ha
 refine⟨_,pe_bm PySem.F.plainAttrs_str slot hty hm p0 p1 hbase hfew hline hs hplain,fun G H σ ς Q S k=>?_⟩
 unfold eSm at k
 rw[Out.post_bind]at k
 refine q0 G H σ ς _ S (Out.post_mono k fun x k v H1 G1 S1 a1 b1 r1=>?_)
 cases x with
 | str z=>
  cases r1
  refine⟨rfl,?_⟩
  have k:(A ς>>=fun ys=>f (.str z) ys).post (KD C G H σ ς Q) C.XD:=k
  rw[Out.post_bind]at k
  refine q1 G1 H1 σ ς _ S1 (Out.post_mono k fun ys k vs H2 G2 S2 a2 b2 r2=>?_)
  exact hr G2 H2 σ ς Q z ys vs S2 r2 (Out.post_mono k fun d k=>KD.later k (a1.trans a2) (b1.trans b2))
 | _=>exact k.elim
theorem rep1{K:PySem.W.Frag}{CT:CTab}{G:Hp}{d:D}{vs:List V}(h:RepL K CT G [d] vs):∃ v,vs=[v]/\Rep K CT G d v:=by
 obtain⟨v,r,h1,h2,h3⟩:=h
 have h3:r=[]:=h3
 exact⟨v,by rw[h1,h3],h2⟩
theorem rep2{K:PySem.W.Frag}{CT:CTab}{G:Hp}{d e:D}{vs:List V}(h:RepL K CT G [d,e] vs):∃ v w,vs=[v,w]/\Rep K CT G d v/\Rep K CT G e w:=by
 obtain⟨v,r,h1,h2,h3⟩:=h
 obtain⟨w,h4,h5⟩:=rep1 h3
 exact⟨v,w,by rw[h1,h4],h2,h5⟩
theorem sts_r{C:Dc}:∀ G H σ ς (Q:VK) z ys vs,StR C G H σ ς->RepL C.X.K C.CT G ys vs->(fSts (.str z) ys).post (KD C G H σ ς Q) C.XD->Qh6 (.str z) vs H Q:=by
 intro G H σ ς Q z ys vs S hr k
 unfold fSts at k
 split at k
 ·rename_i x y e
  cases e
  obtain⟨v,rfl,h2⟩:=rep1 hr
  cases h2
  exact⟨z,y,rfl,.inl ⟨rfl,KD.now (show KD C G H σ ς Q (.bl (sts0 z y)) from k) S rfl⟩⟩
 ·rename_i x y i e
  cases e
  obtain⟨v,w,rfl,h2,h3⟩:=rep2 hr
  cases h2;cases h3
  exact⟨z,y,rfl,.inr ⟨i,rfl,KD.now (show KD C G H σ ς Q (.bl (stsA z y i)) from k) S rfl⟩⟩
 ·exact k.elim
theorem Qnq{C:Dc}:∀ G H σ ς (Q:VK) z ys vs,StR C G H σ ς->RepL C.X.K C.CT G ys vs->(fEnds (.str z) ys).post (KD C G H σ ς Q) C.XD->rEnds (.str z) vs H Q:=by
 intro G H σ ς Q z ys vs S hr k
 unfold fEnds at k
 split at k
 ·rename_i x y e
  cases e
  obtain⟨v,rfl,h2⟩:=rep1 hr
  cases h2
  exact⟨z,y,rfl,rfl,KD.now (show KD C G H σ ς Q (.bl (ends0 z y)) from k) S rfl⟩
 ·exact k.elim
theorem Qj3{C:Dc}(f:Str->Str->Str×Str×Str):∀ G H σ ς (Q:VK) z ys vs,StR C G H σ ς->RepL C.X.K C.CT G ys vs->(fPart f (.str z) ys).post (KD C G H σ ς Q) C.XD->rPart f (.str z) vs H Q:=by
 intro G H σ ς Q z ys vs S hr k
 unfold fPart at k
 split at k
 ·rename_i x y e
  cases e
  obtain⟨v,rfl,h2⟩:=rep1 hr
  cases h2
  rcases QF k with⟨hc,k3⟩ | ⟨_,k3⟩
  ·rw[Bool.and_eq_true]at hc
   refine⟨z,y,rfl,rfl,by simpa using hc.1,of_decide_eq_true hc.2,?_⟩
   exact KD.tup (show KD C G H σ ς Q (.tup [.str (f z y).1,.str (f z y).2.1,.str (f z y).2.2]) from k3) S ⟨_,_,rfl,rfl,_,_,rfl,rfl,_,_,rfl,rfl,rfl⟩
  ·exact k3.elim
 ·exact k.elim
end
end DL
namespace L2
open PySem PySem.Spec PyProof.Rows
def IteS(x:Str):It:=
 ⟨fun i _=>i<x.cps.size,
  fun i H v H'=>∃ p c,H p=none/\v=.ref p/\H'=upd H p (.tup [.int i,.str ⟨#[c]⟩])/\x.cps[i]?=some c,
  fun i _=>x.cps.size<=i⟩
theorem QiY{P:Program}{w:World}{K:PySem.W.Frag}{elts:List Expr}{k1:Nat}{pos:Pos}{e it:Addr}{x:Str}{ty:String}{tt:Tok}(D1:e≠it)
 (Dr:∀ A':Around,A'.handled=none->Draws P w A' it [it] x.cps.size (fun i v=>∃ c u,x.cps[i]?=some c/\v=.str ⟨#[c]⟩ u) (fun i h=>h.IsStrIter it ty x tt i)):
 Turn P w K (.Tuple elts k1 pos) (IteS x) [e,it] e (fun i h=>(∃ old,IsEnum h e it (i:Int) old)/\h.IsStrIter it ty x tt i/\i<=x.cps.size) where
 mem:=by simp
 obj:=fun i h st b hb=>by
  obtain⟨⟨old,s1⟩,⟨o4,e4,c4,d4⟩,_⟩:=st
  simp only[List.mem_cons,List.not_mem_nil,or_false]at hb
  rcases hb with rfl | rfl
  ·exact⟨_,s1,fun v q=>by cases q⟩
  ·exact⟨_,e4,fun v q=>by rw[d4]at q;cases q⟩
 keep:=fun i h h' st k=>by
  obtain⟨⟨old,s1⟩,⟨o4,e4,c4,d4⟩,le⟩:=st
  exact⟨⟨old,k e (by simp) _ s1⟩,⟨o4,k it (by simp) o4 e4,c4,d4⟩,le⟩
 item:=by
  intro X hP hw hK hc i pins s σ H E I hf st hg
  subst hP hw hK
  have hg:i<x.cps.size:=hg
  obtain⟨⟨old,s1⟩,s4,le⟩:=st
  have hAi:X.A.in1.handled=none:=I.ok.hd hc
  refine wpAny_pyNext_enum_itemD (Dr X.A.in1 hAi) s1 s4 hg D1 (by simp only[List.mem_cons,List.not_mem_nil,or_false];exact D1) fun u1 h' tk hP1 a1 a3 a5 a6 hk=>?_
  obtain⟨cc,u2,hcc,rfl⟩:=hP1
  have hT:H s.heap.objs.size=none:=I.hok.fresh (Nat.le_refl _)
  have fp:∀ c∈[e,it],FpOk X pins H c:=hf
  have out:∀ c,c∉[e,it]->∀ o,s.heap.get? c=some o->h'.get? c=some o:=fun c hc o q=>hk c o (fun q=>hc (by simp[q])) (fun q=>hc (by simp[q])) q
  have trk:∀ c o,H c=some o->c∉[e,it]:=fun c o q hc=>by rw[(fp c hc).1]at q;cases q
  have hok:HOk X.prog X.w (upd H s.heap.objs.size (.tup [.int i,.str ⟨#[cc]⟩])) h':=fun c o q=>by
   by_cases hcT:c=s.heap.objs.size
   ·subst hcT
    rw[QG]at q
    cases q
    exact⟨by show 2<=sizeLine;decide,[.int i tk,.str ⟨#[cc]⟩ u2],.cons ⟨_,rfl⟩ (.cons ⟨_,rfl⟩ .nil),⟨_,a5,rfl,_,rfl⟩⟩
   ·rw[Qg hcT]at q
    refine(I.hok c o q).stay (fun b u hb q'=>out b ?_ u q') (fun b q'=>?_) fun b ts q'=>?_
    ·rcases hb with rfl | hb
     ·exact trk b _ q
     ·exact trk b _ hb
    ·rw[Qg (QB q' hT)];exact q'
    ·rw[Qg (QB q' hT)];exact q'
  have I1:Inv X pins σ (upd H s.heap.objs.size (.tup [.int i,.str ⟨#[cc]⟩])) { s with heap:=h',gens:=s.gens,drawn:=s.drawn,toks:=tk+1 }:=I.step (ch:=[e,it])
   (fun c hc=>⟨(fp c hc).2.2.2.1,(fp c hc).2.1,(fp c hc).2.2.2.2.1,(fp c hc).2.2.2.2.2⟩) (fun c o _ _ hc q _=>out c hc o q) (fun c o _ _ hc q _=>⟨o.slots,out c hc o q⟩)
   (fun c o hc q n=>by rw[Qg (Nat.ne_of_lt (Heap.lt_size q))];exact n) (fun c o hc q=>⟨o,out c hc o q⟩)
   (fun c ts q=>by rw[Qg (QB q hT)];exact q) (fun c o u q=>by rw[Qg (QB q hT)];exact q) (fun c ts q=>⟨#[],by rw[Qg (QB q hT),q];simp⟩)
   (fun m hm=>by
    obtain⟨o,es,ep,ho,r⟩:=hm
    exact⟨o,es,ep,out _ (fun hc=>(fp _ hc).2.1 rfl) o ho,r⟩) hok I.bare
  have lt:∀{c o},s.heap.get? c=some o->s.heap.objs.size≠c:=fun q=>Nat.ne_of_gt (Heap.lt_size q)
  refine⟨_,rfl,wpAny_letOwnedTupleGo_enum a1 fun h2 hz2 hs2=>?_⟩
  obtain⟨z0,z1,z2,z3,z4,z5⟩:=hf e (by simp)
  have I2:Inv X pins σ (upd H s.heap.objs.size (.tup [.int i,.str ⟨#[cc]⟩])) { s with heap:=h2,toks:=tk+1 }:=Inv.turned (s:={ s with heap:=h',gens:=s.gens,drawn:=s.drawn,toks:=tk+1 }) (t':=tk+1) (it:=e) I1 (fun b o hb q=>(hs2.2 b hb).trans q) (by rw[Qg (lt s1).symm];exact z0) z1 z3 z4 z5
  refine⟨.ref s.heap.objs.size,_,I2,rfl,⟨_,cc,hT,rfl,rfl,hcc⟩,
   ⟨⟨_,by have:((i+1:Nat):Int)=(i:Int)+1:=by push_cast;rfl
          rw[this];exact hz2⟩,(let ⟨o,ho,r⟩:=a3;⟨o,hs2.extBut it o D1.symm ho,r⟩),hg⟩,fun c hc=>?_⟩
  have:H c=none:=(hf c hc).1
  obtain⟨oc,hoc⟩:∃ o,s.heap.get? c=some o:=by
   simp only[List.mem_cons,List.not_mem_nil,or_false]at hc
   rcases hc with rfl | rfl
   ·exact⟨_,s1⟩
   ·obtain⟨o,q,_⟩:=s4;exact⟨o,q⟩
  rw[Qg (lt hoc).symm];exact this
 done:=by
  intro X hP hw hK hc i pins s σ H E I hf st hg
  subst hP hw hK
  have hg:x.cps.size<=i:=hg
  obtain⟨⟨old,s1⟩,s4,le⟩:=st
  have hAi:X.A.in1.handled=none:=I.ok.hd hc
  have ei:i=x.cps.size:=Nat.le_antisymm le hg
  subst ei
  obtain⟨z0,z1,z2,z3,z4,z5⟩:=hf it (by simp)
  refine wpAny_pyNext_enum_endD (Dr X.A.in1 hAi) s1 s4 fun h' hk=>⟨rfl,?_⟩
  have fp:∀ c∈[it],FpOk X pins H c:=fun c hc=>hf c (by simp only[List.mem_cons,List.not_mem_nil,or_false]at hc ⊢;exact Or.inr hc)
  have out:∀ c,c∉[it]->∀ o,s.heap.get? c=some o->h'.get? c=some o:=fun c hc o q=>hk c o (fun q=>hc (by simp[q])) q
  have trk:∀ c o,H c=some o->c∉[it]:=fun c o q hc=>by rw[(fp c hc).1]at q;cases q
  exact I.step (g':=s.gens) (d':=s.drawn) (t':=s.toks) (ch:=[it]) (fun c hc=>⟨(fp c hc).2.2.2.1,(fp c hc).2.1,(fp c hc).2.2.2.2.1,(fp c hc).2.2.2.2.2⟩) (fun c o _ _ hc q _=>out c hc o q) (fun c o _ _ hc q _=>⟨o.slots,out c hc o q⟩)
   (fun c o hc q n=>n) (fun c o hc q=>⟨o,out c hc o q⟩) (fun c ts q=>q) (fun c o u q=>q) (fun c ts q=>⟨#[],by rw[q];simp⟩)
   (fun m hm=>by
    obtain⟨o,es,ep,ho,r⟩:=hm
    exact⟨o,es,ep,out _ (fun hc=>(fp _ hc).2.1 rfl) o ho,r⟩)
   (fun c o q=>(I.hok c o q).stay (fun b u hb q'=>out b (by
    rcases hb with rfl | hb
    ·exact trk b _ q
    ·exact trk b _ hb) u q') (fun b q'=>q') fun b ts q'=>q') I.bare
 self:=fun _ _ _ _ _ st h=>wpAny_pyIter_enum st.1.choose_spec h
section
variable{X:Cx}
def Qnp(ta:TA):TI:=fun σ H R=>ta σ H fun vs H1=>∃ x,vs=[.str x]/\R (IteS x) H1
theorem QkT{elts:List Expr}{k1:Nat}{tpos:Pos}{a:Expr}{ta:TA}{p pos:Pos}(hg:Gl X "enumerate")(hm:X.mg "enumerate"=none)(ha:PA X [a] ta)(hs:starEach [a] X.env=[(false,eval a X.env)]:=by rfl):
 PI X (.Tuple elts k1 tpos) (.Call (.Name "enumerate" p) [a] [] pos) (Qnp ta):=by
 intro pins s σ H R I h
 refine Call_ (Qc5 I hg hm PyProof.Rows.Boot.«enumerate» (PyProof.Rows.callWith_type1 (thn (ha pos pins s σ H _ I h) fun us s1 ⟨vs,H1,I1,r1,q1⟩=>?_) (by rw[hs];rfl) (by rfl)))
 obtain⟨x,e,q⟩:=q1
 subst e
 cases r1 with
 | cons r rr=>
  cases rr
  obtain⟨t,rfl⟩:=r
  refine call_enumerate_str fun h' c1 c4 c6 hk=>?_
  refine wpAny_pyIter_enum c1 ?_
  refine⟨_,_,_,IteS x,H1,rfl,I1.kept (t':=s1.toks) fun b o e=>hk b o e,QiY (e:=s1.heap.objs.size+1) (it:=s1.heap.objs.size) (x:=x) (ty:=strIterType x) (tt:=t) (show ¬ ((s1.heap.objs.size+1:Nat)=s1.heap.objs.size) by omega) (fun A' hA=>?_),
   ⟨⟨_,c1⟩,c4,Nat.zero_le _⟩,fun b hb=>?_,q⟩
  ·unfold strIterType
   cases ha:x.cps.all (· < 128)
   ·exact Draws.strWide hA _ x t
   ·exact Draws.strAscii hA _ x t
  have hb':s1.heap.objs.size<=b:=by
   simp only[List.mem_cons,List.not_mem_nil,or_false]at hb
   rcases hb with rfl | rfl<;>omega
  exact I1.fpOk hb' (I1.hok.fresh hb')
end
end L2
namespace DL
open PySem PySem.Spec PyProof.Rows L2
def itES(A:SD->Out D):SD->Out (List D):=fun ς=>A ς>>=fun x=>match x with
 | .str z=>.ok (enumD 0 (signs z))
 | _=>.stuck
section
variable{C:Dc}{a:Expr}{A:SD->Out D}
theorem QjY(z:Str)(i:Nat):(signs z)[i]?=z.cps[i]?.map fun c=>D.str ⟨#[c]⟩:=by
 unfold signs
 rw[List.getElem?_map,Array.getElem?_toList]
theorem Qku{K:PySem.W.Frag}{CT:CTab}{G1:Hp}(z:Str):DIt K CT G1 (IteS z) (enumD 0 (signs z)) where
 go:=fun G H i d s1 sH hd=>by
  rw[Qfi,Nat.zero_add,QjY]at hd
  cases e1':z.cps[i]? with
  | none=>rw[e1']at hd;cases hd
  | some c=>
   rw[e1']at hd
   cases hd
   refine⟨(Array.getElem?_eq_some_iff.mp e1').1,fun w H' ⟨t,c',n,e,e',k1⟩=>?_⟩
   rw[e1']at k1;cases k1
   subst e e'
   have gn:G t=none:=sH.free n
   refine⟨upd G t (.tup [.int i,.str ⟨#[c]⟩]),Qj gn,Qj n,QdN sH,fun b g g'=>?_,t,[.int i,.str ⟨#[c]⟩],rfl,SqT.of QG,⟨.int i,_,rfl,rfl,.str ⟨#[c]⟩,_,rfl,rfl,rfl⟩⟩
   by_cases hb:b=t
   ·subst hb;exact n
   ·rw[Qg hb]at g';exact absurd g g'
 stop:=fun G H s1 sH=>by
  show z.cps.size<=_
  rw[Qfp]
  unfold signs
  rw[List.length_map,Array.length_toList]
  exact Nat.le_refl _
theorem QkL{elts:List Expr}{k1:Nat}{tpos p pos:Pos}(hgl:Gl C.X "enumerate")(hm:C.X.mg "enumerate"=none)(ha:DB C a A)
 (hst:starEach [a] C.X.env=(false,eval a C.X.env)::starEach [] C.X.env:=by rfl):DI C (.Tuple elts k1 tpos) (.Call (.Name "enumerate" p) [a] [] pos) (itES A):=by
 obtain⟨t0,p0,q0⟩:=ha
 refine⟨_,QkT hgl hm (QaZ p0 Qck hst) (by rw[hst];rfl),fun G H σ ς R S k=>?_⟩
 unfold itES at k
 rw[Out.post_bind]at k
 refine q0 G H σ ς _ S (Out.post_mono k fun d k v H1 G1 S1 a1 b1 r=>?_)
 cases d with
 | str z=>
  cases r
  exact⟨z,rfl,k _ H1 G1 S1 a1 b1 (Qku z)⟩
 | _=>exact k.elim
end
end DL
namespace DL
open PySem PySem.Spec PyProof.Rows L2
section
variable{C:Dc}{G G' H H':Hp}{σ:St}{ς ς':SD}
end
end DL
namespace DL
open PySem PySem.Spec PyProof.Rows L2
section
variable{C:Dc}{a e:Expr}{A E:SD->Out D}{pos p1 p2:Pos}{x:Str}
end
def ArgW(K:PySem.W.Frag)(CT:CTab)(G H:Hp):List Bool->List D->List V->List Addr->Prop
 | [],[],[],ps=>ps=[]
 | true::bs,d::ds,v::vs,ps=>∃ p ps',v=.ref p/\ps=p::ps'/\p∉ps'/\G p=none/\Own K CT G H p d/\ArgW K CT G H bs ds vs ps'
 | false::bs,d::ds,v::vs,ps=>Rep K CT G d v/\ArgW K CT G H bs ds vs ps
 | _,_,_,_=>False
section
variable{K:PySem.W.Frag}{CT:CTab}{G H:Hp}
theorem ArgW.len:∀{bs:List Bool}{ds:List D}{vs:List V}{ps:List Addr},ArgW K CT G H bs ds vs ps->bs.length=vs.length/\ds.length=vs.length
 | [],[],[],_,_=>⟨rfl,rfl⟩
 | true::bs,d::ds,v::vs,ps,⟨_,_,_,_,_,_,_,h⟩=>by have:=ArgW.len h;simp[this.1,this.2]
 | false::bs,d::ds,v::vs,ps,⟨_,h⟩=>by have:=ArgW.len h;simp[this.1,this.2]
theorem ArgW.mem:∀{bs:List Bool}{ds:List D}{vs:List V}{ps:List Addr}{i:Nat}{v:V},ArgW K CT G H bs ds vs ps->bs[i]?=some true->vs[i]?=some v->∃ p,v=.ref p/\p∈ps
 | true::bs,d::ds,v::vs,ps,0,w,⟨p,ps',e,e2,_,_,_,_⟩,_,h=>by
  cases h;exact⟨p,e,by rw[e2];exact List.mem_cons_self ..⟩
 | true::bs,d::ds,v::vs,ps,i+1,w,⟨p,ps',e,e2,_,_,_,hh⟩,h1,h2=>by
  obtain⟨q,a,b⟩:=ArgW.mem (i:=i) hh (by simpa using h1) (by simpa using h2)
  exact⟨q,a,by rw[e2];exact List.mem_cons_of_mem _ b⟩
 | false::bs,d::ds,v::vs,ps,0,w,_,h,_=>by cases h
 | false::bs,d::ds,v::vs,ps,i+1,w,⟨_,hh⟩,h1,h2=>ArgW.mem (i:=i) hh (by simpa using h1) (by simpa using h2)
theorem ArgW.get:∀{bs:List Bool}{ds:List D}{vs:List V}{ps:List Addr}{i:Nat}{b:Bool}{d:D},ArgW K CT G H bs ds vs ps->bs[i]?=some b->ds[i]?=some d->∃ v,vs[i]?=some v/\(b=false->Rep K CT G d v)/\(b=true->∃ p,v=.ref p/\p∈ps/\G p=none/\Own K CT G H p d)
 | true::bs,d::ds,v::vs,ps,0,b,d',⟨p,ps',e,e2,_,g,o,_⟩,h1,h2=>by
  cases h1;cases h2;exact⟨v,rfl,fun z=>(nomatch z),fun _=>⟨p,e,by rw[e2];exact List.mem_cons_self ..,g,o⟩⟩
 | true::bs,d::ds,v::vs,ps,i+1,b,d',⟨p,ps',e,e2,_,_,_,hh⟩,h1,h2=>by
  obtain⟨w,a,a1,a2⟩:=ArgW.get (i:=i) hh (by simpa using h1) (by simpa using h2)
  exact⟨w,by simpa using a,a1,fun z=>let ⟨q,c1,c2,c3⟩:=a2 z;⟨q,c1,by rw[e2];exact List.mem_cons_of_mem _ c2,c3⟩⟩
 | false::bs,d::ds,v::vs,ps,0,b,d',⟨r,_⟩,h1,h2=>by
  cases h1;cases h2;exact⟨v,rfl,fun _=>r,fun z=>by cases z⟩
 | false::bs,d::ds,v::vs,ps,i+1,b,d',⟨_,hh⟩,h1,h2=>by
  obtain⟨w,a,a1,a2⟩:=ArgW.get (i:=i) hh (by simpa using h1) (by simpa using h2)
  exact⟨w,by simpa using a,a1,a2⟩
end
end DL
namespace DL
open PySem PySem.Spec PyProof.Rows L2
end DL
namespace DL
open PySem PySem.Spec PyProof.Rows L2
section
variable{C:Dc}{e:Expr}{es:List Expr}{E:SD->Out D}{A:SD->Out (List D)}{ms:List (Option Nat)}
end
end DL
namespace DL
open PySem PySem.Spec PyProof.Rows L2
section
variable{C:Dc}{e:Expr}{es:List Expr}{E:SD->Out D}{A:SD->Out (List D)}{bs:List Bool}
end
end DL
namespace L2
open PySem PySem.Spec PyProof.Rows
section
variable{X:Cx}
end
end L2
namespace DL
open PySem PySem.Spec PyProof.Rows L2
section
variable{C:Dc}{e:Expr}{es:List Expr}{AA:SD->Out (List D)}{p pos:Pos}
end
end DL
namespace DL
open PySem PySem.Spec PyProof.Rows L2
section
variable{C:Dc}{x:Str}{k:Nat}{dd:List D}{m:List D->Out D}{e:Expr}{es:List Expr}{A:SD->Out (List D)}{p pos:Pos}
end
end DL
namespace L2
open PySem PySem.Spec PyProof.Rows
section
variable{prog:Program}{w:World}{A:Around}{E:Value->Shared->Prop}{s:Shared}{I l:Addr}
end
section
variable{prog:Program}{w:World}{A:Around}{s:Shared}{R:Result->Shared->Prop}{I l:Addr}
end
section
variable{prog:Program}{w:World}{A:Around}{E:Value->Shared->Prop}{s:Shared}{I l:Addr}
end
section
variable{X:Cx}{e:Expr}{te:TA}{p1 p2 p3 pos:Pos}
end
end L2
namespace DL
open PySem PySem.Spec PyProof.Rows L2
section
variable{C:Dc}{e:Expr}{A:SD->Out (List D)}{p1 p2 p3 pos:Pos}
end
end DL
namespace DL
open PySem PySem.Spec PyProof.Rows L2
def OwnAs(K:PySem.W.Frag)(CT:CTab)(H0 G H:Hp):List (List D)->List Addr->Prop
 | [],[]=>True
 | xs::r,a::as=>(H0 a=none/\G a=none/\Own K CT G H a (.lst xs))/\a∉as/\OwnAs K CT H0 G H r as
 | _,_=>False
theorem OwnAs.mono{K:PySem.W.Frag}{CT:CTab}{H0 G G' H H':Hp}(g:Same G G')(h:Same H H'):∀{xss:List (List D)}{as:List Addr},(∀ a∈as,G' a=none)->OwnAs K CT H0 G H xss as->OwnAs K CT H0 G' H' xss as
 | [],[],_,_=>trivial
 | xs::r,a::as,n,⟨⟨h0,_,o⟩,na,ho⟩=>⟨⟨h0,n a (List.mem_cons_self ..),o.mono g fun o e=>h _ _ e⟩,na,ho.mono g h fun b hb=>n b (List.mem_cons_of_mem _ hb)⟩
theorem OwnAs.mem{K:PySem.W.Frag}{CT:CTab}{H0 G H:Hp}:∀{xss:List (List D)}{as:List Addr}{a:Addr},OwnAs K CT H0 G H xss as->a∈as->H0 a=none/\G a=none/\∃ vs,H a=some (.lst vs)
 | [],[],_,_,hm=>(nomatch hm)
 | [],_::_,_,h,_=>h.elim
 | _::_,[],_,h,_=>h.elim
 | xs::r,b::as,a,⟨⟨h0,hg,vs,hv,_⟩,_,ho⟩,hm=>by
  rcases List.mem_cons.mp hm with rfl | hm
  ·exact⟨h0,hg,vs,hv⟩
  ·exact ho.mem hm
section
variable{C:Dc}{G G' H H':Hp}{σ:St}{ς:SD}
theorem StR.freezeAs:∀{xss:List (List D)}{as:List Addr}{G:Hp},StR C G H σ ς->OwnAs C.X.K C.CT C.H0 G H xss as->(∀ a∈as,∀(i:Nat) d,ς[i]?=some (some (.o,d))->σ[i]?≠some (some (.ref a)))->∃ G',StR C G' H σ ς/\Same G G'/\(∀ b,b∉as->G' b=G b)/\RepL C.X.K C.CT G' (xss.map .lst) (as.map V.ref)
 | [],[],G,S,_,_=>⟨G,S,Same.refl G,fun _ _=>rfl,rfl⟩
 | xs::r,a::as,G,S,⟨⟨h0,hg,o⟩,na,ho⟩,nn=>by
  obtain⟨vs,hv,rv⟩:=id o
  have S1:=S.freeze hv hg h0 (nn a (List.mem_cons_self ..))
  have ho1:OwnAs C.X.K C.CT C.H0 (upd G a (.lst vs)) H r as:=ho.mono (Qj hg) (Same.refl H) fun b hb=>by
   rw[Qg (by rintro rfl;exact na hb)]
   exact(ho.mem hb).2.1
  obtain⟨G',S',g',k',r'⟩:=StR.freezeAs S1 ho1 fun b hb=>nn b (List.mem_cons_of_mem _ hb)
  refine⟨G',S',(Qj hg).trans g',fun b hb=>?_,?_⟩
  ·rw[k' b (fun h=>hb (List.mem_cons_of_mem _ h)),Qg (by rintro rfl;exact hb (List.mem_cons_self ..))]
  ·exact⟨.ref a,as.map V.ref,rfl,Rep.mono g' _ _ (o.known hg hv),r'⟩
end
def AtO(σ:St)(ς:SD):List Nat->List (List D)->List Addr->Prop
 | [],[],[]=>True
 | i::is,xs::r,a::as=>ς[i]?=some (some (.o,.lst xs))/\σ[i]?=some (some (.ref a))/\AtO σ ς is r as
 | _,_,_=>False
section
variable{C:Dc}{G H:Hp}{σ:St}{ς:SD}
theorem AtO.mem:∀{is:List Nat}{xss:List (List D)}{as:List Addr}{a:Addr},AtO σ ς is xss as->a∈as->∃ j xs,j∈is/\ς[j]?=some (some (.o,.lst xs))/\σ[j]?=some (some (.ref a))
 | [],[],[],_,_,hm=>(nomatch hm)
 | i::is,xs::r,b::as,a,⟨h1,h2,h3⟩,hm=>by
  rcases List.mem_cons.mp hm with rfl | hm
  ·exact⟨i,xs,List.mem_cons_self ..,h1,h2⟩
  ·obtain⟨j,ys,q1,q2,q3⟩:=h3.mem hm
   exact⟨j,ys,List.mem_cons_of_mem _ q1,q2,q3⟩
theorem AtO.len:∀{is:List Nat}{xss:List (List D)}{as:List Addr},AtO σ ς is xss as->as.length=is.length
 | [],[],[],_=>rfl
 | i::is,xs::r,a::as,⟨_,_,h⟩=>by rw[List.length_cons,List.length_cons,h.len]
end
section
variable{C:Dc}{st:Stmt}{rest:List Stmt}{T:SD->Out Fl}{U:SD->Out D}{es:List Expr}{is:List Nat}{pos:Pos}
end
section
variable{C:Dc}{G G' H H':Hp}{σ:St}{ς:SD}
end
def lstsD:List D->Option (List (List D))
 | []=>some []
 | .lst xs::r=>(lstsD r).map (xs :: ·)
 | _=>none
theorem QdA:∀ xss:List (List D),lstsD (xss.map .lst)=some xss
 | []=>rfl
 | xs::r=>by show(lstsD (r.map .lst)).map (xs :: ·)=_;rw[QdA r];rfl
section
variable{C:Dc}{i j:Nat}{x y:Str}{p2 p3 p4 p5 p6 p7 p8 p9:Pos}{cj:Nat}{c:Int}{body:List Stmt}
end
section
variable{C:Dc}{G H:Hp}{σ:St}{ς:SD}
end
theorem OwnAs.h0{K:PySem.W.Frag}{CT:CTab}{H0 H0' G H:Hp}:∀{xss:List (List D)}{as:List Addr},(∀ a,H0 a=none->H0' a=none)->OwnAs K CT H0 G H xss as->OwnAs K CT H0' G H xss as
 | [],[],_,_=>trivial
 | xs::r,a::as,n,⟨⟨h0,hg,o⟩,na,ho⟩=>⟨⟨n a h0,hg,o⟩,na,ho.h0 n⟩
section
variable{C:Dc}{i j:Nat}{x y fn:Str}{k:Nat}{m:List D->Out D}{e:Expr}{es:List Expr}{A:SD->Out (List D)}{tc:Expr}{TC:SD->Out Bool}{ra:List Stmt}{R U:SD->Out Fl}{rest:List Stmt}{sf:Stmt}{p0 p1 p2 p3 p4:Pos}
end
section
variable{C:Dc}{j:Nat}{y:Str}{p5 p6 p7 p8 p9:Pos}{cj:Nat}{c:Int}
end
end DL
namespace DL
open PySem PySem.Spec PyProof.Rows L2
theorem OwnAs.len{K:PySem.W.Frag}{CT:CTab}{H0 G H:Hp}:∀{xss:List (List D)}{as:List Addr},OwnAs K CT H0 G H xss as->as.length=xss.length
 | [],[],_=>rfl
 | [],_::_,h=>h.elim
 | _::_,[],h=>h.elim
 | xs::r,a::as,⟨_,_,h⟩=>by rw[List.length_cons,List.length_cons,h.len]
def LstA(K:PySem.W.Frag)(CT:CTab)(H0 G H:Hp)(d:D)(p:Addr)(as:List Addr):Prop:=
 ∃ xss:List (List D),d=.lst (xss.map D.lst)/\H0 p=none/\G p=none/\H p=some (.lst (as.map V.ref))/\OwnAs K CT H0 G H xss as/\p∉as
theorem LstA.mem{K:PySem.W.Frag}{CT:CTab}{H0 G H:Hp}{d:D}{p:Addr}{as:List Addr}(l:LstA K CT H0 G H d p as):∀ a∈p::as,H0 a=none/\G a=none/\∃ vs,H a=some (.lst vs):=by
 obtain⟨xss,e,h0,hg,hp,ho,np⟩:=l
 intro a ha
 rcases List.mem_cons.mp ha with rfl | ha
 ·exact⟨h0,hg,_,hp⟩
 ·exact ho.mem ha
section
variable{C:Dc}{G H:Hp}{σ:St}{ς:SD}
theorem LstA.known{H0:Hp}{d:D}{p:Addr}{as:List Addr}(S:StR C G H σ ς)(h0:∀ a,H0 a=none->C.H0 a=none)(hn:∀ a,H0 a=none->∀(i:Nat) d,ς[i]?=some (some (.o,d))->σ[i]?≠some (some (.ref a)))(l:LstA C.X.K C.CT H0 G H d p as):
 ∃ G',StR C G' H σ ς/\Same G G'/\(∀ b,b∉p::as->G' b=G b)/\Rep C.X.K C.CT G' d (.ref p):=by
 obtain⟨xss,rfl,hp0,hpg,hpt,ow,np⟩:=l
 obtain⟨G3,S3,g3,k3,r3⟩:=S.freezeAs (ow.h0 h0) fun a hm=>hn a (ow.mem hm).1
 have hG3:G3 p=none:=by rw[k3 p np];exact hpg
 refine⟨_,S3.freeze hpt hG3 (h0 p hp0) (hn p hp0),g3.trans (Qj hG3),fun b hb=>?_,p,as.map V.ref,rfl,SqL.of QG,RepL.mono (Qj hG3) _ _ r3⟩
 rw[Qg (fun e=>hb (by rw[e];exact List.mem_cons_self ..)),k3 b fun h=>hb (List.mem_cons_of_mem _ h)]
end
section
variable{C:Dc}{e:Expr}{es:List Expr}{A:SD->Out (List D)}{x:Str}{k:Nat}{m:List D->Out D}{p pos:Pos}
end
section
variable{C:Dc}{G H:Hp}{σ:St}{ς:SD}{N':List Str}{js:List (Option Nat)}{scope:Scope}{tg iter elt:Expr}{its:SD->Out (List D)}{g:D->SD->Out SD}{e:SD->Out D}{pos:Pos}
end
section
variable{C:Dc}{st:Stmt}{rest:List Stmt}{T:SD->Out Fl}{U:SD->Out D}{N':List Str}{js:List (Option Nat)}{scope:Scope}{tg iter elt:Expr}{its:SD->Out (List D)}{g:D->SD->Out SD}{e:SD->Out D}{pos rpos:Pos}
end
section
variable{C:Dc}{fn:Str}{k:Nat}{m:List D->Out D}{e:Expr}{es:List Expr}{A:SD->Out (List D)}{p pos:Pos}
end
section
variable{C:Dc}{i j r:Nat}{x y z:Str}{p2 p3 p4 p5 p6:Pos}{body:List Stmt}{tb:TS}
end
section
variable{C:Dc}{r:Nat}{z:Str}{p5 p6 p7 p8 p9 p10 p11:Pos}{c1 c2:Nat}{i1 i2:Int}{x1:_}
end
section
variable{C:Dc}{i j r:Nat}{x y fn gn:Str}{k k':Nat}{m m':List D->Out D}{e e':Expr}{es es':List Expr}{A A':SD->Out (List D)}{tc:Expr}{TC:SD->Out Bool}{ra:List Stmt}{R U:SD->Out Fl}{rest:List Stmt}{sf cl:Stmt}{p0 p1 p2 p3 p4 q1 q2 q3 q4:Pos}
end
end DL
namespace DL
open PySem PySem.Spec PyProof.Rows L2
section
variable{C:Dc}{o e:Expr}{O E:SD->Out D}{apos cpos:Pos}
end
end DL
namespace DL
open PySem PySem.Spec PyProof.Rows L2
section
variable{C:Dc}{o e:Expr}{O E:SD->Out D}{apos cpos:Pos}
theorem QlE(ho:DB C o O)(he:DE C e E)
 (hbase:attributeBase o "partition" C.X.env (eval o C.X.env)=eval o C.X.env:=by rfl)
 (hfew:((backTo cpos (starEach (e::[]) C.X.env)).all (fun x => !x.1)&&(backToKw cpos (keywordEach [] C.X.env)).all (fun x=>x.1.isSome)
  && decide ((e::[]).length+([]:List Keyword).length+(if ([]:List Keyword).isEmpty then 0 else 1)<30))=true:=by rfl)
 (hline:(apos.endLine == cpos.line)=true:=by rfl) (hs:starEach (e::[]) C.X.env=(false,eval e C.X.env)::starEach [] C.X.env:=by rfl):
 DE C (.Call (.Attribute o "partition" apos) [e] [] cpos) (eSm (fPart partF) O (aCons E aNil)):=
 de_sm PySem.F.slot_str_partition PySem.F.type_str_partition QlY ho (Qb he Qf hs) (Qj3 partF) hbase hfew hline hs rfl
end
theorem Qkb{X:Cx}:CallR X (.type "int") (fun xs H Q=>∃ x n,xs=[.str x]/\intText? x=some n/\x.length<=640/\Q (.int n) H):=by
 intro pins s σ H xs us Q I r h
 obtain⟨x,n,rfl,h1,h2,q⟩:=h
 obtain⟨u,rfl,t,rfl⟩:=vals1 r
 exact PySem.W.KIN.call_text h1 h2 ⟨.int n,H,I.tok _,⟨_,rfl⟩,q⟩
def dIntT:D->Out D
 | .str x=>match intText? x with
  | some n=>if decide (x.length<=640)=true then .ok (.int n) else .stuck
  | none=>.stuck
 | _=>.stuck
section
variable{C:Dc}{e:Expr}{es:List Expr}{A:SD->Out (List D)}{p pos:Pos}
theorem QeZ(hg:Gl C.X "int")(hm:C.X.mg "int"=none)(ha:DAB C (e::es) A)
 (he:starEach (e::es) C.X.env=(false,eval e C.X.env)::starEach es C.X.env:=by rfl) (hpl:(backTo pos (starEach es C.X.env)).any (·.1)=false:=by rfl):DE C (.Call (.Name "int" p) (e::es) [] pos) (eA (f1 dIntT) A):=by
 refine Qfj Qkb (QfR ?_) (Qfa ?_) hg hm PyProof.Rows.Boot.«int» ha (by decide) (by decide) he hpl
 ·intro G H σ ς Q x v S r q
  cases x with
  | str x=>
   cases r
   unfold dIntT at q
   cases hn:intText? x with
   | none=>simp only[hn]at q;exact q.elim
   | some n=>
    simp only[hn]at q
    rcases QF q with⟨hc,q⟩ | ⟨_,q⟩
    ·exact⟨x,n,rfl,hn,of_decide_eq_true hc,q.2⟩
    ·exact q.elim
  | _=>exact q.elim
 ·intro x
  cases x with
  | str x=>
   unfold dIntT
   cases hn:intText? x with
   | none=>simp only[hn];first | done | exact True.intro
   | some n=>simp only[hn];exact QaQ rfl
  | _=>exact True.intro
end
def rSlS:V->Option Int->Option Int->Hp->VK->Prop:=fun x lo hi H Q=>∃ z,x=.str z/\z.length<=sizeLine/\Q (.str (Txt.slice z lo hi)) H
theorem Qmx{X:Cx}:SlR X rSlS:=by
 intro pins s σ H x v vl vu lo hi sl Q I rx hs pl pu h
 obtain⟨z,rfl,hz,q⟩:=h
 obtain⟨t,rfl⟩:=rx
 refine⟨"str",_,F.slot_str_getitem.lookup,typeIs_str _ _ _,?_⟩
 have fin:∀ t' k,EP X pins σ Q (.str (Txt.slice z lo hi) t') { s with toks:=k }:=fun t' k=>⟨.str _,H,I.kept (t':=k) fun b o e=>e,⟨t',rfl⟩,q⟩
 cases pl with
 | none=>
  cases pu with
  | none=>exact wpAny_getItem_str_slice (l:=none) (u:=none) (st:=none) hs rfl (post_val_or_str ⟨Nat.le_trans (Txt.slice_le z _ _) hz,fin⟩)
  | int j uj=>exact wpAny_getItem_str_slice (l:=none) (u:=some (j,uj)) (st:=none) hs rfl (post_val_or_str ⟨Nat.le_trans (Txt.slice_le z _ _) hz,fin⟩)
 | int i ui=>
  cases pu with
  | none=>exact wpAny_getItem_str_slice (l:=some (i,ui)) (u:=none) (st:=none) hs rfl (post_val_or_str ⟨Nat.le_trans (Txt.slice_le z _ _) hz,fin⟩)
  | int j uj=>exact wpAny_getItem_str_slice (l:=some (i,ui)) (u:=some (j,uj)) (st:=none) hs rfl (post_val_or_str ⟨Nat.le_trans (Txt.slice_le z _ _) hz,fin⟩)
def eSlS(a:SD->Out D)(l u:SD->Out (Option Int)):SD->Out D:=fun ς=>a ς>>=fun x=>l ς>>=fun i=>u ς>>=fun j=>match x with
 | .str z=>if decide (z.length<=sizeLine)=true then .ok (.str (Txt.slice z i j)) else .stuck
 | _=>.stuck
section
variable{C:Dc}{a:Expr}{A:SD->Out D}
theorem QcW{lo hi:Option Expr}{L U:SD->Out (Option Int)}{p2 pos:Pos}(ha:DB C a A)(hl:DO C lo L)(hu:DO C hi U):DE C (.Subscript a (.Slice lo hi none p2) pos) (eSlS A L U):=by
 obtain⟨ta,p1,q1⟩:=ha
 obtain⟨tl,p3,q3⟩:=hl
 obtain⟨tu,p4,q4⟩:=hu
 refine⟨_,Qel Qmx p1 p3 p4,fun G H σ ς Q S q=>?_⟩
 unfold eSlS at q
 rw[Out.post_bind]at q
 refine q1 G H σ ς _ S (Out.post_mono q fun x k v1 H1 G1 S1 a1 b1 r1=>?_)
 rw[Out.post_bind]at k
 refine q3 G1 H1 σ ς _ S1 (Out.post_mono k fun i k2 H2 G2 S2 a2 b2=>?_)
 rw[Out.post_bind]at k2
 refine q4 G2 H2 σ ς _ S2 (Out.post_mono k2 fun j k3 H3 G3 S3 a3 b3=>?_)
 cases x with
 | str z=>
  rcases QF k3 with⟨hc,k3⟩ | ⟨_,k3⟩
  ·cases r1
   exact⟨z,rfl,of_decide_eq_true hc,KD.now (KD.later (show KD C G H σ ς Q (.str (Txt.slice z i j)) from k3) ((a1.trans a2).trans a3) ((b1.trans b2).trans b3)) S3 rfl⟩
  ·exact k3.elim
 | _=>exact k3.elim
end
end DL
namespace DL
open PySem PySem.Spec PyProof.Rows L2
section
variable{L:List Addr}{H G X:Hp}{b:Addr}{o:HO}
end
section
variable{C:Dc}{g B1 H1:Hp}{w:Nat->Option Addr}{G H H'':Hp}{σ:St}{ς:SD}{L:List Addr}{i:Nat}{p:Addr}{d:D}
end
structure NI(C:Dc)(p:Addr)(as:List Addr)(G H:Hp)(xss:List (List D)):Prop where
 gh:GH C G H
 la:LstA C.X.K C.CT C.H0 G H (.lst (xss.map D.lst)) p as
theorem LstA.xs{K:PySem.W.Frag}{CT:CTab}{H0 G H:Hp}{xss:List (List D)}{p:Addr}{as:List Addr}(l:LstA K CT H0 G H (.lst (xss.map D.lst)) p as):H p=some (.lst (as.map V.ref))/\OwnAs K CT H0 G H xss as/\p∉as:=by
 obtain⟨yss,e,_,_,hp,ho,np⟩:=l
 have e':lstsD (xss.map D.lst)=lstsD (yss.map D.lst):=by injection e with e;rw[e]
 rw[QdA,QdA]at e'
 cases e'
 exact⟨hp,ho,np⟩
section
variable{C:Dc}{G H G' H':Hp}{σ:St}{ς:SD}{i:Nat}{p:Addr}{as:List Addr}{xss:List (List D)}
theorem NI.at(N:NI C p as G H xss):∀ b∈p::as,C.H0 b=none/\G b=none/\H b≠none:=fun b hb=>by
 obtain⟨h1,h2,vs,h3⟩:=N.la.mem b hb
 exact⟨h1,h2,by rw[h3];simp⟩
theorem OwnAs.at{K:PySem.W.Frag}{CT:CTab}{H0:Hp}{xs:List D}:∀{n:Nat}{xss:List (List D)}{as:List Addr},xss[n]?=some xs->OwnAs K CT H0 G H xss as->∃ q vs,as[n]?=some q/\H q=some (.lst vs)/\RepL K CT G xs vs
 | _,[],_,e,_=>by simp at e
 | _,_::_,[],_,h=>h.elim
 | 0,xs::r,a::as,e,⟨⟨h1,h2,vs,h3,h4⟩,na,ho⟩=>by
  simp at e
  subst e
  exact⟨a,vs,rfl,h3,h4⟩
 | n+1,xs::r,a::as,e,⟨_,na,ho⟩=>by
  simp at e
  obtain⟨q,vs,h⟩:=OwnAs.at e ho
  exact⟨q,vs,by simpa using h⟩
end
end DL
namespace DL
open PySem PySem.Spec PyProof.Rows L2
section
variable{C:Dc}{i:Nat}{st:Stmt}{rest:List Stmt}{T:SD->Out Fl}{U:SD->Out SD}{Z:SD->Out D}
theorem GH.freezeAs{H:Hp}:∀{xss:List (List D)}{as:List Addr}{G:Hp},GH C G H->OwnAs C.X.K C.CT C.H0 G H xss as->∃ G',GH C G' H/\Same G G'/\(∀ b,b∉as->G' b=G b)/\RepL C.X.K C.CT G' (xss.map .lst) (as.map V.ref)
 | [],[],G,S,_=>⟨G,S,Same.refl G,fun _ _=>rfl,rfl⟩
 | [],_::_,_,_,h=>h.elim
 | _::_,[],_,_,h=>h.elim
 | xs::r,a::as,G,S,⟨⟨h0,hg,o⟩,na,ho⟩=>by
  obtain⟨vs,hv,rv⟩:=id o
  have S1:=S.freezeR hv hg h0
  have ho1:OwnAs C.X.K C.CT C.H0 (upd G a (.lst vs)) H r as:=ho.mono (Qj hg) (Same.refl H) fun b hb=>by
   rw[Qg (by rintro rfl;exact na hb)]
   exact(ho.mem hb).2.1
  obtain⟨G',S',g',k',r'⟩:=GH.freezeAs (H:=H) S1 ho1
  refine⟨G',S',(Qj hg).trans g',fun b hb=>?_,?_⟩
  ·rw[k' b (fun h=>hb (List.mem_cons_of_mem _ h)),Qg (by rintro rfl;exact hb (List.mem_cons_self ..))]
  ·exact⟨.ref a,as.map V.ref,rfl,Rep.mono g' _ _ (o.known hg hv),r'⟩
end
section
variable{C:Dc}{i j:Nat}{e:Expr}{E:SD->Out D}{x y:Str}{p1 p2 p3 p4 p5 pos:Pos}
end
end DL
namespace DL
open PySem PySem.Spec PyProof.Rows L2
section
variable{C:Dc}{i:Nat}{tg iter:Expr}{body:List Stmt}{its:SD->Out (List D)}{g:D->SD->Out SD}{T:SD->Out SD}{pos:Pos}
end
section
variable{C:Dc}{i:Nat}{N':List Str}{js:List (Option Nat)}{scope:Scope}{tg iter elt:Expr}{its:SD->Out (List D)}{g:D->SD->Out SD}{e:SD->Out D}{Z:SD->Out D}{pos px spos:Pos}{x:Str}{rest:List Stmt}
end
end DL
namespace DL
open PySem PySem.Spec PyProof.Rows L2
end DL
namespace PySem
namespace SeqAt
open Builtin
end SeqAt
end PySem
namespace DL
open PySem PySem.Spec PyProof.Rows L2
section
variable{C:Dc}{e:Expr}{E:SD->Out D}{x:Str}{a:Addr}{ys:List Str}{px apos cpos:Pos}
end
end DL
namespace DL
open PySem PySem.Spec PyProof.Rows L2
section
variable{K:PySem.W.Frag}{x qual:Str}{st:Stmt}{f:Addr}{fd:FuncData}{a b c d e:Str}
abbrev bFn(x qual:Str)(st:Stmt)(kV doc pm:Value)(an:Option Addr)(cdv ct:Value):FuncData:=PySem.W.fnOf x qual (Qbk st) (QaM st) (Qk st) .none kV doc pm an cdv ct
theorem FunV.b1(F:FunV K x qual st f fd .none)(h:∀ kV doc pm an cdv ct u,bindArgs (bFn x qual st kV doc pm an cdv ct) ⟨[u],[]⟩=pure [(a,u)]):Binds K fd [a] []:=
 F.binds fun kV doc pm an cdv ct us hl=>match us,hl with | [u],_=>h kV doc pm an cdv ct u
theorem FunV.b2(F:FunV K x qual st f fd .none)(h:∀ kV doc pm an cdv ct u v,bindArgs (bFn x qual st kV doc pm an cdv ct) ⟨[u,v],[]⟩=pure [(a,u),(b,v)]):Binds K fd [a,b] []:=
 F.binds fun kV doc pm an cdv ct us hl=>match us,hl with | [u,v],_=>h kV doc pm an cdv ct u v
theorem FunV.b3(F:FunV K x qual st f fd .none)(h:∀ kV doc pm an cdv ct u v w,bindArgs (bFn x qual st kV doc pm an cdv ct) ⟨[u,v,w],[]⟩=pure [(a,u),(b,v),(c,w)]):Binds K fd [a,b,c] []:=
 F.binds fun kV doc pm an cdv ct us hl=>match us,hl with | [u,v,w],_=>h kV doc pm an cdv ct u v w
end
end DL
namespace DL
open PySem PySem.Spec PyProof.Rows L2
section
variable{C:Dc}{i:Nat}{st:Stmt}{rest:List Stmt}{T:SD->Out Fl}{U V:SD->Out SD}
end
section
variable{C:Dc}{i:Nat}{x:Str}{p1 p2 p3 p4 pos:Pos}
end
section
variable{C:Dc}{i:Nat}{e a:Expr}{E A:SD->Out D}{x:Str}{p1 p2 p3 p5 pos:Pos}
end
section
variable{C:Dc}{i:Nat}{tg iter:Expr}{body:List Stmt}{its:SD->Out (List D)}{g:D->SD->Out SD}{T:SD->Out SD}{pos:Pos}
end
section
variable{C:Dc}{i:Nat}{tg iter:Expr}{body:List Stmt}{its:SD->Out (List D)}{g:D->SD->Out SD}{T:SD->Out SD}{pos:Pos}
end
section
variable{C:Dc}{a b:Expr}{A B:SD->Out D}{pos:Pos}
end
end DL
namespace L2
open PySem PySem.Spec PyProof.Rows
section
variable{prog:Program}{w:World}{A:Around}{E:Value->Shared->Prop}{s:Shared}
theorem QgA{it t:Addr}{i:Nat}{items:Array Value}{x:Value}{Q:Value->Shared->Prop}(hit:s.heap.IsTupleIter it t i)(ht:s.heap.IsTuple t items)(hx:items[i]?=some x)
 (hQ:∀ h',h'.IsTupleIter it t (i+1)->Heap.SameBut it s.heap h'->Q x { s with heap:=h' }):wpAny (model prog w) A (Builtin.SmallTypes.nextOf (.ref it)) Q E s:=by
 obtain⟨o,ho,hc,hd⟩:=id hit
 obtain⟨ol,hol,_,nl,hdl⟩:=ht
 unfold Builtin.SmallTypes.nextOf
 refine wpAny_bind (wpAny_callSpecial?_slot (name:=Str.ofString "__next__") hit.typeIs F.slot_tuple_iterator_next (wpAny_call_entry F.slot_tuple_iterator_next hit.typeIs F.entry_tuple_iterator_next ?_ (F.args_tuple_iterator_next_1 _)))
 show wpAny _ _ (field (.ref it) 0>>=_) _ _ s
 refine wpAny_bind (wpAny_field ho hd (x:=.ref t) rfl ?_)
 show wpAny _ _ (if (Value.ref t == Value.none)=true then _ else _) _ _ s
 rw[if_neg (show ¬ ((Value.ref t == Value.none)=true) from Bool.false_ne_true)]
 show wpAny _ _ (field (.ref it) 1>>=_) _ _ s
 refine wpAny_bind (wpAny_field ho hd (x:=.int i 0) rfl ?_)
 show wpAny _ _ (seqItems? (.ref t)>>=_) _ _ s
 refine wpAny_bind (wpAny_seqItems hol hdl ?_)
 simp only[Int.toNat_natCast,hx]
 exact wpAny_bind (wpAny_setField ho hd (by simp) (wpAny_pure ⟨x,rfl,wpAny_pure (hQ _ ⟨_,Heap.get?_update_self _ ho (Obj.isFreed_of_fields (Obj.data_mapFields hd _)),(Obj.cls_mapFields ..).trans hc,by rw[Obj.data_mapFields hd];simp[rawInt]⟩ (Heap.SameBut.update ..))⟩))
theorem QhY{it t:Addr}{i:Nat}{items:Array Value}{Q:Value->Shared->Prop}(hh:A.handled=none)(hit:s.heap.IsTupleIter it t i)(ht:s.heap.IsTuple t items)(hx:items[i]?=none)
 (hE:∀ h' e,Heap.ExtBut it s.heap h'->(∃ o,h'.get? e=some o/\o.cls=.type "StopIteration")->E (.ref e) { s with heap:=h' }):wpAny (model prog w) A (Builtin.SmallTypes.nextOf (.ref it)) Q E s:=by
 obtain⟨o,ho,hc,hd⟩:=id hit
 obtain⟨ol,hol,_,nl,hdl⟩:=ht
 unfold Builtin.SmallTypes.nextOf
 refine wpAny_bind (wpAny_callSpecial?_slot (name:=Str.ofString "__next__") hit.typeIs F.slot_tuple_iterator_next (wpAny_call_entry F.slot_tuple_iterator_next hit.typeIs F.entry_tuple_iterator_next ?_ (F.args_tuple_iterator_next_1 _)))
 show wpAny _ _ (field (.ref it) 0>>=_) _ _ s
 refine wpAny_bind (wpAny_field ho hd (x:=.ref t) rfl ?_)
 show wpAny _ _ (if (Value.ref t == Value.none)=true then _ else _) _ _ s
 rw[if_neg (show ¬ ((Value.ref t == Value.none)=true) from Bool.false_ne_true)]
 show wpAny _ _ (field (.ref it) 1>>=_) _ _ s
 refine wpAny_bind (wpAny_field ho hd (x:=.int i 0) rfl ?_)
 show wpAny _ _ (seqItems? (.ref t)>>=_) _ _ s
 refine wpAny_bind (wpAny_seqItems hol hdl ?_)
 simp only[Int.toNat_natCast,hx]
 refine wpAny_bind (wpAny_rule (wpAny_bind (wpAny_setField ho hd (by simp) ?_)))
 show wpAny _ _ (newExc (.type "StopIteration") []>>=_) _ _ _
 refine wpAny_bind ?_
 simp only[newExc,newTuple]
 refine wpAny_bind (wpAny_newObj_type ?_ (by size_fits))
 refine wpAny_bind (m:=firstArgMember _ _) (wpAny_of_eq (a:=Value.none) (by first | rfl | (simp only[firstArgMember];rfl)) (wpAny_newObj_type ?_ (by size_fits)))
 simp only[raiseNew]
 refine wpAny_bind (wpAny_handled ?_)
 first | rw[show A.in1.handled=none from hh] | rw[hh]
 exact wpAny_bind (wpAny_pure (wpAny_throw (hE _ _ (((Heap.SameBut.update ..).extBut.push _).push _) ⟨_,Heap.get?_push_size _ rfl,rfl⟩)))
theorem QlM{z TI TO i1 i2 l1 l2:Addr}{k1 k2:Nat}{xs ys:Array Value}{x y a b:Value}{Q:Value->Shared->Prop}(D:ZipApart z TI TO i1 i2 l1 l2)
 (hz:IsZip s.heap z TI TO .none) (hTI:IsPair s.heap TI (.ref i1) (.ref i2)) (hTO:IsPair s.heap TO a b)
 (h1:s.heap.IsTupleIter i1 l1 k1) (h2:s.heap.IsTupleIter i2 l2 k2) (hl1:s.heap.IsTuple l1 xs) (hl2:s.heap.IsTuple l2 ys) (hx:xs[k1]?=some x) (hy:ys[k2]?=some y)
 (hQ:∀ h',IsZip h' z TI TO (rawInt s.heap.objs.size)->IsPair h' TO x y->h'.IsTupleIter i1 l1 (k1+1)->h'.IsTupleIter i2 l2 (k2+1)->IsPair h' s.heap.objs.size x y->
  (∀ c o,c≠z->c≠TO->c≠i1->c≠i2->s.heap.get? c=some o->h'.get? c=some o)->Q (.ref s.heap.objs.size) { s with heap:=h' }):
 wpAny (model prog w) A (Builtin.«zip.__next__» ⟨[.ref z],[]⟩) (fun fin s'=>∃ v,fin=.done (.ret v)/\Q v s') E s:=by
 show wpAny _ _ (field (.ref z) 2>>=_) _ _ _
 refine wpAny_bind (wpAny_field hz rfl (x:=.bool false) rfl ?_)
 show wpAny _ _ (field (.ref z) 3>>=_) _ _ _
 refine wpAny_bind (wpAny_field hz rfl (x:=.ref TI) rfl ?_)
 refine wpAny_bind (wpAny_seqItems hTI rfl ?_)
 show wpAny _ _ (Builtin.SmallTypes.ownedTupleIsFree (.ref z)>>=_) _ _ _
 refine wpAny_bind ?_
 unfold Builtin.SmallTypes.ownedTupleIsFree
 refine wpAny_bind (wpAny_field hz rfl (x:=.none) rfl (wpAny_pure ?_))
 simp only[if_true]
 refine wpAny_bind (wpAny_rule (wpAny_bind (wpAny_field hz rfl (x:=.ref TO) rfl (wpAny_bind (wpAny_setField_rec hz (by simp) fun g1 z1 b1=>?_)))))
 replace z1:IsZip g1 z TI TO .ellipsis:=z1
 refine wpAny_bind ?_
 simp only[List.zipIdx_cons,List.zipIdx_nil,List.forIn_cons,List.forIn_nil]
 refine wpAny_bind (wpAny_bind (wpAny_onRaise ?_))
 show wpAny _ _ (Builtin.SmallTypes.nextOf (.ref i1)>>=_) _ _ _
 refine wpAny_bind (QgA (h1.extBut b1.extBut D.i1z) (hl1.extBut b1.extBut D.l1z) hx fun g2 j2 b2=>wpAny_pure ?_)
 have o2:IsPair g2 TO a b:=b2.extBut _ _ D.TOi1 (b1.extBut _ _ D.TOz hTO)
 refine wpAny_bind (wpAny_seqItems o2 rfl (wpAny_bind (wpAny_updateSeq_pair o2 fun g3 o3 b3=>?_)))
 replace o3:IsPair g3 TO x b:=o3
 refine wpAny_bind (wpAny_letGo (wpAny_pure ?_))
 refine wpAny_bind (wpAny_bind (wpAny_onRaise ?_))
 show wpAny _ _ (Builtin.SmallTypes.nextOf (.ref i2)>>=_) _ _ _
 refine wpAny_bind (QgA (((h2.extBut b1.extBut D.i2z).extBut b2.extBut D.i12.symm).extBut b3.extBut D.TOi2.symm) (((hl2.extBut b1.extBut D.l2z).extBut b2.extBut D.l2i1).extBut b3.extBut D.l2TO) hy fun g4 j4 b4=>wpAny_pure ?_)
 have o4:IsPair g4 TO x b:=b4.extBut _ _ D.TOi2 o3
 refine wpAny_bind (wpAny_seqItems o4 rfl (wpAny_bind (wpAny_updateSeq_pair o4 fun g5 o5 b5=>?_)))
 replace o5:IsPair g5 TO x y:=o5
 refine wpAny_bind (wpAny_letGo (wpAny_pure (wpAny_pure ?_)))
 refine wpAny_bind (wpAny_seqItems o5 rfl (wpAny_bind (wpAny_newTuple ?_)))
 have sz:g5.objs.size=s.heap.objs.size:=by rw[b5.1,b4.1,b3.1,b2.1,b1.1]
 have z5:IsZip g5 z TI TO .ellipsis:=b5.extBut _ _ D.TOz.symm (b4.extBut _ _ D.i2z.symm (b3.extBut _ _ D.TOz.symm (b2.extBut _ _ D.i1z.symm z1)))
 have j5:g5.IsTupleIter i1 l1 (k1+1):=((j2.extBut b3.extBut D.TOi1.symm).extBut b4.extBut D.i12).extBut b5.extBut D.TOi1.symm
 have j6:g5.IsTupleIter i2 l2 (k2+1):=j4.extBut b5.extBut D.TOi2.symm
 have zl:z<g5.objs.size:=Heap.lt_size z5
 show wpAny _ _ (Builtin.SmallTypes.ownedTupleHandOut (.ref z) (.ref g5.objs.size)>>=_) _ _ _
 refine wpAny_bind ?_
 unfold Builtin.SmallTypes.ownedTupleHandOut
 have z6:IsZip (g5.push { cls:=.type "tuple",data:=.seq #[x,y] }) z TI TO .ellipsis:=Heap.get?_push_of_some _ z5
 refine wpAny_bind (wpAny_setField_rec z6 (by simp) fun g7 z7 b7=>?_)
 replace z7:IsZip g7 z TI TO (rawInt g5.objs.size):=z7
 refine wpAny_setField_rec z7 (by simp) fun g8 z8 b8=>?_
 replace z8:IsZip g8 z TI TO (rawInt g5.objs.size):=z8
 have up:∀ c o,c≠z->g5.get? c=some o->g8.get? c=some o:=fun c o c1 e=>b8.extBut _ _ c1 (b7.extBut _ _ c1 (Heap.get?_push_of_some _ e))
 have t8:IsPair g8 g5.objs.size x y:=b8.extBut _ _ (Nat.ne_of_gt zl) (b7.extBut _ _ (Nat.ne_of_gt zl) (Heap.get?_push_size _ rfl))
 rw[sz]at z8 t8
 refine wpAny_pure ⟨_,rfl,?_⟩
 show Q (.ref g5.objs.size) _
 rw[sz]
 exact hQ g8 z8 (up _ _ D.TOz o5) (j5.at fun o e=>up _ o D.i1z e) (j6.at fun o e=>up _ o D.i2z e) t8 fun c o c1 c2 c3 c4 e=>up c o c1 (b5.extBut _ _ c2 (b4.extBut _ _ c4 (b3.extBut _ _ c2 (b2.extBut _ _ c3 (b1.extBut _ _ c1 e)))))
theorem Qnc{z TI TO i1 i2 l1 l2:Addr}{k1 k2:Nat}{xs ys:Array Value}{a b:Value}{Q:Fin->Shared->Prop}(hh:A.handled=none)(D:ZipApart z TI TO i1 i2 l1 l2)
 (hz:IsZip s.heap z TI TO .none) (hTI:IsPair s.heap TI (.ref i1) (.ref i2)) (hTO:IsPair s.heap TO a b)
 (h1:s.heap.IsTupleIter i1 l1 k1) (h2:s.heap.IsTupleIter i2 l2 k2) (hl1:s.heap.IsTuple l1 xs) (hl2:s.heap.IsTuple l2 ys) (hend:xs[k1]?=none∨ys[k2]?=none)
 (hE:∀ h' e,(∀ c o,c≠z->c≠TO->c≠i1->c≠i2->s.heap.get? c=some o->h'.get? c=some o)->(∃ o,h'.get? e=some o/\o.cls=.type "StopIteration")->E (.ref e) { s with heap:=h' }):
 wpAny (model prog w) A (Builtin.«zip.__next__» ⟨[.ref z],[]⟩) Q E s:=by
 show wpAny _ _ (field (.ref z) 2>>=_) _ _ _
 refine wpAny_bind (wpAny_field hz rfl (x:=.bool false) rfl ?_)
 show wpAny _ _ (field (.ref z) 3>>=_) _ _ _
 refine wpAny_bind (wpAny_field hz rfl (x:=.ref TI) rfl ?_)
 refine wpAny_bind (wpAny_seqItems hTI rfl ?_)
 show wpAny _ _ (Builtin.SmallTypes.ownedTupleIsFree (.ref z)>>=_) _ _ _
 refine wpAny_bind ?_
 unfold Builtin.SmallTypes.ownedTupleIsFree
 refine wpAny_bind (wpAny_field hz rfl (x:=.none) rfl (wpAny_pure ?_))
 simp only[if_true]
 refine wpAny_bind (wpAny_rule (wpAny_bind (wpAny_field hz rfl (x:=.ref TO) rfl (wpAny_bind (wpAny_setField_rec hz (by simp) fun g1 z1 b1=>?_)))))
 replace z1:IsZip g1 z TI TO .ellipsis:=z1
 refine wpAny_bind ?_
 simp only[List.zipIdx_cons,List.zipIdx_nil,List.forIn_cons,List.forIn_nil]
 refine wpAny_bind (wpAny_bind (wpAny_onRaise ?_))
 show wpAny _ _ (Builtin.SmallTypes.nextOf (.ref i1)>>=_) _ _ _
 cases hx:xs[k1]? with
 | none=>
  refine wpAny_bind (QhY hh (h1.extBut b1.extBut D.i1z) (hl1.extBut b1.extBut D.l1z) hx fun g2 e b2 he=>?_)
  obtain⟨oe,hoe,hce⟩:=he
  have z2:IsZip g2 z TI TO .ellipsis:=b2 _ _ D.i1z.symm z1
  have hez:e≠z:=fun q=>by subst q;rw[z2]at hoe;cases hoe;simp at hce
  exact wpAny_setField_rec z2 (by simp) fun g3 _ b3=>hE g3 e (fun c o c1 _ c3 _ q=>b3.extBut _ _ c1 (b2 _ _ c3 (b1.extBut _ _ c1 q))) ⟨oe,b3.extBut _ _ hez hoe,hce⟩
 | some x=>
  have hy:ys[k2]?=none:=by
   rcases hend with q | q
   ·rw[hx]at q;cases q
   ·exact q
  refine wpAny_bind (QgA (h1.extBut b1.extBut D.i1z) (hl1.extBut b1.extBut D.l1z) hx fun g2 j2 b2=>wpAny_pure ?_)
  have o2:IsPair g2 TO a b:=b2.extBut _ _ D.TOi1 (b1.extBut _ _ D.TOz hTO)
  refine wpAny_bind (wpAny_seqItems o2 rfl (wpAny_bind (wpAny_updateSeq_pair o2 fun g3 o3 b3=>?_)))
  refine wpAny_bind (wpAny_letGo (wpAny_pure ?_))
  refine wpAny_bind (wpAny_bind (wpAny_onRaise ?_))
  show wpAny _ _ (Builtin.SmallTypes.nextOf (.ref i2)>>=_) _ _ _
  refine wpAny_bind (QhY hh (((h2.extBut b1.extBut D.i2z).extBut b2.extBut D.i12.symm).extBut b3.extBut D.TOi2.symm) (((hl2.extBut b1.extBut D.l2z).extBut b2.extBut D.l2i1).extBut b3.extBut D.l2TO) hy fun g4 e b4 he=>?_)
  obtain⟨oe,hoe,hce⟩:=he
  have z4:IsZip g4 z TI TO .ellipsis:=b4 _ _ D.i2z.symm (b3.extBut _ _ D.TOz.symm (b2.extBut _ _ D.i1z.symm z1))
  have hez:e≠z:=fun q=>by subst q;rw[z4]at hoe;cases hoe;simp at hce
  exact wpAny_setField_rec z4 (by simp) fun g5 _ b5=>hE g5 e (fun c o c1 c2 c3 c4 q=>b5.extBut _ _ c1 (b4 _ _ c4 (b3.extBut _ _ c2 (b2.extBut _ _ c3 (b1.extBut _ _ c1 q))))) ⟨oe,b5.extBut _ _ hez hoe,hce⟩
theorem QjD{z TI TO i1 i2 l1 l2:Addr}{k1 k2:Nat}{xs ys:Array Value}{x y a b:Value}{Q:Option Value->Shared->Prop}(D:ZipApart z TI TO i1 i2 l1 l2)
 (hz:IsZip s.heap z TI TO .none) (hTI:IsPair s.heap TI (.ref i1) (.ref i2)) (hTO:IsPair s.heap TO a b)
 (h1:s.heap.IsTupleIter i1 l1 k1) (h2:s.heap.IsTupleIter i2 l2 k2) (hl1:s.heap.IsTuple l1 xs) (hl2:s.heap.IsTuple l2 ys) (hx:xs[k1]?=some x) (hy:ys[k2]?=some y)
 (hQ:∀ h',IsZip h' z TI TO (rawInt s.heap.objs.size)->IsPair h' TO x y->h'.IsTupleIter i1 l1 (k1+1)->h'.IsTupleIter i2 l2 (k2+1)->IsPair h' s.heap.objs.size x y->
  (∀ c o,c≠z->c≠TO->c≠i1->c≠i2->s.heap.get? c=some o->h'.get? c=some o)->Q (some (.ref s.heap.objs.size)) { s with heap:=h' }):wpAny (model prog w) A (pyNext (.ref z)) Q E s:=by
 have hT:s.TypeIs (.ref z) "zip":=⟨_,hz,rfl⟩
 unfold pyNext
 exact wpAny_bind (wpAny_attempt (wpAny_callSpecial?_slot (name:=Str.ofString "__next__") hT F.slot_zip_next (wpAny_call_entry F.slot_zip_next hT F.entry_zip_next
  (QlM D hz hTI hTO h1 h2 hl1 hl2 hx hy fun h' a1 a2 a3 a4 a5 a7=>wpAny_pure (hQ h' a1 a2 a3 a4 a5 a7)) (F.args_zip_next_1 _))))
theorem QiV{z TI TO i1 i2 l1 l2:Addr}{k1 k2:Nat}{xs ys:Array Value}{a b:Value}{Q:Option Value->Shared->Prop}(hh:A.handled=none)(D:ZipApart z TI TO i1 i2 l1 l2)
 (hz:IsZip s.heap z TI TO .none) (hTI:IsPair s.heap TI (.ref i1) (.ref i2)) (hTO:IsPair s.heap TO a b)
 (h1:s.heap.IsTupleIter i1 l1 k1) (h2:s.heap.IsTupleIter i2 l2 k2) (hl1:s.heap.IsTuple l1 xs) (hl2:s.heap.IsTuple l2 ys) (hend:xs[k1]?=none∨ys[k2]?=none)
 (hQ:∀ h',(∀ c o,c≠z->c≠TO->c≠i1->c≠i2->s.heap.get? c=some o->h'.get? c=some o)->Q none { s with heap:=h' }):wpAny (model prog w) A (pyNext (.ref z)) Q E s:=by
 have hT:s.TypeIs (.ref z) "zip":=⟨_,hz,rfl⟩
 unfold pyNext
 refine wpAny_bind (wpAny_attempt (wpAny_callSpecial?_slot (name:=Str.ofString "__next__") hT F.slot_zip_next (wpAny_call_entry F.slot_zip_next hT F.entry_zip_next (Qnc hh D hz hTI hTO h1 h2 hl1 hl2 hend fun h' e hk he=>?_) (F.args_zip_next_1 _))))
 obtain⟨o,ho,hc⟩:=he
 exact wpAny_bind (wpAny_isInstance (T:="StopIteration") (b:=true) ⟨o,ho,hc⟩ isSubtype_stop (wpAny_pure (hQ _ hk)))
abbrev zt1(h:Heap)(l1:Addr):Heap:=h.push { cls:=.type "tuple_iterator",data:=.fields #[.ref l1,.int 0 0] }
abbrev zt2(h:Heap)(l1 l2:Addr):Heap:=(zt1 h l1).push { cls:=.type "tuple_iterator",data:=.fields #[.ref l2,.int 0 0] }
abbrev zt3(h:Heap)(l1 l2:Addr):Heap:=(zt2 h l1 l2).push { cls:=.type "tuple",data:=.seq #[.ref h.objs.size,.ref (zt1 h l1).objs.size] }
abbrev zt4(h:Heap)(l1 l2:Addr):Heap:=(zt3 h l1 l2).push { cls:=.type "tuple",data:=.seq #[.none,.none] }
abbrev zt5(h:Heap)(l1 l2:Addr):Heap:=(zt4 h l1 l2).push { cls:=.type "zip",data:=.fields #[.none,.bool false,.bool false,.ref (zt2 h l1 l2).objs.size,.ref (zt3 h l1 l2).objs.size] }
theorem QmX(l1 l2:Addr)(xs ys:Array Value):
 Meets (Builtin.«zip.__new__» ⟨[.type "zip",.ref l1,.ref l2],[]⟩) (fun _ R s=>s.heap.IsTuple l1 xs/\s.heap.IsTuple l2 ys/\R (.ok (.ret (.ref (zt4 s.heap l1 l2).objs.size))) { s with heap:=zt5 s.heap l1 l2 }):=
 .of_wp fun prog w A R s h=>by
  obtain⟨hp,g,d,tk,os⟩:=s;obtain⟨hl1,hl2,h⟩:=h
  have hsub:=sub_zip
  have hL1:Heap.IsTuple (Shared.heap ⟨hp,g,d,tk,os⟩) l1 xs:=hl1
  have hL2:Heap.IsTuple (Shared.heap ⟨hp.push { cls:=.type "tuple_iterator",data:=.fields #[.ref l1,.int 0 0] },g,d,tk,os⟩) l2 ys:=Heap.IsTuple.push hl2 _
  wp_walk using wpAny_pyIter_tuple hL1,wpAny_pyIter_tuple hL2
  exact⟨_,rfl,h⟩
theorem Qlx{l1 l2:Addr}{xs ys:Array Value}{Q:Value->Shared->Prop}(hl1:s.heap.IsTuple l1 xs)(hl2:s.heap.IsTuple l2 ys)
 (h:∀ h',IsZip h' (s.heap.objs.size+4) (s.heap.objs.size+2) (s.heap.objs.size+3) .none->IsPair h' (s.heap.objs.size+2) (.ref s.heap.objs.size) (.ref (s.heap.objs.size+1))->
  IsPair h' (s.heap.objs.size+3) .none .none->h'.IsTupleIter s.heap.objs.size l1 0->h'.IsTupleIter (s.heap.objs.size+1) l2 0->
  (∀ c o,s.heap.get? c=some o->h'.get? c=some o)->Q (.ref (s.heap.objs.size+4)) { s with heap:=h' }):
 wpAny (model prog w) A (call (.type "zip") [.ref l1,.ref l2]) Q E s:=by
 refine callType_new F.called_zip (by decide) (F.typeCall_zip_2 _ _) (F.newCall_zip_2 _ _) (fun obj=>F.args_object_init_3 obj _ _) F.entry_zip_new (QmX l1 l2 xs ys) ⟨hl1,hl2,?_⟩
 have z1:(zt1 s.heap l1).objs.size=s.heap.objs.size+1:=Heap.size_push ..
 have z2:(zt2 s.heap l1 l2).objs.size=s.heap.objs.size+2:=by rw[Heap.size_push,z1]
 have z3:(zt3 s.heap l1 l2).objs.size=s.heap.objs.size+3:=by rw[Heap.size_push,z2]
 have z4:(zt4 s.heap l1 l2).objs.size=s.heap.objs.size+4:=by rw[Heap.size_push,z3]
 have g5:(zt5 s.heap l1 l2).get? (zt4 s.heap l1 l2).objs.size=some _:=Heap.get?_push_size _ rfl
 have g4:(zt5 s.heap l1 l2).get? (zt3 s.heap l1 l2).objs.size=some _:=Heap.get?_push_of_some _ (Heap.get?_push_size _ rfl)
 have g3:(zt5 s.heap l1 l2).get? (zt2 s.heap l1 l2).objs.size=some _:=Heap.get?_push_of_some _ (Heap.get?_push_of_some _ (Heap.get?_push_size _ rfl))
 have g2:(zt5 s.heap l1 l2).get? (zt1 s.heap l1).objs.size=some _:=Heap.get?_push_of_some _ (Heap.get?_push_of_some _ (Heap.get?_push_of_some _ (Heap.get?_push_size _ rfl)))
 have g1:(zt5 s.heap l1 l2).get? s.heap.objs.size=some _:=Heap.get?_push_of_some _ (Heap.get?_push_of_some _ (Heap.get?_push_of_some _ (Heap.get?_push_of_some _ (Heap.get?_push_size _ rfl))))
 show _/\_
 rw[z2,z3,z4]at g5
 rw[z1,z2]at g3
 rw[z3]at g4
 rw[z1]at g2
 rw[z4]
 exact⟨⟨_,g5,rfl⟩,h _ g5 g3 g4 ⟨_,g1,rfl,rfl⟩ ⟨_,g2,rfl,rfl⟩ fun c o q=>Heap.get?_push_of_some _ (Heap.get?_push_of_some _ (Heap.get?_push_of_some _ (Heap.get?_push_of_some _ (Heap.get?_push_of_some _ q))))⟩
end
def Ity(K:PySem.W.Frag)(a b:Addr):It:=
 ⟨fun i H=>∃ xs ys x y,SqT K H a xs/\SqT K H b ys/\xs[i]?=some x/\ys[i]?=some y,
  fun i H v H'=>∃ p x y,H p=none/\v=.ref p/\H'=upd H p (.tup [x,y])/\(∀ xs,SqT K H a xs->xs[i]?=some x)/\∀ ys,SqT K H b ys->ys[i]?=some y,
  fun i H=>∃ xs ys,SqT K H a xs/\SqT K H b ys/\(xs.length<=i∨ys.length<=i)⟩
theorem Qmb{P:Program}{w:World}{K:PySem.W.Frag}{elts:List Expr}{k1:Nat}{pos:Pos}{z TI TO i1 i2 l1 l2:Addr}(D:ZipApart z TI TO i1 i2 l1 l2):
 Turn P w K (.Tuple elts k1 pos) (Ity K l1 l2) [z,TI,TO,i1,i2] z (fun i h=>IsZip h z TI TO .none/\IsPair h TI (.ref i1) (.ref i2)/\(∃ a b,IsPair h TO a b)/\h.IsTupleIter i1 l1 i/\h.IsTupleIter i2 l2 i) where
 mem:=by simp
 obj:=fun i h st b hb=>by
  obtain⟨s1,s2,⟨_,_,s3⟩,⟨o4,e4,c4,d4⟩,⟨o5,e5,c5,d5⟩⟩:=st
  simp only[List.mem_cons,List.not_mem_nil,or_false]at hb
  rcases hb with rfl | rfl | rfl | rfl | rfl
  ·exact⟨_,s1,fun v q=>by cases q⟩
  ·exact⟨_,s2,fun v q=>by cases q⟩
  ·exact⟨_,s3,fun v q=>by cases q⟩
  ·exact⟨_,e4,fun v q=>by rw[d4]at q;cases q⟩
  ·exact⟨_,e5,fun v q=>by rw[d5]at q;cases q⟩
 keep:=fun i h h' st k=>by
  obtain⟨s1,s2,⟨a,b,s3⟩,s4,s5⟩:=st
  exact⟨k z (by simp) _ s1,k TI (by simp) _ s2,⟨a,b,k TO (by simp) _ s3⟩,s4.at fun o e=>k i1 (by simp) o e,s5.at fun o e=>k i2 (by simp) o e⟩
 item:=by
  intro X hP hw hK hc i pins s σ H E I hf st hg
  subst hP hw hK
  obtain⟨xs,ys,x,y,q1,q2,hx,hy⟩:=hg
  obtain⟨its1,rv1,p1,hz1⟩:=I.tuple q1
  obtain⟨its2,rv2,p2,hz2⟩:=I.tuple q2
  obtain⟨u1,hu1,ru1⟩:=rv1.get hx
  obtain⟨u2,hu2,ru2⟩:=rv2.get hy
  obtain⟨s1,s2,⟨a,b,s3⟩,s4,s5⟩:=st
  refine QjD D s1 s2 s3 s4 s5 p1 p2 (x:=u1) (y:=u2) (by simpa using hu1) (by simpa using hu2) fun h' a1 a2 a3 a4 a5 hk=>?_
  have hT:H s.heap.objs.size=none:=I.hok.fresh (Nat.le_refl _)
  have fp:∀ c∈[z,TO,i1,i2],FpOk X pins H c:=fun c hc=>hf c (by
   simp only[List.mem_cons,List.not_mem_nil,or_false]at hc ⊢
   rcases hc with rfl | rfl | rfl | rfl<;>simp)
  have out:∀ c,c∉[z,TO,i1,i2]->∀ o,s.heap.get? c=some o->h'.get? c=some o:=fun c hc o e=>hk c o (fun q=>hc (by simp[q])) (fun q=>hc (by simp[q])) (fun q=>hc (by simp[q])) (fun q=>hc (by simp[q])) e
  have trk:∀ c o,H c=some o->c∉[z,TO,i1,i2]:=fun c o e hc=>by rw[(fp c hc).1]at e;cases e
  have hok:HOk X.prog X.w (upd H s.heap.objs.size (.tup [x,y])) h':=fun c o e=>by
   by_cases hcT:c=s.heap.objs.size
   ·subst hcT
    rw[QG]at e
    cases e
    exact⟨by show 2<=sizeLine;decide,[u1,u2],.cons ru1 (.cons ru2 .nil),⟨_,a5,rfl,_,rfl⟩⟩
   ·rw[Qg hcT]at e
    refine(I.hok c o e).stay (fun b u hb q=>out b ?_ u q) (fun b q=>?_) fun b ts q=>?_
    ·rcases hb with rfl | hb
     ·exact trk b _ e
     ·exact trk b _ hb
    ·rw[Qg (QB q hT)];exact q
    ·rw[Qg (QB q hT)];exact q
  have I1:Inv X pins σ (upd H s.heap.objs.size (.tup [x,y])) { s with heap:=h',gens:=s.gens,drawn:=s.drawn,toks:=s.toks }:=I.step (ch:=[z,TO,i1,i2])
   (fun c hc=>⟨(fp c hc).2.2.2.1,(fp c hc).2.1,(fp c hc).2.2.2.2.1,(fp c hc).2.2.2.2.2⟩) (fun c o _ _ hc e _=>out c hc o e) (fun c o _ _ hc e _=>⟨o.slots,out c hc o e⟩)
   (fun c o hc e n=>by rw[Qg (Nat.ne_of_lt (Heap.lt_size e))];exact n) (fun c o hc e=>⟨o,out c hc o e⟩)
   (fun c ts e=>by rw[Qg (QB e hT)];exact e) (fun c o u e=>by rw[Qg (QB e hT)];exact e) (fun c ts e=>⟨#[],by rw[Qg (QB e hT),e];simp⟩)
   (fun m hm=>by
    obtain⟨o,es,ep,ho,r⟩:=hm
    exact⟨o,es,ep,out _ (fun hc=>(fp _ hc).2.1 rfl) o ho,r⟩) hok I.bare
  have lt:∀{c o},s.heap.get? c=some o->s.heap.objs.size≠c:=fun e=>Nat.ne_of_gt (Heap.lt_size e)
  refine⟨_,rfl,wpAny_letOwnedTupleGo_zip a1 fun h2 hz2 hs2=>?_⟩
  obtain⟨z0,z1,z2,z3,z4,z5⟩:=hf z (by simp)
  have I2:Inv X pins σ (upd H s.heap.objs.size (.tup [x,y])) { s with heap:=h2 }:=Inv.turned (s:={ s with heap:=h',gens:=s.gens,drawn:=s.drawn,toks:=s.toks }) (t':=s.toks) (it:=z) I1 (fun b o hb e=>(hs2.2 b hb).trans e) (by rw[Qg (lt s1).symm];exact z0) z1 z3 z4 z5
  refine⟨.ref s.heap.objs.size,_,I2,rfl,⟨_,x,y,hT,rfl,rfl,fun xs' q'=>by rw[I.tuple_inj q' q1];exact hx,fun ys' q'=>by rw[I.tuple_inj q' q2];exact hy⟩,
   ⟨hz2,hs2.extBut _ _ D.TIz (out TI (by simp[D.TIz,D.TITO,D.TIi1,D.TIi2]) _ s2),⟨_,_,hs2.extBut _ _ D.TOz a2⟩,a3.extBut hs2.extBut D.i1z,a4.extBut hs2.extBut D.i2z⟩,fun c hc=>?_⟩
  have:H c=none:=(hf c hc).1
  obtain⟨oc,hoc⟩:∃ o,s.heap.get? c=some o:=by
   simp only[List.mem_cons,List.not_mem_nil,or_false]at hc
   rcases hc with rfl | rfl | rfl | rfl | rfl
   ·exact⟨_,s1⟩
   ·exact⟨_,s2⟩
   ·exact⟨_,s3⟩
   ·obtain⟨o,e,_⟩:=s4;exact⟨o,e⟩
   ·obtain⟨o,e,_⟩:=s5;exact⟨o,e⟩
  rw[Qg (lt hoc).symm];exact this
 done:=by
  intro X hP hw hK hc i pins s σ H E I hf st hg
  subst hP hw hK
  obtain⟨xs,ys,q1,q2,hend⟩:=hg
  obtain⟨its1,rv1,p1,hz1⟩:=I.tuple q1
  obtain⟨its2,rv2,p2,hz2⟩:=I.tuple q2
  have l1:=rv1.length
  have l2:=rv2.length
  obtain⟨s1,s2,⟨a,b,s3⟩,s4,s5⟩:=st
  have fp:∀ c∈[z,TO,i1,i2],FpOk X pins H c:=fun c hc=>hf c (by
   simp only[List.mem_cons,List.not_mem_nil,or_false]at hc ⊢
   rcases hc with rfl | rfl | rfl | rfl<;>simp)
  refine QiV (I.ok.hd hc) D s1 s2 s3 s4 s5 p1 p2 (by simp;omega) fun h' hk=>⟨rfl,?_⟩
  have out:∀ c,c∉[z,TO,i1,i2]->∀ o,s.heap.get? c=some o->h'.get? c=some o:=fun c hc o e=>hk c o (fun q=>hc (by simp[q])) (fun q=>hc (by simp[q])) (fun q=>hc (by simp[q])) (fun q=>hc (by simp[q])) e
  have trk:∀ c o,H c=some o->c∉[z,TO,i1,i2]:=fun c o e hc=>by rw[(fp c hc).1]at e;cases e
  exact I.step (g':=s.gens) (d':=s.drawn) (t':=s.toks) (ch:=[z,TO,i1,i2]) (fun c hc=>⟨(fp c hc).2.2.2.1,(fp c hc).2.1,(fp c hc).2.2.2.2.1,(fp c hc).2.2.2.2.2⟩) (fun c o _ _ hc e _=>out c hc o e) (fun c o _ _ hc e _=>⟨o.slots,out c hc o e⟩)
   (fun c o hc e n=>n) (fun c o hc e=>⟨o,out c hc o e⟩) (fun c ts e=>e) (fun c o u e=>e) (fun c ts e=>⟨#[],by rw[e];simp⟩)
   (fun m hm=>by
    obtain⟨o,es,ep,ho,r⟩:=hm
    exact⟨o,es,ep,out _ (fun hc=>(fp _ hc).2.1 rfl) o ho,r⟩)
   (fun c o e=>(I.hok c o e).stay (fun b u hb q=>out b (by
    rcases hb with rfl | hb
    ·exact trk b _ e
    ·exact trk b _ hb) u q) (fun b q=>q) fun b ts q=>q) I.bare
 self:=fun _ _ _ _ _ st h=>wpAny_pyIter_zip st.1 h
section
variable{X:Cx}
def iZt(K:PySem.W.Frag)(ta:TA):TI:=fun σ H R=>ta σ H fun vs H1=>∃ a b,vs=[.ref a,.ref b]/\(∃ xs,SqT K H1 a xs)/\(∃ ys,SqT K H1 b ys)/\R (Ity K a b) H1
theorem pi_zt{elts:List Expr}{k1:Nat}{tpos:Pos}{a b:Expr}{ta:TA}{p pos:Pos}(hg:Gl X "zip")(hm:X.mg "zip"=none)(ha:PA X [a,b] ta)(hs:starEach [a,b] X.env=[(false,eval a X.env),(false,eval b X.env)]:=by rfl)(hs2:starEach [b] X.env=[(false,eval b X.env)]:=by rfl):
 PI X (.Tuple elts k1 tpos) (.Call (.Name "zip" p) [a,b] [] pos) (iZt X.K ta):=by
 intro pins s σ H R I h
 refine Call_ (Qc5 I hg hm PyProof.Rows.Boot.«zip» (PyProof.Rows.callWith_type1 (thn (ha pos pins s σ H _ I h) fun us s1 ⟨vs,H1,I1,r1,q1⟩=>?_) (by rw[hs,hs2]) (by rw[hs2];rfl)))
 obtain⟨l1,l2,e,⟨xs,hx⟩,⟨ys,hy⟩,q⟩:=q1
 subst e
 cases r1 with
 | cons r rr=>
  cases rr with
  | cons r' rr=>
   cases rr
   cases r
   cases r'
   obtain⟨its1,rv1,p1,hz1⟩:=I1.tuple hx
   obtain⟨its2,rv2,p2,hz2⟩:=I1.tuple hy
   have n1:l1<s1.heap.objs.size:=by obtain⟨o,ho,_⟩:=p1;exact Heap.lt_size ho
   have n2:l2<s1.heap.objs.size:=by obtain⟨o,ho,_⟩:=p2;exact Heap.lt_size ho
   refine Qlx p1 p2 fun h' c1 c2 c3 c4 c5 hk=>?_
   refine wpAny_pyIter_zip c1 ?_
   refine⟨_,_,_,Ity X.K l1 l2,H1,rfl,I1.kept (t':=s1.toks) fun b o e=>hk b o e,Qmb (i1:=s1.heap.objs.size) (i2:=s1.heap.objs.size+1) (TI:=s1.heap.objs.size+2) (TO:=s1.heap.objs.size+3) (z:=s1.heap.objs.size+4) (l1:=l1) (l2:=l2)
    (Qjo s1.heap.objs.size l1 l2 n1 n2),⟨c1,c2,⟨_,_,c3⟩,c4,c5⟩,fun b hb=>?_,q⟩
   have hb':s1.heap.objs.size<=b:=by
    simp only[List.mem_cons,List.not_mem_nil,or_false]at hb
    rcases hb with rfl | rfl | rfl | rfl | rfl<;>omega
   exact I1.fpOk hb' (I1.hok.fresh hb')
end
end L2
namespace DL
open PySem PySem.Spec PyProof.Rows L2
def itZT(A B:SD->Out D):SD->Out (List D):=fun ς=>A ς>>=fun x=>B ς>>=fun y=>match x,y with
 | .tup xs,.tup ys=>.ok (List.zipWith (fun a b=>.tup [a,b]) xs ys)
 | _,_=>.stuck
section
variable{C:Dc}{a b:Expr}{A B:SD->Out D}
theorem Qmw{K:PySem.W.Frag}{CT:CTab}{G1:Hp}{p q:Addr}{xs ys:List D}{us vs:List V}(h1:SqT K G1 p us)(r1:RepL K CT G1 xs us)(h2:SqT K G1 q vs)(r2:RepL K CT G1 ys vs):DIt K CT G1 (Ity K p q) (List.zipWith (fun a b=>D.tup [a,b]) xs ys) where
 go:=fun G H i d s1 sH hd=>by
  rw[List.getElem?_zipWith]at hd
  cases e1:xs[i]? with
  | none=>rw[e1]at hd;cases hd
  | some x=>
   cases e2:ys[i]? with
   | none=>rw[e1,e2]at hd;cases hd
   | some y=>
    rw[e1,e2]at hd
    cases hd
    obtain⟨u,hu,ru⟩:=r1.get e1
    obtain⟨v,hv,rv⟩:=r2.get e2
    have q1:SqT K H p us:=Same.sqT sH (Same.sqT s1 h1)
    have q2:SqT K H q vs:=Same.sqT sH (Same.sqT s1 h2)
    refine⟨⟨us,vs,u,v,q1,q2,hu,hv⟩,fun w H' ⟨t,x',y',n,e,e',k1,k2⟩=>?_⟩
    have z1:=k1 us q1
    have z2:=k2 vs q2
    rw[hu]at z1;cases z1
    rw[hv]at z2;cases z2
    subst e e'
    have gn:G t=none:=sH.free n
    refine⟨upd G t (.tup [u,v]),Qj gn,Qj n,QdN sH,fun b g g'=>?_,t,[u,v],rfl,SqT.of QG,⟨u,_,rfl,Rep.mono (s1.trans (Qj gn)) x u ru,v,_,rfl,Rep.mono (s1.trans (Qj gn)) y v rv,rfl⟩⟩
    by_cases hb:b=t
    ·subst hb;exact n
    ·rw[Qg hb]at g';exact absurd g g'
 stop:=fun G H s1 sH=>by
  refine⟨us,vs,Same.sqT sH (Same.sqT s1 h1),Same.sqT sH (Same.sqT s1 h2),?_⟩
  have l1:=r1.length
  have l2:=r2.length
  rw[List.length_zipWith]
  omega
theorem di_zt{elts:List Expr}{k1:Nat}{tpos p pos:Pos}(hgl:Gl C.X "zip")(hm:C.X.mg "zip"=none)(ha:DE C a A)(hb:DE C b B)
 (hst:starEach [a,b] C.X.env=(false,eval a C.X.env)::starEach [b] C.X.env:=by rfl) (hst2:starEach [b] C.X.env=(false,eval b C.X.env)::starEach [] C.X.env:=by rfl):DI C (.Tuple elts k1 tpos) (.Call (.Name "zip" p) [a,b] [] pos) (itZT A B):=by
 obtain⟨t0,p0,q0⟩:=ha
 obtain⟨t3,p3,q3⟩:=hb
 refine⟨_,pi_zt hgl hm (QaZ p0 (QaZ p3 Qck hst2) hst) (by rw[hst,hst2];rfl) (by rw[hst2];rfl),fun G H σ ς R S k=>?_⟩
 unfold itZT at k
 rw[Out.post_bind]at k
 refine q0 G H σ ς _ S (Out.post_mono k fun d k v H1 G1 S1 a1 b1 r=>?_)
 rw[Out.post_bind]at k
 refine q3 G1 H1 σ ς _ S1 (Out.post_mono k fun d2 k v2 H2 G2 S2 a2 b2 r'=>?_)
 cases d with
 | tup xs=>
  cases d2 with
  | tup ys=>
   obtain⟨p1,us,rfl,h1,r1⟩:=Rep.mono b2 _ v r
   obtain⟨p2,vs,rfl,h2,r2⟩:=r'
   exact⟨p1,p2,rfl,⟨us,Same.sqT S2.sub h1⟩,⟨vs,Same.sqT S2.sub h2⟩,k _ H2 G2 S2 (a1.trans a2) (b1.trans b2) (Qmw h1 r1 h2 r2)⟩
  | _=>exact k.elim
 | _=>exact k.elim
end
def eSlT(a:SD->Out D)(l u:SD->Out (Option Int)):SD->Out D:=fun ς=>a ς>>=fun x=>l ς>>=fun i=>u ς>>=fun j=>match x with
 | .tup xs=>if (decide (HT.sIx xs.length 0 i=0)&&decide (HT.sIx xs.length xs.length j=xs.length))=true then .stuck else .ok (.tup (cutD xs i j))
 | _=>.stuck
section
variable{C:Dc}{a:Expr}{A:SD->Out D}{lo hi:Option Expr}{L U:SD->Out (Option Int)}{p2 pos:Pos}
theorem Qkz(ha:DE C a A)(hl:DO C lo L)(hu:DO C hi U):DE C (.Subscript a (.Slice lo hi none p2) pos) (eSlT A L U):=by
 obtain⟨ta,p1,q1⟩:=ha
 obtain⟨tl,p3,q3⟩:=hl
 obtain⟨tu,p4,q4⟩:=hu
 refine⟨_,Qel Qmt p1 p3 p4,fun G H σ ς Q S q=>?_⟩
 unfold eSlT at q
 rw[Out.post_bind]at q
 refine q1 G H σ ς _ S (Out.post_mono q fun x k v1 H1 G1 S1 a1 b1 r1=>?_)
 rw[Out.post_bind]at k
 refine q3 G1 H1 σ ς _ S1 (Out.post_mono k fun i k2 H2 G2 S2 a2 b2=>?_)
 rw[Out.post_bind]at k2
 refine q4 G2 H2 σ ς _ S2 (Out.post_mono k2 fun j k3 H3 G3 S3 a3 b3=>?_)
 cases x with
 | tup xs=>
  obtain⟨p,vs,rfl,h2,h3⟩:=Rep.mono (b2.trans b3) _ v1 r1
  have hl:=h3.length
  rcases QF k3 with⟨_,k3⟩ | ⟨hc,k3⟩
  ·exact k3.elim
  ·refine⟨p,vs,rfl,Same.sqT S3.sub h2,fun z=>?_,KD.tup (KD.later (show KD C G H σ ς Q (.tup (cutD xs i j)) from k3) ((a1.trans a2).trans a3) ((b1.trans b2).trans b3)) S3 (QhZ i j h3)⟩
   rw[← hl]at z
   exact hc (by rw[decide_eq_true z.1,decide_eq_true z.2];rfl)
 | _=>exact k3.elim
variable{o e e':Expr}{O E E':SD->Out D}{apos cpos:Pos}
theorem Qju(ho:DB C o O)(he:DE C e E)
 (hbase:attributeBase o "startswith" C.X.env (eval o C.X.env)=eval o C.X.env:=by rfl)
 (hfew:((backTo cpos (starEach (e::[]) C.X.env)).all (fun x => !x.1)&&(backToKw cpos (keywordEach [] C.X.env)).all (fun x=>x.1.isSome)
  && decide ((e::[]).length+([]:List Keyword).length+(if ([]:List Keyword).isEmpty then 0 else 1)<30))=true:=by rfl)
 (hline:(apos.endLine == cpos.line)=true:=by rfl) (hs:starEach (e::[]) C.X.env=(false,eval e C.X.env)::starEach [] C.X.env:=by rfl):
 DE C (.Call (.Attribute o "startswith" apos) [e] [] cpos) (eSm fSts O (aCons E aNil)):=
 de_sm PySem.F.slot_str_startswith PySem.F.type_str_startswith Qff ho (Qb he Qf hs) sts_r hbase hfew hline hs rfl
theorem QlO(ho:DB C o O)(he:DE C e E)(he':DE C e' E')
 (hbase:attributeBase o "startswith" C.X.env (eval o C.X.env)=eval o C.X.env:=by rfl)
 (hfew:((backTo cpos (starEach (e::[e']) C.X.env)).all (fun x => !x.1)&&(backToKw cpos (keywordEach [] C.X.env)).all (fun x=>x.1.isSome)
  && decide ((e::[e']).length+([]:List Keyword).length+(if ([]:List Keyword).isEmpty then 0 else 1)<30))=true:=by rfl)
 (hline:(apos.endLine == cpos.line)=true:=by rfl) (hs:starEach (e::[e']) C.X.env=(false,eval e C.X.env)::starEach [e'] C.X.env:=by rfl)
 (hs2:starEach (e'::[]) C.X.env=(false,eval e' C.X.env)::starEach [] C.X.env:=by rfl):
 DE C (.Call (.Attribute o "startswith" apos) [e,e'] [] cpos) (eSm fSts O (aCons E (aCons E' aNil))):=
 de_sm PySem.F.slot_str_startswith PySem.F.type_str_startswith Qff ho (Qb he (Qb he' Qf hs2) hs) sts_r hbase hfew hline hs (by rw[hs2];rfl)
theorem QhK(ho:DB C o O)(he:DE C e E)
 (hbase:attributeBase o "endswith" C.X.env (eval o C.X.env)=eval o C.X.env:=by rfl)
 (hfew:((backTo cpos (starEach (e::[]) C.X.env)).all (fun x => !x.1)&&(backToKw cpos (keywordEach [] C.X.env)).all (fun x=>x.1.isSome)
  && decide ((e::[]).length+([]:List Keyword).length+(if ([]:List Keyword).isEmpty then 0 else 1)<30))=true:=by rfl)
 (hline:(apos.endLine == cpos.line)=true:=by rfl) (hs:starEach (e::[]) C.X.env=(false,eval e C.X.env)::starEach [] C.X.env:=by rfl):
 DE C (.Call (.Attribute o "endswith" apos) [e] [] cpos) (eSm fEnds O (aCons E aNil)):=
 de_sm PySem.F.slot_str_endswith PySem.F.type_str_endswith Qmh ho (Qb he Qf hs) Qnq hbase hfew hline hs rfl
theorem Qlj(ho:DB C o O)(he:DE C e E)
 (hbase:attributeBase o "rpartition" C.X.env (eval o C.X.env)=eval o C.X.env:=by rfl)
 (hfew:((backTo cpos (starEach (e::[]) C.X.env)).all (fun x => !x.1)&&(backToKw cpos (keywordEach [] C.X.env)).all (fun x=>x.1.isSome)
  && decide ((e::[]).length+([]:List Keyword).length+(if ([]:List Keyword).isEmpty then 0 else 1)<30))=true:=by rfl)
 (hline:(apos.endLine == cpos.line)=true:=by rfl) (hs:starEach (e::[]) C.X.env=(false,eval e C.X.env)::starEach [] C.X.env:=by rfl):
 DE C (.Call (.Attribute o "rpartition" apos) [e] [] cpos) (eSm (fPart QbS) O (aCons E aNil)):=
 de_sm PySem.F.slot_str_rpartition PySem.F.type_str_rpartition Qln ho (Qb he Qf hs) (Qj3 QbS) hbase hfew hline hs rfl
end
end DL
namespace DL
open PySem PySem.Spec PyProof.Rows L2
theorem QaB{i j:Int}(h:0<j):dMod (.int i) (.int j)=.ok (.int (i % j)):=by
 show(if decide (j≠0)=true then Out.ok (D.int (i.fmod j)) else Out.stuck)=_
 rw[if_pos (decide_eq_true (by omega)),Int.fmod_eq_emod_of_nonneg i (by omega)]
theorem QkV{i j:Int}(h:j≠0)(hb:big j=true):dFdiv (.int i) (.int j)=.ok (.int (i.fdiv j)):=by
 show(if (decide (j≠0)&&big j)=true then Out.ok (D.int (i.fdiv j)) else Out.stuck)=_
 rw[if_pos (by rw[hb,decide_eq_true h];rfl)]
theorem QdO{i j:Int}(h:0<j)(hb:big j=true):dFdiv (.int i) (.int j)=.ok (.int (i / j)):=by
 rw[QkV (by omega) hb,Int.fdiv_eq_ediv_of_nonneg i (by omega)]
theorem QdV{i:Int}{n:Nat}(h:i.natAbs<2 ^ n):bitsI i<=n:=PySem.intBits_le_iff.mpr h
theorem QlW{i j:Int}(h:bitsI i+bitsI j<=134217728):dMul (.int i) (.int j)=.ok (.int (i * j)):=by
 show(if decide (bitsI i+bitsI j<=134217728)=true then Out.ok (D.int (i * j)) else Out.stuck)=_
 rw[if_pos (decide_eq_true h)]
theorem Qh0{i j:Int}{m n:Nat}(hi:bitsI i<=m)(hj:bitsI j<=n)(h:m+n<=134217728):dMul (.int i) (.int j)=.ok (.int (i * j)):=QlW (by omega)
theorem QY(i j:Int):dAdd (.int i) (.int j)=.ok (.int (i+j)):=rfl
theorem QaG(i j:Int):dSub (.int i) (.int j)=.ok (.int (i - j)):=rfl
theorem Qac(i:Int):dNeg (.int i)=.ok (.int (-i)):=rfl
theorem QaS(i:Int):dAbs (.int i)=.ok (.int (i.natAbs:Int)):=by
 show Out.ok (D.int (if i<0 then -i else i))=_
 congr 2;split<;>omega
theorem Qbn(i j:Int):dLt (.int i) (.int j)=.ok (.bl (decide (i<j))):=rfl
theorem Qbj(i j:Int):dLe (.int i) (.int j)=.ok (.bl (decide (i<=j))):=rfl
theorem Qaf(i j:Int):dGt (.int i) (.int j)=.ok (.bl (decide (j<i))):=rfl
theorem Qah(i j:Int):dGe (.int i) (.int j)=.ok (.bl (decide (j<=i))):=rfl
mutual
def layD:D->Bool
 | .non=>true
 | .bl _=>true
 | .int _=>true
 | .str x=>PyData.strOk x
 | .lst xs=>layDs xs
 | .tup xs=>layDs xs
 | _=>false
def layDs:List D->Bool
 | []=>true
 | x::xs=>layD x&&layDs xs
end
mutual
def dep:D->Nat
 | .lst xs=>deps xs+1
 | .tup xs=>deps xs+1
 | _=>0
def deps:List D->Nat
 | []=>0
 | x::xs=>max (dep x) (deps xs)
end
mutual
theorem QjO:∀ d:D,layD d=true->d.py.canLay0=true
 | .non,_=>rfl
 | .bl _,_=>rfl
 | .int _,_=>rfl
 | .str x,h=>h
 | .lst xs,h=>QeU xs h
 | .tup xs,h=>QeU xs h
theorem QeU:∀ ds:List D,layDs ds=true->PyData.canLayAll0 (D.pys ds)=true
 | [],_=>rfl
 | x::xs,h=>by
  rw[layDs,Bool.and_eq_true]at h
  rw[D.pys,PyData.canLayAll0,Bool.and_eq_true]
  exact⟨QjO x h.1,QeU xs h.2⟩
end
mutual
theorem Qkq:∀ d:D,layD d=true->d.py.depth=dep d
 | .non,_=>rfl
 | .bl _,_=>rfl
 | .int _,_=>rfl
 | .str x,h=>rfl
 | .lst xs,h=>by rw[D.py,PyData.depth,dep,Qe8 xs h]
 | .tup xs,h=>by rw[D.py,PyData.depth,dep,Qe8 xs h]
theorem Qe8:∀ ds:List D,layDs ds=true->PyData.depthAll (D.pys ds)=deps ds
 | [],_=>rfl
 | x::xs,h=>by
  rw[layDs,Bool.and_eq_true]at h
  rw[D.pys,PyData.depthAll,deps,Qkq x h.1,Qe8 xs h.2]
end
theorem Qdz{d:D}(h:layD d=true)(hd:dep d<=64):shp d=true:=by
 unfold shp SeqAt.shaped
 rw[QjO d h,Qkq d h]
 simpa using hd
theorem QdT(i:Int):shp (.int i)=true:=Qdz rfl (Nat.zero_le _)
theorem Qjy{x y:D}(hx:shp x=true)(hy:shp y=true):dEq x y=.ok (.bl (PyData.eqv x.py y.py)):=by
 unfold dEq;rw[hx,hy];rfl
theorem Qjh{x y:D}(hx:shp x=true)(hy:shp y=true):dNe x y=.ok (.bl (!PyData.eqv x.py y.py)):=by
 unfold dNe;rw[hx,hy];rfl
theorem Qh1(i j:Int):(i == j)=decide (i=j):=by
 by_cases h:i=j
 ·subst h;simp
 ·simp[h]
theorem Qad(i j:Int):dEq (.int i) (.int j)=.ok (.bl (decide (i=j))):=by
 rw[Qjy (QdT i) (QdT j), ← Qh1]
 rfl
theorem Qa5(i j:Int):dNe (.int i) (.int j)=.ok (.bl (!decide (i=j))):=by
 rw[Qjh (QdT i) (QdT j), ← Qh1]
 rfl
theorem Qfs{body:D->SD->Out Fl}{P:SD->Prop}{xs:List D}(h:∀ x∈xs,∀ ς,P ς->∃ ς',body x ς=.ok (.nx ς')/\P ς'):∀ ς,P ς->∃ ς',loopD body xs ς=.ok (.nx ς')/\P ς':=by
 induction xs with
 | nil=>intro ς p;exact⟨ς,rfl,p⟩
 | cons x xs ih=>
  intro ς p
  obtain⟨ς1,e1,p1⟩:=h x List.mem_cons_self ς p
  obtain⟨ς2,e2,p2⟩:=ih (fun y hy=>h y (List.mem_cons_of_mem _ hy)) ς1 p1
  refine⟨ς2,?_,p2⟩
  rw[loopD,e1]
  exact e2
theorem Qal{n:Nat}(h:n<=1000:=by decide):fits n=true:=decide_eq_true (Nat.le_trans h (by decide))
theorem ixT{xs:List D}{x:D}(k:Nat)(h:xs[k]?=some x):dIx (.tup xs) (.int (k:Int))=.ok x:=by
 show optO (atI xs (k:Int))=_
 rw[Qce h];rfl
theorem ixL{xs:List D}{x:D}(k:Nat)(h:xs[k]?=some x):dIx (.lst xs) (.int (k:Int))=.ok x:=by
 show optO (atI xs (k:Int))=_
 rw[Qce h];rfl
theorem QU(x:D)(xs:List D):dIx (.tup (x::xs)) (.int 0)=.ok x:=ixT 0 rfl
theorem Qai(x y:D)(xs:List D):dIx (.tup (x::y::xs)) (.int 1)=.ok y:=ixT 1 rfl
theorem Qa3(x y z:D)(xs:List D):dIx (.tup (x::y::z::xs)) (.int 2)=.ok z:=ixT 2 rfl
theorem Qmv{α:Type}(xs:List α)(k:Nat):cutD xs none (some (k:Int))=xs.take k:=by
 unfold cutD
 rw[HT.sIx_none,HT.sIx_nat,List.drop_zero,Nat.sub_zero]
 by_cases h:k<=xs.length
 ·rw[Nat.min_eq_left h]
 ·rw[Nat.min_eq_right (by omega),List.take_of_length_le (Nat.le_refl _),List.take_of_length_le (by omega)]
theorem QkU{α:Type}(xs:List α)(k:Nat):cutD xs (some (k:Int)) none=xs.drop k:=by
 unfold cutD
 rw[HT.sIx_none,HT.sIx_nat]
 by_cases h:k<=xs.length
 ·rw[Nat.min_eq_left h,List.take_of_length_le (by rw[List.length_drop];exact Nat.le_refl _)]
 ·rw[Nat.min_eq_right (by omega),List.drop_length,List.drop_eq_nil_of_le (by omega)];simp
theorem QcP{g:D->SD->Out SD}{its:SD->Out (List D)}{T:SD->Out Fl}{ς:SD}{xs:List D}{r:Out Fl}(h:its ς=.ok xs)(hL:loopD (fun x ς=>g x ς>>=fun ς'=>T ς') xs ς=r):sFor g its T ς=r:=by
 unfold sFor
 rw[h];exact hL
theorem Qir{body:D->SD->Out Fl}{P:SD->Prop}{n:Nat}(h:∀ k:Nat,k<n->∀ ς,P ς->∃ ς',body (.int (k:Int)) ς=.ok (.nx ς')/\P ς')(ς:SD)(hp:P ς):∃ ς',loopD body (QaT 0 n) ς=.ok (.nx ς')/\P ς':=
 Qfs (fun x hx ς p=>by
  unfold QaT at hx
  obtain⟨i,hi,rfl⟩:=List.mem_map.mp hx
  have:=h i (List.mem_range.mp hi) ς p
  rwa [Int.zero_add]) ς hp
theorem Qkx{A:SD->Out D}{ς:SD}(m:Nat)(h:A ς=.ok (.int (m:Int)))(hm:m<=1000000):itR1 A ς=.ok (QaT 0 m):=by
 have hs:Qc0 (m:Int)=true:=by
  unfold Qc0
  rw[Bool.and_eq_true]
  exact⟨decide_eq_true (by omega),decide_eq_true (by omega)⟩
 unfold itR1
 rw[h,Out.bind_ok]
 simp only[hs,if_true,Int.toNat_natCast]
end DL
namespace DL
open PySem PySem.Spec PyProof.Rows L2
theorem QhH{body:D->SD->Out Fl}{P:Nat->SD->Prop}{n:Nat}(h:∀ k:Nat,k<n->∀ ς,P k ς->∃ ς',body (.int (k:Int)) ς=.ok (.nx ς')/\P (k+1) ς'):∀ ς,P 0 ς->∃ ς',loopD body (QaT 0 n) ς=.ok (.nx ς')/\P n ς':=by
 have key:∀(j:Nat)(k:Nat),k+j=n->∀ ς,P k ς->∃ ς',loopD body ((List.range' k j).map fun(i:Nat)=>D.int ((0:Int)+i)) ς=.ok (.nx ς')/\P n ς':=by
  intro j
  induction j with
  | zero=>
   intro k hk ς p
   have:k=n:=by omega
   subst this
   exact⟨ς,rfl,p⟩
  | succ j ih=>
   intro k hk ς p
   obtain⟨ς1,e1,p1⟩:=h k (by omega) ς p
   obtain⟨ς2,e2,p2⟩:=ih (k+1) (by omega) ς1 p1
   refine⟨ς2,?_,p2⟩
   rw[List.range'_succ,List.map_cons,loopD,Int.zero_add,e1]
   exact e2
 intro ς p
 have:=key n 0 (by omega) ς p
 unfold QaT
 rw[List.range_eq_range']
 exact this
theorem QgD{f:D->Out (Option D)}{h:D->Option D}:∀{xs:List D},(∀ x∈xs,f x=.ok (h x))->compM f xs=.ok (xs.filterMap h)
 | [],_=>rfl
 | x::xs,hf=>by
  rw[compM,hf x List.mem_cons_self,Out.bind_ok,QgD (xs:=xs) (fun y hy=>hf y (List.mem_cons_of_mem _ hy)),Out.bind_ok,List.filterMap_cons]
  cases h x<;>rfl
theorem Qft{α:Type}(f:α->Bool):∀ xs:List α,blsOf (xs.map fun x=>D.bl (f x))=some (xs.map f)
 | []=>rfl
 | x::xs=>by rw[List.map_cons,blsOf,Qft f xs];rfl
theorem Qep{α:Type}(f:α->Bool)(xs:List α):fAll (.lst (xs.map fun x=>D.bl (f x)))=.ok (.bl (xs.all f)):=by
 rw[fAll,Qft]
 show Out.ok (D.bl ((xs.map f).all id))=_
 rw[List.all_map];rfl
theorem Qcb{n:Nat}(h:n<=1000):fits n=true:=Qal h
theorem Q0(z:Str):z.cps.toList.length=z.length:=by simp[Str.length]
end DL
namespace DL
open PySem PySem.Spec L2
section
variable{i j:Nat}{d x y:D}{m:SM}{ς ς' ς1:SD}{E A B:SD->Out D}{AA:SD->Out (List D)}{f:D->Out D}{g:D->D->Out D}{h:List D->Out D}{r:Out D}{xs ys:List D}{T U:SD->Out Fl}{P Q:SD->Out Bool}{b c:Bool}{fl:Fl}{rf:Out Fl}{rb:Out Bool}
theorem r_var(e:ς[i]?=some (some (.k,d))):eVar i ς=.ok d:=by unfold eVar;rw[e]
theorem Qmy(e:ς[i]?=some (some (m,d))):eVarB i ς=.ok d:=by unfold eVarB;rw[e]
theorem r_C:eC d ς=.ok d:=rfl
theorem r_e1(a:A ς=.ok x)(k:f x=r):e1 f A ς=r:=by unfold e1;rw[a];exact k
theorem r_e2(a:A ς=.ok x)(a':B ς=.ok y)(k:g x y=r):e2 g A B ς=r:=by unfold e2;rw[a,Out.bind_ok,a'];exact k
theorem r_eA(a:AA ς=.ok xs)(k:h xs=r):eA h AA ς=r:=by unfold eA;rw[a];exact k
theorem QK{dd:List D}(a:AA ς=.ok xs)(e:xs++dd=ys)(k:h ys=r):eA (fun xs=>h (xs++dd)) AA ς=r:=by unfold eA;rw[a];show h (xs++dd)=r;rw[e];exact k
theorem r_nil:aNil ς=.ok []:=rfl
theorem Qi(a:A ς=.ok x)(k:AA ς=.ok xs):aCons A AA ς=.ok (x::xs):=by unfold aCons;rw[a,Out.bind_ok,k];rfl
theorem r_tup(a:AA ς=.ok xs)(k:xs.length<=1000):eTup AA ς=.ok (.tup xs):=by unfold eTup;rw[a,Out.bind_ok,if_pos (Qcb k)]
theorem r_lst(a:AA ς=.ok xs)(k:xs.length<=1000):eLst AA ς=.ok (.lst xs):=by unfold eLst;rw[a,Out.bind_ok,if_pos (Qcb k)]
theorem Qo(a:A ς=.ok (.bl b)):tVal A ς=.ok b:=by unfold tVal;rw[a];rfl
theorem Qbq(a:P ς=.ok b):tNot' P ς=.ok (!b):=by unfold tNot';rw[a];rfl
theorem r_or'(a:P ς=.ok b)(k:(if b=true then .ok true else Q ς)=rb):tOr' P Q ς=rb:=by unfold tOr';rw[a];exact k
theorem QaR(a:P ς=.ok b)(k:(if b=true then Q ς else .ok false)=rb):tAnd' P Q ς=rb:=by unfold tAnd';rw[a];exact k
theorem QmS(a:A ς=.ok (.bl b))(k:(if b=true then B ς else .ok (.bl false))=r):eAnd A B ς=r:=by unfold eAnd;rw[a];cases b<;>exact k
theorem r_isa{F:D->Out Bool}(a:A ς=.ok x)(k:F x=.ok b):eIsa F A ς=.ok (.bl b):=by unfold eIsa;rw[a,Out.bind_ok,k];rfl
theorem r_set(a:E ς=.ok d)(k:ς.set i (some (.k,d))=ς'):sSet i E ς=.ok (.nx ς'):=by unfold sSet;rw[a,Out.bind_ok,k]
theorem QmC(a:E ς=.ok d)(k:ς.set i (some (.o,d))=ς'):sSetO i E ς=.ok (.nx ς'):=by unfold sSetO;rw[a,Out.bind_ok,k]
theorem r_seq(a:T ς=.ok fl)(k:thenF U fl=rf):sSeq T U ς=rf:=by unfold sSeq;rw[a];exact k
theorem r_okR{α:Type}{a:α}:(Out.ok a)=Out.ok a:=rfl
theorem Qy(k:U ς=rf):thenF U (.nx ς)=rf:=k
theorem QcX{z:Bool}:thenF U (.rt z d)=.ok (.rt z d):=rfl
theorem r_if(a:P ς=.ok b)(k:(if b=true then T ς else U ς)=rf):sIf P T U ς=rf:=by unfold sIf;rw[a];exact k
theorem Qcp{α:Type}{u v w:α}(a:b=true)(k:u=w):(if b=true then u else v)=w:=by rw[if_pos a];exact k
theorem Qax{α:Type}{u v w:α}(a:b=false)(k:v=w):(if b=true then u else v)=w:=by subst a;exact k
theorem r_ret(a:E ς=.ok d):sRet E ς=.ok (.rt false d):=by unfold sRet;rw[a];rfl
theorem QmK(a:E ς=.ok d):sRetF E ς=.ok (.rt true d):=by unfold sRetF;rw[a];rfl
theorem QmI(e:ς[i]?=some (some (.o,d))):sRetO i ς=.ok (.rt true d):=by unfold sRetO;rw[e]
theorem QM:sNil ς=.ok (.nx ς):=rfl
theorem Qfv{o:Out D}(a:o=.ok d)(k:d.scal=false):Qbm o=.ok d:=by unfold Qbm;rw[a,Out.bind_ok,k];rfl
theorem r_sl{l u:SD->Out (Option Int)}{p q:Option Int}(a:A ς=.ok (.lst xs))(k1:l ς=.ok p)(k2:u ς=.ok q)(e:cutD xs p q=ys):eSl A l u ς=.ok (.lst ys):=by unfold eSl;rw[a,Out.bind_ok,k1,Out.bind_ok,k2,Out.bind_ok];show Out.ok (D.lst _)=_;rw[e]
theorem r_oNo:oNo ς=.ok none:=rfl
theorem Q5{k:Int}(a:E ς=.ok (.int k)):oSome E ς=.ok (some k):=by unfold oSome;rw[a];rfl
theorem r_ixO{k:Int}(e:ς[i]?=some (some (.o,.lst xs)))(a:A ς=.ok (.int k))(q:atI xs k=some d):eIxO i A ς=.ok d:=by
 unfold eIxO;rw[e]
 show(A ς>>=_)=_
 rw[a,Out.bind_ok]
 show optO (atI xs k)=_
 rw[q];rfl
theorem QaJ{fr:Bool}(a:T ς=.ok fl)(k:retF fr fl=r):(T ς>>=retF fr)=r:=by rw[a];exact k
theorem r_rt{z:Bool}:retF false (.rt z d)=.ok d:=by unfold retF;simp
theorem r_rtT:retF true (.rt true d)=.ok d:=by unfold retF;simp
theorem r_gN{L:SD->Out Fl}(a:ς.set i (some (.k,d))=ς1)(k:L ς1=rf):(gN i d ς>>=fun ς'=>L ς')=rf:=by unfold gN;rw[a];exact k
theorem r_gT{L:SD->Out Fl}{is:List Nat}(a:Qab is ys ς=.ok ς1)(k:L ς1=rf):(gT is (.tup ys) ς>>=fun ς'=>L ς')=rf:=by unfold gT;show(Qab is ys ς>>=fun ς'=>L ς')=rf;rw[a];exact k
theorem r_itL(a:E ς=.ok (.lst xs)):itL E ς=.ok xs:=by unfold itL;rw[a];rfl
end
theorem Qmn{a b:Str}(ha:PyData.strOk a=true)(hb:PyData.strOk b=true):dEq (.str a) (.str b)=.ok (.bl (a == b)):=by
 rw[Qjy (Qdz (d:=.str a) ha (Nat.zero_le _)) (Qdz (d:=.str b) hb (Nat.zero_le _))];rfl
theorem QlP{a b:Str}(ha:PyData.strOk a=true)(hb:PyData.strOk b=true):dNe (.str a) (.str b)=.ok (.bl (!(a == b))):=by
 rw[Qjh (Qdz (d:=.str a) ha (Nat.zero_le _)) (Qdz (d:=.str b) hb (Nat.zero_le _))];rfl
theorem r_get{ς:SD}{i:Nat}{m:SM}{d:D}(h:ς[i]?=some (some (m,d))):ς[i]?=some (some (m,d)):=h
theorem r_len{n:Nat}(h:n<=1000):n<=1000:=h
theorem r_id{α:Type}{a b:α}(h:a=b):a=b:=h
theorem Qns{α:Type}{x:α}{xs:List α}:(x::xs)[0]?=some x:=rfl
theorem Qnj{α:Type}{x:α}{xs:List α}{n:Nat}{r:Option α}(h:xs[n]?=r):(x::xs)[n+1]?=r:=by rw[List.getElem?_cons_succ];exact h
theorem Qj7{α:Type}{x y:α}{xs:List α}:(x::xs).set 0 y=y::xs:=rfl
theorem Qjp{α:Type}{x y:α}{xs ys:List α}{n:Nat}(h:xs.set n y=ys):(x::xs).set (n+1) y=x::ys:=by rw[List.set_cons_succ,h]
theorem Qmr{α:Type}{ys:List α}:[]++ys=ys:=rfl
theorem Qnm{α:Type}{x:α}{xs ys zs:List α}(h:xs++ys=zs):x::xs++ys=x::zs:=by rw[List.cons_append,h]
end DL
set_option maxHeartbeats 4000000
namespace My
open PySem PySem.Spec L2 DL
set_option hygiene false
local macro_rules
 | `("e"^$q $s $k $b) => `(DefOk P w K mg base CT $s $k $b [] $q)
 | `("f"^$k $l $b $q) => `(FnOk P w K mg base CX0 $k f fd $l (SpD K CT $b $q))
set_option hygiene true
theorem gr{X:Cx}{x:Str}(h:Gl X x:=by rfl):Gl X x:=h
theorem Rm{k k1:Nat}{A:Around}(h:Room k1 A)(e:k<=k1:=by decide):Room k A:=h.mono e
def top(i:Nat):Stmt:=PySem.Challenge.pw_dockethall_k75_read_sum.main.body.getD i (.Pass ⟨0,0,0,0⟩)
noncomputable section
variable{P:Program}{w:World}{K:PySem.W.Frag}{mg:Str->Option Value}{base:Heap}{CT:CTab}{f:Addr}{fd:FuncData}{dV:Value}
abbrev Qda:Stmt:=top 33
theorem Qba:QC ["_law_number","_law_letters","_law_name_here","_law_k"] ["_law_number"] (Qk Qda):=⟨rfl,rfl,rfl,dk,rfl,dk,dk⟩
def Qbt:SD->Out Fl:=(sSet 2 (e2 dAdd (eVar 2) (e2 dIx (eVar 1) (e2 dMod (e2 dMod (e2 dMul (eVar 0) (e2 dAdd (e2 dMul (eC (.int 2)) (eVar 3)) (eC (.int 3)))) (eC (.int 1000003))) (eC (.int 26))))))
def Qb6:SD->Out Fl:=(sSeq (sSet 1 (eC (.str "abcdefghijklmnopqrstuvwxyz"))) (sSeq (sSet 2 (eC (.str ""))) (sSeq (sFor (gN 3) (itR1 (e2 dAdd (eC (.int 1)) (e2 dMod (eVar 0) (eC (.int 6))))) Qbt) (sRet (eVar 2)))))
def Qam:List D->Out D:=bodyF false 1 4 Qb6
theorem Qie(d0:D):Qam [d0]=(Qb6 [some (.k,d0),none,none,none]>>=retF false):=rfl
theorem Qip(F:FunV K "_law_name" "_law_name" Qda f fd dV)(z_range:mg "range"=none):"f"^1 ["_law_number"] false Qam:=
 (@fnV P w K mg base CT false _ _ _ f fd dV _ _ 0 Qb6 F Qba fun cdv A outer s H E G hr=>
  (Qd (Qw (i:=1) Qba.nd rfl (oi rfl) Qh) (Qd (Qw (i:=2) Qba.nd rfl (oi rfl) Qh) (Qd (QcY PassesOwn.never rfl (Qfo gr z_range (DE.db (Qn (DE.db Qc) (DE.db (Qa8 (DE.db (Qa 0)) (DE.db Qc)))))) (QcU (i:=3) Qba.nd rfl (oi rfl)) (Qcm _) (Qe (Qw (i:=2) Qba.nd rfl (oi rfl) (Qn (DE.db (Qa 2)) (DE.db (de_ix (Qa 1) (DE.db (Qa8 (DE.db (Qa8 (DE.db (QdH (DE.db (Qa 0)) (DE.db (Qn (DE.db (QdH (DE.db Qc) (DE.db (Qa 3)))) (DE.db Qc))))) (DE.db Qc))) (DE.db Qc))))))))) (Qe (Qp (Qa 2)))))) :)
abbrev Qcz:Stmt:=top 32
theorem Qf5:QC ["_law_cell","_law_k"] ["_law_cell","_law_k"] (Qk Qcz):=⟨rfl,rfl,rfl,dk,rfl,dk,dk⟩
def QcL:SD->Out Fl:=(sRet (e2 dMod (e2 dMul (e2 dAdd (e2 dMod (eVar 0) (eC (.int 2147483647))) (eC (.int 11))) (e2 dAdd (eC (.int 48271)) (e2 dMul (e2 dMul (eC (.int 2)) (eVar 1)) (eVar 1)))) (eC (.int 2147483629))))
def Q8:List D->Out D:=bodyF false 2 2 QcL
theorem Qhz(F:FunV K "_law_mixed" "_law_mixed" Qcz f fd dV)  : "f"^1 ["_law_cell","_law_k"] false Q8:=
 (@fnV P w K mg base CT false _ _ _ f fd dV _ _ 0 QcL F Qf5 fun cdv A outer s H E G hr=>
  (Qe (Qp (Qa8 (DE.db (QdH (DE.db (Qn (DE.db (Qa8 (DE.db (Qa 0)) (DE.db Qc))) (DE.db Qc))) (DE.db (Qn (DE.db Qc) (DE.db (QdH (DE.db (QdH (DE.db Qc) (DE.db (Qa 1)))) (DE.db (Qa 1)))))))) (DE.db Qc)))) :)
abbrev QcJ:Stmt:=top 34
theorem Qu:QC ["_law_cells","_law_most","_law_one","_law_parts","_law_k","_law_number","_law_name_here","_law_way","_law_many","_law_other"] ["_law_cells","_law_most"] (Qk QcJ):=⟨rfl,rfl,rfl,dk,rfl,dk,dk⟩
def QaK:SD->Out Fl:=(sSeq (sSet 5 (eA (fun xs=>Q8 (xs++[])) (aCons (e2 dIx (eVar 0) (eVar 4)) (aCons (eVar 4) aNil)))) (sSeq (sSet 6 (eTup (aCons (eC (.str "name")) (aCons (eA (fun xs=>Qam (xs++[])) (aCons (e2 dFdiv (eVar 5) (eC (.int 6))) aNil)) aNil)))) (sSeq (sSet 7 (e2 dMod (eVar 5) (eC (.int 6)))) (sSeq (sIf (tAnd' (tVal (e2 dEq (eVar 7) (eC (.int 0)))) (tVal (e2 dLt (eVar 3) (eVar 1)))) (sSeq (sSet 2 (eTup (aCons (eC (.str "times")) (aCons (e2 dMod (e2 dFdiv (eVar 5) (eC (.int 36))) (eC (.int 10))) (aCons (eVar 2) aNil))))) (sSet 3 (e2 dAdd (eVar 3) (eC (.int 1))))) sNil) (sSeq (sIf (tAnd' (tVal (e2 dEq (eVar 7) (eC (.int 1)))) (tVal (e2 dLt (eVar 3) (eVar 1)))) (sSeq (sSet 8 (e2 dAdd (eC (.int 1)) (e2 dMod (e2 dFdiv (eVar 5) (eC (.int 36))) (eC (.int 12))))) (sSeq (sSet 2 (eTup (aCons (eC (.str "share")) (aCons (eVar 2) (aCons (e2 dMod (e2 dFdiv (eVar 5) (eC (.int 432))) (eVar 8)) (aCons (eVar 8) aNil)))))) (sSet 3 (e2 dAdd (eVar 3) (eC (.int 1)))))) sNil) (sSeq (sIf (tAnd' (tVal (e2 dEq (eVar 7) (eC (.int 2)))) (tVal (e2 dLt (e2 dAdd (eVar 3) (eC (.int 1))) (eVar 1)))) (sSeq (sSet 2 (eTup (aCons (eC (.str "plus")) (aCons (eVar 2) (aCons (eVar 6) aNil))))) (sSet 3 (e2 dAdd (eVar 3) (eC (.int 2))))) sNil) (sSeq (sIf (tAnd' (tVal (e2 dEq (eVar 7) (eC (.int 3)))) (tVal (e2 dLt (e2 dAdd (eVar 3) (eC (.int 1))) (eVar 1)))) (sSeq (sSet 2 (eTup (aCons (eC (.str "plus")) (aCons (eVar 6) (aCons (eVar 2) aNil))))) (sSet 3 (e2 dAdd (eVar 3) (eC (.int 2))))) sNil) (sIf (tAnd' (tVal (e2 dGt (eVar 7) (eC (.int 3)))) (tVal (e2 dLt (e2 dAdd (eVar 3) (eC (.int 4))) (eVar 1)))) (sSeq (sSet 9 (eTup (aCons (eC (.str "plus")) (aCons (eVar 6) (aCons (eTup (aCons (eC (.str "times")) (aCons (e2 dMod (e2 dFdiv (eVar 5) (eC (.int 36))) (eC (.int 10))) (aCons (eVar 6) aNil)))) aNil))))) (sSeq (sSet 2 (e2 dIx (eLst (aCons (eTup (aCons (eC (.str "plus")) (aCons (eVar 2) (aCons (eVar 9) aNil)))) (aCons (eTup (aCons (eC (.str "plus")) (aCons (eVar 9) (aCons (eVar 2) aNil)))) aNil))) (e2 dSub (eVar 7) (eC (.int 4))))) (sSet 3 (e2 dAdd (eVar 3) (eC (.int 5)))))) sNil))))))))
def QbL:SD->Out Fl:=(sSeq (sSet 2 (eTup (aCons (eC (.str "name")) (aCons (eA (fun xs=>Qam (xs++[])) (aCons (eA (fun xs=>Q8 (xs++[])) (aCons (eA fLen (aCons (eVar 0) aNil)) (aCons (eC (.int 1)) aNil))) aNil)) aNil)))) (sSeq (sSet 3 (eC (.int 1))) (sSeq (sFor (gN 4) (itR1 (eA fLen (aCons (eVar 0) aNil))) QaK) (sRet (eVar 2)))))
def Qav:List D->Out D:=bodyF false 2 10 QbL
theorem Qhd(d0 d1:D):Qav [d0,d1]=(QbL [some (.k,d0),some (.k,d1),none,none,none,none,none,none,none,none]>>=retF false):=rfl
theorem Qhr(F:FunV K "_law_built" "_law_built" QcJ f fd dV)(QeJ:"e"^Qam "_law_name" 1 false)(Qeb:"e"^Q8 "_law_mixed" 1 false)(z_len:mg "len"=none)(z_range:mg "range"=none):"f"^2 ["_law_cells","_law_most"] false Qav:=
 (@fnV P w K mg base CT false _ _ _ f fd dV _ _ 1 QbL F Qu fun cdv A outer s H E G hr=>
  (Qd (Qw (i:=2) Qu.nd rfl (oi rfl) (Q6 (Qb Qh (Qb (de_f QeJ (Rm hr) (Qb (de_f Qeb (Rm hr) (Qb (Qan gr z_len (QA (DE.db (Qa 0)) QD)) (Qb Qc Qf)) gr) Qf) gr) Qf)))) (Qd (Qw (i:=3) Qu.nd rfl (oi rfl) Qc) (Qd (QcY PassesOwn.never rfl (Qfo gr z_range (DE.db (Qan gr z_len (QA (DE.db (Qa 0)) QD)))) (QcU (i:=4) Qu.nd rfl (oi rfl)) (Qcm _) (Qd (Qw (i:=5) Qu.nd rfl (oi rfl) (de_f Qeb (Rm hr) (Qb (de_ix (Qa 0) (DE.db (Qa 4))) (Qb (Qa 4) Qf)) gr)) (Qd (Qw (i:=6) Qu.nd rfl (oi rfl) (Q6 (Qb Qh (Qb (de_f QeJ (Rm hr) (Qb (QcO (DE.db (Qa 5)) (DE.db Qc)) Qf) gr) Qf)))) (Qd (Qw (i:=7) Qu.nd rfl (oi rfl) (Qa8 (DE.db (Qa 5)) (DE.db Qc))) (Qd (ds_if (DW.dt (Qbs (dt_eq hr.units (DE.db (Qa 7)) (DE.db Qc)) (Qa0 (dt_lt (DE.db (Qa 3)) (DE.db (Qa 1)))))) (Qd (Qw (i:=2) Qu.nd rfl (oi rfl) (Q6 (Qb Qh (Qb (Qa8 (DE.db (QcO (DE.db (Qa 5)) (DE.db Qc))) (DE.db Qc)) (Qb (Qa 2) Qf))))) (Qe (Qw (i:=3) Qu.nd rfl (oi rfl) (Qn (DE.db (Qa 3)) (DE.db Qc))))) Qm) (Qd (ds_if (DW.dt (Qbs (dt_eq hr.units (DE.db (Qa 7)) (DE.db Qc)) (Qa0 (dt_lt (DE.db (Qa 3)) (DE.db (Qa 1)))))) (Qd (Qw (i:=8) Qu.nd rfl (oi rfl) (Qn (DE.db Qc) (DE.db (Qa8 (DE.db (QcO (DE.db (Qa 5)) (DE.db Qc))) (DE.db Qc))))) (Qd (Qw (i:=2) Qu.nd rfl (oi rfl) (Q6 (Qb Qh (Qb (Qa 2) (Qb (Qa8 (DE.db (QcO (DE.db (Qa 5)) (DE.db Qc))) (DE.db (Qa 8))) (Qb (Qa 8) Qf)))))) (Qe (Qw (i:=3) Qu.nd rfl (oi rfl) (Qn (DE.db (Qa 3)) (DE.db Qc)))))) Qm) (Qd (ds_if (DW.dt (Qbs (dt_eq hr.units (DE.db (Qa 7)) (DE.db Qc)) (Qa0 (dt_lt (DE.db (Qn (DE.db (Qa 3)) (DE.db Qc))) (DE.db (Qa 1)))))) (Qd (Qw (i:=2) Qu.nd rfl (oi rfl) (Q6 (Qb Qh (Qb (Qa 2) (Qb (Qa 6) Qf))))) (Qe (Qw (i:=3) Qu.nd rfl (oi rfl) (Qn (DE.db (Qa 3)) (DE.db Qc))))) Qm) (Qd (ds_if (DW.dt (Qbs (dt_eq hr.units (DE.db (Qa 7)) (DE.db Qc)) (Qa0 (dt_lt (DE.db (Qn (DE.db (Qa 3)) (DE.db Qc))) (DE.db (Qa 1)))))) (Qd (Qw (i:=2) Qu.nd rfl (oi rfl) (Q6 (Qb Qh (Qb (Qa 6) (Qb (Qa 2) Qf))))) (Qe (Qw (i:=3) Qu.nd rfl (oi rfl) (Qn (DE.db (Qa 3)) (DE.db Qc))))) Qm) (Qe (ds_if (DW.dt (Qbs (dt_gt (DE.db (Qa 7)) (DE.db Qc)) (Qa0 (dt_lt (DE.db (Qn (DE.db (Qa 3)) (DE.db Qc))) (DE.db (Qa 1)))))) (Qd (Qw (i:=9) Qu.nd rfl (oi rfl) (Q6 (Qb Qh (Qb (Qa 6) (Qb (Q6 (Qb Qh (Qb (Qa8 (DE.db (QcO (DE.db (Qa 5)) (DE.db Qc))) (DE.db Qc)) (Qb (Qa 6) Qf)))) Qf))))) (Qd (Qw (i:=2) Qu.nd rfl (oi rfl) (de_ix (DF.de (Qcl (Qb (Q6 (Qb Qh (Qb (Qa 2) (Qb (Qa 9) Qf)))) (Qb (Q6 (Qb Qh (Qb (Qa 9) (Qb (Qa 2) Qf)))) Qf)))) (DE.db (QgC (DE.db (Qa 7)) (DE.db Qc))))) (Qe (Qw (i:=3) Qu.nd rfl (oi rfl) (Qn (DE.db (Qa 3)) (DE.db Qc)))))) Qm)))))))))) (Qe (Qp (Qa 2)))))) :)
abbrev QbI:Stmt:=top 35
theorem Qaz:QC ["_law_one","_law_inner"] ["_law_one"] (Qk QbI):=⟨rfl,rfl,rfl,dk,rfl,dk,dk⟩
def Qao(QL:List D->Out D):SD->Out Fl:=(sSeq (sIf (tVal (e2 dEq (e2 dIx (eVar 0) (eC (.int 0))) (eC (.str "name")))) (sRet (e2 dIx (eVar 0) (eC (.int 1)))) sNil) (sSeq (sIf (tVal (e2 dEq (e2 dIx (eVar 0) (eC (.int 0))) (eC (.str "times")))) (sSeq (sSet 1 (eA (fun xs=>QL (xs++[])) (aCons (e2 dIx (eVar 0) (eC (.int 2))) aNil))) (sSeq (sIf (tOr' (tVal (e2 dEq (e2 dIx (e2 dIx (eVar 0) (eC (.int 2))) (eC (.int 0))) (eC (.str "plus")))) (tVal (e2 dEq (e2 dIx (e2 dIx (eVar 0) (eC (.int 2))) (eC (.int 0))) (eC (.str "times"))))) (sSet 1 (e2 dAdd (e2 dAdd (eC (.str "(")) (eVar 1)) (eC (.str ")")))) sNil) (sRet (e2 dAdd (e2 dAdd (eA (f1 dStr) (aCons (e2 dIx (eVar 0) (eC (.int 1))) aNil)) (eC (.str " "))) (eVar 1))))) sNil) (sSeq (sIf (tVal (e2 dEq (e2 dIx (eVar 0) (eC (.int 0))) (eC (.str "plus")))) (sSeq (sSet 1 (eA (fun xs=>QL (xs++[])) (aCons (e2 dIx (eVar 0) (eC (.int 2))) aNil))) (sSeq (sIf (tVal (e2 dEq (e2 dIx (e2 dIx (eVar 0) (eC (.int 2))) (eC (.int 0))) (eC (.str "plus")))) (sSet 1 (e2 dAdd (e2 dAdd (eC (.str "(")) (eVar 1)) (eC (.str ")")))) sNil) (sRet (e2 dAdd (e2 dAdd (eA (fun xs=>QL (xs++[])) (aCons (e2 dIx (eVar 0) (eC (.int 1))) aNil)) (eC (.str " + "))) (eVar 1))))) sNil) (sRet (e2 dAdd (e2 dAdd (e2 dAdd (e2 dAdd (e2 dAdd (e2 dAdd (eC (.str "[")) (eA (fun xs=>QL (xs++[])) (aCons (e2 dIx (eVar 0) (eC (.int 1))) aNil))) (eC (.str " : "))) (eA (f1 dStr) (aCons (e2 dIx (eVar 0) (eC (.int 2))) aNil))) (eC (.str " / "))) (eA (f1 dStr) (aCons (e2 dIx (eVar 0) (eC (.int 3))) aNil))) (eC (.str "]")))))))
def Qaq(QL:List D->Out D):List D->Out D:=bodyF false 1 2 (Qao QL)
theorem QbO(QL:List D->Out D)(d0:D):Qaq QL [d0]=(Qao QL [some (.k,d0),none]>>=retF false):=rfl
theorem Qhf{n:Nat}{QL:List D->Out D}(F:FunV K "_law_shown" "_law_shown" QbI f fd dV)(hn:0<=n)(QaO:DefOk P w K mg base CT "_law_shown" n false [] QL)(z_str:mg "str"=none):FnOk P w K mg base CX0 (n+1) f fd ["_law_one"] (SpD K CT false (Qaq QL)):=
 @fnV P w K mg base CT false "_law_shown" "_law_shown" QbI f fd dV ["_law_one","_law_inner"] ["_law_one"] n (Qao QL) F Qaz fun cdv A outer s H E G hr=>
  (Qd (ds_if (dt_eq hr.units (DE.db (de_ix (Qa 0) (DE.db Qc))) (DE.db Qh)) (Qe (Qp (de_ix (Qa 0) (DE.db Qc)))) Qm) (Qd (ds_if (dt_eq hr.units (DE.db (de_ix (Qa 0) (DE.db Qc))) (DE.db Qh)) (Qd (Qw (i:=1) Qaz.nd rfl (oi rfl) (de_f QaO (hr.mono (by omega)) (Qb (de_ix (Qa 0) (DE.db Qc)) Qf) gr)) (Qd (ds_if (DW.dt (dw_or (dt_eq hr.units (DE.db (de_ix (de_ix (Qa 0) (DE.db Qc)) (DE.db Qc))) (DE.db Qh)) (Qa9 (dt_eq hr.units (DE.db (de_ix (de_ix (Qa 0) (DE.db Qc)) (DE.db Qc))) (DE.db Qh))))) (Qe (Qw (i:=1) Qaz.nd rfl (oi rfl) (Qn (DE.db (Qn (DE.db Qh) (DE.db (Qa 1)))) (DE.db Qh)))) Qm) (Qe (Qp (Qn (DE.db (Qn (DE.db (Qcf gr z_str (QA (DE.db (de_ix (Qa 0) (DE.db Qc))) QD))) (DE.db Qh))) (DE.db (Qa 1))))))) Qm) (Qd (ds_if (dt_eq hr.units (DE.db (de_ix (Qa 0) (DE.db Qc))) (DE.db Qh)) (Qd (Qw (i:=1) Qaz.nd rfl (oi rfl) (de_f QaO (hr.mono (by omega)) (Qb (de_ix (Qa 0) (DE.db Qc)) Qf) gr)) (Qd (ds_if (dt_eq hr.units (DE.db (de_ix (de_ix (Qa 0) (DE.db Qc)) (DE.db Qc))) (DE.db Qh)) (Qe (Qw (i:=1) Qaz.nd rfl (oi rfl) (Qn (DE.db (Qn (DE.db Qh) (DE.db (Qa 1)))) (DE.db Qh)))) Qm) (Qe (Qp (Qn (DE.db (Qn (DE.db (de_f QaO (hr.mono (by omega)) (Qb (de_ix (Qa 0) (DE.db Qc)) Qf) gr)) (DE.db Qh))) (DE.db (Qa 1))))))) Qm) (Qe (Qp (Qn (DE.db (Qn (DE.db (Qn (DE.db (Qn (DE.db (Qn (DE.db (Qn (DE.db Qh) (DE.db (de_f QaO (hr.mono (by omega)) (Qb (de_ix (Qa 0) (DE.db Qc)) Qf) gr)))) (DE.db Qh))) (DE.db (Qcf gr z_str (QA (DE.db (de_ix (Qa 0) (DE.db Qc))) QD))))) (DE.db Qh))) (DE.db (Qcf gr z_str (QA (DE.db (de_ix (Qa 0) (DE.db Qc))) QD))))) (DE.db Qh)))))))
def QaL:Nat->(List D->Out D)
 | 0=>(fun _=>.stuck)
 | n+1=>(Qaq (QaL n))
def QbD:List D->Out D:=(QaL 45)
theorem QbA(n:Nat):(QaL (n+1))=Qaq (QaL n):=rfl
abbrev QcA:Stmt:=top 25
theorem Q3:QC ["text","depth","place","at","sign"] ["text"] (Qk QcA):=⟨rfl,rfl,rfl,dk,rfl,dk,dk⟩
def Qaj:SD->Out Fl:=(sSeq (sIf (tVal (e2 dIn (eVar 4) (eC (.str "([")))) (sSet 1 (e2 dAdd (eVar 1) (eC (.int 1)))) sNil) (sSeq (sIf (tVal (e2 dIn (eVar 4) (eC (.str ")]")))) (sSet 1 (e2 dSub (eVar 1) (eC (.int 1)))) sNil) (sIf (tAnd' (tVal (e2 dEq (eVar 1) (eC (.int 0)))) (tVal (eSm fSts (eVar 0) (aCons (eC (.str " + ")) (aCons (eVar 3) aNil))))) (sSet 2 (eVar 3)) sNil)))
def QbQ:SD->Out Fl:=(sSeq (sSet 1 (eC (.int 0))) (sSeq (sSet 2 (e1 dNeg (eC (.int 1)))) (sSeq (sFor (gT [3,4]) (itES (eVar 0)) Qaj) (sRet (eVar 2)))))
def QO:List D->Out D:=bodyF false 1 5 QbQ
theorem Qhw(d0:D):QO [d0]=(QbQ [some (.k,d0),none,none,none,none]>>=retF false):=rfl
theorem QhB{u_PLUS:Value}(F:FunV K "last_plus" "last_plus" QcA f fd dV)(z_enumerate:mg "enumerate"=none)(c_PLUS:mg "PLUS"=some u_PLUS)(r_PLUS:RelV (toV (.str " + ")) u_PLUS):"f"^1 ["text"] false QO:=
 (@fnV P w K mg base CT false _ _ _ f fd dV _ _ 0 QbQ F Q3 fun cdv A outer s H E G hr=>
  (Qd (Qw (i:=1) Q3.nd rfl (oi rfl) Qc) (Qd (Qw (i:=2) Q3.nd rfl (oi rfl) (Qgy (DE.db Qc))) (Qd (QcY PassesOwn.never rfl (QkL gr z_enumerate (DE.db (Qa 0))) (Qka rfl (Qdi (i:=3) Q3.nd rfl (oi rfl) (Qdi (i:=4) Q3.nd rfl (oi rfl) QhX))) (Qf6 _) (Qd (ds_if (dt_in (DE.db (Qa 4)) (DE.db Qh)) (Qe (Qw (i:=1) Q3.nd rfl (oi rfl) (Qn (DE.db (Qa 1)) (DE.db Qc)))) Qm) (Qd (ds_if (dt_in (DE.db (Qa 4)) (DE.db Qh)) (Qe (Qw (i:=1) Q3.nd rfl (oi rfl) (QgC (DE.db (Qa 1)) (DE.db Qc)))) Qm) (Qe (ds_if (DW.dt (Qbs (dt_eq hr.units (DE.db (Qa 1)) (DE.db Qc)) (Qa0 (QQ (QlO (DE.db (Qa 0)) (Qag (d:=(.str " + ")) gr c_PLUS rfl r_PLUS) (Qa 3)))))) (Qe (Qw (i:=2) Q3.nd rfl (oi rfl) (Qa 3))) Qm))))) (Qe (Qp (Qa 2)))))) :)
abbrev QbX:Stmt:=top 26
theorem QeW:QC ["text"] ["text"] (Qk QbX):=⟨rfl,rfl,rfl,dk,rfl,dk,dk⟩
def Qbd:SD->Out Fl:=(sSeq (sIf (tAnd' (tVal (eSm fSts (eVar 0) (aCons (eC (.str "(")) aNil))) (tVal (eSm fEnds (eVar 0) (aCons (eC (.str ")")) aNil)))) (sRet (eSlS (eVar 0) (oSome (eC (.int 1))) (oSome (e1 dNeg (eC (.int 1)))))) sNil) (sRet (eVar 0)))
def QZ:List D->Out D:=bodyF false 1 1 Qbd
theorem QfA(d0:D):QZ [d0]=(Qbd [some (.k,d0)]>>=retF false):=rfl
theorem QfC(F:FunV K "unbracketed" "unbracketed" QbX f fd dV)  : "f"^1 ["text"] false QZ:=
 (@fnV P w K mg base CT false _ _ _ f fd dV _ _ 0 Qbd F QeW fun cdv A outer s H E G hr=>
  (Qd (ds_if (DW.dt (Qbs (QQ (Qju (DE.db (Qa 0)) Qh)) (Qa0 (QQ (QhK (DE.db (Qa 0)) Qh))))) (Qe (Qp (QcW (DE.db (Qa 0)) (Qae (DE.db Qc)) (Qae (DE.db (Qgy (DE.db Qc))))))) Qm) (Qe (Qp (Qa 0)))) :)
abbrev QbB:Stmt:=top 8
theorem Qgf:QC ["text","most"] ["text","most"] (Qk QbB):=⟨rfl,rfl,rfl,dk,rfl,dk,dk⟩
abbrev Qe5:PySem.Scope:={ kind:=PySem.ScopeKind.function,names:=[ (PySem.Str.ofString ".0",PySem.NameKind.local),(PySem.Str.ofString "sign",PySem.NameKind.local),(PySem.Str.ofString "FIGURES",PySem.NameKind.globalImplicit)],isGenerator:=false,isCoroutine:=false,more:=[]:PySem.Scope }
theorem Qdt:Qbb ["sign"] [none] Qe5 (Qk QbB) ["text","most"]:=⟨rfl,dk,dk,rfl,dk,dk⟩
def QfB:SD->Out D:=(e2 dIn (eVar 0) (eC (.str "0123456789")))
def Qd0:SD->Out Fl:=(sSeq (sIf (tOr' (tNot' (tVal (QaI dLe dLe (eC (.int 1)) (eA fLen (aCons (eVar 0) aNil)) (eVar 1)))) (tNot' (tVal (eA (f1 fAll) (aCons (eComp [none] (itS (eVar 0)) (gN 0) cTrue QfB) aNil))))) (sRet (eC (.bl false))) sNil) (sRet (eOr (e2 dEq (eVar 0) (eC (.str "0"))) (e2 dNe (e2 dIx (eVar 0) (eC (.int 0))) (eC (.str "0"))))))
def QV:List D->Out D:=bodyF false 2 2 Qd0
theorem Qg2{u_FIGURES:Value}(F:FunV K "is_number" "is_number" QbB f fd dV)(z_len:mg "len"=none)(z_all:mg "all"=none)(c_FIGURES:mg "FIGURES"=some u_FIGURES)(r_FIGURES:RelV (toV (.str "0123456789")) u_FIGURES):"f"^1 ["text","most"] false QV:=
 (@fnV P w K mg base CT false _ _ _ f fd dV _ _ 0 Qd0 F Qgf fun cdv A outer s H E G hr=>
  (Qd (ds_if (DW.dt (dw_or (Qaa (Qgw op_le QaN (Qar fun _ _=>rfl) op_le QaN (Qar fun _ _=>rfl) (DE.db Qc) (DE.db (Qan gr z_len (QA (DE.db (Qa 0)) QD))) (DE.db (Qa 1)))) (Qa9 (Qaa (QQ (QjR rfl gr z_all (QA (DE.db (DF.de (Qh3 rfl Qdt (DI.b (QjP (DE.db (Qa 0)))) (fun ς=>QfN (QeG rfl ς)) (Qcm _) (fun fp s H G p=>⟨(QcU (i:=0) Qdt.nd rfl (oi rfl) (hf:=Or.inr rfl)),QhU,(de_in (DE.db (Qa 0)) (DE.db (Qag (d:=(.str "0123456789")) gr c_FIGURES rfl r_FIGURES)))⟩)))) QD))))))) (Qe (Qp de_bl)) Qm) (Qe (Qp (de_or (de_eq hr.units (DE.db (Qa 0)) (DE.db Qh)) (Qch (de_ne hr.units (DE.db (de_ix (Qa 0) (DE.db Qc))) (DE.db Qh))))))) :)
abbrev Qbu:Stmt:=top 27
theorem Qbc:QC ["text","depth","halves","numbers"] ["text","depth"] (Qk Qbu):=⟨rfl,rfl,rfl,dk,rfl,dk,dk⟩
def Qbr(Qt Qq:List D->Out D):SD->Out Fl:=(sSeq (sSet 2 (eSm (fPart QbS) (eVar 0) (aCons (eC (.str " : ")) aNil))) (sSeq (sSet 3 (eSm (fPart partF) (e2 dIx (eVar 2) (eC (.int 2))) (aCons (eC (.str " / ")) aNil))) (sSeq (sIf (tOr' (tNot' (tVal (eA (fun xs=>QV (xs++[])) (aCons (e2 dIx (eVar 3) (eC (.int 0))) (aCons (eC (.int 2)) aNil))))) (tNot' (tVal (eA (fun xs=>QV (xs++[])) (aCons (e2 dIx (eVar 3) (eC (.int 2))) (aCons (eC (.int 2)) aNil)))))) QaH sNil) (sRet (eTup (aCons (eC (.str "share")) (aCons (eA (fun xs=>Qq (xs++[])) (aCons (e2 dIx (eVar 2) (eC (.int 0))) (aCons (eVar 1) aNil))) (aCons (eA (f1 dIntT) (aCons (e2 dIx (eVar 3) (eC (.int 0))) aNil)) (aCons (eA (f1 dIntT) (aCons (e2 dIx (eVar 3) (eC (.int 2))) aNil)) aNil)))))))))
def Q4(Qt Qq:List D->Out D):List D->Out D:=bodyF false 2 4 (Qbr Qt Qq)
theorem Qge(Qt Qq:List D->Out D)(d0 d1:D):Q4 Qt Qq [d0,d1]=(Qbr Qt Qq [some (.k,d0),some (.k,d1),none,none]>>=retF false):=rfl
theorem Qgg{u_MOST_FIGURES:Value}{n:Nat}{Qt Qq:List D->Out D}(F:FunV K "read_share" "read_share" Qbu f fd dV)(hn:1<=n)(QbF:"e"^QV "is_number" 1 false)(Qas:DefOk P w K mg base CT "read_part" n false [] Qq)(z_int:mg "int"=none)(c_MOST_FIGURES:mg "MOST_FIGURES"=some u_MOST_FIGURES)(r_MOST_FIGURES:RelV (toV (.int 2)) u_MOST_FIGURES):FnOk P w K mg base CX0 (n+1) f fd ["text","depth"] (SpD K CT false (Q4 Qt Qq)):=
 @fnV P w K mg base CT false "read_share" "read_share" Qbu f fd dV ["text","depth","halves","numbers"] ["text","depth"] n (Qbr Qt Qq) F Qbc fun cdv A outer s H E G hr=>
  (Qd (Qw (i:=2) Qbc.nd rfl (oi rfl) (Qlj (DE.db (Qa 0)) Qh)) (Qd (Qw (i:=3) Qbc.nd rfl (oi rfl) (QlE (DE.db (de_ix (Qa 2) (DE.db Qc))) Qh)) (Qd (ds_if (DW.dt (dw_or (Qaa (QQ (de_f QbF (hr.mono (by omega)) (Qb (de_ix (Qa 3) (DE.db Qc)) (Qb (Qag (d:=(.int 2)) gr c_MOST_FIGURES rfl r_MOST_FIGURES) Qf)) gr))) (Qa9 (Qaa (QQ (de_f QbF (hr.mono (by omega)) (Qb (de_ix (Qa 3) (DE.db Qc)) (Qb (Qag (d:=(.int 2)) gr c_MOST_FIGURES rfl r_MOST_FIGURES) Qf)) gr)))))) (Qe Qc8) Qm) (Qe (Qp (Q6 (Qb Qh (Qb (de_f Qas (hr.mono (by omega)) (Qb (de_ix (Qa 2) (DE.db Qc)) (Qb (Qa 1) Qf)) gr) (Qb (QeZ gr z_int (QA (DE.db (de_ix (Qa 3) (DE.db Qc))) QD)) (Qb (QeZ gr z_int (QA (DE.db (de_ix (Qa 3) (DE.db Qc))) QD)) Qf))))))))))
abbrev QbH:Stmt:=top 28
theorem Qbo:QC ["text","depth","place","right"] ["text","depth"] (Qk QbH):=⟨rfl,rfl,rfl,dk,rfl,dk,dk⟩
def Qap(Qt Qq:List D->Out D):SD->Out Fl:=(sSeq (sIf (tVal (e2 dGt (eVar 1) (eC (.int 40)))) QaH sNil) (sSeq (sSet 2 (eA (fun xs=>QO (xs++[])) (aCons (eVar 0) aNil))) (sSeq (sIf (tVal (e2 dGe (eVar 2) (eC (.int 0)))) (sSeq (sSet 3 (eA (fun xs=>QZ (xs++[])) (aCons (eSlS (eVar 0) (oSome (e2 dAdd (eVar 2) (eA fLen (aCons (eC (.str " + ")) aNil)))) oNo) aNil))) (sRet (eTup (aCons (eC (.str "plus")) (aCons (eA (fun xs=>Qq (xs++[])) (aCons (eSlS (eVar 0) oNo (oSome (eVar 2))) (aCons (e2 dAdd (eVar 1) (eC (.int 1))) aNil))) (aCons (eA (fun xs=>Qq (xs++[])) (aCons (eVar 3) (aCons (e2 dAdd (eVar 1) (eC (.int 1))) aNil))) aNil)))))) sNil) (sSeq (sIf (tAnd' (tVal (e2 dEq (eSlS (eVar 0) (oSome (eC (.int 1))) (oSome (eC (.int 2)))) (eC (.str " ")))) (tVal (eA (fun xs=>QV (xs++[])) (aCons (e2 dIx (eVar 0) (eC (.int 0))) (aCons (eC (.int 1)) aNil))))) (sRet (eTup (aCons (eC (.str "times")) (aCons (eA (f1 dIntT) (aCons (e2 dIx (eVar 0) (eC (.int 0))) aNil)) (aCons (eA (fun xs=>Qq (xs++[])) (aCons (eA (fun xs=>QZ (xs++[])) (aCons (eSlS (eVar 0) (oSome (eC (.int 2))) oNo) aNil)) (aCons (e2 dAdd (eVar 1) (eC (.int 1))) aNil))) aNil))))) sNil) (sSeq (sIf (tAnd' (tVal (eSm fSts (eVar 0) (aCons (eC (.str "[")) aNil))) (tVal (eSm fEnds (eVar 0) (aCons (eC (.str "]")) aNil)))) (sRet (eA (fun xs=>Qt (xs++[])) (aCons (eSlS (eVar 0) (oSome (eC (.int 1))) (oSome (e1 dNeg (eC (.int 1))))) (aCons (e2 dAdd (eVar 1) (eC (.int 1))) aNil)))) sNil) (sRet (eTup (aCons (eC (.str "name")) (aCons (eVar 0) aNil)))))))))
def Qau(Qt Qq:List D->Out D):List D->Out D:=bodyF false 2 4 (Qap Qt Qq)
theorem QbN(Qt Qq:List D->Out D)(d0 d1:D):Qau Qt Qq [d0,d1]=(Qap Qt Qq [some (.k,d0),some (.k,d1),none,none]>>=retF false):=rfl
theorem Qhq{u_MOST_PARTS:Value}{u_PLUS:Value}{n:Nat}{Qt Qq:List D->Out D}(F:FunV K "read_part" "read_part" QbH f fd dV)(hn:1<=n)(Qht:"e"^QO "last_plus" 1 false)(Qdu:"e"^QZ "unbracketed" 1 false)(Qas:DefOk P w K mg base CT "read_part" n false [] Qq)(QbF:"e"^QV "is_number" 1 false)(Qgh:DefOk P w K mg base CT "read_share" n false [] Qt)(z_len:mg "len"=none)(z_int:mg "int"=none)(c_MOST_PARTS:mg "MOST_PARTS"=some u_MOST_PARTS)(r_MOST_PARTS:RelV (toV (.int 40)) u_MOST_PARTS)(c_PLUS:mg "PLUS"=some u_PLUS)(r_PLUS:RelV (toV (.str " + ")) u_PLUS):FnOk P w K mg base CX0 (n+1) f fd ["text","depth"] (SpD K CT false (Qau Qt Qq)):=
 @fnV P w K mg base CT false "read_part" "read_part" QbH f fd dV ["text","depth","place","right"] ["text","depth"] n (Qap Qt Qq) F Qbo fun cdv A outer s H E G hr=>
  (Qd (ds_if (dt_gt (DE.db (Qa 1)) (DE.db (Qag (d:=(.int 40)) gr c_MOST_PARTS rfl r_MOST_PARTS))) (Qe Qc8) Qm) (Qd (Qw (i:=2) Qbo.nd rfl (oi rfl) (de_f Qht (hr.mono (by omega)) (Qb (Qa 0) Qf) gr)) (Qd (ds_if (dt_ge (DE.db (Qa 2)) (DE.db Qc)) (Qd (Qw (i:=3) Qbo.nd rfl (oi rfl) (de_f Qdu (hr.mono (by omega)) (Qb (QcW (DE.db (Qa 0)) (Qae (DE.db (Qn (DE.db (Qa 2)) (DE.db (Qan gr z_len (QA (DE.db (Qag (d:=(.str " + ")) gr c_PLUS rfl r_PLUS)) QD)))))) Qcd) Qf) gr)) (Qe (Qp (Q6 (Qb Qh (Qb (de_f Qas (hr.mono (by omega)) (Qb (QcW (DE.db (Qa 0)) Qcd (Qae (DE.db (Qa 2)))) (Qb (Qn (DE.db (Qa 1)) (DE.db Qc)) Qf)) gr) (Qb (de_f Qas (hr.mono (by omega)) (Qb (Qa 3) (Qb (Qn (DE.db (Qa 1)) (DE.db Qc)) Qf)) gr) Qf))))))) Qm) (Qd (ds_if (DW.dt (Qbs (dt_eq hr.units (DE.db (QcW (DE.db (Qa 0)) (Qae (DE.db Qc)) (Qae (DE.db Qc)))) (DE.db Qh)) (Qa0 (QQ (de_f QbF (hr.mono (by omega)) (Qb (de_ix (Qa 0) (DE.db Qc)) (Qb Qc Qf)) gr))))) (Qe (Qp (Q6 (Qb Qh (Qb (QeZ gr z_int (QA (DE.db (de_ix (Qa 0) (DE.db Qc))) QD)) (Qb (de_f Qas (hr.mono (by omega)) (Qb (de_f Qdu (hr.mono (by omega)) (Qb (QcW (DE.db (Qa 0)) (Qae (DE.db Qc)) Qcd) Qf) gr) (Qb (Qn (DE.db (Qa 1)) (DE.db Qc)) Qf)) gr) Qf)))))) Qm) (Qd (ds_if (DW.dt (Qbs (QQ (Qju (DE.db (Qa 0)) Qh)) (Qa0 (QQ (QhK (DE.db (Qa 0)) Qh))))) (Qe (Qp (de_f Qgh (hr.mono (by omega)) (Qb (QcW (DE.db (Qa 0)) (Qae (DE.db Qc)) (Qae (DE.db (Qgy (DE.db Qc))))) (Qb (Qn (DE.db (Qa 1)) (DE.db Qc)) Qf)) gr))) Qm) (Qe (Qp (Q6 (Qb Qh (Qb (Qa 0) Qf))))))))))
def Qv:Nat->(List D->Out D)×(List D->Out D)
 | 0=>(fun _=>.stuck,fun _=>.stuck)
 | n+1=>(Q4 (Qv n).1 (Qv n).2,Qau (Qv n).1 (Qv n).2)
def Qf0:List D->Out D:=(Qv 90).1
theorem Qgn(n:Nat):(Qv (n+1)).1=Q4 (Qv n).1 (Qv n).2:=rfl
def QbJ:List D->Out D:=(Qv 90).2
theorem QbG(n:Nat):(Qv (n+1)).2=Qau (Qv n).1 (Qv n).2:=rfl
abbrev Qdv:Stmt:=top 20
theorem Qic:QC ["one"] ["one"] (Qk Qdv):=⟨rfl,rfl,rfl,dk,rfl,dk,dk⟩
def QaP:SD->Out Fl:=(sSeq (sIf (tVal (e2 dEq (e2 dIx (eVar 0) (eC (.int 0))) (eC (.str "times")))) (sRetF (eLst (aCons (e2 dIx (eVar 0) (eC (.int 2))) aNil))) sNil) (sSeq (sIf (tVal (e2 dEq (e2 dIx (eVar 0) (eC (.int 0))) (eC (.str "plus")))) (sRetF (eLst (aCons (e2 dIx (eVar 0) (eC (.int 1))) (aCons (e2 dIx (eVar 0) (eC (.int 2))) aNil)))) sNil) (sSeq (sIf (tVal (e2 dEq (e2 dIx (eVar 0) (eC (.int 0))) (eC (.str "share")))) (sRetF (eLst (aCons (e2 dIx (eVar 0) (eC (.int 1))) aNil))) sNil) (sRetF (eLst aNil)))))
def QP:List D->Out D:=bodyF true 1 1 QaP
theorem Qct(d0:D):QP [d0]=(QaP [some (.k,d0)]>>=retF true):=rfl
theorem QjC(F:FunV K "sums_in" "sums_in" Qdv f fd dV)  : "f"^1 ["one"] true QP:=
 (@fnV P w K mg base CT true _ _ _ f fd dV _ _ 0 QaP F Qic fun cdv A outer s H E G hr=>
  (Qd (ds_if (dt_eq hr.units (DE.db (de_ix (Qa 0) (DE.db Qc))) (DE.db Qh)) (Qe (QdY (Qcl (Qb (de_ix (Qa 0) (DE.db Qc)) Qf)))) Qm) (Qd (ds_if (dt_eq hr.units (DE.db (de_ix (Qa 0) (DE.db Qc))) (DE.db Qh)) (Qe (QdY (Qcl (Qb (de_ix (Qa 0) (DE.db Qc)) (Qb (de_ix (Qa 0) (DE.db Qc)) Qf))))) Qm) (Qd (ds_if (dt_eq hr.units (DE.db (de_ix (Qa 0) (DE.db Qc))) (DE.db Qh)) (Qe (QdY (Qcl (Qb (de_ix (Qa 0) (DE.db Qc)) Qf)))) Qm) (Qe (QdY (Qcl Qf)))))) :)
abbrev Qcw:Stmt:=top 12
theorem QiC:QC ["thing"] ["thing"] (Qk Qcw):=⟨rfl,rfl,rfl,dk,rfl,dk,dk⟩
abbrev Qgm:PySem.Scope:={ kind:=PySem.ScopeKind.function,names:=[ (PySem.Str.ofString ".0",PySem.NameKind.local),(PySem.Str.ofString "sign",PySem.NameKind.local),(PySem.Str.ofString "LETTERS",PySem.NameKind.globalImplicit)],isGenerator:=false,isCoroutine:=false,more:=[]:PySem.Scope }
theorem Qd9:Qbb ["sign"] [none] Qgm (Qk Qcw) ["thing"]:=⟨rfl,dk,dk,rfl,dk,dk⟩
def QcK:SD->Out D:=(e2 dIn (eVar 0) (eC (.str "abcdefghijklmnopqrstuvwxyz")))
def Qcv:SD->Out Fl:=(sSeq (sIf (tOr' (tNot' (tVal (eIsa (isaT "str") (eVar 0)))) (tNot' (tVal (QaI dLe dLe (eC (.int 1)) (eA fLen (aCons (eVar 0) aNil)) (eC (.int 6)))))) (sRet (eC (.bl false))) sNil) (sRet (eA (f1 fAll) (aCons (eComp [none] (itS (eVar 0)) (gN 0) cTrue QcK) aNil))))
def QaA:List D->Out D:=bodyF false 1 1 Qcv
theorem QkD(d0:D):QaA [d0]=(Qcv [some (.k,d0)]>>=retF false):=rfl
theorem QkB{u_MOST_SIGNS:Value}{u_LETTERS:Value}(F:FunV K "is_name" "is_name" Qcw f fd dV)(z_isinstance:mg "isinstance"=none)(z_str:mg "str"=none)(z_len:mg "len"=none)(z_all:mg "all"=none)(c_MOST_SIGNS:mg "MOST_SIGNS"=some u_MOST_SIGNS)(r_MOST_SIGNS:RelV (toV (.int 6)) u_MOST_SIGNS)(c_LETTERS:mg "LETTERS"=some u_LETTERS)(r_LETTERS:RelV (toV (.str "abcdefghijklmnopqrstuvwxyz")) u_LETTERS):"f"^1 ["thing"] false QaA:=
 (@fnV P w K mg base CT false _ _ _ f fd dV _ _ 0 Qcv F QiC fun cdv A outer s H E G hr=>
  (Qd (ds_if (DW.dt (dw_or (Qaa (QQ (Qaw "str" Qe6 gr z_str PyProof.Rows.Boot.«str» gr z_isinstance (DE.db (Qa 0))))) (Qa9 (Qaa (Qgw op_le QaN (Qar fun _ _=>rfl) op_le QaN (Qar fun _ _=>rfl) (DE.db Qc) (DE.db (Qan gr z_len (QA (DE.db (Qa 0)) QD))) (DE.db (Qag (d:=(.int 6)) gr c_MOST_SIGNS rfl r_MOST_SIGNS))))))) (Qe (Qp de_bl)) Qm) (Qe (Qp (QjR rfl gr z_all (QA (DE.db (DF.de (Qh3 rfl Qd9 (DI.b (QjP (DE.db (Qa 0)))) (fun ς=>QfN (QeG rfl ς)) (Qcm _) (fun fp s H G p=>⟨(QcU (i:=0) Qd9.nd rfl (oi rfl) (hf:=Or.inr rfl)),QhU,(de_in (DE.db (Qa 0)) (DE.db (Qag (d:=(.str "abcdefghijklmnopqrstuvwxyz")) gr c_LETTERS rfl r_LETTERS)))⟩)))) QD))))) :)
abbrev Qdm:Stmt:=top 4
theorem QhG:QC ["thing"] ["thing"] (Qk Qdm):=⟨rfl,rfl,rfl,dk,rfl,dk,dk⟩
def Qde:SD->Out Fl:=(sRet (eAnd (eIsa (isaT "int") (eVar 0)) (eNot (eIsa (isaT "bool") (eVar 0)))))
def QaF:List D->Out D:=bodyF false 1 1 Qde
theorem Qjd(d0:D):QaF [d0]=(Qde [some (.k,d0)]>>=retF false):=rfl
theorem Qix(F:FunV K "is_whole" "is_whole" Qdm f fd dV)(z_isinstance:mg "isinstance"=none)(z_int:mg "int"=none)(z_bool:mg "bool"=none):"f"^1 ["thing"] false QaF:=
 (@fnV P w K mg base CT false _ _ _ f fd dV _ _ 0 Qde F QhG fun cdv A outer s H E G hr=>
  (Qe (Qp (Qcj (Qaw "int" QeQ gr z_int PyProof.Rows.Boot.«int» gr z_isinstance (DE.db (Qa 0))) (Qch (QkC (Qaw "bool" Qf2 gr z_bool PyProof.Rows.Boot.«bool» gr z_isinstance (DE.db (Qa 0)))))))) :)
abbrev QcF:Stmt:=top 5
theorem QfT:QC ["thing","least","most"] ["thing","least","most"] (Qk QcF):=⟨rfl,rfl,rfl,dk,rfl,dk,dk⟩
def QbE:SD->Out Fl:=(sRet (eAnd (eA (fun xs=>QaF (xs++[])) (aCons (eVar 0) aNil)) (QaI dLe dLe (eVar 1) (eVar 0) (eVar 2))))
def QN:List D->Out D:=bodyF false 3 3 QbE
theorem QgO(d0 d1 d2:D):QN [d0,d1,d2]=(QbE [some (.k,d0),some (.k,d1),some (.k,d2)]>>=retF false):=rfl
theorem QgS(F:FunV K "is_within" "is_within" QcF f fd dV)(Qiv:"e"^QaF "is_whole" 1 false):"f"^2 ["thing","least","most"] false QN:=
 (@fnV P w K mg base CT false _ _ _ f fd dV _ _ 1 QbE F QfT fun cdv A outer s H E G hr=>
  (Qe (Qp (Qcj (de_f Qiv (Rm hr) (Qb (Qa 0) Qf) gr) (Qch (Qk7 op_le QaN (Qar fun _ _=>rfl) op_le QaN (Qar fun _ _=>rfl) (DE.db (Qa 1)) (DE.db (Qa 0)) (DE.db (Qa 2))))))) :)
abbrev Qdd:Stmt:=top 19
theorem Qhe:QC ["thing"] ["thing"] (Qk Qdd):=⟨rfl,rfl,rfl,dk,rfl,dk,dk⟩
def QaE:SD->Out Fl:=(sSeq (sIf (tOr' (tNot' (tVal (eIsa (isaT "tuple") (eVar 0)))) (tOr' (tVal (e2 dLt (eA fLen (aCons (eVar 0) aNil)) (eC (.int 2)))) (tNot' (tVal (eIsa (isaT "str") (e2 dIx (eVar 0) (eC (.int 0)))))))) (sRet (eC (.bl false))) sNil) (sSeq (sIf (tVal (e2 dEq (e2 dIx (eVar 0) (eC (.int 0))) (eC (.str "name")))) (sRet (eAnd (e2 dEq (eA fLen (aCons (eVar 0) aNil)) (eC (.int 2))) (eA (fun xs=>QaA (xs++[])) (aCons (e2 dIx (eVar 0) (eC (.int 1))) aNil)))) sNil) (sSeq (sIf (tVal (e2 dEq (e2 dIx (eVar 0) (eC (.int 0))) (eC (.str "times")))) (sRet (eAnd (e2 dEq (eA fLen (aCons (eVar 0) aNil)) (eC (.int 3))) (eA (fun xs=>QN (xs++[])) (aCons (e2 dIx (eVar 0) (eC (.int 1))) (aCons (eC (.int 0)) (aCons (eC (.int 9)) aNil)))))) sNil) (sSeq (sIf (tVal (e2 dEq (e2 dIx (eVar 0) (eC (.int 0))) (eC (.str "plus")))) (sRet (e2 dEq (eA fLen (aCons (eVar 0) aNil)) (eC (.int 3)))) sNil) (sSeq (sIf (tVal (e2 dEq (e2 dIx (eVar 0) (eC (.int 0))) (eC (.str "share")))) (sRet (eAnd (e2 dEq (eA fLen (aCons (eVar 0) aNil)) (eC (.int 4))) (eAnd (eA (fun xs=>QN (xs++[])) (aCons (e2 dIx (eVar 0) (eC (.int 3))) (aCons (eC (.int 1)) (aCons (eC (.int 12)) aNil)))) (eA (fun xs=>QN (xs++[])) (aCons (e2 dIx (eVar 0) (eC (.int 2))) (aCons (eC (.int 0)) (aCons (e2 dSub (e2 dIx (eVar 0) (eC (.int 3))) (eC (.int 1))) aNil))))))) sNil) (sRet (eC (.bl false))))))))
def QR:List D->Out D:=bodyF false 1 1 QaE
theorem Qb7(d0:D):QR [d0]=(QaE [some (.k,d0)]>>=retF false):=rfl
theorem QiJ{u_MOST_TIMES:Value}{u_MOST_BOTTOM:Value}(F:FunV K "has_form" "has_form" Qdd f fd dV)(Qkh:"e"^QaA "is_name" 1 false)(QcB:"e"^QN "is_within" 2 false)(z_isinstance:mg "isinstance"=none)(z_tuple:mg "tuple"=none)(z_len:mg "len"=none)(z_str:mg "str"=none)(c_MOST_TIMES:mg "MOST_TIMES"=some u_MOST_TIMES)(r_MOST_TIMES:RelV (toV (.int 9)) u_MOST_TIMES)(c_MOST_BOTTOM:mg "MOST_BOTTOM"=some u_MOST_BOTTOM)(r_MOST_BOTTOM:RelV (toV (.int 12)) u_MOST_BOTTOM):"f"^3 ["thing"] false QR:=
 (@fnV P w K mg base CT false _ _ _ f fd dV _ _ 2 QaE F Qhe fun cdv A outer s H E G hr=>
  (Qd (ds_if (DW.dt (dw_or (Qaa (QQ (Qaw "tuple" QdB gr z_tuple PyProof.Rows.Boot.«tuple» gr z_isinstance (DE.db (Qa 0))))) (dw_or (dt_lt (DE.db (Qan gr z_len (QA (DE.db (Qa 0)) QD))) (DE.db Qc)) (Qa9 (Qaa (QQ (Qaw "str" Qe6 gr z_str PyProof.Rows.Boot.«str» gr z_isinstance (DE.db (de_ix (Qa 0) (DE.db Qc)))))))))) (Qe (Qp de_bl)) Qm) (Qd (ds_if (dt_eq hr.units (DE.db (de_ix (Qa 0) (DE.db Qc))) (DE.db Qh)) (Qe (Qp (Qcj (de_eq hr.units (DE.db (Qan gr z_len (QA (DE.db (Qa 0)) QD))) (DE.db Qc)) (Qch (de_f Qkh (Rm hr) (Qb (de_ix (Qa 0) (DE.db Qc)) Qf) gr))))) Qm) (Qd (ds_if (dt_eq hr.units (DE.db (de_ix (Qa 0) (DE.db Qc))) (DE.db Qh)) (Qe (Qp (Qcj (de_eq hr.units (DE.db (Qan gr z_len (QA (DE.db (Qa 0)) QD))) (DE.db Qc)) (Qch (de_f QcB (Rm hr) (Qb (de_ix (Qa 0) (DE.db Qc)) (Qb Qc (Qb (Qag (d:=(.int 9)) gr c_MOST_TIMES rfl r_MOST_TIMES) Qf))) gr))))) Qm) (Qd (ds_if (dt_eq hr.units (DE.db (de_ix (Qa 0) (DE.db Qc))) (DE.db Qh)) (Qe (Qp (de_eq hr.units (DE.db (Qan gr z_len (QA (DE.db (Qa 0)) QD))) (DE.db Qc)))) Qm) (Qd (ds_if (dt_eq hr.units (DE.db (de_ix (Qa 0) (DE.db Qc))) (DE.db Qh)) (Qe (Qp (Qcj (de_eq hr.units (DE.db (Qan gr z_len (QA (DE.db (Qa 0)) QD))) (DE.db Qc)) (Qcj (de_f QcB (Rm hr) (Qb (de_ix (Qa 0) (DE.db Qc)) (Qb Qc (Qb (Qag (d:=(.int 12)) gr c_MOST_BOTTOM rfl r_MOST_BOTTOM) Qf))) gr) (Qch (de_f QcB (Rm hr) (Qb (de_ix (Qa 0) (DE.db Qc)) (Qb Qc (Qb (QgC (DE.db (de_ix (Qa 0) (DE.db Qc))) (DE.db Qc)) Qf))) gr)))))) Qm) (Qe (Qp de_bl))))))) :)
abbrev Qdn:Stmt:=top 21
theorem QbP:QC ["thing","parts","seen"] ["thing"] (Qk Qdn):=⟨rfl,rfl,rfl,dk,rfl,dk,dk⟩
def QX:SD->Out Bool:=(tVal (e2 dLt (eVar 2) (eA fLen (aCons (eVarB 1) aNil))))
def Q9:SD->Out Fl:=(sSeq (sIf (tOr' (tVal (e2 dGt (eA fLen (aCons (eVarB 1) aNil)) (eC (.int 40)))) (tNot' (tVal (eA (fun xs=>QR (xs++[])) (aCons (eIxO 1 (eVar 2)) aNil))))) (sRet (eC .non)) sNil) (sSeq (QdU 1 (fun ς=>Qbm ((eA (fun xs=>QP (xs++[])) (aCons (eIxO 1 (eVar 2)) aNil)) ς))) (sSet 2 (e2 dAdd (eVar 2) (eC (.int 1))))))
def Qca:SD->Out Fl:=(sSeq (sSetO 1 (eLst (aCons (eVar 0) aNil))) (sSeq (sSet 2 (eC (.int 0))) (sSeq (QcQ QX Q9) (sRetO 1))))
def QaC:List D->Out D:=bodyF true 1 3 Qca
theorem QiI(d0:D):QaC [d0]=(Qca [some (.k,d0),none,none]>>=retF true):=rfl
theorem QiW{u_MOST_PARTS:Value}(F:FunV K "parts_of" "parts_of" Qdn f fd dV)(QiF:"e"^QR "has_form" 3 false)(Qky:"e"^QP "sums_in" 1 true)(z_len:mg "len"=none)(c_MOST_PARTS:mg "MOST_PARTS"=some u_MOST_PARTS)(r_MOST_PARTS:RelV (toV (.int 40)) u_MOST_PARTS):"f"^4 ["thing"] true QaC:=
 (@fnV P w K mg base CT true _ _ _ f fd dV _ _ 3 Qca F QbP fun cdv A outer s H E G hr=>
  (Qd (Qlu (i:=1) QbP.nd rfl (oi rfl) (Qcl (Qb (Qa 0) Qf))) (Qd (Qw (i:=2) QbP.nd rfl (oi rfl) Qc) (Qd (QjT PassesOwn.never (dt_lt (DE.db (Qa 2)) (DE.db (Qan gr z_len (QA (Qkv 1) QD)))) (Qd (ds_if (DW.dt (dw_or (dt_gt (DE.db (Qan gr z_len (QA (Qkv 1) QD))) (DE.db (Qag (d:=(.int 40)) gr c_MOST_PARTS rfl r_MOST_PARTS))) (Qa9 (Qaa (QQ (de_f QiF (Rm hr) (Qb (Qkm 1 (DE.db (Qa 2)) rfl (oi rfl)) Qf) gr)))))) (Qe (Qp QjB)) Qm) (Qd (Qjj 1 (df_f Qky (Rm hr) (Qb (Qkm 1 (DE.db (Qa 2)) rfl (oi rfl)) Qf) gr) rfl (oi rfl)) (Qe (Qw (i:=2) QbP.nd rfl (oi rfl) (Qn (DE.db (Qa 2)) (DE.db Qc))))))) (Qe (Ql5 1 rfl (oi rfl)))))) :)
abbrev Qem:Stmt:=top 22
theorem QjU:QC ["thing"] ["thing"] (Qk Qem):=⟨rfl,rfl,rfl,dk,rfl,dk,dk⟩
def Qdp:SD->Out Fl:=(sRet (e2 Qer (eA (fun xs=>QaC (xs++[])) (aCons (eVar 0) aNil)) (eC .non)))
def QaU:List D->Out D:=bodyF false 1 1 Qdp
theorem QkN(d0:D):QaU [d0]=(Qdp [some (.k,d0)]>>=retF false):=rfl
theorem QkR(F:FunV K "is_sum" "is_sum" Qem f fd dV)(QiO:"e"^QaC "parts_of" 4 true):"f"^5 ["thing"] false QaU:=
 (@fnV P w K mg base CT false _ _ _ f fd dV _ _ 4 Qdp F QjU fun cdv A outer s H E G hr=>
  (Qe (Qp (QkO (DE.db (de_f QiO (Rm hr) (Qb (Qa 0) Qf) gr)) (DE.db QjB)))) :)
abbrev Qa4:Stmt:=top 23
theorem Qcs:QC ["one","bracketed"] ["one","bracketed"] (Qk Qa4):=⟨rfl,rfl,rfl,dk,rfl,dk,dk⟩
def QaY(Ql QI:List D->Out D):SD->Out Fl:=(sSeq (sIf (tVal (e2 dInT (e2 dIx (eVar 0) (eC (.int 0))) (eVar 1))) (sRet (e2 dAdd (e2 dAdd (eC (.str "(")) (eA (fun xs=>QI (xs++[])) (aCons (eVar 0) aNil))) (eC (.str ")")))) sNil) (sRet (eA (fun xs=>QI (xs++[])) (aCons (eVar 0) aNil))))
def QT(Ql QI:List D->Out D):List D->Out D:=bodyF false 2 2 (QaY Ql QI)
theorem QeV(Ql QI:List D->Out D)(d0 d1:D):QT Ql QI [d0,d1]=(QaY Ql QI [some (.k,d0),some (.k,d1)]>>=retF false):=rfl
theorem QeX{n:Nat}{Ql QI:List D->Out D}(F:FunV K "shown_within" "shown_within" Qa4 f fd dV)(hn:0<=n)(Qa1:DefOk P w K mg base CT "shown" n false [] QI):FnOk P w K mg base CX0 (n+1) f fd ["one","bracketed"] (SpD K CT false (QT Ql QI)):=
 @fnV P w K mg base CT false "shown_within" "shown_within" Qa4 f fd dV ["one","bracketed"] ["one","bracketed"] n (QaY Ql QI) F Qcs fun cdv A outer s H E G hr=>
  (Qd (ds_if (QmM (DE.db (de_ix (Qa 0) (DE.db Qc))) (DE.db (Qa 1))) (Qe (Qp (Qn (DE.db (Qn (DE.db Qh) (DE.db (de_f Qa1 (hr.mono (by omega)) (Qb (Qa 0) Qf) gr)))) (DE.db Qh)))) Qm) (Qe (Qp (de_f Qa1 (hr.mono (by omega)) (Qb (Qa 0) Qf) gr))))
abbrev QdS:Stmt:=top 24
theorem QgB:QC ["one"] ["one"] (Qk QdS):=⟨rfl,rfl,rfl,dk,rfl,dk,dk⟩
def Qbv(Ql QI:List D->Out D):SD->Out Fl:=(sSeq (sIf (tVal (e2 dEq (e2 dIx (eVar 0) (eC (.int 0))) (eC (.str "name")))) (sRet (e2 dIx (eVar 0) (eC (.int 1)))) sNil) (sSeq (sIf (tVal (e2 dEq (e2 dIx (eVar 0) (eC (.int 0))) (eC (.str "times")))) (sRet (e2 dAdd (e2 dAdd (eA (f1 dStr) (aCons (e2 dIx (eVar 0) (eC (.int 1))) aNil)) (eC (.str " "))) (eA (fun xs=>Ql (xs++[])) (aCons (e2 dIx (eVar 0) (eC (.int 2))) (aCons (eTup (aCons (eC (.str "times")) (aCons (eC (.str "plus")) aNil))) aNil))))) sNil) (sSeq (sIf (tVal (e2 dEq (e2 dIx (eVar 0) (eC (.int 0))) (eC (.str "plus")))) (sRet (e2 dAdd (e2 dAdd (eA (fun xs=>QI (xs++[])) (aCons (e2 dIx (eVar 0) (eC (.int 1))) aNil)) (eC (.str " + "))) (eA (fun xs=>Ql (xs++[])) (aCons (e2 dIx (eVar 0) (eC (.int 2))) (aCons (eTup (aCons (eC (.str "plus")) aNil)) aNil))))) sNil) (sRet (e2 dAdd (e2 dAdd (e2 dAdd (e2 dAdd (e2 dAdd (e2 dAdd (eC (.str "[")) (eA (fun xs=>QI (xs++[])) (aCons (e2 dIx (eVar 0) (eC (.int 1))) aNil))) (eC (.str " : "))) (eA (f1 dStr) (aCons (e2 dIx (eVar 0) (eC (.int 2))) aNil))) (eC (.str " / "))) (eA (f1 dStr) (aCons (e2 dIx (eVar 0) (eC (.int 3))) aNil))) (eC (.str "]")))))))
def Qbw(Ql QI:List D->Out D):List D->Out D:=bodyF false 1 1 (Qbv Ql QI)
theorem QdR(Ql QI:List D->Out D)(d0:D):Qbw Ql QI [d0]=(Qbv Ql QI [some (.k,d0)]>>=retF false):=rfl
theorem Ql4{u_PLUS:Value}{n:Nat}{Ql QI:List D->Out D}(F:FunV K "shown" "shown" QdS f fd dV)(hn:0<=n)(QcT:DefOk P w K mg base CT "shown_within" n false [] Ql)(Qa1:DefOk P w K mg base CT "shown" n false [] QI)(z_str:mg "str"=none)(c_PLUS:mg "PLUS"=some u_PLUS)(r_PLUS:RelV (toV (.str " + ")) u_PLUS):FnOk P w K mg base CX0 (n+1) f fd ["one"] (SpD K CT false (Qbw Ql QI)):=
 @fnV P w K mg base CT false "shown" "shown" QdS f fd dV ["one"] ["one"] n (Qbv Ql QI) F QgB fun cdv A outer s H E G hr=>
  (Qd (ds_if (dt_eq hr.units (DE.db (de_ix (Qa 0) (DE.db Qc))) (DE.db Qh)) (Qe (Qp (de_ix (Qa 0) (DE.db Qc)))) Qm) (Qd (ds_if (dt_eq hr.units (DE.db (de_ix (Qa 0) (DE.db Qc))) (DE.db Qh)) (Qe (Qp (Qn (DE.db (Qn (DE.db (Qcf gr z_str (QA (DE.db (de_ix (Qa 0) (DE.db Qc))) QD))) (DE.db Qh))) (DE.db (de_f QcT (hr.mono (by omega)) (Qb (de_ix (Qa 0) (DE.db Qc)) (Qb (Q6 (Qb Qh (Qb Qh Qf))) Qf)) gr))))) Qm) (Qd (ds_if (dt_eq hr.units (DE.db (de_ix (Qa 0) (DE.db Qc))) (DE.db Qh)) (Qe (Qp (Qn (DE.db (Qn (DE.db (de_f Qa1 (hr.mono (by omega)) (Qb (de_ix (Qa 0) (DE.db Qc)) Qf) gr)) (DE.db (Qag (d:=(.str " + ")) gr c_PLUS rfl r_PLUS)))) (DE.db (de_f QcT (hr.mono (by omega)) (Qb (de_ix (Qa 0) (DE.db Qc)) (Qb (Q6 (Qb Qh Qf)) Qf)) gr))))) Qm) (Qe (Qp (Qn (DE.db (Qn (DE.db (Qn (DE.db (Qn (DE.db (Qn (DE.db (Qn (DE.db Qh) (DE.db (de_f Qa1 (hr.mono (by omega)) (Qb (de_ix (Qa 0) (DE.db Qc)) Qf) gr)))) (DE.db Qh))) (DE.db (Qcf gr z_str (QA (DE.db (de_ix (Qa 0) (DE.db Qc))) QD))))) (DE.db Qh))) (DE.db (Qcf gr z_str (QA (DE.db (de_ix (Qa 0) (DE.db Qc))) QD))))) (DE.db Qh)))))))
def Qs:Nat->(List D->Out D)×(List D->Out D)
 | 0=>(fun _=>.stuck,fun _=>.stuck)
 | n+1=>(QT (Qs n).1 (Qs n).2,Qbw (Qs n).1 (Qs n).2)
def Qe0:List D->Out D:=(Qs 90).1
theorem QcR(n:Nat):(Qs (n+1)).1=QT (Qs n).1 (Qs n).2:=rfl
def Qbx:List D->Out D:=(Qs 90).2
theorem QdQ(n:Nat):(Qs (n+1)).2=Qbw (Qs n).1 (Qs n).2:=rfl
abbrev Qdc:Stmt:=top 29
theorem Qee:QC ["text","one"] ["text"] (Qk Qdc):=⟨rfl,rfl,rfl,dk,rfl,dk,dk⟩
def Qb1:SD->Out Fl:=(sSeq (sIf (tNot' (tVal (eIsa (isaT "str") (eVar 0)))) QaH sNil) (sSeq (sSet 1 (eA (fun xs=>QbJ (xs++[])) (aCons (eVar 0) (aCons (eC (.int 1)) aNil)))) (sSeq (sIf (tOr' (tNot' (tVal (eA (fun xs=>QaU (xs++[])) (aCons (eVar 1) aNil)))) (tVal (e2 dNe (eA (fun xs=>Qbx (xs++[])) (aCons (eVar 1) aNil)) (eVar 0)))) QaH sNil) (sRet (eVar 1)))))
def QaD:List D->Out D:=bodyF false 1 2 Qb1
theorem Qja(d0:D):QaD [d0]=(Qb1 [some (.k,d0),none]>>=retF false):=rfl
theorem Qi6(F:FunV K "read_sum" "read_sum" Qdc f fd dV)(Qas:"e"^QbJ "read_part" 91 false)(Qk2:"e"^QaU "is_sum" 5 false)(Qa1:"e"^Qbx "shown" 91 false)(z_isinstance:mg "isinstance"=none)(z_str:mg "str"=none):"f"^92 ["text"] false QaD:=
 (@fnV P w K mg base CT false _ _ _ f fd dV _ _ 91 Qb1 F Qee fun cdv A outer s H E G hr=>
  (Qd (ds_if (Qaa (QQ (Qaw "str" Qe6 gr z_str PyProof.Rows.Boot.«str» gr z_isinstance (DE.db (Qa 0))))) (Qe Qc8) Qm) (Qd (Qw (i:=1) Qee.nd rfl (oi rfl) (de_f Qas (Rm hr) (Qb (Qa 0) (Qb Qc Qf)) gr)) (Qd (ds_if (DW.dt (dw_or (Qaa (QQ (de_f Qk2 (Rm hr) (Qb (Qa 1) Qf) gr))) (Qa9 (dt_ne hr.units (DE.db (de_f Qa1 (Rm hr) (Qb (Qa 1) Qf) gr)) (DE.db (Qa 0)))))) (Qe Qc8) Qm) (Qe (Qp (Qa 1)))))) :)
abbrev QcC:Stmt:=top 31
theorem Qgc:QC ["_law_found"] ["_law_found"] (Qk QcC):=⟨rfl,rfl,rfl,dk,rfl,dk,dk⟩
def QcM:SD->Out Fl:=(sRet (eAnd (eIsa (isaT "int") (eVar 0)) (eNot (eIsa (isaT "bool") (eVar 0)))))
def Qat:List D->Out D:=bodyF false 1 1 QcM
theorem QgV(F:FunV K "_law_whole" "_law_whole" QcC f fd dV)(z_isinstance:mg "isinstance"=none)(z_int:mg "int"=none)(z_bool:mg "bool"=none):"f"^1 ["_law_found"] false Qat:=
 (@fnV P w K mg base CT false _ _ _ f fd dV _ _ 0 QcM F Qgc fun cdv A outer s H E G hr=>
  (Qe (Qp (Qcj (Qaw "int" QeQ gr z_int PyProof.Rows.Boot.«int» gr z_isinstance (DE.db (Qa 0))) (Qch (QkC (Qaw "bool" Qf2 gr z_bool PyProof.Rows.Boot.«bool» gr z_isinstance (DE.db (Qa 0)))))))) :)
abbrev Qb3:Stmt:=top 36
theorem QbM:QC ["_law_found","_law_one","_law_here","_law_there"] ["_law_found","_law_one"] (Qk Qb3):=⟨rfl,rfl,rfl,dk,rfl,dk,dk⟩
def QaW(QS:List D->Out D):SD->Out Fl:=(sIf (tVal (eIsa (isaT "tuple") (eVar 3))) (sIf (tNot' (tVal (eA (fun xs=>QS (xs++[])) (aCons (eVar 2) (aCons (eVar 3) aNil))))) (sRet (eC (.bl false))) sNil) (sIf (tVal (eIsa (isaT "int") (eVar 3))) (sIf (tOr' (tNot' (tVal (eA (fun xs=>Qat (xs++[])) (aCons (eVar 2) aNil)))) (tVal (e2 dNe (eVar 2) (eVar 3)))) (sRet (eC (.bl false))) sNil) (sIf (tVal (e2 dNe (eVar 2) (eVar 3))) (sRet (eC (.bl false))) sNil)))
def Qb5(QS:List D->Out D):SD->Out Fl:=(sSeq (sIf (tOr' (tNot' (tVal (eIsa (isaT "tuple") (eVar 0)))) (tOr' (tVal (e2 dNe (eA fLen (aCons (eVar 0) aNil)) (eA fLen (aCons (eVar 1) aNil)))) (tVal (e2 dNe (e2 dIx (eVar 0) (eC (.int 0))) (e2 dIx (eVar 1) (eC (.int 0))))))) (sRet (eC (.bl false))) sNil) (sSeq (sFor (gT [2,3]) (itZT (eSlT (eVar 0) (oSome (eC (.int 1))) oNo) (eSlT (eVar 1) (oSome (eC (.int 1))) oNo)) (QaW QS)) (sRet (eC (.bl true)))))
def Qak(QS:List D->Out D):List D->Out D:=bodyF false 2 4 (Qb5 QS)
theorem QiM(QS:List D->Out D)(d0 d1:D):Qak QS [d0,d1]=(Qb5 QS [some (.k,d0),some (.k,d1),none,none]>>=retF false):=rfl
theorem Qi2{n:Nat}{QS:List D->Out D}(F:FunV K "_law_same" "_law_same" Qb3 f fd dV)(hn:1<=n)(Qdb:DefOk P w K mg base CT "_law_same" n false [] QS)(QgW:"e"^Qat "_law_whole" 1 false)(z_isinstance:mg "isinstance"=none)(z_tuple:mg "tuple"=none)(z_len:mg "len"=none)(z_zip:mg "zip"=none)(z_int:mg "int"=none):FnOk P w K mg base CX0 (n+1) f fd ["_law_found","_law_one"] (SpD K CT false (Qak QS)):=
 @fnV P w K mg base CT false "_law_same" "_law_same" Qb3 f fd dV ["_law_found","_law_one","_law_here","_law_there"] ["_law_found","_law_one"] n (Qb5 QS) F QbM fun cdv A outer s H E G hr=>
  (Qd (ds_if (DW.dt (dw_or (Qaa (QQ (Qaw "tuple" QdB gr z_tuple PyProof.Rows.Boot.«tuple» gr z_isinstance (DE.db (Qa 0))))) (dw_or (dt_ne hr.units (DE.db (Qan gr z_len (QA (DE.db (Qa 0)) QD))) (DE.db (Qan gr z_len (QA (DE.db (Qa 1)) QD)))) (Qa9 (dt_ne hr.units (DE.db (de_ix (Qa 0) (DE.db Qc))) (DE.db (de_ix (Qa 1) (DE.db Qc)))))))) (Qe (Qp de_bl)) Qm) (Qd (QcY PassesOwn.never rfl (di_zt gr z_zip (Qkz (Qa 0) (Qae (DE.db Qc)) Qcd) (Qkz (Qa 1) (Qae (DE.db Qc)) Qcd)) (Qka rfl (Qdi (i:=2) QbM.nd rfl (oi rfl) (Qdi (i:=3) QbM.nd rfl (oi rfl) QhX))) (Qf6 _) (Qe (ds_if (QQ (Qaw "tuple" QdB gr z_tuple PyProof.Rows.Boot.«tuple» gr z_isinstance (DE.db (Qa 3)))) (Qe (ds_if (Qaa (QQ (de_f Qdb (hr.mono (by omega)) (Qb (Qa 2) (Qb (Qa 3) Qf)) gr))) (Qe (Qp de_bl)) Qm)) (Qe (ds_if (QQ (Qaw "int" QeQ gr z_int PyProof.Rows.Boot.«int» gr z_isinstance (DE.db (Qa 3)))) (Qe (ds_if (DW.dt (dw_or (Qaa (QQ (de_f QgW (hr.mono (by omega)) (Qb (Qa 2) Qf) gr))) (Qa9 (dt_ne hr.units (DE.db (Qa 2)) (DE.db (Qa 3)))))) (Qe (Qp de_bl)) Qm)) (Qe (ds_if (dt_ne hr.units (DE.db (Qa 2)) (DE.db (Qa 3))) (Qe (Qp de_bl)) Qm))))))) (Qe (Qp de_bl))))
def Qa6:Nat->(List D->Out D)
 | 0=>(fun _=>.stuck)
 | n+1=>(Qak (Qa6 n))
def Qb0:List D->Out D:=(Qa6 45)
theorem Qb9(n:Nat):(Qa6 (n+1))=Qak (Qa6 n):=rfl
abbrev QbZ:Stmt:=top 37
theorem QdL:QC ["_law_script","_law_last","_law_one","_law_row","_law_found"] ["_law_script"] (Qk QbZ):=⟨rfl,rfl,rfl,dk,rfl,dk,dk⟩
def Qa2:SD->Out Fl:=(sSeq (sSet 2 (eA (fun xs=>Qav (xs++[])) (aCons (eSl (eVar 0) oNo (oSome (eVar 1))) (aCons (eC (.int 40)) aNil)))) (sSeq (sSet 3 (eA (fun xs=>QbD (xs++[])) (aCons (eVar 2) aNil))) (sSeq (sSet 4 (eA (fun xs=>QaD (xs++[])) (aCons (eVar 3) aNil))) (sIf (tOr' (tNot' (tVal (eA (fun xs=>Qb0 (xs++[])) (aCons (eVar 4) (aCons (eVar 2) aNil))))) (tVal (e2 dNe (eA (fun xs=>Qbx (xs++[])) (aCons (eVar 4) aNil)) (eVar 3)))) (sRet (eC (.bl false))) sNil))))
def QfL:SD->Out Fl:=(sSeq (sFor (gN 1) (itL (eLst (aCons (eC (.int 84)) (aCons (eC (.int 30)) (aCons (eC (.int 12)) (aCons (eC (.int 5)) aNil)))))) Qa2) (sRet (eC (.bl true))))
def Qcq:List D->Out D:=bodyF false 1 5 QfL
theorem QnB(d0:D):Qcq [d0]=(QfL [some (.k,d0),none,none,none,none]>>=retF false):=rfl
theorem Qnx(F:FunV K "law" "law" QbZ f fd dV)(QgP:"e"^Qav "_law_built" 2 false)(QaO:"e"^QbD "_law_shown" 46 false)(Qjc:"e"^QaD "read_sum" 92 false)(Qdb:"e"^Qb0 "_law_same" 46 false)(Qa1:"e"^Qbx "shown" 91 false):"f"^93 ["_law_script"] false Qcq:=
 (@fnV P w K mg base CT false _ _ _ f fd dV _ _ 92 QfL F QdL fun cdv A outer s H E G hr=>
  (Qd (QcY PassesOwn.never rfl (QlL (DF.de (Qcl (Qb Qc (Qb Qc (Qb Qc (Qb Qc Qf))))))) (QcU (i:=1) QdL.nd rfl (oi rfl)) (Qcm _) (Qd (Qw (i:=2) QdL.nd rfl (oi rfl) (de_f QgP (Rm hr) (Qb (DF.de (df_sl (Qa 0) Qcd (Qae (DE.db (Qa 1))))) (Qb Qc Qf)) gr)) (Qd (Qw (i:=3) QdL.nd rfl (oi rfl) (de_f QaO (Rm hr) (Qb (Qa 2) Qf) gr)) (Qd (Qw (i:=4) QdL.nd rfl (oi rfl) (de_f Qjc (Rm hr) (Qb (Qa 3) Qf) gr)) (Qe (ds_if (DW.dt (dw_or (Qaa (QQ (de_f Qdb (Rm hr) (Qb (Qa 4) (Qb (Qa 2) Qf)) gr))) (Qa9 (dt_ne hr.units (DE.db (de_f Qa1 (Rm hr) (Qb (Qa 4) Qf) gr)) (DE.db (Qa 3)))))) (Qe (Qp de_bl)) Qm)))))) (Qe (Qp de_bl))) :)
end
end My
set_option exponentiation.threshold 20000
namespace My
open PySem PySem.Spec L2 DL
set_option hygiene false
local macro_rules
 | `(tactic|exists "E",$xs,*)=>`(tactic|simp[$[$xs:term],*,bodyF,retF,sSeq,thenF,sSet,sRet,sIf,sNil,eVar,eC,e1,e2,eA,f1,aNil,aCons,tVal,tAnd',tOr',tNot',eAnd,eOr,eNot,eIf,eTup,eLst,eIsa,isaT,QJ,oNo,oSome,sPar,sUnp,Qab,gN,gT,fLen,Qal,Out.bind_ok,Out.bind_exc,Out.bind_stuck,Out.pure_eq,D.scal,QY,QaG,Qac,QaS,Qbn,Qbj,Qaf,Qah,Qad,Qa5,List.length_cons,List.length_nil,List.map_cons,List.map_nil,List.cons_append,List.nil_append,List.append_nil,List.getElem?_cons_zero,List.getElem?_cons_succ,List.set_cons_zero,List.set_cons_succ,List.replicate,Nat.reduceAdd,Nat.reduceSub,Nat.reduceLeDiff,Nat.zero_add,Nat.add_zero,reduceIte,Bool.not_true,Bool.not_false,Bool.true_and,Bool.and_true,Bool.false_and,Bool.and_false,Bool.or_true,Bool.true_or,Bool.or_false,Bool.false_or,Bool.false_eq_true,decide_true,decide_false,decide_eq_true_eq,Bool.not_eq_true',decide_eq_false_iff_not,Int.reduceEq,Int.reduceLT,Int.reduceLE,Int.reduceNeg,Nat.reduceEqDiff, ↓reduceIte,not_true_eq_false,not_false_eq_true])
 | `(tactic|exists "O",$xs,*)=>`(tactic|simp only[$[$xs:term],*,bodyF,retF,sSeq,thenF,sSet,sRet,sIf,sNil,eVar,eC,e1,e2,eA,f1,aNil,aCons,tVal,tAnd',tOr',tNot',eAnd,eOr,eNot,eIf,eTup,eLst,eIsa,isaT,QJ,oNo,oSome,sPar,sUnp,Qab,gN,gT,fLen,Qal,Out.bind_ok,Out.bind_exc,Out.bind_stuck,Out.pure_eq,D.scal,QY,QaG,Qac,QaS,Qbn,Qbj,Qaf,Qah,Qad,Qa5,List.length_cons,List.length_nil,List.map_cons,List.map_nil,List.cons_append,List.nil_append,List.append_nil,List.getElem?_cons_zero,List.getElem?_cons_succ,List.set_cons_zero,List.set_cons_succ,List.replicate,Nat.reduceAdd,Nat.reduceSub,Nat.reduceLeDiff,Nat.zero_add,Nat.add_zero,reduceIte,Bool.not_true,Bool.not_false,Bool.true_and,Bool.and_true,Bool.false_and,Bool.and_false,Bool.or_true,Bool.true_or,Bool.or_false,Bool.false_or,Bool.false_eq_true,decide_true,decide_false,decide_eq_true_eq,Bool.not_eq_true',decide_eq_false_iff_not,Int.reduceEq,Int.reduceLT,Int.reduceLE,Int.reduceNeg,Nat.reduceEqDiff, ↓reduceIte,not_true_eq_false,not_false_eq_true])
set_option hygiene true
local macro_rules | `(tactic| walk_at "g") => `(tactic| ((repeat (first | exact Qns | apply Qnj));done))
local macro_rules | `(tactic| walk_at "s") => `(tactic| repeat (first | exact Qj7 | apply Qjp))
local macro_rules | `(tactic| walk_at "all") => `(tactic| repeat (first | with_reducible exact r_setAllN | (apply r_setAllC;focus walk_at "s")))
local macro_rules | `(tactic| walk_at "cap") => `(tactic| repeat (first | exact c_nil | apply c_none | (apply c_k;focus walk_at "g") | (apply c_o;focus walk_at "g") | (apply c_l;focus walk_at "g") | (apply c_s;focus walk_at "g")))
local macro_rules | `(tactic| walk_at "b") => `(tactic| first | rfl | with_reducible assumption | (simp only[Bool.not_eq_true',Bool.not_eq_false',decide_eq_true_eq,decide_eq_false_iff_not,Bool.not_true,Bool.not_false];first | with_reducible assumption | omega) | (simp;done))
local macro_rules | `(tactic| walk_at "p") => `(tactic| first | decide | with_reducible assumption | omega)
local macro_rules | `(tactic| walk_at "l") => `(tactic| first | decide | with_reducible assumption | (simp only[List.length_map,List.length_cons,List.length_nil,List.length_range,List.length_append];omega) | omega | (simp;omega))
local macro_rules | `(tactic| walk_at "e") => `(tactic| first
 | ((with_reducible apply r_id);with_reducible assumption)
 | with_reducible exact r_okR | with_reducible exact r_look0
 | with_reducible apply r_var | with_reducible apply Qmy | with_reducible exact r_C | with_reducible exact r_nil | with_reducible exact r_oNo | with_reducible exact QM | with_reducible exact QcX
 | with_reducible exact QY _ _ | with_reducible exact QaG _ _ | with_reducible exact Qac _ | with_reducible exact QaS _ | with_reducible exact Qbn _ _ | with_reducible exact Qbj _ _ | with_reducible exact Qaf _ _ | with_reducible exact Qah _ _ | with_reducible exact Qad _ _ | with_reducible exact Qa5 _ _
 | with_reducible exact QaB (by walk_at "p")
 | with_reducible exact r_rt | with_reducible exact r_rtT | with_reducible exact r_rtS rfl
 | with_reducible apply QmI
 | with_reducible exact Qj7 | with_reducible apply Qjp
 | with_reducible exact Qmr | with_reducible apply Qnm
 | with_reducible exact r_setAllN | with_reducible apply r_setAllC
 | with_reducible exact c_nil | with_reducible apply c_none | ((with_reducible apply c_k);focus walk_at "g") | ((with_reducible apply c_o);focus walk_at "g") | ((with_reducible apply c_l);focus walk_at "g") | ((with_reducible apply c_s);focus walk_at "g")
 | ((with_reducible apply r_scal);exact rfl)
 | ((with_reducible apply r_get);focus walk_at "g")
 | ((with_reducible apply r_bits);with_reducible assumption)
 | ((with_reducible apply bd_mod);focus walk_at "p") | with_reducible apply bd_add | with_reducible apply bd_sub | with_reducible apply bd_mul | with_reducible apply bd_div | with_reducible apply bd_neg | with_reducible exact bd_lit rfl
 | ((with_reducible apply r_dec);focus exact rfl)
 | ((with_reducible apply r_len);focus walk_at "l")
 | with_reducible apply r_mul
 | ((with_reducible apply r_fdiv);focus walk_at "p")
 | ((with_reducible apply Qcp);focus walk_at "b")
 | ((with_reducible apply Qax);focus walk_at "b")
 | with_reducible apply Qi | with_reducible apply r_e2 | with_reducible apply r_e1 | with_reducible apply r_seq | with_reducible apply r_set | with_reducible apply QmC | with_reducible apply r_if | with_reducible apply Qy | with_reducible apply Qo | with_reducible apply Qbq | with_reducible apply r_or' | with_reducible apply QaR | with_reducible apply QmS | with_reducible apply r_eOr | with_reducible apply r_eNot | with_reducible apply r_eIf | with_reducible apply r_isa | with_reducible apply r_chain | with_reducible apply r_bind | with_reducible apply r_ret | with_reducible apply QmK | with_reducible apply r_drop | with_reducible apply r_tup | with_reducible apply r_lst | with_reducible apply r_scalar | with_reducible apply Qfv | with_reducible apply r_noX | with_reducible apply Q5 | with_reducible apply QaJ | with_reducible apply r_gN | with_reducible apply r_gT | with_reducible apply r_unp | with_reducible apply r_for | with_reducible apply r_itL | with_reducible apply r_itT | with_reducible apply r_itE | with_reducible apply r_itZ | with_reducible apply QK | with_reducible apply r_eA | with_reducible apply r_sl | with_reducible apply r_slB | with_reducible apply r_ixO | with_reducible apply r_meth | with_reducible apply r_make | with_reducible apply r_app | with_reducible apply r_put | with_reducible apply r_turn | with_reducible apply r_turnT | with_reducible apply r_self | with_reducible apply r_methS | with_reducible apply r_lm)
structure Tx(x:Str)(n:Nat):Prop where
 ok:PyData.strOk x=true
 len:x.length<=n
theorem QjK{x y:Str}(hx:PyData.strOk x=true)(hy:PyData.strOk y=true):PyData.strOk (x++y)=true:=by
 show(x.cps++y.cps).all _=true
 rw[Array.all_append]
 exact Bool.and_eq_true_iff.mpr ⟨hx,hy⟩
theorem Qbi(x y:Str):(x++y).length=x.length+y.length:=by
 show(x.cps++y.cps).size=_
 rw[Array.size_append];rfl
theorem Tx.app{x y:Str}{m n:Nat}(h:Tx x m)(h':Tx y n):Tx (x++y) (m+n):=⟨QjK h.ok h'.ok,by rw[Qbi];have:=h.len;have:=h'.len;omega⟩
theorem Tx.le{x:Str}{m n:Nat}(h:Tx x m)(hn:m<=n):Tx x n:=⟨h.ok,Nat.le_trans h.len hn⟩
theorem QE{x y:Str}{m n:Nat}(h:Tx x m)(h':Tx y n)(hs:m+n<=100000):dAdd (.str x) (.str y)=.ok (.str (x++y)):=by
 show(if x.length+y.length<=sizeLine then _ else _)=_
 rw[if_pos]
 have:=h.len
 have:=h'.len
 have h2:(100000:Nat)<=sizeLine:=by decide
 omega
def it(k:Int):Str:=((toString k:String):Str)
theorem QlZ{i:Int}(h:decide (i.natAbs.log2<1920)=true):dStr (.int i)=.ok (.str (it i)):=by
 show(if decide (i.natAbs.log2<1920)=true then Out.ok (D.str (it i)) else .stuck)=_
 rw[if_pos h]
theorem f1Str{i:Int}(h:decide (i.natAbs.log2<1920)=true):f1 dStr [.int i]=.ok (.str (it i)):=by
 show dStr (.int i)=_
 exact QlZ h
theorem QaV{k:Int}(h0:0<=k)(h1:k<=12):f1 dStr [.int k]=.ok (.str (it k))/\Tx (it k) 2:=by
 have:k=0∨k=1∨k=2∨k=3∨k=4∨k=5∨k=6∨k=7∨k=8∨k=9∨k=10∨k=11∨k=12:=by omega
 rcases this with rfl | rfl | rfl | rfl | rfl | rfl | rfl | rfl | rfl | rfl | rfl | rfl | rfl<;>exact⟨f1Str (dk),dk,dk⟩
theorem streq{a b:Str}{z:Bool}(ha:PyData.strOk a=true:=by decide +kernel)(hb:PyData.strOk b=true:=by decide +kernel)(h:(a == b)=z:=by decide +kernel):dEq (.str a) (.str b)=.ok (.bl z):=by rw[Qmn ha hb,h]
abbrev abc:Str:="abcdefghijklmnopqrstuvwxyz"
structure Nm(x:Str):Prop where
 tx:Tx x 6
 ne:1<=x.length
 ls:∀ c∈x.cps.toList,c∈abc.cps.toList
inductive Sm where
 | nm (x:Str)
 | tm (k:Int) (s:Sm)
 | pl (s t:Sm)
 | sh (s:Sm) (c d:Int)
def Sm.word:Sm->Str
 | .nm _=>"name"
 | .tm _ _=>"times"
 | .pl _ _=>"plus"
 | .sh _ _ _=>"share"
def Sm.d:Sm->D
 | .nm x=>.tup [.str "name",.str x]
 | .tm k s=>.tup [.str "times",.int k,s.d]
 | .pl s t=>.tup [.str "plus",s.d,t.d]
 | .sh s c d=>.tup [.str "share",s.d,.int c,.int d]
def Sm.ok:Sm->Prop
 | .nm x=>Nm x
 | .tm k s=>(0<=k/\k<=9)/\s.ok
 | .pl s t=>s.ok/\t.ok
 | .sh s c d=>(0<=c/\c<d)/\d<=12/\s.ok
def Sm.parts:Sm->Nat
 | .nm _=>1
 | .tm _ s=>s.parts+1
 | .pl s t=>s.parts+t.parts+1
 | .sh s _ _=>s.parts+1
def Sm.dep:Sm->Nat
 | .nm _=>1
 | .tm _ s=>s.dep+1
 | .pl s t=>max s.dep t.dep+1
 | .sh s _ _=>s.dep+1
theorem Sm.dep_le:∀ s:Sm,s.dep<=s.parts
 | .nm _=>Nat.le_refl _
 | .tm _ s=>Nat.succ_le_succ s.dep_le
 | .pl s t=>by
  have h1:=s.dep_le
  have h2:=t.dep_le
  show max s.dep t.dep+1<=s.parts+t.parts+1
  omega
 | .sh s _ _=>Nat.succ_le_succ s.dep_le
theorem Sm.d0(s:Sm):dIx s.d (.int 0)=.ok (.str s.word):=by cases s<;>exact QU _ _
theorem Qgx{c k:Int}(hk0:0<=k)(hk:k<=1000):∃ w:Int,Q8 [.int c,.int k]=.ok (.int w)/\0<=w/\w<2147483629:=by
 have c0:=Int.emod_nonneg c (b:=2147483647) (by decide)
 have c1:=Int.emod_lt_of_pos c (b:=2147483647) (by decide)
 have M:∀ i j:Int,i.natAbs<2 ^ 60->j.natAbs<2 ^ 60->dMul (.int i) (.int j)=.ok (.int (i * j)):=fun i j h1 h2=>Qh0 (QdV h1) (QdV h2) (by decide)
 have kk:2 * k * k<=2000000:=by
  have:=Int.mul_le_mul (show 2 * k<=2000 by omega) hk hk0 (by decide)
  omega
 have kk0:0<=2 * k * k:=Int.mul_nonneg (by omega) hk0
 have m1:=M 2 k (by decide) (by omega)
 have m2:=M (2 * k) k (by omega) (by omega)
 have m3:=M (c % 2147483647+11) (48271+2 * k * k) (by omega) (by omega)
 refine⟨(c % 2147483647+11) * (48271+2 * k * k) % 2147483629,?_,Int.emod_nonneg _ (by decide),Int.emod_lt_of_pos _ (by decide)⟩
 exists"O",Q8,QcL,QaB (show(0:Int)<2147483647 by decide),QaB (show(0:Int)<2147483629 by decide),m1,m2,m3
theorem ixS{z:Str}{i:Int}(hz:z.length<=1000)(ho:PyData.strOk z=true)(h0:0<=i)(h1:i<z.length):∃ c,c∈z.cps.toList/\dIx (.str z) (.int i)=.ok (.str ⟨#[c]⟩)/\Tx ⟨#[c]⟩ 1:=by
 obtain⟨n,rfl⟩:∃ n:Nat,i=n:=⟨i.toNat,by omega⟩
 have hn:n<z.cps.toList.length:=by rw[Q0];omega
 refine⟨z.cps.toList[n],List.getElem_mem hn,?_,?_,Nat.le_refl _⟩
 ·show(if fits z.length=true then optO ((atI z.cps.toList (n:Int)).map fun c=>D.str ⟨#[c]⟩) else .stuck)=_
  rw[if_pos (Qcb hz),Qce (List.getElem?_eq_getElem hn)]
  rfl
 ·have h:z.cps.toList.all (· < 0x110000)=true:=by rw[Array.all_toList];exact ho
  have:=List.all_eq_true.mp h _ (List.getElem_mem hn)
  show(#[z.cps.toList[n]]:Array Nat).all (· < 0x110000)=true
  simpa using this
theorem QiP:Tx ("abcdefghijklmnopqrstuvwxyz":Str) 26:=⟨dk,dk⟩
theorem Qd5:("abcdefghijklmnopqrstuvwxyz":Str).length=26:=dk
theorem QhW{n:Int}(h0:0<=n)(h1:n<2147483629):∃ x,Qam [.int n]=.ok (.str x)/\Nm x:=by
 have m0:=Int.emod_nonneg n (b:=6) (by decide)
 have m1:=Int.emod_lt_of_pos n (b:=6) (by decide)
 obtain⟨ς',hL,t,a3,rfl,ht,hk,hc⟩:=QhH (body:=fun x ς=>gN 3 x ς>>=fun ς'=>Qbt ς') (n:=(1+n % 6).toNat)
  (P:=fun k ς=>∃(t:Str)(a3:Option (SM×D)),ς=[some (.k,.int n),some (.k,.str "abcdefghijklmnopqrstuvwxyz"),some (.k,.str t),a3]/\Tx t k/\t.length=k/\∀ c∈t.cps.toList,c∈abc.cps.toList)
  (by
   rintro k hk ς ⟨t,a3,rfl,ht,hkl,hc⟩
   have k6:k<=6:=by omega
   have M:∀ i j:Int,i.natAbs<2 ^ 60->j.natAbs<2 ^ 60->dMul (.int i) (.int j)=.ok (.int (i * j)):=fun i j h1 h2=>Qh0 (QdV h1) (QdV h2) (by decide)
   have e1':=M 2 k (by decide) (by omega)
   have e2':=M n (2 * k+3) (by omega) (by omega)
   have q1:dMod (.int (n * (2 * k+3))) (.int 1000003)=.ok (.int (n * (2 * k+3) % 1000003)):=QaB (by decide)
   have q2:dMod (.int (n * (2 * k+3) % 1000003)) (.int 26)=.ok (.int (n * (2 * k+3) % 1000003 % 26)):=QaB (by decide)
   obtain⟨c,hcm,ex,hx⟩:=ixS (z:="abcdefghijklmnopqrstuvwxyz") (i:=n * (2 * k+3) % 1000003 % 26) (by rw[Qd5];decide) QiP.ok (Int.emod_nonneg _ (by omega)) (by rw[Qd5];exact Int.emod_lt_of_pos _ (by decide))
   have ha:=QE ht hx (by omega)
   refine⟨[some (.k,.int n),some (.k,.str "abcdefghijklmnopqrstuvwxyz"),some (.k,.str (t++⟨#[c]⟩)),some (.k,.int k)],?_,t++⟨#[c]⟩,_,rfl,ht.app hx,by rw[Qbi,hkl];rfl,fun c' hc'=>?_⟩
   ·refine r_gN (by walk_at "s") ?_
    unfold Qbt
    (repeat walk_at "e")
   ·have hc':c'∈(t.cps ++ #[c]).toList:=hc'
    rw[Array.toList_append,List.mem_append]at hc'
    rcases hc' with h | h
    ·exact hc c' h
    ·rw[List.mem_singleton.mp h];exact hcm)
  [some (.k,.int n),some (.k,.str "abcdefghijklmnopqrstuvwxyz"),some (.k,.str ""),none] ⟨"",none,rfl,⟨dk,dk⟩,dk,dk⟩
 have hr:e2 dAdd (eC (.int 1)) (e2 dMod (eVar 0) (eC (.int 6))) [some (.k,.int n),some (.k,.str "abcdefghijklmnopqrstuvwxyz"),some (.k,.str ""),none]=.ok (.int (((1+n % 6).toNat:Nat):Int)):=by
  rw[show(((1+n % 6).toNat:Nat):Int)=1+n % 6 by omega]
  (repeat walk_at "e")
 have hfor:=QcP (g:=gN 3) (its:=itR1 (e2 dAdd (eC (.int 1)) (e2 dMod (eVar 0) (eC (.int 6))))) (T:=Qbt) (Qkx (1+n % 6).toNat hr (by omega)) hL
 refine⟨t,?_,ht.le (by omega),by omega,hc⟩
 rw[Qie]
 unfold Qb6
 (repeat walk_at "e")
theorem Qk3{cs:List Int}(hl:cs.length<=84):∃ s:Sm,s.ok/\s.parts<=40/\Qav [.lst (cs.map .int),.int 40]=.ok s.d:=by
 have hlen:fLen [.lst (cs.map D.int)]=.ok (.int (cs.length:Int)):=by simp[fLen]
 obtain⟨w1,hw1,w10,w11⟩:=Qgx (c:=(cs.length:Int)) (k:=1) (by decide) (by decide)
 obtain⟨x0,hx0,tx0⟩:=QhW w10 w11
 obtain⟨ς',hL,s,p,a4,a5,a6,a7,a8,a9,rfl,so,hp,sp⟩:=Qir (body:=fun x ς=>gN 4 x ς>>=fun ς'=>QaK ς') (n:=cs.length)
  (P:=fun ς=>∃(s:Sm)(p:Int)(a4 a5 a6 a7 a8 a9:Option (SM×D)),ς=[some (.k,.lst (cs.map .int)),some (.k,.int 40),some (.k,s.d),some (.k,.int p),a4,a5,a6,a7,a8,a9]/\s.ok/\p=(s.parts:Int)/\s.parts<=40)
  (by
   rintro k hk ς ⟨s,p,a4,a5,a6,a7,a8,a9,rfl,so,hp,sp⟩
   have hix:dIx (.lst (cs.map D.int)) (.int (k:Int))=.ok (.int cs[k]):=ixL k (by rw[List.getElem?_map,List.getElem?_eq_getElem hk];rfl)
   obtain⟨n,hn,n0,n1⟩:=Qgx (c:=cs[k]) (k:=(k:Int)) (by omega) (by omega)
   have d6:dFdiv (.int n) (.int 6)=.ok (.int (n / 6)):=QdO (by decide) (by decide)
   have d36:dFdiv (.int n) (.int 36)=.ok (.int (n / 36)):=QdO (by decide) (by decide)
   have d432:dFdiv (.int n) (.int 432)=.ok (.int (n / 432)):=QdO (by decide) (by decide)
   have p6:dMod (.int n) (.int 6)=.ok (.int (n % 6)):=QaB (by decide)
   have p10:dMod (.int (n / 36)) (.int 10)=.ok (.int (n / 36 % 10)):=QaB (by decide)
   have p12:dMod (.int (n / 36)) (.int 12)=.ok (.int (n / 36 % 12)):=QaB (by decide)
   obtain⟨x,hx,tx⟩:=QhW (n:=n / 6) (by omega) (by omega)
   obtain⟨w,hw⟩:∃ w,w=n % 6:=⟨_,rfl⟩
   rw[← hw]at p6
   have pmany:dMod (.int (n / 432)) (.int (1+n / 36 % 12))=.ok (.int (n / 432 % (1+n / 36 % 12))):=QaB (by omega)
   have m0:=Int.emod_nonneg (n / 432) (b:=1+n / 36 % 12) (by omega)
   have m1:=Int.emod_lt_of_pos (n / 432) (b:=1+n / 36 % 12) (by omega)
   refine(show ∃ ς',(gN 4 (D.int k) _>>=fun ς'=>QaK ς')=Out.ok (Fl.nx ς')/\_ from ?_)
   unfold QaK
   have hw6:w=0∨w=1∨w=2∨w=3∨w=4∨w=5:=by omega
   rcases hw6 with h | h | h | h | h | h
   ·by_cases hp4:p<40
    ·refine⟨[some (.k,.lst (cs.map .int)),some (.k,.int 40),some (.k,.tup [.str "times",.int (n / 36 % 10),s.d]),some (.k,.int (p+1)),some (.k,.int k),some (.k,.int n),some (.k,.tup [.str "name",.str x]),some (.k,.int w),a8,a9],?_,Sm.tm (n / 36 % 10) s,p+1,_,_,_,_,_,_,rfl,⟨⟨by omega,by omega⟩,so⟩,?_,?_⟩
     ·refine r_gN (by walk_at "s") ?_
      (repeat walk_at "e")
     ·show p+1=((s.parts+1:Nat):Int);omega
     ·show s.parts+1<=40;omega
    ·refine⟨[some (.k,.lst (cs.map .int)),some (.k,.int 40),some (.k,s.d),some (.k,.int p),some (.k,.int k),some (.k,.int n),some (.k,.tup [.str "name",.str x]),some (.k,.int w),a8,a9],?_,s,p,_,_,_,_,_,_,rfl,so,hp,sp⟩
     refine r_gN (by walk_at "s") ?_
     (repeat walk_at "e")
   ·by_cases hp4:p<40
    ·refine⟨[some (.k,.lst (cs.map .int)),some (.k,.int 40),some (.k,.tup [.str "share",s.d,.int (n / 432 % (1+n / 36 % 12)),.int (1+n / 36 % 12)]),some (.k,.int (p+1)),some (.k,.int k),some (.k,.int n),some (.k,.tup [.str "name",.str x]),some (.k,.int w),some (.k,.int (1+n / 36 % 12)),a9],?_,Sm.sh s (n / 432 % (1+n / 36 % 12)) (1+n / 36 % 12),p+1,_,_,_,_,_,_,rfl,⟨⟨m0,m1⟩,by omega,so⟩,?_,?_⟩
     ·refine r_gN (by walk_at "s") ?_
      (repeat walk_at "e")
     ·show p+1=((s.parts+1:Nat):Int);omega
     ·show s.parts+1<=40;omega
    ·refine⟨[some (.k,.lst (cs.map .int)),some (.k,.int 40),some (.k,s.d),some (.k,.int p),some (.k,.int k),some (.k,.int n),some (.k,.tup [.str "name",.str x]),some (.k,.int w),a8,a9],?_,s,p,_,_,_,_,_,_,rfl,so,hp,sp⟩
     refine r_gN (by walk_at "s") ?_
     (repeat walk_at "e")
   ·by_cases hp4:p+1<40
    ·refine⟨[some (.k,.lst (cs.map .int)),some (.k,.int 40),some (.k,.tup [.str "plus",s.d,.tup [.str "name",.str x]]),some (.k,.int (p+2)),some (.k,.int k),some (.k,.int n),some (.k,.tup [.str "name",.str x]),some (.k,.int w),a8,a9],?_,Sm.pl s (Sm.nm x),p+2,_,_,_,_,_,_,rfl,⟨so,tx⟩,?_,?_⟩
     ·refine r_gN (by walk_at "s") ?_
      (repeat walk_at "e")
     ·show p+2=((s.parts+1+1:Nat):Int);omega
     ·show s.parts+1+1<=40;omega
    ·refine⟨[some (.k,.lst (cs.map .int)),some (.k,.int 40),some (.k,s.d),some (.k,.int p),some (.k,.int k),some (.k,.int n),some (.k,.tup [.str "name",.str x]),some (.k,.int w),a8,a9],?_,s,p,_,_,_,_,_,_,rfl,so,hp,sp⟩
     refine r_gN (by walk_at "s") ?_
     (repeat walk_at "e")
   ·by_cases hp4:p+1<40
    ·refine⟨[some (.k,.lst (cs.map .int)),some (.k,.int 40),some (.k,.tup [.str "plus",.tup [.str "name",.str x],s.d]),some (.k,.int (p+2)),some (.k,.int k),some (.k,.int n),some (.k,.tup [.str "name",.str x]),some (.k,.int w),a8,a9],?_,Sm.pl (Sm.nm x) s,p+2,_,_,_,_,_,_,rfl,⟨tx,so⟩,?_,?_⟩
     ·refine r_gN (by walk_at "s") ?_
      (repeat walk_at "e")
     ·show p+2=((1+s.parts+1:Nat):Int);omega
     ·show 1+s.parts+1<=40;omega
    ·refine⟨[some (.k,.lst (cs.map .int)),some (.k,.int 40),some (.k,s.d),some (.k,.int p),some (.k,.int k),some (.k,.int n),some (.k,.tup [.str "name",.str x]),some (.k,.int w),a8,a9],?_,s,p,_,_,_,_,_,_,rfl,so,hp,sp⟩
     refine r_gN (by walk_at "s") ?_
     (repeat walk_at "e")
   ·by_cases hp4:p+4<40
    ·have hc:dIx (.lst [.tup [.str "plus",s.d,.tup [.str "plus",.tup [.str "name",.str x],.tup [.str "times",.int (n / 36 % 10),.tup [.str "name",.str x]]]],.tup [.str "plus",.tup [.str "plus",.tup [.str "name",.str x],.tup [.str "times",.int (n / 36 % 10),.tup [.str "name",.str x]]],s.d]]) (.int (w - 4))=.ok (.tup [.str "plus",s.d,.tup [.str "plus",.tup [.str "name",.str x],.tup [.str "times",.int (n / 36 % 10),.tup [.str "name",.str x]]]]):=by
      rw[show w - 4=((0:Nat):Int) by omega];exact ixL 0 rfl
     refine⟨[some (.k,.lst (cs.map .int)),some (.k,.int 40),some (.k,.tup [.str "plus",s.d,.tup [.str "plus",.tup [.str "name",.str x],.tup [.str "times",.int (n / 36 % 10),.tup [.str "name",.str x]]]]),some (.k,.int (p+5)),some (.k,.int k),some (.k,.int n),some (.k,.tup [.str "name",.str x]),some (.k,.int w),a8,some (.k,.tup [.str "plus",.tup [.str "name",.str x],.tup [.str "times",.int (n / 36 % 10),.tup [.str "name",.str x]]])],?_,Sm.pl s (Sm.pl (Sm.nm x) (Sm.tm (n / 36 % 10) (Sm.nm x))),p+5,_,_,_,_,_,_,rfl,⟨so,tx,⟨by omega,by omega⟩,tx⟩,?_,?_⟩
     ·refine r_gN (by walk_at "s") ?_
      (repeat walk_at "e")
     ·show p+5=((s.parts+(1+(1+1)+1)+1:Nat):Int);omega
     ·show s.parts+(1+(1+1)+1)+1<=40;omega
    ·refine⟨[some (.k,.lst (cs.map .int)),some (.k,.int 40),some (.k,s.d),some (.k,.int p),some (.k,.int k),some (.k,.int n),some (.k,.tup [.str "name",.str x]),some (.k,.int w),a8,a9],?_,s,p,_,_,_,_,_,_,rfl,so,hp,sp⟩
     refine r_gN (by walk_at "s") ?_
     (repeat walk_at "e")
   ·by_cases hp4:p+4<40
    ·have hc:dIx (.lst [.tup [.str "plus",s.d,.tup [.str "plus",.tup [.str "name",.str x],.tup [.str "times",.int (n / 36 % 10),.tup [.str "name",.str x]]]],.tup [.str "plus",.tup [.str "plus",.tup [.str "name",.str x],.tup [.str "times",.int (n / 36 % 10),.tup [.str "name",.str x]]],s.d]]) (.int (w - 4))=.ok (.tup [.str "plus",.tup [.str "plus",.tup [.str "name",.str x],.tup [.str "times",.int (n / 36 % 10),.tup [.str "name",.str x]]],s.d]):=by
      rw[show w - 4=((1:Nat):Int) by omega];exact ixL 1 rfl
     refine⟨[some (.k,.lst (cs.map .int)),some (.k,.int 40),some (.k,.tup [.str "plus",.tup [.str "plus",.tup [.str "name",.str x],.tup [.str "times",.int (n / 36 % 10),.tup [.str "name",.str x]]],s.d]),some (.k,.int (p+5)),some (.k,.int k),some (.k,.int n),some (.k,.tup [.str "name",.str x]),some (.k,.int w),a8,some (.k,.tup [.str "plus",.tup [.str "name",.str x],.tup [.str "times",.int (n / 36 % 10),.tup [.str "name",.str x]]])],?_,Sm.pl (Sm.pl (Sm.nm x) (Sm.tm (n / 36 % 10) (Sm.nm x))) s,p+5,_,_,_,_,_,_,rfl,⟨⟨tx,⟨by omega,by omega⟩,tx⟩,so⟩,?_,?_⟩
     ·refine r_gN (by walk_at "s") ?_
      (repeat walk_at "e")
     ·show p+5=((1+(1+1)+1+s.parts+1:Nat):Int);omega
     ·show 1+(1+1)+1+s.parts+1<=40;omega
    ·refine⟨[some (.k,.lst (cs.map .int)),some (.k,.int 40),some (.k,s.d),some (.k,.int p),some (.k,.int k),some (.k,.int n),some (.k,.tup [.str "name",.str x]),some (.k,.int w),a8,a9],?_,s,p,_,_,_,_,_,_,rfl,so,hp,sp⟩
     refine r_gN (by walk_at "s") ?_
     (repeat walk_at "e"))
  [some (.k,.lst (cs.map .int)),some (.k,.int 40),some (.k,.tup [.str "name",.str x0]),some (.k,.int 1),none,none,none,none,none,none] ⟨Sm.nm x0,1,none,none,none,none,none,none,rfl,tx0,rfl,by show 1<=40;decide⟩
 have hlen':eA fLen (aCons (eVar 0) aNil) [some (.k,.lst (cs.map .int)),some (.k,.int 40),some (.k,.tup [.str "name",.str x0]),some (.k,.int 1),none,none,none,none,none,none]=.ok (.int (cs.length:Int)):=by (repeat walk_at "e")
 have hfor:=QcP (g:=gN 4) (its:=itR1 (eA fLen (aCons (eVar 0) aNil))) (T:=QaK) (Qkx cs.length hlen' (by omega)) hL
 refine⟨s,so,sp,?_⟩
 rw[Qhd]
 unfold QbL
 (repeat walk_at "e")
def brk(b:Bool)(x:Str):Str:=if b=true then("(":Str)++x++(")":Str) else x
def Sm.isT:Sm->Bool
 | .tm _ _=>true
 | _=>false
def Sm.isP:Sm->Bool
 | .pl _ _=>true
 | _=>false
def Sm.tx:Sm->Str
 | .nm x=>x
 | .tm k s=>it k++(" ":Str)++brk (s.isT||s.isP) s.tx
 | .pl s t=>s.tx++(" + ":Str)++brk t.isP t.tx
 | .sh s c d=>("[":Str)++s.tx++(" : ":Str)++it c++(" / ":Str)++it d++("]":Str)
theorem t1:Tx (" ":Str) 1:=⟨dk,dk⟩
theorem t2:Tx ("(":Str) 1:=⟨dk,dk⟩
theorem t3:Tx (")":Str) 1:=⟨dk,dk⟩
theorem t4:Tx (" + ":Str) 3:=⟨dk,dk⟩
theorem t5:Tx ("[":Str) 1:=⟨dk,dk⟩
theorem t6:Tx (" : ":Str) 3:=⟨dk,dk⟩
theorem t7:Tx (" / ":Str) 3:=⟨dk,dk⟩
theorem t8:Tx ("]":Str) 1:=⟨dk,dk⟩
theorem Qdx{b:Bool}{x:Str}{n:Nat}(h:Tx x n):Tx (brk b x) (n+2):=by
 cases b with
 | false=>exact h.le (by omega)
 | true=>exact((t2.app h).app t3).le (by omega)
theorem tx_ok:∀ s:Sm,s.ok->Tx s.tx (20 * s.parts)
 | .nm _,h=>Tx.le h.tx (by show 6<=20 * 1;decide)
 | .tm k s,h=>(((QaV h.1.1 (Int.le_trans h.1.2 (by decide))).2.app t1).app (Qdx (tx_ok s h.2))).le (by show _<=20 * (s.parts+1);omega)
 | .pl s t,h=>(((tx_ok s h.1).app t4).app (Qdx (tx_ok t h.2))).le (by show _<=20 * (s.parts+t.parts+1);omega)
 | .sh s c d,h=>((((((t5.app (tx_ok s h.2.2)).app t6).app (QaV h.1.1 (by have:=h.1.2;have:=h.2.1;omega)).2).app t7).app (QaV (by have:=h.1.1;have:=h.1.2;omega) h.2.1).2).app t8).le (by show _<=20 * (s.parts+1);omega)
theorem Qfq{s:Sm}{N:Nat}{r1 r2:List D->Out D}(h:r2 [s.d]=.ok (.str s.tx))(hx:Tx s.tx N)(hN:N<=5000){br:List D}{b:Bool}(hb:dInT (.str s.word) (.tup br)=.ok (.bl b)):QT r1 r2 [s.d,.tup br]=.ok (.str (brk b s.tx)):=by
 rw[QeV]
 unfold QaY
 have h0:=s.d0
 have a1:=QE t2 hx (by omega)
 have a2:=QE (t2.app hx) t3 (by omega)
 cases b with
 | true=>
  show _=Out.ok (D.str (("(":Str)++s.tx++(")":Str)))
  (repeat walk_at "e")
 | false=>
  show _=Out.ok (D.str s.tx)
  (repeat walk_at "e")
theorem inTP(s:Sm):dInT (.str s.word) (.tup [.str "times",.str "plus"])=.ok (.bl (s.isT||s.isP)):=by
 cases s with
 | nm _=>exact(congrArg (fun b=>Out.ok (D.bl b)) (dk):dInT (.str "name") (.tup [.str "times",.str "plus"])=.ok (.bl false))
 | tm _ _=>exact(congrArg (fun b=>Out.ok (D.bl b)) (dk):dInT (.str "times") (.tup [.str "times",.str "plus"])=.ok (.bl true))
 | pl _ _=>exact(congrArg (fun b=>Out.ok (D.bl b)) (dk):dInT (.str "plus") (.tup [.str "times",.str "plus"])=.ok (.bl true))
 | sh _ _ _=>exact(congrArg (fun b=>Out.ok (D.bl b)) (dk):dInT (.str "share") (.tup [.str "times",.str "plus"])=.ok (.bl false))
theorem inP(s:Sm):dInT (.str s.word) (.tup [.str "plus"])=.ok (.bl s.isP):=by
 cases s with
 | nm _=>exact(congrArg (fun b=>Out.ok (D.bl b)) (dk):dInT (.str "name") (.tup [.str "plus"])=.ok (.bl false))
 | tm _ _=>exact(congrArg (fun b=>Out.ok (D.bl b)) (dk):dInT (.str "times") (.tup [.str "plus"])=.ok (.bl false))
 | pl _ _=>exact(congrArg (fun b=>Out.ok (D.bl b)) (dk):dInT (.str "plus") (.tup [.str "plus"])=.ok (.bl true))
 | sh _ _ _=>exact(congrArg (fun b=>Out.ok (D.bl b)) (dk):dInT (.str "share") (.tup [.str "plus"])=.ok (.bl false))
theorem Qbz:∀ s:Sm,s.ok->s.parts<=40->∀ n:Nat,2 * s.dep<=n->(Qs n).2 [s.d]=.ok (.str s.tx)
 | .nm x,h,hp,n,hn=>by
  have hn:2 * 1<=n:=hn
  obtain⟨m,rfl⟩:∃ m,n=m+1:=⟨n - 1,by omega⟩
  rw[QdQ,QdR]
  unfold Qbv
  have e0:dIx (Sm.nm x).d (.int 0)=.ok (.str "name"):=QU _ _
  have e1':dIx (Sm.nm x).d (.int 1)=.ok (.str x):=Qai _ _ _
  have q1:dEq (.str "name") (.str "name")=.ok (.bl true):=streq
  show _=Out.ok (D.str x)
  (repeat walk_at "e")
 | .tm k s,h,hp,n,hn=>by
  have hn:2 * (s.dep+1)<=n:=hn
  have hp:s.parts+1<=40:=hp
  obtain⟨m,rfl⟩:∃ m,n=m+1+1:=⟨n - 2,by omega⟩
  have ih:=Qbz s h.2 (by omega) m (by omega)
  have hx:=tx_ok s h.2
  have hw:(Qs (m+1)).1 [s.d,.tup [.str "times",.str "plus"]]=.ok (.str (brk (s.isT||s.isP) s.tx)):=by
   rw[QcR];exact Qfq ih hx (by omega) (inTP s)
  rw[QdQ,QdR]
  unfold Qbv
  have e0:dIx (Sm.tm k s).d (.int 0)=.ok (.str "times"):=QU _ _
  have e1':dIx (Sm.tm k s).d (.int 1)=.ok (.int k):=Qai _ _ _
  have e2':dIx (Sm.tm k s).d (.int 2)=.ok s.d:=Qa3 _ _ _ _
  have q1:dEq (.str "times") (.str "name")=.ok (.bl false):=streq
  have q2:dEq (.str "times") (.str "times")=.ok (.bl true):=streq
  obtain⟨hs,hk⟩:=QaV h.1.1 (Int.le_trans h.1.2 (by decide))
  have a1:=QE hk t1 (by omega)
  have a2:=QE (hk.app t1) (Qdx (b:=s.isT||s.isP) hx) (by omega)
  show _=Out.ok (D.str (it k++(" ":Str)++brk (s.isT||s.isP) s.tx))
  (repeat walk_at "e")
 | .pl s t,h,hp,n,hn=>by
  have hn:2 * (max s.dep t.dep+1)<=n:=hn
  have hp:s.parts+t.parts+1<=40:=hp
  obtain⟨m,rfl⟩:∃ m,n=m+1+1:=⟨n - 2,by omega⟩
  have i1:=Qbz s h.1 (by omega) (m+1) (by omega)
  have ih:=Qbz t h.2 (by omega) m (by omega)
  have hx:=tx_ok s h.1
  have hy:=tx_ok t h.2
  have hw:(Qs (m+1)).1 [t.d,.tup [.str "plus"]]=.ok (.str (brk t.isP t.tx)):=by
   rw[QcR];exact Qfq ih hy (by omega) (inP t)
  rw[QdQ,QdR]
  unfold Qbv
  have e0:dIx (Sm.pl s t).d (.int 0)=.ok (.str "plus"):=QU _ _
  have e1':dIx (Sm.pl s t).d (.int 1)=.ok s.d:=Qai _ _ _
  have e2':dIx (Sm.pl s t).d (.int 2)=.ok t.d:=Qa3 _ _ _ _
  have q1:dEq (.str "plus") (.str "name")=.ok (.bl false):=streq
  have q2:dEq (.str "plus") (.str "times")=.ok (.bl false):=streq
  have q3:dEq (.str "plus") (.str "plus")=.ok (.bl true):=streq
  have a1:=QE hx t4 (by omega)
  have a2:=QE (hx.app t4) (Qdx (b:=t.isP) hy) (by omega)
  show _=Out.ok (D.str (s.tx++(" + ":Str)++brk t.isP t.tx))
  (repeat walk_at "e")
 | .sh s c d,h,hp,n,hn=>by
  have hn:2 * (s.dep+1)<=n:=hn
  have hp:s.parts+1<=40:=hp
  obtain⟨m,rfl⟩:∃ m,n=m+1+1:=⟨n - 2,by omega⟩
  have ih:=Qbz s h.2.2 (by omega) (m+1) (by omega)
  have hx:=tx_ok s h.2.2
  obtain⟨⟨c0,c1⟩,d1,so⟩:=h
  rw[QdQ,QdR]
  unfold Qbv
  have e0:dIx (Sm.sh s c d).d (.int 0)=.ok (.str "share"):=QU _ _
  have e1':dIx (Sm.sh s c d).d (.int 1)=.ok s.d:=Qai _ _ _
  have e2':dIx (Sm.sh s c d).d (.int 2)=.ok (.int c):=Qa3 _ _ _ _
  have e3':dIx (Sm.sh s c d).d (.int 3)=.ok (.int d):=ixT 3 rfl
  have q1:dEq (.str "share") (.str "name")=.ok (.bl false):=streq
  have q2:dEq (.str "share") (.str "times")=.ok (.bl false):=streq
  have q3:dEq (.str "share") (.str "plus")=.ok (.bl false):=streq
  obtain⟨hs1,hk1⟩:=QaV (k:=c) c0 (by omega)
  obtain⟨hs2,hk2⟩:=QaV (k:=d) (by omega) d1
  have a1:=QE t5 hx (by omega)
  have a2:=QE (t5.app hx) t6 (by omega)
  have a3:=QE ((t5.app hx).app t6) hk1 (by omega)
  have a4:=QE (((t5.app hx).app t6).app hk1) t7 (by omega)
  have a5:=QE ((((t5.app hx).app t6).app hk1).app t7) hk2 (by omega)
  have a6:=QE (((((t5.app hx).app t6).app hk1).app t7).app hk2) t8 (by omega)
  show _=Out.ok (D.str (("[":Str)++s.tx++(" : ":Str)++it c++(" / ":Str)++it d++("]":Str)))
  (repeat walk_at "e")
theorem eqT(s:Sm):dEq (.str s.word) (.str "times")=.ok (.bl s.isT):=by
 cases s with
 | nm _=>exact(streq:dEq (.str "name") (.str "times")=.ok (.bl false))
 | tm _ _=>exact(streq:dEq (.str "times") (.str "times")=.ok (.bl true))
 | pl _ _=>exact(streq:dEq (.str "plus") (.str "times")=.ok (.bl false))
 | sh _ _ _=>exact(streq:dEq (.str "share") (.str "times")=.ok (.bl false))
theorem eqP(s:Sm):dEq (.str s.word) (.str "plus")=.ok (.bl s.isP):=by
 cases s with
 | nm _=>exact(streq:dEq (.str "name") (.str "plus")=.ok (.bl false))
 | tm _ _=>exact(streq:dEq (.str "times") (.str "plus")=.ok (.bl false))
 | pl _ _=>exact(streq:dEq (.str "plus") (.str "plus")=.ok (.bl true))
 | sh _ _ _=>exact(streq:dEq (.str "share") (.str "plus")=.ok (.bl false))
theorem QbT:∀ s:Sm,s.ok->s.parts<=40->∀ n:Nat,s.dep<=n->QaL n [s.d]=.ok (.str s.tx)
 | .nm x,h,hp,n,hn=>by
  have hn:1<=n:=hn
  obtain⟨m,rfl⟩:∃ m,n=m+1:=⟨n - 1,by omega⟩
  rw[QbA,QbO]
  unfold Qao
  have e0:dIx (Sm.nm x).d (.int 0)=.ok (.str "name"):=QU _ _
  have e1':dIx (Sm.nm x).d (.int 1)=.ok (.str x):=Qai _ _ _
  have q1:dEq (.str "name") (.str "name")=.ok (.bl true):=streq
  show _=Out.ok (D.str x)
  (repeat walk_at "e")
 | .tm k s,h,hp,n,hn=>by
  have hn:s.dep+1<=n:=hn
  have hp:s.parts+1<=40:=hp
  obtain⟨m,rfl⟩:∃ m,n=m+1:=⟨n - 1,by omega⟩
  have ih:=QbT s h.2 (by omega) m (by omega)
  have hx:=tx_ok s h.2
  rw[QbA,QbO]
  unfold Qao
  have e0:dIx (Sm.tm k s).d (.int 0)=.ok (.str "times"):=QU _ _
  have e1':dIx (Sm.tm k s).d (.int 1)=.ok (.int k):=Qai _ _ _
  have e2':dIx (Sm.tm k s).d (.int 2)=.ok s.d:=Qa3 _ _ _ _
  have q1:dEq (.str "times") (.str "name")=.ok (.bl false):=streq
  have q2:dEq (.str "times") (.str "times")=.ok (.bl true):=streq
  obtain⟨hs,hk⟩:=QaV h.1.1 (Int.le_trans h.1.2 (by decide))
  have a1:=QE hk t1 (by omega)
  have a2:=QE (hk.app t1) hx (by omega)
  have a3:=QE t2 hx (by omega)
  have a4:=QE (t2.app hx) t3 (by omega)
  have a5:=QE (hk.app t1) ((t2.app hx).app t3) (by omega)
  have i0:=s.d0
  have f1':=eqP s
  have f2':=eqT s
  show _=Out.ok (D.str (it k++(" ":Str)++brk (s.isT||s.isP) s.tx))
  rcases Bool.eq_false_or_eq_true s.isP with hP | hP<;>rcases Bool.eq_false_or_eq_true s.isT with hT | hT<;>rw[hP,hT]<;>rw[hP]at f1'<;>rw[hT]at f2'
  ·show _=Out.ok (D.str (it k++(" ":Str)++(("(":Str)++s.tx++(")":Str))))
   (repeat walk_at "e")
  ·show _=Out.ok (D.str (it k++(" ":Str)++(("(":Str)++s.tx++(")":Str))))
   (repeat walk_at "e")
  ·show _=Out.ok (D.str (it k++(" ":Str)++(("(":Str)++s.tx++(")":Str))))
   (repeat walk_at "e")
  ·show _=Out.ok (D.str (it k++(" ":Str)++s.tx))
   (repeat walk_at "e")
 | .pl s t,h,hp,n,hn=>by
  have hn:max s.dep t.dep+1<=n:=hn
  have hp:s.parts+t.parts+1<=40:=hp
  obtain⟨m,rfl⟩:∃ m,n=m+1:=⟨n - 1,by omega⟩
  have i1:=QbT s h.1 (by omega) m (by omega)
  have i2:=QbT t h.2 (by omega) m (by omega)
  have hx:=tx_ok s h.1
  have hy:=tx_ok t h.2
  rw[QbA,QbO]
  unfold Qao
  have e0:dIx (Sm.pl s t).d (.int 0)=.ok (.str "plus"):=QU _ _
  have e1':dIx (Sm.pl s t).d (.int 1)=.ok s.d:=Qai _ _ _
  have e2':dIx (Sm.pl s t).d (.int 2)=.ok t.d:=Qa3 _ _ _ _
  have q1:dEq (.str "plus") (.str "name")=.ok (.bl false):=streq
  have q2:dEq (.str "plus") (.str "times")=.ok (.bl false):=streq
  have q3:dEq (.str "plus") (.str "plus")=.ok (.bl true):=streq
  have a1:=QE hx t4 (by omega)
  have a2:=QE (hx.app t4) hy (by omega)
  have a3:=QE t2 hy (by omega)
  have a4:=QE (t2.app hy) t3 (by omega)
  have a5:=QE (hx.app t4) ((t2.app hy).app t3) (by omega)
  have i0:=t.d0
  have f1':=eqP t
  show _=Out.ok (D.str (s.tx++(" + ":Str)++brk t.isP t.tx))
  rcases Bool.eq_false_or_eq_true t.isP with hP | hP<;>rw[hP]<;>rw[hP]at f1'
  ·show _=Out.ok (D.str (s.tx++(" + ":Str)++(("(":Str)++t.tx++(")":Str))))
   (repeat walk_at "e")
  ·show _=Out.ok (D.str (s.tx++(" + ":Str)++t.tx))
   (repeat walk_at "e")
 | .sh s c d,h,hp,n,hn=>by
  have hn:s.dep+1<=n:=hn
  have hp:s.parts+1<=40:=hp
  obtain⟨m,rfl⟩:∃ m,n=m+1:=⟨n - 1,by omega⟩
  have ih:=QbT s h.2.2 (by omega) m (by omega)
  have hx:=tx_ok s h.2.2
  obtain⟨⟨c0,c1⟩,d1,so⟩:=h
  rw[QbA,QbO]
  unfold Qao
  have e0:dIx (Sm.sh s c d).d (.int 0)=.ok (.str "share"):=QU _ _
  have e1':dIx (Sm.sh s c d).d (.int 1)=.ok s.d:=Qai _ _ _
  have e2':dIx (Sm.sh s c d).d (.int 2)=.ok (.int c):=Qa3 _ _ _ _
  have e3':dIx (Sm.sh s c d).d (.int 3)=.ok (.int d):=ixT 3 rfl
  have q1:dEq (.str "share") (.str "name")=.ok (.bl false):=streq
  have q2:dEq (.str "share") (.str "times")=.ok (.bl false):=streq
  have q3:dEq (.str "share") (.str "plus")=.ok (.bl false):=streq
  obtain⟨hs1,hk1⟩:=QaV (k:=c) c0 (by omega)
  obtain⟨hs2,hk2⟩:=QaV (k:=d) (by omega) d1
  have a1:=QE t5 hx (by omega)
  have a2:=QE (t5.app hx) t6 (by omega)
  have a3:=QE ((t5.app hx).app t6) hk1 (by omega)
  have a4:=QE (((t5.app hx).app t6).app hk1) t7 (by omega)
  have a5:=QE ((((t5.app hx).app t6).app hk1).app t7) hk2 (by omega)
  have a6:=QE (((((t5.app hx).app t6).app hk1).app t7).app hk2) t8 (by omega)
  show _=Out.ok (D.str (("[":Str)++s.tx++(" : ":Str)++it c++(" / ":Str)++it d++("]":Str)))
  (repeat walk_at "e")
def inL(c:Nat):Bool := !(Builtin.Str.occurrences ("abcdefghijklmnopqrstuvwxyz":Str) ⟨#[c]⟩ 0 ("abcdefghijklmnopqrstuvwxyz":Str).length 1).isEmpty
theorem compN(z:Str)(hz:z.length<=1000):eComp [none] (itS (eVar 0)) (gN 0) cTrue QcK [some (.k,.str z)]=.ok (.lst (z.cps.toList.map fun c=>D.bl (inL c))):=by
 unfold eComp
 have h:=QgD (f:=turnC [none] (gN 0) cTrue QcK [some (.k,.str z)]) (h:=fun d=>match d with | .str x=>some (.bl (!(Builtin.Str.occurrences ("abcdefghijklmnopqrstuvwxyz":Str) x 0 ("abcdefghijklmnopqrstuvwxyz":Str).length 1).isEmpty)) | _=>none) (xs:=signs z) (by
  intro x hx
  obtain⟨c,_,rfl⟩:=List.mem_map.mp hx
  rfl)
 have e:(signs z).filterMap (fun d=>match d with | .str x=>some (D.bl (!(Builtin.Str.occurrences ("abcdefghijklmnopqrstuvwxyz":Str) x 0 ("abcdefghijklmnopqrstuvwxyz":Str).length 1).isEmpty)) | _=>none)=z.cps.toList.map fun c=>D.bl (inL c):=by
  unfold signs
  rw[List.filterMap_map]
  exact List.filterMap_eq_map' (f:=fun c=>D.bl (inL c)) ▸ rfl
 show(compM _ (signs z)>>=_)=_
 rw[h,e,Out.bind_ok,if_pos (Qcb (by rw[List.length_map,Q0];exact hz))]
def nmB(z:Str):Bool:=decide (1<=z.length)&&decide (z.length<=6)&&z.cps.toList.all inL
theorem QlX(z:Str)(hz:z.length<=1000):QaA [.str z]=.ok (.bl (nmB z)):=by
 rw[QkD]
 unfold Qcv
 have hf:=Qcb hz
 unfold nmB
 by_cases h1:1<=z.length
 ·by_cases h2:z.length<=6
  ·have h1':(1:Int)<=(z.length:Int):=by omega
   have h2':(z.length:Int)<=6:=by omega
   exists"O",QaI,compN z hz,Qep,hf,h1,h2,h1',h2',beq_self_eq_true
  ·have h1':(1:Int)<=(z.length:Int):=by omega
   have h2':¬ (z.length:Int)<=6:=by omega
   exists"O",QaI,compN z hz,Qep,hf,h1,h2,h1',h2',beq_self_eq_true
 ·have h1':¬ (1:Int)<=(z.length:Int):=by omega
  exists"O",QaI,compN z hz,Qep,hf,h1,h1',beq_self_eq_true
theorem Qng:∀ c∈abc.cps.toList,inL c=true:=dk
theorem Qms{x:Str}(h:Nm x):QaA [.str x]=.ok (.bl true):=by
 have hl:=h.tx.len
 have hn:=h.ne
 rw[QlX x (by omega)]
 congr 2
 unfold nmB
 rw[decide_eq_true hn,decide_eq_true hl,List.all_eq_true.mpr fun c hc=>Qng c (h.ls c hc)]
 rfl
theorem Qdk{i a b:Int}:QN [.int i,.int a,.int b]=.ok (.bl (decide (a<=i)&&decide (i<=b))):=by
 have hw:QaF [.int i]=.ok (.bl true):=by rw[Qjd];rfl
 rw[QgO]
 unfold QbE
 by_cases h:a<=i
 ·exists"O",hw,QaI,h
 ·exists"O",hw,QaI,h
inductive Tr where
 | bad (d:D)
 | nm (x:Str)
 | tm (k:Int) (s:Tr)
 | pl (s t:Tr)
 | sh (s:Tr) (c d:Int)
def Tr.d:Tr->D
 | .bad d=>d
 | .nm x=>.tup [.str "name",.str x]
 | .tm k s=>.tup [.str "times",.int k,s.d]
 | .pl s t=>.tup [.str "plus",s.d,t.d]
 | .sh s c d=>.tup [.str "share",s.d,.int c,.int d]
def Tr.ok:Tr->Prop
 | .bad d=>QR [d]=.ok (.bl false)
 | .nm x=>Nm x
 | .tm k s=>(0<=k/\k<=9)/\s.ok
 | .pl s t=>s.ok/\t.ok
 | .sh s c d=>(0<=c/\c<d)/\d<=12/\s.ok
def Tr.parts:Tr->Nat
 | .bad _=>1
 | .nm _=>1
 | .tm _ s=>s.parts+1
 | .pl s t=>s.parts+t.parts+1
 | .sh s _ _=>s.parts+1
def Tr.good:Tr->Bool
 | .bad _=>false
 | .nm _=>true
 | .tm _ s=>s.good
 | .pl s t=>s.good&&t.good
 | .sh s _ _=>s.good
def Tr.top:Tr->Bool
 | .bad _=>false
 | _=>true
def Tr.kids:Tr->List Tr
 | .tm _ s=>[s]
 | .pl s t=>[s,t]
 | .sh s _ _=>[s]
 | _=>[]
def sz:List Tr->Nat
 | []=>0
 | t::r=>t.parts+sz r
theorem QkA:∀ a b:List Tr,sz (a++b)=sz a+sz b
 | [],b=>by show sz b=0+sz b;omega
 | t::r,b=>by
  have:=QkA r b
  show t.parts+sz (r++b)=t.parts+sz r+sz b
  omega
theorem QdG:∀ t:Tr,1<=t.parts
 | .bad _=>Nat.le_refl _
 | .nm _=>Nat.le_refl _
 | .tm _ s=>Nat.le_add_left 1 s.parts
 | .pl s t=>Nat.le_add_left 1 _
 | .sh s _ _=>Nat.le_add_left 1 s.parts
theorem QjH:∀ a:List Tr,a.length<=sz a
 | []=>Nat.le_refl _
 | t::r=>by
  have:=QjH r
  have:=QdG t
  show r.length+1<=t.parts+sz r
  omega
theorem Qma(t:Tr):sz t.kids+1=t.parts:=by
 cases t with
 | bad d=>rfl
 | nm x=>rfl
 | tm k s=>rfl
 | pl s t=>show s.parts+(t.parts+0)+1=s.parts+t.parts+1;omega
 | sh s c d=>rfl
theorem Qmo{t:Tr}(h:t.ok):∀ u∈t.kids,u.ok:=by
 intro u hu
 cases t with
 | bad d=>cases hu
 | nm x=>cases hu
 | tm k s=>rw[List.mem_singleton.mp hu];exact h.2
 | pl s t=>
  have hu:u∈[s,t]:=hu
  simp only[List.mem_cons,List.not_mem_nil,or_false]at hu
  rcases hu with rfl | rfl
  ·exact h.1
  ·exact h.2
 | sh s c d=>rw[List.mem_singleton.mp hu];exact h.2.2
theorem Qkn{t:Tr}(h:t.good=true):∀ u∈t.kids,u.good=true:=by
 intro u hu
 cases t with
 | bad d=>cases hu
 | nm x=>cases hu
 | tm k s=>rw[List.mem_singleton.mp hu];exact h
 | pl s t=>
  have h:(s.good&&t.good)=true:=h
  rw[Bool.and_eq_true]at h
  have hu:u∈[s,t]:=hu
  simp only[List.mem_cons,List.not_mem_nil,or_false]at hu
  rcases hu with rfl | rfl
  ·exact h.1
  ·exact h.2
 | sh s c d=>rw[List.mem_singleton.mp hu];exact h
theorem Qmp{t:Tr}(h:t.ok):QR [t.d]=.ok (.bl t.top):=by
 cases t with
 | bad d=>exact h
 | nm x=>
  show QR [.tup [.str "name",.str x]]=.ok (.bl true)
  have e0:dIx (.tup [.str "name",.str x]) (.int 0)=.ok (.str "name"):=QU _ _
  have e1':dIx (.tup [.str "name",.str x]) (.int 1)=.ok (.str x):=Qai _ _ _
  have q1:dEq (.str "name") (.str "name")=.ok (.bl true):=streq
  have hn:=Qms h
  have hi:isaT "tuple" (.tup [.str "name",.str x])=.ok true:=by simp[isaT,QJ]
  have hj:isaT "str" (.str "name")=.ok true:=by simp[isaT,QJ]
  have hl:fLen [.tup [.str "name",.str x]]=.ok (.int 2):=rfl
  rw[Qb7]
  unfold QaE
  (repeat walk_at "e")
 | tm k s=>
  show QR [.tup [.str "times",.int k,s.d]]=.ok (.bl true)
  have e0:dIx (.tup [.str "times",.int k,s.d]) (.int 0)=.ok (.str "times"):=QU _ _
  have e1':dIx (.tup [.str "times",.int k,s.d]) (.int 1)=.ok (.int k):=Qai _ _ _
  have q1:dEq (.str "times") (.str "name")=.ok (.bl false):=streq
  have q2:dEq (.str "times") (.str "times")=.ok (.bl true):=streq
  have hw:=Qdk (i:=k) (a:=0) (b:=9)
  rw[decide_eq_true h.1.1,decide_eq_true h.1.2]at hw
  rw[Qb7]
  unfold QaE
  have hw:QN [.int k,.int 0,.int 9]=.ok (.bl true):=hw
  have hi:isaT "tuple" (.tup [.str "times",.int k,s.d])=.ok true:=by simp[isaT,QJ]
  have hj:isaT "str" (.str "times")=.ok true:=by simp[isaT,QJ]
  have hl:fLen [.tup [.str "times",.int k,s.d]]=.ok (.int 3):=rfl
  (repeat walk_at "e")
 | pl s t=>
  show QR [.tup [.str "plus",s.d,t.d]]=.ok (.bl true)
  have e0:dIx (.tup [.str "plus",s.d,t.d]) (.int 0)=.ok (.str "plus"):=QU _ _
  have q1:dEq (.str "plus") (.str "name")=.ok (.bl false):=streq
  have q2:dEq (.str "plus") (.str "times")=.ok (.bl false):=streq
  have q3:dEq (.str "plus") (.str "plus")=.ok (.bl true):=streq
  rw[Qb7]
  unfold QaE
  have hi:isaT "tuple" (.tup [.str "plus",s.d,t.d])=.ok true:=by simp[isaT,QJ]
  have hj:isaT "str" (.str "plus")=.ok true:=by simp[isaT,QJ]
  have hl:fLen [.tup [.str "plus",s.d,t.d]]=.ok (.int 3):=rfl
  have he:dEq (.int 3) (.int 3)=.ok (.bl true):=by rw[Qad];rfl
  (repeat walk_at "e")
 | sh s c d=>
  show QR [.tup [.str "share",s.d,.int c,.int d]]=.ok (.bl true)
  have e0:dIx (.tup [.str "share",s.d,.int c,.int d]) (.int 0)=.ok (.str "share"):=QU _ _
  have e2':dIx (.tup [.str "share",s.d,.int c,.int d]) (.int 2)=.ok (.int c):=Qa3 _ _ _ _
  have e3':dIx (.tup [.str "share",s.d,.int c,.int d]) (.int 3)=.ok (.int d):=ixT 3 rfl
  have q1:dEq (.str "share") (.str "name")=.ok (.bl false):=streq
  have q2:dEq (.str "share") (.str "times")=.ok (.bl false):=streq
  have q3:dEq (.str "share") (.str "plus")=.ok (.bl false):=streq
  have q4:dEq (.str "share") (.str "share")=.ok (.bl true):=streq
  have hw:=Qdk (i:=d) (a:=1) (b:=12)
  rw[decide_eq_true (show 1<=d by have:=h.1.1;have:=h.1.2;omega),decide_eq_true h.2.1]at hw
  have hw':=Qdk (i:=c) (a:=0) (b:=d - 1)
  rw[decide_eq_true h.1.1,decide_eq_true (show c<=d - 1 by have:=h.1.2;omega)]at hw'
  rw[Qb7]
  unfold QaE
  have hw:QN [.int d,.int 1,.int 12]=.ok (.bl true):=hw
  have hw':QN [.int c,.int 0,.int (d - 1)]=.ok (.bl true):=hw'
  have hi:isaT "tuple" (.tup [.str "share",s.d,.int c,.int d])=.ok true:=by simp[isaT,QJ]
  have hj:isaT "str" (.str "share")=.ok true:=by simp[isaT,QJ]
  have hl:fLen [.tup [.str "share",s.d,.int c,.int d]]=.ok (.int 4):=rfl
  (repeat walk_at "e")
theorem Qkd{t:Tr}(h:t.top=true):QP [t.d]=.ok (.lst (t.kids.map Tr.d)):=by
 cases t with
 | bad d=>cases h
 | nm x=>
  show QP [.tup [.str "name",.str x]]=.ok (.lst [])
  have e0:dIx (.tup [.str "name",.str x]) (.int 0)=.ok (.str "name"):=QU _ _
  have q1:dEq (.str "name") (.str "times")=.ok (.bl false):=streq
  have q2:dEq (.str "name") (.str "plus")=.ok (.bl false):=streq
  have q3:dEq (.str "name") (.str "share")=.ok (.bl false):=streq
  rw[Qct]
  unfold QaP
  (repeat walk_at "e")
 | tm k s=>
  show QP [.tup [.str "times",.int k,s.d]]=.ok (.lst [s.d])
  have e0:dIx (.tup [.str "times",.int k,s.d]) (.int 0)=.ok (.str "times"):=QU _ _
  have e2':dIx (.tup [.str "times",.int k,s.d]) (.int 2)=.ok s.d:=Qa3 _ _ _ _
  have q1:dEq (.str "times") (.str "times")=.ok (.bl true):=streq
  rw[Qct]
  unfold QaP
  (repeat walk_at "e")
 | pl s t=>
  show QP [.tup [.str "plus",s.d,t.d]]=.ok (.lst [s.d,t.d])
  have e0:dIx (.tup [.str "plus",s.d,t.d]) (.int 0)=.ok (.str "plus"):=QU _ _
  have e1':dIx (.tup [.str "plus",s.d,t.d]) (.int 1)=.ok s.d:=Qai _ _ _
  have e2':dIx (.tup [.str "plus",s.d,t.d]) (.int 2)=.ok t.d:=Qa3 _ _ _ _
  have q1:dEq (.str "plus") (.str "times")=.ok (.bl false):=streq
  have q2:dEq (.str "plus") (.str "plus")=.ok (.bl true):=streq
  rw[Qct]
  unfold QaP
  (repeat walk_at "e")
 | sh s c d=>
  show QP [.tup [.str "share",s.d,.int c,.int d]]=.ok (.lst [s.d])
  have e0:dIx (.tup [.str "share",s.d,.int c,.int d]) (.int 0)=.ok (.str "share"):=QU _ _
  have e1':dIx (.tup [.str "share",s.d,.int c,.int d]) (.int 1)=.ok s.d:=Qai _ _ _
  have q1:dEq (.str "share") (.str "times")=.ok (.bl false):=streq
  have q2:dEq (.str "share") (.str "plus")=.ok (.bl false):=streq
  have q3:dEq (.str "share") (.str "share")=.ok (.bl true):=streq
  rw[Qct]
  unfold QaP
  (repeat walk_at "e")
abbrev stP(z:D)(a b:List Tr):SD:=[some (.k,z),some (.o,.lst ((a++b).map Tr.d)),some (.k,.int (a.length:Int))]
theorem QhQ(z:D)(a b:List Tr):QX (stP z a b)=.ok (decide (0<b.length)):=by
 have hl:fLen [.lst ((a++b).map Tr.d)]=.ok (.int ((a.length+b.length:Nat):Int)):=by simp[fLen]
 unfold QX
 have:decide ((a.length:Int)<((a.length+b.length:Nat):Int))=decide (0<b.length):=by
  by_cases h:0<b.length
  ·rw[decide_eq_true h,decide_eq_true (by omega)]
  ·rw[decide_eq_false h,decide_eq_false (by omega)]
 rw[← this]
 (repeat walk_at "e")
theorem q_nil(z:D)(a:List Tr):QX (stP z a [])=.ok false:=QhQ z a []
theorem Qm6(z:D)(a:List Tr)(t:Tr)(r:List Tr):QX (stP z a (t::r))=.ok true:=by
 rw[QhQ];exact congrArg Out.ok (decide_eq_true (by simp))
theorem QlI(a:List Tr)(t:Tr)(r:List Tr):atI ((a++t::r).map Tr.d) (a.length:Int)=some t.d:=by
 refine Qce ?_
 rw[List.getElem?_map,List.getElem?_append_right (Nat.le_refl _),Nat.sub_self]
 rfl
theorem Qnd(z:D)(a:List Tr)(t:Tr)(r:List Tr)(ht:t.ok)(h1:a.length+(r.length+1)<=40)(h2:t.top=true):Q9 (stP z a (t::r))=.ok (.nx (stP z (a++[t]) (r++t.kids))):=by
 have hl:fLen [.lst ((a++t::r).map Tr.d)]=.ok (.int ((a.length+(r.length+1):Nat):Int)):=by simp[fLen]
 have hf:=Qmp ht
 rw[h2]at hf
 have ha:=QlI a t r
 have hk:=Qkd h2
 have h40:¬ (40:Int)<((a.length+(r.length+1):Nat):Int):=by omega
 have hx:eIxO 1 (eVar 2) (stP z a (t::r))=.ok t.d:=r_ixO rfl rfl ha
 have hs:t.kids.length<=2:=by cases t<;>simp[Tr.kids]
 have hn:(fun ς=>Qbm ((eA (fun xs=>QP (xs++[])) (aCons (eIxO 1 (eVar 2)) aNil)) ς)) (stP z a (t::r))=.ok (.lst (t.kids.map Tr.d)):=by
  refine Qfv ?_ rfl
  (repeat (first | with_reducible exact hx | walk_at "e"))
 have hE:QdU 1 (fun ς=>Qbm ((eA (fun xs=>QP (xs++[])) (aCons (eIxO 1 (eVar 2)) aNil)) ς)) (stP z a (t::r))=.ok (.nx [some (.k,z),some (.o,.lst (((a++[t])++(r++t.kids)).map Tr.d)),some (.k,.int (a.length:Int))]):=by
  show((fun ς=>Qbm ((eA (fun xs=>QP (xs++[])) (aCons (eIxO 1 (eVar 2)) aNil)) ς)) (stP z a (t::r))>>=_)=_
  rw[hn,Out.bind_ok]
  show(if decide (((a++t::r).map Tr.d).length+(t.kids.map Tr.d).length<=sizeLine)=true then Out.ok (Fl.nx _) else .stuck)=_
  have hz:(1000:Nat)<=sizeLine:=by decide
  rw[if_pos (decide_eq_true (by rw[List.length_map,List.length_map,List.length_append,List.length_cons];omega))]
  have e:(a++t::r).map Tr.d++t.kids.map Tr.d=((a++[t])++(r++t.kids)).map Tr.d:=by simp
  rw[e]
  rfl
 have hlen:((a.length:Int)+1)=((a++[t]).length:Int):=by simp
 unfold Q9
 have hS:sSet 2 (e2 dAdd (eVar 2) (eC (.int 1))) [some (.k,z),some (.o,.lst (((a++[t])++(r++t.kids)).map Tr.d)),some (.k,.int (a.length:Int))]=.ok (.nx (stP z (a++[t]) (r++t.kids))):=by
  show Out.ok (Fl.nx [some (.k,z),some (.o,.lst (((a++[t])++(r++t.kids)).map Tr.d)),some (.k,.int ((a.length:Int)+1))])=_
  rw[hlen]
 refine r_seq (fl:=.nx (stP z a (t::r))) ?_ (Qy (r_seq hE (Qy hS)))
 (repeat (first | with_reducible exact hx | walk_at "e"))
theorem QmR{c:SD->Out Bool}{b:SD->Out Fl}{n:Nat}{ς ς':SD}{r:Out Fl}(hc:c ς=.ok true)(hb:b ς=.ok (.nx ς'))(h:Qz c b n ς'=r):Qz c b (n+1) ς=r:=by
 rw[Qz,hc,Out.bind_ok,if_pos rfl,hb,Out.bind_ok];exact h
theorem QmF{c:SD->Out Bool}{b:SD->Out Fl}{n:Nat}{ς:SD}(hc:c ς=.ok false):Qz c b (n+1) ς=.ok (.nx ς):=by
 rw[Qz,hc,Out.bind_ok,if_neg Bool.false_ne_true]
theorem QfV(z:D):∀(m:Nat)(a b:List Tr),sz b=m->(∀ t∈b,t.ok)->(∀ t∈b,t.good=true)->a.length+m<=40->∃ c:List Tr,Qz QX Q9 (m+1) (stP z a b)=.ok (.nx (stP z c []))
 | m,a,[],hm,ho,hg,hl=>⟨a,QmF (q_nil z a)⟩
 | 0,a,t::r,hm,ho,hg,hl=>by
  have:=QdG t
  have hm:t.parts+sz r=0:=hm
  omega
 | m+1,a,t::r,hm,ho,hg,hl=>by
  have hm:t.parts+sz r=m+1:=hm
  have hk:=Qma t
  have hr:=QjH r
  have ht:=ho t List.mem_cons_self
  have htg:=hg t List.mem_cons_self
  have htop:t.top=true:=by cases t<;>first | rfl | cases htg
  obtain⟨c,hc⟩:=QfV z m (a++[t]) (r++t.kids) (by rw[QkA];omega)
   (fun u hu=>by
    rcases List.mem_append.mp hu with h | h
    ·exact ho u (List.mem_cons_of_mem _ h)
    ·exact Qmo ht u h)
   (fun u hu=>by
    rcases List.mem_append.mp hu with h | h
    ·exact hg u (List.mem_cons_of_mem _ h)
    ·exact Qkn htg u h)
   (by rw[List.length_append];show a.length+1+m<=40;omega)
  have:=QdG t
  exact⟨c,QmR (Qm6 z a t r) (Qnd z a t r ht (by omega) htop) hc⟩
theorem Qjf(t:Tr){r:Out Fl}{n:Nat}(h:Qz QX Q9 n (stP t.d [] [t])=r)(hr:r≠.stuck):QcQ QX Q9 [some (.k,t.d),some (.o,.lst [t.d]),some (.k,.int 0)]=r:=by
 have h:Qz QX Q9 n [some (.k,t.d),some (.o,.lst [t.d]),some (.k,.int 0)]=r:=h
 rw[QiD n (by rw[h];exact hr),h]
theorem QlK{t:Tr}(ho:t.ok)(hg:t.good=true)(hp:t.parts<=40):QaU [t.d]=.ok (.bl true):=by
 obtain⟨c,hc⟩:=QfV t.d (sz [t]) [] [t] rfl (fun u hu=>by rw[List.mem_singleton.mp hu];exact ho) (fun u hu=>by rw[List.mem_singleton.mp hu];exact hg) (by show 0+(t.parts+0)<=40;omega)
 have hw:=Qjf t hc (by intro h;cases h)
 have hp:QaC [t.d]=.ok (.lst ((c++[]).map Tr.d)):=by
  rw[QiI]
  unfold Qca
  (repeat (first | with_reducible exact hw | walk_at "e"))
 have hi:Qer (.lst ((c++[]).map Tr.d)) .non=.ok (.bl true):=rfl
 rw[QkN]
 unfold Qdp
 (repeat walk_at "e")
def Sm.tr:Sm->Tr
 | .nm x=>.nm x
 | .tm k s=>.tm k s.tr
 | .pl s t=>.pl s.tr t.tr
 | .sh s c d=>.sh s.tr c d
theorem tr_d:∀ s:Sm,s.tr.d=s.d
 | .nm _=>rfl
 | .tm k s=>by show D.tup [_,_,s.tr.d]=D.tup [_,_,s.d];rw[tr_d s]
 | .pl s t=>by show D.tup [_,s.tr.d,t.tr.d]=D.tup [_,s.d,t.d];rw[tr_d s,tr_d t]
 | .sh s c d=>by show D.tup [_,s.tr.d,_,_]=D.tup [_,s.d,_,_];rw[tr_d s]
theorem tr_ok:∀ s:Sm,s.ok->s.tr.ok
 | .nm _,h=>h
 | .tm k s,h=>⟨h.1,tr_ok s h.2⟩
 | .pl s t,h=>⟨tr_ok s h.1,tr_ok t h.2⟩
 | .sh s c d,h=>⟨h.1,h.2.1,tr_ok s h.2.2⟩
theorem Qcg:∀ s:Sm,s.tr.parts=s.parts
 | .nm _=>rfl
 | .tm k s=>by show s.tr.parts+1=s.parts+1;rw[Qcg s]
 | .pl s t=>by show s.tr.parts+t.tr.parts+1=s.parts+t.parts+1;rw[Qcg s,Qcg t]
 | .sh s c d=>by show s.tr.parts+1=s.parts+1;rw[Qcg s]
theorem Qc2:∀ s:Sm,s.tr.good=true
 | .nm _=>rfl
 | .tm k s=>Qc2 s
 | .pl s t=>by show(s.tr.good&&t.tr.good)=true;rw[Qc2 s,Qc2 t];rfl
 | .sh s c d=>Qc2 s
abbrev cp(x:Str):List Nat:=x.cps.toList
theorem Qx(x y:Str):cp (x++y)=cp x++cp y:=by
 show(x.cps++y.cps).toList=_
 rw[Array.toList_append]
theorem QbV{x y:Str}(h:cp x=cp y):x=y:=by
 cases x with | mk a=>cases y with | mk b=>exact congrArg Str.mk (Array.toList_inj.mp h)
theorem Qby{x:Str}{l u:Option Int}{a b:Nat}(hab:a<=b)(hb:b<=x.length)(h:Builtin.Str.strSliceIndices l u 1 x.length=Builtin.Str.strSliceIndices (some (a:Int)) (some (b:Int)) 1 x.length):cp (Txt.slice x l u)=((cp x).drop a).take (b - a):=by
 unfold Txt.slice
 rw[h]
 split
 ·rename_i hc
  rw[StrLaws.strSliceIndices_plain hab hb]at hc
  have hc:b - a=x.length:=by simpa using hc
  have ha:a=0:=by omega
  subst ha
  rw[List.drop_zero,List.take_of_length_le (by rw[Q0];omega)]
 ·exact StrLaws.sliced_plain x hab hb
theorem sl_to{x u v:Str}(h:x=u++v):Txt.slice x none (some (u.length:Int))=u:=by
 subst h
 have hl:(u++v).length=u.length+v.length:=Qbi u v
 refine QbV ?_
 rw[Qby (a:=0) (b:=u.length) (Nat.zero_le _) (by omega) ?_,Qx,List.drop_zero,Nat.sub_zero, ← Q0,List.take_left]
 unfold Builtin.Str.strSliceIndices
 have e:max (0:Int) (min 0 ((u++v).length:Int))=0:=by omega
 simp[e]
theorem QhP{x u v:Str}{k:Int}(h:x=u++v)(hk:k=(u.length:Int)):Txt.slice x (some k) none=v:=by
 subst h hk
 have hl:(u++v).length=u.length+v.length:=Qbi u v
 refine QbV ?_
 rw[Qby (a:=u.length) (b:=(u++v).length) (by omega) (Nat.le_refl _) ?_,Qx, ← Q0 u,List.drop_left,List.take_of_length_le (by rw[Q0,Q0,hl];omega)]
 unfold Builtin.Str.strSliceIndices
 have e:max (0:Int) (min ((u++v).length:Int) ((u++v).length:Int))=((u++v).length:Int):=by omega
 have e':¬ (((u++v).length:Int)<0):=by omega
 simp[e']
theorem sl_in{x u:Str}{a b:Nat}(h:cp x=a::(cp u++[b])):Txt.slice x (some 1) (some (-1))=u:=by
 have hl:x.length=u.length+2:=by
  have q:=congrArg List.length h
  rw[Q0]at q
  rw[q]
  simp[Str.length]
 refine QbV ?_
 rw[Qby (a:=1) (b:=u.length+1) (by omega) (by omega) ?_,h]
 ·rw[List.drop_succ_cons,List.drop_zero,Nat.add_sub_cancel, ← Q0,List.take_left]
 ·rw[hl]
  unfold Builtin.Str.strSliceIndices
  simp
  congr 1<;>omega
theorem QfW{x:Str}:cp (Txt.slice x (some 1) (some 2))=((cp x).drop 1).take 1:=by
 by_cases h:2<=x.length
 ·exact Qby (a:=1) (b:=2) (by decide) h rfl
 ·by_cases h1:x.length=1
  ·rw[Qby (a:=1) (b:=1) (by decide) (by omega) ?_]
   ·have:(cp x).drop 1=[]:=List.drop_eq_nil_of_le (by rw[Q0];omega)
    rw[this];rfl
   ·rw[h1];decide
  ·have h0:x.length=0:=by omega
   rw[Qby (a:=0) (b:=0) (by decide) (by omega) ?_]
   ·have:(cp x)=[]:=List.eq_nil_of_length_eq_zero (by rw[Q0];exact h0)
    rw[this];rfl
   ·rw[h0];decide
def opn(c:Nat):Bool:=decide (c∈[40,91])
def clo(c:Nat):Bool:=decide (c∈[41,93])
def dst(c:Nat)(d:Int):Int:=if clo c=true then(if opn c=true then d+1 else d) - 1 else if opn c=true then d+1 else d
def pls(l:List Nat):Bool:=l.take 3 == [32,43,32]
def scan:List Nat->Int->Nat->Int->Int×Int
 | [],d,_,p=>(d,p)
 | c::r,d,i,p=>scan r (dst c d) (i+1) (if (decide (dst c d=0)&&pls (c::r))=true then(i:Int) else p)
theorem QlQ{x:Str}{i:Nat}(hi:i<x.length):stsA x " + " (i:Int)=pls ((cp x).drop i):=by
 have hf:fromIndex x.length (i:Int)=i:=by unfold fromIndex;rw[if_neg (by omega)];omega
 have hl:(" + ":Str).length=3:=dk
 have hc:cp (" + ":Str)=[32,43,32]:=dk
 unfold stsA
 rw[hf,StrLaws.subAt_eq,hl,show(" + ":Str).cps.toList=[32,43,32] from hc]
 unfold pls
 cases h:(((cp x).drop i).take 3 == [32,43,32]) with
 | false=>rw[Bool.and_false]
 | true=>
  rw[Bool.and_true]
  have h:=congrArg List.length (beq_iff_eq.mp h)
  rw[List.length_take,List.length_drop,Q0]at h
  have h:min 3 (x.length - i)=3:=h
  exact decide_eq_true (by omega)
theorem in_op(c:Nat):dIn (.str ⟨#[c]⟩) (.str "([")=.ok (.bl (opn c)):=by
 show Out.ok (D.bl (!(Builtin.Str.occurrences ("([":Str) ⟨#[c]⟩ 0 ("([":Str).length 1).isEmpty))=_
 have hc:cp ("([":Str)=[40,91]:=dk
 rw[StrLaws.found_one,show("([":Str).cps.toList=[40,91] from hc];rfl
theorem in_cl(c:Nat):dIn (.str ⟨#[c]⟩) (.str ")]")=.ok (.bl (clo c)):=by
 show Out.ok (D.bl (!(Builtin.Str.occurrences (")]":Str) ⟨#[c]⟩ 0 (")]":Str).length 1).isEmpty))=_
 have hc:cp (")]":Str)=[41,93]:=dk
 rw[StrLaws.found_one,show(")]":Str).cps.toList=[41,93] from hc];rfl
theorem r_ifT{P:SD->Out Bool}{T U:SD->Out Fl}{ς:SD}{b:Bool}{rf:Out Fl}(a:P ς=.ok b)(hb:b=true)(k:T ς=rf):sIf P T U ς=rf:=r_if a (Qcp hb k)
theorem r_ifF{P:SD->Out Bool}{T U:SD->Out Fl}{ς:SD}{b:Bool}{rf:Out Fl}(a:P ς=.ok b)(hb:b=false)(k:U ς=rf):sIf P T U ς=rf:=r_if a (Qax hb k)
abbrev lS(x:Str)(d p:Int)(a3 a4:Option (SM×D)):SD:=[some (.k,.str x),some (.k,.int d),some (.k,.int p),a3,a4]
theorem QlG{x:Str}{i c:Nat}{d p:Int}(hi:i<x.length){r:List Nat}(hr:(cp x).drop i=c::r):Qaj (lS x d p (some (.k,.int (i:Int))) (some (.k,.str ⟨#[c]⟩)))=.ok (.nx (lS x (dst c d) (if (decide (dst c d=0)&&pls (c::r))=true then(i:Int) else p) (some (.k,.int (i:Int))) (some (.k,.str ⟨#[c]⟩)))):=by
 have hs:=QlQ hi
 rw[hr]at hs
 have h3:∀ e q:Int,sIf (tAnd' (tVal (e2 dEq (eVar 1) (eC (.int 0)))) (tVal (eSm fSts (eVar 0) (aCons (eC (.str " + ")) (aCons (eVar 3) aNil))))) (sSet 2 (eVar 3)) sNil (lS x e q (some (.k,.int (i:Int))) (some (.k,.str ⟨#[c]⟩)))=.ok (.nx (lS x e (if (decide (e=0)&&pls (c::r))=true then(i:Int) else q) (some (.k,.int (i:Int))) (some (.k,.str ⟨#[c]⟩)))):=fun e q=>by
  have h4:eSm fSts (eVar 0) (aCons (eC (.str " + ")) (aCons (eVar 3) aNil)) (lS x e q (some (.k,.int (i:Int))) (some (.k,.str ⟨#[c]⟩)))=.ok (.bl (pls (c::r))):=by rw[← hs];rfl
  by_cases he:e=0
  ·rw[decide_eq_true he,Bool.true_and]
   cases hp:pls (c::r) with
   | true=>
    rw[hp]at h4
    exact r_ifT (QaR (Qo (r_e2 (r_var rfl) r_C (Qad _ _))) (Qcp (decide_eq_true he) (Qo h4))) rfl (r_set (r_var rfl) rfl)
   | false=>
    rw[hp]at h4
    exact r_ifF (QaR (Qo (r_e2 (r_var rfl) r_C (Qad _ _))) (Qcp (decide_eq_true he) (Qo h4))) rfl QM
  ·rw[decide_eq_false he,Bool.false_and]
   exact r_ifF (QaR (Qo (r_e2 (r_var rfl) r_C (Qad _ _))) (Qax (decide_eq_false he) rfl)) rfl QM
 have h2:∀ e:Int,sIf (tVal (e2 dIn (eVar 4) (eC (.str ")]")))) (sSet 1 (e2 dSub (eVar 1) (eC (.int 1)))) sNil (lS x e p (some (.k,.int (i:Int))) (some (.k,.str ⟨#[c]⟩)))=.ok (.nx (lS x (if clo c=true then e - 1 else e) p (some (.k,.int (i:Int))) (some (.k,.str ⟨#[c]⟩)))):=fun e=>by
  cases hc:clo c with
  | true=>exact r_ifT (Qo (r_e2 (r_var rfl) r_C (in_cl c))) hc (r_set (r_e2 (r_var rfl) r_C (QaG _ _)) rfl)
  | false=>exact r_ifF (Qo (r_e2 (r_var rfl) r_C (in_cl c))) hc QM
 have h1:sIf (tVal (e2 dIn (eVar 4) (eC (.str "([")))) (sSet 1 (e2 dAdd (eVar 1) (eC (.int 1)))) sNil (lS x d p (some (.k,.int (i:Int))) (some (.k,.str ⟨#[c]⟩)))=.ok (.nx (lS x (if opn c=true then d+1 else d) p (some (.k,.int (i:Int))) (some (.k,.str ⟨#[c]⟩)))):=by
  cases hc:opn c with
  | true=>exact r_ifT (Qo (r_e2 (r_var rfl) r_C (in_op c))) hc (r_set (r_e2 (r_var rfl) r_C (QY _ _)) rfl)
  | false=>exact r_ifF (Qo (r_e2 (r_var rfl) r_C (in_op c))) hc QM
 unfold Qaj
 exact r_seq h1 (Qy (r_seq (h2 _) (Qy (h3 _ _))))
theorem QhT(x:Str):∀(r:List Nat)(i:Nat)(d p:Int)(a3 a4:Option (SM×D)),(cp x).drop i=r->∃ b3 b4,loopD (fun y ς=>gT [3,4] y ς>>=fun ς'=>Qaj ς') (enumD i (r.map fun c=>D.str ⟨#[c]⟩)) (lS x d p a3 a4)=.ok (.nx (lS x (scan r d i p).1 (scan r d i p).2 b3 b4))
 | [],i,d,p,a3,a4,_=>⟨a3,a4,rfl⟩
 | c::r,i,d,p,a3,a4,h=>by
  have hi:i<x.length:=by
   have:=congrArg List.length h
   rw[List.length_drop,Q0,List.length_cons]at this
   omega
  have hr:(cp x).drop (i+1)=r:=by rw[← List.drop_drop,h];rfl
  obtain⟨b3,b4,hL⟩:=QhT x r (i+1) (dst c d) (if (decide (dst c d=0)&&pls (c::r))=true then(i:Int) else p) (some (.k,.int (i:Int))) (some (.k,.str ⟨#[c]⟩)) hr
  refine⟨b3,b4,?_⟩
  have ht:(gT [3,4] (D.tup [.int (i:Int),.str ⟨#[c]⟩]) (lS x d p a3 a4)>>=fun ς'=>Qaj ς')=.ok (.nx (lS x (dst c d) (if (decide (dst c d=0)&&pls (c::r))=true then(i:Int) else p) (some (.k,.int (i:Int))) (some (.k,.str ⟨#[c]⟩)))):=r_gT rfl (QlG hi h)
  show loopD _ (D.tup [.int (i:Int),.str ⟨#[c]⟩]::enumD (i+1) (r.map fun c=>D.str ⟨#[c]⟩)) _=_
  rw[loopD,ht]
  exact hL
theorem lp_ok(x:Str):QO [.str x]=.ok (.int (scan (cp x) 0 0 (-1)).2):=by
 obtain⟨b3,b4,hL⟩:=QhT x (cp x) 0 0 (-1) none none (List.drop_zero ..)
 have hfor:=QcP (g:=gT [3,4]) (its:=itES (eVar 0)) (T:=Qaj) (xs:=enumD 0 ((cp x).map fun c=>D.str ⟨#[c]⟩)) (ς:=lS x 0 (-1) none none) rfl hL
 rw[Qhw]
 unfold QbQ
 exact QaJ (fl:=.rt false (.int (scan (cp x) 0 0 (-1)).2)) (r_seq (r_set r_C rfl) (Qy (r_seq (r_set (r_e1 r_C (Qac _)) rfl) (Qy (r_seq hfor (Qy (r_ret (r_var rfl)))))))) r_rt
def pln(c:Nat):Prop:=c≠40/\c≠41/\c≠91/\c≠93/\c≠32
theorem Qnl{c:Nat}(h1:c≠40)(h2:c≠91):opn c=false:=decide_eq_false (by simp[h1,h2])
theorem Qna{c:Nat}(h1:c≠41)(h2:c≠93):clo c=false:=decide_eq_false (by simp[h1,h2])
theorem Qc4{c:Nat}{r:List Nat}(h:c≠32):pls (c::r)=false:=by
 unfold pls
 rw[beq_eq_false_iff_ne]
 intro z
 rw[List.take_succ_cons]at z
 exact h (List.cons.inj z).1
theorem Qbe{c:Nat}{r:List Nat}{d:Int}{i:Nat}{p:Int}(h:pls (c::r)=false):scan (c::r) d i p=scan r (dst c d) (i+1) p:=by
 show scan r _ _ (if (decide (dst c d=0)&&pls (c::r))=true then(i:Int) else p)=_
 rw[h,Bool.and_false,if_neg Bool.false_ne_true]
theorem QeC{c:Nat}{d:Int}(h1:opn c=false)(h2:clo c=false):dst c d=d:=by
 unfold dst
 rw[h1,h2,if_neg Bool.false_ne_true,if_neg Bool.false_ne_true]
theorem Qbf:∀(w v:List Nat)(d:Int)(i:Nat)(p:Int),(∀ c∈w,pln c)->scan (w++v) d i p=scan v d (i+w.length) p
 | [],v,d,i,p,_=>rfl
 | c::w,v,d,i,p,h=>by
  obtain⟨h1,h2,h3,h4,h5⟩:=h c (List.mem_cons_self ..)
  rw[List.cons_append,Qbe (Qc4 h5),QeC (Qnl h1 h3) (Qna h2 h4),Qbf w v d (i+1) p fun c hc=>h c (List.mem_cons_of_mem _ hc),List.length_cons]
  congr 1
  omega
theorem Qcc{e:Nat}{r:List Nat}{d:Int}{i:Nat}{p:Int}(h:e≠43):scan (32::e::r) d i p=scan (e::r) d (i+1) p:=by
 have hp:pls (32::e::r)=false:=by
  unfold pls
  rw[beq_eq_false_iff_ne]
  intro z
  rw[List.take_succ_cons,List.take_succ_cons]at z
  exact h (List.cons.inj (List.cons.inj z).2).1
 rw[Qbe hp,QeC (by decide) (by decide)]
theorem QhL{c:Nat}{r:List Nat}{d:Int}{i:Nat}{p:Int}(h:c=40∨c=91):scan (c::r) d i p=scan r (d+1) (i+1) p:=by
 rcases h with rfl | rfl
 ·rw[Qbe (Qc4 (by decide))];rfl
 ·rw[Qbe (Qc4 (by decide))];rfl
theorem QhO{c:Nat}{r:List Nat}{d:Int}{i:Nat}{p:Int}(h:c=41∨c=93):scan (c::r) (d+1) i p=scan r d (i+1) p:=by
 have e:d+1 - 1=d:=by omega
 rcases h with rfl | rfl
 ·rw[Qbe (Qc4 (by decide))]
  show scan r (d+1 - 1) _ _=_
  rw[e]
 ·rw[Qbe (Qc4 (by decide))]
  show scan r (d+1 - 1) _ _=_
  rw[e]
theorem Ql1{e:Nat}{r:List Nat}{d:Int}{i:Nat}{p:Int}(h:e≠43):scan (32::43::32::e::r) d i p=scan (e::r) d (i+3) (if d=0 then(i:Int) else p):=by
 have h0:dst 32 d=d:=QeC (by decide) (by decide)
 have h1:∀ q:Int,scan (43::32::e::r) d (i+1) q=scan (e::r) d (i+3) q:=fun q=>by
  rw[Qbe (Qc4 (by decide)),QeC (by decide) (by decide),Qcc h]
 show scan _ (dst 32 d) (i+1) (if (decide (dst 32 d=0)&&pls (32::43::32::e::r))=true then(i:Int) else p)=_
 rw[h0,h1]
 have hp:pls (32::43::32::e::r)=true:=rfl
 rw[hp,Bool.and_true]
 by_cases hd:d=0
 ·rw[if_pos (decide_eq_true hd),if_pos hd]
 ·rw[if_neg (by simp[hd]),if_neg hd]
theorem abc_r:∀ c∈abc.cps.toList,97<=c/\c<=122:=dk
theorem it_r{k:Int}(h0:0<=k)(h1:k<=12):(∀ c∈cp (it k),48<=c/\c<=57)/\∃ e r,cp (it k)=e::r/\48<=e/\e<=57:=by
 have:k=0∨k=1∨k=2∨k=3∨k=4∨k=5∨k=6∨k=7∨k=8∨k=9∨k=10∨k=11∨k=12:=by omega
 have key:∀ l:List Nat,(∀ c∈l,48<=c/\c<=57)->l≠[]->(∀ c∈l,48<=c/\c<=57)/\∃ e r,l=e::r/\48<=e/\e<=57:=fun l h n=>by
  cases l with
  | nil=>exact absurd rfl n
  | cons e r=>exact⟨h,e,r,rfl,h e (List.mem_cons_self ..)⟩
 rcases this with rfl | rfl | rfl | rfl | rfl | rfl | rfl | rfl | rfl | rfl | rfl | rfl | rfl<;>exact key _ (dk) (dk)
theorem QeT{c:Nat}(h:48<=c/\c<=57):pln c:=⟨by omega,by omega,by omega,by omega,by omega⟩
def hdok(c:Nat):Prop:=c≠43/\c≠32/\c≠40/\c≠41
theorem tx_hd:∀ s:Sm,s.ok->∃ c r,cp s.tx=c::r/\hdok c
 | .nm x,h=>by
  have hn:=h.ne
  have hl:=h.ls
  show ∃ c r,cp x=c::r/\hdok c
  cases e:cp x with
  | nil=>rw[← Q0,show x.cps.toList=[] from e]at hn;simp at hn
  | cons c r=>
   have:=abc_r c (hl c (by rw[show x.cps.toList=c::r from e];exact List.mem_cons_self ..))
   exact⟨c,r,rfl,by omega,by omega,by omega,by omega⟩
 | .tm k s,h=>by
  obtain⟨_,e,r,he,h0,h1⟩:=it_r h.1.1 (Int.le_trans h.1.2 (by decide))
  refine⟨e,r++cp (" ":Str)++cp (brk (s.isT||s.isP) s.tx),?_,by omega,by omega,by omega,by omega⟩
  show cp (it k++(" ":Str)++brk (s.isT||s.isP) s.tx)=_
  rw[Qx,Qx,he];rfl
 | .pl s t,h=>by
  obtain⟨c,r,e,hc⟩:=tx_hd s h.1
  refine⟨c,r++cp (" + ":Str)++cp (brk t.isP t.tx),?_,hc⟩
  show cp (s.tx++(" + ":Str)++brk t.isP t.tx)=_
  rw[Qx,Qx,e];rfl
 | .sh s c d,h=>⟨91,cp s.tx++cp (" : ":Str)++cp (it c)++cp (" / ":Str)++cp (it d)++cp ("]":Str),by
  show cp (("[":Str)++s.tx++(" : ":Str)++it c++(" / ":Str)++it d++("]":Str))=_
  rw[Qx,Qx,Qx,Qx,Qx,Qx];rfl,by decide,by decide,by decide,by decide⟩
theorem Qgo(b:Bool)(x:Str):cp (brk b x)=if b=true then 40::(cp x++[41]) else cp x:=by
 cases b with
 | false=>rfl
 | true=>
  show cp (("(":Str)++x++(")":Str))=_
  rw[Qx,Qx];rfl
theorem Qj0{s:Sm}(h:s.ok)(b:Bool):∃ c r,cp (brk b s.tx)=c::r/\c≠43:=by
 rw[Qgo]
 cases b with
 | true=>exact⟨40,_,rfl,by decide⟩
 | false=>
  obtain⟨c,r,e,hc⟩:=tx_hd s h
  exact⟨c,r,e,hc.1⟩
def Sm.lp:Sm->Nat->Int->Int
 | .pl s _,i,_=>((i+(cp s.tx).length:Nat):Int)
 | _,_,p=>p
theorem QjZ{s:Sm}(ih:∀(v:List Nat)(d:Int)(i:Nat)(p:Int),0<=d->scan (cp s.tx++v) d i p=scan v d (i+(cp s.tx).length) (if d=0 then s.lp i p else p)){b:Bool}(hb:b=true∨s.isP=false)(v:List Nat)(d:Int)(i:Nat)(p:Int)(hd:0<=d):
 scan (cp (brk b s.tx)++v) d i p=scan v d (i+(cp (brk b s.tx)).length) p:=by
 rw[Qgo]
 cases b with
 | true=>
  show scan (40::(cp s.tx++[41]++v)) d i p=scan v d (i+(40::(cp s.tx++[41])).length) p
  rw[QhL (.inl rfl),List.append_assoc,ih _ _ _ _ (by omega),if_neg (by omega)]
  show scan (41::v) (d+1) _ p=_
  rw[QhO (.inl rfl)]
  congr 1
  simp
  omega
 | false=>
  have hP:s.isP=false:=by rcases hb with h | h;cases h;exact h
  show scan (cp s.tx++v) d i p=scan v d (i+(cp s.tx).length) p
  rw[ih v d i p hd]
  have hl:s.lp i p=p:=by cases s<;>first | rfl | cases hP
  rw[hl,ite_self]
theorem QcZ:∀ s:Sm,s.ok->∀(v:List Nat)(d:Int)(i:Nat)(p:Int),0<=d->scan (cp s.tx++v) d i p=scan v d (i+(cp s.tx).length) (if d=0 then s.lp i p else p)
 | .nm x,h,v,d,i,p,hd=>by
  show scan (cp x++v) d i p=scan v d (i+(cp x).length) (if d=0 then p else p)
  rw[ite_self]
  exact Qbf _ v d i p fun c hc=>by
   have:=abc_r c (h.ls c hc)
   exact⟨by omega,by omega,by omega,by omega,by omega⟩
 | .tm k s,h,v,d,i,p,hd=>by
  have ih:=QcZ s h.2
  obtain⟨hdg,_⟩:=it_r h.1.1 (Int.le_trans h.1.2 (by decide))
  obtain⟨e,r,he,h43⟩:=Qj0 h.2 (s.isT||s.isP)
  have hs:=QjZ ih (b:=s.isT||s.isP) (by cases s<;>first | exact .inr rfl | exact .inl rfl) v d (i+(cp (it k)).length+1) p hd
  have ec:cp (Sm.tm k s).tx=cp (it k)++32::cp (brk (s.isT||s.isP) s.tx):=by
   show cp (it k++(" ":Str)++brk (s.isT||s.isP) s.tx)=_
   rw[Qx,Qx,List.append_assoc];rfl
  show scan _ d i p=scan v d _ (if d=0 then p else p)
  rw[ite_self,ec,List.append_assoc,Qbf _ _ d i p fun c hc=>QeT (hdg c hc)]
  show scan (32::(cp (brk (s.isT||s.isP) s.tx)++v)) d _ p=_
  rw[he]at hs ⊢
  rw[List.cons_append,Qcc h43]
  rw[List.cons_append]at hs
  rw[hs]
  congr 1
  simp
  omega
 | .pl s t,h,v,d,i,p,hd=>by
  have ih:=QcZ s h.1
  have it':=QcZ t h.2
  obtain⟨e,r,he,h43⟩:=Qj0 h.2 t.isP
  have hs:=fun q:Int=>QjZ it' (b:=t.isP) (by cases t<;>first | exact .inr rfl | exact .inl rfl) v d (i+(cp s.tx).length+3) q hd
  have ec:cp (Sm.pl s t).tx=cp s.tx++32::43::32::cp (brk t.isP t.tx):=by
   show cp (s.tx++(" + ":Str)++brk t.isP t.tx)=_
   rw[Qx,Qx,List.append_assoc];rfl
  show scan _ d i p=scan v d _ (if d=0 then((i+(cp s.tx).length:Nat):Int) else p)
  rw[ec,List.append_assoc,ih _ d i p hd]
  show scan (32::43::32::(cp (brk t.isP t.tx)++v)) d _ _=_
  rw[he]at hs ⊢
  rw[List.cons_append,Ql1 h43]
  have hs:=hs (if d=0 then((i+(cp s.tx).length:Nat):Int) else if d=0 then s.lp i p else p)
  rw[List.cons_append]at hs
  rw[hs]
  congr 1
  ·simp
   omega
  ·by_cases hz:d=0
   ·rw[if_pos hz,if_pos hz]
   ·rw[if_neg hz,if_neg hz,if_neg hz]
 | .sh s c d',h,v,d,i,p,hd=>by
  have ih:=QcZ s h.2.2
  obtain⟨⟨c0,c1⟩,d1,so⟩:=h
  obtain⟨g1,e1',r1,x1,y1,z1⟩:=it_r (k:=c) c0 (by omega)
  obtain⟨g2,e2',r2,x2,y2,z2⟩:=it_r (k:=d') (by omega) d1
  have ec:cp (Sm.sh s c d').tx=91::(cp s.tx++32::58::32::(cp (it c)++32::47::32::(cp (it d')++[93]))):=by
   show cp (("[":Str)++s.tx++(" : ":Str)++it c++(" / ":Str)++it d'++("]":Str))=_
   rw[Qx,Qx,Qx,Qx,Qx,Qx]
   show [91]++cp s.tx++[32,58,32]++cp (it c)++[32,47,32]++cp (it d')++[93]=_
   simp
  show scan _ d i p=scan v d _ (if d=0 then p else p)
  have hl:(cp (Sm.sh s c d').tx).length=(cp s.tx).length+(cp (it c)).length+(cp (it d')).length+8:=by rw[ec];simp;omega
  rw[ite_self,hl,ec]
  simp only[List.cons_append,List.append_assoc]
  rw[QhL (.inr rfl),ih _ _ _ _ (by omega),if_neg (by omega)]
  rw[Qcc (by decide)]
  have q1:=Qbf [58] (32::(cp (it c)++32::47::32::(cp (it d')++93::v))) (d+1) (i+1+(cp s.tx).length+1) p (fun c hc=>by rw[List.mem_singleton.mp hc];exact⟨by decide,by decide,by decide,by decide,by decide⟩)
  have q2:scan (32::(cp (it c)++32::47::32::(cp (it d')++93::v))) (d+1) (i+1+(cp s.tx).length+1+1) p=scan (cp (it c)++32::47::32::(cp (it d')++93::v)) (d+1) (i+1+(cp s.tx).length+1+1+1) p:=by
   rw[x1,List.cons_append,Qcc (by omega)]
  have q3:=Qbf (cp (it c)) (32::47::32::(cp (it d')++93::v)) (d+1) (i+1+(cp s.tx).length+1+1+1) p (fun c hc=>QeT (g1 c hc))
  have q4:scan (32::47::32::(cp (it d')++93::v)) (d+1) (i+1+(cp s.tx).length+1+1+1+(cp (it c)).length) p=scan (47::32::(cp (it d')++93::v)) (d+1) (i+1+(cp s.tx).length+1+1+1+(cp (it c)).length+1) p:=Qcc (by decide)
  have q5:=Qbf [47] (32::(cp (it d')++93::v)) (d+1) (i+1+(cp s.tx).length+1+1+1+(cp (it c)).length+1) p (fun c hc=>by rw[List.mem_singleton.mp hc];exact⟨by decide,by decide,by decide,by decide,by decide⟩)
  have q6:scan (32::(cp (it d')++93::v)) (d+1) (i+1+(cp s.tx).length+1+1+1+(cp (it c)).length+1+1) p=scan (cp (it d')++93::v) (d+1) (i+1+(cp s.tx).length+1+1+1+(cp (it c)).length+1+1+1) p:=by
   rw[x2,List.cons_append,Qcc (by omega)]
  have q7:=Qbf (cp (it d')) (93::v) (d+1) (i+1+(cp s.tx).length+1+1+1+(cp (it c)).length+1+1+1) p (fun c hc=>QeT (g2 c hc))
  refine q1.trans (q2.trans (q3.trans (q4.trans (q5.trans (q6.trans (q7.trans ?_))))))
  rw[QhO (.inr rfl)]
  congr 1
  omega
theorem lp_sm{s:Sm}(h:s.ok):QO [.str s.tx]=.ok (.int (s.lp 0 (-1))):=by
 rw[lp_ok]
 have:=QcZ s h [] 0 0 (-1) (Int.le_refl 0)
 rw[List.append_nil,if_pos rfl]at this
 rw[this];rfl
theorem Qay(x:Str):(cp x).length=x.length:=Q0 x
theorem Qey(s sub:Str)(i:Nat):Builtin.Str.subAt s sub i=(((cp s).drop i).take sub.length == cp sub):=StrLaws.subAt_eq s sub i
theorem QhM(s:Str)(i j:Nat):cp (Builtin.Str.strSub s i j)=((cp s).drop i).take (j - i):=StrLaws.strSub_toList s i j
theorem Qez{x y:Str}{c a:Nat}{r:List Nat}(hy:cp y=[a])(hx:cp x=c::r):sts0 x y=(c == a):=by
 have hl:y.length=1:=by rw[← Qay,hy];rfl
 have hm:x.length=r.length+1:=by rw[← Qay,hx];rfl
 unfold sts0
 rw[Qey,hl,hy,hx,decide_eq_true (by omega),Bool.true_and]
 show([c] == [a])=(c == a)
 simp
theorem QhR{x y:Str}{c a:Nat}{l:List Nat}(hy:cp y=[a])(hx:cp x=l++[c]):ends0 x y=(c == a):=by
 have hl:y.length=1:=by rw[← Qay,hy];rfl
 have hm:x.length=l.length+1:=by rw[← Qay,hx];simp
 unfold ends0
 rw[Qey,hl,hy,hx,decide_eq_true (by omega),Bool.true_and,hm,Nat.add_sub_cancel,List.drop_left]
 show([c] == [a])=(c == a)
 simp
theorem r_slS{A:SD->Out D}{L U:SD->Out (Option Int)}{ς:SD}{x y:Str}{p q:Option Int}(ha:A ς=.ok (.str x))(hl:L ς=.ok p)(hu:U ς=.ok q)(hx:x.length<=100000)(h:Txt.slice x p q=y):eSlS A L U ς=.ok (.str y):=by
 unfold eSlS
 rw[ha,Out.bind_ok,hl,Out.bind_ok,hu,Out.bind_ok]
 show(if decide (x.length<=sizeLine)=true then Out.ok (D.str (Txt.slice x p q)) else .stuck)=_
 have h2:(100000:Nat)<=sizeLine:=by decide
 rw[if_pos (decide_eq_true (by omega)),h]
theorem r_sm{f:D->List D->Out D}{O:SD->Out D}{AA:SD->Out (List D)}{ς:SD}{x:Str}{ys:List D}{r:Out D}(ho:O ς=.ok (.str x))(ha:AA ς=.ok ys)(h:f (.str x) ys=r):eSm f O AA ς=r:=by
 unfold eSm
 rw[ho,Out.bind_ok]
 show(AA ς>>=fun ys=>f (.str x) ys)=r
 rw[ha];exact h
theorem QjW{s:Sm}(h:s.ok){N:Nat}(ht:Tx s.tx N)(hN:N<=5000)(b:Bool):QZ [.str (brk b s.tx)]=.ok (.str s.tx):=by
 have c1:cp ("(":Str)=[40]:=dk
 have c2:cp (")":Str)=[41]:=dk
 rw[QfA]
 unfold Qbd
 cases b with
 | true=>
  have e1':cp (brk true s.tx)=40::(cp s.tx++[41]):=Qgo true s.tx
  have e2':cp (brk true s.tx)=(40::cp s.tx)++[41]:=e1'
  have s1:fSts (.str (brk true s.tx)) [.str "("]=.ok (.bl true):=congrArg (fun z=>Out.ok (D.bl z)) (Qez c1 e1')
  have s2:fEnds (.str (brk true s.tx)) [.str ")"]=.ok (.bl true):=congrArg (fun z=>Out.ok (D.bl z)) (QhR c2 e2')
  have hl:=(Qdx (b:=true) ht).len
  exact QaJ (fl:=.rt false (.str s.tx)) (r_seq (r_ifT (QaR (Qo (r_sm (r_var rfl) (Qi r_C r_nil) s1)) (Qcp rfl (Qo (r_sm (r_var rfl) (Qi r_C r_nil) s2)))) rfl (r_ret (r_slS (r_var rfl) (Q5 r_C) (Q5 (r_e1 r_C (Qac _))) (by omega) (sl_in e1')))) QcX) r_rt
 | false=>
  obtain⟨c,r,e,hc⟩:=tx_hd s h
  have hb:(c == 40)=false:=by simpa using hc.2.2.1
  have s1:fSts (.str s.tx) [.str "("]=.ok (.bl false):=by rw[← hb];exact congrArg (fun z=>Out.ok (D.bl z)) (Qez c1 e)
  show(_>>=_)=_
  exact QaJ (fl:=.rt false (.str s.tx)) (r_seq (r_ifF (QaR (Qo (r_sm (x:=s.tx) (r_var rfl) (Qi r_C r_nil) s1)) (Qax rfl rfl)) rfl QM) (Qy (r_ret (r_var rfl)))) r_rt
theorem num2{k:Int}(h0:0<=k)(h1:k<=12):QV [.str (it k),.int 2]=.ok (.bl true)/\f1 dIntT [.str (it k)]=.ok (.int k):=by
 have:k=0∨k=1∨k=2∨k=3∨k=4∨k=5∨k=6∨k=7∨k=8∨k=9∨k=10∨k=11∨k=12:=by omega
 rcases this with rfl | rfl | rfl | rfl | rfl | rfl | rfl | rfl | rfl | rfl | rfl | rfl | rfl<;>exact⟨by kernel_rfl,by kernel_rfl⟩
theorem num1{k:Int}(h0:0<=k)(h1:k<=9):QV [.str (it k),.int 1]=.ok (.bl true)/\∃ e,cp (it k)=[e]:=by
 have:k=0∨k=1∨k=2∨k=3∨k=4∨k=5∨k=6∨k=7∨k=8∨k=9:=by omega
 rcases this with rfl | rfl | rfl | rfl | rfl | rfl | rfl | rfl | rfl | rfl
 ·exact⟨by kernel_rfl,48,dk⟩
 ·exact⟨by kernel_rfl,49,dk⟩
 ·exact⟨by kernel_rfl,50,dk⟩
 ·exact⟨by kernel_rfl,51,dk⟩
 ·exact⟨by kernel_rfl,52,dk⟩
 ·exact⟨by kernel_rfl,53,dk⟩
 ·exact⟨by kernel_rfl,54,dk⟩
 ·exact⟨by kernel_rfl,55,dk⟩
 ·exact⟨by kernel_rfl,56,dk⟩
 ·exact⟨by kernel_rfl,57,dk⟩
theorem ix0{x:Str}{c:Nat}{r:List Nat}(hl:x.length<=1000)(hx:cp x=c::r):dIx (.str x) (.int 0)=.ok (.str ⟨#[c]⟩):=by
 show(if fits x.length=true then optO ((atI x.cps.toList ((0:Nat):Int)).map fun c=>D.str ⟨#[c]⟩) else .stuck)=_
 rw[if_pos (Qcb hl),Qce (show x.cps.toList[0]?=some c by rw[show x.cps.toList=c::r from hx];rfl)]
 rfl
theorem Ql2{x:Str}{e:Nat}(h:cp x=[e]):(⟨#[e]⟩:Str)=x:=QbV h.symm
theorem ok_sl{x:Str}(h:PyData.strOk x=true):PyData.strOk (Txt.slice x (some 1) (some 2))=true:=by
 have hx:(cp x).all (· < 0x110000)=true:=by rw[Array.all_toList];exact h
 have hs:(cp (Txt.slice x (some 1) (some 2))).all (· < 0x110000)=true:=by
  rw[QfW]
  exact List.all_eq_true.mpr fun c hc=>List.all_eq_true.mp hx c (List.mem_of_mem_drop (List.mem_of_mem_take hc))
 rw[Array.all_toList]at hs
 exact hs
theorem QkE{x:Str}(h:PyData.strOk x=true)(h2:(cp x)[1]?≠some 32):dEq (.str (Txt.slice x (some 1) (some 2))) (.str " ")=.ok (.bl false):=by
 refine streq (ha:=ok_sl h) (h:=?_)
 rw[beq_eq_false_iff_ne]
 intro z
 have z:=congrArg cp z
 rw[QfW]at z
 have hb:cp (" ":Str)=[32]:=dk
 rw[hb]at z
 have:((cp x).drop 1)[0]?=some 32:=by
  have q:=congrArg (fun l:List Nat=>l[0]?) z
  simpa using q
 rw[List.getElem?_drop]at this
 exact h2 this
theorem Ql3{x:Str}{c:Nat}{r:List Nat}(h:cp x=c::32::r):Txt.slice x (some 1) (some 2)=" ":=by
 refine QbV ?_
 have hb:cp (" ":Str)=[32]:=dk
 rw[QfW,h,hb]
 rfl
theorem QkG:dEq (.str " ") (.str " ")=.ok (.bl true):=streq
theorem Qk4{u w:Str}(hw:(58:Nat)∉cp w):QbS (u++(" : ":Str)++w) " : "=(u,(" : ":Str),w):=by
 have hs:cp (" : ":Str)=[32,58,32]:=dk
 have hl:(" : ":Str).length=3:=dk
 have hx:cp (u++(" : ":Str)++w)=cp u++32::58::32::cp w:=by rw[Qx,Qx,hs,List.append_assoc];rfl
 have hxl:(u++(" : ":Str)++w).length=u.length+3+w.length:=by rw[Qbi,Qbi,hl]
 generalize hX:u++(" : ":Str)++w=x at *
 have hat:StrLaws.At x " : " x.length u.length:=by
  refine⟨by rw[hl];omega,?_⟩
  rw[Qey,hl,hs,hx, ← Qay u,List.drop_left]
  rfl
 have hno:∀ k,u.length<k->¬ StrLaws.At x " : " x.length k:=fun k hk ⟨_,h⟩=>by
  rw[Qey,hl,hs,beq_iff_eq]at h
  have h1:((cp x).drop k)[1]?=some 58:=by
   have q:=congrArg (fun l:List Nat=>l[1]?) h
   simpa using q
  rw[List.getElem?_drop,hx]at h1
  obtain⟨j,rfl⟩:∃ j,k=u.length+1+j:=⟨k - (u.length+1),by omega⟩
  rw[List.getElem?_append_right (by rw[Qay];omega),Qay,show u.length+1+j+1 - u.length=j+2 by omega]at h1
  have h1:(32::cp w)[j]?=some 58:=h1
  rcases List.mem_cons.mp (List.mem_of_getElem? h1) with z | z
  ·cases z
  ·exact hw z
 have hlast:Builtin.Str.lastOccurrence x " : " 0 x.length=some u.length:=by
  rcases StrLaws.last_spec x " : " with⟨_,h⟩ | ⟨i,h1,h2,h3⟩
  ·exact absurd hat (h _)
  ·rw[h1]
   congr 1
   rcases Nat.lt_trichotomy i u.length with h | h | h
   ·exact absurd hat (h3 _ h)
   ·exact h
   ·exact absurd h2 (hno i h)
 unfold QbS
 rw[hlast]
 show(Builtin.Str.strSub x 0 u.length,(" : ":Str),Builtin.Str.strSub x (u.length+(" : ":Str).length) x.length)=_
 have p1:Builtin.Str.strSub x 0 u.length=u:=QbV (by rw[QhM,hx,List.drop_zero,Nat.sub_zero, ← Qay u,List.take_left])
 have p2:Builtin.Str.strSub x (u.length+(" : ":Str).length) x.length=w:=QbV (by
  rw[QhM,hx,hl, ← List.drop_drop, ← Qay u,List.drop_left]
  show(cp w).take _=_
  rw[List.take_of_length_le (by rw[Qay,hxl,Qay];omega)])
 rw[p1,p2]
theorem Qlh:∀ c:Fin 13,∀ d:Fin 13,partF (it ((c.val:Nat):Int)++(" / ":Str)++it ((d.val:Nat):Int)) " / "=(it ((c.val:Nat):Int),(" / ":Str),it ((d.val:Nat):Int)):=dk
theorem QlR{c d:Int}(c0:0<=c)(c1:c<=12)(d0:0<=d)(d1:d<=12):partF (it c++(" / ":Str)++it d) " / "=(it c,(" / ":Str),it d):=by
 have:=Qlh ⟨c.toNat,by omega⟩ ⟨d.toNat,by omega⟩
 simp only[Int.toNat_of_nonneg c0,Int.toNat_of_nonneg d0]at this
 exact this
theorem r_prt{f:Str->Str->Str×Str×Str}{O:SD->Out D}{ς:SD}{x y a b c:Str}(ho:O ς=.ok (.str x))(hy:(y.length == 0)=false)(hx:x.length<=100000)(h:f x y=(a,b,c)):eSm (fPart f) O (aCons (eC (.str y)) aNil) ς=.ok (.tup [.str a,.str b,.str c]):=by
 refine r_sm ho (Qi r_C r_nil) ?_
 show(if (!(y.length == 0)&&decide (x.length<=sizeLine))=true then Out.ok (D.tup [.str (f x y).1,.str (f x y).2.1,.str (f x y).2.2]) else .stuck)=_
 have h2:(100000:Nat)<=sizeLine:=by decide
 rw[if_pos (by rw[hy];simp;omega),h]
theorem ix_tt{xs:List D}{d:D}(i:Nat)(h:xs[i]?=some d):dIx (.tup xs) (.int (i:Int))=.ok d:=by
 show optO (atI xs (i:Int))=_
 rw[Qce h];rfl
theorem rs_ok{s:Sm}{c d dp:Int}{r1 r2:List D->Out D}(c0:0<=c)(c1:c<d)(d1:d<=12){N:Nat}(ht:Tx s.tx N)(hN:N<=5000)(ih:r2 [.str s.tx,.int dp]=.ok s.d):
 Q4 r1 r2 [.str (s.tx++(" : ":Str)++(it c++(" / ":Str)++it d)),.int dp]=.ok (.tup [.str "share",s.d,.int c,.int d]):=by
 obtain⟨n1,i1⟩:=num2 c0 (by omega)
 obtain⟨n2,i2⟩:=num2 (k:=d) (by omega) d1
 obtain⟨g1,_⟩:=it_r c0 (by omega)
 obtain⟨g2,_⟩:=it_r (k:=d) (by omega) d1
 have hw:(58:Nat)∉cp (it c++(" / ":Str)++it d):=by
  rw[Qx,Qx]
  have hs:cp (" / ":Str)=[32,47,32]:=dk
  rw[hs]
  intro h
  rcases List.mem_append.mp h with h | h
  ·rcases List.mem_append.mp h with h | h
   ·have:=g1 _ h;omega
   ·revert h;decide
  ·have:=g2 _ h;omega
 have hr:=Qk4 (u:=s.tx) hw
 have hp:=QlR c0 (by omega) (show 0<=d by omega) d1
 have t1':=(QaV c0 (by omega)).2
 have t2':=(QaV (k:=d) (by omega) d1).2
 have tw:=(t1'.app t7).app t2'
 have tx:=(ht.app t6).app tw
 have q1:=tw.len
 have q2:=tx.len
 generalize hW:it c++(" / ":Str)++it d=w at *
 generalize hX:s.tx++(" : ":Str)++w=x at *
 have s2:eSm (fPart QbS) (eVar 0) (aCons (eC (.str " : ")) aNil) [some (.k,.str x),some (.k,.int dp),none,none]=.ok (.tup [.str s.tx,.str " : ",.str w]):=r_prt (r_var rfl) (dk) (by omega) hr
 have s3:eSm (fPart partF) (e2 dIx (eVar 2) (eC (.int 2))) (aCons (eC (.str " / ")) aNil) [some (.k,.str x),some (.k,.int dp),some (.k,.tup [.str s.tx,.str " : ",.str w]),none]=.ok (.tup [.str (it c),.str " / ",.str (it d)]):=r_prt (r_e2 (r_var rfl) r_C (ix_tt 2 rfl)) (dk) (by omega) hp
 have j0:dIx (.tup [.str (it c),.str " / ",.str (it d)]) (.int 0)=.ok (.str (it c)):=ix_tt 0 rfl
 have j2:dIx (.tup [.str (it c),.str " / ",.str (it d)]) (.int 2)=.ok (.str (it d)):=ix_tt 2 rfl
 have k0:dIx (.tup [.str s.tx,.str " : ",.str w]) (.int 0)=.ok (.str s.tx):=ix_tt 0 rfl
 rw[Qge]
 unfold Qbr
 refine QaJ (fl:=.rt false (.tup [.str "share",s.d,.int c,.int d])) (r_seq (r_set s2 rfl) (Qy (r_seq (r_set s3 rfl) (Qy (r_seq (r_ifF (r_or' (Qbq (Qo (QK (xs:=[.str (it c),.int 2]) (Qi (r_e2 (r_var rfl) r_C j0) (Qi r_C r_nil)) rfl n1))) (Qax rfl (Qbq (Qo (QK (xs:=[.str (it d),.int 2]) (Qi (r_e2 (r_var rfl) r_C j2) (Qi r_C r_nil)) rfl n2))))) rfl QM) (Qy ?_)))))) r_rt
 exact r_ret (r_tup (Qi r_C (Qi (QK (xs:=[.str s.tx,.int dp]) (Qi (r_e2 (r_var rfl) r_C k0) (Qi (r_var rfl) r_nil)) rfl ih) (Qi (r_eA (Qi (r_e2 (r_var rfl) r_C j0) r_nil) i1) (Qi (r_eA (Qi (r_e2 (r_var rfl) r_C j2) r_nil) i2) r_nil)))) (by show 4<=1000;decide))
theorem len3:fLen [.str " + "]=.ok (.int 3):=by kernel_rfl
theorem rp_ok:∀ s:Sm,s.ok->s.parts<=40->∀(n:Nat)(dp:Int),2 * s.dep<=n->dp+(s.dep:Int)<=41->(Qv n).2 [.str s.tx,.int dp]=.ok s.d
 | .nm x,h,hp,n,dp,hn,hd=>by
  have hn:2 * 1<=n:=hn
  have hd:dp+((1:Nat):Int)<=41:=hd
  obtain⟨m,rfl⟩:∃ m,n=m+1:=⟨n - 1,by omega⟩
  have hlp:QO [.str x]=.ok (.int (-1)):=lp_sm (s:=.nm x) h
  obtain⟨c,r,e,hc⟩:=tx_hd (.nm x) h
  have e:cp x=c::r:=e
  have hl:=h.tx.len
  have c91:(c == 91)=false:=by
   have:=abc_r c (h.ls c (by rw[show x.cps.toList=c::r from e];exact List.mem_cons_self ..))
   rw[beq_eq_false_iff_ne];omega
  have s1:fSts (.str x) [.str "["]=.ok (.bl false):=by rw[← c91];exact congrArg (fun z=>Out.ok (D.bl z)) (Qez (show cp ("[":Str)=[91] by decide +kernel) e)
  have h2:=QkE (x:=x) h.tx.ok (fun z=>by
   have:=abc_r 32 (h.ls 32 (List.mem_of_getElem? z))
   omega)
  show(Qv (m+1)).2 [.str x,.int dp]=Out.ok (D.tup [.str "name",.str x])
  rw[QbG,QbN]
  unfold Qap
  refine QaJ (fl:=.rt false (.tup [.str "name",.str x])) (r_seq (r_ifF (Qo (r_e2 (r_var rfl) r_C (Qaf _ _))) (decide_eq_false (by omega)) QM) (Qy (r_seq (r_set (QK (xs:=[.str x]) (Qi (r_var rfl) r_nil) rfl hlp) rfl) (Qy (r_seq (r_ifF (Qo (r_e2 (r_var rfl) r_C (Qah _ _))) (by decide) QM) (Qy ?_)))))) r_rt
  refine r_seq (r_ifF (QaR (Qo (r_e2 (r_slS (r_var rfl) (Q5 r_C) (Q5 r_C) (by omega) rfl) r_C h2)) (Qax rfl rfl)) rfl QM) (Qy ?_)
  exact r_seq (r_ifF (QaR (Qo (r_sm (r_var rfl) (Qi r_C r_nil) s1)) (Qax rfl rfl)) rfl QM) (Qy (r_ret (r_tup (Qi r_C (Qi (r_var rfl) r_nil)) (by show 2<=1000;decide))))
 | .tm k s,h,hp,n,dp,hn,hd=>by
  have hn:2 * (s.dep+1)<=n:=hn
  have hd:dp+((s.dep+1:Nat):Int)<=41:=hd
  have hp:s.parts+1<=40:=hp
  obtain⟨m,rfl⟩:∃ m,n=m+1:=⟨n - 1,by omega⟩
  have ih:=rp_ok s h.2 (by omega) m (dp+1) (by omega) (by omega)
  have hlp:QO [.str (Sm.tm k s).tx]=.ok (.int (-1)):=lp_sm (s:=.tm k s) h
  have htx:=tx_ok s h.2
  have hT:=tx_ok (.tm k s) h
  have hTl:=hT.len
  have hTp:(Sm.tm k s).parts=s.parts+1:=rfl
  rw[hTp]at hTl
  obtain⟨n1,e,he⟩:=num1 h.1.1 h.1.2
  obtain⟨_,ii⟩:=num2 h.1.1 (Int.le_trans h.1.2 (by decide))
  have hub:=QjW h.2 htx (by omega) (s.isT||s.isP)
  have ec:cp (Sm.tm k s).tx=e::32::cp (brk (s.isT||s.isP) s.tx):=by
   show cp (it k++(" ":Str)++brk (s.isT||s.isP) s.tx)=_
   rw[Qx,Qx,he];rfl
  have hi0:dIx (.str (Sm.tm k s).tx) (.int 0)=.ok (.str (it k)):=by rw[ix0 (by omega) ec,Ql2 he]
  have hsl:Txt.slice (Sm.tm k s).tx (some 2) none=brk (s.isT||s.isP) s.tx:=QhP (u:=it k++(" ":Str)) rfl (by rw[Qbi, ← Qay (it k),he,show(" ":Str).length=1 by decide +kernel];rfl)
  have hsy:=Ql3 ec
  have hds:(Sm.tm k s).d=.tup [.str "times",.int k,s.d]:=rfl
  rw[QbG,QbN,hds]
  generalize (Sm.tm k s).tx=x at *
  unfold Qap
  refine QaJ (fl:=.rt false (.tup [.str "times",.int k,s.d])) (r_seq (r_ifF (Qo (r_e2 (r_var rfl) r_C (Qaf _ _))) (decide_eq_false (by omega)) QM) (Qy (r_seq (r_set (QK (xs:=[.str x]) (Qi (r_var rfl) r_nil) rfl hlp) rfl) (Qy (r_seq (r_ifF (Qo (r_e2 (r_var rfl) r_C (Qah _ _))) (by decide) QM) (Qy ?_)))))) r_rt
  refine r_seq (fl:=.rt false (.tup [.str "times",.int k,s.d])) (r_ifT (QaR (Qo (r_e2 (r_slS (r_var rfl) (Q5 r_C) (Q5 r_C) (by omega) hsy) r_C QkG)) (Qcp rfl (Qo (QK (xs:=[.str (it k),.int 1]) (Qi (r_e2 (r_var rfl) r_C hi0) (Qi r_C r_nil)) rfl n1)))) rfl ?_) QcX
  refine r_ret (r_tup (Qi r_C (Qi (r_eA (Qi (r_e2 (r_var rfl) r_C hi0) r_nil) ii) (Qi (QK (xs:=[.str s.tx,.int (dp+1)]) (Qi (QK (xs:=[.str (brk (s.isT||s.isP) s.tx)]) (Qi (r_slS (r_var rfl) (Q5 r_C) r_oNo (by omega) hsl) r_nil) rfl hub) (Qi (r_e2 (r_var rfl) r_C (QY _ _)) r_nil)) rfl ih) r_nil))) (by show 3<=1000;decide))
 | .pl s t,h,hp,n,dp,hn,hd=>by
  have hn:2 * (max s.dep t.dep+1)<=n:=hn
  have hd:dp+((max s.dep t.dep+1:Nat):Int)<=41:=hd
  have hp:s.parts+t.parts+1<=40:=hp
  obtain⟨m,rfl⟩:∃ m,n=m+1:=⟨n - 1,by omega⟩
  have ih1:=rp_ok s h.1 (by omega) m (dp+1) (by omega) (by omega)
  have ih2:=rp_ok t h.2 (by omega) m (dp+1) (by omega) (by omega)
  have hlp:QO [.str (Sm.pl s t).tx]=.ok (.int ((Sm.pl s t).lp 0 (-1))):=lp_sm (s:=.pl s t) h
  have hlv:(Sm.pl s t).lp 0 (-1)=(s.tx.length:Int):=by
   show((0+(cp s.tx).length:Nat):Int)=_
   rw[Qay,Nat.zero_add]
  rw[hlv]at hlp
  have hty:=tx_ok t h.2
  have hT:=tx_ok (.pl s t) h
  have hTl:=hT.len
  have hTp:(Sm.pl s t).parts=s.parts+t.parts+1:=rfl
  rw[hTp]at hTl
  have hub:=QjW h.2 hty (by omega) t.isP
  have hl3:(" + ":Str).length=3:=dk
  have hs1:Txt.slice (Sm.pl s t).tx none (some (s.tx.length:Int))=s.tx:=by
   refine sl_to (v:=(" + ":Str)++brk t.isP t.tx) ?_
   refine QbV ?_
   show cp (s.tx++(" + ":Str)++brk t.isP t.tx)=_
   rw[Qx,Qx,Qx,Qx,List.append_assoc]
  have hs2:Txt.slice (Sm.pl s t).tx (some ((s.tx.length:Int)+3)) none=brk t.isP t.tx:=QhP (u:=s.tx++(" + ":Str)) rfl (by rw[Qbi,hl3];omega)
  have hds:(Sm.pl s t).d=.tup [.str "plus",s.d,t.d]:=rfl
  rw[QbG,QbN,hds]
  generalize (Sm.pl s t).tx=x at *
  unfold Qap
  refine QaJ (fl:=.rt false (.tup [.str "plus",s.d,t.d])) (r_seq (r_ifF (Qo (r_e2 (r_var rfl) r_C (Qaf _ _))) (decide_eq_false (by omega)) QM) (Qy (r_seq (r_set (QK (xs:=[.str x]) (Qi (r_var rfl) r_nil) rfl hlp) rfl) (Qy (r_seq (fl:=.rt false (.tup [.str "plus",s.d,t.d])) (r_ifT (Qo (r_e2 (r_var rfl) r_C (Qah _ _))) (decide_eq_true (by omega)) ?_) QcX))))) r_rt
  refine r_seq (r_set (d:=.str t.tx) (QK (xs:=[.str (brk t.isP t.tx)]) (Qi (r_slS (r_var rfl) (Q5 (r_e2 (r_var rfl) (r_eA (Qi r_C r_nil) len3) (QY _ _))) r_oNo (by omega) hs2) r_nil) rfl hub) rfl) (Qy ?_)
  exact r_ret (r_tup (Qi r_C (Qi (QK (xs:=[.str s.tx,.int (dp+1)]) (Qi (r_slS (r_var rfl) r_oNo (Q5 (r_var rfl)) (by omega) hs1) (Qi (r_e2 (r_var rfl) r_C (QY _ _)) r_nil)) rfl ih1) (Qi (QK (xs:=[.str t.tx,.int (dp+1)]) (Qi (r_var rfl) (Qi (r_e2 (r_var rfl) r_C (QY _ _)) r_nil)) rfl ih2) r_nil))) (by show 3<=1000;decide))
 | .sh s c d,h,hp,n,dp,hn,hd=>by
  have hn:2 * (s.dep+1)<=n:=hn
  have hd:dp+((s.dep+1:Nat):Int)<=41:=hd
  have hp:s.parts+1<=40:=hp
  obtain⟨m,rfl⟩:∃ m,n=m+1+1:=⟨n - 2,by omega⟩
  have ih:=rp_ok s h.2.2 (by omega) m (dp+1) (by omega) (by omega)
  have hlp:QO [.str (Sm.sh s c d).tx]=.ok (.int (-1)):=lp_sm (s:=.sh s c d) h
  have htx:=tx_ok s h.2.2
  have hT:=tx_ok (.sh s c d) h
  have hTl:=hT.len
  have hTo:=hT.ok
  have hTp:(Sm.sh s c d).parts=s.parts+1:=rfl
  rw[hTp]at hTl
  have hrs:=rs_ok (r1:=(Qv m).1) (r2:=(Qv m).2) h.1.1 h.1.2 h.2.1 htx (by omega) ih
  have hrs:(Qv (m+1)).1 [.str (s.tx++(" : ":Str)++(it c++(" / ":Str)++it d)),.int (dp+1)]=.ok (.tup [.str "share",s.d,.int c,.int d]):=by rw[Qgn];exact hrs
  have ec:cp (Sm.sh s c d).tx=91::(cp (s.tx++(" : ":Str)++(it c++(" / ":Str)++it d))++[93]):=by
   show cp (("[":Str)++s.tx++(" : ":Str)++it c++(" / ":Str)++it d++("]":Str))=_
   simp only[Qx,List.append_assoc]
   rfl
  have ec2:cp (Sm.sh s c d).tx=(91::cp (s.tx++(" : ":Str)++(it c++(" / ":Str)++it d)))++[93]:=ec
  have s1:fSts (.str (Sm.sh s c d).tx) [.str "["]=.ok (.bl true):=congrArg (fun z=>Out.ok (D.bl z)) (Qez (show cp ("[":Str)=[91] by decide +kernel) ec)
  have s2:fEnds (.str (Sm.sh s c d).tx) [.str "]"]=.ok (.bl true):=congrArg (fun z=>Out.ok (D.bl z)) (QhR (show cp ("]":Str)=[93] by decide +kernel) ec2)
  have hsl:=sl_in ec
  obtain⟨e,r,he,hc⟩:=tx_hd s h.2.2
  have h2:=QkE hTo (fun z=>by
   rw[ec,Qx,Qx,he]at z
   have z:some e=some 32:=z
   exact hc.2.1 (Option.some.inj z))
  have hds:(Sm.sh s c d).d=.tup [.str "share",s.d,.int c,.int d]:=rfl
  rw[QbG,QbN,hds]
  generalize (Sm.sh s c d).tx=x at *
  unfold Qap
  refine QaJ (fl:=.rt false (.tup [.str "share",s.d,.int c,.int d])) (r_seq (r_ifF (Qo (r_e2 (r_var rfl) r_C (Qaf _ _))) (decide_eq_false (by omega)) QM) (Qy (r_seq (r_set (QK (xs:=[.str x]) (Qi (r_var rfl) r_nil) rfl hlp) rfl) (Qy (r_seq (r_ifF (Qo (r_e2 (r_var rfl) r_C (Qah _ _))) (by decide) QM) (Qy ?_)))))) r_rt
  refine r_seq (r_ifF (QaR (Qo (r_e2 (r_slS (r_var rfl) (Q5 r_C) (Q5 r_C) (by omega) rfl) r_C h2)) (Qax rfl rfl)) rfl QM) (Qy ?_)
  refine r_seq (fl:=.rt false (.tup [.str "share",s.d,.int c,.int d])) (r_ifT (QaR (Qo (r_sm (r_var rfl) (Qi r_C r_nil) s1)) (Qcp rfl (Qo (r_sm (r_var rfl) (Qi r_C r_nil) s2)))) rfl ?_) QcX
  exact r_ret (QK (xs:=[.str (s.tx++(" : ":Str)++(it c++(" / ":Str)++it d)),.int (dp+1)]) (Qi (r_slS (r_var rfl) (Q5 r_C) (Q5 (r_e1 r_C (Qac _))) (by omega) hsl) (Qi (r_e2 (r_var rfl) r_C (QY _ _)) r_nil)) rfl hrs)
def Gd(r:List D->Out D)(v:D):Prop:=(∃ x,v=.str x/\PyData.strOk x=true)∨(∃ i,v=.int i)∨(∃ xs,v=.tup xs/\r [v,v]=.ok (.bl true))
theorem QiB(i:Int):Qat [.int i]=.ok (.bl true):=by
 exists"E",Qat,QcM
theorem QeN{x:Str}(h:PyData.strOk x=true):dNe (.str x) (.str x)=.ok (.bl false):=by rw[QlP h h,beq_self_eq_true];rfl
theorem Qks(i:Int):dNe (.int i) (.int i)=.ok (.bl false):=by rw[Qa5];simp
theorem QjE{r:List D->Out D}{v:D}(h:Gd r v)(d e:D):QaW r [some (.k,d),some (.k,e),some (.k,v),some (.k,v)]=.ok (.nx [some (.k,d),some (.k,e),some (.k,v),some (.k,v)]):=by
 unfold QaW
 rcases h with⟨x,rfl,hx⟩ | ⟨i,rfl⟩ | ⟨xs,rfl,hr⟩
 ·have i1:isaT "tuple" (.str x)=.ok false:=by simp[isaT,QJ]
  have i2:isaT "int" (.str x)=.ok false:=by simp[isaT,QJ]
  exact r_ifF (Qo (r_isa (r_var rfl) i1)) rfl (r_ifF (Qo (r_isa (r_var rfl) i2)) rfl (r_ifF (Qo (r_e2 (r_var rfl) (r_var rfl) (QeN hx))) rfl QM))
 ·have i1:isaT "tuple" (.int i)=.ok false:=by simp[isaT,QJ]
  have i2:isaT "int" (.int i)=.ok true:=by simp[isaT,QJ]
  exact r_ifF (Qo (r_isa (r_var rfl) i1)) rfl (r_ifT (Qo (r_isa (r_var rfl) i2)) rfl (r_ifF (r_or' (Qbq (Qo (QK (xs:=[.int i]) (Qi (r_var rfl) r_nil) rfl (QiB i)))) (Qax rfl (Qo (r_e2 (r_var rfl) (r_var rfl) (Qks i))))) rfl QM))
 ·have i1:isaT "tuple" (.tup xs)=.ok true:=by simp[isaT,QJ]
  exact r_ifT (Qo (r_isa (r_var rfl) i1)) rfl (r_ifF (Qbq (Qo (QK (xs:=[.tup xs,.tup xs]) (Qi (r_var rfl) (Qi (r_var rfl) r_nil)) rfl hr))) rfl QM)
theorem r_slT{A:SD->Out D}{ς:SD}{x:D}{xs:List D}(ha:A ς=.ok (.tup (x::xs)))(hl:1<=xs.length):eSlT A (oSome (eC (.int 1))) oNo ς=.ok (.tup xs):=by
 unfold eSlT
 rw[ha,Out.bind_ok]
 show(if (decide (HT.sIx (x::xs).length 0 (some 1)=0)&&decide (HT.sIx (x::xs).length (x::xs).length none=(x::xs).length))=true then Out.stuck else Out.ok (D.tup (cutD (x::xs) (some 1) none)))=_
 have h1:HT.sIx (x::xs).length 0 (some ((1:Nat):Int))=min 1 (x::xs).length:=HT.sIx_nat ..
 have h1:HT.sIx (x::xs).length 0 (some 1)=1:=by
  refine Eq.trans h1 ?_
  rw[List.length_cons];omega
 rw[h1,if_neg (by simp)]
 exact congrArg (fun z=>Out.ok (D.tup z)) (QkU (x::xs) 1)
theorem QdW{r:List D->Out D}{w:Str}{vs:List D}(hw:PyData.strOk w=true)(h1:1<=vs.length)(hv:∀ v∈vs,Gd r v):Qak r [.tup (.str w::vs),.tup (.str w::vs)]=.ok (.bl true):=by
 have i1:isaT "tuple" (.tup (.str w::vs))=.ok true:=by simp[isaT,QJ]
 have hlen:fLen [.tup (.str w::vs)]=.ok (.int ((vs.length+1:Nat):Int)):=by simp[fLen]
 have x0:dIx (.tup (.str w::vs)) (.int 0)=.ok (.str w):=ix_tt 0 rfl
 obtain⟨ς',hL,a2,a3,rfl⟩:=Qfs (body:=fun y ς=>gT [2,3] y ς>>=fun ς'=>QaW r ς') (xs:=List.zipWith (fun a b=>D.tup [a,b]) vs vs)
  (P:=fun ς=>∃ a2 a3,ς=[some (.k,.tup (.str w::vs)),some (.k,.tup (.str w::vs)),a2,a3])
  (by
   rintro y hy ς ⟨a2,a3,rfl⟩
   rw[List.zipWith_self]at hy
   obtain⟨v,hm,rfl⟩:=List.mem_map.mp hy
   exact⟨_,r_gT rfl (QjE (hv v hm) _ _),_,_,rfl⟩)
  [some (.k,.tup (.str w::vs)),some (.k,.tup (.str w::vs)),none,none] ⟨_,_,rfl⟩
 have hz:itZT (eSlT (eVar 0) (oSome (eC (.int 1))) oNo) (eSlT (eVar 1) (oSome (eC (.int 1))) oNo) [some (.k,.tup (.str w::vs)),some (.k,.tup (.str w::vs)),none,none]=.ok (List.zipWith (fun a b=>D.tup [a,b]) vs vs):=by
  unfold itZT
  rw[r_slT (r_var rfl) h1,Out.bind_ok,r_slT (r_var rfl) h1,Out.bind_ok]
 have hfor:=QcP (g:=gT [2,3]) (T:=QaW r) hz hL
 rw[QiM]
 unfold Qb5
 exact QaJ (fl:=.rt false (.bl true)) (r_seq (r_ifF (r_or' (Qbq (Qo (r_isa (r_var rfl) i1))) (Qax rfl (r_or' (Qo (r_e2 (r_eA (Qi (r_var rfl) r_nil) hlen) (r_eA (Qi (r_var rfl) r_nil) hlen) (Qks _))) (Qax rfl (Qo (r_e2 (r_e2 (r_var rfl) r_C x0) (r_e2 (r_var rfl) r_C x0) (QeN hw))))))) rfl QM) (Qy (r_seq hfor (Qy (r_ret r_C))))) r_rt
theorem d_tup(s:Sm):∃ xs,s.d=.tup xs:=by cases s<;>exact⟨_,rfl⟩
theorem Qc6:∀ s:Sm,s.ok->∀ n:Nat,s.dep<=n->Qa6 n [s.d,s.d]=.ok (.bl true)
 | .nm x,h,n,hn=>by
  have hn:1<=n:=hn
  obtain⟨m,rfl⟩:∃ m,n=m+1:=⟨n - 1,by omega⟩
  rw[Qb9]
  exact QdW (w:="name") (vs:=[.str x]) (dk) (by simp) fun v hv=>by
   rw[List.mem_singleton.mp hv];exact .inl ⟨x,rfl,h.tx.ok⟩
 | .tm k s,h,n,hn=>by
  have hn:s.dep+1<=n:=hn
  obtain⟨m,rfl⟩:∃ m,n=m+1:=⟨n - 1,by omega⟩
  have ih:=Qc6 s h.2 m (by omega)
  obtain⟨xs,hx⟩:=d_tup s
  rw[Qb9]
  exact QdW (w:="times") (vs:=[.int k,s.d]) (dk) (by simp) fun v hv=>by
   simp only[List.mem_cons,List.not_mem_nil,or_false]at hv
   rcases hv with rfl | rfl
   ·exact .inr (.inl ⟨k,rfl⟩)
   ·exact .inr (.inr ⟨xs,hx,ih⟩)
 | .pl s t,h,n,hn=>by
  have hn:max s.dep t.dep+1<=n:=hn
  obtain⟨m,rfl⟩:∃ m,n=m+1:=⟨n - 1,by omega⟩
  have i1:=Qc6 s h.1 m (by omega)
  have i2:=Qc6 t h.2 m (by omega)
  obtain⟨xs,hx⟩:=d_tup s
  obtain⟨ys,hy⟩:=d_tup t
  rw[Qb9]
  exact QdW (w:="plus") (vs:=[s.d,t.d]) (dk) (by simp) fun v hv=>by
   simp only[List.mem_cons,List.not_mem_nil,or_false]at hv
   rcases hv with rfl | rfl
   ·exact .inr (.inr ⟨xs,hx,i1⟩)
   ·exact .inr (.inr ⟨ys,hy,i2⟩)
 | .sh s c d,h,n,hn=>by
  have hn:s.dep+1<=n:=hn
  obtain⟨m,rfl⟩:∃ m,n=m+1:=⟨n - 1,by omega⟩
  have ih:=Qc6 s h.2.2 m (by omega)
  obtain⟨xs,hx⟩:=d_tup s
  rw[Qb9]
  exact QdW (w:="share") (vs:=[s.d,.int c,.int d]) (dk) (by simp) fun v hv=>by
   simp only[List.mem_cons,List.not_mem_nil,or_false]at hv
   rcases hv with rfl | rfl | rfl
   ·exact .inr (.inr ⟨xs,hx,ih⟩)
   ·exact .inr (.inl ⟨c,rfl⟩)
   ·exact .inr (.inl ⟨d,rfl⟩)
theorem Qmk{s:Sm}(h:s.ok)(hp:s.parts<=40):QaD [.str s.tx]=.ok s.d:=by
 have hd:=s.dep_le
 have h1:QbJ [.str s.tx,.int 1]=.ok s.d:=rp_ok s h hp 90 1 (by omega) (by omega)
 have h2:QaU [s.d]=.ok (.bl true):=by rw[← tr_d];exact QlK (tr_ok s h) (Qc2 s) (by rw[Qcg];omega)
 have h3:Qbx [s.d]=.ok (.str s.tx):=Qbz s h hp 90 (by omega)
 have h4:=QeN (tx_ok s h).ok
 have hi:isaT "str" (.str s.tx)=.ok true:=by simp[isaT,QJ]
 rw[Qja]
 unfold Qb1
 exact QaJ (fl:=.rt false s.d) (r_seq (r_ifF (Qbq (Qo (r_isa (r_var rfl) hi))) rfl QM) (Qy (r_seq (r_set (QK (xs:=[.str s.tx,.int 1]) (Qi (r_var rfl) (Qi r_C r_nil)) rfl h1) rfl) (Qy (r_seq (r_ifF (r_or' (Qbq (Qo (QK (xs:=[s.d]) (Qi (r_var rfl) r_nil) rfl h2))) (Qax rfl (Qo (r_e2 (QK (xs:=[s.d]) (Qi (r_var rfl) r_nil) rfl h3) (r_var rfl) h4)))) rfl QM) (Qy (r_ret (r_var rfl)))))))) r_rt
theorem Qdj{ns:List Int}(hl:ns.length<=63)(j:Nat)(hj:j<=84)(a1 a2 a3 a4:Option (SM×D)):∃ a2' a3' a4',(gN 1 (.int (j:Int)) [some (.k,.lst (ns.map D.int)),a1,a2,a3,a4]>>=fun ς'=>Qa2 ς')=.ok (.nx [some (.k,.lst (ns.map D.int)),some (.k,.int (j:Int)),a2',a3',a4']):=by
 obtain⟨s,so,sp,hb⟩:=Qk3 (cs:=ns.take j) (by rw[List.length_take];omega)
 have hd:=s.dep_le
 have h1:Qbx [s.d]=.ok (.str s.tx):=Qbz s so (by omega) 90 (by omega)
 have h2:QbD [s.d]=.ok (.str s.tx):=QbT s so (by omega) 45 (by omega)
 have h3:=Qmk so sp
 have h4:Qb0 [s.d,s.d]=.ok (.bl true):=Qc6 s so 45 (by omega)
 have hne:=QeN (tx_ok s so).ok
 have hs:eSl (eVar 0) oNo (oSome (eVar 1)) [some (.k,.lst (ns.map D.int)),some (.k,.int (j:Int)),a2,a3,a4]=.ok (.lst ((ns.take j).map D.int)):=by
  refine r_sl (xs:=ns.map D.int) (p:=none) (q:=some (j:Int)) rfl rfl rfl ?_
  rw[Qmv,List.map_take]
 refine⟨some (.k,s.d),some (.k,.str s.tx),some (.k,s.d),?_⟩
 refine r_gN rfl ?_
 unfold Qa2
 exact r_seq (r_set (QK (xs:=[.lst ((ns.take j).map D.int),.int 40]) (Qi hs (Qi r_C r_nil)) rfl hb) rfl) (Qy (r_seq (r_set (QK (xs:=[s.d]) (Qi (r_var rfl) r_nil) rfl h2) rfl) (Qy (r_seq (r_set (QK (xs:=[.str s.tx]) (Qi (r_var rfl) r_nil) rfl h3) rfl) (Qy (r_ifF (r_or' (Qbq (Qo (QK (xs:=[s.d,s.d]) (Qi (r_var rfl) (Qi (r_var rfl) r_nil)) rfl h4))) (Qax rfl (Qo (r_e2 (QK (xs:=[s.d]) (Qi (r_var rfl) r_nil) rfl h1) (r_var rfl) hne)))) rfl QM))))))
theorem the_law(ns:List Int)(hl:ns.length<=63)(hb:∀ z∈ns,bitsI z<=1048576):Qcq [.lst (ns.map .int)]=.ok (.bl true):=by
 obtain⟨p2,p3,p4,h1⟩:=Qdj hl 84 (by decide) none none none none
 obtain⟨q2,q3,q4,h2⟩:=Qdj hl 30 (by decide) (some (.k,.int 84)) p2 p3 p4
 obtain⟨r2,r3,r4,h3⟩:=Qdj hl 12 (by decide) (some (.k,.int 30)) q2 q3 q4
 obtain⟨s2,s3,s4,h4⟩:=Qdj hl 5 (by decide) (some (.k,.int 12)) r2 r3 r4
 have hL:loopD (fun x ς=>gN 1 x ς>>=fun ς'=>Qa2 ς') [.int 84,.int 30,.int 12,.int 5] [some (.k,.lst (ns.map D.int)),none,none,none,none]=.ok (.nx [some (.k,.lst (ns.map D.int)),some (.k,.int 5),s2,s3,s4]):=by
  have e1':(gN 1 (.int 84) [some (.k,.lst (ns.map D.int)),none,none,none,none]>>=fun ς'=>Qa2 ς')=.ok (.nx [some (.k,.lst (ns.map D.int)),some (.k,.int 84),p2,p3,p4]):=h1
  have e2':(gN 1 (.int 30) [some (.k,.lst (ns.map D.int)),some (.k,.int 84),p2,p3,p4]>>=fun ς'=>Qa2 ς')=.ok (.nx [some (.k,.lst (ns.map D.int)),some (.k,.int 30),q2,q3,q4]):=h2
  have e3':(gN 1 (.int 12) [some (.k,.lst (ns.map D.int)),some (.k,.int 30),q2,q3,q4]>>=fun ς'=>Qa2 ς')=.ok (.nx [some (.k,.lst (ns.map D.int)),some (.k,.int 12),r2,r3,r4]):=h3
  have e4':(gN 1 (.int 5) [some (.k,.lst (ns.map D.int)),some (.k,.int 12),r2,r3,r4]>>=fun ς'=>Qa2 ς')=.ok (.nx [some (.k,.lst (ns.map D.int)),some (.k,.int 5),s2,s3,s4]):=h4
  rw[loopD,e1']
  show loopD _ _ _=_
  rw[loopD,e2']
  show loopD _ _ _=_
  rw[loopD,e3']
  show loopD _ _ _=_
  rw[loopD,e4']
  rfl
 have hi:itL (eLst (aCons (eC (.int 84)) (aCons (eC (.int 30)) (aCons (eC (.int 12)) (aCons (eC (.int 5)) aNil))))) [some (.k,.lst (ns.map D.int)),none,none,none,none]=.ok [.int 84,.int 30,.int 12,.int 5]:=by (repeat walk_at "e")
 have hfor:=QcP (g:=gN 1) (T:=Qa2) hi hL
 rw[QnB]
 unfold QfL
 exact QaJ (fl:=.rt false (.bl true)) (r_seq hfor (Qy (r_ret r_C))) r_rt
end My
namespace My
open PySem PySem.Spec L2 DL
set_option hygiene false
local macro_rules
 | `("N"^$x $s) => `(W.nsIn K mainGlobals $s=some (some (.ref $x)))
 | `("Z"^$s) => `(W.nsIn K mainGlobals $s=some none)
 | `("D"^$a $b $c $d) => `(⟨_,_,_,_,$a,W.mg_of X G $b,$c,$d,.nil⟩)
 | `("F"^$k $l $b $q) => `(FnOk l.prog w K mg base CX0 $k _ _ $l (SpD K (ctOf K) $b $q))
 | `("E"^$q $s $k $b) => `(DefOk l.prog w K mg base (ctOf K) $s $k $b [] $q)
 | `("A"^$x) => `(W.mg_of X G $x)
set_option hygiene true
theorem all_mk{l:W.OpenLaw}{w:World}{K:W.Frag}{h:Heap}{mg:Str->Option Value}{fa:Addr}(X:K.In h)(G:h.Ns mainGlobals mg)(hfa:mg "law"=some (.ref fa))
 {QeI Qd2 Qd1 Qef Qea Qdr Qd7 Qdy Qd6 Qfn Qfl QeF Qeh Qew Qes QfS Qc1 QhS QeP Qd4 QeM QiG:Addr} {Qmu Qjt:Option Addr} {Qm8:Array (Option Value)} {Qm4 QjF Qj2 Qjn Qgv QjG:Value} {vo vj v5 va vb vk vc v7:Tok}
 (QiA:"N"^QeI "_law_name")
 (QiT:∃ fd,FunV K "_law_name" "_law_name" Qda QeI fd .none)
 (QgU:"N"^Qd2 "_law_mixed")
 (QgX:∃ fd,FunV K "_law_mixed" "_law_mixed" Qcz Qd2 fd .none)
 (Qg5:"N"^Qd1 "_law_built")
 (QhD:∃ fd,FunV K "_law_built" "_law_built" QcJ Qd1 fd .none)
 (Qeg:"N"^Qef "_law_shown")
 (QgM:∃ fd,FunV K "_law_shown" "_law_shown" QbI Qef fd .none)
 (Qhi:"N"^Qea "last_plus")
 (Qhn:∃ fd,FunV K "last_plus" "last_plus" QcA Qea fd .none)
 (Qfy:"N"^Qdr "unbracketed")
 (QfH:∃ fd,FunV K "unbracketed" "unbracketed" QbX Qdr fd .none)
 (Qha:"N"^Qd7 "is_number")
 (Qg4:∃ fd,FunV K "is_number" "is_number" QbB Qd7 fd .none)
 (QdC:"N"^Qdy "read_share")
 (QfQ:∃ fd,FunV K "read_share" "read_share" Qbu Qdy fd .none)
 (QdZ:"N"^Qd6 "read_part")
 (Qg9:∃ fd,FunV K "read_part" "read_part" QbH Qd6 fd .none)
 (Qkl:"N"^Qfn "sums_in")
 (Qj6:∃ fd,FunV K "sums_in" "sums_in" Qdv Qfn fd .none)
 (Qke:"N"^Qfl "is_name")
 (Qkg:∃ fd,FunV K "is_name" "is_name" Qcw Qfl fd .none)
 (QiE:"N"^QeF "is_whole")
 (Qib:∃ fd,FunV K "is_whole" "is_whole" Qdm QeF fd .none)
 (Qhk:"N"^Qeh "is_within")
 (QgL:∃ fd,FunV K "is_within" "is_within" QcF Qeh fd .none)
 (QiH:"N"^Qew "has_form")
 (Qiu:∃ fd,FunV K "has_form" "has_form" Qdd Qew fd .none)
 (Qiy:"N"^Qes "parts_of")
 (Qiq:∃ fd,FunV K "parts_of" "parts_of" Qdn Qes fd .none)
 (Qlf:"N"^QfS "is_sum")
 (QkJ:∃ fd,FunV K "is_sum" "is_sum" Qem QfS fd .none)
 (QcV:"N"^Qc1 "shown_within")
 (Qe3:∃ fd,FunV K "shown_within" "shown_within" Qa4 Qc1 fd .none)
 (QhI:"N"^QhS "shown")
 (Qmm:∃ fd,FunV K "shown" "shown" QdS QhS fd .none)
 (QiK:"N"^QeP "read_sum")
 (Qik:∃ fd,FunV K "read_sum" "read_sum" Qdc QeP fd .none)
 (QgJ:"N"^Qd4 "_law_whole")
 (Qhv:∃ fd,FunV K "_law_whole" "_law_whole" QcC Qd4 fd .none)
 (Qex:"N"^QeM "_law_same")
 (Qi3:∃ fd,FunV K "_law_same" "_law_same" Qb3 QeM fd .none)
 (Qnz:"N"^QiG "law")
 (Qny:K.lookup QiG=some ⟨Qm4,Qmu,.func (W.fnOf "law" "law" (Qbk QbZ) (QaM QbZ) (Qk QbZ) .none QjF Qj2 Qjn Qjt Qgv QjG),Qm8⟩)
 (Qnw:W.codeIn K Qgv "law"=true)
 (Qnv:W.keepIn K (.ref QiG)=true)
 (z_range:"Z"^"range")
 (z_len:"Z"^"len")
 (z_str:"Z"^"str")
 (z_enumerate:"Z"^"enumerate")
 (z_all:"Z"^"all")
 (z_int:"Z"^"int")
 (z_isinstance:"Z"^"isinstance")
 (z_bool:"Z"^"bool")
 (z_tuple:"Z"^"tuple")
 (z_zip:"Z"^"zip")
 (c_PLUS:W.nsIn K mainGlobals "PLUS"=some (some (.str " + " vo)))
 (c_FIGURES:W.nsIn K mainGlobals "FIGURES"=some (some (.str "0123456789" vj)))
 (c_MOST_FIGURES:W.nsIn K mainGlobals "MOST_FIGURES"=some (some (.int 2 v5)))
 (c_MOST_PARTS:W.nsIn K mainGlobals "MOST_PARTS"=some (some (.int 40 va)))
 (c_MOST_SIGNS:W.nsIn K mainGlobals "MOST_SIGNS"=some (some (.int 6 vb)))
 (c_LETTERS:W.nsIn K mainGlobals "LETTERS"=some (some (.str "abcdefghijklmnopqrstuvwxyz" vk)))
 (c_MOST_TIMES:W.nsIn K mainGlobals "MOST_TIMES"=some (some (.int 9 vc)))
 (c_MOST_BOTTOM:W.nsIn K mainGlobals "MOST_BOTTOM"=some (some (.int 12 v7))):
 ∃ fd:FuncData,(∀(s:Shared)(v:Value),BindsTo s fd ⟨[v],[]⟩ [("_law_script",v)])/\∀ base:Heap,K.In base->base.Ns mainGlobals mg->FnOk l.prog w K mg base CX0 93 fa fd ["_law_script"] (SpD K (ctOf K) false Qcq):=by
 have ee:=hfa.symm.trans ("A"^Qnz)
 cases ee
 obtain⟨QgY,Qc9⟩:=QiT
 have Qio:=Qc9.kp
 have Qi5:Binds K QgY ["_law_number"] []:=Qc9.b1 fun _ _ _ _ _ _ _=>rfl
 obtain⟨Qgj,QcE⟩:=QgX
 have QgK:=QcE.kp
 have Qg0:Binds K Qgj ["_law_cell","_law_k"] []:=QcE.b2 fun _ _ _ _ _ _ _ _=>rfl
 obtain⟨Qf4,QcH⟩:=QhD
 have Qhm:=QcH.kp
 have QhF:Binds K Qf4 ["_law_cells","_law_most"] []:=QcH.b2 fun _ _ _ _ _ _ _ _=>rfl
 obtain⟨Qgi,QbC⟩:=QgM
 have Qec:=QbC.kp
 have Qaq:Binds K Qgi ["_law_one"] []:=QbC.b1 fun _ _ _ _ _ _ _=>rfl
 obtain⟨Qgk,Qcy⟩:=Qhn
 have Qhh:=Qcy.kp
 have QhE:Binds K Qgk ["text"] []:=Qcy.b1 fun _ _ _ _ _ _ _=>rfl
 obtain⟨Qe2,QbW⟩:=QfH
 have QfK:=QbW.kp
 have QfJ:Binds K Qe2 ["text"] []:=QbW.b1 fun _ _ _ _ _ _ _=>rfl
 obtain⟨QfX,Qcx⟩:=Qg4
 have QhC:=Qcx.kp
 have QgT:Binds K QfX ["text","most"] []:=Qcx.b2 fun _ _ _ _ _ _ _ _=>rfl
 obtain⟨QfD,Qbp⟩:=QfQ
 have QdP:=Qbp.kp
 have Q4:Binds K QfD ["text","depth"] []:=Qbp.b2 fun _ _ _ _ _ _ _ _=>rfl
 obtain⟨Qgb,QbK⟩:=Qg9
 have Qd8:=QbK.kp
 have Qau:Binds K Qgb ["text","depth"] []:=QbK.b2 fun _ _ _ _ _ _ _ _=>rfl
 obtain⟨Qiz,QdF⟩:=Qj6
 have QjS:=QdF.kp
 have Qj8:Binds K Qiz ["one"] []:=QdF.b1 fun _ _ _ _ _ _ _=>rfl
 obtain⟨Qii,QdJ⟩:=Qkg
 have Qkk:=QdJ.kp
 have QjI:Binds K Qii ["thing"] []:=QdJ.b1 fun _ _ _ _ _ _ _=>rfl
 obtain⟨Qhu,Qdf⟩:=Qib
 have Qif:=Qdf.kp
 have Qig:Binds K Qhu ["thing"] []:=Qdf.b1 fun _ _ _ _ _ _ _=>rfl
 obtain⟨QgE,QcG⟩:=QgL
 have Qhp:=QcG.kp
 have Qg6:Binds K QgE ["thing","least","most"] []:=QcG.b3 fun _ _ _ _ _ _ _ _ _=>rfl
 obtain⟨QgQ,Qdo⟩:=Qiu
 have Qi9:=Qdo.kp
 have Qi1:Binds K QgQ ["thing"] []:=Qdo.b1 fun _ _ _ _ _ _ _=>rfl
 obtain⟨QgG,Qdq⟩:=Qiq
 have Qje:=Qdq.kp
 have QiX:Binds K QgG ["thing"] []:=Qdq.b1 fun _ _ _ _ _ _ _=>rfl
 obtain⟨Qj5,Qej⟩:=QkJ
 have QkI:=Qej.kp
 have QkX:Binds K Qj5 ["thing"] []:=Qej.b1 fun _ _ _ _ _ _ _=>rfl
 obtain⟨QeE,QaX⟩:=Qe3
 have Qc7:=QaX.kp
 have QT:Binds K QeE ["one","bracketed"] []:=QaX.b2 fun _ _ _ _ _ _ _ _=>rfl
 obtain⟨QkQ,QdX⟩:=Qmm
 have Qh9:=QdX.kp
 have Qbw:Binds K QkQ ["one"] []:=QdX.b1 fun _ _ _ _ _ _ _=>rfl
 obtain⟨QhA,Qdg⟩:=Qik
 have Qih:=Qdg.kp
 have QiN:Binds K QhA ["text"] []:=Qdg.b1 fun _ _ _ _ _ _ _=>rfl
 obtain⟨QgF,QcI⟩:=Qhv
 have Qhs:=QcI.kp
 have QgN:Binds K QgF ["_law_found"] []:=QcI.b1 fun _ _ _ _ _ _ _=>rfl
 obtain⟨Qhl,Qb2⟩:=Qi3
 have QeO:=Qb2.kp
 have Qak:Binds K Qhl ["_law_found","_law_one"] []:=Qb2.b2 fun _ _ _ _ _ _ _ _=>rfl
 have Qlq:=funV_mk (st:=QbZ) Qny Qnw Qnv
 have QnE:=Qlq.binds (ps:=["_law_script"]) fun _ _ _ _ _ _ us hl=>match us,hl with | [_],_=>rfl
 have vf:mg "range"=none:=W.mg_none_of X G z_range
 have v1:mg "len"=none:=W.mg_none_of X G z_len
 have v3:mg "str"=none:=W.mg_none_of X G z_str
 have vg:mg "enumerate"=none:=W.mg_none_of X G z_enumerate
 have vn:mg "all"=none:=W.mg_none_of X G z_all
 have v4:mg "int"=none:=W.mg_none_of X G z_int
 have v0:mg "isinstance"=none:=W.mg_none_of X G z_isinstance
 have vi:mg "bool"=none:=W.mg_none_of X G z_bool
 have vh:mg "tuple"=none:=W.mg_none_of X G z_tuple
 have vp:mg "zip"=none:=W.mg_none_of X G z_zip
 have v8:="A"^c_PLUS
 have vl:="A"^c_FIGURES
 have v6:="A"^c_MOST_FIGURES
 have v2:="A"^c_MOST_PARTS
 have vd:="A"^c_MOST_SIGNS
 have vm:="A"^c_LETTERS
 have ve:="A"^c_MOST_TIMES
 have v9:="A"^c_MOST_BOTTOM
 refine⟨W.fnOf "law" "law" (Qbk QbZ) (QaM QbZ) (Qk QbZ) .none QjF Qj2 Qjn Qjt Qgv QjG,fun s v=>.of_eq rfl,fun base _ _=>?_⟩
 have Qid:"F"^1 ["_law_number"] false Qam:=Qip Qc9 vf
 have Qi8:"E"^Qam "_law_name" 1 false:="D"^Qid QiA Qio Qi5
 have Qg7:"F"^1 ["_law_cell","_law_k"] false Q8:=Qhz QcE
 have Qg1:"E"^Q8 "_law_mixed" 1 false:="D"^Qg7 QgU QgK Qg0
 have Qhc:"F"^2 ["_law_cells","_law_most"] false Qav:=Qhr QcH Qi8 Qg1 v1 vf
 have Qhx:"E"^Qav "_law_built" 2 false:="D"^Qhc Qg5 Qhm QhF
 have Qgs:∀ n:Nat,DefOk l.prog w K mg base (ctOf K) "_law_shown" (1+n) false [] (QaL n):=by
  intro n
  induction n with
  | zero=>exact⟨_,_,_,_,FnOk.as (fnV (P:=l.prog) (w:=w) (mg:=mg) (base:=base) (CT:=ctOf K) (fr:=false) (k:=0) (T:=QaH) QbC Qaz (fun _ _ _ _ _ _ _ _=>Qbh)) (fun _=>Or.inl rfl),"A"^Qeg,Qec,Qaq,.nil⟩
  | succ n ih=>exact⟨_,_,_,_,Qhf (n:=1+n) QbC (by omega) ih v3,"A"^Qeg,Qec,Qaq,.nil⟩
 have Qhb:"E"^QbD "_law_shown" 46 false:=Qgs 45
 have QgR:"F"^1 ["text"] false QO:=QhB Qcy vg v8 ⟨_,rfl⟩
 have Qhy:"E"^QO "last_plus" 1 false:="D"^QgR Qhi Qhh QhE
 have QfE:"F"^1 ["text"] false QZ:=QfC QbW
 have QfF:"E"^QZ "unbracketed" 1 false:="D"^QfE Qfy QfK QfJ
 have QgH:"F"^1 ["text","most"] false QV:=Qg2 Qcx v1 vn vl ⟨_,rfl⟩
 have Qed:"E"^QV "is_number" 1 false:="D"^QgH Qha QhC QgT
 have Qds:∀ n:Nat,DefOk l.prog w K mg base (ctOf K) "read_share" (1+n) false [] (Qv n).1/\DefOk l.prog w K mg base (ctOf K) "read_part" (1+n) false [] (Qv n).2:=by
  intro n
  induction n with
  | zero=>exact⟨⟨_,_,_,_,FnOk.as (fnV (P:=l.prog) (w:=w) (mg:=mg) (base:=base) (CT:=ctOf K) (fr:=false) (k:=0) (T:=QaH) Qbp Qbc (fun _ _ _ _ _ _ _ _=>Qbh)) (fun _=>Or.inl rfl),"A"^QdC,QdP,Q4,.nil⟩,⟨_,_,_,_,FnOk.as (fnV (P:=l.prog) (w:=w) (mg:=mg) (base:=base) (CT:=ctOf K) (fr:=false) (k:=0) (T:=QaH) QbK Qbo (fun _ _ _ _ _ _ _ _=>Qbh)) (fun _=>Or.inl rfl),"A"^QdZ,Qd8,Qau,.nil⟩⟩
  | succ n ih=>exact⟨⟨_,_,_,_,Qgg (n:=1+n) Qbp (by omega) Qed ih.2 v4 v6 ⟨_,rfl⟩,"A"^QdC,QdP,Q4,.nil⟩,⟨_,_,_,_,Qhq (n:=1+n) QbK (by omega) Qhy QfF ih.2 Qed ih.1 v1 v4 v2 ⟨_,rfl⟩ v8 ⟨_,rfl⟩,"A"^QdZ,Qd8,Qau,.nil⟩⟩
 have QmW:"E"^Qf0 "read_share" 91 false:=(Qds 90).1
 have Qg8:"E"^QbJ "read_part" 91 false:=(Qds 90).2
 have QjM:"F"^1 ["one"] true QP:=QjC QdF
 have Qjq:"E"^QP "sums_in" 1 true:="D"^QjM Qkl QjS Qj8
 have Qkw:"F"^1 ["thing"] false QaA:=QkB QdJ v0 v3 v1 vn vd ⟨_,rfl⟩ vm ⟨_,rfl⟩
 have Qjw:"E"^QaA "is_name" 1 false:="D"^Qkw Qke Qkk QjI
 have Qim:"F"^1 ["thing"] false QaF:=Qix Qdf v0 v4 vi
 have Qi7:"E"^QaF "is_whole" 1 false:="D"^Qim QiE Qif Qig
 have QgI:"F"^2 ["thing","least","most"] false QN:=QgS QcG Qi7
 have Qhg:"E"^QN "is_within" 2 false:="D"^QgI Qhk Qhp Qg6
 have Qis:"F"^3 ["thing"] false QR:=QiJ Qdo Qjw Qhg v0 vh v1 v3 ve ⟨_,rfl⟩ v9 ⟨_,rfl⟩
 have QiS:"E"^QR "has_form" 3 false:="D"^Qis QiH Qi9 Qi1
 have Qit:"F"^4 ["thing"] true QaC:=QiW Qdq QiS Qjq v1 v2 ⟨_,rfl⟩
 have Qiw:"E"^QaC "parts_of" 4 true:="D"^Qit Qiy Qje QiX
 have Qk8:"F"^5 ["thing"] false QaU:=QkR Qej Qiw
 have Qlo:"E"^QaU "is_sum" 5 false:="D"^Qk8 Qlf QkI QkX
 have Qcr:∀ n:Nat,DefOk l.prog w K mg base (ctOf K) "shown_within" (1+n) false [] (Qs n).1/\DefOk l.prog w K mg base (ctOf K) "shown" (1+n) false [] (Qs n).2:=by
  intro n
  induction n with
  | zero=>exact⟨⟨_,_,_,_,FnOk.as (fnV (P:=l.prog) (w:=w) (mg:=mg) (base:=base) (CT:=ctOf K) (fr:=false) (k:=0) (T:=QaH) QaX Qcs (fun _ _ _ _ _ _ _ _=>Qbh)) (fun _=>Or.inl rfl),"A"^QcV,Qc7,QT,.nil⟩,⟨_,_,_,_,FnOk.as (fnV (P:=l.prog) (w:=w) (mg:=mg) (base:=base) (CT:=ctOf K) (fr:=false) (k:=0) (T:=QaH) QdX QgB (fun _ _ _ _ _ _ _ _=>Qbh)) (fun _=>Or.inl rfl),"A"^QhI,Qh9,Qbw,.nil⟩⟩
  | succ n ih=>exact⟨⟨_,_,_,_,QeX (n:=1+n) QaX (by omega) ih.2,"A"^QcV,Qc7,QT,.nil⟩,⟨_,_,_,_,Ql4 (n:=1+n) QdX (by omega) ih.1 ih.2 v3 v8 ⟨_,rfl⟩,"A"^QhI,Qh9,Qbw,.nil⟩⟩
 have Qlw:"E"^Qe0 "shown_within" 91 false:=(Qcr 90).1
 have Qh8:"E"^Qbx "shown" 91 false:=(Qcr 90).2
 have QiZ:"F"^92 ["text"] false QaD:=Qi6 Qdg Qg8 Qlo Qh8 v0 v3
 have Qi0:"E"^QaD "read_sum" 92 false:="D"^QiZ QiK Qih QiN
 have Qho:"F"^1 ["_law_found"] false Qat:=QgV QcI v0 v4 vi
 have Qhj:"E"^Qat "_law_whole" 1 false:="D"^Qho QgJ Qhs QgN
 have QgZ:∀ n:Nat,DefOk l.prog w K mg base (ctOf K) "_law_same" (1+n) false [] (Qa6 n):=by
  intro n
  induction n with
  | zero=>exact⟨_,_,_,_,FnOk.as (fnV (P:=l.prog) (w:=w) (mg:=mg) (base:=base) (CT:=ctOf K) (fr:=false) (k:=0) (T:=QaH) Qb2 QbM (fun _ _ _ _ _ _ _ _=>Qbh)) (fun _=>Or.inl rfl),"A"^Qex,QeO,Qak,.nil⟩
  | succ n ih=>exact⟨_,_,_,_,Qi2 (n:=1+n) Qb2 (by omega) ih Qhj v0 vh v1 vp v4,"A"^Qex,QeO,Qak,.nil⟩
 have Qij:"E"^Qb0 "_law_same" 46 false:=QgZ 45
 have QnA:"F"^93 ["_law_script"] false Qcq:=Qnx Qlq Qhx Qhb Qi0 Qij Qh8
 exact QnA
theorem walk{l:W.OpenLaw}{q:Program}{loose:List Str}{XP:(Str->Option Value)->Heap->Prop}{YP:World->Heap->Prop}{d:DefRec}{K:Params->W.Frag}(hn:l.most=some 63)(hdf:d.params.defaults=[])
 (hY:∀(w:World)(h:Heap),YP w h->(K w.params).In h) (hlaw:∀ ns:List Int,ns.length<=63->(∀ z∈ns,bitsI z<=1048576)->Qcq [.lst (ns.map .int)]=.ok (.bl true))
 (F:∀(w:World)(mg:Str->Option Value)(fa:Addr)(h:Heap),(K w.params).In h->h.Ns mainGlobals mg->mg d.name=some (.ref fa)->
  ∃ fd:FuncData,(∀(s:Shared)(u:Value),BindsTo s fd ⟨[u],[]⟩ [("_law_script",u)])/\∀ base:Heap,(K w.params).In base->base.Ns mainGlobals mg->FnOk l.prog w (K w.params) mg base CX0 93 fa fd ["_law_script"] (SpD (K w.params) (ctOf (K w.params)) false Qcq)):
 W.WalkO q loose XP YP l.row.toRowW d [] (fun f vs=>PySem.call f vs):=
 DL.walk_of (n:=63) (k:=93) (x:="_law_script") (CX:=fun _=>CX0) (sp:=fun w=>SpD (K w.params) (ctOf (K w.params)) false Qcq) hn (by decide) hdf ⟨rfl,by decide,by decide⟩ hY F
  (fun w H a ns hl hbits _ hS=>⟨[.lst (ns.map .int)],H,Same.refl H,⟨.ref a,[],rfl,⟨a,_,rfl,hS,RepL.map_int ns⟩,rfl⟩,by rw[hlaw ns hl hbits];exact fun v H' G' _ _ _ _ r=>r⟩) fun _ _ _ _ _ z=>z
end My
open PySem PySem.W PyProof.Rows
set_option maxRecDepth 100000 in
set_option maxHeartbeats 0 in
theorem PySem.Challenge.cw_dockethall_k75_read_sum_holds : PySem.Challenge.rw_dockethall_k75_read_sum.Holds := by
 w_on;o_law;k_head;(case hw=>w_witness2)
 k_fill
 refine My.walk (l:=PySem.Challenge.rw_dockethall_k75_read_sum) rfl rfl (fun w h Y=>PySem.W.kIn_of Y) My.the_law ?F
 case F=>
  intro w mg fa h KX G hmg
  refine' My.all_mk KX G hmg ..
  all_goals try first | k_is | kit_is | rfl | (refine' ⟨_,DL.funV_mk ?_ ?_ ?_⟩<;>try k_is)
