import PyProof.Rows.All
import Wide.All
import OpenK.AllK
import Wide.FinOn
import Lean
import PyProof.EqAt
import PyProof.EqKinds
import PyProof.TupleCall
import PySem.Challenge.RW_dockethall_k57_book
namespace PySem.W.Fast
def tw5883217963594850825:=0
def tw8660563041674325338:=0
def tw3922693018866887153:=0
def tw8847903075037971609:=0
def tw12229011987608451086:=0
def tw802325440510323711:=0
def tw18142639669369464258:=0
def tw2350718661391724621:=0
def tw17895832059327606844:=0
def tw14305259981820611948:=0
def tw6212874201610854026:=0
def tw8912417891828426294:=0
def tw2910209991987799744:=0
def tw8915147569201924997:=0
def tw6864077548649557212:=0
def tw4901767941530058510:=0
def tw3034159791912340853:=0
def tw13401815505801946722:=0
def tw5314811338424685016:=0
def tw6206964218498949136:=0
def tw9590789601012821978:=0
def tw12246625759453947261:=0
def tw15051214990347229309:=0
def tw2633046771711762044:=0
def tw7874599268383978713:=0
def tw4036264563018941447:=0
def tw11789165915143234445:=0
def tw699555818960490288:=0
def tw12730408070361025952:=0
def tw10628394052782359049:=0
def tw16794823096069426705:=0
def tw2919056517012259628:=0
def tw11664084219173297080:=0
def tw18221455843284621427:=0
def tw10809595556815222190:=0
def tw12375433103538074227:=0
def tw3726397023246641128:=0
def tw9053004039803141718:=0
def tw15481708815418029735:=0
def tw12042961940587937377:=0
def tw7899556657673373426:=0
def tw12150065498030519236:=0
def tw16206348428912631195:=0
def tw17650968658125112882:=0
def tw17067567665450458053:=0
def tw7375546979024590529:=0
def tw6120344651280891519:=0
def tw2917229839713045845:=0
def tw2397666502759140459:=0
def tw10861775080460407200:=0
def tw2565197606205124052:=0
def tw5928957566809025258:=0
def tw5067260287278037672:=0
def tw7249924894861100348:=0
def tw182218088160473139:=0
def tw11296431553089383468:=0
def tw14381334475334847784:=0
def tw15965075958850159402:=0
end PySem.W.Fast
set_option Elab.async false
set_option linter.all false
set_option maxRecDepth 100000
theorem oi{a b:Prop}(h:a):a∨b:=Or.inl h
theorem dk{p:Prop}(h:p:=by decide +kernel):p:=h
namespace L2
open PySem PySem.Spec PyProof.Rows
abbrev Key:=Sum Int Str
def keyIs:Key->Value->Bool
 | .inl k,v=>Value.isInt k v
 | .inr x,v=>Value.isStrOf x v
def keyH(w:World):Key->Int
 | .inl k=>hashInt k
 | .inr x=>hashStr w x
theorem QcM:∀{k:Key}{v:Value},keyIs k v=true->(∃ i t,k=Sum.inl i/\v=Value.int i t)∨(∃ x t,k=Sum.inr x/\v=Value.str x t)
 | .inl i,v,h=>by
  obtain⟨t,e⟩:=Value.isInt_shape (k:=i) (v:=v) h
  exact .inl ⟨i,t,rfl,e⟩
 | .inr x,v,h=>by
  obtain⟨t,e⟩:=Value.isStrOf_shape (x:=x) (v:=v) h
  exact .inr ⟨x,t,rfl,e⟩
theorem QN0(i:Int)(t:Tok):keyIs (.inl i) (.int i t)=true:=by simp[keyIs,Value.isInt]
theorem QOA(x:Str)(t:Tok):keyIs (.inr x) (.str x t)=true:=by simp[keyIs,Value.isStrOf]
theorem QUB(a b:Int):decide ((Sum.inl a:Key)=Sum.inl b)=(a == b):=by
 by_cases e:a=b
 ·subst e;simp
 ·have h:¬ (Sum.inl a:Key)=Sum.inl b:=fun q=>e (Sum.inl.inj q)
  rw[decide_eq_false h]
  exact(beq_eq_false_iff_ne.mpr e).symm
theorem QUg(a b:Str):decide ((Sum.inr a:Key)=Sum.inr b)=decide (a=b):=by
 by_cases e:a=b
 ·subst e;simp
 ·have h:¬ (Sum.inr a:Key)=Sum.inr b:=fun q=>e (Sum.inr.inj q)
  rw[decide_eq_false h,decide_eq_false e]
theorem QUc(a:Int)(b:Str):decide ((Sum.inl a:Key)=Sum.inr b)=false:=decide_eq_false (fun q=>nomatch q)
theorem QUy(a:Str)(b:Int):decide ((Sum.inr a:Key)=Sum.inl b)=false:=decide_eq_false (fun q=>nomatch q)
def QcC(prog:Program)(w:World):PySem.KeyKind prog w Key where
 is:=keyIs
 hash:=keyH w
 inj:=fun v a b ha hb=>by
  rcases QcM ha with⟨i,t,rfl,rfl⟩ | ⟨x,t,rfl,rfl⟩
  ·rcases QcM hb with⟨j,u,rfl,e⟩ | ⟨y,u,rfl,e⟩
   ·injection e with e1 _;rw[e1]
   ·exact nomatch e
  ·rcases QcM hb with⟨j,u,rfl,e⟩ | ⟨y,u,rfl,e⟩
   ·exact nomatch e
   ·injection e with e1 _;rw[e1]
 byValue:=fun k v h=>by
  rcases QcM h with⟨i,t,rfl,rfl⟩ | ⟨x,t,rfl,rfl⟩<;>rfl
 pyHash:=fun hv h=>by
  rcases QcM hv with⟨i,t,rfl,rfl⟩ | ⟨x,t,rfl,rfl⟩
  ·exact wpAny_pyHash_int h
  ·exact wpAny_pyHash_str h
 eqBool:=fun hu hv h=>by
  rcases QcM hu with⟨i,t,rfl,rfl⟩ | ⟨x,t,rfl,rfl⟩
  ·rcases QcM hv with⟨j,u,rfl,rfl⟩ | ⟨y,u,rfl,rfl⟩
   ·rw[QUB]at h;exact wpAny_eqBool_int h
   ·rw[QUc]at h;exact SeqAt.EqAt.int_str i t y u _ _ _ _ h
  ·rcases QcM hv with⟨j,u,rfl,rfl⟩ | ⟨y,u,rfl,rfl⟩
   ·rw[QUy]at h;exact SeqAt.EqAt.str_int x t j u _ _ _ _ h
   ·rw[QUg]at h;exact wpAny_eqBool_str h
 «strs»:=fun k x t v h=>by
  rcases QcM h with⟨i,u,rfl,e⟩ | ⟨y,u,rfl,e⟩
  ·exact nomatch e
  ·injection e with e1 _
   subst e1
   cases v<;>rfl
theorem QIB(prog:Program)(w:World)(i:Int)(t:Tok):(QcC prog w).is (.inl i) (.int i t)=true:=QN0 i t
theorem QI9(prog:Program)(w:World)(x:Str)(t:Tok):(QcC prog w).is (.inr x) (.str x t)=true:=QOA x t
end L2
namespace L2
open PySem PySem.Spec PyProof.Rows
inductive V where
 | non | bl (b:Bool) | int (i:Int) | str (x:Str) | byt (b:Array UInt8) | flt (b:UInt64) | ref (a:Addr) | ty (n:String)
 deriving DecidableEq
def RelV:V->Value->Prop
 | .non,u=>u=Value.none
 | .bl b,u=>u=Value.bool b
 | .int i,u=>∃ t,u=Value.int i t
 | .str x,u=>∃ t,u=Value.str x t
 | .byt b,u=>∃ t,u=Value.bytes b t
 | .flt b,u=>∃ t,u=Value.float b t
 | .ref a,u=>u=Value.ref a
 | .ty n,u=>u=Value.type n
abbrev Vals:List V->List Value->Prop:=Paired RelV
theorem Vals.length{xs:List V}{us:List Value}(r:Vals xs us):xs.length=us.length:=Paired.length r
theorem Vals.get:∀{xs:List V}{us:List Value}{i:Nat}{x:V},Vals xs us->xs[i]?=some x->∃ u,us[i]?=some u/\RelV x u
 | _,_,_,_,.nil,e=>by simp at e
 | _,_,0,_,.cons r _,e=>by simp at e;subst e;exact⟨_,rfl,r⟩
 | _,_,i+1,x,.cons _ t,e=>by
  obtain⟨u,h1,h2⟩:=Vals.get (i:=i) (x:=x) t (by simpa using e)
  exact⟨u,by simpa using h1,h2⟩
theorem Vals.append:∀{xs ys:List V}{us ws:List Value},Vals xs us->Vals ys ws->Vals (xs++ys) (us++ws)
 | _,_,_,_,.nil,s=>s
 | _,_,_,_,.cons r t,s=>.cons r (Vals.append t s)
theorem Vals.take:∀{xs:List V}{us:List Value}(n:Nat),Vals xs us->Vals (xs.take n) (us.take n)
 | _,_,0,_=>.nil
 | _,_,_+1,.nil=>.nil
 | _,_,n+1,.cons r t=>.cons r (Vals.take n t)
theorem Vals.drop:∀{xs:List V}{us:List Value}(n:Nat),Vals xs us->Vals (xs.drop n) (us.drop n)
 | _,_,0,r=>r
 | _,_,_+1,.nil=>.nil
 | _,_,n+1,.cons _ t=>Vals.drop n t
def RelO:Option V->Option Value->Prop
 | some v,some u=>RelV v u
 | none,none=>True
 | _,_=>False
def KV{κ:Type}:List (κ×V)->List (κ×Value)->Prop:=Paired fun(p:κ×V) (q:κ×Value)=>p.1=q.1/\RelV p.2 q.2
def kV:Key->V
 | .inl i=>.int i
 | .inr x=>.str x
inductive HO where
 /-- a list -/
 | lst (xs:List V)
 /-- a tuple (never changes) -/
 | tup (xs:List V)
 /-- a dict whose keys are ints and texts;one whose keys are tuples of ints and texts (the empty one is both) -/
 | dK (kvs:List (Key×V)) | dT (kvs:List (List Key×V))
 /-- a set of ints: its members,its size -/
 | set (S:Int->Bool) (n:Nat)
 /-- an instance of the class at C,its dict at dx,its attributes -/
 | ins (C dx:Addr) (fs:List (Str×V))
 /-- the dict of the instance at x -/
 | own (x:Addr)
 /-- the dict of an exception -/
 | xd (fs:List (Str×V))
 /-- a bound method,f of x -/
 | met (f x:Addr)
 /-- a range object lo,lo+1, .. below hi -/
 | rng (lo hi:Int)
 /-- a thing that is known to the object (the script;a dict while a loop walks it): read,never written while it is so -/
 | frz (o:Obj) (u:HO)
 /-- a code object's table -/
 | tbl (ps:Array Value)
 /-- any other thing,by what is true of its one object (a def of one's own: SetO a S n:=HO.ext fun h => ..) -/
 | ext (φ : Heap->Prop)
abbrev Hp:=Addr->Option HO
def upd(H:Hp)(a:Addr)(o:HO):Hp:=fun b=>if b=a then some o else H b
theorem QU{H:Hp}{a:Addr}{o:HO}:upd H a o a=some o:=by unfold upd;rw[if_pos rfl]
theorem Ql{H:Hp}{a b:Addr}{o:HO}(h:b≠a):upd H a o b=H b:=by unfold upd;rw[if_neg h]
theorem QRV{H:Hp}{a:Addr}{o u:HO}:upd (upd H a o) a u=upd H a u:=by
 funext b;unfold upd;split<;>rfl
theorem ne_of{H:Hp}{a b:Addr}{o u:HO}(h:H a=some o)(h':H b=some u)(d:o≠u):a≠b:=by
 intro e;subst e;rw[h]at h';exact d (Option.some.inj h')
theorem Q0{H:Hp}{a b:Addr}{o:HO}(h:H a=some o)(h':H b=none):a≠b:=by
 intro e;subst e;rw[h]at h';cases h'
section
variable(P:Program)(w:World)
def ObjOk(H:Hp)(h:Heap)(a:Addr):HO->Prop
 | .lst xs=>xs.length<=sizeLine/\∃(its:List Value)(n:Nat),Vals xs its/\h.get? a=some { cls:=.type "list",data:=.seq its.toArray n }
 | .tup xs=>xs.length<=sizeLine/\∃ its:List Value,Vals xs its/\IsTup h a its.toArray
 | .dK kvs=>kvs.length<=sizeLine/\(a == sysModules)=false/\∃ vs,KV kvs vs/\h.DictOf (QcC P w) a vs
 | .dT kvs=>kvs.length<=sizeLine/\(a == sysModules)=false/\∃ xs:List (List Key×Addr×Value),
  Paired (fun(p:List Key×V) (q:List Key×Addr×Value)=>p.1=q.1/\H q.2.1=some (.tup (p.1.map kV))/\RelV p.2 q.2.2) kvs xs/\
  ∃ o es ep,h.get? a=some o/\o.ExactDict/\o.data=.dict es ep/\es.toList=xs.map (entryOfKey (tupleKind (QcC P w)))/\(xs.map (·.1)).Nodup
 | .set S n=>h.SetOf (intKind P w) a S n
 | .ins C dx fs=>H dx=some (.own a)/\fs.length<=1000/\dx≠a/\h.get? a=some (PySem.W.instObj C dx)/\
  ∃ mA,h.Ns1 dx mA/\(∀ f,RelO (fs.lookup f) (mA f))/\PySem.Within mA (fs.map (·.1))
 | .own _=>∃ o,h.get? a=some o
 | .xd fs=>∃ mA,h.Ns1 a mA/\∀ f,RelO (fs.lookup f) (mA f)
 | .rng lo hi=>∃ t u v,h.get? a=some { cls:=.type "range",data:=.fields #[.int lo t,.int hi u,.int 1 v] }
 | .frz o u=>h.get? a=some o/\ObjOk H h a u
 | .tbl ps=>h.get? a=some { cls:=.none,data:=.fields ps }
 | .met f x=>h.get? a=some (PySem.W.methodObj (.ref f) (.ref x))
 | .ext φ => φ h/\(∃ o,h.get? a=some o)/\∀ h1 h2:Heap, φ h1->(∀ o,h1.get? a=some o->h2.get? a=some o) -> φ h2
def HOk(H:Hp)(h:Heap):Prop:=∀ a o,H a=some o->ObjOk P w H h a o
end
section
variable{P:Program}{w:World}{H H':Hp}{h h':Heap}{a:Addr}{o:HO}
theorem ObjOk.lt(x:ObjOk P w H h a o):a<h.objs.size:=by
 cases o with
 | lst xs=>obtain⟨_,_,_,_,e⟩:=x;exact Heap.lt_size e
 | tup xs=>obtain⟨_,_,_,p⟩:=x;exact p.lt
 | dK kvs=>obtain⟨_,_,_,_,o,_,_,e,_⟩:=x;exact Heap.lt_size e
 | dT kvs=>obtain⟨_,_,_,_,o,_,_,e,_⟩:=x;exact Heap.lt_size e
 | set S n=>obtain⟨o,_,_,_,e,_⟩:=x;exact Heap.lt_size e
 | ins C dx fs=>obtain⟨_,_,_,e,_⟩:=x;exact Heap.lt_size e
 | own y=>obtain⟨_,e⟩:=x;exact Heap.lt_size e
 | xd fs=>obtain⟨_,⟨_,_,_,e,_⟩,_⟩:=x;exact Heap.lt_size e
 | rng lo hi=>obtain⟨_,_,_,e⟩:=x;exact Heap.lt_size e
 | frz ob u=>obtain⟨e,_⟩:=x;exact Heap.lt_size e
 | tbl ps=>exact Heap.lt_size (show h.get? a=some _ from x)
 | met f y=>exact Heap.lt_size (show h.get? a=some _ from x)
 | ext φ => obtain⟨_,⟨_,e⟩,_⟩:=x;exact Heap.lt_size e
theorem Paired.mapP{α β:Type}{F G:α->β->Prop}:∀{l₁:List α}{l₂ : List β},Paired F l₁ l₂ -> (∀ a b,F a b->G a b)->Paired G l₁ l₂
 | _,_,.nil,_=>.nil
 | _,_,.cons r t,f=>.cons (f _ _ r) (Paired.mapP t f)
theorem ObjOk.stay(x:ObjOk P w H h a o)(k:∀ b u,(b=a∨H b=some (.own a))->h.get? b=some u->h'.get? b=some u)
 (ho:∀ b,H b=some (.own a)->H' b=some (.own a)) (ht:∀ b xs,H b=some (.tup xs)->H' b=some (.tup xs)):ObjOk P w H' h' a o:=by
 induction o with
 | lst xs=>obtain⟨z,its,n,r,e⟩:=x;exact⟨z,its,n,r,k _ _ (.inl rfl) e⟩
 | tup xs=>obtain⟨z,its,r,ob,e,c⟩:=x;exact⟨z,its,r,ob,k _ _ (.inl rfl) e,c⟩
 | dK kvs=>obtain⟨z,y,vs,r,ob,es,ep,e,c⟩:=x;exact⟨z,y,vs,r,ob,es,ep,k _ _ (.inl rfl) e,c⟩
 | dT kvs=>
  obtain⟨z,y,xs,r,ob,es,ep,e,c⟩:=x
  exact⟨z,y,xs,Paired.mapP r fun p q z=>⟨z.1,ht _ _ z.2.1,z.2.2⟩,ob,es,ep,k _ _ (.inl rfl) e,c⟩
 | set S n=>obtain⟨ob,es,ep,t,e,c⟩:=x;exact⟨ob,es,ep,t,k _ _ (.inl rfl) e,c⟩
 | ins C dx fs=>
  obtain⟨d,z,ne,e,mA,⟨od,es,ep,e2,c⟩,r⟩:=x
  exact⟨ho _ d,z,ne,k _ _ (.inl rfl) e,mA,⟨od,es,ep,k _ _ (.inr d) e2,c⟩,r⟩
 | own y=>obtain⟨ob,e⟩:=x;exact⟨ob,k _ _ (.inl rfl) e⟩
 | xd fs=>obtain⟨mA,⟨od,es,ep,e,c⟩,r⟩:=x;exact⟨mA,⟨od,es,ep,k _ _ (.inl rfl) e,c⟩,r⟩
 | rng lo hi=>obtain⟨t,u,v,e⟩:=x;exact⟨t,u,v,k _ _ (.inl rfl) e⟩
 | frz ob u ih=>obtain⟨e,q⟩:=x;exact⟨k _ _ (.inl rfl) e,ih q⟩
 | tbl ps=>
  have e:h.get? a=some { cls:=.none,data:=.fields ps }:=x
  show h'.get? a=some { cls:=.none,data:=.fields ps }
  exact k a _ (.inl rfl) e
 | met f y=>
  have e:h.get? a=some (PySem.W.methodObj (.ref f) (.ref y)):=x
  show h'.get? a=some (PySem.W.methodObj (.ref f) (.ref y))
  exact k a _ (.inl rfl) e
 | ext φ => obtain⟨p,⟨o,e⟩,st⟩:=x;exact⟨st _ _ p fun o q=>k _ _ (.inl rfl) q,⟨o,k _ _ (.inl rfl) e⟩,st⟩
theorem HOk.lt(x:HOk P w H h)(e:H a=some o):a<h.objs.size:=(x a o e).lt
theorem HOk.fresh(x:HOk P w H h)(e:h.objs.size<=a):H a=none:=by
 cases q:H a with
 | none=>rfl
 | some u=>exact absurd (Nat.lt_of_lt_of_le (x.lt q) e) (Nat.lt_irrefl _)
theorem HOk.kept(x:HOk P w H h)(k:∀ b u,h.get? b=some u->h'.get? b=some u):HOk P w H h':=fun a o e=>
 (x a o e).stay (fun b u _ q=>k b u q) (fun _ q=>q) fun _ _ q=>q
theorem HOk.laid(x:HOk P w H h)(k:∀ b u,h.get? b=some u->h'.get? b=some u)(hp:h.objs.size<=a)(new:ObjOk P w (upd H a o) h' a o):HOk P w (upd H a o) h':=fun b u e=>by
 have hn:=x.fresh hp
 by_cases hb:b=a
 ·subst hb;rw[QU]at e;cases e;exact new
 ·rw[Ql hb]at e
  exact(x b u e).stay (fun c v _ q=>k c v q) (fun c q=>by rw[Ql (Q0 q hn)];exact q) fun c xs q=>by rw[Ql (Q0 q hn)];exact q
end
def Rd(H:Hp)(a:Addr)(u:HO):Prop:=H a=some u∨∃ o,H a=some (.frz o u)
theorem Rd.of{H:Hp}{a:Addr}{u:HO}(h:H a=some u):Rd H a u:=.inl h
theorem Rd.ok{P:Program}{w:World}{H:Hp}{h:Heap}{a:Addr}{u:HO}(r:Rd H a u)(x:HOk P w H h):ObjOk P w H h a u:=by
 rcases r with r | ⟨o,r⟩
 ·exact x a u r
 ·obtain⟨_,q⟩:=x a _ r
  exact q
def Mut:Option HO->Prop
 | some (.lst _)=>True
 | some (.dK _)=>True
 | some (.dT _)=>True
 | some (.set _ _)=>True
 | some (.ins _ _ _)=>True
 | some (.ext _)=>True
 | _=>False
section
variable{P:Program}{w:World}{H:Hp}{h h':Heap}{x e:Addr}{o':HO}
theorem HOk.write(ok:HOk P w H h)(mu:Mut (H x))(he:e=x∨H e=some (.own x))(k:∀ b u,b≠e->h.get? b=some u->h'.get? b=some u)(heo:∃ u,h'.get? e=some u)
 (new:ObjOk P w (upd H x o') h' x o'):HOk P w (upd H x o') h':=fun b u q=>by
 have nown:∀ c y,H c=some (.own y)->c≠x:=fun c y r z=>by subst z;rw[r]at mu;exact mu
 have ntup:∀ c xs,H c=some (.tup xs)->c≠x:=fun c xs r z=>by subst z;rw[r]at mu;exact mu
 by_cases hb:b=x
 ·subst hb;rw[QU]at q;cases q;exact new
 ·rw[Ql hb]at q
  by_cases hbe:b=e
  ·have q':H b=some (.own x):=by
    rcases he with z | z
    ·exact absurd (hbe.trans z) hb
    ·rw[hbe];exact z
   rw[q]at q';cases q'
   obtain⟨v,hv⟩:=heo
   exact⟨v,by rw[hbe];exact hv⟩
  ·refine(ok b u q).stay (fun c v hc r=>k c v ?_ r) (fun c r=>by rw[Ql (nown c b r)];exact r) fun c xs r=>by rw[Ql (ntup c xs r)];exact r
   rcases hc with rfl | hc
   ·exact hbe
   ·rintro rfl
    rcases he with z | z
    ·exact nown c b hc z
    ·rw[hc]at z;cases z;exact hb rfl
end
structure Un(fs ex:List Addr)(H H':Hp)(h h':Heap):Prop where
 keep:∀ b o,h.get? b=some o->H b=none->b∉fs->b∉ex->h'.get? b=some o
 slot:∀ b o,h.get? b=some o->H b=none->b∈fs->b∉ex->∃ sl,h'.get? b=some { o with slots:=sl }
 free:∀ b o,h.get? b=some o->H b=none->b∉ex->H' b=none
 there:∀ b o,h.get? b=some o->b∉ex->∃ o',h'.get? b=some o'
 tups:∀ b xs,H b=some (.tup xs)->H' b=some (.tup xs)
 frzs:∀ b o u,H b=some (.frz o u)->H' b=some (.frz o u)
 tbls:∀ b ps,H b=some (.tbl ps)->∃ more,H' b=some (.tbl (ps++more))
section
variable{fs fs' ex ex':List Addr}{H H1 H2:Hp}{h h1 h2 h':Heap}{a x e:Addr}{o:HO}
theorem Un.any(u:Un fs ex H H1 h h1){b:Addr}{ob:Obj}(q:h.get? b=some ob)(n:H b=none)(hx:b∉ex):∃ sl,h1.get? b=some { ob with slots:=sl }:=by
 by_cases hb:b∈fs
 ·exact u.slot b ob q n hb hx
 ·exact⟨ob.slots,u.keep b ob q n hb hx⟩
theorem Un.trans(a:Un fs ex H H1 h h1)(b:Un fs ex H1 H2 h1 h2):Un fs ex H H2 h h2 where
 keep:=fun c ob q n hc hx=>b.keep c ob (a.keep c ob q n hc hx) (a.free c ob q n hx) hc hx
 slot:=fun c ob q n hc hx=>by
  obtain⟨sl,e1⟩:=a.slot c ob q n hc hx
  obtain⟨sl',e2⟩:=b.slot c _ e1 (a.free c ob q n hx) hc hx
  exact⟨sl',e2⟩
 free:=fun c ob q n hx=>by
  obtain⟨o',e1⟩:=a.there c ob q hx
  exact b.free c o' e1 (a.free c ob q n hx) hx
 there:=fun c ob q hx=>by
  obtain⟨o',e1⟩:=a.there c ob q hx
  exact b.there c o' e1 hx
 tups:=fun c xs q=>b.tups c xs (a.tups c xs q)
 frzs:=fun c ob xs q=>b.frzs c ob xs (a.frzs c ob xs q)
 tbls:=fun c ps q=>by
  obtain⟨m1,e1⟩:=a.tbls c ps q
  obtain⟨m2,e2⟩:=b.tbls c _ e1
  exact⟨m1++m2,by rw[e2,Array.append_assoc]⟩
theorem Un.kept(k:∀ b u,h.get? b=some u->h'.get? b=some u):Un fs ex H H h h':=
 ⟨fun b ob q _ _ _=>k b ob q,fun b ob q _ _ _=>⟨ob.slots,k b ob q⟩,fun _ _ _ n _=>n,fun b ob q _=>⟨ob,k b ob q⟩,fun _ _ q=>q,fun _ _ _ q=>q,fun _ ps q=>⟨#[],by rw[q];simp⟩⟩
theorem Un.refl:Un fs ex H H h h:=Un.kept fun _ _ q=>q
theorem Un.laid(k:∀ b u,h.get? b=some u->h'.get? b=some u)(hp:h.objs.size<=a)(hn:H a=none):Un fs ex H (upd H a o) h h' where
 keep:=fun b u q _ _ _=>k b u q
 slot:=fun b u q _ _ _=>⟨u.slots,k b u q⟩
 free:=fun b u q n _=>by rw[Ql (Nat.ne_of_lt (Nat.lt_of_lt_of_le (Heap.lt_size q) hp))];exact n
 there:=fun b u q _=>⟨u,k b u q⟩
 tups:=fun b xs q=>by rw[Ql (Q0 q hn)];exact q
 frzs:=fun b u xs q=>by rw[Ql (Q0 q hn)];exact q
 tbls:=fun b ps q=>⟨#[],by rw[Ql (Q0 q hn),q];simp⟩
theorem Un.write(mu:Mut (H x))(he:e=x∨H e=some (.own x))(k:∀ b u,b≠e->h.get? b=some u->h'.get? b=some u)(heo:∃ u,h'.get? e=some u):Un fs ex H (upd H x o) h h':=by
 have hx:∀ b,H b=none->b≠x:=fun b n z=>by subst z;rw[n]at mu;exact mu
 have hb:∀ b,H b=none->b≠e:=fun b n z=>by
  subst z
  rcases he with r | r
  ·exact hx b n r
  ·rw[n]at r;cases r
 have hm:∀ b u,H b=some u->¬ Mut (some u)->b≠x:=fun b u q nm z=>by subst z;rw[q]at mu;exact nm mu
 refine⟨fun b u q n _ _=>k b u (hb b n) q,fun b u q n _ _=>⟨u.slots,k b u (hb b n) q⟩,fun b u q n _=>by rw[Ql (hx b n)];exact n,fun b u q _=>?_,
  fun b xs q=>by rw[Ql (hm b _ q fun z=>z)];exact q,fun b u xs q=>by rw[Ql (hm b _ q fun z=>z)];exact q,fun b ps q=>⟨#[],by rw[Ql (hm b _ q fun z=>z),q];simp⟩⟩
 by_cases hbe:b=e
 ·subst hbe;exact heo
 ·exact⟨u,k b u hbe q⟩
end
def trk(h:Heap)(H:Hp):List Addr:=(List.range h.objs.size).filter fun a=>(H a).isSome
def hidT(h:Heap)(H:Hp):Heap:=PySem.W.hideAll h (trk h H)
theorem QOE(h:Heap)(H:Hp):(hidT h H).objs.size=h.objs.size:=PySem.W.hideAll_size _ _
theorem QQg{h:Heap}{H:Hp}{b:Addr}{o:Obj}(e:h.get? b=some o)(n:H b=none):(hidT h H).get? b=some o:=
 PySem.W.hideAll_get _ e fun hm=>by
  have q:(H b).isSome=true:=(List.mem_filter.mp hm).2
  rw[n]at q;simp at q
theorem QRh{h:Heap}{H:Hp}{b:Addr}{o:Obj}(e:(hidT h H).get? b=some o):h.get? b=some o/\H b=none:=by
 have e':h.get? b=some o:=PySem.W.of_hideAll (trk h H) e
 refine⟨e',?_⟩
 cases q:H b with
 | none=>rfl
 | some x=>
  have hm:b∈trk h H:=List.mem_filter.mpr ⟨List.mem_range.mpr (Heap.lt_size e'),by simp[q]⟩
  have z:(hidT h H).get? b=none:=PySem.W.hideAll_none (trk h H) hm
  rw[z]at e;cases e
def QSc(g h:Heap)(L:Addr):List (Addr×Obj):=(List.range h.objs.size).filterMap fun a=>if a=L∨(g.get? a).isSome=true then none else(h.get? a).map fun o=>(a,o)
def rest(g h:Heap)(L d:Addr):List (Addr×Obj):=(QSc g h L).filter fun p=>decide (p.1≠d)
end L2
namespace L2
open PySem PySem.Spec PyProof.Rows
structure Mod(K:PySem.W.Frag)(mg:Str->Option Value)(base:Heap):Prop where
 kin:K.In base
 glob:base.Ns mainGlobals mg
 blt:∃ mb,base.Ns builtinsNs mb/\∀ x:Str,x≠"__name__"->mb x=bootBuiltins x
 nolimit:base.NoLimit
structure Cx where
 prog:Program
 w:World
 K:PySem.W.Frag
 mg:Str->Option Value
 base:Heap
 A:Around
 N:List Str
 s₀:Shared
 H₀:Hp
 env:Env
 outer:List Env
 stack:List Env
 ex:List Addr
 fn:Str->Bool
 calm:Bool
 pn:List (Addr×Obj)
 xe:Value->Shared->Prop
def frs(l:List Env):List Addr:=l.filterMap (·.frame)
abbrev Cx.fs(X:Cx):List Addr:=frs X.outer
def Vis(sc:Scope)(x:Str):Prop:=sc.names.lookup x=some .local∨sc.names.lookup x=some .cell∨sc.names.lookup x=some .free
def Loc(sc:Scope)(x:Str):Prop:=sc.names.lookup x=some .local∨sc.names.lookup x=some .cell
def Look(env:Env)(h:Heap)(m:Str->Option Value)(x:Str)(u:Value):Prop:=
 (env.kindOf x=some .local/\m x=some u)∨((env.kindOf x=some .cell∨env.kindOf x=some .free)/\∃ c,env.cells.lookup x=some c/\h.IsCell c (some u))
structure Cx.Ok(X:Cx):Prop where
 mod:Mod X.K X.mg X.base
 kind:X.env.scope.kind=.function
 glob:X.env.globals=mainGlobals
 blt:X.env.builtins=builtinsNs
 above:X.s₀.heap.objs.size<=X.env.locals
 inj:∀ x y c,X.env.cells.lookup x=some c->X.env.cells.lookup y=some c->x=y
 has:∀ x,(X.env.kindOf x=some .cell∨X.env.kindOf x=some .free)->∃ c,X.env.cells.lookup x=some c
 cab:∀ x c,X.fn x=true->X.env.cells.lookup x=some c->X.s₀.heap.objs.size<=c
 hd:X.calm=true->X.A.handled=none
 frames:X.A.frames=some X.stack
 stk:X.stack=X.outer∨(X.stack=X.env::X.outer/\X.env.frame=some X.env.locals)
 exf:∀ b∈X.ex,b≠X.env.locals/\∀ x c,X.env.cells.lookup x=some c->c≠b
 bs:∀ b o,X.base.get? b=some o->X.s₀.heap.get? b=some o/\X.H₀ b=none
 bsz:X.base.objs.size<=X.s₀.heap.objs.size
 noex:∀ b o,X.base.get? b=some o->b∉X.ex
 exfs:∀ b∈X.ex,b∉X.fs
 funs:X.s₀.heap.FunFrames X.base X.outer
 frf:∀ b∈X.fs,X.H₀ b=none
structure Inv(X:Cx)(pins:List (Addr×Obj))(σ:List (Option V))(H:Hp)(s:Shared):Prop where
 ok:X.Ok
 os:s.os=X.s₀.os
 bare:AllBare s.gens
 base:Un X.fs X.ex X.H₀ H X.s₀.heap s.heap
 loc:∃ m,s.heap.Ns X.env.locals m/\∀(i:Nat)(x:Str)(v:V),X.N[i]?=some x->σ[i]?=some (some v)->Vis X.env.scope x->∃ u,RelV v u/\Look X.env s.heap m x u
 cell:∀ x c,X.env.cells.lookup x=some c->∃ v,s.heap.IsCell c v
 free:H X.env.locals=none
 freeC:∀ x c,X.env.cells.lookup x=some c->H c=none
 pin:∀ p∈X.pn++pins,s.heap.get? p.1=some p.2/\H p.1=none/\p.1≠X.env.locals/\p.1∉X.fs/\∀ v,p.2.data≠.cell v
 hok:HOk X.prog X.w H s.heap
 len:σ.length=X.N.length
section
variable{X:Cx}{pins:List (Addr×Obj)}{σ:List (Option V)}{H H':Hp}{s:Shared}{h':Heap}
theorem Cx.Ok.nofr(ok:X.Ok){b:Addr}{o:Obj}(e:X.base.get? b=some o):b∉X.fs:=fun hb=>by
 have:=(ok.funs.mem hb).1
 rw[e]at this;cases this
theorem Inv.bs(I:Inv X pins σ H s):∀ b o,X.base.get? b=some o->s.heap.get? b=some o/\H b=none:=fun b o e=>
 ⟨I.base.keep b o (I.ok.bs b o e).1 (I.ok.bs b o e).2 (I.ok.nofr e) (I.ok.noex b o e),I.base.free b o (I.ok.bs b o e).1 (I.ok.bs b o e).2 (I.ok.noex b o e)⟩
theorem Inv.bk(I:Inv X pins σ H s):∀ b o,X.base.get? b=some o->s.heap.get? b=some o:=fun b o e=>(I.bs b o e).1
theorem Inv.mod(I:Inv X pins σ H s):Mod X.K X.mg X.base:=I.ok.mod
theorem Inv.kIn(I:Inv X pins σ H s):X.K.In s.heap:=I.ok.mod.kin.keeps I.bk
theorem Inv.fr(I:Inv X pins σ H s):∃ m,Fr X.base X.env.locals s.heap m:=
 let ⟨m,hn,_⟩:=I.loc
 ⟨m,hn,I.bk,Nat.le_trans I.ok.bsz I.ok.above⟩
theorem Inv.lt(I:Inv X pins σ H s):X.env.locals<s.heap.objs.size:=let ⟨_,hn,_⟩:=I.loc;hn.lt
theorem Inv.sz(I:Inv X pins σ H s):X.s₀.heap.objs.size<=s.heap.objs.size:=Nat.le_trans I.ok.above (Nat.le_of_lt I.lt)
theorem Inv.nofs(I:Inv X pins σ H s){a:Addr}(h:s.heap.objs.size<=a):a∉X.fs:=fun hb=>by
 obtain⟨_,o,ho,_⟩:=I.ok.funs.mem hb
 exact absurd (Nat.lt_of_lt_of_le (Heap.lt_size ho) (Nat.le_trans I.sz h)) (Nat.lt_irrefl _)
theorem Inv.cne(I:Inv X pins σ H s):∀ x c,X.env.cells.lookup x=some c->c≠X.env.locals:=fun x c e z=>by
 obtain⟨v,o,ho,hd⟩:=I.cell x c e
 obtain⟨m,⟨o',es,ep,ho',hd',_⟩,_⟩:=I.loc
 rw[z,ho']at ho;cases ho;rw[hd']at hd;cases hd
theorem Inv.funs(I:Inv X pins σ H s):s.heap.FunFrames X.base X.outer:=by
 have all:∀(l:List Env),(∀ b∈frs l,b∈X.fs)->X.s₀.heap.FunFrames X.base l->s.heap.FunFrames X.base l:=by
  intro l
  induction l with
  | nil=>intro _ _;trivial
  | cons env r ih=>
   intro hs hl
   obtain⟨hk,⟨L,o,hf,hn,ho,hd⟩,hr⟩:=hl
   have hL:L∈X.fs:=hs L (by unfold frs;rw[List.filterMap_cons,hf];exact List.mem_cons_self)
   obtain⟨sl,e⟩:=I.base.slot L o ho (I.ok.frf L hL) hL fun z=>I.ok.exfs L z hL
   exact⟨hk,⟨L,_,hf,hn,e,hd⟩,ih (fun b hb=>hs b (by unfold frs;rw[List.filterMap_cons,hf];exact List.mem_cons_of_mem _ hb)) hr⟩
 exact all X.outer (fun _ hb=>hb) I.ok.funs
theorem Inv.stack(I:Inv X pins σ H s):s.heap.FunFrames X.base X.stack:=by
 rcases I.ok.stk with e | ⟨e,hf⟩
 ·rw[e];exact I.funs
 ·rw[e]
  obtain⟨m,hn,_⟩:=I.loc
  refine .cons (by rw[I.ok.kind];decide) hf hn ?_ I.funs
  exact Heap.get?_none_of_le (Nat.le_trans I.ok.bsz I.ok.above)
theorem Inv.stkSub(I:Inv X pins σ H s):∀ b∈frs X.stack,b∈X.env.locals::X.fs:=fun b hb=>by
 rcases I.ok.stk with e | ⟨e,hf⟩
 ·rw[e]at hb;exact List.mem_cons_of_mem _ hb
 ·rw[e]at hb
  unfold frs at hb
  rw[List.filterMap_cons,hf]at hb
  exact hb
theorem Inv.stkFree(I:Inv X pins σ H s):∀ b∈frs X.stack,H b=none:=fun b hb=>by
 rcases List.mem_cons.mp (I.stkSub b hb) with e | hb
 ·rw[e];exact I.free
 ·obtain⟨_,o,ho,_⟩:=I.ok.funs.mem hb
  exact I.base.free b o ho (I.ok.frf b hb) fun z=>I.ok.exfs b z hb
theorem Inv.step{g':Array GenState}{t':Nat}{d':Drawn}{ch:List Addr}(I:Inv X pins σ H s)
 (hch:∀ b∈ch,(b∈X.ex∨X.s₀.heap.objs.size<=b)/\b≠X.env.locals/\(∀ x c,X.env.cells.lookup x=some c->c≠b)/\∀ p∈X.pn++pins,p.1≠b)
 (keep:∀ b o,b≠X.env.locals->b∉X.fs->b∉ch->s.heap.get? b=some o->H b=none->h'.get? b=some o)
 (slot:∀ b o,b≠X.env.locals->b∈X.fs->b∉ch->s.heap.get? b=some o->H b=none->∃ sl,h'.get? b=some { o with slots:=sl }) (free:∀ b o,b∉ch->s.heap.get? b=some o->H b=none->H' b=none)
 (there:∀ b o,b∉ch->s.heap.get? b=some o->∃ o',h'.get? b=some o')
 (tups:∀ b xs,H b=some (.tup xs)->H' b=some (.tup xs)) (frzs:∀ b o u,H b=some (.frz o u)->H' b=some (.frz o u)) (tbls:∀ b ps,H b=some (.tbl ps)->∃ more,H' b=some (.tbl (ps++more)))
 (ns:∀ m,s.heap.Ns X.env.locals m->h'.Ns X.env.locals m) (hok:HOk X.prog X.w H' h') (hg:AllBare g'):
 Inv X pins σ H' { s with heap:=h',gens:=g',drawn:=d',toks:=t' }:=by
 have neL:∀ b o,X.s₀.heap.get? b=some o->b≠X.env.locals:=fun b o e=>Nat.ne_of_lt (Nat.lt_of_lt_of_le (Heap.lt_size e) I.ok.above)
 have neC:∀ b o,X.s₀.heap.get? b=some o->b∉X.ex->b∉ch:=fun b o e hx hb=>by
  rcases(hch b hb).1 with z | z
  ·exact hx z
  ·exact absurd (Nat.lt_of_lt_of_le (Heap.lt_size e) z) (Nat.lt_irrefl _)
 have cellK:∀ x c,X.env.cells.lookup x=some c->∀ v,s.heap.IsCell c v->h'.IsCell c v:=fun x c e v ⟨o,ho,hd⟩=>by
  have nch:c∉ch:=fun z=>(hch c z).2.2.1 x c e rfl
  by_cases hc:c∈X.fs
  ·obtain⟨sl,q⟩:=slot c o (I.cne x c e) hc nch ho (I.freeC x c e)
   exact⟨_,q,hd⟩
  ·exact⟨o,keep c o (I.cne x c e) hc nch ho (I.freeC x c e),hd⟩
 refine⟨I.ok,I.os,hg,⟨fun b o e n hb hx=>?_,fun b o e n hb hx=>?_,fun b o e n hx=>?_,fun b o e hx=>?_,fun b xs e=>tups b xs (I.base.tups b xs e),fun b o xs e=>frzs b o xs (I.base.frzs b o xs e),fun b ps e=>?_⟩,?_,fun x c e=>?_,?_,fun x c e=>?_,fun p hp=>?_,hok,I.len⟩
 ·exact keep b o (neL b o e) hb (neC b o e hx) (I.base.keep b o e n hb hx) (I.base.free b o e n hx)
 ·obtain⟨sl,e1⟩:=I.base.slot b o e n hb hx
  obtain⟨sl',e2⟩:=slot b _ (neL b o e) hb (neC b o e hx) e1 (I.base.free b o e n hx)
  exact⟨sl',e2⟩
 ·obtain⟨o',e1⟩:=I.base.there b o e hx
  exact free b o' (neC b o e hx) e1 (I.base.free b o e n hx)
 ·obtain⟨o',e1⟩:=I.base.there b o e hx
  exact there b o' (neC b o e hx) e1
 ·obtain⟨m1,e1⟩:=I.base.tbls b ps e
  obtain⟨m2,e2⟩:=tbls b _ e1
  exact⟨m1++m2,by rw[e2,Array.append_assoc]⟩
 ·obtain⟨m,hn,hl⟩:=I.loc
  refine⟨m,ns m hn,fun i x v e1 e2 e3=>?_⟩
  obtain⟨u,r,l⟩:=hl i x v e1 e2 e3
  refine⟨u,r,?_⟩
  rcases l with l | ⟨k,c,e,z⟩
  ·exact .inl l
  ·exact .inr ⟨k,c,e,cellK x c e _ z⟩
 ·obtain⟨v,z⟩:=I.cell x c e
  exact⟨v,cellK x c e v z⟩
 ·obtain⟨m,⟨o,_,_,ho,_⟩,_⟩:=I.loc
  exact free _ o (fun z=>(hch _ z).2.1 rfl) ho I.free
 ·obtain⟨v,o,ho,hd⟩:=I.cell x c e
  exact free c o (fun z=>(hch c z).2.2.1 x c e rfl) ho (I.freeC x c e)
 ·obtain⟨e,n,ne,nf,d⟩:=I.pin p hp
  have nch:p.1∉ch:=fun z=>(hch p.1 z).2.2.2 p hp rfl
  exact⟨keep p.1 p.2 ne nf nch e n,free p.1 p.2 nch e n,ne,nf,d⟩
theorem Inv.un{t':Nat}(I:Inv X pins σ H s)(u:Un X.fs [] H H' s.heap h')(hok:HOk X.prog X.w H' h'):Inv X pins σ H' { s with heap:=h',toks:=t' }:=by
 obtain⟨m,⟨o,es,ep,ho,r⟩,_⟩:=id I.loc
 obtain⟨sl,hL⟩:=u.any ho I.free (by simp)
 exact I.step (g':=s.gens) (d':=s.drawn) (ch:=[]) (fun _ z=>nomatch z) (fun b o _ hb _ e n=>u.keep b o e n hb (by simp)) (fun b o _ hb _ e n=>u.slot b o e n hb (by simp)) (fun b o _ e n=>u.free b o e n (by simp)) (fun b o _ e=>u.there b o e (by simp)) u.tups u.frzs u.tbls (fun m' hm=>by
  obtain⟨o',es',ep',ho',r'⟩:=hm
  rw[ho]at ho';cases ho'
  exact⟨_,es',ep',hL,r'⟩) hok I.bare
theorem Inv.call{g':Array GenState}{t':Nat}{d':Drawn}{ch:List Addr}(I:Inv X pins σ H s)(u:Un (frs X.stack) ch H H' s.heap h')(hok:HOk X.prog X.w H' h')(hg:AllBare g')
 (hch:∀ b∈ch,(b∈X.ex∨X.s₀.heap.objs.size<=b)/\b≠X.env.locals/\(∀ x c,X.env.cells.lookup x=some c->c≠b)/\∀ p∈X.pn++pins,p.1≠b):
 Inv X pins σ H' { s with heap:=h',gens:=g',drawn:=d',toks:=t' }:=by
 obtain⟨m,⟨o,es,ep,ho,r⟩,_⟩:=id I.loc
 obtain⟨sl,hL⟩:=u.any ho I.free fun z=>(hch _ z).2.1 rfl
 exact I.step (ch:=ch) hch (fun b o hL hb hc e n=>u.keep b o e n (fun z=>(List.mem_cons.mp (I.stkSub b z)).elim hL hb) hc) (fun b o _ _ hc e n=>u.any e n hc) (fun b o hc e n=>u.free b o e n hc) (fun b o hc e=>u.there b o e hc) u.tups u.frzs u.tbls (fun m' hm=>by
  obtain⟨o',es',ep',ho',r'⟩:=hm
  rw[ho]at ho';cases ho'
  exact⟨_,es',ep',hL,r'⟩) hok hg
theorem Inv.turned{t':Nat}{it:Addr}(I:Inv X pins σ H s)(k:∀ b o,b≠it->s.heap.get? b=some o->h'.get? b=some o)(hn:H it=none)(hL:it≠X.env.locals)
 (h1:it∈X.ex∨X.s₀.heap.objs.size<=it) (h2:∀ x c,X.env.cells.lookup x=some c->c≠it) (h3:∀ p∈X.pn++pins,p.1≠it):Inv X pins σ H { s with heap:=h',toks:=t' }:=by
 have nit:∀ b u,H b=some u->b≠it:=fun b u e z=>by rw[z,hn]at e;cases e
 refine I.step (g':=s.gens) (d':=s.drawn) (ch:=[it]) (fun b hb=>?_) (fun b o _ _ hc e _=>k b o (fun z=>hc (by simp[z])) e) (fun b o _ _ hc e _=>⟨o.slots,k b o (fun z=>hc (by simp[z])) e⟩) (fun _ _ _ _ n=>n)
  (fun b o hc e=>⟨o,k b o (fun z=>hc (by simp[z])) e⟩) (fun _ _ e=>e) (fun _ _ _ e=>e) (fun b ps e=>⟨#[],by rw[e];simp⟩) (fun m hm=>?_) (fun b u e=>?_) I.bare
 ·have e:b=it:=by simpa using hb
  subst e
  exact⟨h1,hL,h2,h3⟩
 ·obtain⟨o,es,ep,ho,r⟩:=hm
  exact⟨o,es,ep,k _ o (Ne.symm hL) ho,r⟩
 ·refine(I.hok b u e).stay (fun c v hc q=>k c v ?_ q) (fun _ q=>q) fun _ _ q=>q
  rcases hc with z | z
  ·rw[z];exact nit b u e
  ·exact nit c _ z
theorem Inv.tok(I:Inv X pins σ H s)(t:Nat):Inv X pins σ H { s with toks:=t }:=I.un (h':=s.heap) (t':=t) Un.refl I.hok
theorem Inv.kept{t':Nat}(I:Inv X pins σ H s)(k:∀ b u,s.heap.get? b=some u->h'.get? b=some u):Inv X pins σ H { s with heap:=h',toks:=t' }:=I.un (Un.kept k) (I.hok.kept k)
theorem Inv.laid{a:Addr}{o:HO}{t':Nat}(I:Inv X pins σ H s)(k:∀ b u,s.heap.get? b=some u->h'.get? b=some u)(hp:s.heap.objs.size<=a)(new:ObjOk X.prog X.w (upd H a o) h' a o):
 Inv X pins σ (upd H a o) { s with heap:=h',toks:=t' }:=I.un (Un.laid k hp (I.hok.fresh hp)) (I.hok.laid k hp new)
theorem Inv.write{x e:Addr}{o:HO}{t':Nat}(I:Inv X pins σ H s)(mu:Mut (H x))(he:e=x∨H e=some (.own x))(k:∀ b u,b≠e->s.heap.get? b=some u->h'.get? b=some u)(heo:∃ u,h'.get? e=some u)
 (new:ObjOk X.prog X.w (upd H x o) h' x o):Inv X pins σ (upd H x o) { s with heap:=h',toks:=t' }:=I.un (Un.write mu he k heo) (I.hok.write mu he k heo new)
theorem Inv.pins_of{pins':List (Addr×Obj)}(I:Inv X pins σ H s)(h:∀ p∈pins',s.heap.get? p.1=some p.2/\H p.1=none/\p.1≠X.env.locals/\p.1∉X.fs/\∀ v,p.2.data≠.cell v):Inv X pins' σ H s:=
 ⟨I.ok,I.os,I.bare,I.base,I.loc,I.cell,I.free,I.freeC,fun p hp=>(List.mem_append.mp hp).elim (fun z=>I.pin p (List.mem_append_left _ z)) (h p),I.hok,I.len⟩
theorem QHU{N:List Str}(hN:N.Nodup){i j:Nat}{x:Str}(a:N[i]?=some x)(b:N[j]?=some x):i=j:=by
 obtain⟨h1,e1⟩:=List.getElem?_eq_some_iff.mp a
 obtain⟨h2,e2⟩:=List.getElem?_eq_some_iff.mp b
 exact(List.getElem_inj hN).mp (e1.trans e2.symm)
theorem QC2{M:Model}{A:Around}{E:Value->Shared->Prop}{i:Nat}{x:Str}{v:V}{u:Value}{Q:Unit->Shared->Prop}(I:Inv X pins σ H s)(hN:X.N.Nodup)(hi:X.N[i]?=some x)(hx:Loc X.env.scope x)(r:RelV v u)
 (h:∀ s',Inv X pins (σ.set i (some v)) H s'->(∃ a,Heap.SameBut a s.heap s'.heap/\(a=X.env.locals∨X.env.cells.lookup x=some a))->Q () s') (hf:X.fn x=true∨X.env.scope.names.lookup x=some .local:=by first | exact .inl rfl | exact .inr rfl | assumption):wpAny M A (storeName X.env x u) Q E s:=by
 obtain⟨m,hn,hl⟩:=id I.loc
 have hcls:(X.env.scope.kind == .class||(X.env.scope.kind == .module&&X.env.locals != X.env.globals))=false:=by rw[I.ok.kind];rfl
 have hiσ:i<σ.length:=by rw[I.len];exact(List.getElem?_eq_some_iff.mp hi).1
 have cne:=I.cne
 have tracked:∀{a:Addr}{h':Heap},(∃ o,s.heap.get? a=some o/\H a=none)->Heap.SameBut a s.heap h'->HOk X.prog X.w H h':=fun {a h'} ha hs b ob e=>by
  obtain⟨_,_,hfree⟩:=ha
  refine(I.hok b ob e).stay (fun c w' hc q=>(hs.2 c ?_).trans q) (fun _ q=>q) fun _ _ q=>q
  rintro rfl
  rcases hc with rfl | hc
  ·rw[hfree]at e;cases e
  ·rw[hfree]at hc;cases hc
 rcases hx with hk | hk
 ·refine wpAny_storeName_local hk hn (fun h' hn' hs=>?_) hcls
  obtain⟨oL,_,_,hoL,_⟩:=id hn
  refine h _ ⟨I.ok,I.os,I.bare,⟨fun b o e n hb hx=>?_,fun b o e n hb hx=>?_,I.base.free,fun b o e hx=>?_,I.base.tups,I.base.frzs,I.base.tbls⟩,⟨_,hn',fun j y v' e1 e2 e3=>?_⟩,fun y c e=>?_,I.free,I.freeC,fun p hp=>?_,tracked ⟨oL,hoL,I.free⟩ hs,by simpa using I.len⟩ ⟨_,hs,.inl rfl⟩
  ·exact(hs.2 b (Nat.ne_of_lt (Nat.lt_of_lt_of_le (Heap.lt_size e) I.ok.above))).trans (I.base.keep b o e n hb hx)
  ·obtain⟨sl,e1⟩:=I.base.slot b o e n hb hx
   exact⟨sl,(hs.2 b (Nat.ne_of_lt (Nat.lt_of_lt_of_le (Heap.lt_size e) I.ok.above))).trans e1⟩
  ·obtain⟨o',e1⟩:=I.base.there b o e hx
   exact⟨o',(hs.2 b (Nat.ne_of_lt (Nat.lt_of_lt_of_le (Heap.lt_size e) I.ok.above))).trans e1⟩
  ·by_cases hj:j=i
   ·subst hj
    rw[hi]at e1;cases e1
    rw[List.getElem?_set_self hiσ]at e2
    cases e2
    exact⟨u,r,.inl ⟨hk,by simp⟩⟩
   ·rw[List.getElem?_set_ne (Ne.symm hj)]at e2
    obtain⟨u',r',q⟩:=hl j y v' e1 e2 e3
    refine⟨u',r',?_⟩
    rcases q with⟨k,e⟩ | ⟨k,c,e,z⟩
    ·refine .inl ⟨k,?_⟩
     have:y≠x:=fun e=>hj (QHU hN e1 (e ▸ hi))
     simp[this,e]
    ·exact .inr ⟨k,c,e,z.sameBut hs (cne y c e)⟩
  ·obtain⟨w',z⟩:=I.cell y c e
   exact⟨w',z.sameBut hs (cne y c e)⟩
  ·obtain⟨e,n,ne,nf,d⟩:=I.pin p hp
   exact⟨(hs.2 p.1 ne).trans e,n,ne,nf,d⟩
 ·have hfn:X.fn x=true:=by
   rcases hf with z | z
   ·exact z
   ·rw[z]at hk;cases hk
  obtain⟨c,hc⟩:=I.ok.has x (.inl hk)
  obtain⟨w',z⟩:=I.cell x c hc
  refine wpAny_storeName_cell I.ok.kind hk hc z (fun h' hc' hs=>?_)
  obtain⟨oc,hoc,hocd⟩:=id z
  refine h { s with heap:=h' } ⟨I.ok,I.os,I.bare,⟨fun b o e n hb hx=>?_,fun b o e n hb hx=>?_,I.base.free,fun b o e hx=>?_,I.base.tups,I.base.frzs,I.base.tbls⟩,⟨m,hn.sameBut hs (Ne.symm (cne x c hc)),fun j y v' e1 e2 e3=>?_⟩,fun y c' e=>?_,I.free,I.freeC,fun p hp=>?_,tracked ⟨oc,hoc,I.freeC x c hc⟩ hs,by simpa using I.len⟩ ⟨c,hs,.inr hc⟩
  ·exact(hs.2 b (Nat.ne_of_lt (Nat.lt_of_lt_of_le (Heap.lt_size e) (I.ok.cab x c hfn hc)))).trans (I.base.keep b o e n hb hx)
  ·obtain⟨sl,e1⟩:=I.base.slot b o e n hb hx
   exact⟨sl,(hs.2 b (Nat.ne_of_lt (Nat.lt_of_lt_of_le (Heap.lt_size e) (I.ok.cab x c hfn hc)))).trans e1⟩
  ·obtain⟨o',e1⟩:=I.base.there b o e hx
   exact⟨o',(hs.2 b (Nat.ne_of_lt (Nat.lt_of_lt_of_le (Heap.lt_size e) (I.ok.cab x c hfn hc)))).trans e1⟩
  ·by_cases hj:j=i
   ·subst hj
    rw[hi]at e1;cases e1
    rw[List.getElem?_set_self hiσ]at e2
    cases e2
    exact⟨u,r,.inr ⟨.inl hk,c,hc,hc'⟩⟩
   ·rw[List.getElem?_set_ne (Ne.symm hj)]at e2
    obtain⟨u',r',q⟩:=hl j y v' e1 e2 e3
    refine⟨u',r',?_⟩
    rcases q with q | ⟨k,c',e,z'⟩
    ·exact .inl q
    ·refine .inr ⟨k,c',e,z'.sameBut hs ?_⟩
     rintro rfl
     exact hj (QHU hN e1 (I.ok.inj _ _ _ e hc ▸ hi))
  ·by_cases hcc:c'=c
   ·subst hcc;exact⟨_,hc'⟩
   ·obtain⟨w2,z2⟩:=I.cell y c' e
    exact⟨w2,z2.sameBut hs hcc⟩
  ·obtain⟨e,n,ne,nf,d⟩:=I.pin p hp
   refine⟨(hs.2 p.1 ?_).trans e,n,ne,nf,d⟩
   intro q
   rw[q,hoc]at e
   have q':oc=p.2:=Option.some.inj e
   exact d w' (by rw[← q'];exact hocd)
theorem QrB{M:Model}{A:Around}{E:Value->Shared->Prop}{i:Nat}{x:Str}{v:V}{u:Value}{Q:Unit->Shared->Prop}(I:Inv X pins σ H s)(hN:X.N.Nodup)(hi:X.N[i]?=some x)(hx:Loc X.env.scope x)(r:RelV v u)
 (h:∀ s',Inv X pins (σ.set i (some v)) H s'->Q () s') (hf:X.fn x=true∨X.env.scope.names.lookup x=some .local:=by first | exact .inl rfl | exact .inr rfl | assumption):wpAny M A (storeName X.env x u) Q E s:=
 QC2 I hN hi hx r (fun s' I' _=>h s' I') hf
theorem Inv.call'{s':Shared}{ch:List Addr}(I:Inv X pins σ H s)(ho:s'.os=s.os)(u:Un (frs X.stack) ch H H' s.heap s'.heap)(hok:HOk X.prog X.w H' s'.heap)(hg:AllBare s'.gens)
 (hch:∀ b∈ch,(b∈X.ex∨X.s₀.heap.objs.size<=b)/\b≠X.env.locals/\(∀ x c,X.env.cells.lookup x=some c->c≠b)/\∀ p∈X.pn++pins,p.1≠b):Inv X pins σ H' s':=by
 obtain⟨h',g',d',t',o'⟩:=s'
 have e:o'=s.os:=ho
 subst e
 exact I.call (g':=g') (t':=t') (d':=d') u hok hg hch
end
abbrev XK:=Value->Option Addr->Hp->Prop
abbrev St:=List (Option V)
abbrev VK:=V->Hp->Prop
abbrev TE:=St->Hp->VK->Prop
abbrev TT:=St->Hp->(Bool->Hp->Prop)->Prop
abbrev TA:=St->Hp->(List V->Hp->Prop)->Prop
structure Ends where
 nx:St->Hp->Prop
 rt:VK
 bk:St->Hp->Prop:=fun _ _=>False
 ct:St->Hp->Prop:=fun _ _=>False
abbrev TS:=Ends->St->Hp->Prop
def EP(X:Cx)(pins:List (Addr×Obj))(σ:St)(Q:VK)(u:Value)(s':Shared):Prop:=∃ v H',Inv X pins σ H' s'/\RelV v u/\Q v H'
def TP(X:Cx)(pins:List (Addr×Obj))(σ:St)(Q:Bool->Hp->Prop)(b:Bool)(s':Shared):Prop:=∃ H',Inv X pins σ H' s'/\Q b H'
def AP(X:Cx)(pins:List (Addr×Obj))(σ:St)(Q:List V->Hp->Prop)(us:List Value)(s':Shared):Prop:=∃ vs H',Inv X pins σ H' s'/\Vals vs us/\Q vs H'
def SP(X:Cx)(pins:List (Addr×Obj))(D:Ends)(f:Flow)(s':Shared):Prop:=
 match f with
 | .next=>∃ σ' H',Inv X pins σ' H' s'/\D.nx σ' H'
 | .brk=>∃ σ' H',Inv X pins σ' H' s'/\D.bk σ' H'
 | .cont=>∃ σ' H',Inv X pins σ' H' s'/\D.ct σ' H'
 | .ret u=>∃ v σ' H',Inv X pins σ' H' s'/\RelV v u/\D.rt v H'
def PE(X:Cx)(e:Expr)(t:TE):Prop:=
 ∀(pins:List (Addr×Obj))(s:Shared)(σ:St)(H:Hp)(Q:VK),Inv X pins σ H s->t σ H Q->wpAny (model X.prog X.w) X.A (eval e X.env) (EP X pins σ Q) X.xe s
def PT(X:Cx)(e:Expr)(t:TT):Prop:=
 ∀(pins:List (Addr×Obj))(s:Shared)(σ:St)(H:Hp)(Q:Bool->Hp->Prop),Inv X pins σ H s->t σ H Q->wpAny (model X.prog X.w) X.A (isTrue e X.env (eval e X.env)) (TP X pins σ Q) X.xe s
def PW(X:Cx)(e:Expr)(t:TT):Prop:=
 ∀(whole:Sem Value)(pins:List (Addr×Obj))(s:Shared)(σ:St)(H:Hp)(Q:Bool->Hp->Prop),Inv X pins σ H s->t σ H Q->wpAny (model X.prog X.w) X.A (isTrue e X.env whole) (TP X pins σ Q) X.xe s
theorem PW.pt{X:Cx}{e:Expr}{t:TT}(h:PW X e t):PT X e t:=h _
def PA(X:Cx)(es:List Expr)(t:TA):Prop:=
 ∀(pos:Pos)(pins:List (Addr×Obj))(s:Shared)(σ:St)(H:Hp)(Q:List V->Hp->Prop),Inv X pins σ H s->t σ H Q->wpAny (model X.prog X.w) X.A (spliced (backTo pos (starEach es X.env))) (AP X pins σ Q) X.xe s
def PS(X:Cx)(st:Stmt)(t:TS):Prop:=
 ∀(pins:List (Addr×Obj))(s:Shared)(σ:St)(H:Hp)(D:Ends),Inv X pins σ H s->t D σ H->wpAny (model X.prog X.w) X.A (exec st X.env) (SP X pins D) X.xe s
def PSs(X:Cx)(st:List Stmt)(t:TS):Prop:=
 ∀(pins:List (Addr×Obj))(s:Shared)(σ:St)(H:Hp)(D:Ends),Inv X pins σ H s->t D σ H->wpAny (model X.prog X.w) X.A (execs st X.env) (SP X pins D) X.xe s
theorem thn{α:Type}{t:Sem α}{Q Q':α->Shared->Prop}{M:Model}{A:Around}{E:Value->Shared->Prop}{s:Shared}(h:wpAny M A t Q E s)(hQ:∀ a s,Q a s->Q' a s):wpAny M A t Q' E s:=wpAny_mono h hQ fun _ _ x=>x
end L2
namespace L2
open PySem PySem.Spec PyProof.Rows
section
variable{X:Cx}
def tVar(i:Nat):TE:=fun σ H Q=>∃ v,σ[i]?=some (some v)/\Q v H
def tC(v:V):TE:=fun _ H Q=>Q v H
theorem QnT{i:Nat}{x:Str}{pos:Pos}(hN:X.N[i]?=some x)(hv:Vis X.env.scope x)(hd:(x == ("__debug__":Str))=false:=by decide)(hcd:(x == ("__classdict__":Str))=false:=by decide):PE X (.Name x pos) (tVar i):=by
 intro pins s σ H Q I h
 obtain⟨v,e,h⟩:=h
 obtain⟨m,hn,hl⟩:=I.loc
 obtain⟨u,r,l⟩:=hl i x v hN e hv
 have fin:EP X pins σ Q u s:=⟨v,H,I,r,h⟩
 rcases l with⟨hk,hm⟩ | ⟨hk,c,hc,hcell⟩
 ·exact wpAny_Name (wpAny_loadName_local I.ok.kind hk hn hm fin) hd
 ·rcases hk with hk | hk
  ·exact wpAny_Name (wpAny_loadName_cell I.ok.kind hk hc hcell fin) hd
  ·exact wpAny_Name (wpAny_loadName_free I.ok.kind hk hc hcell fin hcd) hd
theorem QSW{i j pos}:PE X (.Constant (.int i) j pos) (tC (.int i)):=fun _ _ _ H _ I h=>wpAny_Constant_int ⟨.int i,H,I.tok _,⟨_,rfl⟩,h⟩
theorem pe_bl{b j pos}:PE X (.Constant (.bool b) j pos) (tC (.bl b)):=fun _ _ _ H _ I h=>Constant_bool ⟨.bl b,H,I,rfl,h⟩
theorem QTg{j pos}:PE X (.Constant .none j pos) (tC .non):=fun _ _ _ H _ I h=>Constant_none ⟨.non,H,I,rfl,h⟩
theorem QTM{x j pos}:PE X (.Constant (.str x) j pos) (tC (.str x)):=fun _ _ _ H _ I h=>Calls.Constant_str ⟨.str x,H,I.tok _,⟨_,rfl⟩,h⟩
def Gl(X:Cx)(x:Str):Prop:=X.env.kindOf x=some .globalImplicit
theorem QBD{E:Value->Shared->Prop}{pins:List (Addr×Obj)}{s:Shared}{σ:St}{H:Hp}{x:Str}{u:Value}{pos:Pos}{Q:Value->Shared->Prop}(I:Inv X pins σ H s)(hg:Gl X x)(hm:X.mg x=some u)(h:Q u s)
 (hd:(x == ("__debug__":Str))=false:=by decide):wpAny (model X.prog X.w) X.A (eval (.Name x pos) X.env) Q E s:=
 Calls.Name_function_global I.ok.kind hg (Calls.loadGlobal_global (by rw[I.ok.glob];exact I.mod.glob.keeps I.bk) hm h) hd
theorem Qk2{E:Value->Shared->Prop}{pins:List (Addr×Obj)}{s:Shared}{σ:St}{H:Hp}{x:Str}{u:Value}{pos:Pos}{Q:Value->Shared->Prop}(I:Inv X pins σ H s)(hg:Gl X x)(hm:X.mg x=none)(hv:bootBuiltins x=some u)(h:Q u s)
 (hn:x≠"__name__":=by decide) (hd:(x == ("__debug__":Str))=false:=by decide):wpAny (model X.prog X.w) X.A (eval (.Name x pos) X.env) Q E s:=by
 obtain⟨mb,h1,h2⟩:=I.mod.blt
 exact Calls.Name_function_global I.ok.kind hg (Calls.loadGlobal_builtin (by rw[I.ok.glob];exact I.mod.glob.keeps I.bk) hm (by rw[I.ok.blt];exact h1.keeps I.bk) ((h2 x hn).trans hv) h) hd
theorem Qq0{x:Str}{v:V}{u:Value}{pos:Pos}(hg:Gl X x)(hm:X.mg x=some u)(r:RelV v u)(hd:(x == ("__debug__":Str))=false:=by decide):PE X (.Name x pos) (tC v):=
 fun _ _ _ H _ I h=>QBD I hg hm ⟨v,H,I,r,h⟩ hd
theorem QRF{x:Str}{v:V}{u:Value}{pos:Pos}(hg:Gl X x)(hm:X.mg x=none)(hv:bootBuiltins x=some u)(r:RelV v u)(hn:x≠"__name__":=by decide)(hd:(x == ("__debug__":Str))=false:=by decide):PE X (.Name x pos) (tC v):=
 fun _ _ _ H _ I h=>Qk2 I hg hm hv ⟨v,H,I,r,h⟩ hn hd
variable{a b:Expr}{ta tb:TE}{pos:Pos}
def tB(t:TE):TT:=fun σ H Q=>t σ H fun x H1=>∃ c,x=.bl c/\Q c H1
theorem QTT{e:Expr}{t:TE}(h:PE X e t)(he:∀ whole,isTrue e X.env whole=(do let v ← whole;standAt e.pos;holding [v] (truthy v)):=by intro _;rfl):PT X e (tB t):=by
 intro pins s σ H Q I hw
 refine isTrue_plain (thn (h pins s σ H _ I hw) fun v s1 ⟨x,H1,I1,r1,q1⟩=>?_) (he _)
 obtain⟨d,rfl,q⟩:=q1
 cases r1
 exact wpAny_truthy_bool ⟨H1,I1,q⟩
variable{tA tB':TT}{rest:List Expr}
def tAnd(t u:TT):TT:=fun σ H Q=>t σ H fun c H1=>if c=true then u σ H1 Q else Q false H1
def tOr(t u:TT):TT:=fun σ H Q=>t σ H fun c H1=>if c=true then Q true H1 else u σ H1 Q
def tNot(t:TT):TT:=fun σ H Q=>t σ H fun c H1=>Q (!c) H1
theorem QSf(ha:PT X a tA):PW X (.BoolOp .And [a] pos) tA:=by
 intro wh pins s σ H Q I h
 refine isTrue_and (thn (ha pins s σ H Q I h) fun c s1 e=>?_)
 cases c with
 | true=>exact isTrue_and_nil e
 | false=>exact e
theorem QUj(ha:PT X a tA):PW X (.BoolOp .Or [a] pos) tA:=by
 intro wh pins s σ H Q I h
 refine isTrue_or (thn (ha pins s σ H Q I h) fun c s1 e=>?_)
 cases c with
 | false=>exact isTrue_or_nil e
 | true=>exact e
theorem QUo(ha:PT X a tA)(hb:PW X (.BoolOp .And (b::rest) pos) tB'):PW X (.BoolOp .And (a::b::rest) pos) (tAnd tA tB'):=by
 intro wh pins s σ H Q I h
 refine isTrue_and (thn (ha pins s σ H _ I h) fun c s1 ⟨H1,I1,q1⟩=>?_)
 cases c with
 | true=>exact hb wh pins s1 σ H1 Q I1 q1
 | false=>exact⟨H1,I1,q1⟩
theorem pw_or(ha:PT X a tA)(hb:PW X (.BoolOp .Or (b::rest) pos) tB'):PW X (.BoolOp .Or (a::b::rest) pos) (tOr tA tB'):=by
 intro wh pins s σ H Q I h
 refine isTrue_or (thn (ha pins s σ H _ I h) fun c s1 ⟨H1,I1,q1⟩=>?_)
 cases c with
 | true=>exact⟨H1,I1,q1⟩
 | false=>exact hb wh pins s1 σ H1 Q I1 q1
theorem QTX(ha:PT X a tA):PT X (.UnaryOp .Not a pos) (tNot tA):=by
 intro pins s σ H Q I h
 exact isTrue_not (ha pins s σ H (fun c H1=>Q (!c) H1) I h)
def tAndV(ta tb:TE):TE:=fun σ H Q=>ta σ H fun x H1=>∃ c,x=.bl c/\if c=true then tb σ H1 Q else Q (.bl false) H1
def tNotV(ta:TE):TE:=fun σ H Q=>ta σ H fun x H1=>∃ c,x=.bl c/\Q (.bl (!c)) H1
theorem QTG{op}{t:TE}(h:PE X a t):PE X (.BoolOp op [a] pos) t:=fun pins s σ H Q I hw=>BoolOp_one (h pins s σ H Q I hw)
theorem QUD(ha:PE X a ta)(hb:PE X (.BoolOp .And (b::rest) pos) tb):PE X (.BoolOp .And (a::b::rest) pos) (tAndV ta tb):=by
 intro pins s σ H Q I h
 refine BoolOp_and (thn (ha pins s σ H _ I h) fun v s1 ⟨x,H1,I1,r1,q1⟩=>?_)
 obtain⟨c,rfl,q1⟩:=q1
 cases r1
 refine wpAny_truthy_bool ?_
 cases c with
 | true=>exact hb pins s1 σ H1 Q I1 q1
 | false=>exact⟨.bl false,H1,I1,rfl,q1⟩
theorem QSY(ha:PE X a ta):PE X (.UnaryOp .Not a pos) (tNotV ta):=by
 intro pins s σ H Q I h
 refine UnaryOp_ (thn (ha pins s σ H _ I h) fun v s1 ⟨x,H1,I1,r1,q1⟩=>?_)
 obtain⟨c,rfl,q1⟩:=q1
 cases r1
 exact not_of (wpAny_truthy_bool ⟨.bl (!c),H1,I1,rfl,q1⟩)
def tIf(t:TT)(ta tb:TE):TE:=fun σ H Q=>t σ H fun c H1=>if c=true then ta σ H1 Q else tb σ H1 Q
theorem QPW{c:Expr}(hc:PT X c tA)(ha:PE X a ta)(hb:PE X b tb):PE X (.IfExp c a b pos) (tIf tA ta tb):=by
 intro pins s σ H Q I h
 refine wpAny_IfExp (thn (hc pins s σ H _ I h) fun d s1 ⟨H1,I1,q1⟩=>?_)
 cases d with
 | true=>exact ha pins s1 σ H1 Q I1 q1
 | false=>exact hb pins s1 σ H1 Q I1 q1
end
end L2
namespace L2
open PySem PySem.Spec PyProof.Rows
def SqL(K:PySem.W.Frag)(H:Hp)(a:Addr)(xs:List V):Prop:=
 Rd H a (.lst xs)∨
  ∃(o:Obj)(its:Array Value)(n:Nat),K.lookup a=some o/\o.cls=.type "list"/\o.dict=none/\o.data=.seq its n/\its.size<=sizeLine/\Vals xs its.toList
def SqT(K:PySem.W.Frag)(H:Hp)(a:Addr)(xs:List V):Prop:=
 Rd H a (.tup xs)∨
  ∃(o:Obj)(its:Array Value)(n:Nat),K.lookup a=some o/\o.cls=.type "tuple"/\o.data=.seq its n/\its.size<=sizeLine/\Vals xs its.toList
def absV:Value->Option V
 | .none=>some .non
 | .bool b=>some (.bl b)
 | .int i _=>some (.int i)
 | .str x _=>some (.str x)
 | .bytes b _=>some (.byt b)
 | .float b _=>some (.flt b)
 | .ref a=>some (.ref a)
 | .type n=>some (.ty n)
 | _=>none
theorem RelV.abs{x:V}{u:Value}(r:RelV x u):absV u=some x:=by
 cases x with
 | non=>cases r;rfl
 | bl _=>cases r;rfl
 | int _=>obtain⟨t,rfl⟩:=r;rfl
 | str _=>obtain⟨t,rfl⟩:=r;rfl
 | byt _=>obtain⟨t,rfl⟩:=r;rfl
 | flt _=>obtain⟨t,rfl⟩:=r;rfl
 | ref _=>cases r;rfl
 | ty _=>cases r;rfl
theorem RelV.inj{x y:V}{u:Value}(r:RelV x u)(q:RelV y u):x=y:=Option.some.inj (r.abs.symm.trans q.abs)
theorem Vals.inj:∀{xs ys:List V}{us:List Value},Vals xs us->Vals ys us->xs=ys
 | _,_,_,.nil,.nil=>rfl
 | _,_,_,.cons r t,.cons r' t'=>by rw[r.inj r',Vals.inj t t']
section
variable{X:Cx}{pins:List (Addr×Obj)}{σ:St}{H:Hp}{s:Shared}{a:Addr}{xs ys:List V}
theorem SqL.of{K:PySem.W.Frag}(h:H a=some (.lst xs)):SqL K H a xs:=.inl (.inl h)
theorem SqT.of{K:PySem.W.Frag}(h:H a=some (.tup xs)):SqT K H a xs:=.inl (.inl h)
theorem Inv.list(I:Inv X pins σ H s)(h:SqL X.K H a xs):∃ its:List Value,Vals xs its/\PlainL s.heap a its.toArray/\xs.length<=sizeLine:=by
 rcases h with h | ⟨o,its,n,hk,hc,hd,hs,hz,r⟩
 ·obtain⟨z,its,n,r,e⟩:=h.ok I.hok
  exact⟨its,r,⟨_,n,e,rfl,rfl,rfl⟩,z⟩
 ·refine⟨its.toList,r,⟨o,n,I.kIn a o hk,hc,hd,by simpa using hs⟩,?_⟩
  have e:=r.length
  simp only[Array.length_toList]at e
  omega
theorem Inv.tuple(I:Inv X pins σ H s)(h:SqT X.K H a xs):∃ its:List Value,Vals xs its/\IsTup s.heap a its.toArray/\xs.length<=sizeLine:=by
 rcases h with h | ⟨o,its,n,hk,hc,hs,hz,r⟩
 ·obtain⟨z,its,r,p⟩:=h.ok I.hok
  exact⟨its,r,p,z⟩
 ·refine⟨its.toList,r,⟨o,I.kIn a o hk,hc,n,by simpa using hs⟩,?_⟩
  have e:=r.length
  simp only[Array.length_toList]at e
  omega
theorem Inv.list_inj(I:Inv X pins σ H s)(h:SqL X.K H a xs)(h':SqL X.K H a ys):xs=ys:=by
 obtain⟨its,r,⟨o,n,e,_,_,d⟩,_⟩:=I.list h
 obtain⟨its',r',⟨o',n',e',_,_,d'⟩,_⟩:=I.list h'
 rw[e]at e';cases e'
 rw[d]at d'
 injection d' with d1 _
 have:its=its':=by simpa using congrArg Array.toList d1
 subst this
 exact r.inj r'
end
abbrev Cx.wish(X:Cx)(E:Value->Shared->Prop):Cx:={ X with xe:=E }
abbrev Cx.nox(X:Cx):Cx:=X.wish fun _ _=>False
theorem Cx.Ok.wish{X:Cx}(ok:X.Ok)(E:Value->Shared->Prop):(X.wish E).Ok:=
 ⟨ok.mod,ok.kind,ok.glob,ok.blt,ok.above,ok.inj,ok.has,ok.cab,ok.hd,ok.frames,ok.stk,ok.exf,ok.bs,ok.bsz,ok.noex,ok.exfs,ok.funs,ok.frf⟩
theorem Cx.Ok.unwish{X:Cx}{E:Value->Shared->Prop}(ok:(X.wish E).Ok):X.Ok:=
 ⟨ok.mod,ok.kind,ok.glob,ok.blt,ok.above,ok.inj,ok.has,ok.cab,ok.hd,ok.frames,ok.stk,ok.exf,ok.bs,ok.bsz,ok.noex,ok.exfs,ok.funs,ok.frf⟩
section
variable{X:Cx}{pins:List (Addr×Obj)}{σ:St}{H:Hp}{s:Shared}{E:Value->Shared->Prop}
theorem Inv.wish(I:Inv X pins σ H s)(E:Value->Shared->Prop):Inv (X.wish E) pins σ H s:=⟨I.ok.wish E,I.os,I.bare,I.base,I.loc,I.cell,I.free,I.freeC,I.pin,I.hok,I.len⟩
theorem Inv.unwish(I:Inv (X.wish E) pins σ H s):Inv X pins σ H s:=⟨I.ok.unwish,I.os,I.bare,I.base,I.loc,I.cell,I.free,I.freeC,I.pin,I.hok,I.len⟩
theorem SP.unwish{D:Ends}{f:Flow}{s':Shared}(h:SP (X.wish E) pins D f s'):SP X pins D f s':=by
 cases f with
 | next=>obtain⟨σ',H',I,q⟩:=h;exact⟨σ',H',I.unwish,q⟩
 | brk=>obtain⟨σ',H',I,q⟩:=h;exact⟨σ',H',I.unwish,q⟩
 | cont=>obtain⟨σ',H',I,q⟩:=h;exact⟨σ',H',I.unwish,q⟩
 | ret u=>obtain⟨v,σ',H',I,r,q⟩:=h;exact⟨v,σ',H',I.unwish,r,q⟩
theorem PE.nox{e:Expr}{t:TE}(h:PE X.nox e t):PE X e t:=fun pins s σ H Q I hw=>
 wpAny_mono (h pins s σ H Q (I.wish _) hw) (fun _ _ ⟨v,H',I',r,q⟩=>⟨v,H',I'.unwish,r,q⟩) fun _ _ z=>False.elim z
theorem PT.nox{e:Expr}{t:TT}(h:PT X.nox e t):PT X e t:=fun pins s σ H Q I hw=>
 wpAny_mono (h pins s σ H Q (I.wish _) hw) (fun _ _ ⟨H',I',q⟩=>⟨H',I'.unwish,q⟩) fun _ _ z=>False.elim z
theorem PSs.nox{st:List Stmt}{t:TS}(h:PSs X.nox st t):PSs X st t:=fun pins s σ H D I hw=>
 wpAny_mono (h pins s σ H D (I.wish _) hw) (fun _ _ q=>q.unwish) fun _ _ z=>False.elim z
end
section
variable{X:Cx}{st:Stmt}{rest:List Stmt}{t u:TS}{e:Expr}{te:TE}{pos:Pos}
def tNext:TS:=fun D σ H=>D.nx σ H
def tSeq(t u:TS):TS:=fun D σ H=>t { D with nx:=u D } σ H
theorem QR7:PSs X [] tNext:=fun _ _ σ H _ I h=>wpAny_execs_nil ⟨σ,H,I,h⟩
theorem QP4(h1:PS X st t)(h2:PSs X rest u):PSs X (st::rest) (tSeq t u):=by
 intro pins s σ H D I h
 refine wpAny_execs_cons (thn (h1 pins s σ H { D with nx:=u D } I h) fun f s1 q=>?_)
 cases f with
 | next=>
  obtain⟨σ',H',I',q⟩:=q
  exact h2 pins s1 σ' H' D I' q
 | ret v=>exact q
 | brk=>exact q
 | cont=>exact q
theorem QRX(h1:PS X st t):PSs X [st] t:=by
 intro pins s σ H D I h
 refine wpAny_execs_cons (thn (h1 pins s σ H D I h) fun f s1 q=>?_)
 cases f with
 | next=>exact wpAny_execs_nil q
 | ret v=>exact q
 | brk=>exact q
 | cont=>exact q
theorem Inv.quiet{pins:List (Addr×Obj)}{σ:St}{H:Hp}{s:Shared}(I:Inv X pins σ H s):interactive X.env=false:=by simp[interactive,I.ok.kind]
def tDrop(te:TE):TS:=fun D σ H=>te σ H fun _ H1=>D.nx σ H1
theorem QK8(he:PE X e te)(hs:swapsWith e none pos.line X.env=pure false:=by rfl):PS X (.Expr e pos) (tDrop te):=by
 intro pins s σ H D I h
 exact wpAny_Expr_any (thn (he pins s σ H _ I h) fun v s1 ⟨x,H1,I1,r1,q1⟩=>⟨σ,H1,I1,q1⟩) I.quiet hs
def tRet(te:TE):TS:=fun D σ H=>te σ H D.rt
theorem QG7(he:PE X e te):PS X (.Return (some e) pos) (tRet te):=by
 intro pins s σ H D I h
 exact wpAny_Return_some (thn (he pins s σ H _ I h) fun v s1 ⟨x,H1,I1,r1,q1⟩=>⟨x,σ,H1,I1,r1,q1⟩)
def tIfS(c:TT)(t u:TS):TS:=fun D σ H=>c σ H fun b H1=>if b=true then t D σ H1 else u D σ H1
theorem ps_if{c:Expr}{a b:List Stmt}{tc:TT}(hc:PT X c tc)(ha:PSs X a t)(hb:PSs X b u):PS X (.If c a b pos) (tIfS tc t u):=by
 intro pins s σ H D I h
 refine wpAny_If (thn (hc pins s σ H _ I h) fun d s1 ⟨H1,I1,q1⟩=>?_)
 cases d with
 | true=>exact ha pins s1 σ H1 D I1 q1
 | false=>exact hb pins s1 σ H1 D I1 q1
def QTS:TS:=fun _ _ _=>False
theorem QQq:PS X st QTS:=fun _ _ _ _ _ _ h=>h.elim
end
abbrev TG:=V->St->Hp->(St->Hp->Prop)->Prop
abbrev TGs:=List V->St->Hp->(St->Hp->Prop)->Prop
def PG(X:Cx)(target:Expr)(t:TG):Prop:=
 ∀(pins:List (Addr×Obj))(s:Shared)(σ:St)(H:Hp)(v:V)(u:Value)(Q:St->Hp->Prop),Inv X pins σ H s->RelV v u->t v σ H Q->
  wpAny (model X.prog X.w) X.A (assign target X.env u) (fun _ s'=>∃ σ' H',Inv X pins σ' H' s'/\Q σ' H') X.xe s
def PGs(X:Cx)(ts:List Expr)(t:TGs):Prop:=
 ∀(pins:List (Addr×Obj))(s:Shared)(σ:St)(H:Hp)(vs:List V)(us:List Value)(Q:St->Hp->Prop),Inv X pins σ H s->Vals vs us->t vs σ H Q->
  wpAny (model X.prog X.w) X.A (assignInOrder ((assignEach ts X.env).map (·.2)) us) (fun _ s'=>∃ σ' H',Inv X pins σ' H' s'/\Q σ' H') X.xe s
section
variable{X:Cx}{pos:Pos}
def gName(i:Nat):TG:=fun v σ H Q=>Q (σ.set i (some v)) H
theorem QLa{i:Nat}{x:Str}(hN:X.N.Nodup)(hi:X.N[i]?=some x)(hx:Loc X.env.scope x)(hf:X.fn x=true∨X.env.scope.names.lookup x=some .local:=by first | exact .inl rfl | exact .inr rfl | assumption):PG X (.Name x pos) (gName i):=by
 intro pins s σ H v u Q I r h
 exact wpAny_assign_Name (QrB I hN hi hx r (fun s' I'=>⟨_,H,I',h⟩) hf)
def gNil:TGs:=fun vs σ H Q=>vs=[]/\Q σ H
def gCons(t:TG)(u:TGs):TGs:=fun vs σ H Q=>∃ v r,vs=v::r/\t v σ H fun σ' H'=>u r σ' H' Q
theorem QSP:PGs X [] gNil:=by
 intro pins s σ H vs us Q I r h
 obtain⟨e,h⟩:=h
 subst e
 cases r
 exact assignInOrder_nil ⟨σ,H,I,h⟩
theorem QPK{e:Expr}{es:List Expr}{t:TG}{u:TGs}(h1:PG X e t)(h2:PGs X es u)
 (hs:(assignEach (e::es) X.env).map (·.2)=assign e X.env::(assignEach es X.env).map (·.2):=by rfl):PGs X (e::es) (gCons t u):=by
 intro pins s σ H vs us Q I r h
 obtain⟨v,vr,e1,h⟩:=h
 subst e1
 cases r with
 | cons r rr=>
  rw[hs]
  refine assignInOrder_cons (thn (h1 pins s σ H _ _ _ I r h) fun _ s1 ⟨σ1,H1,I1,q1⟩=>?_)
  exact h2 pins s1 σ1 H1 _ _ Q I1 rr q1
def gTup(K:PySem.W.Frag)(n:Nat)(t:TGs):TG:=fun v σ H Q=>∃ a xs,v=.ref a/\SqT K H a xs/\xs.length=n/\t xs σ H Q
theorem QPt{es:List Expr}{k:Nat}{t:TGs}{n:Nat}(hc:X.calm=true)(h:PGs X es t)
 (hn:(assignEach es X.env).length=n:=by rfl) (hst:(assignEach es X.env).findIdx? (·.1)=none:=by rfl):PG X (.Tuple es k pos) (gTup X.K n t):=by
 intro pins s σ H v u Q I r hw
 obtain⟨a,xs,e1,hq,hl,hw⟩:=hw
 subst e1
 cases r
 obtain⟨its,rv,ht,hz⟩:=I.tuple hq
 refine assign_Tuple_tuple (I.ok.hd hc) ht (by simp[hn, ← hl,rv.length]) hst fun h' hx=>?_
 have I1:Inv X pins σ H { s with heap:=h' }:=I.kept (t':=s.toks) fun b o e=>hx b o (Nat.ne_of_lt (Heap.lt_size e)) e
 exact h pins _ σ H xs _ Q I1 (by simpa using rv) hw
def tAsg(te:TE)(g:TG):TS:=fun D σ H=>te σ H fun x H1=>g x σ H1 D.nx
theorem QUA{tg e:Expr}{te:TE}{g:TG}(he:PE X e te)(hg:PG X tg g)(hs:swapsWithSole [tg] e pos.line X.env=pure false:=by rfl)(hw:swappedStores [tg] e X.env=pure none:=by rfl)
 (h1:(assignEach [tg] X.env).map (·.2)=[assign tg X.env]:=by rfl):PS X (.Assign [tg] e pos) (tAsg te g):=by
 intro pins s σ H D I h
 refine wpAny_Assign_stores (thn (he pins s σ H _ I h) fun v s1 ⟨x,H1,I1,r1,q1⟩=>?_) hs hw
 rw[h1]
 exact thn (hg pins s1 σ H1 x v _ I1 r1 q1) fun _ s2 q=>q
theorem QPm{i:Nat}{x:Str}{e:Expr}{te:TE}{pos':Pos}(hN:X.N.Nodup)(hi:X.N[i]?=some x)(hx:Loc X.env.scope x)(he:PE X e te)(hs:swapsWith e (some (.Name x pos')) pos.line X.env=pure false:=by rfl)(hf:X.fn x=true∨X.env.scope.names.lookup x=some .local:=by first | exact .inl rfl | exact .inr rfl | assumption):
 PS X (.Assign [.Name x pos'] e pos) (tAsg te (gName i)):=by
 intro pins s σ H D I h
 refine wpAny_Assign_Name (thn (he pins s σ H _ I h) fun v s1 ⟨y,H1,I1,r1,q1⟩=>?_) hs
 exact QrB I1 hN hi hx r1 (fun s2 I2=>⟨_,H1,I2,q1⟩) hf
def tPar(i j:Nat)(ta:TA):TS:=fun D σ H=>ta σ H fun vs H1=>∃ v w,vs=[v,w]/\D.nx ((σ.set i (some v)).set j (some w)) H1
theorem QTI{i j:Nat}{x y:Str}{a b:Expr}{ta:TA}{px py pt:Pos}{kt k2 pt2}(hc:X.calm=true)(hN:X.N.Nodup)(hi:X.N[i]?=some x)(hj:X.N[j]?=some y)(hij:i≠j)
 (hx:X.env.scope.names.lookup x=some .local) (hy:X.env.scope.names.lookup y=some .local) (ha:PA X [a,b] ta)
 (hw:swappedStores [.Tuple [.Name x px,.Name y py] kt pt] (.Tuple [a,b] k2 pt2) X.env=pure (some [x,y]))
 (hs:swapsWithSole [.Tuple [.Name x px,.Name y py] kt pt] (.Tuple [a,b] k2 pt2) pos.line X.env=pure false:=by rfl):
 PS X (.Assign [.Tuple [.Name x px,.Name y py] kt pt] (.Tuple [a,b] k2 pt2) pos) (tPar i j ta):=by
 intro pins s σ H D I h
 rw[exec_Assign_arm]
 refine wpAny_bind (wpAny_standAt ?_)
 rw[hs]
 refine wpAny_bind (wpAny_pure ?_)
 rw[if_neg (by decide)]
 refine wpAny_bind (Tuple_ (thn (ha _ pins s σ H _ I h) fun us s1 ⟨vs,H1,I1,r1,q1⟩=>?_))
 obtain⟨v,w,e1,q1⟩:=q1
 subst e1
 obtain⟨u1,u2,rfl,rv,rw'⟩:∃ u1 u2,us=[u1,u2]/\RelV v u1/\RelV w u2:=by
  cases r1 with
  | cons p q=>
   cases q with
   | cons p' q'=>
    cases q'
    exact⟨_,_,rfl,p,p'⟩
 refine wpAny_newObj_type ?_ (by show 2<=sizeLine;decide)
 have I2:Inv X pins σ H1 { s1 with heap:=s1.heap.push { cls:=.type "tuple",data:=.seq [u1,u2].toArray } }:=I1.kept (t':=s1.toks) fun b o e=>Heap.get?_push_of_some _ e
 rw[hw]
 refine wpAny_bind (wpAny_pure ?_)
 show wpAny (model X.prog X.w) X.A (do rule "assign.swapped-stores";let items ← unpackItems (.ref s1.heap.objs.size) 2 none;assignInOrder [fun v=>bindName X.env y v,fun v=>bindName X.env x v] items.reverse;pure Flow.next) _ _ _
 refine wpAny_bind (wpAny_rule (wpAny_bind (unpackItems_tuple (items := #[u1,u2]) (I.ok.hd hc) (IsTup.new s1.heap _) fun h' hx'=>?_)))
 have I3:=I2.kept (h':=h') (t':=s1.toks) fun b o e=>hx' b o (Nat.ne_of_lt (Heap.lt_size e)) e
 show wpAny _ _ (assignInOrder [fun v=>bindName X.env y v,fun v=>bindName X.env x v] [u2,u1]>>=fun _=>pure Flow.next) _ _ _
 refine wpAny_bind (assignInOrder_cons (wpAny_bindName (QrB I3 hN hj (.inl hy) rw' (fun s2 I4=>?_) (.inr hy))))
 refine assignInOrder_cons (wpAny_bindName (QrB I4 hN hi (.inl hx) rv (fun s3 I5=>assignInOrder_nil (wpAny_pure ?_)) (.inr hx)))
 rw[List.set_comm _ _ (Ne.symm hij)]at I5
 exact⟨_,H1,I5,q1⟩
end
section
variable{X:Cx}{pos:Pos}
def QUe(c:TT)(tb:TS):TS:=fun D σ H=>∃ W:Nat->St->Hp->Prop,(∃ m,W m σ H)/\∀ m σ H,W m σ H->
 c σ H fun b H1=>if b=true then ∃ N:St->Hp->Prop,(∀ σ' H',N σ' H'->∃ m',m'<m/\W m' σ' H')/\tb { D with nx:=N,ct:=N,bk:=D.nx } σ H1 else D.nx σ H1
theorem QP9{c:Expr}{body:List Stmt}{tc:TT}{tb:TS}(hp:PassesOwn (model X.prog X.w) X.A X.env X.xe)(hc:PT X c tc)(hb:PSs X body tb):PS X (.While c body [] pos) (QUe tc tb):=by
 intro pins s σ H D I h
 obtain⟨W,⟨m0,w0⟩,turn⟩:=h
 refine wpAny_While (codeAny_whileLoop (fun n s'=>∃ σ' H',Inv X pins σ' H' s'/\W n σ' H') ?_ m0 ⟨σ,H,I,w0⟩)
 rintro n s1 ⟨σ1,H1,I1,w1⟩
 refine wpAny_passesOwn hp (thn (hc pins s1 σ1 H1 _ I1 (turn n σ1 H1 w1)) fun b s2 ⟨H2,I2,q2⟩=>?_)
 cases b with
 | true=>
  obtain⟨N,hN,q2⟩:=q2
  rw[if_pos rfl]
  refine wpAny_passesOwn hp (thn (hb pins s2 σ1 H2 _ I2 q2) fun f s3 q3=>?_)
  cases f with
  | next=>
   obtain⟨σ3,H3,I3,n3⟩:=q3
   obtain⟨m',hm,w3⟩:=hN σ3 H3 n3
   exact⟨m',hm,σ3,H3,I3,w3⟩
  | cont=>
   obtain⟨σ3,H3,I3,n3⟩:=q3
   obtain⟨m',hm,w3⟩:=hN σ3 H3 n3
   exact⟨m',hm,σ3,H3,I3,w3⟩
  | brk=>exact q3
  | ret v=>exact q3
 | false=>
  rw[if_neg Bool.false_ne_true]
  exact wpAny_execs_nil ⟨σ1,H2,I2,q2⟩
end
structure It where
 go:Nat->Hp->Prop
 yld:Nat->Hp->V->Hp->Prop
 stop:Nat->Hp->Prop
def FpOk(X:Cx)(pins:List (Addr×Obj))(H:Hp)(b:Addr):Prop:=
 H b=none/\b≠X.env.locals/\b∉X.fs/\(b∈X.ex∨X.s₀.heap.objs.size<=b)/\(∀ x c,X.env.cells.lookup x=some c->c≠b)/\∀ p∈X.pn++pins,p.1≠b
theorem Inv.fpOk{X:Cx}{pins:List (Addr×Obj)}{σ:St}{H H':Hp}{s:Shared}{b:Addr}(I:Inv X pins σ H s)(hb:s.heap.objs.size<=b)(hn:H' b=none):FpOk X pins H' b:=by
 refine⟨hn,Nat.ne_of_gt (Nat.lt_of_lt_of_le I.lt hb),I.nofs hb,.inr (Nat.le_trans I.sz hb),fun x c e z=>?_,fun p hp z=>?_⟩
 ·obtain⟨v,q⟩:=I.cell x c e
  exact absurd (Nat.lt_of_lt_of_le q.lt (by rw[z];exact hb)) (Nat.lt_irrefl _)
 ·exact absurd (Nat.lt_of_lt_of_le (Heap.lt_size (I.pin p hp).1) (by rw[z];exact hb)) (Nat.lt_irrefl _)
structure Turn(P:Program)(w:World)(K:PySem.W.Frag)(tg:Expr)(J:It)(fp:List Addr)(it:Addr)(tn:Nat->Heap->Prop):Prop where
 mem:it∈fp
 obj:∀ i h,tn i h->∀ b∈fp,∃ o,h.get? b=some o/\∀ v,o.data≠.cell v
 keep:∀ i h h',tn i h->(∀ b∈fp,∀ o,h.get? b=some o->h'.get? b=some o)->tn i h'
 item:∀(X:Cx),X.prog=P->X.w=w->X.K=K->X.calm=true->∀(i:Nat)(pins:List (Addr×Obj))(s:Shared)(σ:St)(H:Hp)(E:Value->Shared->Prop),Inv X pins σ H s->(∀ b∈fp,FpOk X pins H b)->tn i s.heap->J.go i H->
  wpAny (model P w) X.A (pyNext (.ref it)) (fun r s1=>∃ u,r=some u/\
   wpAny (model P w) X.A (letOwnedTupleGo tg (.ref it) u) (fun _ s2=>∃ x H',Inv X pins σ H' s2/\RelV x u/\J.yld i H x H'/\tn (i+1) s2.heap/\∀ b∈fp,H' b=none) E s1) E s
 done:∀(X:Cx),X.prog=P->X.w=w->X.K=K->X.calm=true->∀(i:Nat)(pins:List (Addr×Obj))(s:Shared)(σ:St)(H:Hp)(E:Value->Shared->Prop),Inv X pins σ H s->(∀ b∈fp,FpOk X pins H b)->tn i s.heap->J.stop i H->
  wpAny (model P w) X.A (pyNext (.ref it)) (fun r s1=>r=none/\Inv X pins σ H s1) E s
 self:∀(A:Around)(i:Nat)(s:Shared)(Q:Value->Shared->Prop)(E:Value->Shared->Prop),tn i s.heap->Q (.ref it) s->wpAny (model P w) A (pyIter (.ref it)) Q E s
abbrev TI:=St->Hp->(It->Hp->Prop)->Prop
def PIE(X:Cx)(pins:List (Addr×Obj))(σ:St)(tg:Expr)(R:It->Hp->Prop)(itv:Value)(s2:Shared):Prop:=
 ∃(it:Addr)(fp:List Addr)(tn:Nat->Heap->Prop)(J:It)(H':Hp),itv=.ref it/\Inv X pins σ H' s2/\Turn X.prog X.w X.K tg J fp it tn/\tn 0 s2.heap/\(∀ b∈fp,FpOk X pins H' b)/\R J H'
def PI(X:Cx)(tg iter:Expr)(wi:TI):Prop:=
 ∀(pins:List (Addr×Obj))(s:Shared)(σ:St)(H:Hp)(R:It->Hp->Prop),Inv X pins σ H s->wi σ H R->
  wpAny (model X.prog X.w) X.A (eval iter X.env) (fun v s1=>wpAny (model X.prog X.w) X.A (pyIter v) (PIE X pins σ tg R) X.xe s1) X.xe s
theorem go_of{M:Model}{A:Around}{E:Value->Shared->Prop}{s:Shared}{tg:Expr}{it:Addr}{u:Value}{o:Obj}{n:String}{vs:Array Value}{Q:Unit->Shared->Prop}(ho:s.heap.get? it=some o)(hc:o.cls=.type n)(hd:o.data=.fields vs)
 (hn:["enumerate","zip","dict_itemiterator","dict_reverseitemiterator","odict_iterator","itertools.zip_longest","itertools.pairwise"].contains n=false) (hQ:Q () s):wpAny M A (letOwnedTupleGo tg (.ref it) u) Q E s:=by
 unfold letOwnedTupleGo
 cases tg<;>first
  | exact wpAny_pure hQ
  | (cases u<;>first
   | exact wpAny_pure hQ
   | (refine wpAny_bind (wpAny_load ho ?_)
      rw[hc,hd]
      show wpAny M A (if (["enumerate","zip","dict_itemiterator","dict_reverseitemiterator","odict_iterator","itertools.zip_longest","itertools.pairwise"].contains n&&vs[0]? == some (rawInt _))=true then _ else _) Q E s
      rw[if_neg (by intro h;rw[hn,Bool.false_and]at h;cases h)]
      exact wpAny_pure hQ))
def Itl(K:PySem.W.Frag)(a:Addr):It:=
 ⟨fun i H=>∃ xs x,SqL K H a xs/\xs[i]?=some x,fun i H x H'=>H'=H/\∀ xs,SqL K H a xs->xs[i]?=some x,fun i H=>∃ xs,SqL K H a xs/\xs.length<=i⟩
def Itr(lo:Int)(n:Nat):It:=⟨fun i _=>i<n,fun i H x H'=>H'=H/\x=.int (lo+i),fun i _=>n<=i⟩
theorem QN7{P:Program}{w:World}{K:PySem.W.Frag}{tg:Expr}(a it:Addr):Turn P w K tg (Itl K a) [it] it (fun i h=>h.IsListIter it a i) where
 mem:=by simp
 obj:=fun i h st b hb=>by
  have e:b=it:=by simpa using hb
  subst e
  obtain⟨o,e,c,d⟩:=st
  exact⟨o,e,fun v z=>by rw[d]at z;cases z⟩
 keep:=fun i h h' st k=>st.at fun o e=>k it (by simp) o e
 item:=by
  intro X hP hw hK hc i pins s σ H E I hf st hg
  subst hP hw hK
  obtain⟨xs,x,hq,hx⟩:=hg
  obtain⟨its,rv,p,hz⟩:=I.list hq
  obtain⟨u,hu,ru⟩:=rv.get hx
  obtain⟨f0,f1,f2,f3,f4,f5⟩:=hf it (by simp)
  refine wpAny_pyNext_list_item st p.isList (x:=u) (by simpa using hu) fun h' st' sb=>?_
  have I1:Inv X pins σ H { s with heap:=h' }:=I.turned (t':=s.toks) (fun b o hb e=>(sb.2 b hb).trans e) f0 f1 f3 f4 f5
  obtain⟨o,e,c,d⟩:=id st'
  exact⟨u,rfl,go_of (s:={ s with heap:=h' }) e c d (by decide) ⟨x,H,I1,ru,⟨rfl,fun ys hy=>by rw[I.list_inj hy hq];exact hx⟩,st',fun b hb=>(hf b hb).1⟩⟩
 done:=by
  intro X hP hw hK hc i pins s σ H E I hf st hg
  subst hP hw hK
  obtain⟨xs,hq,hx⟩:=hg
  obtain⟨its,rv,p,hz⟩:=I.list hq
  obtain⟨f0,f1,f2,f3,f4,f5⟩:=hf it (by simp)
  have hl:=rv.length
  exact wpAny_pyNext_list_end (I.ok.hd hc) st p.isList (by simp;omega) fun h' eb=>⟨rfl,I.turned (t':=s.toks) (fun b o hb e=>eb b o hb e) f0 f1 f3 f4 f5⟩
 self:=fun _ _ _ _ _ st h=>wpAny_pyIter_listiter st h
theorem QNH{P:Program}{w:World}{K:PySem.W.Frag}{tg:Expr}(it:Addr)(lo:Int)(n:Nat):Turn P w K tg (Itr lo n) [it] it (fun i h=>IsRangeIter h it (lo+(i:Nat) * 1) ((n:Int) - (i:Nat)) 1) where
 mem:=by simp
 obj:=fun i h st b hb=>by
  have e:b=it:=by simpa using hb
  subst e
  exact⟨_,st,fun v z=>by
   have z':Data.fields _=Data.cell v:=z
   cases z'⟩
 keep:=fun i h h' st k=>k it (by simp) _ st
 item:=by
  intro X hP hw hK hc i pins s σ H E I hf st hg
  subst hP hw hK
  obtain⟨f0,f1,f2,f3,f4,f5⟩:=hf it (by simp)
  have W:=Walks.range (prog:=X.prog) (w:=X.w) (I.ok.hd hc) it lo 1 n
  refine W.item i s _ _ hg st fun v h' tk hv st' kk=>?_
  obtain⟨t,rfl⟩:=hv
  have I1:Inv X pins σ H { s with heap:=h',toks:=tk }:=I.turned (fun b o hb e=>kk b o (by simpa using hb) e) f0 f1 f3 f4 f5
  refine⟨_,rfl,go_of (s:={ s with heap:=h',toks:=tk }) (n:="range_iterator") st' rfl rfl (by decide) ⟨.int (lo+i),H,I1,⟨t,?_⟩,⟨rfl,rfl⟩,st',fun b hb=>(hf b hb).1⟩⟩
  rw[Int.mul_one]
 done:=by
  intro X hP hw hK hc i pins s σ H E I hf st hg
  subst hP hw hK
  obtain⟨f0,f1,f2,f3,f4,f5⟩:=hf it (by simp)
  exact wpAny_pyNext_range_end (I.ok.hd hc) st (by have:n<=i:=hg;omega) fun h' eb=>⟨rfl,I.turned (t':=s.toks) (fun b o hb e=>eb b o hb e) f0 f1 f3 f4 f5⟩
 self:=fun _ _ _ _ _ st h=>wpAny_pyIter_rangeiter st h
end L2
namespace L2
open PySem PySem.Spec PyProof.Rows
section
variable{X:Cx}{tg:Expr}
def iList(K:PySem.W.Frag)(tl:TE):TI:=fun σ H R=>tl σ H fun x H1=>∃ a,x=.ref a/\(∃ xs,SqL K H1 a xs)/\R (Itl K a) H1
theorem QQ5{l:Expr}{tl:TE}(hl:PE X l tl):PI X tg l (iList X.K tl):=by
 intro pins s σ H R I h
 refine thn (hl pins s σ H _ I h) fun v s1 ⟨x,H1,I1,r1,q1⟩=>?_
 obtain⟨a,e,⟨xs,hq⟩,q⟩:=q1
 subst e
 cases r1
 obtain⟨its,rv,p,hz⟩:=I1.list hq
 refine wpAny_pyIter_list p.isList ?_
 refine⟨s1.heap.objs.size,[s1.heap.objs.size],_,_,H1,rfl,I1.kept (t':=s1.toks) fun b o e=>Heap.get?_push_of_some _ e,QN7 a _,⟨_,Heap.get?_push_size _ rfl,rfl,rfl⟩,fun b hb=>?_,q⟩
 have e:b=s1.heap.objs.size:=by simpa using hb
 subst e
 exact I1.fpOk (Nat.le_refl _) (I1.hok.fresh (Nat.le_refl _))
theorem QQF{pins:List (Addr×Obj)}{σ:St}{H:Hp}{s:Shared}{R:It->Hp->Prop}{E:Value->Shared->Prop}{lo hi:Int}{t u v:Tok}{tk:Nat}(I:Inv X pins σ H s)(h1 : -(2 ^ 62)<=lo)(h2:lo<2 ^ 62)(h3 : -(2 ^ 62)<=hi)(h4:hi<2 ^ 62)
 (q:R (Itr lo (hi - lo).toNat) H):wpAny (model X.prog X.w) X.A (pyIter (.ref s.heap.objs.size)) (PIE X pins σ tg R) E { s with heap:=s.heap.push { cls:=.type "range",data:=.fields #[.int lo t,.int hi u,.int 1 v] },toks:=tk }:=by
 refine wpAny_pyIter_range (IsRange.new ..) (small_one h1 h2 h3 h4) ?_
 have I1:Inv X pins σ H { s with heap:=s.heap.push { cls:=.type "range",data:=.fields #[.int lo t,.int hi u,.int 1 v] },toks:=tk }:=I.kept fun b o e=>Heap.get?_push_of_some _ e
 refine⟨(s.heap.push { cls:=.type "range",data:=.fields #[.int lo t,.int hi u,.int 1 v] }).objs.size,[(s.heap.push { cls:=.type "range",data:=.fields #[.int lo t,.int hi u,.int 1 v] }).objs.size],_,_,H,rfl,
  I1.kept (t':=tk) fun b o e=>Heap.get?_push_of_some _ e,QNH _ lo (hi - lo).toNat,?_,fun b hb=>?_,q⟩
 ·have e1:lo+((0:Nat):Int) * 1=lo:=by simp
  have e2:(((hi - lo).toNat:Nat):Int) - ((0:Nat):Int)=Builtin.Range.rangeSize lo hi 1:=by rw[rangeSize_one];split<;>omega
  show IsRangeIter _ _ (lo+((0:Nat):Int) * 1) ((((hi - lo).toNat:Nat):Int) - ((0:Nat):Int)) 1
  rw[e1,e2]
  exact Heap.get?_push_size _ rfl
 ·have e:b=(s.heap.push { cls:=.type "range",data:=.fields #[.int lo t,.int hi u,.int 1 v] }).objs.size:=by simpa using hb
  subst e
  exact I1.fpOk (Nat.le_refl _) (I1.hok.fresh (Nat.le_refl _))
def iRng1(ta:TA):TI:=fun σ H R=>ta σ H fun vs H1=>∃ j:Int,vs=[.int j] /\ -(2 ^ 62)<=j/\j<2 ^ 62/\R (Itr 0 j.toNat) H1
theorem QO9{a:Expr}{ta:TA}{p pos:Pos}(hg:Gl X "range")(hm:X.mg "range"=none)(ha:PA X [a] ta)(hs:starEach [a] X.env=[(false,eval a X.env)]:=by rfl):PI X tg (.Call (.Name "range" p) [a] [] pos) (iRng1 ta):=by
 intro pins s σ H R I h
 refine Call_ (Qk2 I hg hm boot_range (PyProof.Rows.callWith_type1 (thn (ha pos pins s σ H _ I h) fun us s1 ⟨vs,H1,I1,r1,q1⟩=>?_) hs rfl))
 obtain⟨j,e,q1,q2,q⟩:=q1
 subst e
 cases r1 with
 | cons r rr=>
  cases rr
  obtain⟨t,rfl⟩:=r
  exact call_range_1 (QQF I1 (by omega) (by omega) q1 q2 (by simpa using q))
def tFor(wi:TI)(g:TG)(tb:TS):TS:=fun D σ H=>wi σ H fun J H1=>∃ W:Nat->Nat->St->Hp->Prop,(∃ m,W 0 m σ H1)/\∀ i m σ H,W i m σ H->
 (J.stop i H/\D.nx σ H)∨(J.go i H/\∃ N:St->Hp->Prop,(∀ σ' H',N σ' H'->∃ m',m'<m/\W (i+1) m' σ' H')/\∀ x H',J.yld i H x H'->g x σ H' fun σ2 H2=>tb { D with nx:=N,ct:=N,bk:=D.nx } σ2 H2)
def Qvv(fp:List Addr)(h:Heap):List (Addr×Obj):=fp.filterMap fun b=>(h.get? b).map fun o=>(b,o)
theorem Qmz{fp:List Addr}{h:Heap}{b:Addr}{o:Obj}(hb:b∈fp)(e:h.get? b=some o):(b,o)∈Qvv fp h:=List.mem_filterMap.mpr ⟨b,hb,by rw[e];rfl⟩
theorem QOP{fp:List Addr}{h:Heap}{p:Addr×Obj}(hp:p∈Qvv fp h):p.1∈fp/\h.get? p.1=some p.2:=by
 obtain⟨b,hb,e⟩:=List.mem_filterMap.mp hp
 cases q:h.get? b with
 | none=>rw[q]at e;cases e
 | some o=>
  rw[q]at e
  have e':(b,o)=p:=Option.some.inj e
  subst e'
  exact⟨hb,q⟩
theorem Inv.pinned{pins:List (Addr×Obj)}{σ:St}{H:Hp}{s:Shared}{fp:List Addr}(I:Inv X pins σ H s)(hf:∀ b∈fp,FpOk X pins H b)(ho:∀ b∈fp,∃ o,s.heap.get? b=some o/\∀ v,o.data≠.cell v):Inv X (pins++Qvv fp s.heap) σ H s:=
 I.pins_of fun p hp=>(List.mem_append.mp hp).elim (fun z=>I.pin p (List.mem_append_right _ z)) fun z=>by
  obtain⟨hb,e⟩:=QOP z
  obtain⟨f0,f1,f2,_⟩:=hf p.1 hb
  obtain⟨o,e',d⟩:=ho p.1 hb
  rw[e]at e';cases e'
  exact⟨e,f0,f1,f2,d⟩
theorem Inv.unpinned{pins pl:List (Addr×Obj)}{σ:St}{H:Hp}{s:Shared}(I:Inv X (pins++pl) σ H s):Inv X pins σ H s:=I.pins_of fun p hp=>I.pin p (List.mem_append_right _ (List.mem_append_left _ hp))
theorem QTw{iter:Expr}{body:List Stmt}{wi:TI}{g:TG}{tb:TS}{pos:Pos}(hp:PassesOwn (model X.prog X.w) X.A X.env X.xe)(hc:X.calm=true)(hi:PI X tg iter wi)(hg:PG X tg g)(hb:PSs X body tb)
 (hs:∀ x,foldedSetIterable iter X.env x=pure x:=by intro _;rfl):PS X (.For tg iter body [] pos) (tFor wi g tb):=by
 intro pins s σ H D I h
 refine wpAny_For (thn (hi pins s σ H _ I h) fun v s1 h1=>thn h1 fun itv s2 h2=>?_) hs
 obtain⟨it,fp,tn,J,H2,e,I2,T,st2,f2,W,⟨m0,w0⟩,turn⟩:=h2
 subst e
 -- what stays true of the iterator's objects through the loop
 have stat:∀{H':Hp},(∀ b∈fp,H' b=none)->∀ b∈fp,FpOk X pins H' b:=fun hn b hb=>⟨hn b hb,(f2 b hb).2⟩
 refine codeAny_forLoop_any (fun n s'=>∃ i σ' H',Inv X pins σ' H' s'/\tn i s'.heap/\(∀ b∈fp,H' b=none)/\W i n σ' H') ?_ m0 ⟨0,σ,H2,I2,st2,fun b hb=>(f2 b hb).1,w0⟩
 rintro n s3 ⟨i,σ3,H3,I3,st3,fr3,w3⟩
 rcases turn i n σ3 H3 w3 with⟨stop,qn⟩ | ⟨go,N,hN,step⟩
 ·refine wpAny_passesOwn hp (thn (T.done X rfl rfl rfl hc i pins s3 σ3 H3 X.xe I3 (stat fr3) st3 stop) fun r s4 ⟨hr,I4⟩=>?_)
  subst hr
  exact wpAny_execs_nil ⟨σ3,H3,I4,qn⟩
 ·refine wpAny_passesOwn hp (thn (T.item X rfl rfl rfl hc i pins s3 σ3 H3 X.xe I3 (stat fr3) st3 go) fun r s4 ⟨u,hr,h4⟩=>?_)
  subst hr
  refine wpAny_passesOwn hp (thn h4 fun _ s5 ⟨x,H5,I5,r5,y5,st5,fr5⟩=>?_)
  have I5':=I5.pinned (stat fr5) (T.obj _ _ st5)
  refine wpAny_passesOwn hp (thn (hg _ s5 σ3 H5 x u _ I5' r5 (step x H5 y5)) fun _ s6 ⟨σ6,H6,I6,q6⟩=>?_)
  refine wpAny_passesOwn hp (thn (hb _ s6 σ6 H6 _ I6 q6) fun f s7 q7=>?_)
  have again:∀{σ7:St}{H7:Hp},Inv X (pins++Qvv fp s5.heap) σ7 H7 s7->N σ7 H7->∃ m,m<n/\∃ i σ' H',Inv X pins σ' H' s7/\tn i s7.heap/\(∀ b∈fp,H' b=none)/\W i m σ' H':=fun {σ7 H7} I7 n7=>by
   obtain⟨m',hm,w7⟩:=hN σ7 H7 n7
   refine⟨m',hm,i+1,σ7,H7,I7.unpinned,T.keep _ _ _ st5 fun b hb o e=>(I7.pin (b,o) (List.mem_append_right _ (List.mem_append_right _ (Qmz hb e)))).1,fun b hb=>?_,w7⟩
   obtain⟨o,e,d⟩:=T.obj _ _ st5 b hb
   exact(I7.pin (b,o) (List.mem_append_right _ (List.mem_append_right _ (Qmz hb e)))).2.1
  cases f with
  | next=>obtain⟨σ7,H7,I7,n7⟩:=q7;exact again I7 n7
  | cont=>obtain⟨σ7,H7,I7,n7⟩:=q7;exact again I7 n7
  | brk=>obtain⟨σ7,H7,I7,q7⟩:=q7;exact⟨σ7,H7,I7.unpinned,q7⟩
  | ret v=>obtain⟨x7,σ7,H7,I7,r7,q7⟩:=q7;exact⟨x7,σ7,H7,I7.unpinned,r7,q7⟩
end
end L2
namespace L2
open PySem PySem.Spec PyProof.Rows
abbrev R2:=V->V->Hp->VK->Prop
def OpR(X:Cx)(f:Value->Value->Sem Value)(r:R2):Prop:=
 ∀(pins:List (Addr×Obj))(s:Shared)(σ:St)(H:Hp)(x y:V)(v u:Value)(Q:VK),Inv X pins σ H s->RelV x v->RelV y u->r x y H Q->
  wpAny (model X.prog X.w) X.A (f v u) (EP X pins σ Q) X.xe s
def UnR(X:Cx)(f:Value->Sem Value)(r:V->Hp->VK->Prop):Prop:=
 ∀(pins:List (Addr×Obj))(s:Shared)(σ:St)(H:Hp)(x:V)(v:Value)(Q:VK),Inv X pins σ H s->RelV x v->r x H Q->
  wpAny (model X.prog X.w) X.A (f v) (EP X pins σ Q) X.xe s
def CallR(X:Cx)(f:Value)(r:List V->Hp->VK->Prop):Prop:=
 ∀(pins:List (Addr×Obj))(s:Shared)(σ:St)(H:Hp)(xs:List V)(us:List Value)(Q:VK),Inv X pins σ H s->Vals xs us->r xs H Q->
  wpAny (model X.prog X.w) X.A (call f us) (EP X pins σ Q) X.xe s
def tOp(r:R2)(ta tb:TE):TE:=fun σ H Q=>ta σ H fun x H1=>tb σ H1 fun y H2=>r x y H2 Q
def tUn(r:V->Hp->VK->Prop)(ta:TE):TE:=fun σ H Q=>ta σ H fun x H1=>r x H1 Q
def rI(C:Int->Int->Prop)(g:Int->Int->V):R2:=fun x y H Q=>∃ i j,x=.int i/\y=.int j/\C i j/\Q (g i j) H
def rI0(g:Int->Int->V):R2:=fun x y H Q=>∃ i j,x=.int i/\y=.int j/\Q (g i j) H
def rU(g:Int->V):V->Hp->VK->Prop:=fun x H Q=>∃ i,x=.int i/\Q (g i) H
section
variable{X:Cx}{a b c:Expr}{ta tb tc:TE}{pos:Pos}
theorem binT(ha:PE X a ta)(hb:PE X b tb){pins:List (Addr×Obj)}{s:Shared}{σ:St}{H:Hp}{R:V->V->Hp->Prop}(I:Inv X pins σ H s)
 (h:ta σ H fun x H1=>tb σ H1 fun y H2=>R x y H2) {Q:Value->Shared->Prop} {f:Value->Value->Sem Value}
 (hf:∀ v u s2 x y H2,Inv X pins σ H2 s2->RelV x v->RelV y u->R x y H2->wpAny (model X.prog X.w) X.A (f v u) Q X.xe s2):
 wpAny (model X.prog X.w) X.A (eval a X.env) (fun v s₁=>wpAny (model X.prog X.w) X.A (eval b X.env) (fun u s₂ => wpAny (model X.prog X.w) X.A (f v u) Q X.xe s₂) X.xe s₁) X.xe s:=by
 refine thn (ha pins s σ H _ I h) fun v s1 ⟨x,H1,I1,r1,q1⟩=>?_
 refine thn (hb pins s1 σ H1 _ I1 q1) fun u s2 ⟨y,H2,I2,r2,q2⟩=>?_
 exact hf v u s2 x y H2 I2 r1 r2 q2
theorem pe_op{op:Operator}{r:R2}(ho:OpR X (binaryOp op) r)(ha:PE X a ta)(hb:PE X b tb):PE X (.BinOp a op b pos) (tOp r ta tb):=by
 intro pins s σ H Q I h
 exact wpAny_BinOp (binT ha hb I h fun v u s2 x y H2 I2 rx ry q=>ho pins s2 σ H2 x y v u Q I2 rx ry q)
theorem pe_un{op:UnaryOp}{r:V->Hp->VK->Prop}(ho:UnR X (unaryOp op) r)(ha:PE X a ta):PE X (.UnaryOp op a pos) (tUn r ta):=by
 intro pins s σ H Q I h
 exact UnaryOp_ (thn (ha pins s σ H _ I h) fun v s1 ⟨x,H1,I1,r1,q1⟩=>ho pins s1 σ H1 x v Q I1 r1 q1)
theorem opI{f:Value->Value->Sem Value}{C:Int->Int->Prop}{g:Int->Int->Int}
 (rule:∀(i j:Int)(t u:Tok)(s:Shared)(Q:Value->Shared->Prop)(E:Value->Shared->Prop),C i j->Q (.int (g i j) s.toks) { s with toks:=s.toks+1 }->wpAny (model X.prog X.w) X.A (f (.int i t) (.int j u)) Q E s):
 OpR X f (rI C fun i j=>.int (g i j)):=by
 intro pins s σ H x y v u Q I rx ry h
 obtain⟨i,j,rfl,rfl,hc,q⟩:=h
 obtain⟨t,rfl⟩:=rx
 obtain⟨t',rfl⟩:=ry
 exact rule i j t t' s _ _ hc ⟨.int (g i j),H,I.tok _,⟨_,rfl⟩,q⟩
theorem opI0{f:Value->Value->Sem Value}{g:Int->Int->Int}
 (rule:∀(i j:Int)(t u:Tok)(s:Shared)(Q:Value->Shared->Prop)(E:Value->Shared->Prop),Q (.int (g i j) s.toks) { s with toks:=s.toks+1 }->wpAny (model X.prog X.w) X.A (f (.int i t) (.int j u)) Q E s):
 OpR X f (rI0 fun i j=>.int (g i j)):=by
 intro pins s σ H x y v u Q I rx ry h
 obtain⟨i,j,rfl,rfl,q⟩:=h
 obtain⟨t,rfl⟩:=rx
 obtain⟨t',rfl⟩:=ry
 exact rule i j t t' s _ _ ⟨.int (g i j),H,I.tok _,⟨_,rfl⟩,q⟩
theorem opB0{f:Value->Value->Sem Value}{g:Int->Int->Bool}
 (rule:∀(i j:Int)(t u:Tok)(s:Shared)(Q:Value->Shared->Prop)(E:Value->Shared->Prop),Q (.bool (g i j)) s->wpAny (model X.prog X.w) X.A (f (.int i t) (.int j u)) Q E s):
 OpR X f (rI0 fun i j=>.bl (g i j)):=by
 intro pins s σ H x y v u Q I rx ry h
 obtain⟨i,j,rfl,rfl,q⟩:=h
 obtain⟨t,rfl⟩:=rx
 obtain⟨t',rfl⟩:=ry
 exact rule i j t t' s _ _ ⟨.bl (g i j),H,I,rfl,q⟩
def CPow(i j:Int):Prop:=0<=j/\j<=1000000/\i.natAbs<2 ^ 64
def CMul(i j:Int):Prop:=(-(2 ^ 64)<i/\i<2 ^ 64)∨(-(2 ^ 64)<j/\j<2 ^ 64)
theorem CMul.ok{i j:Int}(h:CMul i j):IntMulOk i j:=by
 rcases h with⟨h1,h2⟩ | ⟨h1,h2⟩
 ·exact .of_left (intBits_le_64 h1 h2)
 ·exact .of_right (intBits_le_64 h1 h2)
theorem QUh:OpR X (binaryOp .Add) (rI0 fun i j=>.int (i+j)):=opI0 fun _ _ _ _ _ _ _ q=>add_int q
theorem QTk:OpR X (binaryOp .Sub) (rI0 fun i j=>.int (i - j)):=opI0 fun _ _ _ _ _ _ _ q=>sub_int q
theorem QSE:OpR X (binaryOp .Mod) (rI (fun _ j=>j≠0) fun i j=>.int (i.fmod j)):=opI fun _ _ _ _ _ _ _ hc q=>mod_int' hc q
theorem QUs:OpR X (binaryOp .Pow) (rI CPow fun i j=>.int (i ^ j.toNat)):=opI fun _ _ _ _ _ _ _ hc q=>pow_int_small hc.1 hc.2.1 hc.2.2 q
theorem unI{f:Value->Sem Value}{g:Int->Int}
 (rule:∀(i:Int)(t:Tok)(s:Shared)(Q:Value->Shared->Prop)(E:Value->Shared->Prop),Q (.int (g i) s.toks) { s with toks:=s.toks+1 }->wpAny (model X.prog X.w) X.A (f (.int i t)) Q E s):
 UnR X f (rU fun i=>.int (g i)):=by
 intro pins s σ H x v Q I rx h
 obtain⟨i,rfl,q⟩:=h
 obtain⟨t,rfl⟩:=rx
 exact rule i t s _ _ ⟨.int (g i),H,I.tok _,⟨_,rfl⟩,q⟩
theorem QTW:UnR X (unaryOp .USub) (rU fun i=>.int (-i)):=unI fun _ _ _ _ _ q=>neg_int q
end
def scal:V->V->Bool
 | .non,.non=>true | .non,.int _=>true | .int _,.non=>true | .non,.bl _=>true | .bl _,.non=>true | .non,.str _=>true | .str _,.non=>true
 | .int _,.int _=>true | .bl _,.bl _=>true | .str _,.str _=>true | .byt _,.byt _=>true
 | .int _,.str _=>true | .str _,.int _=>true | .bl _,.str _=>true | .str _,.bl _=>true
 | _,_=>false
section
variable{X:Cx}{a b c:Expr}{ta tb tc:TE}{pos:Pos}
theorem QTp{pins:List (Addr×Obj)}{σ:St}{H:Hp}{s:Shared}{Q:VK}{k k':Bool}(I:Inv X pins σ H s)(q:Q (.bl k) H)(e:k=k'):EP X pins σ Q (.bool k') s:=by
 subst e
 exact⟨.bl k,H,I,rfl,q⟩
theorem op_lt:OpR X (compareOp .Lt) (rI0 fun i j=>.bl (decide (i<j))):=opB0 fun _ _ _ _ _ _ _ q=>lt_int q
theorem op_le:OpR X (compareOp .LtE) (rI0 fun i j=>.bl (decide (i<=j))):=opB0 fun _ _ _ _ _ _ _ q=>le_int q
theorem op_gt:OpR X (compareOp .Gt) (rI0 fun i j=>.bl (decide (j<i))):=opB0 fun _ _ _ _ _ _ _ q=>gt_int q
theorem op_ge:OpR X (compareOp .GtE) (rI0 fun i j=>.bl (decide (j<=i))):=opB0 fun _ _ _ _ _ _ _ q=>ge_int q
theorem QN8:OpR X (compareOp .In) (fun x y H Q=>∃ i j,x=.str i/\y=.str j/\Q (.bl (!(Builtin.Str.occurrences j i 0 j.length 1).isEmpty)) H):=by
 intro pins s σ H x y v u Q I rx ry h
 obtain⟨i,j,rfl,rfl,q⟩:=h
 obtain⟨t,rfl⟩:=rx
 obtain⟨t',rfl⟩:=ry
 exact in_str (QTp I q rfl)
theorem OpR.or{f:Value->Value->Sem Value}{r r':R2}(h:OpR X f r)(h':OpR X f r'):OpR X f (fun x y H Q=>r x y H Q∨r' x y H Q):=by
 intro pins s σ H x y v u Q I rx ry q
 rcases q with q | q
 ·exact h pins s σ H x y v u Q I rx ry q
 ·exact h' pins s σ H x y v u Q I rx ry q
theorem Qm6(b:Expr){op:CmpOp}(h:op≠.In:=by decide)(h2:op≠.NotIn:=by decide):behindInMarks op b=false:=by
 have e1:(op == CmpOp.In)=false:=by cases op<;>first | rfl | exact absurd rfl h
 have e2:(op == CmpOp.NotIn)=false:=by cases op<;>first | rfl | exact absurd rfl h2
 cases b<;>simp[behindInMarks,e1,e2]
theorem QSj{op:CmpOp}{r:R2}(ho:OpR X (compareOp op) r)(ha:PE X a ta)(hb:PE X b tb)(hm:behindInMarks op b=false):PE X (.Compare a [op] [b] pos) (tOp r ta tb):=by
 intro pins s σ H Q I h
 exact wpAny_Compare1 (binT ha hb I h fun v u s2 x y H2 I2 rx ry q=>ho pins s2 σ H2 x y v u Q I2 rx ry q) hm
def tTest(t:TE):TT:=fun σ H Q=>t σ H fun x H'=>∃ k,x=.bl k/\Q k H'
theorem QRl{op:CmpOp}{r:R2}(ho:OpR X (compareOp op) r)(ha:PE X a ta)(hb:PE X b tb)(hm:behindInMarks op b=false):PT X (.Compare a [op] [b] pos) (tTest (tOp r ta tb)):=by
 intro pins s σ H Q I h
 refine wpAny_isTrue_Compare1 (thn (ha pins s σ H _ I h) fun v s1 ⟨x,H1,I1,r1,q1⟩=>thn (hb pins s1 σ H1 _ I1 q1) fun u s2 ⟨y,H2,I2,r2,q2⟩=>
  thn (ho pins s2 σ H2 x y v u _ I2 r1 r2 q2) fun c s3 ⟨z,H3,I3,r3,k,e,q3⟩=>?_) hm
 subst e
 cases r3
 exact wpAny_truthy_bool ⟨H3,I3,q3⟩
def QHJ(r r':R2)(ta tb tc:TE):TE:=fun σ H Q=>ta σ H fun x H1=>tb σ H1 fun y H2=>r x y H2 fun z H3=>∃ k,z=.bl k/\
 (if k=true then tc σ H3 fun w' H4=>r' y w' H4 Q else Q (.bl false) H3)
theorem QQG{op op':CmpOp}{r r':R2}(ho:OpR X (compareOp op) r)(ho':OpR X (compareOp op') r')(ha:PE X a ta)(hb:PE X b tb)(hc:PE X c tc)
 (hm:lastMarks [op,op'] [b,c]=false:=by with_unfolding_all rfl):PE X (.Compare a [op,op'] [b,c] pos) (QHJ r r' ta tb tc):=by
 intro pins s σ H Q I h
 refine Compare_chain (thn (ha pins s σ H _ I h) fun v s1 ⟨x,H1,I1,r1,q1⟩=>chain_link (thn (hb pins s1 σ H1 _ I1 q1) fun u s2 ⟨y,H2,I2,r2,q2⟩=>
  thn (ho pins s2 σ H2 x y v u _ I2 r1 r2 q2) fun d s3 ⟨z,H3,I3,r3,k,e,q3⟩=>?_)) hm
 subst e
 cases r3
 refine wpAny_truthy_bool ?_
 cases k with
 | false=>exact ite_ff ⟨.bl false,H3,I3,rfl,q3⟩
 | true=>exact ite_tt (chain_last (thn (hc pins s3 σ H3 _ I3 q3) fun w' s4 ⟨z',H4,I4,r4,q4⟩=>ho' pins s4 σ H4 y z' u w' Q I4 r2 r4 q4))
theorem QQQ{op op':CmpOp}{r r':R2}(ho:OpR X (compareOp op) r)(ho':OpR X (compareOp op') r')(ha:PE X a ta)(hb:PE X b tb)(hc:PE X c tc)
 (hm:lastMarks [op,op'] [b,c]=false:=by with_unfolding_all rfl):PT X (.Compare a [op,op'] [b,c] pos) (tTest (QHJ r r' ta tb tc)):=by
 intro pins s σ H Q I h
 refine isTrue_chain (thn (ha pins s σ H _ I h) fun v s1 ⟨x,H1,I1,r1,q1⟩=>test_link (thn (hb pins s1 σ H1 _ I1 q1) fun u s2 ⟨y,H2,I2,r2,q2⟩=>
  thn (ho pins s2 σ H2 x y v u _ I2 r1 r2 q2) fun d s3 ⟨z,H3,I3,r3,k,e,q3⟩=>?_)) hm
 subst e
 cases r3
 refine wpAny_truthy_bool ?_
 cases k with
 | false=>
  obtain⟨k',e',q'⟩:=q3
  cases e'
  exact ite_ff ⟨H3,I3,q'⟩
 | true=>
  refine ite_tt (test_last (thn (hc pins s3 σ H3 _ I3 q3) fun w' s4 ⟨z',H4,I4,r4,q4⟩=>thn (ho' pins s4 σ H4 y z' u w' _ I4 r2 r4 q4) fun d' s5 ⟨z2,H5,I5,r5,k2,e2,q5⟩=>?_))
  subst e2
  cases r5
  exact wpAny_truthy_bool ⟨H5,I5,q5⟩
theorem QuT:(sizeLine:Nat)<2 ^ 63:=by rw[sizeLine_eq];decide
theorem QNj:OpR X (binaryOp .Add) (fun x y H Q=>∃ i j,x=.str i/\y=.str j/\i.length+j.length<=sizeLine/\Q (.str (i++j)) H):=by
 intro pins s σ H x y v u Q I rx ry h
 obtain⟨i,j,rfl,rfl,hz,q⟩:=h
 obtain⟨t,rfl⟩:=rx
 obtain⟨t',rfl⟩:=ry
 exact add_str (fun t' tk=>⟨.str (i++j),H,I.tok _,⟨_,rfl⟩,q⟩) hz
theorem vals1{x:V}{us:List Value}(r:Vals [x] us):∃ u,us=[u]/\RelV x u:=by
 cases r with
 | cons r1 r2=>cases r2;exact⟨_,rfl,r1⟩
theorem vals2{x y:V}{us:List Value}(r:Vals [x,y] us):∃ u w',us=[u,w']/\RelV x u/\RelV y w':=by
 cases r with
 | cons r1 r2=>
  cases r2 with
  | cons r3 r4=>cases r4;exact⟨_,_,rfl,r1,r3⟩
theorem QP0:CallR X (.builtin "abs") (fun xs H Q=>∃ i,xs=[.int i]/\Q (.int (if i<0 then -i else i)) H):=by
 intro pins s σ H xs us Q I r h
 obtain⟨i,rfl,q⟩:=h
 obtain⟨u,rfl,t,rfl⟩:=vals1 r
 exact call_abs_int fun u tk=>⟨.int (if i<0 then -i else i),H,I.tok _,⟨_,rfl⟩,q⟩
theorem QPa:CallR X (.type "int") (fun xs H Q=>(∃ i,xs=[.int i]/\Q (.int i) H)∨∃ k,xs=[.bl k]/\Q (.int (if k then 1 else 0)) H):=by
 intro pins s σ H xs us Q I r h
 rcases h with⟨i,rfl,q⟩ | ⟨k,rfl,q⟩
 ·obtain⟨u,rfl,t,rfl⟩:=vals1 r
  exact call_int_int ⟨.int i,H,I,⟨_,rfl⟩,q⟩
 ·obtain⟨u,rfl,r1⟩:=vals1 r
  cases r1
  exact call_int_bool ⟨.int (if k then 1 else 0),H,I.tok _,⟨_,rfl⟩,q⟩
end
end L2
namespace L2
open PySem PySem.Spec PyProof.Rows
structure ObjM(h:Heap)(x dx C:Addr)(mA:Str->Option Value):Prop where
 obj:h.get? x=some (PySem.W.instObj C dx)
 ns:h.Ns1 dx mA
 ne:dx≠x
theorem QOB{h:Heap}{dx:Addr}{mA:Str->Option Value}(n:h.Ns1 dx mA):∃ od,h.get? dx=some od/\∀ name,PySem.W.lookIn name od=some (mA name):=by
 obtain⟨o,es,ep,ho,hd,hk,_,hm⟩:=n
 refine⟨o,ho,fun name=>?_⟩
 have e:=hm name
 unfold nsFind findBy at e
 rw[← Array.find?_toList]at e
 unfold PySem.W.lookIn
 rw[hd]
 dsimp only
 split
 ·rename_i y q
  rw[q]at e
  exact congrArg some e
 ·rename_i q
  rw[q]at e
  have a:es.toList.any (·.refKey)=false:=by
   rw[List.any_eq_false]
   intro y hy
   obtain⟨z,t,hkey⟩:=hk y (Array.mem_toList_iff.mp hy)
   simp[DictEntry.refKey,hkey]
  have a':¬ es.toList.any (·.refKey)=true:=by rw[a];exact Bool.false_ne_true
  rw[if_neg a']
  exact congrArg some e
theorem ObjM.look{h:Heap}{x dx C:Addr}{mA:Str->Option Value}(I:ObjM h x dx C mA):∃ od,PySem.W.InstAt h x (PySem.W.instObj C dx) C (some od)/\∀ name,PySem.W.lookIn name od=some (mA name):=
 let ⟨od,ho,hl⟩:=QOB I.ns
 ⟨od,⟨I.obj,rfl,rfl,ho⟩,hl⟩
section
variable{prog:Program}{w:World}{A:Around}{E:Value->Shared->Prop}{s:Shared}{K:PySem.W.Frag}{x dx C f:Addr}{mA:Str->Option Value}{name:Str}{v:Value}
theorem QRE{expr:Bool}{Q:Value->Shared->Prop}(X:K.In s.heap)(I:ObjM s.heap x dx C mA)(hg:PySem.W.plainGet K C name=true)(hh:PySem.W.hasDictIn K C=true)
 (ha:PySem.W.findIn K (.ref C) name=some none) (hv:mA name=some v) (hv':PySem.W.handedIn v=true) (h:Q v { s with toks:=s.toks+1 }):
 wpAny (model prog w) A (getAttr (.ref x) name expr) Q E s:=by
 obtain⟨od,J,hl⟩:=I.look
 exact PySem.W.get_value X J (PySem.W.plainGet_of hg).1 (PySem.W.findObj_own hh ha rfl (by rw[hl,hv])) hv' h
theorem QQY{pl:Sem Bool}{Q:Value×List Value->Shared->Prop}(X:K.In s.heap)(I:ObjM s.heap x dx C mA)(hg:PySem.W.plainGet K C name=true)
 (hf:PySem.W.findIn K (.ref C) name=some (some (.ref f))) (ht:PySem.W.isFn K (.ref f)=true) (hv:mA name=none) (h:Q (.ref f,[.ref x]) s):
 wpAny (model prog w) A (getMethod (.ref x) name pl) Q E s:=by
 obtain⟨od,J,hl⟩:=I.look
 exact PySem.W.method_fn X J (PySem.W.plainGet_of hg).1 (PySem.W.plainGet_of hg).2 hf (beq_iff_eq.mp ht) (by show(PySem.W.lookIn name od).map (·.isSome)=some false;rw[hl,hv];rfl) h
theorem QRt{ns:List Str}{Q:Unit->Shared->Prop}(X:K.In s.heap)(I:ObjM s.heap x dx C mA)
 (hs:PySem.W.findIn K (.ref C) "__setattr__"=some (some (.builtin "object.__setattr__"))) (hp:PySem.W.plainOver K C=true) (ht:PySem.W.takerIn K C name=some none) (hh:PySem.W.hasDictIn K C=true)
 (hw:PySem.Within mA ns) (hsz:ns.length<=sizeLine)
 (h:∀ h',ObjM h' x dx C (fun y=>if y=name then some v else mA y)->Heap.SameBut dx s.heap h'->Q () { s with heap:=h',toks:=s.toks+2 }):
 wpAny (model prog w) A (setAttr (.ref x) name v) Q E s:=by
 obtain⟨od,J,hl⟩:=I.look
 refine PySem.W.set_plain X J hs (PySem.W.osa_open (s:={ s with toks:=s.toks+1 }) (r:=none) X J hp ht fun b=>?_)
 obtain⟨cd,hc,hd'⟩:=PySem.W.any_some hh
 have hx:s.heap.get? x=some ⟨.ref C,some dx,.plain, #[]⟩:=I.obj
 refine wpAny_bind (wpAny_pure (wpAny_bind (wpAny_bind (wpAny_loadPart hx (wpAny_bind (PySem.W.Looks.here (s:={ s with toks:=s.toks+1 }) (PySem.W.looks_clsIn X hc) ?_))))))
 rw[hd']
 refine wpAny_pure (a:=some dx) (wpAny_bind (wpAny_pure (wpAny_bind ?_)))
 refine wpAny_nsSet1 (s:={ s with toks:=s.toks+1 }) I.ns fun h' hn2 hs2=>?_
 obtain⟨oD,esD,epD,hoD,hdD,hcD⟩:=hn2.count (PySem.Within.cons name v hw)
 refine wpAny_bind (wpAny_lookBehind hoD (by rw[hdD];exact pastItsLine_dict (Nat.le_trans hcD (by rw[List.length_cons];omega))) ?_)
 exact wpAny_pure (h _ ⟨(hs2.2 _ (Ne.symm I.ne)).trans I.obj,hn2,I.ne⟩ hs2)
theorem QQp{R:Result->Shared->Prop}{vs:List Value}{kw:List (Str×Value)}(X:K.In s.heap)(hm:PySem.W.makesIn K C=true)
 (hi:PySem.W.findIn K (.ref C) "__init__"=some (some (.ref f))) (hf:PySem.W.typeIn K (.ref f)=some (.type "function"))
 (h:codeAny (model prog w) (A.under (.builtin "type.__call__" ⟨.ref C::vs,kw⟩)) (.call (.ref f) ⟨.ref (s.heap.objs.size+1)::vs,kw⟩) (PySem.W.InitBack (s.heap.objs.size+1) R)
  { s with heap:=(s.heap.push PySem.W.emptyDict).push (PySem.W.instObj C s.heap.objs.size) }):
 codeAny (model prog w) A (.call (.ref C) ⟨vs,kw⟩) R s:=by
 obtain⟨hh,g,d,t,os⟩:=s
 exact PySem.W.make_core (PySem.W.makes_of X hm) (PySem.W.looks_findIn X hi) (fun self=>PySem.W.bind_fn X self hf) (.inl rfl) h
end
def putF(f:Str)(v:V):List (Str×V)->List (Str×V)
 | []=>[(f,v)]
 | (g,x)::r=>if g=f then(g,v)::r else(g,x)::putF f v r
theorem Qwk(f g:Str)(v:V):∀ fs:List (Str×V),(putF f v fs).lookup g=if g=f then some v else fs.lookup g
 | []=>by
  show List.lookup g [(f,v)]=_
  by_cases h:g=f
  ·have hb:(g == f)=true:=beq_iff_eq.mpr h
   simp only[List.lookup,hb,if_pos h]
  ·have hb:(g == f)=false:=beq_eq_false_iff_ne.mpr h
   simp only[List.lookup,hb,if_neg h]
 | (k,x)::r=>by
  have ih:=Qwk f g v r
  rw[show putF f v ((k,x)::r)=(if k=f then(k,v)::r else(k,x)::putF f v r) from rfl]
  by_cases hk:k=f
  ·rw[if_pos hk]
   by_cases h:g=k
   ·have hb:(g == k)=true:=beq_iff_eq.mpr h
    simp only[List.lookup,hb,if_pos (h.trans hk)]
   ·have hb:(g == k)=false:=beq_eq_false_iff_ne.mpr h
    simp only[List.lookup,hb,if_neg (fun e:g=f=>h (e.trans hk.symm))]
  ·rw[if_neg hk]
   by_cases h:g=k
   ·have hb:(g == k)=true:=beq_iff_eq.mpr h
    simp only[List.lookup,hb,if_neg (fun e:g=f=>hk (h.symm.trans e))]
   ·have hb:(g == k)=false:=beq_eq_false_iff_ne.mpr h
    simp only[List.lookup,hb]
    exact ih
theorem Qva(f:Str)(v:V):∀ fs:List (Str×V),f∈(putF f v fs).map (·.1)/\∀ g,g∈fs.map (·.1)->g∈(putF f v fs).map (·.1)
 | []=>⟨by simp[putF],fun g h=>by simp at h⟩
 | (k,x)::r=>by
  obtain⟨i1,i2⟩:=Qva f v r
  rw[show putF f v ((k,x)::r)=(if k=f then(k,v)::r else(k,x)::putF f v r) from rfl]
  by_cases hk:k=f
  ·rw[if_pos hk]
   subst hk
   exact⟨by simp,fun g h=>by simpa using h⟩
  ·rw[if_neg hk]
   refine⟨?_,fun g h=>?_⟩
   ·rw[List.map_cons]
    exact List.mem_cons_of_mem _ i1
   ·rw[List.map_cons]at h ⊢
    rcases List.mem_cons.mp h with e | e
    ·exact List.mem_cons.mpr (.inl e)
    ·exact List.mem_cons_of_mem _ (i2 g e)
theorem Qwm(f:Str)(v:V):∀ fs:List (Str×V),(putF f v fs).length<=fs.length+1
 | []=>by simp[putF]
 | (k,x)::r=>by
  have ih:=Qwm f v r
  rw[show putF f v ((k,x)::r)=(if k=f then(k,v)::r else(k,x)::putF f v r) from rfl]
  by_cases hk:k=f
  ·rw[if_pos hk,List.length_cons,List.length_cons];omega
  ·rw[if_neg hk,List.length_cons,List.length_cons];omega
theorem RelO.some_of{v:V}{o:Option Value}(r:RelO (some v) o):∃ u,o=some u/\RelV v u:=by
 cases o with
 | none=>exact(show False from r).elim
 | some u=>exact⟨u,rfl,r⟩
theorem RelO.none_of{o:Option Value}(r:RelO none o):o=none:=by
 cases o with
 | none=>rfl
 | some u=>exact(show False from r).elim
theorem QOG{v:V}{u:Value}(r:RelV v u):PySem.W.handedIn u=true:=by
 cases v with
 | non=>cases (show u=Value.none from r);rfl
 | bl b=>cases (show u=Value.bool b from r);rfl
 | int i=>obtain⟨t,e⟩:=(show ∃ t,u=Value.int i t from r);cases e;rfl
 | str x=>obtain⟨t,e⟩:=(show ∃ t,u=Value.str x t from r);cases e;rfl
 | byt b=>obtain⟨t,e⟩:=(show ∃ t,u=Value.bytes b t from r);cases e;rfl
 | flt b=>obtain⟨t,e⟩:=(show ∃ t,u=Value.float b t from r);cases e;rfl
 | ref a=>cases (show u=Value.ref a from r);rfl
 | ty n=>cases (show u=Value.type n from r);rfl
section
variable{P:Program}{w:World}{H H':Hp}{h h':Heap}{a C dx:Addr}{fs fs':List (Str×V)}
theorem QqE(hok:HOk P w H h)(e:H a=some (.ins C dx fs)):∃ mA,ObjM h a dx C mA/\(∀ f,RelO (fs.lookup f) (mA f))/\PySem.Within mA (fs.map (·.1))/\fs.length<=1000/\H dx=some (.own a):=by
 obtain⟨d,z,ne,ob,mA,n,r,q⟩:=(show ObjOk P w H h a (.ins C dx fs) from hok a _ e)
 exact⟨mA,⟨ob,n,ne⟩,r,q,z,d⟩
end
structure Cls(K:PySem.W.Frag)(C:Addr):Prop where
 pg:PySem.W.plainGet K C Str.empty=true
 hd:PySem.W.hasDictIn K C=true
 po:PySem.W.plainOver K C=true
 sa:PySem.W.findIn K (.ref C) "__setattr__"=some (some (.builtin "object.__setattr__"))
theorem Cls.get{K:PySem.W.Frag}{C:Addr}(c:Cls K C)(f:Str):PySem.W.plainGet K C f=true:=c.pg
def Qm9(K:PySem.W.Frag)(C:Addr)(f:Str):Prop:=PySem.W.findIn K (.ref C) f=some none
theorem Qm9.taker{K:PySem.W.Frag}{C:Addr}{f:Str}(n:Qm9 K C f):PySem.W.takerIn K C f=some none:=by
 unfold PySem.W.takerIn
 rw[show PySem.W.findIn K (.ref C) f=some none from n]
 rfl
structure Con(K:PySem.W.Frag)(C:Addr)(f:Str)(v:V)(u:Value):Prop where
 at_:PySem.W.findIn K (.ref C) f=some (some u)
 rel:RelV v u
 get:PySem.W.specialIn K u "__get__"=some none
 cp:PySem.W.copiedNames.contains f=false
structure Meth(K:PySem.W.Frag)(C:Addr)(m:Str)(f:Addr):Prop where
 at_:PySem.W.findIn K (.ref C) m=some (some (.ref f))
 fn:PySem.W.isFn K (.ref f)=true
 kp:PySem.W.keepIn K (.ref f)=true
section
variable{X:Cx}{pins:List (Addr×Obj)}{σ:St}{H:Hp}{s:Shared}{a C dx:Addr}{fs:List (Str×V)}{f:Str}{v:V}{A:Around}{E:Value->Shared->Prop}
theorem QMs{b:Bool}{Q:Value->Shared->Prop}(I:Inv X pins σ H s)(e:H a=some (.ins C dx fs))(c:Cls X.K C)(n:Qm9 X.K C f)(l:fs.lookup f=some v)
 (h:∀ u s',Inv X pins σ H s'->RelV v u->Q u s'):wpAny (model X.prog X.w) A (getAttr (.ref a) f b) Q E s:=by
 obtain⟨mA,O,r,_,_,_⟩:=QqE I.hok e
 obtain⟨u,hu,ru⟩:=RelO.some_of (v:=v) (o:=mA f) (by rw[← l];exact r f)
 exact QRE I.kIn O (c.get f) c.hd n hu (QOG ru) (h u _ (I.tok _) ru)
theorem QyB{m:Str}{g:Addr}{pl:Sem Bool}{Q:Value×List Value->Shared->Prop}(I:Inv X pins σ H s)(e:H a=some (.ins C dx fs))(c:Cls X.K C)(k:Meth X.K C m g)(l:fs.lookup m=none)
 (h:Q (.ref g,[.ref a]) s):wpAny (model X.prog X.w) A (getMethod (.ref a) m pl) Q E s:=by
 obtain⟨mA,O,r,_,_,_⟩:=QqE I.hok e
 have hn:mA m=none:=RelO.none_of (by rw[← l];exact r m)
 exact QQY I.kIn O (c.get m) k.at_ k.fn hn h
theorem QNE{y:V}{u:Value}{Q:Unit->Shared->Prop}(I:Inv X pins σ H s)(e:H a=some (.ins C dx fs))(c:Cls X.K C)(n:Qm9 X.K C f)(hl:fs.length<1000)(ry:RelV y u)
 (h:∀ s',Inv X pins σ (upd H a (.ins C dx (putF f y fs))) s'->Q () s'):wpAny (model X.prog X.w) A (setAttr (.ref a) f u) Q E s:=by
 obtain⟨mA,O,r,wi,_,ho⟩:=QqE I.hok e
 have hz:(fs.map (·.1)).length<=sizeLine:=by rw[List.length_map,sizeLine_eq];omega
 refine QRt I.kIn O c.sa c.po n.taker c.hd wi hz fun h' O' sb=>h _ ?_
 have hd:∃ o,h'.get? dx=some o:=let ⟨o,_,_,e',_⟩:=O'.ns;⟨o,e'⟩
 refine I.write (x:=a) (e:=dx) (by rw[e];exact True.intro) (.inr ho) (fun b q hb z=>(sb.2 b hb).trans z) hd ?_
 refine⟨by rw[Ql O.ne];exact ho,?_,O.ne,O'.obj,_,O'.ns,fun g=>?_,fun g hg=>?_⟩
 ·have:=Qwm f y fs;omega
 ·show RelO ((putF f y fs).lookup g) (if g=f then some u else mA g)
  rw[Qwk]
  by_cases q:g=f
  ·rw[if_pos q,if_pos q];exact ry
  ·rw[if_neg q,if_neg q];exact r g
 ·by_cases q:g=f
  ·rw[q];exact(Qva f y fs).1
  ·refine(Qva f y fs).2 g (wi g fun z=>hg ?_)
   show(if g=f then some u else mA g)=none
   rw[if_neg q];exact z
theorem Inv.made(I:Inv X pins σ H s):Inv X pins σ (upd (upd H s.heap.objs.size (.own (s.heap.objs.size+1))) (s.heap.objs.size+1) (.ins C s.heap.objs.size []))
 { s with heap:=(s.heap.push PySem.W.emptyDict).push (PySem.W.instObj C s.heap.objs.size) }:=by
 have e1:(s.heap.push PySem.W.emptyDict).get? s.heap.objs.size=some PySem.W.emptyDict:=Heap.get?_push_size s.heap rfl
 have e2:((s.heap.push PySem.W.emptyDict).push (PySem.W.instObj C s.heap.objs.size)).get? (s.heap.objs.size+1)=some (PySem.W.instObj C s.heap.objs.size):=by
  have:=Heap.get?_push_size (s.heap.push PySem.W.emptyDict) (o:=PySem.W.instObj C s.heap.objs.size) rfl
  rwa [Heap.size_push]at this
 have e3:(s.heap.push PySem.W.emptyDict).Ns s.heap.objs.size (fun _=>none):=⟨PySem.W.emptyDict, #[],_,e1,rfl,(fun e he=>absurd he (by simp)),fun _=>rfl⟩
 have I1:=I.laid (a:=s.heap.objs.size) (o:=.own (s.heap.objs.size+1)) (h':=s.heap.push PySem.W.emptyDict) (t':=s.toks) (fun b u q=>Heap.get?_push_of_some _ q) (Nat.le_refl _) ⟨_,e1⟩
 refine I1.laid (a:=s.heap.objs.size+1) (o:=.ins C s.heap.objs.size []) (t':=s.toks) (fun b u q=>Heap.get?_push_of_some _ q) (Nat.le_of_eq (Heap.size_push _ _)) ?_
 have ne:s.heap.objs.size≠s.heap.objs.size+1:=Nat.ne_of_lt (Nat.lt_succ_self _)
 refine⟨by rw[Ql ne,QU],Nat.zero_le _,ne,e2,fun _=>none,(Heap.Ns1.of_empty e3).at fun o q=>Heap.get?_push_of_some _ q,fun _=>True.intro,fun y hy=>absurd rfl hy⟩
theorem QSp{prog:Program}{w:World}{env:Env}{e:Expr}{f:Str}{pos:Pos}{s:Shared}{Q:Value->Shared->Prop}(hb:attributeBase e f env (eval e env)=eval e env)
 (h:wpAny (model prog w) A (eval e env) (fun o s₁=>wpAny (model prog w) A (getAttr o f true) Q E s₁) E s):wpAny (model prog w) A (eval (.Attribute e f pos) env) Q E s:=
 Attribute_any_ h (by rw[arm_eval_Attribute,hb])
end
def tFld(K:PySem.W.Frag)(ta:TE)(f:Str):TE:=fun σ H Q=>ta σ H fun x H1=>∃ a C dx fs v,x=.ref a/\H1 a=some (.ins C dx fs)/\Cls K C/\Qm9 K C f/\fs.lookup f=some v/\Q v H1
def sFld(K:PySem.W.Frag)(ta tv:TE)(f:Str):TS:=fun D σ H=>tv σ H fun y H1=>ta σ H1 fun x H2=>∃ a C dx fs,x=.ref a/\H2 a=some (.ins C dx fs)/\Cls K C/\Qm9 K C f/\fs.length<1000/\
 D.nx σ (upd H2 a (.ins C dx (putF f y fs)))
section
variable{X:Cx}{o e value:Expr}{f:Str}{pos pos' tpos:Pos}{ta tv:TE}
theorem QTB(he:PE X e ta)(hb:attributeBase e f X.env (eval e X.env)=eval e X.env):PE X (.Attribute e f pos) (tFld X.K ta f):=by
 intro pins s σ H Q I h
 refine QSp hb (thn (he pins s σ H _ I h) fun u s1 ⟨x,H1,I1,rx,a,C,dx,fs,v,ex,ea,c,n,l,q⟩=>?_)
 subst ex
 obtain rfl:u=Value.ref a:=rx
 exact QMs I1 ea c n l fun u' s2 I2 ru=>⟨v,H1,I2,ru,q⟩
theorem QS6(ha:PE X o ta)(hv:PE X value tv)(hs:swapsWith value (some (.Attribute o f pos')) pos.line X.env=pure false):PS X (.Assign [.Attribute o f pos'] value pos) (sFld X.K ta tv f):=by
 intro pins s σ H D I h
 refine plainObj_wpAny_Assign_Attribute (thn (hv pins s σ H _ I h) fun u s1 ⟨y,H1,I1,ry,q⟩=>thn (ha pins s1 σ H1 _ I1 q) fun ov s2 ⟨x,H2,I2,rx,a,C,dx,fs,ex,ea,c,n,l,q2⟩=>?_) hs
 subst ex
 obtain rfl:ov=Value.ref a:=rx
 exact QNE I2 ea c n l ry fun s3 I3=>⟨σ,_,I3,q2⟩
end
section
variable{X:Cx}{pins:List (Addr×Obj)}{σ:St}{H:Hp}{s:Shared}{A:Around}{E:Value->Shared->Prop}{Q:Value->Shared->Prop}{c:Value}{b:Bool}
inductive TyOf(K:PySem.W.Frag)(H:Hp):V->Value->Prop where
 | non:TyOf K H .non (.type "NoneType")
 | bl (x:Bool):TyOf K H (.bl x) (.type "bool")
 | int (i:Int):TyOf K H (.int i) (.type "int")
 | str (x:Str):TyOf K H (.str x) (.type "str")
 | flt (x:UInt64):TyOf K H (.flt x) (.type "float")
 | lst {a:Addr} {xs:List V} (e:H a=some (.lst xs)):TyOf K H (.ref a) (.type "list")
 | frz {a:Addr} {o:Obj} {xs:List V} (e:H a=some (.frz o (.lst xs))):TyOf K H (.ref a) (.type "list")
 | tup {a:Addr} {xs:List V} (e:H a=some (.tup xs)):TyOf K H (.ref a) (.type "tuple")
 | dK {a:Addr} {kvs:List (Key×V)} (e:H a=some (.dK kvs)):TyOf K H (.ref a) (.type "dict")
 | dT {a:Addr} {kvs:List (List Key×V)} (e:H a=some (.dT kvs)):TyOf K H (.ref a) (.type "dict")
 | ins {a C dx:Addr} {fs:List (Str×V)} (e:H a=some (.ins C dx fs)) (cl:Cls K C) (ha:PySem.W.findIn K (.ref C) "__class__"=some (some (.builtin "object.__class__")))
  (hn:PySem.W.specialIn K (.builtin "object.__class__") "__get__"=some (some (.builtin "getset_descriptor.__get__"))) (htk:PySem.W.takesIn K (.builtin "object.__class__")=some true)
  (hm:PySem.W.mroIn K C (.type "object")=some true):TyOf K H (.ref a) (.ref C)
end
end L2
namespace L2
open PySem PySem.Spec PyProof.Rows
structure Room(k:Nat)(A:Around):Prop where
 hd:A.handled=none
 dp:A.depth+3 * k+5<recursionLimit
 un:A.units+16 * k+200<cLine
theorem Room.mono{j k:Nat}{A:Around}(r:Room k A)(h:j<=k):Room j A:=⟨r.hd,by have:=r.dp;omega,by have:=r.un;omega⟩
theorem Room.deeper{k:Nat}{A:Around}(r:Room (k+1) A)(env:Env):Room k (A.deeper env):=
 ⟨r.hd,by have:=r.dp;show A.depth+1+3 * k+5<_;omega,by have:=r.un;show A.units+3+16 * k+200<_;omega⟩
theorem QLN{A:Around}{C:Addr}{us:List Value}{kw:List (Str×Value)}:(A.under (.builtin "type.__call__" ⟨.ref C::us,kw⟩)).depth=A.depth+1:=by
 first | rfl | simp[Around.under,Code.weight,Code.isCreation,Code.isGuard,Code.isCaller,Code.frames,Code.isFrame,guardIds]
theorem QMU{A:Around}{C:Addr}{us:List Value}{kw:List (Str×Value)}:(A.under (.builtin "type.__call__" ⟨.ref C::us,kw⟩)).units=A.units+1:=by
 first | rfl | simp[Around.under,Code.cUnits,Code.frames,Code.isFrame]
theorem Room.make{k:Nat}{A:Around}(r:Room (k+1) A)(C:Addr)(us:List Value)(kw:List (Str×Value)):Room k (A.under (.builtin "type.__call__" ⟨.ref C::us,kw⟩)):=
 ⟨r.hd,by have:=r.dp;rw[QLN];omega,by have:=r.un;rw[QMU];omega⟩
theorem Room.depth{k:Nat}{A:Around}(r:Room k A):A.depth<recursionLimit:=by have:=r.dp;omega
theorem Room.units{k:Nat}{A:Around}(r:Room k A):A.units+64<cLine:=by have:=r.un;omega
def tNil:TA:=fun _ H Q=>Q [] H
def tCons(ta:TE)(tr:TA):TA:=fun σ H Q=>ta σ H fun x H1=>tr σ H1 fun xs H2=>Q (x::xs) H2
section
variable{X:Cx}{e:Expr}{es:List Expr}{te:TE}{t:TA}{pos:Pos}
theorem Qgz:PA X [] tNil:=fun _ _ _ _ H Q I h=>Calls.spliced_nil ⟨[],H,I,.nil,h⟩
theorem Qc2(ha:PE X e te)(hr:PA X es t)(hs:starEach (e::es) X.env=(false,eval e X.env)::starEach es X.env:=by rfl):PA X (e::es) (tCons te t):=by
 intro pos pins s σ H Q I h
 rw[hs]
 show wpAny _ _ (spliced ((false,eval e X.env)::backTo pos (starEach es X.env))) _ _ s
 refine Calls.spliced_cons (thn (ha pins s σ H _ I h) fun u s1 ⟨x,H1,I1,r1,q1⟩=>?_)
 exact thn (hr pos pins s1 σ H1 _ I1 q1) fun us s2 ⟨xs,H2,I2,r2,q2⟩=>⟨x::xs,H2,I2,.cons r1 r2,q2⟩
def tTup(t:TA):TE:=fun σ H Q=>t σ H fun xs H1=>xs.length<=sizeLine/\∀ p,H1 p=none->Q (.ref p) (upd H1 p (.tup xs))
def tLst(t:TA):TE:=fun σ H Q=>t σ H fun xs H1=>xs.length<=sizeLine/\∀ p,H1 p=none->Q (.ref p) (upd H1 p (.lst xs))
theorem QNJ{x1}(h:PA X es t):PE X (.Tuple es x1 pos) (tTup t):=by
 intro pins s σ H Q I hq
 refine wpAny_Tuple_spliced (thn (h pos pins s σ H _ I hq) fun us s1 ⟨xs,H1,I1,r,z,q⟩=>⟨by rw[← r.length];exact z,?_⟩)
 have hf:H1 s1.heap.objs.size=none:=I1.hok.fresh (Nat.le_refl _)
 refine⟨.ref s1.heap.objs.size,upd H1 s1.heap.objs.size (.tup xs),I1.laid (t':=s1.toks) (fun b u e=>Heap.get?_push_of_some _ e) (Nat.le_refl _) ?_,rfl,q _ hf⟩
 exact⟨z,us,r,⟨_,Heap.get?_push_size _ rfl,rfl,_,rfl⟩⟩
theorem QUp(h:PA X es t):PE X (.List es pos) (tLst t):=by
 intro pins s σ H Q I hq
 refine wpAny_List_spliced (thn (h pos pins s σ H _ I hq) fun us s1 ⟨xs,H1,I1,r,z,q⟩=>⟨by rw[← r.length];exact z,?_⟩)
 have hf:H1 s1.heap.objs.size=none:=I1.hok.fresh (Nat.le_refl _)
 refine⟨.ref s1.heap.objs.size,upd H1 s1.heap.objs.size (.lst xs),I1.laid (t':=s1.toks) (fun b u e=>Heap.get?_push_of_some _ e) (Nat.le_refl _) ?_,rfl,q _ hf⟩
 exact⟨z,us,0,r,Heap.get?_push_size _ rfl⟩
end
abbrev Sp:=List V->Hp->VK->XK->Prop
abbrev CXT:=List Env->Hp->Shared->XK->Value->Shared->Prop
structure Env0(P:Program)(w:World)(K:PySem.W.Frag)(mg:Str->Option Value)(base:Heap)(A:Around)(outer:List Env)(s:Shared)(H:Hp):Prop where
 frames:A.frames=some outer
 mod:Mod K mg base
 bs:∀ b o,base.get? b=some o->s.heap.get? b=some o/\H b=none
 bsz:base.objs.size<=s.heap.objs.size
 funs:s.heap.FunFrames base outer
 frf:∀ b∈frs outer,H b=none
 hok:HOk P w H s.heap
 bare:AllBare s.gens
def CE(outer:List Env)(P:Program)(w:World)(H:Hp)(s:Shared)(Q:VK)(u:Value)(s':Shared):Prop:=
 ∃ v H',s'.os=s.os/\AllBare s'.gens/\Un (frs outer) [] H H' s.heap s'.heap/\HOk P w H' s'.heap/\RelV v u/\Q v H'
def CR(CX:CXT)(outer:List Env)(P:Program)(w:World)(H:Hp)(s:Shared)(Q:VK)(E:XK)(r:Result)(s':Shared):Prop:=
 match r with
 | .ok (.ret u)=>CE outer P w H s Q u s'
 | .ok _=>False
 | .error e=>CX outer H s E e s'
structure FnOk(P:Program)(w:World)(K:PySem.W.Frag)(mg:Str->Option Value)(base:Heap)(CX:CXT)(k:Nat)(f:Addr)(fd:FuncData)(ps:List Str)(sp:Sp):Prop where
 len:∀ vs H Q E,sp vs H Q E->vs.length=ps.length
 run:∀(A:Around)(outer:List Env)(s:Shared)(H:Hp)(args:Args)(us:List Value)(vs:List V)(Q:VK)(E:XK),Room k A->Env0 P w K mg base A outer s H->BindsTo s fd args (ps.zip us)->Vals vs us->sp vs H Q E->
  codeAny (model P w) A (.call (.ref f) args) (CR CX outer P w H s Q E) s
theorem FnOk.mono{P:Program}{w:World}{K:PySem.W.Frag}{mg:Str->Option Value}{base:Heap}{CX:CXT}{j k:Nat}{f:Addr}{fd:FuncData}{ps:List Str}{sp:Sp}(F:FnOk P w K mg base CX j f fd ps sp)(h:j<=k):
 FnOk P w K mg base CX k f fd ps sp:=⟨F.len,fun A outer s H args us vs Q E hr=>F.run A outer s H args us vs Q E (hr.mono h)⟩
theorem Env0.make{P:Program}{w:World}{K:PySem.W.Frag}{mg:Str->Option Value}{base:Heap}{A:Around}{outer:List Env}{s:Shared}{H:Hp}(e:Env0 P w K mg base A outer s H)(C:Addr)(us:List Value)(kw:List (Str×Value)):
 Env0 P w K mg base (A.under (.builtin "type.__call__" ⟨.ref C::us,kw⟩)) outer s H:=⟨by first | exact e.frames | (simpa [Around.under,Code.envs,Code.isFrame,pushEnvs] using e.frames),e.mod,e.bs,e.bsz,e.funs,e.frf,e.hok,e.bare⟩
section
variable{X:Cx}{pins:List (Addr×Obj)}{σ:St}{H:Hp}{s s':Shared}
theorem Inv.env0(I:Inv X pins σ H s):Env0 X.prog X.w X.K X.mg X.base X.A X.stack s H:=
 ⟨I.ok.frames,I.ok.mod,I.bs,Nat.le_trans I.ok.bsz I.sz,I.stack,I.stkFree,I.hok,I.bare⟩
theorem Inv.after{Q:VK}{u:Value}(I:Inv X pins σ H s)(h:CE X.stack X.prog X.w H s Q u s'):EP X pins σ Q u s':=by
 obtain⟨v,H',os,bare,un,hok,r,q⟩:=h
 obtain⟨hh,g,d,t,os'⟩:=s'
 obtain rfl:os'=s.os:=os
 exact⟨v,H',I.call (h':=hh) (g':=g) (d':=d) (t':=t) (ch:=[]) un hok bare (fun b z=>absurd z (by simp)),r,q⟩
end
def tCall(sp:Sp)(dvs:List V)(E:XK)(t:TA):TE:=fun σ H Q=>t σ H fun vs H1=>sp (vs++dvs) H1 Q E
def tMake(C:Addr)(sp:Sp)(dvs:List V)(E:XK)(t:TA):TE:=fun σ H Q=>t σ H fun vs H1=>∀ x dx,H1 x=none->H1 dx=none->dx≠x->
 sp (.ref x::(vs++dvs)) (upd (upd H1 dx (.own x)) x (.ins C dx [])) (fun v H2=>v=.non/\Q (.ref x) H2) E
def Binds(K:PySem.W.Frag)(fd:FuncData)(ps:List Str)(ds:List Value):Prop:=
 ∀(s:Shared)(us:List Value),K.In s.heap->(us++ds).length=ps.length->BindsTo s fd ⟨us,[]⟩ (ps.zip (us++ds))
theorem Binds.all{K:PySem.W.Frag}{fd:FuncData}{ps:List Str}(h:∀ us:List Value,us.length=ps.length->bindArgs fd ⟨us,[]⟩=pure (ps.zip us)):Binds K fd ps []:=fun s us _ hl=>by
 rw[List.append_nil]at hl ⊢
 exact .of_eq (h us hl)
def Qiz(CX:CXT)(X:Cx)(E:XK):Prop:=∀(pins:List (Addr×Obj))(σ:St)(H:Hp)(s:Shared)(e:Value)(s':Shared),Inv X pins σ H s->CX X.stack H s E e s'->X.xe e s'
section
variable{X:Cx}{CX:CXT}{k:Nat}{f C:Addr}{fd:FuncData}{ps:List Str}{sp:Sp}{dvs:List V}{ds:List Value}{E:XK}{x m:Str}{p pos apos:Pos}{e o:Expr}{es:List Expr}{ta:TE}{t:TA}
theorem QHb{pins:List (Addr×Obj)}{σ:St}{H:Hp}{s:Shared}{Q:VK}{us:List Value}{vs:List V}(F:FnOk X.prog X.w X.K X.mg X.base CX k f fd ps sp)(hr:Room k X.A)(hb:Binds X.K fd ps ds)(hd:Vals dvs ds)(hx:Qiz CX X E)
 (I:Inv X pins σ H s) (r:Vals vs us) (h:sp (vs++dvs) H Q E):wpAny (model X.prog X.w) X.A (call (.ref f) us) (EP X pins σ Q) X.xe s:=by
 have r2:Vals (vs++dvs) (us++ds):=r.append hd
 have hl:(us++ds).length=ps.length:=by rw[← r2.length];exact F.len _ _ _ _ h
 refine wpAny_call (codeAny_mono (F.run X.A X.stack s H ⟨us,[]⟩ (us++ds) (vs++dvs) Q E hr I.env0 (hb s us I.kIn hl) r2 h) fun r s' hq=>?_)
 cases r with
 | error e=>exact hx pins σ H s e s' I hq
 | ok fl=>
  cases fl with
  | ret u=>exact I.after hq
  | next=>exact False.elim hq
  | brk=>exact False.elim hq
  | cont=>exact False.elim hq
theorem QRU(F:FnOk X.prog X.w X.K X.mg X.base CX k f fd ps sp)(hr:Room k X.A)(hg:Gl X x)(hm:X.mg x=some (.ref f))(hk:PySem.W.keepIn X.K (.ref f)=true)(hb:Binds X.K fd ps ds)(hd:Vals dvs ds)(hx:Qiz CX X E)
 (ha:PA X (e::es) t) (hdb:(x == ("__debug__":Str))=false:=by decide) (he:starEach (e::es) X.env=(false,eval e X.env)::starEach es X.env:=by rfl) (hpl:(backTo pos (starEach es X.env)).any (·.1)=false:=by rfl):
 PE X (.Call (.Name x p) (e::es) [] pos) (tCall sp dvs E t):=by
 intro pins s σ H Q I h
 refine wpAny_Call_Name_kw (QBD I hg hm ?_ hdb)
 refine PySem.W.callWith_K (h₀:=X.base) I.ok.mod.kin hk (thn (ha pos pins s σ H _ I h) fun us s1 ⟨vs,H1,I1,r,q⟩=>⟨I1.kIn,?_⟩) he hpl
 exact QHb F hr hb hd hx I1 r q
structure Mk(K:PySem.W.Frag)(C f:Addr):Prop where
 makes:PySem.W.makesIn K C=true
 init:PySem.W.findIn K (.ref C) "__init__"=some (some (.ref f))
 fn:PySem.W.isFn K (.ref f)=true
 kp:PySem.W.keepIn K (.ref C)=true
theorem QQI{pins:List (Addr×Obj)}{σ:St}{H:Hp}{s:Shared}{Q:VK}{us:List Value}{vs:List V}(M:Mk X.K C f)(F:FnOk X.prog X.w X.K X.mg X.base CX k f fd ps sp)(hr:Room (k+1) X.A)(hb:Binds X.K fd ps ds)(hd:Vals dvs ds)
 (hx:Qiz CX X E) (I:Inv X pins σ H s) (r:Vals vs us)
 (h:∀ x dx,H x=none->H dx=none->dx≠x->sp (.ref x::(vs++dvs)) (upd (upd H dx (.own x)) x (.ins C dx [])) (fun v H2=>v=.non/\Q (.ref x) H2) E):
 wpAny (model X.prog X.w) X.A (call (.ref C) us) (EP X pins σ Q) X.xe s:=by
 have hq:=h (s.heap.objs.size+1) s.heap.objs.size (I.hok.fresh (Nat.le_succ _)) (I.hok.fresh (Nat.le_refl _)) (Nat.ne_of_lt (Nat.lt_succ_self _))
 have I2:=Inv.made (C:=C) I
 have r2:Vals (V.ref (s.heap.objs.size+1)::(vs++dvs)) (Value.ref (s.heap.objs.size+1)::(us++ds)):=.cons rfl (r.append hd)
 have hl:(Value.ref (s.heap.objs.size+1)::us++ds).length=ps.length:=by
  have e:=r2.length
  rw[F.len _ _ _ _ hq]at e
  exact e.symm
 refine wpAny_call (QQp (f:=f) I.kIn M.makes M.init (beq_iff_eq.mp M.fn) (codeAny_mono (F.run _ X.stack _ _ ⟨Value.ref (s.heap.objs.size+1)::us,[]⟩ (Value.ref (s.heap.objs.size+1)::(us++ds)) _ _ E (hr.make C us [])
  (I2.env0.make C us []) (hb _ (Value.ref (s.heap.objs.size+1)::us) I2.kIn hl) r2 hq) fun r s' hq'=>?_))
 cases r with
 | error e=>exact hx pins σ _ _ e s' I2 hq'
 | ok fl=>
  cases fl with
  | ret u=>
   obtain⟨v,H',I3,rv,ev,q3⟩:=I2.after hq'
   subst ev
   exact⟨rv,⟨V.ref (s.heap.objs.size+1),H',I3,rfl,q3⟩⟩
  | next=>exact False.elim hq'
  | brk=>exact False.elim hq'
  | cont=>exact False.elim hq'
theorem QRQ(M:Mk X.K C f)(F:FnOk X.prog X.w X.K X.mg X.base CX k f fd ps sp)(hr:Room (k+1) X.A)(hg:Gl X x)(hm:X.mg x=some (.ref C))(hb:Binds X.K fd ps ds)(hd:Vals dvs ds)(hx:Qiz CX X E)
 (ha:PA X (e::es) t) (hdb:(x == ("__debug__":Str))=false:=by decide) (he:starEach (e::es) X.env=(false,eval e X.env)::starEach es X.env:=by rfl) (hpl:(backTo pos (starEach es X.env)).any (·.1)=false:=by rfl):
 PE X (.Call (.Name x p) (e::es) [] pos) (tMake C sp dvs E t):=by
 intro pins s σ H Q I h
 refine wpAny_Call_Name_kw (QBD I hg hm ?_ hdb)
 refine PySem.W.callWith_K (h₀:=X.base) I.ok.mod.kin M.kp (thn (ha pos pins s σ H _ I h) fun us s1 ⟨vs,H1,I1,r,q⟩=>⟨I1.kIn,?_⟩) he hpl
 exact QQI M F hr hb hd hx I1 r q
end
section
variable{X:Cx}{CX:CXT}{k:Nat}{f C:Addr}{fd:FuncData}{ps ks:List Str}{sp:Sp}{E:XK}{x m:Str}{p pos apos kpos:Pos}{e o:Expr}{es:List Expr}{kws:List Keyword}{te ta:TE}{t tk:TA}{nm:Option Str}
structure QUL(K:PySem.W.Frag)(fd:FuncData)(ps ks:List Str)(g:List Value->List Value->List Value)(gV:List V->List V->List V):Prop where
 to:∀(s:Shared)(us ws:List Value),K.In s.heap->(g us ws).length=ps.length->BindsTo s fd ⟨us,ks.zip ws⟩ (ps.zip (g us ws))
 rel:∀{vs:List V}{us:List Value}{zs:List V}{ws:List Value},Vals vs us->Vals zs ws->Vals (gV vs zs) (g us ws)
variable{g:List Value->List Value->List Value}{gV:List V->List V->List V}
end
structure Qo(N P:List Str)(sc:Scope):Prop where
 kind:sc.kind=.function
 co:sc.isCoroutine=false
 gen:sc.isGenerator=false
 nd:N.Nodup
 pre:N.take P.length=P
 par:∀ x∈P,sc.names.lookup x=some .local∨sc.names.lookup x=some .cell
 nofree:∀ y∈sc.names,y.2≠.free
theorem QCJ{kindOf:Str->Option NameKind}{x:Str}:∀{binds:List (Str×Value)}{m:Str->Option Value},(∀ v,(x,v)∉binds)->bindL kindOf binds m x=m x
 | [],_,_=>rfl
 | (n,v)::r,m,h=>by
  unfold bindL
  rw[QCJ fun w hw=>h w (List.mem_cons_of_mem _ hw)]
  split
  ·have:x≠n:=by rintro rfl;exact h v List.mem_cons_self
   simp[this]
  ·rfl
theorem QCO{kindOf:Str->Option NameKind}{x:Str}:∀{binds:List (Str×Value)}{m:Str->Option Value},(∀ v,(x,v)∉binds)->bindC kindOf binds m x=m x
 | [],_,_=>rfl
 | (n,v)::r,m,h=>by
  unfold bindC
  rw[QCO fun w hw=>h w (List.mem_cons_of_mem _ hw)]
  split
  ·rfl
  ·have:x≠n:=by rintro rfl;exact h v List.mem_cons_self
   simp[this]
theorem QCQ{kindOf:Str->Option NameKind}{x:Str}{v:Value}:∀{P:List Str}{vs:List Value}{i:Nat}{m:Str->Option Value},P.Nodup->P[i]?=some x->vs[i]?=some v->kindOf x=some .local->
 bindL kindOf (P.zip vs) m x=some v
 | [],_,_,_,_,h,_,_=>by simp at h
 | _::_,[],_,_,_,_,h,_=>by simp at h
 | p::P,w::vs,0,m,nd,h1,h2,hk=>by
  simp at h1 h2;subst h1;subst h2
  show bindL kindOf ((p,w)::P.zip vs) m p=_
  unfold bindL
  rw[QCJ fun v hv=>(List.nodup_cons.mp nd).1 (List.of_mem_zip hv).1,if_pos hk]
  simp
 | p::P,w::vs,i+1,m,nd,h1,h2,hk=>by
  show bindL kindOf ((p,w)::P.zip vs) m x=_
  unfold bindL
  exact QCQ (i:=i) (List.nodup_cons.mp nd).2 (by simpa using h1) (by simpa using h2) hk
theorem QCI{kindOf:Str->Option NameKind}{x:Str}{v:Value}:∀{P:List Str}{vs:List Value}{i:Nat}{m:Str->Option Value},P.Nodup->P[i]?=some x->vs[i]?=some v->kindOf x≠some .local->
 bindC kindOf (P.zip vs) m x=some v
 | [],_,_,_,_,h,_,_=>by simp at h
 | _::_,[],_,_,_,_,h,_=>by simp at h
 | p::P,w::vs,0,m,nd,h1,h2,hk=>by
  simp at h1 h2;subst h1;subst h2
  show bindC kindOf ((p,w)::P.zip vs) m p=_
  unfold bindC
  rw[QCO fun v hv=>(List.nodup_cons.mp nd).1 (List.of_mem_zip hv).1,if_neg hk]
  simp
 | p::P,w::vs,i+1,m,nd,h1,h2,hk=>by
  show bindC kindOf ((p,w)::P.zip vs) m x=_
  unfold bindC
  exact QCI (i:=i) (List.nodup_cons.mp nd).2 (by simpa using h1) (by simpa using h2) hk
def start(N:List Str)(vs:List V):St:=vs.map some++List.replicate (N.length - vs.length) none
def cxOf(CX:CXT)(P:Program)(w:World)(K:PySem.W.Frag)(mg:Str->Option Value)(base:Heap)(N:List Str)(qual:Str)(scope:Scope)(f:Addr)(cd:Value)(A:Around)(outer:List Env)(s:Shared)(H:Hp)(E:XK):Cx where
 prog:=P
 w:=w
 K:=K
 mg:=mg
 base:=base
 A:=A.deeper (envOfC qual scope s.heap.objs.size f cd)
 N:=N
 s₀:=s
 H₀:=H
 env:=envOfC qual scope s.heap.objs.size f cd
 outer:=outer
 stack:=envOfC qual scope s.heap.objs.size f cd::outer
 ex:=[]
 calm:=true
 fn:=fun _=>true
 pn:=[]
 xe:=fun e s'=>wpAny (model P w) (A.deeper (envOfC qual scope s.heap.objs.size f cd)) (leaving (envOfC qual scope s.heap.objs.size f cd) e) (fun _ s''=>CX outer H s E e s'') (fun e' s''=>CX outer H s E e' s'') s'
theorem QGU{sc:Scope}{n:Nat}{x:Str}(h:sc.names.lookup x=some .cell):∃ c,(cellsFrom n sc.names []).lookup x=some c:=by
 have q:=PySem.W.cellsFrom_some sc.names n [] (.inl h)
 exact Option.isSome_iff_exists.mp q
theorem QPf{CX:CXT}{P:Program}{w:World}{K:PySem.W.Frag}{mg:Str->Option Value}{base:Heap}{N ps:List Str}{qual:Str}{scope:Scope}{f:Addr}{cd:Value}{A:Around}{outer:List Env}{s s1:Shared}{H:Hp}{E:XK}{us:List Value}{vs:List V}
 (S:Qo N ps scope) (hd:A.handled=none) (e0:Env0 P w K mg base A outer s H) (hl:vs.length=ps.length) (r:Vals vs us)
 (x:InCallC s s.heap.objs.size (bindL (envOfC qual scope s.heap.objs.size f cd).kindOf (ps.zip us) fun _=>none) (cellsFrom (s.heap.objs.size+1) scope.names []) (bindC (envOfC qual scope s.heap.objs.size f cd).kindOf (ps.zip us) fun _=>none) s1):
 Inv (cxOf CX P w K mg base N qual scope f cd A outer s H E) [] (start N vs) H s1:=by
 have hpl:ps.length<=N.length:=by have:=congrArg List.length S.pre;rw[List.length_take]at this;omega
 obtain⟨h1,tk,rfl,hk⟩:=x.done
 have noA:∀ b:Addr,b∉(cxOf CX P w K mg base N qual scope f cd A outer s H E).ex:=fun b z=>absurd (show b∈([]:List Addr) from z) (by simp)
 refine⟨⟨e0.mod,S.kind,rfl,rfl,Nat.le_refl _,fun y z c h1 h2=>?_,fun y hy=>?_,fun y c _ h=>?_,fun _=>hd,Around.frames_deeper e0.frames,.inr ⟨rfl,rfl⟩,fun b z=>absurd z (noA b),e0.bs,e0.bsz,fun b _ _=>noA b,fun b z=>absurd z (noA b),e0.funs,e0.frf⟩,
  rfl,e0.bare,Un.kept hk,⟨_,x.toInCall.ns,fun i y v h1 h2 h3=>?_⟩,fun y c h=>⟨_,x.cell y c h⟩,e0.hok.fresh (Nat.le_refl _),fun y c h=>?_,fun p hp=>absurd (show p∈([]:List (Addr×Obj)) from hp) (by simp),e0.hok.kept hk,?_⟩
 ·exact name_of_addr x.apart (PySem.mem_of_lookup h1) (PySem.mem_of_lookup h2)
 ·have hy:scope.names.lookup y=some .cell∨scope.names.lookup y=some .free:=hy
  rcases hy with hy | hy
  ·exact QGU hy
  ·exact absurd rfl (S.nofree _ (PySem.mem_of_lookup hy))
 ·exact Nat.le_of_lt (x.above y c (PySem.mem_of_lookup h))
 ·have hi:i<vs.length:=by
   unfold start at h2
   by_cases hi:i<vs.length
   ·exact hi
   ·rw[List.getElem?_append_right (by simpa using hi)]at h2
    rw[List.getElem?_replicate]at h2
    split at h2<;>cases h2
  have ha:vs[i]?=some v:=by
   unfold start at h2
   rw[List.getElem?_append_left (by simpa using hi),List.getElem?_map]at h2
   cases e:vs[i]? with
   | none=>rw[e]at h2;cases h2
   | some a=>rw[e]at h2;cases h2;rfl
  obtain⟨u,hu,rv⟩:=r.get ha
  have hp:ps[i]?=some y:=by
   rw[← S.pre,List.getElem?_take_of_lt (by omega)];exact h1
  have ndP:ps.Nodup:=by rw[← S.pre];exact S.nd.sublist (List.take_sublist _ _)
  refine⟨u,rv,?_⟩
  rcases S.par y (List.mem_of_getElem? hp) with k | k
  ·exact .inl ⟨k,QCQ ndP hp hu k⟩
  ·obtain⟨c,e⟩:=QGU (n:=s.heap.objs.size+1) k
   refine .inr ⟨.inl k,c,e,?_⟩
   have q:=x.cell y c e
   rw[QCI ndP hp hu (by show scope.names.lookup y≠_;rw[k];decide)]at q
   exact q
 ·exact e0.hok.fresh (Nat.le_of_lt (x.above y c (PySem.mem_of_lookup h)))
 ·unfold start
  show _=N.length
  rw[List.length_append,List.length_map,List.length_replicate]
  omega
theorem fn_of{CX:CXT}{P:Program}{w:World}{K:PySem.W.Frag}{mg:Str->Option Value}{base:Heap}{k:Nat}{f:Addr}{name qual:Str}{params:Arguments}{body:List Stmt}{scope:Scope}{dV kV doc pm cdv ct oc:Value}{an od:Option Addr}
 {osl:Array (Option Value)} {N ps:List Str} {sp:Sp} (lk:K.lookup f=some ⟨oc,od,.func (PySem.W.fnOf name qual params body scope dV kV doc pm an cdv ct),osl⟩) (hcd:PySem.W.codeIn K cdv qual=true) (S:Qo N ps scope)
 (len:∀ vs H Q E,sp vs H Q E->vs.length=ps.length)
 (hbody:∀(A:Around)(outer:List Env)(s:Shared)(H:Hp)(vs:List V)(Q:VK)(E:XK),Room k (A.deeper (envOfC qual scope s.heap.objs.size f cdv))->sp vs H Q E->
  ∃ t,PSs (cxOf CX P w K mg base N qual scope f cdv A outer s H E) body t/\t { nx:=fun _ H'=>Q .non H',rt:=Q } (start N vs) H):
 FnOk P w K mg base CX (k+1) f (PySem.W.fnOf name qual params body scope dV kV doc pm an cdv ct) ps sp:=by
 refine⟨len,fun A outer s H args us vs Q E hr e0 hb r hsp=>?_⟩
 have hl:=len _ _ _ _ hsp
 have KX:K.In s.heap:=e0.mod.kin.keeps fun b o e=>(e0.bs b o e).1
 have lim:s.heap.NoLimit:=e0.mod.nolimit.keeps fun b o e=>(e0.bs b o e).1
 have hkind:∀ y∈ps.zip us,scope.names.lookup y.1=some .local∨(scope.names.lookup y.1=some .cell/\((cellsFrom (s.heap.objs.size+1) scope.names []).lookup y.1).isSome=true):=fun⟨n,v⟩ hy=>by
  rcases S.par n (List.of_mem_zip hy).1 with q | q
  ·exact .inl q
  ·exact .inr ⟨q,PySem.W.cellsFrom_some _ _ _ (.inl q)⟩
 refine codeAny_call_function hr.depth (KX _ _ lk) rfl S.co S.gen rfl (PySem.W.codeRec_of KX hcd) (hb _ _ _ _ ?_)
 refine wpAny_newFunctionEnv_cells S.kind hkind fun env he s1 x=>?_
 subst he
 refine⟨lim.keeps x.toInCall.keep,codeAny_func ?_⟩
 obtain⟨t,ht,hq⟩:=hbody A outer s H vs Q E (hr.deeper _) hsp
 have I:Inv (cxOf CX P w K mg base N qual scope f cdv A outer s H E) [] (start N vs) H s1:=QPf S hr.hd e0 hl r x
 refine wpAny_mono (ht [] s1 (start N vs) H _ I hq) (fun fl s' hs=>?_) fun e s' hs=>hs
 have fin:∀{σ':St}{H':Hp}{v:V}{u:Value},Inv (cxOf CX P w K mg base N qual scope f cdv A outer s H E) [] σ' H' s'->RelV v u->Q v H'->CE outer P w H s Q u s':=
  fun {σ' H' v u} J rv q=>⟨v,H',J.os,J.bare,J.base,J.hok,rv,q⟩
 cases fl with
 | ret u=>
  obtain⟨v,σ',H',J,rv,q⟩:=hs
  exact fin J rv q
 | next=>
  obtain⟨σ',H',J,q⟩:=hs
  exact fin (v:=V.non) (u:=Value.none) J rfl q
 | brk=>
  obtain⟨_,_,_,q⟩:=hs
  exact False.elim q
 | cont=>
  obtain⟨_,_,_,q⟩:=hs
  exact False.elim q
end L2
namespace L2
open PySem PySem.Spec PyProof.Rows
section
variable{X:Cx}{x:Str}{p pos:Pos}{e:Expr}{es:List Expr}{t:TA}{id T:String}{r:List V->Hp->VK->Prop}
def tCB(r:List V->Hp->VK->Prop)(t:TA):TE:=fun σ H Q=>t σ H fun vs H1=>r vs H1 Q
theorem QxF(hc:CallR X (.builtin id) r)(hg:Gl X x)(hm:X.mg x=none)(hv:bootBuiltins x=some (.builtin id))(ha:PA X (e::es) t)(hn:x≠"__name__":=by decide)(hdb:(x == ("__debug__":Str))=false:=by decide)
 (he:starEach (e::es) X.env=(false,eval e X.env)::starEach es X.env:=by rfl) (hpl:(backTo pos (starEach es X.env)).any (·.1)=false:=by rfl):PE X (.Call (.Name x p) (e::es) [] pos) (tCB r t):=by
 intro pins s σ H Q I h
 refine wpAny_Call_Name_kw (Qk2 I hg hm hv ?_ hn hdb)
 exact PyProof.Rows.callWith_builtin1 (thn (ha pos pins s σ H _ I h) fun us s1 ⟨vs,H1,I1,r1,q1⟩=>hc pins s1 σ H1 vs us Q I1 r1 q1) he hpl
theorem QCZ(hc:CallR X (.type T) r)(hg:Gl X x)(hm:X.mg x=none)(hv:bootBuiltins x=some (.type T))(ha:PA X (e::es) t)(hn:x≠"__name__":=by decide)(hdb:(x == ("__debug__":Str))=false:=by decide)
 (he:starEach (e::es) X.env=(false,eval e X.env)::starEach es X.env:=by rfl) (hpl:(backTo pos (starEach es X.env)).any (·.1)=false:=by rfl):PE X (.Call (.Name x p) (e::es) [] pos) (tCB r t):=by
 intro pins s σ H Q I h
 refine wpAny_Call_Name_kw (Qk2 I hg hm hv ?_ hn hdb)
 exact PyProof.Rows.callWith_type1 (thn (ha pos pins s σ H _ I h) fun us s1 ⟨vs,H1,I1,r1,q1⟩=>hc pins s1 σ H1 vs us Q I1 r1 q1) he hpl
end
end L2
namespace HT
open PySem PyProof.Rows
section
open PySem.SeqAt
open PySem.AutoSeq1 (wpAny_loadPart')
open PySem.MeetsSeq PySem.MeetsSeq2 PySem.MeetsSeq3
end
section
variable{prog:Program}{w:World}{A:Around}{E:Value->Shared->Prop}{s:Shared}
def sIx(n d:Nat):Option Int->Nat
 | none=>d
 | some v=>if v<0 then(v+(n:Int)).toNat else min v.toNat n
theorem sIx_none(n d:Nat):sIx n d none=d:=rfl
theorem sIx_nat(n d k:Nat):sIx n d (some (k:Int))=min k n:=by
 show(if (k:Int)<0 then((k:Int)+(n:Int)).toNat else min (k:Int).toNat n)=min k n
 rw[if_neg (by omega),Int.toNat_natCast]
end
end HT
namespace L2
open PySem PySem.Spec PyProof.Rows
abbrev TO:=St->Hp->(Option Int->Hp->Prop)->Prop
def PO(X:Cx)(e:Option Expr)(t:TO):Prop:=
 ∀(pins:List (Addr×Obj))(s:Shared)(σ:St)(H:Hp)(Q:Option Int->Hp->Prop),Inv X pins σ H s->t σ H Q->
  wpAny (model X.prog X.w) X.A (evalPart e X.env) (fun u s'=>∃ o H',Inv X pins σ H' s'/\IsPart u o/\Q o H') X.xe s
def QSC:TO:=fun _ H Q=>Q none H
def tPart(t:TE):TO:=fun σ H Q=>t σ H fun x H1=>∃ i,x=.int i/\Q (some i) H1
section
variable{X:Cx}{e:Expr}{te:TE}{lo hi:Option Expr}{tl th:TO}{pos p2:Pos}
theorem QRH:PO X none QSC:=by
 intro pins s σ H Q I h
 rw[evalPart_none]
 exact wpAny_pure ⟨none,H,I,.none,h⟩
theorem QRS(h:PE X e te):PO X (some e) (tPart te):=by
 intro pins s σ H Q I hw
 rw[evalPart_some]
 refine thn (h pins s σ H _ I hw) fun u s1 ⟨x,H1,I1,r1,q1⟩=>?_
 obtain⟨i,rfl,q⟩:=q1
 obtain⟨t,rfl⟩:=r1
 exact⟨some i,H1,I1,.int i t,q⟩
def SlR(X:Cx)(r:V->Option Int->Option Int->Hp->VK->Prop):Prop:=
 ∀(pins:List (Addr×Obj))(s:Shared)(σ:St)(H:Hp)(x:V)(v vl vu:Value)(lo hi:Option Int)(sl:Addr)(Q:VK),Inv X pins σ H s->RelV x v->s.heap.IsSliceOf sl vl vu .none->IsPart vl lo->IsPart vu hi->r x lo hi H Q->
  ∃ T id,typeLookup (.type T) "__getitem__"=pure (some (.builtin id))/\s.TypeIs v T/\wpAny (model X.prog X.w) X.A (getItem v (.ref sl)) (EP X pins σ Q) X.xe s
def tSl(r:V->Option Int->Option Int->Hp->VK->Prop)(te:TE)(tl th:TO):TE:=fun σ H Q=>te σ H fun x H1=>tl σ H1 fun l H2=>th σ H2 fun u H3=>r x l u H3 Q
theorem QQL{r:V->Option Int->Option Int->Hp->VK->Prop}(hr:SlR X r)(he:PE X e te)(hl:PO X lo tl)(hu:PO X hi th):PE X (.Subscript e (.Slice lo hi none p2) pos) (tSl r te tl th):=by
 intro pins s σ H Q I h
 refine Subscript_ (thn (he pins s σ H _ I h) fun v s1 ⟨x,H1,I1,r1,q1⟩=>?_)
 refine wpAny_Slice (thn (hl pins s1 σ H1 _ I1 q1) fun vl s2 ⟨l,H2,I2,pl,q2⟩=>thn (hu pins s2 σ H2 _ I2 q2) fun vu s3 ⟨u,H3,I3,pu,q3⟩=>?_)
 rw[evalPart_none]
 refine wpAny_pure ?_
 have I4:Inv X pins σ H3 { s3 with heap:=s3.heap.push { cls:=.type "slice",data:=.fields #[vl,vu,.none] } }:=I3.kept (t':=s3.toks) fun b ob q=>Heap.get?_push_of_some _ q
 obtain⟨T,id,hT,ht,hg⟩:=hr pins { s3 with heap:=s3.heap.push { cls:=.type "slice",data:=.fields #[vl,vu,.none] } } σ H3 x v vl vu l u s3.heap.objs.size Q I4 r1 (Heap.IsSliceOf.new ..) pl pu q3
 show wpAny (model X.prog X.w) X.A (subscriptTail e (.Slice lo hi none p2) v (.ref s3.heap.objs.size)) (EP X pins σ Q) X.xe { s3 with heap:=s3.heap.push { cls:=.type "slice",data:=.fields #[vl,vu,.none] } }
 exact tail_any (ops:=[.ref s3.heap.objs.size,v]) ht hT hg (by with_unfolding_all rfl)
def cutV(xs:List V)(lo hi:Option Int):List V:=(xs.drop (HT.sIx xs.length 0 lo)).take (HT.sIx xs.length xs.length hi - HT.sIx xs.length 0 lo)
theorem QKH(xs:List V)(lo hi:Option Int):(cutV xs lo hi).length<=xs.length:=by
 unfold cutV
 rw[List.length_take,List.length_drop]
 omega
end
end L2
namespace L2
open PySem PySem.Spec PyProof.Rows
def ixN(n:Nat)(i:Int):Option Nat:=if 0<=i then(if i<n then some i.toNat else none) else if -(n:Int)<=i then some (i+n).toNat else none
def atI{α:Type}(xs:List α)(i:Int):Option α:=(ixN xs.length i).bind fun j=>xs[j]?
theorem QRJ{n:Nat}{i:Int}{j:Nat}(h:ixN n i=some j):seqIndex? i n=some j/\j<n /\ -(n:Int)<=i/\i<n:=by
 unfold ixN at h
 by_cases h0:0<=i
 ·rw[if_pos h0]at h
  by_cases h1:i<n
  ·rw[if_pos h1]at h
   have e:i.toNat=j:=Option.some.inj h
   exact⟨by rw[seqIndex_of h0 h1,e],by omega,by omega,h1⟩
  ·rw[if_neg h1]at h;cases h
 ·rw[if_neg h0]at h
  by_cases h1 : -(n:Int)<=i
  ·rw[if_pos h1]at h
   have e:(i+n).toNat=j:=Option.some.inj h
   exact⟨by rw[seqIndex_neg (by omega) h1,e],by omega,h1,by omega⟩
  ·rw[if_neg h1]at h;cases h
theorem QCm{α:Type}{xs:List α}{i:Int}{v:α}(h:atI xs i=some v):∃ j,seqIndex? i xs.length=some j/\xs[j]?=some v/\j<xs.length /\ -(xs.length:Int)<=i/\i<xs.length:=by
 unfold atI at h
 cases e:ixN xs.length i with
 | none=>rw[e]at h;cases h
 | some j=>
  rw[e]at h
  obtain⟨h1,h2,h3,h4⟩:=QRJ e
  exact⟨j,h1,h,h2,h3,h4⟩
theorem QLn{α:Type}{xs:List α}{j:Nat}{v:α}(h:xs[j]?=some v):atI xs (j:Int)=some v:=by
 have hj:j<xs.length:=(List.getElem?_eq_some_iff.mp h).1
 have e:ixN xs.length (j:Int)=some j:=by
  unfold ixN
  rw[if_pos (by omega),if_pos (by omega)];simp
 unfold atI;rw[e];exact h
def QCr(b:Expr):Prop:=∀ o i,subscripted b false o i=operate [o,i] (getItem o i)
def IxR(X:Cx)(r:R2):Prop:=
 ∀(value slice:Expr)(pins:List (Addr×Obj))(s:Shared)(σ:St)(H:Hp)(x y:V)(v u:Value)(Q:VK),Inv X pins σ H s->RelV x v->RelV y u->r x y H Q->
  subscripted slice false v u=operate [v,u] (getItem v u)->wpAny (model X.prog X.w) X.A (subscriptTail value slice v u) (EP X pins σ Q) X.xe s
def MtR(X:Cx)(id:String)(r:V->List V->Hp->VK->Prop):Prop:=
 ∀(pins:List (Addr×Obj))(s:Shared)(σ:St)(H:Hp)(x:V)(xs:List V)(v:Value)(us:List Value)(Q:VK),Inv X pins σ H s->RelV x v->Vals xs us->r x xs H Q->
  wpAny (model X.prog X.w) X.A (call (.builtin id) (v::us)) (EP X pins σ Q) X.xe s
section
variable{X:Cx}{a b:Expr}{ta tb:TE}{pos:Pos}
theorem IxR.or{r r':R2}(h:IxR X r)(h':IxR X r'):IxR X (fun x y H Q=>r x y H Q∨r' x y H Q):=by
 intro value slice pins s σ H x y v u Q I rx ry q hs
 rcases q with q | q
 ·exact h value slice pins s σ H x y v u Q I rx ry q hs
 ·exact h' value slice pins s σ H x y v u Q I rx ry q hs
theorem pe_ix{r:R2}(hr:IxR X r)(ha:PE X a ta)(hb:PE X b tb)(hs:QCr b):PE X (.Subscript a b pos) (tOp r ta tb):=by
 intro pins s σ H Q I h
 exact Subscript_ (binT ha hb I h fun v u s2 x y H2 I2 rx ry q=>hr a b pins s2 σ H2 x y v u Q I2 rx ry q (hs _ _))
def rIxL(K:PySem.W.Frag):R2:=fun x y H Q=>∃ p xs i v,x=.ref p/\y=.int i/\SqL K H p xs/\atI xs i=some v/\Q v H
def rIxT(K:PySem.W.Frag):R2:=fun x y H Q=>∃ p xs i v,x=.ref p/\y=.int i/\SqT K H p xs/\atI xs i=some v/\Q v H
def rIxS:R2:=fun x y H Q=>∃ z i c,x=.str z/\y=.int i/\z.length<=sizeLine/\atI z.cps.toList i=some c/\Q (.str ⟨#[c]⟩) H
theorem QRK:IxR X (rIxL X.K):=by
 intro value slice pins s σ H x y v u Q I rx ry h hs
 obtain⟨p,xs,i,z,rfl,rfl,hq,he,q⟩:=h
 cases rx
 obtain⟨t,rfl⟩:=ry
 obtain⟨its,r,pl,hz⟩:=I.list hq
 obtain⟨j,h1,h2,h3,h4,h5⟩:=QCm he
 obtain⟨w,ew,rw'⟩:=r.get h2
 have hl:=r.length
 have hn:=QuT
 have fin:EP X pins σ Q w s:=⟨z,H,I,rw',q⟩
 by_cases h0:0<=i
 ·have hj:i.toNat=j:=by
   rw[seqIndex_of h0 h5]at h1
   exact Option.some.inj h1
  exact item_listR pl.isList h0 (by omega) (by rw[hj];simpa using ew) fin hs
 ·have hj:(i+(its.toArray.size:Int)).toNat=j:=by
   rw[seqIndex_neg (by omega) h4]at h1
   rw[List.size_toArray, ← hl]
   exact Option.some.inj h1
  exact subscriptTail_builtinR (x:=w) pl.isList.typeIs slot_list_getitem.lookup
   (wpAny_getItem_list_neg (Q:=fun r s'=>r=w/\EP X pins σ Q r s') pl.isList (by omega) (by rw[List.size_toArray]<;>omega) (by omega) (by rw[hj];simpa using ew) ⟨rfl,fin⟩) hs
theorem QTY:IxR X (rIxT X.K):=by
 intro value slice pins s σ H x y v u Q I rx ry h hs
 obtain⟨p,xs,i,z,rfl,rfl,hq,he,q⟩:=h
 cases rx
 obtain⟨t,rfl⟩:=ry
 obtain⟨its,r,pl,hz⟩:=I.tuple hq
 obtain⟨j,h1,h2,h3,h4,h5⟩:=QCm he
 obtain⟨w,ew,rw'⟩:=r.get h2
 have hl:=r.length
 have hn:=QuT
 have fin:EP X pins σ Q w s:=⟨z,H,I,rw',q⟩
 exact subscriptTail_builtinR (x:=w) pl.typeIs slot_tuple_getitem.lookup
  (getItem_tuple (j:=j) (Q:=fun r s'=>r=w/\EP X pins σ Q r s') pl (by omega) (by omega) (by rw[List.size_toArray, ← hl];exact h1) (by simpa using ew) ⟨rfl,fin⟩) hs
theorem QUE:IxR X rIxS:=by
 intro value slice pins s σ H x y v u Q I rx ry h hs
 obtain⟨z,i,c,rfl,rfl,hz,he,q⟩:=h
 obtain⟨t,rfl⟩:=rx
 obtain⟨t',rfl⟩:=ry
 obtain⟨j,h1,h2,h3,h4,h5⟩:=QCm he
 have hl:z.cps.toList.length=z.length:=by simp[Str.length]
 rw[hl]at h1 h4 h5
 have hn:=QuT
 exact tail_any (typeIs_str s z t) slot_str_getitem.lookup (getItem_str (c:=c) (by
  have e1:decide (i < -(2 ^ 63:Int))=false:=decide_eq_false (by omega)
  have e2:decide (i ≥ 2 ^ 63)=false:=decide_eq_false (by omega)
  rw[e1,e2,Bool.or_false]) (by rw[h1];simpa using h2) ⟨.str ⟨#[c]⟩,H,I.tok _,⟨_,rfl⟩,q⟩) hs
def rIx(K:PySem.W.Frag):R2:=fun x y H Q=>rIxL K x y H Q∨rIxT K x y H Q∨rIxS x y H Q
theorem QO5:IxR X (rIx X.K):=QRK.or (QTY.or QUE)
theorem QFm(lo hi:Option Int)(n:Nat):(sliceBounds lo hi none n).1=((HT.sIx n 0 lo:Nat):Int)/\(sliceBounds lo hi none n).2.1=((HT.sIx n n hi:Nat):Int)/\(sliceBounds lo hi none n).2.2=1:=by
 refine⟨?_,?_,rfl⟩
 ·cases lo with
  | none=>simp[sliceBounds,HT.sIx]
  | some i=>
   simp only[sliceBounds,HT.sIx,Option.getD_none,show(1:Int) > 0 by decide,if_true]
   by_cases h:i<0
   ·simp only[h,if_true]<;>omega
   ·simp only[h,if_false]<;>omega
 ·cases hi with
  | none=>simp[sliceBounds,HT.sIx]
  | some i=>
   simp only[sliceBounds,HT.sIx,Option.getD_none,show(1:Int) > 0 by decide,if_true]
   by_cases h:i<0
   ·simp only[h,if_true]<;>omega
   ·simp only[h,if_false]<;>omega
theorem QDd(its:List Value)(lo hi:Option Int):slicePick its.toArray lo hi none=((its.drop (HT.sIx its.length 0 lo)).take (HT.sIx its.length its.length hi - HT.sIx its.length 0 lo)).toArray:=by
 obtain⟨h1,h2,h3⟩:=QFm lo hi its.toArray.size
 unfold slicePick
 rw[h1,h2,h3]
 simp only[sliceRange_one,pick_run,List.size_toArray]<;>rfl
def rSlL(K:PySem.W.Frag):V->Option Int->Option Int->Hp->VK->Prop:=fun x lo hi H Q=>∃ a xs,x=.ref a/\SqL K H a xs/\∀ p,H p=none->Q (.ref p) (upd H p (.lst (cutV xs lo hi)))
theorem QSo:SlR X (rSlL X.K):=by
 intro pins s σ H x v vl vu lo hi sl Q I rx hs pl pu h
 obtain⟨a,xs,rfl,hx,q⟩:=h
 cases rx
 obtain⟨its,r,ht,hz⟩:=I.list hx
 have hlen:=r.length
 refine⟨"list",_,slot_list_getitem.lookup,ht.isList.typeIs,?_⟩
 refine wpAny_getItem_list_slice ht.isList hs pl pu .none (by simp) ?_ (by rw[List.size_toArray]<;>omega)
 rw[QDd, ← hlen]
 refine⟨.ref s.heap.objs.size,_,I.laid (t':=s.toks) (o:=.lst (cutV xs lo hi)) (fun b ob q=>Heap.get?_push_of_some _ q) (Nat.le_refl _) ?_,rfl,q _ (I.hok.fresh (Nat.le_refl _))⟩
 exact⟨Nat.le_trans (QKH xs lo hi) hz,_,0,(r.drop (HT.sIx xs.length 0 lo)).take (HT.sIx xs.length xs.length hi - HT.sIx xs.length 0 lo),Heap.get?_push_size _ rfl⟩
def flatV:V->Bool
 | .non=>true
 | .bl _=>true
 | .int _=>true
 | .str _=>true
 | _=>false
def eqV:V->V->Bool
 | .non,.non=>true
 | .bl a,.bl b=>a == b
 | .bl a,.int b=>(if a then 1 else 0) == b
 | .int a,.bl b=>a == (if b then 1 else 0)
 | .int a,.int b=>a == b
 | .str a,.str b=>a == b
 | _,_=>false
theorem QTo{A:Around}{s:Shared}{y x:V}{u v:Value}(ry:RelV y u)(rx:RelV x v)(fy:flatV y=true)(fx:flatV x=true):SeqAt.EqAt A s u v (eqV y x):=by
 cases y with
 | non=>
  cases ry
  cases x with
  | non=>cases rx;exact SeqAt.EqAt.same _
  | bl b=>cases rx;exact SeqAt.EqAt.none_bool b
  | int b=>obtain⟨t,rfl⟩:=rx;exact SeqAt.EqAt.none_int b t
  | str b=>obtain⟨t,rfl⟩:=rx;exact SeqAt.EqAt.none_str b t
  | _=>exact absurd (show false=true from fx) Bool.false_ne_true
 | bl a=>
  cases ry
  cases x with
  | non=>cases rx;exact SeqAt.EqAt.bool_none a
  | bl b=>cases rx;exact SeqAt.EqAt.bool_bool a b
  | int b=>obtain⟨t,rfl⟩:=rx;exact SeqAt.EqAt.bool_int a b t
  | str b=>obtain⟨t,rfl⟩:=rx;exact SeqAt.EqAt.bool_str a b t
  | _=>exact absurd (show false=true from fx) Bool.false_ne_true
 | int a=>
  obtain⟨t',rfl⟩:=ry
  cases x with
  | non=>cases rx;exact SeqAt.EqAt.int_none a t'
  | bl b=>cases rx;exact SeqAt.EqAt.int_bool a t' b
  | int b=>obtain⟨t,rfl⟩:=rx;exact SeqAt.EqAt.int_int a t' b t
  | str b=>obtain⟨t,rfl⟩:=rx;exact SeqAt.EqAt.int_str a t' b t
  | _=>exact absurd (show false=true from fx) Bool.false_ne_true
 | str a=>
  obtain⟨t',rfl⟩:=ry
  cases x with
  | non=>cases rx;exact SeqAt.EqAt.str_none a t'
  | bl b=>cases rx;exact SeqAt.EqAt.str_bool a t' b
  | int b=>obtain⟨t,rfl⟩:=rx;exact SeqAt.EqAt.str_int a t' b t
  | str b=>obtain⟨t,rfl⟩:=rx;exact SeqAt.EqAt.str_str a t' b t
  | _=>exact absurd (show false=true from fx) Bool.false_ne_true
 | _=>exact absurd (show false=true from fy) Bool.false_ne_true
def eqU(x:V)(u:Value):Bool:=match u with
 | .none=>eqV .non x
 | .bool b=>eqV (.bl b) x
 | .int i _=>eqV (.int i) x
 | .str z _=>eqV (.str z) x
 | _=>false
theorem QPH{x y:V}{u:Value}(r:RelV y u)(f:flatV y=true):eqU x u=eqV y x:=by
 cases y with
 | non=>cases r;rfl
 | bl b=>cases r;rfl
 | int i=>obtain⟨t,rfl⟩:=r;rfl
 | str z=>obtain⟨t,rfl⟩:=r;rfl
 | _=>exact absurd (show false=true from f) Bool.false_ne_true
theorem QAW{x:V}:∀{xs:List V}{us:List Value},Vals xs us->xs.all flatV=true->us.any (eqU x)=xs.any fun y=>eqV y x
 | _,_,.nil,_=>rfl
 | y::xs,u::us,.cons r t,f=>by
  rw[List.all_cons,Bool.and_eq_true]at f
  rw[List.any_cons,List.any_cons,QPH r f.1,QAW t f.2]
theorem QwS{A:Around}{s:Shared}{x:V}{v:Value}(rx:RelV x v)(fx:flatV x=true):∀{xs:List V}{us:List Value},Vals xs us->xs.all flatV=true->∀ u∈us,SeqAt.EqAt A s u v (eqU x u)
 | _,_,.nil,_=>fun u hu=>by cases hu
 | y::xs,u::us,.cons r t,f=>fun u' hu=>by
  rw[List.all_cons,Bool.and_eq_true]at f
  rcases List.mem_cons.mp hu with rfl | hu
  ·rw[QPH r f.1];exact QTo r rx f.1 fx
  ·exact QwS rx fx t f.2 u' hu
def inV(x:V)(xs:List V):Bool:=xs.any fun y=>eqV y x
def rIn(K:PySem.W.Frag)(neg:Bool):R2:=fun x y H Q=>∃ p xs,y=.ref p/\(SqL K H p xs∨SqT K H p xs)/\flatV x=true/\xs.all flatV=true/\Q (.bl (if neg then !inV x xs else inV x xs)) H
theorem QPh:OpR X (compareOp .In) (rIn X.K false):=by
 intro pins s σ H x y v u Q I rx ry h
 obtain⟨p,xs,rfl,hq,fx,fs,q⟩:=h
 cases ry
 rcases hq with hq | hq
 ·obtain⟨its,r,pl,hz⟩:=I.list hq
  refine SeqAt.in_listAt (eqU x) pl.isList (fun w hw=>QwS rx fx r fs w (by simpa using hw)) ⟨.bl _,H,I,rfl,?_⟩
  rw[show its.toArray.any (eqU x)=its.any (eqU x) by simp,QAW r fs]
  exact q
 ·obtain⟨its,r,pl,hz⟩:=I.tuple hq
  refine SeqAt.in_tupleAt (eqU x) pl (fun w hw=>QwS rx fx r fs w (by simpa using hw)) ⟨.bl _,H,I,rfl,?_⟩
  rw[show its.toArray.any (eqU x)=its.any (eqU x) by simp,QAW r fs]
  exact q
theorem QGZ:CallR X (.builtin "len") (fun xs H Q=>∃ p ys,xs=[.ref p]/\(SqL X.K H p ys∨SqT X.K H p ys)/\Q (.int ys.length) H):=by
 intro pins s σ H xs us Q I r h
 obtain⟨p,ys,rfl,hq,q⟩:=h
 obtain⟨u,rfl,rx⟩:=vals1 r
 cases rx
 have hn:=QuT
 rcases hq with hq | hq
 ·obtain⟨its,r',pl,hz⟩:=I.list hq
  have hlen:=r'.length
  exact Calls.call_len_list pl.isList (by simp only[List.size_toArray]<;>omega) ⟨.int ys.length,H,I.tok _,⟨s.toks+1,by rw[List.size_toArray,hlen]⟩,q⟩
 ·obtain⟨its,r',pl,hz⟩:=I.tuple hq
  have hlen:=r'.length
  exact len_tuple pl (by simp only[List.size_toArray]<;>omega) ⟨.int ys.length,H,I.tok _,⟨s.toks+1,by rw[List.size_toArray,hlen]⟩,q⟩
theorem QFC:CallR X (.builtin "len") (fun xs H Q=>∃ z,xs=[.str z]/\z.length<=sizeLine/\Q (.int z.length) H):=by
 intro pins s σ H xs us Q I r h
 obtain⟨z,rfl,hz,q⟩:=h
 obtain⟨u,rfl,t,rfl⟩:=vals1 r
 have hn:=QuT
 exact len_str (by omega) ⟨.int z.length,H,I.tok _,⟨_,rfl⟩,q⟩
theorem CallR.or{f:Value}{r r':List V->Hp->VK->Prop}(h:CallR X f r)(h':CallR X f r'):CallR X f (fun xs H Q=>r xs H Q∨r' xs H Q):=by
 intro pins s σ H xs us Q I rs q
 rcases q with q | q
 ·exact h pins s σ H xs us Q I rs q
 ·exact h' pins s σ H xs us Q I rs q
theorem QF3:CallR X (.type "list") (fun xs H Q=>∃ p ys,xs=[.ref p]/\(SqL X.K H p ys∨SqT X.K H p ys)/\∀ l,H l=none->Q (.ref l) (upd H l (.lst ys))):=by
 intro pins s σ H xs us Q I r h
 obtain⟨p,ys,rfl,hq,q⟩:=h
 obtain⟨u,rfl,rx⟩:=vals1 r
 cases rx
 have fin:∀(its:List Value),Vals ys its->ys.length<=sizeLine->∀(h':Heap)(c':Nat),(∀ b o',s.heap.get? b=some o'->h'.get? b=some o')->
  h'.get? s.heap.objs.size=some { cls:=.type "list",dict:=none,data:=.seq its.toArray c',slots := #[] }->EP X pins σ Q (.ref s.heap.objs.size) { s with heap:=h' }:=fun its r' hz h' c' kp e=>
  ⟨.ref s.heap.objs.size,_,I.laid (t':=s.toks) kp (Nat.le_refl _) (show ObjOk X.prog X.w _ h' _ (.lst ys) from⟨hz,its,c',r',e⟩),rfl,q _ (I.hok.fresh (Nat.le_refl _))⟩
 rcases hq with hq | hq
 ·obtain⟨its,r',pl,hz⟩:=I.list hq
  have hlen:=r'.length
  obtain⟨o,ho,hc,n,hd⟩:=pl.isList
  exact call_list_seq p (.inl rfl) ho hc hd (fun h' c' kp e=>fin its r' hz h' c' kp e) (by simp only[List.size_toArray]<;>omega)
 ·obtain⟨its,r',pl,hz⟩:=I.tuple hq
  have hlen:=r'.length
  obtain⟨o,ho,hc,n,hd⟩:=pl
  exact call_list_seq p (.inr rfl) ho hc hd (fun h' c' kp e=>fin its r' hz h' c' kp e) (by simp only[List.size_toArray]<;>omega)
def tyV(K:PySem.W.Frag)(T:String)(x:V)(H:Hp):Prop:=match x with
 | .str _=>T="str"
 | .int _=>T="int"
 | .ref p=>(T="list"/\∃ xs,SqL K H p xs)∨(T="tuple"/\∃ o,K.lookup p=some o/\o.cls=.type "tuple"/\o.dict=none)∨
  (T="dict"/\((∃ kvs,H p=some (.dK kvs))∨∃ kvs,H p=some (.dT kvs)))∨(T="set"/\∃ S n,H p=some (.set S n))
 | _=>False
theorem QUi{pins:List (Addr×Obj)}{σ:St}{H:Hp}{s:Shared}{T:String}{x:V}{v:Value}(I:Inv X pins σ H s)(r:RelV x v)(ty:tyV X.K T x H):
 s.TypeIs v T/\∀ a,v=.ref a->∃ ob,s.heap.get? a=some ob/\ob.dict=none:=by
 cases x with
 | str z=>
  obtain⟨t,rfl⟩:=r
  cases (show T="str" from ty)
  exact⟨typeIs_str s z t,fun _ e=>nomatch e⟩
 | int i=>
  obtain⟨t,rfl⟩:=r
  cases (show T="int" from ty)
  exact⟨typeIs_int s i t,fun _ e=>nomatch e⟩
 | ref p=>
  cases r
  rcases ty with⟨rfl,xs,hq⟩ | ⟨rfl,o,hk,hc,hd⟩ | ⟨rfl,hk⟩ | ⟨rfl,S,n,hk⟩
  ·obtain⟨its,_,pl,_⟩:=I.list hq
   refine⟨pl.isList.typeIs,fun a e=>?_⟩
   cases e
   obtain⟨o,n,e,c,hd,_⟩:=pl
   exact⟨o,e,hd⟩
  ·refine⟨⟨o,I.kIn p o hk,hc⟩,fun a e=>?_⟩
   cases e
   exact⟨o,I.kIn _ o hk,hd⟩
  ·have z:∃ o,s.heap.get? p=some o/\o.ExactDict:=by
    rcases hk with⟨kvs,hk⟩ | ⟨kvs,hk⟩
    ·obtain⟨_,_,_,_,o,_,_,e,ex,_⟩:=I.hok p _ hk
     exact⟨o,e,ex⟩
    ·obtain⟨_,_,_,_,o,_,_,e,ex,_⟩:=I.hok p _ hk
     exact⟨o,e,ex⟩
   obtain⟨o,e,ex⟩:=z
   refine⟨⟨o,e,ex.1⟩,fun a e2=>?_⟩
   cases e2
   exact⟨o,e,ex.2.1⟩
  ·obtain⟨o,_,_,_,e,ex,_⟩:=I.hok p _ hk
   refine⟨⟨o,e,ex.1⟩,fun a e2=>?_⟩
   cases e2
   exact⟨o,e,ex.2.1⟩
 | _=>exact False.elim ty
def tBM(K:PySem.W.Frag)(T:String)(r:V->List V->Hp->VK->Prop)(to:TE)(t:TA):TE:=fun σ H Q=>to σ H fun x H1=>tyV K T x H1/\t σ H1 fun xs H2=>r x xs H2 Q
variable{o e:Expr}{es:List Expr}{to:TE}{t:TA}{name:Str}{apos cpos:Pos}{T id:String}{r:V->List V->Hp->VK->Prop}
theorem pe_bm(pa:PlainAttrs T)(slot:Slot T name id)(hty:typeOf (.builtin id)=pure (.type "method_descriptor"))(hm:MtR X id r)(ho:PE X o to)(ha:PA X (e::es) t)
 (hbase:attributeBase o name X.env (eval o X.env)=eval o X.env:=by rfl)
 (hfew:((backTo cpos (starEach (e::es) X.env)).all (fun x => !x.1)&&(backToKw cpos (keywordEach [] X.env)).all (fun x=>x.1.isSome)
  && decide ((e::es).length+([]:List Keyword).length+(if ([]:List Keyword).isEmpty then 0 else 1)<30))=true:=by rfl)
 (hline:(apos.endLine == cpos.line)=true:=by rfl) (hs:starEach (e::es) X.env=(false,eval e X.env)::starEach es X.env:=by rfl) (hplain:(backTo cpos (starEach es X.env)).any (·.1)=false:=by rfl):
 PE X (.Call (.Attribute o name apos) (e::es) [] cpos) (tBM X.K T r to t):=by
 intro pins s σ H Q I h
 refine wpAny_Call_method_late hbase hfew hline rfl (thn (ho pins s σ H _ I h) fun v s1 ⟨x,H1,I1,r1,ty,q1⟩=>?_)
 obtain⟨h1,h2⟩:=QUi I1 r1 ty
 refine⟨T,id,pa,slot,hty,h1,h2,?_⟩
 have hA:=ha cpos pins s1 σ H1 _ I1 q1
 rw[hs]at hA ⊢
 refine Calls.callWith_builtin (by show(false||(backTo cpos (starEach es X.env)).any (·.1))=false;rw[hplain]<;>rfl) (Calls.evalArgs_plain ?_)
 exact thn hA fun us s2 ⟨vs,H2,I2,r2,q2⟩=>hm pins s2 σ H2 x vs v us Q I2 r1 r2 q2
end
end L2
namespace L2
open PySem PySem.Spec PyProof.Rows
def MtM(X:Cx)(id:String)(r:V->List V->Hp->VK->Prop):Prop:=
 ∀(pins:List (Addr×Obj))(s:Shared)(σ:St)(H:Hp)(x:V)(xs:List V)(v:Value)(us:List Value)(Q:VK),Inv X pins σ H s->RelV x v->Vals xs us->r x xs H Q->
  wpAny (model X.prog X.w) X.A (call (.builtin id) (v::us)) (EP X pins σ Q) X.xe s
theorem Vals.one:∀{x:V}{us:List Value},Vals [x] us->∃ u,us=[u]/\RelV x u
 | _,_,.cons r .nil=>⟨_,rfl,r⟩
section
variable{X:Cx}{pins:List (Addr×Obj)}{σ:St}{H:Hp}{s:Shared}{l b:Addr}{xs ys zs:List V}
theorem Inv.lset{its its':List Value}{n:Nat}{f:Array Value->Array Value}{t':Nat}(I:Inv X pins σ H s)(hH:H l=some (.lst xs))
 (e:s.heap.get? l=some { cls:=.type "list",data:=.seq its.toArray n }) (hf:f its.toArray=its'.toArray) (hv:Vals ys its') (hz:ys.length<=sizeLine):
 Inv X pins σ (upd H l (.lst ys)) { s with heap:=s.heap.update l (Obj.mapSeq f),toks:=t' }:=by
 have q:=PySem.IsL.update e f
 rw[hf]at q
 refine I.write (x:=l) (e:=l) (by rw[hH];exact trivial) (.inl rfl) (fun b' u hb hu=>(Heap.get?_update_other s.heap (Obj.mapSeq f) (Ne.symm hb)).trans hu) ⟨_,q⟩ ?_
 exact⟨hz,its',_,hv,q⟩
theorem Inv.lnew{its:List Value}{t':Nat}(I:Inv X pins σ H s)(hv:Vals ys its)(hz:ys.length<=sizeLine):
 Inv X pins σ (upd H s.heap.objs.size (.lst ys)) { s with heap:=s.heap.push { cls:=.type "list",data:=.seq its.toArray },toks:=t' }:=
 I.laid (fun _ _ q=>Heap.get?_push_of_some _ q) (Nat.le_refl _) ⟨hz,its,0,hv,Heap.get?_push_size _ rfl⟩
theorem Inv.fresh(I:Inv X pins σ H s):H s.heap.objs.size=none:=I.hok.fresh (Nat.le_refl _)
theorem Inv.lstM(I:Inv X pins σ H s)(hH:H l=some (.lst xs)):xs.length<=sizeLine/\∃(its:List Value)(n:Nat),Vals xs its/\xs.length=its.length/\s.heap.get? l=some { cls:=.type "list",data:=.seq its.toArray n }:=by
 obtain⟨z,its,n,r,e⟩:=I.hok l _ hH
 exact⟨z,its,n,r,r.length,e⟩
end
section
variable{X:Cx}
def QRB:V->List V->Hp->VK->Prop:=fun x vs H Q=>∃ l xs y,x=.ref l/\vs=[y]/\H l=some (.lst xs)/\xs.length<sizeLine/\Q .non (upd H l (.lst (xs++[y])))
theorem QCL:MtM X "list.append" QRB:=by
 intro pins s σ H x vs v us Q I rx rv h
 obtain⟨l,xs,y,rfl,rfl,hH,hz,q⟩:=h
 cases rx
 obtain⟨u,rfl,ru⟩:=rv.one
 obtain⟨z,its,n,r,hl,e⟩:=I.lstM hH
 refine call_meets F.slot_list_append ⟨_,e,rfl⟩ F.entry_list_append (F.args_list_append_2 _ _) (PySem.list_append l its.toArray n u (by rw[List.size_toArray];omega)) ⟨e,?_⟩
 refine⟨.non,_,I.lset (its':=its++[u]) hH e (by simp) (r.append (.cons ru .nil)) ?_,rfl,q⟩
 rw[List.length_append,List.length_singleton]
 omega
end
section
variable{prog:Program}{w:World}{A:Around}{E:Value->Shared->Prop}{s:Shared}
end
section
variable{X:Cx}
end
end L2
namespace Att
open PySem PySem.W PySem.Calls PyProof.Rows
theorem Qzo{P:Params}{h:Heap}:∀(ns:List Int)(vs:List Value),WellAll P h vs (ns.map WData.int)->IntsAre vs ns:=by
 intro ns
 induction ns with
 | nil=>
  intro vs w
  rw[List.map_nil]at w
  cases w
  exact .nil
 | cons n ns ih=>
  intro vs w
  rw[List.map_cons]at w
  cases w with
  | cons a b=>
   cases a
   exact .cons _ _ (ih _ b)
theorem script_of{l:OpenLaw}{n:Nat}(hn:l.most=some n){P:Params}{h:Heap}{args:List WData}{vals:List Value}
 (hpre:l.row.toRowW.claim.pre args=true) (hwl:WellAll P h vals args):
 ∃ a vs ns,vals=[Value.ref a]/\args=[WData.list (ns.map WData.int)]/\h.get? a=some { cls:=.type "list",data:=.seq vs.toArray }/\IntsAre vs ns/\ns.length<=n:=by
 have hsh:WShape.hasAll [] args [.list .int]=true:=(pre_splitW hpre).1
 have hc:l.pre.holds [] { args:=args }=true:=(pre_splitW hpre).2
 obtain⟨d,r,rfl,h1,h2⟩:=hasAllW_cons hsh
 obtain rfl:=hasAllW_nil h2
 obtain⟨xs,rfl,h3⟩:=hasW_list h1
 obtain⟨ns,rfl⟩:=items_int h3
 have hlen:ns.length<=n:=by
  unfold OpenLaw.pre at hc
  have h4:(WTm.not (.lt (.lit (.int (n:Int))) (.len (.arg 0)))).holds [] { args:=[.list (ns.map .int)] }=true:=by
   have h4:=(holds_andW hc).1
   rw[hn]at h4
   exact h4
  have h5:=condW_of h4 (w_not (w_lt w_lit (w_len_list (w_arg rfl))))
  rw[List.length_map]at h5
  refine Nat.le_of_not_lt fun q=>?_
  have q':(n:Int)<((ns.length:Nat):Int):=by omega
  first
   | (rw[decide_eq_true q']at h5;exact absurd h5 (by decide))
   | (simp at h5;omega)
 cases hwl with
 | cons w1 w2=>
  cases w2
  cases w1 with
  | list ho hall=>exact⟨_,_,ns,rfl,rfl,ho,Qzo ns _ hall,hlen⟩
theorem post_true(l:OpenLaw)(args:List WData):l.row.toRowW.claim.post args (.bool true) args=true:=
 postW_of (r:=l.row.toRowW) (X:=(true == true))
  (show WShape.has [] (.bool true) .bool=true by first | rfl | decide | simp[WShape.has,WShape.arms,WShape.armsAll])
  (show(WTm.eq .res (.lit (.bool true))).value [] { args:=args,res:=some (.bool true),after:=args }=some (.bool (true == true)) from w_eq_bool (w_res rfl) w_lit) rfl
section
variable{prog:Program}{w:World}{A:Around}{E:Value->Shared->Prop}{s:Shared}{K:Frag}
end
end Att
namespace L2
open PySem PySem.Spec PyProof.Rows
theorem QDc:∀{vs:List Value}{ns:List Int},IntsAre vs ns->Vals (ns.map V.int) vs
 | _,_,.nil=>.nil
 | _,_,.cons n t h=>.cons ⟨t,rfl⟩ (QDc h)
def Only(H:Hp):Prop:=∀ b,H b=none∨∃ o xs,H b=some (.frz o (.lst xs))
theorem QPV{P:Program}{w:World}{K:PySem.W.Frag}{mg mb:Str->Option Value}{CX:CXT}{k:Nat}{fa a:Addr}{fd:FuncData}{x:Str}{sp:Sp}{s₁:Shared}{vs:List Value}{ns:List Int}
 (KX:K.In s₁.heap) (hns:s₁.heap.Ns mainGlobals mg) (hb:s₁.heap.Ns builtinsNs mb) (hbb:∀ x:Str,x≠"__name__"->mb x=bootBuiltins x) (hlim:s₁.heap.NoLimit) (hg:s₁.gens = #[])
 (ha:s₁.heap.get? a=some { cls:=.type "list",data:=.seq vs.toArray }) (hi:IntsAre vs ns) (hl:ns.length<=sizeLine) (hr:Room k callerA)
 (F:∀ base:Heap,K.In base->base.Ns mainGlobals mg->FnOk P w K mg base CX k fa fd [x] sp) (hbind:∀(s:Shared)(u:Value),BindsTo s fd ⟨[u],[]⟩ [(x,u)])
 (hsp:∀ H:Hp,Only H->SqL K H a (ns.map V.int)->sp [.ref a] H (fun v _=>v=.bl true) fun _ _ _=>False)
 (hCX:∀ H e s',CX [] H s₁ (fun _ _ _=>False) e s'->False):
 codeAny (model P w) callerA (.call (.ref fa) ⟨[.ref a],[]⟩) (fun r s'=>r=.ok (.ret (.bool true))/\OldK s₁.heap s'.heap/\s'.os=s₁.os/\AllBare s'.gens) s₁:=by
 have rv:=QDc hi
 have lenV:=hi.length
 -- from an abstract heap in which nothing but the script may be tracked
 have core:∀ H:Hp,Only H->SqL K H a (ns.map V.int)->HOk P w H s₁.heap->(∀ b,H b≠none->b=a)->(H a≠none->K.lookup a=none)->
  codeAny (model P w) callerA (.call (.ref fa) ⟨[.ref a],[]⟩) (fun r s'=>r=.ok (.ret (.bool true))/\OldK s₁.heap s'.heap/\s'.os=s₁.os/\AllBare s'.gens) s₁:=by
  intro H hO hS hok hA hK
  have base_of:∀{b:Addr}{o:Obj},s₁.heap.get? b=some o->H b=none->(hidT s₁.heap H).get? b=some o:=fun e n=>QQg e n
  have noA:∀{b:Addr}{o:Obj}{es:Array DictEntry}{ep:Nat},s₁.heap.get? b=some o->o.data=.dict es ep->H b=none:=fun {b o es ep} e d=>by
   cases q:H b with
   | none=>rfl
   | some u=>
    have e':b=a:=hA b (by rw[q];simp)
    subst e'
    rw[ha]at e;cases e
    have d':Data.seq vs.toArray _=Data.dict es ep:=d
    cases d'
  have nsK:∀{b:Addr}{m:Str->Option Value},s₁.heap.Ns b m->(hidT s₁.heap H).Ns b m:=fun {b m} ⟨o,es,ep,e,d,r⟩=>⟨o,es,ep,base_of e (noA e d),d,r⟩
  have hKb:K.In (hidT s₁.heap H):=fun b o e=>base_of (KX b o e) (by
   cases q:H b with
   | none=>rfl
   | some u=>
    have e':b=a:=hA b (by rw[q];simp)
    subst e'
    rw[hK (by rw[q];simp)]at e;cases e)
  have hM:Mod K mg (hidT s₁.heap H):=⟨hKb,nsK hns,⟨mb,nsK hb,hbb⟩,let ⟨mc,h1,h2⟩:=hlim;⟨mc,nsK h1,h2⟩⟩
  have e0:Env0 P w K mg (hidT s₁.heap H) callerA [] s₁ H:=⟨rfl,hM,fun b o e=>QRh e,Nat.le_of_eq (QOE _ _),trivial,fun b hb=>absurd (show b∈([]:List Addr) from hb) (by simp),hok,.of_eq hg⟩
  refine codeAny_mono ((F _ hKb (nsK hns)).run callerA [] s₁ H ⟨[.ref a],[]⟩ [.ref a] [.ref a] _ _ hr e0 (hbind s₁ (.ref a)) (.cons rfl .nil) (hsp H hO hS)) fun r s' h=>?_
  cases r with
  | error e=>exact(hCX H e s' h).elim
  | ok fl=>
   cases fl with
   | next=>exact False.elim h
   | brk=>exact False.elim h
   | cont=>exact False.elim h
   | ret u=>
    obtain⟨v,H',os,bare,un,hok',r',q⟩:=h
    have q':v=.bl true:=q
    subst q'
    obtain rfl:u=Value.bool true:=r'
    refine⟨rfl,OldK.of_keep fun b o e=>?_,os,bare⟩
    cases q:H b with
    | none=>exact un.keep b o e q (by intro z;exact absurd (show b∈([]:List Addr) from z) (by simp)) (by simp)
    | some u=>
     rcases hO b with z | ⟨ob,xs,z⟩
     ·rw[q]at z;cases z
     ·have z2:=un.frzs b ob _ z
      obtain⟨e1,_⟩:=hok b _ z
      obtain⟨e2,_⟩:=hok' b _ z2
      rw[e]at e1;cases e1
      exact e2
 cases hk:K.lookup a with
 | some o=>
  -- the script is one of the module's own objects
  have e:=KX a o hk
  rw[ha]at e
  cases e
  refine core (fun _=>none) (fun _=>.inl rfl) (.inr ⟨_,vs.toArray,_,hk,rfl,rfl,rfl,by rw[List.size_toArray,lenV];exact hl,by simpa using rv⟩) (fun b u z=>by have z':(none:Option HO)=some u:=z;cases z') (fun b z=>absurd rfl z) fun z=>absurd rfl z
 | none=>
  refine core (fun b=>if b=a then some (.frz { cls:=.type "list",data:=.seq vs.toArray } (.lst (ns.map V.int))) else none) (fun b=>?_) (.inl (.inr ⟨{ cls:=.type "list",data:=.seq vs.toArray },if_pos rfl⟩)) (fun b u z=>?_) (fun b z=>?_) fun _=>hk
  ·by_cases hb:b=a
   ·exact .inr ⟨_,_,if_pos hb⟩
   ·exact .inl (if_neg hb)
  ·by_cases hb:b=a
   ·have z':=(if_pos hb).symm.trans z
    cases z'
    subst hb
    exact⟨ha,by rw[List.length_map];exact hl,vs,_,rv,ha⟩
   ·have z':=(if_neg hb).symm.trans z
    cases z'
  ·by_cases hb:b=a
   ·exact hb
   ·exact absurd (if_neg hb) z
end L2
namespace L2
open PySem PySem.Spec PyProof.Rows
end L2
namespace L2
open PySem PySem.Spec PyProof.Rows
def Qm(s:Stmt):Arguments:=match s with
 | .FunctionDef _ a _ _ _ _ _ _ _ _=>a
 | _=>{ posonlyargs:=[],args:=[],vararg:=none,kwonlyargs:=[],kw_defaults:=[],kwarg:=none,defaults:=[] }
def Qk(s:Stmt):List Stmt:=match s with
 | .FunctionDef _ _ b _ _ _ _ _ _ _=>b
 | _=>[]
def Qa(s:Stmt):Scope:=match s with
 | .FunctionDef _ _ _ _ _ _ sc _ _ _=>sc
 | _=>{ kind:=.function,names:=[],isGenerator:=false,isCoroutine:=false }
abbrev CX0:CXT:=fun _ _ _ _ _ _=>False
abbrev E0:XK:=fun _ _ _=>False
theorem pass0{X:Cx}:Qiz CX0 X E0:=fun _ _ _ _ _ _ _ h=>h.elim
structure Fun(K:PySem.W.Frag)(x qual:Str)(st:Stmt)(f:Addr)(fd:FuncData):Prop where
 ex:∃(oc:Value)(od:Option Addr)(kV doc pm:Value)(an:Option Addr)(cdv ct:Value)(osl:Array (Option Value)),
  fd=PySem.W.fnOf x qual (Qm st) (Qk st) (Qa st) .none kV doc pm an cdv ct/\K.lookup f=some ⟨oc,od,.func fd,osl⟩/\PySem.W.codeIn K cdv qual=true
 kp:PySem.W.keepIn K (.ref f)=true
section
variable{P:Program}{w:World}{K:PySem.W.Frag}{mg:Str->Option Value}{base:Heap}
theorem Fun.ok{x qual:Str}{st:Stmt}{f:Addr}{fd:FuncData}{N ps:List Str}{k:Nat}{sp:Sp}(F:Fun K x qual st f fd)(S:Qo N ps (Qa st))(len:∀ vs H Q E,sp vs H Q E->vs.length=ps.length)
 (hbody:∀(cdv:Value)(A:Around)(outer:List Env)(s:Shared)(H:Hp)(vs:List V)(Q:VK)(E:XK),Room k (A.deeper (envOfC qual (Qa st) s.heap.objs.size f cdv))->sp vs H Q E->
  ∃ t,PSs (cxOf CX0 P w K mg base N qual (Qa st) f cdv A outer s H E).nox (Qk st) t/\t { nx:=fun _ H'=>Q .non H',rt:=Q } (start N vs) H):FnOk P w K mg base CX0 (k+1) f fd ps sp:=by
 obtain⟨oc,od,kV,doc,pm,an,cdv,ct,osl,rfl,lk,hcd⟩:=F.ex
 refine fn_of lk hcd S len fun A outer s H vs Q E hr hsp=>?_
 obtain⟨t,h,q⟩:=hbody cdv A outer s H vs Q E hr hsp
 exact⟨t,h.nox,q⟩
end
section
variable{X:Cx}
end
theorem iteF{A B:Prop}(h:B):if false=true then A else B:=by
 rw[if_neg Bool.false_ne_true]
 exact h
theorem iteT{A B:Prop}(h:A):if true=true then A else B:=by
 rw[if_pos rfl]
 exact h
def Same(H H':Hp):Prop:=∀ b o,H b=some o->H' b=some o
theorem Same.refl(H:Hp):Same H H:=fun _ _ h=>h
theorem Same.trans{H H1 H2:Hp}(a:Same H H1)(b:Same H1 H2):Same H H2:=fun c o h=>b c o (a c o h)
theorem Same.free{H H':Hp}(e:Same H H'){l:Addr}(h:H' l=Option.none):H l=Option.none:=by
 cases q:H l with
 | none=>rfl
 | some o=>
  rw[e l o q]at h
  cases h
theorem Same.seq{K:PySem.W.Frag}{H H':Hp}{a:Addr}{xs:List V}(e:Same H H')(h:SqL K H a xs):SqL K H' a xs:=by
 rcases h with(h | ⟨o,h⟩) | h
 ·exact .inl (.inl (e _ _ h))
 ·exact .inl (.inr ⟨o,e _ _ h⟩)
 ·exact .inr h
end L2
namespace L2
open PySem PySem.Spec PyProof.Rows
section
variable{κ:Type}[DecidableEq κ]
def valV(kvs:List (κ×V))(k:κ):Option V:=(kvs.find? fun kv=>decide (kv.1=k)).map (·.2)
def putK(kvs:List (κ×V))(k:κ)(v:V):List (κ×V):=
 if (kvs.any fun kv=>decide (kv.1=k))=true then kvs.map (fun kv=>if kv.1=k then(kv.1,v) else kv) else kvs++[(k,v)]
theorem Qx5{p:κ×V}{r:List (κ×V)}{k:κ}(e:p.1=k):valV (p::r) k=some p.2:=by simp[valV,List.find?_cons,e]
theorem Qyb{p:κ×V}{r:List (κ×V)}{k:κ}(e:¬ p.1=k):valV (p::r) k=valV r k:=by simp[valV,List.find?_cons,e]
theorem QFD(k:κ):∀ kvs:List (κ×V),(kvs.any fun kv=>decide (kv.1=k))=(valV kvs k).isSome
 | []=>rfl
 | p::r=>by
  rw[List.any_cons]
  by_cases e:p.1=k
  ·simp only[Qx5 e,decide_eq_true e,Bool.true_or,Option.isSome_some]
  ·rw[Qyb e,decide_eq_false e,Bool.false_or];exact QFD k r
theorem Qwv(kvs:List (κ×V))(k:κ)(v:V):(putK kvs k v).length<=kvs.length+1:=by
 unfold putK
 split
 ·rw[List.length_map];omega
 ·rw[List.length_append,List.length_cons,List.length_nil];omega
theorem RelO.isSome_eq{o:Option V}{u:Option Value}(r:RelO o u):o.isSome=u.isSome:=by
 cases o with
 | none=>cases u with
  | none=>rfl
  | some _=>exact(show False from r).elim
 | some _=>cases u with
  | none=>exact(show False from r).elim
  | some _=>rfl
theorem RelO.getD{o:Option V}{u:Option Value}{d:V}{d':Value}(r:RelO o u)(rd:RelV d d'):RelV (o.getD d) (u.getD d'):=by
 cases o with
 | none=>cases u with
  | none=>exact rd
  | some _=>exact(show False from r).elim
 | some _=>cases u with
  | none=>exact(show False from r).elim
  | some _=>exact r
theorem KV.val{kvs:List (κ×V)}{vs:List (κ×Value)}(r:KV kvs vs)(k:κ):RelO (valV kvs k) (valueAt vs k):=by
 unfold KV at r
 induction r with
 | nil=>exact True.intro
 | @cons p q ps qs h t ih=>
  obtain⟨h1,h2⟩:=h
  by_cases e:p.1=k
  ·have e':q.1=k:=h1.symm.trans e
   have b:valueAt (q::qs) k=some q.2:=by simp[valueAt,List.find?_cons,e']
   rw[Qx5 e,b];exact h2
  ·have e':¬ q.1=k:=fun z=>e (h1.trans z)
   have b:valueAt (q::qs) k=valueAt qs k:=by simp[valueAt,List.find?_cons,e']
   rw[Qyb e,b];exact ih
theorem KV.any{kvs:List (κ×V)}{vs:List (κ×Value)}(r:KV kvs vs)(k:κ):(kvs.any fun kv=>decide (kv.1=k))=vs.any fun kv=>decide (kv.1=k):=by
 unfold KV at r
 induction r with
 | nil=>rfl
 | cons h t ih=>rw[List.any_cons,List.any_cons,ih,h.1]
theorem KV.repl{kvs:List (κ×V)}{vs:List (κ×Value)}(r:KV kvs vs)(k:κ){y:V}{u:Value}(ry:RelV y u):
 KV (kvs.map fun kv=>if kv.1=k then(kv.1,y) else kv) (vs.map fun kv=>if kv.1=k then(kv.1,u) else kv):=by
 unfold KV at r ⊢
 induction r with
 | nil=>exact .nil
 | @cons p q ps qs h t ih=>
  rw[List.map_cons,List.map_cons]
  refine .cons ?_ ih
  obtain⟨h1,h2⟩:=h
  by_cases e:p.1=k
  ·rw[if_pos e,if_pos (h1.symm.trans e)];exact⟨h1,ry⟩
  ·rw[if_neg e,if_neg (fun z=>e (h1.trans z))];exact⟨h1,h2⟩
theorem KV.put{kvs:List (κ×V)}{vs:List (κ×Value)}(r:KV kvs vs)(k:κ){y:V}{u:Value}(ry:RelV y u):KV (putK kvs k y) (stored vs k u):=by
 unfold putK stored
 rw[r.any k]
 by_cases e:(vs.any fun kv=>decide (kv.1=k))=true
 ·rw[if_pos e,if_pos e];exact r.repl k ry
 ·rw[if_neg e,if_neg e];exact Paired.snoc r ⟨rfl,ry⟩
theorem KV.length{kvs:List (κ×V)}{vs:List (κ×Value)}(r:KV kvs vs):kvs.length=vs.length:=Paired.length r
end
theorem kV_is{P:Program}{w:World}{k:Key}{u:Value}(r:RelV (kV k) u):(QcC P w).is k u=true:=by
 cases k with
 | inl i=>obtain⟨t,e⟩:=(show ∃ t,u=Value.int i t from r);subst e;exact QIB P w i t
 | inr x=>obtain⟨t,e⟩:=(show ∃ t,u=Value.str x t from r);subst e;exact QI9 P w x t
theorem QC6{P:Program}{w:World}:∀{ks:List Key}{us:List Value},Vals (ks.map kV) us->ItemsAre (QcC P w) ks us
 | [],_,r=>by rw[List.map_nil]at r;cases r;exact .nil
 | k::ks,_,r=>by
  rw[List.map_cons]at r
  cases r with
  | cons h t=>exact .cons (kV_is h) (QC6 t)
abbrev KT(H:Hp):List (List Key×V)->List (List Key×Addr×Value)->Prop:=Paired fun p q=>p.1=q.1/\H q.2.1=some (.tup (p.1.map kV))/\RelV p.2 q.2.2
theorem KT.val{H:Hp}{kvs:List (List Key×V)}{xs:List (List Key×Addr×Value)}(r:KT H kvs xs)(k:List Key):RelO (valV kvs k) ((atKey xs k).map (·.2)):=by
 induction r with
 | nil=>exact True.intro
 | @cons p q ps qs h t ih=>
  obtain⟨h1,_,h2⟩:=h
  by_cases e:p.1=k
  ·have e':q.1=k:=h1.symm.trans e
   have b:atKey (q::qs) k=some q.2:=by simp[atKey,List.find?_cons,e']
   rw[Qx5 e,b];exact h2
  ·have e':¬ q.1=k:=fun z=>e (h1.trans z)
   have b:atKey (q::qs) k=atKey qs k:=by simp[atKey,List.find?_cons,e']
   rw[Qyb e,b];exact ih
theorem KT.repl{H:Hp}{kvs:List (List Key×V)}{xs:List (List Key×Addr×Value)}(r:KT H kvs xs)(k:List Key){y:V}{u:Value}(ry:RelV y u):
 KT H (kvs.map fun kv=>if kv.1=k then(kv.1,y) else kv) (xs.map (putAt k u)):=by
 induction r with
 | nil=>exact .nil
 | @cons p q ps qs h t ih=>
  rw[List.map_cons,List.map_cons]
  refine .cons ?_ ih
  obtain⟨h1,h2,h3⟩:=h
  unfold putAt
  by_cases e:p.1=k
  ·rw[if_pos e,if_pos (h1.symm.trans e)];exact⟨h1,h2,ry⟩
  ·rw[if_neg e,if_neg (fun z=>e (h1.trans z))];exact⟨h1,h2,h3⟩
theorem KT.put{H:Hp}{kvs:List (List Key×V)}{xs:List (List Key×Addr×Value)}(r:KT H kvs xs)(k:List Key){b:Addr}{y:V}{u:Value}(hb:H b=some (.tup (k.map kV)))(ry:RelV y u):
 KT H (putK kvs k y) (storedH xs k b u):=by
 have e:(kvs.any fun kv=>decide (kv.1=k))=(atKey xs k).isSome:=by
  rw[QFD,(r.val k).isSome_eq,Option.isSome_map]
 unfold putK storedH
 rw[e]
 by_cases q:(atKey xs k).isSome=true
 ·rw[if_pos q,if_pos q];exact r.repl k ry
 ·rw[if_neg q,if_neg q];exact Paired.snoc r ⟨rfl,hb,ry⟩
theorem KT.keeps{H H':Hp}{kvs:List (List Key×V)}{xs:List (List Key×Addr×Value)}(r:KT H kvs xs)(ht:∀ b ys,H b=some (.tup ys)->H' b=some (.tup ys)):KT H' kvs xs:=
 Paired.mapP r fun _ _ z=>⟨z.1,ht _ _ z.2.1,z.2.2⟩
section
variable{P:Program}{w:World}{H:Hp}{h:Heap}{a:Addr}
theorem rd_of{u:HO}(ok:HOk P w H h)(e:Rd H a u):ObjOk P w H h a u:=e.ok ok
theorem dk_rd{kvs:List (Key×V)}(ok:HOk P w H h)(e:Rd H a (.dK kvs)):kvs.length<=sizeLine/\(a == sysModules)=false/\∃ vs,KV kvs vs/\h.DictOf (QcC P w) a vs:=
 show ObjOk P w H h a (.dK kvs) from rd_of ok e
theorem dk_of{kvs:List (Key×V)}(ok:HOk P w H h)(e:H a=some (.dK kvs)):kvs.length<=sizeLine/\(a == sysModules)=false/\∃ vs,KV kvs vs/\h.DictOf (QcC P w) a vs:=dk_rd ok (.inl e)
theorem Qyq{ks:List Key}(ok:HOk P w H h)(e:H a=some (.tup (ks.map kV))):(tupleKind (QcC P w)).is h ks a:=by
 obtain⟨_,its,r,o,h1,h2,n,h3⟩:=(show ObjOk P w H h a (.tup (ks.map kV)) from ok a _ e)
 exact⟨o,its.toArray,n,h1,h2,h3,by simpa using QC6 r⟩
theorem dt_rd{kvs:List (List Key×V)}(ok:HOk P w H h)(e:Rd H a (.dT kvs)):kvs.length<=sizeLine/\(a == sysModules)=false/\
 ∃ xs,KT H kvs xs/\h.DictOfH (tupleKind (QcC P w)) a xs:=by
 obtain⟨z,y,xs,r,o,es,ep,h1,h2,h3,h4,h5⟩:=(show ObjOk P w H h a (.dT kvs) from rd_of ok e)
 refine⟨z,y,xs,r,o,es,ep,h1,h2,h3,h4,fun x hx=>?_,h5⟩
 have all:∀{l:List (List Key×V)}{m:List (List Key×Addr×Value)},KT H l m->∀ x∈m,(tupleKind (QcC P w)).is h x.1 x.2.1:=by
  intro l m q
  induction q with
  | nil=>intro x hx;exact nomatch hx
  | @cons p q ps qs hq t ih=>
   intro x hx
   rcases List.mem_cons.mp hx with e | hx
   ·subst e
    exact Qyq ok (by rw[← hq.1];exact hq.2.1)
   ·exact ih x hx
 exact all r x hx
theorem dt_of{kvs:List (List Key×V)}(ok:HOk P w H h)(e:H a=some (.dT kvs)):kvs.length<=sizeLine/\(a == sysModules)=false/\
 ∃ xs,KT H kvs xs/\h.DictOfH (tupleKind (QcC P w)) a xs:=dt_rd ok (.inl e)
end
def DGet(H:Hp)(a:Addr)(y:V)(r:Option V):Prop:=
 (∃ kvs k,Rd H a (.dK kvs)/\y=kV k/\r=valV kvs k)∨∃ kvs k b,Rd H a (.dT kvs)/\y=.ref b/\H b=some (.tup (k.map kV))/\r=valV kvs k
def DPut(H:Hp)(a:Addr)(y v:V)(H':Hp):Prop:=
 (∃ kvs k,H a=some (.dK kvs)/\y=kV k/\kvs.length<sizeLine/\H'=upd H a (.dK (putK kvs k v)))∨
 ∃ kvs k b,H a=some (.dT kvs)/\y=.ref b/\H b=some (.tup (k.map kV))/\kvs.length<sizeLine/\H'=upd H a (.dT (putK kvs k v))
theorem DGet.k{H:Hp}{a:Addr}{kvs:List (Key×V)}{k:Key}(e:H a=some (.dK kvs)):DGet H a (kV k) (valV kvs k):=.inl ⟨kvs,k,.inl e,rfl,rfl⟩
theorem DGet.t{H:Hp}{a b:Addr}{kvs:List (List Key×V)}{k:List Key}(e:H a=some (.dT kvs))(eb:H b=some (.tup (k.map kV))):DGet H a (.ref b) (valV kvs k):=.inr ⟨kvs,k,b,.inl e,rfl,eb,rfl⟩
theorem DPut.k{H:Hp}{a:Addr}{kvs:List (Key×V)}{k:Key}{v:V}(e:H a=some (.dK kvs))(hl:kvs.length<sizeLine):DPut H a (kV k) v (upd H a (.dK (putK kvs k v))):=.inl ⟨kvs,k,e,rfl,hl,rfl⟩
theorem DPut.t{H:Hp}{a b:Addr}{kvs:List (List Key×V)}{k:List Key}{v:V}(e:H a=some (.dT kvs))(eb:H b=some (.tup (k.map kV)))(hl:kvs.length<sizeLine):
 DPut H a (.ref b) v (upd H a (.dT (putK kvs k v))):=.inr ⟨kvs,k,b,e,rfl,eb,hl,rfl⟩
section
variable{X:Cx}{pins:List (Addr×Obj)}{σ:St}{H:Hp}{s:Shared}{a:Addr}{y v:V}{u r:Value}{o:Option V}{A:Around}{E:Value->Shared->Prop}
theorem QPx{Q:Value->Shared->Prop}(hu:A.units+1<cLine)(I:Inv X pins σ H s)(g:DGet H a y (some v))(ry:RelV y u)(h:∀ w' s',Inv X pins σ H s'->RelV v w'->Q w' s'):
 wpAny (model X.prog X.w) A (getItem (.ref a) u) Q E s:=by
 rcases g with⟨kvs,k,e,ey,l⟩ | ⟨kvs,k,b,e,ey,eb,l⟩
 ·subst ey
  obtain⟨z,hd,vs,rel,dd⟩:=dk_rd I.hok e
  obtain⟨w',hw,rw'⟩:=RelO.some_of (v:=v) (o:=valueAt vs k) (by rw[l];exact rel.val k)
  exact wpAny_getItem_of (kV_is ry) dd.mapOf hw (h w' _ (I.tok _) rw')
 ·subst ey
  cases (show u=Value.ref b from ry)
  obtain⟨z,hd,xs,rel,dd⟩:=dt_rd I.hok e
  obtain⟨w',hw,rw'⟩:=RelO.some_of (v:=v) (o:=(atKey xs k).map (·.2)) (by rw[l];exact rel.val k)
  obtain⟨p,hp,hp2⟩:=Option.map_eq_some_iff.mp hw
  refine wpAny_getItem_heap (tupleKind_room_in1 hu) (Qyq I.hok eb) dd hp ?_
  rw[hp2]
  exact h w' _ (I.tok _) rw'
theorem QK4{h':Heap}{t':Nat}{ob:HO}(I:Inv X pins σ H s)(mu:Mut (H a))(hs:Heap.SameBut a s.heap h')(he:∃ q,h'.get? a=some q)(new:ObjOk X.prog X.w (upd H a ob) h' a ob):
 Inv X pins σ (upd H a ob) { s with heap:=h',toks:=t' }:=
 I.write (x:=a) (e:=a) mu (.inl rfl) (fun b q hb z=>(hs.2 b hb).trans z) he new
theorem QS5{P:Program}{w:World}{H':Hp}{h':Heap}{kvs:List (Key×V)}{vs:List (Key×Value)}(z:kvs.length<=sizeLine)(hd:(a == sysModules)=false)(rel:KV kvs vs)(dd:h'.DictOf (QcC P w) a vs):
 ObjOk P w H' h' a (.dK kvs):=⟨z,hd,vs,rel,dd⟩
theorem QOx{H':Hp}{Q:Unit->Shared->Prop}(hu:A.units+1<cLine)(I:Inv X pins σ H s)(g:DPut H a y v H')(ry:RelV y u)(rv:RelV v r)(h:∀ s',Inv X pins σ H' s'->Q () s'):
 wpAny (model X.prog X.w) A (setItem (.ref a) u r) Q E s:=by
 rcases g with⟨kvs,k,e,ey,l,eH⟩ | ⟨kvs,k,b,e,ey,eb,l,eH⟩
 ·subst ey eH
  obtain⟨z,hd,vs,rel,dd⟩:=dk_of I.hok e
  have hz:vs.length<=sizeLine:=by rw[← rel.length];exact z
  have hl:(putK kvs k v).length<=sizeLine:=by have:=Qwv kvs k v;omega
  refine wpAny_setItem_pairs (hsz:=hz) (kV_is ry) dd fun h' dd' hs=>h _ ?_
  have he:∃ q,h'.get? a=some q:=let ⟨q,_,_,hq,_⟩:=dd';⟨q,hq⟩
  exact QK4 I (by rw[e];exact True.intro) hs he (QS5 hl hd (rel.put k rv) dd')
 ·subst ey eH
  cases (show u=Value.ref b from ry)
  obtain⟨z,hd,xs,rel,dd⟩:=dt_of I.hok e
  have hz:xs.length<=sizeLine:=by rw[← Paired.length rel];exact z
  have hl:(putK kvs k v).length<=sizeLine:=by have:=Qwv kvs k v;omega
  refine wpAny_setItem_heap (hsz:=hz) (tupleKind_room_in1 hu) (Qyq I.hok eb) dd fun h' dd' hs=>h _ ?_
  obtain⟨q,es,ep,hq,h2,h3,h4,_,h5⟩:=dd'
  refine QK4 I (by rw[e];exact True.intro) hs ⟨q,hq⟩ ⟨hl,hd,_,(rel.put k eb rv).keeps fun c ys ec=>?_,q,es,ep,hq,h2,h3,h4,h5⟩
  rw[Ql (ne_of ec e (fun z=>nomatch z))]
  exact ec
end
section
variable{X:Cx}{pins:List (Addr×Obj)}{σ:St}{H:Hp}{s:Shared}{a:Addr}{kvs:List (Key×V)}{k:Key}{u:Value}{A:Around}{E:Value->Shared->Prop}
end
def NoSl(i:Expr):Prop:=∀ ov iv,subscripted i false ov iv=operate [ov,iv] (getItem ov iv)
theorem QRx{prog:Program}{w:World}{A:Around}{E:Value->Shared->Prop}{s:Shared}{env:Env}{value slice:Expr}{pos:Pos}{T id:String}{Q:Value->Shared->Prop}
 (hl:typeLookup (.type T) "__getitem__"=pure (some (.builtin id))) (hs:NoSl slice)
 (h:wpAny (model prog w) A (eval value env) (fun o s₁=>wpAny (model prog w) A (eval slice env) (fun i s₂ => s₂.TypeIs o T/\wpAny (model prog w) A (getItem o i) Q E s₂) E s₁) E s):
 wpAny (model prog w) A (eval (.Subscript value slice pos) env) Q E s:=by
 refine Subscript_ (wpAny_mono h (fun o s₁ h₁=>wpAny_mono h₁ (fun i s₂ h₂ => ?_) fun _ _ x=>x) fun _ _ x=>x)
 obtain⟨hT,h₂⟩:=h₂
 unfold subscriptTail
 refine wpAny_bind ?_
 rw[getitemInPython_of_ne hT.not_modules]
 refine wpAny_bind (wpAny_specialOf hT hl ?_)
 have fin:wpAny (model prog w) A (subscripted slice false o i) (fun r s₃ => wpAny (model prog w) A (letTemporaryGo value o r>>=fun _=>pure r) Q E s₃) E s₂ := by
  rw[hs o i]
  exact wpAny_operating (wpAny_mono h₂ (fun r s₃ h₃ => wpAny_bind (wpAny_letTemporaryGo (wpAny_pure h₃))) fun _ _ x=>x)
 first
  | exact wpAny_pure (wpAny_bind fin)
  | exact wpAny_bind (wpAny_pure (wpAny_bind fin))
  | exact wpAny_bind fin
theorem QJK{X:Cx}{pins:List (Addr×Obj)}{σ:St}{H:Hp}{s:Shared}{a:Addr}{y:V}{o:Option V}(I:Inv X pins σ H s)(g:DGet H a y o):s.TypeIs (.ref a) "dict":=by
 rcases g with⟨kvs,k,e,_,_⟩ | ⟨kvs,k,b,e,_,_,_⟩
 ·obtain⟨_,_,vs,_,dd⟩:=dk_rd I.hok e
  exact dd.typeIs
 ·obtain⟨_,_,xs,_,dd⟩:=dt_rd I.hok e
  exact dd.typeIs
def tDGet(td ty:TE):TE:=fun σ H Q=>td σ H fun x H1=>ty σ H1 fun y H2=>∃ a v,x=.ref a/\DGet H2 a y (some v)/\Q v H2
def sDPut(td ty tv:TE):TS:=fun D σ H=>tv σ H fun v H1=>td σ H1 fun x H2=>ty σ H2 fun y H3=>∃ a H4,x=.ref a/\DPut H3 a y v H4/\D.nx σ H4
section
variable{X:Cx}{o i e value:Expr}{pos pos' tpos:Pos}{td ty tv:TE}
theorem QRM(hu:X.A.units+1<cLine)(ho:PE X o td)(hi:PE X i ty)(hs:NoSl i):PE X (.Subscript o i pos) (tDGet td ty):=by
 intro pins s σ H Q I h
 refine QRx PySem.F.slot_dict_getitem.lookup hs (thn (ho pins s σ H _ I h) fun u s1 ⟨x,H1,I1,rx,q1⟩=>thn (hi pins s1 σ H1 _ I1 q1) fun iv s2 ⟨y,H2,I2,ry,a,v,ex,g,q2⟩=>?_)
 subst ex
 obtain rfl:u=Value.ref a:=rx
 exact⟨QJK I2 g,QPx hu I2 g ry fun w' s3 I3 rw'=>⟨v,H2,I3,rw',q2⟩⟩
theorem QQ3(hu:X.A.units+1<cLine)(ho:PE X o td)(hi:PE X i ty)(hv:PE X value tv)(hs:swapsWith value (some (.Subscript o i pos')) pos.line X.env=pure false):
 PS X (.Assign [.Subscript o i pos'] value pos) (sDPut td ty tv):=by
 intro pins s σ H D I h
 refine wpAny_Assign_Subscript (thn (hv pins s σ H _ I h) fun r s1 ⟨v,H1,I1,rv,q1⟩=>thn (ho pins s1 σ H1 _ I1 q1) fun u s2 ⟨x,H2,I2,rx,q2⟩=>thn (hi pins s2 σ H2 _ I2 q2) fun iv s3 ⟨y,H3,I3,ry,a,H4,ex,g,q3⟩=>?_) hs
 subst ex
 obtain rfl:u=Value.ref a:=rx
 exact QOx hu I3 g ry rv fun s4 I4=>⟨σ,H4,I4,q3⟩
end
section
variable{X:Cx}{pos:Pos}
end
structure M1(X:Cx)(o:Expr)(m:Str)(apos:Pos)(e:Expr)(cpos:Pos):Prop where
 base:attributeBase o m X.env (eval o X.env)=eval o X.env
 few:((backTo cpos (starEach [e] X.env)).all (fun x => !x.1)&&(backToKw cpos (keywordEach [] X.env)).all (fun x=>x.1.isSome)
  && decide (([e]:List Expr).length+([]:List Keyword).length+(if ([]:List Keyword).isEmpty then 0 else 1)<30))=true
 line:(apos.endLine == cpos.line)=true
 trees:backTo cpos (starEach [e] X.env)=[(false,eval e X.env)]
structure M2(X:Cx)(o:Expr)(m:Str)(apos:Pos)(e f:Expr)(cpos:Pos):Prop where
 base:attributeBase o m X.env (eval o X.env)=eval o X.env
 few:((backTo cpos (starEach [e,f] X.env)).all (fun x => !x.1)&&(backToKw cpos (keywordEach [] X.env)).all (fun x=>x.1.isSome)
  && decide (([e,f]:List Expr).length+([]:List Keyword).length+(if ([]:List Keyword).isEmpty then 0 else 1)<30))=true
 line:(apos.endLine == cpos.line)=true
 trees:backTo cpos (starEach [e,f] X.env)=[(false,eval e X.env),(false,eval f X.env)]
def IsD(H:Hp)(a:Addr):Prop:=(∃ kvs,Rd H a (.dK kvs))∨∃ kvs,Rd H a (.dT kvs)
theorem QT8{X:Cx}{pins:List (Addr×Obj)}{σ:St}{H:Hp}{s:Shared}{a:Addr}(I:Inv X pins σ H s)(d:IsD H a):
 s.TypeIs (.ref a) "dict"/\(∀ b,Value.ref a=.ref b->∃ ob,s.heap.get? b=some ob/\ob.dict=none)/\(a == sysModules)=false:=by
 rcases d with⟨kvs,e⟩ | ⟨kvs,e⟩
 ·obtain⟨_,hd,vs,_,dd⟩:=dk_rd I.hok e
  refine⟨dd.typeIs,fun b q=>?_,hd⟩
  cases q
  obtain⟨ob,_,_,h1,h2,_⟩:=dd
  exact⟨ob,h1,h2.2.1⟩
 ·obtain⟨_,hd,xs,_,dd⟩:=dt_rd I.hok e
  refine⟨dd.typeIs,fun b q=>?_,hd⟩
  cases q
  obtain⟨ob,_,_,h1,h2,_⟩:=dd
  exact⟨ob,h1,h2.2.1⟩
section
variable{X:Cx}{pins:List (Addr×Obj)}{σ:St}{H:Hp}{s:Shared}{a:Addr}{y d:V}{u r:Value}{o:Option V}{A:Around}{E:Value->Shared->Prop}
theorem QUl{Q:Value->Shared->Prop}(hu:A.units+1<cLine)(I:Inv X pins σ H s)(g:DGet H a y o)(ry:RelV y u)(h:∀ w' s',Inv X pins σ H s'->RelV (o.getD .non) w'->Q w' s'):
 wpAny (model X.prog X.w) A (call (.builtin "dict.get") [.ref a,u]) Q E s:=by
 rcases g with⟨kvs,k,e,ey,l⟩ | ⟨kvs,k,b,e,ey,eb,l⟩
 ·subst ey
  obtain⟨z,hd,vs,rel,dd⟩:=dk_rd I.hok e
  refine call_meetsIn PySem.F.slot_dict_get dd.typeIs PySem.F.entry_dict_get (PySem.F.args_dict_get_2 _ _) (meets_dict_get (QcC X.prog X.w) a (kV_is ry) hd) ⟨_,dd.mapOf,h _ _ (I.tok _) ?_⟩
  rw[l]
  exact(rel.val k).getD rfl
 ·subst ey
  cases (show u=Value.ref b from ry)
  obtain⟨z,hd,xs,rel,dd⟩:=dt_rd I.hok e
  refine call_meetsIn PySem.F.slot_dict_get dd.typeIs PySem.F.entry_dict_get (PySem.F.args_dict_get_2 _ _) (meetsH_dict_get (tupleKind (QcC X.prog X.w)) a b hd) ⟨tupleKind_room_in1 hu,k,xs,Qyq I.hok eb,dd,h _ _ (I.tok _) ?_⟩
  rw[l]
  exact(rel.val k).getD rfl
end
def QT5(td ty:TE):TE:=fun σ H Q=>td σ H fun x H1=>∃ a,x=.ref a/\IsD H1 a/\ty σ H1 fun y H2=>∃ o,DGet H2 a y o/\Q (o.getD .non) H2
section
variable{X:Cx}{o e f:Expr}{apos cpos:Pos}{td ty tx:TE}
theorem QQP(hu:X.A.units+1<cLine)(ho:PE X o td)(he:PE X e ty)(m:M1 X o "get" apos e cpos):PE X (.Call (.Attribute o "get" apos) [e] [] cpos) (QT5 td ty):=by
 intro pins s σ H Q I h
 refine wpAny_Call_method m.base m.few m.line PySem.F.plainAttrs_dict PySem.F.slot_dict_get PySem.F.type_dict_get (thn (ho pins s σ H _ I h) fun u s1 ⟨x,H1,I1,rx,a,ex,d,q1⟩=>?_)
 subst ex
 obtain rfl:u=Value.ref a:=rx
 obtain⟨t1,t2,_⟩:=QT8 I1 d
 refine⟨t1,t2,?_⟩
 rw[m.trees]
 refine Calls.callWith_builtin rfl (Calls.evalArgs_plain (Calls.spliced_cons (thn (he pins s1 σ H1 _ I1 q1) fun iv s2 ⟨y,H2,I2,ry,ov,g,q2⟩=>Calls.spliced_nil ?_)))
 exact QUl hu I2 g ry fun w' s3 I3 rw'=>⟨_,H2,I3,rw',q2⟩
end
section
variable{X:Cx}{pins:List (Addr×Obj)}{σ:St}{H:Hp}{s:Shared}{a:Addr}{kvs:List (Key×V)}{A:Around}{E:Value->Shared->Prop}
end
section
variable{X:Cx}{pins:List (Addr×Obj)}{σ:St}{H:Hp}{s:Shared}{a:Addr}{y:V}{u:Value}{A:Around}{E:Value->Shared->Prop}
end
end L2
namespace L2
open PySem PySem.Spec PyProof.Rows
structure FlyS(P:Program)(w:World)(l:List Env)(H:Hp)(s:Shared)(ea C t:Addr)(H':Hp)(B:Heap)(s':Shared):Prop where
 os:s'.os=s.os
 bare:AllBare s'.gens
 un:Un (frs l) [] H H' s.heap s'.heap
 kb:∀ b o,s.heap.get? b=some o->H b=none->b∉frs l->B.get? b=some o
 th:∀ b o,s.heap.get? b=some o->b∉frs l->∃ o',B.get? b=some o'
 hok:HOk P w H' B
 fly:Heap.FlyingW B l ea (.ref C) (.ref t) s'.heap
def CXR(P:Program)(w:World):CXT:=fun l H s E e s'=>∃ ea C t H' B,e=.ref ea/\FlyS P w l H s ea C t H' B s'/\E (.ref C) none H'
section
variable{P:Program}{w:World}{l:List Env}{H H':Hp}{s s':Shared}{ea C t:Addr}{B h':Heap}
end
section
variable{X:Cx}{pins:List (Addr×Obj)}{σ:St}{H1:Hp}{s1:Shared}{E:XK}{ea C:Addr}{vs:List Value}{h':Heap}{Ex:Value->Shared->Prop}{M:Model}
theorem Qmh(I:Inv X pins σ H1 s1):∀ b o,X.s₀.heap.get? b=some o->b∉X.fs->b∉frs X.stack:=fun b o e hb z=>by
 rcases List.mem_cons.mp (I.stkSub b z) with q | q
 ·have:=Heap.lt_size e
  rw[q]at this
  exact absurd (Nat.lt_of_lt_of_le this I.ok.above) (Nat.lt_irrefl _)
 ·exact hb q
theorem QSq(I:Inv X pins σ H1 s1):HOk X.prog X.w H1 (PySem.W.hideAll s1.heap (frs X.stack)):=fun a o e=>
 (I.hok a o e).stay (fun b u hb q=>PySem.W.hideAll_get _ q fun z=>by
  have:=I.stkFree b z
  rcases hb with rfl | hb
  ·rw[this]at e;cases e
  ·rw[this]at hb;cases hb) (fun _ q=>q) fun _ _ q=>q
theorem QLw(I:Inv X pins σ H1 s1):∀ b∈X.fs,∀ o,X.s₀.heap.get? b=some o->∀ vs,o.data≠.fields vs:=fun b hb o e=>by
 obtain⟨_,o',h1,h2⟩:=I.ok.funs.mem hb
 rw[e]at h1;cases h1
 exact h2
theorem QNA(I:Inv X pins σ H1 s1)(hst:X.stack=X.env::X.outer)(hfr:X.env.frame=some X.env.locals)(hex:X.ex=[])(hx:Heap.MadeExcOf s1.heap h' ea (.ref C) vs)(hE:E (.ref C) none H1):
 wpAny M X.A (leaving X.env (.ref ea)) (fun _ s''=>CXR X.prog X.w X.outer X.H₀ X.s₀ E (.ref ea) s'') Ex { s1 with heap:=h' }:=by
 have hin:∀ env∈X.stack,∀ b,env.frame=some b->b∈frs X.stack:=fun env he b hb=>List.mem_filterMap.mpr ⟨env,he,hb⟩
 have st:=I.stack
 refine wpAny_leaves_madeW (base:=PySem.W.hideAll s1.heap (frs X.stack)) (h:=s1.heap) (env:=X.env) (outer:=X.outer) (by rw[← hst];exact I.ok.frames) hfr (fun b o q=>PySem.W.of_hideAll _ q)
  (by rw[← hst];exact PySem.W.funFrames_hide st hin) hx fun h2 t fl tp nt up=>?_
 have nx:∀ b:Addr,b∉X.ex:=fun b z=>by rw[hex]at z;cases z
 have kbB:∀ b o,X.s₀.heap.get? b=some o->X.H₀ b=none->b∉X.fs->(PySem.W.hideAll s1.heap (frs X.stack)).get? b=some o:=fun b o e n hb=>PySem.W.hideAll_get _ (I.base.keep b o e n hb (nx b)) (Qmh I b o e hb)
 have thB:∀ b o,X.s₀.heap.get? b=some o->b∉X.fs->∃ o',(PySem.W.hideAll s1.heap (frs X.stack)).get? b=some o':=fun b o e hb=>by
  obtain⟨o',q⟩:=I.base.there b o e (nx b)
  exact⟨o',PySem.W.hideAll_get _ q (Qmh I b o e hb)⟩
 have slot:∀ b o,X.s₀.heap.get? b=some o->X.H₀ b=none->b∈X.fs->∃ sl,h2.get? b=some { o with slots:=sl }:=fun b o e n hb=>by
  obtain⟨sl,q⟩:=I.base.slot b o e n hb (nx b)
  obtain⟨sl2,q2⟩:=up b _ (hx.keeps _ _ q) (QLw I b hb o e)
  exact⟨sl2,q2⟩
 refine⟨ea,C,t,H1,_,rfl,⟨I.os,I.bare,⟨fun b o e n hb _=>fl.1 b o (kbB b o e n hb),fun b o e n hb _=>slot b o e n hb,fun b o e n _=>I.base.free b o e n (nx b),fun b o e _=>?_,I.base.tups,I.base.frzs,I.base.tbls⟩,kbB,thB,QSq I,fl⟩,hE⟩
 by_cases hb:b∈X.fs
 ·obtain⟨sl,q⟩:=slot b o e (I.ok.frf b hb) hb
  exact⟨_,q⟩
 ·obtain⟨o',q⟩:=thB b o e hb
  exact⟨o',fl.1 b o' q⟩
theorem QQN{s':Shared}{e:Value}(I:Inv X pins σ H1 s1)(hst:X.stack=X.env::X.outer)(hfr:X.env.frame=some X.env.locals)(hex:X.ex=[])(h:CXR X.prog X.w X.stack H1 s1 E e s'):
 wpAny M X.A (leaving X.env e) (fun _ s''=>CXR X.prog X.w X.outer X.H₀ X.s₀ E e s'') Ex s':=by
 obtain⟨ea,C,t,H',B,rfl,F,hE⟩:=h
 have fl:=F.fly
 rw[hst]at fl
 refine wpAny_leaves_onW (by rw[← hst];exact I.ok.frames) hfr fl fun h2 fl2 up=>?_
 have nx:∀ b:Addr,b∉X.ex:=fun b z=>by rw[hex]at z;cases z
 have nn:∀ b:Addr,b∉([]:List Addr):=fun b z=>by cases z
 have kbB:∀ b o,X.s₀.heap.get? b=some o->X.H₀ b=none->b∉X.fs->B.get? b=some o:=fun b o e n hb=>
  F.kb b o (I.base.keep b o e n hb (nx b)) (I.base.free b o e n (nx b)) (Qmh I b o e hb)
 have thB:∀ b o,X.s₀.heap.get? b=some o->b∉X.fs->∃ o',B.get? b=some o':=fun b o e hb=>by
  obtain⟨o',q⟩:=I.base.there b o e (nx b)
  exact F.th b o' q (Qmh I b o e hb)
 have slot:∀ b o,X.s₀.heap.get? b=some o->X.H₀ b=none->b∈X.fs->∃ sl,h2.get? b=some { o with slots:=sl }:=fun b o e n hb=>by
  obtain⟨sl,q⟩:=I.base.slot b o e n hb (nx b)
  have hs:b∈frs X.stack:=by
   rw[hst]
   obtain⟨env,h1,h2⟩:=List.mem_filterMap.mp hb
   exact List.mem_filterMap.mpr ⟨env,List.mem_cons_of_mem _ h1,h2⟩
  obtain⟨sl1,q1⟩:=F.un.slot b _ q (I.base.free b o e n (nx b)) hs (nn b)
  obtain⟨sl2,q2⟩:=up b _ q1 (QLw I b hb o e)
  exact⟨sl2,q2⟩
 refine⟨ea,C,t,H',B,rfl,⟨F.os.trans I.os,F.bare,⟨fun b o e n hb _=>fl2.1 b o (kbB b o e n hb),fun b o e n hb _=>slot b o e n hb,fun b o e n _=>?_,fun b o e _=>?_,fun b xs e=>F.un.tups b xs (I.base.tups b xs e),fun b o u e=>F.un.frzs b o u (I.base.frzs b o u e),fun b ps e=>?_⟩,kbB,thB,F.hok,fl2⟩,hE⟩
 ·obtain⟨o',q⟩:∃ o',s1.heap.get? b=some o':=I.base.there b o e (nx b)
  exact F.un.free b o' q (I.base.free b o e n (nx b)) (nn b)
 ·by_cases hb:b∈X.fs
  ·obtain⟨sl,q⟩:=slot b o e (I.ok.frf b hb) hb
   exact⟨_,q⟩
  ·obtain⟨o',q⟩:=thB b o e hb
   exact⟨o',fl2.1 b o' q⟩
 ·obtain⟨m1,q1⟩:=I.base.tbls b ps e
  obtain⟨m2,q2⟩:=F.un.tbls b _ q1
  exact⟨m1++m2,by rw[q2,Array.append_assoc]⟩
end
section
variable{P:Program}{w:World}{K:PySem.W.Frag}{mg:Str->Option Value}{base:Heap}{N:List Str}{qual:Str}{scope:Scope}{f:Addr}{cd:Value}{A:Around}{outer:List Env}{s:Shared}{H:Hp}{E:XK}
theorem passR:Qiz (CXR P w) (cxOf (CXR P w) P w K mg base N qual scope f cd A outer s H E) E:=fun pins σ H1 s1 e s' I h=>QQN I rfl rfl rfl h
end
end L2
namespace L2
open PySem PySem.Spec PyProof.Rows
section
variable{X:Cx}{C:Addr}{E:XK}{x:Str}{e₀:Expr}{rest:List Expr}{ta:TA}{np cpos pos:Pos}
end
end L2
namespace L2
open PySem PySem.Spec PyProof.Rows
def exO(ea C:Addr):HO:=.ext fun h=>∃ o vs,h.get? ea=some o/\o.cls=.ref C/\o.data=.fields vs
section
variable{X:Cx}{pins:List (Addr×Obj)}{σ:St}{H H':Hp}{s s':Shared}{ea C t:Addr}{B:Heap}
end
section
variable{X:Cx}{pins:List (Addr×Obj)}{σ:St}{H H':Hp}{s s':Shared}{ea C DD t:Addr}{B:Heap}{x n:Str}{np hpos:Pos}{b₀:Stmt}{suite:List Stmt}{rest:List ExceptHandler}{D:Ends}{Ex:Value->Shared->Prop}{i:Nat}{ts:TS}
end
end L2
namespace L2
open PySem PySem.Spec PyProof.Rows
abbrev TXS:=Ends->St->Hp->(St->XK)->Prop
section
variable{X:Cx}{k:Nat}{f:Addr}{fd:FuncData}{ps:List Str}{sp:Sp}{dvs:List V}{ds:List Value}{x:Str}{p pos:Pos}{e:Expr}{es:List Expr}{ta:TA}
theorem PA.nox{es:List Expr}{t:TA}(h:PA X.nox es t){pos:Pos}{pins:List (Addr×Obj)}{s:Shared}{σ:St}{H:Hp}{Q:List V->Hp->Prop}{E:Value->Shared->Prop}(I:Inv X pins σ H s)(q:t σ H Q):
 wpAny (model X.prog X.w) X.A (spliced (backTo pos (starEach es X.env))) (AP X pins σ Q) E s:=
 wpAny_mono (h pos pins s σ H Q (I.wish _) q) (fun _ _ ⟨v,H',I',r,q⟩=>⟨v,H',I'.unwish,r,q⟩) fun _ _ z=>False.elim z
variable{t u:TXS}{te:TX}{st:Stmt}{rest:List Stmt}{i:Nat}{px:Pos}
end
end L2
namespace L2
open PySem PySem.Spec PyProof.Rows
def ExAt(x D:Addr)(h:Heap):Prop:=∃ o vs,h.get? x=some o/\o.cls=.ref D/\o.data=.fields vs
section
open PySem.W PySem.Calls Builtin Builtin.ObjectAttr Builtin.Getset_descriptor
variable{K:PySem.W.Frag}{x D:Addr}
theorem Qri{M:Model}{h:Heap}(I:ExAt x D h):Looks M h (typeOf (.ref x)) (.ref D):=by
 obtain⟨o,vs,h1,h2,_⟩:=I
 exact h2 ▸ (Looks.ld h1).andThen .now
theorem Qys{M:Model}{h:Heap}(X:K.In h){name:Str}{a g:Value}(ha:findIn K (.ref D) name=some (some a))(hg:specialIn K a "__get__"=some (some g))(ht:takesIn K a=some true):
 Looks M h (find (.ref x) (.ref D) name) (.bind g a):=by
 have L1:=looks_findIn (M:=M) X ha
 have L2:Looks M h (getOf (some a)) (some g):=looks_specialIn X hg
 have L3:=looks_takesIn (M:=M) X ht
 exact L1.andThen (L2.andThen ((show Looks M h (dataDescriptor? (some a) (some g)) (some (g,a)) from L3.andThen .now).andThen (Looks.tag .now)))
variable{prog:Program}{w:World}{A:Around}{E:Value->Shared->Prop}{s:Shared}{name:Str}
theorem QQa{M:Model}{nameV:Value}{Q:Unit->Shared->Prop}(X:K.In s.heap)(I:ExAt x D s.heap)(hb:mroIn K D (.type "BaseException")=some true)(hq:Q () s):wpAny M A (checkBuiltinCall "BaseException.__getattribute__" ⟨[.ref x,nameV],[]⟩) Q E s:=by
 obtain⟨hh,g,dr,t,os⟩:=s
 have hk:builtinKind "BaseException.__getattribute__"=some .slot:=dk
 have hsplit:splitId "BaseException.__getattribute__"=some ("BaseException","__getattribute__"):=dk
 have L0:=Qri (M:=M) I
 have L1:=looks_mroIn (M:=M) X hb
 have ha:=F.args_bexc_ga (.ref x) nameV
 simp only[checkBuiltinCall,hk,hsplit]
 refine wpAny_bind ?_
 unfold isInstance
 repeat (first | lk | wp_step)
 exact hq
theorem QS7{R:Result->Shared->Prop}{tp:Value}(X:K.In s.heap)(I:ExAt x D s.heap)(hm:mroIn K D (.type "object")=some true)
 (h:R (.ok (.ret (.ref D))) s):codeAny (model prog w) A (.call (.builtin "getset_descriptor.__get__") ⟨[.builtin "object.__class__",.ref x,tp],[]⟩) R s:=by
 obtain⟨hh,g,dr,t,os⟩:=s
 have L0:=Qri (M:=model prog w) I
 have L1:=looks_mroIn (M:=model prog w) X hm
 refine codeAny_call_builtin KF.slot_gs.plain KF.entry_gs (KF.slot_gs.check _ _ _ _ _ _ _ _ KF.type_class (KF.args_gs _ _ _) ?_)
 unfold Builtin.«getset_descriptor.__get__» descrGet
 rw[dga_obj]
 refine wpAny_bind (wpAny_pure ?_)
 unfold descrGetter descrCheckInstance descrNameAndClass isInstance
 simp only[KF.owner_class]
 repeat lk
 refine⟨Code.quiet_builtin _ (dk),codeAny_builtin KF.entry_class ?_⟩
 unfold Builtin.«object.__class__» shownTypeOf
 repeat lk
 exact h
theorem QQC{g a:Value}{tk:Tok}{Q:Fin->Shared->Prop}(X:K.In s.heap)(I:ExAt x D s.heap)(ha:findIn K (.ref D) "__class__"=some (some (.builtin "object.__class__")))
 (hn:specialIn K (.builtin "object.__class__") "__get__"=some (some (.builtin "getset_descriptor.__get__"))) (ht:takesIn K (.builtin "object.__class__")=some true) (hm:mroIn K D (.type "object")=some true)
 (hq:Q (.done (.ret (.ref D))) s):wpAny (model prog w) A (Builtin.«object.__getattribute__» ⟨[.ref x,.str "__class__" tk],[]⟩) Q E s:=by
 have L3:=Qys (x:=x) (M:=model prog w) X ha hn ht
 have L0:=Qri (M:=model prog w) I
 obtain⟨hh,gg,d,t,os⟩:=s
 refine wpAny_bind (wpAny_pure ?_)
 refine wpAny_bind (wpAny_pure (wpAny_bind (L0.at (wpAny_bind (L3.at ?_)))))
 show wpAny _ _ (holding [_] (call (.builtin "getset_descriptor.__get__") [.builtin "object.__class__",.ref x,.ref D])>>=ret) _ _ _
 exact wpAny_bind (wpAny_holding (wpAny_call (QS7 (s:=⟨hh,gg,d,t,os⟩) X I hm (wpAny_pure hq))))
theorem QRj{Q:Option Value->Shared->Prop}(X:K.In s.heap)(I:ExAt x D s.heap)(g1:findIn K (.ref D) "__getattribute__"=some (some (.builtin "BaseException.__getattribute__")))(hb:mroIn K D (.type "BaseException")=some true)
 (g2:findIn K (.ref D) "__getattr__"=some none) (ha:findIn K (.ref D) "__class__"=some (some (.builtin "object.__class__")))
 (hn:specialIn K (.builtin "object.__class__") "__get__"=some (some (.builtin "getset_descriptor.__get__"))) (ht:takesIn K (.builtin "object.__class__")=some true) (hm:mroIn K D (.type "object")=some true)
 (h:Q (some (.ref D)) { s with toks:=s.toks+1 }):wpAny (model prog w) A (getAttr? (.ref x) "__class__") Q E s:=by
 obtain⟨hh,g,d,t,os⟩:=s
 have L0:=Qri (M:=model prog w) I
 have L1:=looks_findIn (M:=model prog w) X g1
 have L2:=looks_findIn (M:=model prog w) X g2
 have f3:=PySem.F.attr_ValueError.ga.bind (.ref x)
 have hx2:(Value.builtin "BaseException.__getattribute__" == Value.builtin "object.__getattribute__")=false:=dk
 have hx1:(onTheHeap (Value.ref D)&&Value.builtin "BaseException.__getattribute__" == Value.builtin "object.__getattribute__")=false:=by rw[hx2];rfl
 unfold getAttr? getAttrBy? getAttrBy
 refine wpAny_bind (wpAny_mkText (wpAny_bind (wpAny_attempt (wpAny_holding (wpAny_bind (L0.at (wpAny_bind (L1.at ?_))))))))
 show wpAny _ _ (if (onTheHeap (Value.ref D)&&Value.builtin "BaseException.__getattribute__" == Value.builtin "object.__getattribute__")=true then _ else getAttrByItsOwn _ _ _ _ _ _) _ _ _
 rw[hx1,if_neg (by decide)]
 unfold getAttrByItsOwn
 refine wpAny_bind ?_
 show wpAny _ _ (typeLookup (.ref D) "__getattr__") _ _ _
 refine L2.at ?_
 refine wpAny_bind (wpAny_attempt ?_)
 refine wpAny_holding ?_
 show wpAny _ _ (boundAndCalled (.builtin "BaseException.__getattribute__") (.ref x) _) _ _ _
 unfold boundAndCalled
 refine wpAny_bind (wpAny_of_eq f3 ?_)
 refine wpAny_call (codeAny_call_builtin PySem.F.attr_ValueError.ga.plain F.entry_bexc_ga (QQa (s:=⟨hh,g,d,t+1,os⟩) X I hb (QQC (g:=.none) (a:=.none) (s:=⟨hh,g,d,t+1,os⟩) X I ha hn ht hm ?_)))
 show wpAny _ _ (handedOut (.ref D)) _ _ _
 exact handed_on rfl (wpAny_pure h)
structure ExCls(K:PySem.W.Frag)(D:Addr):Prop where
 cl:(clsIn K D).isSome=true
 g1:findIn K (.ref D) "__getattribute__"=some (some (.builtin "BaseException.__getattribute__"))
 hb:mroIn K D (.type "BaseException")=some true
 g2:findIn K (.ref D) "__getattr__"=some none
 ha:findIn K (.ref D) "__class__"=some (some (.builtin "object.__class__"))
 hn:specialIn K (.builtin "object.__class__") "__get__"=some (some (.builtin "getset_descriptor.__get__"))
 htk:takesIn K (.builtin "object.__class__")=some true
 hm:mroIn K D (.type "object")=some true
theorem QQc(e:ExCls K D):KitX K (.ref x) (.ref D) (ExAt x D) where
 ty:=fun _ _ _ I=>Qri I
 it:=fun _ _ X _=>by
  obtain⟨cdD,hcD⟩:=Option.isSome_iff_exists.mp e.cl
  unfold clsIn at hcD
  split at hcD
  ·rename_i c' d' cd' sl' ho
   intro A' Q' E' s' k q
   unfold isType loadHead
   exact wpAny_bind (wpAny_loadPart (k _ _ (X _ _ ho)) (wpAny_pure q))
  ·cases hcD
 ne:=fun h tp dd its n sl X htp=>by
  obtain⟨cdD,hcD⟩:=Option.isSome_iff_exists.mp e.cl
  refine Bool.eq_false_iff.mpr fun q=>?_
  have e:D=tp:=Value.ref.inj (beq_iff_eq.mp q)
  subst e
  unfold clsIn at hcD
  split at hcD
  ·rename_i c' d' cd' sl' ho
   have z:=(X _ _ ho).symm.trans htp
   cases z
  ·cases hcD
 ca:=fun X I k=>QRj X I e.g1 e.hb e.g2 e.ha e.hn e.htk e.hm k
end
end L2
set_option maxHeartbeats 1000000
namespace L2
open PySem PySem.Spec PyProof.Rows
section
variable{prog:Program}{w:World}{A:Around}{R:Result->Shared->Prop}{s:Shared}
theorem QGJ{elt target iter:Expr}{ifs:List Expr}{scope:Scope}{pos:Pos}{it acc:Value}{env:Env}(I:Nat->Shared->Prop)(NB:Value->Shared->Prop)(hNB:∀ e s',NB e s'->notedBy (model prog w) A env (fun e s'=>R (.error e) s') e s')
 (turn:∀ n s,I n s->wpAny (model prog w) A (pyNext it) (fun r s₁=>match r with
  | none=>R (.ok .next) s₁
  | some v=>wpAny (model prog w) A (letOwnedTupleGo target it v) (fun _ s₁'=>wpAny (model prog w) A (assign target env v) (fun _ s₂ =>
   wpAny (model prog w) A (forIn ifs true fun c r=>if r=true then do let ok ← isTrue c env (eval c env);pure (ForInStep.yield ok) else pure (ForInStep.yield r)) (fun ok s₃ =>
    if ok=true then wpAny (model prog w) A (eval elt env) (fun x s₄ =>
     wpAny (model prog w) A (call (.builtin "list.append") [acc,x]) (fun _ s₅ => ∃ m,m<n/\I m s₅) NB s₄) NB s₃
    else ∃ m,m<n/\I m s₃) NB s₂) NB s₁') NB s₁) NB s)
 (n:Nat) (h:I n s):
 codeAny (model prog w) A (.compLoop (.ListComp elt [⟨target,iter,ifs,0⟩] scope pos) 0 it acc env) R s:=by
 refine codeAny_loop rfl I (fun n s hI=>?_) n h
 show wpAny _ A ((compTurn (.ListComp elt [⟨target,iter,ifs,0⟩] scope pos) 0 it acc env).onRaise (fun x=>do noteFrame x env;theTreesLotGoes x)) _ _ s
 refine wpAny_noted ?_
 rw[compTurn_list]
 refine wpAny_bind (wpAny_standAt (wpAny_bind (wpAny_mono (turn n s hI) (fun r s₁ h₁=>?_) hNB)))
 cases r with
 | none=>exact wpAny_pure h₁
 | some v=>
  refine wpAny_bind (wpAny_mono h₁ (fun _ s₁' h₁'=>?_) hNB)
  refine wpAny_bind (wpAny_mono h₁' (fun _ s₂ h₂ => wpAny_bind (wpAny_mono h₂ (fun ok s₃ h₃ => ?_) hNB)) hNB)
  cases ok with
  | false=>exact wpAny_pure ⟨rfl,h₃⟩
  | true=>
   exact wpAny_bind (wpAny_bind (wpAny_mono h₃ (fun x s₄ h₄ => wpAny_bind (wpAny_mono h₄ (fun _ s₅ h₅ => wpAny_pure (wpAny_pure ⟨rfl,h₅⟩)) hNB)) hNB))
end
def Qi(scope outer:Scope):Scope:=
 { scope with names:=scope.names.map fun(n,k)=>if (k == .free&&outer.kind == .function&&outer.names.lookup n == some .cell) then(n,.cell) else(n,k) }
theorem Qrh(c:Str->NameKind->Bool)(x:Str):∀ names:List (Str×NameKind),(names.map fun(n,k)=>if c n k=true then(n,NameKind.cell) else(n,k)).lookup x=(names.lookup x).map fun k=>if c x k=true then NameKind.cell else k
 | []=>rfl
 | (n,k)::r=>by
  have ih:=Qrh c x r
  show List.lookup x ((if c n k=true then(n,NameKind.cell) else(n,k))::_)=_
  by_cases hx:x=n
  ·subst hx
   by_cases hc:c x k=true
   ·rw[if_pos hc,List.lookup_cons_self,List.lookup_cons_self];simp[hc]
   ·rw[if_neg hc,List.lookup_cons_self,List.lookup_cons_self];simp[hc]
  ·have hb:(x == n)=false:=by simpa using hx
   by_cases hc:c n k=true
   ·rw[if_pos hc,List.lookup_cons,List.lookup_cons,hb];exact ih
   ·rw[if_neg hc,List.lookup_cons,List.lookup_cons,hb];exact ih
theorem QoC(scope outer:Scope)(x:Str):(Qi scope outer).names.lookup x=(scope.names.lookup x).map fun k=>if (k == .free&&outer.kind == .function&&outer.names.lookup x == some .cell)=true then NameKind.cell else k:=
 Qrh (fun n k=>k == .free&&outer.kind == .function&&outer.names.lookup n == some .cell) x scope.names
theorem QDu{scope outer:Scope}{x:Str}(h:scope.names.lookup x=some .free):(Qi scope outer).names.lookup x=some .cell∨(Qi scope outer).names.lookup x=some .free:=by
 rw[QoC,h]
 show some (if _ then _ else _)=_∨some (if _ then _ else _)=_
 split
 ·exact .inl rfl
 ·exact .inr rfl
theorem QD4{scope outer:Scope}{x:Str}(h:(Qi scope outer).names.lookup x=some .cell∨(Qi scope outer).names.lookup x=some .free):scope.names.lookup x=some .cell∨scope.names.lookup x=some .free:=by
 rw[QoC]at h
 cases e:scope.names.lookup x with
 | none=>rw[e]at h;rcases h with h | h<;>cases h
 | some k=>
  rw[e]at h
  cases k with
  | free=>exact .inr rfl
  | cell=>exact .inl rfl
  | _=>rcases h with h | h<;>cases h
def QbY(env:Env):List (Str×NameKind)->List (Str×Addr)->List (Str×Addr)
 | [],acc=>acc
 | (n,k)::r,acc=>if (k == .free)=true then QbY env r ((n,(env.cells.lookup n).getD 0)::acc) else QbY env r acc
theorem Qzn{scope:Scope}{env:Env}(h:∀ y∈scope.names,y.2=.free->(env.cells.lookup y.1).isSome=true):closureFor scope env=pure (QbY env scope.names []):=by
 have go:∀(names:List (Str×NameKind))(acc:List (Str×Addr)),(∀ y∈names,y.2=.free->(env.cells.lookup y.1).isSome=true)->
  (forIn names acc fun x r=>if (x.2 == NameKind.free)=true then(cellOf env x.1>>=fun a=>pure (ForInStep.yield ((x.1,a)::r))) else pure (ForInStep.yield r):Sem (List (Str×Addr)))=pure (QbY env names acc):=by
  intro names
  induction names with
  | nil=>intro acc _;rfl
  | cons y r ih=>
   intro acc hy
   obtain⟨n,k⟩:=y
   rw[List.forIn_cons]
   unfold QbY
   by_cases hk:(k == NameKind.free)=true
   ·obtain⟨c,hc⟩:=Option.isSome_iff_exists.mp (hy (n,k) List.mem_cons_self (beq_iff_eq.mp hk))
    have e:cellOf env n=pure c:=by unfold cellOf;rw[show env.cells.lookup n=some c from hc]
    simp only[hk,if_true,e]
    rw[show(env.cells.lookup n).getD 0=c from by rw[show env.cells.lookup n=some c from hc];rfl]
    exact ih _ fun y hm=>hy y (List.mem_cons_of_mem _ hm)
   ·simp only[hk]
    exact ih _ fun y hm=>hy y (List.mem_cons_of_mem _ hm)
 have e:=go scope.names [] h
 unfold closureFor
 exact congrArg (fun m=>m>>=fun s=>(pure s:Sem (List (Str×Addr)))) e
theorem Qmr{env:Env}{p:Str×Addr}:∀{names:List (Str×NameKind)}{acc:List (Str×Addr)},p∈QbY env names acc->p∈acc∨p.2=(env.cells.lookup p.1).getD 0/\∃ y∈names,y.1=p.1/\y.2=.free
 | [],_,h=>.inl h
 | (n,k)::r,acc,h=>by
  unfold QbY at h
  split at h
  ·rename_i hk
   rcases Qmr h with h | ⟨h,y,hy,e⟩
   ·rcases List.mem_cons.mp h with h | h
    ·subst h;exact .inr ⟨rfl,(n,k),List.mem_cons_self,rfl,beq_iff_eq.mp hk⟩
    ·exact .inl h
   ·exact .inr ⟨h,y,List.mem_cons_of_mem _ hy,e⟩
  ·rcases Qmr h with h | ⟨h,y,hy,e⟩
   ·exact .inl h
   ·exact .inr ⟨h,y,List.mem_cons_of_mem _ hy,e⟩
theorem Qmn{env:Env}{x:Str}:∀{names:List (Str×NameKind)}{acc:List (Str×Addr)},(acc.lookup x).isSome=true∨(∃ y∈names,y.1=x/\y.2=.free)->((QbY env names acc).lookup x).isSome=true
 | [],_,h=>h.elim id fun⟨_,hy,_⟩=>nomatch hy
 | (n,k)::r,acc,h=>by
  unfold QbY
  split
  ·rename_i hk
   refine Qmn ?_
   rcases h with h | ⟨y,hy,e1,e2⟩
   ·refine .inl ?_
    rw[List.lookup_cons]
    split
    ·rfl
    ·exact h
   ·rcases List.mem_cons.mp hy with rfl | hy
    ·refine .inl ?_
     have e1:n=x:=e1
     subst e1
     rw[List.lookup_cons_self];rfl
    ·exact .inr ⟨y,hy,e1,e2⟩
  ·rename_i hk
   refine Qmn ?_
   rcases h with h | ⟨y,hy,e1,e2⟩
   ·exact .inl h
   ·rcases List.mem_cons.mp hy with rfl | hy
    ·have e2:k=.free:=e2
     subst e2
     exact absurd rfl hk
    ·exact .inr ⟨y,hy,e1,e2⟩
theorem Qdi{α:Type}{l:List (Str×α)}{x:Str}{c:α}(h:l.lookup x=some c):(x,c)∈l:=PySem.mem_of_lookup h
theorem QyN{p:Str×Addr}:∀{names:List (Str×NameKind)}{n:Nat}{acc:List (Str×Addr)},p∈cellsFrom n names acc->p∈acc∨n<=p.2
 | [],_,_,h=>.inl h
 | (y,k)::r,n,acc,h=>by
  unfold cellsFrom at h
  split at h
  ·rcases QyN h with h | h
   ·rcases List.mem_cons.mp h with h | h
    ·subst h;exact .inr (Nat.le_refl _)
    ·exact .inl h
   ·exact .inr (Nat.le_of_succ_le h)
  ·exact QyN h
theorem QHH:∀{names:List (Str×NameKind)}{n:Nat}{acc:List (Str×Addr)},(∀ p∈acc,p.2<n)->(∀ p∈acc,∀ q∈acc,p.2=q.2->p.1=q.1)->∀ p∈cellsFrom n names acc,∀ q∈cellsFrom n names acc,p.2=q.2->p.1=q.1
 | [],_,_,_,h=>h
 | (y,k)::r,n,acc,hl,hi=>by
  unfold cellsFrom
  split
  ·refine QHH (fun p hp=>?_) fun p hp q hq e=>?_
   ·rcases List.mem_cons.mp hp with rfl | hp
    ·exact Nat.lt_succ_self _
    ·exact Nat.lt_succ_of_lt (hl p hp)
   ·rcases List.mem_cons.mp hp with rfl | hp<;>rcases List.mem_cons.mp hq with rfl | hq
    ·rfl
    ·exact absurd e (Nat.ne_of_gt (hl q hq))
    ·exact absurd e (Nat.ne_of_lt (hl p hp))
    ·exact hi p hp q hq e
  ·exact QHH hl hi
theorem QBn:∀{names:List (Str×NameKind)}{h:Heap}{acc:List (Str×Addr)},(∀ p∈acc,∃ v,h.IsCell p.2 v)->∀ p∈cellsFrom h.objs.size names acc,∃ v,(pushCells h names).IsCell p.2 v
 | [],_,_,h=>h
 | (y,k)::r,h,acc,hc=>by
  unfold cellsFrom pushCells
  split
  ·have:=QBn (names:=r) (h:=h.push { cls:=.type "cell",data:=.cell none }) (acc:=(y,h.objs.size)::acc) fun p hp=>by
    rcases List.mem_cons.mp hp with rfl | hp
    ·exact⟨none,_,Heap.get?_push_size _ rfl,rfl⟩
    ·obtain⟨v,q⟩:=hc p hp
     exact⟨v,q.keeps fun b o e=>Heap.get?_push_of_some _ e⟩
   rwa [Heap.size_push]at this
  ·exact QBn hc
theorem QBc{x:Str}:∀{names:List (Str×NameKind)}{n:Nat}{acc:List (Str×Addr)},(∀ y∈names,y.1=x->y.2=.free)->(cellsFrom n names acc).lookup x=acc.lookup x
 | [],_,_,_=>rfl
 | (y,k)::r,n,acc,h=>by
  unfold cellsFrom
  split
  ·rename_i hk
   rw[QBc fun z hz=>h z (List.mem_cons_of_mem _ hz),List.lookup_cons]
   split
   ·rename_i hb
    have hx:x=y:=beq_iff_eq.mp hb
    have:=h (y,k) List.mem_cons_self hx.symm
    have this:k=.free:=this
    subst this
    exact absurd hk (by decide)
   ·rfl
  ·exact QBc fun z hz=>h z (List.mem_cons_of_mem _ hz)
def QGy(scope:Scope)(cl:List (Str×Addr))(L:Addr)(env:Env):Env:=
 { scope:=Qi scope env.scope,locals:=L,globals:=env.globals,cells:=cellsFrom (L+1) scope.names cl,qual:=env.qual,func:=none,code:=env.code,frame:=env.frame,builtins:=env.builtins }
theorem QRm{M:Model}{A:Around}{E:Value->Shared->Prop}{s:Shared}{scope:Scope}{cl:List (Str×Addr)}{env:Env}{Q:Env->Shared->Prop}
 (h:∀ c,{ c with scope:=relabel scope env }=QGy scope cl s.heap.objs.size env->c.locals=s.heap.objs.size->Q c { s with heap:=pushCells (s.heap.push { cls:=.type "dict",data:=.dict #[] }) scope.names }):
 wpAny M A (newFunctionEnv scope env.globals cl [] env.qual none .none (some env)) Q E s:=by
 simp only[newFunctionEnv,Option.isSome_some,if_true]
 refine wpAny_bind (wpAny_alloc ?_)
 refine wpAny_bind (wpAny_layCells _ (fun name kind cells=>by cases hkc:kind == NameKind.cell<;>simp[hkc]) _ _ _ _ ?_)
 rw[show({ s with heap:=s.heap.push { cls:=.type "dict",data:=.dict #[] } }:Shared).heap.objs.size=s.heap.objs.size+1 from Heap.size_push ..]
 refine wpAny_bind (wpAny_pure (wpAny_pure (h _ ?_ rfl)))
 rfl
def capt(js:List (Option Nat))(σ:St):St:=js.map fun j=>j.bind fun j=>(σ[j]?).join
structure QI(N':List Str)(js:List (Option Nat))(scope outer:Scope)(N:List Str):Prop where
 kind:scope.kind=.function
 uniq:∀ y∈scope.names,scope.names.lookup y.1=some y.2
 nd:N'.Nodup
 len:js.length=N'.length
 free:∀ y∈scope.names,y.2=.free->outer.names.lookup y.1=some .cell∨outer.names.lookup y.1=some .free
 cap:((N'.zip js).all fun p=>match p.2 with
  | none=>true
  | some j=>decide (N[j]?=some p.1)&&decide (scope.names.lookup p.1=some .free))=true
theorem QI.capOf{N':List Str}{js:List (Option Nat)}{scope outer:Scope}{N:List Str}(S:QI N' js scope outer N){i j:Nat}{x:Str}(h1:N'[i]?=some x)(h2:js[i]?=some (some j)):
 N[j]?=some x/\scope.names.lookup x=some .free/\∀ y∈scope.names,y.1=x->y.2=.free:=by
 have h:=List.all_eq_true.mp S.cap (x,some j) (by
  refine List.mem_of_getElem? (i:=i) ?_
  rw[List.getElem?_zip_eq_some]
  exact⟨h1,h2⟩)
 simp only[Bool.and_eq_true,decide_eq_true_eq]at h
 exact⟨h.1,h.2,fun y hy e=>by
  have:=S.uniq y hy
  rw[e,h.2]at this
  exact(Option.some.inj this).symm⟩
theorem QI.names{N':List Str}{js:List (Option Nat)}{scope outer:Scope}{N:List Str}(S:QI N' js scope outer N):∀ y∈scope.names,y.2=.local->scope.names.lookup y.1=some .local:=fun y hy e=>by
 rw[S.uniq y hy,e]
def cxC(X:Cx)(N':List Str)(scope:Scope)(fp:List Addr)(s:Shared)(H:Hp):Cx:=
 { X with N:=N',s₀:=s,H₀:=H,env:=QGy scope (QbY X.env scope.names []) s.heap.objs.size X.env,outer:=X.stack,ex:=fp,
          fn:=fun x=>match scope.names.lookup x with | some .cell=>true | _=>false,pn:=[],xe:=fun _ _=>False }
theorem QQX{X:Cx}{N':List Str}{js:List (Option Nat)}{scope:Scope}{pins:List (Addr×Obj)}{σ:St}{H:Hp}{s:Shared}{fp:List Addr}(S:QI N' js scope X.env.scope X.N)(I:Inv X pins σ H s)(hf:∀ b∈fp,FpOk X pins H b)
 (hlt:∀ b∈fp,b<s.heap.objs.size):
 Inv (cxC X N' scope fp s H) [] (capt js σ) H { s with heap:=pushCells (s.heap.push { cls:=.type "dict",data:=.dict #[] }) scope.names }:=by
 have hk:∀ b o,s.heap.get? b=some o->(pushCells (s.heap.push { cls:=.type "dict",data:=.dict #[] }) scope.names).get? b=some o:=fun b o e=>pushCells_keeps _ _ b o (Heap.get?_push_of_some _ e)
 have sz:(s.heap.push { cls:=.type "dict",data:=.dict #[] }).objs.size=s.heap.objs.size+1:=Heap.size_push ..
 -- captured cells stand in the outer frame
 have out:∀ x,(∃ y∈scope.names,y.1=x/\y.2=.free)->∃ c,X.env.cells.lookup x=some c:=fun x ⟨y,hy,e1,e2⟩=>by
  subst e1
  exact I.ok.has y.1 (S.free y hy e2)
 have clm:∀ p∈QbY X.env scope.names [],X.env.cells.lookup p.1=some p.2:=fun p hp=>by
  rcases Qmr hp with h | ⟨h,hy⟩
  ·cases h
  ·obtain⟨c,hc⟩:=out p.1 hy
   rw[hc]at h ⊢
   rw[h];rfl
 have cllt:∀ p∈QbY X.env scope.names [],p.2<s.heap.objs.size:=fun p hp=>by
  obtain⟨v,q⟩:=I.cell p.1 p.2 (clm p hp)
  exact q.lt
 have cin:∀ x c,(cellsFrom (s.heap.objs.size+1) scope.names (QbY X.env scope.names [])).lookup x=some c->X.env.cells.lookup x=some c∨s.heap.objs.size+1<=c:=fun x c e=>by
  rcases QyN (Qdi e) with h | h
  ·exact .inl (clm _ h)
  ·exact .inr h
 have capL:∀ x,scope.names.lookup x=some .free->(∀ y∈scope.names,y.1=x->y.2=.free)->(cellsFrom (s.heap.objs.size+1) scope.names (QbY X.env scope.names [])).lookup x=X.env.cells.lookup x:=fun x hx hy=>by
  rw[QBc hy]
  have hs:=Qmn (env:=X.env) (x:=x) (names:=scope.names) (acc:=[]) (.inr ⟨_,Qdi hx,rfl,rfl⟩)
  obtain⟨c,hc⟩:=Option.isSome_iff_exists.mp hs
  rw[hc,clm _ (Qdi hc)]
 refine⟨⟨I.ok.mod,S.kind,I.ok.glob,I.ok.blt,Nat.le_refl _,fun x y c h1 h2=>?_,fun x hx=>?_,fun x c hx h=>?_,I.ok.hd,I.ok.frames,.inl rfl,fun b hb=>?_,I.bs,Nat.le_trans I.ok.bsz I.sz,fun b o e hb=>?_,fun b hb hz=>?_,I.stack,I.stkFree⟩,
  rfl,I.bare,Un.kept hk,?_,fun x c h=>?_,I.hok.fresh (Nat.le_refl _),fun x c h=>?_,fun p hp=>absurd (show p∈([]:List (Addr×Obj)) from hp) (by simp),I.hok.kept hk,?_⟩
 ·refine QHH (names:=scope.names) (n:=s.heap.objs.size+1) (acc:=QbY X.env scope.names []) (fun p hp=>Nat.lt_succ_of_lt (cllt p hp)) (fun p hp q hq e=>?_) (x,c) (Qdi h1) (y,c) (Qdi h2) rfl
  have a:=clm p hp
  have b:=clm q hq
  rw[← e]at b
  exact I.ok.inj _ _ _ a b
 ·have hx':=QD4 (show(Qi scope X.env.scope).names.lookup x=some .cell∨_ from hx)
  refine Option.isSome_iff_exists.mp (PySem.W.cellsFrom_some scope.names _ _ ?_)
  rcases hx' with h | h
  ·exact .inl h
  ·exact .inr (Qmn (.inr ⟨_,Qdi h,rfl,rfl⟩))
 ·rcases QyN (Qdi h) with hm | hm
  ·-- an own cell's name is captured too: its first entry is the own one
   have hx':scope.names.lookup x=some .cell:=by
    have hx2:(match scope.names.lookup x with | some .cell=>true | _=>false)=true:=hx
    split at hx2
    ·assumption
    ·cases hx2
   rcases Qmr hm with q | ⟨_,y,hy,e1,e2⟩
   ·cases q
   ·have:=S.uniq y hy
    have e1:y.1=x:=e1
    rw[e1,hx',e2]at this
    cases this
  ·exact Nat.le_of_succ_le hm
 ·refine⟨Nat.ne_of_lt (hlt b hb),fun x c h e=>?_⟩
  rcases cin x c h with q | q
  ·exact(hf b hb).2.2.2.2.1 x c q e
  ·have:=hlt b hb
   rw[← e]at this
   exact absurd (Nat.lt_of_lt_of_le this (Nat.le_of_succ_le q)) (Nat.lt_irrefl _)
 ·rcases(hf b hb).2.2.2.1 with z | z
  ·exact I.ok.noex b o e z
  ·exact absurd (Nat.lt_of_lt_of_le (Heap.lt_size (I.ok.bs b o e).1) z) (Nat.lt_irrefl _)
 ·rcases List.mem_cons.mp (I.stkSub b hz) with e | e
  ·exact(hf b hb).2.1 e
  ·exact(hf b hb).2.2.1 e
 ·obtain⟨m,hn,hl⟩:=I.loc
  refine⟨fun _=>none,(Heap.Ns.new s.heap (.type "dict")).keeps (pushCells_keeps _ _),fun i x v h1 h2 h3=>?_⟩
  have h2':((js[i]?).map fun j=>j.bind fun j=>(σ[j]?).join)=some (some v):=by
   unfold capt at h2
   rw[List.getElem?_map]at h2
   exact h2
  cases e:js[i]? with
  | none=>rw[e]at h2';cases h2'
  | some o=>
   rw[e]at h2'
   cases o with
   | none=>cases h2'
   | some j=>
    have h4:(σ[j]?).join=some v:=Option.some.inj h2'
    have h5:σ[j]?=some (some v):=by
     cases z:σ[j]? with
     | none=>rw[z]at h4;cases h4
     | some o=>rw[z]at h4;have h4:o=some v:=h4;rw[h4]
    obtain⟨hN,hx,hy⟩:=S.capOf h1 e
    have hvis:=S.free _ (Qdi hx) rfl
    obtain⟨u,r,lk⟩:=hl j x v hN h5 (.inr hvis)
    refine⟨u,r,.inr ⟨QDu hx,?_⟩⟩
    rcases lk with⟨k,_⟩ | ⟨_,c,hc,z⟩
    ·have k:X.env.scope.names.lookup x=some .local:=k
     rcases hvis with q | q
     ·rw[k]at q;cases q
     ·rw[k]at q;cases q
    ·exact⟨c,(capL x hx hy).trans hc,z.keeps hk⟩
 ·have:=QBn (names:=scope.names) (h:=s.heap.push { cls:=.type "dict",data:=.dict #[] }) (acc:=QbY X.env scope.names []) (fun p hp=>by
   obtain⟨v,q⟩:=I.cell p.1 p.2 (clm p hp)
   exact⟨v,q.keeps fun b o e=>Heap.get?_push_of_some _ e⟩) (x,c) (by rw[sz];exact Qdi h)
  exact this
 ·rcases cin x c h with q | q
  ·exact I.freeC x c q
  ·exact I.hok.fresh (Nat.le_of_succ_le q)
 ·show(js.map _).length=N'.length
  rw[List.length_map];exact S.len
def eMax(X:Cx)(e:Expr):TE:=fun σ H Q=>∃ t,PE X e t/\t σ H Q
theorem QTs{X:Cx}{e:Expr}:PE X e (eMax X e):=fun pins s σ H Q I ⟨t,ht,h⟩=>ht pins s σ H Q I h
def gMax(X:Cx)(e:Expr):TG:=fun v σ H Q=>∃ t,PG X e t/\t v σ H Q
theorem QTu{X:Cx}{e:Expr}:PG X e (gMax X e):=fun pins s σ H v u Q I r ⟨t,ht,h⟩=>ht pins s σ H v u Q I r h
def PIf(X:Cx)(ifs:List Expr)(tc:TT):Prop:=(ifs=[]/\tc=fun _ H Q=>Q true H)∨∃ c,ifs=[c]/\PT X c tc
theorem QRD{X:Cx}:PIf X [] (fun _ H Q=>Q true H):=.inl ⟨rfl,rfl⟩
theorem QRk{X:Cx}{c:Expr}{tc:TT}(h:PT X c tc):PIf X [c] tc:=.inr ⟨c,rfl,h⟩
theorem PIf.run{X:Cx}{ifs:List Expr}{tc:TT}(h:PIf X ifs tc){pins:List (Addr×Obj)}{s:Shared}{σ:St}{H:Hp}{Q:Bool->Hp->Prop}(I:Inv X pins σ H s)(q:tc σ H Q):
 wpAny (model X.prog X.w) X.A (forIn ifs true fun c r=>if r=true then do let ok ← isTrue c X.env (eval c X.env);pure (ForInStep.yield ok) else pure (ForInStep.yield r)) (TP X pins σ Q) X.xe s:=by
 rcases h with⟨rfl,rfl⟩ | ⟨c,rfl,h⟩
 ·exact wpAny_tests_nil ⟨H,I,q⟩
 ·exact wpAny_tests_one (h pins s σ H Q I q)
def cMax(X:Cx)(ifs:List Expr):TT:=fun σ H Q=>∃ t,PIf X ifs t/\t σ H Q
def CompW(X':Cx)(js:List (Option Nat))(tg elt:Expr)(ifs:List Expr)(σ:St)(H1:Hp)(J:It)(p:Addr)(Q:VK):Prop:=
 ∃ W:Nat->Nat->St->Hp->Prop,(∃ m,W 0 m (capt js σ) (upd H1 p (.lst [])))/\∀ i m τ H',W i m τ H'->
 (J.stop i H'/\Q (.ref p) H')∨(J.go i H'/\∃ N:St->Hp->Prop,(∀ τ' H'',N τ' H''->∃ m',m'<m/\W (i+1) m' τ' H'')/\∀ x H'',J.yld i H' x H''->gMax X' tg x τ H'' fun τ2 H2=>cMax X' ifs τ2 H2 fun b H3=>
  if b=true then eMax X' elt τ2 H3 fun y H4=>∃ ys,H4 p=some (.lst ys)/\ys.length<sizeLine/\N τ2 (upd H4 p (.lst (ys++[y]))) else N τ2 H3)
def tComp(X:Cx)(N':List Str)(js:List (Option Nat))(scope:Scope)(tg elt:Expr)(ifs:List Expr)(wi:TI):TE:=fun σ H Q=>wi σ H fun J H1=>∀ p,H1 p=none->∀ fp s,
 CompW (cxC X N' scope fp s (upd H1 p (.lst []))) js tg elt ifs σ H1 J p Q
section
variable{X:Cx}{N':List Str}{js:List (Option Nat)}{scope:Scope}{tg iter elt:Expr}{ifs:List Expr}{wi:TI}{pos:Pos}
theorem QyZ{pins:List (Addr×Obj)}{σ:St}{H:Hp}{s:Shared}{R:V->Hp->Prop}{E:Value->Shared->Prop}(hc:X.calm=true)(S:QI N' js scope X.env.scope X.N)
 {it:Addr} {fp:List Addr} {tn:Nat->Heap->Prop} {J:It} (I2:Inv X pins σ H s) (T:Turn X.prog X.w X.K tg J fp it tn) (st:tn 0 s.heap) (hf:∀ b∈fp,FpOk X pins H b)
 (hW:∀ p,H p=none->∀ fp s,CompW (cxC X N' scope fp s (upd H p (.lst []))) js tg elt ifs σ H J p R)
 {RR:Value->Addr->Result->Shared->Prop}
 (hRR:∀(D C:Addr)(s':Shared)(H':Hp),Inv X pins σ H' s'->(∃ m,s'.heap.Ns C m)->H' C=none->C≠X.env.locals->X.s₀.heap.objs.size<=C->(∀ x c,X.env.cells.lookup x=some c->c≠C)->(∀ p∈X.pn++pins,p.1≠C)->R (.ref D) H'->RR (.ref D) C (.ok .next) s'):
 wpAny (model X.prog X.w) X.A (newList []) (fun acc s₃ => wpAny (model X.prog X.w) X.A (newFunctionEnv scope X.env.globals (QbY X.env scope.names []) [] X.env.qual none .none (some X.env)) (fun cenv s₄ =>
  codeAny (model X.prog X.w) X.A (.compStart (.ListComp elt [⟨tg,iter,ifs,0⟩] scope pos) 0 (.ref it) acc { cenv with scope:=relabel scope X.env }) (RR acc cenv.locals) s₄) E s₃) E s:=by
 refine wpAny_newObj_type ?_
 have hfresh:H s.heap.objs.size=none:=I2.hok.fresh (Nat.le_refl _)
 have I3:Inv X pins σ (upd H s.heap.objs.size (.lst [])) { s with heap:=s.heap.push { cls:=.type "list",data:=.seq ([]:List Value).toArray } }:=I2.lnew (t':=s.toks) .nil (Nat.zero_le _)
 generalize hs3:({ s with heap:=s.heap.push { cls:=.type "list",data:=.seq ([]:List Value).toArray } }:Shared)=s3 at I3 ⊢
 have hsz3:s3.heap.objs.size=s.heap.objs.size+1:=by rw[← hs3];exact Heap.size_push ..
 have hk3:∀ b o,s.heap.get? b=some o->s3.heap.get? b=some o:=fun b o e=>by rw[← hs3];exact Heap.get?_push_of_some _ e
 have flt:∀ b∈fp,b<s.heap.objs.size:=fun b hb=>by
  obtain⟨o,e,_⟩:=T.obj _ _ st b hb
  exact Heap.lt_size e
 have hf3:∀ b∈fp,FpOk X pins (upd H s.heap.objs.size (.lst [])) b:=fun b hb=>⟨by rw[Ql (Nat.ne_of_lt (flt b hb))];exact(hf b hb).1,(hf b hb).2⟩
 have st3:tn 0 s3.heap:=T.keep _ _ _ st fun b _ o e=>hk3 b o e
 refine QRm fun cenv ecenv el=>?_
 rw[ecenv,el]
 have I4:=QQX (fp:=fp) S I3 hf3 fun b hb=>by rw[hsz3];exact Nat.lt_succ_of_lt (flt b hb)
 obtain⟨W,⟨m0,w0⟩,turn⟩:=hW _ hfresh fp s3
 generalize hX':cxC X N' scope fp s3 (upd H s.heap.objs.size (.lst []))=X' at I4 turn
 generalize hs4:({ s3 with heap:=pushCells (s3.heap.push { cls:=.type "dict",data:=.dict #[] }) scope.names }:Shared)=s4 at I4 ⊢
 have eenv:QGy scope (QbY X.env scope.names []) s3.heap.objs.size X.env=X'.env:=by rw[← hX'];rfl
 have eprog:X'.prog=X.prog:=by rw[← hX'];rfl
 have ew:X'.w=X.w:=by rw[← hX'];rfl
 have eK:X'.K=X.K:=by rw[← hX'];rfl
 have eA:X'.A=X.A:=by rw[← hX'];rfl
 have ecalm:X'.calm=true:=by rw[← hX'];exact hc
 have exe:∀ e s',X'.xe e s'->False:=fun e s' h=>by rw[← hX']at h;exact h
 have eex:X'.ex=fp:=by rw[← hX'];rfl
 have efs:X'.fs=frs X.stack:=by rw[← hX'];rfl
 have epn:X'.pn=[]:=by rw[← hX'];rfl
 have es0:X'.s₀=s3:=by rw[← hX'];rfl
 have eH0:X'.H₀=upd H s.heap.objs.size (.lst []):=by rw[← hX'];rfl
 have eloc:X'.env.locals=s3.heap.objs.size:=by rw[← eenv];rfl
 rw[eenv]
 have st4:tn 0 s4.heap:=T.keep _ _ _ st3 fun b _ o e=>by rw[← hs4];exact pushCells_keeps _ _ b o (Heap.get?_push_of_some _ e)
 -- the iterator's objects,seen from the block
 have fpok:∀{H':Hp},(∀ b∈fp,H' b=none)->∀ b∈fp,FpOk X' [] H' b:=fun {H'} hn b hb=>by
  obtain⟨h1,h2⟩:=I4.ok.exf b (by rw[eex];exact hb)
  exact⟨hn b hb,h1,fun z=>I4.ok.exfs b (by rw[eex];exact hb) z,.inl (by rw[eex];exact hb),h2,fun p hp=>by rw[epn]at hp;cases hp⟩
 have loop:∀ s5,s5=s4->codeAny (model X.prog X.w) X.A (.compLoop (.ListComp elt [⟨tg,iter,ifs,0⟩] scope pos) 0 (.ref it) (.ref s.heap.objs.size) X'.env) (RR (.ref s.heap.objs.size) s3.heap.objs.size) s5:=by
  rintro s5 rfl
  refine QGJ (fun n s'=>∃ i τ H',Inv X' [] τ H' s'/\tn i s'.heap/\(∀ b∈fp,H' b=none)/\W i n τ H') (fun _ _=>False) (fun _ _ h=>h.elim) ?_ m0 ⟨0,_,_,I4,st4,fun b hb=>(hf3 b hb).1,w0⟩
  rintro n s6 ⟨i,τ,H6,I6,st6,fr6,w6⟩
  have A1:∀{α:Type}{t:Sem α}{Q:α->Shared->Prop}{s:Shared},wpAny (model X'.prog X'.w) X'.A t Q X'.xe s->wpAny (model X.prog X.w) X.A t Q (fun _ _=>False) s:=fun {α t Q s} h=>by
   rw[eprog,ew,eA]at h
   exact wpAny_mono h (fun _ _ q=>q) exe
  rcases turn i n τ H6 w6 with⟨stop,qn⟩ | ⟨go,N,hN,step⟩
  ·have h7:=T.done X' eprog ew eK ecalm i [] s6 τ H6 (fun _ _=>False) I6 (fpok fr6) st6 stop
   rw[eA]at h7
   refine thn h7 fun r s7 ⟨hr,I7⟩=>?_
   subst hr
   -- back to the frame around
   have un:=I7.base
   rw[es0,eH0,efs,eex]at un
   have Iout:Inv X pins σ H6 s7:=I3.call' (ch:=fp) (by rw[I7.os,es0]) un (by have:=I7.hok;rw[eprog,ew]at this;exact this) I7.bare fun b hb=>by
    obtain⟨f0,f1,f2,f3,f4,f5⟩:=hf3 b hb
    exact⟨f3,f1,f4,f5⟩
   refine hRR _ _ s7 H6 Iout ?_ ?_ ?_ ?_ ?_ ?_ qn
   ·obtain⟨m,hn,_⟩:=I7.loc
    rw[eloc]at hn
    exact⟨m,hn⟩
   ·have:=I7.free
    rw[eloc]at this
    exact this
   ·exact Nat.ne_of_gt I3.lt
   ·exact I3.sz
   ·intro x c e z
    obtain⟨v,q⟩:=I3.cell x c e
    exact absurd q.lt (by rw[z];exact Nat.lt_irrefl _)
   ·intro p hp z
    exact absurd (Heap.lt_size (I3.pin p hp).1) (by rw[z];exact Nat.lt_irrefl _)
  ·have h6:=T.item X' eprog ew eK ecalm i [] s6 τ H6 (fun _ _=>False) I6 (fpok fr6) st6 go
   rw[eA]at h6
   refine thn h6 fun r s7 ⟨u,hr,h7⟩=>?_
   subst hr
   refine thn h7 fun _ s8 ⟨x,H8,I8,r8,y8,st8,fr8⟩=>?_
   have I8':=I8.pinned (fpok fr8) (T.obj _ _ st8)
   refine thn (A1 (QTu _ s8 τ H8 x u _ I8' r8 (step x H8 y8))) fun _ s9 ⟨τ9,H9,I9,q9⟩=>?_
   obtain⟨tcc,hif,q9⟩:=q9
   refine thn (A1 (hif.run I9 q9)) fun ok s10 ⟨H10,I10,q10⟩=>?_
   have again:∀{τ':St}{H':Hp}{s':Shared},Inv X' ([]++Qvv fp s8.heap) τ' H' s'->N τ' H'->∃ m,m<n/\∃ i τ H',Inv X' [] τ H' s'/\tn i s'.heap/\(∀ b∈fp,H' b=none)/\W i m τ H':=fun {τ' H' s'} I' n'=>by
    obtain⟨m',hm,w'⟩:=hN τ' H' n'
    refine⟨m',hm,i+1,τ',H',I'.unpinned,T.keep _ _ _ st8 fun b hb o e=>(I'.pin (b,o) (List.mem_append_right _ (List.mem_append_right _ (Qmz hb e)))).1,fun b hb=>?_,w'⟩
    obtain⟨o,e,d⟩:=T.obj _ _ st8 b hb
    exact(I'.pin (b,o) (List.mem_append_right _ (List.mem_append_right _ (Qmz hb e)))).2.1
   cases ok with
   | false=>
    rw[if_neg Bool.false_ne_true]at q10 ⊢
    exact again I10 q10
   | true=>
    rw[if_pos rfl]at q10 ⊢
    refine thn (A1 (QTs _ s10 τ9 H10 _ I10 q10)) fun y s11 ⟨yv,H11,I11,r11,ys,hp11,hz,n11⟩=>?_
    refine thn (A1 (QCL _ s11 τ9 H11 (.ref s.heap.objs.size) [yv] (.ref s.heap.objs.size) [y] (fun _ H'=>N τ9 H') I11 rfl (.cons r11 .nil) ⟨_,ys,yv,rfl,rfl,hp11,hz,n11⟩)) fun _ s12 ⟨v12,H12,I12,_,n12⟩=>?_
    exact again I12 n12
 exact codeAny_compStart_list (loop _ rfl) (T.self _ 0 _ _ _ st4 (loop _ rfl))
theorem QRg(hc:X.calm=true)(S:QI N' js scope X.env.scope X.N)(hi:PI X tg iter wi)
 (hs:∀ x,foldedSetIterable iter X.env x=pure x:=by intro _;rfl):PE X (.ListComp elt [⟨tg,iter,ifs,0⟩] scope pos) (tComp X N' js scope tg elt ifs wi):=by
 intro pins s σ H Q I h
 rw[eval_ListComp]
 have hcl:closureFor scope X.env=pure (QbY X.env scope.names []):=Qzn fun y hy e=>by
  obtain⟨c,hc⟩:=I.ok.has y.1 (S.free y hy e)
  rw[hc];rfl
 refine wpAny_comprehension_free (use:=none) rfl hs hcl S.kind S.names (thn (hi pins s σ H _ I h) fun v s1 h1=>thn h1 fun itv s2 h2=>?_)
 obtain⟨it,fp,tn,J,H2,e,I2,T,st2,f2,hW⟩:=h2
 subst e
 refine QyZ (R:=Q) (RR:=fun acc C=>compPost (model X.prog X.w) X.A X.xe none (EP X pins σ Q) acc C) hc S I2 T st2 f2 hW ?_
 intro D C s' H' I' ⟨m,hn⟩ hC h1 h2 h3 h4 q
 refine⟨m,hn,fun h' hsb=>⟨.ref D,H',?_,rfl,q⟩⟩
 exact I'.turned (t':=s'.toks) (fun b o hb e=>(hsb.2 b hb).trans e) hC (Ne.symm (Ne.symm h1)) (.inr h2) h3 h4
theorem QSe{i:Nat}{x:Str}{px spos:Pos}(hc:X.calm=true)(S:QI N' js scope X.env.scope X.N)(hi:PI X tg iter wi)
 (hN:X.N.Nodup) (hx:X.N[i]?=some x) (hl:Loc X.env.scope x)
 (hsw:swapsWith (.ListComp elt [⟨tg,iter,ifs,0⟩] scope pos) (some (.Name x px)) spos.line X.env=pure true)
 (hf:X.fn x=true∨X.env.scope.names.lookup x=some .local:=by first | exact .inl rfl | exact .inr rfl | assumption)
 (hs:∀ x,foldedSetIterable iter X.env x=pure x:=by intro _;rfl):PS X (.Assign [.Name x px] (.ListComp elt [⟨tg,iter,ifs,0⟩] scope pos) spos) (tAsg (tComp X N' js scope tg elt ifs wi) (gName i)):=by
 intro pins s σ H D I h
 rw[exec_Assign_Name_used _ _ _ _ hsw]
 refine wpAny_bind (wpAny_standAt (wpAny_bind ?_))
 show wpAny _ X.A (do let _ ← comprehension (.ListComp elt [⟨tg,iter,ifs,0⟩] scope pos) scope X.env _ (newList []) false (eval iter X.env) (some (assign (.Name x px) X.env))) _ _ s
 have hcl:closureFor scope X.env=pure (QbY X.env scope.names []):=Qzn fun y hy e=>by
  obtain⟨c,hc⟩:=I.ok.has y.1 (S.free y hy e)
  rw[hc];rfl
 refine wpAny_bind (wpAny_mono (wpAny_comprehension_free (use:=some (assign (.Name x px) X.env)) (Q:=fun _ s'=>SP X pins D .next s') rfl hs hcl S.kind S.names
  (thn (hi pins s σ H _ I h) fun v s1 h1=>thn h1 fun itv s2 h2=>?_)) (fun _ s' hq=>wpAny_pure (wpAny_pure hq)) fun _ _ e=>e)
 obtain⟨it,fp,tn,J,H2,e,I2,T,st2,f2,hW⟩:=h2
 subst e
 refine QyZ (R:=fun v H'=>D.nx (σ.set i (some v)) H') (RR:=fun acc C=>compPost (model X.prog X.w) X.A X.xe (some (assign (.Name x px) X.env)) (fun _ s'=>SP X pins D .next s') acc C) hc S I2 T st2 f2 hW ?_
 intro DD C s' H' I' ⟨m,hn⟩ hC h1 h2 h3 h4 q
 show wpAny _ X.A (assign (.Name x px) X.env (.ref DD)) _ _ s'
 refine wpAny_assign_Name (QC2 (v:=.ref DD) I' hN hx hl rfl (fun s'' I'' ⟨a,hsb,ha⟩=>?_) hf)
 have hCa:C≠a:=by
  rcases ha with rfl | ha
  ·exact h1
  ·exact Ne.symm (h3 x a ha)
 refine⟨m,hn.sameBut hsb hCa,fun h' hsb'=>⟨_,H',?_,q⟩⟩
 exact I''.turned (t':=s''.toks) (fun b o hb e=>(hsb'.2 b hb).trans e) hC h1 (.inr h2) h3 h4
end
end L2
namespace DL
open PySem PySem.Spec PyProof.Rows L2
inductive D where
 | non | bl (b:Bool) | int (i:Int) | str (x:Str)
 | lst (xs:List D) | tup (xs:List D) | dic (kvs:List (Key×D)) | ins (c:Str) (fs:List (Str×D)) | err (c:Str)
instance:Inhabited D:=⟨.non⟩
abbrev CTab:=Str->Option Addr
section
variable(K:PySem.W.Frag)(CT:CTab)(H:Hp)
mutual
def Rep:D->V->Prop
 | .non,v=>v=.non
 | .bl b,v=>v=.bl b
 | .int i,v=>v=.int i
 | .str x,v=>v=.str x
 | .lst ds,v=>∃ a vs,v=.ref a/\SqL K H a vs/\RepL ds vs
 | .tup ds,v=>∃ a vs,v=.ref a/\SqT K H a vs/\RepL ds vs
 | .dic kds,v=>∃ a kvs,v=.ref a/\Rd H a (.dK kvs)/\RepK kds kvs
 | .ins c fds,v=>∃ a C dx fs,v=.ref a/\CT c=some C/\H a=some (.ins C dx fs)/\RepF fds fs
 | .err c,v=>∃ a C,v=.ref a/\CT c=some C/\H a=some (exO a C)
def RepL:List D->List V->Prop
 | [],vs=>vs=[]
 | d::ds,vs=>∃ v r,vs=v::r/\Rep d v/\RepL ds r
def RepK:List (Key×D)->List (Key×V)->Prop
 | [],kvs=>kvs=[]
 | (k,d)::ds,kvs=>∃ v r,kvs=(k,v)::r/\Rep d v/\RepK ds r
def RepF:List (Str×D)->List (Str×V)->Prop
 | [],kvs=>kvs=[]
 | (k,d)::ds,kvs=>∃ v r,kvs=(k,v)::r/\Rep d v/\RepF ds r
end
end
section
variable{K:PySem.W.Frag}{CT:CTab}{H H':Hp}
theorem Same.sqT{a:Addr}{xs:List V}(e:Same H H')(h:SqT K H a xs):SqT K H' a xs:=by
 rcases h with(h | ⟨o,h⟩) | h
 ·exact .inl (.inl (e _ _ h))
 ·exact .inl (.inr ⟨o,e _ _ h⟩)
 ·exact .inr h
theorem Same.rd{a:Addr}{u:HO}(e:Same H H')(h:Rd H a u):Rd H' a u:=by
 rcases h with h | ⟨o,h⟩
 ·exact .inl (e _ _ h)
 ·exact .inr ⟨o,e _ _ h⟩
mutual
theorem Rep.mono(e:Same H H'):∀(d:D)(v:V),Rep K CT H d v->Rep K CT H' d v
 | .non,_,h=>h
 | .bl _,_,h=>h
 | .int _,_,h=>h
 | .str _,_,h=>h
 | .lst ds,_,⟨a,vs,h1,h2,h3⟩=>⟨a,vs,h1,e.seq h2,RepL.mono e ds vs h3⟩
 | .tup ds,_,⟨a,vs,h1,h2,h3⟩=>⟨a,vs,h1,Same.sqT e h2,RepL.mono e ds vs h3⟩
 | .dic ds,_,⟨a,vs,h1,h2,h3⟩=>⟨a,vs,h1,Same.rd e h2,RepK.mono e ds vs h3⟩
 | .ins c ds,_,⟨a,C,dx,fs,h1,h2,h3,h4⟩=>⟨a,C,dx,fs,h1,h2,e _ _ h3,RepF.mono e ds fs h4⟩
 | .err c,_,⟨a,C,h1,h2,h3⟩=>⟨a,C,h1,h2,e _ _ h3⟩
theorem RepL.mono(e:Same H H'):∀(ds:List D)(vs:List V),RepL K CT H ds vs->RepL K CT H' ds vs
 | [],_,h=>h
 | d::ds,_,⟨v,r,h1,h2,h3⟩=>⟨v,r,h1,Rep.mono e d v h2,RepL.mono e ds r h3⟩
theorem RepK.mono(e:Same H H'):∀(ds:List (Key×D))(vs:List (Key×V)),RepK K CT H ds vs->RepK K CT H' ds vs
 | [],_,h=>h
 | (k,d)::ds,_,⟨v,r,h1,h2,h3⟩=>⟨v,r,h1,Rep.mono e d v h2,RepK.mono e ds r h3⟩
theorem RepF.mono(e:Same H H'):∀(ds:List (Str×D))(vs:List (Str×V)),RepF K CT H ds vs->RepF K CT H' ds vs
 | [],_,h=>h
 | (k,d)::ds,_,⟨v,r,h1,h2,h3⟩=>⟨v,r,h1,Rep.mono e d v h2,RepF.mono e ds r h3⟩
end
theorem RepL.length:∀{ds:List D}{vs:List V},RepL K CT H ds vs->ds.length=vs.length
 | [],_,h=>by cases h;rfl
 | d::ds,_,⟨v,r,h1,h2,h3⟩=>by subst h1;simp[RepL.length h3]
theorem RepL.get:∀{ds:List D}{vs:List V}{i:Nat}{d:D},RepL K CT H ds vs->ds[i]?=some d->∃ v,vs[i]?=some v/\Rep K CT H d v
 | [],_,_,_,_,e=>by simp at e
 | d::ds,_,0,_,⟨v,r,h1,h2,h3⟩,e=>by subst h1;simp at e;subst e;exact⟨v,rfl,h2⟩
 | d::ds,_,i+1,x,⟨v,r,h1,h2,h3⟩,e=>by
  subst h1
  obtain⟨u,a,b⟩:=RepL.get (i:=i) (d:=x) h3 (by simpa using e)
  exact⟨u,by simpa using a,b⟩
theorem RepL.append:∀{ds es:List D}{vs us:List V},RepL K CT H ds vs->RepL K CT H es us->RepL K CT H (ds++es) (vs++us)
 | [],_,_,_,h,k=>by cases h;exact k
 | d::ds,_,_,_,⟨v,r,h1,h2,h3⟩,k=>by subst h1;exact⟨v,_,rfl,h2,RepL.append h3 k⟩
theorem RepL.take:∀(n:Nat){ds:List D}{vs:List V},RepL K CT H ds vs->RepL K CT H (ds.take n) (vs.take n)
 | 0,_,_,_=>by simp[RepL]
 | n+1,[],_,h=>by cases h;simp[RepL]
 | n+1,d::ds,_,⟨v,r,h1,h2,h3⟩=>by subst h1;exact⟨v,_,rfl,h2,RepL.take n h3⟩
theorem RepL.drop:∀(n:Nat){ds:List D}{vs:List V},RepL K CT H ds vs->RepL K CT H (ds.drop n) (vs.drop n)
 | 0,_,_,h=>h
 | n+1,[],_,h=>by cases h;simp[RepL]
 | n+1,d::ds,_,⟨v,r,h1,h2,h3⟩=>by subst h1;exact RepL.drop n h3
theorem RepL.one{d:D}{v:V}(h:Rep K CT H d v):RepL K CT H [d] [v]:=⟨v,[],rfl,h,rfl⟩
theorem RepL.map_int:∀(ns:List Int),RepL K CT H (ns.map D.int) (ns.map V.int)
 | []=>rfl
 | n::ns=>⟨_,_,rfl,rfl,RepL.map_int ns⟩
end
inductive Out(α:Type) where
 | ok (a:α) | exc (x:D) | stuck
namespace Out
def bind{α β:Type}:Out α->(α->Out β)->Out β
 | .ok a,f=>f a
 | .exc x,_=>.exc x
 | .stuck,_=>.stuck
instance:Monad Out where
 pure:=.ok
 bind:=bind
def post{α:Type}(o:Out α)(k:α->Prop)(x:D->Prop):Prop:=match o with
 | .ok a=>k a
 | .exc e=>x e
 | .stuck=>False
@[simp] theorem bind_ok{α β:Type}(a:α)(f:α->Out β):(Out.ok a>>=f)=f a:=rfl
@[simp] theorem bind_exc{α β:Type}(x:D)(f:α->Out β):((Out.exc x:Out α)>>=f)=.exc x:=rfl
@[simp] theorem bind_stuck{α β:Type}(f:α->Out β):((Out.stuck:Out α)>>=f)=.stuck:=rfl
@[simp] theorem QUK{α β:Type}(a:α)(f:α->Out β):(Out.ok a).bind f=f a:=rfl
@[simp] theorem QUJ{α β:Type}(x:D)(f:α->Out β):(Out.exc x:Out α).bind f=.exc x:=rfl
@[simp] theorem QUF{α β:Type}(f:α->Out β):(Out.stuck:Out α).bind f=.stuck:=rfl
@[simp] theorem pure_eq{α:Type}(a:α):(pure a:Out α)=.ok a:=rfl
theorem post_bind{α β:Type}(o:Out α)(f:α->Out β)(k:β->Prop)(x:D->Prop):(o>>=f).post k x↔o.post (fun a=>(f a).post k x) x:=by
 cases o<;>exact Iff.rfl
theorem post_mono{α:Type}{o:Out α}{k k':α->Prop}{x:D->Prop}(h:o.post k x)(hk:∀ a,k a->k' a):o.post k' x:=by
 cases o with
 | ok a=>exact hk a h
 | exc e=>exact h
 | stuck=>exact h
end Out
end DL
namespace DL
open PySem PySem.Spec PyProof.Rows L2
abbrev St:=L2.St
inductive SM where
 | k | o | l | s
abbrev SD:=List (Option (SM×D))
structure Dc where
 X:Cx
 CT:CTab
 G0:Hp
 XD:D->Prop
 /-- what is lent -/
 B:Hp
 /-- what of the entry's objects may be written -/
 M:Addr->Prop
abbrev Dc.K(C:Dc):PySem.W.Frag:=C.X.K
def Own(K:PySem.W.Frag)(CT:CTab)(G H:Hp)(p:Addr):D->Prop
 | .lst ds=>∃ vs,H p=some (.lst vs)/\RepL K CT G ds vs
 | .dic ds=>∃ kvs,H p=some (.dK kvs)/\RepK K CT G ds kvs
 | .ins c ds=>∃ A dx fs,CT c=some A/\H p=some (.ins A dx fs)/\RepF K CT G ds fs
 | _=>False
theorem Own.there{K:PySem.W.Frag}{CT:CTab}{G H:Hp}{p:Addr}:∀{d:D},Own K CT G H p d->∃ o,H p=some o
 | .lst _,⟨_,h,_⟩=>⟨_,h⟩
 | .dic _,⟨_,h,_⟩=>⟨_,h⟩
 | .ins _ _,⟨_,_,_,_,h,_⟩=>⟨_,h⟩
 | .non,h=>h.elim
 | .bl _,h=>h.elim
 | .int _,h=>h.elim
 | .str _,h=>h.elim
 | .tup _,h=>h.elim
theorem Own.mono{K:PySem.W.Frag}{CT:CTab}{G G' H H':Hp}{p:Addr}(g:Same G G')(h:∀ o,H p=some o->H' p=some o):∀{d:D},Own K CT G H p d->Own K CT G' H' p d
 | .lst ds,⟨vs,a,b⟩=>⟨vs,h _ a,RepL.mono g ds vs b⟩
 | .dic ds,⟨vs,a,b⟩=>⟨vs,h _ a,RepK.mono g ds vs b⟩
 | .ins _ ds,⟨A,dx,fs,e,a,b⟩=>⟨A,dx,fs,e,h _ a,RepF.mono g ds fs b⟩
 | .non,h=>h.elim
 | .bl _,h=>h.elim
 | .int _,h=>h.elim
 | .str _,h=>h.elim
 | .tup _,h=>h.elim
theorem Own.rep{K:PySem.W.Frag}{CT:CTab}{G H:Hp}{p:Addr}(g:Same G H):∀{d:D},Own K CT G H p d->Rep K CT H d (.ref p)
 | .lst ds,⟨vs,a,b⟩=>⟨p,vs,rfl,SqL.of a,RepL.mono g ds vs b⟩
 | .dic ds,⟨vs,a,b⟩=>⟨p,vs,rfl,Rd.of a,RepK.mono g ds vs b⟩
 | .ins _ ds,⟨A,dx,fs,e,a,b⟩=>⟨p,A,dx,fs,rfl,e,a,RepF.mono g ds fs b⟩
 | .non,h=>h.elim
 | .bl _,h=>h.elim
 | .int _,h=>h.elim
 | .str _,h=>h.elim
 | .tup _,h=>h.elim
structure GH(C:Dc)(G H:Hp):Prop where
 sub:Same G H
 g0:Same C.G0 G
 new:∀ b,C.G0 b=none->G b≠none->C.X.H₀ b=none
 fr:∀ b o,C.X.H₀ b=some o->¬ C.M b->H b=some o
 dom:∀ b,H b=none->C.X.H₀ b=none
 bs:Same C.B H
 bh:∀ b,C.X.H₀ b=none->C.B b=none
structure StR(C:Dc)(G H:Hp)(σ:St)(ς:SD):Prop extends GH C G H where
 len:σ.length=ς.length
 fz:∀(i:Nat) d,ς[i]?=some (some (.k,d))->∃ v,σ[i]?=some (some v)/\Rep C.X.K C.CT G d v
 ow:∀(i:Nat) d,ς[i]?=some (some (.o,d))->∃ p,σ[i]?=some (some (.ref p))/\G p=none/\C.X.H₀ p=none/\Own C.X.K C.CT G H p d
 ln:∀(i:Nat) d,ς[i]?=some (some (.l,d))->∃ v,σ[i]?=some (some v)/\Rep C.X.K C.CT C.B d v
 inj:∀(i j:Nat) d e p,i≠j->ς[i]?=some (some (.o,d))->ς[j]?=some (some (.o,e))->σ[i]?=some (some (.ref p))->σ[j]?≠some (some (.ref p))
 sf:∀(i:Nat) d,ς[i]?=some (some (.s,d))->∃ p,σ[i]?=some (some (.ref p))/\G p=none/\C.X.H₀ p≠none/\C.M p/\C.B p=none/\Own C.X.K C.CT G H p d
 su:∀(i j:Nat) d e,ς[i]?=some (some (.s,d))->ς[j]?=some (some (.s,e))->i=j
section
variable{C:Dc}{G G' H H':Hp}{σ:St}{ς:SD}
theorem GH.gnone(S:GH C G H){p:Addr}(h:H p=none):G p=none:=S.sub.free h
theorem GH.h0none(S:GH C G H){p:Addr}(h:H p=none):C.X.H₀ p=none:=S.dom p h
theorem QD{H:Hp}{p:Addr}{o:HO}(h:H p=none):Same H (upd H p o):=fun b u e=>by
 rw[Ql (Q0 e h)];exact e
theorem Qvq{G H:Hp}{p:Addr}{o:HO}(s:Same G H):Same (upd G p o) (upd H p o):=fun b u e=>by
 by_cases hb:b=p
 ·subst hb;rw[QU]at e ⊢;exact e
 ·rw[Ql hb]at e ⊢;exact s b u e
theorem GH.grow(S:GH C G H)(hH:Same H H')(hG:Same G G')(hs:Same G' H')(hn:∀ b,G b=none->G' b≠none->H b=none):GH C G' H' where
 sub:=hs
 g0:=S.g0.trans hG
 new:=fun b h0 h1=>by
  cases q:G b with
  | none=>exact S.h0none (hn b q h1)
  | some o=>exact S.new b h0 (by rw[q];simp)
 fr:=fun b o e m=>hH b o (S.fr b o e m)
 dom:=fun b e=>S.dom b (hH.free e)
 bs:=S.bs.trans hH
 bh:=S.bh
theorem StR.own_ne(S:StR C G H σ ς){i:Nat}{d:D}{p:Addr}(h:ς[i]?=some (some (.o,d)))(hp:σ[i]?=some (some (.ref p))):∃ o,H p=some o:=by
 obtain⟨q,e,_,_,o⟩:=S.ow i d h
 rw[hp]at e;cases e
 exact o.there
theorem StR.grow(S:StR C G H σ ς)(hH:Same H H')(hG:Same G G')(hs:Same G' H')(hn:∀ b,G b=none->G' b≠none->H b=none):StR C G' H' σ ς where
 toGH:=S.toGH.grow hH hG hs hn
 len:=S.len
 fz:=fun i d e=>let ⟨v,a,b⟩:=S.fz i d e;⟨v,a,Rep.mono hG d v b⟩
 ow:=fun i d e=>by
  obtain⟨p,a,b,c,o⟩:=S.ow i d e
  refine⟨p,a,?_,c,o.mono hG fun u q=>hH _ _ q⟩
  cases q:G' p with
  | none=>rfl
  | some u=>
   obtain⟨w,hw⟩:=o.there
   have:=hn p b (by rw[q];simp)
   rw[hw]at this;cases this
 ln:=S.ln
 inj:=S.inj
 sf:=fun i d e=>by
  obtain⟨p,a,b,c,m,z,o⟩:=S.sf i d e
  refine⟨p,a,?_,c,m,z,o.mono hG fun u q=>hH _ _ q⟩
  cases q:G' p with
  | none=>rfl
  | some u=>
   obtain⟨w,hw⟩:=o.there
   have:=hn p b (by rw[q];simp)
   rw[hw]at this;cases this
 su:=S.su
theorem StR.alloc(S:StR C G H σ ς){p:Addr}{o:HO}(h:H p=none):StR C (upd G p o) (upd H p o) σ ς:=
 S.grow (QD h) (QD (S.sub.free h)) (Qvq S.sub) fun b g n=>by
  by_cases hb:b=p
  ·subst hb;exact h
  ·rw[Ql hb,g]at n;exact absurd rfl n
theorem StR.allocO(S:StR C G H σ ς){p:Addr}{o:HO}(h:H p=none):StR C G (upd H p o) σ ς:=
 S.grow (QD h) (Same.refl G) (S.sub.trans (QD h)) fun b g n=>absurd g n
end
def KD(C:Dc)(G H:Hp)(σ:St)(ς:SD)(Q:VK)(d:D):Prop:=∀ v H' G',StR C G' H' σ ς->Same H H'->Same G G'->Rep C.X.K C.CT G' d v->Q v H'
def KB(C:Dc)(G H:Hp)(σ:St)(ς:SD)(Q:VK)(d:D):Prop:=∀ v H' G',StR C G' H' σ ς->Same H H'->Same G G'->Rep C.X.K C.CT H' d v->Q v H'
def KF(C:Dc)(G H:Hp)(σ:St)(ς:SD)(Q:VK)(d:D):Prop:=∀ p H' G',StR C G' H' σ ς->Same H H'->Same G G'->H p=none->G' p=none->Own C.X.K C.CT G' H' p d->Q (.ref p) H'
def DE(C:Dc)(e:Expr)(E:SD->Out D):Prop:=∃ t,PE C.X e t/\∀ G H σ ς Q,StR C G H σ ς->(E ς).post (KD C G H σ ς Q) C.XD->t σ H Q
def DB(C:Dc)(e:Expr)(E:SD->Out D):Prop:=∃ t,PE C.X e t/\∀ G H σ ς Q,StR C G H σ ς->(E ς).post (KB C G H σ ς Q) C.XD->t σ H Q
def DF(C:Dc)(e:Expr)(E:SD->Out D):Prop:=∃ t,PE C.X e t/\∀ G H σ ς Q,StR C G H σ ς->(E ς).post (KF C G H σ ς Q) C.XD->t σ H Q
def KT(C:Dc)(G H:Hp)(σ:St)(ς:SD)(Q:Bool->Hp->Prop)(b:Bool):Prop:=∀ H' G',StR C G' H' σ ς->Same H H'->Same G G'->Q b H'
def DT(C:Dc)(e:Expr)(T:SD->Out Bool):Prop:=∃ t,PT C.X e t/\∀ G H σ ς Q,StR C G H σ ς->(T ς).post (KT C G H σ ς Q) C.XD->t σ H Q
def DW(C:Dc)(e:Expr)(T:SD->Out Bool):Prop:=∃ t,PW C.X e t/\∀ G H σ ς Q,StR C G H σ ς->(T ς).post (KT C G H σ ς Q) C.XD->t σ H Q
def DA(C:Dc)(es:List Expr)(A:SD->Out (List D)):Prop:=∃ t,PA C.X es t/\∀ G H σ ς Q,StR C G H σ ς->
 (A ς).post (fun ds=>∀ vs H' G',StR C G' H' σ ς->Same H H'->Same G G'->RepL C.X.K C.CT G' ds vs->Q vs H') C.XD->t σ H Q
def DAB(C:Dc)(es:List Expr)(A:SD->Out (List D)):Prop:=∃ t,PA C.X es t/\∀ G H σ ς Q,StR C G H σ ς->
 (A ς).post (fun ds=>∀ vs H' G',StR C G' H' σ ς->Same H H'->Same G G'->RepL C.X.K C.CT H' ds vs->Q vs H') C.XD->t σ H Q
inductive Fl where
 | nx (ς:SD) | rt (fr:Bool) (d:D) | bk (ς:SD) | ct (ς:SD)
def RetR(K:PySem.W.Frag)(CT:CTab)(fr:Bool)(H0 G' H':Hp)(d:D)(v:V):Prop:=
 if fr=true then ∃ p,v=.ref p/\H0 p=none/\G' p=none/\Own K CT G' H' p d else Rep K CT G' d v
def FlK(C:Dc)(G:Hp)(W:Ends):Fl->Prop
 | .nx ς'=>∀ σ' H' G',StR C G' H' σ' ς'->Same G G'->W.nx σ' H'
 | .bk ς'=>∀ σ' H' G',StR C G' H' σ' ς'->Same G G'->W.bk σ' H'
 | .ct ς'=>∀ σ' H' G',StR C G' H' σ' ς'->Same G G'->W.ct σ' H'
 | .rt fr d=>∀ v H' G',GH C G' H'->Same G G'->RetR C.X.K C.CT fr C.X.H₀ G' H' d v->W.rt v H'
def DS(C:Dc)(st:Stmt)(T:SD->Out Fl):Prop:=∃ t,PS C.X st t/\∀ G H σ ς W,StR C G H σ ς->(T ς).post (FlK C G W) C.XD->t W σ H
def DSs(C:Dc)(st:List Stmt)(T:SD->Out Fl):Prop:=∃ t,PSs C.X st t/\∀ G H σ ς W,StR C G H σ ς->(T ς).post (FlK C G W) C.XD->t W σ H
section
variable{C:Dc}{e:Expr}{E:SD->Out D}
theorem StR.freeze{G H:Hp}{σ:St}{ς:SD}(S:StR C G H σ ς){p:Addr}{o:HO}(hp:H p=some o)(hg:G p=none)(h0:C.X.H₀ p=none)(hn:∀(i:Nat) d,ς[i]?=some (some (.o,d))->σ[i]?≠some (some (.ref p))):StR C (upd G p o) H σ ς where
 sub:=fun b u q=>by
  by_cases hb:b=p
  ·subst hb;rw[QU]at q;cases q;exact hp
  ·rw[Ql hb]at q;exact S.sub b u q
 g0:=S.g0.trans (QD hg)
 new:=fun b h1 h2=>by
  by_cases hb:b=p
  ·subst hb;exact h0
  ·rw[Ql hb]at h2;exact S.new b h1 h2
 fr:=S.fr
 dom:=S.dom
 bs:=S.bs
 bh:=S.bh
 len:=S.len
 fz:=fun i d q=>let ⟨v,a,b⟩:=S.fz i d q;⟨v,a,Rep.mono (QD hg) d v b⟩
 ow:=fun i d q=>by
  obtain⟨r,a,b,c,w⟩:=S.ow i d q
  refine⟨r,a,?_,c,w.mono (QD hg) fun _ z=>z⟩
  rw[Ql (by rintro rfl;exact hn i d q a)];exact b
 ln:=S.ln
 inj:=S.inj
 sf:=fun i d q=>by
  obtain⟨r,a,b,c,m,z,w⟩:=S.sf i d q
  refine⟨r,a,?_,c,m,z,w.mono (QD hg) fun _ z=>z⟩
  rw[Ql (by rintro rfl;exact c h0)];exact b
 su:=S.su
theorem Own.known{K:PySem.W.Frag}{CT:CTab}{G H:Hp}{p:Addr}{o:HO}(hg:G p=none)(hp:H p=some o):∀{d:D},Own K CT G H p d->Rep K CT (upd G p o) d (.ref p)
 | .lst ds,⟨vs,a,b⟩=>by rw[hp]at a;cases a;exact⟨p,vs,rfl,SqL.of QU,RepL.mono (QD hg) ds vs b⟩
 | .dic ds,⟨vs,a,b⟩=>by rw[hp]at a;cases a;exact⟨p,vs,rfl,Rd.of QU,RepK.mono (QD hg) ds vs b⟩
 | .ins _ ds,⟨A,dx,fs,e,a,b⟩=>by rw[hp]at a;cases a;exact⟨p,A,dx,fs,rfl,e,QU,RepF.mono (QD hg) ds fs b⟩
 | .non,h=>h.elim
 | .bl _,h=>h.elim
 | .int _,h=>h.elim
 | .str _,h=>h.elim
 | .tup _,h=>h.elim
theorem StR.new_ne{G H:Hp}{σ:St}{ς:SD}(S:StR C G H σ ς){p:Addr}(h:H p=none):∀(i:Nat) d,ς[i]?=some (some (.o,d))->σ[i]?≠some (some (.ref p)):=fun i d q z=>by
 obtain⟨o,w⟩:=S.own_ne q z
 rw[h]at w;cases w
theorem KD.ofF{G H:Hp}{σ:St}{ς:SD}{Q:VK}{d:D}(S:StR C G H σ ς)(k:KD C G H σ ς Q d):KF C G H σ ς Q d:=fun p H' G' S' hH hG hp hg ow=>by
 obtain⟨o,ho⟩:=ow.there
 exact k _ _ _ (S'.freeze ho hg (S.h0none hp) (S.new_ne hp)) hH (hG.trans (QD hg)) (ow.known hg ho)
theorem DF.de(h:DF C e E):DE C e E:=by
 obtain⟨t,h1,h2⟩:=h
 refine⟨t,h1,fun G H σ ς Q S q=>h2 G H σ ς Q S (Out.post_mono q fun d k=>KD.ofF S k)⟩
theorem DE.db(h:DE C e E):DB C e E:=by
 obtain⟨t,h1,h2⟩:=h
 refine⟨t,h1,fun G H σ ς Q S q=>h2 G H σ ς Q S (Out.post_mono q fun d k v H' G' S' a b r=>k v H' G' S' a b (Rep.mono S'.sub d v r))⟩
def D.scal:D->Bool
 | .non=>true
 | .bl _=>true
 | .int _=>true
 | .str _=>true
 | _=>false
theorem Rep.scal{K:PySem.W.Frag}{CT:CTab}{G H:Hp}:∀{d:D}{v:V},d.scal=true->Rep K CT H d v->Rep K CT G d v
 | .non,_,_,h=>h
 | .bl _,_,_,h=>h
 | .int _,_,_,h=>h
 | .str _,_,_,h=>h
theorem KD.now{G H:Hp}{σ:St}{ς:SD}{Q:VK}{d:D}{v:V}(k:KD C G H σ ς Q d)(S:StR C G H σ ς)(r:Rep C.X.K C.CT G d v):Q v H:=k v H G S (Same.refl H) (Same.refl G) r
theorem KT.now{G H:Hp}{σ:St}{ς:SD}{Q:Bool->Hp->Prop}{b:Bool}(k:KT C G H σ ς Q b)(S:StR C G H σ ς):Q b H:=k H G S (Same.refl H) (Same.refl G)
theorem KD.later{G H G1 H1:Hp}{σ:St}{ς:SD}{Q:VK}{d:D}(k:KD C G H σ ς Q d)(hH:Same H H1)(hG:Same G G1):KD C G1 H1 σ ς Q d:=fun v H' G' S a b r=>k v H' G' S (hH.trans a) (hG.trans b) r
theorem KT.later{G H G1 H1:Hp}{σ:St}{ς:SD}{Q:Bool->Hp->Prop}{d:Bool}(k:KT C G H σ ς Q d)(hH:Same H H1)(hG:Same G G1):KT C G1 H1 σ ς Q d:=fun H' G' S a b=>k H' G' S (hH.trans a) (hG.trans b)
theorem KF.later{G H G1 H1:Hp}{σ:St}{ς:SD}{Q:VK}{d:D}(k:KF C G H σ ς Q d)(hH:Same H H1)(hG:Same G G1):KF C G1 H1 σ ς Q d:=fun p H' G' S a b hp hg ow=>k p H' G' S (hH.trans a) (hG.trans b) (hH.free hp) hg ow
theorem KF.lst{G H:Hp}{σ:St}{ς:SD}{Q:VK}{ds:List D}{vs:List V}(k:KF C G H σ ς Q (.lst ds))(S:StR C G H σ ς)(r:RepL C.X.K C.CT G ds vs):∀ p,H p=none->Q (.ref p) (upd H p (.lst vs)):=fun p hp=>
 k p _ G (S.allocO hp) (QD hp) (Same.refl G) hp (S.gnone hp) ⟨vs,QU,r⟩
theorem KD.tup{G H:Hp}{σ:St}{ς:SD}{Q:VK}{ds:List D}{vs:List V}(k:KD C G H σ ς Q (.tup ds))(S:StR C G H σ ς)(r:RepL C.X.K C.CT G ds vs):∀ p,H p=none->Q (.ref p) (upd H p (.tup vs)):=fun p hp=>
 k _ _ _ (S.alloc hp) (QD hp) (QD (S.gnone hp)) ⟨p,vs,rfl,SqT.of QU,RepL.mono (QD (S.gnone hp)) ds vs r⟩
end
end DL
namespace DL
open PySem PySem.Spec PyProof.Rows L2
def eVar(i:Nat):SD->Out D:=fun ς=>match ς[i]? with | some (some (.k,d))=>.ok d | _=>.stuck
def eC(d:D):SD->Out D:=fun _=>.ok d
section
variable{C:Dc}{pos:Pos}
theorem QPR{i:Nat}{ς:SD}{k:D->Prop}{x:D->Prop}(h:(eVar i ς).post k x):∃ d,ς[i]?=some (some (.k,d))/\k d:=by
 unfold eVar at h
 split at h
 ·rename_i d e;exact⟨d,e,h⟩
 ·exact h.elim
theorem Qb(i:Nat){x:Str}(hN:C.X.N[i]?=some x:=by rfl)(hv:Vis C.X.env.scope x:=by first | exact Or.inl rfl | exact Or.inr (Or.inl rfl) | exact Or.inr (Or.inr rfl))
 (hd:(x == ("__debug__":Str))=false:=by decide) (hcd:(x == ("__classdict__":Str))=false:=by decide):DE C (.Name x pos) (eVar i):=by
 refine⟨_,QnT (i:=i) hN hv hd hcd,fun G H σ ς Q S q=>?_⟩
 obtain⟨d,e,k⟩:=QPR q
 obtain⟨v,a,b⟩:=S.fz i d e
 exact⟨v,a,k.now S b⟩
theorem Qe{i:Int}{j}:DE C (.Constant (.int i) j pos) (eC (.int i)):=⟨_,QSW,fun G H σ ς Q S q=>KD.now q S rfl⟩
theorem de_bl{b:Bool}{j}:DE C (.Constant (.bool b) j pos) (eC (.bl b)):=⟨_,pe_bl,fun G H σ ς Q S q=>KD.now q S rfl⟩
theorem QUd{j}:DE C (.Constant .none j pos) (eC .non):=⟨_,QTg,fun G H σ ς Q S q=>KD.now q S rfl⟩
theorem Qn9{x:Str}{j}:DE C (.Constant (.str x) j pos) (eC (.str x)):=⟨_,QTM,fun G H σ ς Q S q=>KD.now q S rfl⟩
def toV:D->V
 | .bl b=>.bl b
 | .int i=>.int i
 | .str x=>.str x
 | _=>.non
theorem QB5{K:PySem.W.Frag}{CT:CTab}{H:Hp}:∀{d:D},d.scal=true->Rep K CT H d (toV d)
 | .non,_=>rfl
 | .bl _,_=>rfl
 | .int _,_=>rfl
 | .str _,_=>rfl
theorem QfM{x:Str}{d:D}{u:Value}(hg:Gl C.X x)(hm:C.X.mg x=some u)(hs:d.scal=true)(r:RelV (toV d) u)(hd:(x == ("__debug__":Str))=false:=by decide):DE C (.Name x pos) (eC d):=
 ⟨_,Qq0 hg hm r hd,fun G H σ ς Q S q=>KD.now q S (QB5 hs)⟩
end
def e1(f:D->Out D)(a:SD->Out D):SD->Out D:=fun ς=>a ς>>=f
def e2(f:D->D->Out D)(a b:SD->Out D):SD->Out D:=fun ς=>a ς>>=fun x=>b ς>>=fun y=>f x y
def DRS(C:Dc)(r:R2)(f:D->D->Out D):Prop:=∀ G H σ ς (Q:VK) x y vx vy,StR C G H σ ς->Rep C.X.K C.CT H x vx->Rep C.X.K C.CT H y vy->
 (f x y).post (fun d=>d.scal=true/\Q (toV d) H) (fun _=>False)->r vx vy H Q
def scal2(f:D->D->Out D):Prop:=∀ x y,match f x y with | .ok d=>d.scal=true | .exc _=>False | .stuck=>True
section
variable{C:Dc}{a b c:Expr}{A B A':SD->Out D}{pos:Pos}
theorem Qoj{o:Out D}{G H:Hp}{σ:St}{ς:SD}{Q:VK}(S:StR C G H σ ς)(hs:match o with | .ok d=>d.scal=true | .exc _=>False | .stuck=>True)(q:o.post (KD C G H σ ς Q) C.XD):
 o.post (fun d=>d.scal=true/\Q (toV d) H) (fun _=>False):=by
 cases o with
 | ok d=>exact⟨hs,KD.now q S (QB5 hs)⟩
 | exc _=>exact hs
 | stuck=>exact q
theorem dop{t:TE}{r:R2}{f:D->D->Out D}{ta tb:TE}(hr:DRS C r f)(hs:scal2 f)
 (h1:∀ G H σ ς Q,StR C G H σ ς->(A ς).post (KB C G H σ ς Q) C.XD->ta σ H Q) (h2:∀ G H σ ς Q,StR C G H σ ς->(B ς).post (KB C G H σ ς Q) C.XD->tb σ H Q):
 ∀ G H σ ς Q,StR C G H σ ς->(e2 f A B ς).post (KD C G H σ ς Q) C.XD->tOp r ta tb σ H Q:=by
 intro G H σ ς Q S q
 unfold e2 at q
 rw[Out.post_bind]at q
 refine h1 G H σ ς _ S (Out.post_mono q fun x k v1 H1 G1 S1 a1 b1 r1=>?_)
 rw[Out.post_bind]at k
 refine h2 G1 H1 σ ς _ S1 (Out.post_mono k fun y k2 v2 H2 G2 S2 a2 b2 r2=>?_)
 refine hr G2 H2 σ ς _ x y v1 v2 S2 (Rep.mono a2 x v1 r1) r2 (Qoj S2 (hs x y) ?_)
 exact Out.post_mono k2 fun d kd=>KD.later kd (a1.trans a2) (b1.trans b2)
theorem de_op{op:Operator}{r:R2}{f:D->D->Out D}(ho:OpR C.X (binaryOp op) r)(hr:DRS C r f)(hs:scal2 f)(ha:DB C a A)(hb:DB C b B):DE C (.BinOp a op b pos) (e2 f A B):=by
 obtain⟨ta,p1,q1⟩:=ha
 obtain⟨tb,p2,q2⟩:=hb
 exact⟨_,pe_op ho p1 p2,dop (t:=ta) hr hs q1 q2⟩
theorem QFT{op:CmpOp}{r:R2}{f:D->D->Out D}(ho:OpR C.X (compareOp op) r)(hr:DRS C r f)(hs:scal2 f)(ha:DB C a A)(hb:DB C b B)(hm:behindInMarks op b=false):DE C (.Compare a [op] [b] pos) (e2 f A B):=by
 obtain⟨ta,p1,q1⟩:=ha
 obtain⟨tb,p2,q2⟩:=hb
 exact⟨_,QSj ho p1 p2 hm,dop (t:=ta) hr hs q1 q2⟩
def tVal(a:SD->Out D):SD->Out Bool:=fun ς=>a ς>>=fun d=>match d with | .bl b=>.ok b | _=>.stuck
theorem Qu4{o:Out D}{G H:Hp}{σ:St}{ς:SD}{Q:Bool->Hp->Prop}(q:(o>>=fun d=>match d with | .bl b=>Out.ok b | _=>.stuck).post (KT C G H σ ς Q) C.XD):
 o.post (KD C G H σ ς fun x H'=>∃ k,x=.bl k/\Q k H') C.XD:=by
 rw[Out.post_bind]at q
 refine Out.post_mono q fun d k v H' G' S' a b r=>?_
 cases d with
 | bl c=>exact⟨c,r,k H' G' S' a b⟩
 | _=>exact k.elim
theorem Qq5{op:CmpOp}{r:R2}{f:D->D->Out D}(ho:OpR C.X (compareOp op) r)(hr:DRS C r f)(hs:scal2 f)(ha:DB C a A)(hb:DB C b B)(hm:behindInMarks op b=false):DT C (.Compare a [op] [b] pos) (tVal (e2 f A B)):=by
 obtain⟨ta,p1,q1⟩:=ha
 obtain⟨tb,p2,q2⟩:=hb
 exact⟨_,QRl ho p1 p2 hm,fun G H σ ς Q S q=>dop (t:=ta) hr hs q1 q2 G H σ ς _ S (Qu4 q)⟩
theorem QaI(h:DE C a A)(he:∀ whole,isTrue a C.X.env whole=(do let v ← whole;standAt a.pos;holding [v] (truthy v)):=by intro _;rfl):DT C a (tVal A):=by
 obtain⟨ta,p1,q1⟩:=h
 exact⟨_,QTT p1 he,fun G H σ ς Q S q=>q1 G H σ ς _ S (Qu4 q)⟩
def Qgl(f g:D->D->Out D)(a b c:SD->Out D):SD->Out D:=fun ς=>a ς>>=fun x=>b ς>>=fun y=>f x y>>=fun z=>match z with
 | .bl true=>c ς>>=fun w=>g y w
 | .bl false=>.ok (.bl false)
 | _=>.stuck
theorem QNR{r r':R2}{f g:D->D->Out D}{ta tb tc:TE}(hr:DRS C r f)(hs:scal2 f)(hr':DRS C r' g)(hs':scal2 g)
 (h1:∀ G H σ ς Q,StR C G H σ ς->(A ς).post (KB C G H σ ς Q) C.XD->ta σ H Q) (h2:∀ G H σ ς Q,StR C G H σ ς->(B ς).post (KB C G H σ ς Q) C.XD->tb σ H Q)
 (h3:∀ G H σ ς Q,StR C G H σ ς->(A' ς).post (KB C G H σ ς Q) C.XD->tc σ H Q):
 ∀ G H σ ς Q,StR C G H σ ς->(Qgl f g A B A' ς).post (KD C G H σ ς Q) C.XD->QHJ r r' ta tb tc σ H Q:=by
 intro G H σ ς Q S q
 unfold Qgl at q
 rw[Out.post_bind]at q
 refine h1 G H σ ς _ S (Out.post_mono q fun x k v1 H1 G1 S1 a1 b1 r1=>?_)
 rw[Out.post_bind]at k
 refine h2 G1 H1 σ ς _ S1 (Out.post_mono k fun y k2 v2 H2 G2 S2 a2 b2 r2=>?_)
 rw[Out.post_bind]at k2
 refine hr G2 H2 σ ς _ x y v1 v2 S2 (Rep.mono a2 x v1 r1) r2 ?_
 have hxy:=hs x y
 cases e:f x y with
 | exc _=>rw[e]at hxy;exact hxy
 | stuck=>rw[e]at k2;exact k2.elim
 | ok z=>
  rw[e]at k2
  refine⟨by rw[e]at hxy;exact hxy,?_⟩
  cases z with
  | bl cc=>
   refine⟨cc,rfl,?_⟩
   cases cc with
   | false=>exact iteF (KD.now (KD.later (show KD C G H σ ς Q (.bl false) from k2) (a1.trans a2) (b1.trans b2)) S2 rfl)
   | true=>
    refine iteT (h3 G2 H2 σ ς _ S2 ?_)
    have k2':(A' ς>>=fun w=>g y w).post (KD C G H σ ς Q) C.XD:=k2
    rw[Out.post_bind]at k2'
    refine Out.post_mono k2' fun w k3 v3 H3 G3 S3 a3 b3 r3=>?_
    refine hr' G3 H3 σ ς _ y w v2 v3 S3 (Rep.mono a3 y v2 r2) r3 (Qoj S3 (hs' y w) ?_)
    exact Out.post_mono k3 fun d kd=>KD.later kd ((a1.trans a2).trans a3) ((b1.trans b2).trans b3)
  | _=>exact k2.elim
theorem QHa{op op':CmpOp}{r r':R2}{f g:D->D->Out D}(ho:OpR C.X (compareOp op) r)(hr:DRS C r f)(hs:scal2 f)(ho':OpR C.X (compareOp op') r')(hr':DRS C r' g)(hs':scal2 g)
 (ha:DB C a A) (hb:DB C b B) (hc:DB C c A') (hm:lastMarks [op,op'] [b,c]=false:=by with_unfolding_all rfl):DE C (.Compare a [op,op'] [b,c] pos) (Qgl f g A B A'):=by
 obtain⟨ta,p1,q1⟩:=ha
 obtain⟨tb,p2,q2⟩:=hb
 obtain⟨tc,p3,q3⟩:=hc
 exact⟨_,QQG ho ho' p1 p2 p3 hm,QNR hr hs hr' hs' q1 q2 q3⟩
theorem QGj{op op':CmpOp}{r r':R2}{f g:D->D->Out D}(ho:OpR C.X (compareOp op) r)(hr:DRS C r f)(hs:scal2 f)(ho':OpR C.X (compareOp op') r')(hr':DRS C r' g)(hs':scal2 g)
 (ha:DB C a A) (hb:DB C b B) (hc:DB C c A') (hm:lastMarks [op,op'] [b,c]=false:=by with_unfolding_all rfl):DT C (.Compare a [op,op'] [b,c] pos) (tVal (Qgl f g A B A')):=by
 obtain⟨ta,p1,q1⟩:=ha
 obtain⟨tb,p2,q2⟩:=hb
 obtain⟨tc,p3,q3⟩:=hc
 exact⟨_,QQQ ho ho' p1 p2 p3 hm,fun G H σ ς Q S q=>QNR hr hs hr' hs' q1 q2 q3 G H σ ς _ S (Qu4 q)⟩
end
section
variable{C:Dc}
def dI(cnd:Int->Int->Bool)(g:Int->Int->D):D->D->Out D
 | .int i,.int j=>if cnd i j=true then .ok (g i j) else .stuck
 | _,_=>.stuck
def dI0(g:Int->Int->D):D->D->Out D
 | .int i,.int j=>.ok (g i j)
 | _,_=>.stuck
theorem Qas{α:Type}{c:Prop}[Decidable c]{a b:Out α}{k:α->Prop}{x:D->Prop}(h:(if c then a else b).post k x):(c/\a.post k x)∨(¬ c/\b.post k x):=by
 by_cases e:c
 ·rw[if_pos e]at h;exact .inl ⟨e,h⟩
 ·rw[if_neg e]at h;exact .inr ⟨e,h⟩
theorem QnJ{c:Prop}[Decidable c]{d:D}(h:d.scal=true):match (if c then Out.ok d else Out.stuck:Out D) with | .ok d=>d.scal=true | .exc _=>False | .stuck=>True:=by
 by_cases e:c
 ·rw[if_pos e];exact h
 ·rw[if_neg e];exact True.intro
theorem QvO{cnd:Int->Int->Bool}{g:Int->Int->D}(h:∀ i j,(g i j).scal=true):scal2 (dI cnd g):=by
 intro x y
 cases x with
 | int i=>
  cases y with
  | int j=>exact QnJ (h i j)
  | _=>exact True.intro
 | _=>exact True.intro
theorem QcF{g:Int->Int->D}(h:∀ i j,(g i j).scal=true):scal2 (dI0 g):=by
 intro x y
 cases x<;>cases y<;>simp[dI0,h]
theorem Qyu{cnd:Int->Int->Bool}{P:Int->Int->Prop}{g:Int->Int->D}(hP:∀ i j,cnd i j=true->P i j):DRS C (rI P fun i j=>toV (g i j)) (dI cnd g):=by
 intro G H σ ς Q x y vx vy S hx hy q
 cases x with
 | int i=>
  cases y with
  | int j=>
   cases hx;cases hy
   refine⟨i,j,rfl,rfl,?_⟩
   rcases Qas (show(if cnd i j=true then Out.ok (g i j) else Out.stuck).post _ _ from q) with⟨hc,q⟩ | ⟨hc,q⟩
   ·exact⟨hP i j hc,q.2⟩
   ·exact q.elim
  | _=>exact q.elim
 | _=>exact q.elim
theorem Qdo{g:Int->Int->D}:DRS C (rI0 fun i j=>toV (g i j)) (dI0 g):=by
 intro G H σ ς Q x y vx vy S hx hy q
 cases x with
 | int i=>
  cases y with
  | int j=>
   cases hx;cases hy
   exact⟨i,j,rfl,rfl,q.2⟩
  | _=>exact q.elim
 | _=>exact q.elim
variable{a b c:Expr}{A B:SD->Out D}{pos:Pos}
def dSub:D->D->Out D:=dI0 fun i j=>.int (i - j)
def big(i:Int):Bool:=decide (i.natAbs<2 ^ 9000)
def dMul:D->D->Out D:=dI (fun i j=>decide (Builtin.Int.intBits i+Builtin.Int.intBits j<=134217728)) fun i j=>.int (i * j)
def dFdiv:D->D->Out D:=dI (fun i j=>decide (j≠0)&&big j) fun i j=>.int (i.fdiv j)
def dMod:D->D->Out D:=dI (fun i j=>decide (j≠0)) fun i j=>.int (i.fmod j)
def dPow:D->D->Out D:=dI (fun i j=>decide (0<=j)&&decide (j<=1000000)&&decide (i.natAbs<2 ^ 64)) fun i j=>.int (i ^ j.toNat)
theorem QPZ{i:Int}(h:big i=true):i.natAbs.log2<9000:=by
 have h':i.natAbs<2 ^ 9000:=of_decide_eq_true h
 by_cases z:i.natAbs=0
 ·rw[z];decide
 ·exact(Nat.log2_lt z).mpr h'
theorem QRA{X:Cx}:OpR X (binaryOp .Mult) (rI IntMulOk fun i j=>.int (i * j)):=opI fun _ _ _ _ _ _ _ hc q=>mul_int q hc
def CDivB(i j:Int):Prop:=j≠0/\j.natAbs.log2<9000
theorem QQd{X:Cx}:OpR X (binaryOp .FloorDiv) (rI CDivB fun i j=>.int (i.fdiv j)):=opI fun _ _ _ _ _ _ _ hc q=>floordiv_int hc.1 q (.inl (PyProof.noPylong_of_log2 hc.2))
theorem Qdg(ha:DB C a A)(hb:DB C b B):DE C (.BinOp a .Sub b pos) (e2 dSub A B):=de_op QTk Qdo (QcF fun _ _=>rfl) ha hb
theorem Qa2(ha:DB C a A)(hb:DB C b B):DE C (.BinOp a .Mult b pos) (e2 dMul A B):=de_op QRA (Qyu fun i j h=>IntMulOk.of_le (Nat.le_refl _) (Nat.le_refl _) (of_decide_eq_true h)) (QvO fun _ _=>rfl) ha hb
theorem QbE(ha:DB C a A)(hb:DB C b B):DE C (.BinOp a .FloorDiv b pos) (e2 dFdiv A B):=de_op QQd (Qyu fun i j h=>by
 rw[Bool.and_eq_true]at h
 exact⟨of_decide_eq_true h.1,QPZ h.2⟩) (QvO fun _ _=>rfl) ha hb
theorem QaN(ha:DB C a A)(hb:DB C b B):DE C (.BinOp a .Mod b pos) (e2 dMod A B):=de_op QSE (Qyu fun i j h=>of_decide_eq_true h) (QvO fun _ _=>rfl) ha hb
theorem QAd(ha:DB C a A)(hb:DB C b B):DE C (.BinOp a .Pow b pos) (e2 dPow A B):=de_op QUs (Qyu fun i j h=>by
 rw[Bool.and_eq_true,Bool.and_eq_true]at h
 exact⟨of_decide_eq_true h.1.1,of_decide_eq_true h.1.2,of_decide_eq_true h.2⟩) (QvO fun _ _=>rfl) ha hb
def dAdd:D->D->Out D
 | .int i,.int j=>.ok (.int (i+j))
 | .str x,.str y=>if x.length+y.length<=sizeLine then .ok (.str (x++y)) else .stuck
 | _,_=>.stuck
theorem QaO(ha:DB C a A)(hb:DB C b B):DE C (.BinOp a .Add b pos) (e2 dAdd A B):=by
 refine de_op (QUh.or QNj) ?_ ?_ ha hb
 ·intro G H σ ς Q x y vx vy S hx hy q
  cases x with
  | int i=>
   cases y with
   | int j=>
    cases hx;cases hy
    exact .inl ⟨i,j,rfl,rfl,q.2⟩
   | _=>exact q.elim
  | str i=>
   cases y with
   | str j=>
    cases hx;cases hy
    rcases Qas (show(if i.length+j.length<=sizeLine then Out.ok (D.str (i++j)) else Out.stuck).post _ _ from q) with⟨hc,q⟩ | ⟨hc,q⟩
    ·exact .inr ⟨i,j,rfl,rfl,hc,q.2⟩
    ·exact q.elim
   | _=>exact q.elim
  | _=>exact q.elim
 ·intro x y
  cases x with
  | int i=>
   cases y with
   | int j=>exact rfl
   | _=>exact True.intro
  | str i=>
   cases y with
   | str j=>exact QnJ rfl
   | _=>exact True.intro
  | _=>exact True.intro
def dLt:D->D->Out D:=dI0 fun i j=>.bl (decide (i<j))
def dLe:D->D->Out D:=dI0 fun i j=>.bl (decide (i<=j))
def dGt:D->D->Out D:=dI0 fun i j=>.bl (decide (j<i))
def dGe:D->D->Out D:=dI0 fun i j=>.bl (decide (j<=i))
end
section
variable{C:Dc}{a b c:Expr}{A B:SD->Out D}{pos:Pos}
def dNeg:D->Out D
 | .int i=>.ok (.int (-i))
 | _=>.stuck
theorem Qq8(ha:DB C a A):DE C (.UnaryOp .USub a pos) (e1 dNeg A):=by
 obtain⟨ta,p1,q1⟩:=ha
 refine⟨_,pe_un QTW p1,fun G H σ ς Q S q=>?_⟩
 unfold e1 at q
 rw[Out.post_bind]at q
 refine q1 G H σ ς _ S (Out.post_mono q fun x k v1 H1 G1 S1 a1 b1 r1=>?_)
 cases x with
 | int i=>cases r1;exact⟨i,rfl,KD.now (KD.later k a1 b1) S1 rfl⟩
 | _=>exact k.elim
variable{TA TB:SD->Out Bool}{rest:List Expr}
def tAnd'(a b:SD->Out Bool):SD->Out Bool:=fun ς=>a ς>>=fun c=>if c=true then b ς else .ok false
def tOr'(a b:SD->Out Bool):SD->Out Bool:=fun ς=>a ς>>=fun c=>if c=true then .ok true else b ς
def tNot'(a:SD->Out Bool):SD->Out Bool:=fun ς=>a ς>>=fun c=>.ok (!c)
theorem DW.dt{e:Expr}{T:SD->Out Bool}(h:DW C e T):DT C e T:=let ⟨t,p,q⟩:=h;⟨t,p.pt,q⟩
theorem QR2(ha:DT C a TA):DW C (.BoolOp .And [a] pos) TA:=let ⟨t,p,q⟩:=ha;⟨t,QSf p,q⟩
theorem QhF(ha:DT C a TA):DW C (.BoolOp .Or [a] pos) TA:=let ⟨t,p,q⟩:=ha;⟨t,QUj p,q⟩
theorem QTr(ha:DT C a TA)(hb:DW C (.BoolOp .And (b::rest) pos) TB):DW C (.BoolOp .And (a::b::rest) pos) (tAnd' TA TB):=by
 obtain⟨t1,p1,q1⟩:=ha
 obtain⟨t2,p2,q2⟩:=hb
 refine⟨_,QUo p1 p2,fun G H σ ς Q S q=>?_⟩
 unfold tAnd' at q
 rw[Out.post_bind]at q
 refine q1 G H σ ς _ S (Out.post_mono q fun x k H1 G1 S1 a1 b1=>?_)
 cases x with
 | true=>exact iteT (q2 G1 H1 σ ς _ S1 (Out.post_mono (show(TB ς).post _ _ from k) fun x k=>KT.later k a1 b1))
 | false=>exact iteF (KT.now (KT.later (show KT C G H σ ς Q false from k) a1 b1) S1)
theorem dw_or(ha:DT C a TA)(hb:DW C (.BoolOp .Or (b::rest) pos) TB):DW C (.BoolOp .Or (a::b::rest) pos) (tOr' TA TB):=by
 obtain⟨t1,p1,q1⟩:=ha
 obtain⟨t2,p2,q2⟩:=hb
 refine⟨_,pw_or p1 p2,fun G H σ ς Q S q=>?_⟩
 unfold tOr' at q
 rw[Out.post_bind]at q
 refine q1 G H σ ς _ S (Out.post_mono q fun x k H1 G1 S1 a1 b1=>?_)
 cases x with
 | true=>exact iteT (KT.now (KT.later (show KT C G H σ ς Q true from k) a1 b1) S1)
 | false=>exact iteF (q2 G1 H1 σ ς _ S1 (Out.post_mono (show(TB ς).post _ _ from k) fun x k=>KT.later k a1 b1))
theorem QaC(ha:DT C a TA):DT C (.UnaryOp .Not a pos) (tNot' TA):=by
 obtain⟨t1,p1,q1⟩:=ha
 refine⟨_,QTX p1,fun G H σ ς Q S q=>?_⟩
 unfold tNot' at q
 rw[Out.post_bind]at q
 exact q1 G H σ ς _ S (Out.post_mono q fun x k H1 G1 S1 a1 b1=>k H1 G1 S1 a1 b1)
def eAnd(a b:SD->Out D):SD->Out D:=fun ς=>a ς>>=fun d=>match d with | .bl true=>b ς | .bl false=>.ok (.bl false) | _=>.stuck
def eOr(a b:SD->Out D):SD->Out D:=fun ς=>a ς>>=fun d=>match d with | .bl true=>.ok (.bl true) | .bl false=>b ς | _=>.stuck
def eNot(a:SD->Out D):SD->Out D:=fun ς=>a ς>>=fun d=>match d with | .bl c=>.ok (.bl (!c)) | _=>.stuck
theorem QkS{op}(h:DE C a A):DE C (.BoolOp op [a] pos) A:=let ⟨t,p,q⟩:=h;⟨t,QTG p,q⟩
theorem Qgr(ha:DE C a A)(hb:DE C (.BoolOp .And (b::rest) pos) B):DE C (.BoolOp .And (a::b::rest) pos) (eAnd A B):=by
 obtain⟨t1,p1,q1⟩:=ha
 obtain⟨t2,p2,q2⟩:=hb
 refine⟨_,QUD p1 p2,fun G H σ ς Q S q=>?_⟩
 unfold eAnd at q
 rw[Out.post_bind]at q
 refine q1 G H σ ς _ S (Out.post_mono q fun x k v1 H1 G1 S1 a1 b1 r1=>?_)
 cases x with
 | bl c=>
  refine⟨c,r1,?_⟩
  cases c with
  | true=>exact iteT (q2 G1 H1 σ ς _ S1 (Out.post_mono (show(B ς).post _ _ from k) fun x k=>KD.later k a1 b1))
  | false=>exact iteF (KD.now (KD.later (show KD C G H σ ς Q (.bl false) from k) a1 b1) S1 rfl)
 | _=>exact k.elim
theorem QO8(ha:DE C a A):DE C (.UnaryOp .Not a pos) (eNot A):=by
 obtain⟨t1,p1,q1⟩:=ha
 refine⟨_,QSY p1,fun G H σ ς Q S q=>?_⟩
 unfold eNot at q
 rw[Out.post_bind]at q
 refine q1 G H σ ς _ S (Out.post_mono q fun x k v1 H1 G1 S1 a1 b1 r1=>?_)
 cases x with
 | bl c=>exact⟨c,r1,KD.now (KD.later (show KD C G H σ ς Q (.bl (!c)) from k) a1 b1) S1 rfl⟩
 | _=>exact k.elim
def eIf(t:SD->Out Bool)(a b:SD->Out D):SD->Out D:=fun ς=>t ς>>=fun c=>if c=true then a ς else b ς
theorem de_if{t:Expr}(ht:DT C t TA)(ha:DE C a A)(hb:DE C b B):DE C (.IfExp t a b pos) (eIf TA A B):=by
 obtain⟨t0,p0,q0⟩:=ht
 obtain⟨t1,p1,q1⟩:=ha
 obtain⟨t2,p2,q2⟩:=hb
 refine⟨_,QPW p0 p1 p2,fun G H σ ς Q S q=>?_⟩
 unfold eIf at q
 rw[Out.post_bind]at q
 refine q0 G H σ ς _ S (Out.post_mono q fun x k H1 G1 S1 a1 b1=>?_)
 cases x with
 | true=>exact iteT (q1 G1 H1 σ ς _ S1 (Out.post_mono (show(A ς).post _ _ from k) fun x k=>KD.later k a1 b1))
 | false=>exact iteF (q2 G1 H1 σ ς _ S1 (Out.post_mono (show(B ς).post _ _ from k) fun x k=>KD.later k a1 b1))
end
end DL
namespace DL
open PySem PySem.Spec PyProof.Rows L2
def aNil:SD->Out (List D):=fun _=>.ok []
def aCons(a:SD->Out D)(r:SD->Out (List D)):SD->Out (List D):=fun ς=>a ς>>=fun x=>r ς>>=fun xs=>.ok (x::xs)
section
variable{C:Dc}{e:Expr}{es:List Expr}{E:SD->Out D}{A:SD->Out (List D)}{pos:Pos}
theorem Qg:DA C [] aNil:=⟨_,Qgz,fun G H σ ς Q S q=>q [] H G S (Same.refl H) (Same.refl G) rfl⟩
theorem Qy:DAB C [] aNil:=⟨_,Qgz,fun G H σ ς Q S q=>q [] H G S (Same.refl H) (Same.refl G) rfl⟩
theorem Qc(ha:DE C e E)(hr:DA C es A)(hs:starEach (e::es) C.X.env=(false,eval e C.X.env)::starEach es C.X.env:=by rfl):DA C (e::es) (aCons E A):=by
 obtain⟨t1,p1,q1⟩:=ha
 obtain⟨t2,p2,q2⟩:=hr
 refine⟨_,Qc2 p1 p2 hs,fun G H σ ς Q S q=>?_⟩
 unfold aCons at q
 rw[Out.post_bind]at q
 refine q1 G H σ ς _ S (Out.post_mono q fun x k v1 H1 G1 S1 a1 b1 r1=>?_)
 rw[Out.post_bind]at k
 refine q2 G1 H1 σ ς _ S1 (Out.post_mono k fun xs k2 vs H2 G2 S2 a2 b2 r2=>?_)
 exact k2 (v1::vs) H2 G2 S2 (a1.trans a2) (b1.trans b2) ⟨v1,vs,rfl,Rep.mono b2 x v1 r1,r2⟩
theorem Qu(ha:DB C e E)(hr:DAB C es A)(hs:starEach (e::es) C.X.env=(false,eval e C.X.env)::starEach es C.X.env:=by rfl):DAB C (e::es) (aCons E A):=by
 obtain⟨t1,p1,q1⟩:=ha
 obtain⟨t2,p2,q2⟩:=hr
 refine⟨_,Qc2 p1 p2 hs,fun G H σ ς Q S q=>?_⟩
 unfold aCons at q
 rw[Out.post_bind]at q
 refine q1 G H σ ς _ S (Out.post_mono q fun x k v1 H1 G1 S1 a1 b1 r1=>?_)
 rw[Out.post_bind]at k
 refine q2 G1 H1 σ ς _ S1 (Out.post_mono k fun xs k2 vs H2 G2 S2 a2 b2 r2=>?_)
 exact k2 (v1::vs) H2 G2 S2 (a1.trans a2) (b1.trans b2) ⟨v1,vs,rfl,Rep.mono a2 x v1 r1,r2⟩
def fits(n:Nat):Bool:=decide (n<=sizeLine)
def eTup(a:SD->Out (List D)):SD->Out D:=fun ς=>a ς>>=fun xs=>if fits xs.length=true then .ok (.tup xs) else .stuck
def eLst(a:SD->Out (List D)):SD->Out D:=fun ς=>a ς>>=fun xs=>if fits xs.length=true then .ok (.lst xs) else .stuck
theorem Qdh{x1}(h:DA C es A):DE C (.Tuple es x1 pos) (eTup A):=by
 obtain⟨t,p,q⟩:=h
 refine⟨_,QNJ p,fun G H σ ς Q S k=>?_⟩
 unfold eTup at k
 rw[Out.post_bind]at k
 refine q G H σ ς _ S (Out.post_mono k fun xs k2 vs H1 G1 S1 a1 b1 r1=>?_)
 rcases Qas k2 with⟨hc,k3⟩ | ⟨_,k3⟩
 ·exact⟨by rw[← r1.length];exact of_decide_eq_true hc,KD.tup (KD.later k3 a1 b1) S1 r1⟩
 ·exact k3.elim
theorem QbJ(h:DA C es A):DF C (.List es pos) (eLst A):=by
 obtain⟨t,p,q⟩:=h
 refine⟨_,QUp p,fun G H σ ς Q S k=>?_⟩
 unfold eLst at k
 rw[Out.post_bind]at k
 refine q G H σ ς _ S (Out.post_mono k fun xs k2 vs H1 G1 S1 a1 b1 r1=>?_)
 rcases Qas k2 with⟨hc,k3⟩ | ⟨_,k3⟩
 ·exact⟨by rw[← r1.length];exact of_decide_eq_true hc,KF.lst (KF.later k3 a1 b1) S1 r1⟩
 ·exact k3.elim
end
theorem QBG{K:PySem.W.Frag}{CT:CTab}{H:Hp}{ds:List D}{vs:List V}{i:Int}{d:D}(r:RepL K CT H ds vs)(h:atI ds i=some d):∃ v,atI vs i=some v/\Rep K CT H d v:=by
 unfold atI at h ⊢
 rw[← r.length]
 cases e:ixN ds.length i with
 | none=>rw[e]at h;cases h
 | some j=>
  rw[e]at h
  exact r.get h
def optO{α:Type}:Option α->Out α
 | some a=>.ok a
 | none=>.stuck
theorem Qj2{α:Type}{o:Option α}{k:α->Prop}{x:D->Prop}(h:(optO o).post k x):∃ a,o=some a/\k a:=by
 cases o with
 | none=>exact h.elim
 | some a=>exact⟨a,rfl,h⟩
def dIx:D->D->Out D
 | .lst xs,.int i=>optO (atI xs i)
 | .tup xs,.int i=>optO (atI xs i)
 | .str x,.int i=>if fits x.length=true then optO ((atI x.cps.toList i).map fun c=>D.str ⟨#[c]⟩) else .stuck
 | _,_=>.stuck
section
variable{C:Dc}{a b:Expr}{A B:SD->Out D}{pos:Pos}
theorem de_ix(ha:DE C a A)(hb:DB C b B)(hs:QCr b:=by intro _ _;rfl):DE C (.Subscript a b pos) (e2 dIx A B):=by
 obtain⟨ta,p1,q1⟩:=ha
 obtain⟨tb,p2,q2⟩:=hb
 refine⟨_,pe_ix QO5 p1 p2 hs,fun G H σ ς Q S q=>?_⟩
 unfold e2 at q
 rw[Out.post_bind]at q
 refine q1 G H σ ς _ S (Out.post_mono q fun x k v1 H1 G1 S1 a1 b1 r1=>?_)
 rw[Out.post_bind]at k
 refine q2 G1 H1 σ ς _ S1 (Out.post_mono k fun y k2 v2 H2 G2 S2 a2 b2 r2=>?_)
 have r1':=Rep.mono b2 x v1 r1
 cases y with
 | int i=>
  cases r2
  cases x with
  | lst xs=>
   obtain⟨p,vs,rfl,h2,h3⟩:=r1'
   obtain⟨d,e,kd⟩:=Qj2 k2
   obtain⟨v,e2,r⟩:=QBG h3 e
   exact .inl ⟨p,vs,i,v,rfl,rfl,S2.sub.seq h2,e2,KD.now (KD.later kd (a1.trans a2) (b1.trans b2)) S2 r⟩
  | tup xs=>
   obtain⟨p,vs,rfl,h2,h3⟩:=r1'
   obtain⟨d,e,kd⟩:=Qj2 k2
   obtain⟨v,e2,r⟩:=QBG h3 e
   exact .inr (.inl ⟨p,vs,i,v,rfl,rfl,Same.sqT S2.sub h2,e2,KD.now (KD.later kd (a1.trans a2) (b1.trans b2)) S2 r⟩)
  | str z=>
   cases r1'
   rcases Qas (show(if fits z.length=true then optO ((atI z.cps.toList i).map fun c=>D.str ⟨#[c]⟩) else .stuck).post _ C.XD from k2) with⟨hc,q⟩ | ⟨_,q⟩
   ·obtain⟨d,e,kd⟩:=Qj2 q
    cases e3:atI z.cps.toList i with
    | none=>rw[e3]at e;cases e
    | some c=>
     rw[e3]at e
     cases e
     exact .inr (.inr ⟨z,i,c,rfl,rfl,of_decide_eq_true hc,e3,KD.now (KD.later kd (a1.trans a2) (b1.trans b2)) S2 rfl⟩)
   ·exact q.elim
  | _=>exact k2.elim
 | _=>cases x<;>exact k2.elim
end
def cutD{α:Type}(xs:List α)(lo hi:Option Int):List α:=(xs.drop (HT.sIx xs.length 0 lo)).take (HT.sIx xs.length xs.length hi - HT.sIx xs.length 0 lo)
theorem QSQ{K:PySem.W.Frag}{CT:CTab}{H:Hp}{ds:List D}{vs:List V}(lo hi:Option Int)(r:RepL K CT H ds vs):RepL K CT H (cutD ds lo hi) (cutV vs lo hi):=by
 unfold cutD cutV
 rw[r.length]
 exact(r.drop _).take _
def oNo:SD->Out (Option Int):=fun _=>.ok none
def oSome(e:SD->Out D):SD->Out (Option Int):=fun ς=>e ς>>=fun d=>match d with | .int i=>.ok (some i) | _=>.stuck
def DO(C:Dc)(e:Option Expr)(T:SD->Out (Option Int)):Prop:=∃ t,PO C.X e t/\∀ G H σ ς Q,StR C G H σ ς->(T ς).post (fun o=>∀ H' G',StR C G' H' σ ς->Same H H'->Same G G'->Q o H') C.XD->t σ H Q
section
variable{C:Dc}{a b:Expr}{A B:SD->Out D}{lo hi:Option Expr}{L U:SD->Out (Option Int)}{pos p2:Pos}
theorem QLm:DO C none oNo:=⟨_,QRH,fun G H σ ς Q S q=>q H G S (Same.refl H) (Same.refl G)⟩
theorem QvR(h:DB C a A):DO C (some a) (oSome A):=by
 obtain⟨t,p,q⟩:=h
 refine⟨_,QRS p,fun G H σ ς Q S k=>?_⟩
 unfold oSome at k
 rw[Out.post_bind]at k
 refine q G H σ ς _ S (Out.post_mono k fun x k2 v1 H1 G1 S1 a1 b1 r1=>?_)
 cases x with
 | int i=>cases r1;exact⟨i,rfl,k2 H1 G1 S1 a1 b1⟩
 | _=>exact k2.elim
def eSl(a:SD->Out D)(l u:SD->Out (Option Int)):SD->Out D:=fun ς=>a ς>>=fun x=>l ς>>=fun i=>u ς>>=fun j=>match x with
 | .lst xs=>.ok (.lst (cutD xs i j))
 | _=>.stuck
theorem df_sl(ha:DE C a A)(hl:DO C lo L)(hu:DO C hi U):DF C (.Subscript a (.Slice lo hi none p2) pos) (eSl A L U):=by
 obtain⟨ta,p1,q1⟩:=ha
 obtain⟨tl,p3,q3⟩:=hl
 obtain⟨tu,p4,q4⟩:=hu
 refine⟨_,QQL QSo p1 p3 p4,fun G H σ ς Q S q=>?_⟩
 unfold eSl at q
 rw[Out.post_bind]at q
 refine q1 G H σ ς _ S (Out.post_mono q fun x k v1 H1 G1 S1 a1 b1 r1=>?_)
 rw[Out.post_bind]at k
 refine q3 G1 H1 σ ς _ S1 (Out.post_mono k fun i k2 H2 G2 S2 a2 b2=>?_)
 rw[Out.post_bind]at k2
 refine q4 G2 H2 σ ς _ S2 (Out.post_mono k2 fun j k3 H3 G3 S3 a3 b3=>?_)
 cases x with
 | lst xs=>
  obtain⟨p,vs,rfl,h2,h3⟩:=Rep.mono (b2.trans b3) _ v1 r1
  exact⟨p,vs,rfl,S3.sub.seq h2,KF.lst (KF.later (show KF C G H σ ς Q (.lst (cutD xs i j)) from k3) ((a1.trans a2).trans a3) ((b1.trans b2).trans b3)) S3 (QSQ i j h3)⟩
 | _=>exact k3.elim
end
section
variable{C:Dc}{x:Str}{p pos:Pos}{e:Expr}{es:List Expr}{A:SD->Out (List D)}{id T:String}
def eA(f:List D->Out D)(a:SD->Out (List D)):SD->Out D:=fun ς=>a ς>>=f
def DCS(C:Dc)(r:List V->Hp->VK->Prop)(f:List D->Out D):Prop:=∀ G H σ ς (Q:VK) xs vs,StR C G H σ ς->RepL C.X.K C.CT H xs vs->
 (f xs).post (fun d=>d.scal=true/\Q (toV d) H) (fun _=>False)->r vs H Q
def scalA(f:List D->Out D):Prop:=∀ xs,match f xs with | .ok d=>d.scal=true | .exc _=>False | .stuck=>True
theorem dcall{r:List V->Hp->VK->Prop}{f:List D->Out D}{t:TA}(hr:DCS C r f)(hs:scalA f)
 (h:∀ G H σ ς Q,StR C G H σ ς->(A ς).post (fun ds=>∀ vs H' G',StR C G' H' σ ς->Same H H'->Same G G'->RepL C.X.K C.CT H' ds vs->Q vs H') C.XD->t σ H Q):
 ∀ G H σ ς Q,StR C G H σ ς->(eA f A ς).post (KD C G H σ ς Q) C.XD->tCB r t σ H Q:=by
 intro G H σ ς Q S q
 unfold eA at q
 rw[Out.post_bind]at q
 refine h G H σ ς _ S (Out.post_mono q fun ds k vs H1 G1 S1 a1 b1 r1=>?_)
 exact hr G1 H1 σ ς Q ds vs S1 r1 (Qoj S1 (hs ds) (Out.post_mono k fun d kd=>KD.later kd a1 b1))
theorem QnV{r:List V->Hp->VK->Prop}{f:List D->Out D}(hc:CallR C.X (.builtin id) r)(hr:DCS C r f)(hs:scalA f)(hg:Gl C.X x)(hm:C.X.mg x=none)(hv:bootBuiltins x=some (.builtin id))(ha:DAB C (e::es) A)(hn:x≠"__name__":=by decide)(hdb:(x == ("__debug__":Str))=false:=by decide)
 (he:starEach (e::es) C.X.env=(false,eval e C.X.env)::starEach es C.X.env:=by rfl) (hpl:(backTo pos (starEach es C.X.env)).any (·.1)=false:=by rfl):DE C (.Call (.Name x p) (e::es) [] pos) (eA f A):=by
 obtain⟨t,p1,q1⟩:=ha
 exact⟨_,QxF hc hg hm hv p1 hn hdb he hpl,dcall hr hs q1⟩
theorem QOk{r:List V->Hp->VK->Prop}{f:List D->Out D}(hc:CallR C.X (.type T) r)(hr:DCS C r f)(hs:scalA f)(hg:Gl C.X x)(hm:C.X.mg x=none)(hv:bootBuiltins x=some (.type T))(ha:DAB C (e::es) A)(hn:x≠"__name__":=by decide)(hdb:(x == ("__debug__":Str))=false:=by decide)
 (he:starEach (e::es) C.X.env=(false,eval e C.X.env)::starEach es C.X.env:=by rfl) (hpl:(backTo pos (starEach es C.X.env)).any (·.1)=false:=by rfl):DE C (.Call (.Name x p) (e::es) [] pos) (eA f A):=by
 obtain⟨t,p1,q1⟩:=ha
 exact⟨_,QCZ hc hg hm hv p1 hn hdb he hpl,dcall hr hs q1⟩
def fLen:List D->Out D
 | [.lst xs]=>.ok (.int xs.length)
 | [.tup xs]=>.ok (.int xs.length)
 | [.str x]=>if fits x.length=true then .ok (.int x.length) else .stuck
 | _=>.stuck
theorem QSw:DCS C (fun xs H Q=>(∃ p ys,xs=[.ref p]/\(SqL C.X.K H p ys∨SqT C.X.K H p ys)/\Q (.int ys.length) H)∨∃ z,xs=[.str z]/\z.length<=sizeLine/\Q (.int z.length) H) fLen:=by
 intro G H σ ς Q xs vs S r q
 cases xs with
 | nil=>exact q.elim
 | cons x xr=>
  obtain⟨v,vr,rfl,r1,r2⟩:=r
  cases xr with
  | cons y yr=>cases x<;>exact q.elim
  | nil=>
   cases r2
   cases x with
   | lst ys=>
    obtain⟨p,us,rfl,h2,h3⟩:=r1
    exact .inl ⟨p,us,rfl,.inl h2,by rw[← h3.length];exact q.2⟩
   | tup ys=>
    obtain⟨p,us,rfl,h2,h3⟩:=r1
    exact .inl ⟨p,us,rfl,.inr h2,by rw[← h3.length];exact q.2⟩
   | str z=>
    cases r1
    rcases Qas (show(if fits z.length=true then Out.ok (D.int z.length) else .stuck).post _ _ from q) with⟨hc,q⟩ | ⟨_,q⟩
    ·exact .inr ⟨z,rfl,of_decide_eq_true hc,q.2⟩
    ·exact q.elim
   | _=>exact q.elim
theorem QQu:scalA fLen:=by
 intro xs
 cases xs with
 | nil=>exact True.intro
 | cons x xr=>
  cases xr with
  | cons y yr=>cases x<;>exact True.intro
  | nil=>
   cases x with
   | lst ys=>exact rfl
   | tup ys=>exact rfl
   | str z=>exact QnJ rfl
   | _=>exact True.intro
theorem QaD(hg:Gl C.X "len")(hm:C.X.mg "len"=none)(ha:DAB C (e::es) A)
 (he:starEach (e::es) C.X.env=(false,eval e C.X.env)::starEach es C.X.env:=by rfl) (hpl:(backTo pos (starEach es C.X.env)).any (·.1)=false:=by rfl):DE C (.Call (.Name "len" p) (e::es) [] pos) (eA fLen A):=
 QnV (QGZ.or QFC) QSw QQu hg hm PySem.boot_len ha (by decide) (by decide) he hpl
def f1(g:D->Out D):List D->Out D
 | [x]=>g x
 | _=>.stuck
theorem Qq6{g:D->Out D}(h:∀ x,match g x with | .ok d=>d.scal=true | .exc _=>False | .stuck=>True):scalA (f1 g):=by
 intro xs
 match xs with
 | []=>exact True.intro
 | [x]=>exact h x
 | _::_::_=>exact True.intro
def dAbs:D->Out D
 | .int i=>.ok (.int (if i<0 then -i else i))
 | _=>.stuck
theorem Qt1{r:List V->Hp->VK->Prop}{g:D->Out D}(h:∀ G H σ ς (Q:VK) x v,StR C G H σ ς->Rep C.X.K C.CT H x v->(g x).post (fun d=>d.scal=true/\Q (toV d) H) (fun _=>False)->r [v] H Q):DCS C r (f1 g):=by
 intro G H σ ς Q xs vs S r q
 match xs,r with
 | [],_=>exact q.elim
 | [x],⟨v,vr,e1,r1,r2⟩=>cases r2;subst e1;exact h G H σ ς Q x v S r1 q
 | _::_::_,_=>exact q.elim
theorem Qz8(hg:Gl C.X "abs")(hm:C.X.mg "abs"=none)(hv:bootBuiltins "abs"=some (.builtin "abs"))(ha:DAB C (e::es) A)
 (he:starEach (e::es) C.X.env=(false,eval e C.X.env)::starEach es C.X.env:=by rfl) (hpl:(backTo pos (starEach es C.X.env)).any (·.1)=false:=by rfl):DE C (.Call (.Name "abs" p) (e::es) [] pos) (eA (f1 dAbs) A):=by
 refine QnV QP0 (Qt1 ?_) (Qq6 ?_) hg hm hv ha (by decide) (by decide) he hpl
 ·intro G H σ ς Q x v S r q
  cases x with
  | int i=>cases r;exact⟨i,rfl,q.2⟩
  | _=>exact q.elim
 ·intro x
  cases x<;>first | exact rfl | exact True.intro
end
mutual
def D.py:D->PyData
 | .non=>.none
 | .bl b=>.bool b
 | .int i=>.int i
 | .str x=>.str x
 | .lst xs=>.list (D.pys xs)
 | .tup xs=>.tuple (D.pys xs)
 | .dic _=>.dict []
 | .ins _ _=>.dict []
 | .err _=>.dict []
def D.pys:List D->List PyData
 | []=>[]
 | x::xs=>D.py x::D.pys xs
end
section
variable{X:Cx}{pins:List (Addr×Obj)}{σ:L2.St}{H:Hp}{s:Shared}{CT:CTab}
mutual
theorem QnD(I:Inv X pins σ H s):∀(d:D)(v:V)(u:Value),Rep X.K CT H d v->RelV v u->d.py.canLay0=true->∃ as,Reads s.heap u d.py as
 | .non,_,_,h,r,_=>by cases h;cases r;exact⟨_,.none⟩
 | .bl b,_,_,h,r,_=>by cases h;cases r;exact⟨_,.bool b⟩
 | .int i,_,_,h,r,_=>by cases h;obtain⟨t,rfl⟩:=r;exact⟨_,.int i t⟩
 | .str x,_,_,h,r,_=>by cases h;obtain⟨t,rfl⟩:=r;exact⟨_,.str x t⟩
 | .lst ds,_,_,⟨a,vs,h1,h2,h3⟩,r,c=>by
  subst h1;cases r
  obtain⟨its,q,⟨o,n,ho,hc,_,hd⟩,_⟩:=I.list h2
  obtain⟨as,ra⟩:=Qt3 I ds vs its h3 q (by simpa [D.py,PyData.canLay0] using c)
  exact⟨_,.list ho hc hd (by simpa using ra)⟩
 | .tup ds,_,_,⟨a,vs,h1,h2,h3⟩,r,c=>by
  subst h1;cases r
  obtain⟨its,q,⟨o,ho,hc,n,hd⟩,_⟩:=I.tuple h2
  obtain⟨as,ra⟩:=Qt3 I ds vs its h3 q (by simpa [D.py,PyData.canLay0] using c)
  exact⟨_,.tuple ho hc hd (by simpa using ra)⟩
 | .dic _,_,_,_,_,c=>by simp[D.py,PyData.canLay0]at c
 | .ins _ _,_,_,_,_,c=>by simp[D.py,PyData.canLay0]at c
 | .err _,_,_,_,_,c=>by simp[D.py,PyData.canLay0]at c
theorem Qt3(I:Inv X pins σ H s):∀(ds:List D)(vs:List V)(us:List Value),RepL X.K CT H ds vs->Vals vs us->PyData.canLayAll0 (D.pys ds)=true->∃ as,ReadsAll s.heap us (D.pys ds) as
 | [],_,_,h,r,_=>by cases h;cases r;exact⟨_,.nil⟩
 | d::ds,_,_,⟨v,w,h1,h2,h3⟩,r,c=>by
  subst h1
  cases r with
  | cons r1 r2=>
   have c':d.py.canLay0=true/\PyData.canLayAll0 (D.pys ds)=true:=by simpa [D.pys,PyData.canLayAll0] using c
   obtain⟨as,q1⟩:=QnD I d v _ h2 r1 c'.1
   obtain⟨bs,q2⟩:=Qt3 I ds w _ h3 r2 c'.2
   exact⟨_,.cons q1 q2⟩
end
end
def shp(d:D):Bool:=SeqAt.shaped d.py
def dEq(x y:D):Out D:=if (shp x&&shp y)=true then .ok (.bl (PyData.eqv x.py y.py)) else .stuck
def dNe(x y:D):Out D:=if (shp x&&shp y)=true then .ok (.bl (!PyData.eqv x.py y.py)) else .stuck
section
variable{C:Dc}{a b:Expr}{A B:SD->Out D}{pos:Pos}
def rEqD(C:Dc)(n:Bool):R2:=fun vx vy H Q=>∃ x y,Rep C.X.K C.CT H x vx/\Rep C.X.K C.CT H y vy/\shp x=true/\shp y=true/\Q (.bl (n != PyData.eqv x.py y.py)) H
theorem QOF(hu:C.X.A.units+64<cLine):OpR C.X (compareOp .Eq) (rEqD C false):=by
 intro pins s σ H vx vy u w Q I rx ry h
 obtain⟨x,y,h1,h2,h3,h4,q⟩:=h
 obtain⟨as,ra⟩:=QnD I x vx u h1 rx (SeqAt.canLay_of_shaped h3)
 obtain⟨bs,rb⟩:=QnD I y vy w h2 ry (SeqAt.canLay_of_shaped h4)
 exact eq_dataH ra rb h3 h4 hu ⟨.bl _,H,I,rfl,by simpa using q⟩
theorem QTH(hu:C.X.A.units+64<cLine):OpR C.X (compareOp .NotEq) (rEqD C true):=by
 intro pins s σ H vx vy u w Q I rx ry h
 obtain⟨x,y,h1,h2,h3,h4,q⟩:=h
 obtain⟨as,ra⟩:=QnD I x vx u h1 rx (SeqAt.canLay_of_shaped h3)
 obtain⟨bs,rb⟩:=QnD I y vy w h2 ry (SeqAt.canLay_of_shaped h4)
 exact ne_dataH ra rb h3 h4 hu ⟨.bl _,H,I,rfl,by simpa using q⟩
theorem QN6:DRS C (rEqD C false) dEq:=by
 intro G H σ ς Q x y vx vy S hx hy q
 rcases Qas q with⟨hc,q⟩ | ⟨_,q⟩
 ·rw[Bool.and_eq_true]at hc
  exact⟨x,y,hx,hy,hc.1,hc.2,by simpa [toV] using q.2⟩
 ·exact q.elim
theorem QS4:DRS C (rEqD C true) dNe:=by
 intro G H σ ς Q x y vx vy S hx hy q
 rcases Qas q with⟨hc,q⟩ | ⟨_,q⟩
 ·rw[Bool.and_eq_true]at hc
  exact⟨x,y,hx,hy,hc.1,hc.2,by simpa [toV] using q.2⟩
 ·exact q.elim
theorem QLb:scal2 dEq:=fun x y=>QnJ rfl
theorem QRR:scal2 dNe:=fun x y=>QnJ rfl
theorem dt_lt(ha:DB C a A)(hb:DB C b B):DT C (.Compare a [.Lt] [b] pos) (tVal (e2 dLt A B)):=Qq5 op_lt Qdo (QcF fun _ _=>rfl) ha hb (Qm6 _)
theorem dt_le(ha:DB C a A)(hb:DB C b B):DT C (.Compare a [.LtE] [b] pos) (tVal (e2 dLe A B)):=Qq5 op_le Qdo (QcF fun _ _=>rfl) ha hb (Qm6 _)
theorem dt_gt(ha:DB C a A)(hb:DB C b B):DT C (.Compare a [.Gt] [b] pos) (tVal (e2 dGt A B)):=Qq5 op_gt Qdo (QcF fun _ _=>rfl) ha hb (Qm6 _)
theorem dt_ge(ha:DB C a A)(hb:DB C b B):DT C (.Compare a [.GtE] [b] pos) (tVal (e2 dGe A B)):=Qq5 op_ge Qdo (QcF fun _ _=>rfl) ha hb (Qm6 _)
theorem de_eq(hu:C.X.A.units+64<cLine)(ha:DB C a A)(hb:DB C b B):DE C (.Compare a [.Eq] [b] pos) (e2 dEq A B):=QFT (QOF hu) QN6 QLb ha hb (Qm6 _)
theorem dt_eq(hu:C.X.A.units+64<cLine)(ha:DB C a A)(hb:DB C b B):DT C (.Compare a [.Eq] [b] pos) (tVal (e2 dEq A B)):=Qq5 (QOF hu) QN6 QLb ha hb (Qm6 _)
theorem dt_ne(hu:C.X.A.units+64<cLine)(ha:DB C a A)(hb:DB C b B):DT C (.Compare a [.NotEq] [b] pos) (tVal (e2 dNe A B)):=Qq5 (QTH hu) QS4 QRR ha hb (Qm6 _)
end
end DL
namespace DL
open PySem PySem.Spec PyProof.Rows L2
section
variable{C:Dc}{a b:Expr}{A B:SD->Out D}{pos:Pos}
end
def QaU:D->String
 | .non=>"NoneType"
 | .bl _=>"bool"
 | .int _=>"int"
 | .str _=>"str"
 | .lst _=>"list"
 | .tup _=>"tuple"
 | .dic _=>"dict"
 | .ins _ _=>"object"
 | .err _=>"object"
structure ClsD(K:PySem.W.Frag)(A:Addr):Prop where
 cl:Cls K A
 ha:PySem.W.findIn K (.ref A) "__class__"=some (some (.builtin "object.__class__"))
 hn:PySem.W.specialIn K (.builtin "object.__class__") "__get__"=some (some (.builtin "getset_descriptor.__get__"))
 htk:PySem.W.takesIn K (.builtin "object.__class__")=some true
 hm:PySem.W.mroIn K A (.type "object")=some true
def KitD(K:PySem.W.Frag)(CT:CTab)(d:D)(uc:Value)(b:Bool):Prop:=match d with
 | .ins c _=>∀ A,CT c=some A->ClsD K A/\PySem.W.kitOne K (.ref A) uc=some b
 | .err c=>∀ A,CT c=some A->ExCls K A/\PySem.W.kitOne K (.ref A) uc=some b
 | d=>PySem.W.kitOne K (.type (QaU d)) uc=some b
section
variable{C:Dc}{e cx:Expr}{E:SD->Out D}{p pos:Pos}{vc:V}{uc:Value}
theorem QRW{pins:List (Addr×Obj)}{σ:L2.St}{H:Hp}{s:Shared}{A:Around}{Ex:Value->Shared->Prop}{Q:Value->Shared->Prop}{d:D}{v:V}{u:Value}{b:Bool}(I:Inv C.X pins σ H s)(h:Rep C.X.K C.CT H d v)(r:RelV v u)(k:KitD C.X.K C.CT d uc b)
 (q:∀ tk,Q (.bool b) { s with toks:=tk }):wpAny (model C.X.prog C.X.w) A (call (.builtin "isinstance") [u,uc]) Q Ex s:=by
 cases d with
 | non=>cases h;cases r;exact PySem.W.kia_one PySem.W.kitx_none I.kIn True.intro k (fun z=>nomatch z) q
 | bl y=>cases h;cases r;exact PySem.W.kia_one PySem.W.kitx_bool I.kIn True.intro k (fun z=>nomatch z) q
 | int i=>cases h;obtain⟨t,rfl⟩:=r;exact PySem.W.kia_one PySem.W.kitx_int I.kIn True.intro k (fun z=>nomatch z) q
 | str i=>cases h;obtain⟨t,rfl⟩:=r;exact PySem.W.kia_one PySem.W.kitx_str I.kIn True.intro k (fun z=>nomatch z) q
 | lst ds=>
  obtain⟨a,vs,rfl,h2,_⟩:=h;cases r
  obtain⟨its,_,⟨o,n,ho,hc,_⟩,_⟩:=I.list h2
  exact PySem.W.kia_one PySem.W.kitx_list I.kIn ⟨o,ho,hc⟩ k (fun z=>nomatch z) q
 | tup ds=>
  obtain⟨a,vs,rfl,h2,_⟩:=h;cases r
  obtain⟨its,_,⟨o,ho,hc,_⟩,_⟩:=I.tuple h2
  exact PySem.W.kia_one PySem.W.kitx_tuple I.kIn ⟨o,ho,hc⟩ k (fun z=>nomatch z) q
 | dic ds=>
  obtain⟨a,kvs,rfl,h2,_⟩:=h;cases r
  obtain⟨_,_,vs,_,p⟩:=h2.ok I.hok
  obtain⟨o,es,ep,h1,h2,_⟩:=p
  exact PySem.W.kia_one PySem.W.kitx_dict I.kIn ⟨o,h1,h2.1⟩ k (fun z=>nomatch z) q
 | ins c fs=>
  obtain⟨a,A',dx,fs',rfl,h1,h2,_⟩:=h;cases r
  obtain⟨cd,kk⟩:=k A' h1
  obtain⟨mA,O,_⟩:=QqE I.hok h2
  obtain⟨od,J,_⟩:=O.look
  exact PySem.W.kia_one (PySem.W.kitx_own (cd.cl.get _) cd.cl.hd cd.ha cd.hn cd.htk cd.hm) I.kIn J kk (fun z=>nomatch z) q
 | err c=>
  obtain⟨a,A',rfl,h1,h2⟩:=h;cases r
  obtain⟨cd,kk⟩:=k A' h1
  obtain⟨J,_⟩:=(show ObjOk C.X.prog C.X.w H s.heap a (exO a A') from I.hok a _ h2)
  exact PySem.W.kia_one (QQc cd) I.kIn J kk (fun z=>nomatch z) q
def clsV:V->Option Value
 | .ty n=>some (.type n)
 | .ref a=>some (.ref a)
 | _=>none
def eIsa(f:D->Out Bool)(a:SD->Out D):SD->Out D:=fun ς=>a ς>>=fun d=>f d>>=fun b=>.ok (.bl b)
theorem QT2{f:D->Out Bool}(hc:PE C.X cx (tC vc))(rc:clsV vc=some uc)(hf:∀ d,match f d with | .ok b=>KitD C.X.K C.CT d uc b | .exc _=>False | .stuck=>True)(hg:Gl C.X "isinstance")(hm:C.X.mg "isinstance"=none)(h:DB C e E)
 (he:starEach (e::[cx]) C.X.env=(false,eval e C.X.env)::starEach [cx] C.X.env:=by rfl) (he2:starEach (cx::[]) C.X.env=(false,eval cx C.X.env)::starEach [] C.X.env:=by rfl)
 (hpl:(backTo pos (starEach [cx] C.X.env)).any (·.1)=false:=by rfl):DE C (.Call (.Name "isinstance" p) [e,cx] [] pos) (eIsa f E):=by
 obtain⟨t,p1,q1⟩:=h
 have hR:CallR C.X (.builtin "isinstance") (fun xs H Q=>∃ d x b,xs=[x,vc]/\Rep C.X.K C.CT H d x/\KitD C.X.K C.CT d uc b/\Q (.bl b) H):=by
  intro pins s σ H xs us Q I r h
  obtain⟨d,x,b,rfl,h1,h2,q⟩:=h
  obtain⟨u,w,rfl,r1,r2⟩:=vals2 r
  have:w=uc:=by
   cases vc<;>first
    | (cases rc;cases r2;rfl)
    | cases rc
  subst this
  exact QRW I h1 r1 h2 fun tk=>⟨.bl b,H,I.tok _,rfl,q⟩
 refine⟨_,QxF hR hg hm PyProof.Rows.Boot.«isinstance» (Qc2 p1 (Qc2 hc Qgz he2) he) (by decide) (by decide) he hpl,fun G H σ ς Q S q=>?_⟩
 unfold eIsa at q
 rw[Out.post_bind]at q
 refine q1 G H σ ς _ S (Out.post_mono q fun d k v1 H1 G1 S1 a1 b1 r1=>?_)
 rw[Out.post_bind]at k
 have hd:=hf d
 cases e:f d with
 | exc _=>rw[e]at hd;exact hd.elim
 | stuck=>rw[e]at k;exact k.elim
 | ok b=>
  rw[e]at k hd
  exact⟨d,v1,b,rfl,r1,hd,KD.now (KD.later (show KD C G H σ ς Q (.bl b) from k) a1 b1) S1 rfl⟩
end
end DL
namespace DL
open PySem PySem.Spec PyProof.Rows L2
section
variable{C:Dc}{G H:Hp}{σ:St}{ς:SD}
theorem QL{α:Type}{xs:List α}{i j:Nat}{x y:α}(h:(xs.set i x)[j]?=some y):(i=j/\y=x/\i<xs.length)∨(i≠j/\xs[j]?=some y):=by
 rw[List.getElem?_set]at h
 by_cases e:i=j
 ·rw[if_pos e]at h
  by_cases l:i<xs.length
  ·rw[if_pos l]at h;exact .inl ⟨e,(Option.some.inj h).symm,l⟩
  ·rw[if_neg l]at h;cases h
 ·rw[if_neg e]at h;exact .inr ⟨e,h⟩
theorem QjH{α:Type}{xs:List α}{i:Nat}{x:α}(h:i<xs.length):(xs.set i x)[i]?=some x:=by
 rw[List.getElem?_set,if_pos rfl,if_pos h]
theorem QB{α:Type}{xs:List α}{i j:Nat}{x:α}(h:i≠j):(xs.set i x)[j]?=xs[j]?:=by
 rw[List.getElem?_set,if_neg h]
theorem StR.set(S:StR C G H σ ς){d:D}{v:V}(i:Nat)(r:Rep C.X.K C.CT G d v):StR C G H (σ.set i (some v)) (ς.set i (some (.k,d))) where
 toGH:=S.toGH
 len:=by rw[List.length_set,List.length_set];exact S.len
 fz:=fun j e h=>by
  rcases QL h with⟨rfl,h2,l⟩ | ⟨ne,h2⟩
  ·cases h2
   exact⟨v,QjH (by rw[S.len];exact l),r⟩
  ·rw[QB ne];exact S.fz j e h2
 ow:=fun j e h=>by
  rcases QL h with⟨rfl,h2,l⟩ | ⟨ne,h2⟩
  ·cases h2
  ·rw[QB ne];exact S.ow j e h2
 ln:=fun j e h=>by
  rcases QL h with⟨rfl,h2,l⟩ | ⟨ne,h2⟩
  ·cases h2
  ·rw[QB ne];exact S.ln j e h2
 inj:=fun j k d1 d2 p hjk h1 h2 h3=>by
  rcases QL h1 with⟨rfl,q1,l⟩ | ⟨n1,q1⟩
  ·cases q1
  ·rcases QL h2 with⟨rfl,q2,l⟩ | ⟨n2,q2⟩
   ·cases q2
   ·rw[QB n1]at h3
    rw[QB n2];exact S.inj j k d1 d2 p hjk q1 q2 h3
 sf:=fun j e h=>by
  rcases QL h with⟨rfl,h2,l⟩ | ⟨ne,h2⟩
  ·cases h2
  ·rw[QB ne];exact S.sf j e h2
 su:=fun j k d1 d2 h1 h2=>by
  rcases QL h1 with⟨rfl,q1,l⟩ | ⟨n1,q1⟩
  ·cases q1
  ·rcases QL h2 with⟨rfl,q2,l⟩ | ⟨n2,q2⟩
   ·cases q2
   ·exact S.su j k d1 d2 q1 q2
theorem StR.setO(S:StR C G H σ ς){d:D}{p:Addr}(i:Nat)(hg:G p=none)(h0:C.X.H₀ p=none)(ow:Own C.X.K C.CT G H p d)(hn:∀(j:Nat) e,j≠i->ς[j]?=some (some (.o,e))->σ[j]?≠some (some (.ref p))):
 StR C G H (σ.set i (some (.ref p))) (ς.set i (some (.o,d))) where
 toGH:=S.toGH
 len:=by rw[List.length_set,List.length_set];exact S.len
 fz:=fun j e h=>by
  rcases QL h with⟨rfl,h2,l⟩ | ⟨ne,h2⟩
  ·cases h2
  ·rw[QB ne];exact S.fz j e h2
 ow:=fun j e h=>by
  rcases QL h with⟨rfl,h2,l⟩ | ⟨ne,h2⟩
  ·cases h2
   exact⟨p,QjH (by rw[S.len];exact l),hg,h0,ow⟩
  ·rw[QB ne];exact S.ow j e h2
 ln:=fun j e h=>by
  rcases QL h with⟨rfl,h2,l⟩ | ⟨ne,h2⟩
  ·cases h2
  ·rw[QB ne];exact S.ln j e h2
 inj:=fun j k d1 d2 q hjk h1 h2 h3=>by
  rcases QL h1 with⟨rfl,q1,l1⟩ | ⟨n1,q1⟩
  ·rcases QL h2 with⟨rfl,q2,l⟩ | ⟨n2,q2⟩
   ·exact absurd rfl hjk
   ·rw[QjH (by rw[S.len];exact l1)]at h3
    cases h3
    rw[QB n2];exact hn k d2 (Ne.symm n2) q2
  ·rcases QL h2 with⟨rfl,q2,l⟩ | ⟨n2,q2⟩
   ·rw[QB n1]at h3
    rw[QjH (by rw[S.len];exact l)]
    intro z;cases z
    exact hn j d1 (Ne.symm n1) q1 h3
   ·rw[QB n1]at h3
    rw[QB n2];exact S.inj j k d1 d2 q hjk q1 q2 h3
 sf:=fun j e h=>by
  rcases QL h with⟨rfl,h2,l⟩ | ⟨ne,h2⟩
  ·cases h2
  ·rw[QB ne];exact S.sf j e h2
 su:=fun j k d1 d2 h1 h2=>by
  rcases QL h1 with⟨rfl,q1,l⟩ | ⟨n1,q1⟩
  ·cases q1
  ·rcases QL h2 with⟨rfl,q2,l⟩ | ⟨n2,q2⟩
   ·cases q2
   ·exact S.su j k d1 d2 q1 q2
end
def sNil:SD->Out Fl:=fun ς=>.ok (.nx ς)
def thenF(U:SD->Out Fl):Fl->Out Fl
 | .nx ς=>U ς
 | .rt b d=>.ok (.rt b d)
 | .bk ς=>.ok (.bk ς)
 | .ct ς=>.ok (.ct ς)
def sSeq(T U:SD->Out Fl):SD->Out Fl:=fun ς=>T ς>>=thenF U
section
variable{C:Dc}{e:Expr}{E:SD->Out D}{st:Stmt}{rest:List Stmt}{T U:SD->Out Fl}{pos:Pos}
theorem FlK.later{G G1:Hp}{W:Ends}{f:Fl}(h:FlK C G W f)(s:Same G G1):FlK C G1 W f:=by
 cases f with
 | nx ς=>exact fun σ' H' G' S q=>h σ' H' G' S (s.trans q)
 | bk ς=>exact fun σ' H' G' S q=>h σ' H' G' S (s.trans q)
 | ct ς=>exact fun σ' H' G' S q=>h σ' H' G' S (s.trans q)
 | rt b d=>exact fun σ' H' G' S q=>h σ' H' G' S (s.trans q)
theorem Q1:DSs C [] sNil:=⟨_,QR7,fun G H σ ς W S q=>q σ H G S (Same.refl G)⟩
theorem Qf(h1:DS C st T)(h2:DSs C rest U):DSs C (st::rest) (sSeq T U):=by
 obtain⟨t1,p1,q1⟩:=h1
 obtain⟨t2,p2,q2⟩:=h2
 refine⟨_,QP4 p1 p2,fun G H σ ς W S q=>?_⟩
 unfold sSeq at q
 rw[Out.post_bind]at q
 refine q1 G H σ ς _ S (Out.post_mono q fun f k=>?_)
 cases f with
 | nx ς'=>exact fun σ' H' G' S' s'=>q2 G' H' σ' ς' W S' (Out.post_mono (show(U ς').post _ _ from k) fun f k=>FlK.later k s')
 | bk ς'=>exact k
 | ct ς'=>exact k
 | rt b d=>exact k
theorem Qh(h1:DS C st T):DSs C [st] T:=let ⟨t,p,q⟩:=h1;⟨t,QRX p,q⟩
def sSet(i:Nat)(E:SD->Out D):SD->Out Fl:=fun ς=>E ς>>=fun d=>.ok (.nx (ς.set i (some (.k,d))))
def sSetO(i:Nat)(E:SD->Out D):SD->Out Fl:=fun ς=>E ς>>=fun d=>.ok (.nx (ς.set i (some (.o,d))))
theorem Qv{i:Nat}{x:Str}{pos':Pos}(hN:C.X.N.Nodup)(hi:C.X.N[i]?=some x)(hx:Loc C.X.env.scope x)(he:DE C e E)(hs:swapsWith e (some (.Name x pos')) pos.line C.X.env=pure false:=by rfl)
 (hf:C.X.fn x=true∨C.X.env.scope.names.lookup x=some .local:=by first | exact .inl rfl | exact .inr rfl | assumption):DS C (.Assign [.Name x pos'] e pos) (sSet i E):=by
 obtain⟨t,p,q⟩:=he
 refine⟨_,QPm hN hi hx p hs hf,fun G H σ ς W S k=>?_⟩
 unfold sSet at k
 rw[Out.post_bind]at k
 exact q G H σ ς _ S (Out.post_mono k fun d k v H1 G1 S1 a1 b1 r1=>k _ H1 G1 (S1.set i r1) b1)
theorem Qe2{i:Nat}{x:Str}{pos':Pos}(hN:C.X.N.Nodup)(hi:C.X.N[i]?=some x)(hx:Loc C.X.env.scope x)(he:DF C e E)(hs:swapsWith e (some (.Name x pos')) pos.line C.X.env=pure false:=by rfl)
 (hf:C.X.fn x=true∨C.X.env.scope.names.lookup x=some .local:=by first | exact .inl rfl | exact .inr rfl | assumption):DS C (.Assign [.Name x pos'] e pos) (sSetO i E):=by
 obtain⟨t,p,q⟩:=he
 refine⟨_,QPm hN hi hx p hs hf,fun G H σ ς W S k=>?_⟩
 unfold sSetO at k
 rw[Out.post_bind]at k
 exact q G H σ ς _ S (Out.post_mono k fun d k p H1 G1 S1 a1 b1 hp hg ow=>k _ H1 G1 (S1.setO i hg (S.h0none hp) ow fun j e _ z=>S.new_ne hp j e z) b1)
def sPar(i j:Nat)(A:SD->Out (List D)):SD->Out Fl:=fun ς=>A ς>>=fun ds=>match ds with
 | [x,y]=>.ok (.nx ((ς.set i (some (.k,x))).set j (some (.k,y))))
 | _=>.stuck
theorem QUb{i j:Nat}{x y:Str}{a b:Expr}{A:SD->Out (List D)}{px py pt:Pos}{kt k2 pt2}(hc:C.X.calm=true)(hN:C.X.N.Nodup)(hi:C.X.N[i]?=some x)(hj:C.X.N[j]?=some y)(hij:i≠j)
 (hx:C.X.env.scope.names.lookup x=some .local) (hy:C.X.env.scope.names.lookup y=some .local) (ha:DA C [a,b] A)
 (hw:swappedStores [.Tuple [.Name x px,.Name y py] kt pt] (.Tuple [a,b] k2 pt2) C.X.env=pure (some [x,y]))
 (hs:swapsWithSole [.Tuple [.Name x px,.Name y py] kt pt] (.Tuple [a,b] k2 pt2) pos.line C.X.env=pure false:=by rfl):
 DS C (.Assign [.Tuple [.Name x px,.Name y py] kt pt] (.Tuple [a,b] k2 pt2) pos) (sPar i j A):=by
 obtain⟨t,p,q⟩:=ha
 refine⟨_,QTI hc hN hi hj hij hx hy p hw hs,fun G H σ ς W S k=>?_⟩
 unfold sPar at k
 rw[Out.post_bind]at k
 refine q G H σ ς _ S (Out.post_mono k fun ds k vs H1 G1 S1 a1 b1 r1=>?_)
 match ds,r1 with
 | [d1,d2],⟨v1,_,e1,rr1,v2,_,e2,rr2,e3⟩=>
  subst e3 e2 e1
  exact⟨v1,v2,rfl,k _ H1 G1 ((S1.set i rr1).set j rr2) b1⟩
 | [],_=>exact k.elim
 | [_],_=>exact k.elim
 | _::_::_::_,_=>exact k.elim
def Q6:List Nat->List D->SD->Out SD
 | [],[],ς=>.ok ς
 | i::is,d::ds,ς=>Q6 is ds (ς.set i (some (.k,d)))
 | _,_,_=>.stuck
def DGs(C:Dc)(es:List Expr)(is:List Nat):Prop:=∃ t,PGs C.X es t/\∀ G H σ ς ds vs ς' (Q:St->Hp->Prop),StR C G H σ ς->RepL C.X.K C.CT G ds vs->Q6 is ds ς=.ok ς'->
 (∀ σ',StR C G H σ' ς'->Q σ' H)->t vs σ H Q
theorem Qdp:DGs C [] []:=by
 refine⟨_,QSP,fun G H σ ς ds vs ς' Q S r h q=>?_⟩
 cases ds with
 | nil=>
  cases h
  exact⟨r,q σ S⟩
 | cons d ds=>cases h
theorem QX{i:Nat}{is:List Nat}{x:Str}{es:List Expr}(hN:C.X.N.Nodup)(hi:C.X.N[i]?=some x)(hx:Loc C.X.env.scope x)(h2:DGs C es is)
 (hf:C.X.fn x=true∨C.X.env.scope.names.lookup x=some .local:=by first | exact .inl rfl | exact .inr rfl | assumption)
 (hs:(assignEach (.Name x pos::es) C.X.env).map (·.2)=assign (.Name x pos) C.X.env::(assignEach es C.X.env).map (·.2):=by rfl):DGs C (.Name x pos::es) (i::is):=by
 obtain⟨t,p,q⟩:=h2
 refine⟨_,QPK (QLa hN hi hx hf) p hs,fun G H σ ς ds vs ς' Q S r h k=>?_⟩
 cases ds with
 | nil=>cases h
 | cons d ds=>
  obtain⟨v,w,rfl,r1,r2⟩:=r
  exact⟨v,w,rfl,q G H _ _ ds w ς' Q (S.set i r1) r2 h k⟩
def sUnp(is:List Nat)(E:SD->Out D):SD->Out Fl:=fun ς=>E ς>>=fun d=>match d with
 | .tup ds=>Q6 is ds ς>>=fun ς'=>.ok (.nx ς')
 | _=>.stuck
theorem Qsk:∀{is:List Nat}{ds:List D}{ς ς':SD},Q6 is ds ς=.ok ς'->ds.length=is.length
 | [],[],_,_,_=>rfl
 | i::is,d::ds,ς,ς',h=>by
  have:=Qsk (is:=is) (ds:=ds) h
  simp[this]
 | [],_::_,_,_,h=>by cases h
 | _::_,[],_,_,h=>by cases h
theorem QHQ{es:List Expr}{is:List Nat}{k:Nat}{pt:Pos}(hc:C.X.calm=true)(he:DE C e E)(hg:DGs C es is)(hn:(assignEach es C.X.env).length=is.length:=by rfl)(hst:(assignEach es C.X.env).findIdx? (·.1)=none:=by rfl)
 (hs:swapsWithSole [.Tuple es k pt] e pos.line C.X.env=pure false:=by rfl) (hw:swappedStores [.Tuple es k pt] e C.X.env=pure none:=by rfl)
 (h1:(assignEach [.Tuple es k pt] C.X.env).map (·.2)=[assign (.Tuple es k pt) C.X.env]:=by rfl):DS C (.Assign [.Tuple es k pt] e pos) (sUnp is E):=by
 obtain⟨t,p,q⟩:=he
 obtain⟨t2,p2,q2⟩:=hg
 refine⟨_,QUA p (QPt hc p2 hn hst) hs hw h1,fun G H σ ς W S k=>?_⟩
 unfold sUnp at k
 rw[Out.post_bind]at k
 refine q G H σ ς _ S (Out.post_mono k fun d k v H1 G1 S1 a1 b1 r1=>?_)
 cases d with
 | tup ds=>
  obtain⟨a,vs,rfl,h2,h3⟩:=r1
  have k':(Q6 is ds ς>>=fun ς'=>Out.ok (Fl.nx ς')).post (FlK C G W) C.XD:=k
  rw[Out.post_bind]at k'
  cases z:Q6 is ds ς with
  | exc _=>exact absurd z (by
   have:∀(is:List Nat) (ds:List D) (ς:SD) x,Q6 is ds ς≠.exc x:=by
    intro is
    induction is with
    | nil=>intro ds ς x h;cases ds<;>cases h
    | cons i is ih=>intro ds ς x h;cases ds with
     | nil=>cases h
     | cons d ds=>exact ih ds _ x h
   exact this is ds ς _)
  | stuck=>rw[z]at k';exact k'.elim
  | ok ς'=>
   rw[z]at k'
   refine⟨a,vs,rfl,Same.sqT S1.sub h2,by rw[← h3.length];exact Qsk z,?_⟩
   exact q2 G1 H1 σ ς ds vs ς' _ S1 h3 z fun σ' S'=>k' σ' H1 G1 S' b1
 | _=>exact k.elim
def sRet(E:SD->Out D):SD->Out Fl:=fun ς=>E ς>>=fun d=>.ok (.rt false d)
def sRetF(E:SD->Out D):SD->Out Fl:=fun ς=>E ς>>=fun d=>.ok (.rt true d)
theorem QA(he:DE C e E):DS C (.Return (some e) pos) (sRet E):=by
 obtain⟨t,p,q⟩:=he
 refine⟨_,QG7 p,fun G H σ ς W S k=>?_⟩
 unfold sRet at k
 rw[Out.post_bind]at k
 exact q G H σ ς _ S (Out.post_mono k fun d k v H1 G1 S1 a1 b1 r1=>k v H1 G1 S1.toGH b1 r1)
theorem Qc8(he:DF C e E):DS C (.Return (some e) pos) (sRetF E):=by
 obtain⟨t,p,q⟩:=he
 refine⟨_,QG7 p,fun G H σ ς W S k=>?_⟩
 unfold sRetF at k
 rw[Out.post_bind]at k
 exact q G H σ ς _ S (Out.post_mono k fun d k p H1 G1 S1 a1 b1 hp hg ow=>k _ H1 G1 S1.toGH b1 ⟨p,rfl,S.h0none hp,hg,ow⟩)
def sRetO(i:Nat):SD->Out Fl:=fun ς=>match ς[i]? with | some (some (.o,d))=>.ok (.rt true d) | _=>.stuck
theorem QmU(i:Nat){x:Str}{px:Pos}(hN:C.X.N[i]?=some x:=by rfl)(hv:Vis C.X.env.scope x:=by first | exact Or.inl rfl | exact Or.inr (Or.inl rfl) | exact Or.inr (Or.inr rfl))
 (hd:(x == ("__debug__":Str))=false:=by decide) (hcd:(x == ("__classdict__":Str))=false:=by decide):DS C (.Return (some (.Name x px)) pos) (sRetO i):=by
 refine⟨_,QG7 (QnT (i:=i) hN hv hd hcd),fun G H σ ς W S k=>?_⟩
 unfold sRetO at k
 split at k
 ·rename_i d z
  obtain⟨p,a,b,c,w⟩:=S.ow i d z
  exact⟨_,a,k _ H G S.toGH (Same.refl G) ⟨p,rfl,c,b,w⟩⟩
 ·exact k.elim
def sIf(c:SD->Out Bool)(T U:SD->Out Fl):SD->Out Fl:=fun ς=>c ς>>=fun b=>if b=true then T ς else U ς
theorem ds_if{c:Expr}{a b:List Stmt}{TC:SD->Out Bool}(hc:DT C c TC)(ha:DSs C a T)(hb:DSs C b U):DS C (.If c a b pos) (sIf TC T U):=by
 obtain⟨t0,p0,q0⟩:=hc
 obtain⟨t1,p1,q1⟩:=ha
 obtain⟨t2,p2,q2⟩:=hb
 refine⟨_,ps_if p0 p1 p2,fun G H σ ς W S k=>?_⟩
 unfold sIf at k
 rw[Out.post_bind]at k
 refine q0 G H σ ς _ S (Out.post_mono k fun b k H1 G1 S1 a1 b1=>?_)
 cases b with
 | true=>exact iteT (q1 G1 H1 σ ς W S1 (Out.post_mono (show(T ς).post _ _ from k) fun f k=>FlK.later k b1))
 | false=>exact iteF (q2 G1 H1 σ ς W S1 (Out.post_mono (show(U ς).post _ _ from k) fun f k=>FlK.later k b1))
def Qhp:SD->Out Fl:=fun _=>.stuck
theorem QfC:DS C st Qhp:=⟨_,QQq,fun G H σ ς W S k=>k.elim⟩
end
def loopD(body:D->SD->Out Fl):List D->SD->Out Fl
 | [],ς=>.ok (.nx ς)
 | x::xs,ς=>body x ς>>=fun f=>match f with
  | .nx ς'=>loopD body xs ς'
  | .ct ς'=>loopD body xs ς'
  | .bk ς'=>.ok (.nx ς')
  | .rt b d=>.ok (.rt b d)
def DG(C:Dc)(tg:Expr)(g:D->SD->Out SD):Prop:=∃ t,PG C.X tg t/\∀ G H σ ς d v ς' (Q:St->Hp->Prop),StR C G H σ ς->Rep C.X.K C.CT G d v->g d ς=.ok ς'->(∀ σ',StR C G H σ' ς'->Q σ' H)->t v σ H Q
def gN(i:Nat):D->SD->Out SD:=fun d ς=>.ok (ς.set i (some (.k,d)))
def gT(is:List Nat):D->SD->Out SD:=fun d ς=>match d with | .tup ds=>Q6 is ds ς | _=>.stuck
def noExc{α β γ : Type}(g:α->β->Out γ):Prop:=∀ a b x,g a b≠.exc x
theorem Qt(i:Nat):noExc (gN i):=fun _ _ _ h=>by cases h
theorem QHx(is:List Nat):∀(ds:List D) (ς:SD) x,Q6 is ds ς≠.exc x:=by
 induction is with
 | nil=>intro ds ς x h;cases ds<;>cases h
 | cons i is ih=>intro ds ς x h;cases ds with
  | nil=>cases h
  | cons d ds=>exact ih ds _ x h
theorem Qd6(is:List Nat):noExc (gT is):=fun d ς x h=>by
 cases d with
 | tup ds=>exact QHx is ds ς x h
 | _=>cases h
section
variable{C:Dc}{e tg iter:Expr}{E:SD->Out D}{body:List Stmt}{T U:SD->Out Fl}{pos:Pos}{g:D->SD->Out SD}
theorem Qz{i:Nat}{x:Str}(hN:C.X.N.Nodup)(hi:C.X.N[i]?=some x)(hx:Loc C.X.env.scope x)
 (hf:C.X.fn x=true∨C.X.env.scope.names.lookup x=some .local:=by first | exact .inl rfl | exact .inr rfl | assumption):DG C (.Name x pos) (gN i):=
 ⟨_,QLa hN hi hx hf,fun G H σ ς d v ς' Q S r h k=>by cases h;exact k _ (S.set i r)⟩
theorem Qhu{es:List Expr}{is:List Nat}{k:Nat}(hc:C.X.calm=true)(hg:DGs C es is)(hn:(assignEach es C.X.env).length=is.length:=by rfl)(hst:(assignEach es C.X.env).findIdx? (·.1)=none:=by rfl):
 DG C (.Tuple es k pos) (gT is):=by
 obtain⟨t2,p2,q2⟩:=hg
 refine⟨_,QPt hc p2 hn hst,fun G H σ ς d v ς' Q S r h k=>?_⟩
 cases d with
 | tup ds=>
  obtain⟨a,vs,rfl,h2,h3⟩:=r
  exact⟨a,vs,rfl,Same.sqT S.sub h2,by rw[← h3.length];exact Qsk h,q2 G H σ ς ds vs ς' Q S h3 h k⟩
 | _=>cases h
def sFor(g:D->SD->Out SD)(its:SD->Out (List D))(T:SD->Out Fl):SD->Out Fl:=fun ς=>its ς>>=fun xs=>loopD (fun x ς=>g x ς>>=fun ς'=>T ς') xs ς
def itL(E:SD->Out D):SD->Out (List D):=fun ς=>E ς>>=fun d=>match d with | .lst xs=>.ok xs | _=>.stuck
theorem turnD{W:Ends}{x:D}{v:V}{xs:List D}{G H:Hp}{σ:St}{ς:SD}{tb:TS}{tt:TG}{N:L2.St->Hp->Prop}(hne:noExc g)
 (hg:∀ G H σ ς d v ς' (Q:St->Hp->Prop),StR C G H σ ς->Rep C.X.K C.CT G d v->g d ς=.ok ς'->(∀ σ',StR C G H σ' ς'->Q σ' H)->tt v σ H Q)
 (hb:∀ G H σ ς W,StR C G H σ ς->(T ς).post (FlK C G W) C.XD->tb W σ H)
 (S:StR C G H σ ς) (r:Rep C.X.K C.CT G x v) (q:(loopD (fun x ς=>g x ς>>=fun ς'=>T ς') (x::xs) ς).post (FlK C G W) C.XD)
 (hN:∀ σ' H' G' ς',StR C G' H' σ' ς'->Same G G'->(loopD (fun x ς=>g x ς>>=fun ς'=>T ς') xs ς').post (FlK C G' W) C.XD->N σ' H'):
 tt v σ H fun σ2 H2=>tb { W with nx:=N,ct:=N,bk:=W.nx } σ2 H2:=by
 have q':((g x ς>>=fun ς'=>T ς')>>=fun f=>match f with
  | .nx ς'=>loopD (fun x ς=>g x ς>>=fun ς'=>T ς') xs ς'
  | .ct ς'=>loopD (fun x ς=>g x ς>>=fun ς'=>T ς') xs ς'
  | .bk ς'=>.ok (.nx ς')
  | .rt b d=>.ok (.rt b d)).post (FlK C G W) C.XD:=q
 rw[Out.post_bind,Out.post_bind]at q'
 cases z:g x ς with
 | exc y=>exact absurd z (hne _ _ _)
 | stuck=>rw[z]at q';exact q'.elim
 | ok ς1=>
  rw[z]at q'
  refine hg G H σ ς x v ς1 _ S r z fun σ1 S1=>hb G H σ1 ς1 _ S1 (Out.post_mono q' fun f k=>?_)
  cases f with
  | nx ς'=>exact fun σ' H' G' S' s'=>hN σ' H' G' ς' S' s' (Out.post_mono (show(loopD _ xs ς').post _ _ from k) fun f k=>FlK.later k s')
  | ct ς'=>exact fun σ' H' G' S' s'=>hN σ' H' G' ς' S' s' (Out.post_mono (show(loopD _ xs ς').post _ _ from k) fun f k=>FlK.later k s')
  | bk ς'=>exact fun σ' H' G' S' s'=>(show FlK C G W (.nx ς') from k) σ' H' G' S' s'
  | rt b d=>exact k
theorem QCS{α:Type}{xs:List α}{i:Nat}{x:α}(h:xs[i]?=some x):xs.drop i=x::xs.drop (i+1):=by
 obtain⟨l,e⟩:=List.getElem?_eq_some_iff.mp h
 rw[List.drop_eq_getElem_cons l,e]
def QbM(lo:Int)(n:Nat):List D:=(List.range n).map fun(i:Nat)=>D.int (lo+i)
theorem QM1{lo:Int}{n i:Nat}(h:i<n):(QbM lo n)[i]?=some (D.int (lo+i)):=by
 unfold QbM
 rw[List.getElem?_map,List.getElem?_range h];rfl
theorem QAc{lo:Int}{n:Nat}:(QbM lo n).length=n:=by simp[QbM]
def Qrn(i:Int):Bool:=decide (-(2 ^ 62)<=i)&&decide (i<2 ^ 62)
def itR1(A:SD->Out D):SD->Out (List D):=fun ς=>A ς>>=fun d=>match d with
 | .int n=>if Qrn n=true then .ok (QbM 0 n.toNat) else .stuck
 | _=>.stuck
theorem QNu{i:Int}(h:Qrn i=true) : -(2 ^ 62)<=i/\i<2 ^ 62:=by
 unfold Qrn at h
 rw[Bool.and_eq_true]at h
 exact⟨of_decide_eq_true h.1,of_decide_eq_true h.2⟩
def QE(c:SD->Out Bool)(b:SD->Out Fl):Nat->SD->Out Fl
 | 0,_=>.stuck
 | n+1,ς=>c ς>>=fun t=>if t=true then b ς>>=fun f=>match f with
  | .nx ς'=>QE c b n ς'
  | .ct ς'=>QE c b n ς'
  | .bk ς'=>.ok (.nx ς')
  | .rt b d=>.ok (.rt b d)
  else .ok (.nx ς)
def QF7(m:SD->Nat)(c:SD->Out Bool)(b:SD->Out Fl):SD->Out Fl:=fun ς=>QE c b (m ς) ς
theorem QQB(m:SD->Nat){c:Expr}{TC:SD->Out Bool}(hp:PassesOwn (model C.X.prog C.X.w) C.X.A C.X.env C.X.xe)(hc:DT C c TC)(hb:DSs C body T):DS C (.While c body [] pos) (QF7 m TC T):=by
 obtain⟨t0,p0,q0⟩:=hc
 obtain⟨t1,p1,q1⟩:=hb
 refine⟨_,QP9 hp p0 p1,fun G H σ ς W S k=>?_⟩
 refine⟨fun n σ' H'=>∃ G' ς',StR C G' H' σ' ς'/\(QE TC T n ς').post (FlK C G' W) C.XD,⟨m ς,G,ς,S,k⟩,?_⟩
 rintro n σ' H' ⟨G',ς',S',k'⟩
 cases n with
 | zero=>exact k'.elim
 | succ n=>
  rw[QE,Out.post_bind]at k'
  refine q0 G' H' σ' ς' _ S' (Out.post_mono k' fun b k H1 G1 S1 a1 b1=>?_)
  cases b with
  | false=>exact iteF ((show FlK C G' W (.nx ς') from k) σ' H1 G1 S1 b1)
  | true=>
   rw[if_pos rfl,Out.post_bind]at k
   refine iteT ⟨fun σ2 H2=>∃ G2 ς2,StR C G2 H2 σ2 ς2/\(QE TC T n ς2).post (FlK C G2 W) C.XD,fun σ2 H2 h=>⟨n,Nat.lt_succ_self n,h⟩,?_⟩
   refine q1 G1 H1 σ' ς' _ S1 (Out.post_mono k fun f k=>?_)
   cases f with
   | nx ς2=>exact fun σ2 H2 G2 S2 s2=>⟨G2,ς2,S2,Out.post_mono (show(QE TC T n ς2).post _ _ from k) fun f k=>FlK.later k (b1.trans s2)⟩
   | ct ς2=>exact fun σ2 H2 G2 S2 s2=>⟨G2,ς2,S2,Out.post_mono (show(QE TC T n ς2).post _ _ from k) fun f k=>FlK.later k (b1.trans s2)⟩
   | bk ς2=>exact fun σ2 H2 G2 S2 s2=>(show FlK C G' W (.nx ς2) from k) σ2 H2 G2 S2 (b1.trans s2)
   | rt b d=>exact FlK.later (show FlK C G' W (.rt b d) from k) b1
noncomputable def fuelC(c:SD->Out Bool)(b:SD->Out Fl)(ς:SD):Nat:=by
 classical exact if h:∃ n,QE c b n ς≠.stuck then Classical.choose h else 0
noncomputable def Qc4(c:SD->Out Bool)(b:SD->Out Fl):SD->Out Fl:=QF7 (fuelC c b) c b
theorem QCX{c:Expr}{TC:SD->Out Bool}(hp:PassesOwn (model C.X.prog C.X.w) C.X.A C.X.env C.X.xe)(hc:DT C c TC)(hb:DSs C body T):DS C (.While c body [] pos) (Qc4 TC T):=QQB (fuelC TC T) hp hc hb
theorem Qpn{c:SD->Out Bool}{b:SD->Out Fl}:∀(n:Nat)(ς:SD),QE c b n ς≠.stuck->QE c b (n+1) ς=QE c b n ς
 | 0,ς,h=>absurd rfl h
 | n+1,ς,h=>by
  rw[QE,QE]
  rw[QE]at h
  cases hc:c ς with
  | stuck=>rfl
  | exc _=>rfl
  | ok t=>
   rw[hc]at h
   cases t with
   | false=>rfl
   | true=>
    have h':(b ς>>=fun f=>match f with
     | .nx ς'=>QE c b n ς'
     | .ct ς'=>QE c b n ς'
     | .bk ς'=>.ok (.nx ς')
     | .rt b d=>.ok (.rt b d))≠.stuck:=h
    show(b ς>>=fun f=>match f with
     | .nx ς'=>QE c b (n+1) ς'
     | .ct ς'=>QE c b (n+1) ς'
     | .bk ς'=>.ok (.nx ς')
     | .rt b d=>.ok (.rt b d))=(b ς>>=fun f=>match f with
     | .nx ς'=>QE c b n ς'
     | .ct ς'=>QE c b n ς'
     | .bk ς'=>.ok (.nx ς')
     | .rt b d=>.ok (.rt b d))
    cases hb:b ς with
    | stuck=>rfl
    | exc _=>rfl
    | ok f=>
     rw[hb]at h'
     cases f with
     | nx ς'=>exact Qpn n ς' h'
     | ct ς'=>exact Qpn n ς' h'
     | bk _=>rfl
     | rt _ _=>rfl
theorem QvI{c:SD->Out Bool}{b:SD->Out Fl}{ς:SD}{n:Nat}(h:QE c b n ς≠.stuck):∀ k,QE c b (n+k) ς=QE c b n ς
 | 0=>rfl
 | k+1=>by
  have ih:=QvI h k
  rw[← Nat.add_assoc,Qpn (n+k) ς (by rw[ih];exact h),ih]
theorem Qd2{c:SD->Out Bool}{b:SD->Out Fl}{ς:SD}(n:Nat)(h:QE c b n ς≠.stuck):Qc4 c b ς=QE c b n ς:=by
 have hx:∃ n,QE c b n ς≠.stuck:=⟨n,h⟩
 have e:fuelC c b ς=Classical.choose hx:=by unfold fuelC;rw[dif_pos hx]
 unfold Qc4 QF7
 rw[e]
 have h2:=Classical.choose_spec hx
 generalize Classical.choose hx=m at h2 ⊢
 rcases Nat.le_total n m with hl | hl
 ·obtain⟨k,rfl⟩:=Nat.exists_eq_add_of_le hl
  exact QvI h k
 ·obtain⟨k,rfl⟩:=Nat.exists_eq_add_of_le hl
  exact(QvI h2 k).symm
theorem QhU{c:SD->Out Bool}{b:SD->Out Fl}{ς:SD}(h:∀ n,QE c b n ς=.stuck):Qc4 c b ς=.stuck:=h _
theorem Qds(c:SD->Out Bool)(b:SD->Out Fl)(ς:SD):Qc4 c b ς=(c ς>>=fun t=>if t=true then b ς>>=fun f=>match f with
 | .nx ς'=>Qc4 c b ς'
 | .ct ς'=>Qc4 c b ς'
 | .bk ς'=>.ok (.nx ς')
 | .rt b d=>.ok (.rt b d)
 else .ok (.nx ς)):=by
 have key:∀ n,QE c b (n+1) ς≠.stuck->Qc4 c b ς=QE c b (n+1) ς:=fun n h=>Qd2 _ h
 cases hc:c ς with
 | stuck=>exact QhU fun n=>by cases n with | zero=>rfl | succ n=>rw[QE,hc];rfl
 | exc x=>exact(Qd2 1 (by rw[QE,hc];exact fun z=>nomatch z)).trans (by rw[QE,hc];rfl)
 | ok t=>
  cases t with
  | false=>exact(Qd2 1 (by rw[QE,hc];exact fun z=>nomatch z)).trans (by rw[QE,hc];rfl)
  | true=>
   cases hb:b ς with
   | stuck=>exact(QhU fun n=>by cases n with | zero=>rfl | succ n=>rw[QE,hc];show(b ς>>=_)=_;rw[hb];rfl).trans (by show _=Out.stuck;rfl)
   | exc x=>exact(Qd2 1 (by rw[QE,hc];show(b ς>>=_)≠_;rw[hb];exact fun z=>nomatch z)).trans (by rw[QE,hc];show(b ς>>=_)=_;rw[hb];rfl)
   | ok f=>
    have go:∀ ς',(f=.nx ς'∨f=.ct ς')->(∀ n,QE c b (n+1) ς=QE c b n ς')->Qc4 c b ς=Qc4 c b ς':=fun ς' _ e=>by
     by_cases hx:∃ n,QE c b n ς'≠.stuck
     ·obtain⟨n,hn⟩:=hx
      rw[Qd2 n hn,Qd2 (n+1) (by rw[e];exact hn),e]
     ·have hs:∀ n,QE c b n ς'=.stuck:=fun n=>Classical.byContradiction fun z=>hx ⟨n,z⟩
      rw[QhU hs]
      exact QhU fun n=>by cases n with | zero=>rfl | succ n=>rw[e];exact hs n
    cases f with
    | nx ς'=>exact go ς' (.inl rfl) fun n=>by rw[QE,hc];show(b ς>>=_)=_;rw[hb];rfl
    | ct ς'=>exact go ς' (.inr rfl) fun n=>by rw[QE,hc];show(b ς>>=_)=_;rw[hb];rfl
    | bk ς'=>exact(Qd2 1 (by rw[QE,hc];show(b ς>>=_)≠_;rw[hb];exact fun z=>nomatch z)).trans (by rw[QE,hc];show(b ς>>=_)=_;rw[hb];rfl)
    | rt r d=>exact(Qd2 1 (by rw[QE,hc];show(b ς>>=_)≠_;rw[hb];exact fun z=>nomatch z)).trans (by rw[QE,hc];show(b ς>>=_)=_;rw[hb];rfl)
end
end DL
namespace DL
open PySem PySem.Spec PyProof.Rows L2
def RetG(K:PySem.W.Frag)(CT:CTab)(fr:Bool)(H0 G' H':Hp)(d:D)(v:V):Prop:=
 if (fr && !d.scal)=true then ∃ p,v=.ref p/\H0 p=none/\G' p=none/\Own K CT G' H' p d else Rep K CT G' d v
def retF(fr:Bool):Fl->Out D
 | .rt b d=>if (!fr||b||d.scal)=true then .ok d else .stuck
 | .nx _=>.ok .non
 | _=>.stuck
def bodyF(fr:Bool)(n len:Nat)(T:SD->Out Fl):List D->Out D:=fun ds=>
 if ds.length=n then T (ds.map (fun d=>some (.k,d))++List.replicate (len - n) none)>>=retF fr else .stuck
def SpD(K:PySem.W.Frag)(CT:CTab)(fr:Bool)(m:List D->Out D):Sp:=fun vs H Q _=>∃ ds G0,Same G0 H/\RepL K CT G0 ds vs/\
 (m ds).post (fun d=>∀ v H' G',Same G0 G'->Same H H'->Same G' H'->(∀ b,G0 b=none->G' b≠none->H b=none)->RetG K CT fr H G' H' d v->Q v H') (fun _=>False)
structure FunV(K:PySem.W.Frag)(x qual:Str)(st:Stmt)(f:Addr)(fd:FuncData)(dV:Value):Prop where
 ex:∃(oc:Value)(od:Option Addr)(kV doc pm:Value)(an:Option Addr)(cdv ct:Value)(osl:Array (Option Value)),
  fd=PySem.W.fnOf x qual (Qm st) (Qk st) (Qa st) dV kV doc pm an cdv ct/\K.lookup f=some ⟨oc,od,.func fd,osl⟩/\PySem.W.codeIn K cdv qual=true
 kp:PySem.W.keepIn K (.ref f)=true
theorem Qp{K:PySem.W.Frag}{x qual:Str}{st:Stmt}{f:Addr}{oc:Value}{od an:Option Addr}{osl:Array (Option Value)}{dV kV doc pm cdv ct:Value}(l:K.lookup f=some ⟨oc,od,.func (PySem.W.fnOf x qual (Qm st) (Qk st) (Qa st) dV kV doc pm an cdv ct),osl⟩)
 (c:PySem.W.codeIn K cdv qual=true) (k:PySem.W.keepIn K (.ref f)=true):FunV K x qual st f (PySem.W.fnOf x qual (Qm st) (Qk st) (Qa st) dV kV doc pm an cdv ct) dV:=⟨⟨oc,od,kV,doc,pm,an,cdv,ct,osl,rfl,l,c⟩,k⟩
theorem FunV.binds{K:PySem.W.Frag}{x qual:Str}{st:Stmt}{f:Addr}{fd:FuncData}{ps:List Str}(F:FunV K x qual st f fd .none)
 (h:∀(kV doc pm:Value)(an:Option Addr)(cdv ct:Value)(us:List Value),us.length=ps.length->bindArgs (PySem.W.fnOf x qual (Qm st) (Qk st) (Qa st) .none kV doc pm an cdv ct) ⟨us,[]⟩=pure (ps.zip us)):Binds K fd ps []:=by
 obtain⟨oc,od,kV,doc,pm,an,cdv,ct,osl,rfl,lk,hcd⟩:=F.ex
 exact .all (h kV doc pm an cdv ct)
abbrev dcOf(P:Program)(w:World)(K:PySem.W.Frag)(mg:Str->Option Value)(base:Heap)(CT:CTab)(N:List Str)(qual:Str)(sc:Scope)(f:Addr)(cdv:Value)(A:Around)(outer:List Env)(s:Shared)(H:Hp)(E:XK)(G:Hp):Dc:=
 { X:=(cxOf CX0 P w K mg base N qual sc f cdv A outer s H E).nox,CT:=CT,G0:=G,XD:=fun _=>False,B:=H,M:=fun _=>False }
theorem Qvy{N:List Str}{vs:List V}{i:Nat}{v:V}(h:vs[i]?=some v):(L2.start N vs)[i]?=some (some v):=by
 unfold L2.start
 have hi:i<vs.length:=(List.getElem?_eq_some_iff.mp h).1
 rw[List.getElem?_append_left (by simpa using hi),List.getElem?_map,h];rfl
theorem Qgh{ds:List D}{k:Nat}{i:Nat}{x:SM×D}(h:(ds.map (fun d=>some (SM.k,d))++List.replicate k (none:Option (SM×D)))[i]?=some (some x)):∃ d,ds[i]?=some d/\x=(.k,d):=by
 by_cases hi:i<ds.length
 ·rw[List.getElem?_append_left (by simpa using hi),List.getElem?_map]at h
  cases e:ds[i]? with
  | none=>rw[e]at h;cases h
  | some d=>rw[e]at h;cases h;exact⟨d,rfl,rfl⟩
 ·rw[List.getElem?_append_right (by simpa using hi),List.getElem?_replicate]at h
  split at h<;>cases h
theorem GH.freezeR{C:Dc}{G' H':Hp}(S:GH C G' H'){p:Addr}{o:HO}(hp:H' p=some o)(hg:G' p=none)(h0:C.X.H₀ p=none):GH C (upd G' p o) H' where
 sub:=fun b u q=>by
  by_cases hb:b=p
  ·subst hb;rw[QU]at q;cases q;exact hp
  ·rw[Ql hb]at q;exact S.sub b u q
 g0:=S.g0.trans (QD hg)
 new:=fun b h1 h2=>by
  by_cases hb:b=p
  ·subst hb;exact h0
  ·rw[Ql hb]at h2;exact S.new b h1 h2
 fr:=S.fr
 dom:=S.dom
 bs:=S.bs
 bh:=S.bh
theorem fnV{P:Program}{w:World}{K:PySem.W.Frag}{mg:Str->Option Value}{base:Heap}{CT:CTab}{fr:Bool}{x qual:Str}{st:Stmt}{f:Addr}{fd:FuncData}{dV:Value}{N ps:List Str}{k:Nat}{T:SD->Out Fl}
 (F:FunV K x qual st f fd dV) (S:Qo N ps (Qa st))
 (hb:∀(cdv:Value)(A:Around)(outer:List Env)(s:Shared)(H:Hp)(E:XK)(G:Hp),Room k (A.deeper (envOfC qual (Qa st) s.heap.objs.size f cdv))->DSs (dcOf P w K mg base CT N qual (Qa st) f cdv A outer s H E G) (Qk st) T):
 FnOk P w K mg base CX0 (k+1) f fd ps (SpD K CT fr (bodyF fr ps.length N.length T)):=by
 obtain⟨oc,od,kV,doc,pm,an,cdv,ct,osl,rfl,lk,hcd⟩:=F.ex
 have hpl:ps.length<=N.length:=by have:=congrArg List.length S.pre;rw[List.length_take]at this;omega
 have len:∀ vs H Q E,SpD K CT fr (bodyF fr ps.length N.length T) vs H Q E->vs.length=ps.length:=by
  intro vs H Q E ⟨ds,G0,sub,r,q⟩
  unfold bodyF at q
  by_cases hl:ds.length=ps.length
  ·rw[← r.length];exact hl
  ·rw[if_neg hl]at q;exact q.elim
 refine fn_of lk hcd S len fun A outer s H vs Q E hr hsp=>?_
 have hlen:=len vs H Q E hsp
 obtain⟨ds,G0,sub,r,q⟩:=hsp
 obtain⟨t,p1,q1⟩:=hb cdv A outer s H E G0 hr
 have hl:ds.length=ps.length:=by rw[r.length];exact hlen
 refine⟨t,p1.nox,?_⟩
 unfold bodyF at q
 rw[if_pos hl,Out.post_bind]at q
 have S0:StR (dcOf P w K mg base CT N qual (Qa st) f cdv A outer s H E G0) G0 H (L2.start N vs) (ds.map (fun d=>some (.k,d))++List.replicate (N.length - ps.length) none):={
  sub:=sub
  g0:=Same.refl _
  new:=fun b h1 h2=>absurd h1 h2
  fr:=fun b o e _=>e
  dom:=fun b e=>e
  bs:=Same.refl _
  bh:=fun b e=>e
  len:=by unfold L2.start;simp;omega
  fz:=fun i d e=>by
   obtain⟨d',e1,e2⟩:=Qgh e
   cases e2
   obtain⟨v,e3,rv⟩:=r.get e1
   exact⟨v,Qvy e3,rv⟩
  ow:=fun i d e=>by
   obtain⟨d',e1,e2⟩:=Qgh e
   cases e2
  ln:=fun i d e=>by
   obtain⟨d',e1,e2⟩:=Qgh e
   cases e2
  inj:=fun i j d e p _ h=>by
   obtain⟨d',e1,e2⟩:=Qgh h
   cases e2
  sf:=fun i d e=>by
   obtain⟨d',e1,e2⟩:=Qgh e
   cases e2
  su:=fun i j d e h=>by
   obtain⟨d',e1,e2⟩:=Qgh h
   cases e2 }
 refine q1 G0 H (L2.start N vs) _ _ S0 (Out.post_mono q fun fl kk=>?_)
 cases fl with
 | nx ς'=>exact fun σ' H' G' S' s'=>kk .non H' G' s' (fun b o e=>S'.fr b o e id) S'.sub S'.new (by unfold RetG;rw[if_neg (by cases fr<;>decide)];rfl)
 | bk ς'=>exact fun σ' H' G' S' s'=>kk.elim
 | ct ς'=>exact fun σ' H' G' S' s'=>kk.elim
 | rt b d=>
  intro v H' G' S' s' ret
  have kk':(if (!fr||b||d.scal)=true then Out.ok d else Out.stuck).post (fun d=>∀ v H' G',Same G0 G'->Same H H'->Same G' H'->(∀ b,G0 b=none->G' b≠none->H b=none)->RetG K CT fr H G' H' d v->Q v H') (fun _=>False):=kk
  rcases Qas kk' with⟨hc,k2⟩ | ⟨_,k2⟩
  ·have k3:∀ v H' G',Same G0 G'->Same H H'->Same G' H'->(∀ b,G0 b=none->G' b≠none->H b=none)->RetG K CT fr H G' H' d v->Q v H':=k2
   cases b with
   | false=>
    refine k3 v H' G' s' (fun b o e=>S'.fr b o e id) S'.sub S'.new ?_
    unfold RetG
    have hn:¬ (fr && !d.scal)=true:=by revert hc;cases fr<;>cases d.scal<;>simp
    rw[if_neg hn]
    exact ret
   | true=>
    obtain⟨p,rfl,h0,hg,ow⟩:=(show ∃ p,v=.ref p/\H p=none/\G' p=none/\Own K CT G' H' p d from ret)
    cases fr with
    | true=>
     refine k3 _ H' G' s' (fun b o e=>S'.fr b o e id) S'.sub S'.new ?_
     have hs:d.scal=false:=by cases d<;>first | rfl | exact ow.elim
     unfold RetG
     rw[if_pos (by rw[hs];rfl)]
     exact⟨p,rfl,h0,hg,ow⟩
    | false=>
     obtain⟨o,ho⟩:=ow.there
     have S2:=GH.freezeR S' ho hg h0
     refine k3 _ H' _ (s'.trans (QD hg)) (fun b o e=>S2.fr b o e id) S2.sub S2.new ?_
     unfold RetG
     rw[if_neg (by simp)]
     exact ow.known hg ho
  ·exact k2.elim
def DefOk(P:Program)(w:World)(K:PySem.W.Frag)(mg:Str->Option Value)(base:Heap)(CT:CTab)(x:Str)(k:Nat)(fr:Bool)(dd:List D)(m:List D->Out D):Prop:=
 ∃ f fd ps ds,FnOk P w K mg base CX0 k f fd ps (SpD K CT fr m)/\mg x=some (.ref f)/\PySem.W.keepIn K (.ref f)=true/\Binds K fd ps ds/\Vals (dd.map toV) ds
theorem QFq{K:PySem.W.Frag}{CT:CTab}{H:Hp}:∀{dd:List D},dd.all D.scal=true->RepL K CT H dd (dd.map toV)
 | [],_=>rfl
 | d::ds,h=>by
  rw[List.all_cons,Bool.and_eq_true]at h
  exact⟨_,_,rfl,QB5 h.1,QFq h.2⟩
section
variable{C:Dc}{x:Str}{k:Nat}{fr:Bool}{dd:List D}{m:List D->Out D}{e:Expr}{es:List Expr}{A:SD->Out (List D)}{p pos:Pos}
theorem de_f(h:DefOk C.X.prog C.X.w C.X.K C.X.mg C.X.base C.CT x k fr dd m)(hr:Room k C.X.A)(ha:DA C (e::es) A)(hg:Gl C.X x)(hs:dd.all D.scal=true:=by rfl)(hx:∀ x,¬ C.XD x:=by exact fun _ h=>h)
 (hdb:(x == ("__debug__":Str))=false:=by decide) (he:starEach (e::es) C.X.env=(false,eval e C.X.env)::starEach es C.X.env:=by rfl) (hpl:(backTo pos (starEach es C.X.env)).any (·.1)=false:=by rfl):
 DE C (.Call (.Name x p) (e::es) [] pos) (eA (fun xs=>m (xs++dd)) A):=by
 obtain⟨f,fd,ps,ds,F,hm,hk,hb,hd⟩:=h
 obtain⟨t,p1,q1⟩:=ha
 refine⟨_,QRU F hr hg hm hk hb hd pass0 p1 hdb he hpl,fun G H σ ς Q S q=>?_⟩
 unfold eA at q
 rw[Out.post_bind]at q
 refine q1 G H σ ς _ S (Out.post_mono q fun xs kk vs H1 G1 S1 a1 b1 r1=>⟨xs++dd,G1,S1.sub,r1.append (QFq hs),?_⟩)
 cases z:m (xs++dd) with
 | stuck=>rw[z]at kk;exact kk.elim
 | exc y=>rw[z]at kk;exact absurd kk (hx y)
 | ok d=>
  rw[z]at kk
  intro v H' G' g1 h1 s1 n1 ret
  unfold RetG at ret
  by_cases hc:(fr && !d.scal)=true
  ·rw[if_pos hc]at ret
   obtain⟨pp,rfl,h0,hg',ow⟩:=ret
   obtain⟨o,ho⟩:=ow.there
   have S2:=(S1.grow h1 g1 s1 n1).freeze ho hg' (S1.h0none h0) (fun i d' z1 z2=>by
    obtain⟨o',ho'⟩:=S1.own_ne z1 z2
    rw[h0]at ho';cases ho')
   exact(show KD C G H σ ς Q d from kk) _ _ _ S2 (a1.trans h1) ((b1.trans g1).trans (QD hg')) (ow.known hg' ho)
  ·rw[if_neg hc]at ret
   exact(show KD C G H σ ς Q d from kk) v H' G' (S1.grow h1 g1 s1 n1) (a1.trans h1) (b1.trans g1) ret
end
abbrev bitsI(i:Int):Nat:=Builtin.Int.intBits i
theorem Qy2:∀{xs:List PySem.W.WData}{x:PySem.W.WData},x∈xs->x.weight<=PySem.W.WData.weightAll xs
 | y::r,x,hx=>by
  rcases List.mem_cons.mp hx with rfl | hx'
  ·simp only[PySem.W.WData.weightAll];omega
  ·have:=Qy2 hx'
   simp only[PySem.W.WData.weightAll];omega
theorem QKU{ns:List Int}(h:PySem.W.WData.layableAll [PySem.W.WData.list (ns.map PySem.W.WData.int)]=true):∀ z∈ns,bitsI z<=1048576:=fun z hz=>by
 have h1:(PySem.W.WData.list (ns.map PySem.W.WData.int)).layable=true:=by simpa [PySem.W.WData.layableAll] using h
 have h2:(PySem.W.WData.list (ns.map PySem.W.WData.int)).weight<=2 ^ 20:=of_decide_eq_true (Bool.and_eq_true_iff.mp h1).2
 have h3:(PySem.W.WData.int z).weight<=PySem.W.WData.weightAll (ns.map PySem.W.WData.int):=Qy2 (List.mem_map.mpr ⟨z,hz,rfl⟩)
 have h4:(PySem.W.WData.int z).weight<=1048576:=by
  have e:(2:Nat) ^ 20=1048576:=by decide
  simp only[PySem.W.WData.weight]at h2
  omega
 simpa only[PySem.W.WData.weight,Builtin.Int.intBits] using h4
theorem walk_of{l:PySem.W.OpenLaw}{n k:Nat}{q:Program}{loose:List Str}{XP:(Str->Option Value)->Heap->Prop}{YP:World->Heap->Prop}{d:DefRec}{K:Params->PySem.W.Frag}{CX:World->CXT}{sp:World->Sp}{x:Str}
 (hn:l.most=some n) (hn2:n<=sizeLine) (hdf:d.params.defaults=[]) (hr:Room k callerA)
 (hY:∀(w:World)(h:Heap),YP w h->(K w.params).In h)
 (F:∀(w:World)(mg:Str->Option Value)(fa:Addr)(h:Heap),(K w.params).In h->h.Ns mainGlobals mg->mg d.name=some (.ref fa)->
  ∃ fd:FuncData,(∀(s:Shared)(u:Value),BindsTo s fd ⟨[u],[]⟩ [(x,u)])/\
   ∀ base:Heap,(K w.params).In base->base.Ns mainGlobals mg->FnOk l.prog w (K w.params) mg base (CX w) k fa fd [x] (sp w))
 (hsp:∀(w:World)(H:Hp)(a:Addr)(ns:List Int),ns.length<=n->(∀ z∈ns,bitsI z<=1048576)->Only H->SqL (K w.params) H a (ns.map V.int)->sp w [.ref a] H (fun v _=>v=.bl true) fun _ _ _=>False)
 (hCX:∀(w:World)(H:Hp)(s:Shared)(e:Value)(s':Shared),CX w [] H s (fun _ _ _=>False) e s'->False):
 PySem.W.WalkO q loose XP YP l.row.toRowW d [] (fun f vs=>PySem.call f vs):=by
 intro w s₀ s₁ mg mb G Y fa o pm cd doc dV kV ho hd hcd hD hmg hg args vals as hpre hlay hrd hwl hlo
 obtain rfl:dV=.none:=PySem.W.Dflts.none hD hdf
 obtain rfl:kV=.none:=PySem.W.Dflts.noKw hD
 obtain⟨a,vs,ns,rfl,rfl,hobj,hints,hlen⟩:=Att.script_of hn hpre hwl
 have KX:=hY w _ Y
 obtain⟨fd,hb,hF⟩:=F w mg fa _ KX G.T.g hmg
 refine PySem.W.enter_call (codeAny_mono (QPV KX G.T.g G.T.b G.T.builtins G.T.nolimit hg hobj hints (Nat.le_trans hlen hn2) hr hF hb (fun H hO hS=>hsp w H a ns hlen (QKU hlay) hO hS) fun H e s'=>hCX w H s₁ e s') fun r s' hq=>?_)
 obtain⟨rfl,h2,h3,h4⟩:=hq
 exact⟨.inl ⟨.bool true,.bool true,[],rfl,fun _=>rfl,.bool true,Att.post_true l _,fun _=>⟨List.Pairwise.nil,fun _ hm=>(nomatch hm)⟩⟩,h2,h3,h4⟩
end DL
namespace DL
open PySem PySem.Spec PyProof.Rows L2
def rCatS(K:PySem.W.Frag):R2:=fun x y H Q=>∃ l b xs zs,x=.ref l/\y=.ref b/\SqL K H l xs/\SqL K H b zs/\xs.length+zs.length<=sizeLine/\∀ p,H p=none->Q (.ref p) (upd H p (.lst (xs++zs)))
theorem QSk{X:Cx}:OpR X (binaryOp .Add) (rCatS X.K):=by
 intro pins s σ H x y v u Q I rx ry h
 obtain⟨l,b,xs,zs,rfl,rfl,hH,hB,hz,q⟩:=h
 cases rx
 cases ry
 obtain⟨its,r,pl,hz1⟩:=I.list hH
 obtain⟨its2,r2,pl2,hz2⟩:=I.list hB
 obtain⟨⟨cls,dd,data,sl⟩,n,ho,hc,hdd,hd⟩:=pl
 obtain⟨⟨cls2,dd2,data2,sl2⟩,n2,ho2,hc2,hdd2,hd2⟩:=pl2
 simp only at hc hd hc2 hd2
 subst hc hd hc2 hd2
 have e:its.toArray++its2.toArray=(its++its2).toArray:=by simp
 have h1:=r.length
 have h2:=r2.length
 refine concat_meets ⟨_,ho,rfl⟩ ⟨_,ho2,rfl⟩ noFill_list_add seq_list_add PySem.F.slot_list_add PySem.F.entry_list_add (PySem.F.args_list_add_2 _ _) (list_addW l b its.toArray its2.toArray n n2 dd dd2 sl sl2 (by rw[List.size_toArray,List.size_toArray];omega)) ⟨ho,ho2,?_⟩
 rw[e]
 exact⟨.ref _,_,I.lnew (t':=s.toks) (r.append r2) (by rw[List.length_append];omega),rfl,q _ I.fresh⟩
def dCat:D->D->Out D
 | .lst xs,.lst ys=>if fits (xs.length+ys.length)=true then .ok (.lst (xs++ys)) else .stuck
 | _,_=>.stuck
section
variable{C:Dc}{a b:Expr}{A B:SD->Out D}{pos:Pos}
theorem QqB(ha:DE C a A)(hb:DE C b B):DF C (.BinOp a .Add b pos) (e2 dCat A B):=by
 obtain⟨ta,p1,q1⟩:=ha
 obtain⟨tb,p2,q2⟩:=hb
 refine⟨_,pe_op QSk p1 p2,fun G H σ ς Q S q=>?_⟩
 unfold e2 at q
 rw[Out.post_bind]at q
 refine q1 G H σ ς _ S (Out.post_mono q fun x k v1 H1 G1 S1 a1 b1 r1=>?_)
 rw[Out.post_bind]at k
 refine q2 G1 H1 σ ς _ S1 (Out.post_mono k fun y k2 v2 H2 G2 S2 a2 b2 r2=>?_)
 have r1':=Rep.mono b2 x v1 r1
 cases x with
 | lst xs=>
  cases y with
  | lst ys=>
   obtain⟨p,vs,rfl,h2,h3⟩:=r1'
   obtain⟨p',vs',rfl,h2',h3'⟩:=r2
   rcases Qas (show(if fits (xs.length+ys.length)=true then Out.ok (D.lst (xs++ys)) else .stuck).post _ _ from k2) with⟨hc,k3⟩ | ⟨_,k3⟩
   ·exact⟨p,p',vs,vs',rfl,rfl,S2.sub.seq h2,S2.sub.seq h2',by rw[← h3.length, ← h3'.length];exact of_decide_eq_true hc,
     KF.lst (KF.later (show KF C G H σ ς Q (.lst (xs++ys)) from k3) (a1.trans a2) (b1.trans b2)) S2 (h3.append h3')⟩
   ·exact k3.elim
  | _=>exact k2.elim
 | _=>cases y<;>exact k2.elim
def dList:D->Out D
 | .lst xs=>.ok (.lst xs)
 | .tup xs=>.ok (.lst xs)
 | _=>.stuck
theorem QeP{p:Pos}(hg:Gl C.X "list")(hm:C.X.mg "list"=none)(ha:DE C a A)
 (he:starEach (a::[]) C.X.env=(false,eval a C.X.env)::starEach [] C.X.env:=by rfl):DF C (.Call (.Name "list" p) [a] [] pos) (e1 dList A):=by
 obtain⟨ta,p1,q1⟩:=ha
 refine⟨_,QCZ QF3 hg hm PyProof.Rows.Boot.«list» (Qc2 p1 Qgz he) (by decide) (by decide) he rfl,fun G H σ ς Q S q=>?_⟩
 unfold e1 at q
 rw[Out.post_bind]at q
 refine q1 G H σ ς _ S (Out.post_mono q fun x k v1 H1 G1 S1 a1 b1 r1=>?_)
 cases x with
 | lst xs=>
  obtain⟨p,vs,rfl,h2,h3⟩:=r1
  exact⟨p,vs,rfl,.inl (S1.sub.seq h2),KF.lst (KF.later (show KF C G H σ ς Q (.lst xs) from k) a1 b1) S1 h3⟩
 | tup xs=>
  obtain⟨p,vs,rfl,h2,h3⟩:=r1
  exact⟨p,vs,rfl,.inr (Same.sqT S1.sub h2),KF.lst (KF.later (show KF C G H σ ς Q (.lst xs) from k) a1 b1) S1 h3⟩
 | _=>exact k.elim
end
section
variable{C:Dc}{e:Expr}{es:List Expr}{A:SD->Out (List D)}{p pos:Pos}
def dInt:D->Out D
 | .int i=>.ok (.int i)
 | .bl b=>.ok (.int (if b then 1 else 0))
 | _=>.stuck
theorem QLe(hg:Gl C.X "int")(hm:C.X.mg "int"=none)(ha:DAB C (e::es) A)
 (he:starEach (e::es) C.X.env=(false,eval e C.X.env)::starEach es C.X.env:=by rfl) (hpl:(backTo pos (starEach es C.X.env)).any (·.1)=false:=by rfl):DE C (.Call (.Name "int" p) (e::es) [] pos) (eA (f1 dInt) A):=by
 refine QOk QPa (Qt1 ?_) (Qq6 ?_) hg hm PyProof.Rows.Boot.«int» ha (by decide) (by decide) he hpl
 ·intro G H σ ς Q x v S r q
  cases x with
  | int i=>cases r;exact .inl ⟨i,rfl,q.2⟩
  | bl b=>cases r;exact .inr ⟨b,rfl,q.2⟩
  | _=>exact q.elim
 ·intro x
  cases x<;>first | exact rfl | exact True.intro
end
def isaT(T:String):D->Out Bool
 | .ins _ _=>.stuck
 | .err _=>.stuck
 | .bl _=>.ok (T == "bool"||T == "int")
 | d=>.ok (QaU d == T)
structure Kit(K:PySem.W.Frag)(T:String):Prop where
 h:∀ d:D,(match d with | .ins _ _=>True | .err _=>True | .bl _=>PySem.W.kitOne K (.type "bool") (.type T)=some (T == "bool"||T == "int") | d=>PySem.W.kitOne K (.type (QaU d)) (.type T)=some (QaU d == T))
section
variable{C:Dc}{e:Expr}{E:SD->Out D}{p pc pos:Pos}
theorem Qdq(T:Str){T':String}(k:Kit C.X.K T')(hgT:Gl C.X T)(hmT:C.X.mg T=none)(hb:bootBuiltins T=some (.type T'))(hg:Gl C.X "isinstance")(hm:C.X.mg "isinstance"=none)(h:DB C e E)
 (hn:T≠"__name__":=by decide) (hdb:(T == ("__debug__":Str))=false:=by decide)
 (he:starEach (e::[.Name T pc]) C.X.env=(false,eval e C.X.env)::starEach [.Name T pc] C.X.env:=by rfl) (he2:starEach (.Name T pc::[]) C.X.env=(false,eval (.Name T pc) C.X.env)::starEach [] C.X.env:=by rfl)
 (hpl:(backTo pos (starEach [.Name T pc] C.X.env)).any (·.1)=false:=by rfl):DE C (.Call (.Name "isinstance" p) [e,.Name T pc] [] pos) (eIsa (isaT T') E):=by
 refine QT2 (vc:=.ty T') (uc:=.type T') (QRF hgT hmT hb rfl hn hdb) rfl (fun d=>?_) hg hm h he he2 hpl
 have:=k.h d
 cases d<;>first | exact True.intro | exact this
end
theorem Qt0{K:PySem.W.Frag}{T:String}(h1:PySem.W.kitOne K (.type "NoneType") (.type T)=some ("NoneType" == T))(h2:PySem.W.kitOne K (.type "bool") (.type T)=some (T == "bool"||T == "int"))
 (h3:PySem.W.kitOne K (.type "int") (.type T)=some ("int" == T)) (h4:PySem.W.kitOne K (.type "str") (.type T)=some ("str" == T)) (h5:PySem.W.kitOne K (.type "list") (.type T)=some ("list" == T))
 (h6:PySem.W.kitOne K (.type "tuple") (.type T)=some ("tuple" == T)) (h7:PySem.W.kitOne K (.type "dict") (.type T)=some ("dict" == T)):Kit K T:=⟨fun d=>by
 cases d with
 | non=>exact h1
 | bl _=>exact h2
 | int _=>exact h3
 | str _=>exact h4
 | lst _=>exact h5
 | tup _=>exact h6
 | dic _=>exact h7
 | ins _ _=>exact True.intro
 | err _=>exact True.intro⟩
theorem QLj{K:PySem.W.Frag}:Kit K "int":=Qt0 (by rfl) (by rfl) (by rfl) (by rfl) (by rfl) (by rfl) (by rfl)
theorem QFE{K:PySem.W.Frag}:Kit K "bool":=Qt0 (by rfl) (by rfl) (by rfl) (by rfl) (by rfl) (by rfl) (by rfl)
theorem QK2{K:PySem.W.Frag}:Kit K "str":=Qt0 (by rfl) (by rfl) (by rfl) (by rfl) (by rfl) (by rfl) (by rfl)
theorem QrG{K:PySem.W.Frag}:Kit K "list":=Qt0 (by rfl) (by rfl) (by rfl) (by rfl) (by rfl) (by rfl) (by rfl)
theorem Quq{K:PySem.W.Frag}:Kit K "tuple":=Qt0 (by rfl) (by rfl) (by rfl) (by rfl) (by rfl) (by rfl) (by rfl)
def QbF(i:Nat)(E:SD->Out D):SD->Out Fl:=fun ς=>match ς[i]? with
 | some (some (.o,.lst xs))=>E ς>>=fun d=>if decide (xs.length<sizeLine)=true then .ok (.nx (ς.set i (some (.o,.lst (xs++[d]))))) else .stuck
 | _=>.stuck
section
variable{C:Dc}{G H:Hp}{σ:St}{ς:SD}
theorem QnF{α:Type}{xs:List α}{i:Nat}{x:α}(h:xs[i]?=some x):xs.set i x=xs:=by
 obtain⟨hi,e⟩:=List.getElem?_eq_some_iff.mp h
 rw[← e];exact List.set_getElem_self hi
theorem StR.write(S:StR C G H σ ς){i:Nat}{p:Addr}{xs ys:List D}{vs ws:List V}(hi:ς[i]?=some (some (.o,.lst xs)))(hp:σ[i]?=some (some (.ref p)))(hH:H p=some (.lst vs))(r:RepL C.X.K C.CT G ys ws):
 StR C G (upd H p (.lst ws)) σ (ς.set i (some (.o,.lst ys))):=by
 obtain⟨p',e1,hg,h0,ow⟩:=S.ow i _ hi
 rw[hp]at e1;cases e1
 have hil:i<ς.length:=(List.getElem?_eq_some_iff.mp hi).1
 have ne:∀ b o,G b=some o->b≠p:=fun b o e z=>by subst z;rw[hg]at e;cases e
 have S':StR C G (upd H p (.lst ws)) (σ.set i (some (.ref p))) (ς.set i (some (.o,.lst ys))):={
  sub:=fun b o e=>by rw[Ql (ne b o e)];exact S.sub b o e
  g0:=S.g0
  new:=S.new
  fr:=fun b o e m=>by
   rw[Ql (by rintro rfl;rw[h0]at e;cases e)];exact S.fr b o e m
  dom:=fun b e=>by
   by_cases hb:b=p
   ·subst hb;exact h0
   ·rw[Ql hb]at e;exact S.dom b e
  bs:=fun b o e=>by
   rw[Ql (by rintro rfl;rw[S.bh _ h0]at e;cases e)];exact S.bs b o e
  bh:=S.bh
  len:=by rw[List.length_set,List.length_set];exact S.len
  fz:=fun j d h=>by
   rcases QL h with⟨rfl,h2,l⟩ | ⟨hne,h2⟩
   ·cases h2
   ·rw[QB hne];exact S.fz j d h2
  ow:=fun j d h=>by
   rcases QL h with⟨rfl,h2,l⟩ | ⟨hne,h2⟩
   ·cases h2
    exact⟨p,QjH (by rw[S.len];exact l),hg,h0,⟨ws,QU,r⟩⟩
   ·rw[QB hne]
    obtain⟨q,a,b,c,w⟩:=S.ow j d h2
    have qp:q≠p:=by
     rintro rfl
     exact S.inj i j _ _ q hne hi h2 hp a
    exact⟨q,a,b,c,w.mono (Same.refl G) fun o z=>by rw[Ql qp];exact z⟩
  ln:=fun j d h=>by
   rcases QL h with⟨rfl,h2,l⟩ | ⟨hne,h2⟩
   ·cases h2
   ·rw[QB hne];exact S.ln j d h2
  inj:=fun j k d1 d2 q hjk h1 h2 h3=>by
   have get:∀(j:Nat) d,(ς.set i (some (.o,D.lst ys)))[j]?=some (some (.o,d))->∃ d',ς[j]?=some (some (.o,d')):=fun j d h=>by
    rcases QL h with⟨rfl,h2,l⟩ | ⟨hne,h2⟩
    ·exact⟨_,hi⟩
    ·exact⟨_,h2⟩
   obtain⟨d1',g1⟩:=get j d1 h1
   obtain⟨d2',g2⟩:=get k d2 h2
   rw[QnF hp]at h3 ⊢
   exact S.inj j k d1' d2' q hjk g1 g2 h3
  sf:=fun j d h=>by
   rcases QL h with⟨rfl,h2,l⟩ | ⟨hne,h2⟩
   ·cases h2
   ·rw[QB hne]
    obtain⟨q,a,b,c,m,z,w⟩:=S.sf j d h2
    have qp:q≠p:=by
     rintro rfl
     exact c h0
    exact⟨q,a,b,c,m,z,w.mono (Same.refl G) fun o z=>by rw[Ql qp];exact z⟩
  su:=fun j k d1 d2 h1 h2=>by
   rcases QL h1 with⟨rfl,q1,l⟩ | ⟨n1,q1⟩
   ·cases q1
   ·rcases QL h2 with⟨rfl,q2,l⟩ | ⟨n2,q2⟩
    ·cases q2
    ·exact S.su j k d1 d2 q1 q2 }
 rw[QnF hp]at S'
 exact S'
variable{a e:Expr}{A E:SD->Out D}{pos p1 p2 p3:Pos}{x:Str}
theorem QcW(i:Nat)(he:DE C e E)(hN:C.X.N[i]?=some x:=by rfl)(hv:Vis C.X.env.scope x:=by first | exact Or.inl rfl | exact Or.inr (Or.inl rfl) | exact Or.inr (Or.inr rfl))
 (hd:(x == ("__debug__":Str))=false:=by decide) (hcd:(x == ("__classdict__":Str))=false:=by decide)
 (hbase:attributeBase (.Name x p1) "append" C.X.env (eval (.Name x p1) C.X.env)=eval (.Name x p1) C.X.env:=by rfl)
 (hfew:((backTo p3 (starEach (e::[]) C.X.env)).all (fun x => !x.1)&&(backToKw p3 (keywordEach [] C.X.env)).all (fun x=>x.1.isSome)
  && decide ((e::[]).length+([]:List Keyword).length+(if ([]:List Keyword).isEmpty then 0 else 1)<30))=true:=by rfl)
 (hline:(p2.endLine == p3.line)=true:=by rfl) (hs:starEach (e::[]) C.X.env=(false,eval e C.X.env)::starEach [] C.X.env:=by rfl)
 (hsw:swapsWith (.Call (.Attribute (.Name x p1) "append" p2) [e] [] p3) none pos.line C.X.env=pure false:=by rfl):
 DS C (.Expr (.Call (.Attribute (.Name x p1) "append" p2) [e] [] p3) pos) (QbF i E):=by
 obtain⟨t,p,q⟩:=he
 refine⟨_,QK8 (pe_bm PySem.F.plainAttrs_list PySem.F.slot_list_append PySem.F.type_list_append QCL (QnT (i:=i) hN hv hd hcd) (Qc2 p Qgz hs) hbase hfew hline hs rfl) hsw,fun G H σ ς W S k=>?_⟩
 unfold QbF at k
 split at k
 ·rename_i xs z
  obtain⟨pp,e1,hg,h0,ow⟩:=S.ow i _ z
  obtain⟨vs,hv1,hv2⟩:=ow
  rw[Out.post_bind]at k
  refine⟨_,e1,.inl ⟨rfl,vs,SqL.of hv1⟩,q G H σ ς _ S (Out.post_mono k fun d k2 v H1 G1 S1 a1 b1 r1=>?_)⟩
  rcases Qas k2 with⟨hc,k3⟩ | ⟨_,k3⟩
  ·have hl:=hv2.length
   refine⟨pp,vs,v,rfl,rfl,a1 _ _ hv1,by rw[← hl];exact of_decide_eq_true hc,?_⟩
   exact k3 σ _ G1 (S1.write z e1 (a1 _ _ hv1) ((RepL.mono b1 xs vs hv2).append (RepL.one r1))) b1
  ·exact k3.elim
 ·exact k.elim
end
end DL
namespace DL
open PySem PySem.Spec PyProof.Rows L2
structure DIt(K:PySem.W.Frag)(CT:CTab)(G1:Hp)(J:It)(ds:List D):Prop where
 go:∀ G H (i:Nat) d,Same G1 G->Same G H->ds[i]?=some d->J.go i H/\∀ x H',J.yld i H x H'->∃ G',Same G G'/\Same H H'/\Same G' H'/\(∀ b,G b=none->G' b≠none->H b=none)/\Rep K CT G' d x
 stop:∀ G H,Same G1 G->Same G H->J.stop ds.length H
structure DItB(K:PySem.W.Frag)(CT:CTab)(B1 G1:Hp)(J:It)(ds:List D):Prop where
 go:∀ G H (i:Nat) d,Same G1 G->Same G H->Same B1 H->ds[i]?=some d->J.go i H/\∀ x H',J.yld i H x H'->∃ G',Same G G'/\Same H H'/\Same G' H'/\(∀ b,G b=none->G' b≠none->H b=none)/\Rep K CT G' d x
 stop:∀ G H,Same G1 G->Same G H->Same B1 H->J.stop ds.length H
theorem DIt.b{K:PySem.W.Frag}{CT:CTab}{B1 G1:Hp}{J:It}{ds:List D}(h:DIt K CT G1 J ds):DItB K CT B1 G1 J ds:=⟨fun G H i d a b _ e=>h.go G H i d a b e,fun G H a b _=>h.stop G H a b⟩
def DIB(C:Dc)(tg iter:Expr)(its:SD->Out (List D)):Prop:=∃ wi,PI C.X tg iter wi/\∀ G H σ ς (R:It->Hp->Prop),StR C G H σ ς->
 (its ς).post (fun ds=>∀ J H1 G1,StR C G1 H1 σ ς->Same H H1->Same G G1->DItB C.X.K C.CT H1 G1 J ds->R J H1) C.XD->wi σ H R
def DI(C:Dc)(tg iter:Expr)(its:SD->Out (List D)):Prop:=∃ wi,PI C.X tg iter wi/\∀ G H σ ς (R:It->Hp->Prop),StR C G H σ ς->
 (its ς).post (fun ds=>∀ J H1 G1,StR C G1 H1 σ ς->Same H H1->Same G G1->DIt C.X.K C.CT G1 J ds->R J H1) C.XD->wi σ H R
section
variable{C:Dc}{e tg iter:Expr}{E:SD->Out D}{body:List Stmt}{T U:SD->Out Fl}{pos:Pos}{g:D->SD->Out SD}{its:SD->Out (List D)}
theorem DI.b(h:DI C tg iter its):DIB C tg iter its:=by
 obtain⟨wi,p,q⟩:=h
 exact⟨wi,p,fun G H σ ς R S k=>q G H σ ς R S (Out.post_mono k fun ds kd J H1 G1 S1 a b dit=>kd J H1 G1 S1 a b dit.b)⟩
theorem QQJ{K:PySem.W.Frag}{CT:CTab}{G1:Hp}{a:Addr}{ds:List D}{vs:List V}(h:SqL K G1 a vs)(r:RepL K CT G1 ds vs):DIt K CT G1 (Itl K a) ds where
 go:=fun G H i d s1 sH hd=>by
  obtain⟨v,hv,rv⟩:=r.get hd
  have hq:SqL K H a vs:=sH.seq (s1.seq h)
  refine⟨⟨vs,v,hq,hv⟩,fun x H' ⟨e,y⟩=>?_⟩
  have ex:vs[i]?=some x:=y vs hq
  rw[hv]at ex;cases ex
  subst e
  exact⟨G,Same.refl _,Same.refl _,sH,fun b g n=>absurd g n,Rep.mono s1 d v rv⟩
 stop:=fun G H s1 sH=>⟨vs,sH.seq (s1.seq h),by rw[r.length];exact Nat.le_refl _⟩
theorem QPg{K:PySem.W.Frag}{CT:CTab}{G1:Hp}{lo:Int}{n:Nat}:DIt K CT G1 (Itr lo n) (QbM lo n) where
 go:=fun G H i d s1 sH hd=>by
  have hi:i<n:=by
   have:=(List.getElem?_eq_some_iff.mp hd).1
   rw[QAc]at this;exact this
  rw[QM1 hi]at hd;cases hd
  exact⟨hi,fun x H' ⟨e,y⟩=>by
   subst e y
   exact⟨G,Same.refl _,Same.refl _,sH,fun b g n=>absurd g n,rfl⟩⟩
 stop:=fun G H s1 sH=>by rw[QAc];exact Nat.le_refl _
theorem Qam(h:DE C iter E):DI C tg iter (itL E):=by
 obtain⟨t,p,q⟩:=h
 refine⟨_,QQ5 p,fun G H σ ς R S k=>?_⟩
 unfold itL at k
 rw[Out.post_bind]at k
 refine q G H σ ς _ S (Out.post_mono k fun d k v H1 G1 S1 a1 b1 r1=>?_)
 cases d with
 | lst xs=>
  obtain⟨a,vs,rfl,h2,h3⟩:=r1
  exact⟨a,rfl,⟨vs,S1.sub.seq h2⟩,k _ H1 G1 S1 a1 b1 (QQJ h2 h3)⟩
 | _=>exact k.elim
theorem Qa1{a:Expr}{A:SD->Out D}{p1 p2:Pos}(hgl:Gl C.X "range")(hm:C.X.mg "range"=none)(ha:DB C a A)
 (hst:starEach [a] C.X.env=(false,eval a C.X.env)::starEach [] C.X.env:=by rfl):DI C tg (.Call (.Name "range" p1) [a] [] p2) (itR1 A):=by
 obtain⟨t,p,q⟩:=ha
 refine⟨_,QO9 hgl hm (Qc2 p Qgz hst) hst,fun G H σ ς R S k=>?_⟩
 unfold itR1 at k
 rw[Out.post_bind]at k
 refine q G H σ ς _ S (Out.post_mono k fun d k v H1 G1 S1 a1 b1 r=>?_)
 cases d with
 | int n=>
  cases r
  rcases Qas k with⟨hc,k⟩ | ⟨_,k⟩
  ·obtain⟨c1,c2⟩:=QNu hc
   exact⟨n,rfl,c1,c2,k _ H1 G1 S1 a1 b1 QPg⟩
  ·exact k.elim
 | _=>exact k.elim
theorem Qb3(hp:PassesOwn (model C.X.prog C.X.w) C.X.A C.X.env C.X.xe)(hc:C.X.calm=true)(hi:DI C tg iter its)(hg:DG C tg g)(hne:noExc g)(hb:DSs C body T)
 (hs:∀ x,foldedSetIterable iter C.X.env x=pure x:=by intro _;rfl):DS C (.For tg iter body [] pos) (sFor g its T):=by
 obtain⟨t0,p0,q0⟩:=hi
 obtain⟨t1,p1,q1⟩:=hg
 obtain⟨t2,p2,q2⟩:=hb
 refine⟨_,QTw hp hc p0 p1 p2 hs,fun G H σ ς W S k=>?_⟩
 unfold sFor at k
 rw[Out.post_bind]at k
 refine q0 G H σ ς _ S (Out.post_mono k fun xs k J H1 G1 S1 a1 b1 dit=>?_)
 refine⟨fun i m σ' H'=>m=xs.length - i/\i<=xs.length/\∃ G' ς',StR C G' H' σ' ς'/\Same G1 G'/\(loopD (fun x ς=>g x ς>>=fun ς'=>T ς') (xs.drop i) ς').post (FlK C G' W) C.XD,
  ⟨xs.length,by simp,Nat.zero_le _,G1,ς,S1,Same.refl _,Out.post_mono (by simpa using k) fun f k=>FlK.later k b1⟩,?_⟩
 rintro i m σ' H' ⟨rfl,hle,G',ς',S',s',q'⟩
 by_cases hlt:i<xs.length
 ·have hd:xs[i]?=some xs[i]:=by simp[hlt]
  obtain⟨hgo,hy⟩:=dit.go G' H' i _ s' S'.sub hd
  refine .inr ⟨hgo,fun σ2 H2=>∃ G2 ς2,StR C G2 H2 σ2 ς2/\Same G1 G2/\(loopD (fun x ς=>g x ς>>=fun ς'=>T ς') (xs.drop (i+1)) ς2).post (FlK C G2 W) C.XD,
   fun σ2 H2 h2=>⟨xs.length - (i+1),by omega,rfl,hlt,h2⟩,fun x H'' y=>?_⟩
  obtain⟨G'',g1,h1,s1,n1,r⟩:=hy x H'' y
  rw[QCS hd]at q'
  exact turnD hne q1 q2 (S'.grow h1 g1 s1 n1) r (Out.post_mono q' fun f k=>FlK.later k g1) fun σ2 H2 G2 ς2 S2 s2 q2=>⟨G2,ς2,S2,(s'.trans g1).trans s2,q2⟩
 ·have e:i=xs.length:=by omega
  subst e
  rw[List.drop_length]at q'
  exact .inl ⟨dit.stop G' H' s' S'.sub,q' σ' H' G' S' (Same.refl _)⟩
end
def compM(f:D->Out (Option D)):List D->Out (List D)
 | []=>.ok []
 | x::xs=>f x>>=fun o=>compM f xs>>=fun ys=>.ok (o.toList++ys)
def captS(ς:SD)(j:Nat):Option (SM×D):=match ς[j]? with
 | some (some (.k,d))=>some (.k,d)
 | some (some (_,d))=>some (.l,d)
 | _=>none
def captD(js:List (Option Nat))(ς:SD):SD:=js.map fun j=>j.bind (captS ς)
def turnC(js:List (Option Nat))(g:D->SD->Out SD)(c:SD->Out Bool)(e:SD->Out D)(ς:SD)(x:D):Out (Option D):=
 g x (captD js ς)>>=fun τ=>c τ>>=fun b=>if b=true then e τ>>=fun y=>.ok (some y) else .ok none
def eComp(js:List (Option Nat))(its:SD->Out (List D))(g:D->SD->Out SD)(c:SD->Out Bool)(e:SD->Out D):SD->Out D:=fun ς=>
 its ς>>=fun xs=>compM (turnC js g c e ς) xs>>=fun ys=>if fits ys.length=true then .ok (.lst ys) else .stuck
def DIf(C:Dc)(ifs:List Expr)(T:SD->Out Bool):Prop:=∃ t,PIf C.X ifs t/\∀ G H σ ς Q,StR C G H σ ς->(T ς).post (KT C G H σ ς Q) C.XD->t σ H Q
def cTrue:SD->Out Bool:=fun _=>.ok true
theorem QN{C:Dc}:DIf C [] cTrue:=⟨_,QRD,fun G H σ ς Q S q=>KT.now q S⟩
theorem QRe{C:Dc}{c:Expr}{T:SD->Out Bool}(h:DT C c T):DIf C [c] T:=let ⟨t,p,q⟩:=h;⟨t,QRk p,q⟩
def gKeep(g:D->SD->Out SD)(τ0:SD):Prop:=∀ x τ,g x τ0=.ok τ->τ.length=τ0.length/\∀(i:Nat) md,τ0[i]?=some (some md)->τ[i]?=some (some md)
theorem QO{i:Nat}{τ0:SD}(h:τ0[i]?=some none):gKeep (gN i) τ0:=by
 intro x τ e
 cases e
 refine⟨List.length_set ..,fun j md hj=>?_⟩
 rw[QB (by rintro rfl;rw[h]at hj;cases hj)];exact hj
theorem QKj:∀(is:List Nat)(ds:List D)(τ0 τ:SD),(∀ i∈is,∀ md,τ0[i]?=some (some md)->False)->Q6 is ds τ0=.ok τ->τ.length=τ0.length/\∀(i:Nat) md,τ0[i]?=some (some md)->τ[i]?=some (some md)
 | [],[],τ0,τ,_,e=>by cases e;exact⟨rfl,fun _ _ h=>h⟩
 | i::is,d::ds,τ0,τ,h,e=>by
  have e':Q6 is ds (τ0.set i (some (.k,d)))=.ok τ:=e
  -- the later targets may meet the stored one again: only what was there ahead is kept
  have go:∀(is:List Nat)(ds:List D)(τ1 τ:SD),τ1.length=τ0.length->(∀ i∈is,∀ md,τ0[i]?=some (some md)->False)->(∀(i:Nat) md,τ0[i]?=some (some md)->τ1[i]?=some (some md))->Q6 is ds τ1=.ok τ->
   τ.length=τ0.length/\∀(i:Nat) md,τ0[i]?=some (some md)->τ[i]?=some (some md):=by
   intro is
   induction is with
   | nil=>intro ds τ1 τ hl _ hk e;cases ds with
    | nil=>cases e;exact⟨hl,hk⟩
    | cons _ _=>cases e
   | cons i is ih=>intro ds τ1 τ hl hn hk e;cases ds with
    | nil=>cases e
    | cons d ds=>
     refine ih ds _ τ (by rw[List.length_set];exact hl) (fun j hj=>hn j (List.mem_cons_of_mem _ hj)) (fun j md hj=>?_) e
     rw[QB (by rintro rfl;exact hn _ List.mem_cons_self md hj)];exact hk j md hj
  refine go is ds _ τ (List.length_set ..) (fun j hj=>h j (List.mem_cons_of_mem _ hj)) (fun j md hj=>?_) e'
  rw[QB (by rintro rfl;exact h _ List.mem_cons_self md hj)];exact hj
 | [],_::_,_,_,_,e=>by cases e
 | _::_,[],_,_,_,e=>by cases e
theorem QjJ{is:List Nat}{τ0:SD}(h:∀ i∈is,τ0[i]?=some none):gKeep (gT is) τ0:=by
 intro x τ e
 cases x with
 | tup ds=>exact QKj is ds τ0 τ (fun i hi md z=>by rw[h i hi]at z;cases z) e
 | _=>cases e
theorem Qs{js:List (Option Nat)}{i:Nat}(h:js[i]?=some none)(ς:SD):(captD js ς)[i]?=some none:=by
 unfold captD
 rw[List.getElem?_map,h];rfl
section
variable{C:Dc}{G H:Hp}{σ:St}{ς:SD}
theorem StR.weak{ς':SD}(S:StR C G H σ ς')(hl:ς'.length=ς.length)(h:∀(i:Nat) md,ς[i]?=some (some md)->ς'[i]?=some (some md)):StR C G H σ ς:=
 { S with len:=by rw[S.len,hl],fz:=fun i d e=>S.fz i d (h i _ e),ow:=fun i d e=>S.ow i d (h i _ e),ln:=fun i d e=>S.ln i d (h i _ e),inj:=fun i j d e p n h1 h2=>S.inj i j d e p n (h i _ h1) (h j _ h2),sf:=fun i d e=>S.sf i d (h i _ e),su:=fun i j d e h1 h2=>S.su i j d e (h i _ h1) (h j _ h2) }
theorem StR.updM(S:StR C G H σ ς){p:Addr}{o:HO}(hM:C.M p)(h0:C.X.H₀ p≠none)(hno:∀(i:Nat) d,ς[i]?≠some (some (.s,d)))(hB:C.B p=none)(hg:G p=none):StR C G (upd H p o) σ ς where
 sub:=fun b u e=>by rw[Ql (by rintro rfl;rw[hg]at e;cases e)];exact S.sub b u e
 g0:=S.g0
 new:=S.new
 fr:=fun b u e m=>by rw[Ql (by rintro rfl;exact m hM)];exact S.fr b u e m
 dom:=fun b e=>by
  by_cases hb:b=p
  ·subst hb;rw[QU]at e;cases e
  ·rw[Ql hb]at e;exact S.dom b e
 bs:=fun b u e=>by rw[Ql (by rintro rfl;rw[hB]at e;cases e)];exact S.bs b u e
 bh:=S.bh
 len:=S.len
 fz:=S.fz
 ow:=fun i d e=>by
  obtain⟨q,a,b,c,w⟩:=S.ow i d e
  exact⟨q,a,b,c,w.mono (Same.refl G) fun u z=>by rw[Ql (by rintro rfl;exact h0 c)];exact z⟩
 ln:=S.ln
 inj:=S.inj
 sf:=fun i d e=>absurd e (hno i d)
 su:=S.su
abbrev ccOf(C:Dc)(N':List Str)(scope:Scope)(fp:List Addr)(s:Shared)(H1 G1:Hp)(p:Addr):Dc:=
 { X:=cxC C.X N' scope fp s (upd H1 p (.lst [])),CT:=C.CT,G0:=G1,XD:=fun _=>False,B:=H1,M:=fun b=>b=p }
theorem Qk3{js:List (Option Nat)}{i:Nat}{md:SM×D}(h:(captD js ς)[i]?=some (some md)):∃ j,js[i]?=some (some j)/\captS ς j=some md:=by
 unfold captD at h
 rw[List.getElem?_map]at h
 cases e:js[i]? with
 | none=>rw[e]at h;cases h
 | some o=>
  rw[e]at h
  cases o with
  | none=>cases h
  | some j=>exact⟨j,rfl,Option.some.inj h⟩
theorem Qsf{js:List (Option Nat)}{i j:Nat}{v:V}(h:js[i]?=some (some j))(hv:σ[j]?=some (some v)):(capt js σ)[i]?=some (some v):=by
 unfold capt
 rw[List.getElem?_map,h]
 show some ((σ[j]?).join)=_
 rw[hv];rfl
theorem Qhs{j:Nat}{m:SM}{d:D}(h:captS ς j=some (m,d)):(m=.k/\ς[j]?=some (some (.k,d)))∨(m=.l/\(ς[j]?=some (some (.o,d))∨ς[j]?=some (some (.l,d))∨ς[j]?=some (some (.s,d)))):=by
 unfold captS at h
 split at h
 ·rename_i d' e;cases h;exact .inl ⟨rfl,e⟩
 ·rename_i m' d' hne e
  cases h
  cases m' with
  | k=>exact(hne rfl).elim
  | o=>exact .inr ⟨rfl,.inl e⟩
  | l=>exact .inr ⟨rfl,.inr (.inl e)⟩
  | s=>exact .inr ⟨rfl,.inr (.inr e)⟩
 ·cases h
theorem Qxn{js:List (Option Nat)}{i:Nat}{d:D}(h:(captD js ς)[i]?=some (some (.s,d))):False:=by
 obtain⟨j,h1,h2⟩:=Qk3 h
 rcases Qhs h2 with⟨h3,_⟩ | ⟨h3,_⟩<;>cases h3
theorem StR.comp{N':List Str}{scope:Scope}{fp:List Addr}{s:Shared}{js:List (Option Nat)}{p:Addr}(S:StR C G H σ ς)(hp:H p=none):StR (ccOf C N' scope fp s H G p) G (upd H p (.lst [])) (capt js σ) (captD js ς) where
 sub:=S.sub.trans (QD hp)
 g0:=Same.refl _
 new:=fun b h1 h2=>absurd h1 h2
 fr:=fun b o e _=>e
 dom:=fun b e=>e
 bs:=QD hp
 bh:=fun b e=>by
  have e':upd H p (.lst []) b=none:=e
  by_cases hb:b=p
  ·subst hb;exact hp
  ·rw[Ql hb]at e';exact e'
 len:=by unfold capt captD;rw[List.length_map,List.length_map]
 fz:=fun i d e=>by
  obtain⟨j,h1,h2⟩:=Qk3 e
  rcases Qhs h2 with⟨_,h3⟩ | ⟨h3,_⟩
  ·obtain⟨v,a,b⟩:=S.fz j d h3
   exact⟨v,Qsf h1 a,b⟩
  ·cases h3
 ow:=fun i d e=>by
  obtain⟨j,h1,h2⟩:=Qk3 e
  rcases Qhs h2 with⟨h3,_⟩ | ⟨h3,_⟩<;>cases h3
 ln:=fun i d e=>by
  obtain⟨j,h1,h2⟩:=Qk3 e
  rcases Qhs h2 with⟨h3,_⟩ | ⟨_,h3 | h3 | h3⟩
  ·cases h3
  ·obtain⟨q,a,_,_,w⟩:=S.ow j d h3
   exact⟨_,Qsf h1 a,w.rep S.sub⟩
  ·obtain⟨v,a,b⟩:=S.ln j d h3
   exact⟨v,Qsf h1 a,Rep.mono S.bs d v b⟩
  ·obtain⟨q,a,_,_,_,_,w⟩:=S.sf j d h3
   exact⟨_,Qsf h1 a,w.rep S.sub⟩
 inj:=fun i j d e q _ h=>by
  obtain⟨j,h1,h2⟩:=Qk3 h
  rcases Qhs h2 with⟨h3,_⟩ | ⟨h3,_⟩<;>cases h3
 sf:=fun i d e=>(Qxn e).elim
 su:=fun i j d e h=>(Qxn h).elim
variable{N':List Str}{js:List (Option Nat)}{scope:Scope}{tg iter elt:Expr}{ifs:List Expr}{its:SD->Out (List D)}{g:D->SD->Out SD}{c:SD->Out Bool}{e:SD->Out D}{pos:Pos}
theorem QQw{J:It}{xs:List D}{p:Addr}{fp:List Addr}{s:Shared}{Q:VK}(S:StR C G H σ ς)(hp:H p=none)(dit:DItB C.X.K C.CT H G J xs)(hx:∀ x,¬ C.XD x)(hk:gKeep g (captD js ς))(hne:noExc g)
 (hin:DG (ccOf C N' scope fp s H G p) tg g/\DIf (ccOf C N' scope fp s H G p) ifs c/\DE (ccOf C N' scope fp s H G p) elt e)
 (q:(compM (turnC js g c e ς) xs>>=fun ys=>if fits ys.length=true then Out.ok (D.lst ys) else .stuck).post (fun d=>∀ H' G',StR C G' H' σ ς->Same H H'->Same G G'->G' p=none->Own C.X.K C.CT G' H' p d->Q (.ref p) H') C.XD):
 CompW (cxC C.X N' scope fp s (upd H p (.lst []))) js tg elt ifs σ H J p Q:=by
 obtain⟨⟨tt,pg,hg⟩,⟨tcc,pif,hcI⟩,⟨te,pe,he⟩⟩:=hin
 generalize hτ:captD js ς=τ0 at hk
 have S0:StR (ccOf C N' scope fp s H G p) G (upd H p (.lst [])) (capt js σ) τ0:=by rw[← hτ];exact S.comp hp
 refine⟨fun i m τ H'=>m=xs.length - i/\i<=xs.length/\∃ G' acc vs,StR (ccOf C N' scope fp s H G p) G' H' τ τ0/\H' p=some (.lst vs)/\RepL C.X.K C.CT G' acc vs/\G' p=none/\
  (compM (turnC js g c e ς) (xs.drop i)).post (fun ys=>(if fits (acc++ys).length=true then Out.ok (D.lst (acc++ys)) else .stuck).post (fun d=>∀ H' G',StR C G' H' σ ς->Same H H'->Same G G'->G' p=none->Own C.X.K C.CT G' H' p d->Q (.ref p) H') C.XD) C.XD,
  ⟨xs.length,by simp,Nat.zero_le _,G,[],[],S0,QU,rfl,S.sub.free hp,by rw[Out.post_bind]at q;simpa using q⟩,?_⟩
 rintro i m τ H' ⟨rfl,hle,G',acc,vs,S',hp',r',hg',q'⟩
 have hH0:(ccOf C N' scope fp s H G p).X.H₀ p≠none:=by
  show upd H p (.lst []) p≠none
  rw[QU];simp
 by_cases hlt:i<xs.length
 ·have hd:xs[i]?=some xs[i]:=by simp[hlt]
  obtain⟨hgo,hy⟩:=dit.go G' H' i _ S'.g0 S'.sub S'.bs hd
  refine .inr ⟨hgo,fun τ2 H2=>i+1<=xs.length/\∃ G' acc vs,StR (ccOf C N' scope fp s H G p) G' H2 τ2 τ0/\H2 p=some (.lst vs)/\RepL C.X.K C.CT G' acc vs/\G' p=none/\
   (compM (turnC js g c e ς) (xs.drop (i+1))).post (fun ys=>(if fits (acc++ys).length=true then Out.ok (D.lst (acc++ys)) else .stuck).post (fun d=>∀ H' G',StR C G' H' σ ς->Same H H'->Same G G'->G' p=none->Own C.X.K C.CT G' H' p d->Q (.ref p) H') C.XD) C.XD,
   fun τ2 H2 h2=>⟨xs.length - (i+1),by omega,rfl,h2⟩,fun x H'' y=>?_⟩
  obtain⟨G'',g1,h1,s1,n1,r⟩:=hy x H'' y
  have S'':=S'.grow h1 g1 s1 n1
  have hgp:G'' p=none:=by
   cases z:G'' p with
   | none=>rfl
   | some o=>
    have:=n1 p hg' (by rw[z];simp)
    rw[hp']at this;cases this
  rw[QCS hd,compM,Out.post_bind]at q'
  have tu:turnC js g c e ς xs[i]=(g xs[i] τ0>>=fun τ=>c τ>>=fun b=>if b=true then e τ>>=fun y=>Out.ok (some y) else Out.ok none):=by unfold turnC;rw[hτ]
  rw[tu,Out.post_bind]at q'
  cases z:g xs[i] τ0 with
  | exc w=>exact absurd z (hne _ _ _)
  | stuck=>rw[z]at q';exact q'.elim
  | ok τ1=>
   rw[z]at q'
   obtain⟨hl1,hk1⟩:=hk _ _ z
   refine⟨tt,pg,hg G'' H'' τ τ0 xs[i] x τ1 _ S'' r z fun τ2 S2=>?_⟩
   have q2:(c τ1>>=fun b=>if b=true then e τ1>>=fun y=>Out.ok (some y) else Out.ok none).post _ _:=q'
   rw[Out.post_bind]at q2
   -- no refusal leaves the block
   have q3:(c τ1).post (fun b=>(if b=true then e τ1>>=fun y=>Out.ok (some y) else Out.ok none).post (fun o=>(compM (turnC js g c e ς) (xs.drop (i+1))>>=fun ys=>Out.ok (o.toList++ys)).post (fun ys=>(if fits (acc++ys).length=true then Out.ok (D.lst (acc++ys)) else .stuck).post (fun d=>∀ H' G',StR C G' H' σ ς->Same H H'->Same G G'->G' p=none->Own C.X.K C.CT G' H' p d->Q (.ref p) H') C.XD) C.XD) C.XD) (fun _=>False):=by
    cases w:c τ1 with
    | ok b=>rw[w]at q2;exact q2
    | exc w'=>rw[w]at q2;exact absurd q2 (hx _)
    | stuck=>rw[w]at q2;exact q2.elim
   refine⟨tcc,pif,hcI G'' H'' τ2 τ1 _ S2 (Out.post_mono q3 fun b kb H3 G3 S3 a3 b3=>?_)⟩
   have hp3:H3 p=some (.lst vs):=a3 _ _ (h1 _ _ hp')
   have hg3:G3 p=none:=by
    cases z3:G3 p with
    | none=>rfl
    | some o=>
     have e3:(ccOf C N' scope fp s H G p).G0 p=none:=S.sub.free hp
     exact absurd (S3.new p e3 (by rw[z3];simp)) hH0
   cases b with
   | false=>
    refine iteF ⟨hlt,G3,acc,vs,S3.weak (by rw[hl1]) hk1,hp3,RepL.mono (g1.trans b3) acc vs r',hg3,?_⟩
    have kb':(compM (turnC js g c e ς) (xs.drop (i+1))>>=fun ys=>Out.ok ((none:Option D).toList++ys)).post (fun ys=>(if fits (acc++ys).length=true then Out.ok (D.lst (acc++ys)) else .stuck).post (fun d=>∀ H' G',StR C G' H' σ ς->Same H H'->Same G G'->G' p=none->Own C.X.K C.CT G' H' p d->Q (.ref p) H') C.XD) C.XD:=kb
    rw[Out.post_bind]at kb'
    exact Out.post_mono kb' fun ys k=>k
   | true=>
    have kb:(e τ1>>=fun y=>Out.ok (some y)).post (fun o=>(compM (turnC js g c e ς) (xs.drop (i+1))>>=fun ys=>Out.ok (o.toList++ys)).post (fun ys=>(if fits (acc++ys).length=true then Out.ok (D.lst (acc++ys)) else .stuck).post (fun d=>∀ H' G',StR C G' H' σ ς->Same H H'->Same G G'->G' p=none->Own C.X.K C.CT G' H' p d->Q (.ref p) H') C.XD) C.XD) C.XD:=kb
    rw[Out.post_bind]at kb
    have kb2:(e τ1).post (fun y=>(compM (turnC js g c e ς) (xs.drop (i+1))>>=fun ys=>Out.ok ((some y:Option D).toList++ys)).post (fun ys=>(if fits (acc++ys).length=true then Out.ok (D.lst (acc++ys)) else .stuck).post (fun d=>∀ H' G',StR C G' H' σ ς->Same H H'->Same G G'->G' p=none->Own C.X.K C.CT G' H' p d->Q (.ref p) H') C.XD) C.XD) (fun _=>False):=by
     cases w:e τ1 with
     | ok b=>rw[w]at kb;exact kb
     | exc w'=>rw[w]at kb;exact absurd kb (hx _)
     | stuck=>rw[w]at kb;exact kb.elim
    refine iteT ⟨te,pe,he G3 H3 τ2 τ1 _ S3 (Out.post_mono kb2 fun y ky v4 H4 G4 S4 a4 b4 r4=>?_)⟩
    rw[Out.post_bind]at ky
    have hp4:H4 p=some (.lst vs):=a4 _ _ hp3
    have hg4:G4 p=none:=by
     cases z3:G4 p with
     | none=>rfl
     | some o=>
      have e3:(ccOf C N' scope fp s H G p).G0 p=none:=S.sub.free hp
      exact absurd (S4.new p e3 (by rw[z3];simp)) hH0
    have rr:=RepL.mono ((g1.trans b3).trans b4) acc vs r'
    refine⟨vs,hp4,?_,hlt,G4,acc++[y],vs++[v4],?_,QU,rr.append (RepL.one r4),hg4,?_⟩
    ·cases w:compM (turnC js g c e ς) (xs.drop (i+1)) with
     | stuck=>rw[w]at ky;exact ky.elim
     | exc w'=>rw[w]at ky;exact absurd ky (hx _)
     | ok ys=>
      rw[w]at ky
      rcases Qas (show(if fits (acc++((some y:Option D).toList++ys)).length=true then Out.ok (D.lst (acc++((some y:Option D).toList++ys))) else .stuck).post _ _ from ky) with⟨hc,_⟩ | ⟨_,k⟩
      ·have hc':=of_decide_eq_true hc
       rw[List.length_append,List.length_append]at hc'
       have:(some y:Option D).toList.length=1:=rfl
       have hl:=r'.length
       omega
      ·exact k.elim
    ·exact(S4.weak (by rw[hl1]) hk1).updM rfl hH0 (fun i d z=>by rw[← hτ]at z;exact Qxn z) hp hg4
    ·exact Out.post_mono ky fun ys k=>by
      have e5:acc++[y]++ys=acc++((some y:Option D).toList++ys):=by simp
      rw[e5];exact k
 ·have ei:i=xs.length:=by omega
  subst ei
  rw[List.drop_length]at q'
  refine .inl ⟨dit.stop G' H' S'.g0 S'.sub S'.bs,?_⟩
  have q2:(if fits (acc++[]).length=true then Out.ok (D.lst (acc++[])) else .stuck).post _ C.XD:=q'
  rcases Qas q2 with⟨_,k⟩ | ⟨_,k⟩
  ·rw[List.append_nil]at k
   have hHH:Same H H':=fun b o eb=>S'.fr b o (by
    show upd H p (.lst []) b=some o
    rw[Ql (Q0 eb hp)];exact eb) (Q0 eb hp)
   have SG:StR C G' H' σ ς:=S.grow hHH S'.g0 S'.sub fun b h1 h2=>by
    have:=S'.new b h1 h2
    have this:upd H p (.lst []) b=none:=this
    by_cases hb:b=p
    ·subst hb;exact hp
    ·rw[Ql hb]at this;exact this
   exact k H' G' SG hHH S'.g0 hg' ⟨vs,hp',r'⟩
  ·exact k.elim
theorem compT(hi:∃ wi,PI C.X tg iter wi/\∀ G H σ ς (R:It->Hp->Prop),StR C G H σ ς->(its ς).post (fun ds=>∀ J H1 G1,StR C G1 H1 σ ς->Same H H1->Same G G1->DItB C.X.K C.CT H1 G1 J ds->R J H1) C.XD->wi σ H R)
 (hx:∀ x,¬ C.XD x) (hk:∀ ς,gKeep g (captD js ς)) (hne:noExc g)
 (hin:∀ fp s H G p,DG (ccOf C N' scope fp s H G p) tg g/\DIf (ccOf C N' scope fp s H G p) ifs c/\DE (ccOf C N' scope fp s H G p) elt e):
 ∃ wi,PI C.X tg iter wi/\∀ G H σ ς Q,StR C G H σ ς->(eComp js its g c e ς).post (KF C G H σ ς Q) C.XD->tComp C.X N' js scope tg elt ifs wi σ H Q:=by
 obtain⟨wi,pi,hq⟩:=hi
 refine⟨wi,pi,fun G H σ ς Q S k=>?_⟩
 unfold eComp at k
 rw[Out.post_bind]at k
 refine hq G H σ ς _ S (Out.post_mono k fun xs k J H1 G1 S1 a1 b1 dit p hp fp s=>?_)
 refine QQw S1 hp dit hx (hk ς) hne (hin fp s H1 G1 p) (Out.post_mono k fun d kd H' G' S' h1 g1 hg ow=>?_)
 exact kd p H' G' S' (a1.trans h1) (b1.trans g1) (a1.free hp) hg ow
theorem Q4(hc:C.X.calm=true)(S:QI N' js scope C.X.env.scope C.X.N)(hi:DIB C tg iter its)(hk:∀ ς,gKeep g (captD js ς))(hne:noExc g)
 (hin:∀ fp s H G p,DG (ccOf C N' scope fp s H G p) tg g/\DIf (ccOf C N' scope fp s H G p) ifs c/\DE (ccOf C N' scope fp s H G p) elt e)
 (hx:∀ x,¬ C.XD x:=by exact fun _ h=>h) (hs:∀ x,foldedSetIterable iter C.X.env x=pure x:=by intro _;rfl):DF C (.ListComp elt [⟨tg,iter,ifs,0⟩] scope pos) (eComp js its g c e):=by
 obtain⟨wi,pi,h⟩:=compT hi hx hk hne hin
 exact⟨_,QRg hc S pi hs,h⟩
variable{i:Nat}{x:Str}{px spos:Pos}
theorem QjS(hc:C.X.calm=true)(S:QI N' js scope C.X.env.scope C.X.N)(hi:DIB C tg iter its)(hk:∀ ς,gKeep g (captD js ς))(hne:noExc g)
 (hin:∀ fp s H G p,DG (ccOf C N' scope fp s H G p) tg g/\DIf (ccOf C N' scope fp s H G p) ifs c/\DE (ccOf C N' scope fp s H G p) elt e)
 (hN:C.X.N.Nodup) (hxN:C.X.N[i]?=some x) (hl:Loc C.X.env.scope x)
 (hsw:swapsWith (.ListComp elt [⟨tg,iter,ifs,0⟩] scope pos) (some (.Name x px)) spos.line C.X.env=pure true:=by rfl)
 (hf:C.X.fn x=true∨C.X.env.scope.names.lookup x=some .local:=by first | exact .inl rfl | exact .inr rfl | assumption)
 (hx:∀ x,¬ C.XD x:=by exact fun _ h=>h) (hs:∀ x,foldedSetIterable iter C.X.env x=pure x:=by intro _;rfl):DS C (.Assign [.Name x px] (.ListComp elt [⟨tg,iter,ifs,0⟩] scope pos) spos) (sSet i (eComp js its g c e)):=by
 obtain⟨wi,pi,h⟩:=compT hi hx hk hne hin
 refine⟨_,QSe hc S pi hN hxN hl hsw hf hs,fun G H σ ς W S k=>?_⟩
 unfold sSet at k
 rw[Out.post_bind]at k
 exact h G H σ ς _ S (Out.post_mono k fun d k=>KD.ofF (Q:=fun v H1=>W.nx (σ.set i (some v)) H1) S fun v H1 G1 S1 a1 b1 r1=>k _ H1 G1 (S1.set i r1) b1)
end
end DL
namespace L2
open PySem PySem.Spec PyProof.Rows
def Its(x:Str):It:=⟨fun i _=>i<x.cps.size,fun i H v H'=>H'=H/\∃ c,x.cps[i]?=some c/\v=.str ⟨#[c]⟩,fun i _=>x.cps.size<=i⟩
section
variable{X:Cx}{tg:Expr}
theorem QCR{P:Program}{w:World}{K:PySem.W.Frag}{tg:Expr}{x:Str}{ty:String}{t:Tok}(it:Addr)(hn:["enumerate","zip","dict_itemiterator","dict_reverseitemiterator","odict_iterator","itertools.zip_longest","itertools.pairwise"].contains ty=false)
 (hs:∀(A:Around)(i:Nat)(s:Shared)(Q:Value->Shared->Prop)(E:Value->Shared->Prop),s.heap.IsStrIter it ty x t i->Q (.ref it) s->wpAny (model P w) A (pyIter (.ref it)) Q E s)
 (W:∀ A':Around,A'.handled=none->Walks P w A' it [it] [it] x.cps.size (SignAt x) (fun i h=>h.IsStrIter it ty x t i)):Turn P w K tg (Its x) [it] it (fun i h=>h.IsStrIter it ty x t i/\i<=x.cps.size) where
 mem:=by simp
 obj:=fun i h st b hb=>by
  have e:b=it:=by simpa using hb
  subst e
  obtain⟨⟨o,e,c,d⟩,_⟩:=st
  exact⟨o,e,fun v z=>by rw[d]at z;cases z⟩
 keep:=fun i h h' st k=>⟨by obtain⟨⟨o,e,c,d⟩,_⟩:=st;exact⟨o,k it (by simp) o e,c,d⟩,st.2⟩
 item:=by
  intro X hP hw hK hc i pins s σ H E I hf st hg
  subst hP hw hK
  obtain⟨f0,f1,f2,f3,f4,f5⟩:=hf it (by simp)
  refine(W X.A (I.ok.hd hc)).item i s _ _ hg st.1 fun v h' tk hv st' kk=>?_
  obtain⟨c,u,hcx,rfl⟩:=hv
  have I1:Inv X pins σ H { s with heap:=h',toks:=tk }:=I.turned (fun b o hb e=>kk b o (by simpa using hb) e) f0 f1 f3 f4 f5
  obtain⟨o,e,c',d⟩:=id st'
  exact⟨_,rfl,go_of (s:={ s with heap:=h',toks:=tk }) e c' d hn ⟨.str ⟨#[c]⟩,H,I1,⟨u,rfl⟩,⟨rfl,c,hcx,rfl⟩,⟨st',hg⟩,fun b hb=>(hf b hb).1⟩⟩
 done:=by
  intro X hP hw hK hc i pins s σ H E I hf st hg
  subst hP hw hK
  obtain⟨f0,f1,f2,f3,f4,f5⟩:=hf it (by simp)
  have hg':x.cps.size<=i:=hg
  have e:i=x.cps.size:=Nat.le_antisymm st.2 hg'
  subst e
  exact(W X.A (I.ok.hd hc)).done s _ _ st.1 fun h' tk kk=>⟨rfl,I.turned (fun b o hb e=>kk b o (by simpa using hb) e) f0 f1 f3 f4 f5⟩
 self:=fun A i s Q E st h=>hs A i s Q E st.1 h
def iStr(tl:TE):TI:=fun σ H R=>tl σ H fun x H1=>∃ z,x=.str z/\R (Its z) H1
theorem QT3{l:Expr}{tl:TE}(hl:PE X l tl):PI X tg l (iStr tl):=by
 intro pins s σ H R I h
 refine thn (hl pins s σ H _ I h) fun v s1 ⟨x,H1,I1,r1,q1⟩=>?_
 obtain⟨z,e,q⟩:=q1
 subst e
 obtain⟨t,rfl⟩:=r1
 cases ha:z.cps.all (· < 128)
 ·refine wpAny_pyIter_wide ha ⟨s1.heap.objs.size,[s1.heap.objs.size],_,_,H1,rfl,I1.kept (t':=s1.toks) fun b o e=>Heap.get?_push_of_some _ e,QCR (x:=z) (ty:="str_iterator") (t:=t) _ (by decide) (fun _ _ _ _ _ st h=>wpAny_pyIter_striter_wide st h) (fun A' hA=>Walks.strWide hA _ z t),⟨⟨_,Heap.get?_push_size _ rfl,rfl,rfl⟩,Nat.zero_le _⟩,fun b hb=>?_,q⟩
  have e:b=s1.heap.objs.size:=by simpa using hb
  subst e
  exact I1.fpOk (Nat.le_refl _) (I1.hok.fresh (Nat.le_refl _))
 ·refine wpAny_pyIter_ascii ha ⟨s1.heap.objs.size,[s1.heap.objs.size],_,_,H1,rfl,I1.kept (t':=s1.toks) fun b o e=>Heap.get?_push_of_some _ e,QCR (x:=z) (ty:="str_ascii_iterator") (t:=t) _ (by decide) (fun _ _ _ _ _ st h=>wpAny_pyIter_striter_ascii st h) (fun A' hA=>Walks.strAscii hA _ z t),⟨⟨_,Heap.get?_push_size _ rfl,rfl,rfl⟩,Nat.zero_le _⟩,fun b hb=>?_,q⟩
  have e:b=s1.heap.objs.size:=by simpa using hb
  subst e
  exact I1.fpOk (Nat.le_refl _) (I1.hok.fresh (Nat.le_refl _))
theorem QOq(bs:List Bool):(List.range bs.length).all (fun i=>(bs[i]?).getD false)=bs.all id:=by
 rw[Bool.eq_iff_iff,List.all_eq_true,List.all_eq_true]
 constructor
 ·intro h b hb
  obtain⟨i,hi,e⟩:=List.mem_iff_getElem.mp hb
  have:=h i (List.mem_range.mpr hi)
  rw[List.getElem?_eq_getElem hi,Option.getD_some,e]at this
  exact this
 ·intro h i hi
  have hi':=List.mem_range.mp hi
  rw[List.getElem?_eq_getElem hi',Option.getD_some]
  exact h _ (List.getElem_mem hi')
theorem QO6(bs:List Bool):(List.range bs.length).any (fun i=>(bs[i]?).getD false)=bs.any id:=by
 rw[Bool.eq_iff_iff,List.any_eq_true,List.any_eq_true]
 constructor
 ·rintro ⟨i,hi,h⟩
  have hi':=List.mem_range.mp hi
  rw[List.getElem?_eq_getElem hi',Option.getD_some]at h
  exact⟨_,List.getElem_mem hi',h⟩
 ·rintro ⟨b,hb,h⟩
  obtain⟨i,hi,e⟩:=List.mem_iff_getElem.mp hb
  exact⟨i,List.mem_range.mpr hi,by rw[List.getElem?_eq_getElem hi,Option.getD_some,e];exact h⟩
theorem QOV(hc:X.calm=true):CallR X (.builtin "all") (fun xs H Q=>∃(p:Addr)(bs:List Bool),xs=[.ref p]/\SqL X.K H p (bs.map V.bl)/\Q (.bl (bs.all id)) H):=by
 intro pins s σ H xs us Q I r h
 obtain⟨p,bs,rfl,hq,q⟩:=h
 obtain⟨u,rfl,rx⟩:=vals1 r
 cases rx
 obtain⟨its,rv,pl,hz⟩:=I.list hq
 have hlen:=rv.length
 refine call_all_walk ?_
 refine wpAny_pyIter_list pl.isList ?_
 have hp:p<s.heap.objs.size:=by obtain⟨o,n,ho,_⟩:=pl;exact Heap.lt_size ho
 have hne:p≠s.heap.objs.size:=Nat.ne_of_lt hp
 refine⟨_,_,_,_,_,_,fun i=>(bs[i]?).getD false,rfl,Walks.list (A:=X.A.in1) (I.ok.hd hc) _ p hne its.toArray,⟨⟨_,Heap.get?_push_size _ rfl,rfl,rfl⟩,pl.isList.at fun o e=>Heap.get?_push_of_some _ e⟩,?_,fun h' tk kk=>⟨.bl (bs.all id),H,?_,?_,q⟩⟩
 ·intro i v s2 Q2 E2 hv hQ2
  have hv':its[i]?=some v:=by simpa using hv
  have hi:i<bs.length:=by
   have:=(List.getElem?_eq_some_iff.mp hv').1
   rw[List.length_map]at hlen
   omega
  obtain⟨y,hy,ry⟩:=rv.get (i:=i) (x:=.bl bs[i]) (by rw[List.getElem?_map,List.getElem?_eq_getElem hi];rfl)
  rw[hv']at hy
  cases hy
  cases ry
  have hQ2:Q2 ((bs[i]?).getD false) s2:=hQ2
  rw[List.getElem?_eq_getElem hi,Option.getD_some]at hQ2
  exact wpAny_pure hQ2
 ·exact I.kept fun b o e=>kk b o (by
   intro hb
   have e2:b=s.heap.objs.size:=by simpa using hb
   subst e2
   exact absurd (Heap.lt_size e) (Nat.lt_irrefl _)) (Heap.get?_push_of_some _ e)
 ·rw[List.size_toArray, ← hlen,List.length_map,QOq];exact rfl
theorem QPs(hc:X.calm=true):CallR X (.builtin "any") (fun xs H Q=>∃(p:Addr)(bs:List Bool),xs=[.ref p]/\SqL X.K H p (bs.map V.bl)/\Q (.bl (bs.any id)) H):=by
 intro pins s σ H xs us Q I r h
 obtain⟨p,bs,rfl,hq,q⟩:=h
 obtain⟨u,rfl,rx⟩:=vals1 r
 cases rx
 obtain⟨its,rv,pl,hz⟩:=I.list hq
 have hlen:=rv.length
 refine call_any_walk ?_
 refine wpAny_pyIter_list pl.isList ?_
 have hp:p<s.heap.objs.size:=by obtain⟨o,n,ho,_⟩:=pl;exact Heap.lt_size ho
 have hne:p≠s.heap.objs.size:=Nat.ne_of_lt hp
 refine⟨_,_,_,_,_,_,fun i=>(bs[i]?).getD false,rfl,Walks.list (A:=X.A.in1) (I.ok.hd hc) _ p hne its.toArray,⟨⟨_,Heap.get?_push_size _ rfl,rfl,rfl⟩,pl.isList.at fun o e=>Heap.get?_push_of_some _ e⟩,?_,fun h' tk kk=>⟨.bl (bs.any id),H,?_,?_,q⟩⟩
 ·intro i v s2 Q2 E2 hv hQ2
  have hv':its[i]?=some v:=by simpa using hv
  have hi:i<bs.length:=by
   have:=(List.getElem?_eq_some_iff.mp hv').1
   rw[List.length_map]at hlen
   omega
  obtain⟨y,hy,ry⟩:=rv.get (i:=i) (x:=.bl bs[i]) (by rw[List.getElem?_map,List.getElem?_eq_getElem hi];rfl)
  rw[hv']at hy
  cases hy
  cases ry
  have hQ2:Q2 ((bs[i]?).getD false) s2:=hQ2
  rw[List.getElem?_eq_getElem hi,Option.getD_some]at hQ2
  exact wpAny_pure hQ2
 ·exact I.kept fun b o e=>kk b o (by
   intro hb
   have e2:b=s.heap.objs.size:=by simpa using hb
   subst e2
   exact absurd (Heap.lt_size e) (Nat.lt_irrefl _)) (Heap.get?_push_of_some _ e)
 ·rw[List.size_toArray, ← hlen,List.length_map,QO6];exact rfl
end
end L2
namespace DL
open PySem PySem.Spec PyProof.Rows L2
def signs(z:Str):List D:=z.cps.toList.map fun c=>D.str ⟨#[c]⟩
def itS(E:SD->Out D):SD->Out (List D):=fun ς=>E ς>>=fun d=>match d with | .str z=>.ok (signs z) | _=>.stuck
section
variable{C:Dc}{e tg iter a b:Expr}{E A B:SD->Out D}{pos p:Pos}{es:List Expr}{AA:SD->Out (List D)}
theorem QRo{K:PySem.W.Frag}{CT:CTab}{G1:Hp}{z:Str}:DIt K CT G1 (Its z) (signs z) where
 go:=fun G H i d s1 sH hd=>by
  unfold signs at hd
  rw[List.getElem?_map]at hd
  cases hc:z.cps.toList[i]? with
  | none=>rw[hc]at hd;cases hd
  | some c=>
   rw[hc]at hd
   cases hd
   have hi:i<z.cps.size:=by
    have:=(List.getElem?_eq_some_iff.mp hc).1
    simpa using this
   refine⟨hi,fun x H' ⟨e,c',h1,h2⟩=>?_⟩
   subst e h2
   have h1':z.cps.toList[i]?=some c':=by simpa using h1
   rw[hc]at h1'
   cases h1'
   exact⟨G,Same.refl _,Same.refl _,sH,fun b g n=>absurd g n,rfl⟩
 stop:=fun G H s1 sH=>by
  unfold signs
  show z.cps.size<=_
  rw[List.length_map];simp
theorem QTl(h:DB C iter E):DI C tg iter (itS E):=by
 obtain⟨t,p,q⟩:=h
 refine⟨_,QT3 p,fun G H σ ς R S k=>?_⟩
 unfold itS at k
 rw[Out.post_bind]at k
 refine q G H σ ς _ S (Out.post_mono k fun d k v H1 G1 S1 a1 b1 r1=>?_)
 cases d with
 | str z=>cases r1;exact⟨z,rfl,k _ H1 G1 S1 a1 b1 QRo⟩
 | _=>exact k.elim
def dIn:D->D->Out D
 | .str x,.str y=>.ok (.bl (!(Builtin.Str.occurrences y x 0 y.length 1).isEmpty))
 | _,_=>.stuck
theorem QUv:DRS C (fun x y H Q=>∃ i j,x=.str i/\y=.str j/\Q (.bl (!(Builtin.Str.occurrences j i 0 j.length 1).isEmpty)) H) dIn:=by
 intro G H σ ς Q x y vx vy S hx hy q
 cases x with
 | str x=>
  cases y with
  | str y=>cases hx;cases hy;exact⟨x,y,rfl,rfl,q.2⟩
  | _=>exact q.elim
 | _=>cases y<;>exact q.elim
theorem QSu:scal2 dIn:=fun x y=>by cases x<;>cases y<;>first | exact rfl | exact True.intro
theorem de_in(ha:DB C a A)(hb:DB C b B)(hm:behindInMarks .In b=false:=by rfl):DE C (.Compare a [.In] [b] pos) (e2 dIn A B):=QFT QN8 QUv QSu ha hb hm
def blsOf:List D->Option (List Bool)
 | []=>some []
 | .bl b::r=>(blsOf r).map (b :: ·)
 | _::_=>none
theorem Qvf{K:PySem.W.Frag}{CT:CTab}{H:Hp}:∀{ds:List D}{bs:List Bool}{vs:List V},blsOf ds=some bs->RepL K CT H ds vs->vs=bs.map V.bl
 | [],bs,vs,h,r=>by cases h;exact r
 | d::ds,bs,vs,h,⟨v,w,h1,h2,h3⟩=>by
  cases d with
  | bl b=>
   cases e:blsOf ds with
   | none=>rw[blsOf,e]at h;cases h
   | some cs=>
    rw[blsOf,e]at h
    cases h
    cases h2
    rw[h1,Qvf e h3];rfl
  | _=>cases h
def fAll:D->Out D
 | .lst xs=>match blsOf xs with | some bs=>.ok (.bl (bs.all id)) | none=>.stuck
 | _=>.stuck
def fAny:D->Out D
 | .lst xs=>match blsOf xs with | some bs=>.ok (.bl (bs.any id)) | none=>.stuck
 | _=>.stuck
theorem QkM(hc:C.X.calm=true)(hg:Gl C.X "all")(hm:C.X.mg "all"=none)(ha:DAB C (e::es) AA)
 (he:starEach (e::es) C.X.env=(false,eval e C.X.env)::starEach es C.X.env:=by rfl) (hpl:(backTo pos (starEach es C.X.env)).any (·.1)=false:=by rfl):DE C (.Call (.Name "all" p) (e::es) [] pos) (eA (f1 fAll) AA):=by
 refine QnV (QOV hc) (Qt1 ?_) (Qq6 ?_) hg hm PyProof.Rows.Boot.«all» ha (by decide) (by decide) he hpl
 ·intro G H σ ς Q x v S r q
  cases x with
  | lst xs=>
   cases eb:blsOf xs with
   | none=>rw[fAll,eb]at q;exact q.elim
   | some bs=>
    rw[fAll,eb]at q
    obtain⟨a,vs,rfl,h2,h3⟩:=r
    rw[Qvf eb h3]at h2
    exact⟨a,bs,rfl,h2,q.2⟩
  | _=>exact q.elim
 ·intro x
  cases x with
  | lst xs=>
   rw[fAll]
   cases blsOf xs with
   | none=>exact True.intro
   | some bs=>exact rfl
  | _=>exact True.intro
theorem QTh(hc:C.X.calm=true)(hg:Gl C.X "any")(hm:C.X.mg "any"=none)(ha:DAB C (e::es) AA)
 (he:starEach (e::es) C.X.env=(false,eval e C.X.env)::starEach es C.X.env:=by rfl) (hpl:(backTo pos (starEach es C.X.env)).any (·.1)=false:=by rfl):DE C (.Call (.Name "any" p) (e::es) [] pos) (eA (f1 fAny) AA):=by
 refine QnV (QPs hc) (Qt1 ?_) (Qq6 ?_) hg hm PyProof.Rows.Boot.«any» ha (by decide) (by decide) he hpl
 ·intro G H σ ς Q x v S r q
  cases x with
  | lst xs=>
   cases eb:blsOf xs with
   | none=>rw[fAny,eb]at q;exact q.elim
   | some bs=>
    rw[fAny,eb]at q
    obtain⟨a,vs,rfl,h2,h3⟩:=r
    rw[Qvf eb h3]at h2
    exact⟨a,bs,rfl,h2,q.2⟩
  | _=>exact q.elim
 ·intro x
  cases x with
  | lst xs=>
   rw[fAny]
   cases blsOf xs with
   | none=>exact True.intro
   | some bs=>exact rfl
  | _=>exact True.intro
theorem QQx{X:Cx}:PE X (.Dict [] [] pos) (fun _ H Q=>∀ p,H p=none->Q (.ref p) (upd H p (.dK []))):=fun pins s σ H Q I h=>by
 have hb:sysModules<s.heap.objs.size:=Nat.lt_trans (by decide) (show mainGlobals<s.heap.objs.size from(I.mod.glob.keeps I.bk).lt)
 exact wpAny_Dict_empty ⟨.ref s.heap.objs.size,_,I.laid (a:=s.heap.objs.size) (o:=.dK []) (t':=s.toks) (fun _ _ q=>Heap.get?_push_of_some _ q) (Nat.le_refl _)
  ⟨Nat.zero_le _,beq_eq_false_iff_ne.mpr (Ne.symm (Nat.ne_of_lt hb)),[],.nil,Heap.DictOf.new s.heap⟩,rfl,h _ (I.hok.fresh (Nat.le_refl _))⟩
def eDic0:SD->Out D:=fun _=>.ok (.dic [])
theorem QRT:DF C (.Dict [] [] pos) eDic0:=⟨_,QQx,fun G H σ ς Q S q p hp=>by
 have q:KF C G H σ ς Q (.dic []):=q
 exact q p _ G (S.allocO hp) (QD hp) (Same.refl _) hp (S.gnone hp) ⟨[],QU,rfl⟩⟩
end
end DL
namespace DL
open PySem PySem.Spec PyProof.Rows L2
def ctOf(K:PySem.W.Frag):CTab:=fun c=>match PySem.W.nsIn K mainGlobals c with | some (some (.ref a))=>some a | _=>none
theorem ct_of{K:PySem.W.Frag}{c:Str}{a:Addr}(h:PySem.W.nsIn K mainGlobals c=some (some (.ref a))):ctOf K c=some a:=by unfold ctOf;rw[h]
structure Rz(C:Dc)(E:XK):Prop where
 pass:Qiz (CXR C.X.prog C.X.w) C.X E
 xd:∀ d,C.XD d->∃ c Cc,d=.err c/\C.CT c=some Cc/\∀ H',(∀ b o,C.X.H₀ b=some o->¬ C.M b->H' b=some o)->E (.ref Cc) none H'
 made:∀(Cc:Addr) pins σ H1 s1 ea h' vs,Inv C.X pins σ H1 s1->Heap.MadeExcOf s1.heap h' ea (.ref Cc) vs->E (.ref Cc) none H1->C.X.xe (.ref ea) { s1 with heap:=h' }
 calm:C.X.calm=true
theorem rz0{C:Dc}(hx:∀ d,¬ C.XD d:=by exact fun _ h=>h)(hc:C.X.calm=true:=by rfl):Rz C E0 where
 pass:=fun pins σ H s e s' I h=>by obtain⟨_,_,_,_,_,_,_,z⟩:=h;exact z.elim
 xd:=fun d h=>absurd h (hx d)
 made:=fun Cc pins σ H1 s1 ea h' vs I hx hE=>hE.elim
 calm:=hc
abbrev Dc.nox(C:Dc):Dc:={ C with X:=C.X.nox,XD:=fun _=>False }
def noX{α:Type}:Out α->Out α
 | .exc _=>.stuck
 | o=>o
theorem QS8{α:Type}(a:α):noX (.ok a)=.ok a:=rfl
theorem QHI{α:Type}{o:Out α}{k:α->Prop}{x:D->Prop}(h:(noX o).post k x):o.post k (fun _=>False):=by cases o<;>exact h
section
variable{C:Dc}{G H:Hp}{σ:St}{ς:SD}{e:Expr}{es:List Expr}{st:Stmt}{sts:List Stmt}
theorem GH.nox(S:GH C G H):GH C.nox G H:=⟨S.sub,S.g0,S.new,S.fr,S.dom,S.bs,S.bh⟩
theorem GH.unnox(S:GH C.nox G H):GH C G H:=⟨S.sub,S.g0,S.new,S.fr,S.dom,S.bs,S.bh⟩
theorem StR.nox(S:StR C G H σ ς):StR C.nox G H σ ς:=⟨S.toGH.nox,S.len,S.fz,S.ow,S.ln,S.inj,S.sf,S.su⟩
theorem StR.unnox(S:StR C.nox G H σ ς):StR C G H σ ς:=⟨S.toGH.unnox,S.len,S.fz,S.ow,S.ln,S.inj,S.sf,S.su⟩
theorem PA.nox'{X:Cx}{t:TA}(h:PA X.nox es t):PA X es t:=fun pos pins s σ H Q I q=>PA.nox h I q
theorem DA.lift{A:SD->Out (List D)}(h:DA C.nox es A):DA C es (fun ς=>noX (A ς)):=by
 obtain⟨t,p,q⟩:=h
 exact⟨t,PA.nox' p,fun G H σ ς Q S k=>q G H σ ς Q S.nox (Out.post_mono (QHI k) fun d kd v H' G' S' a b r=>kd v H' G' S'.unnox a b r)⟩
theorem FlK.nox{W:Ends}{f:Fl}(h:FlK C G W f):FlK C.nox G W f:=by
 cases f with
 | nx ς=>exact fun σ' H' G' S q=>h σ' H' G' S.unnox q
 | bk ς=>exact fun σ' H' G' S q=>h σ' H' G' S.unnox q
 | ct ς=>exact fun σ' H' G' S q=>h σ' H' G' S.unnox q
 | rt b d=>exact fun v H' G' S q r=>h v H' G' S.unnox q r
theorem PS.nox'{X:Cx}{t:TS}(h:PS X.nox st t):PS X st t:=fun pins s σ H D I hw=>
 wpAny_mono (h pins s σ H D (I.wish _) hw) (fun _ _ q=>q.unwish) fun _ _ z=>False.elim z
theorem DS.lift{T:SD->Out Fl}(h:DS C.nox st T):DS C st (fun ς=>noX (T ς)):=by
 obtain⟨t,p,q⟩:=h
 exact⟨t,PS.nox' p,fun G H σ ς W S k=>q G H σ ς W S.nox (Out.post_mono (QHI k) fun f kf=>kf.nox)⟩
variable{x:Str}{k:Nat}{fr:Bool}{dd:List D}{m:List D->Out D}{A:SD->Out (List D)}{p pos:Pos}{E:XK}
end
end DL
namespace DL
open PySem PySem.Spec PyProof.Rows L2
inductive FX where
 | fl (f:Fl) | ex (c:Str) (ς:SD)
inductive EX where
 | v (d:D) | ex (c:Str)
section
variable{C:Dc}{x:Str}{k:Nat}{fr:Bool}{dd:List D}{m:List D->Out D}{e:Expr}{es:List Expr}{A:SD->Out (List D)}{p pos:Pos}
variable{T U:SD->Out FX}{TE:SD->Out EX}{st:Stmt}{sts rest:List Stmt}{i:Nat}{px:Pos}
section
variable{G H:Hp}{σ:St}{ς:SD}{ea:Addr}
end
end
end DL
namespace L2
open PySem PySem.Spec PyProof.Rows
end L2
namespace DL
open PySem PySem.Spec PyProof.Rows L2
section
variable{C:Dc}{pos p:Pos}{e cx:Expr}{E:SD->Out D}
end
end DL
namespace L2
open PySem PySem.Spec PyProof.Rows
def Itz(K:PySem.W.Frag)(a b:Addr):It:=
 ⟨fun i H=>∃ xs ys x y,SqL K H a xs/\SqL K H b ys/\xs[i]?=some x/\ys[i]?=some y,
  fun i H v H'=>∃ p x y,H p=none/\v=.ref p/\H'=upd H p (.tup [x,y])/\(∀ xs,SqL K H a xs->xs[i]?=some x)/\∀ ys,SqL K H b ys->ys[i]?=some y,
  fun i H=>∃ xs ys,SqL K H a xs/\SqL K H b ys/\(xs.length<=i∨ys.length<=i)⟩
theorem QQU{P:Program}{w:World}{K:PySem.W.Frag}{elts:List Expr}{k1:Nat}{pos:Pos}{z TI TO i1 i2 l1 l2:Addr}(D:ZipApart z TI TO i1 i2 l1 l2):
 Turn P w K (.Tuple elts k1 pos) (Itz K l1 l2) [z,TI,TO,i1,i2] z (fun i h=>IsZip h z TI TO .none/\IsPair h TI (.ref i1) (.ref i2)/\(∃ a b,IsPair h TO a b)/\h.IsListIter i1 l1 i/\h.IsListIter i2 l2 i) where
 mem:=by simp
 obj:=fun i h st b hb=>by
  obtain⟨s1,s2,⟨_,_,s3⟩,⟨o4,e4,c4,d4⟩,⟨o5,e5,c5,d5⟩⟩:=st
  simp only[List.mem_cons,List.not_mem_nil,or_false]at hb
  rcases hb with rfl | rfl | rfl | rfl | rfl
  ·exact⟨_,s1,fun v q=>by cases q⟩
  ·exact⟨_,s2,fun v q=>by cases q⟩
  ·exact⟨_,s3,fun v q=>by cases q⟩
  ·exact⟨_,e4,fun v q=>by rw[d4]at q;cases q⟩
  ·exact⟨_,e5,fun v q=>by rw[d5]at q;cases q⟩
 keep:=fun i h h' st k=>by
  obtain⟨s1,s2,⟨a,b,s3⟩,s4,s5⟩:=st
  exact⟨k z (by simp) _ s1,k TI (by simp) _ s2,⟨a,b,k TO (by simp) _ s3⟩,s4.at fun o e=>k i1 (by simp) o e,s5.at fun o e=>k i2 (by simp) o e⟩
 item:=by
  intro X hP hw hK hc i pins s σ H E I hf st hg
  subst hP hw hK
  obtain⟨xs,ys,x,y,q1,q2,hx,hy⟩:=hg
  obtain⟨its1,rv1,p1,hz1⟩:=I.list q1
  obtain⟨its2,rv2,p2,hz2⟩:=I.list q2
  obtain⟨u1,hu1,ru1⟩:=rv1.get hx
  obtain⟨u2,hu2,ru2⟩:=rv2.get hy
  obtain⟨s1,s2,⟨a,b,s3⟩,s4,s5⟩:=st
  refine wpAny_pyNext_zip_item D s1 s2 s3 s4 s5 p1.isList p2.isList (x:=u1) (y:=u2) (by simpa using hu1) (by simpa using hu2) fun h' a1 a2 a3 a4 a5 a6 hk=>?_
  have hT:H s.heap.objs.size=none:=I.hok.fresh (Nat.le_refl _)
  have fp:∀ c∈[z,TO,i1,i2],FpOk X pins H c:=fun c hc=>hf c (by
   simp only[List.mem_cons,List.not_mem_nil,or_false]at hc ⊢
   rcases hc with rfl | rfl | rfl | rfl<;>simp)
  have out:∀ c,c∉[z,TO,i1,i2]->∀ o,s.heap.get? c=some o->h'.get? c=some o:=fun c hc o e=>hk c o (fun q=>hc (by simp[q])) (fun q=>hc (by simp[q])) (fun q=>hc (by simp[q])) (fun q=>hc (by simp[q])) e
  have trk:∀ c o,H c=some o->c∉[z,TO,i1,i2]:=fun c o e hc=>by rw[(fp c hc).1]at e;cases e
  have hok:HOk X.prog X.w (upd H s.heap.objs.size (.tup [x,y])) h':=fun c o e=>by
   by_cases hcT:c=s.heap.objs.size
   ·subst hcT
    rw[QU]at e
    cases e
    exact⟨by show 2<=sizeLine;decide,[u1,u2],.cons ru1 (.cons ru2 .nil),⟨_,a5,rfl,_,rfl⟩⟩
   ·rw[Ql hcT]at e
    refine(I.hok c o e).stay (fun b u hb q=>out b ?_ u q) (fun b q=>?_) fun b ts q=>?_
    ·rcases hb with rfl | hb
     ·exact trk b _ e
     ·exact trk b _ hb
    ·rw[Ql (Q0 q hT)];exact q
    ·rw[Ql (Q0 q hT)];exact q
  have I1:Inv X pins σ (upd H s.heap.objs.size (.tup [x,y])) { s with heap:=h',gens:=s.gens,drawn:=s.drawn,toks:=s.toks }:=I.step (ch:=[z,TO,i1,i2])
   (fun c hc=>⟨(fp c hc).2.2.2.1,(fp c hc).2.1,(fp c hc).2.2.2.2.1,(fp c hc).2.2.2.2.2⟩) (fun c o _ _ hc e _=>out c hc o e) (fun c o _ _ hc e _=>⟨o.slots,out c hc o e⟩)
   (fun c o hc e n=>by rw[Ql (Nat.ne_of_lt (Heap.lt_size e))];exact n) (fun c o hc e=>⟨o,out c hc o e⟩)
   (fun c ts e=>by rw[Ql (Q0 e hT)];exact e) (fun c o u e=>by rw[Ql (Q0 e hT)];exact e) (fun c ts e=>⟨#[],by rw[Ql (Q0 e hT),e];simp⟩)
   (fun m hm=>by
    obtain⟨o,es,ep,ho,r⟩:=hm
    exact⟨o,es,ep,out _ (fun hc=>(fp _ hc).2.1 rfl) o ho,r⟩) hok I.bare
  have lt:∀{c o},s.heap.get? c=some o->s.heap.objs.size≠c:=fun e=>Nat.ne_of_gt (Heap.lt_size e)
  refine⟨_,rfl,wpAny_letOwnedTupleGo_zip a1 fun h2 hz2 hs2=>?_⟩
  obtain⟨z0,z1,z2,z3,z4,z5⟩:=hf z (by simp)
  have I2:Inv X pins σ (upd H s.heap.objs.size (.tup [x,y])) { s with heap:=h2 }:=Inv.turned (s:={ s with heap:=h',gens:=s.gens,drawn:=s.drawn,toks:=s.toks }) (t':=s.toks) (it:=z) I1 (fun b o hb e=>(hs2.2 b hb).trans e) (by rw[Ql (lt s1).symm];exact z0) z1 z3 z4 z5
  refine⟨.ref s.heap.objs.size,_,I2,rfl,⟨_,x,y,hT,rfl,rfl,fun xs' q'=>by rw[I.list_inj q' q1];exact hx,fun ys' q'=>by rw[I.list_inj q' q2];exact hy⟩,
   ⟨hz2,hs2.extBut _ _ D.TIz (out TI (by simp[D.TIz,D.TITO,D.TIi1,D.TIi2]) _ s2),⟨_,_,hs2.extBut _ _ D.TOz a2⟩,a3.extBut hs2.extBut D.i1z,a4.extBut hs2.extBut D.i2z⟩,fun c hc=>?_⟩
  have:H c=none:=(hf c hc).1
  obtain⟨oc,hoc⟩:∃ o,s.heap.get? c=some o:=by
   simp only[List.mem_cons,List.not_mem_nil,or_false]at hc
   rcases hc with rfl | rfl | rfl | rfl | rfl
   ·exact⟨_,s1⟩
   ·exact⟨_,s2⟩
   ·exact⟨_,s3⟩
   ·obtain⟨o,e,_⟩:=s4;exact⟨o,e⟩
   ·obtain⟨o,e,_⟩:=s5;exact⟨o,e⟩
  rw[Ql (lt hoc).symm];exact this
 done:=by
  intro X hP hw hK hc i pins s σ H E I hf st hg
  subst hP hw hK
  obtain⟨xs,ys,q1,q2,hend⟩:=hg
  obtain⟨its1,rv1,p1,hz1⟩:=I.list q1
  obtain⟨its2,rv2,p2,hz2⟩:=I.list q2
  have l1:=rv1.length
  have l2:=rv2.length
  obtain⟨s1,s2,⟨a,b,s3⟩,s4,s5⟩:=st
  have fp:∀ c∈[z,TO,i1,i2],FpOk X pins H c:=fun c hc=>hf c (by
   simp only[List.mem_cons,List.not_mem_nil,or_false]at hc ⊢
   rcases hc with rfl | rfl | rfl | rfl<;>simp)
  refine wpAny_pyNext_zip_end (I.ok.hd hc) D s1 s2 s3 s4 s5 p1.isList p2.isList (by simp;omega) fun h' hk=>⟨rfl,?_⟩
  have out:∀ c,c∉[z,TO,i1,i2]->∀ o,s.heap.get? c=some o->h'.get? c=some o:=fun c hc o e=>hk c o (fun q=>hc (by simp[q])) (fun q=>hc (by simp[q])) (fun q=>hc (by simp[q])) (fun q=>hc (by simp[q])) e
  have trk:∀ c o,H c=some o->c∉[z,TO,i1,i2]:=fun c o e hc=>by rw[(fp c hc).1]at e;cases e
  exact I.step (g':=s.gens) (d':=s.drawn) (t':=s.toks) (ch:=[z,TO,i1,i2]) (fun c hc=>⟨(fp c hc).2.2.2.1,(fp c hc).2.1,(fp c hc).2.2.2.2.1,(fp c hc).2.2.2.2.2⟩) (fun c o _ _ hc e _=>out c hc o e) (fun c o _ _ hc e _=>⟨o.slots,out c hc o e⟩)
   (fun c o hc e n=>n) (fun c o hc e=>⟨o,out c hc o e⟩) (fun c ts e=>e) (fun c o u e=>e) (fun c ts e=>⟨#[],by rw[e];simp⟩)
   (fun m hm=>by
    obtain⟨o,es,ep,ho,r⟩:=hm
    exact⟨o,es,ep,out _ (fun hc=>(fp _ hc).2.1 rfl) o ho,r⟩)
   (fun c o e=>(I.hok c o e).stay (fun b u hb q=>out b (by
    rcases hb with rfl | hb
    ·exact trk b _ e
    ·exact trk b _ hb) u q) (fun b q=>q) fun b ts q=>q) I.bare
 self:=fun _ _ _ _ _ st h=>wpAny_pyIter_zip st.1 h
section
variable{X:Cx}
theorem QO4(n l1 l2:Nat)(h1:l1<n)(h2:l2<n):ZipApart (n+4) (n+2) (n+3) n (n+1) l1 l2:=⟨(show ¬ ((n+2:Nat)=n+4) by omega),(show ¬ ((n+3:Nat)=n+4) by omega),(show ¬ ((n:Nat)=n+4) by omega),(show ¬ ((n+1:Nat)=n+4) by omega),(show ¬ ((n+2:Nat)=n+3) by omega),(show ¬ ((n+2:Nat)=n) by omega),(show ¬ ((n+2:Nat)=n+1) by omega),(show ¬ ((n+3:Nat)=n) by omega),(show ¬ ((n+3:Nat)=n+1) by omega),(show ¬ ((n:Nat)=n+1) by omega),(show ¬ ((l1:Nat)=n+4) by omega),(show ¬ ((l1:Nat)=n+3) by omega),(show ¬ ((l1:Nat)=n) by omega),(show ¬ ((l1:Nat)=n+1) by omega),(show ¬ ((l2:Nat)=n+4) by omega),(show ¬ ((l2:Nat)=n+3) by omega),(show ¬ ((l2:Nat)=n) by omega),(show ¬ ((l2:Nat)=n+1) by omega)⟩
def iZip(K:PySem.W.Frag)(ta:TA):TI:=fun σ H R=>ta σ H fun vs H1=>∃ a b,vs=[.ref a,.ref b]/\(∃ xs,SqL K H1 a xs)/\(∃ ys,SqL K H1 b ys)/\R (Itz K a b) H1
theorem QTV{elts:List Expr}{k1:Nat}{tpos:Pos}{a b:Expr}{ta:TA}{p pos:Pos}(hg:Gl X "zip")(hm:X.mg "zip"=none)(ha:PA X [a,b] ta)(hs:starEach [a,b] X.env=[(false,eval a X.env),(false,eval b X.env)]:=by rfl)(hs2:starEach [b] X.env=[(false,eval b X.env)]:=by rfl):
 PI X (.Tuple elts k1 tpos) (.Call (.Name "zip" p) [a,b] [] pos) (iZip X.K ta):=by
 intro pins s σ H R I h
 refine Call_ (Qk2 I hg hm PyProof.Rows.Boot.«zip» (PyProof.Rows.callWith_type1 (thn (ha pos pins s σ H _ I h) fun us s1 ⟨vs,H1,I1,r1,q1⟩=>?_) (by rw[hs,hs2]) (by rw[hs2];rfl)))
 obtain⟨l1,l2,e,⟨xs,hx⟩,⟨ys,hy⟩,q⟩:=q1
 subst e
 cases r1 with
 | cons r rr=>
  cases rr with
  | cons r' rr=>
   cases rr
   cases r
   cases r'
   obtain⟨its1,rv1,p1,hz1⟩:=I1.list hx
   obtain⟨its2,rv2,p2,hz2⟩:=I1.list hy
   have n1:l1<s1.heap.objs.size:=by obtain⟨o,n,ho,_⟩:=p1;exact Heap.lt_size ho
   have n2:l2<s1.heap.objs.size:=by obtain⟨o,n,ho,_⟩:=p2;exact Heap.lt_size ho
   refine call_zip_2 p1.isList p2.isList fun h' c1 c2 c3 c4 c5 c6 hk=>?_
   refine wpAny_pyIter_zip c1 ?_
   refine⟨_,_,_,Itz X.K l1 l2,H1,rfl,I1.kept (t':=s1.toks) fun b o e=>hk b o e,QQU (i1:=s1.heap.objs.size) (i2:=s1.heap.objs.size+1) (TI:=s1.heap.objs.size+2) (TO:=s1.heap.objs.size+3) (z:=s1.heap.objs.size+4) (l1:=l1) (l2:=l2)
    (QO4 s1.heap.objs.size l1 l2 n1 n2),⟨c1,c2,⟨_,_,c3⟩,c4,c5⟩,fun b hb=>?_,q⟩
   have hb':s1.heap.objs.size<=b:=by
    simp only[List.mem_cons,List.not_mem_nil,or_false]at hb
    rcases hb with rfl | rfl | rfl | rfl | rfl<;>omega
   exact I1.fpOk hb' (I1.hok.fresh hb')
end
end L2
namespace DL
open PySem PySem.Spec PyProof.Rows L2
def itZ(A B:SD->Out D):SD->Out (List D):=fun ς=>A ς>>=fun x=>B ς>>=fun y=>match x,y with
 | .lst xs,.lst ys=>.ok (List.zipWith (fun a b=>.tup [a,b]) xs ys)
 | _,_=>.stuck
section
variable{C:Dc}{a b:Expr}{A B:SD->Out D}
theorem QSg{K:PySem.W.Frag}{CT:CTab}{G1:Hp}{p q:Addr}{xs ys:List D}{us vs:List V}(h1:SqL K G1 p us)(r1:RepL K CT G1 xs us)(h2:SqL K G1 q vs)(r2:RepL K CT G1 ys vs):DIt K CT G1 (Itz K p q) (List.zipWith (fun a b=>D.tup [a,b]) xs ys) where
 go:=fun G H i d s1 sH hd=>by
  rw[List.getElem?_zipWith]at hd
  cases e1:xs[i]? with
  | none=>rw[e1]at hd;cases hd
  | some x=>
   cases e2:ys[i]? with
   | none=>rw[e1,e2]at hd;cases hd
   | some y=>
    rw[e1,e2]at hd
    cases hd
    obtain⟨u,hu,ru⟩:=r1.get e1
    obtain⟨v,hv,rv⟩:=r2.get e2
    have q1:SqL K H p us:=sH.seq (s1.seq h1)
    have q2:SqL K H q vs:=sH.seq (s1.seq h2)
    refine⟨⟨us,vs,u,v,q1,q2,hu,hv⟩,fun w H' ⟨t,x',y',n,e,e',k1,k2⟩=>?_⟩
    have z1:=k1 us q1
    have z2:=k2 vs q2
    rw[hu]at z1;cases z1
    rw[hv]at z2;cases z2
    subst e e'
    have gn:G t=none:=sH.free n
    refine⟨upd G t (.tup [u,v]),QD gn,QD n,Qvq sH,fun b g g'=>?_,t,[u,v],rfl,SqT.of QU,⟨u,_,rfl,Rep.mono (s1.trans (QD gn)) x u ru,v,_,rfl,Rep.mono (s1.trans (QD gn)) y v rv,rfl⟩⟩
    by_cases hb:b=t
    ·subst hb;exact n
    ·rw[Ql hb]at g';exact absurd g g'
 stop:=fun G H s1 sH=>by
  refine⟨us,vs,sH.seq (s1.seq h1),sH.seq (s1.seq h2),?_⟩
  have l1:=r1.length
  have l2:=r2.length
  rw[List.length_zipWith]
  omega
theorem QnU{elts:List Expr}{k1:Nat}{tpos p pos:Pos}(hgl:Gl C.X "zip")(hm:C.X.mg "zip"=none)(ha:DE C a A)(hb:DE C b B)
 (hst:starEach [a,b] C.X.env=(false,eval a C.X.env)::starEach [b] C.X.env:=by rfl) (hst2:starEach [b] C.X.env=(false,eval b C.X.env)::starEach [] C.X.env:=by rfl):DI C (.Tuple elts k1 tpos) (.Call (.Name "zip" p) [a,b] [] pos) (itZ A B):=by
 obtain⟨t0,p0,q0⟩:=ha
 obtain⟨t3,p3,q3⟩:=hb
 refine⟨_,QTV hgl hm (Qc2 p0 (Qc2 p3 Qgz hst2) hst) (by rw[hst,hst2];rfl) (by rw[hst2];rfl),fun G H σ ς R S k=>?_⟩
 unfold itZ at k
 rw[Out.post_bind]at k
 refine q0 G H σ ς _ S (Out.post_mono k fun d k v H1 G1 S1 a1 b1 r=>?_)
 rw[Out.post_bind]at k
 refine q3 G1 H1 σ ς _ S1 (Out.post_mono k fun d2 k v2 H2 G2 S2 a2 b2 r'=>?_)
 cases d with
 | lst xs=>
  cases d2 with
  | lst ys=>
   obtain⟨p1,us,rfl,h1,r1⟩:=Rep.mono b2 _ v r
   obtain⟨p2,vs,rfl,h2,r2⟩:=r'
   exact⟨p1,p2,rfl,⟨us,S2.sub.seq h1⟩,⟨vs,S2.sub.seq h2⟩,k _ H2 G2 S2 (a1.trans a2) (b1.trans b2) (QSg h1 r1 h2 r2)⟩
  | _=>exact k.elim
 | _=>exact k.elim
end
end DL
namespace DL
open PySem PySem.Spec PyProof.Rows L2
def putD(f:Str)(d:D):List (Str×D)->List (Str×D)
 | []=>[(f,d)]
 | (g,x)::r=>if g=f then(g,d)::r else(g,x)::putD f d r
section
variable{K:PySem.W.Frag}{CT:CTab}{H H':Hp}
theorem RepF.look:∀{fds:List (Str×D)}{fs:List (Str×V)}{f:Str},RepF K CT H fds fs->(∀ d,fds.lookup f=some d->∃ v,fs.lookup f=some v/\Rep K CT H d v)/\(fds.lookup f=none->fs.lookup f=none)
 | [],_,f,h=>by cases h;exact⟨fun d z=>(by cases z),fun _=>rfl⟩
 | (k,d)::fds,_,f,⟨v,r,h1,h2,h3⟩=>by
  subst h1
  have ih:=RepF.look (f:=f) h3
  rw[List.lookup_cons,List.lookup_cons]
  cases f == k with
  | true=>exact⟨fun d' z=>by cases z;exact⟨v,rfl,h2⟩,fun z=>by cases z⟩
  | false=>exact ih
theorem RepF.len:∀{fds:List (Str×D)}{fs:List (Str×V)},RepF K CT H fds fs->fds.length=fs.length
 | [],_,h=>by cases h;rfl
 | (k,d)::fds,_,⟨v,r,h1,h2,h3⟩=>by subst h1;rw[List.length_cons,List.length_cons,RepF.len h3]
theorem RepF.put{f:Str}{d:D}{v:V}(q:Rep K CT H d v):∀{fds:List (Str×D)}{fs:List (Str×V)},RepF K CT H fds fs->RepF K CT H (putD f d fds) (putF f v fs)
 | [],_,h=>by cases h;exact⟨v,[],rfl,q,rfl⟩
 | (k,x)::fds,_,⟨u,r,h1,h2,h3⟩=>by
  subst h1
  unfold putD putF
  by_cases hk:k=f
  ·rw[if_pos hk,if_pos hk];exact⟨v,r,rfl,q,h3⟩
  ·rw[if_neg hk,if_neg hk];exact⟨u,_,rfl,h2,RepF.put q h3⟩
end
def FldOk(K:PySem.W.Frag)(CT:CTab)(cs:List Str)(f:Str):Prop:=∀ c,cs.contains c=true->∀ A,CT c=some A->Cls K A/\Qm9 K A f
def dFld(cs:List Str)(f:Str):D->Out D
 | .ins c fs=>if cs.contains c=true then optO (fs.lookup f) else .stuck
 | _=>.stuck
section
variable{C:Dc}{e:Expr}{E:SD->Out D}{f:Str}{cs:List Str}{pos:Pos}
theorem Qro(hF:FldOk C.X.K C.CT cs f)(h:DE C e E)(hb:attributeBase e f C.X.env (eval e C.X.env)=eval e C.X.env:=by rfl):DE C (.Attribute e f pos) (e1 (dFld cs f) E):=by
 obtain⟨t,p,q⟩:=h
 refine⟨_,QTB p hb,fun G H σ ς Q S k=>?_⟩
 unfold e1 at k
 rw[Out.post_bind]at k
 refine q G H σ ς _ S (Out.post_mono k fun d k v H1 G1 S1 a1 b1 r=>?_)
 cases d with
 | ins c fds=>
  rcases Qas k with⟨hc,k⟩ | ⟨_,k⟩
  ·obtain⟨d,e1',kd⟩:=Qj2 k
   obtain⟨a,A,dx,fs,rfl,h1,h2,h3⟩:=r
   obtain⟨v,e2',rv⟩:=(RepF.look h3).1 d e1'
   obtain⟨cl,na⟩:=hF c hc A h1
   exact⟨a,A,dx,fs,v,rfl,S1.sub _ _ h2,cl,na,e2',KD.now (KD.later kd a1 b1) S1 rv⟩
  ·exact k.elim
 | _=>exact k.elim
theorem StR.writeS{G H:Hp}{σ:St}{ς:SD}(S:StR C G H σ ς){i:Nat}{p A dx:Addr}{c:Str}{fds fds':List (Str×D)}{fs':List (Str×V)}(hi:ς[i]?=some (some (.s,.ins c fds)))(hp:σ[i]?=some (some (.ref p)))(hc:C.CT c=some A)(r:RepF C.X.K C.CT G fds' fs'):
 StR C G (upd H p (.ins A dx fs')) σ (ς.set i (some (.s,.ins c fds'))):=by
 obtain⟨p',e1,hg,h0,hM,hB,ow⟩:=S.sf i _ hi
 rw[hp]at e1;cases e1
 have ne:∀ b o,G b=some o->b≠p:=fun b o e z=>by subst z;rw[hg]at e;cases e
 have S':StR C G (upd H p (.ins A dx fs')) (σ.set i (some (.ref p))) (ς.set i (some (.s,.ins c fds'))):={
  sub:=fun b o e=>by rw[Ql (ne b o e)];exact S.sub b o e
  g0:=S.g0
  new:=S.new
  fr:=fun b o e m=>by
   rw[Ql (by rintro rfl;exact m hM)];exact S.fr b o e m
  dom:=fun b e=>by
   by_cases hb:b=p
   ·subst hb;rw[QU]at e;cases e
   ·rw[Ql hb]at e;exact S.dom b e
  bs:=fun b o e=>by
   rw[Ql (by rintro rfl;rw[hB]at e;cases e)];exact S.bs b o e
  bh:=S.bh
  len:=by rw[List.length_set,List.length_set];exact S.len
  fz:=fun j d h=>by
   rcases QL h with⟨rfl,h2,l⟩ | ⟨hne,h2⟩
   ·cases h2
   ·rw[QB hne];exact S.fz j d h2
  ow:=fun j d h=>by
   rcases QL h with⟨rfl,h2,l⟩ | ⟨hne,h2⟩
   ·cases h2
   ·rw[QB hne]
    obtain⟨q,a,b,c',w⟩:=S.ow j d h2
    have qp:q≠p:=by
     rintro rfl
     exact h0 c'
    exact⟨q,a,b,c',w.mono (Same.refl G) fun o z=>by rw[Ql qp];exact z⟩
  ln:=fun j d h=>by
   rcases QL h with⟨rfl,h2,l⟩ | ⟨hne,h2⟩
   ·cases h2
   ·rw[QB hne];exact S.ln j d h2
  inj:=fun j k d1 d2 q hjk h1 h2 h3=>by
   rcases QL h1 with⟨rfl,q1,l⟩ | ⟨n1,q1⟩
   ·cases q1
   ·rcases QL h2 with⟨rfl,q2,l⟩ | ⟨n2,q2⟩
    ·cases q2
    ·rw[QB n1]at h3
     rw[QB n2]
     exact S.inj j k d1 d2 q hjk q1 q2 h3
  sf:=fun j d h=>by
   rcases QL h with⟨rfl,h2,l⟩ | ⟨hne,h2⟩
   ·cases h2
    exact⟨p,QjH (by rw[S.len];exact l),hg,h0,hM,hB,⟨A,dx,fs',hc,QU,r⟩⟩
   ·exact absurd (S.su i j _ _ hi h2) hne
  su:=fun j k d1 d2 h1 h2=>by
   have get:∀(j:Nat) d,(ς.set i (some (.s,D.ins c fds')))[j]?=some (some (.s,d))->∃ d',ς[j]?=some (some (.s,d')):=fun j d h=>by
    rcases QL h with⟨rfl,h2,l⟩ | ⟨hne,h2⟩
    ·exact⟨_,hi⟩
    ·exact⟨_,h2⟩
   obtain⟨d1',g1⟩:=get j d1 h1
   obtain⟨d2',g2⟩:=get k d2 h2
   exact S.su j k d1' d2' g1 g2 }
 rw[QnF hp]at S'
 exact S'
def sFldS(cs:List Str)(f:Str)(i:Nat)(E:SD->Out D):SD->Out Fl:=fun ς=>E ς>>=fun d=>match ς[i]? with
 | some (some (.s,.ins c fds))=>if (cs.contains c&&decide (fds.length<1000))=true then .ok (.nx (ς.set i (some (.s,.ins c (putD f d fds))))) else .stuck
 | _=>.stuck
theorem Qim(i:Nat){x:Str}{px pa:Pos}(hF:FldOk C.X.K C.CT cs f)(h:DE C e E)(hN:C.X.N[i]?=some x:=by rfl)(hv:Vis C.X.env.scope x:=by first | exact Or.inl rfl | exact Or.inr (Or.inl rfl) | exact Or.inr (Or.inr rfl))
 (hd:(x == ("__debug__":Str))=false:=by decide) (hcd:(x == ("__classdict__":Str))=false:=by decide)
 (hs:swapsWith e (some (.Attribute (.Name x px) f pa)) pos.line C.X.env=pure false:=by rfl):DS C (.Assign [.Attribute (.Name x px) f pa] e pos) (sFldS cs f i E):=by
 obtain⟨t,p,q⟩:=h
 refine⟨_,QS6 (QnT (i:=i) hN hv hd hcd) p hs,fun G H σ ς W S k=>?_⟩
 unfold sFldS at k
 rw[Out.post_bind]at k
 refine q G H σ ς _ S (Out.post_mono k fun d k v H1 G1 S1 a1 b1 r=>?_)
 split at k
 ·rename_i c fds z
  rcases Qas k with⟨hc,k⟩ | ⟨_,k⟩
  ·rw[Bool.and_eq_true]at hc
   obtain⟨pp,e1',hg,h0,hM,hB,A,dx,fs,hA,hH,rf⟩:=S1.sf i _ z
   obtain⟨cl,na⟩:=hF c hc.1 A hA
   refine⟨_,e1',pp,A,dx,fs,rfl,hH,cl,na,by rw[← rf.len];exact of_decide_eq_true hc.2,?_⟩
   exact(show FlK C G W (.nx (ς.set i (some (.s,.ins c (putD f d fds))))) from k) σ _ G1 (S1.writeS z e1' hA (rf.put r)) b1
  ·exact k.elim
 ·exact k.elim
end
end DL
namespace L2
open PySem PySem.Spec PyProof.Rows
section
variable{X:Cx}{CX:CXT}{k:Nat}{m:Str}{dvs:List V}{E:XK}{o e:Expr}{es:List Expr}{ta:TE}{t:TA}{apos pos:Pos}{cs:Addr->Sp->Prop}
def MTab(X:Cx)(CX:CXT)(k:Nat)(m:Str)(dvs:List V)(cs:Addr->Sp->Prop):Prop:=
 ∀ C sp,cs C sp->Cls X.K C/\∃ f fd ps ds,Meth X.K C m f/\FnOk X.prog X.w X.K X.mg X.base CX k f fd ps sp/\Binds X.K fd ps ds/\Vals dvs ds
def QOj(m:Str)(dvs:List V)(cs:Addr->Sp->Prop)(E:XK)(ta:TE)(t:TA):TE:=fun σ H Q=>ta σ H fun x H1=>∃ a C dx fs sp,x=.ref a/\H1 a=some (.ins C dx fs)/\cs C sp/\fs.lookup m=none/\t σ H1 fun vs H2=>sp (x::(vs++dvs)) H2 Q E
theorem QHR{pl:Sem Bool}(he:PE X o ta)(tab:MTab X CX k m dvs cs)(hr:Room k X.A)(hx:Qiz CX X E)(ha:PA X (e::es) t)
 (hst:starEach (e::es) X.env=(false,eval e X.env)::starEach es X.env:=by rfl) (hpl:(backTo pos (starEach es X.env)).any (·.1)=false:=by rfl)
 (ht:eval (.Call (.Attribute o m apos) (e::es) [] pos) X.env=(do
  let ov ← eval o X.env
  standAt apos.atName
  let (f,first) ← holding [ov] (getMethod ov m pl)
  callWith pos f first (backTo pos (starEach (e::es) X.env)) (backToKw pos (keywordEach [] X.env))):=by rfl):
 PE X (.Call (.Attribute o m apos) (e::es) [] pos) (QOj m dvs cs E ta t):=by
 intro pins s σ H Q I h
 refine PySem.W.methodCall_KW (pl:=pl) (thn (he pins s σ H _ I h) fun u s1 ⟨x,H1,I1,rx,a,C,dx,fs,sp,ex,ea,hc,l,q⟩=>?_) ht
 subst ex
 obtain rfl:u=Value.ref a:=rx
 obtain⟨c,f,fd,ps,ds,hm,F,hb,hd⟩:=tab C sp hc
 refine QyB I1 ea c hm l ?_
 refine PySem.W.callWith_K (first:=[.ref a]) (h₀:=X.base) I.ok.mod.kin hm.kp (thn (ha pos pins s1 σ H1 _ I1 q) fun us s2 ⟨vs,H2,I2,r,q2⟩=>⟨I2.kIn,?_⟩) hst hpl
 exact QHb (us:=.ref a::us) (vs:=.ref a::vs) F hr hb hd hx I2 (.cons rfl r) q2
theorem QPw{pl:Sem Bool}(he:PE X o ta)(tab:MTab X CX k m dvs cs)(hr:Room k X.A)(hx:Qiz CX X E)
 (ht:eval (.Call (.Attribute o m apos) [] [] pos) X.env=(do
  let ov ← eval o X.env
  standAt apos.atName
  let (f,first) ← holding [ov] (getMethod ov m pl)
  callWith pos f first (backTo pos (starEach [] X.env)) (backToKw pos (keywordEach [] X.env))):=by rfl):
 PE X (.Call (.Attribute o m apos) [] [] pos) (QOj m dvs cs E ta tNil):=by
 intro pins s σ H Q I h
 refine PySem.W.methodCall_KW (pl:=pl) (thn (he pins s σ H _ I h) fun u s1 ⟨x,H1,I1,rx,a,C,dx,fs,sp,ex,ea,hc,l,q⟩=>?_) ht
 subst ex
 obtain rfl:u=Value.ref a:=rx
 obtain⟨c,f,fd,ps,ds,hm,F,hb,hd⟩:=tab C sp hc
 refine QyB I1 ea c hm l ?_
 exact PySem.W.callWith_K0 (first:=[.ref a]) I1.kIn hm.kp (QHb (us:=[.ref a]) (vs:=[.ref a]) F hr hb hd hx I1 (.cons rfl .nil) q)
end
end L2
namespace DL
open PySem PySem.Spec PyProof.Rows L2
def XDofI(CT:CTab)(E:XK)(H:Hp)(p:Addr):D->Prop:=fun d=>∃ c C,d=.err c/\CT c=some C/\∀ H',(∀ b o,H b=some o->b≠p->H' b=some o)->E (.ref C) none H'
def SpI(K:PySem.W.Frag)(CT:CTab)(m:Str->List (Str×D)->List D->Out (List (Str×D))):Sp:=fun vs H Q E=>∃ p c A dx fs fds vs' ds G0,vs=.ref p::vs'/\CT c=some A/\H p=some (.ins A dx fs)/\G0 p=none/\Same G0 H/\RepF K CT G0 fds fs/\RepL K CT G0 ds vs'/\
 (m c fds ds).post (fun fds'=>∀ H' G' fs' dx',Same G0 G'->(∀ b o,H b=some o->b≠p->H' b=some o)->Same G' H'->(∀ b,G0 b=none->G' b≠none->H b=none)->H' p=some (.ins A dx' fs')->RepF K CT G' fds' fs'->Q .non H') (XDofI CT E H p)
def Qt6(c:Str)(ς:SD):Out (List (Str×D)):=match (ς[0]?:Option (Option (SM×D))) with
 | some (some (SM.s,D.ins c' fds))=>if c'=c then .ok fds else .stuck
 | _=>.stuck
def Qgu(c:Str):Fl->Out (List (Str×D))
 | .nx ς=>Qt6 c ς
 | _=>.stuck
def bodyI(n len:Nat)(T:SD->Out Fl):Str->List (Str×D)->List D->Out (List (Str×D)):=fun c fds ds=>
 if ds.length+1=n then T (some (.s,.ins c fds)::(ds.map (fun d=>some (.k,d))++List.replicate (len - n) none))>>=Qgu c else .stuck
abbrev dcI(P:Program)(w:World)(K:PySem.W.Frag)(mg:Str->Option Value)(base:Heap)(CT:CTab)(N:List Str)(qual:Str)(sc:Scope)(f:Addr)(cdv:Value)(A:Around)(outer:List Env)(s:Shared)(H:Hp)(E:XK)(G:Hp)(p:Addr):Dc:=
 { X:=cxOf (CXR P w) P w K mg base N qual sc f cdv A outer s H E,CT:=CT,G0:=G,XD:=XDofI CT E H p,B:=fun b=>if b=p then none else H b,M:=fun b=>b=p }
theorem fnI{P:Program}{w:World}{K:PySem.W.Frag}{mg:Str->Option Value}{base:Heap}{CT:CTab}{x qual:Str}{st:Stmt}{f:Addr}{fd:FuncData}{dV:Value}{N ps:List Str}{k:Nat}{T:SD->Out Fl}
 (F:FunV K x qual st f fd dV) (S:Qo N ps (Qa st))
 (hb:∀(cdv:Value)(A:Around)(outer:List Env)(s:Shared)(H:Hp)(E:XK)(G:Hp)(p:Addr),Room k (A.deeper (envOfC qual (Qa st) s.heap.objs.size f cdv))->DSs (dcI P w K mg base CT N qual (Qa st) f cdv A outer s H E G p) (Qk st) T):
 FnOk P w K mg base (CXR P w) (k+1) f fd ps (SpI K CT (bodyI ps.length N.length T)):=by
 obtain⟨oc,od,kV,doc,pm,an,cdv,ct,osl,rfl,lk,hcd⟩:=F.ex
 have hpl:ps.length<=N.length:=by have:=congrArg List.length S.pre;rw[List.length_take]at this;omega
 have len:∀ vs H Q E,SpI K CT (bodyI ps.length N.length T) vs H Q E->vs.length=ps.length:=by
  intro vs H Q E ⟨p,c,A,dx,fs,fds,vs',ds,G0,e,_,_,_,_,_,r,q⟩
  unfold bodyI at q
  by_cases hl:ds.length+1=ps.length
  ·rw[e,List.length_cons, ← r.length];exact hl
  ·rw[if_neg hl]at q;exact q.elim
 refine fn_of lk hcd S len fun A outer s H vs Q E hr hsp=>?_
 have hlen:=len vs H Q E hsp
 obtain⟨p,c,Ac,dx,fs,fds,vs',ds,G0,rfl,hct,hp,hg,sub,rf,r,q⟩:=hsp
 obtain⟨t,p1,q1⟩:=hb cdv A outer s H E G0 p hr
 have hl:ds.length+1=ps.length:=by rw[r.length];exact hlen
 refine⟨t,p1,?_⟩
 unfold bodyI at q
 rw[if_pos hl,Out.post_bind]at q
 have get:∀(i:Nat) x,(some (SM.s,D.ins c fds)::(ds.map (fun d=>some (SM.k,d))++List.replicate (N.length - ps.length) none))[i]?=some (some x)->(i=0/\x=(.s,.ins c fds))∨∃ j d,i=j+1/\ds[j]?=some d/\x=(.k,d):=fun i x h=>by
  cases i with
  | zero=>exact .inl ⟨rfl,by simpa using h.symm⟩
  | succ j=>
   rw[List.getElem?_cons_succ]at h
   obtain⟨d,e1,e2⟩:=Qgh h
   exact .inr ⟨j,d,rfl,e1,e2⟩
 have S0:StR (dcI P w K mg base CT N qual (Qa st) f cdv A outer s H E G0 p) G0 H (L2.start N (.ref p::vs')) (some (.s,.ins c fds)::(ds.map (fun d=>some (.k,d))++List.replicate (N.length - ps.length) none)):={
  sub:=sub
  g0:=Same.refl _
  new:=fun b h1 h2=>absurd h1 h2
  fr:=fun b o e _=>e
  dom:=fun b e=>e
  bs:=fun b o e=>by
   have e':(if b=p then none else H b)=some o:=e
   by_cases hb:b=p
   ·rw[if_pos hb]at e';cases e'
   ·rw[if_neg hb]at e';exact e'
  bh:=fun b e=>by
   show(if b=p then none else H b)=none
   by_cases hb:b=p
   ·rw[if_pos hb]
   ·rw[if_neg hb];exact e
  len:=by unfold L2.start;simp;have:=r.length;simp at hlen;omega
  fz:=fun i d e=>by
   rcases get i _ e with⟨_,z⟩ | ⟨j,d',rfl,e1,z⟩
   ·cases z
   ·cases z
    obtain⟨v,e3,rv⟩:=r.get e1
    exact⟨v,Qvy (by simpa using e3),rv⟩
  ow:=fun i d e=>by
   rcases get i _ e with⟨_,z⟩ | ⟨j,d',rfl,e1,z⟩<;>cases z
  ln:=fun i d e=>by
   rcases get i _ e with⟨_,z⟩ | ⟨j,d',rfl,e1,z⟩<;>cases z
  inj:=fun i j d e p _ h=>by
   rcases get i _ h with⟨_,z⟩ | ⟨j,d',rfl,e1,z⟩<;>cases z
  sf:=fun i d e=>by
   rcases get i _ e with⟨rfl,z⟩ | ⟨j,d',rfl,e1,z⟩
   ·cases z
    exact⟨p,Qvy rfl,hg,(by show H p≠none;rw[hp];simp),rfl,if_pos rfl,⟨Ac,dx,fs,hct,hp,rf⟩⟩
   ·cases z
  su:=fun i j d e h1 h2=>by
   rcases get i _ h1 with⟨rfl,z⟩ | ⟨j,d',rfl,e1,z⟩
   ·rcases get j _ h2 with⟨rfl,z⟩ | ⟨j,d',rfl,e1,z⟩
    ·rfl
    ·cases z
   ·cases z }
 refine q1 G0 H (L2.start N (.ref p::vs')) _ _ S0 (Out.post_mono q fun fl kk=>?_)
 cases fl with
 | nx ς'=>
  intro σ' H' G' S' s'
  have kk:(Qt6 c ς').post _ _:=kk
  unfold Qt6 at kk
  split at kk
  ·rename_i c' fds' z
   rcases Qas kk with⟨rfl,k2⟩ | ⟨_,k2⟩
   ·obtain⟨p',e1,hg',h0,hM,hB,A',dx',fs',hA',hH',rf'⟩:=S'.sf 0 _ z
    have hM:p'=p:=hM
    subst hM
    have hA':CT c'=some A':=hA'
    rw[hct]at hA'
    cases hA'
    exact k2 H' G' fs' dx' s' (fun b o e hb=>S'.fr b o e hb) S'.sub S'.new hH' rf'
   ·exact k2.elim
  ·exact kk.elim
 | bk ς'=>exact kk.elim
 | ct ς'=>exact kk.elim
 | rt b d=>exact kk.elim
end DL
namespace DL
open PySem PySem.Spec PyProof.Rows L2
theorem QzE{P:Program}{w:World}{K:PySem.W.Frag}{mg:Str->Option Value}{base:Heap}{CT:CTab}{N:List Str}{qual:Str}{sc:Scope}{f:Addr}{cdv:Value}{A:Around}{outer:List Env}{s:Shared}{H:Hp}{E:XK}{G:Hp}{p:Addr}:
 Rz (dcI P w K mg base CT N qual sc f cdv A outer s H E G p) E where
 pass:=passR
 xd:=fun d ⟨c,Cc,h1,h2,h3⟩=>⟨c,Cc,h1,h2,fun H' k=>h3 H' fun b o e hb=>k b o e hb⟩
 made:=fun Cc pins σ H1 s1 ea h' vs I hx hE=>QNA I rfl rfl rfl hx hE
 calm:=rfl
section
variable{C:Dc}{E:XK}{c:Str}{A f:Addr}{fd:FuncData}{ps:List Str}{ds:List Value}{dd:List D}{k:Nat}{m:Str->List (Str×D)->List D->Out (List (Str×D))}{e:Expr}{es:List Expr}{AA:SD->Out (List D)}{p pos:Pos}
def eMake(c:Str)(m:Str->List (Str×D)->List D->Out (List (Str×D)))(a:SD->Out (List D)):SD->Out D:=fun ς=>a ς>>=fun xs=>m c [] xs>>=fun fds=>.ok (.ins c fds)
def MkOk(P:Program)(w:World)(K:PySem.W.Frag)(mg:Str->Option Value)(base:Heap)(CT:CTab)(c:Str)(k:Nat)(m:Str->List (Str×D)->List D->Out (List (Str×D))):Prop:=
 ∃ A f fd ps,CT c=some A/\mg c=some (.ref A)/\Mk K A f/\FnOk P w K mg base (CXR P w) k f fd ps (SpI K CT m)/\Binds K fd ps []
theorem Qq4(rz:Rz C E)(h:MkOk C.X.prog C.X.w C.X.K C.X.mg C.X.base C.CT c k m)(hr:Room (k+1) C.X.A)(ha:DA C (e::es) AA)(hg:Gl C.X c)
 (hdb:(c == ("__debug__":Str))=false:=by decide) (he:starEach (e::es) C.X.env=(false,eval e C.X.env)::starEach es C.X.env:=by rfl) (hpl:(backTo pos (starEach es C.X.env)).any (·.1)=false:=by rfl):
 DF C (.Call (.Name c p) (e::es) [] pos) (eMake c m AA):=by
 obtain⟨A,f,fd,ps,hct,hm,M,F,hb⟩:=h
 obtain⟨t,p1,q1⟩:=ha
 refine⟨_,QRQ M F hr hg hm hb .nil rz.pass p1 hdb he hpl,fun G H σ ς Q S q=>?_⟩
 unfold eMake at q
 rw[Out.post_bind]at q
 refine q1 G H σ ς _ S (Out.post_mono q fun xs kk vs H1 G1 S1 a1 b1 r1=>?_)
 intro x dx nx ndx ne
 rw[Out.post_bind]at kk
 have keep:∀ b o,H1 b=some o->upd (upd H1 dx (.own x)) x (.ins A dx []) b=some o:=fun b o e=>by
  rw[Ql (Q0 e nx),Ql (Q0 e ndx)];exact e
 have back:∀ b,upd (upd H1 dx (.own x)) x (.ins A dx []) b=none->H1 b=none:=fun b e=>by
  by_cases hx:b=x
  ·subst hx;exact nx
  ·rw[Ql hx]at e
   by_cases hd:b=dx
   ·subst hd;exact ndx
   ·rw[Ql hd]at e;exact e
 refine⟨x,c,A,dx,[],[],vs++[],xs,G1,rfl,hct,QU,S1.sub.free nx,fun b o e=>keep b o (S1.sub b o e),rfl,by rw[List.append_nil];exact r1,?_⟩
 cases z:m c [] xs with
 | stuck=>rw[z]at kk;exact kk.elim
 | exc y=>
  rw[z]at kk
  obtain⟨c',Cc,e1',e2',e3'⟩:=rz.xd y kk
  exact⟨c',Cc,e1',e2',fun H' s'=>e3' H' fun b o q m'=>s' b o (keep b o (S1.fr b o q m')) (Q0 (S1.fr b o q m') nx)⟩
 | ok fds=>
  rw[z]at kk
  intro H' G' fs' dx' g1 h1 s1 n1 hp rf
  have hh:Same H1 H':=fun b o e=>h1 b o (keep b o e) (Q0 e nx)
  have hgp:G' x=none:=by
   cases zz:G' x with
   | none=>rfl
   | some o=>have:=n1 x (S1.sub.free nx) (by rw[zz];simp);rw[QU]at this;cases this
  exact⟨rfl,(show KF C G H σ ς Q (.ins c fds) from kk) x H' G' (S1.grow hh g1 s1 fun b g g'=>back b (n1 b g g')) (a1.trans hh) (b1.trans g1) (a1.free nx) hgp ⟨A,dx',fs',hct,hp,rf⟩⟩
end
def MtOk(P:Program)(w:World)(K:PySem.W.Frag)(mg:Str->Option Value)(base:Heap)(CT:CTab)(CX:CXT)(name:Str)(k:Nat)(cs:List Str)(sp:Str->Sp):Prop:=
 ∀ c,cs.contains c=true->∃ A f fd ps,CT c=some A/\Cls K A/\Meth K A name f/\FnOk P w K mg base CX k f fd ps (sp c)/\Binds K fd ps []
def csOf(CT:CTab)(cs:List Str)(sp:Str->Sp):Addr->Sp->Prop:=fun A s=>∃ c,cs.contains c=true/\CT c=some A/\s=sp c
theorem mtab{X:Cx}{CT:CTab}{CX:CXT}{name:Str}{k:Nat}{cs:List Str}{sp:Str->Sp}(h:MtOk X.prog X.w X.K X.mg X.base CT CX name k cs sp):MTab X CX k name [] (csOf CT cs sp):=by
 rintro A s ⟨c,hc,hA,rfl⟩
 obtain⟨A',f,fd,ps,h1,h2,h3,h4,h5⟩:=h c hc
 rw[hA]at h1;cases h1
 exact⟨h2,f,fd,ps,[],h3,h4,h5,.nil⟩
section
variable{C:Dc}{name:Str}{k:Nat}{cs:List Str}{fr:Bool}{mt:Str->List D->Out D}{o e:Expr}{es:List Expr}{O:SD->Out D}{AA:SD->Out (List D)}{apos pos:Pos}
def eMeth(cs:List Str)(name:Str)(mt:Str->List D->Out D)(O:SD->Out D)(A:SD->Out (List D)):SD->Out D:=fun ς=>O ς>>=fun d=>match d with
 | .ins c fds=>if (cs.contains c&&(fds.lookup name).isNone)=true then A ς>>=fun xs=>mt c (.ins c fds::xs) else .stuck
 | _=>.stuck
theorem QLp{G H:Hp}{σ:St}{ς:SD}{Q:VK}{t:TA}{c:Str}{fds:List (Str×D)}{v1:V}{H1 G1:Hp}(S1:StR C G1 H1 σ ς)(a1:Same H H1)(b1:Same G G1)(r1:Rep C.X.K C.CT G1 (.ins c fds) v1)
 (tk:MtOk C.X.prog C.X.w C.X.K C.X.mg C.X.base C.CT CX0 name k cs (fun c=>SpD C.X.K C.CT fr (mt c))) (hx:∀ x,¬ C.XD x)
 (hq:∀ G H σ ς Q,StR C G H σ ς->(AA ς).post (fun ds=>∀ vs H' G',StR C G' H' σ ς->Same H H'->Same G G'->RepL C.X.K C.CT G' ds vs->Q vs H') C.XD->t σ H Q)
 {K':D->Prop} (hK:∀ d v H2 G2 H' G',StR C G2 H2 σ ς->Same H H2->Same G G2->K' d->Same G2 G'->Same H2 H'->Same G' H'->(∀ b,G2 b=none->G' b≠none->H2 b=none)->RetG C.X.K C.CT fr H2 G' H' d v->Q v H')
 (kk:(if (cs.contains c&&(fds.lookup name).isNone)=true then AA ς>>=fun xs=>mt c (.ins c fds::xs) else .stuck).post K' C.XD):
 ∃ a Cc dx fs sp,v1=.ref a/\H1 a=some (.ins Cc dx fs)/\csOf C.CT cs (fun c=>SpD C.X.K C.CT fr (mt c)) Cc sp/\fs.lookup name=none/\t σ H1 fun vs H2=>sp (v1::(vs++[])) H2 Q E0:=by
 rcases Qas kk with⟨hc,kk⟩ | ⟨_,kk⟩
 ·rw[Bool.and_eq_true]at hc
  obtain⟨a,Cc,dx,fs,rfl,hct,hh,rf⟩:=r1
  refine⟨a,Cc,dx,fs,_,rfl,S1.sub _ _ hh,⟨c,hc.1,hct,rfl⟩,(RepF.look rf).2 (by simpa using hc.2),?_⟩
  rw[Out.post_bind]at kk
  refine hq G1 H1 σ ς _ S1 (Out.post_mono kk fun xs k2 vs H2 G2 S2 a2 b2 r2=>?_)
  refine⟨.ins c fds::xs,G2,S2.sub,⟨_,_,rfl,Rep.mono b2 (.ins c fds) (.ref a) ⟨a,Cc,dx,fs,rfl,hct,hh,rf⟩,by rw[List.append_nil];exact r2⟩,?_⟩
  cases z:mt c (.ins c fds::xs) with
  | stuck=>rw[z]at k2;exact k2.elim
  | exc y=>rw[z]at k2;exact absurd k2 (hx y)
  | ok d=>
   rw[z]at k2
   intro v H' G' g1 h1 s1 n1 ret
   exact hK d v H2 G2 H' G' S2 (a1.trans a2) (b1.trans b2) k2 g1 h1 s1 n1 ret
 ·exact kk.elim
theorem retKD{G H:Hp}{σ:St}{ς:SD}{Q:VK}:∀ d v H2 G2 H' G',StR C G2 H2 σ ς->Same H H2->Same G G2->KD C G H σ ς Q d->Same G2 G'->Same H2 H'->Same G' H'->(∀ b,G2 b=none->G' b≠none->H2 b=none)->RetG C.X.K C.CT fr H2 G' H' d v->Q v H':=by
 intro d v H2 G2 H' G' S2 a b kd g1 h1 s1 n1 ret
 unfold RetG at ret
 by_cases hc:(fr && !d.scal)=true
 ·rw[if_pos hc]at ret
  obtain⟨pp,rfl,h0,hg',ow⟩:=ret
  obtain⟨o,ho⟩:=ow.there
  have S3:=(S2.grow h1 g1 s1 n1).freeze ho hg' (S2.h0none h0) (fun i d' z1 z2=>by
   obtain⟨o',ho'⟩:=S2.own_ne z1 z2
   rw[h0]at ho';cases ho')
  exact kd _ _ _ S3 (a.trans h1) ((b.trans g1).trans (QD hg')) (ow.known hg' ho)
 ·rw[if_neg hc]at ret
  exact kd v H' G' (S2.grow h1 g1 s1 n1) (a.trans h1) (b.trans g1) ret
theorem Qre{pl:Sem Bool}(tk:MtOk C.X.prog C.X.w C.X.K C.X.mg C.X.base C.CT CX0 name k cs (fun c=>SpD C.X.K C.CT fr (mt c)))(hr:Room k C.X.A)(ho:DE C o O)(ha:DA C (e::es) AA)(hx:∀ x,¬ C.XD x:=by exact fun _ h=>h)
 (hst:starEach (e::es) C.X.env=(false,eval e C.X.env)::starEach es C.X.env:=by rfl) (hpl:(backTo pos (starEach es C.X.env)).any (·.1)=false:=by rfl)
 (ht:eval (.Call (.Attribute o name apos) (e::es) [] pos) C.X.env=(do
  let ov ← eval o C.X.env
  standAt apos.atName
  let (f,first) ← holding [ov] (getMethod ov name pl)
  callWith pos f first (backTo pos (starEach (e::es) C.X.env)) (backToKw pos (keywordEach [] C.X.env))):=by rfl):
 DE C (.Call (.Attribute o name apos) (e::es) [] pos) (eMeth cs name mt O AA):=by
 obtain⟨t1,p1,q1⟩:=ho
 obtain⟨t2,p2,q2⟩:=ha
 refine⟨_,QHR (pl:=pl) p1 (mtab tk) hr pass0 p2 hst hpl ht,fun G H σ ς Q S q=>?_⟩
 unfold eMeth at q
 rw[Out.post_bind]at q
 refine q1 G H σ ς _ S (Out.post_mono q fun d kk v1 H1 G1 S1 a1 b1 r1=>?_)
 cases d with
 | ins c fds=>exact QLp S1 a1 b1 r1 tk hx q2 retKD kk
 | _=>exact kk.elim
theorem QgC{pl:Sem Bool}(tk:MtOk C.X.prog C.X.w C.X.K C.X.mg C.X.base C.CT CX0 name k cs (fun c=>SpD C.X.K C.CT fr (mt c)))(hr:Room k C.X.A)(ho:DE C o O)(hx:∀ x,¬ C.XD x:=by exact fun _ h=>h)
 (ht:eval (.Call (.Attribute o name apos) [] [] pos) C.X.env=(do
  let ov ← eval o C.X.env
  standAt apos.atName
  let (f,first) ← holding [ov] (getMethod ov name pl)
  callWith pos f first (backTo pos (starEach [] C.X.env)) (backToKw pos (keywordEach [] C.X.env))):=by rfl):
 DE C (.Call (.Attribute o name apos) [] [] pos) (eMeth cs name mt O aNil):=by
 obtain⟨t1,p1,q1⟩:=ho
 refine⟨_,QPw (pl:=pl) p1 (mtab tk) hr pass0 ht,fun G H σ ς Q S q=>?_⟩
 unfold eMeth at q
 rw[Out.post_bind]at q
 refine q1 G H σ ς _ S (Out.post_mono q fun d kk v1 H1 G1 S1 a1 b1 r1=>?_)
 cases d with
 | ins c fds=>exact QLp (AA:=aNil) (t:=tNil) S1 a1 b1 r1 tk hx (fun G H σ ς Q S q=>q [] H G S (Same.refl H) (Same.refl G) rfl) retKD kk
 | _=>exact kk.elim
end
end DL
namespace DL
open PySem PySem.Spec PyProof.Rows L2
section
variable{C:Dc}{name:Str}{k:Nat}{cs:List Str}{mt:Str->List D->Out D}{o e:Expr}{es:List Expr}{O:SD->Out D}{AA:SD->Out (List D)}{apos pos:Pos}
variable{E:XK}{m:Str->List (Str×D)->List D->Out (List (Str×D))}{x:Str}{px spos:Pos}
def QkO(cs:List Str)(name:Str)(m:Str->List (Str×D)->List D->Out (List (Str×D)))(i:Nat)(A:SD->Out (List D)):SD->Out Fl:=fun ς=>match (ς[i]?:Option (Option (SM×D))) with
 | some (some (SM.s,D.ins c fds))=>if (cs.contains c&&(fds.lookup name).isNone)=true then A ς>>=fun xs=>m c fds xs>>=fun fds'=>.ok (.nx (ς.set i (some (.s,.ins c fds')))) else .stuck
 | _=>.stuck
theorem Qr6{pl:Sem Bool}(i:Nat)(rz:Rz C E)(tk:MtOk C.X.prog C.X.w C.X.K C.X.mg C.X.base C.CT (CXR C.X.prog C.X.w) name k cs (fun _=>SpI C.X.K C.CT m))(hr:Room k C.X.A)(ha:DA C (e::es) AA)
 (hN:C.X.N[i]?=some x:=by rfl) (hv:Vis C.X.env.scope x:=by first | exact Or.inl rfl | exact Or.inr (Or.inl rfl) | exact Or.inr (Or.inr rfl))
 (hd:(x == ("__debug__":Str))=false:=by decide) (hcd:(x == ("__classdict__":Str))=false:=by decide)
 (hst:starEach (e::es) C.X.env=(false,eval e C.X.env)::starEach es C.X.env:=by rfl) (hpl:(backTo pos (starEach es C.X.env)).any (·.1)=false:=by rfl)
 (ht:eval (.Call (.Attribute (.Name x px) name apos) (e::es) [] pos) C.X.env=(do
  let ov ← eval (.Name x px) C.X.env
  standAt apos.atName
  let (f,first) ← holding [ov] (getMethod ov name pl)
  callWith pos f first (backTo pos (starEach (e::es) C.X.env)) (backToKw pos (keywordEach [] C.X.env))):=by rfl)
 (hsw:swapsWith (.Call (.Attribute (.Name x px) name apos) (e::es) [] pos) none spos.line C.X.env=pure false:=by rfl):
 DS C (.Expr (.Call (.Attribute (.Name x px) name apos) (e::es) [] pos) spos) (QkO cs name m i AA):=by
 obtain⟨t2,p2,q2⟩:=ha
 refine⟨_,QK8 (QHR (pl:=pl) (QnT (i:=i) hN hv hd hcd) (mtab tk) hr rz.pass p2 hst hpl ht) hsw,fun G H σ ς W S kk=>?_⟩
 unfold QkO at kk
 split at kk
 ·rename_i c fds z
  rcases Qas kk with⟨hc,kk⟩ | ⟨_,kk⟩
  ·rw[Bool.and_eq_true]at hc
   obtain⟨p,e1',hg,h0,hM,hB,A,dx,fs,hct,hh,rf⟩:=S.sf i _ z
   refine⟨_,e1',p,A,dx,fs,_,rfl,hh,⟨c,hc.1,hct,rfl⟩,(RepF.look rf).2 (by simpa using hc.2),?_⟩
   rw[Out.post_bind]at kk
   refine q2 G H σ ς _ S (Out.post_mono kk fun xs k2 vs H2 G2 S2 a2 b2 r2=>?_)
   obtain⟨p',e2',hg2,_,_,_,A2,dx2,fs2,hct2,hh2,rf2⟩:=S2.sf i _ z
   rw[e1']at e2';cases e2'
   rw[Out.post_bind]at k2
   refine⟨p,c,A2,dx2,fs2,fds,vs++[],xs,G2,rfl,hct2,hh2,hg2,S2.sub,rf2,by rw[List.append_nil];exact r2,?_⟩
   cases zz:m c fds xs with
   | stuck=>rw[zz]at k2;exact k2.elim
   | exc y=>
    rw[zz]at k2
    obtain⟨c',Cc,f1,f2,f3⟩:=rz.xd y k2
    exact⟨c',Cc,f1,f2,fun H' s'=>f3 H' fun b o q mm=>s' b o (S2.fr b o q mm) (by rintro rfl;exact mm hM)⟩
   | ok fds'=>
    rw[zz]at k2
    intro H' G' fs' dx' g1 h1 s1 n1 hp rf'
    have gp:G' p=none:=by
     cases y:G' p with
     | none=>rfl
     | some o=>have:=n1 p hg2 (by rw[y];simp);rw[hh2]at this;cases this
    have S3:StR C G' (upd H' p (.ins A2 dx2 fs2)) σ ς:=S2.grow (fun b o e=>by
     by_cases hb:b=p
     ·subst hb;rw[QU];rw[hh2]at e;exact e
     ·rw[Ql hb];exact h1 b o e hb) g1 (fun b o e=>by
     rw[Ql (by rintro rfl;rw[gp]at e;cases e)];exact s1 b o e) n1
    have S4:=S3.writeS (dx:=dx') z e1' hct2 rf'
    have eq:upd (upd H' p (.ins A2 dx2 fs2)) p (.ins A2 dx' fs')=H':=by
     rw[QRV]
     funext b
     by_cases hb:b=p
     ·subst hb;rw[QU,hp]
     ·rw[Ql hb]
    rw[eq]at S4
    exact(show FlK C G W (.nx (ς.set i (some (.s,.ins c fds')))) from k2) σ H' G' S4 (b2.trans g1)
  ·exact kk.elim
 ·exact kk.elim
end
end DL
namespace DL
open PySem PySem.Spec PyProof.Rows L2
def inCls(s:Stmt)(j:Nat):Stmt:=match s with
 | .ClassDef _ _ _ b _ _ _ _ _ _ _=>b.getD j (.Pass ⟨0,0,0,0⟩)
 | _=>.Pass ⟨0,0,0,0⟩
def KitI(K:PySem.W.Frag)(CT:CTab)(uc:Value)(tbl:List (Str×Bool)):Prop:=∀ c b,tbl.lookup c=some b->∀ A,CT c=some A->ClsD K A/\PySem.W.kitOne K (.ref A) uc=some b
theorem QsM{K:PySem.W.Frag}{CT:CTab}{uc:Value}:KitI K CT uc []:=fun _ _ h=>nomatch h
theorem Qaq{K:PySem.W.Frag}{CT:CTab}{uc:Value}{c:Str}{b:Bool}{A:Addr}{tbl:List (Str×Bool)}(hc:CT c=some A)(hx:ClsD K A)(hk:PySem.W.kitOne K (.ref A) uc=some b)(r:KitI K CT uc tbl):KitI K CT uc ((c,b)::tbl):=by
 intro c' b' h A' hA
 rw[List.lookup_cons]at h
 cases e:c' == c with
 | true=>
  rw[e]at h
  cases h
  rw[beq_iff_eq.mp e,hc]at hA
  cases hA
  exact⟨hx,hk⟩
 | false=>
  rw[e]at h
  exact r c' b' h A' hA
section
variable{C:Dc}{pos p:Pos}{e cx:Expr}{E:SD->Out D}
end
def eIxO(i:Nat)(b:SD->Out D):SD->Out D:=fun ς=>match (ς[i]?:Option (Option (SM×D))) with
 | some (some (SM.o,D.lst xs))=>b ς>>=fun k=>match k with | .int k=>optO (atI xs k) | _=>.stuck
 | _=>.stuck
section
variable{C:Dc}{pos px:Pos}{b:Expr}{B:SD->Out D}{x f:Str}{cs:List Str}
theorem QN5(i:Nat)(hb:DB C b B)(hN:C.X.N[i]?=some x:=by rfl)(hv:Vis C.X.env.scope x:=by first | exact Or.inl rfl | exact Or.inr (Or.inl rfl) | exact Or.inr (Or.inr rfl))
 (hd:(x == ("__debug__":Str))=false:=by decide) (hcd:(x == ("__classdict__":Str))=false:=by decide) (hs:QCr b:=by intro _ _;rfl):DE C (.Subscript (.Name x px) b pos) (eIxO i B):=by
 obtain⟨tb,p2,q2⟩:=hb
 refine⟨_,pe_ix QO5 (QnT (i:=i) hN hv hd hcd) p2 hs,fun G H σ ς Q S q=>?_⟩
 unfold eIxO at q
 split at q
 ·rename_i xs z
  obtain⟨p,e1',hg,h0,ow⟩:=S.ow i _ z
  rw[Out.post_bind]at q
  refine⟨_,e1',q2 G H σ ς _ S (Out.post_mono q fun y k2 v2 H2 G2 S2 a2 b2 r2=>?_)⟩
  cases y with
  | int k=>
   cases r2
   obtain⟨d,e2',kd⟩:=Qj2 k2
   obtain⟨p',e3',hg',h0',vs,hv1,hv2⟩:=S2.ow i _ z
   rw[e1']at e3';cases e3'
   obtain⟨v,e4',rv⟩:=QBG hv2 e2'
   exact .inl ⟨p,vs,k,v,rfl,rfl,SqL.of hv1,e4',KD.now (KD.later kd a2 b2) S2 rv⟩
  | _=>exact k2.elim
 ·exact q.elim
end
end DL
namespace L2
open PySem PySem.Spec PyProof.Rows
def Ite(K:PySem.W.Frag)(a:Addr):It:=
 ⟨fun i H=>∃ xs x,SqL K H a xs/\xs[i]?=some x,
  fun i H v H'=>∃ p x,H p=none/\v=.ref p/\H'=upd H p (.tup [.int i,x])/\(∀ xs,SqL K H a xs->xs[i]?=some x),
  fun i H=>∃ xs,SqL K H a xs/\xs.length<=i⟩
theorem QOJ{P:Program}{w:World}{K:PySem.W.Frag}{elts:List Expr}{k1:Nat}{pos:Pos}{e it l:Addr}(D1:e≠it):
 Turn P w K (.Tuple elts k1 pos) (Ite K l) [e,it] e (fun i h=>(∃ old,IsEnum h e it (i:Int) old)/\h.IsListIter it l i) where
 mem:=by simp
 obj:=fun i h st b hb=>by
  obtain⟨⟨old,s1⟩,⟨o4,e4,c4,d4⟩⟩:=st
  simp only[List.mem_cons,List.not_mem_nil,or_false]at hb
  rcases hb with rfl | rfl
  ·exact⟨_,s1,fun v q=>by cases q⟩
  ·exact⟨_,e4,fun v q=>by rw[d4]at q;cases q⟩
 keep:=fun i h h' st k=>by
  obtain⟨⟨old,s1⟩,s4⟩:=st
  exact⟨⟨old,k e (by simp) _ s1⟩,s4.at fun o q=>k it (by simp) o q⟩
 item:=by
  intro X hP hw hK hc i pins s σ H E I hf st hg
  subst hP hw hK
  obtain⟨xs,x,q1,hx⟩:=hg
  obtain⟨its1,rv1,p1,hz1⟩:=I.list q1
  obtain⟨u1,hu1,ru1⟩:=rv1.get hx
  obtain⟨⟨old,s1⟩,s4⟩:=st
  refine wpAny_pyNext_enum_item s1 s4 p1.isList (x:=u1) (by simpa using hu1) D1 fun h' a1 a3 a5 a6 hk=>?_
  have hT:H s.heap.objs.size=none:=I.hok.fresh (Nat.le_refl _)
  have fp:∀ c∈[e,it],FpOk X pins H c:=hf
  have out:∀ c,c∉[e,it]->∀ o,s.heap.get? c=some o->h'.get? c=some o:=fun c hc o q=>hk c o (fun q=>hc (by simp[q])) (fun q=>hc (by simp[q])) q
  have trk:∀ c o,H c=some o->c∉[e,it]:=fun c o q hc=>by rw[(fp c hc).1]at q;cases q
  have hok:HOk X.prog X.w (upd H s.heap.objs.size (.tup [.int i,x])) h':=fun c o q=>by
   by_cases hcT:c=s.heap.objs.size
   ·subst hcT
    rw[QU]at q
    cases q
    exact⟨by show 2<=sizeLine;decide,[.int i s.toks,u1],.cons ⟨_,rfl⟩ (.cons ru1 .nil),⟨_,a5,rfl,_,rfl⟩⟩
   ·rw[Ql hcT]at q
    refine(I.hok c o q).stay (fun b u hb q'=>out b ?_ u q') (fun b q'=>?_) fun b ts q'=>?_
    ·rcases hb with rfl | hb
     ·exact trk b _ q
     ·exact trk b _ hb
    ·rw[Ql (Q0 q' hT)];exact q'
    ·rw[Ql (Q0 q' hT)];exact q'
  have I1:Inv X pins σ (upd H s.heap.objs.size (.tup [.int i,x])) { s with heap:=h',gens:=s.gens,drawn:=s.drawn,toks:=s.toks+1 }:=I.step (ch:=[e,it])
   (fun c hc=>⟨(fp c hc).2.2.2.1,(fp c hc).2.1,(fp c hc).2.2.2.2.1,(fp c hc).2.2.2.2.2⟩) (fun c o _ _ hc q _=>out c hc o q) (fun c o _ _ hc q _=>⟨o.slots,out c hc o q⟩)
   (fun c o hc q n=>by rw[Ql (Nat.ne_of_lt (Heap.lt_size q))];exact n) (fun c o hc q=>⟨o,out c hc o q⟩)
   (fun c ts q=>by rw[Ql (Q0 q hT)];exact q) (fun c o u q=>by rw[Ql (Q0 q hT)];exact q) (fun c ts q=>⟨#[],by rw[Ql (Q0 q hT),q];simp⟩)
   (fun m hm=>by
    obtain⟨o,es,ep,ho,r⟩:=hm
    exact⟨o,es,ep,out _ (fun hc=>(fp _ hc).2.1 rfl) o ho,r⟩) hok I.bare
  have lt:∀{c o},s.heap.get? c=some o->s.heap.objs.size≠c:=fun q=>Nat.ne_of_gt (Heap.lt_size q)
  refine⟨_,rfl,wpAny_letOwnedTupleGo_enum a1 fun h2 hz2 hs2=>?_⟩
  obtain⟨z0,z1,z2,z3,z4,z5⟩:=hf e (by simp)
  have I2:Inv X pins σ (upd H s.heap.objs.size (.tup [.int i,x])) { s with heap:=h2,toks:=s.toks+1 }:=Inv.turned (s:={ s with heap:=h',gens:=s.gens,drawn:=s.drawn,toks:=s.toks+1 }) (t':=s.toks+1) (it:=e) I1 (fun b o hb q=>(hs2.2 b hb).trans q) (by rw[Ql (lt s1).symm];exact z0) z1 z3 z4 z5
  refine⟨.ref s.heap.objs.size,_,I2,rfl,⟨_,x,hT,rfl,rfl,fun xs' q'=>by rw[I.list_inj q' q1];exact hx⟩,
   ⟨⟨_,by have:((i+1:Nat):Int)=(i:Int)+1:=by push_cast;rfl
          rw[this];exact hz2⟩,a3.extBut hs2.extBut D1.symm⟩,fun c hc=>?_⟩
  have:H c=none:=(hf c hc).1
  obtain⟨oc,hoc⟩:∃ o,s.heap.get? c=some o:=by
   simp only[List.mem_cons,List.not_mem_nil,or_false]at hc
   rcases hc with rfl | rfl
   ·exact⟨_,s1⟩
   ·obtain⟨o,q,_⟩:=s4;exact⟨o,q⟩
  rw[Ql (lt hoc).symm];exact this
 done:=by
  intro X hP hw hK hc i pins s σ H E I hf st hg
  subst hP hw hK
  obtain⟨xs,q1,hend⟩:=hg
  obtain⟨its1,rv1,p1,hz1⟩:=I.list q1
  have l1:=rv1.length
  obtain⟨⟨old,s1⟩,s4⟩:=st
  obtain⟨z0,z1,z2,z3,z4,z5⟩:=hf it (by simp)
  refine wpAny_pyNext_enum_end (I.ok.hd hc) s1 s4 p1.isList (by simp;omega) fun h' hk=>⟨rfl,?_⟩
  have fp:∀ c∈[it],FpOk X pins H c:=fun c hc=>hf c (by simp only[List.mem_cons,List.not_mem_nil,or_false]at hc ⊢;exact Or.inr hc)
  have out:∀ c,c∉[it]->∀ o,s.heap.get? c=some o->h'.get? c=some o:=fun c hc o q=>hk c o (fun q=>hc (by simp[q])) q
  have trk:∀ c o,H c=some o->c∉[it]:=fun c o q hc=>by rw[(fp c hc).1]at q;cases q
  exact I.step (g':=s.gens) (d':=s.drawn) (t':=s.toks) (ch:=[it]) (fun c hc=>⟨(fp c hc).2.2.2.1,(fp c hc).2.1,(fp c hc).2.2.2.2.1,(fp c hc).2.2.2.2.2⟩) (fun c o _ _ hc q _=>out c hc o q) (fun c o _ _ hc q _=>⟨o.slots,out c hc o q⟩)
   (fun c o hc q n=>n) (fun c o hc q=>⟨o,out c hc o q⟩) (fun c ts q=>q) (fun c o u q=>q) (fun c ts q=>⟨#[],by rw[q];simp⟩)
   (fun m hm=>by
    obtain⟨o,es,ep,ho,r⟩:=hm
    exact⟨o,es,ep,out _ (fun hc=>(fp _ hc).2.1 rfl) o ho,r⟩)
   (fun c o q=>(I.hok c o q).stay (fun b u hb q'=>out b (by
    rcases hb with rfl | hb
    ·exact trk b _ q
    ·exact trk b _ hb) u q') (fun b q'=>q') fun b ts q'=>q') I.bare
 self:=fun _ _ _ _ _ st h=>wpAny_pyIter_enum st.1.choose_spec h
section
variable{X:Cx}
def iEnum(K:PySem.W.Frag)(ta:TA):TI:=fun σ H R=>ta σ H fun vs H1=>∃ a,vs=[.ref a]/\(∃ xs,SqL K H1 a xs)/\R (Ite K a) H1
theorem QSz{elts:List Expr}{k1:Nat}{tpos:Pos}{a:Expr}{ta:TA}{p pos:Pos}(hg:Gl X "enumerate")(hm:X.mg "enumerate"=none)(ha:PA X [a] ta)(hs:starEach [a] X.env=[(false,eval a X.env)]:=by rfl):
 PI X (.Tuple elts k1 tpos) (.Call (.Name "enumerate" p) [a] [] pos) (iEnum X.K ta):=by
 intro pins s σ H R I h
 refine Call_ (Qk2 I hg hm PyProof.Rows.Boot.«enumerate» (PyProof.Rows.callWith_type1 (thn (ha pos pins s σ H _ I h) fun us s1 ⟨vs,H1,I1,r1,q1⟩=>?_) (by rw[hs];rfl) (by rfl)))
 obtain⟨l1,e,⟨xs,hx⟩,q⟩:=q1
 subst e
 cases r1 with
 | cons r rr=>
  cases rr
  cases r
  obtain⟨its1,rv1,p1,hz1⟩:=I1.list hx
  refine call_enumerate_list p1.isList fun h' c1 c4 c6 hk=>?_
  refine wpAny_pyIter_enum c1 ?_
  refine⟨_,_,_,Ite X.K l1,H1,rfl,I1.kept (t':=s1.toks) fun b o e=>hk b o e,QOJ (e:=s1.heap.objs.size+1) (it:=s1.heap.objs.size) (l:=l1) (show ¬ ((s1.heap.objs.size+1:Nat)=s1.heap.objs.size) by omega),
   ⟨⟨_,c1⟩,c4⟩,fun b hb=>?_,q⟩
  have hb':s1.heap.objs.size<=b:=by
   simp only[List.mem_cons,List.not_mem_nil,or_false]at hb
   rcases hb with rfl | rfl<;>omega
  exact I1.fpOk hb' (I1.hok.fresh hb')
end
end L2
namespace DL
open PySem PySem.Spec PyProof.Rows L2
def enumD(i:Nat):List D->List D
 | []=>[]
 | x::xs=>.tup [.int i,x]::enumD (i+1) xs
theorem QCM:∀(xs:List D)(i:Nat),(enumD i xs).length=xs.length
 | [],_=>rfl
 | x::xs,i=>by simp[enumD,QCM xs]
theorem Qus:∀(xs:List D)(n i:Nat),(enumD n xs)[i]?=xs[i]?.map fun x=>.tup [.int (n+i:Nat),x]
 | [],_,_=>rfl
 | x::xs,n,0=>rfl
 | x::xs,n,i+1=>by
  show(enumD (n+1) xs)[i]?=_
  rw[Qus xs (n+1) i,show n+1+i=n+(i+1) by omega]
  rfl
def itE(A:SD->Out D):SD->Out (List D):=fun ς=>A ς>>=fun x=>match x with
 | .lst xs=>.ok (enumD 0 xs)
 | _=>.stuck
section
variable{C:Dc}{a:Expr}{A:SD->Out D}
theorem QPY{K:PySem.W.Frag}{CT:CTab}{G1:Hp}{p:Addr}{xs:List D}{us:List V}(h1:SqL K G1 p us)(r1:RepL K CT G1 xs us):DIt K CT G1 (Ite K p) (enumD 0 xs) where
 go:=fun G H i d s1 sH hd=>by
  rw[Qus,Nat.zero_add]at hd
  cases e1':xs[i]? with
  | none=>rw[e1']at hd;cases hd
  | some x=>
   rw[e1']at hd
   cases hd
   obtain⟨u,hu,ru⟩:=r1.get e1'
   have q1:SqL K H p us:=sH.seq (s1.seq h1)
   refine⟨⟨us,u,q1,hu⟩,fun w H' ⟨t,x',n,e,e',k1⟩=>?_⟩
   have z1:=k1 us q1
   rw[hu]at z1;cases z1
   subst e e'
   have gn:G t=none:=sH.free n
   refine⟨upd G t (.tup [.int i,u]),QD gn,QD n,Qvq sH,fun b g g'=>?_,t,[.int i,u],rfl,SqT.of QU,⟨.int i,_,rfl,rfl,u,_,rfl,Rep.mono (s1.trans (QD gn)) x u ru,rfl⟩⟩
   by_cases hb:b=t
   ·subst hb;exact n
   ·rw[Ql hb]at g';exact absurd g g'
 stop:=fun G H s1 sH=>by
  refine⟨us,sH.seq (s1.seq h1),?_⟩
  have l1:=r1.length
  rw[QCM]
  omega
theorem QAB{elts:List Expr}{k1:Nat}{tpos p pos:Pos}(hgl:Gl C.X "enumerate")(hm:C.X.mg "enumerate"=none)(ha:DE C a A)
 (hst:starEach [a] C.X.env=(false,eval a C.X.env)::starEach [] C.X.env:=by rfl):DI C (.Tuple elts k1 tpos) (.Call (.Name "enumerate" p) [a] [] pos) (itE A):=by
 obtain⟨t0,p0,q0⟩:=ha
 refine⟨_,QSz hgl hm (Qc2 p0 Qgz hst) (by rw[hst];rfl),fun G H σ ς R S k=>?_⟩
 unfold itE at k
 rw[Out.post_bind]at k
 refine q0 G H σ ς _ S (Out.post_mono k fun d k v H1 G1 S1 a1 b1 r=>?_)
 cases d with
 | lst xs=>
  obtain⟨p1,us,rfl,h1,r1⟩:=r
  exact⟨p1,rfl,⟨us,S1.sub.seq h1⟩,k _ H1 G1 S1 a1 b1 (QPY h1 r1)⟩
 | _=>exact k.elim
end
end DL
namespace L2
open PySem PySem.Spec PyProof.Rows
section
variable{X:Cx}
end
end L2
namespace DL
open PySem PySem.Spec PyProof.Rows L2
section
variable{C:Dc}{o e:Expr}{O E:SD->Out D}{apos cpos:Pos}
end
end DL
namespace L2
open PySem PySem.Spec PyProof.Rows
structure FnM(P:Program)(w:World)(K:PySem.W.Frag)(mg:Str->Option Value)(base:Heap)(k:Nat)(f:Addr)(fd:FuncData)(ps:List Str)(sp:Sp):Prop where
 many:∀ vs H Q E,sp vs H Q E->vs.length=ps.length
 go:∀(ea:Addr)(A:Around)(outer:List Env)(s:Shared)(H:Hp)(args:Args)(us:List Value)(vs:List V)(Q:VK),Room k A->Env0 P w K mg base A outer s H->
  BindsTo s fd args (ps.zip us)->Vals vs us->sp vs H Q E0->codeAny (model P w) (A.mark (some (.ref ea))) (.call (.ref f) args) (CR CX0 outer P w H s Q E0) s
section
variable{X:Cx}{k:Nat}{f ea:Addr}{fd:FuncData}{ps:List Str}{sp:Sp}{dvs:List V}{ds:List Value}{x:Str}{p pos:Pos}{e:Expr}{es:List Expr}{t:TA}
end
end L2
namespace DL
open PySem PySem.Spec PyProof.Rows L2
section
variable{C:Dc}{ea:Addr}{x:Str}{k:Nat}{m:List D->Out D}{e:Expr}{es:List Expr}{A:SD->Out (List D)}{p pos:Pos}
end
end DL
namespace L2
open PySem PySem.Spec PyProof.Rows
section
variable{X:Cx}{tg:Expr}
theorem QPc:∀{ns:List Int}{its:List Value},Vals (ns.map V.int) its->∃ xs:List (Int×Tok),its=xs.map (fun p=>Value.int p.1 p.2)/\xs.map (·.1)=ns
 | [],_,.nil=>⟨[],rfl,rfl⟩
 | n::ns,_,.cons r rr=>by
  obtain⟨t,rfl⟩:=r
  obtain⟨xs,rfl,e⟩:=QPc rr
  exact⟨(n,t)::xs,rfl,by rw[List.map_cons,e]⟩
theorem QNK(hc:X.calm=true):CallR X (.builtin "sum") (fun xs H Q=>∃(p:Addr)(ns:List Int),xs=[.ref p]/\SqL X.K H p (ns.map V.int)/\Q (.int ns.sum) H):=by
 intro pins s σ H xs us Q I r h
 obtain⟨p,ns,rfl,hq,q⟩:=h
 obtain⟨u,rfl,rx⟩:=vals1 r
 cases rx
 obtain⟨its,rv,pl,hz⟩:=I.list hq
 obtain⟨ys,rfl,e⟩:=QPc rv
 have hl:s.heap.IsList p (intItems ys.toArray):=by
  have:(ys.map fun p=>Value.int p.1 p.2).toArray=intItems ys.toArray:=by simp[intItems]
  rw[← this];exact pl.isList
 refine sum_intListG (I.ok.hd hc) hl fun h' tk t' kk=>⟨.int ns.sum,H,I.kept kk,⟨t',?_⟩,q⟩
 congr 1
 rw[preSum_eq,List.take_of_length_le (by simp), ← e]
end
end L2
namespace DL
open PySem PySem.Spec PyProof.Rows L2
def intsD:List D->Option (List Int)
 | []=>some []
 | .int i::r=>(intsD r).map (i :: ·)
 | _::_=>none
theorem QCV{K:PySem.W.Frag}{CT:CTab}{H:Hp}:∀{ds:List D}{ns:List Int}{vs:List V},intsD ds=some ns->RepL K CT H ds vs->vs=ns.map V.int
 | [],ns,vs,h,r=>by cases h;exact r
 | d::ds,ns,vs,h,⟨v,w,h1,h2,h3⟩=>by
  cases d with
  | int i=>
   cases e:intsD ds with
   | none=>rw[intsD,e]at h;cases h
   | some ms=>
    rw[intsD,e]at h
    cases h
    subst h1
    cases h2
    rw[QCV e h3];rfl
  | _=>cases h
def fSum:D->Out D
 | .lst xs=>match intsD xs with | some ns=>.ok (.int ns.sum) | none=>.stuck
 | _=>.stuck
section
variable{C:Dc}{a b c e:Expr}{es:List Expr}{A B E:SD->Out D}{AA:SD->Out (List D)}{tg:Expr}{p pos:Pos}
theorem QUf(hc:C.X.calm=true)(hg:Gl C.X "sum")(hm:C.X.mg "sum"=none)(ha:DAB C (e::es) AA)
 (he:starEach (e::es) C.X.env=(false,eval e C.X.env)::starEach es C.X.env:=by rfl) (hpl:(backTo pos (starEach es C.X.env)).any (·.1)=false:=by rfl):DE C (.Call (.Name "sum" p) (e::es) [] pos) (eA (f1 fSum) AA):=by
 refine QnV (QNK hc) (Qt1 ?_) (Qq6 ?_) hg hm PyProof.Rows.Boot.«sum» ha (by decide) (by decide) he hpl
 ·intro G H σ ς Q x v S r q
  cases x with
  | lst xs=>
   cases eb:intsD xs with
   | none=>rw[fSum,eb]at q;exact q.elim
   | some ns=>
    rw[fSum,eb]at q
    obtain⟨a,vs,rfl,h2,h3⟩:=r
    rw[QCV eb h3]at h2
    exact⟨a,ns,rfl,h2,q.2⟩
  | _=>exact q.elim
 ·intro x
  cases x with
  | lst xs=>
   rw[fSum]
   cases intsD xs with
   | none=>exact True.intro
   | some bs=>exact rfl
  | _=>exact True.intro
def frz(j:Nat)(ς:SD):SD:=match (ς[j]?:Option (Option (SM×D))) with
 | some (some (SM.o,d))=>ς.set j (some (.k,d))
 | _=>ς
theorem StR.frz{G H:Hp}{σ:L2.St}{ς:SD}(S:StR C G H σ ς){j:Nat}{d:D}(z:ς[j]?=some (some (.o,d))):∃ G',Same G G'/\StR C G' H σ (ς.set j (some (.k,d))):=by
 obtain⟨p,e,hg,h0,ow⟩:=S.ow j d z
 obtain⟨o,ho⟩:=ow.there
 have hj:j<ς.length:=(List.getElem?_eq_some_iff.mp z).1
 have get:∀(i:Nat) x,(ς.set j (some (.k,d)))[i]?=some (some x)->(i=j/\x=(.k,d))∨(i≠j/\ς[i]?=some (some x)):=fun i x h=>by
  rw[List.getElem?_set]at h
  by_cases q:j=i
  ·rw[if_pos q,if_pos (by omega)]at h
   cases h
   exact .inl ⟨q.symm,rfl⟩
  ·rw[if_neg q]at h
   exact .inr ⟨fun w=>q w.symm,h⟩
 refine⟨upd G p o,QD hg,?_⟩
 have hn:∀(i:Nat) d',i≠j->ς[i]?=some (some (.o,d'))->σ[i]?≠some (some (.ref p)):=fun i d' hi q w=>S.inj i j d' d p hi q z w e
 exact {
  toGH:=GH.freezeR S.toGH ho hg h0
  len:=by rw[List.length_set];exact S.len
  fz:=fun i d' q=>by
   rcases get i _ q with⟨rfl,w⟩ | ⟨_,w⟩
   ·cases w
    exact⟨_,e,ow.known hg ho⟩
   ·obtain⟨v,a,b⟩:=S.fz i d' w
    exact⟨v,a,Rep.mono (QD hg) d' v b⟩
  ow:=fun i d' q=>by
   rcases get i _ q with⟨rfl,w⟩ | ⟨hi,w⟩
   ·cases w
   ·obtain⟨r,a,b,c,w'⟩:=S.ow i d' w
    refine⟨r,a,?_,c,w'.mono (QD hg) fun _ z=>z⟩
    rw[Ql (by rintro rfl;exact hn i d' hi w a)];exact b
  ln:=fun i d' q=>by
   rcases get i _ q with⟨rfl,w⟩ | ⟨_,w⟩
   ·cases w
   ·exact S.ln i d' w
  inj:=fun i k d1 d2 q hne h1 h2=>by
   rcases get i _ h1 with⟨rfl,w⟩ | ⟨_,w⟩
   ·cases w
   ·rcases get k _ h2 with⟨rfl,w2⟩ | ⟨_,w2⟩
    ·cases w2
    ·exact S.inj i k d1 d2 q hne w w2
  sf:=fun i d' q=>by
   rcases get i _ q with⟨rfl,w⟩ | ⟨_,w⟩
   ·cases w
   ·obtain⟨r,a,b,c,m,z',w'⟩:=S.sf i d' w
    refine⟨r,a,?_,c,m,z',w'.mono (QD hg) fun _ z=>z⟩
    rw[Ql (by rintro rfl;exact c h0)];exact b
  su:=fun i k d1 d2 h1 h2=>by
   rcases get i _ h1 with⟨rfl,w⟩ | ⟨_,w⟩
   ·cases w
   ·rcases get k _ h2 with⟨rfl,w2⟩ | ⟨_,w2⟩
    ·cases w2
    ·exact S.su i k d1 d2 w w2 }
theorem Qyp(j:Nat){st:Stmt}{T:SD->Out Fl}(h:DS C st T):DS C st (fun ς=>T (frz j ς)):=by
 obtain⟨t,p1,q⟩:=h
 refine⟨t,p1,fun G H σ ς W S k=>?_⟩
 have k:(T (frz j ς)).post (FlK C G W) C.XD:=k
 by_cases z:∃ d,ς[j]?=some (some (SM.o,d))
 ·obtain⟨d,z⟩:=z
  have e:frz j ς=ς.set j (some (.k,d)):=by unfold frz;rw[z]
  rw[e]at k
  obtain⟨G',sG,S'⟩:=S.frz z
  exact q G' H σ _ W S' (Out.post_mono k fun f kf=>FlK.later kf sG)
 ·have e:frz j ς=ς:=by
   unfold frz
   split
   ·rename_i d w;exact absurd ⟨d,w⟩ z
   ·rfl
  rw[e]at k
  exact q G H σ ς W S k
end
end DL
namespace LS
open PySem PySem.Spec PyProof.Rows
def met(f:Nat->Str):Nat->List Str
 | 0=>[]
 | i+1=>if f i∈met f i then met f i else met f i++[f i]
theorem met_le(f:Nat->Str):∀ i,(met f i).length<=i
 | 0=>Nat.le_refl _
 | i+1=>by
  have h:=met_le f i
  show(if _ then _ else _:List Str).length<=_
  split
  ·omega
  ·rw[List.length_append,List.length_singleton];omega
abbrev isIn(f:Nat->Str)(i:Nat):Str->Bool:=fun y=>decide (y∈met f i)
theorem QN3(f:Nat->Str)(i:Nat)(y:Str):(isIn f i y||decide (y=f i))=isIn f (i+1) y:=by
 show _=decide (y∈(if _ then _ else _:List Str))
 by_cases h:f i∈met f i
 ·rw[if_pos h]
  by_cases e:y=f i
  ·subst e;simp[isIn,h]
  ·simp[isIn,e]
 ·rw[if_neg h]
  simp[isIn,Bool.decide_or]
theorem QPT(f:Nat->Str)(i:Nat):(if isIn f i (f i)=true then(met f i).length else(met f i).length+1)=(met f (i+1)).length:=by
 show _=(if _ then _ else _:List Str).length
 by_cases h:f i∈met f i
 ·rw[if_pos h,if_pos (decide_eq_true h)]
 ·rw[if_neg h,if_neg (by simpa [isIn] using h),List.length_append];rfl
section
variable{pg:Program}{wd:World}
theorem QPb{hp:Heap}{p:Addr}{f g:Str->Bool}{m n:Nat}(h:hp.SetOf (strKind pg wd) p f m)(hf:f=g)(hn:m=n):hp.SetOf (strKind pg wd) p g n:=hn ▸ hf ▸ h
variable{ar:Around}{Res:Result->Shared->Prop}{it:Addr}{ff wt:List Addr}{Gn:Array GenState->Array GenState->Prop}{n:Nat}{Pv:Nat->Value->Prop}{Sv:Nat->Shared->Prop}
theorem fill(Wk:WalksS pg wd ar.in1 it ff wt Gn n Pv Sv){p:Addr}(off:p∉ff){f:Nat->Str}(txt:∀ i v,Pv i v->∃ t,v=.str (f i) t)(few:n+1<scanBound):
 ∀(m i:Nat)(st:Shared),i+m=n->Sv i st->st.heap.SetOf (strKind pg wd) p (isIn f i) (met f i).length->
  (∀ st',Moved (p::wt) Gn st st'->st'.heap.SetOf (strKind pg wd) p (isIn f n) (met f n).length->Res (.ok (.ret .none)) st')->
  codeAny (model pg wd) ar (.builtin "set.update.loop" ⟨[.ref p,.ref it],[]⟩) Res st:=by
 have off':p∉wt:=fun z=>off (Wk.sub _ z)
 have more:∀ b,b∈wt->b∈p::wt:=fun b hb=>List.mem_cons_of_mem p hb
 have stays:∀{s s':Shared}{i:Nat},Moved wt Gn s s'->s.heap.SetOf (strKind pg wd) p (isIn f i) (met f i).length->s'.heap.SetOf (strKind pg wd) p (isIn f i) (met f i).length:=
  fun mv ⟨o,es,ep,tb,ho,rest⟩=>⟨o,es,ep,tb,mv.heap p o off' ho,rest⟩
 intro m
 induction m with
 | zero=>
  intro i st him hs hset fin
  obtain rfl:i=n:=by omega
  refine codeAny_builtin PyProof.Rows.F.entry_set_update_loop ?_
  rw[Around.under_plainId PyProof.Rows.F.plain_set_update_loop _]
  exact wpAny_bind (m:=pyNext (.ref it)) (Wk.done st _ _ hs fun st' mv=>wpAny_pure (fin st' (mv.mono more) (stays mv hset)))
 | succ m next=>
  intro i st him hs hset fin
  refine codeAny_builtin PyProof.Rows.F.entry_set_update_loop ?_
  rw[Around.under_plainId PyProof.Rows.F.plain_set_update_loop _]
  refine wpAny_bind (m:=pyNext (.ref it)) (Wk.item i st _ _ (by omega) hs fun v st' hv hs' mv=>?_)
  obtain⟨t,rfl⟩:=txt i v hv
  have key:=strKind_is pg wd (f i) t
  have hset1:=stays mv hset
  refine wpAny_bind (m:=holding [.str (f i) t] (setAdd p (.str (f i) t))) (wpAny_holding ?_)
  unfold setAdd
  refine wpAny_holding (wpAny_bind ((strKind pg wd).pyHash (k:=f i) key ?_))
  refine wpAny_setAddHashed_of (knd:=strKind pg wd) key rfl hset1 (by have:=met_le f i;omega) fun hp' same hset'=>?_
  have now:=QPb hset' (g:=isIn f (i+1)) (funext fun y=>QN3 f i y) (QPT f i)
  have tt:st'.toks<=st'.toks+1:=Nat.le_succ _
  refine wpAny_pure ⟨plainId_quiet PyProof.Rows.F.plain_set_update_loop _,next (i+1) _ (by omega) (Wk.frame _ st' _ _ hs' tt fun b hb o e=>?_) now fun st2 mv2 hset2=>fin st2 (Moved.trans Wk.gtrans ((mv.mono more).then_heap tt fun b o hb e=>?_) mv2) hset2⟩
  ·rw[same.2 b fun z=>off (z ▸ hb)];exact e
  ·rw[same.2 b fun z=>hb (z ▸ List.mem_cons_self)];exact e
end
abbrev Qfs(led:Bool):Obj:={ cls:=.type "set",dict:=none,data:=.set #[] 0 (.fresh 0 0 led) }
section
variable{pg:Program}{wd:World}{ar:Around}{Ex:Value->Shared->Prop}{st:Shared}
set_option maxHeartbeats 4000000 in
theorem of_list{l:Addr}{vs:Array Value}{f:Nat->Str}{Q:Value->Shared->Prop}(nh:ar.handled=none)(isl:st.heap.IsList l vs)(txt:∀ i v,vs[i]?=some v->∃ t,v=Value.str (f i) t)(few:vs.size+1<scanBound)
 (goal:∀(hp:Heap)(tk:Nat),hp.SetOf (strKind pg wd) st.heap.objs.size (isIn f vs.size) (met f vs.size).length->(∀ b o,b<st.heap.objs.size->st.heap.get? b=some o->hp.get? b=some o)->Q (.ref st.heap.objs.size) { st with heap:=hp,toks:=tk }):
 wpAny (model pg wd) ar (call (.type "set") [.ref l]) Q Ex st:=by
 have made:=PySem.F.called_set.made
 have sub:=PySem.F.called_set.sub
 have nt:=PySem.F.called_set.notType
 have cc:=PySem.F.called_set.canCreate
 have tc:=PySem.F.typeCall_set_1 (.ref l)
 obtain⟨c1,c2,mro⟩:=PySem.F.called_set.mro
 refine wpAny_call (codeAny_of_tree ?_)
 show wpAny (model pg wd) _ (callAny (.type "set") ⟨[.ref l],[]⟩) _ _ st
 refine wpAny_pure ⟨Code.quiet_builtin _ (dk),codeAny_builtin F.entry_type_call ?_⟩
 rw[Around.under_plain (weight_type_call_type "set" [.ref l] []) rfl]
 repeat (any_goals (first | assumption | wp_step))
 let mid:Shared->Prop:=fun s2=>∃ hp tk,s2={ st with heap:=hp,toks:=tk }/\hp.SetOf (strKind pg wd) st.heap.objs.size (isIn f vs.size) (met f vs.size).length/\∀ b o,b<st.heap.objs.size->st.heap.get? b=some o->hp.get? b=some o
 refine codeAny_mono (code_set_new_1 (.ref l) (E:=Ex) (Q₁:=fun v s1=>∃ led,v=.ref st.heap.objs.size/\s1={ st with heap:=st.heap.push (Qfs led) }) fun led=>⟨led,rfl,rfl⟩) fun r1 s1 h1=>?_
 cases r1 with
 | error _=>exact h1
 | ok fl1=>
  cases fl1 with
  | ret v1=>
   obtain⟨led,rfl,rfl⟩:=h1
   have at1:(st.heap.push (Qfs led)).get? st.heap.objs.size=some (Qfs led):=Heap.get?_push_size _ rfl
   have ty1:Shared.TypeIs { st with heap:=st.heap.push (Qfs led) } (.ref st.heap.objs.size) "set":=⟨_,at1,rfl⟩
   have lk:=PySem.F.called_set.init.lookup
   have bd:=PySem.F.called_set.init.bind (.ref st.heap.objs.size)
   repeat (any_goals (first | assumption | wp_step))
   refine codeAny_mono (codeAny_call_builtin (R:=wants (fun v s2=>v=.none/\mid s2) Ex) PySem.F.called_set.init.plain F.entry_set_init (check_set_init_1 ty1 ?_)) fun r2 s2 h2=>?_
   ·obtain⟨⟨oc,od,dt,os⟩,hol,e1,nl,e2⟩:=isl
    obtain rfl:oc=.type "list":=e1
    obtain rfl:dt=.seq vs nl:=e2
    have hol1:(st.heap.push (Qfs led)).get? l=some ⟨.type "list",od,.seq vs nl,os⟩:=Heap.get?_push_of_some _ hol
    have isl1:(st.heap.push (Qfs led)).IsList l vs:=⟨_,hol1,rfl,nl,rfl⟩
    have n1:=PySem.F.sub_list_set
    have n2:=PySem.F.sub_list_frozenset
    have n3:(Value.type "list" == Value.type "dict")=false:=by decide
    have lt : @LT.lt Nat _ l st.heap.objs.size:=Heap.lt_size hol
    have sz:=Heap.size_push st.heap (Qfs led)
    unfold Builtin.«set.__init__» noKeywords Builtin.Frozenset.updateFrom
    generalize keep:pyIter=ITER
    wp_walk
    subst keep
    refine wpAny_pyIter_list isl1 (wpAny_bind (wpAny_runValue ?_))
    have off:st.heap.objs.size∉[(st.heap.push (Qfs led)).objs.size,l]:=by
     rw[sz]
     intro z
     rcases List.mem_cons.mp z with z | z
     ·exact Nat.ne_of_lt (Nat.lt_succ_self _) z
     ·exact Nat.ne_of_gt lt (List.mem_singleton.mp z)
    have off2:l≠(st.heap.push (Qfs led)).objs.size:=by rw[sz];exact Nat.ne_of_lt (Nat.lt_succ_of_lt lt)
    refine fill ((Walks.list (by simp[nh]) _ l off2 vs).toS) off txt few vs.size 0 _ (Nat.zero_add _) ⟨⟨_,Heap.get?_push_size _ rfl,rfl,rfl⟩,isl1.push _⟩ ?_ fun s3 mv hs3=>?_
    ·exact QPb ((setObjOf_fresh (knd:=strKind pg wd) led).setOf (Heap.get?_push_of_some _ at1) (by unfold scanBound;omega)) (funext fun y=>by simp[isIn,met]) rfl
    ·obtain⟨hp3,g3,d3,tk3,os3⟩:=s3
     obtain rfl:g3=st.gens:=mv.gens
     obtain rfl:d3=st.drawn:=mv.drawn
     obtain rfl:os3=st.os:=mv.os
     refine wpAny_pure (wpAny_pure ⟨rfl,hp3,tk3,rfl,hs3,fun b o hb e=>?_⟩)
     refine mv.heap b o (fun z=>?_) (Heap.get?_push_of_some _ (Heap.get?_push_of_some _ e))
     rw[sz]at z
     rcases List.mem_cons.mp z with z | z
     ·exact Nat.ne_of_lt hb z
     ·rcases List.mem_cons.mp z with z | z
      ·exact Nat.ne_of_lt (Nat.lt_succ_of_lt hb) z
      ·exact absurd z List.not_mem_nil
   ·cases r2 with
    | error _=>exact h2
    | ok fl2=>
     cases fl2 with
     | ret v2=>
      obtain⟨rfl,hp,tk,rfl,hs2,kp⟩:=h2
      repeat (any_goals (first | assumption | wp_step))
      exact goal hp tk hs2 kp
     | _=>exact h2.elim
  | _=>exact h1.elim
end
end LS
namespace DL
open PySem PySem.Spec PyProof.Rows L2
def dkey:D->Option Key
 | .int i=>some (.inl i)
 | .str x=>some (.inr x)
 | _=>none
def valD(kds:List (Key×D))(k:Key):Option D:=(kds.find? fun kv=>decide (kv.1=k)).map (·.2)
def putKD(kds:List (Key×D))(k:Key)(d:D):List (Key×D):=
 if (kds.any fun kv=>decide (kv.1=k))=true then kds.map (fun kv=>if kv.1=k then(kv.1,d) else kv) else kds++[(k,d)]
section
variable{K:PySem.W.Frag}{CT:CTab}{H:Hp}
theorem QxP{d:D}{v:V}{k:Key}(h:dkey d=some k)(r:Rep K CT H d v):v=kV k:=by
 cases d with
 | int i=>cases h;exact r
 | str x=>cases h;exact r
 | _=>cases h
theorem RepK.len:∀{ds:List (Key×D)}{vs:List (Key×V)},RepK K CT H ds vs->ds.length=vs.length
 | [],_,h=>by cases h;rfl
 | (k,d)::ds,_,⟨v,r,h1,h2,h3⟩=>by rw[h1,List.length_cons,List.length_cons,RepK.len h3]
theorem RepK.val(k:Key):∀{ds:List (Key×D)}{vs:List (Key×V)},RepK K CT H ds vs->(valD ds k=none/\valV vs k=none)∨∃ d v,valD ds k=some d/\valV vs k=some v/\Rep K CT H d v
 | [],_,h=>by cases h;exact .inl ⟨rfl,rfl⟩
 | (k',d)::ds,_,⟨v,r,h1,h2,h3⟩=>by
  subst h1
  by_cases e:k'=k
  ·subst e
   exact .inr ⟨d,v,by simp[valD],by simp[valV],h2⟩
  ·have a:valD ((k',d)::ds) k=valD ds k:=by simp[valD,List.find?_cons,e]
   have b:valV ((k',v)::r) k=valV r k:=by simp[valV,List.find?_cons,e]
   rw[a,b];exact RepK.val k h3
theorem RepK.any(k:Key):∀{ds:List (Key×D)}{vs:List (Key×V)},RepK K CT H ds vs->(ds.any fun kv=>decide (kv.1=k))=vs.any fun kv=>decide (kv.1=k)
 | [],_,h=>by cases h;rfl
 | (k',d)::ds,_,⟨v,r,h1,h2,h3⟩=>by
  subst h1
  rw[List.any_cons,List.any_cons,RepK.any k h3]
theorem RepK.repl(k:Key){d:D}{v:V}(hd:Rep K CT H d v):∀{ds:List (Key×D)}{vs:List (Key×V)},RepK K CT H ds vs->RepK K CT H (ds.map fun kv=>if kv.1=k then(kv.1,d) else kv) (vs.map fun kv=>if kv.1=k then(kv.1,v) else kv)
 | [],_,h=>by cases h;rfl
 | (k',d')::ds,_,⟨v',r,h1,h2,h3⟩=>by
  subst h1
  rw[List.map_cons,List.map_cons]
  by_cases e:k'=k
  ·rw[if_pos (show(k',d').1=k from e),if_pos (show(k',v').1=k from e)]
   exact⟨v,_,rfl,hd,RepK.repl k hd h3⟩
  ·rw[if_neg (show ¬ (k',d').1=k from e),if_neg (show ¬ (k',v').1=k from e)]
   exact⟨v',_,rfl,h2,RepK.repl k hd h3⟩
theorem RepK.snoc(k:Key){d:D}{v:V}(hd:Rep K CT H d v):∀{ds:List (Key×D)}{vs:List (Key×V)},RepK K CT H ds vs->RepK K CT H (ds++[(k,d)]) (vs++[(k,v)])
 | [],_,h=>by cases h;exact⟨v,[],rfl,hd,rfl⟩
 | (k',d')::ds,_,⟨v',r,h1,h2,h3⟩=>by
  subst h1
  exact⟨v',_,rfl,h2,RepK.snoc k hd h3⟩
theorem RepK.put(k:Key){d:D}{v:V}(hd:Rep K CT H d v){ds:List (Key×D)}{vs:List (Key×V)}(h:RepK K CT H ds vs):RepK K CT H (putKD ds k d) (putK vs k v):=by
 unfold putKD putK
 rw[RepK.any k h]
 split
 ·exact RepK.repl k hd h
 ·exact RepK.snoc k hd h
end
def eDix(A B:SD->Out D):SD->Out D:=fun ς=>A ς>>=fun x=>match x with
 | .dic kds=>B ς>>=fun y=>match dkey y with | some k=>optO (valD kds k) | none=>.stuck
 | _=>.stuck
def eDget(A B:SD->Out D):SD->Out D:=fun ς=>A ς>>=fun x=>match x with
 | .dic kds=>B ς>>=fun y=>match dkey y with | some k=>.ok ((valD kds k).getD .non) | none=>.stuck
 | _=>.stuck
def sPutD(i:Nat)(I E:SD->Out D):SD->Out Fl:=fun ς=>E ς>>=fun d=>match ς[i]? with
 | some (some (.o,.dic kds))=>I ς>>=fun y=>match dkey y with
  | some k=>if decide (kds.length<sizeLine)=true then .ok (.nx (ς.set i (some (.o,.dic (putKD kds k d))))) else .stuck
  | none=>.stuck
 | _=>.stuck
section
variable{C:Dc}{a b c:Expr}{A B Z:SD->Out D}{pos apos:Pos}
theorem QTn(hu:C.X.A.units+64<cLine)(ha:DE C a A)(hb:DB C b B)(hs:NoSl b:=by intro _ _;rfl):DE C (.Subscript a b pos) (eDix A B):=by
 obtain⟨ta,p1,q1⟩:=ha
 obtain⟨tb,p2,q2⟩:=hb
 refine⟨_,QRM (by omega) p1 p2 hs,fun G H σ ς Q S q=>?_⟩
 unfold eDix at q
 rw[Out.post_bind]at q
 refine q1 G H σ ς _ S (Out.post_mono q fun x k v1 H1 G1 S1 a1 b1 r1=>?_)
 cases x with
 | dic kds=>
  have k:(B ς>>=fun y=>match dkey y with | some k=>optO (valD kds k) | none=>.stuck).post (KD C G H σ ς Q) C.XD:=k
  rw[Out.post_bind]at k
  refine q2 G1 H1 σ ς _ S1 (Out.post_mono k fun y k2 v2 H2 G2 S2 a2 b2 r2=>?_)
  cases e:dkey y with
  | none=>rw[e]at k2;exact k2.elim
  | some kk=>
   rw[e]at k2
   obtain⟨d,ed,kd⟩:=Qj2 k2
   obtain⟨p,kvs,rfl,h2,h3⟩:=Rep.mono b2 _ v1 r1
   rcases RepK.val kk h3 with⟨n1,n2⟩ | ⟨d',v,n1,n2,r⟩
   ·rw[n1]at ed;cases ed
   ·rw[n1]at ed;cases ed
    exact⟨p,v,rfl,.inl ⟨kvs,kk,Same.rd S2.sub h2,QxP e r2,n2.symm⟩,KD.now (KD.later kd (a1.trans a2) (b1.trans b2)) S2 r⟩
 | _=>exact k.elim
theorem QRz{K:PySem.W.Frag}{CT:CTab}{H:Hp}:Rep K CT H .non .non:=rfl
theorem QR5(hu:C.X.A.units+64<cLine)(ha:DE C a A)(hb:DB C b B)
 (hbase:attributeBase a "get" C.X.env (eval a C.X.env)=eval a C.X.env:=by rfl)
 (hfew:((backTo pos (starEach [b] C.X.env)).all (fun x => !x.1)&&(backToKw pos (keywordEach [] C.X.env)).all (fun x=>x.1.isSome)
  && decide (([b]:List Expr).length+([]:List Keyword).length+(if ([]:List Keyword).isEmpty then 0 else 1)<30))=true:=by rfl)
 (hline:(apos.endLine == pos.line)=true:=by rfl) (htr:backTo pos (starEach [b] C.X.env)=[(false,eval b C.X.env)]:=by rfl):DE C (.Call (.Attribute a "get" apos) [b] [] pos) (eDget A B):=by
 obtain⟨ta,p1,q1⟩:=ha
 obtain⟨tb,p2,q2⟩:=hb
 refine⟨_,QQP (by omega) p1 p2 ⟨hbase,hfew,hline,htr⟩,fun G H σ ς Q S q=>?_⟩
 unfold eDget at q
 rw[Out.post_bind]at q
 refine q1 G H σ ς _ S (Out.post_mono q fun x k v1 H1 G1 S1 a1 b1 r1=>?_)
 cases x with
 | dic kds=>
  have k:(B ς>>=fun y=>match dkey y with | some k=>Out.ok ((valD kds k).getD .non) | none=>.stuck).post (KD C G H σ ς Q) C.XD:=k
  rw[Out.post_bind]at k
  obtain⟨p,kvs,rfl,h2,h3⟩:=r1
  refine⟨p,rfl,.inl ⟨kvs,Same.rd S1.sub h2⟩,q2 G1 H1 σ ς _ S1 (Out.post_mono k fun y k2 v2 H2 G2 S2 a2 b2 r2=>?_)⟩
  cases e:dkey y with
  | none=>rw[e]at k2;exact k2.elim
  | some kk=>
   rw[e]at k2
   have kd:KD C G H σ ς Q ((valD kds kk).getD .non):=k2
   refine⟨valV kvs kk,.inl ⟨kvs,kk,Same.rd (S1.sub.trans a2) h2,QxP e r2,rfl⟩,?_⟩
   rcases RepK.val kk (RepK.mono b2 kds kvs h3) with⟨n1,n2⟩ | ⟨d',v,n1,n2,r⟩
   ·rw[n1]at kd;rw[n2];exact KD.now (KD.later kd (a1.trans a2) (b1.trans b2)) S2 QRz
   ·rw[n1]at kd;rw[n2];exact KD.now (KD.later kd (a1.trans a2) (b1.trans b2)) S2 r
 | _=>exact k.elim
theorem StR.writeD{G H:Hp}{σ:St}{ς:SD}(S:StR C G H σ ς){i:Nat}{p:Addr}{xs ys:List (Key×D)}{vs ws:List (Key×V)}(hi:ς[i]?=some (some (.o,.dic xs)))(hp:σ[i]?=some (some (.ref p)))(hH:H p=some (.dK vs))(r:RepK C.X.K C.CT G ys ws):
 StR C G (upd H p (.dK ws)) σ (ς.set i (some (.o,.dic ys))):=by
 obtain⟨p',e1,hg,h0,ow⟩:=S.ow i _ hi
 rw[hp]at e1;cases e1
 have hil:i<ς.length:=(List.getElem?_eq_some_iff.mp hi).1
 have ne:∀ b o,G b=some o->b≠p:=fun b o e z=>by subst z;rw[hg]at e;cases e
 have S':StR C G (upd H p (.dK ws)) (σ.set i (some (.ref p))) (ς.set i (some (.o,.dic ys))):={
  sub:=fun b o e=>by rw[Ql (ne b o e)];exact S.sub b o e
  g0:=S.g0
  new:=S.new
  fr:=fun b o e m=>by
   rw[Ql (by rintro rfl;rw[h0]at e;cases e)];exact S.fr b o e m
  dom:=fun b e=>by
   by_cases hb:b=p
   ·subst hb;exact h0
   ·rw[Ql hb]at e;exact S.dom b e
  bs:=fun b o e=>by
   rw[Ql (by rintro rfl;rw[S.bh _ h0]at e;cases e)];exact S.bs b o e
  bh:=S.bh
  len:=by rw[List.length_set,List.length_set];exact S.len
  fz:=fun j d h=>by
   rcases QL h with⟨rfl,h2,l⟩ | ⟨hne,h2⟩
   ·cases h2
   ·rw[QB hne];exact S.fz j d h2
  ow:=fun j d h=>by
   rcases QL h with⟨rfl,h2,l⟩ | ⟨hne,h2⟩
   ·cases h2
    exact⟨p,QjH (by rw[S.len];exact l),hg,h0,⟨ws,QU,r⟩⟩
   ·rw[QB hne]
    obtain⟨q,a,b,c,w⟩:=S.ow j d h2
    have qp:q≠p:=by
     rintro rfl
     exact S.inj i j _ _ q hne hi h2 hp a
    exact⟨q,a,b,c,w.mono (Same.refl G) fun o z=>by rw[Ql qp];exact z⟩
  ln:=fun j d h=>by
   rcases QL h with⟨rfl,h2,l⟩ | ⟨hne,h2⟩
   ·cases h2
   ·rw[QB hne];exact S.ln j d h2
  inj:=fun j k d1 d2 q hjk h1 h2 h3=>by
   have get:∀(j:Nat) d,(ς.set i (some (.o,D.dic ys)))[j]?=some (some (.o,d))->∃ d',ς[j]?=some (some (.o,d')):=fun j d h=>by
    rcases QL h with⟨rfl,h2,l⟩ | ⟨hne,h2⟩
    ·exact⟨_,hi⟩
    ·exact⟨_,h2⟩
   obtain⟨d1',g1⟩:=get j d1 h1
   obtain⟨d2',g2⟩:=get k d2 h2
   rw[QnF hp]at h3 ⊢
   exact S.inj j k d1' d2' q hjk g1 g2 h3
  sf:=fun j d h=>by
   rcases QL h with⟨rfl,h2,l⟩ | ⟨hne,h2⟩
   ·cases h2
   ·rw[QB hne]
    obtain⟨q,a,b,c,m,z,w⟩:=S.sf j d h2
    have qp:q≠p:=by
     rintro rfl
     exact c h0
    exact⟨q,a,b,c,m,z,w.mono (Same.refl G) fun o z=>by rw[Ql qp];exact z⟩
  su:=fun j k d1 d2 h1 h2=>by
   rcases QL h1 with⟨rfl,q1,l⟩ | ⟨n1,q1⟩
   ·cases q1
   ·rcases QL h2 with⟨rfl,q2,l⟩ | ⟨n2,q2⟩
    ·cases q2
    ·exact S.su j k d1 d2 q1 q2 }
 rw[QnF hp]at S'
 exact S'
variable{e:Expr}{E:SD->Out D}{p1 p2:Pos}{x:Str}
theorem QK9(hu:C.X.A.units+64<cLine)(i:Nat)(hi:DB C a A)(he:DE C e E)(hN:C.X.N[i]?=some x:=by rfl)(hv:Vis C.X.env.scope x:=by first | exact Or.inl rfl | exact Or.inr (Or.inl rfl) | exact Or.inr (Or.inr rfl))
 (hd:(x == ("__debug__":Str))=false:=by decide) (hcd:(x == ("__classdict__":Str))=false:=by decide)
 (hs:swapsWith e (some (.Subscript (.Name x p1) a p2)) pos.line C.X.env=pure false:=by rfl):DS C (.Assign [.Subscript (.Name x p1) a p2] e pos) (sPutD i A E):=by
 obtain⟨t,p,q⟩:=he
 obtain⟨t2,p2',q2⟩:=hi
 refine⟨_,QQ3 (by omega) (QnT (i:=i) hN hv hd hcd) p2' p hs,fun G H σ ς W S k=>?_⟩
 unfold sPutD at k
 rw[Out.post_bind]at k
 refine q G H σ ς _ S (Out.post_mono k fun d k v H1 G1 S1 a1 b1 r1=>?_)
 split at k
 ·rename_i kds z
  obtain⟨pp,e1,hg,h0,ow⟩:=S1.ow i _ z
  rw[Out.post_bind]at k
  refine⟨_,e1,q2 G1 H1 σ ς _ S1 (Out.post_mono k fun y k2 w H2 G2 S2 a2 b2 r2=>?_)⟩
  cases ey:dkey y with
  | none=>rw[ey]at k2;exact k2.elim
  | some kk=>
   rw[ey]at k2
   obtain⟨pp',e1',hg',h0',kvs,hv1,hv2⟩:=S2.ow i _ z
   rw[e1]at e1';cases e1'
   rcases Qas k2 with⟨hc,k3⟩ | ⟨_,k3⟩
   ·refine⟨pp,_,rfl,.inl ⟨kvs,kk,hv1,QxP ey r2,by rw[← hv2.len];exact of_decide_eq_true hc,rfl⟩,?_⟩
    exact k3 σ _ G2 (S2.writeD z e1 hv1 (RepK.put kk (Rep.mono b2 d v r1) hv2)) (b1.trans b2)
   ·exact k3.elim
 ·exact k.elim
end
end DL
namespace DL
open PySem PySem.Spec PyProof.Rows L2
def QfJ(xs:List Str):Nat:=(LS.met (fun i=>xs.getD i "") xs.length).length
def QRY(K:PySem.W.Frag)(te:TA):TE:=fun σ H Q=>te σ H fun vs H1=>∃ p xs,vs=[V.ref p]/\SqL K H1 p (xs.map V.str)/\xs.length<4000/\Q (.int (QfJ xs)) H1
section
variable{X:Cx}{e:Expr}{te:TA}{p1 p2 p3 pos:Pos}
theorem QGh:∀{xs:List Str}{us:List Value},Vals (xs.map V.str) us->∀(i:Nat) v,us[i]?=some v->∃ t,v=.str (xs.getD i "") t
 | [],_,h,i,v,hv=>by cases h;simp at hv
 | x::xs,_,h,i,v,hv=>by
  cases h with
  | cons hx hr=>
   cases i with
   | zero=>
    obtain⟨t,ht⟩:=hx
    refine⟨t,?_⟩
    simp at hv
    rw[← hv,ht];rfl
   | succ i=>
    have:=QGh hr i v (by simpa using hv)
    simpa using this
theorem QOC(hh:X.A.handled=none)(gl:Gl X "len")(ml:X.mg "len"=none)(gs:Gl X "set")(ms:X.mg "set"=none)(he:PA X [e] te)
 (h1:starEach [e] X.env=(false,eval e X.env)::starEach [] X.env:=by rfl)
 (h2:starEach [.Call (.Name "set" p2) [e] [] p3] X.env=(false,eval (.Call (.Name "set" p2) [e] [] p3) X.env)::starEach [] X.env:=by rfl)
 (h3:backTo pos (starEach [.Call (.Name "set" p2) [e] [] p3] X.env)=[(false,eval (.Call (.Name "set" p2) [e] [] p3) X.env)]:=by rfl):
 PE X (.Call (.Name "len" p1) [.Call (.Name "set" p2) [e] [] p3] [] pos) (QRY X.K te):=by
 intro pins s σ H Q I h
 have inner:wpAny (model X.prog X.w) X.A (eval (.Call (.Name "set" p2) [e] [] p3) X.env) (fun u s'=>∃ D H1 xs,u=.ref D/\Inv X pins σ H1 s'/\s'.heap.SetOf (strKind X.prog X.w) D (LS.isIn (fun i=>xs.getD i "") xs.length) (QfJ xs)/\QfJ xs<4000/\Q (.int (QfJ xs)) H1) X.xe s:=by
  refine wpAny_Call_Name_kw (Qk2 I gs ms PyProof.Rows.Boot.«set» ?_ (by decide) (by decide))
  refine PyProof.Rows.callWith_type1 (thn (he p3 pins s σ H _ I h) fun us s1 ⟨vs,H1,I1,r1,p,xs,ev,sq,few,q⟩=>?_) h1 rfl
  ·subst ev
   obtain⟨u,rfl,rx⟩:=vals1 r1
   cases rx
   obtain⟨its,rv,pl,hz⟩:=I1.list sq
   have hl:=rv.length
   rw[List.length_map]at hl
   have le:=LS.met_le (fun i=>xs.getD i "") xs.length
   refine LS.of_list hh pl.isList (f:=fun i=>xs.getD i "") (fun i v hv=>QGh rv i v (by simpa using hv)) (by rw[List.size_toArray, ← hl];unfold scanBound;omega) fun hp tk hs kp=>?_
   have sz:its.toArray.size=xs.length:=by rw[List.size_toArray];omega
   rw[sz]at hs
   exact⟨_,H1,xs,rfl,I1.kept fun b o eb=>kp b o (Heap.lt_size eb) eb,hs,by unfold QfJ;omega,q⟩
 refine wpAny_Call_Name_kw (Qk2 I gl ml PySem.boot_len ?_ (by decide) (by decide))
 refine PyProof.Rows.callWith_builtin1 ?_ h2 rfl
 rw[h3]
 refine Calls.spliced_cons (thn inner fun u s1 ⟨D,H1,xs,eu,I1,hs,few,q⟩=>Calls.spliced_nil ?_)
 subst eu
 obtain⟨o,es,ep,t,ho,hex,hd,hel,hmem,hb,hf,hn⟩:=hs
 refine call_len_set ho hex hd hf (by rw[hn];omega) ?_
 rw[hn]
 exact⟨.int (QfJ xs),H1,(I1.tok _).tok _,⟨_,rfl⟩,q⟩
end
def strsD:List D->Option (List Str)
 | []=>some []
 | .str x::ds=>(strsD ds).map (x :: ·)
 | _::_=>none
theorem QH5{K:PySem.W.Frag}{CT:CTab}{H:Hp}:∀{ds:List D}{vs:List V}{xs:List Str},strsD ds=some xs->RepL K CT H ds vs->vs=xs.map V.str
 | [],_,_,h,r=>by cases h;cases r;rfl
 | d::ds,_,xs,h,⟨v,r,h1,h2,h3⟩=>by
  cases d with
  | str x=>
   obtain⟨ys,hy,rfl⟩:=Option.map_eq_some_iff.mp (show(strsD ds).map (x :: ·)=some xs from h)
   rw[h1,QH5 hy h3,show v=V.str x from h2];rfl
  | _=>cases h
def QBV:D->Out D
 | .lst ds=>match strsD ds with
  | some xs=>if decide (xs.length<4000)=true then .ok (.int (QfJ xs)) else .stuck
  | none=>.stuck
 | _=>.stuck
section
variable{C:Dc}{a:Expr}{A:SD->Out D}{p1 p2 p3 pos:Pos}
theorem QOo(hh:C.X.A.handled=none)(gl:Gl C.X "len")(ml:C.X.mg "len"=none)(gs:Gl C.X "set")(ms:C.X.mg "set"=none)(ha:DB C a A)
 (h1:starEach [a] C.X.env=(false,eval a C.X.env)::starEach [] C.X.env:=by rfl)
 (h2:starEach [.Call (.Name "set" p2) [a] [] p3] C.X.env=(false,eval (.Call (.Name "set" p2) [a] [] p3) C.X.env)::starEach [] C.X.env:=by rfl)
 (h3:backTo pos (starEach [.Call (.Name "set" p2) [a] [] p3] C.X.env)=[(false,eval (.Call (.Name "set" p2) [a] [] p3) C.X.env)]:=by rfl):
 DE C (.Call (.Name "len" p1) [.Call (.Name "set" p2) [a] [] p3] [] pos) (e1 QBV A):=by
 obtain⟨ta,q1,q2⟩:=ha
 refine⟨_,QOC hh gl ml gs ms (Qc2 q1 Qgz h1) h1 h2 h3,fun G H σ ς Q S q=>?_⟩
 unfold e1 at q
 rw[Out.post_bind]at q
 refine q2 G H σ ς _ S (Out.post_mono q fun x k v1 H1 G1 S1 a1 b1 r1=>?_)
 cases x with
 | lst ds=>
  obtain⟨p,vs,rfl,sq,r⟩:=r1
  have k:(match strsD ds with | some xs=>if decide (xs.length<4000)=true then Out.ok (D.int (QfJ xs)) else .stuck | none=>.stuck).post (KD C G H σ ς Q) C.XD:=k
  cases es:strsD ds with
  | none=>rw[es]at k;exact k.elim
  | some xs=>
   rw[es]at k
   have ev:=QH5 es r
   subst ev
   rcases Qas k with⟨hc,kd⟩ | ⟨_,kd⟩
   ·exact⟨p,xs,rfl,sq,of_decide_eq_true hc,KD.now (KD.later (show KD C G H σ ς Q (.int (QfJ xs)) from kd) a1 b1) S1 rfl⟩
   ·exact kd.elim
 | _=>exact k.elim
end
end DL
namespace DL
open PySem PySem.Spec PyProof.Rows L2
def tVs(vs:List V):TA:=fun _ H Q=>Q vs H
def anyT:List (List (Str×Bool))->Str->Option Bool
 | [],_=>some false
 | t::ts,c=>match t.lookup c with
  | some true=>some true
  | some false=>anyT ts c
  | none=>none
def KitsT(K:PySem.W.Frag)(CT:CTab):List Value->List (List (Str×Bool))->Prop
 | [],[]=>True
 | u::us,t::ts=>KitI K CT u t/\KitsT K CT us ts
 | _,_=>False
theorem QGD{K:PySem.W.Frag}{CT:CTab}{c:Str}{A:Addr}(hA:CT c=some A):∀{us:List Value}{ts:List (List (Str×Bool))}{b:Bool},KitsT K CT us ts->anyT ts c=some b->PySem.W.kitAny K (.ref A) us=some b
 | [],[],b,_,h=>h
 | u::us,t::ts,b,⟨h1,h2⟩,h=>by
  unfold anyT at h
  unfold PySem.W.kitAny
  cases e:t.lookup c with
  | none=>rw[e]at h;cases h
  | some z=>
   rw[(h1 c z e A hA).2]
   rw[e]at h
   cases z with
   | true=>exact h
   | false=>exact QGD hA h2 h
theorem QPS{K:PySem.W.Frag}{CT:CTab}{c:Str}{A:Addr}(hA:CT c=some A){u:Value}{us:List Value}{t:List (Str×Bool)}{ts:List (List (Str×Bool))}{b:Bool}(h:KitsT K CT (u::us) (t::ts))(e:anyT (t::ts) c=some b):ClsD K A:=by
 unfold anyT at e
 cases q:t.lookup c with
 | none=>rw[q]at e;cases e
 | some z=>exact(h.1 c z q A hA).1
def isaTs(ts:List (List (Str×Bool))):D->Out Bool
 | .ins c _=>match anyT ts c with | some b=>.ok b | none=>.stuck
 | _=>.stuck
section
variable{C:Dc}{e:Expr}{E:SD->Out D}{p pos tp1:Pos}{cs:List Expr}
theorem QSn{X:Cx}:PA X [] (tVs []):=Qgz
theorem QrX{X:Cx}{e:Expr}{es:List Expr}{v:V}{vs:List V}(h:PE X e (tC v))(r:PA X es (tVs vs))(he:starEach (e::es) X.env=(false,eval e X.env)::starEach es X.env:=by rfl):PA X (e::es) (tVs (v::vs)):=Qc2 h r he
theorem QF6:∀{as:List Addr}{us:List Value},Vals (as.map V.ref) us->us=as.map Value.ref
 | [],_,h=>by cases h;rfl
 | a::as,_,h=>by
  cases h with
  | cons h1 h2=>rw[QF6 h2,show _=Value.ref a from h1];rfl
theorem QQ6{x1}{a:Addr}{as:List Addr}{t:List (Str×Bool)}{ts:List (List (Str×Bool))}(hc:PA C.X cs (tVs ((a::as).map V.ref)))(hk:KitsT C.X.K C.CT ((a::as).map Value.ref) (t::ts))(hz:(a::as).length<=20)(hg:Gl C.X "isinstance")(hm:C.X.mg "isinstance"=none)(h:DB C e E)
 (he:starEach (e::[.Tuple cs x1 tp1]) C.X.env=(false,eval e C.X.env)::starEach [.Tuple cs x1 tp1] C.X.env:=by rfl) (he2:starEach (.Tuple cs x1 tp1::[]) C.X.env=(false,eval (.Tuple cs x1 tp1) C.X.env)::starEach [] C.X.env:=by rfl)
 (hpl:(backTo pos (starEach [.Tuple cs x1 tp1] C.X.env)).any (·.1)=false:=by rfl):DE C (.Call (.Name "isinstance" p) [e,.Tuple cs x1 tp1] [] pos) (eIsa (isaTs (t::ts)) E):=by
 obtain⟨te,p1,q1⟩:=h
 have hR:CallR C.X (.builtin "isinstance") (fun xs H Q=>∃ c fs x tp b,xs=[x,V.ref tp]/\Rep C.X.K C.CT H (.ins c fs) x/\H tp=some (.tup ((a::as).map V.ref))/\anyT (t::ts) c=some b/\Q (.bl b) H):=by
  intro pins s σ H xs us Q I r hq
  obtain⟨c,fs,x,tp,b,rfl,h1,h2,h3,q⟩:=hq
  obtain⟨u,w,rfl,r1,r2⟩:=vals2 r
  obtain rfl:w=Value.ref tp:=r2
  obtain⟨p',A',dx,fs',rfl,g1,g2,_⟩:=h1
  obtain rfl:u=Value.ref p':=r1
  have cd:=QPS g1 hk h3
  obtain⟨mA,O,_⟩:=QqE I.hok g2
  obtain⟨od,J,_⟩:=O.look
  obtain⟨_,its,rv,pt⟩:=(show ObjOk C.X.prog C.X.w H s.heap tp (.tup ((a::as).map V.ref)) from I.hok tp _ h2)
  obtain⟨⟨oc,odd,odt,osl⟩,ho,hcl,nn,hd⟩:=pt
  obtain rfl:oc=.type "tuple":=hcl
  obtain rfl:odt=.seq its.toArray nn:=hd
  obtain rfl:=QF6 rv
  exact PySem.W.kia_tup (PySem.W.kitx_own (cd.cl.get _) cd.cl.hd cd.ha cd.hn cd.htk cd.hm) I.kIn J ho (QGD g1 hk h3) (fun z=>nomatch z) fun tk=>⟨.bl b,H,I.tok _,rfl,q⟩
 refine⟨_,QxF hR hg hm PyProof.Rows.Boot.«isinstance» (Qc2 p1 (Qc2 (QNJ hc) Qgz he2) he) (by decide) (by decide) he hpl,fun G H σ ς Q S q=>?_⟩
 unfold eIsa at q
 rw[Out.post_bind]at q
 refine q1 G H σ ς _ S (Out.post_mono q fun d k v1 H1 G1 S1 a1 b1 r1=>?_)
 rw[Out.post_bind]at k
 cases d with
 | ins c fs=>
  cases ea:anyT (t::ts) c with
  | none=>
   have hs:isaTs (t::ts) (D.ins c fs)=.stuck:=by show(match anyT (t::ts) c with | some b=>Out.ok b | none=>Out.stuck)=_;rw[ea]
   rw[hs]at k;exact k.elim
  | some b=>
   have hs:isaTs (t::ts) (D.ins c fs)=.ok b:=by show(match anyT (t::ts) c with | some b=>Out.ok b | none=>Out.stuck)=_;rw[ea]
   rw[hs]at k
   refine⟨by rw[List.length_map];exact Nat.le_trans hz (by decide),fun tp htp=>?_⟩
   have S2:=S1.allocO (o:=.tup ((a::as).map V.ref)) htp
   exact⟨c,fs,v1,tp,b,rfl,Rep.mono (QD htp) _ v1 r1,QU,ea,KD.now (KD.later (show KD C G H σ ς Q (.bl b) from k) (a1.trans (QD htp)) b1) S2 rfl⟩
 | _=>exact k.elim
end
end DL
namespace DL
open PySem PySem.Spec PyProof.Rows L2
theorem QHu{K:PySem.W.Frag}{CT:CTab}{H:Hp}{d:D}{v:V}(h:d.scal=true)(r:Rep K CT H d v):v=toV d:=by
 cases d with
 | non=>exact r
 | bl b=>exact r
 | int i=>exact r
 | str x=>exact r
 | _=>cases h
theorem QC3{K:PySem.W.Frag}{CT:CTab}{H:Hp}:∀{ds:List D}{vs:List V},ds.all D.scal=true->RepL K CT H ds vs->vs=ds.map toV
 | [],_,_,r=>by cases r;rfl
 | d::ds,_,h,⟨v,r,h1,h2,h3⟩=>by
  rw[List.all_cons,Bool.and_eq_true]at h
  rw[h1,QHu h.1 h2,QC3 h.2 h3];rfl
theorem QCN{d:D}(h:d.scal=true):flatV (toV d)=true:=by
 cases d with
 | non=>rfl
 | bl b=>rfl
 | int i=>rfl
 | str x=>rfl
 | _=>cases h
theorem QzY:∀{ds:List D},ds.all D.scal=true->(ds.map toV).all flatV=true
 | [],_=>rfl
 | d::ds,h=>by
  rw[List.all_cons,Bool.and_eq_true]at h
  rw[List.map_cons,List.all_cons,QCN h.1,QzY h.2];rfl
def dInL:D->D->Out D
 | x,.lst ds=>if (x.scal&&ds.all D.scal)=true then .ok (.bl (inV (toV x) (ds.map toV))) else .stuck
 | _,_=>.stuck
section
variable{C:Dc}{a b:Expr}{A B:SD->Out D}{pos:Pos}
theorem QQ9:DRS C (rIn C.X.K false) dInL:=by
 intro G H σ ς Q x y vx vy S hx hy q
 cases y with
 | lst ds=>
  have q:(if (x.scal&&ds.all D.scal)=true then Out.ok (D.bl (inV (toV x) (ds.map toV))) else .stuck).post _ _:=q
  rcases Qas q with⟨hc,q⟩ | ⟨_,q⟩
  ·rw[Bool.and_eq_true]at hc
   obtain⟨p,vs,rfl,h2,h3⟩:=hy
   have e1:=QHu hc.1 hx
   have e2:=QC3 hc.2 h3
   subst e1;subst e2
   exact⟨p,_,rfl,.inl h2,QCN hc.1,QzY hc.2,q.2⟩
  ·exact q.elim
 | _=>exact q.elim
theorem QQe:scal2 dInL:=fun x y=>by
 cases y with
 | lst ds=>
  show match (if (x.scal&&ds.all D.scal)=true then Out.ok (D.bl (inV (toV x) (ds.map toV))) else .stuck) with | .ok d=>d.scal=true | .exc _=>False | .stuck=>True
  split<;>rename_i h<;>(split at h<;>cases h)<;>first | rfl | trivial
 | _=>exact True.intro
theorem QPe(ha:DB C a A)(hb:DB C b B)(hm:behindInMarks .In b=false:=by rfl):DE C (.Compare a [.In] [b] pos) (e2 dInL A B):=QFT QPh QQ9 QQe ha hb hm
end
end DL
namespace DL
open PySem PySem.Spec PyProof.Rows L2
theorem QsK{i j:Int}(h:0<j):dMod (.int i) (.int j)=.ok (.int (i % j)):=by
 show(if decide (j≠0)=true then Out.ok (D.int (i.fmod j)) else Out.stuck)=_
 rw[if_pos (decide_eq_true (by omega)),Int.fmod_eq_emod_of_nonneg i (by omega)]
theorem QGA{j:Int}{n:Nat}(h:j.natAbs<2 ^ n)(hn:n<=9000):big j=true:=decide_eq_true (Nat.lt_of_lt_of_le h (Nat.pow_le_pow_right (by decide) hn))
theorem Qx3{i j:Int}(h:j≠0)(hb:big j=true):dFdiv (.int i) (.int j)=.ok (.int (i.fdiv j)):=by
 show(if (decide (j≠0)&&big j)=true then Out.ok (D.int (i.fdiv j)) else Out.stuck)=_
 rw[if_pos (by rw[hb,decide_eq_true h];rfl)]
theorem QCU{i j:Int}(h:0<j)(hb:big j=true):dFdiv (.int i) (.int j)=.ok (.int (i / j)):=by
 rw[Qx3 (by omega) hb,Int.fdiv_eq_ediv_of_nonneg i (by omega)]
theorem QS{i:Int}{n:Nat}(h:i.natAbs<2 ^ n):bitsI i<=n:=PySem.intBits_le_iff.mpr h
theorem Qc3{i:Int}{n:Nat}(h:bitsI i<=n):i.natAbs<2 ^ n:=PySem.intBits_le_iff.mp h
theorem QSm{i j:Int}(h:bitsI i+bitsI j<=134217728):dMul (.int i) (.int j)=.ok (.int (i * j)):=by
 show(if decide (bitsI i+bitsI j<=134217728)=true then Out.ok (D.int (i * j)) else Out.stuck)=_
 rw[if_pos (decide_eq_true h)]
theorem QLv{i j:Int}{m n:Nat}(hi:bitsI i<=m)(hj:bitsI j<=n)(h:m+n<=134217728):dMul (.int i) (.int j)=.ok (.int (i * j)):=QSm (by omega)
theorem QbA(i j:Int):dAdd (.int i) (.int j)=.ok (.int (i+j)):=rfl
theorem Qco(i j:Int):dSub (.int i) (.int j)=.ok (.int (i - j)):=rfl
theorem QbX(i:Int):dNeg (.int i)=.ok (.int (-i)):=rfl
theorem QbB(i:Int):dAbs (.int i)=.ok (.int (i.natAbs:Int)):=by
 show Out.ok (D.int (if i<0 then -i else i))=_
 congr 2;split<;>omega
theorem QaR(i j:Int):dLt (.int i) (.int j)=.ok (.bl (decide (i<j))):=rfl
theorem Qb0(i j:Int):dLe (.int i) (.int j)=.ok (.bl (decide (i<=j))):=rfl
theorem Qc7(i j:Int):dGt (.int i) (.int j)=.ok (.bl (decide (j<i))):=rfl
theorem Qcs(i j:Int):dGe (.int i) (.int j)=.ok (.bl (decide (j<=i))):=rfl
theorem QAR{i j:Int}(h:(decide (0<=j)&&decide (j<=1000000)&&decide (i.natAbs<2 ^ 64))=true):dPow (.int i) (.int j)=.ok (.int (i ^ j.toNat)):=by
 show(if _=true then Out.ok (D.int (i ^ j.toNat)) else Out.stuck)=_
 rw[if_pos h]
mutual
def layD:D->Bool
 | .non=>true
 | .bl _=>true
 | .int _=>true
 | .str x=>PyData.strOk x
 | .lst xs=>layDs xs
 | .tup xs=>layDs xs
 | _=>false
def layDs:List D->Bool
 | []=>true
 | x::xs=>layD x&&layDs xs
end
mutual
def dep:D->Nat
 | .lst xs=>deps xs+1
 | .tup xs=>deps xs+1
 | _=>0
def deps:List D->Nat
 | []=>0
 | x::xs=>max (dep x) (deps xs)
end
mutual
theorem QyG:∀ d:D,layD d=true->d.py.canLay0=true
 | .non,_=>rfl
 | .bl _,_=>rfl
 | .int _,_=>rfl
 | .str x,h=>h
 | .lst xs,h=>QBJ xs h
 | .tup xs,h=>QBJ xs h
theorem QBJ:∀ ds:List D,layDs ds=true->PyData.canLayAll0 (D.pys ds)=true
 | [],_=>rfl
 | x::xs,h=>by
  rw[layDs,Bool.and_eq_true]at h
  rw[D.pys,PyData.canLayAll0,Bool.and_eq_true]
  exact⟨QyG x h.1,QBJ xs h.2⟩
end
mutual
theorem QOW:∀ d:D,layD d=true->d.py.depth=dep d
 | .non,_=>rfl
 | .bl _,_=>rfl
 | .int _,_=>rfl
 | .str x,h=>rfl
 | .lst xs,h=>by rw[D.py,PyData.depth,dep,QBe xs h]
 | .tup xs,h=>by rw[D.py,PyData.depth,dep,QBe xs h]
theorem QBe:∀ ds:List D,layDs ds=true->PyData.depthAll (D.pys ds)=deps ds
 | [],_=>rfl
 | x::xs,h=>by
  rw[layDs,Bool.and_eq_true]at h
  rw[D.pys,PyData.depthAll,deps,QOW x h.1,QBe xs h.2]
end
theorem QFx{d:D}(h:layD d=true)(hd:dep d<=64):shp d=true:=by
 unfold shp SeqAt.shaped
 rw[QyG d h,QOW d h]
 simpa using hd
theorem QvV(i:Int):shp (.int i)=true:=QFx rfl (Nat.zero_le _)
theorem QPl{x y:D}(hx:shp x=true)(hy:shp y=true):dEq x y=.ok (.bl (PyData.eqv x.py y.py)):=by
 unfold dEq;rw[hx,hy];rfl
theorem QPD{x y:D}(hx:shp x=true)(hy:shp y=true):dNe x y=.ok (.bl (!PyData.eqv x.py y.py)):=by
 unfold dNe;rw[hx,hy];rfl
theorem QLu(i j:Int):(i == j)=decide (i=j):=by
 by_cases h:i=j
 ·subst h;simp
 ·simp[h]
theorem QC(i j:Int):dEq (.int i) (.int j)=.ok (.bl (decide (i=j))):=by
 rw[QPl (QvV i) (QvV j), ← QLu]
 rfl
theorem Qbo(i j:Int):dNe (.int i) (.int j)=.ok (.bl (!decide (i=j))):=by
 rw[QPD (QvV i) (QvV j), ← QLu]
 rfl
theorem QaE{n:Nat}(h:n<=1000:=by decide):fits n=true:=decide_eq_true (Nat.le_trans h (by decide))
theorem ixT{xs:List D}{x:D}(k:Nat)(h:xs[k]?=some x):dIx (.tup xs) (.int (k:Int))=.ok x:=by
 show optO (atI xs (k:Int))=_
 rw[QLn h];rfl
theorem ixL{xs:List D}{x:D}(k:Nat)(h:xs[k]?=some x):dIx (.lst xs) (.int (k:Int))=.ok x:=by
 show optO (atI xs (k:Int))=_
 rw[QLn h];rfl
theorem QSh(x:D)(xs:List D):dIx (.tup (x::xs)) (.int 0)=.ok x:=ixT 0 rfl
theorem QR9(x y:D)(xs:List D):dIx (.tup (x::y::xs)) (.int 1)=.ok y:=ixT 1 rfl
theorem QTb{α:Type}(xs:List α)(k:Nat):cutD xs none (some (k:Int))=xs.take k:=by
 unfold cutD
 rw[HT.sIx_none,HT.sIx_nat,List.drop_zero,Nat.sub_zero]
 by_cases h:k<=xs.length
 ·rw[Nat.min_eq_left h]
 ·rw[Nat.min_eq_right (by omega),List.take_of_length_le (Nat.le_refl _),List.take_of_length_le (by omega)]
theorem QQz{α:Type}(xs:List α)(k:Nat):cutD xs (some (k:Int)) none=xs.drop k:=by
 unfold cutD
 rw[HT.sIx_none,HT.sIx_nat]
 by_cases h:k<=xs.length
 ·rw[Nat.min_eq_left h,List.take_of_length_le (by rw[List.length_drop];exact Nat.le_refl _)]
 ·rw[Nat.min_eq_right (by omega),List.drop_length,List.drop_eq_nil_of_le (by omega)];simp
theorem QBC{xs ys:List D}(h:xs.length+ys.length<=1000):dCat (.lst xs) (.lst ys)=.ok (.lst (xs++ys)):=by
 show(if fits _=true then _ else _)=_
 rw[if_pos (QaE h)]
theorem QbH{g:D->SD->Out SD}{its:SD->Out (List D)}{T:SD->Out Fl}{ς:SD}{xs:List D}{r:Out Fl}(h:its ς=.ok xs)(hL:loopD (fun x ς=>g x ς>>=fun ς'=>T ς') xs ς=r):sFor g its T ς=r:=by
 unfold sFor
 rw[h];exact hL
theorem QcV{A:SD->Out D}{ς:SD}(m:Nat)(h:A ς=.ok (.int (m:Int)))(hm:m<=1000000):itR1 A ς=.ok (QbM 0 m):=by
 have hs:Qrn (m:Int)=true:=by
  unfold Qrn
  rw[Bool.and_eq_true]
  exact⟨decide_eq_true (by omega),decide_eq_true (by omega)⟩
 unfold itR1
 rw[h,Out.bind_ok]
 simp only[hs,if_true,Int.toNat_natCast]
end DL
namespace DL
open PySem PySem.Spec PyProof.Rows L2
theorem QbK{body:D->SD->Out Fl}{P:Nat->SD->Prop}{n:Nat}(h:∀ k:Nat,k<n->∀ ς,P k ς->∃ ς',body (.int (k:Int)) ς=.ok (.nx ς')/\P (k+1) ς'):∀ ς,P 0 ς->∃ ς',loopD body (QbM 0 n) ς=.ok (.nx ς')/\P n ς':=by
 have key:∀(j:Nat)(k:Nat),k+j=n->∀ ς,P k ς->∃ ς',loopD body ((List.range' k j).map fun(i:Nat)=>D.int ((0:Int)+i)) ς=.ok (.nx ς')/\P n ς':=by
  intro j
  induction j with
  | zero=>
   intro k hk ς p
   have:k=n:=by omega
   subst this
   exact⟨ς,rfl,p⟩
  | succ j ih=>
   intro k hk ς p
   obtain⟨ς1,e1,p1⟩:=h k (by omega) ς p
   obtain⟨ς2,e2,p2⟩:=ih (k+1) (by omega) ς1 p1
   refine⟨ς2,?_,p2⟩
   rw[List.range'_succ,List.map_cons,loopD,Int.zero_add,e1]
   exact e2
 intro ς p
 have:=key n 0 (by omega) ς p
 unfold QbM
 rw[List.range_eq_range']
 exact this
theorem QHt{f:D->Out (Option D)}{h:D->Option D}:∀{xs:List D},(∀ x∈xs,f x=.ok (h x))->compM f xs=.ok (xs.filterMap h)
 | [],_=>rfl
 | x::xs,hf=>by
  rw[compM,hf x List.mem_cons_self,Out.bind_ok,QHt (xs:=xs) (fun y hy=>hf y (List.mem_cons_of_mem _ hy)),Out.bind_ok,List.filterMap_cons]
  cases h x<;>rfl
theorem QvC{α:Type}(f:α->Bool):∀ xs:List α,blsOf (xs.map fun x=>D.bl (f x))=some (xs.map f)
 | []=>rfl
 | x::xs=>by rw[List.map_cons,blsOf,QvC f xs];rfl
theorem QxX{α:Type}(f:α->Bool)(xs:List α):fAll (.lst (xs.map fun x=>D.bl (f x)))=.ok (.bl (xs.all f)):=by
 rw[fAll,QvC]
 show Out.ok (D.bl ((xs.map f).all id))=_
 rw[List.all_map];rfl
theorem QQE{α:Type}(f:α->Bool)(xs:List α):fAny (.lst (xs.map fun x=>D.bl (f x)))=.ok (.bl (xs.any f)):=by
 rw[fAny,QvC]
 show Out.ok (D.bl ((xs.map f).any id))=_
 rw[List.any_map];rfl
theorem QqN{n:Nat}(h:n<=1000):fits n=true:=QaE h
end DL
namespace My
def shD(a b:Int):Int:=if b<0 then -(a.gcd b:Int) else(a.gcd b:Int)
def low(p q:Int):Prop:=1<=q/\p.gcd q=1
theorem Qjj{a b:Int}(h:b≠0):0<a.gcd b:=Int.gcd_pos_of_ne_zero_right a h
theorem QHk{a b:Int}(h:b≠0):shD a b≠0:=by
 have:=Qjj (a:=a) h
 unfold shD;split<;>omega
theorem QvP(a b:Int):(shD a b).natAbs=a.gcd b:=by
 unfold shD;split<;>omega
theorem QFQ(a b:Int):shD a b∣a:=by
 rw[← Int.natAbs_dvd,QvP];exact Int.gcd_dvd_left a b
theorem QDA(a b:Int):shD a b∣b:=by
 rw[← Int.natAbs_dvd,QvP];exact Int.gcd_dvd_right a b
theorem QHB{a b:Int}(h:b≠0):∃ x y,a=shD a b * x/\b=shD a b * y/\a.fdiv (shD a b)=x/\b.fdiv (shD a b)=y:=by
 obtain⟨x,hx⟩:=QFQ a b
 obtain⟨y,hy⟩:=QDA a b
 have hs:=QHk (a:=a) h
 refine⟨x,y,hx,hy,?_,?_⟩
 ·have e:a.fdiv (shD a b)=(shD a b * x).fdiv (shD a b):=congrArg (fun z=>Int.fdiv z (shD a b)) hx
  rw[e,Int.mul_fdiv_cancel_left x hs]
 ·have e:b.fdiv (shD a b)=(shD a b * y).fdiv (shD a b):=congrArg (fun z=>Int.fdiv z (shD a b)) hy
  rw[e,Int.mul_fdiv_cancel_left y hs]
theorem QiK{a b:Int}(h:b≠0):low (a.fdiv (shD a b)) (b.fdiv (shD a b)):=by
 obtain⟨x,y,hx,hy,e1,e2⟩:=QHB (a:=a) h
 rw[e1,e2]
 constructor
 ·have hs:=QHk (a:=a) h
  by_cases hb:b<0
  ·have hd:shD a b<0:=by
    have:=Qjj (a:=a) h
    unfold shD;rw[if_pos hb];omega
   rcases Int.lt_or_le 0 y with h0 | h0
   ·omega
   ·have:0<=shD a b * y:=Int.mul_nonneg_of_nonpos_of_nonpos (by omega) h0
    omega
  ·have hd:0<shD a b:=by
    have:=Qjj (a:=a) h
    unfold shD;rw[if_neg hb];omega
   rcases Int.lt_or_le 0 y with h0 | h0
   ·omega
   ·have:shD a b * y<=0:=Int.mul_nonpos_of_nonneg_of_nonpos (by omega) h0
    omega
 ·have g0:=Qjj (a:=a) h
  have e:a.gcd b=(shD a b).natAbs * x.gcd y:=by
   have e0:(shD a b * x).gcd (shD a b * y)=(shD a b).natAbs * x.gcd y:=Int.gcd_mul_left ..
   rw[← hx, ← hy]at e0
   exact e0
  rw[QvP]at e
  have:a.gcd b * 1=a.gcd b * x.gcd y:=by omega
  exact(Nat.eq_of_mul_eq_mul_left g0 this).symm
theorem QQR{a b:Int}(h:b≠0):(a.fdiv (shD a b)) * b=a * (b.fdiv (shD a b)):=by
 obtain⟨x,y,hx,hy,e1,e2⟩:=QHB (a:=a) h
 rw[e1,e2]
 generalize shD a b=s at *
 subst hx hy
 rw[Int.mul_assoc,Int.mul_left_comm]
theorem QrD{k m n:Int}(h:k∣m * n)(g:k.gcd m=1):k∣n:=by
 rw[← Int.natAbs_dvd_natAbs]at h ⊢
 rw[Int.natAbs_mul]at h
 exact Nat.Coprime.dvd_of_dvd_mul_left (show Nat.Coprime k.natAbs m.natAbs from g) h
theorem QNh{p q r s:Int}(h1:low p q)(h2:low r s)(e:p * s=r * q):p=r/\q=s:=by
 obtain⟨q1,g1⟩:=h1
 obtain⟨s1,g2⟩:=h2
 have d1:q∣s:=QrD (m:=p) ⟨r,by rw[e,Int.mul_comm]⟩ (by rw[Int.gcd_comm];exact g1)
 have d2:s∣q:=QrD (m:=r) ⟨p,by rw[← e,Int.mul_comm]⟩ (by rw[Int.gcd_comm];exact g2)
 have eq:q=s:=Int.dvd_antisymm (by omega) (by omega) d1 d2
 subst eq
 exact⟨Int.eq_of_mul_eq_mul_right (by omega) e,rfl⟩
theorem QGd(a b:Int):b.gcd (a % b)=a.gcd b:=by
 have h:a % b=a - b * (a / b):=Int.emod_def a b
 rw[h,Int.gcd_sub_mul_left_right,Int.gcd_comm]
end My
namespace DL
open PySem PySem.Spec L2
section
variable{i j:Nat}{d x y:D}{m:SM}{ς ς' ς1:SD}{E A B:SD->Out D}{AA:SD->Out (List D)}{f:D->Out D}{g:D->D->Out D}{h:List D->Out D}{r:Out D}{xs ys:List D}{T U:SD->Out Fl}{P Q:SD->Out Bool}{b c:Bool}{fl:Fl}{rf:Out Fl}{rb:Out Bool}
theorem r_var(e:ς[i]?=some (some (.k,d))):eVar i ς=.ok d:=by unfold eVar;rw[e]
theorem r_C:eC d ς=.ok d:=rfl
theorem r_e1(a:A ς=.ok x)(k:f x=r):e1 f A ς=r:=by unfold e1;rw[a];exact k
theorem r_e2(a:A ς=.ok x)(a':B ς=.ok y)(k:g x y=r):e2 g A B ς=r:=by unfold e2;rw[a,Out.bind_ok,a'];exact k
theorem r_eA(a:AA ς=.ok xs)(k:h xs=r):eA h AA ς=r:=by unfold eA;rw[a];exact k
theorem QTj{dd:List D}(a:AA ς=.ok xs)(e:xs++dd=ys)(k:h ys=r):eA (fun xs=>h (xs++dd)) AA ς=r:=by unfold eA;rw[a];show h (xs++dd)=r;rw[e];exact k
theorem r_nil:aNil ς=.ok []:=rfl
theorem QTA(a:A ς=.ok x)(k:AA ς=.ok xs):aCons A AA ς=.ok (x::xs):=by unfold aCons;rw[a,Out.bind_ok,k];rfl
theorem r_tup(a:AA ς=.ok xs)(k:xs.length<=1000):eTup AA ς=.ok (.tup xs):=by unfold eTup;rw[a,Out.bind_ok,if_pos (QqN k)]
theorem r_lst(a:AA ς=.ok xs)(k:xs.length<=1000):eLst AA ς=.ok (.lst xs):=by unfold eLst;rw[a,Out.bind_ok,if_pos (QqN k)]
theorem QTx(a:A ς=.ok (.bl b)):tVal A ς=.ok b:=by unfold tVal;rw[a];rfl
theorem QUt(a:P ς=.ok b):tNot' P ς=.ok (!b):=by unfold tNot';rw[a];rfl
theorem r_or'(a:P ς=.ok b)(k:(if b=true then .ok true else Q ς)=rb):tOr' P Q ς=rb:=by unfold tOr';rw[a];exact k
theorem QUz(a:P ς=.ok b)(k:(if b=true then Q ς else .ok false)=rb):tAnd' P Q ς=rb:=by unfold tAnd';rw[a];exact k
theorem QTc(a:A ς=.ok (.bl b))(k:(if b=true then B ς else .ok (.bl false))=r):eAnd A B ς=r:=by unfold eAnd;rw[a];cases b<;>exact k
theorem r_eIf(a:P ς=.ok b)(k:(if b=true then A ς else B ς)=r):eIf P A B ς=r:=by unfold eIf;rw[a];exact k
theorem r_isa{F:D->Out Bool}(a:A ς=.ok x)(k:F x=.ok b):eIsa F A ς=.ok (.bl b):=by unfold eIsa;rw[a,Out.bind_ok,k];rfl
theorem QRP{g':D->D->Out D}{E':SD->Out D}(a:A ς=.ok x)(a':B ς=.ok y)(k:g x y=.ok (.bl b))(k':(if b=true then E' ς>>=fun w=>g' y w else .ok (.bl false))=r):Qgl g g' A B E' ς=r:=by unfold Qgl;rw[a,Out.bind_ok,a',Out.bind_ok,k];cases b<;>exact k'
theorem QTf{z:D}(a:E ς=.ok z)(k:f z=r):(E ς>>=fun w=>f w)=r:=by rw[a];exact k
theorem r_set(a:E ς=.ok d)(k:ς.set i (some (.k,d))=ς'):sSet i E ς=.ok (.nx ς'):=by unfold sSet;rw[a,Out.bind_ok,k]
theorem QTL(a:E ς=.ok d)(k:ς.set i (some (.o,d))=ς'):sSetO i E ς=.ok (.nx ς'):=by unfold sSetO;rw[a,Out.bind_ok,k]
theorem r_seq(a:T ς=.ok fl)(k:thenF U fl=rf):sSeq T U ς=rf:=by unfold sSeq;rw[a];exact k
theorem r_okR{α:Type}{a:α}:(Out.ok a)=Out.ok a:=rfl
theorem QtY(k:U ς=rf):thenF U (.nx ς)=rf:=k
theorem QSs{z:Bool}:thenF U (.rt z d)=.ok (.rt z d):=rfl
theorem r_if(a:P ς=.ok b)(k:(if b=true then T ς else U ς)=rf):sIf P T U ς=rf:=by unfold sIf;rw[a];exact k
theorem QTd{α:Type}{u v w:α}(a:b=true)(k:u=w):(if b=true then u else v)=w:=by rw[if_pos a];exact k
theorem QTq{α:Type}{u v w:α}(a:b=false)(k:v=w):(if b=true then u else v)=w:=by subst a;exact k
theorem r_ret(a:E ς=.ok d):sRet E ς=.ok (.rt false d):=by unfold sRet;rw[a];rfl
theorem QTJ(a:E ς=.ok d):sRetF E ς=.ok (.rt true d):=by unfold sRetF;rw[a];rfl
theorem QT4(e:ς[i]?=some (some (.o,d))):sRetO i ς=.ok (.rt true d):=by unfold sRetO;rw[e]
theorem QUn:sNil ς=.ok (.nx ς):=rfl
theorem QLi{n:Nat}(k:n<=1000):decide (n<sizeLine)=true:=decide_eq_true (Nat.lt_of_le_of_lt k (by decide))
theorem r_app(e:ς[i]?=some (some (.o,.lst xs)))(a:E ς=.ok d)(k:xs.length<=1000)(l:ς.set i (some (.o,.lst (xs++[d])))=ς'):QbF i E ς=.ok (.nx ς'):=by
 unfold QbF;rw[e];show(E ς>>=fun d=>if decide (xs.length<sizeLine)=true then _ else _)=_;rw[a,Out.bind_ok,if_pos (QLi k),l]
theorem r_noX{α:Type}{o:Out α}{a:α}(k:o=.ok a):noX o=.ok a:=by rw[k];rfl
theorem r_sl{l u:SD->Out (Option Int)}{p q:Option Int}(a:A ς=.ok (.lst xs))(k1:l ς=.ok p)(k2:u ς=.ok q)(e:cutD xs p q=ys):eSl A l u ς=.ok (.lst ys):=by unfold eSl;rw[a,Out.bind_ok,k1,Out.bind_ok,k2,Out.bind_ok];show Out.ok (D.lst _)=_;rw[e]
theorem r_oNo:oNo ς=.ok none:=rfl
theorem QR0{k:Int}(a:E ς=.ok (.int k)):oSome E ς=.ok (some k):=by unfold oSome;rw[a];rfl
theorem QCY:Q6 [] [] ς=.ok ς:=rfl
theorem QCT{is:List Nat}{rs:Out SD}(a:ς.set i (some (.k,d))=ς1)(k:Q6 is ys ς1=rs):Q6 (i::is) (d::ys) ς=rs:=by show Q6 is ys (ς.set i (some (.k,d)))=rs;rw[a];exact k
theorem r_unp{is:List Nat}(a:E ς=.ok (.tup ys))(k:Q6 is ys ς=.ok ς'):sUnp is E ς=.ok (.nx ς'):=by unfold sUnp;rw[a,Out.bind_ok];show(Q6 is ys ς>>=_)=_;rw[k];rfl
theorem QS3{fr:Bool}(a:T ς=.ok fl)(k:retF fr fl=r):(T ς>>=retF fr)=r:=by rw[a];exact k
theorem r_rt{z:Bool}:retF false (.rt z d)=.ok d:=by unfold retF;simp
theorem r_rtT:retF true (.rt true d)=.ok d:=by unfold retF;simp
theorem r_gN{L:SD->Out Fl}(a:ς.set i (some (.k,d))=ς1)(k:L ς1=rf):(gN i d ς>>=fun ς'=>L ς')=rf:=by unfold gN;rw[a];exact k
theorem r_gT{L:SD->Out Fl}{is:List Nat}(a:Q6 is ys ς=.ok ς1)(k:L ς1=rf):(gT is (.tup ys) ς>>=fun ς'=>L ς')=rf:=by unfold gT;show(Q6 is ys ς>>=fun ς'=>L ς')=rf;rw[a];exact k
theorem QTZ{cl:Str}{fds:List (Str×D)}{mk:Str->List (Str×D)->List D->Out (List (Str×D))}(a:AA ς=.ok xs)(k:mk cl [] xs=.ok fds):eMake cl mk AA ς=.ok (.ins cl fds):=by unfold eMake;rw[a,Out.bind_ok,k];rfl
theorem QRv{cs:List Str}{n cl:Str}{fds fds':List (Str×D)}{mk:Str->List (Str×D)->List D->Out (List (Str×D))}(e:ς[i]?=some (some (.s,.ins cl fds)))(k1:cs.contains cl=true)(k2:fds.lookup n=none)(a:AA ς=.ok xs)(k:mk cl fds xs=.ok fds')(l:ς.set i (some (.s,.ins cl fds'))=ς'):QkO cs n mk i AA ς=.ok (.nx ς'):=by
 unfold QkO;rw[e]
 show(if (cs.contains cl&&(fds.lookup n).isNone)=true then _ else _)=_
 rw[k1,k2]
 show(AA ς>>=_)=_
 rw[a,Out.bind_ok,k,Out.bind_ok,l]
theorem r_itL(a:E ς=.ok (.lst xs)):itL E ς=.ok xs:=by unfold itL;rw[a];rfl
end
theorem QTN{T:SD->Out Fl}{ς τ:SD}{c:Str}{fds:List (Str×D)}(a:T ς=.ok (.nx (some (.s,.ins c fds)::τ))):(T ς>>=Qgu c)=.ok fds:=by
 rw[a];simp[Qgu,Qt6]
theorem c_nil{ς:SD}:captD [] ς=[]:=rfl
theorem QhC{ς τ:SD}{js:List (Option Nat)}(k:captD js ς=τ):captD (none::js) ς=none::τ:=by rw[← k];rfl
theorem c_k{ς τ:SD}{js:List (Option Nat)}{j:Nat}{d:D}(e:ς[j]?=some (some (.k,d)))(k:captD js ς=τ):captD (some j::js) ς=some (.k,d)::τ:=by
 rw[← k];show captS ς j::_=_;unfold captS;rw[e];rfl
theorem Qax{js:List (Option Nat)}{i:Nat}{e:SD->Out D}{ς τ0 τ:SD}{x d:D}(c:captD js ς=τ0)(a:τ0.set i (some (.k,x))=τ)(k:e τ=.ok d):turnC js (gN i) cTrue e ς x=.ok (some d):=by
 unfold turnC gN cTrue
 rw[c,a,Out.bind_ok,Out.bind_ok,if_pos rfl,k];rfl
theorem QCl{js:List (Option Nat)}{is:List Nat}{e:SD->Out D}{ς τ0 τ:SD}{xs:List D}{d:D}(c:captD js ς=τ0)(a:Q6 is xs τ0=.ok τ)(k:e τ=.ok d):turnC js (gT is) cTrue e ς (.tup xs)=.ok (some d):=by
 unfold turnC gT cTrue
 show((Q6 is xs (captD js ς))>>=_)=_
 rw[c,a,Out.bind_ok,Out.bind_ok,if_pos rfl,k];rfl
theorem Qau{α:Type}{js:List (Option Nat)}{its:SD->Out (List D)}{g:D->SD->Out SD}{e:SD->Out D}{ς:SD}{l:List α}(f:α->D)(h:α->D)(hi:its ς=.ok (l.map f))(ht:∀ x∈l,turnC js g cTrue e ς (f x)=.ok (some (h x)))(hl:l.length<=1000):
 eComp js its g cTrue e ς=.ok (.lst (l.map h)):=by
 have go:∀ l:List α,(∀ x∈l,turnC js g cTrue e ς (f x)=.ok (some (h x)))->compM (turnC js g cTrue e ς) (l.map f)=.ok (l.map h):=by
  intro l
  induction l with
  | nil=>intro _;rfl
  | cons x xs ih=>
   intro H
   have h1:=H x (List.mem_cons_self ..)
   have h2:=ih fun y hy=>H y (List.mem_cons_of_mem _ hy)
   show compM (turnC js g cTrue e ς) (f x::xs.map f)=_
   unfold compM
   rw[h1,Out.bind_ok,h2];rfl
 unfold eComp
 rw[hi,Out.bind_ok,go l ht,Out.bind_ok,if_pos (QqN (by rw[List.length_map];exact hl))]
theorem QjM{js:List (Option Nat)}{its:SD->Out (List D)}{g:D->SD->Out SD}{e:SD->Out D}{ς:SD}{n:Nat}(h:Nat->D)(hi:its ς=.ok (QbM 0 n))(ht:∀ k:Nat,k<n->turnC js g cTrue e ς (.int (k:Int))=.ok (some (h k)))(hl:n<=1000):
 eComp js its g cTrue e ς=.ok (.lst ((List.range n).map h)):=by
 refine Qau (fun i:Nat=>D.int (0+(i:Int))) h hi (fun k hk=>?_) (by rw[List.length_range];exact hl)
 show turnC js g cTrue e ς (.int (0+(k:Int)))=_
 rw[Int.zero_add]
 exact ht k (List.mem_range.mp hk)
theorem r_get{ς:SD}{i:Nat}{m:SM}{d:D}(h:ς[i]?=some (some (m,d))):ς[i]?=some (some (m,d)):=h
theorem r_len{n:Nat}(h:n<=1000):n<=1000:=h
theorem QUa{i:Int}{n:Nat}(h:bitsI i<=n):bitsI i<=n:=h
theorem r_dec{m n:Nat}(h:decide (m<=n)=true):decide (m<=n)=true:=h
theorem r_id{α:Type}{a b:α}(h:a=b):a=b:=h
theorem QSD{n:Str}:List.lookup n ([]:List (Str×D))=none:=rfl
theorem QSZ{α:Type}{x:α}{xs:List α}:(x::xs)[0]?=some x:=rfl
theorem QT9{α:Type}{x:α}{xs:List α}{n:Nat}{r:Option α}(h:xs[n]?=r):(x::xs)[n+1]?=r:=by rw[List.getElem?_cons_succ];exact h
theorem QOw{α:Type}{x y:α}{xs:List α}:(x::xs).set 0 y=y::xs:=rfl
theorem QOU{α:Type}{x y:α}{xs ys:List α}{n:Nat}(h:xs.set n y=ys):(x::xs).set (n+1) y=x::ys:=by rw[List.set_cons_succ,h]
theorem QTi{α:Type}{ys:List α}:[]++ys=ys:=rfl
theorem QTm{α:Type}{x:α}{xs ys zs:List α}(h:xs++ys=zs):x::xs++ys=x::zs:=by rw[List.cons_append,h]
theorem QuK{i:Int}(h:decide (i.natAbs<2 ^ 300)=true):bitsI i<=300:=QS (of_decide_eq_true h)
theorem QS1{i j:Int}{m n:Nat}(a:bitsI i<=m)(b:bitsI j<=n):bitsI (i+j)<=m+n+1:=by
 have a:=Qc3 a
 have b:=Qc3 b
 refine QS ?_
 have c1:2 ^ m<=2 ^ (m+n):=Nat.pow_le_pow_right (by decide) (by omega)
 have c2:2 ^ n<=2 ^ (m+n):=Nat.pow_le_pow_right (by decide) (by omega)
 rw[Nat.pow_succ]
 omega
theorem QO2{i:Int}{m:Nat}(a:bitsI i<=m):bitsI (-i)<=m:=by
 have a:=Qc3 a
 exact QS (by omega)
theorem Qd4{i j:Int}{m n:Nat}(a:bitsI i<=m)(b:bitsI j<=n):bitsI (i * j)<=m+n:=by
 have a:=Qc3 a
 have b:=Qc3 b
 refine QS ?_
 rw[Int.natAbs_mul,Nat.pow_add]
 exact Nat.mul_lt_mul'' a b
theorem QSX{i j:Int}{n:Nat}(h:0<j)(b:bitsI j<=n):bitsI (i % j)<=n:=by
 have b:=Qc3 b
 have h1:=Int.emod_nonneg i (show j≠0 by omega)
 have h2:=Int.emod_lt_of_pos i h
 exact QS (by omega)
theorem QkJ{i j:Int}{n:Nat}(a:bitsI i<=n):bitsI (i / j)<=n:=by
 have a:=Qc3 a
 exact QS (Nat.lt_of_le_of_lt (Int.natAbs_ediv_le_natAbs i j) a)
theorem QuC{n m:Nat}(h:n<2 ^ m):bitsI (n:Int)<=m:=QS (by simpa using h)
theorem bd_in{i:Int}{n:Nat}(h0:0<=i)(h:i<2 ^ n):bitsI i<=n:=QS (by
 have:((2 ^ n:Nat):Int)=2 ^ n:=by simp
 omega)
theorem r_mul{i j:Int}{m n:Nat}(hi:bitsI i<=m)(hj:bitsI j<=n)(h:decide (m+n<=134217728)=true):dMul (.int i) (.int j)=.ok (.int (i * j)):=QLv hi hj (of_decide_eq_true h)
theorem QUq{i j:Int}{n:Nat}(h:0<j)(hj:bitsI j<=n)(hn:decide (n<=9000)=true):dFdiv (.int i) (.int j)=.ok (.int (i / j)):=QCU h (QGA (Qc3 hj) (of_decide_eq_true hn))
end DL
namespace Bar
def sm:Nat->(Nat->Rat)->Rat
 | 0,_=>0
 | n+1,f=>sm n f+f n
theorem sm_congr:∀{n:Nat}{f g:Nat->Rat},(∀ i,i<n->f i=g i)->sm n f=sm n g
 | 0,_,_,_=>rfl
 | n+1,f,g,h=>by
  show sm n f+f n=sm n g+g n
  rw[sm_congr fun i hi=>h i (by omega),h n (by omega)]
theorem sm_add:∀(n:Nat)(f g:Nat->Rat),sm n (fun i=>f i+g i)=sm n f+sm n g
 | 0,_,_=>by simp[sm,Rat.zero_add]
 | n+1,f,g=>by
  show sm n (fun i=>f i+g i)+(f n+g n)=(sm n f+f n)+(sm n g+g n)
  rw[sm_add n f g];grind
theorem sm_mul:∀(n:Nat)(c:Rat)(f:Nat->Rat),sm n (fun i=>c * f i)=c * sm n f
 | 0,c,_=>by simp[sm,Rat.mul_zero]
 | n+1,c,f=>by
  show sm n (fun i=>c * f i)+c * f n=c * (sm n f+f n)
  rw[sm_mul n c f];grind
theorem sm_zero:∀{n:Nat}{f:Nat->Rat},(∀ i,i<n->f i=0)->sm n f=0
 | 0,_,_=>rfl
 | n+1,f,h=>by
  show sm n f+f n=0
  rw[sm_zero fun i hi=>h i (by omega),h n (by omega)];grind
abbrev Mx:=Nat->Nat->Rat
def S:Nat->Mx->Mx
 | 0,A=>A
 | k+1,A=>fun i j=>S k A i j - S k A i k / S k A k k * S k A k j
def p:Nat->Mx->Rat
 | 0,_=>1
 | k+1,A=>p k A * S k A k k
def isZ(x:Rat):Prop:=∃ z:Int,x=(z:Rat)
structure Sgn(A:Mx)(n:Nat):Prop where
 off:∀ i j,i<n->j<n->i≠j->A i j<=0
 one:∀ i,i<n->0<A i n
def Xl(A:Mx)(n:Nat):Nat->Nat->Rat
 | 0,_=>0
 | m+1,c=>if c+(m+1)=n then(S c A c n - sm m (fun e=>S c A c (c+1+e) * Xl A n m (c+1+e))) / S c A c c else Xl A n m c
def X(A:Mx)(n c:Nat):Rat:=Xl A n n c
end Bar
namespace Bar
def E(A:Mx)(m i j:Nat):Int:=(p m A * S m A i j).num
def P(A:Mx)(k:Nat):Int:=(p k A).num
section
variable{A:Mx}(hz:∀ i c,isZ (A i c))
include hz
end
section
variable{A:Mx}(hz:∀ i c,isZ (A i c))
include hz
end
end Bar
set_option maxHeartbeats 4000000
namespace My
open PySem PySem.Spec L2 DL
def top(i:Nat):Stmt:=PySem.Challenge.pw_dockethall_k57_book.main.body.getD i (.Pass ⟨0,0,0,0⟩)
def Qj:List Str:=["Deal","Bundle","Copy","Rows","Office"]
def Qd:List Str:=["Deal","Bundle","Copy","Rows"]
def QaF:List Str:=["Office"]
abbrev QcN:Stmt:=top 56
theorem QJJ:Qo ["_law_script","_law_k"] ["_law_script","_law_k"] (Qa QcN):=⟨rfl,rfl,rfl,dk,rfl,dk,dk⟩
noncomputable section
abbrev Lo(s:Stmt)(n:String):Prop:=(Qa s).names.lookup (n:Str)=some NameKind.local
abbrev Gl(s:Stmt)(n:String):Prop:=(Qa s).names.lookup (n:Str)=some NameKind.globalImplicit
variable{P:Program}{w:World}{K:PySem.W.Frag}{mg:Str->Option Value}{base:Heap}{CT:CTab}{f:Addr}{fd:FuncData}{dV:Value}
theorem Qme:Lo QcN "_law_k":=dk
theorem Qhw:Lo QcN "_law_script":=dk
theorem QB4:Gl QcN "len":=dk
def QiX:SD->Out Fl:=(sSeq (sIf (tVal (e2 dLt (eVar 1) (eA fLen (aCons (eVar 0) aNil)))) (sRet (e2 dIx (eVar 0) (eVar 1))) sNil) (sRet (eC (.int 0))))
def QbV:List D->Out D:=bodyF false 2 2 QiX
theorem Qzh(d0 d1:D):QbV [d0,d1]=(QiX [some (.k,d0),some (.k,d1)]>>=retF false):=rfl
theorem QMh(F:FunV K "_law_cell" "_law_cell" QcN f fd dV)(z_len:mg "len"=none):FnOk P w K mg base CX0 1 f fd ["_law_script","_law_k"] (SpD K CT false QbV):=
 @fnV P w K mg base CT false "_law_cell" "_law_cell" QcN f fd dV ["_law_script","_law_k"] ["_law_script","_law_k"] 0 QiX F QJJ fun cdv A outer s H E G hr=>
  (Qf (ds_if (dt_lt (DE.db (Qb 1 rfl (oi Qme))) (DE.db (QaD QB4 z_len (Qu (DE.db (Qb 0 rfl (oi Qhw))) Qy)))) (Qh (QA (de_ix (Qb 0 rfl (oi Qhw)) (DE.db (Qb 1 rfl (oi Qme)))))) Q1) (Qh (QA Qe)))
abbrev Qcf:Stmt:=top 58
theorem Qns:Qo ["_law_cell_here","_law_k","_law_number"] ["_law_cell_here","_law_k"] (Qa Qcf):=⟨rfl,rfl,rfl,dk,rfl,dk,dk⟩
theorem QlJ:Lo Qcf "_law_cell_here":=dk
theorem QgE:Lo Qcf "_law_k":=dk
theorem Qbv:Lo Qcf "_law_number":=dk
def Qkq:SD->Out Fl:=(sSeq (sSet 2 (e2 dMul (e2 dAdd (e2 dAdd (e2 dAdd (e2 dMod (eVar 0) (eC (.int 1000000007))) (e2 dMul (e2 dMul (eC (.int 7919)) (eVar 1)) (eVar 1))) (e2 dMul (eC (.int 31)) (eVar 1))) (eC (.int 1))) (eC (.int 6364136223846793005)))) (sSeq (sSet 2 (e2 dMod (eVar 2) (eC (.int 2305843009213693951)))) (sRet (e2 dMod (e2 dMul (eVar 2) (eVar 2)) (eC (.int 2305843009213693951))))))
def Qx:List D->Out D:=bodyF false 2 3 Qkq
theorem QIE(d0 d1:D):Qx [d0,d1]=(Qkq [some (.k,d0),some (.k,d1),none]>>=retF false):=rfl
theorem QJp(F:FunV K "_law_mixed" "_law_mixed" Qcf f fd dV)  : FnOk P w K mg base CX0 1 f fd ["_law_cell_here","_law_k"] (SpD K CT false Qx):=
 @fnV P w K mg base CT false "_law_mixed" "_law_mixed" Qcf f fd dV ["_law_cell_here","_law_k","_law_number"] ["_law_cell_here","_law_k"] 0 Qkq F Qns fun cdv A outer s H E G hr=>
  (Qf (Qv (i:=2) Qns.nd rfl (oi Qbv) (Qa2 (DE.db (QaO (DE.db (QaO (DE.db (QaO (DE.db (QaN (DE.db (Qb 0 rfl (oi QlJ))) (DE.db Qe))) (DE.db (Qa2 (DE.db (Qa2 (DE.db Qe) (DE.db (Qb 1 rfl (oi QgE))))) (DE.db (Qb 1 rfl (oi QgE))))))) (DE.db (Qa2 (DE.db Qe) (DE.db (Qb 1 rfl (oi QgE))))))) (DE.db Qe))) (DE.db Qe))) (Qf (Qv (i:=2) Qns.nd rfl (oi Qbv) (QaN (DE.db (Qb 2 rfl (oi Qbv))) (DE.db Qe))) (Qh (QA (QaN (DE.db (Qa2 (DE.db (Qb 2 rfl (oi Qbv))) (DE.db (Qb 2 rfl (oi Qbv))))) (DE.db Qe))))))
abbrev QaS:Stmt:=top 64
theorem QhN:Qo ["_law_number","_law_many","_law_found","_law_k"] ["_law_number","_law_many"] (Qa QaS):=⟨rfl,rfl,rfl,dk,rfl,dk,dk⟩
theorem QdN:Lo QaS "_law_found":=dk
theorem QpW:Lo QaS "_law_many":=dk
theorem Qu1:Gl QaS "range":=dk
theorem Qto:Lo QaS "_law_k":=dk
theorem Qdv:Lo QaS "_law_number":=dk
def QeO:SD->Out Fl:=(sSeq (QbF 2 (e2 dIx (eLst (aCons (eC (.int 0)) (aCons (eC (.int 1)) (aCons (eC (.int 0)) (aCons (eC (.int 2)) (aCons (eC (.int 1)) (aCons (eC (.int 0)) (aCons (eC (.int 1)) (aCons (eC (.int 0)) aNil))))))))) (e2 dMod (eVar 0) (eC (.int 8))))) (sSet 0 (e2 dFdiv (eVar 0) (eC (.int 8)))))
def QiA:SD->Out Fl:=(sSeq (sSetO 2 (eLst aNil)) (sSeq (sFor (gN 3) (itR1 (eVar 1)) QeO) (sRetO 2)))
def QcZ:List D->Out D:=bodyF true 2 4 QiA
theorem QGe(d0 d1:D):QcZ [d0,d1]=(QiA [some (.k,d0),some (.k,d1),none,none]>>=retF true):=rfl
theorem QE6(F:FunV K "_law_counts" "_law_counts" QaS f fd dV)(z_range:mg "range"=none):FnOk P w K mg base CX0 1 f fd ["_law_number","_law_many"] (SpD K CT true QcZ):=
 @fnV P w K mg base CT true "_law_counts" "_law_counts" QaS f fd dV ["_law_number","_law_many","_law_found","_law_k"] ["_law_number","_law_many"] 0 QiA F QhN fun cdv A outer s H E G hr=>
  (Qf (Qe2 (i:=2) QhN.nd rfl (oi QdN) (QbJ Qg)) (Qf (Qb3 PassesOwn.never rfl (Qa1 Qu1 z_range (DE.db (Qb 1 rfl (oi QpW)))) (Qz (i:=3) QhN.nd rfl (oi Qto)) (Qt _) (Qf (QcW 2 (de_ix (DF.de (QbJ (Qc Qe (Qc Qe (Qc Qe (Qc Qe (Qc Qe (Qc Qe (Qc Qe (Qc Qe Qg)))))))))) (DE.db (QaN (DE.db (Qb 0 rfl (oi Qdv))) (DE.db Qe)))) rfl (oi QdN)) (Qh (Qv (i:=0) QhN.nd rfl (oi Qdv) (QbE (DE.db (Qb 0 rfl (oi Qdv))) (DE.db Qe)))))) (Qh (QmU 2 rfl (oi QdN)))))
abbrev Qah:Stmt:=top 65
theorem QfL:Qo ["_law_number","_law_kind","_law_size","_law_rows_here","_law_s"] ["_law_number"] (Qa Qah):=⟨rfl,rfl,rfl,dk,rfl,dk,dk⟩
theorem QbL:Lo Qah "_law_number":=dk
theorem Qbr:Lo Qah "_law_kind":=dk
theorem Qcp:Lo Qah "_law_size":=dk
theorem QaB:Lo Qah "_law_rows_here":=dk
theorem QnG:Gl Qah "range":=dk
theorem QeD:(Qa Qah).names.lookup ("_law_s":Str)=some NameKind.cell:=dk
abbrev QhY:PySem.Scope:={ kind:=PySem.ScopeKind.function,names:=[ (PySem.Str.ofString ".0",PySem.NameKind.local),(PySem.Str.ofString "_law_k",PySem.NameKind.local),(PySem.Str.ofString "int",PySem.NameKind.globalImplicit),(PySem.Str.ofString "_law_s",PySem.NameKind.free)],isGenerator:=false,isCoroutine:=false,more:=[]:PySem.Scope }
theorem QuW:QI ["_law_k","_law_s"] [none,some 4] QhY (Qa Qah) ["_law_number","_law_kind","_law_size","_law_rows_here","_law_s"]:=⟨rfl,dk,dk,rfl,dk,dk⟩
theorem Qfz:(Qi QhY (Qa Qah)).names.lookup ("_law_k":Str)=some NameKind.local:=dk
theorem Qsi:(Qi QhY (Qa Qah)).names.lookup ("_law_s":Str)=some NameKind.cell:=dk
theorem Qv3:(Qi QhY (Qa Qah)).names.lookup ("int":Str)=some NameKind.globalImplicit:=dk
def QnY:SD->Out D:=(eA (f1 dInt) (aCons (e2 dEq (eVar 0) (eVar 1)) aNil))
theorem QCd:Gl Qah "int":=dk
theorem Qhx:Gl Qah "_law_counts":=dk
def Qap:SD->Out Fl:=(sSeq (sIf (tVal (e2 dEq (eVar 1) (eC (.int 0)))) (QbF 3 (eComp [none,some 4] (itR1 (eVar 2)) (gN 0) cTrue QnY)) sNil) (sSeq (sIf (tVal (e2 dEq (eVar 1) (eC (.int 1)))) (QbF 3 (eLst (aCons (eA (f1 dInt) (aCons (e2 dEq (eVar 4) (e2 dSub (eVar 2) (eC (.int 1)))) aNil)) aNil))) sNil) (sIf (tVal (e2 dEq (eVar 1) (eC (.int 3)))) (QbF 3 (eA (fun xs=>QcZ (xs++[])) (aCons (e2 dAdd (e2 dFdiv (eVar 0) (eC (.int 64))) (e2 dMul (e2 dMul (eC (.int 48271)) (eVar 4)) (eVar 4))) (aCons (e2 dMod (e2 dFdiv (eVar 0) (eC (.int 16))) (eC (.int 4))) aNil)))) sNil)))
def Qfb:SD->Out Fl:=(sSeq (sSet 1 (e2 dMod (eVar 0) (eC (.int 4)))) (sSeq (sSet 2 (e2 dAdd (eC (.int 1)) (e2 dMod (e2 dFdiv (eVar 0) (eC (.int 4))) (eC (.int 4))))) (sSeq (sSetO 3 (eLst aNil)) (sSeq (sFor (gN 4) (itR1 (eVar 2)) Qap) (sSeq (sIf (tVal (e2 dEq (eVar 1) (eC (.int 2)))) (sSetO 3 (eLst (aCons (eA (fun xs=>QcZ (xs++[])) (aCons (e2 dFdiv (eVar 0) (eC (.int 64))) (aCons (e2 dSub (eVar 2) (eC (.int 1))) aNil))) aNil))) sNil) (fun ς=>(sRet (eTup (aCons (eVar 1) (aCons (eVar 3) aNil)))) (frz 3 ς)))))))
def QdX:List D->Out D:=bodyF false 1 5 Qfb
theorem Qmv(d0:D):QdX [d0]=(Qfb [some (.k,d0),none,none,none,none]>>=retF false):=rfl
theorem QLA(F:FunV K "_law_rows" "_law_rows" Qah f fd dV)(Qt2:DefOk P w K mg base CT "_law_counts" 1 true [] QcZ)(z_range:mg "range"=none)(z_int:mg "int"=none):FnOk P w K mg base CX0 2 f fd ["_law_number"] (SpD K CT false QdX):=
 @fnV P w K mg base CT false "_law_rows" "_law_rows" Qah f fd dV ["_law_number","_law_kind","_law_size","_law_rows_here","_law_s"] ["_law_number"] 1 Qfb F QfL fun cdv A outer s H E G hr=>
  (Qf (Qv (i:=1) QfL.nd rfl (oi Qbr) (QaN (DE.db (Qb 0 rfl (oi QbL))) (DE.db Qe))) (Qf (Qv (i:=2) QfL.nd rfl (oi Qcp) (QaO (DE.db Qe) (DE.db (QaN (DE.db (QbE (DE.db (Qb 0 rfl (oi QbL))) (DE.db Qe))) (DE.db Qe))))) (Qf (Qe2 (i:=3) QfL.nd rfl (oi QaB) (QbJ Qg)) (Qf (Qb3 PassesOwn.never rfl (Qa1 QnG z_range (DE.db (Qb 2 rfl (oi Qcp)))) (Qz (i:=4) QfL.nd rfl (Or.inr QeD)) (Qt _) (Qf (ds_if (dt_eq hr.units (DE.db (Qb 1 rfl (oi Qbr))) (DE.db Qe)) (Qh (QcW 3 (DF.de (Q4 rfl QuW (DI.b (Qa1 QnG z_range (DE.db (Qb 2 rfl (oi Qcp))))) (fun ς=>QO (Qs rfl ς)) (Qt _) (fun fp s H G p=>⟨(Qz (i:=0) QuW.nd rfl (oi Qfz) (hf:=Or.inr Qfz)),QN,(QLe Qv3 z_int (Qu (DE.db (de_eq hr.units (DE.db (Qb 0 rfl (oi Qfz))) (DE.db (Qb 1 rfl (Or.inr (oi Qsi)))))) Qy))⟩))) rfl (oi QaB))) Q1) (Qf (ds_if (dt_eq hr.units (DE.db (Qb 1 rfl (oi Qbr))) (DE.db Qe)) (Qh (QcW 3 (DF.de (QbJ (Qc (QLe QCd z_int (Qu (DE.db (de_eq hr.units (DE.db (Qb 4 rfl (Or.inr (oi QeD)))) (DE.db (Qdg (DE.db (Qb 2 rfl (oi Qcp))) (DE.db Qe))))) Qy)) Qg))) rfl (oi QaB))) Q1) (Qh (ds_if (dt_eq hr.units (DE.db (Qb 1 rfl (oi Qbr))) (DE.db Qe)) (Qh (QcW 3 (de_f Qt2 (hr.mono (by decide)) (Qc (QaO (DE.db (QbE (DE.db (Qb 0 rfl (oi QbL))) (DE.db Qe))) (DE.db (Qa2 (DE.db (Qa2 (DE.db Qe) (DE.db (Qb 4 rfl (Or.inr (oi QeD)))))) (DE.db (Qb 4 rfl (Or.inr (oi QeD))))))) (Qc (QaN (DE.db (QbE (DE.db (Qb 0 rfl (oi QbL))) (DE.db Qe))) (DE.db Qe)) Qg)) Qhx) rfl (oi QaB))) Q1))))) (Qf (ds_if (dt_eq hr.units (DE.db (Qb 1 rfl (oi Qbr))) (DE.db Qe)) (Qh (Qe2 (i:=3) QfL.nd rfl (oi QaB) (QbJ (Qc (de_f Qt2 (hr.mono (by decide)) (Qc (QbE (DE.db (Qb 0 rfl (oi QbL))) (DE.db Qe)) (Qc (Qdg (DE.db (Qb 2 rfl (oi Qcp))) (DE.db Qe)) Qg)) Qhx) Qg)))) Q1) (Qh (Qyp 3 (QA (Qdh (Qc (Qb 1 rfl (oi Qbr)) (Qc (Qb 3 rfl (oi QaB)) Qg)))))))))))
abbrev QM:Stmt:=top 66
theorem QaL:Qo ["_law_script","_law_first","_law_many","_law_doors","_law_ring","_law_plan_here","_law_k","_law_number","_law_kind","_law_rows_here","_law_leads","_law_o","_law_to"] ["_law_script"] (Qa QM):=⟨rfl,rfl,rfl,dk,rfl,dk,dk⟩
theorem Qhy:Lo QM "_law_script":=dk
theorem Qjo:Gl QM "_law_cell":=dk
theorem Qc6:Lo QM "_law_first":=dk
theorem Qb4:Gl QM "_law_mixed":=dk
theorem Qbq:Lo QM "_law_many":=dk
theorem Qc5:Lo QM "_law_doors":=dk
theorem QiE:Lo QM "_law_ring":=dk
theorem Qdk:Lo QM "_law_plan_here":=dk
theorem Qn3:Gl QM "range":=dk
theorem Qey:Lo QM "_law_k":=dk
theorem QcL:Lo QM "_law_number":=dk
theorem QrW:Gl QM "_law_rows":=dk
theorem Qb9:Lo QM "_law_rows_here":=dk
theorem Qje:Lo QM "_law_kind":=dk
theorem Qe1:Lo QM "_law_leads":=dk
theorem Qq2:Gl QM "len":=dk
theorem Ql8:Lo QM "_law_o":=dk
theorem Qa5:Lo QM "_law_to":=dk
def Qgn:SD->Out Fl:=(sSeq (sSet 12 (e2 dMod (eA (fun xs=>Qx (xs++[])) (aCons (eVar 7) (aCons (eVar 11) aNil))) (e2 dAdd (eVar 2) (eVar 3)))) (sSeq (sIf (tAnd' (tNot' (tVal (eVar 4))) (tVal (e2 dLe (eVar 12) (eVar 6)))) (sSet 12 (e2 dAdd (eVar 2) (e2 dMod (eVar 12) (eVar 3)))) sNil) (QbF 10 (eIf (tVal (e2 dLt (eVar 12) (eVar 2))) (eVar 12) (e2 dSub (e2 dSub (eVar 2) (eC (.int 1))) (eVar 12))))))
def QiO:SD->Out Fl:=(sSeq (sSet 7 (eA (fun xs=>Qx (xs++[])) (aCons (eA (fun xs=>QbV (xs++[])) (aCons (eVar 0) (aCons (e2 dAdd (eC (.int 1)) (eVar 6)) aNil))) (aCons (e2 dAdd (eVar 6) (eC (.int 3))) aNil)))) (sSeq (sUnp [8,9] (eA (fun xs=>QdX (xs++[])) (aCons (e2 dFdiv (eVar 7) (eC (.int 7))) aNil))) (sSeq (sSetO 10 (eLst aNil)) (sSeq (sFor (gN 11) (itR1 (eA fLen (aCons (e2 dIx (eVar 9) (eC (.int 0))) aNil))) Qgn) (fun ς=>(QbF 5 (eTup (aCons (eVar 8) (aCons (eVar 9) (aCons (eVar 10) (aCons (e2 dMod (e2 dMod (eVar 7) (eC (.int 7))) (eA fLen (aCons (eVar 9) aNil))) aNil)))))) (frz 10 ς))))))
def Qmj:SD->Out Fl:=(sSeq (sSet 1 (eA (fun xs=>QbV (xs++[])) (aCons (eVar 0) (aCons (eC (.int 0)) aNil)))) (sSeq (sSet 2 (e2 dAdd (eC (.int 1)) (e2 dMod (eA (fun xs=>Qx (xs++[])) (aCons (eVar 1) (aCons (eC (.int 0)) aNil))) (eC (.int 5))))) (sSeq (sSet 3 (e2 dAdd (eC (.int 1)) (e2 dMod (eA (fun xs=>Qx (xs++[])) (aCons (eVar 1) (aCons (eC (.int 1)) aNil))) (eC (.int 3))))) (sSeq (sSet 4 (e2 dEq (e2 dMod (eA (fun xs=>Qx (xs++[])) (aCons (eVar 1) (aCons (eC (.int 2)) aNil))) (eC (.int 2))) (eC (.int 1)))) (sSeq (sSetO 5 (eLst aNil)) (sSeq (sFor (gN 6) (itR1 (eVar 2)) QiO) (fun ς=>(sRet (eTup (aCons (eVar 5) (aCons (eVar 3) aNil)))) (frz 5 ς))))))))
def Qfj:List D->Out D:=bodyF false 1 13 Qmj
theorem QMt(d0:D):Qfj [d0]=(Qmj [some (.k,d0),none,none,none,none,none,none,none,none,none,none,none,none]>>=retF false):=rfl
theorem QNx(F:FunV K "_law_plan" "_law_plan" QM f fd dV)(Qyg:DefOk P w K mg base CT "_law_cell" 1 false [] QbV)(QaY:DefOk P w K mg base CT "_law_mixed" 1 false [] Qx)(QMA:DefOk P w K mg base CT "_law_rows" 2 false [] QdX)(z_range:mg "range"=none)(z_len:mg "len"=none):FnOk P w K mg base CX0 3 f fd ["_law_script"] (SpD K CT false Qfj):=
 @fnV P w K mg base CT false "_law_plan" "_law_plan" QM f fd dV ["_law_script","_law_first","_law_many","_law_doors","_law_ring","_law_plan_here","_law_k","_law_number","_law_kind","_law_rows_here","_law_leads","_law_o","_law_to"] ["_law_script"] 2 Qmj F QaL fun cdv A outer s H E G hr=>
  (Qf (Qv (i:=1) QaL.nd rfl (oi Qc6) (de_f Qyg (hr.mono (by decide)) (Qc (Qb 0 rfl (oi Qhy)) (Qc Qe Qg)) Qjo)) (Qf (Qv (i:=2) QaL.nd rfl (oi Qbq) (QaO (DE.db Qe) (DE.db (QaN (DE.db (de_f QaY (hr.mono (by decide)) (Qc (Qb 1 rfl (oi Qc6)) (Qc Qe Qg)) Qb4)) (DE.db Qe))))) (Qf (Qv (i:=3) QaL.nd rfl (oi Qc5) (QaO (DE.db Qe) (DE.db (QaN (DE.db (de_f QaY (hr.mono (by decide)) (Qc (Qb 1 rfl (oi Qc6)) (Qc Qe Qg)) Qb4)) (DE.db Qe))))) (Qf (Qv (i:=4) QaL.nd rfl (oi QiE) (de_eq hr.units (DE.db (QaN (DE.db (de_f QaY (hr.mono (by decide)) (Qc (Qb 1 rfl (oi Qc6)) (Qc Qe Qg)) Qb4)) (DE.db Qe))) (DE.db Qe))) (Qf (Qe2 (i:=5) QaL.nd rfl (oi Qdk) (QbJ Qg)) (Qf (Qb3 PassesOwn.never rfl (Qa1 Qn3 z_range (DE.db (Qb 2 rfl (oi Qbq)))) (Qz (i:=6) QaL.nd rfl (oi Qey)) (Qt _) (Qf (Qv (i:=7) QaL.nd rfl (oi QcL) (de_f QaY (hr.mono (by decide)) (Qc (de_f Qyg (hr.mono (by decide)) (Qc (Qb 0 rfl (oi Qhy)) (Qc (QaO (DE.db Qe) (DE.db (Qb 6 rfl (oi Qey)))) Qg)) Qjo) (Qc (QaO (DE.db (Qb 6 rfl (oi Qey))) (DE.db Qe)) Qg)) Qb4)) (Qf (QHQ rfl (de_f QMA (hr.mono (by decide)) (Qc (QbE (DE.db (Qb 7 rfl (oi QcL))) (DE.db Qe)) Qg) QrW) (QX (i:=8) QaL.nd rfl (oi Qje) (QX (i:=9) QaL.nd rfl (oi Qb9) Qdp))) (Qf (Qe2 (i:=10) QaL.nd rfl (oi Qe1) (QbJ Qg)) (Qf (Qb3 PassesOwn.never rfl (Qa1 Qn3 z_range (DE.db (QaD Qq2 z_len (Qu (DE.db (de_ix (Qb 9 rfl (oi Qb9)) (DE.db Qe))) Qy)))) (Qz (i:=11) QaL.nd rfl (oi Ql8)) (Qt _) (Qf (Qv (i:=12) QaL.nd rfl (oi Qa5) (QaN (DE.db (de_f QaY (hr.mono (by decide)) (Qc (Qb 7 rfl (oi QcL)) (Qc (Qb 11 rfl (oi Ql8)) Qg)) Qb4)) (DE.db (QaO (DE.db (Qb 2 rfl (oi Qbq))) (DE.db (Qb 3 rfl (oi Qc5))))))) (Qf (ds_if (DW.dt (QTr (QaC (QaI (Qb 4 rfl (oi QiE)))) (QR2 (dt_le (DE.db (Qb 12 rfl (oi Qa5))) (DE.db (Qb 6 rfl (oi Qey))))))) (Qh (Qv (i:=12) QaL.nd rfl (oi Qa5) (QaO (DE.db (Qb 2 rfl (oi Qbq))) (DE.db (QaN (DE.db (Qb 12 rfl (oi Qa5))) (DE.db (Qb 3 rfl (oi Qc5)))))))) Q1) (Qh (QcW 10 (de_if (dt_lt (DE.db (Qb 12 rfl (oi Qa5))) (DE.db (Qb 2 rfl (oi Qbq)))) (Qb 12 rfl (oi Qa5)) (Qdg (DE.db (Qdg (DE.db (Qb 2 rfl (oi Qbq))) (DE.db Qe))) (DE.db (Qb 12 rfl (oi Qa5))))) rfl (oi Qe1)))))) (Qh (Qyp 10 (QcW 5 (Qdh (Qc (Qb 8 rfl (oi Qje)) (Qc (Qb 9 rfl (oi Qb9)) (Qc (Qb 10 rfl (oi Qe1)) (Qc (QaN (DE.db (QaN (DE.db (Qb 7 rfl (oi QcL))) (DE.db Qe))) (DE.db (QaD Qq2 z_len (Qu (DE.db (Qb 9 rfl (oi Qb9))) Qy)))) Qg))))) rfl (oi Qdk))))))))) (Qh (Qyp 5 (QA (Qdh (Qc (Qb 5 rfl (oi Qdk)) (Qc (Qb 3 rfl (oi Qc5)) Qg))))))))))))
abbrev QaA:Stmt:=top 52
theorem QeX:Qo ["names","doors","places","k","name","d","door"] ["names","doors"] (Qa QaA):=⟨rfl,rfl,rfl,dk,rfl,dk,dk⟩
theorem QdW:Lo QaA "places":=dk
theorem Qv7:Lo QaA "names":=dk
theorem Qig:Gl QaA "enumerate":=dk
theorem Qm1:Lo QaA "name":=dk
theorem QsY:Lo QaA "k":=dk
def QhV:SD->Out Fl:=(sPutD 2 (eVar 4) (eVar 3))
theorem Qwa:Lo QaA "doors":=dk
theorem Qnb:Lo QaA "door":=dk
theorem Qs3:Lo QaA "d":=dk
def QhP:SD->Out Fl:=(sPutD 2 (eVar 6) (e2 dSub (e1 dNeg (eC (.int 1))) (eVar 5)))
def QkB:SD->Out Fl:=(sSeq (sSetO 2 eDic0) (sSeq (sFor (gT [3,4]) (itE (eVar 0)) QhV) (sSeq (sFor (gT [5,6]) (itE (eVar 1)) QhP) (sRetO 2))))
def Qd9:List D->Out D:=bodyF true 2 7 QkB
theorem QJE(d0 d1:D):Qd9 [d0,d1]=(QkB [some (.k,d0),some (.k,d1),none,none,none,none,none]>>=retF true):=rfl
theorem QI3(F:FunV K "places_of" "places_of" QaA f fd dV)(z_enumerate:mg "enumerate"=none):FnOk P w K mg base CX0 1 f fd ["names","doors"] (SpD K CT true Qd9):=
 @fnV P w K mg base CT true "places_of" "places_of" QaA f fd dV ["names","doors","places","k","name","d","door"] ["names","doors"] 0 QkB F QeX fun cdv A outer s H E G hr=>
  (Qf (Qe2 (i:=2) QeX.nd rfl (oi QdW) QRT) (Qf (Qb3 PassesOwn.never rfl (QAB Qig z_enumerate (Qb 0 rfl (oi Qv7))) (Qhu rfl (QX (i:=3) QeX.nd rfl (oi QsY) (QX (i:=4) QeX.nd rfl (oi Qm1) Qdp))) (Qd6 _) (Qh (QK9 hr.units 2 (DE.db (Qb 4 rfl (oi Qm1))) (Qb 3 rfl (oi QsY)) rfl (oi QdW)))) (Qf (Qb3 PassesOwn.never rfl (QAB Qig z_enumerate (Qb 1 rfl (oi Qwa))) (Qhu rfl (QX (i:=5) QeX.nd rfl (oi Qs3) (QX (i:=6) QeX.nd rfl (oi Qnb) Qdp))) (Qd6 _) (Qh (QK9 hr.units 2 (DE.db (Qb 6 rfl (oi Qnb))) (Qdg (DE.db (Qq8 (DE.db Qe))) (DE.db (Qb 5 rfl (oi Qs3)))) rfl (oi QdW)))) (Qh (QmU 2 rfl (oi QdW))))))
abbrev Qcv:Stmt:=top 44
theorem QNz:Qo ["thing","most"] ["thing","most"] (Qa Qcv):=⟨rfl,rfl,rfl,dk,rfl,dk,dk⟩
theorem QoG:Lo Qcv "thing":=dk
theorem QA0:Gl Qcv "list":=dk
theorem QsT:Gl Qcv "isinstance":=dk
theorem QDw:Gl Qcv "len":=dk
theorem QBk:Lo Qcv "most":=dk
def QoS:SD->Out Fl:=(sRet (eAnd (eIsa (isaT "list") (eVar 0)) (Qgl dLe dLe (eC (.int 1)) (eA fLen (aCons (eVar 0) aNil)) (eVar 1))))
def Qct:List D->Out D:=bodyF false 2 2 QoS
theorem QOH(d0 d1:D):Qct [d0,d1]=(QoS [some (.k,d0),some (.k,d1)]>>=retF false):=rfl
theorem QOh(F:FunV K "is_list" "is_list" Qcv f fd dV)(z_isinstance:mg "isinstance"=none)(z_list:mg "list"=none)(z_len:mg "len"=none):FnOk P w K mg base CX0 1 f fd ["thing","most"] (SpD K CT false Qct):=
 @fnV P w K mg base CT false "is_list" "is_list" Qcv f fd dV ["thing","most"] ["thing","most"] 0 QoS F QNz fun cdv A outer s H E G hr=>
  (Qh (QA (Qgr (Qdq "list" QrG QA0 z_list PyProof.Rows.Boot.«list» QsT z_isinstance (DE.db (Qb 0 rfl (oi QoG)))) (QkS (QHa op_le Qdo (QcF fun _ _=>rfl) op_le Qdo (QcF fun _ _=>rfl) (DE.db Qe) (DE.db (QaD QDw z_len (Qu (DE.db (Qb 0 rfl (oi QoG))) Qy))) (DE.db (Qb 1 rfl (oi QBk))))))))
abbrev QbP:Stmt:=top 45
theorem QDx:Qo ["names"] ["names"] (Qa QbP):=⟨rfl,rfl,rfl,dk,rfl,dk,dk⟩
theorem QkV:Lo QbP "names":=dk
theorem Qnl:Gl QbP "len":=dk
theorem QwU:Gl QbP "set":=dk
def Qi6:SD->Out Fl:=(sRet (e2 dEq (e1 QBV (eVar 0)) (eA fLen (aCons (eVar 0) aNil))))
def Qao:List D->Out D:=bodyF false 1 1 Qi6
theorem QHq(d0:D):Qao [d0]=(Qi6 [some (.k,d0)]>>=retF false):=rfl
theorem QFi(F:FunV K "all_unlike" "all_unlike" QbP f fd dV)(z_len:mg "len"=none)(z_set:mg "set"=none):FnOk P w K mg base CX0 1 f fd ["names"] (SpD K CT false Qao):=
 @fnV P w K mg base CT false "all_unlike" "all_unlike" QbP f fd dV ["names"] ["names"] 0 Qi6 F QDx fun cdv A outer s H E G hr=>
  (Qh (QA (de_eq hr.units (DE.db (QOo hr.hd Qnl z_len QwU z_set (DE.db (Qb 0 rfl (oi QkV))))) (DE.db (QaD Qnl z_len (Qu (DE.db (Qb 0 rfl (oi QkV))) Qy))))))
abbrev Qa0:Stmt:=top 43
theorem QMl:Qo ["thing"] ["thing"] (Qa Qa0):=⟨rfl,rfl,rfl,dk,rfl,dk,dk⟩
theorem QiF:Lo Qa0 "thing":=dk
theorem QDH:Gl Qa0 "str":=dk
theorem Qry:Gl Qa0 "isinstance":=dk
theorem QDg:Gl Qa0 "len":=dk
theorem QrZ:Gl Qa0 "MOST_SIGNS":=dk
abbrev Qnw:PySem.Scope:={ kind:=PySem.ScopeKind.function,names:=[ (PySem.Str.ofString ".0",PySem.NameKind.local),(PySem.Str.ofString "sign",PySem.NameKind.local),(PySem.Str.ofString "LETTERS",PySem.NameKind.globalImplicit)],isGenerator:=false,isCoroutine:=false,more:=[]:PySem.Scope }
theorem QwG:QI ["sign"] [none] Qnw (Qa Qa0) ["thing"]:=⟨rfl,dk,dk,rfl,dk,dk⟩
theorem Qhi:(Qi Qnw (Qa Qa0)).names.lookup ("sign":Str)=some NameKind.local:=dk
theorem Qsu:(Qi Qnw (Qa Qa0)).names.lookup ("LETTERS":Str)=some NameKind.globalImplicit:=dk
def QIk:SD->Out D:=(e2 dIn (eVar 0) (eC (.str "abcdefghijklmnopqrstuvwxyz")))
theorem QEv:Gl Qa0 "all":=dk
def QC9:SD->Out Fl:=(sSeq (sIf (tOr' (tNot' (tVal (eIsa (isaT "str") (eVar 0)))) (tNot' (tVal (Qgl dLe dLe (eC (.int 1)) (eA fLen (aCons (eVar 0) aNil)) (eC (.int 6)))))) (sRet (eC (.bl false))) sNil) (sRet (eA (f1 fAll) (aCons (eComp [none] (itS (eVar 0)) (gN 0) cTrue QIk) aNil))))
def Qba:List D->Out D:=bodyF false 1 1 QC9
theorem QOs{u_MOST_SIGNS:Value}{u_LETTERS:Value}(F:FunV K "is_name" "is_name" Qa0 f fd dV)(z_isinstance:mg "isinstance"=none)(z_str:mg "str"=none)(z_len:mg "len"=none)(z_all:mg "all"=none)(c_MOST_SIGNS:mg "MOST_SIGNS"=some u_MOST_SIGNS)(r_MOST_SIGNS:RelV (toV (.int 6)) u_MOST_SIGNS)(c_LETTERS:mg "LETTERS"=some u_LETTERS)(r_LETTERS:RelV (toV (.str "abcdefghijklmnopqrstuvwxyz")) u_LETTERS):FnOk P w K mg base CX0 1 f fd ["thing"] (SpD K CT false Qba):=
 @fnV P w K mg base CT false "is_name" "is_name" Qa0 f fd dV ["thing"] ["thing"] 0 QC9 F QMl fun cdv A outer s H E G hr=>
  (Qf (ds_if (DW.dt (dw_or (QaC (QaI (Qdq "str" QK2 QDH z_str PyProof.Rows.Boot.«str» Qry z_isinstance (DE.db (Qb 0 rfl (oi QiF)))))) (QhF (QaC (QGj op_le Qdo (QcF fun _ _=>rfl) op_le Qdo (QcF fun _ _=>rfl) (DE.db Qe) (DE.db (QaD QDg z_len (Qu (DE.db (Qb 0 rfl (oi QiF))) Qy))) (DE.db (QfM (d:=(.int 6)) QrZ c_MOST_SIGNS rfl r_MOST_SIGNS))))))) (Qh (QA de_bl)) Q1) (Qh (QA (QkM rfl QEv z_all (Qu (DE.db (DF.de (Q4 rfl QwG (DI.b (QTl (DE.db (Qb 0 rfl (oi QiF))))) (fun ς=>QO (Qs rfl ς)) (Qt _) (fun fp s H G p=>⟨(Qz (i:=0) QwG.nd rfl (oi Qhi) (hf:=Or.inr Qhi)),QN,(de_in (DE.db (Qb 0 rfl (oi Qhi))) (DE.db (QfM (d:=(.str "abcdefghijklmnopqrstuvwxyz")) Qsu c_LETTERS rfl r_LETTERS)))⟩)))) Qy)))))
abbrev Qaz:Stmt:=top 46
theorem QEX:Qo ["thing","most"] ["thing","most"] (Qa Qaz):=⟨rfl,rfl,rfl,dk,rfl,dk,dk⟩
theorem Qg8:Lo Qaz "thing":=dk
theorem Qx8:Lo Qaz "most":=dk
theorem Qtr:Gl Qaz "is_list":=dk
abbrev QjW:PySem.Scope:={ kind:=PySem.ScopeKind.function,names:=[ (PySem.Str.ofString ".0",PySem.NameKind.local),(PySem.Str.ofString "name",PySem.NameKind.local),(PySem.Str.ofString "is_name",PySem.NameKind.globalImplicit)],isGenerator:=false,isCoroutine:=false,more:=[]:PySem.Scope }
theorem Qta:QI ["name"] [none] QjW (Qa Qaz) ["thing","most"]:=⟨rfl,dk,dk,rfl,dk,dk⟩
theorem QfW:(Qi QjW (Qa Qaz)).names.lookup ("name":Str)=some NameKind.local:=dk
theorem Qpv:(Qi QjW (Qa Qaz)).names.lookup ("is_name":Str)=some NameKind.globalImplicit:=dk
def Qls:SD->Out D:=(eA (fun xs=>Qba (xs++[])) (aCons (eVar 0) aNil))
theorem QzW:Gl Qaz "all":=dk
theorem Qqu:Gl Qaz "all_unlike":=dk
def QkC:SD->Out Fl:=(sRet (eAnd (eA (fun xs=>Qct (xs++[])) (aCons (eVar 0) (aCons (eVar 1) aNil))) (eAnd (eA (f1 fAll) (aCons (eComp [none] (itL (eVar 0)) (gN 0) cTrue Qls) aNil)) (eA (fun xs=>Qao (xs++[])) (aCons (eVar 0) aNil)))))
def Qep:List D->Out D:=bodyF false 2 2 QkC
theorem QIw(d0 d1:D):Qep [d0,d1]=(QkC [some (.k,d0),some (.k,d1)]>>=retF false):=rfl
theorem QID(F:FunV K "are_names" "are_names" Qaz f fd dV)(QkZ:DefOk P w K mg base CT "is_list" 1 false [] Qct)(Qif:DefOk P w K mg base CT "is_name" 1 false [] Qba)(Qgm:DefOk P w K mg base CT "all_unlike" 1 false [] Qao)(z_all:mg "all"=none):FnOk P w K mg base CX0 2 f fd ["thing","most"] (SpD K CT false Qep):=
 @fnV P w K mg base CT false "are_names" "are_names" Qaz f fd dV ["thing","most"] ["thing","most"] 1 QkC F QEX fun cdv A outer s H E G hr=>
  (Qh (QA (Qgr (de_f QkZ (hr.mono (by decide)) (Qc (Qb 0 rfl (oi Qg8)) (Qc (Qb 1 rfl (oi Qx8)) Qg)) Qtr) (Qgr (QkM rfl QzW z_all (Qu (DE.db (DF.de (Q4 rfl Qta (DI.b (Qam (Qb 0 rfl (oi Qg8)))) (fun ς=>QO (Qs rfl ς)) (Qt _) (fun fp s H G p=>⟨(Qz (i:=0) Qta.nd rfl (oi QfW) (hf:=Or.inr QfW)),QN,(de_f Qif (hr.mono (by decide)) (Qc (Qb 0 rfl (oi QfW)) Qg) Qpv)⟩)))) Qy)) (QkS (de_f Qgm (hr.mono (by decide)) (Qc (Qb 0 rfl (oi Qg8)) Qg) Qqu))))))
abbrev Qak:Stmt:=top 47
theorem QGO:Qo ["thing","many"] ["thing","many"] (Qa Qak):=⟨rfl,rfl,rfl,dk,rfl,dk,dk⟩
theorem Qg6:Lo Qak "thing":=dk
theorem QwQ:Gl Qak "list":=dk
theorem QpG:Gl Qak "isinstance":=dk
theorem QyM:Gl Qak "len":=dk
theorem Qxp:Lo Qak "many":=dk
abbrev QgH:PySem.Scope:={ kind:=PySem.ScopeKind.function,names:=[ (PySem.Str.ofString ".0",PySem.NameKind.local),(PySem.Str.ofString "text",PySem.NameKind.local),(PySem.Str.ofString "isinstance",PySem.NameKind.globalImplicit),(PySem.Str.ofString "str",PySem.NameKind.globalImplicit)],isGenerator:=false,isCoroutine:=false,more:=[]:PySem.Scope }
theorem Qtk:QI ["text"] [none] QgH (Qa Qak) ["thing","many"]:=⟨rfl,dk,dk,rfl,dk,dk⟩
theorem QfV:(Qi QgH (Qa Qak)).names.lookup ("text":Str)=some NameKind.local:=dk
theorem QuS:(Qi QgH (Qa Qak)).names.lookup ("str":Str)=some NameKind.globalImplicit:=dk
theorem QmA:(Qi QgH (Qa Qak)).names.lookup ("isinstance":Str)=some NameKind.globalImplicit:=dk
def Qlj:SD->Out D:=(eIsa (isaT "str") (eVar 0))
theorem QyT:Gl Qak "all":=dk
def Qkj:SD->Out Fl:=(sRet (eAnd (eIsa (isaT "list") (eVar 0)) (eAnd (e2 dEq (eA fLen (aCons (eVar 0) aNil)) (eVar 1)) (eA (f1 fAll) (aCons (eComp [none] (itL (eVar 0)) (gN 0) cTrue Qlj) aNil)))))
def Qee:List D->Out D:=bodyF false 2 2 Qkj
theorem QIU(d0 d1:D):Qee [d0,d1]=(Qkj [some (.k,d0),some (.k,d1)]>>=retF false):=rfl
theorem QKZ(F:FunV K "are_texts" "are_texts" Qak f fd dV)(z_isinstance:mg "isinstance"=none)(z_list:mg "list"=none)(z_len:mg "len"=none)(z_all:mg "all"=none)(z_str:mg "str"=none):FnOk P w K mg base CX0 1 f fd ["thing","many"] (SpD K CT false Qee):=
 @fnV P w K mg base CT false "are_texts" "are_texts" Qak f fd dV ["thing","many"] ["thing","many"] 0 Qkj F QGO fun cdv A outer s H E G hr=>
  (Qh (QA (Qgr (Qdq "list" QrG QwQ z_list PyProof.Rows.Boot.«list» QpG z_isinstance (DE.db (Qb 0 rfl (oi Qg6)))) (Qgr (de_eq hr.units (DE.db (QaD QyM z_len (Qu (DE.db (Qb 0 rfl (oi Qg6))) Qy))) (DE.db (Qb 1 rfl (oi Qxp)))) (QkS (QkM rfl QyT z_all (Qu (DE.db (DF.de (Q4 rfl Qtk (DI.b (Qam (Qb 0 rfl (oi Qg6)))) (fun ς=>QO (Qs rfl ς)) (Qt _) (fun fp s H G p=>⟨(Qz (i:=0) Qtk.nd rfl (oi QfV) (hf:=Or.inr QfV)),QN,(Qdq "str" QK2 QuS z_str PyProof.Rows.Boot.«str» QmA z_isinstance (DE.db (Qb 0 rfl (oi QfV))))⟩)))) Qy)))))))
abbrev Qci:Stmt:=top 7
theorem QIT:Qo ["thing"] ["thing"] (Qa Qci):=⟨rfl,rfl,rfl,dk,rfl,dk,dk⟩
theorem Qn7:Lo Qci "thing":=dk
theorem QCw:Gl Qci "int":=dk
theorem Qij:Gl Qci "isinstance":=dk
theorem Qzz:Gl Qci "bool":=dk
def QiN:SD->Out Fl:=(sRet (eAnd (eIsa (isaT "int") (eVar 0)) (eNot (eIsa (isaT "bool") (eVar 0)))))
def QbT:List D->Out D:=bodyF false 1 1 QiN
theorem QNe(d0:D):QbT [d0]=(QiN [some (.k,d0)]>>=retF false):=rfl
theorem QLO(F:FunV K "is_whole" "is_whole" Qci f fd dV)(z_isinstance:mg "isinstance"=none)(z_int:mg "int"=none)(z_bool:mg "bool"=none):FnOk P w K mg base CX0 1 f fd ["thing"] (SpD K CT false QbT):=
 @fnV P w K mg base CT false "is_whole" "is_whole" Qci f fd dV ["thing"] ["thing"] 0 QiN F QIT fun cdv A outer s H E G hr=>
  (Qh (QA (Qgr (Qdq "int" QLj QCw z_int PyProof.Rows.Boot.«int» Qij z_isinstance (DE.db (Qb 0 rfl (oi Qn7)))) (QkS (QO8 (Qdq "bool" QFE Qzz z_bool PyProof.Rows.Boot.«bool» Qij z_isinstance (DE.db (Qb 0 rfl (oi Qn7)))))))))
abbrev QbI:Stmt:=top 8
theorem QH4:Qo ["thing","least","most"] ["thing","least","most"] (Qa QbI):=⟨rfl,rfl,rfl,dk,rfl,dk,dk⟩
theorem Ql6:Lo QbI "thing":=dk
theorem Qss:Gl QbI "is_whole":=dk
theorem Qv4:Lo QbI "least":=dk
theorem QxJ:Lo QbI "most":=dk
def Qkn:SD->Out Fl:=(sRet (eAnd (eA (fun xs=>QbT (xs++[])) (aCons (eVar 0) aNil)) (Qgl dLe dLe (eVar 1) (eVar 0) (eVar 2))))
def QaZ:List D->Out D:=bodyF false 3 3 Qkn
theorem QJ4(d0 d1 d2:D):QaZ [d0,d1,d2]=(Qkn [some (.k,d0),some (.k,d1),some (.k,d2)]>>=retF false):=rfl
theorem QIb(F:FunV K "is_within" "is_within" QbI f fd dV)(Qmu:DefOk P w K mg base CT "is_whole" 1 false [] QbT):FnOk P w K mg base CX0 2 f fd ["thing","least","most"] (SpD K CT false QaZ):=
 @fnV P w K mg base CT false "is_within" "is_within" QbI f fd dV ["thing","least","most"] ["thing","least","most"] 1 Qkn F QH4 fun cdv A outer s H E G hr=>
  (Qh (QA (Qgr (de_f Qmu (hr.mono (by decide)) (Qc (Qb 0 rfl (oi Ql6)) Qg) Qss) (QkS (QHa op_le Qdo (QcF fun _ _=>rfl) op_le Qdo (QcF fun _ _=>rfl) (DE.db (Qb 1 rfl (oi Qv4))) (DE.db (Qb 0 rfl (oi Ql6))) (DE.db (Qb 2 rfl (oi QxJ))))))))
abbrev Qbp:Stmt:=top 35
theorem QKz:Qo ["thing"] ["thing"] (Qa Qbp):=⟨rfl,rfl,rfl,dk,rfl,dk,dk⟩
theorem Qw0:Lo Qbp "thing":=dk
theorem Qz4:Gl Qbp "Rows":=dk
theorem Qzj:Gl Qbp "Copy":=dk
theorem Qv2:Gl Qbp "Bundle":=dk
theorem QzM:Gl Qbp "Deal":=dk
theorem Qrg:Gl Qbp "isinstance":=dk
def QmC:SD->Out Fl:=(sRet (eIsa (isaTs [[("Deal",true),("Bundle",false),("Copy",false),("Rows",false),("Office",false)],[("Deal",false),("Bundle",true),("Copy",false),("Rows",false),("Office",false)],[("Deal",false),("Bundle",false),("Copy",true),("Rows",false),("Office",false)],[("Deal",false),("Bundle",false),("Copy",false),("Rows",true),("Office",false)]]) (eVar 0)))
def Qff:List D->Out D:=bodyF false 1 1 QmC
theorem QLz(d0:D):Qff [d0]=(QmC [some (.k,d0)]>>=retF false):=rfl
theorem QM8{QH:Addr}{Qq:Addr}{QF:Addr}{QG:Addr}(F:FunV K "is_clerk" "is_clerk" Qbp f fd dV)(z_isinstance:mg "isinstance"=none)(QTR:mg "Deal"=some (.ref QH))(QQA:mg "Bundle"=some (.ref Qq))(QT0:mg "Copy"=some (.ref QF))(QTU:mg "Rows"=some (.ref QG))(QCB:KitI K CT (.ref QH) [("Deal",true),("Bundle",false),("Copy",false),("Rows",false),("Office",false)])(QvJ:KitI K CT (.ref Qq) [("Deal",false),("Bundle",true),("Copy",false),("Rows",false),("Office",false)])(QAw:KitI K CT (.ref QF) [("Deal",false),("Bundle",false),("Copy",true),("Rows",false),("Office",false)])(QBL:KitI K CT (.ref QG) [("Deal",false),("Bundle",false),("Copy",false),("Rows",true),("Office",false)]):FnOk P w K mg base CX0 1 f fd ["thing"] (SpD K CT false Qff):=
 @fnV P w K mg base CT false "is_clerk" "is_clerk" Qbp f fd dV ["thing"] ["thing"] 0 QmC F QKz fun cdv A outer s H E G hr=>
  (Qh (QA (QQ6 (a:=QH) (as:=[Qq,QF,QG]) (QrX (Qq0 (v:=.ref QH) QzM QTR rfl) (QrX (Qq0 (v:=.ref Qq) Qv2 QQA rfl) (QrX (Qq0 (v:=.ref QF) Qzj QT0 rfl) (QrX (Qq0 (v:=.ref QG) Qz4 QTU rfl) QSn)))) ⟨QCB,QvJ,QAw,QBL,True.intro⟩ (by simp) Qrg z_isinstance (DE.db (Qb 0 rfl (oi Qw0))))))
abbrev Qcg:Stmt:=inCls (top 27) 3
theorem QDX:Qo ["self"] ["self"] (Qa Qcg):=⟨rfl,rfl,rfl,dk,rfl,dk,dk⟩
theorem Qv9:Lo Qcg "self":=dk
theorem QxM:Gl Qcg "len":=dk
def QiP:SD->Out Fl:=(sRet (eA fLen (aCons (e2 dIx (e1 (dFld Qj "table") (eVar 0)) (eC (.int 0))) aNil)))
def QcS:List D->Out D:=bodyF false 1 1 QiP
theorem QHS(d0:D):QcS [d0]=(QiP [some (.k,d0)]>>=retF false):=rfl
theorem QE2(F:FunV K "outs" "Clerk.outs" Qcg f fd dV)(z_len:mg "len"=none)(fo_table:FldOk K CT Qj "table"):FnOk P w K mg base CX0 1 f fd ["self"] (SpD K CT false QcS):=
 @fnV P w K mg base CT false "outs" "Clerk.outs" Qcg f fd dV ["self"] ["self"] 0 QiP F QDX fun cdv A outer s H E G hr=>
  (Qh (QA (QaD QxM z_len (Qu (DE.db (de_ix (Qro fo_table (Qb 0 rfl (oi Qv9))) (DE.db Qe))) Qy))))
abbrev Qbk:Stmt:=inCls (top 27) 2
theorem QAq:Qo ["self"] ["self"] (Qa Qbk):=⟨rfl,rfl,rfl,dk,rfl,dk,dk⟩
theorem QtO:Lo Qbk "self":=dk
theorem QvH:Gl Qbk "len":=dk
def QgK:SD->Out Fl:=(sRet (eA fLen (aCons (e1 (dFld Qj "table") (eVar 0)) aNil)))
def QR:List D->Out D:=bodyF false 1 1 QgK
theorem QBg(d0:D):QR [d0]=(QgK [some (.k,d0)]>>=retF false):=rfl
theorem QA7(F:FunV K "period" "Clerk.period" Qbk f fd dV)(z_len:mg "len"=none)(fo_table:FldOk K CT Qj "table"):FnOk P w K mg base CX0 1 f fd ["self"] (SpD K CT false QR):=
 @fnV P w K mg base CT false "period" "Clerk.period" Qbk f fd dV ["self"] ["self"] 0 QgK F QAq fun cdv A outer s H E G hr=>
  (Qh (QA (QaD QvH z_len (Qu (DE.db (Qro fo_table (Qb 0 rfl (oi QtO)))) Qy))))
abbrev Qa6:Stmt:=top 48
theorem QL8:Qo ["thing"] ["thing"] (Qa Qa6):=⟨rfl,rfl,rfl,dk,rfl,dk,dk⟩
theorem QbC:Lo Qa6 "thing":=dk
theorem Qzd:Gl Qa6 "tuple":=dk
theorem Qr4:Gl Qa6 "isinstance":=dk
theorem QDt:Gl Qa6 "len":=dk
theorem Qv1:Gl Qa6 "is_name":=dk
theorem QuF:Gl Qa6 "is_clerk":=dk
theorem QtQ:Gl Qa6 "are_texts":=dk
theorem Qtx:Gl Qa6 "is_within":=dk
def Qo1:SD->Out Fl:=(sSeq (sIf (tOr' (tNot' (tVal (eIsa (isaT "tuple") (eVar 0)))) (tVal (e2 dNe (eA fLen (aCons (eVar 0) aNil)) (eC (.int 4))))) (sRet (eC (.bl false))) sNil) (sSeq (sIf (tOr' (tNot' (tVal (eA (fun xs=>Qba (xs++[])) (aCons (e2 dIx (eVar 0) (eC (.int 0))) aNil)))) (tNot' (tVal (eA (fun xs=>Qff (xs++[])) (aCons (e2 dIx (eVar 0) (eC (.int 1))) aNil))))) (sRet (eC (.bl false))) sNil) (sRet (eAnd (eA (fun xs=>Qee (xs++[])) (aCons (e2 dIx (eVar 0) (eC (.int 2))) (aCons (eMeth Qd "outs" (fun _=>QcS) (e2 dIx (eVar 0) (eC (.int 1))) aNil) aNil))) (eA (fun xs=>QaZ (xs++[])) (aCons (e2 dIx (eVar 0) (eC (.int 3))) (aCons (eC (.int 0)) (aCons (e2 dSub (eMeth Qd "period" (fun _=>QR) (e2 dIx (eVar 0) (eC (.int 1))) aNil) (eC (.int 1))) aNil))))))))
def Qgj:List D->Out D:=bodyF false 1 1 Qo1
theorem QOm(d0:D):Qgj [d0]=(Qo1 [some (.k,d0)]>>=retF false):=rfl
theorem QPq(F:FunV K "is_seat" "is_seat" Qa6 f fd dV)(Qif:DefOk P w K mg base CT "is_name" 1 false [] Qba)(QLy:DefOk P w K mg base CT "is_clerk" 1 false [] Qff)(QKC:DefOk P w K mg base CT "are_texts" 1 false [] Qee)(Qd7:DefOk P w K mg base CT "is_within" 2 false [] QaZ)(z_isinstance:mg "isinstance"=none)(z_tuple:mg "tuple"=none)(z_len:mg "len"=none)(mt_outs:MtOk P w K mg base CT CX0 "outs" 1 Qd (fun c=>SpD K CT false ((fun _=>QcS) c)))(mt_period:MtOk P w K mg base CT CX0 "period" 1 Qd (fun c=>SpD K CT false ((fun _=>QR) c))):FnOk P w K mg base CX0 3 f fd ["thing"] (SpD K CT false Qgj):=
 @fnV P w K mg base CT false "is_seat" "is_seat" Qa6 f fd dV ["thing"] ["thing"] 2 Qo1 F QL8 fun cdv A outer s H E G hr=>
  (Qf (ds_if (DW.dt (dw_or (QaC (QaI (Qdq "tuple" Quq Qzd z_tuple PyProof.Rows.Boot.«tuple» Qr4 z_isinstance (DE.db (Qb 0 rfl (oi QbC)))))) (QhF (dt_ne hr.units (DE.db (QaD QDt z_len (Qu (DE.db (Qb 0 rfl (oi QbC))) Qy))) (DE.db Qe))))) (Qh (QA de_bl)) Q1) (Qf (ds_if (DW.dt (dw_or (QaC (QaI (de_f Qif (hr.mono (by decide)) (Qc (de_ix (Qb 0 rfl (oi QbC)) (DE.db Qe)) Qg) Qv1))) (QhF (QaC (QaI (de_f QLy (hr.mono (by decide)) (Qc (de_ix (Qb 0 rfl (oi QbC)) (DE.db Qe)) Qg) QuF)))))) (Qh (QA de_bl)) Q1) (Qh (QA (Qgr (de_f QKC (hr.mono (by decide)) (Qc (de_ix (Qb 0 rfl (oi QbC)) (DE.db Qe)) (Qc (QgC mt_outs (hr.mono (by decide)) (de_ix (Qb 0 rfl (oi QbC)) (DE.db Qe))) Qg)) QtQ) (QkS (de_f Qd7 (hr.mono (by decide)) (Qc (de_ix (Qb 0 rfl (oi QbC)) (DE.db Qe)) (Qc Qe (Qc (Qdg (DE.db (QgC mt_period (hr.mono (by decide)) (de_ix (Qb 0 rfl (oi QbC)) (DE.db Qe)))) (DE.db Qe)) Qg))) Qtx)))))))
abbrev Qaa:Stmt:=top 49
theorem QGX:Qo ["thing","doors"] ["thing","doors"] (Qa Qaa):=⟨rfl,rfl,rfl,dk,rfl,dk,dk⟩
theorem Qha:Lo Qaa "thing":=dk
theorem Qol:Gl Qaa "MOST_CLERKS":=dk
theorem QtD:Gl Qaa "is_list":=dk
abbrev Qkf:PySem.Scope:={ kind:=PySem.ScopeKind.function,names:=[ (PySem.Str.ofString ".0",PySem.NameKind.local),(PySem.Str.ofString "seat",PySem.NameKind.local),(PySem.Str.ofString "is_seat",PySem.NameKind.globalImplicit)],isGenerator:=false,isCoroutine:=false,more:=[]:PySem.Scope }
theorem Qs9:QI ["seat"] [none] Qkf (Qa Qaa) ["thing","doors"]:=⟨rfl,dk,dk,rfl,dk,dk⟩
theorem QfQ:(Qi Qkf (Qa Qaa)).names.lookup ("seat":Str)=some NameKind.local:=dk
theorem Qpr:(Qi Qkf (Qa Qaa)).names.lookup ("is_seat":Str)=some NameKind.globalImplicit:=dk
def Qli:SD->Out D:=(eA (fun xs=>Qgj (xs++[])) (aCons (eVar 0) aNil))
theorem Qz5:Gl Qaa "all":=dk
abbrev QqI:PySem.Scope:={ kind:=PySem.ScopeKind.function,names:=[(PySem.Str.ofString ".0",PySem.NameKind.local),(PySem.Str.ofString "seat",PySem.NameKind.local)],isGenerator:=false,isCoroutine:=false,more:=[]:PySem.Scope }
theorem Qtc:QI ["seat"] [none] QqI (Qa Qaa) ["thing","doors"]:=⟨rfl,dk,dk,rfl,dk,dk⟩
theorem QfT:(Qi QqI (Qa Qaa)).names.lookup ("seat":Str)=some NameKind.local:=dk
def Qlr:SD->Out D:=(e2 dIx (eVar 0) (eC (.int 0)))
theorem Qv5:Lo Qaa "doors":=dk
theorem Qp4:Gl Qaa "all_unlike":=dk
def Qkw:SD->Out Fl:=(sSeq (sIf (tOr' (tNot' (tVal (eA (fun xs=>Qct (xs++[])) (aCons (eVar 0) (aCons (eC (.int 60)) aNil))))) (tNot' (tVal (eA (f1 fAll) (aCons (eComp [none] (itL (eVar 0)) (gN 0) cTrue Qli) aNil))))) (sRet (eC (.bl false))) sNil) (sRet (eA (fun xs=>Qao (xs++[])) (aCons (e2 dCat (eComp [none] (itL (eVar 0)) (gN 0) cTrue Qlr) (eVar 1)) aNil))))
def Qei:List D->Out D:=bodyF false 2 2 Qkw
theorem QKF(d0 d1:D):Qei [d0,d1]=(Qkw [some (.k,d0),some (.k,d1)]>>=retF false):=rfl
theorem QKN{u_MOST_CLERKS:Value}(F:FunV K "are_seats" "are_seats" Qaa f fd dV)(QkZ:DefOk P w K mg base CT "is_list" 1 false [] Qct)(QOv:DefOk P w K mg base CT "is_seat" 3 false [] Qgj)(Qgm:DefOk P w K mg base CT "all_unlike" 1 false [] Qao)(z_all:mg "all"=none)(c_MOST_CLERKS:mg "MOST_CLERKS"=some u_MOST_CLERKS)(r_MOST_CLERKS:RelV (toV (.int 60)) u_MOST_CLERKS):FnOk P w K mg base CX0 4 f fd ["thing","doors"] (SpD K CT false Qei):=
 @fnV P w K mg base CT false "are_seats" "are_seats" Qaa f fd dV ["thing","doors"] ["thing","doors"] 3 Qkw F QGX fun cdv A outer s H E G hr=>
  (Qf (ds_if (DW.dt (dw_or (QaC (QaI (de_f QkZ (hr.mono (by decide)) (Qc (Qb 0 rfl (oi Qha)) (Qc (QfM (d:=(.int 60)) Qol c_MOST_CLERKS rfl r_MOST_CLERKS) Qg)) QtD))) (QhF (QaC (QaI (QkM rfl Qz5 z_all (Qu (DE.db (DF.de (Q4 rfl Qs9 (DI.b (Qam (Qb 0 rfl (oi Qha)))) (fun ς=>QO (Qs rfl ς)) (Qt _) (fun fp s H G p=>⟨(Qz (i:=0) Qs9.nd rfl (oi QfQ) (hf:=Or.inr QfQ)),QN,(de_f QOv (hr.mono (by decide)) (Qc (Qb 0 rfl (oi QfQ)) Qg) Qpr)⟩)))) Qy))))))) (Qh (QA de_bl)) Q1) (Qh (QA (de_f Qgm (hr.mono (by decide)) (Qc (DF.de (QqB (DF.de (Q4 rfl Qtc (DI.b (Qam (Qb 0 rfl (oi Qha)))) (fun ς=>QO (Qs rfl ς)) (Qt _) (fun fp s H G p=>⟨(Qz (i:=0) Qtc.nd rfl (oi QfT) (hf:=Or.inr QfT)),QN,(de_ix (Qb 0 rfl (oi QfT)) (DE.db Qe))⟩))) (Qb 1 rfl (oi Qv5)))) Qg) Qp4))))
abbrev Qbm:Stmt:=top 50
theorem QJL:Qo ["thing","names"] ["thing","names"] (Qa Qbm):=⟨rfl,rfl,rfl,dk,rfl,dk,dk⟩
theorem QdG:Lo Qbm "thing":=dk
theorem Qye:Gl Qbm "tuple":=dk
theorem QqU:Gl Qbm "isinstance":=dk
theorem QAF:Gl Qbm "len":=dk
theorem QkH:Gl Qbm "is_name":=dk
theorem QxE:Lo Qbm "names":=dk
def QmE:SD->Out Fl:=(sSeq (sIf (tOr' (tNot' (tVal (eIsa (isaT "tuple") (eVar 0)))) (tVal (e2 dNe (eA fLen (aCons (eVar 0) aNil)) (eC (.int 2))))) (sRet (eC (.bl false))) sNil) (sRet (eAnd (eA (fun xs=>Qba (xs++[])) (aCons (e2 dIx (eVar 0) (eC (.int 0))) aNil)) (eAnd (eA (fun xs=>Qba (xs++[])) (aCons (e2 dIx (eVar 0) (eC (.int 1))) aNil)) (e2 dInL (e2 dIx (eVar 0) (eC (.int 1))) (eVar 1))))))
def QfB:List D->Out D:=bodyF false 2 2 QmE
theorem QNn(d0 d1:D):QfB [d0,d1]=(QmE [some (.k,d0),some (.k,d1)]>>=retF false):=rfl
theorem QMa(F:FunV K "is_entry" "is_entry" Qbm f fd dV)(Qif:DefOk P w K mg base CT "is_name" 1 false [] Qba)(z_isinstance:mg "isinstance"=none)(z_tuple:mg "tuple"=none)(z_len:mg "len"=none):FnOk P w K mg base CX0 2 f fd ["thing","names"] (SpD K CT false QfB):=
 @fnV P w K mg base CT false "is_entry" "is_entry" Qbm f fd dV ["thing","names"] ["thing","names"] 1 QmE F QJL fun cdv A outer s H E G hr=>
  (Qf (ds_if (DW.dt (dw_or (QaC (QaI (Qdq "tuple" Quq Qye z_tuple PyProof.Rows.Boot.«tuple» QqU z_isinstance (DE.db (Qb 0 rfl (oi QdG)))))) (QhF (dt_ne hr.units (DE.db (QaD QAF z_len (Qu (DE.db (Qb 0 rfl (oi QdG))) Qy))) (DE.db Qe))))) (Qh (QA de_bl)) Q1) (Qh (QA (Qgr (de_f Qif (hr.mono (by decide)) (Qc (de_ix (Qb 0 rfl (oi QdG)) (DE.db Qe)) Qg) QkH) (Qgr (de_f Qif (hr.mono (by decide)) (Qc (de_ix (Qb 0 rfl (oi QdG)) (DE.db Qe)) Qg) QkH) (QkS (QPe (DE.db (de_ix (Qb 0 rfl (oi QdG)) (DE.db Qe))) (DE.db (Qb 1 rfl (oi QxE))))))))))
abbrev QT:Stmt:=top 51
theorem QB2:Qo ["thing","names"] ["thing","names"] (Qa QT):=⟨rfl,rfl,rfl,dk,rfl,dk,dk⟩
theorem QfX:Lo QT "thing":=dk
theorem Qk5:Gl QT "MOST_ENTRIES":=dk
theorem Qrk:Gl QT "is_list":=dk
abbrev Qfw:PySem.Scope:={ kind:=PySem.ScopeKind.function,names:=[ (PySem.Str.ofString ".0",PySem.NameKind.local),(PySem.Str.ofString "entry",PySem.NameKind.local),(PySem.Str.ofString "is_entry",PySem.NameKind.globalImplicit),(PySem.Str.ofString "names",PySem.NameKind.free)],isGenerator:=false,isCoroutine:=false,more:=[]:PySem.Scope }
theorem QoF:QI ["entry","names"] [none,some 1] Qfw (Qa QT) ["thing","names"]:=⟨rfl,dk,dk,rfl,dk,dk⟩
theorem Qeu:(Qi Qfw (Qa QT)).names.lookup ("entry":Str)=some NameKind.local:=dk
theorem Qp0:(Qi Qfw (Qa QT)).names.lookup ("names":Str)=some NameKind.cell:=dk
theorem QmM:(Qi Qfw (Qa QT)).names.lookup ("is_entry":Str)=some NameKind.globalImplicit:=dk
def Qir:SD->Out D:=(eA (fun xs=>QfB (xs++[])) (aCons (eVar 0) (aCons (eVar 1) aNil)))
theorem Qwc:Gl QT "all":=dk
abbrev Qnr:PySem.Scope:={ kind:=PySem.ScopeKind.function,names:=[(PySem.Str.ofString ".0",PySem.NameKind.local),(PySem.Str.ofString "entry",PySem.NameKind.local)],isGenerator:=false,isCoroutine:=false,more:=[]:PySem.Scope }
theorem QoY:QI ["entry"] [none] Qnr (Qa QT) ["thing","names"]:=⟨rfl,dk,dk,rfl,dk,dk⟩
theorem Qer:(Qi Qnr (Qa QT)).names.lookup ("entry":Str)=some NameKind.local:=dk
def QiT:SD->Out D:=(e2 dIx (eVar 0) (eC (.int 0)))
theorem Qnx:Gl QT "all_unlike":=dk
def QhL:SD->Out Fl:=(sSeq (sIf (tOr' (tNot' (tVal (eA (fun xs=>Qct (xs++[])) (aCons (eVar 0) (aCons (eC (.int 6)) aNil))))) (tNot' (tVal (eA (f1 fAll) (aCons (eComp [none,some 1] (itL (eVar 0)) (gN 0) cTrue Qir) aNil))))) (sRet (eC (.bl false))) sNil) (sRet (eA (fun xs=>Qao (xs++[])) (aCons (eComp [none] (itL (eVar 0)) (gN 0) cTrue QiT) aNil))))
def Qdb:List D->Out D:=bodyF false 2 2 QhL
theorem QD7(d0 d1:D):Qdb [d0,d1]=(QhL [some (.k,d0),some (.k,d1)]>>=retF false):=rfl
theorem QEu{u_MOST_ENTRIES:Value}(F:FunV K "are_entries" "are_entries" QT f fd dV)(QkZ:DefOk P w K mg base CT "is_list" 1 false [] Qct)(QMB:DefOk P w K mg base CT "is_entry" 2 false [] QfB)(Qgm:DefOk P w K mg base CT "all_unlike" 1 false [] Qao)(z_all:mg "all"=none)(c_MOST_ENTRIES:mg "MOST_ENTRIES"=some u_MOST_ENTRIES)(r_MOST_ENTRIES:RelV (toV (.int 6)) u_MOST_ENTRIES):FnOk P w K mg base CX0 3 f fd ["thing","names"] (SpD K CT false Qdb):=
 @fnV P w K mg base CT false "are_entries" "are_entries" QT f fd dV ["thing","names"] ["thing","names"] 2 QhL F QB2 fun cdv A outer s H E G hr=>
  (Qf (ds_if (DW.dt (dw_or (QaC (QaI (de_f QkZ (hr.mono (by decide)) (Qc (Qb 0 rfl (oi QfX)) (Qc (QfM (d:=(.int 6)) Qk5 c_MOST_ENTRIES rfl r_MOST_ENTRIES) Qg)) Qrk))) (QhF (QaC (QaI (QkM rfl Qwc z_all (Qu (DE.db (DF.de (Q4 rfl QoF (DI.b (Qam (Qb 0 rfl (oi QfX)))) (fun ς=>QO (Qs rfl ς)) (Qt _) (fun fp s H G p=>⟨(Qz (i:=0) QoF.nd rfl (oi Qeu) (hf:=Or.inr Qeu)),QN,(de_f QMB (hr.mono (by decide)) (Qc (Qb 0 rfl (oi Qeu)) (Qc (Qb 1 rfl (Or.inr (oi Qp0))) Qg)) QmM)⟩)))) Qy))))))) (Qh (QA de_bl)) Q1) (Qh (QA (de_f Qgm (hr.mono (by decide)) (Qc (DF.de (Q4 rfl QoY (DI.b (Qam (Qb 0 rfl (oi QfX)))) (fun ς=>QO (Qs rfl ς)) (Qt _) (fun fp s H G p=>⟨(Qz (i:=0) QoY.nd rfl (oi Qer) (hf:=Or.inr Qer)),QN,(de_ix (Qb 0 rfl (oi Qer)) (DE.db Qe))⟩))) Qg) Qnx))))
abbrev Qcj:Stmt:=top 53
theorem QIR:Qo ["seat","places"] ["seat","places"] (Qa Qcj):=⟨rfl,rfl,rfl,dk,rfl,dk,dk⟩
theorem QAj:Lo Qcj "seat":=dk
abbrev Ql0:PySem.Scope:={ kind:=PySem.ScopeKind.function,names:=[ (PySem.Str.ofString ".0",PySem.NameKind.local),(PySem.Str.ofString "text",PySem.NameKind.local),(PySem.Str.ofString "places",PySem.NameKind.free)],isGenerator:=false,isCoroutine:=false,more:=[]:PySem.Scope }
theorem Qub:QI ["text","places"] [none,some 1] Ql0 (Qa Qcj) ["seat","places"]:=⟨rfl,dk,dk,rfl,dk,dk⟩
theorem QgF:(Qi Ql0 (Qa Qcj)).names.lookup ("text":Str)=some NameKind.local:=dk
theorem QrC:(Qi Ql0 (Qa Qcj)).names.lookup ("places":Str)=some NameKind.cell:=dk
def Qnc:SD->Out D:=(eDget (eVar 1) (eVar 0))
def Qmo:SD->Out Fl:=(sRetF (eComp [none,some 1] (itL (e2 dIx (eVar 0) (eC (.int 2)))) (gN 0) cTrue Qnc))
def Qfe:List D->Out D:=bodyF true 2 2 Qmo
theorem QNF(d0 d1:D):Qfe [d0,d1]=(Qmo [some (.k,d0),some (.k,d1)]>>=retF true):=rfl
theorem QMj(F:FunV K "leads_to" "leads_to" Qcj f fd dV)  : FnOk P w K mg base CX0 1 f fd ["seat","places"] (SpD K CT true Qfe):=
 @fnV P w K mg base CT true "leads_to" "leads_to" Qcj f fd dV ["seat","places"] ["seat","places"] 0 Qmo F QIR fun cdv A outer s H E G hr=>
  (Qh (Qc8 (Q4 rfl Qub (DI.b (Qam (de_ix (Qb 0 rfl (oi QAj)) (DE.db Qe)))) (fun ς=>QO (Qs rfl ς)) (Qt _) (fun fp s H G p=>⟨(Qz (i:=0) Qub.nd rfl (oi QgF) (hf:=Or.inr QgF)),QN,(QR5 hr.units (Qb 1 rfl (Or.inr (oi QrC))) (DE.db (Qb 0 rfl (oi QgF))))⟩))))
abbrev Qn:Stmt:=inCls (top 54) 0
theorem QgJ:Qo ["self","clerks","entries","doors","names","places","ways"] ["self","clerks","entries","doors"] (Qa Qn):=⟨rfl,rfl,rfl,dk,rfl,dk,dk⟩
theorem QdL:Lo Qn "doors":=dk
theorem QnI:Gl Qn "MOST_DOORS":=dk
theorem Qos:Gl Qn "are_names":=dk
theorem Qcn:Lo Qn "clerks":=dk
theorem Qoq:Gl Qn "are_seats":=dk
abbrev QnL:PySem.Scope:={ kind:=PySem.ScopeKind.function,names:=[(PySem.Str.ofString ".0",PySem.NameKind.local),(PySem.Str.ofString "seat",PySem.NameKind.local)],isGenerator:=false,isCoroutine:=false,more:=[]:PySem.Scope }
theorem QoQ:QI ["seat"] [none] QnL (Qa Qn) ["self","clerks","entries","doors","names","places","ways"]:=⟨rfl,dk,dk,rfl,dk,dk⟩
theorem QeE:(Qi QnL (Qa Qn)).names.lookup ("seat":Str)=some NameKind.local:=dk
def QiI:SD->Out D:=(e2 dIx (eVar 0) (eC (.int 0)))
theorem QdK:Lo Qn "names":=dk
theorem Qic:Lo Qn "entries":=dk
theorem Qmk:Gl Qn "are_entries":=dk
theorem Qow:Gl Qn "places_of":=dk
theorem Qr1:(Qa Qn).names.lookup ("places":Str)=some NameKind.cell:=dk
abbrev QfF:PySem.Scope:={ kind:=PySem.ScopeKind.function,names:=[ (PySem.Str.ofString ".0",PySem.NameKind.local),(PySem.Str.ofString "seat",PySem.NameKind.local),(PySem.Str.ofString "leads_to",PySem.NameKind.globalImplicit),(PySem.Str.ofString "places",PySem.NameKind.free)],isGenerator:=false,isCoroutine:=false,more:=[]:PySem.Scope }
theorem QoZ:QI ["seat","places"] [none,some 5] QfF (Qa Qn) ["self","clerks","entries","doors","names","places","ways"]:=⟨rfl,dk,dk,rfl,dk,dk⟩
theorem QeW:(Qi QfF (Qa Qn)).names.lookup ("seat":Str)=some NameKind.local:=dk
theorem Qov:(Qi QfF (Qa Qn)).names.lookup ("places":Str)=some NameKind.cell:=dk
theorem QmF:(Qi QfF (Qa Qn)).names.lookup ("leads_to":Str)=some NameKind.globalImplicit:=dk
def Qjs:SD->Out D:=(eA (fun xs=>Qfe (xs++[])) (aCons (eVar 0) (aCons (eVar 1) aNil)))
theorem Qgs:Lo Qn "ways":=dk
abbrev Qnm:PySem.Scope:={ kind:=PySem.ScopeKind.function,names:=[(PySem.Str.ofString ".0",PySem.NameKind.local),(PySem.Str.ofString "way",PySem.NameKind.local)],isGenerator:=false,isCoroutine:=false,more:=[]:PySem.Scope }
theorem QoU:QI ["way"] [none] Qnm (Qa Qn) ["self","clerks","entries","doors","names","places","ways"]:=⟨rfl,dk,dk,rfl,dk,dk⟩
theorem Qfo:(Qi Qnm (Qa Qn)).names.lookup ("way":Str)=some NameKind.local:=dk
def Qjr:SD->Out D:=(e2 dInL (eC .non) (eVar 0))
theorem QvZ:Gl Qn "any":=dk
theorem Qb7:Lo Qn "self":=dk
theorem Qud:Gl Qn "list":=dk
abbrev Qia:PySem.Scope:={ kind:=PySem.ScopeKind.function,names:=[ (PySem.Str.ofString ".0",PySem.NameKind.local),(PySem.Str.ofString "entry",PySem.NameKind.local),(PySem.Str.ofString "places",PySem.NameKind.free)],isGenerator:=false,isCoroutine:=false,more:=[]:PySem.Scope }
theorem Qo4:QI ["entry","places"] [none,some 5] Qia (Qa Qn) ["self","clerks","entries","doors","names","places","ways"]:=⟨rfl,dk,dk,rfl,dk,dk⟩
theorem QcO:(Qi Qia (Qa Qn)).names.lookup ("entry":Str)=some NameKind.local:=dk
theorem Qox:(Qi Qia (Qa Qn)).names.lookup ("places":Str)=some NameKind.cell:=dk
def Qf5:SD->Out D:=(eTup (aCons (e2 dIx (eVar 0) (eC (.int 0))) (aCons (eDix (eVar 1) (e2 dIx (eVar 0) (eC (.int 1)))) aNil)))
abbrev Qof:PySem.Scope:={ kind:=PySem.ScopeKind.function,names:=[(PySem.Str.ofString ".0",PySem.NameKind.local),(PySem.Str.ofString "seat",PySem.NameKind.local)],isGenerator:=false,isCoroutine:=false,more:=[]:PySem.Scope }
theorem QoE:QI ["seat"] [none] Qof (Qa Qn) ["self","clerks","entries","doors","names","places","ways"]:=⟨rfl,dk,dk,rfl,dk,dk⟩
theorem QeM:(Qi Qof (Qa Qn)).names.lookup ("seat":Str)=some NameKind.local:=dk
def Qgc:SD->Out D:=(e2 dIx (eVar 0) (eC (.int 1)))
abbrev Qod:PySem.Scope:={ kind:=PySem.ScopeKind.function,names:=[(PySem.Str.ofString ".0",PySem.NameKind.local),(PySem.Str.ofString "seat",PySem.NameKind.local)],isGenerator:=false,isCoroutine:=false,more:=[]:PySem.Scope }
theorem QoP:QI ["seat"] [none] Qod (Qa Qn) ["self","clerks","entries","doors","names","places","ways"]:=⟨rfl,dk,dk,rfl,dk,dk⟩
theorem QeF:(Qi Qod (Qa Qn)).names.lookup ("seat":Str)=some NameKind.local:=dk
def Qf3:SD->Out D:=(e2 dIx (eVar 0) (eC (.int 3)))
def QhT:SD->Out Fl:=(sSeq (fun ς=>noX ((sIf (tNot' (tVal (eA (fun xs=>Qep (xs++[])) (aCons (eVar 3) (aCons (eC (.int 6)) aNil))))) Qhp sNil) ς)) (sSeq (fun ς=>noX ((sIf (tNot' (tVal (eA (fun xs=>Qei (xs++[])) (aCons (eVar 1) (aCons (eVar 3) aNil))))) Qhp sNil) ς)) (sSeq (fun ς=>noX ((sSet 4 (eComp [none] (itL (eVar 1)) (gN 0) cTrue QiI)) ς)) (sSeq (fun ς=>noX ((sIf (tNot' (tVal (eA (fun xs=>Qdb (xs++[])) (aCons (eVar 2) (aCons (eVar 4) aNil))))) Qhp sNil) ς)) (sSeq (fun ς=>noX ((sSet 5 (eA (fun xs=>Qd9 (xs++[])) (aCons (eVar 4) (aCons (eVar 3) aNil)))) ς)) (sSeq (fun ς=>noX ((sSet 6 (eComp [none,some 5] (itL (eVar 1)) (gN 0) cTrue Qjs)) ς)) (sSeq (fun ς=>noX ((sIf (tVal (eA (f1 fAny) (aCons (eComp [none] (itL (eVar 6)) (gN 0) cTrue Qjr) aNil))) Qhp sNil) ς)) (sSeq (fun ς=>noX (sFldS Qj "clerk_names" 0 (eVar 4) ς)) (sSeq (fun ς=>noX (sFldS Qj "door_names" 0 (e1 dList (eVar 3)) ς)) (sSeq (fun ς=>noX (sFldS Qj "entry_places" 0 (eComp [none,some 5] (itL (eVar 2)) (gN 0) cTrue Qf5) ς)) (sSeq (fun ς=>noX (sFldS Qj "staff" 0 (eComp [none] (itL (eVar 1)) (gN 0) cTrue Qgc) ς)) (sSeq (fun ς=>noX (sFldS Qj "first_states" 0 (eComp [none] (itL (eVar 1)) (gN 0) cTrue Qf3) ς)) (fun ς=>noX (sFldS Qj "ways" 0 (eVar 6) ς))))))))))))))
def Qbe:Str->List (Str×D)->List D->Out (List (Str×D)):=bodyI 4 7 QhT
theorem QEK(c:Str)(fds:List (Str×D))(d1 d2 d3:D):Qbe c fds [d1,d2,d3]=(QhT [some (.s,.ins c fds),some (.k,d1),some (.k,d2),some (.k,d3),none,none,none]>>=Qgu c):=rfl
theorem QDr{u_MOST_DOORS:Value}(F:FunV K "__init__" "Office.__init__" Qn f fd dV)(QJf:DefOk P w K mg base CT "are_names" 2 false [] Qep)(QI5:DefOk P w K mg base CT "are_seats" 4 false [] Qei)(QDR:DefOk P w K mg base CT "are_entries" 3 false [] Qdb)(QIt:DefOk P w K mg base CT "places_of" 1 true [] Qd9)(QM3:DefOk P w K mg base CT "leads_to" 1 true [] Qfe)(z_any:mg "any"=none)(z_list:mg "list"=none)(c_MOST_DOORS:mg "MOST_DOORS"=some u_MOST_DOORS)(r_MOST_DOORS:RelV (toV (.int 6)) u_MOST_DOORS)(fo_clerk_names:FldOk K CT Qj "clerk_names")(fo_door_names:FldOk K CT Qj "door_names")(fo_entry_places:FldOk K CT Qj "entry_places")(fo_staff:FldOk K CT Qj "staff")(fo_first_states:FldOk K CT Qj "first_states")(fo_ways:FldOk K CT Qj "ways"):FnOk P w K mg base (CXR P w) 5 f fd ["self","clerks","entries","doors"] (SpI K CT Qbe):=
 @fnI P w K mg base CT "__init__" "Office.__init__" Qn f fd dV ["self","clerks","entries","doors","names","places","ways"] ["self","clerks","entries","doors"] 4 QhT F QgJ fun cdv A outer s H E G p hr=>
  (Qf (DS.lift (ds_if (QaC (QaI (de_f QJf (hr.mono (by decide)) (Qc (Qb 3 rfl (oi QdL)) (Qc (QfM (d:=(.int 6)) QnI c_MOST_DOORS rfl r_MOST_DOORS) Qg)) Qos))) (Qh QfC) Q1)) (Qf (DS.lift (ds_if (QaC (QaI (de_f QI5 (hr.mono (by decide)) (Qc (Qb 1 rfl (oi Qcn)) (Qc (Qb 3 rfl (oi QdL)) Qg)) Qoq))) (Qh QfC) Q1)) (Qf (DS.lift (QjS (i:=4) rfl QoQ (DI.b (Qam (Qb 1 rfl (oi Qcn)))) (fun ς=>QO (Qs rfl ς)) (Qt _) (fun fp s H G p=>⟨(Qz (i:=0) QoQ.nd rfl (oi QeE) (hf:=Or.inr QeE)),QN,(de_ix (Qb 0 rfl (oi QeE)) (DE.db Qe))⟩) QgJ.nd rfl (oi QdK))) (Qf (DS.lift (ds_if (QaC (QaI (de_f QDR (hr.mono (by decide)) (Qc (Qb 2 rfl (oi Qic)) (Qc (Qb 4 rfl (oi QdK)) Qg)) Qmk))) (Qh QfC) Q1)) (Qf (DS.lift (Qv (i:=5) QgJ.nd rfl (Or.inr Qr1) (de_f QIt (hr.mono (by decide)) (Qc (Qb 4 rfl (oi QdK)) (Qc (Qb 3 rfl (oi QdL)) Qg)) Qow))) (Qf (DS.lift (QjS (i:=6) rfl QoZ (DI.b (Qam (Qb 1 rfl (oi Qcn)))) (fun ς=>QO (Qs rfl ς)) (Qt _) (fun fp s H G p=>⟨(Qz (i:=0) QoZ.nd rfl (oi QeW) (hf:=Or.inr QeW)),QN,(de_f QM3 (hr.mono (by decide)) (Qc (Qb 0 rfl (oi QeW)) (Qc (Qb 1 rfl (Or.inr (oi Qov))) Qg)) QmF)⟩) QgJ.nd rfl (oi Qgs))) (Qf (DS.lift (ds_if (QaI (QTh rfl QvZ z_any (Qu (DE.db (DF.de (Q4 rfl QoU (DI.b (Qam (Qb 6 rfl (oi Qgs)))) (fun ς=>QO (Qs rfl ς)) (Qt _) (fun fp s H G p=>⟨(Qz (i:=0) QoU.nd rfl (oi Qfo) (hf:=Or.inr Qfo)),QN,(QPe (DE.db QUd) (DE.db (Qb 0 rfl (oi Qfo))))⟩)))) Qy))) (Qh QfC) Q1)) (Qf (DS.lift (Qim 0 fo_clerk_names (Qb 4 rfl (oi QdK)) rfl (oi Qb7))) (Qf (DS.lift (Qim 0 fo_door_names (DF.de (QeP Qud z_list (Qb 3 rfl (oi QdL)))) rfl (oi Qb7))) (Qf (DS.lift (Qim 0 fo_entry_places (DF.de (Q4 rfl Qo4 (DI.b (Qam (Qb 2 rfl (oi Qic)))) (fun ς=>QO (Qs rfl ς)) (Qt _) (fun fp s H G p=>⟨(Qz (i:=0) Qo4.nd rfl (oi QcO) (hf:=Or.inr QcO)),QN,(Qdh (Qc (de_ix (Qb 0 rfl (oi QcO)) (DE.db Qe)) (Qc (QTn hr.units (Qb 1 rfl (Or.inr (oi Qox))) (DE.db (de_ix (Qb 0 rfl (oi QcO)) (DE.db Qe)))) Qg)))⟩))) rfl (oi Qb7))) (Qf (DS.lift (Qim 0 fo_staff (DF.de (Q4 rfl QoE (DI.b (Qam (Qb 1 rfl (oi Qcn)))) (fun ς=>QO (Qs rfl ς)) (Qt _) (fun fp s H G p=>⟨(Qz (i:=0) QoE.nd rfl (oi QeM) (hf:=Or.inr QeM)),QN,(de_ix (Qb 0 rfl (oi QeM)) (DE.db Qe))⟩))) rfl (oi Qb7))) (Qf (DS.lift (Qim 0 fo_first_states (DF.de (Q4 rfl QoP (DI.b (Qam (Qb 1 rfl (oi Qcn)))) (fun ς=>QO (Qs rfl ς)) (Qt _) (fun fp s H G p=>⟨(Qz (i:=0) QoP.nd rfl (oi QeF) (hf:=Or.inr QeF)),QN,(de_ix (Qb 0 rfl (oi QeF)) (DE.db Qe))⟩))) rfl (oi Qb7))) (Qh (DS.lift (Qim 0 fo_ways (Qb 6 rfl (oi Qgs)) rfl (oi Qb7))))))))))))))))
abbrev Qb5:Stmt:=top 25
theorem QMJ:Qo ["one","other"] ["one","other"] (Qa Qb5):=⟨rfl,rfl,rfl,dk,rfl,dk,dk⟩
theorem QEj:Lo Qb5 "one":=dk
theorem Qy3:Lo Qb5 "other":=dk
theorem QDP:Gl Qb5 "zip":=dk
abbrev QnR:PySem.Scope:={ kind:=PySem.ScopeKind.function,names:=[ (PySem.Str.ofString ".0",PySem.NameKind.local),(PySem.Str.ofString "each",PySem.NameKind.local),(PySem.Str.ofString "more",PySem.NameKind.local)],isGenerator:=false,isCoroutine:=false,more:=[]:PySem.Scope }
theorem Qqf:QI ["each","more"] [none,none] QnR (Qa Qb5) ["one","other"]:=⟨rfl,dk,dk,rfl,dk,dk⟩
theorem Qhb:(Qi QnR (Qa Qb5)).names.lookup ("more":Str)=some NameKind.local:=dk
theorem Qhj:(Qi QnR (Qa Qb5)).names.lookup ("each":Str)=some NameKind.local:=dk
def QwM:SD->Out D:=(e2 dAdd (eVar 0) (eVar 1))
def QoO:SD->Out Fl:=(sRetF (eComp [none,none] (itZ (eVar 0) (eVar 1)) (gT [0,1]) cTrue QwM))
def Qe4:List D->Out D:=bodyF true 2 2 QoO
theorem QO3(d0 d1:D):Qe4 [d0,d1]=(QoO [some (.k,d0),some (.k,d1)]>>=retF true):=rfl
theorem QO7(F:FunV K "sums_of" "sums_of" Qb5 f fd dV)(z_zip:mg "zip"=none):FnOk P w K mg base CX0 1 f fd ["one","other"] (SpD K CT true Qe4):=
 @fnV P w K mg base CT true "sums_of" "sums_of" Qb5 f fd dV ["one","other"] ["one","other"] 0 QoO F QMJ fun cdv A outer s H E G hr=>
  (Qh (Qc8 (Q4 rfl Qqf (DI.b (QnU QDP z_zip (Qb 0 rfl (oi QEj)) (Qb 1 rfl (oi Qy3)))) (fun ς=>QjJ (fun i hi=>Qs (by revert hi;revert i;decide) ς)) (Qd6 _) (fun fp s H G p=>⟨(Qhu rfl (QX (i:=0) Qqf.nd rfl (oi Qhj) (QX (i:=1) Qqf.nd rfl (oi Qhb) Qdp (hf:=Or.inr Qhb)) (hf:=Or.inr Qhj))),QN,(QaO (DE.db (Qb 0 rfl (oi Qhj))) (DE.db (Qb 1 rfl (oi Qhb))))⟩))))
abbrev Qan:Stmt:=top 26
theorem Qjz:Qo ["rows","sums","row"] ["rows"] (Qa Qan):=⟨rfl,rfl,rfl,dk,rfl,dk,dk⟩
theorem QjA:Lo Qan "rows":=dk
abbrev Qmd:PySem.Scope:={ kind:=PySem.ScopeKind.function,names:=[(PySem.Str.ofString ".0",PySem.NameKind.local),(PySem.Str.ofString "each",PySem.NameKind.local)],isGenerator:=false,isCoroutine:=false,more:=[]:PySem.Scope }
theorem QmZ:QI ["each"] [none] Qmd (Qa Qan) ["rows","sums","row"]:=⟨rfl,dk,dk,rfl,dk,dk⟩
theorem QhA:(Qi Qmd (Qa Qan)).names.lookup ("each":Str)=some NameKind.local:=dk
def Qh4:SD->Out D:=(eC (.int 0))
theorem QdJ:Lo Qan "sums":=dk
theorem QkN:Lo Qan "row":=dk
theorem Qp6:Gl Qan "sums_of":=dk
def QdE:SD->Out Fl:=(QbF 1 (eA (fun xs=>Qe4 (xs++[])) (aCons (eIxO 1 (e1 dNeg (eC (.int 1)))) (aCons (eVar 2) aNil))))
def Qg0:SD->Out Fl:=(sSeq (sSetO 1 (eLst (aCons (eComp [none] (itL (e2 dIx (eVar 0) (eC (.int 0)))) (gN 0) cTrue Qh4) aNil))) (sSeq (sFor (gN 2) (itL (eVar 0)) QdE) (sRetO 1)))
def Qbf:List D->Out D:=bodyF true 1 3 Qg0
theorem QAt(d0:D):Qbf [d0]=(Qg0 [some (.k,d0),none,none]>>=retF true):=rfl
theorem QBd(F:FunV K "running_sums" "running_sums" Qan f fd dV)(QOX:DefOk P w K mg base CT "sums_of" 1 true [] Qe4):FnOk P w K mg base CX0 2 f fd ["rows"] (SpD K CT true Qbf):=
 @fnV P w K mg base CT true "running_sums" "running_sums" Qan f fd dV ["rows","sums","row"] ["rows"] 1 Qg0 F Qjz fun cdv A outer s H E G hr=>
  (Qf (Qe2 (i:=1) Qjz.nd rfl (oi QdJ) (QbJ (Qc (DF.de (Q4 rfl QmZ (DI.b (Qam (de_ix (Qb 0 rfl (oi QjA)) (DE.db Qe)))) (fun ς=>QO (Qs rfl ς)) (Qt _) (fun fp s H G p=>⟨(Qz (i:=0) QmZ.nd rfl (oi QhA) (hf:=Or.inr QhA)),QN,Qe⟩))) Qg))) (Qf (Qb3 PassesOwn.never rfl (Qam (Qb 0 rfl (oi QjA))) (Qz (i:=2) Qjz.nd rfl (oi QkN)) (Qt _) (Qh (QcW 1 (de_f QOX (hr.mono (by decide)) (Qc (QN5 1 (DE.db (Qq8 (DE.db Qe))) rfl (oi QdJ)) (Qc (Qb 2 rfl (oi QkN)) Qg)) Qp6) rfl (oi QdJ)))) (Qh (QmU 1 rfl (oi QdJ)))))
abbrev QW:Stmt:=inCls (top 27) 1
theorem Qui:Qo ["self","rows"] ["self","rows"] (Qa QW):=⟨rfl,rfl,rfl,dk,rfl,dk,dk⟩
theorem Qht:Lo QW "rows":=dk
abbrev Qfk:PySem.Scope:={ kind:=PySem.ScopeKind.function,names:=[ (PySem.Str.ofString ".0",PySem.NameKind.local),(PySem.Str.ofString "row",PySem.NameKind.local),(PySem.Str.ofString "list",PySem.NameKind.globalImplicit)],isGenerator:=false,isCoroutine:=false,more:=[]:PySem.Scope }
theorem QjC:QI ["row"] [none] Qfk (Qa QW) ["self","rows"]:=⟨rfl,dk,dk,rfl,dk,dk⟩
theorem Qdz:(Qi Qfk (Qa QW)).names.lookup ("row":Str)=some NameKind.local:=dk
theorem QmK:(Qi Qfk (Qa QW)).names.lookup ("list":Str)=some NameKind.globalImplicit:=dk
def QfZ:SD->Out D:=(e1 dList (eVar 0))
theorem QhB:Lo QW "self":=dk
theorem QiH:Gl QW "running_sums":=dk
def Qez:SD->Out Fl:=(sSeq (fun ς=>noX (sFldS Qj "table" 0 (eComp [none] (itL (eVar 1)) (gN 0) cTrue QfZ) ς)) (fun ς=>noX (sFldS Qj "heads" 0 (eA (fun xs=>Qbf (xs++[])) (aCons (eVar 1) aNil)) ς)))
def QP:Str->List (Str×D)->List D->Out (List (Str×D)):=bodyI 2 2 Qez
theorem Qv8(c:Str)(fds:List (Str×D))(d1:D):QP c fds [d1]=(Qez [some (.s,.ins c fds),some (.k,d1)]>>=Qgu c):=rfl
theorem Qwb(F:FunV K "keep_rows" "Clerk.keep_rows" QW f fd dV)(QBi:DefOk P w K mg base CT "running_sums" 2 true [] Qbf)(z_list:mg "list"=none)(fo_table:FldOk K CT Qj "table")(fo_heads:FldOk K CT Qj "heads"):FnOk P w K mg base (CXR P w) 3 f fd ["self","rows"] (SpI K CT QP):=
 @fnI P w K mg base CT "keep_rows" "Clerk.keep_rows" QW f fd dV ["self","rows"] ["self","rows"] 2 Qez F Qui fun cdv A outer s H E G p hr=>
  (Qf (DS.lift (Qim 0 fo_table (DF.de (Q4 rfl QjC (DI.b (Qam (Qb 1 rfl (oi Qht)))) (fun ς=>QO (Qs rfl ς)) (Qt _) (fun fp s H G p=>⟨(Qz (i:=0) QjC.nd rfl (oi Qdz) (hf:=Or.inr Qdz)),QN,(DF.de (QeP QmK z_list (Qb 0 rfl (oi Qdz))))⟩))) rfl (oi QhB))) (Qh (DS.lift (Qim 0 fo_heads (de_f QBi (hr.mono (by decide)) (Qc (Qb 1 rfl (oi Qht)) Qg) QiH) rfl (oi QhB)))))
abbrev Qbc:Stmt:=top 33
theorem QOg:Qo ["thing"] ["thing"] (Qa Qbc):=⟨rfl,rfl,rfl,dk,rfl,dk,dk⟩
theorem Qj4:Lo Qbc "thing":=dk
theorem QDV:Gl Qbc "list":=dk
theorem Qtz:Gl Qbc "isinstance":=dk
theorem QGH:Gl Qbc "len":=dk
theorem Qvd:Gl Qbc "MOST_OUTS":=dk
abbrev Qkr:PySem.Scope:={ kind:=PySem.ScopeKind.function,names:=[ (PySem.Str.ofString ".0",PySem.NameKind.local),(PySem.Str.ofString "count",PySem.NameKind.local),(PySem.Str.ofString "is_within",PySem.NameKind.globalImplicit),(PySem.Str.ofString "MOST_SENT",PySem.NameKind.globalImplicit)],isGenerator:=false,isCoroutine:=false,more:=[]:PySem.Scope }
theorem Qzs:QI ["count"] [none] Qkr (Qa Qbc) ["thing"]:=⟨rfl,dk,dk,rfl,dk,dk⟩
theorem Qg9:(Qi Qkr (Qa Qbc)).names.lookup ("count":Str)=some NameKind.local:=dk
theorem QqC:(Qi Qkr (Qa Qbc)).names.lookup ("MOST_SENT":Str)=some NameKind.globalImplicit:=dk
theorem Qq3:(Qi Qkr (Qa Qbc)).names.lookup ("is_within":Str)=some NameKind.globalImplicit:=dk
def Qsw:SD->Out D:=(eA (fun xs=>QaZ (xs++[])) (aCons (eVar 0) (aCons (eC (.int 0)) (aCons (eC (.int 9)) aNil))))
theorem QHr:Gl Qbc "all":=dk
def QsG:SD->Out Fl:=(sSeq (sIf (tOr' (tNot' (tVal (eIsa (isaT "list") (eVar 0)))) (tVal (e2 dGt (eA fLen (aCons (eVar 0) aNil)) (eC (.int 6))))) (sRet (eC (.bl false))) sNil) (sRet (eA (f1 fAll) (aCons (eComp [none] (itL (eVar 0)) (gN 0) cTrue Qsw) aNil))))
def Qfy:List D->Out D:=bodyF false 1 1 QsG
theorem QQM(d0:D):Qfy [d0]=(QsG [some (.k,d0)]>>=retF false):=rfl
theorem QPX{u_MOST_OUTS:Value}{u_MOST_SENT:Value}(F:FunV K "is_row" "is_row" Qbc f fd dV)(Qd7:DefOk P w K mg base CT "is_within" 2 false [] QaZ)(z_isinstance:mg "isinstance"=none)(z_list:mg "list"=none)(z_len:mg "len"=none)(z_all:mg "all"=none)(c_MOST_OUTS:mg "MOST_OUTS"=some u_MOST_OUTS)(r_MOST_OUTS:RelV (toV (.int 6)) u_MOST_OUTS)(c_MOST_SENT:mg "MOST_SENT"=some u_MOST_SENT)(r_MOST_SENT:RelV (toV (.int 9)) u_MOST_SENT):FnOk P w K mg base CX0 3 f fd ["thing"] (SpD K CT false Qfy):=
 @fnV P w K mg base CT false "is_row" "is_row" Qbc f fd dV ["thing"] ["thing"] 2 QsG F QOg fun cdv A outer s H E G hr=>
  (Qf (ds_if (DW.dt (dw_or (QaC (QaI (Qdq "list" QrG QDV z_list PyProof.Rows.Boot.«list» Qtz z_isinstance (DE.db (Qb 0 rfl (oi Qj4)))))) (QhF (dt_gt (DE.db (QaD QGH z_len (Qu (DE.db (Qb 0 rfl (oi Qj4))) Qy))) (DE.db (QfM (d:=(.int 6)) Qvd c_MOST_OUTS rfl r_MOST_OUTS)))))) (Qh (QA de_bl)) Q1) (Qh (QA (QkM rfl QHr z_all (Qu (DE.db (DF.de (Q4 rfl Qzs (DI.b (Qam (Qb 0 rfl (oi Qj4)))) (fun ς=>QO (Qs rfl ς)) (Qt _) (fun fp s H G p=>⟨(Qz (i:=0) Qzs.nd rfl (oi Qg9) (hf:=Or.inr Qg9)),QN,(de_f Qd7 (hr.mono (by decide)) (Qc (Qb 0 rfl (oi Qg9)) (Qc Qe (Qc (QfM (d:=(.int 9)) QqC c_MOST_SENT rfl r_MOST_SENT) Qg))) Qq3)⟩)))) Qy)))))
abbrev Q8:Stmt:=top 34
theorem QKM:Qo ["thing"] ["thing"] (Qa Q8):=⟨rfl,rfl,rfl,dk,rfl,dk,dk⟩
theorem Qfl:(Qa Q8).names.lookup ("thing":Str)=some NameKind.cell:=dk
theorem QyH:Gl Q8 "list":=dk
theorem Qqy:Gl Q8 "isinstance":=dk
theorem QB7:Gl Q8 "len":=dk
theorem QsU:Gl Q8 "MOST_ROWS":=dk
abbrev QlK:PySem.Scope:={ kind:=PySem.ScopeKind.function,names:=[ (PySem.Str.ofString ".0",PySem.NameKind.local),(PySem.Str.ofString "row",PySem.NameKind.local),(PySem.Str.ofString "is_row",PySem.NameKind.globalImplicit)],isGenerator:=false,isCoroutine:=false,more:=[]:PySem.Scope }
theorem QtW:QI ["row"] [none] QlK (Qa Q8) ["thing"]:=⟨rfl,dk,dk,rfl,dk,dk⟩
theorem Qhf:(Qi QlK (Qa Q8)).names.lookup ("row":Str)=some NameKind.local:=dk
theorem Qsz:(Qi QlK (Qa Q8)).names.lookup ("is_row":Str)=some NameKind.globalImplicit:=dk
def Qm2:SD->Out D:=(eA (fun xs=>Qfy (xs++[])) (aCons (eVar 0) aNil))
theorem Qrc:Gl Q8 "all":=dk
abbrev QhW:PySem.Scope:={ kind:=PySem.ScopeKind.function,names:=[ (PySem.Str.ofString ".0",PySem.NameKind.local),(PySem.Str.ofString "row",PySem.NameKind.local),(PySem.Str.ofString "len",PySem.NameKind.globalImplicit),(PySem.Str.ofString "thing",PySem.NameKind.free)],isGenerator:=false,isCoroutine:=false,more:=[]:PySem.Scope }
theorem Qu0:QI ["row","thing"] [none,some 0] QhW (Qa Q8) ["thing"]:=⟨rfl,dk,dk,rfl,dk,dk⟩
theorem Qhc:(Qi QhW (Qa Q8)).names.lookup ("row":Str)=some NameKind.local:=dk
theorem Qmg:(Qi QhW (Qa Q8)).names.lookup ("len":Str)=some NameKind.globalImplicit:=dk
theorem QtS:(Qi QhW (Qa Q8)).names.lookup ("thing":Str)=some NameKind.cell:=dk
def QnB:SD->Out D:=(e2 dEq (eA fLen (aCons (eVar 0) aNil)) (eA fLen (aCons (e2 dIx (eVar 1) (eC (.int 0))) aNil)))
def QmQ:SD->Out Fl:=(sSeq (sIf (tOr' (tNot' (tVal (eIsa (isaT "list") (eVar 0)))) (tNot' (tVal (Qgl dLe dLe (eC (.int 1)) (eA fLen (aCons (eVar 0) aNil)) (eC (.int 12)))))) (sRet (eC (.bl false))) sNil) (sSeq (sIf (tNot' (tVal (eA (f1 fAll) (aCons (eComp [none] (itL (eVar 0)) (gN 0) cTrue Qm2) aNil)))) (sRet (eC (.bl false))) sNil) (sRet (eA (f1 fAll) (aCons (eComp [none,some 0] (itL (eVar 0)) (gN 0) cTrue QnB) aNil)))))
def Qfr:List D->Out D:=bodyF false 1 1 QmQ
theorem QMm(d0:D):Qfr [d0]=(QmQ [some (.k,d0)]>>=retF false):=rfl
theorem QMV{u_MOST_ROWS:Value}(F:FunV K "is_table" "is_table" Q8 f fd dV)(Qw1:DefOk P w K mg base CT "is_row" 3 false [] Qfy)(z_isinstance:mg "isinstance"=none)(z_list:mg "list"=none)(z_len:mg "len"=none)(z_all:mg "all"=none)(c_MOST_ROWS:mg "MOST_ROWS"=some u_MOST_ROWS)(r_MOST_ROWS:RelV (toV (.int 12)) u_MOST_ROWS):FnOk P w K mg base CX0 4 f fd ["thing"] (SpD K CT false Qfr):=
 @fnV P w K mg base CT false "is_table" "is_table" Q8 f fd dV ["thing"] ["thing"] 3 QmQ F QKM fun cdv A outer s H E G hr=>
  (Qf (ds_if (DW.dt (dw_or (QaC (QaI (Qdq "list" QrG QyH z_list PyProof.Rows.Boot.«list» Qqy z_isinstance (DE.db (Qb 0 rfl (Or.inr (oi Qfl))))))) (QhF (QaC (QGj op_le Qdo (QcF fun _ _=>rfl) op_le Qdo (QcF fun _ _=>rfl) (DE.db Qe) (DE.db (QaD QB7 z_len (Qu (DE.db (Qb 0 rfl (Or.inr (oi Qfl)))) Qy))) (DE.db (QfM (d:=(.int 12)) QsU c_MOST_ROWS rfl r_MOST_ROWS))))))) (Qh (QA de_bl)) Q1) (Qf (ds_if (QaC (QaI (QkM rfl Qrc z_all (Qu (DE.db (DF.de (Q4 rfl QtW (DI.b (Qam (Qb 0 rfl (Or.inr (oi Qfl))))) (fun ς=>QO (Qs rfl ς)) (Qt _) (fun fp s H G p=>⟨(Qz (i:=0) QtW.nd rfl (oi Qhf) (hf:=Or.inr Qhf)),QN,(de_f Qw1 (hr.mono (by decide)) (Qc (Qb 0 rfl (oi Qhf)) Qg) Qsz)⟩)))) Qy)))) (Qh (QA de_bl)) Q1) (Qh (QA (QkM rfl Qrc z_all (Qu (DE.db (DF.de (Q4 rfl Qu0 (DI.b (Qam (Qb 0 rfl (Or.inr (oi Qfl))))) (fun ς=>QO (Qs rfl ς)) (Qt _) (fun fp s H G p=>⟨(Qz (i:=0) Qu0.nd rfl (oi Qhc) (hf:=Or.inr Qhc)),QN,(de_eq hr.units (DE.db (QaD Qmg z_len (Qu (DE.db (Qb 0 rfl (oi Qhc))) Qy))) (DE.db (QaD Qmg z_len (Qu (DE.db (de_ix (Qb 1 rfl (Or.inr (oi QtS))) (DE.db Qe))) Qy))))⟩)))) Qy))))))
abbrev Qcd:Stmt:=inCls (top 31) 0
theorem QHL:Qo ["self","rows"] ["self","rows"] (Qa Qcd):=⟨rfl,rfl,rfl,dk,rfl,dk,dk⟩
theorem Qny:Lo Qcd "rows":=dk
theorem Qso:Gl Qcd "is_table":=dk
theorem Qw2:Lo Qcd "self":=dk
def Qkx:SD->Out Fl:=(sSeq (fun ς=>noX ((sIf (tNot' (tVal (eA (fun xs=>Qfr (xs++[])) (aCons (eVar 1) aNil)))) Qhp sNil) ς)) (QkO Qd "keep_rows" QP 0 (fun ς=>noX ((aCons (eVar 1) aNil) ς))))
def Qeb:Str->List (Str×D)->List D->Out (List (Str×D)):=bodyI 2 2 Qkx
theorem QIl(c:Str)(fds:List (Str×D))(d1:D):Qeb c fds [d1]=(Qkx [some (.s,.ins c fds),some (.k,d1)]>>=Qgu c):=rfl
theorem QIA(F:FunV K "__init__" "Rows.__init__" Qcd f fd dV)(QMF:DefOk P w K mg base CT "is_table" 4 false [] Qfr)(ms_keep_rows:MtOk P w K mg base CT (CXR P w) "keep_rows" 3 Qd (fun _=>SpI K CT QP)):FnOk P w K mg base (CXR P w) 5 f fd ["self","rows"] (SpI K CT Qeb):=
 @fnI P w K mg base CT "__init__" "Rows.__init__" Qcd f fd dV ["self","rows"] ["self","rows"] 4 Qkx F QHL fun cdv A outer s H E G p hr=>
  (Qf (DS.lift (ds_if (QaC (QaI (de_f QMF (hr.mono (by decide)) (Qc (Qb 1 rfl (oi Qny)) Qg) Qso))) (Qh QfC) Q1)) (Qh (Qr6 0 QzE ms_keep_rows (hr.mono (by decide)) (DA.lift (Qc (Qb 1 rfl (oi Qny)) Qg)) rfl (oi Qw2))))
abbrev QaV:Stmt:=top 32
theorem QDi:Qo ["many","place"] ["many","place"] (Qa QaV):=⟨rfl,rfl,rfl,dk,rfl,dk,dk⟩
theorem Qwe:Lo QaV "many":=dk
theorem Qvp:Gl QaV "range":=dk
abbrev QiU:PySem.Scope:={ kind:=PySem.ScopeKind.function,names:=[ (PySem.Str.ofString ".0",PySem.NameKind.local),(PySem.Str.ofString "out",PySem.NameKind.local),(PySem.Str.ofString "place",PySem.NameKind.free)],isGenerator:=false,isCoroutine:=false,more:=[]:PySem.Scope }
theorem Qra:QI ["out","place"] [none,some 1] QiU (Qa QaV) ["many","place"]:=⟨rfl,dk,dk,rfl,dk,dk⟩
theorem QfU:(Qi QiU (Qa QaV)).names.lookup ("out":Str)=some NameKind.local:=dk
theorem QqH:(Qi QiU (Qa QaV)).names.lookup ("place":Str)=some NameKind.cell:=dk
def Qj6:SD->Out D:=(eIf (tVal (e2 dEq (eVar 0) (eVar 1))) (eC (.int 1)) (eC (.int 0)))
def Qjm:SD->Out Fl:=(sRetF (eComp [none,some 1] (itR1 (eVar 0)) (gN 0) cTrue Qj6))
def QdB:List D->Out D:=bodyF true 2 2 Qjm
theorem QGV(d0 d1:D):QdB [d0,d1]=(Qjm [some (.k,d0),some (.k,d1)]>>=retF true):=rfl
theorem QH0(F:FunV K "single_row" "single_row" QaV f fd dV)(z_range:mg "range"=none):FnOk P w K mg base CX0 1 f fd ["many","place"] (SpD K CT true QdB):=
 @fnV P w K mg base CT true "single_row" "single_row" QaV f fd dV ["many","place"] ["many","place"] 0 Qjm F QDi fun cdv A outer s H E G hr=>
  (Qh (Qc8 (Q4 rfl Qra (DI.b (Qa1 Qvp z_range (DE.db (Qb 0 rfl (oi Qwe))))) (fun ς=>QO (Qs rfl ς)) (Qt _) (fun fp s H G p=>⟨(Qz (i:=0) Qra.nd rfl (oi QfU) (hf:=Or.inr QfU)),QN,(de_if (dt_eq hr.units (DE.db (Qb 0 rfl (oi QfU))) (DE.db (Qb 1 rfl (Or.inr (oi QqH))))) Qe Qe)⟩))))
abbrev Qar:Stmt:=inCls (top 28) 0
theorem QF8:Qo ["self","many"] ["self","many"] (Qa Qar):=⟨rfl,rfl,rfl,dk,rfl,dk,dk⟩
theorem QnQ:(Qa Qar).names.lookup ("many":Str)=some NameKind.cell:=dk
theorem QqO:Gl Qar "MOST_OUTS":=dk
theorem Qq7:Gl Qar "is_within":=dk
theorem Qwg:Gl Qar "range":=dk
abbrev QgY:PySem.Scope:={ kind:=PySem.ScopeKind.function,names:=[ (PySem.Str.ofString ".0",PySem.NameKind.local),(PySem.Str.ofString "state",PySem.NameKind.local),(PySem.Str.ofString "single_row",PySem.NameKind.globalImplicit),(PySem.Str.ofString "many",PySem.NameKind.free)],isGenerator:=false,isCoroutine:=false,more:=[]:PySem.Scope }
theorem Qtm:QI ["state","many"] [none,some 1] QgY (Qa Qar) ["self","many"]:=⟨rfl,dk,dk,rfl,dk,dk⟩
theorem Qfp:(Qi QgY (Qa Qar)).names.lookup ("state":Str)=some NameKind.local:=dk
theorem Qtv:(Qi QgY (Qa Qar)).names.lookup ("many":Str)=some NameKind.cell:=dk
theorem Qms:(Qi QgY (Qa Qar)).names.lookup ("single_row":Str)=some NameKind.globalImplicit:=dk
def Qlh:SD->Out D:=(eA (fun xs=>QdB (xs++[])) (aCons (eVar 1) (aCons (eVar 0) aNil)))
theorem Qx4:Lo Qar "self":=dk
def Qkt:SD->Out Fl:=(sSeq (fun ς=>noX ((sIf (tNot' (tVal (eA (fun xs=>QaZ (xs++[])) (aCons (eVar 1) (aCons (eC (.int 1)) (aCons (eC (.int 6)) aNil)))))) Qhp sNil) ς)) (QkO Qd "keep_rows" QP 0 (fun ς=>noX ((aCons (eComp [none,some 1] (itR1 (eVar 1)) (gN 0) cTrue Qlh) aNil) ς))))
def Qed:Str->List (Str×D)->List D->Out (List (Str×D)):=bodyI 2 2 Qkt
theorem QJI(c:Str)(fds:List (Str×D))(d1:D):Qed c fds [d1]=(Qkt [some (.s,.ins c fds),some (.k,d1)]>>=Qgu c):=rfl
theorem QJg{u_MOST_OUTS:Value}(F:FunV K "__init__" "Deal.__init__" Qar f fd dV)(Qd7:DefOk P w K mg base CT "is_within" 2 false [] QaZ)(QG5:DefOk P w K mg base CT "single_row" 1 true [] QdB)(z_range:mg "range"=none)(c_MOST_OUTS:mg "MOST_OUTS"=some u_MOST_OUTS)(r_MOST_OUTS:RelV (toV (.int 6)) u_MOST_OUTS)(ms_keep_rows:MtOk P w K mg base CT (CXR P w) "keep_rows" 3 Qd (fun _=>SpI K CT QP)):FnOk P w K mg base (CXR P w) 4 f fd ["self","many"] (SpI K CT Qed):=
 @fnI P w K mg base CT "__init__" "Deal.__init__" Qar f fd dV ["self","many"] ["self","many"] 3 Qkt F QF8 fun cdv A outer s H E G p hr=>
  (Qf (DS.lift (ds_if (QaC (QaI (de_f Qd7 (hr.mono (by decide)) (Qc (Qb 1 rfl (Or.inr (oi QnQ))) (Qc Qe (Qc (QfM (d:=(.int 6)) QqO c_MOST_OUTS rfl r_MOST_OUTS) Qg))) Qq7))) (Qh QfC) Q1)) (Qh (Qr6 0 QzE ms_keep_rows (hr.mono (by decide)) (DA.lift (Qc (DF.de (Q4 rfl Qtm (DI.b (Qa1 Qwg z_range (DE.db (Qb 1 rfl (Or.inr (oi QnQ)))))) (fun ς=>QO (Qs rfl ς)) (Qt _) (fun fp s H G p=>⟨(Qz (i:=0) Qtm.nd rfl (oi Qfp) (hf:=Or.inr Qfp)),QN,(de_f QG5 (hr.mono (by decide)) (Qc (Qb 1 rfl (Or.inr (oi Qtv))) (Qc (Qb 0 rfl (oi Qfp)) Qg)) Qms)⟩))) Qg)) rfl (oi Qx4))))
abbrev Qab:Stmt:=inCls (top 29) 0
theorem QBo:Qo ["self","size"] ["self","size"] (Qa Qab):=⟨rfl,rfl,rfl,dk,rfl,dk,dk⟩
theorem QkW:(Qa Qab).names.lookup ("size":Str)=some NameKind.cell:=dk
theorem Qoo:Gl Qab "MOST_ROWS":=dk
theorem Qoy:Gl Qab "is_within":=dk
theorem Qts:Gl Qab "range":=dk
abbrev Qh7:PySem.Scope:={ kind:=PySem.ScopeKind.function,names:=[ (PySem.Str.ofString ".0",PySem.NameKind.local),(PySem.Str.ofString "state",PySem.NameKind.local),(PySem.Str.ofString "size",PySem.NameKind.free)],isGenerator:=false,isCoroutine:=false,more:=[]:PySem.Scope }
theorem QoW:QI ["state","size"] [none,some 1] Qh7 (Qa Qab) ["self","size"]:=⟨rfl,dk,dk,rfl,dk,dk⟩
theorem Qek:(Qi Qh7 (Qa Qab)).names.lookup ("state":Str)=some NameKind.local:=dk
theorem QqX:(Qi Qh7 (Qa Qab)).names.lookup ("size":Str)=some NameKind.cell:=dk
def QiV:SD->Out D:=(eLst (aCons (eIf (tVal (e2 dEq (eVar 0) (e2 dSub (eVar 1) (eC (.int 1))))) (eC (.int 1)) (eC (.int 0))) aNil))
theorem Qu7:Lo Qab "self":=dk
def QhR:SD->Out Fl:=(sSeq (fun ς=>noX ((sIf (tNot' (tVal (eA (fun xs=>QaZ (xs++[])) (aCons (eVar 1) (aCons (eC (.int 1)) (aCons (eC (.int 12)) aNil)))))) Qhp sNil) ς)) (QkO Qd "keep_rows" QP 0 (fun ς=>noX ((aCons (eComp [none,some 1] (itR1 (eVar 1)) (gN 0) cTrue QiV) aNil) ς))))
def Qde:Str->List (Str×D)->List D->Out (List (Str×D)):=bodyI 2 2 QhR
theorem QED(c:Str)(fds:List (Str×D))(d1:D):Qde c fds [d1]=(QhR [some (.s,.ins c fds),some (.k,d1)]>>=Qgu c):=rfl
theorem QDB{u_MOST_ROWS:Value}(F:FunV K "__init__" "Bundle.__init__" Qab f fd dV)(Qd7:DefOk P w K mg base CT "is_within" 2 false [] QaZ)(z_range:mg "range"=none)(c_MOST_ROWS:mg "MOST_ROWS"=some u_MOST_ROWS)(r_MOST_ROWS:RelV (toV (.int 12)) u_MOST_ROWS)(ms_keep_rows:MtOk P w K mg base CT (CXR P w) "keep_rows" 3 Qd (fun _=>SpI K CT QP)):FnOk P w K mg base (CXR P w) 4 f fd ["self","size"] (SpI K CT Qde):=
 @fnI P w K mg base CT "__init__" "Bundle.__init__" Qab f fd dV ["self","size"] ["self","size"] 3 QhR F QBo fun cdv A outer s H E G p hr=>
  (Qf (DS.lift (ds_if (QaC (QaI (de_f Qd7 (hr.mono (by decide)) (Qc (Qb 1 rfl (Or.inr (oi QkW))) (Qc Qe (Qc (QfM (d:=(.int 12)) Qoo c_MOST_ROWS rfl r_MOST_ROWS) Qg))) Qoy))) (Qh QfC) Q1)) (Qh (Qr6 0 QzE ms_keep_rows (hr.mono (by decide)) (DA.lift (Qc (DF.de (Q4 rfl QoW (DI.b (Qa1 Qts z_range (DE.db (Qb 1 rfl (Or.inr (oi QkW)))))) (fun ς=>QO (Qs rfl ς)) (Qt _) (fun fp s H G p=>⟨(Qz (i:=0) QoW.nd rfl (oi Qek) (hf:=Or.inr Qek)),QN,(DF.de (QbJ (Qc (de_if (dt_eq hr.units (DE.db (Qb 0 rfl (oi Qek))) (DE.db (Qdg (DE.db (Qb 1 rfl (Or.inr (oi QqX)))) (DE.db Qe)))) Qe Qe) Qg)))⟩))) Qg)) rfl (oi Qu7))))
abbrev Qcc:Stmt:=inCls (top 30) 0
theorem QGN:Qo ["self","counts"] ["self","counts"] (Qa Qcc):=⟨rfl,rfl,rfl,dk,rfl,dk,dk⟩
theorem QkE:Lo Qcc "counts":=dk
theorem Qt8:Gl Qcc "is_row":=dk
theorem Qx7:Lo Qcc "self":=dk
def Qku:SD->Out Fl:=(sSeq (fun ς=>noX ((sIf (tNot' (tVal (eA (fun xs=>Qfy (xs++[])) (aCons (eVar 1) aNil)))) Qhp sNil) ς)) (QkO Qd "keep_rows" QP 0 (fun ς=>noX ((aCons (eLst (aCons (eVar 1) aNil)) aNil) ς))))
def Qec:Str->List (Str×D)->List D->Out (List (Str×D)):=bodyI 2 2 Qku
theorem QJC(c:Str)(fds:List (Str×D))(d1:D):Qec c fds [d1]=(Qku [some (.s,.ins c fds),some (.k,d1)]>>=Qgu c):=rfl
theorem QJN(F:FunV K "__init__" "Copy.__init__" Qcc f fd dV)(Qw1:DefOk P w K mg base CT "is_row" 3 false [] Qfy)(ms_keep_rows:MtOk P w K mg base CT (CXR P w) "keep_rows" 3 Qd (fun _=>SpI K CT QP)):FnOk P w K mg base (CXR P w) 4 f fd ["self","counts"] (SpI K CT Qec):=
 @fnI P w K mg base CT "__init__" "Copy.__init__" Qcc f fd dV ["self","counts"] ["self","counts"] 3 Qku F QGN fun cdv A outer s H E G p hr=>
  (Qf (DS.lift (ds_if (QaC (QaI (de_f Qw1 (hr.mono (by decide)) (Qc (Qb 1 rfl (oi QkE)) Qg) Qt8))) (Qh QfC) Q1)) (Qh (Qr6 0 QzE ms_keep_rows (hr.mono (by decide)) (DA.lift (Qc (DF.de (QbJ (Qc (Qb 1 rfl (oi QkE)) Qg))) Qg)) rfl (oi Qx7))))
abbrev Q9:Stmt:=top 67
theorem QFj:Qo ["_law_kind","_law_rows_here"] ["_law_kind","_law_rows_here"] (Qa Q9):=⟨rfl,rfl,rfl,dk,rfl,dk,dk⟩
theorem QeV:Lo Q9 "_law_kind":=dk
theorem QbQ:Lo Q9 "_law_rows_here":=dk
theorem QoD:Gl Q9 "len":=dk
theorem Qw6:Gl Q9 "Deal":=dk
theorem Qvu:Gl Q9 "Bundle":=dk
theorem Qxm:Gl Q9 "list":=dk
theorem QwT:Gl Q9 "Copy":=dk
abbrev QjU:PySem.Scope:={ kind:=PySem.ScopeKind.function,names:=[ (PySem.Str.ofString ".0",PySem.NameKind.local),(PySem.Str.ofString "_law_row",PySem.NameKind.local),(PySem.Str.ofString "list",PySem.NameKind.globalImplicit)],isGenerator:=false,isCoroutine:=false,more:=[]:PySem.Scope }
theorem Qtf:QI ["_law_row"] [none] QjU (Qa Q9) ["_law_kind","_law_rows_here"]:=⟨rfl,dk,dk,rfl,dk,dk⟩
theorem QdR:(Qi QjU (Qa Q9)).names.lookup ("_law_row":Str)=some NameKind.local:=dk
theorem QtF:(Qi QjU (Qa Q9)).names.lookup ("list":Str)=some NameKind.globalImplicit:=dk
def Qs1:SD->Out D:=(e1 dList (eVar 0))
theorem QxZ:Gl Q9 "Rows":=dk
def Qet:SD->Out Fl:=(sSeq (sIf (tVal (e2 dEq (eVar 0) (eC (.int 0)))) (sRetF (eMake "Deal" Qed (aCons (eA fLen (aCons (eVar 1) aNil)) aNil))) sNil) (sSeq (sIf (tVal (e2 dEq (eVar 0) (eC (.int 1)))) (sRetF (eMake "Bundle" Qde (aCons (eA fLen (aCons (eVar 1) aNil)) aNil))) sNil) (sSeq (sIf (tVal (e2 dEq (eVar 0) (eC (.int 2)))) (sRetF (eMake "Copy" Qec (aCons (e1 dList (e2 dIx (eVar 1) (eC (.int 0)))) aNil))) sNil) (sRetF (eMake "Rows" Qeb (aCons (eComp [none] (itL (eVar 1)) (gN 0) cTrue Qs1) aNil))))))
def QcP:List D->Out D:=bodyF true 2 2 Qet
theorem Qkp(d0 d1:D):QcP [d0,d1]=(Qet [some (.k,d0),some (.k,d1)]>>=retF true):=rfl
theorem QI4(F:FunV K "_law_clerk" "_law_clerk" Q9 f fd dV)(z_len:mg "len"=none)(z_list:mg "list"=none)(QCA:MkOk P w K mg base CT "Deal" 4 Qed)(Qu9:MkOk P w K mg base CT "Bundle" 4 Qde)(QCu:MkOk P w K mg base CT "Copy" 4 Qec)(QCs:MkOk P w K mg base CT "Rows" 5 Qeb):FnOk P w K mg base CX0 7 f fd ["_law_kind","_law_rows_here"] (SpD K CT true QcP):=
 @fnV P w K mg base CT true "_law_clerk" "_law_clerk" Q9 f fd dV ["_law_kind","_law_rows_here"] ["_law_kind","_law_rows_here"] 6 Qet F QFj fun cdv A outer s H E G hr=>
  (Qf (ds_if (dt_eq hr.units (DE.db (Qb 0 rfl (oi QeV))) (DE.db Qe)) (Qh (Qc8 (Qq4 rz0 QCA (hr.mono (by decide)) (Qc (QaD QoD z_len (Qu (DE.db (Qb 1 rfl (oi QbQ))) Qy)) Qg) Qw6))) Q1) (Qf (ds_if (dt_eq hr.units (DE.db (Qb 0 rfl (oi QeV))) (DE.db Qe)) (Qh (Qc8 (Qq4 rz0 Qu9 (hr.mono (by decide)) (Qc (QaD QoD z_len (Qu (DE.db (Qb 1 rfl (oi QbQ))) Qy)) Qg) Qvu))) Q1) (Qf (ds_if (dt_eq hr.units (DE.db (Qb 0 rfl (oi QeV))) (DE.db Qe)) (Qh (Qc8 (Qq4 rz0 QCu (hr.mono (by decide)) (Qc (DF.de (QeP Qxm z_list (de_ix (Qb 1 rfl (oi QbQ)) (DE.db Qe)))) Qg) QwT))) Q1) (Qh (Qc8 (Qq4 rz0 QCs (hr.mono (by decide)) (Qc (DF.de (Q4 rfl Qtf (DI.b (Qam (Qb 1 rfl (oi QbQ)))) (fun ς=>QO (Qs rfl ς)) (Qt _) (fun fp s H G p=>⟨(Qz (i:=0) Qtf.nd rfl (oi QdR) (hf:=Or.inr QdR)),QN,(DF.de (QeP QtF z_list (Qb 0 rfl (oi QdR))))⟩))) Qg) QxZ))))))
abbrev Qw:Stmt:=top 68
theorem QbS:Qo ["_law_plan_here","_law_doors","_law_letters","_law_clerks","_law_k","_law_kind","_law_rows_here","_law_leads","_law_state","_law_names"] ["_law_plan_here","_law_doors"] (Qa Qw):=⟨rfl,rfl,rfl,dk,rfl,dk,dk⟩
theorem Qf8:(Qa Qw).names.lookup ("_law_letters":Str)=some NameKind.cell:=dk
theorem QdF:Lo Qw "_law_clerks":=dk
theorem Qe8:Lo Qw "_law_plan_here":=dk
theorem Qx2:Gl Qw "len":=dk
theorem QkX:Gl Qw "range":=dk
theorem QfY:Lo Qw "_law_k":=dk
theorem Qg4:Lo Qw "_law_state":=dk
theorem Qg3:Lo Qw "_law_leads":=dk
theorem Qe7:Lo Qw "_law_rows_here":=dk
theorem Qhl:Lo Qw "_law_kind":=dk
abbrev Qi7:PySem.Scope:={ kind:=PySem.ScopeKind.function,names:=[ (PySem.Str.ofString ".0",PySem.NameKind.local),(PySem.Str.ofString "_law_to",PySem.NameKind.local),(PySem.Str.ofString "_law_letters",PySem.NameKind.free)],isGenerator:=false,isCoroutine:=false,more:=[]:PySem.Scope }
theorem QqZ:QI ["_law_to","_law_letters"] [none,some 2] Qi7 (Qa Qw) ["_law_plan_here","_law_doors","_law_letters","_law_clerks","_law_k","_law_kind","_law_rows_here","_law_leads","_law_state","_law_names"]:=⟨rfl,dk,dk,rfl,dk,dk⟩
theorem Qbw:(Qi Qi7 (Qa Qw)).names.lookup ("_law_to":Str)=some NameKind.local:=dk
theorem QeZ:(Qi Qi7 (Qa Qw)).names.lookup ("_law_letters":Str)=some NameKind.cell:=dk
def Qkb:SD->Out D:=(eIf (tVal (e2 dLt (eVar 0) (eC (.int 0)))) (e2 dAdd (eC (.str "d")) (e2 dIx (eVar 1) (e2 dSub (e1 dNeg (eC (.int 1))) (eVar 0)))) (e2 dAdd (eC (.str "c")) (e2 dIx (eVar 1) (eVar 0))))
theorem Qg2:Lo Qw "_law_names":=dk
theorem Qou:Gl Qw "_law_clerk":=dk
def QgR:SD->Out Fl:=(sSeq (sUnp [5,6,7,8] (e2 dIx (eVar 0) (eVar 4))) (sSeq (sSet 9 (eComp [none,some 2] (itL (eVar 7)) (gN 0) cTrue Qkb)) (QbF 3 (eTup (aCons (e2 dAdd (eC (.str "c")) (e2 dIx (eVar 2) (eVar 4))) (aCons (eA (fun xs=>QcP (xs++[])) (aCons (eVar 5) (aCons (eVar 6) aNil))) (aCons (eVar 9) (aCons (eVar 8) aNil))))))))
theorem Qoz:Lo Qw "_law_doors":=dk
abbrev Qiq:PySem.Scope:={ kind:=PySem.ScopeKind.function,names:=[ (PySem.Str.ofString ".0",PySem.NameKind.local),(PySem.Str.ofString "_law_d",PySem.NameKind.local),(PySem.Str.ofString "_law_letters",PySem.NameKind.free)],isGenerator:=false,isCoroutine:=false,more:=[]:PySem.Scope }
theorem QqW:QI ["_law_d","_law_letters"] [none,some 2] Qiq (Qa Qw) ["_law_plan_here","_law_doors","_law_letters","_law_clerks","_law_k","_law_kind","_law_rows_here","_law_leads","_law_state","_law_names"]:=⟨rfl,dk,dk,rfl,dk,dk⟩
theorem Qd8:(Qi Qiq (Qa Qw)).names.lookup ("_law_d":Str)=some NameKind.local:=dk
theorem QjV:(Qi Qiq (Qa Qw)).names.lookup ("_law_letters":Str)=some NameKind.cell:=dk
def QeQ:SD->Out D:=(e2 dAdd (eC (.str "d")) (e2 dIx (eVar 1) (eVar 0)))
theorem QtK:Gl Qw "Office":=dk
def Qi4:SD->Out Fl:=(sSeq (sSet 2 (eC (.str "abcdef"))) (sSeq (sSetO 3 (eLst aNil)) (sSeq (sFor (gN 4) (itR1 (eA fLen (aCons (eVar 0) aNil))) QgR) (fun ς=>(sRetF (eMake "Office" Qbe (aCons (eVar 3) (aCons (eLst (aCons (eTup (aCons (eC (.str "in")) (aCons (eC (.str "ca")) aNil))) aNil)) (aCons (eComp [none,some 2] (itR1 (eVar 1)) (gN 0) cTrue QeQ) aNil))))) (frz 3 ς)))))
def Qdw:List D->Out D:=bodyF true 2 10 Qi4
theorem QHT(d0 d1:D):Qdw [d0,d1]=(Qi4 [some (.k,d0),some (.k,d1),none,none,none,none,none,none,none,none]>>=retF true):=rfl
theorem QGr(F:FunV K "_law_office" "_law_office" Qw f fd dV)(QIn:DefOk P w K mg base CT "_law_clerk" 7 true [] QcP)(z_range:mg "range"=none)(z_len:mg "len"=none)(Qu3:MkOk P w K mg base CT "Office" 5 Qbe):FnOk P w K mg base CX0 8 f fd ["_law_plan_here","_law_doors"] (SpD K CT true Qdw):=
 @fnV P w K mg base CT true "_law_office" "_law_office" Qw f fd dV ["_law_plan_here","_law_doors","_law_letters","_law_clerks","_law_k","_law_kind","_law_rows_here","_law_leads","_law_state","_law_names"] ["_law_plan_here","_law_doors"] 7 Qi4 F QbS fun cdv A outer s H E G hr=>
  (Qf (Qv (i:=2) QbS.nd rfl (Or.inr Qf8) Qn9) (Qf (Qe2 (i:=3) QbS.nd rfl (oi QdF) (QbJ Qg)) (Qf (Qb3 PassesOwn.never rfl (Qa1 QkX z_range (DE.db (QaD Qx2 z_len (Qu (DE.db (Qb 0 rfl (oi Qe8))) Qy)))) (Qz (i:=4) QbS.nd rfl (oi QfY)) (Qt _) (Qf (QHQ rfl (de_ix (Qb 0 rfl (oi Qe8)) (DE.db (Qb 4 rfl (oi QfY)))) (QX (i:=5) QbS.nd rfl (oi Qhl) (QX (i:=6) QbS.nd rfl (oi Qe7) (QX (i:=7) QbS.nd rfl (oi Qg3) (QX (i:=8) QbS.nd rfl (oi Qg4) Qdp))))) (Qf (QjS (i:=9) rfl QqZ (DI.b (Qam (Qb 7 rfl (oi Qg3)))) (fun ς=>QO (Qs rfl ς)) (Qt _) (fun fp s H G p=>⟨(Qz (i:=0) QqZ.nd rfl (oi Qbw) (hf:=Or.inr Qbw)),QN,(de_if (dt_lt (DE.db (Qb 0 rfl (oi Qbw))) (DE.db Qe)) (QaO (DE.db Qn9) (DE.db (de_ix (Qb 1 rfl (Or.inr (oi QeZ))) (DE.db (Qdg (DE.db (Qq8 (DE.db Qe))) (DE.db (Qb 0 rfl (oi Qbw)))))))) (QaO (DE.db Qn9) (DE.db (de_ix (Qb 1 rfl (Or.inr (oi QeZ))) (DE.db (Qb 0 rfl (oi Qbw)))))))⟩) QbS.nd rfl (oi Qg2)) (Qh (QcW 3 (Qdh (Qc (QaO (DE.db Qn9) (DE.db (de_ix (Qb 2 rfl (Or.inr (oi Qf8))) (DE.db (Qb 4 rfl (oi QfY)))))) (Qc (de_f QIn (hr.mono (by decide)) (Qc (Qb 5 rfl (oi Qhl)) (Qc (Qb 6 rfl (oi Qe7)) Qg)) Qou) (Qc (Qb 9 rfl (oi Qg2)) (Qc (Qb 8 rfl (oi Qg4)) Qg))))) rfl (oi QdF)))))) (Qh (Qyp 3 (Qc8 (Qq4 rz0 Qu3 (hr.mono (by decide)) (Qc (Qb 3 rfl (oi QdF)) (Qc (DF.de (QbJ (Qc (Qdh (Qc Qn9 (Qc Qn9 Qg))) Qg))) (Qc (DF.de (Q4 rfl QqW (DI.b (Qa1 QkX z_range (DE.db (Qb 1 rfl (oi Qoz))))) (fun ς=>QO (Qs rfl ς)) (Qt _) (fun fp s H G p=>⟨(Qz (i:=0) QqW.nd rfl (oi Qd8) (hf:=Or.inr Qd8)),QN,(QaO (DE.db Qn9) (DE.db (de_ix (Qb 1 rfl (Or.inr (oi QjV))) (DE.db (Qb 0 rfl (oi Qd8))))))⟩))) Qg))) QtK)))))))
abbrev Qbd:Stmt:=top 59
theorem QgW:Qo ["_law_one","_law_other"] ["_law_one","_law_other"] (Qa Qbd):=⟨rfl,rfl,rfl,dk,rfl,dk,dk⟩
theorem QbO:Lo Qbd "_law_one":=dk
theorem Ql4:Gl Qbd "abs":=dk
theorem QaJ:Lo Qbd "_law_other":=dk
def Qd5:SD->Out Bool:=(tVal (e2 dGt (eVar 1) (eC (.int 0))))
def Qd3:SD->Out Fl:=(sPar 0 1 (aCons (eVar 1) (aCons (e2 dMod (eVar 0) (eVar 1)) aNil)))
def QhK:SD->Out Fl:=(sSeq (sSet 0 (eA (f1 dAbs) (aCons (eVar 0) aNil))) (sSeq (sSet 1 (eA (f1 dAbs) (aCons (eVar 1) aNil))) (sSeq (Qc4 Qd5 Qd3) (sRet (eVar 0)))))
def Qdf:List D->Out D:=bodyF false 2 2 QhK
theorem QEt(d0 d1:D):Qdf [d0,d1]=(QhK [some (.k,d0),some (.k,d1)]>>=retF false):=rfl
theorem QDZ(F:FunV K "_law_divisor" "_law_divisor" Qbd f fd dV)(z_abs:mg "abs"=none):FnOk P w K mg base CX0 1 f fd ["_law_one","_law_other"] (SpD K CT false Qdf):=
 @fnV P w K mg base CT false "_law_divisor" "_law_divisor" Qbd f fd dV ["_law_one","_law_other"] ["_law_one","_law_other"] 0 QhK F QgW fun cdv A outer s H E G hr=>
  (Qf (Qv (i:=0) QgW.nd rfl (oi QbO) (Qz8 Ql4 z_abs PyProof.Rows.Boot.«abs» (Qu (DE.db (Qb 0 rfl (oi QbO))) Qy))) (Qf (Qv (i:=1) QgW.nd rfl (oi QaJ) (Qz8 Ql4 z_abs PyProof.Rows.Boot.«abs» (Qu (DE.db (Qb 1 rfl (oi QaJ))) Qy))) (Qf (QCX PassesOwn.never (dt_gt (DE.db (Qb 1 rfl (oi QaJ))) (DE.db Qe)) (Qh (QUb (i:=0) (j:=1) rfl QgW.nd rfl rfl (by decide) QbO QaJ (Qc (Qb 1 rfl (oi QaJ)) (Qc (QaN (DE.db (Qb 0 rfl (oi QbO))) (DE.db (Qb 1 rfl (oi QaJ)))) Qg)) (by rfl)))) (Qh (QA (Qb 0 rfl (oi QbO)))))))
abbrev QcR:Stmt:=top 60
theorem Qyy:Qo ["_law_top","_law_bottom","_law_by"] ["_law_top","_law_bottom"] (Qa QcR):=⟨rfl,rfl,rfl,dk,rfl,dk,dk⟩
theorem QkG:Lo QcR "_law_top":=dk
theorem Qik:Lo QcR "_law_bottom":=dk
theorem Qpk:Gl QcR "_law_divisor":=dk
theorem Qhe:Lo QcR "_law_by":=dk
def QoH:SD->Out Fl:=(sSeq (sSet 2 (eA (fun xs=>Qdf (xs++[])) (aCons (eVar 0) (aCons (eVar 1) aNil)))) (sRet (eTup (aCons (e2 dFdiv (eVar 0) (eVar 2)) (aCons (e2 dFdiv (eVar 1) (eVar 2)) aNil)))))
def Qc0:List D->Out D:=bodyF false 2 3 QoH
theorem QOR(d0 d1:D):Qc0 [d0,d1]=(QoH [some (.k,d0),some (.k,d1),none]>>=retF false):=rfl
theorem QOK(F:FunV K "_law_low" "_law_low" QcR f fd dV)(QD5:DefOk P w K mg base CT "_law_divisor" 1 false [] Qdf):FnOk P w K mg base CX0 2 f fd ["_law_top","_law_bottom"] (SpD K CT false Qc0):=
 @fnV P w K mg base CT false "_law_low" "_law_low" QcR f fd dV ["_law_top","_law_bottom","_law_by"] ["_law_top","_law_bottom"] 1 QoH F Qyy fun cdv A outer s H E G hr=>
  (Qf (Qv (i:=2) Qyy.nd rfl (oi Qhe) (de_f QD5 (hr.mono (by decide)) (Qc (Qb 0 rfl (oi QkG)) (Qc (Qb 1 rfl (oi Qik)) Qg)) Qpk)) (Qh (QA (Qdh (Qc (QbE (DE.db (Qb 0 rfl (oi QkG))) (DE.db (Qb 2 rfl (oi Qhe)))) (Qc (QbE (DE.db (Qb 1 rfl (oi Qik))) (DE.db (Qb 2 rfl (oi Qhe)))) Qg))))))
abbrev Q5:Stmt:=top 69
theorem QdU:Qo ["_law_cell_here","_law_many","_law_found","_law_bottom","_law_k","_law_number","_law_top"] ["_law_cell_here","_law_many"] (Qa Q5):=⟨rfl,rfl,rfl,dk,rfl,dk,dk⟩
theorem QdP:Lo Q5 "_law_found":=dk
theorem QcU:Lo Q5 "_law_cell_here":=dk
theorem QdO:Gl Q5 "_law_mixed":=dk
theorem Qgv:Lo Q5 "_law_bottom":=dk
theorem QpZ:Lo Q5 "_law_many":=dk
theorem QuD:Gl Q5 "range":=dk
theorem QjD:Lo Q5 "_law_k":=dk
theorem Qcl:Lo Q5 "_law_number":=dk
theorem Qil:Lo Q5 "_law_top":=dk
theorem Qqx:Gl Q5 "_law_low":=dk
def QgQ:SD->Out Fl:=(sSeq (sSet 5 (eA (fun xs=>Qx (xs++[])) (aCons (eVar 0) (aCons (e2 dAdd (eVar 4) (eC (.int 90))) aNil)))) (sSeq (sSet 6 (e2 dIx (eLst (aCons (e2 dSub (e2 dMod (e2 dFdiv (eVar 5) (eC (.int 4))) (eC (.int 121))) (eC (.int 60))) (aCons (e2 dSub (e2 dMod (e2 dFdiv (eVar 5) (eC (.int 4))) (e2 dMul (eC (.int 2)) (e2 dPow (eC (.int 10)) (eC (.int 15))))) (e2 dPow (eC (.int 10)) (eC (.int 15)))) (aCons (eC (.int 0)) (aCons (eC (.int 1)) aNil))))) (e2 dMod (eVar 5) (eC (.int 4))))) (QbF 2 (eA (fun xs=>Qc0 (xs++[])) (aCons (eVar 6) (aCons (eVar 3) aNil))))))
def QiY:SD->Out Fl:=(sSeq (sSetO 2 (eLst aNil)) (sSeq (sSet 3 (e2 dAdd (eC (.int 1)) (e2 dMod (e2 dFdiv (eA (fun xs=>Qx (xs++[])) (aCons (eVar 0) (aCons (eC (.int 89)) aNil))) (eC (.int 2))) (e2 dIx (eLst (aCons (eC (.int 12)) (aCons (e2 dPow (eC (.int 10)) (eC (.int 9))) aNil))) (e2 dMod (eA (fun xs=>Qx (xs++[])) (aCons (eVar 0) (aCons (eC (.int 89)) aNil))) (eC (.int 2))))))) (sSeq (sFor (gN 4) (itR1 (eVar 1)) QgQ) (sRetO 2))))
def QdA:List D->Out D:=bodyF true 2 7 QiY
theorem QF5(d0 d1:D):QdA [d0,d1]=(QiY [some (.k,d0),some (.k,d1),none,none,none,none,none]>>=retF true):=rfl
theorem QGl(F:FunV K "_law_worths" "_law_worths" Q5 f fd dV)(QaY:DefOk P w K mg base CT "_law_mixed" 1 false [] Qx)(QkQ:DefOk P w K mg base CT "_law_low" 2 false [] Qc0)(z_range:mg "range"=none):FnOk P w K mg base CX0 3 f fd ["_law_cell_here","_law_many"] (SpD K CT true QdA):=
 @fnV P w K mg base CT true "_law_worths" "_law_worths" Q5 f fd dV ["_law_cell_here","_law_many","_law_found","_law_bottom","_law_k","_law_number","_law_top"] ["_law_cell_here","_law_many"] 2 QiY F QdU fun cdv A outer s H E G hr=>
  (Qf (Qe2 (i:=2) QdU.nd rfl (oi QdP) (QbJ Qg)) (Qf (Qv (i:=3) QdU.nd rfl (oi Qgv) (QaO (DE.db Qe) (DE.db (QaN (DE.db (QbE (DE.db (de_f QaY (hr.mono (by decide)) (Qc (Qb 0 rfl (oi QcU)) (Qc Qe Qg)) QdO)) (DE.db Qe))) (DE.db (de_ix (DF.de (QbJ (Qc Qe (Qc (QAd (DE.db Qe) (DE.db Qe)) Qg)))) (DE.db (QaN (DE.db (de_f QaY (hr.mono (by decide)) (Qc (Qb 0 rfl (oi QcU)) (Qc Qe Qg)) QdO)) (DE.db Qe))))))))) (Qf (Qb3 PassesOwn.never rfl (Qa1 QuD z_range (DE.db (Qb 1 rfl (oi QpZ)))) (Qz (i:=4) QdU.nd rfl (oi QjD)) (Qt _) (Qf (Qv (i:=5) QdU.nd rfl (oi Qcl) (de_f QaY (hr.mono (by decide)) (Qc (Qb 0 rfl (oi QcU)) (Qc (QaO (DE.db (Qb 4 rfl (oi QjD))) (DE.db Qe)) Qg)) QdO)) (Qf (Qv (i:=6) QdU.nd rfl (oi Qil) (de_ix (DF.de (QbJ (Qc (Qdg (DE.db (QaN (DE.db (QbE (DE.db (Qb 5 rfl (oi Qcl))) (DE.db Qe))) (DE.db Qe))) (DE.db Qe)) (Qc (Qdg (DE.db (QaN (DE.db (QbE (DE.db (Qb 5 rfl (oi Qcl))) (DE.db Qe))) (DE.db (Qa2 (DE.db Qe) (DE.db (QAd (DE.db Qe) (DE.db Qe))))))) (DE.db (QAd (DE.db Qe) (DE.db Qe)))) (Qc Qe (Qc Qe Qg)))))) (DE.db (QaN (DE.db (Qb 5 rfl (oi Qcl))) (DE.db Qe))))) (Qh (QcW 2 (de_f QkQ (hr.mono (by decide)) (Qc (Qb 6 rfl (oi Qil)) (Qc (Qb 3 rfl (oi Qgv)) Qg)) Qqx) rfl (oi QdP)))))) (Qh (QmU 2 rfl (oi QdP))))))
abbrev Qac:Stmt:=top 74
theorem QgV:Qo ["_law_cell_here","_law_many","_law_k","_law_found","_law_j","_law_number"] ["_law_cell_here","_law_many","_law_k"] (Qa Qac):=⟨rfl,rfl,rfl,dk,rfl,dk,dk⟩
theorem Qdu:Lo Qac "_law_found":=dk
theorem Qon:Lo Qac "_law_many":=dk
theorem QtG:Gl Qac "range":=dk
theorem Qi3:Lo Qac "_law_j":=dk
theorem Qkd:Lo Qac "_law_cell_here":=dk
theorem QsS:Lo Qac "_law_k":=dk
theorem QnO:Gl Qac "_law_mixed":=dk
theorem Qb8:Lo Qac "_law_number":=dk
def Qf7:SD->Out Fl:=(sSeq (sSet 5 (eA (fun xs=>Qx (xs++[])) (aCons (eVar 0) (aCons (e2 dAdd (eVar 2) (eVar 4)) aNil)))) (QbF 3 (e2 dIx (eLst (aCons (eC (.int 0)) (aCons (eC (.int 1)) (aCons (e2 dMod (e2 dFdiv (eVar 5) (eC (.int 4))) (eC (.int 9))) (aCons (e2 dMod (e2 dFdiv (eVar 5) (eC (.int 4))) (e2 dAdd (e2 dPow (eC (.int 10)) (eC (.int 9))) (eC (.int 1)))) aNil))))) (e2 dMod (eVar 5) (eC (.int 4))))))
def QhO:SD->Out Fl:=(sSeq (sSetO 3 (eLst aNil)) (sSeq (sFor (gN 4) (itR1 (eVar 1)) Qf7) (sRetO 3)))
def Qcu:List D->Out D:=bodyF true 3 6 QhO
theorem QDs(d0 d1 d2:D):Qcu [d0,d1,d2]=(QhO [some (.k,d0),some (.k,d1),some (.k,d2),none,none,none]>>=retF true):=rfl
theorem QEb(F:FunV K "_law_counted" "_law_counted" Qac f fd dV)(QaY:DefOk P w K mg base CT "_law_mixed" 1 false [] Qx)(z_range:mg "range"=none):FnOk P w K mg base CX0 2 f fd ["_law_cell_here","_law_many","_law_k"] (SpD K CT true Qcu):=
 @fnV P w K mg base CT true "_law_counted" "_law_counted" Qac f fd dV ["_law_cell_here","_law_many","_law_k","_law_found","_law_j","_law_number"] ["_law_cell_here","_law_many","_law_k"] 1 QhO F QgV fun cdv A outer s H E G hr=>
  (Qf (Qe2 (i:=3) QgV.nd rfl (oi Qdu) (QbJ Qg)) (Qf (Qb3 PassesOwn.never rfl (Qa1 QtG z_range (DE.db (Qb 1 rfl (oi Qon)))) (Qz (i:=4) QgV.nd rfl (oi Qi3)) (Qt _) (Qf (Qv (i:=5) QgV.nd rfl (oi Qb8) (de_f QaY (hr.mono (by decide)) (Qc (Qb 0 rfl (oi Qkd)) (Qc (QaO (DE.db (Qb 2 rfl (oi QsS))) (DE.db (Qb 4 rfl (oi Qi3)))) Qg)) QnO)) (Qh (QcW 3 (de_ix (DF.de (QbJ (Qc Qe (Qc Qe (Qc (QaN (DE.db (QbE (DE.db (Qb 5 rfl (oi Qb8))) (DE.db Qe))) (DE.db Qe)) (Qc (QaN (DE.db (QbE (DE.db (Qb 5 rfl (oi Qb8))) (DE.db Qe))) (DE.db (QaO (DE.db (QAd (DE.db Qe) (DE.db Qe))) (DE.db Qe)))) Qg)))))) (DE.db (QaN (DE.db (Qb 5 rfl (oi Qb8))) (DE.db Qe)))) rfl (oi Qdu))))) (Qh (QmU 3 rfl (oi Qdu)))))
abbrev Qal:Stmt:=top 9
theorem QdH:Qo ["one","other","rest"] ["one","other"] (Qa Qal):=⟨rfl,rfl,rfl,dk,rfl,dk,dk⟩
theorem Qck:Lo Qal "other":=dk
theorem Qea:Lo Qal "one":=dk
theorem Qg5:Lo Qal "rest":=dk
def Qcq:SD->Out Bool:=(tVal (e2 dNe (eVar 1) (eC (.int 0))))
def Qch:SD->Out Fl:=(sSeq (sSet 2 (e2 dMod (eVar 0) (eVar 1))) (sSeq (sSet 0 (eVar 1)) (sSet 1 (eVar 2))))
def Qgk:SD->Out Fl:=(sSeq (Qc4 Qcq Qch) (sRet (eVar 0)))
def Qaj:List D->Out D:=bodyF false 2 3 Qgk
theorem Qup(F:FunV K "greatest_divisor" "greatest_divisor" Qal f fd dV)  : FnOk P w K mg base CX0 1 f fd ["one","other"] (SpD K CT false Qaj):=
 @fnV P w K mg base CT false "greatest_divisor" "greatest_divisor" Qal f fd dV ["one","other","rest"] ["one","other"] 0 Qgk F QdH fun cdv A outer s H E G hr=>
  (Qf (QCX PassesOwn.never (dt_ne hr.units (DE.db (Qb 1 rfl (oi Qck))) (DE.db Qe)) (Qf (Qv (i:=2) QdH.nd rfl (oi Qg5) (QaN (DE.db (Qb 0 rfl (oi Qea))) (DE.db (Qb 1 rfl (oi Qck))))) (Qf (Qv (i:=0) QdH.nd rfl (oi Qea) (Qb 1 rfl (oi Qck))) (Qh (Qv (i:=1) QdH.nd rfl (oi Qck) (Qb 2 rfl (oi Qg5))))))) (Qh (QA (Qb 0 rfl (oi Qea)))))
abbrev Qav:Stmt:=top 13
theorem Qft:Qo ["fractions","least","each"] ["fractions"] (Qa Qav):=⟨rfl,rfl,rfl,dk,rfl,dk,dk⟩
theorem Qb6:Lo Qav "least":=dk
theorem QmN:Lo Qav "fractions":=dk
theorem Qe9:Lo Qav "each":=dk
theorem Qh8:Gl Qav "greatest_divisor":=dk
def Qew:SD->Out Fl:=(sSet 1 (e2 dMul (eVar 1) (e2 dFdiv (e2 dIx (eVar 2) (eC (.int 1))) (eA (fun xs=>Qaj (xs++[])) (aCons (eVar 1) (aCons (e2 dIx (eVar 2) (eC (.int 1))) aNil))))))
def Qgd:SD->Out Fl:=(sSeq (sSet 1 (eC (.int 1))) (sSeq (sFor (gN 2) (itL (eVar 0)) Qew) (sRet (eVar 1))))
def QbD:List D->Out D:=bodyF false 1 3 Qgd
theorem QAa(d0:D):QbD [d0]=(Qgd [some (.k,d0),none,none]>>=retF false):=rfl
theorem Qz3(F:FunV K "common_bottom" "common_bottom" Qav f fd dV)(Qgp:DefOk P w K mg base CT "greatest_divisor" 1 false [] Qaj):FnOk P w K mg base CX0 2 f fd ["fractions"] (SpD K CT false QbD):=
 @fnV P w K mg base CT false "common_bottom" "common_bottom" Qav f fd dV ["fractions","least","each"] ["fractions"] 1 Qgd F Qft fun cdv A outer s H E G hr=>
  (Qf (Qv (i:=1) Qft.nd rfl (oi Qb6) Qe) (Qf (Qb3 PassesOwn.never rfl (Qam (Qb 0 rfl (oi QmN))) (Qz (i:=2) Qft.nd rfl (oi Qe9)) (Qt _) (Qh (Qv (i:=1) Qft.nd rfl (oi Qb6) (Qa2 (DE.db (Qb 1 rfl (oi Qb6))) (DE.db (QbE (DE.db (de_ix (Qb 2 rfl (oi Qe9)) (DE.db Qe))) (DE.db (de_f Qgp (hr.mono (by decide)) (Qc (Qb 1 rfl (oi Qb6)) (Qc (de_ix (Qb 2 rfl (oi Qe9)) (DE.db Qe)) Qg)) Qh8)))))))) (Qh (QA (Qb 1 rfl (oi Qb6))))))
abbrev Qbt:Stmt:=top 10
theorem Qw7:Qo ["top","bottom","divisor"] ["top","bottom"] (Qa Qbt):=⟨rfl,rfl,rfl,dk,rfl,dk,dk⟩
theorem Qqm:Lo Qbt "top":=dk
theorem Qnt:Gl Qbt "is_whole":=dk
theorem QeT:Lo Qbt "bottom":=dk
theorem Qwq:Gl Qbt "abs":=dk
theorem Qnj:Gl Qbt "greatest_divisor":=dk
theorem QdZ:Lo Qbt "divisor":=dk
def QvM:SD->Out Fl:=(sSeq (sIf (tOr' (tNot' (tVal (eA (fun xs=>QbT (xs++[])) (aCons (eVar 0) aNil)))) (tOr' (tNot' (tVal (eA (fun xs=>QbT (xs++[])) (aCons (eVar 1) aNil)))) (tVal (e2 dEq (eVar 1) (eC (.int 0)))))) Qhp sNil) (sSeq (sSet 2 (eA (fun xs=>Qaj (xs++[])) (aCons (eA (f1 dAbs) (aCons (eVar 0) aNil)) (aCons (eA (f1 dAbs) (aCons (eVar 1) aNil)) aNil)))) (sSeq (sIf (tVal (e2 dLt (eVar 1) (eC (.int 0)))) (sSet 2 (e1 dNeg (eVar 2))) sNil) (sRet (eTup (aCons (e2 dFdiv (eVar 0) (eVar 2)) (aCons (e2 dFdiv (eVar 1) (eVar 2)) aNil)))))))
def QbG:List D->Out D:=bodyF false 2 3 QvM
theorem QSB(F:FunV K "share" "share" Qbt f fd dV)(Qmu:DefOk P w K mg base CT "is_whole" 1 false [] QbT)(Qgp:DefOk P w K mg base CT "greatest_divisor" 1 false [] Qaj)(z_abs:mg "abs"=none):FnOk P w K mg base CX0 2 f fd ["top","bottom"] (SpD K CT false QbG):=
 @fnV P w K mg base CT false "share" "share" Qbt f fd dV ["top","bottom","divisor"] ["top","bottom"] 1 QvM F Qw7 fun cdv A outer s H E G hr=>
  (Qf (ds_if (DW.dt (dw_or (QaC (QaI (de_f Qmu (hr.mono (by decide)) (Qc (Qb 0 rfl (oi Qqm)) Qg) Qnt))) (dw_or (QaC (QaI (de_f Qmu (hr.mono (by decide)) (Qc (Qb 1 rfl (oi QeT)) Qg) Qnt))) (QhF (dt_eq hr.units (DE.db (Qb 1 rfl (oi QeT))) (DE.db Qe)))))) (Qh QfC) Q1) (Qf (Qv (i:=2) Qw7.nd rfl (oi QdZ) (de_f Qgp (hr.mono (by decide)) (Qc (Qz8 Qwq z_abs PyProof.Rows.Boot.«abs» (Qu (DE.db (Qb 0 rfl (oi Qqm))) Qy)) (Qc (Qz8 Qwq z_abs PyProof.Rows.Boot.«abs» (Qu (DE.db (Qb 1 rfl (oi QeT))) Qy)) Qg)) Qnj)) (Qf (ds_if (dt_lt (DE.db (Qb 1 rfl (oi QeT))) (DE.db Qe)) (Qh (Qv (i:=2) Qw7.nd rfl (oi QdZ) (Qq8 (DE.db (Qb 2 rfl (oi QdZ)))))) Q1) (Qh (QA (Qdh (Qc (QbE (DE.db (Qb 0 rfl (oi Qqm))) (DE.db (Qb 2 rfl (oi QdZ)))) (Qc (QbE (DE.db (Qb 1 rfl (oi QeT))) (DE.db (Qb 2 rfl (oi QdZ)))) Qg))))))))
abbrev Q3:Stmt:=top 14
theorem Qpd:Qo ["shares","worths","parts","bottom"] ["shares","worths"] (Qa Q3):=⟨rfl,rfl,rfl,dk,rfl,dk,dk⟩
theorem QvX:Lo Q3 "shares":=dk
theorem Qwi:Lo Q3 "worths":=dk
theorem QBM:Gl Q3 "zip":=dk
abbrev Qk6:PySem.Scope:={ kind:=PySem.ScopeKind.function,names:=[ (PySem.Str.ofString ".0",PySem.NameKind.local),(PySem.Str.ofString "part",PySem.NameKind.local),(PySem.Str.ofString "worth",PySem.NameKind.local)],isGenerator:=false,isCoroutine:=false,more:=[]:PySem.Scope }
theorem QnE:QI ["part","worth"] [none,none] Qk6 (Qa Q3) ["shares","worths","parts","bottom"]:=⟨rfl,dk,dk,rfl,dk,dk⟩
theorem QdI:(Qi Qk6 (Qa Q3)).names.lookup ("worth":Str)=some NameKind.local:=dk
theorem QcX:(Qi Qk6 (Qa Q3)).names.lookup ("part":Str)=some NameKind.local:=dk
def QcY:SD->Out Bool:=(tVal (e2 dNe (e2 dIx (eVar 0) (eC (.int 0))) (eC (.int 0))))
def Qdx:SD->Out D:=(eTup (aCons (e2 dMul (e2 dIx (eVar 0) (eC (.int 0))) (e2 dIx (eVar 1) (eC (.int 0)))) (aCons (e2 dMul (e2 dIx (eVar 0) (eC (.int 1))) (e2 dIx (eVar 1) (eC (.int 1)))) aNil)))
theorem Qh1:Lo Q3 "parts":=dk
theorem QnK:Gl Q3 "common_bottom":=dk
theorem Qmf:(Qa Q3).names.lookup ("bottom":Str)=some NameKind.cell:=dk
abbrev Qlp:PySem.Scope:={ kind:=PySem.ScopeKind.function,names:=[ (PySem.Str.ofString ".0",PySem.NameKind.local),(PySem.Str.ofString "part",PySem.NameKind.local),(PySem.Str.ofString "bottom",PySem.NameKind.free)],isGenerator:=false,isCoroutine:=false,more:=[]:PySem.Scope }
theorem QvD:QI ["part","bottom"] [none,some 3] Qlp (Qa Q3) ["shares","worths","parts","bottom"]:=⟨rfl,dk,dk,rfl,dk,dk⟩
theorem Qd1:(Qi Qlp (Qa Q3)).names.lookup ("part":Str)=some NameKind.local:=dk
theorem Qsq:(Qi Qlp (Qa Q3)).names.lookup ("bottom":Str)=some NameKind.cell:=dk
def Qoc:SD->Out D:=(e2 dMul (e2 dIx (eVar 0) (eC (.int 0))) (e2 dFdiv (eVar 1) (e2 dIx (eVar 0) (eC (.int 1)))))
theorem QBr:Gl Q3 "sum":=dk
theorem Qxa:Gl Q3 "share":=dk
def Qmm:SD->Out Fl:=(sSeq (sSet 2 (eComp [none,none] (itZ (eVar 0) (eVar 1)) (gT [0,1]) QcY Qdx)) (sSeq (sSet 3 (eA (fun xs=>QbD (xs++[])) (aCons (eVar 2) aNil))) (sRet (eA (fun xs=>QbG (xs++[])) (aCons (eA (f1 fSum) (aCons (eComp [none,some 3] (itL (eVar 2)) (gN 0) cTrue Qoc) aNil)) (aCons (eVar 3) aNil))))))
def Qbg:List D->Out D:=bodyF false 2 4 Qmm
theorem QLM(d0 d1:D):Qbg [d0,d1]=(Qmm [some (.k,d0),some (.k,d1),none,none]>>=retF false):=rfl
theorem QMY(F:FunV K "worth_of" "worth_of" Q3 f fd dV)(Qzw:DefOk P w K mg base CT "common_bottom" 2 false [] QbD)(Qqz:DefOk P w K mg base CT "share" 2 false [] QbG)(z_zip:mg "zip"=none)(z_sum:mg "sum"=none):FnOk P w K mg base CX0 3 f fd ["shares","worths"] (SpD K CT false Qbg):=
 @fnV P w K mg base CT false "worth_of" "worth_of" Q3 f fd dV ["shares","worths","parts","bottom"] ["shares","worths"] 2 Qmm F Qpd fun cdv A outer s H E G hr=>
  (Qf (QjS (i:=2) rfl QnE (DI.b (QnU QBM z_zip (Qb 0 rfl (oi QvX)) (Qb 1 rfl (oi Qwi)))) (fun ς=>QjJ (fun i hi=>Qs (by revert hi;revert i;decide) ς)) (Qd6 _) (fun fp s H G p=>⟨(Qhu rfl (QX (i:=0) QnE.nd rfl (oi QcX) (QX (i:=1) QnE.nd rfl (oi QdI) Qdp (hf:=Or.inr QdI)) (hf:=Or.inr QcX))),(QRe (dt_ne hr.units (DE.db (de_ix (Qb 0 rfl (oi QcX)) (DE.db Qe))) (DE.db Qe))),(Qdh (Qc (Qa2 (DE.db (de_ix (Qb 0 rfl (oi QcX)) (DE.db Qe))) (DE.db (de_ix (Qb 1 rfl (oi QdI)) (DE.db Qe)))) (Qc (Qa2 (DE.db (de_ix (Qb 0 rfl (oi QcX)) (DE.db Qe))) (DE.db (de_ix (Qb 1 rfl (oi QdI)) (DE.db Qe)))) Qg)))⟩) Qpd.nd rfl (oi Qh1)) (Qf (Qv (i:=3) Qpd.nd rfl (Or.inr Qmf) (de_f Qzw (hr.mono (by decide)) (Qc (Qb 2 rfl (oi Qh1)) Qg) QnK)) (Qh (QA (de_f Qqz (hr.mono (by decide)) (Qc (QUf rfl QBr z_sum (Qu (DE.db (DF.de (Q4 rfl QvD (DI.b (Qam (Qb 2 rfl (oi Qh1)))) (fun ς=>QO (Qs rfl ς)) (Qt _) (fun fp s H G p=>⟨(Qz (i:=0) QvD.nd rfl (oi Qd1) (hf:=Or.inr Qd1)),QN,(Qa2 (DE.db (de_ix (Qb 0 rfl (oi Qd1)) (DE.db Qe))) (DE.db (QbE (DE.db (Qb 1 rfl (Or.inr (oi Qsq)))) (DE.db (de_ix (Qb 0 rfl (oi Qd1)) (DE.db Qe))))))⟩)))) Qy)) (Qc (Qb 3 rfl (Or.inr (oi Qmf))) Qg)) Qxa)))))
abbrev QfN:Stmt:=top 11
theorem QQf:Qo ["one","other"] ["one","other"] (Qa QfN):=⟨rfl,rfl,rfl,dk,rfl,dk,dk⟩
theorem Qqi:Lo QfN "one":=dk
theorem QlB:Lo QfN "other":=dk
theorem QD6:Gl QfN "share":=dk
def QvQ:SD->Out Fl:=(sRet (eA (fun xs=>QbG (xs++[])) (aCons (e2 dAdd (e2 dMul (e2 dIx (eVar 0) (eC (.int 0))) (e2 dIx (eVar 1) (eC (.int 1)))) (e2 dMul (e2 dIx (eVar 1) (eC (.int 0))) (e2 dIx (eVar 0) (eC (.int 1))))) (aCons (e2 dMul (e2 dIx (eVar 0) (eC (.int 1))) (e2 dIx (eVar 1) (eC (.int 1)))) aNil))))
def QjT:List D->Out D:=bodyF false 2 2 QvQ
theorem QSl(d0 d1:D):QjT [d0,d1]=(QvQ [some (.k,d0),some (.k,d1)]>>=retF false):=rfl
theorem QRc(F:FunV K "added" "added" QfN f fd dV)(Qqz:DefOk P w K mg base CT "share" 2 false [] QbG):FnOk P w K mg base CX0 3 f fd ["one","other"] (SpD K CT false QjT):=
 @fnV P w K mg base CT false "added" "added" QfN f fd dV ["one","other"] ["one","other"] 2 QvQ F QQf fun cdv A outer s H E G hr=>
  (Qh (QA (de_f Qqz (hr.mono (by decide)) (Qc (QaO (DE.db (Qa2 (DE.db (de_ix (Qb 0 rfl (oi Qqi)) (DE.db Qe))) (DE.db (de_ix (Qb 1 rfl (oi QlB)) (DE.db Qe))))) (DE.db (Qa2 (DE.db (de_ix (Qb 1 rfl (oi QlB)) (DE.db Qe))) (DE.db (de_ix (Qb 0 rfl (oi Qqi)) (DE.db Qe)))))) (Qc (Qa2 (DE.db (de_ix (Qb 0 rfl (oi Qqi)) (DE.db Qe))) (DE.db (de_ix (Qb 1 rfl (oi QlB)) (DE.db Qe)))) Qg)) QD6)))
abbrev QaH:Stmt:=top 16
theorem QzS:Qo ["counts"] ["counts"] (Qa QaH):=⟨rfl,rfl,rfl,dk,rfl,dk,dk⟩
theorem QqY:Lo QaH "counts":=dk
abbrev Qhh:PySem.Scope:={ kind:=PySem.ScopeKind.function,names:=[ (PySem.Str.ofString ".0",PySem.NameKind.local),(PySem.Str.ofString "count",PySem.NameKind.local),(PySem.Str.ofString "share",PySem.NameKind.globalImplicit)],isGenerator:=false,isCoroutine:=false,more:=[]:PySem.Scope }
theorem Qm7:QI ["count"] [none] Qhh (Qa QaH) ["counts"]:=⟨rfl,dk,dk,rfl,dk,dk⟩
theorem QdM:(Qi Qhh (Qa QaH)).names.lookup ("count":Str)=some NameKind.local:=dk
theorem Qot:(Qi Qhh (Qa QaH)).names.lookup ("share":Str)=some NameKind.globalImplicit:=dk
def Qh3:SD->Out D:=(eA (fun xs=>QbG (xs++[(.int 1)])) (aCons (eVar 0) aNil))
def QgS:SD->Out Fl:=(sRetF (eComp [none] (itL (eVar 0)) (gN 0) cTrue Qh3))
def QcE:List D->Out D:=bodyF true 1 1 QgS
theorem QBA(d0:D):QcE [d0]=(QgS [some (.k,d0)]>>=retF true):=rfl
theorem QBp(F:FunV K "whole_shares" "whole_shares" QaH f fd dV)(h_share_1:DefOk P w K mg base CT "share" 2 false [(.int 1)] QbG):FnOk P w K mg base CX0 3 f fd ["counts"] (SpD K CT true QcE):=
 @fnV P w K mg base CT true "whole_shares" "whole_shares" QaH f fd dV ["counts"] ["counts"] 2 QgS F QzS fun cdv A outer s H E G hr=>
  (Qh (Qc8 (Q4 rfl Qm7 (DI.b (Qam (Qb 0 rfl (oi QqY)))) (fun ς=>QO (Qs rfl ς)) (Qt _) (fun fp s H G p=>⟨(Qz (i:=0) Qm7.nd rfl (oi QdM) (hf:=Or.inr QdM)),QN,(de_f h_share_1 (hr.mono (by decide)) (Qc (Qb 0 rfl (oi QdM)) Qg) Qot)⟩))))
abbrev Qbh:Stmt:=inCls (top 54) 5
theorem Qyt:Qo ["self","k"] ["self","k"] (Qa Qbh):=⟨rfl,rfl,rfl,dk,rfl,dk,dk⟩
theorem QtJ:Lo Qbh "self":=dk
theorem QwV:Lo Qbh "k":=dk
def QgM:SD->Out Fl:=(sRet (e2 dIx (e1 (dFld Qj "staff") (eVar 0)) (eVar 1)))
def Qb2:List D->Out D:=bodyF false 2 2 QgM
theorem QAz(d0 d1:D):Qb2 [d0,d1]=(QgM [some (.k,d0),some (.k,d1)]>>=retF false):=rfl
theorem QCH(F:FunV K "clerk" "Office.clerk" Qbh f fd dV)(fo_staff:FldOk K CT Qj "staff"):FnOk P w K mg base CX0 1 f fd ["self","k"] (SpD K CT false Qb2):=
 @fnV P w K mg base CT false "clerk" "Office.clerk" Qbh f fd dV ["self","k"] ["self","k"] 0 QgM F Qyt fun cdv A outer s H E G hr=>
  (Qh (QA (de_ix (Qro fo_staff (Qb 0 rfl (oi QtJ))) (DE.db (Qb 1 rfl (oi QwV))))))
abbrev QbR:Stmt:=inCls (top 27) 5
theorem QCG:Qo ["self"] ["self"] (Qa QbR):=⟨rfl,rfl,rfl,dk,rfl,dk,dk⟩
theorem QkU:Lo QbR "self":=dk
theorem Qu6:Gl QbR "list":=dk
def QhJ:SD->Out Fl:=(sRetF (e1 dList (e2 dIx (e1 (dFld Qj "heads") (eVar 0)) (eMeth Qd "period" (fun _=>QR) (eVar 0) aNil))))
def QaG:List D->Out D:=bodyF true 1 1 QhJ
theorem QDU(d0:D):QaG [d0]=(QhJ [some (.k,d0)]>>=retF true):=rfl
theorem QD0(F:FunV K "whole" "Clerk.whole" QbR f fd dV)(z_list:mg "list"=none)(fo_heads:FldOk K CT Qj "heads")(mt_period:MtOk P w K mg base CT CX0 "period" 1 Qd (fun c=>SpD K CT false ((fun _=>QR) c))):FnOk P w K mg base CX0 2 f fd ["self"] (SpD K CT true QaG):=
 @fnV P w K mg base CT true "whole" "Clerk.whole" QbR f fd dV ["self"] ["self"] 1 QhJ F QCG fun cdv A outer s H E G hr=>
  (Qh (Qc8 (QeP Qu6 z_list (de_ix (Qro fo_heads (Qb 0 rfl (oi QkU))) (DE.db (QgC mt_period (hr.mono (by decide)) (Qb 0 rfl (oi QkU))))))))
abbrev Qr:Stmt:=inCls (top 27) 6
theorem QdD:Qo ["self","count","rounds","head"] ["self","count"] (Qa Qr):=⟨rfl,rfl,rfl,dk,rfl,dk,dk⟩
theorem Qev:Lo Qr "count":=dk
theorem Qbl:Lo Qr "self":=dk
theorem Qji:(Qa Qr).names.lookup ("rounds":Str)=some NameKind.cell:=dk
theorem Qe3:Lo Qr "head":=dk
theorem QkR:Gl Qr "zip":=dk
abbrev QbU:PySem.Scope:={ kind:=PySem.ScopeKind.function,names:=[ (PySem.Str.ofString ".0",PySem.NameKind.local),(PySem.Str.ofString "each",PySem.NameKind.local),(PySem.Str.ofString "more",PySem.NameKind.local),(PySem.Str.ofString "rounds",PySem.NameKind.free)],isGenerator:=false,isCoroutine:=false,more:=[]:PySem.Scope }
theorem Qdj:QI ["each","more","rounds"] [none,none,some 2] QbU (Qa Qr) ["self","count","rounds","head"]:=⟨rfl,dk,dk,rfl,dk,dk⟩
theorem Qcb:(Qi QbU (Qa Qr)).names.lookup ("more":Str)=some NameKind.local:=dk
theorem Qca:(Qi QbU (Qa Qr)).names.lookup ("each":Str)=some NameKind.local:=dk
theorem Qhv:(Qi QbU (Qa Qr)).names.lookup ("rounds":Str)=some NameKind.cell:=dk
def Qgb:SD->Out D:=(e2 dAdd (e2 dMul (eVar 2) (eVar 0)) (eVar 1))
def Qcz:SD->Out Fl:=(sSeq (sSet 2 (e2 dFdiv (eVar 1) (eMeth Qd "period" (fun _=>QR) (eVar 0) aNil))) (sSeq (sSet 3 (e2 dIx (e1 (dFld Qj "heads") (eVar 0)) (e2 dMod (eVar 1) (eMeth Qd "period" (fun _=>QR) (eVar 0) aNil)))) (sRetF (eComp [none,none,some 2] (itZ (eMeth Qd "whole" (fun _=>QaG) (eVar 0) aNil) (eVar 3)) (gT [0,1]) cTrue Qgb))))
def QQ:List D->Out D:=bodyF true 2 4 Qcz
theorem Qor(d0 d1:D):QQ [d0,d1]=(Qcz [some (.k,d0),some (.k,d1),none,none]>>=retF true):=rfl
theorem Qok(F:FunV K "sent_from_start" "Clerk.sent_from_start" Qr f fd dV)(z_zip:mg "zip"=none)(fo_heads:FldOk K CT Qj "heads")(mt_period:MtOk P w K mg base CT CX0 "period" 1 Qd (fun c=>SpD K CT false ((fun _=>QR) c)))(mt_whole:MtOk P w K mg base CT CX0 "whole" 2 Qd (fun c=>SpD K CT true ((fun _=>QaG) c))):FnOk P w K mg base CX0 3 f fd ["self","count"] (SpD K CT true QQ):=
 @fnV P w K mg base CT true "sent_from_start" "Clerk.sent_from_start" Qr f fd dV ["self","count","rounds","head"] ["self","count"] 2 Qcz F QdD fun cdv A outer s H E G hr=>
  (Qf (Qv (i:=2) QdD.nd rfl (Or.inr Qji) (QbE (DE.db (Qb 1 rfl (oi Qev))) (DE.db (QgC mt_period (hr.mono (by decide)) (Qb 0 rfl (oi Qbl)))))) (Qf (Qv (i:=3) QdD.nd rfl (oi Qe3) (de_ix (Qro fo_heads (Qb 0 rfl (oi Qbl))) (DE.db (QaN (DE.db (Qb 1 rfl (oi Qev))) (DE.db (QgC mt_period (hr.mono (by decide)) (Qb 0 rfl (oi Qbl)))))))) (Qh (Qc8 (Q4 rfl Qdj (DI.b (QnU QkR z_zip (QgC mt_whole (hr.mono (by decide)) (Qb 0 rfl (oi Qbl))) (Qb 3 rfl (oi Qe3)))) (fun ς=>QjJ (fun i hi=>Qs (by revert hi;revert i;decide) ς)) (Qd6 _) (fun fp s H G p=>⟨(Qhu rfl (QX (i:=0) Qdj.nd rfl (oi Qca) (QX (i:=1) Qdj.nd rfl (oi Qcb) Qdp (hf:=Or.inr Qcb)) (hf:=Or.inr Qca))),QN,(QaO (DE.db (Qa2 (DE.db (Qb 2 rfl (Or.inr (oi Qhv)))) (DE.db (Qb 0 rfl (oi Qca))))) (DE.db (Qb 1 rfl (oi Qcb))))⟩))))))
abbrev Qad:Stmt:=inCls (top 27) 7
theorem Qll:Qo ["self","state","count","late","early"] ["self","state","count"] (Qa Qad):=⟨rfl,rfl,rfl,dk,rfl,dk,dk⟩
theorem Qmc:Lo Qad "self":=dk
theorem Qk0:Lo Qad "state":=dk
theorem QuN:Lo Qad "count":=dk
theorem Qmb:Lo Qad "late":=dk
theorem QkK:Lo Qad "early":=dk
theorem Qw5:Gl Qad "zip":=dk
abbrev Qi8:PySem.Scope:={ kind:=PySem.ScopeKind.function,names:=[ (PySem.Str.ofString ".0",PySem.NameKind.local),(PySem.Str.ofString "after",PySem.NameKind.local),(PySem.Str.ofString "before",PySem.NameKind.local)],isGenerator:=false,isCoroutine:=false,more:=[]:PySem.Scope }
theorem QjQ:QI ["after","before"] [none,none] Qi8 (Qa Qad) ["self","state","count","late","early"]:=⟨rfl,dk,dk,rfl,dk,dk⟩
theorem Qem:(Qi Qi8 (Qa Qad)).names.lookup ("before":Str)=some NameKind.local:=dk
theorem QeK:(Qi Qi8 (Qa Qad)).names.lookup ("after":Str)=some NameKind.local:=dk
def Qqw:SD->Out D:=(e2 dSub (eVar 0) (eVar 1))
def QiS:SD->Out Fl:=(sSeq (sSet 3 (eMeth Qd "sent_from_start" (fun _=>QQ) (eVar 0) (aCons (e2 dAdd (eVar 1) (eVar 2)) aNil))) (sSeq (sSet 4 (eMeth Qd "sent_from_start" (fun _=>QQ) (eVar 0) (aCons (eVar 1) aNil))) (sRetF (eComp [none,none] (itZ (eVar 3) (eVar 4)) (gT [0,1]) cTrue Qqw))))
def QcT:List D->Out D:=bodyF true 3 5 QiS
theorem QF9(d0 d1 d2:D):QcT [d0,d1,d2]=(QiS [some (.k,d0),some (.k,d1),some (.k,d2),none,none]>>=retF true):=rfl
theorem QE7(F:FunV K "sent" "Clerk.sent" Qad f fd dV)(z_zip:mg "zip"=none)(mt_sent_from_start:MtOk P w K mg base CT CX0 "sent_from_start" 3 Qd (fun c=>SpD K CT true ((fun _=>QQ) c))):FnOk P w K mg base CX0 4 f fd ["self","state","count"] (SpD K CT true QcT):=
 @fnV P w K mg base CT true "sent" "Clerk.sent" Qad f fd dV ["self","state","count","late","early"] ["self","state","count"] 3 QiS F Qll fun cdv A outer s H E G hr=>
  (Qf (Qv (i:=3) Qll.nd rfl (oi Qmb) (Qre mt_sent_from_start (hr.mono (by decide)) (Qb 0 rfl (oi Qmc)) (Qc (QaO (DE.db (Qb 1 rfl (oi Qk0))) (DE.db (Qb 2 rfl (oi QuN)))) Qg))) (Qf (Qv (i:=4) Qll.nd rfl (oi QkK) (Qre mt_sent_from_start (hr.mono (by decide)) (Qb 0 rfl (oi Qmc)) (Qc (Qb 1 rfl (oi Qk0)) Qg))) (Qh (Qc8 (Q4 rfl QjQ (DI.b (QnU Qw5 z_zip (Qb 3 rfl (oi Qmb)) (Qb 4 rfl (oi QkK)))) (fun ς=>QjJ (fun i hi=>Qs (by revert hi;revert i;decide) ς)) (Qd6 _) (fun fp s H G p=>⟨(Qhu rfl (QX (i:=0) QjQ.nd rfl (oi QeK) (QX (i:=1) QjQ.nd rfl (oi Qem) Qdp (hf:=Or.inr Qem)) (hf:=Or.inr QeK))),QN,(Qdg (DE.db (Qb 0 rfl (oi QeK))) (DE.db (Qb 1 rfl (oi Qem))))⟩))))))
abbrev QaX:Stmt:=inCls (top 54) 7
theorem QzC:Qo ["self","k"] ["self","k"] (Qa QaX):=⟨rfl,rfl,rfl,dk,rfl,dk,dk⟩
theorem QtA:Lo QaX "self":=dk
theorem Qxx:Lo QaX "k":=dk
theorem Qty:Gl QaX "list":=dk
def QgZ:SD->Out Fl:=(sRetF (e1 dList (e2 dIx (e1 (dFld Qj "ways") (eVar 0)) (eVar 1))))
def Qbi:List D->Out D:=bodyF true 2 2 QgZ
theorem QB3(d0 d1:D):Qbi [d0,d1]=(QgZ [some (.k,d0),some (.k,d1)]>>=retF true):=rfl
theorem QCp(F:FunV K "leads" "Office.leads" QaX f fd dV)(z_list:mg "list"=none)(fo_ways:FldOk K CT Qj "ways"):FnOk P w K mg base CX0 1 f fd ["self","k"] (SpD K CT true Qbi):=
 @fnV P w K mg base CT true "leads" "Office.leads" QaX f fd dV ["self","k"] ["self","k"] 0 QgZ F QzC fun cdv A outer s H E G hr=>
  (Qh (Qc8 (QeP Qty z_list (de_ix (Qro fo_ways (Qb 0 rfl (oi QtA))) (DE.db (Qb 1 rfl (oi Qxx)))))))
abbrev Q7:Stmt:=top 18
theorem Qxz:Qo ["office","k","worths","door_worths"] ["office","k","worths","door_worths"] (Qa Q7):=⟨rfl,rfl,rfl,dk,rfl,dk,dk⟩
theorem Qp2:Lo Q7 "office":=dk
theorem Qwh:Lo Q7 "k":=dk
abbrev Qd0:PySem.Scope:={ kind:=PySem.ScopeKind.function,names:=[ (PySem.Str.ofString ".0",PySem.NameKind.local),(PySem.Str.ofString "lead",PySem.NameKind.local),(PySem.Str.ofString "door_worths",PySem.NameKind.free),(PySem.Str.ofString "worths",PySem.NameKind.free)],isGenerator:=false,isCoroutine:=false,more:=[]:PySem.Scope }
theorem Qma:QI ["lead","worths","door_worths"] [none,some 2,some 3] Qd0 (Qa Q7) ["office","k","worths","door_worths"]:=⟨rfl,dk,dk,rfl,dk,dk⟩
theorem Qbx:(Qi Qd0 (Qa Q7)).names.lookup ("lead":Str)=some NameKind.local:=dk
theorem Qmw:(Qi Qd0 (Qa Q7)).names.lookup ("worths":Str)=some NameKind.cell:=dk
theorem Qjg:(Qi Qd0 (Qa Q7)).names.lookup ("door_worths":Str)=some NameKind.cell:=dk
def Qg7:SD->Out D:=(eIf (tVal (e2 dGe (eVar 0) (eC (.int 0)))) (e2 dIx (eVar 1) (eVar 0)) (e2 dIx (eVar 2) (e2 dSub (e1 dNeg (eC (.int 1))) (eVar 0))))
def Qga:SD->Out Fl:=(sRetF (eComp [none,some 2,some 3] (itL (eMeth QaF "leads" (fun _=>Qbi) (eVar 0) (aCons (eVar 1) aNil))) (gN 0) cTrue Qg7))
def Qcm:List D->Out D:=bodyF true 4 4 Qga
theorem Qz7(d0 d1 d2 d3:D):Qcm [d0,d1,d2,d3]=(Qga [some (.k,d0),some (.k,d1),some (.k,d2),some (.k,d3)]>>=retF true):=rfl
theorem Qz2(F:FunV K "worths_behind" "worths_behind" Q7 f fd dV)(mt_leads:MtOk P w K mg base CT CX0 "leads" 1 QaF (fun c=>SpD K CT true ((fun _=>Qbi) c))):FnOk P w K mg base CX0 2 f fd ["office","k","worths","door_worths"] (SpD K CT true Qcm):=
 @fnV P w K mg base CT true "worths_behind" "worths_behind" Q7 f fd dV ["office","k","worths","door_worths"] ["office","k","worths","door_worths"] 1 Qga F Qxz fun cdv A outer s H E G hr=>
  (Qh (Qc8 (Q4 rfl Qma (DI.b (Qam (Qre mt_leads (hr.mono (by decide)) (Qb 0 rfl (oi Qp2)) (Qc (Qb 1 rfl (oi Qwh)) Qg)))) (fun ς=>QO (Qs rfl ς)) (Qt _) (fun fp s H G p=>⟨(Qz (i:=0) Qma.nd rfl (oi Qbx) (hf:=Or.inr Qbx)),QN,(de_if (dt_ge (DE.db (Qb 0 rfl (oi Qbx))) (DE.db Qe)) (de_ix (Qb 1 rfl (Or.inr (oi Qmw))) (DE.db (Qb 0 rfl (oi Qbx)))) (de_ix (Qb 2 rfl (Or.inr (oi Qjg))) (DE.db (Qdg (DE.db (Qq8 (DE.db Qe))) (DE.db (Qb 0 rfl (oi Qbx)))))))⟩))))
abbrev QaT:Stmt:=top 19
theorem Qrm:Qo ["office","k","state","worths","door_worths","clerk","period","ahead","shares"] ["office","k","state","worths","door_worths"] (Qa QaT):=⟨rfl,rfl,rfl,dk,rfl,dk,dk⟩
theorem Qs2:Lo QaT "office":=dk
theorem QE5:Lo QaT "k":=dk
theorem Qjf:Lo QaT "clerk":=dk
theorem QDk:(Qa QaT).names.lookup ("period":Str)=some NameKind.cell:=dk
theorem QF4:(Qa QaT).names.lookup ("state":Str)=some NameKind.cell:=dk
theorem QuJ:Lo QaT "ahead":=dk
theorem QNd:Gl QaT "zip":=dk
abbrev Qie:PySem.Scope:={ kind:=PySem.ScopeKind.function,names:=[ (PySem.Str.ofString ".0",PySem.NameKind.local),(PySem.Str.ofString "whole",PySem.NameKind.local),(PySem.Str.ofString "sent",PySem.NameKind.local),(PySem.Str.ofString "share",PySem.NameKind.globalImplicit),(PySem.Str.ofString "period",PySem.NameKind.free),(PySem.Str.ofString "state",PySem.NameKind.free)],isGenerator:=false,isCoroutine:=false,more:=[]:PySem.Scope }
theorem Qxq:QI ["whole","sent","state","period"] [none,none,some 2,some 6] Qie (Qa QaT) ["office","k","state","worths","door_worths","clerk","period","ahead","shares"]:=⟨rfl,dk,dk,rfl,dk,dk⟩
theorem Qj0:(Qi Qie (Qa QaT)).names.lookup ("sent":Str)=some NameKind.local:=dk
theorem Qjl:(Qi Qie (Qa QaT)).names.lookup ("whole":Str)=some NameKind.local:=dk
theorem QzV:(Qi Qie (Qa QaT)).names.lookup ("state":Str)=some NameKind.cell:=dk
theorem Qnf:(Qi Qie (Qa QaT)).names.lookup ("period":Str)=some NameKind.cell:=dk
theorem Qy7:(Qi Qie (Qa QaT)).names.lookup ("share":Str)=some NameKind.globalImplicit:=dk
def QxA:SD->Out D:=(eA (fun xs=>QbG (xs++[])) (aCons (e2 dSub (e2 dMul (eVar 2) (eVar 0)) (e2 dMul (eVar 3) (eVar 1))) (aCons (eVar 3) aNil)))
theorem Qs8:Lo QaT "shares":=dk
theorem QEm:Lo QaT "worths":=dk
theorem QuM:Lo QaT "door_worths":=dk
theorem Qr8:Gl QaT "worths_behind":=dk
theorem QyF:Gl QaT "worth_of":=dk
def Qzl:SD->Out Fl:=(sSeq (sSet 5 (eMeth QaF "clerk" (fun _=>Qb2) (eVar 0) (aCons (eVar 1) aNil))) (sSeq (sSet 6 (eMeth Qd "period" (fun _=>QR) (eVar 5) aNil)) (sSeq (sSet 7 (eMeth Qd "sent" (fun _=>QcT) (eVar 5) (aCons (eC (.int 0)) (aCons (eVar 2) aNil)))) (sSeq (sSet 8 (eComp [none,none,some 2,some 6] (itZ (eMeth Qd "whole" (fun _=>QaG) (eVar 5) aNil) (eVar 7)) (gT [0,1]) cTrue QxA)) (sRet (eA (fun xs=>Qbg (xs++[])) (aCons (eVar 8) (aCons (eA (fun xs=>Qcm (xs++[])) (aCons (eVar 0) (aCons (eVar 1) (aCons (eVar 3) (aCons (eVar 4) aNil))))) aNil))))))))
def Qho:List D->Out D:=bodyF false 5 9 Qzl
theorem QT7(d0 d1 d2 d3 d4:D):Qho [d0,d1,d2,d3,d4]=(Qzl [some (.k,d0),some (.k,d1),some (.k,d2),some (.k,d3),some (.k,d4),none,none,none,none]>>=retF false):=rfl
theorem QSU(F:FunV K "lean" "lean" QaT f fd dV)(Qqz:DefOk P w K mg base CT "share" 2 false [] QbG)(Qjw:DefOk P w K mg base CT "worth_of" 3 false [] Qbg)(Qzb:DefOk P w K mg base CT "worths_behind" 2 true [] Qcm)(z_zip:mg "zip"=none)(mt_clerk:MtOk P w K mg base CT CX0 "clerk" 1 QaF (fun c=>SpD K CT false ((fun _=>Qb2) c)))(mt_period:MtOk P w K mg base CT CX0 "period" 1 Qd (fun c=>SpD K CT false ((fun _=>QR) c)))(mt_sent:MtOk P w K mg base CT CX0 "sent" 4 Qd (fun c=>SpD K CT true ((fun _=>QcT) c)))(mt_whole:MtOk P w K mg base CT CX0 "whole" 2 Qd (fun c=>SpD K CT true ((fun _=>QaG) c))):FnOk P w K mg base CX0 5 f fd ["office","k","state","worths","door_worths"] (SpD K CT false Qho):=
 @fnV P w K mg base CT false "lean" "lean" QaT f fd dV ["office","k","state","worths","door_worths","clerk","period","ahead","shares"] ["office","k","state","worths","door_worths"] 4 Qzl F Qrm fun cdv A outer s H E G hr=>
  (Qf (Qv (i:=5) Qrm.nd rfl (oi Qjf) (Qre mt_clerk (hr.mono (by decide)) (Qb 0 rfl (oi Qs2)) (Qc (Qb 1 rfl (oi QE5)) Qg))) (Qf (Qv (i:=6) Qrm.nd rfl (Or.inr QDk) (QgC mt_period (hr.mono (by decide)) (Qb 5 rfl (oi Qjf)))) (Qf (Qv (i:=7) Qrm.nd rfl (oi QuJ) (Qre mt_sent (hr.mono (by decide)) (Qb 5 rfl (oi Qjf)) (Qc Qe (Qc (Qb 2 rfl (Or.inr (oi QF4))) Qg)))) (Qf (QjS (i:=8) rfl Qxq (DI.b (QnU QNd z_zip (QgC mt_whole (hr.mono (by decide)) (Qb 5 rfl (oi Qjf))) (Qb 7 rfl (oi QuJ)))) (fun ς=>QjJ (fun i hi=>Qs (by revert hi;revert i;decide) ς)) (Qd6 _) (fun fp s H G p=>⟨(Qhu rfl (QX (i:=0) Qxq.nd rfl (oi Qjl) (QX (i:=1) Qxq.nd rfl (oi Qj0) Qdp (hf:=Or.inr Qj0)) (hf:=Or.inr Qjl))),QN,(de_f Qqz (hr.mono (by decide)) (Qc (Qdg (DE.db (Qa2 (DE.db (Qb 2 rfl (Or.inr (oi QzV)))) (DE.db (Qb 0 rfl (oi Qjl))))) (DE.db (Qa2 (DE.db (Qb 3 rfl (Or.inr (oi Qnf)))) (DE.db (Qb 1 rfl (oi Qj0)))))) (Qc (Qb 3 rfl (Or.inr (oi Qnf))) Qg)) Qy7)⟩) Qrm.nd rfl (oi Qs8)) (Qh (QA (de_f Qjw (hr.mono (by decide)) (Qc (Qb 8 rfl (oi Qs8)) (Qc (de_f Qzb (hr.mono (by decide)) (Qc (Qb 0 rfl (oi Qs2)) (Qc (Qb 1 rfl (oi QE5)) (Qc (Qb 3 rfl (oi QEm)) (Qc (Qb 4 rfl (oi QuM)) Qg)))) Qr8) Qg)) QyF)))))))
abbrev Qc9:Stmt:=top 17
theorem QOD:Qo ["fractions"] ["fractions"] (Qa Qc9):=⟨rfl,rfl,rfl,dk,rfl,dk,dk⟩
theorem QkP:Lo Qc9 "fractions":=dk
abbrev Qpo:PySem.Scope:={ kind:=PySem.ScopeKind.function,names:=[ (PySem.Str.ofString ".0",PySem.NameKind.local),(PySem.Str.ofString "each",PySem.NameKind.local),(PySem.Str.ofString "share",PySem.NameKind.globalImplicit)],isGenerator:=false,isCoroutine:=false,more:=[]:PySem.Scope }
theorem Qyk:QI ["each"] [none] Qpo (Qa Qc9) ["fractions"]:=⟨rfl,dk,dk,rfl,dk,dk⟩
theorem Qna:(Qi Qpo (Qa Qc9)).names.lookup ("each":Str)=some NameKind.local:=dk
theorem Qwf:(Qi Qpo (Qa Qc9)).names.lookup ("share":Str)=some NameKind.globalImplicit:=dk
def Qse:SD->Out D:=(eA (fun xs=>QbG (xs++[(.int 1)])) (aCons (eC (.int 1)) aNil))
theorem Qwd:Gl Qc9 "worth_of":=dk
def Qsa:SD->Out Fl:=(sRet (eA (fun xs=>Qbg (xs++[])) (aCons (eComp [none] (itL (eVar 0)) (gN 0) cTrue Qse) (aCons (eVar 0) aNil))))
def Qh6:List D->Out D:=bodyF false 1 1 Qsa
theorem QP3(d0:D):Qh6 [d0]=(Qsa [some (.k,d0)]>>=retF false):=rfl
theorem QPU(F:FunV K "sum_of" "sum_of" Qc9 f fd dV)(Qjw:DefOk P w K mg base CT "worth_of" 3 false [] Qbg)(h_share_1:DefOk P w K mg base CT "share" 2 false [(.int 1)] QbG):FnOk P w K mg base CX0 4 f fd ["fractions"] (SpD K CT false Qh6):=
 @fnV P w K mg base CT false "sum_of" "sum_of" Qc9 f fd dV ["fractions"] ["fractions"] 3 Qsa F QOD fun cdv A outer s H E G hr=>
  (Qh (QA (de_f Qjw (hr.mono (by decide)) (Qc (DF.de (Q4 rfl Qyk (DI.b (Qam (Qb 0 rfl (oi QkP)))) (fun ς=>QO (Qs rfl ς)) (Qt _) (fun fp s H G p=>⟨(Qz (i:=0) Qyk.nd rfl (oi Qna) (hf:=Or.inr Qna)),QN,(de_f h_share_1 (hr.mono (by decide)) (Qc Qe Qg) Qwf)⟩))) (Qc (Qb 0 rfl (oi QkP)) Qg)) Qwd)))
abbrev QaM:Stmt:=top 20
theorem QAX:Qo ["office","worths","door_worths","states","desks","out","dockets","leaning"] ["office","worths","door_worths","states","desks","out"] (Qa QaM):=⟨rfl,rfl,rfl,dk,rfl,dk,dk⟩
theorem QFA:Lo QaM "desks":=dk
theorem QNv:Lo QaM "out":=dk
theorem Qtu:Gl QaM "whole_shares":=dk
theorem QEh:(Qa QaM).names.lookup ("worths":Str)=some NameKind.cell:=dk
theorem Qt5:(Qa QaM).names.lookup ("door_worths":Str)=some NameKind.cell:=dk
theorem Qzq:Gl QaM "worth_of":=dk
theorem QqR:Lo QaM "dockets":=dk
theorem QEL:Lo QaM "states":=dk
theorem Qx6:Gl QaM "enumerate":=dk
abbrev Qgg:PySem.Scope:={ kind:=PySem.ScopeKind.function,names:=[ (PySem.Str.ofString ".0",PySem.NameKind.local),(PySem.Str.ofString "k",PySem.NameKind.local),(PySem.Str.ofString "state",PySem.NameKind.local),(PySem.Str.ofString "lean",PySem.NameKind.globalImplicit),(PySem.Str.ofString "door_worths",PySem.NameKind.free),(PySem.Str.ofString "office",PySem.NameKind.free),(PySem.Str.ofString "worths",PySem.NameKind.free)],isGenerator:=false,isCoroutine:=false,more:=[]:PySem.Scope }
theorem Qya:QI ["k","state","office","worths","door_worths"] [none,none,some 0,some 1,some 2] Qgg (Qa QaM) ["office","worths","door_worths","states","desks","out","dockets","leaning"]:=⟨rfl,dk,dk,rfl,dk,dk⟩
theorem Qjy:(Qi Qgg (Qa QaM)).names.lookup ("state":Str)=some NameKind.local:=dk
theorem Qqk:(Qi Qgg (Qa QaM)).names.lookup ("k":Str)=some NameKind.local:=dk
theorem Qxo:(Qi Qgg (Qa QaM)).names.lookup ("office":Str)=some NameKind.cell:=dk
theorem QxH:(Qi Qgg (Qa QaM)).names.lookup ("worths":Str)=some NameKind.cell:=dk
theorem QqS:(Qi Qgg (Qa QaM)).names.lookup ("door_worths":Str)=some NameKind.cell:=dk
theorem QCk:(Qi Qgg (Qa QaM)).names.lookup ("lean":Str)=some NameKind.globalImplicit:=dk
def Qxw:SD->Out D:=(eA (fun xs=>Qho (xs++[])) (aCons (eVar 2) (aCons (eVar 0) (aCons (eVar 1) (aCons (eVar 3) (aCons (eVar 4) aNil))))))
theorem QqA:Lo QaM "leaning":=dk
theorem QEo:Gl QaM "sum_of":=dk
theorem QF1:Gl QaM "added":=dk
def Qyv:SD->Out Fl:=(sSeq (sSet 6 (eA (fun xs=>Qbg (xs++[])) (aCons (eA (fun xs=>QcE (xs++[])) (aCons (e2 dCat (eVar 4) (eVar 5)) aNil)) (aCons (e2 dCat (eVar 1) (eVar 2)) aNil)))) (sSeq (sSet 7 (eComp [none,none,some 0,some 1,some 2] (itE (eVar 3)) (gT [0,1]) cTrue Qxw)) (sRet (eA (fun xs=>QjT (xs++[])) (aCons (eVar 6) (aCons (eA (fun xs=>Qh6 (xs++[])) (aCons (eVar 7) aNil)) aNil))))))
def Qog:List D->Out D:=bodyF false 6 8 Qyv
theorem QTD(d0 d1 d2 d3 d4 d5:D):Qog [d0,d1,d2,d3,d4,d5]=(Qyv [some (.k,d0),some (.k,d1),some (.k,d2),some (.k,d3),some (.k,d4),some (.k,d5),none,none]>>=retF false):=rfl
theorem QS0(F:FunV K "book" "book" QaM f fd dV)(Qjw:DefOk P w K mg base CT "worth_of" 3 false [] Qbg)(QBb:DefOk P w K mg base CT "whole_shares" 3 true [] QcE)(QTF:DefOk P w K mg base CT "lean" 5 false [] Qho)(QSt:DefOk P w K mg base CT "added" 3 false [] QjT)(QQl:DefOk P w K mg base CT "sum_of" 4 false [] Qh6)(z_enumerate:mg "enumerate"=none):FnOk P w K mg base CX0 6 f fd ["office","worths","door_worths","states","desks","out"] (SpD K CT false Qog):=
 @fnV P w K mg base CT false "book" "book" QaM f fd dV ["office","worths","door_worths","states","desks","out","dockets","leaning"] ["office","worths","door_worths","states","desks","out"] 5 Qyv F QAX fun cdv A outer s H E G hr=>
  (Qf (Qv (i:=6) QAX.nd rfl (oi QqR) (de_f Qjw (hr.mono (by decide)) (Qc (de_f QBb (hr.mono (by decide)) (Qc (DF.de (QqB (Qb 4 rfl (oi QFA)) (Qb 5 rfl (oi QNv)))) Qg) Qtu) (Qc (DF.de (QqB (Qb 1 rfl (Or.inr (oi QEh))) (Qb 2 rfl (Or.inr (oi Qt5))))) Qg)) Qzq)) (Qf (QjS (i:=7) rfl Qya (DI.b (QAB Qx6 z_enumerate (Qb 3 rfl (oi QEL)))) (fun ς=>QjJ (fun i hi=>Qs (by revert hi;revert i;decide) ς)) (Qd6 _) (fun fp s H G p=>⟨(Qhu rfl (QX (i:=0) Qya.nd rfl (oi Qqk) (QX (i:=1) Qya.nd rfl (oi Qjy) Qdp (hf:=Or.inr Qjy)) (hf:=Or.inr Qqk))),QN,(de_f QTF (hr.mono (by decide)) (Qc (Qb 2 rfl (Or.inr (oi Qxo))) (Qc (Qb 0 rfl (oi Qqk)) (Qc (Qb 1 rfl (oi Qjy)) (Qc (Qb 3 rfl (Or.inr (oi QxH))) (Qc (Qb 4 rfl (Or.inr (oi QqS))) Qg))))) QCk)⟩) QAX.nd rfl (oi QqA)) (Qh (QA (de_f QSt (hr.mono (by decide)) (Qc (Qb 6 rfl (oi QqR)) (Qc (de_f QQl (hr.mono (by decide)) (Qc (Qb 7 rfl (oi QqA)) Qg) QEo) Qg)) QF1)))))
abbrev QbN:Stmt:=top 57
theorem QGE:Qo ["_law_found"] ["_law_found"] (Qa QbN):=⟨rfl,rfl,rfl,dk,rfl,dk,dk⟩
theorem Qhn:Lo QbN "_law_found":=dk
theorem QAf:Gl QbN "int":=dk
theorem Qhz:Gl QbN "isinstance":=dk
theorem QwR:Gl QbN "bool":=dk
def QpP:SD->Out Fl:=(sRet (eAnd (eIsa (isaT "int") (eVar 0)) (eNot (eIsa (isaT "bool") (eVar 0)))))
def Qdn:List D->Out D:=bodyF false 1 1 QpP
theorem QI7(F:FunV K "_law_whole" "_law_whole" QbN f fd dV)(z_isinstance:mg "isinstance"=none)(z_int:mg "int"=none)(z_bool:mg "bool"=none):FnOk P w K mg base CX0 1 f fd ["_law_found"] (SpD K CT false Qdn):=
 @fnV P w K mg base CT false "_law_whole" "_law_whole" QbN f fd dV ["_law_found"] ["_law_found"] 0 QpP F QGE fun cdv A outer s H E G hr=>
  (Qh (QA (Qgr (Qdq "int" QLj QAf z_int PyProof.Rows.Boot.«int» Qhz z_isinstance (DE.db (Qb 0 rfl (oi Qhn)))) (QkS (QO8 (Qdq "bool" QFE QwR z_bool PyProof.Rows.Boot.«bool» Qhz z_isinstance (DE.db (Qb 0 rfl (oi Qhn)))))))))
abbrev Qbn:Stmt:=top 63
theorem QIz:Qo ["_law_found","_law_due"] ["_law_found","_law_due"] (Qa Qbn):=⟨rfl,rfl,rfl,dk,rfl,dk,dk⟩
theorem QbZ:Lo Qbn "_law_found":=dk
theorem Qw3:Gl Qbn "tuple":=dk
theorem QqT:Gl Qbn "isinstance":=dk
theorem QB1:Gl Qbn "len":=dk
theorem Qid:Gl Qbn "_law_whole":=dk
theorem Qtt:Lo Qbn "_law_due":=dk
def Qmx:SD->Out Fl:=(sSeq (sIf (tOr' (tNot' (tVal (eIsa (isaT "tuple") (eVar 0)))) (tOr' (tVal (e2 dNe (eA fLen (aCons (eVar 0) aNil)) (eC (.int 2)))) (tOr' (tNot' (tVal (eA (fun xs=>Qdn (xs++[])) (aCons (e2 dIx (eVar 0) (eC (.int 0))) aNil)))) (tNot' (tVal (eA (fun xs=>Qdn (xs++[])) (aCons (e2 dIx (eVar 0) (eC (.int 1))) aNil))))))) (sRet (eC (.bl false))) sNil) (sRet (e2 dEq (eVar 0) (eVar 1))))
def Qfd:List D->Out D:=bodyF false 2 2 Qmx
theorem QML(d0 d1:D):Qfd [d0,d1]=(Qmx [some (.k,d0),some (.k,d1)]>>=retF false):=rfl
theorem QMK(F:FunV K "_law_same" "_law_same" Qbn f fd dV)(QwJ:DefOk P w K mg base CT "_law_whole" 1 false [] Qdn)(z_isinstance:mg "isinstance"=none)(z_tuple:mg "tuple"=none)(z_len:mg "len"=none):FnOk P w K mg base CX0 2 f fd ["_law_found","_law_due"] (SpD K CT false Qfd):=
 @fnV P w K mg base CT false "_law_same" "_law_same" Qbn f fd dV ["_law_found","_law_due"] ["_law_found","_law_due"] 1 Qmx F QIz fun cdv A outer s H E G hr=>
  (Qf (ds_if (DW.dt (dw_or (QaC (QaI (Qdq "tuple" Quq Qw3 z_tuple PyProof.Rows.Boot.«tuple» QqT z_isinstance (DE.db (Qb 0 rfl (oi QbZ)))))) (dw_or (dt_ne hr.units (DE.db (QaD QB1 z_len (Qu (DE.db (Qb 0 rfl (oi QbZ))) Qy))) (DE.db Qe)) (dw_or (QaC (QaI (de_f QwJ (hr.mono (by decide)) (Qc (de_ix (Qb 0 rfl (oi QbZ)) (DE.db Qe)) Qg) Qid))) (QhF (QaC (QaI (de_f QwJ (hr.mono (by decide)) (Qc (de_ix (Qb 0 rfl (oi QbZ)) (DE.db Qe)) Qg) Qid)))))))) (Qh (QA de_bl)) Q1) (Qh (QA (de_eq hr.units (DE.db (Qb 0 rfl (oi QbZ))) (DE.db (Qb 1 rfl (oi Qtt)))))))
abbrev QcJ:Stmt:=top 61
theorem QKf:Qo ["_law_one","_law_other"] ["_law_one","_law_other"] (Qa QcJ):=⟨rfl,rfl,rfl,dk,rfl,dk,dk⟩
theorem QfP:Lo QcJ "_law_one":=dk
theorem Qe0:Lo QcJ "_law_other":=dk
theorem QtB:Gl QcJ "_law_low":=dk
def Qjh:SD->Out Fl:=(sRet (eA (fun xs=>Qc0 (xs++[])) (aCons (e2 dAdd (e2 dMul (e2 dIx (eVar 0) (eC (.int 0))) (e2 dIx (eVar 1) (eC (.int 1)))) (e2 dMul (e2 dIx (eVar 1) (eC (.int 0))) (e2 dIx (eVar 0) (eC (.int 1))))) (aCons (e2 dMul (e2 dIx (eVar 0) (eC (.int 1))) (e2 dIx (eVar 1) (eC (.int 1)))) aNil))))
def Qaf:List D->Out D:=bodyF false 2 2 Qjh
theorem QzN(d0 d1:D):Qaf [d0,d1]=(Qjh [some (.k,d0),some (.k,d1)]>>=retF false):=rfl
theorem QNr(F:FunV K "_law_plus" "_law_plus" QcJ f fd dV)(QkQ:DefOk P w K mg base CT "_law_low" 2 false [] Qc0):FnOk P w K mg base CX0 3 f fd ["_law_one","_law_other"] (SpD K CT false Qaf):=
 @fnV P w K mg base CT false "_law_plus" "_law_plus" QcJ f fd dV ["_law_one","_law_other"] ["_law_one","_law_other"] 2 Qjh F QKf fun cdv A outer s H E G hr=>
  (Qh (QA (de_f QkQ (hr.mono (by decide)) (Qc (QaO (DE.db (Qa2 (DE.db (de_ix (Qb 0 rfl (oi QfP)) (DE.db Qe))) (DE.db (de_ix (Qb 1 rfl (oi Qe0)) (DE.db Qe))))) (DE.db (Qa2 (DE.db (de_ix (Qb 1 rfl (oi Qe0)) (DE.db Qe))) (DE.db (de_ix (Qb 0 rfl (oi QfP)) (DE.db Qe)))))) (Qc (Qa2 (DE.db (de_ix (Qb 0 rfl (oi QfP)) (DE.db Qe))) (DE.db (de_ix (Qb 1 rfl (oi Qe0)) (DE.db Qe)))) Qg)) QtB)))
abbrev QJ:Stmt:=top 70
theorem QcG:Qo ["_law_plan_here","_law_k","_law_state","_law_worths_here","_law_door_worths","_law_total","_law_to","_law_many","_law_worth"] ["_law_plan_here","_law_k","_law_state","_law_worths_here","_law_door_worths"] (Qa QJ):=⟨rfl,rfl,rfl,dk,rfl,dk,dk⟩
theorem QbW:Lo QJ "_law_total":=dk
theorem QdY:Lo QJ "_law_plan_here":=dk
theorem Qhm:Lo QJ "_law_k":=dk
theorem Qlv:Lo QJ "_law_state":=dk
theorem Qtp:Gl QJ "zip":=dk
theorem Qgf:Lo QJ "_law_many":=dk
theorem Qcy:Lo QJ "_law_to":=dk
theorem Qh5:Lo QJ "_law_door_worths":=dk
theorem Qh2:Lo QJ "_law_worths_here":=dk
theorem Qdc:Lo QJ "_law_worth":=dk
theorem Qmq:Gl QJ "_law_plus":=dk
def Qex:SD->Out Fl:=(sSeq (sSet 8 (eIf (tVal (e2 dLt (eVar 6) (eC (.int 0)))) (e2 dIx (eVar 4) (e2 dSub (e1 dNeg (eC (.int 1))) (eVar 6))) (e2 dIx (eVar 3) (eVar 6)))) (sSet 5 (eA (fun xs=>Qaf (xs++[])) (aCons (eVar 5) (aCons (eTup (aCons (e2 dMul (eVar 7) (e2 dIx (eVar 8) (eC (.int 0)))) (aCons (e2 dIx (eVar 8) (eC (.int 1))) aNil))) aNil)))))
def Qf9:SD->Out Fl:=(sSeq (sSet 5 (eTup (aCons (eC (.int 0)) (aCons (eC (.int 1)) aNil)))) (sSeq (sFor (gT [6,7]) (itZ (e2 dIx (e2 dIx (eVar 0) (eVar 1)) (eC (.int 2))) (e2 dIx (e2 dIx (e2 dIx (eVar 0) (eVar 1)) (eC (.int 1))) (eVar 2))) Qex) (sRet (eVar 5))))
def Qa3:List D->Out D:=bodyF false 5 9 Qf9
theorem Qyw(d0 d1 d2 d3 d4:D):Qa3 [d0,d1,d2,d3,d4]=(Qf9 [some (.k,d0),some (.k,d1),some (.k,d2),some (.k,d3),some (.k,d4),none,none,none,none]>>=retF false):=rfl
theorem Qz1(F:FunV K "_law_row_worth" "_law_row_worth" QJ f fd dV)(Qdm:DefOk P w K mg base CT "_law_plus" 3 false [] Qaf)(z_zip:mg "zip"=none):FnOk P w K mg base CX0 4 f fd ["_law_plan_here","_law_k","_law_state","_law_worths_here","_law_door_worths"] (SpD K CT false Qa3):=
 @fnV P w K mg base CT false "_law_row_worth" "_law_row_worth" QJ f fd dV ["_law_plan_here","_law_k","_law_state","_law_worths_here","_law_door_worths","_law_total","_law_to","_law_many","_law_worth"] ["_law_plan_here","_law_k","_law_state","_law_worths_here","_law_door_worths"] 3 Qf9 F QcG fun cdv A outer s H E G hr=>
  (Qf (Qv (i:=5) QcG.nd rfl (oi QbW) (Qdh (Qc Qe (Qc Qe Qg)))) (Qf (Qb3 PassesOwn.never rfl (QnU Qtp z_zip (de_ix (de_ix (Qb 0 rfl (oi QdY)) (DE.db (Qb 1 rfl (oi Qhm)))) (DE.db Qe)) (de_ix (de_ix (de_ix (Qb 0 rfl (oi QdY)) (DE.db (Qb 1 rfl (oi Qhm)))) (DE.db Qe)) (DE.db (Qb 2 rfl (oi Qlv))))) (Qhu rfl (QX (i:=6) QcG.nd rfl (oi Qcy) (QX (i:=7) QcG.nd rfl (oi Qgf) Qdp))) (Qd6 _) (Qf (Qv (i:=8) QcG.nd rfl (oi Qdc) (de_if (dt_lt (DE.db (Qb 6 rfl (oi Qcy))) (DE.db Qe)) (de_ix (Qb 4 rfl (oi Qh5)) (DE.db (Qdg (DE.db (Qq8 (DE.db Qe))) (DE.db (Qb 6 rfl (oi Qcy)))))) (de_ix (Qb 3 rfl (oi Qh2)) (DE.db (Qb 6 rfl (oi Qcy)))))) (Qh (Qv (i:=5) QcG.nd rfl (oi QbW) (de_f Qdm (hr.mono (by decide)) (Qc (Qb 5 rfl (oi QbW)) (Qc (Qdh (Qc (Qa2 (DE.db (Qb 7 rfl (oi Qgf))) (DE.db (de_ix (Qb 8 rfl (oi Qdc)) (DE.db Qe)))) (Qc (de_ix (Qb 8 rfl (oi Qdc)) (DE.db Qe)) Qg))) Qg)) Qmq))))) (Qh (QA (Qb 5 rfl (oi QbW))))))
abbrev Qai:Stmt:=top 71
theorem QhD:Qo ["_law_plan_here","_law_k","_law_worths_here","_law_door_worths","_law_total","_law_many","_law_state"] ["_law_plan_here","_law_k","_law_worths_here","_law_door_worths"] (Qa Qai):=⟨rfl,rfl,rfl,dk,rfl,dk,dk⟩
theorem Qb1:Lo Qai "_law_total":=dk
theorem Qf1:Lo Qai "_law_plan_here":=dk
theorem Ql5:Lo Qai "_law_k":=dk
theorem QA4:Gl Qai "len":=dk
theorem Qfu:Lo Qai "_law_many":=dk
theorem QxT:Gl Qai "range":=dk
theorem Qih:Lo Qai "_law_state":=dk
theorem QkL:Lo Qai "_law_worths_here":=dk
theorem QkI:Lo Qai "_law_door_worths":=dk
theorem QmI:Gl Qai "_law_row_worth":=dk
theorem Qr0:Gl Qai "_law_plus":=dk
def Qjc:SD->Out Fl:=(sSet 4 (eA (fun xs=>Qaf (xs++[])) (aCons (eVar 4) (aCons (eA (fun xs=>Qa3 (xs++[])) (aCons (eVar 0) (aCons (eVar 1) (aCons (eVar 6) (aCons (eVar 2) (aCons (eVar 3) aNil)))))) aNil))))
theorem Qtw:Gl Qai "_law_low":=dk
def QmO:SD->Out Fl:=(sSeq (sSet 4 (eTup (aCons (eC (.int 0)) (aCons (eC (.int 1)) aNil)))) (sSeq (sSet 5 (eA fLen (aCons (e2 dIx (e2 dIx (eVar 0) (eVar 1)) (eC (.int 1))) aNil))) (sSeq (sFor (gN 6) (itR1 (eVar 5)) Qjc) (sRet (eA (fun xs=>Qc0 (xs++[])) (aCons (e2 dIx (eVar 4) (eC (.int 0))) (aCons (e2 dMul (e2 dIx (eVar 4) (eC (.int 1))) (eVar 5)) aNil)))))))
def Qfv:List D->Out D:=bodyF false 4 7 QmO
theorem QMz(d0 d1 d2 d3:D):Qfv [d0,d1,d2,d3]=(QmO [some (.k,d0),some (.k,d1),some (.k,d2),some (.k,d3),none,none,none]>>=retF false):=rfl
theorem QL9(F:FunV K "_law_mean" "_law_mean" Qai f fd dV)(Qdm:DefOk P w K mg base CT "_law_plus" 3 false [] Qaf)(QiM:DefOk P w K mg base CT "_law_row_worth" 4 false [] Qa3)(QkQ:DefOk P w K mg base CT "_law_low" 2 false [] Qc0)(z_len:mg "len"=none)(z_range:mg "range"=none):FnOk P w K mg base CX0 5 f fd ["_law_plan_here","_law_k","_law_worths_here","_law_door_worths"] (SpD K CT false Qfv):=
 @fnV P w K mg base CT false "_law_mean" "_law_mean" Qai f fd dV ["_law_plan_here","_law_k","_law_worths_here","_law_door_worths","_law_total","_law_many","_law_state"] ["_law_plan_here","_law_k","_law_worths_here","_law_door_worths"] 4 QmO F QhD fun cdv A outer s H E G hr=>
  (Qf (Qv (i:=4) QhD.nd rfl (oi Qb1) (Qdh (Qc Qe (Qc Qe Qg)))) (Qf (Qv (i:=5) QhD.nd rfl (oi Qfu) (QaD QA4 z_len (Qu (DE.db (de_ix (de_ix (Qb 0 rfl (oi Qf1)) (DE.db (Qb 1 rfl (oi Ql5)))) (DE.db Qe))) Qy))) (Qf (Qb3 PassesOwn.never rfl (Qa1 QxT z_range (DE.db (Qb 5 rfl (oi Qfu)))) (Qz (i:=6) QhD.nd rfl (oi Qih)) (Qt _) (Qh (Qv (i:=4) QhD.nd rfl (oi Qb1) (de_f Qdm (hr.mono (by decide)) (Qc (Qb 4 rfl (oi Qb1)) (Qc (de_f QiM (hr.mono (by decide)) (Qc (Qb 0 rfl (oi Qf1)) (Qc (Qb 1 rfl (oi Ql5)) (Qc (Qb 6 rfl (oi Qih)) (Qc (Qb 2 rfl (oi QkL)) (Qc (Qb 3 rfl (oi QkI)) Qg))))) QmI) Qg)) Qr0)))) (Qh (QA (de_f QkQ (hr.mono (by decide)) (Qc (de_ix (Qb 4 rfl (oi Qb1)) (DE.db Qe)) (Qc (Qa2 (DE.db (de_ix (Qb 4 rfl (oi Qb1)) (DE.db Qe))) (DE.db (Qb 5 rfl (oi Qfu)))) Qg)) Qtw))))))
abbrev QY:Stmt:=top 72
theorem Qgq:Qo ["_law_plan_here","_law_k","_law_worths_here","_law_door_worths","_law_mean_here","_law_found","_law_state","_law_row"] ["_law_plan_here","_law_k","_law_worths_here","_law_door_worths"] (Qa QY):=⟨rfl,rfl,rfl,dk,rfl,dk,dk⟩
theorem Qda:Lo QY "_law_plan_here":=dk
theorem Qgo:Lo QY "_law_k":=dk
theorem QeG:Lo QY "_law_worths_here":=dk
theorem QeR:Lo QY "_law_door_worths":=dk
theorem QqG:Gl QY "_law_mean":=dk
theorem QfK:Lo QY "_law_mean_here":=dk
theorem QcQ:Lo QY "_law_found":=dk
theorem Qzm:Gl QY "len":=dk
theorem QvY:Gl QY "range":=dk
theorem Qeq:Lo QY "_law_state":=dk
theorem QlW:Gl QY "_law_row_worth":=dk
theorem Qfh:Lo QY "_law_row":=dk
theorem Qib:Gl QY "_law_plus":=dk
def QhX:SD->Out Fl:=(sSeq (sSet 7 (eA (fun xs=>Qa3 (xs++[])) (aCons (eVar 0) (aCons (eVar 1) (aCons (eVar 6) (aCons (eVar 2) (aCons (eVar 3) aNil))))))) (QbF 5 (eA (fun xs=>Qaf (xs++[])) (aCons (eIxO 5 (eVar 6)) (aCons (eA (fun xs=>Qaf (xs++[])) (aCons (eVar 4) (aCons (eTup (aCons (e2 dSub (eC (.int 0)) (e2 dIx (eVar 7) (eC (.int 0)))) (aCons (e2 dIx (eVar 7) (eC (.int 1))) aNil))) aNil))) aNil)))))
def Qks:SD->Out Fl:=(sSeq (sSet 4 (eA (fun xs=>Qfv (xs++[])) (aCons (eVar 0) (aCons (eVar 1) (aCons (eVar 2) (aCons (eVar 3) aNil)))))) (sSeq (sSetO 5 (eLst (aCons (eTup (aCons (eC (.int 0)) (aCons (eC (.int 1)) aNil))) aNil))) (sSeq (sFor (gN 6) (itR1 (e2 dSub (eA fLen (aCons (e2 dIx (e2 dIx (eVar 0) (eVar 1)) (eC (.int 1))) aNil)) (eC (.int 1)))) QhX) (sRetO 5))))
def Qce:List D->Out D:=bodyF true 4 8 Qks
theorem QJT(d0 d1 d2 d3:D):Qce [d0,d1,d2,d3]=(Qks [some (.k,d0),some (.k,d1),some (.k,d2),some (.k,d3),none,none,none,none]>>=retF true):=rfl
theorem QIY(F:FunV K "_law_leans" "_law_leans" QY f fd dV)(QLC:DefOk P w K mg base CT "_law_mean" 5 false [] Qfv)(QiM:DefOk P w K mg base CT "_law_row_worth" 4 false [] Qa3)(Qdm:DefOk P w K mg base CT "_law_plus" 3 false [] Qaf)(z_range:mg "range"=none)(z_len:mg "len"=none):FnOk P w K mg base CX0 6 f fd ["_law_plan_here","_law_k","_law_worths_here","_law_door_worths"] (SpD K CT true Qce):=
 @fnV P w K mg base CT true "_law_leans" "_law_leans" QY f fd dV ["_law_plan_here","_law_k","_law_worths_here","_law_door_worths","_law_mean_here","_law_found","_law_state","_law_row"] ["_law_plan_here","_law_k","_law_worths_here","_law_door_worths"] 5 Qks F Qgq fun cdv A outer s H E G hr=>
  (Qf (Qv (i:=4) Qgq.nd rfl (oi QfK) (de_f QLC (hr.mono (by decide)) (Qc (Qb 0 rfl (oi Qda)) (Qc (Qb 1 rfl (oi Qgo)) (Qc (Qb 2 rfl (oi QeG)) (Qc (Qb 3 rfl (oi QeR)) Qg)))) QqG)) (Qf (Qe2 (i:=5) Qgq.nd rfl (oi QcQ) (QbJ (Qc (Qdh (Qc Qe (Qc Qe Qg))) Qg))) (Qf (Qb3 PassesOwn.never rfl (Qa1 QvY z_range (DE.db (Qdg (DE.db (QaD Qzm z_len (Qu (DE.db (de_ix (de_ix (Qb 0 rfl (oi Qda)) (DE.db (Qb 1 rfl (oi Qgo)))) (DE.db Qe))) Qy))) (DE.db Qe)))) (Qz (i:=6) Qgq.nd rfl (oi Qeq)) (Qt _) (Qf (Qv (i:=7) Qgq.nd rfl (oi Qfh) (de_f QiM (hr.mono (by decide)) (Qc (Qb 0 rfl (oi Qda)) (Qc (Qb 1 rfl (oi Qgo)) (Qc (Qb 6 rfl (oi Qeq)) (Qc (Qb 2 rfl (oi QeG)) (Qc (Qb 3 rfl (oi QeR)) Qg))))) QlW)) (Qh (QcW 5 (de_f Qdm (hr.mono (by decide)) (Qc (QN5 5 (DE.db (Qb 6 rfl (oi Qeq))) rfl (oi QcQ)) (Qc (de_f Qdm (hr.mono (by decide)) (Qc (Qb 4 rfl (oi QfK)) (Qc (Qdh (Qc (Qdg (DE.db Qe) (DE.db (de_ix (Qb 7 rfl (oi Qfh)) (DE.db Qe)))) (Qc (de_ix (Qb 7 rfl (oi Qfh)) (DE.db Qe)) Qg))) Qg)) Qib) Qg)) Qib) rfl (oi QcQ))))) (Qh (QmU 5 rfl (oi QcQ))))))
abbrev QZ:Stmt:=top 73
theorem Qef:Qo ["_law_plan_here","_law_worths_here","_law_door_worths","_law_states","_law_desks","_law_out","_law_total","_law_many","_law_worth","_law_k"] ["_law_plan_here","_law_worths_here","_law_door_worths","_law_states","_law_desks","_law_out"] (Qa QZ):=⟨rfl,rfl,rfl,dk,rfl,dk,dk⟩
theorem Qa4:Lo QZ "_law_total":=dk
theorem QqF:Lo QZ "_law_desks":=dk
theorem QtE:Lo QZ "_law_out":=dk
theorem Qe5:Lo QZ "_law_worths_here":=dk
theorem Qe6:Lo QZ "_law_door_worths":=dk
theorem QBF:Gl QZ "zip":=dk
theorem QeI:Lo QZ "_law_worth":=dk
theorem QiZ:Lo QZ "_law_many":=dk
theorem Qix:Gl QZ "_law_plus":=dk
def Qjv:SD->Out Fl:=(sSet 6 (eA (fun xs=>Qaf (xs++[])) (aCons (eVar 6) (aCons (eTup (aCons (e2 dMul (eVar 7) (e2 dIx (eVar 8) (eC (.int 0)))) (aCons (e2 dIx (eVar 8) (eC (.int 1))) aNil))) aNil))))
theorem Qge:Lo QZ "_law_plan_here":=dk
theorem QA8:Gl QZ "len":=dk
theorem QxI:Gl QZ "range":=dk
theorem Qhg:Lo QZ "_law_k":=dk
theorem QqK:Gl QZ "_law_leans":=dk
theorem Qp8:Lo QZ "_law_states":=dk
def QiB:SD->Out Fl:=(sSet 6 (eA (fun xs=>Qaf (xs++[])) (aCons (eVar 6) (aCons (e2 dIx (eA (fun xs=>Qce (xs++[])) (aCons (eVar 0) (aCons (eVar 9) (aCons (eVar 1) (aCons (eVar 2) aNil))))) (e2 dIx (eVar 3) (eVar 9))) aNil))))
def QmL:SD->Out Fl:=(sSeq (sSet 6 (eTup (aCons (eC (.int 0)) (aCons (eC (.int 1)) aNil)))) (sSeq (sFor (gT [7,8]) (itZ (e2 dCat (eVar 4) (eVar 5)) (e2 dCat (eVar 1) (eVar 2))) Qjv) (sSeq (sFor (gN 9) (itR1 (eA fLen (aCons (eVar 0) aNil))) QiB) (sRet (eVar 6)))))
def Qfc:List D->Out D:=bodyF false 6 10 QmL
theorem QMN(d0 d1 d2 d3 d4 d5:D):Qfc [d0,d1,d2,d3,d4,d5]=(QmL [some (.k,d0),some (.k,d1),some (.k,d2),some (.k,d3),some (.k,d4),some (.k,d5),none,none,none,none]>>=retF false):=rfl
theorem QLJ(F:FunV K "_law_book" "_law_book" QZ f fd dV)(Qdm:DefOk P w K mg base CT "_law_plus" 3 false [] Qaf)(QJG:DefOk P w K mg base CT "_law_leans" 6 true [] Qce)(z_zip:mg "zip"=none)(z_range:mg "range"=none)(z_len:mg "len"=none):FnOk P w K mg base CX0 7 f fd ["_law_plan_here","_law_worths_here","_law_door_worths","_law_states","_law_desks","_law_out"] (SpD K CT false Qfc):=
 @fnV P w K mg base CT false "_law_book" "_law_book" QZ f fd dV ["_law_plan_here","_law_worths_here","_law_door_worths","_law_states","_law_desks","_law_out","_law_total","_law_many","_law_worth","_law_k"] ["_law_plan_here","_law_worths_here","_law_door_worths","_law_states","_law_desks","_law_out"] 6 QmL F Qef fun cdv A outer s H E G hr=>
  (Qf (Qv (i:=6) Qef.nd rfl (oi Qa4) (Qdh (Qc Qe (Qc Qe Qg)))) (Qf (Qb3 PassesOwn.never rfl (QnU QBF z_zip (DF.de (QqB (Qb 4 rfl (oi QqF)) (Qb 5 rfl (oi QtE)))) (DF.de (QqB (Qb 1 rfl (oi Qe5)) (Qb 2 rfl (oi Qe6))))) (Qhu rfl (QX (i:=7) Qef.nd rfl (oi QiZ) (QX (i:=8) Qef.nd rfl (oi QeI) Qdp))) (Qd6 _) (Qh (Qv (i:=6) Qef.nd rfl (oi Qa4) (de_f Qdm (hr.mono (by decide)) (Qc (Qb 6 rfl (oi Qa4)) (Qc (Qdh (Qc (Qa2 (DE.db (Qb 7 rfl (oi QiZ))) (DE.db (de_ix (Qb 8 rfl (oi QeI)) (DE.db Qe)))) (Qc (de_ix (Qb 8 rfl (oi QeI)) (DE.db Qe)) Qg))) Qg)) Qix)))) (Qf (Qb3 PassesOwn.never rfl (Qa1 QxI z_range (DE.db (QaD QA8 z_len (Qu (DE.db (Qb 0 rfl (oi Qge))) Qy)))) (Qz (i:=9) Qef.nd rfl (oi Qhg)) (Qt _) (Qh (Qv (i:=6) Qef.nd rfl (oi Qa4) (de_f Qdm (hr.mono (by decide)) (Qc (Qb 6 rfl (oi Qa4)) (Qc (de_ix (de_f QJG (hr.mono (by decide)) (Qc (Qb 0 rfl (oi Qge)) (Qc (Qb 9 rfl (oi Qhg)) (Qc (Qb 1 rfl (oi Qe5)) (Qc (Qb 2 rfl (oi Qe6)) Qg)))) QqK) (DE.db (de_ix (Qb 3 rfl (oi Qp8)) (DE.db (Qb 9 rfl (oi Qhg)))))) Qg)) Qix)))) (Qh (QA (Qb 6 rfl (oi Qa4)))))))
abbrev Qag:Stmt:=top 75
theorem QeL:Qo ["_law_script","_law_plan_here","_law_doors","_law_office_here","_law_cell_here","_law_some","_law_worths_here","_law_door_worths","_law_states","_law_desks","_law_out","_law_handed","_law_found"] ["_law_script"] (Qa Qag):=⟨rfl,rfl,rfl,dk,rfl,dk,dk⟩
theorem Ql7:Lo Qag "_law_script":=dk
theorem QAm:Gl Qag "_law_plan":=dk
theorem Qfg:Lo Qag "_law_doors":=dk
theorem Qaw:(Qa Qag).names.lookup ("_law_plan_here":Str)=some NameKind.cell:=dk
theorem Qv0:Gl Qag "_law_office":=dk
theorem Qhq:Lo Qag "_law_office_here":=dk
theorem Qdl:(Qa Qag).names.lookup ("_law_cell_here":Str)=some NameKind.cell:=dk
theorem QkY:Gl Qag "len":=dk
theorem Qv6:Gl Qag "_law_worths":=dk
theorem Qjb:Lo Qag "_law_some":=dk
theorem QcI:Lo Qag "_law_worths_here":=dk
theorem QcK:Lo Qag "_law_door_worths":=dk
theorem QJA:Gl Qag "range":=dk
abbrev QjN:PySem.Scope:={ kind:=PySem.ScopeKind.function,names:=[ (PySem.Str.ofString ".0",PySem.NameKind.local),(PySem.Str.ofString "_law_k",PySem.NameKind.local),(PySem.Str.ofString "_law_mixed",PySem.NameKind.globalImplicit),(PySem.Str.ofString "len",PySem.NameKind.globalImplicit),(PySem.Str.ofString "_law_cell_here",PySem.NameKind.free),(PySem.Str.ofString "_law_plan_here",PySem.NameKind.free)],isGenerator:=false,isCoroutine:=false,more:=[]:PySem.Scope }
theorem QLh:QI ["_law_k","_law_cell_here","_law_plan_here"] [none,some 4,some 1] QjN (Qa Qag) ["_law_script","_law_plan_here","_law_doors","_law_office_here","_law_cell_here","_law_some","_law_worths_here","_law_door_worths","_law_states","_law_desks","_law_out","_law_handed","_law_found"]:=⟨rfl,dk,dk,rfl,dk,dk⟩
theorem Qf2:(Qi QjN (Qa Qag)).names.lookup ("_law_k":Str)=some NameKind.local:=dk
theorem Qop:(Qi QjN (Qa Qag)).names.lookup ("_law_cell_here":Str)=some NameKind.cell:=dk
theorem Qtq:(Qi QjN (Qa Qag)).names.lookup ("_law_mixed":Str)=some NameKind.globalImplicit:=dk
theorem Qom:(Qi QjN (Qa Qag)).names.lookup ("_law_plan_here":Str)=some NameKind.cell:=dk
theorem QGg:(Qi QjN (Qa Qag)).names.lookup ("len":Str)=some NameKind.globalImplicit:=dk
def QBH:SD->Out D:=(e2 dMod (eA (fun xs=>Qx (xs++[])) (aCons (eVar 1) (aCons (e2 dAdd (eVar 0) (eC (.int 40))) aNil))) (eA fLen (aCons (e2 dIx (e2 dIx (eVar 2) (eVar 0)) (eC (.int 1))) aNil)))
theorem QeA:Lo Qag "_law_states":=dk
theorem QkF:Gl Qag "_law_counted":=dk
theorem Qfx:Lo Qag "_law_desks":=dk
theorem QgX:Lo Qag "_law_out":=dk
theorem Qiv:Gl Qag "list":=dk
theorem Qbz:Lo Qag "_law_handed":=dk
theorem QNt:Gl Qag "book":=dk
theorem QnX:Lo Qag "_law_found":=dk
theorem Qy9:Gl Qag "_law_book":=dk
theorem QzO:Gl Qag "_law_same":=dk
def QqM:SD->Out Fl:=(sSeq (sSet 5 (eA (fun xs=>QdA (xs++[])) (aCons (eVar 4) (aCons (e2 dAdd (eA fLen (aCons (eVar 1) aNil)) (eVar 2)) aNil)))) (sSeq (sSet 6 (eSl (eVar 5) oNo (oSome (eA fLen (aCons (eVar 1) aNil))))) (sSeq (sSet 7 (eSl (eVar 5) (oSome (eA fLen (aCons (eVar 1) aNil))) oNo)) (sSeq (sSet 8 (eComp [none,some 4,some 1] (itR1 (eA fLen (aCons (eVar 1) aNil))) (gN 0) cTrue QBH)) (sSeq (sSet 9 (eA (fun xs=>Qcu (xs++[])) (aCons (eVar 4) (aCons (eA fLen (aCons (eVar 1) aNil)) (aCons (eC (.int 50)) aNil))))) (sSeq (sSet 10 (eA (fun xs=>Qcu (xs++[])) (aCons (eVar 4) (aCons (eVar 2) (aCons (eC (.int 60)) aNil))))) (sSeq (sSet 11 (eLst (aCons (e1 dList (eVar 6)) (aCons (e1 dList (eVar 7)) (aCons (e1 dList (eVar 8)) (aCons (e1 dList (eVar 9)) (aCons (e1 dList (eVar 10)) aNil))))))) (sSeq (sSet 12 (eA (fun xs=>Qog (xs++[])) (aCons (eVar 3) (aCons (e2 dIx (eVar 11) (eC (.int 0))) (aCons (e2 dIx (eVar 11) (eC (.int 1))) (aCons (e2 dIx (eVar 11) (eC (.int 2))) (aCons (e2 dIx (eVar 11) (eC (.int 3))) (aCons (e2 dIx (eVar 11) (eC (.int 4))) aNil)))))))) (sSeq (sIf (tNot' (tVal (eA (fun xs=>Qfd (xs++[])) (aCons (eVar 12) (aCons (eA (fun xs=>Qfc (xs++[])) (aCons (eVar 1) (aCons (eVar 6) (aCons (eVar 7) (aCons (eVar 8) (aCons (eVar 9) (aCons (eVar 10) aNil))))))) aNil))))) (sRet (eC (.bl false))) sNil) (sIf (tVal (e2 dNe (eVar 11) (eLst (aCons (eVar 6) (aCons (eVar 7) (aCons (eVar 8) (aCons (eVar 9) (aCons (eVar 10) aNil)))))))) (sRet (eC (.bl false))) sNil))))))))))
def QET:SD->Out Fl:=(sSeq (sUnp [1,2] (eA (fun xs=>Qfj (xs++[])) (aCons (eVar 0) aNil))) (sSeq (sSet 3 (eA (fun xs=>Qdw (xs++[])) (aCons (eVar 1) (aCons (eVar 2) aNil)))) (sSeq (sFor (gN 4) (itL (e2 dCat (eLst (aCons (eC (.int 0)) aNil)) (eSl (eVar 0) (oSome (eC (.int 11))) (oSome (eC (.int 19)))))) QqM) (sRet (eC (.bl true))))))
def QoR:List D->Out D:=bodyF false 1 13 QET
theorem QUH(d0:D):QoR [d0]=(QET [some (.k,d0),none,none,none,none,none,none,none,none,none,none,none,none]>>=retF false):=rfl
theorem QUG(F:FunV K "law" "law" Qag f fd dV)(QMG:DefOk P w K mg base CT "_law_plan" 3 false [] Qfj)(QFu:DefOk P w K mg base CT "_law_office" 8 true [] Qdw)(QGa:DefOk P w K mg base CT "_law_worths" 3 true [] QdA)(QaY:DefOk P w K mg base CT "_law_mixed" 1 false [] Qx)(Qs4:DefOk P w K mg base CT "_law_counted" 2 true [] Qcu)(QSV:DefOk P w K mg base CT "book" 6 false [] Qog)(QM9:DefOk P w K mg base CT "_law_same" 2 false [] Qfd)(QLV:DefOk P w K mg base CT "_law_book" 7 false [] Qfc)(z_len:mg "len"=none)(z_range:mg "range"=none)(z_list:mg "list"=none):FnOk P w K mg base CX0 9 f fd ["_law_script"] (SpD K CT false QoR):=
 @fnV P w K mg base CT false "law" "law" Qag f fd dV ["_law_script","_law_plan_here","_law_doors","_law_office_here","_law_cell_here","_law_some","_law_worths_here","_law_door_worths","_law_states","_law_desks","_law_out","_law_handed","_law_found"] ["_law_script"] 8 QET F QeL fun cdv A outer s H E G hr=>
  (Qf (QHQ rfl (de_f QMG (hr.mono (by decide)) (Qc (Qb 0 rfl (oi Ql7)) Qg) QAm) (QX (i:=1) QeL.nd rfl (Or.inr Qaw) (QX (i:=2) QeL.nd rfl (oi Qfg) Qdp))) (Qf (Qv (i:=3) QeL.nd rfl (oi Qhq) (de_f QFu (hr.mono (by decide)) (Qc (Qb 1 rfl (Or.inr (oi Qaw))) (Qc (Qb 2 rfl (oi Qfg)) Qg)) Qv0)) (Qf (Qb3 PassesOwn.never rfl (Qam (DF.de (QqB (DF.de (QbJ (Qc Qe Qg))) (DF.de (df_sl (Qb 0 rfl (oi Ql7)) (QvR (DE.db Qe)) (QvR (DE.db Qe))))))) (Qz (i:=4) QeL.nd rfl (Or.inr Qdl)) (Qt _) (Qf (Qv (i:=5) QeL.nd rfl (oi Qjb) (de_f QGa (hr.mono (by decide)) (Qc (Qb 4 rfl (Or.inr (oi Qdl))) (Qc (QaO (DE.db (QaD QkY z_len (Qu (DE.db (Qb 1 rfl (Or.inr (oi Qaw)))) Qy))) (DE.db (Qb 2 rfl (oi Qfg)))) Qg)) Qv6)) (Qf (Qv (i:=6) QeL.nd rfl (oi QcI) (DF.de (df_sl (Qb 5 rfl (oi Qjb)) QLm (QvR (DE.db (QaD QkY z_len (Qu (DE.db (Qb 1 rfl (Or.inr (oi Qaw)))) Qy))))))) (Qf (Qv (i:=7) QeL.nd rfl (oi QcK) (DF.de (df_sl (Qb 5 rfl (oi Qjb)) (QvR (DE.db (QaD QkY z_len (Qu (DE.db (Qb 1 rfl (Or.inr (oi Qaw)))) Qy)))) QLm))) (Qf (QjS (i:=8) rfl QLh (DI.b (Qa1 QJA z_range (DE.db (QaD QkY z_len (Qu (DE.db (Qb 1 rfl (Or.inr (oi Qaw)))) Qy))))) (fun ς=>QO (Qs rfl ς)) (Qt _) (fun fp s H G p=>⟨(Qz (i:=0) QLh.nd rfl (oi Qf2) (hf:=Or.inr Qf2)),QN,(QaN (DE.db (de_f QaY (hr.mono (by decide)) (Qc (Qb 1 rfl (Or.inr (oi Qop))) (Qc (QaO (DE.db (Qb 0 rfl (oi Qf2))) (DE.db Qe)) Qg)) Qtq)) (DE.db (QaD QGg z_len (Qu (DE.db (de_ix (de_ix (Qb 2 rfl (Or.inr (oi Qom))) (DE.db (Qb 0 rfl (oi Qf2)))) (DE.db Qe))) Qy))))⟩) QeL.nd rfl (oi QeA)) (Qf (Qv (i:=9) QeL.nd rfl (oi Qfx) (de_f Qs4 (hr.mono (by decide)) (Qc (Qb 4 rfl (Or.inr (oi Qdl))) (Qc (QaD QkY z_len (Qu (DE.db (Qb 1 rfl (Or.inr (oi Qaw)))) Qy)) (Qc Qe Qg))) QkF)) (Qf (Qv (i:=10) QeL.nd rfl (oi QgX) (de_f Qs4 (hr.mono (by decide)) (Qc (Qb 4 rfl (Or.inr (oi Qdl))) (Qc (Qb 2 rfl (oi Qfg)) (Qc Qe Qg))) QkF)) (Qf (Qv (i:=11) QeL.nd rfl (oi Qbz) (DF.de (QbJ (Qc (DF.de (QeP Qiv z_list (Qb 6 rfl (oi QcI)))) (Qc (DF.de (QeP Qiv z_list (Qb 7 rfl (oi QcK)))) (Qc (DF.de (QeP Qiv z_list (Qb 8 rfl (oi QeA)))) (Qc (DF.de (QeP Qiv z_list (Qb 9 rfl (oi Qfx)))) (Qc (DF.de (QeP Qiv z_list (Qb 10 rfl (oi QgX)))) Qg)))))))) (Qf (Qv (i:=12) QeL.nd rfl (oi QnX) (de_f QSV (hr.mono (by decide)) (Qc (Qb 3 rfl (oi Qhq)) (Qc (de_ix (Qb 11 rfl (oi Qbz)) (DE.db Qe)) (Qc (de_ix (Qb 11 rfl (oi Qbz)) (DE.db Qe)) (Qc (de_ix (Qb 11 rfl (oi Qbz)) (DE.db Qe)) (Qc (de_ix (Qb 11 rfl (oi Qbz)) (DE.db Qe)) (Qc (de_ix (Qb 11 rfl (oi Qbz)) (DE.db Qe)) Qg)))))) QNt)) (Qf (ds_if (QaC (QaI (de_f QM9 (hr.mono (by decide)) (Qc (Qb 12 rfl (oi QnX)) (Qc (de_f QLV (hr.mono (by decide)) (Qc (Qb 1 rfl (Or.inr (oi Qaw))) (Qc (Qb 6 rfl (oi QcI)) (Qc (Qb 7 rfl (oi QcK)) (Qc (Qb 8 rfl (oi QeA)) (Qc (Qb 9 rfl (oi Qfx)) (Qc (Qb 10 rfl (oi QgX)) Qg)))))) Qy9) Qg)) QzO))) (Qh (QA de_bl)) Q1) (Qh (ds_if (dt_ne hr.units (DE.db (Qb 11 rfl (oi Qbz))) (DE.db (DF.de (QbJ (Qc (Qb 6 rfl (oi QcI)) (Qc (Qb 7 rfl (oi QcK)) (Qc (Qb 8 rfl (oi QeA)) (Qc (Qb 9 rfl (oi Qfx)) (Qc (Qb 10 rfl (oi QgX)) Qg))))))))) (Qh (QA de_bl)) Q1)))))))))))) (Qh (QA de_bl)))))
end
end My
set_option exponentiation.threshold 20000
namespace My
open PySem PySem.Spec L2 DL
local macro_rules | `(tactic| walk_at "g") => `(tactic| ((repeat (first | exact QSZ | apply QT9));done))
local macro_rules | `(tactic| walk_at "s") => `(tactic| repeat (first | exact QOw | apply QOU))
local macro_rules | `(tactic| walk_at "all") => `(tactic| repeat (first | with_reducible exact QCY | (apply QCT;focus walk_at "s")))
local macro_rules | `(tactic| walk_at "cap") => `(tactic| repeat (first | exact c_nil | apply QhC | (apply c_k;focus walk_at "g") | (apply c_o;focus walk_at "g") | (apply c_l;focus walk_at "g") | (apply c_s;focus walk_at "g")))
local macro_rules | `(tactic| walk_at "b") => `(tactic| first | rfl | with_reducible assumption | (simp only[Bool.not_eq_true',Bool.not_eq_false',decide_eq_true_eq,decide_eq_false_iff_not,Bool.not_true,Bool.not_false];first | with_reducible assumption | omega) | (simp;done))
local macro_rules | `(tactic| walk_at "p") => `(tactic| first | decide | with_reducible assumption | omega)
local macro_rules | `(tactic| walk_at "l") => `(tactic| first | decide | with_reducible assumption | (simp only[List.length_map,List.length_cons,List.length_nil,List.length_range,List.length_append];omega) | omega | (simp;omega))
local macro_rules | `(tactic| walk_at "e") => `(tactic| first
 | ((with_reducible apply r_id);with_reducible assumption)
 | with_reducible exact r_okR | with_reducible exact QSD
 | with_reducible apply r_var | with_reducible apply r_varB | with_reducible exact r_C | with_reducible exact r_nil | with_reducible exact r_oNo | with_reducible exact QUn | with_reducible exact QSs
 | with_reducible exact QbA _ _ | with_reducible exact Qco _ _ | with_reducible exact QbX _ | with_reducible exact QbB _ | with_reducible exact QaR _ _ | with_reducible exact Qb0 _ _ | with_reducible exact Qc7 _ _ | with_reducible exact Qcs _ _ | with_reducible exact QC _ _ | with_reducible exact Qbo _ _
 | with_reducible exact QsK (by walk_at "p")
 | with_reducible exact r_rt | with_reducible exact r_rtT | with_reducible exact r_rtS rfl
 | with_reducible apply QT4
 | with_reducible exact QOw | with_reducible apply QOU
 | with_reducible exact QTi | with_reducible apply QTm
 | with_reducible exact QCY | with_reducible apply QCT
 | with_reducible exact c_nil | with_reducible apply QhC | ((with_reducible apply c_k);focus walk_at "g") | ((with_reducible apply c_o);focus walk_at "g") | ((with_reducible apply c_l);focus walk_at "g") | ((with_reducible apply c_s);focus walk_at "g")
 | ((with_reducible apply r_scal);exact rfl)
 | ((with_reducible apply r_get);focus walk_at "g")
 | ((with_reducible apply QUa);with_reducible assumption)
 | ((with_reducible apply QSX);focus walk_at "p") | with_reducible apply QS1 | with_reducible apply bd_sub | with_reducible apply Qd4 | with_reducible apply QkJ | with_reducible apply QO2 | with_reducible exact QuK rfl
 | ((with_reducible apply r_dec);focus exact rfl)
 | ((with_reducible apply r_len);focus walk_at "l")
 | with_reducible apply r_mul
 | ((with_reducible apply QUq);focus walk_at "p")
 | ((with_reducible apply QTd);focus walk_at "b")
 | ((with_reducible apply QTq);focus walk_at "b")
 | with_reducible apply QTA | with_reducible apply r_e2 | with_reducible apply r_e1 | with_reducible apply r_seq | with_reducible apply r_set | with_reducible apply QTL | with_reducible apply r_if | with_reducible apply QtY | with_reducible apply QTx | with_reducible apply QUt | with_reducible apply r_or' | with_reducible apply QUz | with_reducible apply QTc | with_reducible apply r_eOr | with_reducible apply r_eNot | with_reducible apply r_eIf | with_reducible apply r_isa | with_reducible apply QRP | with_reducible apply QTf | with_reducible apply r_ret | with_reducible apply QTJ | with_reducible apply r_drop | with_reducible apply r_tup | with_reducible apply r_lst | with_reducible apply r_scalar | with_reducible apply r_nonScal | with_reducible apply r_noX | with_reducible apply QR0 | with_reducible apply QS3 | with_reducible apply r_gN | with_reducible apply r_gT | with_reducible apply r_unp | with_reducible apply r_for | with_reducible apply r_itL | with_reducible apply r_itT | with_reducible apply r_itE | with_reducible apply r_itZ | with_reducible apply QTj | with_reducible apply r_eA | with_reducible apply r_sl | with_reducible apply r_slB | with_reducible apply r_ixO | with_reducible apply r_meth | with_reducible apply QTZ | with_reducible apply r_app | with_reducible apply r_put | with_reducible apply Qax | with_reducible apply QCl | with_reducible apply QTN | with_reducible apply QRv | with_reducible apply r_lm)
abbrev CK:List Str:=Qd
theorem QHm{c:Str}(h:CK.contains c=true):Qj.contains c=true:=by
 have hm:c∈Qd:=by simpa using h
 simp only[Qd,List.mem_cons,List.not_mem_nil,or_false]at hm
 rcases hm with rfl | rfl | rfl | rfl<;>decide +kernel
def dl(r:List Int):D:=.lst (r.map .int)
def tbD(t:List (List Int)):D:=.lst (t.map dl)
theorem Qxr{js:List (Option Nat)}{its:SD->Out (List D)}{g:D->SD->Out SD}{e:SD->Out D}{ς:SD}{xs:List D}{h:D->D}(hi:its ς=.ok xs)(ht:∀ x∈xs,turnC js g cTrue e ς x=.ok (some (h x)))(hl:xs.length<=1000):
 eComp js its g cTrue e ς=.ok (.lst (xs.map h)):=by
 unfold eComp
 rw[hi,Out.bind_ok,QHt (h:=fun x=>some (h x)) ht,Out.bind_ok]
 have e:xs.filterMap (fun x=>some (h x))=xs.map h:=by rw[← List.filterMap_eq_map];rfl
 rw[e,if_pos (QqN (by rw[List.length_map];exact hl))]
theorem QxN{js:List (Option Nat)}{its:SD->Out (List D)}{e:SD->Out D}{ς:SD}{a b:List Int}(f:Int->Int->Int)(hi:its ς=.ok (List.zipWith (fun x y=>.tup [x,y]) (a.map .int) (b.map .int)))
 (ht:∀ x∈a,∀ y∈b,turnC js (gT [0,1]) cTrue e ς (.tup [.int x,.int y])=.ok (some (.int (f x y)))) (hl:a.length<=1000):eComp js its (gT [0,1]) cTrue e ς=.ok (dl (List.zipWith f a b)):=by
 have hz:List.zipWith (fun x y=>D.tup [x,y]) (a.map .int) (b.map .int)=(List.zip a b).map fun p=>D.tup [.int p.1,.int p.2]:=by
  rw[List.zipWith_map,List.map_zip_eq_zipWith]
  rfl
 rw[Qxr (h:=fun d=>match d with | .tup [.int x,.int y]=>.int (f x y) | _=>.non) (by rw[hi,hz]) ?_ ?_]
 ·unfold dl
  rw[List.map_map,List.map_zipWith,List.map_zip_eq_zipWith]
  rfl
 ·intro x hx
  obtain⟨⟨p,q⟩,hp,rfl⟩:=List.mem_map.mp hx
  exact ht p (List.of_mem_zip hp).1 q (List.of_mem_zip hp).2
 ·rw[List.length_map,List.length_zip]
  omega
theorem loopL{body:D->SD->Out Fl}{P:Nat->SD->Prop}:∀{xs:List D}(n:Nat),(∀ k x,xs[k]?=some x->∀ ς,P (n+k) ς->∃ ς',body x ς=.ok (.nx ς')/\P (n+k+1) ς')->∀ ς,P n ς->∃ ς',loopD body xs ς=.ok (.nx ς')/\P (n+xs.length) ς'
 | [],n,_,ς,p=>⟨ς,rfl,p⟩
 | x::xs,n,h,ς,p=>by
  obtain⟨ς1,e1',p1⟩:=h 0 x rfl ς p
  obtain⟨ς2,e2',p2⟩:=loopL (xs:=xs) (n+1) (fun k y hy ς q=>by
   have:=h (k+1) y hy ς (by rw[show n+(k+1)=n+1+k by omega];exact q)
   rw[show n+(k+1)+1=n+1+k+1 by omega]at this
   exact this) ς1 p1
  refine⟨ς2,?_,by rw[List.length_cons,show n+(xs.length+1)=n+1+xs.length by omega];exact p2⟩
  rw[loopD,e1']
  exact e2'
def cs(t:List (List Int))(k j:Nat):Int:=((t.take k).map fun r=>r.getD j 0).sum
def pre(t:List (List Int))(m k:Nat):List Int:=(List.range m).map (cs t k)
theorem QQm{t:List (List Int)}{m k:Nat}{r:List Int}(hr:t[k]?=some r)(hm:r.length=m):List.zipWith (· + ·) (pre t m k) r=pre t m (k+1):=by
 apply List.ext_getElem?
 intro j
 unfold pre
 rw[List.getElem?_zipWith,List.getElem?_map,List.getElem?_map]
 by_cases hj:j<m
 ·have h1:(List.range m)[j]?=some j:=by simp[hj]
  have h2:r[j]?=some r[j]:=by simp[hm,hj]
  rw[h1,h2]
  show some (cs t k j+r[j])=some (cs t (k+1) j)
  unfold cs
  rw[List.take_add_one,hr]
  simp[hm,hj,List.getD_eq_getElem?_getD]
 ·have h1:(List.range m)[j]?=none:=by simp;omega
  rw[h1];rfl
theorem QPN(t:List (List Int))(m:Nat):pre t m 0=List.replicate m 0:=by
 unfold pre
 rw[List.eq_replicate_iff]
 refine⟨by simp,fun x hx=>?_⟩
 obtain⟨j,_,rfl⟩:=List.mem_map.mp hx
 rfl
structure Tb(t:List (List Int))(m:Nat):Prop where
 n1:1<=t.length
 n2:t.length<=12
 m6:m<=6
 row:∀ r∈t,r.length=m
 ent:∀ r∈t,∀ x∈r,0<=x/\x<=9
theorem QSv{a b:List Int}(hl:a.length<=1000):Qe4 [dl a,dl b]=.ok (dl (List.zipWith (· + ·) a b)):=by
 have h:=QxN (js:=[none,none]) (its:=itZ (eVar 0) (eVar 1)) (e:=QwM) (ς:=[some (.k,dl a),some (.k,dl b)]) (a:=a) (b:=b) (· + ·) rfl (fun x _ y _=>rfl) hl
 rw[QO3]
 unfold QoO sRetF
 rw[h];rfl
def hdD(t:List (List Int))(m:Nat)(k:Nat):D:=.lst ((List.range (k+1)).map fun i=>dl (pre t m i))
theorem QM2{t:List (List Int)}{m:Nat}(h:Tb t m):Qbf [tbD t]=.ok (hdD t m t.length):=by
 obtain⟨n1,n2,m6,row,_⟩:=h
 have r0:t[0]?=some t[0]:=by simp
 have hr0:(t[0]).length=m:=row _ (List.getElem_mem _)
 have hix:dIx (tbD t) (.int 0)=.ok (dl t[0]):=ixL 0 (by rw[List.getElem?_map,r0];rfl)
 have hc:eComp [none] (itL (e2 dIx (eVar 0) (eC (.int 0)))) (gN 0) cTrue Qh4 [some (.k,tbD t),none,none]=.ok (dl (pre t m 0)):=by
  rw[Qxr (xs:=(t[0]).map .int) (h:=fun _=>.int 0) (by simp only[itL,e2,eVar,eC,Out.bind_ok,List.getElem?_cons_zero,hix];rfl) (fun x _=>rfl) (by rw[List.length_map];omega)]
  rw[QPN,List.map_map]
  unfold dl
  congr 2
  rw[List.map_replicate]
  exact List.eq_replicate_iff.mpr ⟨by simp[hr0],fun x hx=>by obtain⟨_,_,rfl⟩:=List.mem_map.mp hx;rfl⟩
 obtain⟨ς',hL,a2,rfl⟩:=loopL (body:=fun x ς=>gN 2 x ς>>=fun ς'=>QdE ς') (xs:=t.map dl) (P:=fun k ς=>∃ a2,ς=[some (.k,tbD t),some (.o,hdD t m k),a2]) 0
  (by
   rintro k x hx ς ⟨a2,rfl⟩
   rw[Nat.zero_add]at *
   rw[List.getElem?_map]at hx
   cases ht:t[k]? with
   | none=>rw[ht]at hx;cases hx
   | some r=>
    rw[ht]at hx
    cases hx
    have hk:k<t.length:=(List.getElem?_eq_some_iff.mp ht).1
    have hrm:r.length=m:=row r (List.mem_of_getElem? ht)
    have hl:(pre t m k).length=m:=by simp[pre]
    have s:=QSv (a:=pre t m k) (b:=r) (by omega)
    rw[QQm ht hrm]at s
    have hat:atI ((List.range (k+1)).map fun i=>dl (pre t m i)) (-1)=some (dl (pre t m k)):=by
     unfold atI ixN
     simp
     rw[if_pos (by omega),show((-1:Int)+((k:Int)+1)).toNat=k by omega]
     simp
    refine⟨[some (.k,tbD t),some (.o,hdD t m (k+1)),some (.k,dl r)],?_,_,rfl⟩
    have e1':eIxO 1 (e1 dNeg (eC (.int 1))) [some (.k,tbD t),some (.o,hdD t m k),some (.k,dl r)]=.ok (dl (pre t m k)):=by
     unfold eIxO hdD
     simp only[List.getElem?_cons_succ,List.getElem?_cons_zero,e1,eC,Out.bind_ok,QbX,hat];rfl
    have hlt:decide (((List.range (k+1)).map fun i=>dl (pre t m i)).length<sizeLine)=true:=by
     have:(1000:Nat)<=sizeLine:=by decide
     rw[List.length_map,List.length_range]
     exact decide_eq_true (by omega)
    have hnext:((List.range (k+1)).map fun i=>dl (pre t m i))++[dl (pre t m (k+1))]=(List.range (k+1+1)).map fun i=>dl (pre t m i):=by
     rw[List.range_succ (n:=k+1),List.map_append];rfl
    show QdE [some (.k,tbD t),some (.o,hdD t m k),some (.k,dl r)]=_
    unfold QdE QbF
    simp only[List.getElem?_cons_succ,List.getElem?_cons_zero,hdD]
    have e3':eA (fun xs=>Qe4 (xs++[])) (aCons (eIxO 1 (e1 dNeg (eC (.int 1)))) (aCons (eVar 2) aNil)) [some (.k,tbD t),some (.o,hdD t m k),some (.k,dl r)]=.ok (dl (pre t m (k+1))):=by
     simp only[eA,aCons,aNil,e1',eVar,Out.bind_ok,List.getElem?_cons_succ,List.getElem?_cons_zero,List.append_nil,s]
    rw[show(D.lst ((List.range (k+1)).map fun i=>dl (pre t m i)))=hdD t m k from rfl,e3',Out.bind_ok,if_pos hlt,hnext]
    rfl)
  [some (.k,tbD t),some (.o,hdD t m 0),none] ⟨_,rfl⟩
 rw[Nat.zero_add,List.length_map]at hL
 have hfor:=QbH (g:=gN 2) (its:=itL (eVar 0)) (T:=QdE) (ς:=[some (.k,tbD t),some (.o,hdD t m 0),none]) (xs:=t.map dl) rfl hL
 rw[QAt]
 unfold Qg0
 have hs:sSetO 1 (eLst (aCons (eComp [none] (itL (e2 dIx (eVar 0) (eC (.int 0)))) (gN 0) cTrue Qh4) aNil)) [some (.k,tbD t),none,none]=.ok (.nx [some (.k,tbD t),some (.o,hdD t m 0),none]):=by
  simp only[sSetO,eLst,aCons,aNil,hc,Out.bind_ok,List.length_cons,List.length_nil,QaE,Nat.reduceAdd,Nat.reduceLeDiff,if_true];rfl
 simp only[sSeq,hs,Out.bind_ok,thenF,hfor]
 rfl
def ckF(t:List (List Int))(m:Nat):List (Str×D):=[("table",tbD t),("heads",hdD t m t.length)]
def ck(c:Str)(t:List (List Int))(m:Nat):D:=.ins c (ckF t m)
theorem QS2:(("heads":Str) == ("table":Str))=false:=dk
theorem QUk(t:List (List Int))(m:Nat):(ckF t m).lookup ("table":Str)=some (tbD t):=by
 unfold ckF;rw[List.lookup_cons,beq_self_eq_true]
theorem QT1(t:List (List Int))(m:Nat):(ckF t m).lookup ("heads":Str)=some (hdD t m t.length):=by
 unfold ckF;rw[List.lookup_cons,QS2,List.lookup_cons,beq_self_eq_true]
theorem QRd{n:Str}(h1:(n == ("table":Str))=false)(h2:(n == ("heads":Str))=false)(t:List (List Int))(m:Nat):(ckF t m).lookup n=none:=by
 unfold ckF;rw[List.lookup_cons,h1,List.lookup_cons,h2];rfl
theorem put_h(t:List (List Int))(m:Nat):putD "heads" (hdD t m t.length) [("table",tbD t)]=ckF t m:=by
 have:¬ (("table":Str)=("heads":Str)):=dk
 unfold putD
 rw[if_neg this];rfl
theorem QvK{c:Str}(hc:CK.contains c=true){t:List (List Int)}{m:Nat}(h:Tb t m):QP c [] [tbD t]=.ok (ckF t m):=by
 have hk:eComp [none] (itL (eVar 1)) (gN 0) cTrue QfZ [some (.s,.ins c []),some (.k,tbD t)]=.ok (tbD t):=by
  rw[Qxr (xs:=t.map dl) (h:=id) rfl ?_ (by rw[List.length_map];have:=h.n2;omega),List.map_id]
  ·rfl
  ·intro x hx
   obtain⟨r,_,rfl⟩:=List.mem_map.mp hx
   rfl
 have r1:=QM2 h
 have hz:∀ n:Nat,n<10->(Qj.contains c&&decide (n<1000))=true:=fun n hn=>by rw[QHm hc,Bool.true_and];exact decide_eq_true (by omega)
 have s1:sFldS Qj "table" 0 (eComp [none] (itL (eVar 1)) (gN 0) cTrue QfZ) [some (.s,.ins c []),some (.k,tbD t)]=.ok (.nx [some (.s,.ins c [("table",tbD t)]),some (.k,tbD t)]):=by
  unfold sFldS
  rw[hk,Out.bind_ok]
  show(if (Qj.contains c&&decide (([]:List (Str×D)).length<1000))=true then _ else _)=_
  exact(if_pos (c:=(Qj.contains c&&decide (0<1000))=true) (hz 0 (by decide))).trans rfl
 have s2:sFldS Qj "heads" 0 (eA (fun xs=>Qbf (xs++[])) (aCons (eVar 1) aNil)) [some (.s,.ins c [("table",tbD t)]),some (.k,tbD t)]=.ok (.nx [some (.s,.ins c (ckF t m)),some (.k,tbD t)]):=by
  unfold sFldS
  have:eA (fun xs=>Qbf (xs++[])) (aCons (eVar 1) aNil) [some (.s,.ins c [("table",tbD t)]),some (.k,tbD t)]=.ok (hdD t m t.length):=by
   simp only[eA,aCons,aNil,eVar,Out.bind_ok,List.getElem?_cons_succ,List.getElem?_cons_zero,List.append_nil,r1]
  rw[this,Out.bind_ok]
  show(if (Qj.contains c&&decide ([(("table":Str),tbD t)].length<1000))=true then _ else _)=_
  refine(if_pos (c:=(Qj.contains c&&decide (1<1000))=true) (hz 1 (by decide))).trans ?_
  rw[put_h];rfl
 rw[Qv8]
 unfold Qez
 simp only[sSeq,s1,QS8,Out.bind_ok,thenF,s2]
 simp only[Qgu,Qt6,List.getElem?_cons_zero,if_true]
theorem QgP{c:Str}(hc:CK.contains c=true){t:List (List Int)}{m:Nat}{n:Str}{mt:Str->List D->Out D}{O:SD->Out D}{A:SD->Out (List D)}{ς:SD}{xs:List D}(hO:O ς=.ok (ck c t m))(hA:A ς=.ok xs)(h1:(n == ("table":Str))=false)(h2:(n == ("heads":Str))=false):
 eMeth CK n mt O A ς=mt c (ck c t m::xs):=by
 unfold eMeth
 rw[hO,Out.bind_ok]
 show(if (CK.contains c&&((ckF t m).lookup n).isNone)=true then A ς>>=fun xs=>mt c (.ins c (ckF t m)::xs) else .stuck)=_
 simp only[QRd h1 h2,hc,Option.isNone_none,Bool.and_self,if_true,hA,Out.bind_ok]
 rfl
theorem fld_t{c:Str}(hc:CK.contains c=true)(t:List (List Int))(m:Nat):dFld Qj "table" (ck c t m)=.ok (tbD t):=by
 show(if Qj.contains c=true then optO ((ckF t m).lookup ("table":Str)) else .stuck)=_
 rw[if_pos (QHm hc),QUk];rfl
theorem fld_h{c:Str}(hc:CK.contains c=true)(t:List (List Int))(m:Nat):dFld Qj "heads" (ck c t m)=.ok (hdD t m t.length):=by
 show(if Qj.contains c=true then optO ((ckF t m).lookup ("heads":Str)) else .stuck)=_
 rw[if_pos (QHm hc),QT1];rfl
theorem Qt4{c:Str}(hc:CK.contains c=true)(t:List (List Int))(m:Nat):QR [ck c t m]=.ok (.int (t.length:Int)):=by
 have:fLen [tbD t]=.ok (.int (t.length:Int)):=by simp[fLen,tbD]
 simp only[QBg,QgK,sRet,eA,aCons,aNil,e1,eVar,List.getElem?_cons_zero,Out.bind_ok,fld_t hc,this]
 rfl
theorem per_m{c:Str}(hc:CK.contains c=true)(t:List (List Int))(m:Nat){ς:SD}(h:ς[0]?=some (some (.k,ck c t m))):eMeth CK "period" (fun _=>QR) (eVar 0) aNil ς=.ok (.int (t.length:Int)):=by
 rw[QgP (c:=c) (t:=t) (m:=m) hc (xs:=[]) (by unfold eVar;rw[h]) rfl (dk) (dk)]
 exact Qt4 hc t m
theorem hd_ix{t:List (List Int)}{m k:Nat}(hk:k<=t.length):dIx (hdD t m t.length) (.int (k:Int))=.ok (dl (pre t m k)):=ixL k (by rw[List.getElem?_map,List.getElem?_range (by omega)];rfl)
theorem QHM{c:Str}(hc:CK.contains c=true)(t:List (List Int))(m:Nat):QaG [ck c t m]=.ok (dl (pre t m t.length)):=by
 rw[QDU]
 unfold QhJ sRetF
 simp only[e1,e2,eVar,List.getElem?_cons_zero,Out.bind_ok,fld_h hc,per_m hc t m (ς:=[some (.k,ck c t m)]) rfl,hd_ix (Nat.le_refl _)]
 rfl
def sf(t:List (List Int))(x:Int)(j:Nat):Int:=x / (t.length:Int) * cs t t.length j+cs t (x % (t.length:Int)).toNat j
theorem QRI(f:Int->Int->Int)(t:List (List Int))(m a b:Nat):List.zipWith f (pre t m a) (pre t m b)=(List.range m).map fun j=>f (cs t a j) (cs t b j):=by
 unfold pre
 rw[List.zipWith_map,List.zipWith_self]
theorem QON{c:Str}(hc:CK.contains c=true){t:List (List Int)}{m:Nat}(h:Tb t m){x:Int}(h0:0<=x)(hx:x.natAbs<2 ^ 4000)(hcs:∀ k j,(cs t k j).natAbs<2 ^ 100):QQ [ck c t m,.int x]=.ok (dl ((List.range m).map (sf t x))):=by
 have n1:=h.n1
 have hn:(0:Int)<(t.length:Int):=by omega
 have hb:big (t.length:Int)=true:=QGA (n:=10) (by have:=h.n2;show((t.length:Int)).natAbs<2 ^ 10;omega) (by decide)
 have fd:dFdiv (.int x) (.int (t.length:Int))=.ok (.int (x / (t.length:Int))):=QCU hn hb
 have md:dMod (.int x) (.int (t.length:Int))=.ok (.int (x % (t.length:Int))):=QsK hn
 have r0:=Int.emod_nonneg x (show(t.length:Int)≠0 by omega)
 have r1:=Int.emod_lt_of_pos x hn
 have hr:((x % (t.length:Int)).toNat:Int)=x % (t.length:Int):=by omega
 have hix:=hd_ix (t:=t) (m:=m) (k:=(x % (t.length:Int)).toNat) (by omega)
 rw[hr]at hix
 have qb:(x / (t.length:Int)).natAbs<2 ^ 4000:=Nat.lt_of_le_of_lt (Int.natAbs_ediv_le_natAbs x _) hx
 have hcomp:=QxN (js:=[none,none,some 2]) (its:=itZ (eMeth CK "whole" (fun _=>QaG) (eVar 0) aNil) (eVar 3)) (e:=Qgb)
  (ς:=[some (.k,ck c t m),some (.k,.int x),some (.k,.int (x / (t.length:Int))),some (.k,dl (pre t m (x % (t.length:Int)).toNat))]) (a:=pre t m t.length) (b:=pre t m (x % (t.length:Int)).toNat) (fun w v=>x / (t.length:Int) * w+v)
  (by
   unfold itZ
   rw[QgP (c:=c) (t:=t) (m:=m) hc (xs:=[]) rfl rfl (dk) (dk),QHM hc t m]
   rfl)
  (by
   intro w hw v hv
   obtain⟨j,_,rfl⟩:=List.mem_map.mp hw
   have mm:dMul (.int (x / (t.length:Int))) (.int (cs t t.length j))=.ok (.int (x / (t.length:Int) * cs t t.length j)):=QLv (QS qb) (QS (hcs _ _)) (by decide)
   show(e2 dAdd (e2 dMul (eVar 2) (eVar 0)) (eVar 1) [some (.k,.int (cs t t.length j)),some (.k,.int v),some (.k,.int (x / (t.length:Int)))]>>=fun y=>Out.ok (some y))=_
   simp only[e2,eVar,List.getElem?_cons_succ,List.getElem?_cons_zero,Out.bind_ok,mm,QbA])
  (by simp[pre];have:=h.m6;omega)
 rw[QRI]at hcomp
 rw[Qor]
 unfold Qcz
 simp only[sSeq,sSet,e1,e2,eVar,List.getElem?_cons_succ,List.getElem?_cons_zero,Out.bind_ok,thenF,per_m hc t m (ς:=[some (.k,ck c t m),some (.k,.int x),none,none]) rfl,fd,md,List.set_cons_succ,List.set_cons_zero,
  per_m hc t m (ς:=[some (.k,ck c t m),some (.k,.int x),some (.k,.int (x / (t.length:Int))),none]) rfl,fld_h hc,hix,sRetF,hcomp]
 rfl
theorem QRr{c:Str}(hc:CK.contains c=true){t:List (List Int)}{m:Nat}(h:Tb t m){s x:Int}(s0:0<=s)(x0:0<=x)(hs:s.natAbs<2 ^ 4000)(hx:(s+x).natAbs<2 ^ 4000)(hcs:∀ k j,(cs t k j).natAbs<2 ^ 100):
 QcT [ck c t m,.int s,.int x]=.ok (dl ((List.range m).map fun j=>sf t (s+x) j - sf t s j)):=by
 have f1':=QON hc h (x:=s+x) (by omega) hx hcs
 have f2':=QON hc h (x:=s) s0 hs hcs
 have g1:∀ ς:SD,ς[0]?=some (some (.k,ck c t m))->ς[1]?=some (some (.k,.int s))->ς[2]?=some (some (.k,.int x))->eMeth CK "sent_from_start" (fun _=>QQ) (eVar 0) (aCons (e2 dAdd (eVar 1) (eVar 2)) aNil) ς=.ok (dl ((List.range m).map (sf t (s+x)))):=fun ς h0 h1 h2=>by
  rw[QgP (c:=c) (t:=t) (m:=m) hc (xs:=[.int (s+x)]) (by unfold eVar;rw[h0]) (by simp only[aCons,aNil,e2,eVar,h1,h2,Out.bind_ok,QbA]) (dk) (dk)]
  exact f1'
 have g2:∀ ς:SD,ς[0]?=some (some (.k,ck c t m))->ς[1]?=some (some (.k,.int s))->eMeth CK "sent_from_start" (fun _=>QQ) (eVar 0) (aCons (eVar 1) aNil) ς=.ok (dl ((List.range m).map (sf t s))):=fun ς h0 h1=>by
  rw[QgP (c:=c) (t:=t) (m:=m) hc (xs:=[.int s]) (by unfold eVar;rw[h0]) (by simp only[aCons,aNil,eVar,h1,Out.bind_ok]) (dk) (dk)]
  exact f2'
 have hcomp:=QxN (js:=[none,none]) (its:=itZ (eVar 3) (eVar 4)) (e:=Qqw)
  (ς:=[some (.k,ck c t m),some (.k,.int s),some (.k,.int x),some (.k,dl ((List.range m).map (sf t (s+x)))),some (.k,dl ((List.range m).map (sf t s)))]) (a:=(List.range m).map (sf t (s+x))) (b:=(List.range m).map (sf t s)) (· - ·) rfl (fun _ _ _ _=>rfl) (by simp;have:=h.m6;omega)
 rw[List.zipWith_map,List.zipWith_self]at hcomp
 rw[QF9]
 unfold QiS
 simp only[sSeq,sSet,g1 [some (.k,ck c t m),some (.k,.int s),some (.k,.int x),none,none] rfl rfl rfl,Out.bind_ok,thenF,List.set_cons_succ,List.set_cons_zero,g2 [some (.k,ck c t m),some (.k,.int s),some (.k,.int x),some (.k,dl ((List.range m).map (sf t (s+x)))),none] rfl rfl,sRetF,hcomp]
 rfl
theorem cs_le{t:List (List Int)}{m:Nat}(h:Tb t m)(k j:Nat):0<=cs t k j/\cs t k j<=9 * (t.length:Int):=by
 have key:∀ l:List (List Int),(∀ r∈l,r∈t)->0<=(l.map fun r=>r.getD j 0).sum/\(l.map fun r=>r.getD j 0).sum<=9 * (l.length:Int):=by
  intro l
  induction l with
  | nil=>intro _;simp
  | cons r l ih=>
   intro hr
   have i1:=ih fun x hx=>hr x (List.mem_cons_of_mem _ hx)
   have h0:0<=r.getD j 0/\r.getD j 0<=9:=by
    rw[List.getD_eq_getElem?_getD]
    cases hx:r[j]? with
    | none=>decide
    | some x=>exact h.ent r (hr r (List.mem_cons_self ..)) x (List.mem_of_getElem? hx)
   rw[List.map_cons,List.sum_cons,List.length_cons]
   omega
 have:=key (t.take k) fun r hr=>List.mem_of_mem_take hr
 unfold cs
 have hl:(t.take k).length<=t.length:=by rw[List.length_take];omega
 omega
theorem QPJ{t:List (List Int)}{m:Nat}(h:Tb t m)(k j:Nat):(cs t k j).natAbs<2 ^ 100:=by
 have:=cs_le h k j
 have:=h.n2
 omega
theorem QPz(i:Int):QbT [.int i]=.ok (.bl true):=by
 rw[QNe];simp[QiN,bodyF,retF,sSeq,thenF,sSet,sRet,sIf,sNil,eVar,eC,e1,e2,eA,f1,aNil,aCons,tVal,tAnd',tOr',tNot',eAnd,eOr,eNot,eIf,eTup,eLst,eIsa,isaT,QaU,oNo,oSome,sPar,sUnp,Q6,gN,gT,fLen,QaE,Out.bind_ok,Out.bind_exc,Out.bind_stuck,Out.pure_eq,D.scal,QbA,Qco,QbX,QbB,QaR,Qb0,Qc7,Qcs,QC,Qbo,List.length_cons,List.length_nil,List.map_cons,List.map_nil,List.cons_append,List.nil_append,List.append_nil,List.getElem?_cons_zero,List.getElem?_cons_succ,List.set_cons_zero,List.set_cons_succ,List.replicate,Nat.reduceAdd,Nat.reduceSub,Nat.reduceLeDiff,Nat.zero_add,Nat.add_zero,reduceIte,Bool.not_true,Bool.not_false,Bool.true_and,Bool.and_true,Bool.false_and,Bool.and_false,Bool.or_true,Bool.true_or,Bool.or_false,Bool.false_or,Bool.false_eq_true,decide_true,decide_false,decide_eq_true_eq,Bool.not_eq_true',decide_eq_false_iff_not,Int.reduceEq,Int.reduceLT,Int.reduceLE,Int.reduceNeg,Nat.reduceEqDiff, ↓reduceIte,not_true_eq_false,not_false_eq_true]
theorem QoX{i a b:Int}(h1:a<=i)(h2:i<=b):QaZ [.int i,.int a,.int b]=.ok (.bl true):=by
 have hw:=QPz i
 have e1':decide (a<=i)=true:=decide_eq_true h1
 have e2':decide (i<=b)=true:=decide_eq_true h2
 rw[QJ4]
 simp[Qkn,bodyF,retF,sSeq,thenF,sSet,sRet,sIf,sNil,eVar,eC,e1,e2,eA,f1,aNil,aCons,tVal,tAnd',tOr',tNot',eAnd,eOr,eNot,eIf,eTup,eLst,eIsa,isaT,QaU,oNo,oSome,sPar,sUnp,Q6,gN,gT,fLen,QaE,Out.bind_ok,Out.bind_exc,Out.bind_stuck,Out.pure_eq,D.scal,QbA,Qco,QbX,QbB,QaR,Qb0,Qc7,Qcs,QC,Qbo,List.length_cons,List.length_nil,List.map_cons,List.map_nil,List.cons_append,List.nil_append,List.append_nil,List.getElem?_cons_zero,List.getElem?_cons_succ,List.set_cons_zero,List.set_cons_succ,List.replicate,Nat.reduceAdd,Nat.reduceSub,Nat.reduceLeDiff,Nat.zero_add,Nat.add_zero,reduceIte,Bool.not_true,Bool.not_false,Bool.true_and,Bool.and_true,Bool.false_and,Bool.and_false,Bool.or_true,Bool.true_or,Bool.or_false,Bool.false_or,Bool.false_eq_true,decide_true,decide_false,decide_eq_true_eq,Bool.not_eq_true',decide_eq_false_iff_not,Int.reduceEq,Int.reduceLT,Int.reduceLE,Int.reduceNeg,Nat.reduceEqDiff, ↓reduceIte,not_true_eq_false,not_false_eq_true,hw,Qgl,h1,h2]
theorem QGC{r:List Int}(hl:r.length<=6)(h:∀ x∈r,0<=x/\x<=9):Qfy [dl r]=.ok (.bl true):=by
 have hlen:fLen [dl r]=.ok (.int (r.length:Int)):=by simp[fLen,dl]
 have hc:eComp [none] (itL (eVar 0)) (gN 0) cTrue Qsw [some (.k,dl r)]=.ok (.lst (r.map fun _=>D.bl true)):=by
  refine Qau D.int (fun _=>.bl true) rfl (fun x hx=>?_) (by omega)
  have hw:=QoX (h x hx).1 (h x hx).2
  refine Qax (by walk_at "cap") (by walk_at "s") ?_
  unfold Qsw
  (repeat walk_at "e")
 have ha:fAll (.lst (r.map fun _=>D.bl true))=.ok (.bl true):=by rw[QxX (fun _=>true)];simp
 have hf:f1 fAll [.lst (r.map fun _=>D.bl true)]=.ok (.bl true):=ha
 have hi:isaT "list" (dl r)=.ok true:=by simp[isaT,dl,QaU]
 have hg:decide ((6:Int)<(r.length:Int))=false:=decide_eq_false (by omega)
 rw[QQM]
 unfold QsG
 (repeat walk_at "e")
theorem QLE{t:List (List Int)}{m:Nat}(h:Tb t m):Qfr [tbD t]=.ok (.bl true):=by
 obtain⟨n1,n2,m6,row,ent'⟩:=h
 have hlen:fLen [tbD t]=.ok (.int (t.length:Int)):=by simp[fLen,tbD]
 have hc:eComp [none] (itL (eVar 0)) (gN 0) cTrue Qm2 [some (.k,tbD t)]=.ok (.lst (t.map fun _=>D.bl true)):=by
  refine Qau dl (fun _=>.bl true) rfl (fun x hx=>?_) (by omega)
  have hw:=QGC (r:=x) (by rw[row x hx];exact m6) (ent' x hx)
  refine Qax (by walk_at "cap") (by walk_at "s") ?_
  unfold Qm2
  (repeat walk_at "e")
 have r0:t[0]?=some t[0]:=by simp
 have hr0:(t[0]).length=m:=row _ (List.getElem_mem _)
 have hix0:dIx (tbD t) (.int 0)=.ok (dl t[0]):=ixL 0 (by rw[List.getElem?_map,r0];rfl)
 have hl0:fLen [dl t[0]]=.ok (.int (m:Int)):=by simp[fLen,dl,hr0]
 have hc2:eComp [none,some 0] (itL (eVar 0)) (gN 0) cTrue QnB [some (.k,tbD t)]=.ok (.lst (t.map fun _=>D.bl true)):=by
  refine Qau dl (fun _=>.bl true) rfl (fun x hx=>?_) (by omega)
  have hlx:fLen [dl x]=.ok (.int (m:Int)):=by simp[fLen,dl,row x hx]
  have he:dEq (.int (m:Int)) (.int (m:Int))=.ok (.bl true):=by rw[QC];simp
  refine Qax (by walk_at "cap") (by walk_at "s") ?_
  unfold QnB
  (repeat walk_at "e")
 have ha:fAll (.lst (t.map fun _=>D.bl true))=.ok (.bl true):=by rw[QxX (fun _=>true)];simp
 have hf:f1 fAll [.lst (t.map fun _=>D.bl true)]=.ok (.bl true):=ha
 have hi:isaT "list" (tbD t)=.ok true:=by simp[isaT,tbD,QaU]
 have hg:decide ((1:Int)<=(t.length:Int))=true:=decide_eq_true (by omega)
 have hg2:decide ((t.length:Int)<=12)=true:=decide_eq_true (by omega)
 rw[QMm]
 unfold QmQ
 (repeat walk_at "e")
theorem QOS{c:Str}(hc:CK.contains c=true){t:List (List Int)}{m:Nat}(h:Tb t m):Qeb c [] [tbD t]=.ok (ckF t m):=by
 have h1:=QLE h
 have h2:=QvK hc h
 rw[QIl]
 unfold Qkx
 (repeat walk_at "e")
theorem QOy{c:Str}(hc:CK.contains c=true){r:List Int}{m:Nat}(h:Tb [r] m):Qec c [] [dl r]=.ok (ckF [r] m):=by
 have h1:=QGC (r:=r) (by rw[h.row r (by simp)];exact h.m6) (h.ent r (by simp))
 have h2:QP c [] [.lst [dl r]]=.ok (ckF [r] m):=QvK hc h
 rw[QJC]
 unfold Qku
 (repeat walk_at "e")
def one(n s:Nat):List Int:=(List.range n).map fun k=>if k=s then 1 else 0
def dealT(n:Nat):List (List Int):=(List.range n).map (one n)
def bunT(n:Nat):List (List Int):=(List.range n).map fun s=>[if s+1=n then 1 else 0]
theorem QNV{n s:Nat}(h:n<=100):QdB [.int n,.int s]=.ok (dl (one n s)):=by
 have hc:eComp [none,some 1] (itR1 (eVar 0)) (gN 0) cTrue Qj6 [some (.k,.int n),some (.k,.int s)]=.ok (.lst ((List.range n).map fun k=>D.int (if k=s then 1 else 0))):=by
  refine QjM (fun k=>D.int (if k=s then 1 else 0)) (QcV n rfl (by omega)) (fun k hk=>?_) (by omega)
  refine Qax (by walk_at "cap") (by walk_at "s") ?_
  unfold Qj6
  by_cases e:k=s
  ·have e':decide ((k:Int)=(s:Int))=true:=decide_eq_true (by omega)
   rw[if_pos e]
   (repeat walk_at "e")
  ·have e':decide ((k:Int)=(s:Int))=false:=decide_eq_false (by omega)
   rw[if_neg e]
   (repeat walk_at "e")
 have he:dl (one n s)=.lst ((List.range n).map fun k=>D.int (if k=s then 1 else 0)):=by unfold dl one;rw[List.map_map];rfl
 rw[he,QGV]
 unfold Qjm
 (repeat walk_at "e")
theorem QLr{n:Nat}(h1:1<=n)(h6:n<=6):Tb (dealT n) n:=by
 refine⟨by simp[dealT];omega,by simp[dealT];omega,h6,fun r hr=>?_,fun r hr x hx=>?_⟩<;>obtain⟨s,_,rfl⟩:=List.mem_map.mp hr
 ·simp[one]
 ·obtain⟨k,_,rfl⟩:=List.mem_map.mp hx
  split<;>decide
theorem QOu{n:Nat}(h1:1<=n)(h6:n<=12):Tb (bunT n) 1:=by
 refine⟨by simp[bunT];omega,by simp[bunT];omega,by decide,fun r hr=>?_,fun r hr x hx=>?_⟩<;>obtain⟨s,_,rfl⟩:=List.mem_map.mp hr
 ·simp
 ·rw[List.mem_singleton.mp hx]
  split<;>decide
theorem QNU{c:Str}(hc:CK.contains c=true){n:Nat}(n1:1<=n)(n6:n<=6):Qed c [] [.int n]=.ok (ckF (dealT n) n):=by
 have h1:=QoX (i:=n) (a:=1) (b:=6) (by omega) (by omega)
 have h2:=QvK hc (QLr n1 n6)
 have hc':eComp [none,some 1] (itR1 (eVar 1)) (gN 0) cTrue Qlh [some (.s,.ins c []),some (.k,.int n)]=.ok (tbD (dealT n)):=by
  have he:tbD (dealT n)=.lst ((List.range n).map fun s=>dl (one n s)):=by unfold tbD dealT;rw[List.map_map];rfl
  rw[he]
  refine QjM (fun s=>dl (one n s)) (QcV n rfl (by omega)) (fun k hk=>?_) (by omega)
  have hs:=QNV (n:=n) (s:=k) (by omega)
  refine Qax (by walk_at "cap") (by walk_at "s") ?_
  unfold Qlh
  (repeat walk_at "e")
 rw[QJI]
 unfold Qkt
 (repeat walk_at "e")
theorem QQS{c:Str}(hc:CK.contains c=true){n:Nat}(n1:1<=n)(n6:n<=12):Qde c [] [.int n]=.ok (ckF (bunT n) 1):=by
 have h1:=QoX (i:=n) (a:=1) (b:=12) (by omega) (by omega)
 have h2:=QvK hc (QOu n1 n6)
 have hc':eComp [none,some 1] (itR1 (eVar 1)) (gN 0) cTrue QiV [some (.s,.ins c []),some (.k,.int n)]=.ok (tbD (bunT n)):=by
  have he:tbD (bunT n)=.lst ((List.range n).map fun s=>D.lst [.int (if s+1=n then 1 else 0)]):=by unfold tbD bunT;rw[List.map_map];rfl
  rw[he]
  refine QjM (fun s=>D.lst [.int (if s+1=n then 1 else 0)]) (QcV n rfl (by omega)) (fun k hk=>?_) (by omega)
  refine Qax (by walk_at "cap") (by walk_at "s") ?_
  unfold QiV
  by_cases e:k+1=n
  ·have e':decide ((k:Int)=(n:Int) - 1)=true:=decide_eq_true (by omega)
   rw[if_pos e]
   (repeat walk_at "e")
  ·have e':decide ((k:Int)=(n:Int) - 1)=false:=decide_eq_false (by omega)
   rw[if_neg e]
   (repeat walk_at "e")
 rw[QED]
 unfold QhR
 (repeat walk_at "e")
abbrev rl(n:Nat)(f:Nat->D):D:=.lst ((List.range n).map f)
theorem atR{n i:Nat}{f:Nat->D}(h:i<n):((List.range n).map f)[i]?=some (f i):=by
 rw[List.getElem?_map,List.getElem?_range h];rfl
theorem ixR{n i:Nat}{f:Nat->D}(h:i<n):dIx (rl n f) (.int (i:Int))=.ok (f i):=ixL i (atR h)
theorem lenR(n:Nat)(f:Nat->D):fLen [rl n f]=.ok (.int (n:Int)):=by simp[fLen]
theorem QrL{n:Nat}{f g:Nat->D}(h:∀ i,i<n->f i=g i):rl n f=rl n g:=by
 show D.lst _=D.lst _
 rw[List.map_congr_left fun i hi=>h i (List.mem_range.mp hi)]
theorem Qnu{body:D->SD->Out Fl}{P:Nat->SD->Prop}{f:Nat->D}{n:Nat}(h:∀ k:Nat,k<n->∀ ς,P k ς->∃ ς',body (f k) ς=.ok (.nx ς')/\P (k+1) ς')(ς:SD)(p0:P 0 ς):∃ ς',loopD body ((List.range n).map f) ς=.ok (.nx ς')/\P n ς':=by
 have go:∀ m k:Nat,k+m=n->∀ ς,P k ς->∃ ς',loopD body ((List.range' k m).map f) ς=.ok (.nx ς')/\P n ς':=by
  intro m
  induction m with
  | zero=>intro k hk ς p;exact⟨ς,rfl,by rw[← hk];exact p⟩
  | succ m ih=>
   intro k hk ς p
   obtain⟨ς1,e1',p1⟩:=h k (by omega) ς p
   obtain⟨ς2,e2',p2⟩:=ih (k+1) (by omega) ς1 p1
   refine⟨ς2,?_,p2⟩
   rw[List.range'_succ,List.map_cons,loopD,e1']
   exact e2'
 rw[List.range_eq_range']
 exact go n 0 (by omega) ς p0
def fr(x:Int×Int):D:=.tup [.int x.1,.int x.2]
theorem fr0(x:Int×Int):dIx (fr x) (.int 0)=.ok (.int x.1):=QSh _ _
theorem fr1(x:Int×Int):dIx (fr x) (.int 1)=.ok (.int x.2):=QR9 _ _ _
theorem ixNR{n k:Nat}(hk:k<n)(f:Nat->D):ixN ((List.range n).map f).length (k:Int)=some k:=by
 rw[List.length_map,List.length_range]
 unfold ixN
 rw[if_pos (by omega),if_pos (by omega)];simp
theorem allR{n:Nat}{f:Nat->D}(h:∀ i,i<n->(f i).scal=true):((List.range n).map f).all D.scal=true:=List.all_eq_true.mpr fun d hd=>by
 obtain⟨i,hi,rfl⟩:=List.mem_map.mp hd
 exact h i (List.mem_range.mp hi)
theorem QGo:∀ xs:List Str,strsD (xs.map D.str)=some xs
 | []=>rfl
 | x::xs=>by show(strsD (xs.map D.str)).map (x :: ·)=_;rw[QGo xs];rfl
def Inj(xs:List Str):Prop:=∀ i j,i<xs.length->xs[i]?=xs[j]?->i=j
theorem QFS{xs:List Str}(h:Inj xs):∀ i,i<=xs.length->LS.met (fun i=>xs.getD i "") i=xs.take i
 | 0,_=>rfl
 | i+1,hi=>by
  have ih:=QFS h i (by omega)
  have hl:i<xs.length:=by omega
  have e:xs.getD i ""=xs[i]:=by rw[List.getD_eq_getElem?_getD,List.getElem?_eq_getElem hl];rfl
  have ni:¬ xs[i]∈xs.take i:=fun z=>by
   obtain⟨j,hj,ej⟩:=List.getElem_of_mem z
   rw[List.getElem_take]at ej
   rw[List.length_take]at hj
   have:=h i j (by omega) (by rw[List.getElem?_eq_getElem hl,List.getElem?_eq_getElem (show j<xs.length by omega),ej])
   omega
  show(if xs.getD i ""∈LS.met (fun i=>xs.getD i "") i then LS.met (fun i=>xs.getD i "") i else LS.met (fun i=>xs.getD i "") i++[xs.getD i ""])=_
  rw[ih,e,if_neg ni,List.take_add_one,List.getElem?_eq_getElem hl];rfl
theorem Qut{xs:List Str}(h:Inj xs)(hl:xs.length<=1000):Qao [.lst (xs.map .str)]=.ok (.bl true):=by
 have hu:QBV (.lst (xs.map .str))=.ok (.int (xs.length:Int)):=by
  show(match strsD (xs.map .str) with | some xs=>if decide (xs.length<4000)=true then Out.ok (D.int (QfJ xs)) else .stuck | none=>.stuck)=_
  rw[QGo]
  show(if decide (xs.length<4000)=true then Out.ok (D.int (QfJ xs)) else .stuck)=_
  rw[if_pos (decide_eq_true (by omega))]
  unfold QfJ
  rw[QFS h _ (Nat.le_refl _),List.take_length]
 have hlen:fLen [.lst (xs.map D.str)]=.ok (.int (xs.length:Int)):=by simp[fLen]
 have he:dEq (.int (xs.length:Int)) (.int (xs.length:Int))=.ok (.bl true):=by rw[QC];simp
 rw[QHq]
 unfold Qi6
 (repeat walk_at "e")
theorem QrN{n:Nat}{f:Nat->D}{M:Int}(h1:1<=n)(h2:(n:Int)<=M):Qct [rl n f,.int M]=.ok (.bl true):=by
 have hlen:=lenR n f
 have hi:isaT "list" (rl n f)=.ok true:=by simp[isaT,QaU]
 have g1:decide ((1:Int)<=(n:Int))=true:=decide_eq_true (by omega)
 have g2:decide ((n:Int)<=M)=true:=decide_eq_true h2
 have g3:dLe (.int (n:Int)) (.int M)=.ok (.bl true):=by rw[Qb0,g2]
 rw[QOH]
 unfold QoS
 (repeat walk_at "e")
theorem QsJ(n:Nat):f1 fAll [rl n (fun _=>.bl true)]=.ok (.bl true):=by
 show fAll (.lst ((List.range n).map fun _=>D.bl true))=_
 rw[QxX (fun _=>true)];simp
theorem QuL(n:Nat)(f:Nat->Str):(List.range n).map (fun i=>D.str (f i))=((List.range n).map f).map D.str:=by rw[List.map_map];rfl
theorem QRL{n:Nat}{f:Nat->Str}(h:∀ i j,i<n->j<n->f i=f j->i=j):Inj ((List.range n).map f):=by
 intro i j hi z
 rw[List.length_map,List.length_range]at hi
 rw[List.getElem?_map,List.getElem?_map,List.getElem?_range hi]at z
 by_cases hj:j<n
 ·rw[List.getElem?_range hj]at z
  exact h i j hi hj (Option.some.inj z)
 ·have h1:(List.range n)[j]?=none:=by simp;omega
  rw[h1]at z;cases z
structure Seats(n nd:Nat)(nm dn c:Nat->Str)(t:Nat->List (List Int))(m:Nat->Nat)(ld:Nat->Nat->Int)(st:Nat->Int):Prop where
 n1:1<=n
 n2:n<=60
 d1:1<=nd
 d2:nd<=6
 ck:∀ k,k<n->CK.contains (c k)=true
 tb:∀ k,k<n->Tb (t k) (m k)
 ldr:∀ k j,k<n->j<m k -> -(nd:Int)<=ld k j/\ld k j<(n:Int)
 str:∀ k,k<n->0<=st k/\st k<((t k).length:Int)
 isn:∀ k,k<n->Qba [.str (nm k)]=.ok (.bl true)
 isd:∀ d,d<nd->Qba [.str (dn d)]=.ok (.bl true)
 inj:∀ i j,i<n->j<n->nm i=nm j->i=j
 injd:∀ i j,i<nd->j<nd->dn i=dn j->i=j
 sep:∀ i d,i<n->d<nd->nm i≠dn d
def nml(nm dn:Nat->Str)(l:Int):Str:=if l<0 then dn (-1 - l).toNat else nm l.toNat
def seatD(nm dn c:Nat->Str)(t:Nat->List (List Int))(m:Nat->Nat)(ld:Nat->Nat->Int)(st:Nat->Int)(k:Nat):D:=
 .tup [.str (nm k),ck (c k) (t k) (m k),rl (m k) (fun j=>.str (nml nm dn (ld k j))),.int (st k)]
theorem ix_t{xs:List D}{d:D}(i:Nat)(h:xs[i]?=some d):dIx (.tup xs) (.int (i:Int))=.ok d:=by
 show optO (atI xs (i:Int))=_
 have hi:i<xs.length:=(List.getElem?_eq_some_iff.mp h).1
 have:atI xs (i:Int)=some d:=by
  unfold atI ixN
  rw[if_pos (by omega),if_pos (by omega)]
  simpa using h
 rw[this];rfl
theorem QQr{c:Str}(hc:CK.contains c=true)(t:List (List Int))(m:Nat):Qff [ck c t m]=.ok (.bl true):=by
 have hm:c∈Qd:=by simpa using hc
 simp only[Qd,List.mem_cons,List.not_mem_nil,or_false]at hm
 have key:∀ c:Str,(c="Deal"∨c="Bundle"∨c="Copy"∨c="Rows")->anyT [[("Deal",true),("Bundle",false),("Copy",false),("Rows",false),("Office",false)],[("Deal",false),("Bundle",true),("Copy",false),("Rows",false),("Office",false)],[("Deal",false),("Bundle",false),("Copy",true),("Rows",false),("Office",false)],[("Deal",false),("Bundle",false),("Copy",false),("Rows",true),("Office",false)]] c=some true:=by
  rintro c (rfl | rfl | rfl | rfl)<;>decide +kernel
 have k:=key c hm
 rw[QLz]
 unfold QmC
 show(sRet (eIsa (isaTs _) (eVar 0)) [some (.k,.ins c (ckF t m))]>>=retF false)=_
 have hi:isaTs [[("Deal",true),("Bundle",false),("Copy",false),("Rows",false),("Office",false)],[("Deal",false),("Bundle",true),("Copy",false),("Rows",false),("Office",false)],[("Deal",false),("Bundle",false),("Copy",true),("Rows",false),("Office",false)],[("Deal",false),("Bundle",false),("Copy",false),("Rows",true),("Office",false)]] (.ins c (ckF t m))=.ok true:=by
  show(match anyT _ c with | some b=>Out.ok b | none=>Out.stuck)=_
  rw[k]
 (repeat walk_at "e")
theorem QRO{c:Str}(hc:CK.contains c=true){t:List (List Int)}{m:Nat}(h:Tb t m):QcS [ck c t m]=.ok (.int (m:Int)):=by
 have n1:=h.n1
 have r0:t[0]?=some t[0]:=by simp
 have hix:dIx (tbD t) (.int 0)=.ok (dl t[0]):=ixL 0 (by rw[List.getElem?_map,r0];rfl)
 have hl0:fLen [dl t[0]]=.ok (.int (m:Int)):=by simp[fLen,dl,h.row _ (List.getElem_mem _)]
 have hf:=fld_t hc t m
 rw[QHS]
 unfold QiP
 (repeat walk_at "e")
theorem QP2{n:Nat}(hn:n<=100)(f:Nat->Str):Qee [rl n (fun j=>.str (f j)),.int (n:Int)]=.ok (.bl true):=by
 have hlen:=lenR n (fun j=>D.str (f j))
 have hi:isaT "list" (rl n (fun j=>D.str (f j)))=.ok true:=by simp[isaT,QaU]
 have hc:eComp [none] (itL (eVar 0)) (gN 0) cTrue Qlj [some (.k,rl n (fun j=>.str (f j))),some (.k,.int (n:Int))]=.ok (rl n (fun _=>.bl true)):=by
  refine Qau (fun j=>D.str (f j)) (fun _=>.bl true) rfl (fun j _=>?_) (by rw[List.length_range];omega)
  have hs:isaT "str" (D.str (f j))=.ok true:=by simp[isaT,QaU]
  refine Qax (by walk_at "cap") (by walk_at "s") ?_
  unfold Qlj
  (repeat walk_at "e")
 have he:dEq (.int (n:Int)) (.int (n:Int))=.ok (.bl true):=by rw[QC];simp
 have ha:=QsJ n
 rw[QIU]
 unfold Qkj
 (repeat walk_at "e")
theorem QRZ:Qba [.str "in"]=.ok (.bl true):=by with_unfolding_all rfl
section
variable{n nd:Nat}{nm dn c:Nat->Str}{t:Nat->List (List Int)}{m:Nat->Nat}{ld:Nat->Nat->Int}{st:Nat->Int}(hs:Seats n nd nm dn c t m ld st)
include hs
theorem QP8:Qep [rl nd (fun d=>.str (dn d)),.int 6]=.ok (.bl true):=by
 have d2:=hs.d2
 have h1:=QrN (n:=nd) (f:=fun d=>.str (dn d)) (M:=6) hs.d1 (by omega)
 have hc:eComp [none] (itL (eVar 0)) (gN 0) cTrue Qls [some (.k,rl nd (fun d=>.str (dn d))),some (.k,.int 6)]=.ok (rl nd (fun _=>.bl true)):=by
  refine Qau (fun d=>D.str (dn d)) (fun _=>.bl true) rfl (fun d hd=>?_) (by rw[List.length_range];omega)
  have h:=hs.isd d (List.mem_range.mp hd)
  refine Qax (by walk_at "cap") (by walk_at "s") ?_
  unfold Qls
  (repeat walk_at "e")
 have ha:=QsJ nd
 have hu:Qao [rl nd (fun d=>.str (dn d))]=.ok (.bl true):=by
  show Qao [.lst _]=_
  rw[QuL]
  exact Qut (QRL hs.injd) (by simp;omega)
 rw[QIw]
 unfold QkC
 (repeat walk_at "e")
theorem QRf{k:Nat}(hk:k<n):Qgj [seatD nm dn c t m ld st k]=.ok (.bl true):=by
 have tb:=hs.tb k hk
 have hc:=hs.ck k hk
 have m6:=tb.m6
 obtain⟨s0,s1⟩:=hs.str k hk
 have hi:isaT "tuple" (seatD nm dn c t m ld st k)=.ok true:=by simp[isaT,QaU,seatD]
 have hl:fLen [seatD nm dn c t m ld st k]=.ok (.int 4):=by simp[fLen,seatD]
 have x0:dIx (seatD nm dn c t m ld st k) (.int 0)=.ok (.str (nm k)):=ix_t 0 rfl
 have x1:dIx (seatD nm dn c t m ld st k) (.int 1)=.ok (ck (c k) (t k) (m k)):=ix_t 1 rfl
 have x2:dIx (seatD nm dn c t m ld st k) (.int 2)=.ok (rl (m k) (fun j=>.str (nml nm dn (ld k j)))):=ix_t 2 rfl
 have x3:dIx (seatD nm dn c t m ld st k) (.int 3)=.ok (.int (st k)):=ix_t 3 rfl
 have h0:=hs.isn k hk
 have h1:=QQr hc (t k) (m k)
 have h2:=QP2 (n:=m k) (by omega) (fun j=>nml nm dn (ld k j))
 have h3:=QoX (i:=st k) (a:=0) (b:=((t k).length:Int) - 1) s0 (by omega)
 have mo:eMeth Qd "outs" (fun _=>QcS) (e2 dIx (eVar 0) (eC (.int 1))) aNil [some (.k,seatD nm dn c t m ld st k)]=.ok (.int (m k:Int)):=by
  rw[QgP (c:=c k) (t:=t k) (m:=m k) hc (xs:=[]) (by (repeat walk_at "e")) rfl (dk) (dk)]
  exact QRO hc tb
 have mp:eMeth Qd "period" (fun _=>QR) (e2 dIx (eVar 0) (eC (.int 1))) aNil [some (.k,seatD nm dn c t m ld st k)]=.ok (.int ((t k).length:Int)):=by
  rw[QgP (c:=c k) (t:=t k) (m:=m k) hc (xs:=[]) (by (repeat walk_at "e")) rfl (dk) (dk)]
  exact Qt4 hc _ _
 have hne:dNe (.int 4) (.int 4)=.ok (.bl false):=by rw[Qbo];rfl
 rw[QOm]
 unfold Qo1
 (repeat walk_at "e")
theorem QQs:Qei [rl n (seatD nm dn c t m ld st),rl nd (fun d=>.str (dn d))]=.ok (.bl true):=by
 have n2:=hs.n2
 have d2:=hs.d2
 have h1:=QrN (n:=n) (f:=seatD nm dn c t m ld st) (M:=60) hs.n1 (by omega)
 have hc:eComp [none] (itL (eVar 0)) (gN 0) cTrue Qli [some (.k,rl n (seatD nm dn c t m ld st)),some (.k,rl nd (fun d=>.str (dn d)))]=.ok (rl n (fun _=>.bl true)):=by
  refine Qau (seatD nm dn c t m ld st) (fun _=>.bl true) rfl (fun k hk=>?_) (by rw[List.length_range];omega)
  have h:=QRf hs (List.mem_range.mp hk)
  refine Qax (by walk_at "cap") (by walk_at "s") ?_
  unfold Qli
  (repeat walk_at "e")
 have ha:=QsJ n
 have hn:eComp [none] (itL (eVar 0)) (gN 0) cTrue Qlr [some (.k,rl n (seatD nm dn c t m ld st)),some (.k,rl nd (fun d=>.str (dn d)))]=.ok (rl n (fun k=>.str (nm k))):=by
  refine Qau (seatD nm dn c t m ld st) (fun k=>D.str (nm k)) rfl (fun k hk=>?_) (by rw[List.length_range];omega)
  have x0:dIx (seatD nm dn c t m ld st k) (.int 0)=.ok (.str (nm k)):=ix_t 0 rfl
  refine Qax (by walk_at "cap") (by walk_at "s") ?_
  unfold Qlr
  (repeat walk_at "e")
 have hcat:dCat (rl n (fun k=>.str (nm k))) (rl nd (fun d=>.str (dn d)))=.ok (.lst ((((List.range n).map nm)++((List.range nd).map dn)).map .str)):=by
  rw[QBC (by simp;omega),List.map_append, ← QuL, ← QuL]
 have hu:Qao [.lst ((((List.range n).map nm)++((List.range nd).map dn)).map .str)]=.ok (.bl true):=by
  refine Qut ?_ (by simp;omega)
  intro i j hi z
  rw[List.length_append,List.length_map,List.length_map,List.length_range,List.length_range]at hi
  have at':∀ i,(((List.range n).map nm)++((List.range nd).map dn))[i]?=if i<n then some (nm i) else if i - n<nd then some (dn (i - n)) else none:=fun i=>by
   rw[List.getElem?_append,List.length_map,List.length_range]
   split
   ·rw[List.getElem?_map,List.getElem?_range (by assumption)];rfl
   ·split
    ·rw[List.getElem?_map,List.getElem?_range (by assumption)];rfl
    ·simp;omega
  rw[at',at']at z
  by_cases a:i<n
  ·rw[if_pos a]at z
   by_cases b:j<n
   ·rw[if_pos b]at z;exact hs.inj i j a b (Option.some.inj z)
   ·rw[if_neg b]at z
    by_cases d:j - n<nd
    ·rw[if_pos d]at z;exact absurd (Option.some.inj z) (hs.sep i _ a d)
    ·rw[if_neg d]at z;cases z
  ·rw[if_neg a,if_pos (show i - n<nd by omega)]at z
   by_cases b:j<n
   ·rw[if_pos b]at z;exact absurd (Option.some.inj z).symm (hs.sep j _ b (by omega))
   ·rw[if_neg b]at z
    by_cases d:j - n<nd
    ·rw[if_pos d]at z
     have:=hs.injd _ _ (by omega) d (Option.some.inj z)
     omega
    ·rw[if_neg d]at z;cases z
 rw[QKF]
 unfold Qkw
 (repeat walk_at "e")
theorem QQV:dInL (.str (nm 0)) (rl n (fun k=>.str (nm k)))=.ok (.bl true):=by
 have n1:=hs.n1
 show(if (_&&((List.range n).map fun k=>D.str (nm k)).all D.scal)=true then Out.ok (D.bl (inV _ _)) else _)=_
 rw[if_pos (by rw[Bool.and_eq_true];exact⟨rfl,allR fun i _=>rfl⟩)]
 have:inV (toV (.str (nm 0))) (((List.range n).map fun k=>D.str (nm k)).map toV)=true:=by
  unfold inV
  rw[List.any_eq_true]
  refine⟨V.str (nm 0),?_,by show(nm 0 == nm 0)=true;exact beq_self_eq_true _⟩
  rw[List.map_map,List.mem_map]
  exact⟨0,List.mem_range.mpr (by omega),rfl⟩
 rw[this]
theorem QME:Qdb [.lst [.tup [.str "in",.str (nm 0)]],rl n (fun k=>.str (nm k))]=.ok (.bl true):=by
 have n1:=hs.n1
 have hin:=QRZ
 have h0:=hs.isn 0 (by omega)
 have hL:=QQV hs
 have e1':QfB [.tup [.str "in",.str (nm 0)],rl n (fun k=>.str (nm k))]=.ok (.bl true):=by
  have hi:isaT "tuple" (.tup [.str "in",.str (nm 0)])=.ok true:=by simp[isaT,QaU]
  have hl:fLen [.tup [.str "in",.str (nm 0)]]=.ok (.int 2):=by simp[fLen]
  have x0:dIx (.tup [.str "in",.str (nm 0)]) (.int 0)=.ok (.str "in"):=ix_t 0 rfl
  have x1:dIx (.tup [.str "in",.str (nm 0)]) (.int 1)=.ok (.str (nm 0)):=ix_t 1 rfl
  have hne:dNe (.int 2) (.int 2)=.ok (.bl false):=by rw[Qbo];rfl
  rw[QNn]
  unfold QmE
  (repeat walk_at "e")
 have h1:Qct [.lst [.tup [.str "in",.str (nm 0)]],.int 6]=.ok (.bl true):=QrN (n:=1) (f:=fun _=>.tup [.str "in",.str (nm 0)]) (M:=6) (by decide) (by decide)
 have hc:eComp [none,some 1] (itL (eVar 0)) (gN 0) cTrue Qir [some (.k,.lst [.tup [.str "in",.str (nm 0)]]),some (.k,rl n (fun k=>.str (nm k)))]=.ok (rl 1 (fun _=>.bl true)):=by
  refine Qau (l:=List.range 1) (fun _=>.tup [.str "in",.str (nm 0)]) (fun _=>.bl true) rfl (fun k hk=>?_) (by simp)
  refine Qax (by walk_at "cap") (by walk_at "s") ?_
  unfold Qir
  (repeat walk_at "e")
 have ha:=QsJ 1
 have hn:eComp [none] (itL (eVar 0)) (gN 0) cTrue QiT [some (.k,.lst [.tup [.str "in",.str (nm 0)]]),some (.k,rl n (fun k=>.str (nm k)))]=.ok (.lst ([("in":Str)].map .str)):=by
  refine Qau (l:=List.range 1) (fun _=>.tup [.str "in",.str (nm 0)]) (fun _=>.str "in") rfl (fun k hk=>?_) (by simp)
  have x0:dIx (.tup [.str "in",.str (nm 0)]) (.int 0)=.ok (.str "in"):=ix_t 0 rfl
  refine Qax (by walk_at "cap") (by walk_at "s") ?_
  unfold QiT
  (repeat walk_at "e")
 have hu:Qao [.lst ([("in":Str)].map .str)]=.ok (.bl true):=Qut (by
  intro i j hi z
  have hi:i<1:=hi
  have:i=0:=by omega
  subst this
  cases j with
  | zero=>rfl
  | succ j=>simp at z) (by simp)
 rw[QD7]
 unfold QhL
 (repeat walk_at "e")
end
theorem QN9{i:Nat}{I E:SD->Out D}{ς ς':SD}{kds:List (Key×D)}{d y:D}{k:Key}(a:E ς=.ok d)(e:ς[i]?=some (some (.o,.dic kds)))(a':I ς=.ok y)(hk:dkey y=some k)(hl:kds.length<=1000)
 (l:ς.set i (some (.o,.dic (putKD kds k d)))=ς'):sPutD i I E ς=.ok (.nx ς'):=by
 unfold sPutD
 rw[a,Out.bind_ok,e]
 show(I ς>>=_)=_
 rw[a',Out.bind_ok,hk]
 show(if _ then _ else _)=_
 rw[if_pos (QLi hl),l]
theorem QS9{A B:SD->Out D}{ς:SD}{kds:List (Key×D)}{y:D}{k:Key}(a:A ς=.ok (.dic kds))(a':B ς=.ok y)(hk:dkey y=some k):eDget A B ς=.ok ((valD kds k).getD .non):=by
 unfold eDget
 rw[a,Out.bind_ok]
 show(B ς>>=_)=_
 rw[a',Out.bind_ok,hk]
theorem r_dix{A B:SD->Out D}{ς:SD}{kds:List (Key×D)}{y d:D}{k:Key}(a:A ς=.ok (.dic kds))(a':B ς=.ok y)(hk:dkey y=some k)(hv:valD kds k=some d):eDix A B ς=.ok d:=by
 unfold eDix
 rw[a,Out.bind_ok]
 show(B ς>>=_)=_
 rw[a',Out.bind_ok,hk]
 show optO (valD kds k)=_
 rw[hv];rfl
theorem QLk{kds:List (Key×D)}{k:Key}{d:D}(h:∀ kv∈kds,kv.1≠k):putKD kds k d=kds++[(k,d)]:=by
 unfold putKD
 rw[if_neg]
 intro z
 obtain⟨kv,hk,e⟩:=List.any_eq_true.mp z
 exact h kv hk (of_decide_eq_true e)
theorem QBB{k:Key}{d:D}:∀{kds:List (Key×D)}(i:Nat),kds[i]?=some (k,d)->(∀ j kv,j<i->kds[j]?=some kv->kv.1≠k)->valD kds k=some d
 | [],i,h,_=>by simp at h
 | kv::kds,0,h,_=>by
  simp at h
  subst h
  simp[valD]
 | kv::kds,i+1,h,hn=>by
  have h0:=hn 0 kv (by omega) rfl
  have:valD (kv::kds) k=valD kds k:=by simp[valD,List.find?_cons,h0]
  rw[this]
  exact QBB i (by simpa using h) fun j kv' hj he=>hn (j+1) kv' (by omega) (by simpa using he)
theorem enumR(n:Nat)(f:Nat->D):enumD 0 ((List.range n).map f)=(List.range n).map fun i:Nat=>D.tup [.int (i:Int),f i]:=by
 apply List.ext_getElem?
 intro i
 rw[Qus,Nat.zero_add]
 by_cases hi:i<n
 ·have r1:((List.range n).map fun i:Nat=>D.tup [.int (i:Int),f i])[i]?=some (D.tup [.int (i:Int),f i]):=atR hi
  rw[atR hi,r1];rfl
 ·have h1:((List.range n).map f)[i]?=none:=by simp;omega
  have h2:((List.range n).map fun i:Nat=>D.tup [.int (i:Int),f i])[i]?=none:=by simp;omega
  rw[h1,h2];rfl
def plc(n nd:Nat)(nm dn:Nat->Str):List (Key×D):=((List.range n).map fun i:Nat=>((.inr (nm i):Key),D.int (i:Int)))++((List.range nd).map fun i:Nat=>((.inr (dn i):Key),D.int (-1 - (i:Int))))
theorem QyQ(n nd:Nat)(nm dn:Nat->Str)(i:Nat):(plc n nd nm dn)[i]?=if i<n then some (.inr (nm i),.int (i:Int)) else if i - n<nd then some (.inr (dn (i - n)),.int (-1 - ((i - n:Nat):Int))) else none:=by
 unfold plc
 rw[List.getElem?_append,List.length_map,List.length_range]
 split
 ·rw[List.getElem?_map,List.getElem?_range (by assumption)];rfl
 ·split
  ·rw[List.getElem?_map,List.getElem?_range (by assumption)];rfl
  ·simp;omega
section
variable{n nd:Nat}{nm dn c:Nat->Str}{t:Nat->List (List Int)}{m:Nat->Nat}{ld:Nat->Nat->Int}{st:Nat->Int}(hs:Seats n nd nm dn c t m ld st)
include hs
theorem plc_c{i:Nat}(hi:i<n):valD (plc n nd nm dn) (.inr (nm i))=some (.int (i:Int)):=by
 refine QBB i (by rw[QyQ,if_pos hi]) fun j kv hj he=>?_
 rw[QyQ,if_pos (by omega)]at he
 cases he
 intro z
 have:=hs.inj j i (by omega) hi (Sum.inr.inj z)
 omega
theorem plc_d{d:Nat}(hd:d<nd):valD (plc n nd nm dn) (.inr (dn d))=some (.int (-1 - (d:Int))):=by
 refine QBB (n+d) (by rw[QyQ,if_neg (by omega),if_pos (by omega),show n+d - n=d by omega]) fun j kv hj he=>?_
 rw[QyQ]at he
 by_cases a:j<n
 ·rw[if_pos a]at he
  cases he
  intro z
  exact hs.sep j d a hd (Sum.inr.inj z)
 ·rw[if_neg a,if_pos (by omega)]at he
  cases he
  intro z
  have:=hs.injd _ _ (by omega) hd (Sum.inr.inj z)
  omega
theorem QNX:Qd9 [rl n (fun k=>.str (nm k)),rl nd (fun d=>.str (dn d))]=.ok (.dic (plc n nd nm dn)):=by
 have n2:=hs.n2
 have d2:=hs.d2
 obtain⟨ς1,hL1,a3,a4,rfl⟩:=Qnu (body:=fun x ς=>gT [3,4] x ς>>=fun ς'=>QhV ς') (f:=fun i:Nat=>D.tup [.int (i:Int),.str (nm i)]) (n:=n)
  (P:=fun k ς=>∃(a3 a4:Option (SM×D)),ς=[some (.k,rl n (fun k=>.str (nm k))),some (.k,rl nd (fun d=>.str (dn d))),some (.o,.dic (plc k 0 nm dn)),a3,a4,none,none])
  (by
   rintro k hk ς ⟨a3,a4,rfl⟩
   refine⟨[some (.k,rl n (fun k=>.str (nm k))),some (.k,rl nd (fun d=>.str (dn d))),some (.o,.dic (plc (k+1) 0 nm dn)),some (.k,.int (k:Int)),some (.k,.str (nm k)),none,none],?_,_,_,rfl⟩
   have e:plc (k+1) 0 nm dn=putKD (plc k 0 nm dn) (.inr (nm k)) (.int (k:Int)):=by
    rw[QLk]
    ·show((List.range (k+1)).map _)++[]=((List.range k).map _++[])++[_]
     rw[List.append_nil,List.append_nil,List.range_succ,List.map_append];rfl
    ·intro kv hkv
     have hkv:kv∈((List.range k).map fun i:Nat=>((.inr (nm i):Key),D.int (i:Int)))++[]:=hkv
     rw[List.append_nil]at hkv
     obtain⟨i,hi,rfl⟩:=List.mem_map.mp hkv
     have hi:=List.mem_range.mp hi
     intro z
     have:=hs.inj i k (by omega) hk (Sum.inr.inj z)
     omega
   rw[e]
   refine r_gT (by walk_at "all") ?_
   unfold QhV
   exact QN9 (d:=.int (k:Int)) (y:=.str (nm k)) (k:=.inr (nm k)) (by (repeat walk_at "e")) rfl (by (repeat walk_at "e")) rfl (by unfold plc;simp;omega) rfl)
  [some (.k,rl n (fun k=>.str (nm k))),some (.k,rl nd (fun d=>.str (dn d))),some (.o,.dic []),none,none,none,none] ⟨_,_,rfl⟩
 obtain⟨ς2,hL2,a5,a6,rfl⟩:=Qnu (body:=fun x ς=>gT [5,6] x ς>>=fun ς'=>QhP ς') (f:=fun i:Nat=>D.tup [.int (i:Int),.str (dn i)]) (n:=nd)
  (P:=fun k ς=>∃(a5 a6:Option (SM×D)),ς=[some (.k,rl n (fun k=>.str (nm k))),some (.k,rl nd (fun d=>.str (dn d))),some (.o,.dic (plc n k nm dn)),a3,a4,a5,a6])
  (by
   rintro k hk ς ⟨a5,a6,rfl⟩
   refine⟨[some (.k,rl n (fun k=>.str (nm k))),some (.k,rl nd (fun d=>.str (dn d))),some (.o,.dic (plc n (k+1) nm dn)),a3,a4,some (.k,.int (k:Int)),some (.k,.str (dn k))],?_,_,_,rfl⟩
   have e:plc n (k+1) nm dn=putKD (plc n k nm dn) (.inr (dn k)) (.int (-1 - (k:Int))):=by
    rw[QLk]
    ·unfold plc
     rw[List.range_succ,List.map_append,List.append_assoc];rfl
    ·intro kv hkv
     rcases List.mem_append.mp hkv with w | w
     ·obtain⟨i,hi,rfl⟩:=List.mem_map.mp w
      intro z
      exact hs.sep i k (List.mem_range.mp hi) hk (Sum.inr.inj z)
     ·obtain⟨i,hi,rfl⟩:=List.mem_map.mp w
      have hi:=List.mem_range.mp hi
      intro z
      have:=hs.injd i k (by omega) hk (Sum.inr.inj z)
      omega
   rw[e]
   refine r_gT (by walk_at "all") ?_
   unfold QhP
   exact QN9 (d:=.int (-1 - (k:Int))) (y:=.str (dn k)) (k:=.inr (dn k)) (by (repeat walk_at "e")) rfl (by (repeat walk_at "e")) rfl (by unfold plc;simp;omega) rfl)
  [some (.k,rl n (fun k=>.str (nm k))),some (.k,rl nd (fun d=>.str (dn d))),some (.o,.dic (plc n 0 nm dn)),a3,a4,none,none] ⟨_,_,rfl⟩
 have hi1:itE (eVar 0) [some (.k,rl n (fun k=>.str (nm k))),some (.k,rl nd (fun d=>.str (dn d))),some (.o,.dic []),none,none,none,none]=.ok ((List.range n).map fun i:Nat=>D.tup [.int (i:Int),.str (nm i)]):=by rw[← enumR];rfl
 have hi2:itE (eVar 1) [some (.k,rl n (fun k=>.str (nm k))),some (.k,rl nd (fun d=>.str (dn d))),some (.o,.dic (plc n 0 nm dn)),a3,a4,none,none]=.ok ((List.range nd).map fun i:Nat=>D.tup [.int (i:Int),.str (dn i)]):=by rw[← enumR];rfl
 have f1':=QbH (g:=gT [3,4]) (T:=QhV) hi1 hL1
 have f2':=QbH (g:=gT [5,6]) (T:=QhP) hi2 hL2
 have s0:sSetO 2 eDic0 [some (.k,rl n (fun k=>.str (nm k))),some (.k,rl nd (fun d=>.str (dn d))),none,none,none,none,none]=.ok (.nx [some (.k,rl n (fun k=>.str (nm k))),some (.k,rl nd (fun d=>.str (dn d))),some (.o,.dic []),none,none,none,none]):=rfl
 rw[QJE]
 unfold QkB
 (repeat walk_at "e")
theorem QQn{k:Nat}(hk:k<n):Qfe [seatD nm dn c t m ld st k,.dic (plc n nd nm dn)]=.ok (rl (m k) (fun j=>.int (ld k j))):=by
 have m6:=(hs.tb k hk).m6
 have x2:dIx (seatD nm dn c t m ld st k) (.int 2)=.ok (rl (m k) (fun j=>.str (nml nm dn (ld k j)))):=ix_t 2 rfl
 have hc:eComp [none,some 1] (itL (e2 dIx (eVar 0) (eC (.int 2)))) (gN 0) cTrue Qnc [some (.k,seatD nm dn c t m ld st k),some (.k,.dic (plc n nd nm dn))]=.ok (rl (m k) (fun j=>.int (ld k j))):=by
  refine Qau (fun j=>D.str (nml nm dn (ld k j))) (fun j=>D.int (ld k j)) (by (repeat walk_at "e")) (fun j hj=>?_) (by rw[List.length_range];omega)
  obtain⟨l1,l2⟩:=hs.ldr k j hk (List.mem_range.mp hj)
  refine Qax (by walk_at "cap") (by walk_at "s") ?_
  unfold Qnc
  have hv:valD (plc n nd nm dn) (.inr (nml nm dn (ld k j)))=some (.int (ld k j)):=by
   unfold nml
   by_cases h:ld k j<0
   ·rw[if_pos h,plc_d hs (show(-1 - ld k j).toNat<nd by omega)]
    congr 2;omega
   ·rw[if_neg h,plc_c hs (show(ld k j).toNat<n by omega)]
    congr 2;omega
  rw[QS9 (kds:=plc n nd nm dn) (y:=.str (nml nm dn (ld k j))) (k:=.inr (nml nm dn (ld k j))) (by (repeat walk_at "e")) (by (repeat walk_at "e")) rfl,hv];rfl
 rw[QNF]
 unfold Qmo
 (repeat walk_at "e")
end
theorem QK6{f:Str}{d:D}:∀{fs:List (Str×D)},(fs.map Prod.fst).contains f=false->putD f d fs=fs++[(f,d)]
 | [],_=>rfl
 | (g,x)::fs,h=>by
  rw[List.map_cons,List.contains_cons,Bool.or_eq_false_iff]at h
  have ne:¬ g=f:=fun z=>by subst z;simp at h
  show(if g=f then _ else(g,x)::putD f d fs)=_
  rw[if_neg ne,QK6 h.2];rfl
theorem Qrl{cs:List Str}{f c:Str}{i:Nat}{E:SD->Out D}{ς ς':SD}{d:D}{fds:List (Str×D)}(a:E ς=.ok d)(e:ς[i]?=some (some (.s,.ins c fds)))(hc:cs.contains c=true)(hl:fds.length<=900)(hf:(fds.map Prod.fst).contains f=false)
 (l:ς.set i (some (.s,.ins c (fds++[(f,d)])))=ς'):sFldS cs f i E ς=.ok (.nx ς'):=by
 unfold sFldS
 rw[a,Out.bind_ok,e]
 show(if (cs.contains c&&decide (fds.length<1000))=true then _ else _)=_
 rw[if_pos (by rw[hc,Bool.true_and];exact decide_eq_true (by omega)),QK6 hf,l]
section
variable(n nd:Nat)(nm dn c:Nat->Str)(t:Nat->List (List Int))(m:Nat->Nat)(ld:Nat->Nat->Int)(st:Nat->Int)
def offF:List (Str×D):=[("clerk_names",rl n (fun k=>.str (nm k))),("door_names",rl nd (fun d=>.str (dn d))),("entry_places",.lst [.tup [.str "in",.int 0]]),("staff",rl n (fun k=>ck (c k) (t k) (m k))),("first_states",rl n (fun k=>.int (st k))),("ways",rl n (fun k=>rl (m k) (fun j=>.int (ld k j))))]
def offD:D:=.ins "Office" (offF n nd nm dn c t m ld st)
end
theorem QLg:Qj.contains "Office"=true:=dk
section
variable{n nd:Nat}{nm dn c:Nat->Str}{t:Nat->List (List Int)}{m:Nat->Nat}{ld:Nat->Nat->Int}{st:Nat->Int}(hs:Seats n nd nm dn c t m ld st)
include hs
theorem QSK{k:Nat}(hk:k<n):dInL .non (rl (m k) (fun j=>.int (ld k j)))=.ok (.bl false):=by
 show(if (_&&((List.range (m k)).map fun j=>D.int (ld k j)).all D.scal)=true then Out.ok (D.bl (inV _ _)) else _)=_
 rw[if_pos (by rw[Bool.and_eq_true];exact⟨rfl,allR fun i _=>rfl⟩)]
 have:inV (toV .non) (((List.range (m k)).map fun j=>D.int (ld k j)).map toV)=false:=by
  unfold inV
  rw[List.any_eq_false]
  intro v hv
  rw[List.map_map]at hv
  obtain⟨j,_,rfl⟩:=List.mem_map.mp hv
  simp[toV,eqV]
 rw[this]
theorem QNT:Qbe "Office" [] [rl n (seatD nm dn c t m ld st),.lst [.tup [.str "in",.str (nm 0)]],rl nd (fun d=>.str (dn d))]=.ok (offF n nd nm dn c t m ld st):=by
 have n1:=hs.n1
 have n2:=hs.n2
 have d2:=hs.d2
 have h1:=QP8 hs
 have h2:=QQs hs
 have h3:=QME hs
 have h4:=QNX hs
 have p0:=plc_c hs (i:=0) (by omega)
 have oc:=QLg
 generalize hS:rl n (seatD nm dn c t m ld st)=S at *
 generalize hE:D.lst [.tup [.str "in",.str (nm 0)]]=E at *
 generalize hDo:rl nd (fun d=>.str (dn d))=Do at *
 generalize hN:rl n (fun k=>.str (nm k))=N at *
 generalize hP:D.dic (plc n nd nm dn)=P at *
 generalize hW:rl n (fun k=>rl (m k) (fun j=>.int (ld k j)))=W
 have q0:eComp [none] (itL (eVar 1)) (gN 0) cTrue QiI [some (.s,.ins "Office" []),some (.k,S),some (.k,E),some (.k,Do),none,none,none]=.ok N:=by
  subst hS;subst hN
  refine Qau (seatD nm dn c t m ld st) (fun k=>D.str (nm k)) rfl (fun k hk=>?_) (by rw[List.length_range];omega)
  have x0:dIx (seatD nm dn c t m ld st k) (.int 0)=.ok (.str (nm k)):=ix_t 0 rfl
  refine Qax (τ0:=[none]) (QhC c_nil) (by walk_at "s") ?_
  unfold QiI
  (repeat walk_at "e")
 have q1:eComp [none,some 5] (itL (eVar 1)) (gN 0) cTrue Qjs [some (.s,.ins "Office" []),some (.k,S),some (.k,E),some (.k,Do),some (.k,N),some (.k,P),none]=.ok W:=by
  subst hS;subst hW;subst hP
  refine Qau (seatD nm dn c t m ld st) (fun k=>rl (m k) (fun j=>.int (ld k j))) rfl (fun k hk=>?_) (by rw[List.length_range];omega)
  have hl:=QQn hs (List.mem_range.mp hk)
  refine Qax (τ0:=[none,some (.k,.dic (plc n nd nm dn))]) (QhC (c_k rfl c_nil)) (by walk_at "s") ?_
  unfold Qjs
  (repeat walk_at "e")
 have q2:eComp [none] (itL (eVar 6)) (gN 0) cTrue Qjr [some (.s,.ins "Office" []),some (.k,S),some (.k,E),some (.k,Do),some (.k,N),some (.k,P),some (.k,W)]=.ok (rl n (fun _=>.bl false)):=by
  subst hW
  refine Qau (fun k=>rl (m k) (fun j=>.int (ld k j))) (fun _=>D.bl false) rfl (fun k hk=>?_) (by rw[List.length_range];omega)
  have hl:=QSK hs (List.mem_range.mp hk)
  refine Qax (τ0:=[none]) (QhC c_nil) (by walk_at "s") ?_
  unfold Qjr
  (repeat walk_at "e")
 have ha:f1 fAny [rl n (fun _=>.bl false)]=.ok (.bl false):=by
  show fAny (.lst ((List.range n).map fun _=>D.bl false))=_
  rw[QQE (fun _=>false)];simp
 have q3:∀ F:List (Str×D),eComp [none,some 5] (itL (eVar 2)) (gN 0) cTrue Qf5 [some (.s,.ins "Office" F),some (.k,S),some (.k,E),some (.k,Do),some (.k,N),some (.k,P),some (.k,W)]=.ok (.lst [.tup [.str "in",.int 0]]):=fun F=>by
  subst hE;subst hP
  refine Qau (l:=List.range 1) (fun _=>.tup [.str "in",.str (nm 0)]) (fun _=>D.tup [.str "in",.int 0]) rfl (fun k hk=>?_) (by simp)
  have x0:dIx (.tup [.str "in",.str (nm 0)]) (.int 0)=.ok (.str "in"):=ix_t 0 rfl
  have x1:dIx (.tup [.str "in",.str (nm 0)]) (.int 1)=.ok (.str (nm 0)):=ix_t 1 rfl
  refine Qax (τ0:=[none,some (.k,.dic (plc n nd nm dn))]) (QhC (c_k rfl c_nil)) (by walk_at "s") ?_
  unfold Qf5
  have hd:eDix (eVar 1) (e2 dIx (eVar 0) (eC (.int 1))) [some (.k,.tup [.str "in",.str (nm 0)]),some (.k,.dic (plc n nd nm dn))]=.ok (.int 0):=r_dix (kds:=plc n nd nm dn) (y:=.str (nm 0)) (k:=.inr (nm 0)) (by (repeat walk_at "e")) (by (repeat walk_at "e")) rfl p0
  (repeat walk_at "e")
 have q4:∀ F:List (Str×D),eComp [none] (itL (eVar 1)) (gN 0) cTrue Qgc [some (.s,.ins "Office" F),some (.k,S),some (.k,E),some (.k,Do),some (.k,N),some (.k,P),some (.k,W)]=.ok (rl n (fun k=>ck (c k) (t k) (m k))):=fun F=>by
  subst hS
  refine Qau (seatD nm dn c t m ld st) (fun k=>ck (c k) (t k) (m k)) rfl (fun k hk=>?_) (by rw[List.length_range];omega)
  have x0:dIx (seatD nm dn c t m ld st k) (.int 1)=.ok (ck (c k) (t k) (m k)):=ix_t 1 rfl
  refine Qax (τ0:=[none]) (QhC c_nil) (by walk_at "s") ?_
  unfold Qgc
  (repeat walk_at "e")
 have q5:∀ F:List (Str×D),eComp [none] (itL (eVar 1)) (gN 0) cTrue Qf3 [some (.s,.ins "Office" F),some (.k,S),some (.k,E),some (.k,Do),some (.k,N),some (.k,P),some (.k,W)]=.ok (rl n (fun k=>.int (st k))):=fun F=>by
  subst hS
  refine Qau (seatD nm dn c t m ld st) (fun k=>D.int (st k)) rfl (fun k hk=>?_) (by rw[List.length_range];omega)
  have x0:dIx (seatD nm dn c t m ld st k) (.int 3)=.ok (.int (st k)):=ix_t 3 rfl
  refine Qax (τ0:=[none]) (QhC c_nil) (by walk_at "s") ?_
  unfold Qf3
  (repeat walk_at "e")
 have hdl:dList Do=.ok Do:=by subst hDo;rfl
 let F1:List (Str×D):=[("clerk_names",N)]
 let F2:List (Str×D):=[("clerk_names",N),("door_names",Do)]
 let F3:List (Str×D):=[("clerk_names",N),("door_names",Do),("entry_places",.lst [.tup [.str "in",.int 0]])]
 let F4:List (Str×D):=[("clerk_names",N),("door_names",Do),("entry_places",.lst [.tup [.str "in",.int 0]]),("staff",rl n (fun k=>ck (c k) (t k) (m k)))]
 let F5:List (Str×D):=[("clerk_names",N),("door_names",Do),("entry_places",.lst [.tup [.str "in",.int 0]]),("staff",rl n (fun k=>ck (c k) (t k) (m k))),("first_states",rl n (fun k=>.int (st k)))]
 have s1:sFldS Qj "clerk_names" 0 (eVar 4) [some (.s,.ins "Office" []),some (.k,S),some (.k,E),some (.k,Do),some (.k,N),some (.k,P),some (.k,W)]=.ok (.nx [some (.s,.ins "Office" F1),some (.k,S),some (.k,E),some (.k,Do),some (.k,N),some (.k,P),some (.k,W)]):=
  Qrl (d:=N) (by (repeat walk_at "e")) rfl oc (by decide) (by decide) rfl
 have s2:sFldS Qj "door_names" 0 (e1 dList (eVar 3)) [some (.s,.ins "Office" F1),some (.k,S),some (.k,E),some (.k,Do),some (.k,N),some (.k,P),some (.k,W)]=.ok (.nx [some (.s,.ins "Office" F2),some (.k,S),some (.k,E),some (.k,Do),some (.k,N),some (.k,P),some (.k,W)]):=
  Qrl (d:=Do) (by (repeat walk_at "e")) rfl oc (Nat.le_of_ble_eq_true rfl) (by show(["clerk_names"]:List Str).contains "door_names"=false;decide +kernel) rfl
 have s3:sFldS Qj "entry_places" 0 (eComp [none,some 5] (itL (eVar 2)) (gN 0) cTrue Qf5) [some (.s,.ins "Office" F2),some (.k,S),some (.k,E),some (.k,Do),some (.k,N),some (.k,P),some (.k,W)]=.ok (.nx [some (.s,.ins "Office" F3),some (.k,S),some (.k,E),some (.k,Do),some (.k,N),some (.k,P),some (.k,W)]):=
  Qrl (q3 _) rfl oc (Nat.le_of_ble_eq_true rfl) (by show(["clerk_names","door_names"]:List Str).contains "entry_places"=false;decide +kernel) rfl
 have s4:sFldS Qj "staff" 0 (eComp [none] (itL (eVar 1)) (gN 0) cTrue Qgc) [some (.s,.ins "Office" F3),some (.k,S),some (.k,E),some (.k,Do),some (.k,N),some (.k,P),some (.k,W)]=.ok (.nx [some (.s,.ins "Office" F4),some (.k,S),some (.k,E),some (.k,Do),some (.k,N),some (.k,P),some (.k,W)]):=
  Qrl (q4 _) rfl oc (Nat.le_of_ble_eq_true rfl) (by show(["clerk_names","door_names","entry_places"]:List Str).contains "staff"=false;decide +kernel) rfl
 have s5:sFldS Qj "first_states" 0 (eComp [none] (itL (eVar 1)) (gN 0) cTrue Qf3) [some (.s,.ins "Office" F4),some (.k,S),some (.k,E),some (.k,Do),some (.k,N),some (.k,P),some (.k,W)]=.ok (.nx [some (.s,.ins "Office" F5),some (.k,S),some (.k,E),some (.k,Do),some (.k,N),some (.k,P),some (.k,W)]):=
  Qrl (q5 _) rfl oc (Nat.le_of_ble_eq_true rfl) (by show(["clerk_names","door_names","entry_places","staff"]:List Str).contains "first_states"=false;decide +kernel) rfl
 have s6:sFldS Qj "ways" 0 (eVar 6) [some (.s,.ins "Office" F5),some (.k,S),some (.k,E),some (.k,Do),some (.k,N),some (.k,P),some (.k,W)]=.ok (.nx [some (.s,.ins "Office" (offF n nd nm dn c t m ld st)),some (.k,S),some (.k,E),some (.k,Do),some (.k,N),some (.k,P),some (.k,W)]):=
  Qrl (d:=W) (by (repeat walk_at "e")) rfl oc (Nat.le_of_ble_eq_true rfl) (by show(["clerk_names","door_names","entry_places","staff","first_states"]:List Str).contains "ways"=false;decide +kernel) (by subst hN;subst hDo;subst hW;rfl)
 have fin:Qgu "Office" (.nx [some (.s,.ins "Office" (offF n nd nm dn c t m ld st)),some (.k,S),some (.k,E),some (.k,Do),some (.k,N),some (.k,P),some (.k,W)])=.ok (offF n nd nm dn c t m ld st):=by
  show(if ("Office":Str)="Office" then Out.ok (offF n nd nm dn c t m ld st) else .stuck)=_
  rw[if_pos rfl]
 rw[QEK]
 unfold QhT
 (repeat walk_at "e")
end
theorem Qvj(i:Int):QbT [.int i]=.ok (.bl true):=by
 simp[QbT,QiN,bodyF,retF,sSeq,thenF,sSet,sRet,sIf,sNil,eVar,eC,e1,e2,eA,f1,aNil,aCons,tVal,tAnd',tOr',tNot',eAnd,eOr,eNot,eIf,eTup,eLst,eIsa,isaT,QaU,oNo,oSome,sPar,sUnp,Q6,gN,gT,fLen,QaE,Out.bind_ok,Out.bind_exc,Out.bind_stuck,Out.pure_eq,D.scal,QbA,Qco,QbX,QbB,QaR,Qb0,Qc7,Qcs,QC,Qbo,List.length_cons,List.length_nil,List.map_cons,List.map_nil,List.cons_append,List.nil_append,List.append_nil,List.getElem?_cons_zero,List.getElem?_cons_succ,List.set_cons_zero,List.set_cons_succ,List.replicate,Nat.reduceAdd,Nat.reduceSub,Nat.reduceLeDiff,Nat.zero_add,Nat.add_zero,reduceIte,Bool.not_true,Bool.not_false,Bool.true_and,Bool.and_true,Bool.false_and,Bool.and_false,Bool.or_true,Bool.true_or,Bool.or_false,Bool.false_or,Bool.false_eq_true,decide_true,decide_false,decide_eq_true_eq,Bool.not_eq_true',decide_eq_false_iff_not,Int.reduceEq,Int.reduceLT,Int.reduceLE,Int.reduceNeg,Nat.reduceEqDiff, ↓reduceIte,not_true_eq_false,not_false_eq_true]
theorem QQ4:∀(n:Nat)(a b:Int)(r:Option (SM×D)),0<=a->0<=b->b.toNat<=n->∃ r',Qc4 Qcq Qch [some (.k,.int a),some (.k,.int b),r]
 = .ok (.nx [some (.k,.int (a.gcd b:Nat)),some (.k,.int 0),r']):=by
 intro n
 induction n with
 | zero=>
  intro a b r ha hb hn
  have e:b=0:=by omega
  subst e
  refine⟨r,?_⟩
  rw[Qds]
  simp[Qcq,Qch,bodyF,retF,sSeq,thenF,sSet,sRet,sIf,sNil,eVar,eC,e1,e2,eA,f1,aNil,aCons,tVal,tAnd',tOr',tNot',eAnd,eOr,eNot,eIf,eTup,eLst,eIsa,isaT,QaU,oNo,oSome,sPar,sUnp,Q6,gN,gT,fLen,QaE,Out.bind_ok,Out.bind_exc,Out.bind_stuck,Out.pure_eq,D.scal,QbA,Qco,QbX,QbB,QaR,Qb0,Qc7,Qcs,QC,Qbo,List.length_cons,List.length_nil,List.map_cons,List.map_nil,List.cons_append,List.nil_append,List.append_nil,List.getElem?_cons_zero,List.getElem?_cons_succ,List.set_cons_zero,List.set_cons_succ,List.replicate,Nat.reduceAdd,Nat.reduceSub,Nat.reduceLeDiff,Nat.zero_add,Nat.add_zero,reduceIte,Bool.not_true,Bool.not_false,Bool.true_and,Bool.and_true,Bool.false_and,Bool.and_false,Bool.or_true,Bool.true_or,Bool.or_false,Bool.false_or,Bool.false_eq_true,decide_true,decide_false,decide_eq_true_eq,Bool.not_eq_true',decide_eq_false_iff_not,Int.reduceEq,Int.reduceLT,Int.reduceLE,Int.reduceNeg,Nat.reduceEqDiff, ↓reduceIte,not_true_eq_false,not_false_eq_true]
  omega
 | succ n ih=>
  intro a b r ha hb hn
  by_cases e:b=0
  ·subst e
   refine⟨r,?_⟩
   rw[Qds]
   simp[Qcq,Qch,bodyF,retF,sSeq,thenF,sSet,sRet,sIf,sNil,eVar,eC,e1,e2,eA,f1,aNil,aCons,tVal,tAnd',tOr',tNot',eAnd,eOr,eNot,eIf,eTup,eLst,eIsa,isaT,QaU,oNo,oSome,sPar,sUnp,Q6,gN,gT,fLen,QaE,Out.bind_ok,Out.bind_exc,Out.bind_stuck,Out.pure_eq,D.scal,QbA,Qco,QbX,QbB,QaR,Qb0,Qc7,Qcs,QC,Qbo,List.length_cons,List.length_nil,List.map_cons,List.map_nil,List.cons_append,List.nil_append,List.append_nil,List.getElem?_cons_zero,List.getElem?_cons_succ,List.set_cons_zero,List.set_cons_succ,List.replicate,Nat.reduceAdd,Nat.reduceSub,Nat.reduceLeDiff,Nat.zero_add,Nat.add_zero,reduceIte,Bool.not_true,Bool.not_false,Bool.true_and,Bool.and_true,Bool.false_and,Bool.and_false,Bool.or_true,Bool.true_or,Bool.or_false,Bool.false_or,Bool.false_eq_true,decide_true,decide_false,decide_eq_true_eq,Bool.not_eq_true',decide_eq_false_iff_not,Int.reduceEq,Int.reduceLT,Int.reduceLE,Int.reduceNeg,Nat.reduceEqDiff, ↓reduceIte,not_true_eq_false,not_false_eq_true]
   omega
  ·have hb':0<b:=by omega
   have h1:=Int.emod_nonneg a e
   have h2:=Int.emod_lt_of_pos a hb'
   obtain⟨r',h⟩:=ih b (a % b) (some (.k,.int (a % b))) hb h1 (by omega)
   refine⟨r',?_⟩
   rw[Qds]
   rw[QGd]at h
   simp[Qcq,Qch,bodyF,retF,sSeq,thenF,sSet,sRet,sIf,sNil,eVar,eC,e1,e2,eA,f1,aNil,aCons,tVal,tAnd',tOr',tNot',eAnd,eOr,eNot,eIf,eTup,eLst,eIsa,isaT,QaU,oNo,oSome,sPar,sUnp,Q6,gN,gT,fLen,QaE,Out.bind_ok,Out.bind_exc,Out.bind_stuck,Out.pure_eq,D.scal,QbA,Qco,QbX,QbB,QaR,Qb0,Qc7,Qcs,QC,Qbo,List.length_cons,List.length_nil,List.map_cons,List.map_nil,List.cons_append,List.nil_append,List.append_nil,List.getElem?_cons_zero,List.getElem?_cons_succ,List.set_cons_zero,List.set_cons_succ,List.replicate,Nat.reduceAdd,Nat.reduceSub,Nat.reduceLeDiff,Nat.zero_add,Nat.add_zero,reduceIte,Bool.not_true,Bool.not_false,Bool.true_and,Bool.and_true,Bool.false_and,Bool.and_false,Bool.or_true,Bool.true_or,Bool.or_false,Bool.false_or,Bool.false_eq_true,decide_true,decide_false,decide_eq_true_eq,Bool.not_eq_true',decide_eq_false_iff_not,Int.reduceEq,Int.reduceLT,Int.reduceLE,Int.reduceNeg,Nat.reduceEqDiff, ↓reduceIte,not_true_eq_false,not_false_eq_true,e,QsK hb']
   exact h
theorem gd_ok{a b:Int}(ha:0<=a)(hb:0<=b):Qaj [.int a,.int b]=.ok (.int (a.gcd b:Nat)):=by
 obtain⟨r',h⟩:=QQ4 b.toNat a b none ha hb (Nat.le_refl _)
 simp[Qaj,Qgk,bodyF,retF,sSeq,thenF,sSet,sRet,sIf,sNil,eVar,eC,e1,e2,eA,f1,aNil,aCons,tVal,tAnd',tOr',tNot',eAnd,eOr,eNot,eIf,eTup,eLst,eIsa,isaT,QaU,oNo,oSome,sPar,sUnp,Q6,gN,gT,fLen,QaE,Out.bind_ok,Out.bind_exc,Out.bind_stuck,Out.pure_eq,D.scal,QbA,Qco,QbX,QbB,QaR,Qb0,Qc7,Qcs,QC,Qbo,List.length_cons,List.length_nil,List.map_cons,List.map_nil,List.cons_append,List.nil_append,List.append_nil,List.getElem?_cons_zero,List.getElem?_cons_succ,List.set_cons_zero,List.set_cons_succ,List.replicate,Nat.reduceAdd,Nat.reduceSub,Nat.reduceLeDiff,Nat.zero_add,Nat.add_zero,reduceIte,Bool.not_true,Bool.not_false,Bool.true_and,Bool.and_true,Bool.false_and,Bool.and_false,Bool.or_true,Bool.true_or,Bool.or_false,Bool.false_or,Bool.false_eq_true,decide_true,decide_false,decide_eq_true_eq,Bool.not_eq_true',decide_eq_false_iff_not,Int.reduceEq,Int.reduceLT,Int.reduceLE,Int.reduceNeg,Nat.reduceEqDiff, ↓reduceIte,not_true_eq_false,not_false_eq_true,h]
theorem QSy{a b:Int}(hb:b≠0)(h:b.natAbs<2 ^ 8000):big (shD a b)=true:=by
 refine QGA (n:=8000) ?_ (by decide)
 rw[QvP]
 have h1:a.gcd b∣b.natAbs:=Int.gcd_dvd_natAbs_right a b
 have h2:=Nat.le_of_dvd (by omega) h1
 exact Nat.lt_of_le_of_lt h2 h
theorem QrP{a b:Int}(hb:b≠0)(h:b.natAbs<2 ^ 8000):QbG [.int a,.int b]=.ok (.tup [.int (a.fdiv (shD a b)),.int (b.fdiv (shD a b))]):=by
 have g:Qaj [.int (a.natAbs:Int),.int (b.natAbs:Int)]=.ok (.int (a.gcd b:Nat)):=by
  rw[gd_ok (by omega) (by omega)]
  congr 3
 have hd:=QHk (a:=a) hb
 have hB:=QSy (a:=a) hb h
 by_cases h0:b<0
 ·have e:shD a b = -(a.gcd b:Int):=by unfold shD;rw[if_pos h0]
  rw[e]at hd hB ⊢
  simp[QbG,QvM,bodyF,retF,sSeq,thenF,sSet,sRet,sIf,sNil,eVar,eC,e1,e2,eA,f1,aNil,aCons,tVal,tAnd',tOr',tNot',eAnd,eOr,eNot,eIf,eTup,eLst,eIsa,isaT,QaU,oNo,oSome,sPar,sUnp,Q6,gN,gT,fLen,QaE,Out.bind_ok,Out.bind_exc,Out.bind_stuck,Out.pure_eq,D.scal,QbA,Qco,QbX,QbB,QaR,Qb0,Qc7,Qcs,QC,Qbo,List.length_cons,List.length_nil,List.map_cons,List.map_nil,List.cons_append,List.nil_append,List.append_nil,List.getElem?_cons_zero,List.getElem?_cons_succ,List.set_cons_zero,List.set_cons_succ,List.replicate,Nat.reduceAdd,Nat.reduceSub,Nat.reduceLeDiff,Nat.zero_add,Nat.add_zero,reduceIte,Bool.not_true,Bool.not_false,Bool.true_and,Bool.and_true,Bool.false_and,Bool.and_false,Bool.or_true,Bool.true_or,Bool.or_false,Bool.false_or,Bool.false_eq_true,decide_true,decide_false,decide_eq_true_eq,Bool.not_eq_true',decide_eq_false_iff_not,Int.reduceEq,Int.reduceLT,Int.reduceLE,Int.reduceNeg,Nat.reduceEqDiff, ↓reduceIte,not_true_eq_false,not_false_eq_true,Qvj,hb,g,h0,Qx3 hd hB]
 ·have e:shD a b=(a.gcd b:Int):=by unfold shD;rw[if_neg h0]
  rw[e]at hd hB ⊢
  simp[QbG,QvM,bodyF,retF,sSeq,thenF,sSet,sRet,sIf,sNil,eVar,eC,e1,e2,eA,f1,aNil,aCons,tVal,tAnd',tOr',tNot',eAnd,eOr,eNot,eIf,eTup,eLst,eIsa,isaT,QaU,oNo,oSome,sPar,sUnp,Q6,gN,gT,fLen,QaE,Out.bind_ok,Out.bind_exc,Out.bind_stuck,Out.pure_eq,D.scal,QbA,Qco,QbX,QbB,QaR,Qb0,Qc7,Qcs,QC,Qbo,List.length_cons,List.length_nil,List.map_cons,List.map_nil,List.cons_append,List.nil_append,List.append_nil,List.getElem?_cons_zero,List.getElem?_cons_succ,List.set_cons_zero,List.set_cons_succ,List.replicate,Nat.reduceAdd,Nat.reduceSub,Nat.reduceLeDiff,Nat.zero_add,Nat.add_zero,reduceIte,Bool.not_true,Bool.not_false,Bool.true_and,Bool.and_true,Bool.false_and,Bool.and_false,Bool.or_true,Bool.true_or,Bool.or_false,Bool.false_or,Bool.false_eq_true,decide_true,decide_false,decide_eq_true_eq,Bool.not_eq_true',decide_eq_false_iff_not,Int.reduceEq,Int.reduceLT,Int.reduceLE,Int.reduceNeg,Nat.reduceEqDiff, ↓reduceIte,not_true_eq_false,not_false_eq_true,Qvj,hb,g,h0,Qx3 hd hB]
theorem bitsN{i:Int}{N:Nat}(h:i.natAbs<=N)(hN:N<2 ^ 4000):bitsI i<=4000:=QS (Nat.lt_of_le_of_lt h hN)
theorem QTz{n:Nat}{f:Nat->Int×Int}{Q:Nat->Nat}{N:Nat}(hQ:1<=Q 0)(hf:∀ i,i<n->1<=(f i).2/\(f i).2.natAbs<=N/\Q i<=N/\Q i * (f i).2.natAbs<=Q (i+1))(hs:N<2 ^ 4000):∃ L:Int,QbD [rl n (fun i=>fr (f i))]=.ok (.int L)/\1<=L/\(∀ i,i<n->(f i).2∣L)/\L.natAbs<=Q n:=by
 obtain⟨ς',hL,L,a2,rfl,l1,ld,lb⟩:=Qnu (body:=fun x ς=>gN 2 x ς>>=fun ς'=>Qew ς') (f:=fun i=>fr (f i)) (n:=n)
  (P:=fun k ς=>∃(L:Int)(a2:Option (SM×D)),ς=[some (.k,rl n (fun i=>fr (f i))),some (.k,.int L),a2]/\1<=L/\(∀ i,i<k->(f i).2∣L)/\L.natAbs<=Q k)
  (by
   rintro k hk ς ⟨L,a2,rfl,l1,ld,lb⟩
   obtain⟨b1,b2,b3,b4⟩:=hf k hk
   have g:=gd_ok (a:=L) (b:=(f k).2) (by omega) (by omega)
   have gp:0<L.gcd (f k).2:=Int.gcd_pos_of_ne_zero_right L (by omega)
   have gd1:((L.gcd (f k).2:Nat):Int)∣L:=Int.gcd_dvd_left ..
   have gd2:((L.gcd (f k).2:Nat):Int)∣(f k).2:=Int.gcd_dvd_right ..
   have bL:bitsI L<=4000:=bitsN lb (by omega)
   have bf:bitsI (f k).2<=4000:=bitsN (N:=N) (by omega) (by omega)
   have bg:bitsI ((L.gcd (f k).2:Nat):Int)<=4000:=bitsN (N:=N) (by
    have:=Nat.le_of_dvd (by omega) (Int.gcd_dvd_natAbs_right L (f k).2)
    show(L.gcd (f k).2)<=N
    omega) (by omega)
   have gp':(0:Int)<((L.gcd (f k).2:Nat):Int):=by omega
   have x1:=fr1 (f k)
   obtain⟨u,hu⟩:=gd1
   obtain⟨v,hv⟩:=gd2
   have hdiv:(f k).2 / ((L.gcd (f k).2:Nat):Int)=v:=Int.ediv_eq_of_eq_mul_right (by omega) hv
   have huv:L * v=(f k).2 * u:=by
    have key:∀ x y G:Int,x=G * u->y=G * v->x * v=y * u:=fun x y G h1 h2=>by rw[h1,h2];grind
    exact key _ _ _ hu hv
   refine⟨[some (.k,rl n (fun i=>fr (f i))),some (.k,.int (L * ((f k).2 / ((L.gcd (f k).2:Nat):Int)))),some (.k,fr (f k))],?_,_,_,rfl,?_,?_,?_⟩
   ·refine r_gN (by walk_at "s") ?_
    unfold Qew
    (repeat walk_at "e")
   ·rw[hdiv]
    have:1<=v:=by
     rcases Int.lt_trichotomy v 0 with h | h | h
     ·have:=Int.mul_neg_of_pos_of_neg gp' h;omega
     ·rw[h,Int.mul_zero]at hv;omega
     ·omega
    have h3:1 * 1<=L * v:=Int.mul_le_mul l1 this (by decide) (by omega)
    rw[Int.one_mul]at h3
    exact h3
   ·intro i hi
    rw[hdiv]
    by_cases e:i=k
    ·subst e
     exact⟨u,huv⟩
    ·exact Int.dvd_trans (ld i (by omega)) (Int.dvd_mul_right L v)
   ·rw[Int.natAbs_mul]
    have:=Int.natAbs_ediv_le_natAbs (f k).2 ((L.gcd (f k).2:Nat):Int)
    exact Nat.le_trans (Nat.mul_le_mul lb this) b4)
  [some (.k,rl n (fun i=>fr (f i))),some (.k,.int 1),none] ⟨1,none,rfl,by decide,fun i hi=>absurd hi (by omega),by show(1:Int).natAbs<=Q 0;omega⟩
 have hfor:=QbH (g:=gN 2) (its:=itL (eVar 0)) (T:=Qew) (ς:=[some (.k,rl n (fun i=>fr (f i))),some (.k,.int 1),none]) rfl hL
 refine⟨L,?_,l1,ld,lb⟩
 rw[QAa]
 unfold Qgd
 (repeat walk_at "e")
def pr(a b:Int):Int×Int:=(a.fdiv (shD a b),b.fdiv (shD a b))
def qt(x:Int×Int):Rat:=(x.1:Rat) / (x.2:Rat)
theorem QaP{z:Int}(h:1<=z):(z:Rat)≠0:=fun w=>by
 have:=Rat.intCast_inj (a:=z) (b:=0) |>.mp w
 omega
theorem QRs{a b:Int}(hb:1<=b)(h:b∣a):((a / b:Int):Rat)=(a:Rat) / (b:Rat):=by
 obtain⟨c,rfl⟩:=h
 rw[Int.mul_ediv_cancel_left _ (by omega:b≠0),Rat.intCast_mul]
 have:=QaP hb
 grind
theorem qt_pr{a b:Int}(hb:b≠0):qt (pr a b)=(a:Rat) / (b:Rat):=by
 have h1:=QQR (a:=a) hb
 have h2:=(QiK (a:=a) hb).1
 have h3:=congrArg (fun z:Int=>(z:Rat)) h1
 simp only[Rat.intCast_mul]at h3
 have h4:=QaP h2
 have h5:(b:Rat)≠0:=fun w=>hb (Rat.intCast_inj (a:=b) (b:=0) |>.mp w)
 unfold qt pr
 generalize ((a.fdiv (shD a b):Int):Rat)=x at *
 generalize ((b.fdiv (shD a b):Int):Rat)=y at *
 have:x=(x * (b:Rat)) / (b:Rat):=by grind
 rw[this,h3]
 grind
theorem QOO{p q:Int×Int}(hp:low p.1 p.2)(hq:low q.1 q.2)(h:qt p=qt q):p=q:=by
 have a:=QaP hp.1
 have b:=QaP hq.1
 unfold qt at h
 have e:(p.1:Rat) * (q.2:Rat)=(q.1:Rat) * (p.2:Rat):=by
  generalize (p.1:Rat)=P at *
  generalize (p.2:Rat)=P' at *
  generalize (q.1:Rat)=Q at *
  generalize (q.2:Rat)=Q' at *
  have:P=P / P' * P':=by grind
  rw[this,h];grind
 rw[← Rat.intCast_mul, ← Rat.intCast_mul]at e
 have u:=QNh hp hq (Rat.intCast_inj.mp e)
 exact Prod.ext u.1 u.2
theorem QSA{js:List (Option Nat)}{its:SD->Out (List D)}{g:D->SD->Out SD}{c:SD->Out Bool}{e:SD->Out D}{ς:SD}{n:Nat}(f:Nat->D)(p:Nat->Bool)(h:Nat->D)(hi:its ς=.ok ((List.range n).map f))(ht:∀ i,i<n->turnC js g c e ς (f i)=.ok (if p i=true then some (h i) else none))(hl:n<=1000):
 eComp js its g c e ς=.ok (.lst (((List.range n).filter p).map h)):=by
 have go:∀ l:List Nat,(∀ x∈l,turnC js g c e ς (f x)=.ok (if p x=true then some (h x) else none))->compM (turnC js g c e ς) (l.map f)=.ok ((l.filter p).map h):=by
  intro l
  induction l with
  | nil=>intro _;rfl
  | cons x xs ih=>
   intro H
   have h1:=H x (List.mem_cons_self ..)
   have h2:=ih fun y hy=>H y (List.mem_cons_of_mem _ hy)
   show compM (turnC js g c e ς) (f x::xs.map f)=_
   unfold compM
   rw[h1,Out.bind_ok,h2,List.filter_cons]
   cases p x<;>rfl
 unfold eComp
 rw[hi,Out.bind_ok,go _ (fun x hx=>ht x (List.mem_range.mp hx)),Out.bind_ok,if_pos (QqN (by
  rw[List.length_map]
  exact Nat.le_trans (List.length_filter_le ..) (by rw[List.length_range];exact hl)))]
def lsm(l:List Nat)(f:Nat->Rat):Rat:=match l with
 | []=>0
 | i::l=>f i+lsm l f
theorem QLq(f:Nat->Rat):∀ a b:List Nat,lsm (a++b) f=lsm a f+lsm b f
 | [],b=>by show lsm b f=0+lsm b f;grind
 | i::a,b=>by show f i+lsm (a++b) f=f i+lsm a f+lsm b f;rw[QLq f a b];grind
theorem QDa(f:Nat->Rat):∀ n,lsm (List.range n) f=Bar.sm n f
 | 0=>rfl
 | n+1=>by
  rw[List.range_succ,QLq,QDa f n]
  show Bar.sm n f+(f n+0)=Bar.sm n f+f n
  grind
theorem QyX{p:Nat->Bool}{f:Nat->Rat}:∀ l:List Nat,(∀ i∈l,p i=false->f i=0)->lsm (l.filter p) f=lsm l f
 | [],_=>rfl
 | i::l,h=>by
  have ih:=QyX (p:=p) (f:=f) l fun j hj=>h j (List.mem_cons_of_mem _ hj)
  rw[List.filter_cons]
  cases e:p i with
  | true=>show f i+lsm (l.filter p) f=f i+lsm l f;rw[ih]
  | false=>
   have:=h i (List.mem_cons_self ..) e
   show lsm (l.filter p) f=f i+lsm l f
   rw[ih,this];grind
theorem QFh(h:Nat->Int):∀ l:List Nat,(((l.map h).sum:Int):Rat)=lsm l (fun i=>(h i:Rat))
 | []=>rfl
 | i::l=>by
  rw[List.map_cons,List.sum_cons,Rat.intCast_add,QFh h l];rfl
theorem QLc(c:Rat)(f:Nat->Rat):∀ l:List Nat,lsm l (fun i=>c * f i)=c * lsm l f
 | []=>by show(0:Rat)=c * 0;grind
 | i::l=>by
  show c * f i+lsm l (fun i=>c * f i)=c * (f i+lsm l f)
  rw[QLc c f l];grind
theorem QC7{f g:Nat->Rat}:∀{l:List Nat},(∀ i∈l,f i=g i)->lsm l f=lsm l g
 | [],_=>rfl
 | i::l,h=>by
  show f i+lsm l f=g i+lsm l g
  rw[h i (List.mem_cons_self ..),QC7 fun j hj=>h j (List.mem_cons_of_mem _ hj)]
theorem QPM(l:List Nat)(h:Nat->D):l.map h=(List.range l.length).map fun i=>h (l.getD i 0):=by
 apply List.ext_getElem?
 intro i
 rw[List.getElem?_map,List.getElem?_map]
 by_cases hi:i<l.length
 ·rw[List.getElem?_range hi,List.getElem?_eq_getElem hi]
  show some (h l[i])=some (h (l.getD i 0))
  rw[List.getD_eq_getElem?_getD,List.getElem?_eq_getElem hi];rfl
 ·have a:l[i]?=none:=by simp;omega
  have b:(List.range l.length)[i]?=none:=by simp;omega
  rw[a,b];rfl
theorem QPQ(l:List Nat)(h:Nat->Int):f1 fSum [.lst (l.map fun i=>D.int (h i))]=.ok (.int (l.map h).sum):=by
 have e:(l.map fun i=>D.int (h i))=(l.map h).map D.int:=by rw[List.map_map];rfl
 show fSum (.lst _)=_
 rw[e,fSum]
 have:∀ ns:List Int,intsD (ns.map .int)=some ns:=fun ns=>by
  induction ns with
  | nil=>rfl
  | cons x xs ih=>show(intsD (xs.map .int)).map (x :: ·)=_;rw[ih];rfl
 rw[this]
theorem QSF{l:List Nat}{F:Nat->Int×Int}(hl:l.length<=12)(hF:∀ i∈l,1<=(F i).2/\(F i).2.natAbs<=2 ^ 100):∃ L:Int,QbD [.lst (l.map fun i=>fr (F i))]=.ok (.int L)/\1<=L/\(∀ i∈l,(F i).2∣L)/\L.natAbs<=2 ^ 1200:=by
 have mem:∀ i,i<l.length->l.getD i 0∈l:=fun i hi=>by
  rw[List.getD_eq_getElem?_getD,List.getElem?_eq_getElem hi];exact List.getElem_mem hi
 obtain⟨L,h1,h2,h3,h4⟩:=QTz (n:=l.length) (f:=fun i=>F (l.getD i 0)) (Q:=fun k=>(2 ^ 100) ^ k) (N:=(2 ^ 100) ^ 12) (by decide) (fun i hi=>by
  obtain⟨a,b⟩:=hF _ (mem i hi)
  refine⟨a,Nat.le_trans b (by decide),Nat.pow_le_pow_right (by decide) (by omega),?_⟩
  show(2 ^ 100) ^ i * _<=(2 ^ 100) ^ (i+1)
  rw[Nat.pow_succ]
  exact Nat.mul_le_mul (Nat.le_refl _) b) (dk)
 refine⟨L,?_,h2,fun i hi=>?_,Nat.le_trans h4 ?_⟩
 ·rw[QPM l fun i=>fr (F i)];exact h1
 ·obtain⟨j,hj,e⟩:=List.getElem_of_mem hi
  have:=h3 j hj
  have g:l.getD j 0=i:=by rw[List.getD_eq_getElem?_getD,List.getElem?_eq_getElem hj, ← e];rfl
  rw[g]at this;exact this
 ·have:((2:Nat) ^ 100) ^ l.length<=(2 ^ 100) ^ 12:=Nat.pow_le_pow_right (by decide) hl
  exact Nat.le_trans this (dk)
theorem QOp{M:Nat}(f:Nat->Int):∀ l:List Nat,(∀ i∈l,(f i).natAbs<=M)->((l.map f).sum).natAbs<=l.length * M
 | [],_=>Nat.zero_le _
 | x::xs,h=>by
  have h1:=h x (List.mem_cons_self ..)
  have h2:=QOp f xs fun i hi=>h i (List.mem_cons_of_mem _ hi)
  rw[List.map_cons,List.sum_cons,List.length_cons,Nat.add_mul]
  omega
theorem Quh{n:Nat}(hn:n<=12){f g:Nat->Int×Int}(hf:∀ i,i<n->1<=(f i).2/\bitsI (f i).1<=48/\(f i).2.natAbs<=2 ^ 48)(hg:∀ i,i<n->1<=(g i).2/\bitsI (g i).1<=7700/\(g i).2.natAbs<=2 ^ 48):
 ∃ p:Int×Int,low p.1 p.2/\qt p=Bar.sm n (fun i=>qt (f i) * qt (g i))/\p.2.natAbs<=2 ^ 1200/\bitsI p.1<=20000/\Qbg [rl n (fun i=>fr (f i)),rl n (fun i=>fr (g i))]=.ok (fr p):=by
 let F:Nat->Int×Int:=fun i=>((f i).1 * (g i).1,(f i).2 * (g i).2)
 let pp:Nat->Bool:=fun i => !decide ((f i).1=0)
 generalize hl:(List.range n).filter pp=l
 have mem:∀ i∈l,i<n:=fun i hi=>by rw[← hl]at hi;exact List.mem_range.mp (List.mem_filter.mp hi).1
 have len:l.length<=12:=by rw[← hl];exact Nat.le_trans (List.length_filter_le ..) (by rw[List.length_range];exact hn)
 have b2:∀ i,i<n->bitsI (f i).2<=49/\bitsI (g i).2<=49:=fun i hi=>⟨QS (Nat.lt_of_le_of_lt (hf i hi).2.2 (by decide)),QS (Nat.lt_of_le_of_lt (hg i hi).2.2 (by decide))⟩
 have hc:eComp [none,none] (itZ (eVar 0) (eVar 1)) (gT [0,1]) QcY Qdx [some (.k,rl n (fun i=>fr (f i))),some (.k,rl n (fun i=>fr (g i))),none,none]=.ok (.lst (l.map fun i=>fr (F i))):=by
  rw[← hl]
  refine QSA (fun i=>D.tup [fr (f i),fr (g i)]) pp (fun i=>fr (F i)) ?_ (fun i hi=>?_) (by omega)
  ·unfold itZ
   rw[r_var rfl,Out.bind_ok,r_var rfl,Out.bind_ok]
   show Out.ok (List.zipWith _ _ _)=_
   rw[List.zipWith_map,List.zipWith_self]
  ·have x0:=fr0 (f i)
   have x1:=fr1 (f i)
   have y0:=fr0 (g i)
   have y1:=fr1 (g i)
   obtain⟨f1',f2',f3'⟩:=hf i hi
   obtain⟨g1',g2',g3'⟩:=hg i hi
   obtain⟨b1',b2'⟩:=b2 i hi
   by_cases h0:(f i).1=0
   ·have d0:(!decide ((f i).1=0))=false:=by rw[decide_eq_true h0];rfl
    have q:QcY [some (.k,fr (f i)),some (.k,fr (g i))]=.ok false:=by
     unfold QcY
     have hne:dNe (.int (f i).1) (.int 0)=.ok (.bl false):=by rw[Qbo,d0]
     (repeat walk_at "e")
    show(QcY [some (.k,fr (f i)),some (.k,fr (g i))]>>=fun b=>if b=true then Qdx [some (.k,fr (f i)),some (.k,fr (g i))]>>=fun y=>Out.ok (some y) else .ok none)=_
    rw[q]
    show Out.ok none=Out.ok (if (!decide ((f i).1=0))=true then _ else none)
    rw[d0];rfl
   ·have d0:(!decide ((f i).1=0))=true:=by rw[decide_eq_false h0];rfl
    have q:QcY [some (.k,fr (f i)),some (.k,fr (g i))]=.ok true:=by
     unfold QcY
     have hne:dNe (.int (f i).1) (.int 0)=.ok (.bl true):=by rw[Qbo,d0]
     (repeat walk_at "e")
    have x:Qdx [some (.k,fr (f i)),some (.k,fr (g i))]=.ok (fr (F i)):=by
     show _=Out.ok (D.tup [.int ((f i).1 * (g i).1),.int ((f i).2 * (g i).2)])
     unfold Qdx
     (repeat walk_at "e")
    show(QcY [some (.k,fr (f i)),some (.k,fr (g i))]>>=fun b=>if b=true then Qdx [some (.k,fr (f i)),some (.k,fr (g i))]>>=fun y=>Out.ok (some y) else .ok none)=_
    rw[q]
    show(Qdx [some (.k,fr (f i)),some (.k,fr (g i))]>>=fun y=>Out.ok (some y))=Out.ok (if (!decide ((f i).1=0))=true then some (fr (F i)) else none)
    rw[x,d0];rfl
 have hF:∀ i∈l,1<=(F i).2/\(F i).2.natAbs<=2 ^ 100:=fun i hi=>by
  obtain⟨f1',f2',f3'⟩:=hf i (mem i hi)
  obtain⟨g1',g2',g3'⟩:=hg i (mem i hi)
  refine⟨?_,?_⟩
  ·show 1<=(f i).2 * (g i).2
   have h3:1 * 1<=(f i).2 * (g i).2:=Int.mul_le_mul f1' g1' (by decide) (by omega)
   omega
  ·show((f i).2 * (g i).2).natAbs<=_
   rw[Int.natAbs_mul]
   exact Nat.le_trans (Nat.mul_le_mul f3' g3') (by decide)
 obtain⟨L,cb,l1,ld,lb⟩:=QSF len hF
 have bL:bitsI L<=1201:=QS (Nat.lt_of_le_of_lt lb (dk))
 have hc2:eComp [none,some 3] (itL (eVar 2)) (gN 0) cTrue Qoc [some (.k,rl n (fun i=>fr (f i))),some (.k,rl n (fun i=>fr (g i))),some (.k,.lst (l.map fun i=>fr (F i))),some (.k,.int L)]=.ok (.lst (l.map fun i=>D.int ((F i).1 * (L / (F i).2)))):=by
  refine Qau (fun i=>fr (F i)) (fun i=>D.int ((F i).1 * (L / (F i).2))) rfl (fun i hi=>?_) (by omega)
  have x0:=fr0 (F i)
  have x1:=fr1 (F i)
  obtain⟨c1,c2⟩:=hF i hi
  obtain⟨f1',f2',f3'⟩:=hf i (mem i hi)
  obtain⟨g1',g2',g3'⟩:=hg i (mem i hi)
  have bt:bitsI (F i).1<=8000:=Nat.le_trans (Qd4 f2' g2') (by decide)
  have bb:bitsI (F i).2<=200:=QS (Nat.lt_of_le_of_lt c2 (dk))
  refine Qax (by walk_at "cap") (by walk_at "s") ?_
  unfold Qoc
  (repeat walk_at "e")
 have hsum:=QPQ l fun i=>(F i).1 * (L / (F i).2)
 generalize hS:(l.map fun i=>(F i).1 * (L / (F i).2)).sum=S at hsum
 have sh:=QrP (a:=S) (b:=L) (by omega) (Nat.lt_of_le_of_lt lb (dk))
 have hSb:bitsI S<=20000:=by
  rw[← hS]
  refine QS (Nat.lt_of_le_of_lt (QOp (M:=2 ^ 9300) _ l fun i hi=>?_) ?_)
  ·obtain⟨c1,c2⟩:=hF i hi
   obtain⟨f1',f2',f3'⟩:=hf i (mem i hi)
   obtain⟨g1',g2',g3'⟩:=hg i (mem i hi)
   have bt:bitsI (F i).1<=8000:=Nat.le_trans (Qd4 f2' g2') (by decide)
   exact Nat.le_of_lt (Qc3 (Nat.le_trans (Qd4 bt (QkJ bL)) (by decide)))
  ·exact Nat.lt_of_le_of_lt (Nat.mul_le_mul len (Nat.le_refl _)) (dk)
 refine⟨pr S L,QiK (by omega),?_,?_,?_,?_⟩
 ·rw[qt_pr (by omega), ← hS,QFh]
  have cl:=QaP l1
  have e:lsm l (fun i=>(((F i).1 * (L / (F i).2):Int):Rat))=lsm l (fun i=>(L:Rat) * (qt (f i) * qt (g i))):=QC7 fun i hi=>by
   obtain⟨f1',_⟩:=hf i (mem i hi)
   obtain⟨g1',_⟩:=hg i (mem i hi)
   rw[Rat.intCast_mul,QRs (hF i hi).1 (ld i hi)]
   show(((f i).1 * (g i).1:Int):Rat) * ((L:Rat) / (((f i).2 * (g i).2:Int):Rat))=_
   rw[Rat.intCast_mul,Rat.intCast_mul]
   have:=QaP f1'
   have:=QaP g1'
   unfold qt
   grind
  rw[e,QLc, ← hl,QyX,QDa]
  ·grind
  ·intro i hi hp
   have:(f i).1=0:=by
    have hp:(!decide ((f i).1=0))=false:=hp
    simpa using hp
   unfold qt
   rw[this]
   have z:((0:Int):Rat)=0:=rfl
   rw[z];grind
 ·show(L.fdiv (shD S L)).natAbs<=_
  exact Nat.le_trans (Int.natAbs_fdiv_le_natAbs _ _) lb
 ·show bitsI (S.fdiv (shD S L))<=_
  exact QS (Nat.lt_of_le_of_lt (Int.natAbs_fdiv_le_natAbs _ _) (Qc3 hSb))
 ·show _=Out.ok (D.tup [.int (S.fdiv (shD S L)),.int (L.fdiv (shD S L))])
  rw[QLM]
  unfold Qmm
  (repeat walk_at "e")
theorem QQK{n:Nat}(hn:n<=12){f g:Nat->Int×Int}(hf:∀ i,i<n->1<=(f i).2/\bitsI (f i).1<=48/\(f i).2.natAbs<=2 ^ 48)(hg:∀ i,i<n->1<=(g i).2/\bitsI (g i).1<=7700/\(g i).2.natAbs<=2 ^ 48):
 ∃ p:Int×Int,low p.1 p.2/\qt p=Bar.sm n (fun i=>qt (f i) * qt (g i))/\p.2.natAbs<=2 ^ 1200/\Qbg [rl n (fun i=>fr (f i)),rl n (fun i=>fr (g i))]=.ok (fr p):=by
 obtain⟨p,a,b,c,_,d⟩:=Quh hn hf hg
 exact⟨p,a,b,c,d⟩
theorem sf_at{t:List (List Int)}{s:Nat}(h:s<t.length)(j:Nat):sf t (s:Int) j=cs t s j:=by
 unfold sf
 rw[Int.ediv_eq_zero_of_lt (by omega) (by omega),Int.emod_eq_of_lt (by omega) (by omega),Int.zero_mul,Int.zero_add];simp
theorem QST{t:List (List Int)}(j:Nat):sf t 0 j=0:=by
 unfold sf cs;simp
section
variable{n nd:Nat}{nm dn c:Nat->Str}{t:Nat->List (List Int)}{m:Nat->Nat}{ld:Nat->Nat->Int}{st:Nat->Int}
theorem QM6:(offF n nd nm dn c t m ld st).lookup ("staff":Str)=some (rl n (fun k=>ck (c k) (t k) (m k))):=by
 have h1:(("staff":Str) == "clerk_names")=false:=dk
 have h2:(("staff":Str) == "door_names")=false:=dk
 have h3:(("staff":Str) == "entry_places")=false:=dk
 unfold offF
 rw[List.lookup_cons,h1,List.lookup_cons,h2,List.lookup_cons,h3,List.lookup_cons,beq_self_eq_true]
theorem QOd:(offF n nd nm dn c t m ld st).lookup ("ways":Str)=some (rl n (fun k=>rl (m k) (fun j=>.int (ld k j)))):=by
 have h1:(("ways":Str) == "clerk_names")=false:=dk
 have h2:(("ways":Str) == "door_names")=false:=dk
 have h3:(("ways":Str) == "entry_places")=false:=dk
 have h4:(("ways":Str) == "staff")=false:=dk
 have h5:(("ways":Str) == "first_states")=false:=dk
 unfold offF
 rw[List.lookup_cons,h1,List.lookup_cons,h2,List.lookup_cons,h3,List.lookup_cons,h4,List.lookup_cons,h5,List.lookup_cons,beq_self_eq_true]
theorem QOZ{x:Str}(h:(["clerk_names","door_names","entry_places","staff","first_states","ways"]:List Str).all (fun y => !(x == y))=true):(offF n nd nm dn c t m ld st).lookup x=none:=by
 simp only[List.all_cons,List.all_nil,Bool.and_eq_true,Bool.not_eq_true',Bool.and_true]at h
 obtain⟨h1,h2,h3,h4,h5,h6⟩:=h
 unfold offF
 rw[List.lookup_cons,h1,List.lookup_cons,h2,List.lookup_cons,h3,List.lookup_cons,h4,List.lookup_cons,h5,List.lookup_cons,h6];rfl
theorem fld_o{x:Str}{d:D}(h:(offF n nd nm dn c t m ld st).lookup x=some d):dFld Qj x (offD n nd nm dn c t m ld st)=.ok d:=by
 show(if Qj.contains "Office"=true then optO ((offF n nd nm dn c t m ld st).lookup x) else .stuck)=_
 rw[if_pos QLg,h];rfl
theorem QFO{x:Str}{mt:Str->List D->Out D}{O:SD->Out D}{A:SD->Out (List D)}{ς:SD}{xs:List D}(hO:O ς=.ok (offD n nd nm dn c t m ld st))(hA:A ς=.ok xs)
 (h:(["clerk_names","door_names","entry_places","staff","first_states","ways"]:List Str).all (fun y => !(x == y))=true):eMeth QaF x mt O A ς=mt "Office" (offD n nd nm dn c t m ld st::xs):=by
 have hc:QaF.contains "Office"=true:=dk
 unfold eMeth
 rw[hO,Out.bind_ok]
 show(if (QaF.contains "Office"&&((offF n nd nm dn c t m ld st).lookup x).isNone)=true then A ς>>=fun xs=>mt "Office" (.ins "Office" (offF n nd nm dn c t m ld st)::xs) else .stuck)=_
 rw[QOZ h,hc,if_pos (show(true&&(none:Option D).isNone)=true from rfl),hA];rfl
theorem QOT{k:Nat}(hk:k<n):Qb2 [offD n nd nm dn c t m ld st,.int (k:Int)]=.ok (ck (c k) (t k) (m k)):=by
 have h1:=fld_o (QM6 (n:=n) (nd:=nd) (nm:=nm) (dn:=dn) (c:=c) (t:=t) (m:=m) (ld:=ld) (st:=st))
 have x1:dIx (rl n (fun k=>ck (c k) (t k) (m k))) (.int (k:Int))=.ok (ck (c k) (t k) (m k)):=ixR hk
 rw[QAz]
 unfold QgM
 (repeat walk_at "e")
theorem QNM{k:Nat}(hk:k<n):Qbi [offD n nd nm dn c t m ld st,.int (k:Int)]=.ok (rl (m k) (fun j=>.int (ld k j))):=by
 have h1:=fld_o (QOd (n:=n) (nd:=nd) (nm:=nm) (dn:=dn) (c:=c) (t:=t) (m:=m) (ld:=ld) (st:=st))
 have x1:dIx (rl n (fun k=>rl (m k) (fun j=>.int (ld k j)))) (.int (k:Int))=.ok (rl (m k) (fun j=>.int (ld k j))):=ixR hk
 have hd:dList (rl (m k) (fun j=>.int (ld k j)))=.ok (rl (m k) (fun j=>.int (ld k j))):=rfl
 rw[QB3]
 unfold QgZ
 (repeat walk_at "e")
def bh(ld:Nat->Nat->Int)(wr dw:Nat->Int×Int)(k j:Nat):Int×Int:=if ld k j<0 then dw (-1 - ld k j).toNat else wr (ld k j).toNat
def okW(p:Int×Int):Prop:=low p.1 p.2/\bitsI p.1<=100/\p.2.natAbs<=2 ^ 48
variable(hs:Seats n nd nm dn c t m ld st){wr dw:Nat->Int×Int}(hw:∀ i,i<n->okW (wr i))(hd:∀ i,i<nd->okW (dw i))
include hs
theorem QPG{k:Nat}(hk:k<n):Qcm [offD n nd nm dn c t m ld st,.int (k:Int),rl n (fun i=>fr (wr i)),rl nd (fun i=>fr (dw i))]=.ok (rl (m k) (fun j=>fr (bh ld wr dw k j))):=by
 have m6:=(hs.tb k hk).m6
 have hl:=QNM (n:=n) (nd:=nd) (nm:=nm) (dn:=dn) (c:=c) (t:=t) (m:=m) (ld:=ld) (st:=st) hk
 have hm:eMeth QaF "leads" (fun _=>Qbi) (eVar 0) (aCons (eVar 1) aNil) [some (.k,offD n nd nm dn c t m ld st),some (.k,.int (k:Int)),some (.k,rl n (fun i=>fr (wr i))),some (.k,rl nd (fun i=>fr (dw i)))]=.ok (rl (m k) (fun j=>.int (ld k j))):=by
  rw[QFO (xs:=[.int (k:Int)]) (by (repeat walk_at "e")) (by (repeat walk_at "e")) (dk)]
  exact hl
 have hc:eComp [none,some 2,some 3] (itL (eMeth QaF "leads" (fun _=>Qbi) (eVar 0) (aCons (eVar 1) aNil))) (gN 0) cTrue Qg7 [some (.k,offD n nd nm dn c t m ld st),some (.k,.int (k:Int)),some (.k,rl n (fun i=>fr (wr i))),some (.k,rl nd (fun i=>fr (dw i)))]=.ok (rl (m k) (fun j=>fr (bh ld wr dw k j))):=by
  refine Qau (fun j=>D.int (ld k j)) (fun j=>fr (bh ld wr dw k j)) (r_itL hm) (fun j hj=>?_) (by rw[List.length_range];omega)
  obtain⟨l1,l2⟩:=hs.ldr k j hk (List.mem_range.mp hj)
  refine Qax (by walk_at "cap") (by walk_at "s") ?_
  unfold Qg7 bh
  by_cases h:ld k j<0
  ·rw[if_pos h]
   have g0:dGe (.int (ld k j)) (.int 0)=.ok (.bl false):=by rw[Qcs,decide_eq_false (by omega)]
   have x1:dIx (rl nd (fun i=>fr (dw i))) (.int (-1 - ld k j))=.ok (fr (dw (-1 - ld k j).toNat)):=by
    have:=ixR (n:=nd) (f:=fun i=>fr (dw i)) (show(-1 - ld k j).toNat<nd by omega)
    rw[Int.toNat_of_nonneg (by omega)]at this
    exact this
   (repeat walk_at "e")
  ·rw[if_neg h]
   have g0:dGe (.int (ld k j)) (.int 0)=.ok (.bl true):=by rw[Qcs,decide_eq_true (by omega)]
   have x1:dIx (rl n (fun i=>fr (wr i))) (.int (ld k j))=.ok (fr (wr (ld k j).toNat)):=by
    have:=ixR (n:=n) (f:=fun i=>fr (wr i)) (show(ld k j).toNat<n by omega)
    rw[Int.toNat_of_nonneg (by omega)]at this
    exact this
   (repeat walk_at "e")
 rw[Qz7]
 unfold Qga
 (repeat walk_at "e")
include hw hd
theorem bh_ok{k j:Nat}(hk:k<n)(hj:j<m k):okW (bh ld wr dw k j):=by
 obtain⟨l1,l2⟩:=hs.ldr k j hk hj
 unfold bh
 split
 ·exact hd _ (by omega)
 ·exact hw _ (by omega)
def leanQ(t:List (List Int))(m:Nat)(q:Nat->Rat)(s:Nat):Rat:=Bar.sm m (fun j=>(((s:Int) * cs t t.length j - (t.length:Int) * cs t s j:Int):Rat) / ((t.length:Int):Rat) * q j)
theorem QSH{k s:Nat}(hk:k<n)(hsn:s<(t k).length):∃ p:Int×Int,low p.1 p.2/\qt p=leanQ (t k) (m k) (fun j=>qt (bh ld wr dw k j)) s/\p.2.natAbs<=2 ^ 1200/\
 Qho [offD n nd nm dn c t m ld st,.int (k:Int),.int (s:Int),rl n (fun i=>fr (wr i)),rl nd (fun i=>fr (dw i))]=.ok (fr p):=by
 have tb:=hs.tb k hk
 have hc:=hs.ck k hk
 have m6:=tb.m6
 have n12:=tb.n2
 have n1':=tb.n1
 have h1:=QOT (n:=n) (nd:=nd) (nm:=nm) (dn:=dn) (c:=c) (t:=t) (m:=m) (ld:=ld) (st:=st) hk
 have h2:=QPG hs (wr:=wr) (dw:=dw) hk
 have csb:=cs_le tb
 let f:Nat->Int×Int:=fun j=>pr ((s:Int) * cs (t k) (t k).length j - ((t k).length:Int) * cs (t k) s j) ((t k).length:Int)
 have hf:∀ j,j<m k->1<=(f j).2/\bitsI (f j).1<=48/\(f j).2.natAbs<=2 ^ 48:=fun j hj=>by
  have lw:=QiK (a:=(s:Int) * cs (t k) (t k).length j - ((t k).length:Int) * cs (t k) s j) (b:=((t k).length:Int)) (by omega)
  refine⟨lw.1,?_,?_⟩
  ·show bitsI (((s:Int) * cs (t k) (t k).length j - ((t k).length:Int) * cs (t k) s j).fdiv _)<=48
   refine QS (Nat.lt_of_le_of_lt (Int.natAbs_fdiv_le_natAbs _ _) ?_)
   have a:=csb (t k).length j
   have b:=csb s j
   have c1:(s:Int) * cs (t k) (t k).length j<=12 * 108:=Int.mul_le_mul (by omega) (by omega) a.1 (by decide)
   have c2:((t k).length:Int) * cs (t k) s j<=12 * 108:=Int.mul_le_mul (by omega) (by omega) b.1 (by decide)
   have c3:0<=(s:Int) * cs (t k) (t k).length j:=Int.mul_nonneg (by omega) a.1
   have c4:0<=((t k).length:Int) * cs (t k) s j:=Int.mul_nonneg (by omega) b.1
   omega
  ·show(((t k).length:Int).fdiv _).natAbs<=_
   refine Nat.le_trans (Int.natAbs_fdiv_le_natAbs _ _) ?_
   show(((t k).length:Int)).natAbs<=2 ^ 48
   omega
 obtain⟨p,lp,qp,bp,hp⟩:=QQK (n:=m k) (by omega) (f:=f) (g:=bh ld wr dw k) hf (fun j hj=>by
  obtain⟨a,b,c⟩:=bh_ok hs hw hd hk hj
  exact⟨a.1,Nat.le_trans b (by decide),c⟩)
 refine⟨p,lp,?_,bp,?_⟩
 ·rw[qp]
  unfold leanQ
  exact Bar.sm_congr fun j _=>by
   show qt (pr _ _) * _=_
   rw[qt_pr (by omega)]
 ·generalize hO:offD n nd nm dn c t m ld st=O at *
  generalize hW:rl n (fun i=>fr (wr i))=W at *
  generalize hDW:rl nd (fun i=>fr (dw i))=DW at *
  have mc:eMeth QaF "clerk" (fun _=>Qb2) (eVar 0) (aCons (eVar 1) aNil) [some (.k,O),some (.k,.int (k:Int)),some (.k,.int (s:Int)),some (.k,W),some (.k,DW),none,none,none,none]=.ok (ck (c k) (t k) (m k)):=by
   subst hO
   rw[QFO (xs:=[.int (k:Int)]) (by (repeat walk_at "e")) (by (repeat walk_at "e")) (dk)]
   exact h1
  have mp:∀ ς:SD,ς[5]?=some (some (.k,ck (c k) (t k) (m k)))->eMeth Qd "period" (fun _=>QR) (eVar 5) aNil ς=.ok (.int ((t k).length:Int)):=fun ς h=>by
   rw[QgP (c:=c k) (t:=t k) (m:=m k) hc (xs:=[]) (by unfold eVar;rw[h]) rfl (dk) (dk)]
   exact Qt4 hc _ _
  have mw:∀ ς:SD,ς[5]?=some (some (.k,ck (c k) (t k) (m k)))->eMeth Qd "whole" (fun _=>QaG) (eVar 5) aNil ς=.ok (dl (pre (t k) (m k) (t k).length)):=fun ς h=>by
   rw[QgP (c:=c k) (t:=t k) (m:=m k) hc (xs:=[]) (by unfold eVar;rw[h]) rfl (dk) (dk)]
   exact QHM hc _ _
  have ms:∀ ς:SD,ς[5]?=some (some (.k,ck (c k) (t k) (m k)))->ς[2]?=some (some (.k,.int (s:Int)))->eMeth Qd "sent" (fun _=>QcT) (eVar 5) (aCons (eC (.int 0)) (aCons (eVar 2) aNil)) ς=.ok (dl (pre (t k) (m k) s)):=fun ς h h'=>by
   rw[QgP (c:=c k) (t:=t k) (m:=m k) hc (xs:=[.int 0,.int (s:Int)]) (by unfold eVar;rw[h]) (by simp only[aCons,aNil,eC,eVar,h',Out.bind_ok]) (dk) (dk)]
   rw[QRr hc tb (s:=0) (x:=(s:Int)) (by decide) (by omega) (by decide) (by rw[Int.zero_add];exact Nat.lt_of_le_of_lt (show((s:Int)).natAbs<=12 by omega) (by decide)) (QPJ tb)]
   refine congrArg (fun l=>Out.ok (dl l)) ?_
   unfold pre
   exact List.map_congr_left fun j _=>by rw[Int.zero_add,sf_at hsn,QST,Int.sub_zero]
  have hz:eComp [none,none,some 2,some 6] (itZ (eMeth Qd "whole" (fun _=>QaG) (eVar 5) aNil) (eVar 7)) (gT [0,1]) cTrue QxA [some (.k,O),some (.k,.int (k:Int)),some (.k,.int (s:Int)),some (.k,W),some (.k,DW),some (.k,ck (c k) (t k) (m k)),some (.k,.int ((t k).length:Int)),some (.k,dl (pre (t k) (m k) s)),none]=.ok (rl (m k) (fun j=>fr (f j))):=by
   refine Qau (fun j=>D.tup [.int (cs (t k) (t k).length j),.int (cs (t k) s j)]) (fun j=>fr (f j)) ?_ (fun j hj=>?_) (by rw[List.length_range];omega)
   ·unfold itZ
    rw[mw _ rfl,Out.bind_ok,r_var rfl,Out.bind_ok]
    show Out.ok (List.zipWith _ ((pre (t k) (m k) (t k).length).map D.int) ((pre (t k) (m k) s).map D.int))=_
    unfold pre
    rw[List.map_map,List.map_map,List.zipWith_map,List.zipWith_self];rfl
   ·have a:=csb (t k).length j
    have b:=csb s j
    have b1:bitsI (s:Int)<=100:=QuC (Nat.lt_of_lt_of_le hsn (Nat.le_trans n12 (by decide)))
    have b2:bitsI (cs (t k) (t k).length j)<=100:=bd_in a.1 (Int.lt_of_le_of_lt a.2 (Int.lt_of_le_of_lt (show 9 * ((t k).length:Int)<=108 by omega) (by decide)))
    have b3:bitsI (cs (t k) s j)<=100:=bd_in b.1 (Int.lt_of_le_of_lt b.2 (Int.lt_of_le_of_lt (show 9 * ((t k).length:Int)<=108 by omega) (by decide)))
    have b4:bitsI ((t k).length:Int)<=100:=QuC (Nat.lt_of_le_of_lt n12 (by decide))
    have sh:=QrP (a:=(s:Int) * cs (t k) (t k).length j - ((t k).length:Int) * cs (t k) s j) (b:=((t k).length:Int)) (by omega) (Nat.lt_of_le_of_lt (show(((t k).length:Int)).natAbs<=12 by omega) (dk))
    refine QCl (by walk_at "cap") (by walk_at "all") ?_
    show _=Out.ok (D.tup [.int (((s:Int) * cs (t k) (t k).length j - ((t k).length:Int) * cs (t k) s j).fdiv (shD _ _)),.int (((t k).length:Int).fdiv (shD _ _))])
    unfold QxA
    (repeat walk_at "e")
  rw[QT7]
  unfold Qzl
  (repeat (first | with_reducible exact mp _ (by walk_at "g") | with_reducible exact ms _ (by walk_at "g") (by walk_at "g") | walk_at "e"))
end
def ent(t:List (List Int))(k j:Nat):Int:=(t.getD k []).getD j 0
theorem QRC{t:List (List Int)}{k j:Nat}(hk:k<t.length):cs t (k+1) j=cs t k j+ent t k j:=by
 have e:t.getD k []=t[k]:=by rw[List.getD_eq_getElem?_getD,List.getElem?_eq_getElem hk];rfl
 unfold cs ent
 rw[e,List.take_add_one,List.getElem?_eq_getElem hk,Option.toList_some,List.map_append,List.sum_append]
 simp only[List.map_cons,List.map_nil,List.sum_cons,List.sum_nil,Int.add_zero,Option.getD_some]
theorem QR1:∀(n:Nat)(a b:Int),0<=a->0<=b->b.toNat<=n->Qc4 Qd5 Qd3 [some (.k,.int a),some (.k,.int b)]
 = .ok (.nx [some (.k,.int (a.gcd b:Nat)),some (.k,.int 0)]):=by
 intro n
 induction n with
 | zero=>
  intro a b ha hb hn
  have e:b=0:=by omega
  subst e
  rw[Qds]
  simp[Qd5,Qd3,bodyF,retF,sSeq,thenF,sSet,sRet,sIf,sNil,eVar,eC,e1,e2,eA,f1,aNil,aCons,tVal,tAnd',tOr',tNot',eAnd,eOr,eNot,eIf,eTup,eLst,eIsa,isaT,QaU,oNo,oSome,sPar,sUnp,Q6,gN,gT,fLen,QaE,Out.bind_ok,Out.bind_exc,Out.bind_stuck,Out.pure_eq,D.scal,QbA,Qco,QbX,QbB,QaR,Qb0,Qc7,Qcs,QC,Qbo,List.length_cons,List.length_nil,List.map_cons,List.map_nil,List.cons_append,List.nil_append,List.append_nil,List.getElem?_cons_zero,List.getElem?_cons_succ,List.set_cons_zero,List.set_cons_succ,List.replicate,Nat.reduceAdd,Nat.reduceSub,Nat.reduceLeDiff,Nat.zero_add,Nat.add_zero,reduceIte,Bool.not_true,Bool.not_false,Bool.true_and,Bool.and_true,Bool.false_and,Bool.and_false,Bool.or_true,Bool.true_or,Bool.or_false,Bool.false_or,Bool.false_eq_true,decide_true,decide_false,decide_eq_true_eq,Bool.not_eq_true',decide_eq_false_iff_not,Int.reduceEq,Int.reduceLT,Int.reduceLE,Int.reduceNeg,Nat.reduceEqDiff, ↓reduceIte,not_true_eq_false,not_false_eq_true]
  omega
 | succ n ih=>
  intro a b ha hb hn
  by_cases e:b=0
  ·subst e
   rw[Qds]
   simp[Qd5,Qd3,bodyF,retF,sSeq,thenF,sSet,sRet,sIf,sNil,eVar,eC,e1,e2,eA,f1,aNil,aCons,tVal,tAnd',tOr',tNot',eAnd,eOr,eNot,eIf,eTup,eLst,eIsa,isaT,QaU,oNo,oSome,sPar,sUnp,Q6,gN,gT,fLen,QaE,Out.bind_ok,Out.bind_exc,Out.bind_stuck,Out.pure_eq,D.scal,QbA,Qco,QbX,QbB,QaR,Qb0,Qc7,Qcs,QC,Qbo,List.length_cons,List.length_nil,List.map_cons,List.map_nil,List.cons_append,List.nil_append,List.append_nil,List.getElem?_cons_zero,List.getElem?_cons_succ,List.set_cons_zero,List.set_cons_succ,List.replicate,Nat.reduceAdd,Nat.reduceSub,Nat.reduceLeDiff,Nat.zero_add,Nat.add_zero,reduceIte,Bool.not_true,Bool.not_false,Bool.true_and,Bool.and_true,Bool.false_and,Bool.and_false,Bool.or_true,Bool.true_or,Bool.or_false,Bool.false_or,Bool.false_eq_true,decide_true,decide_false,decide_eq_true_eq,Bool.not_eq_true',decide_eq_false_iff_not,Int.reduceEq,Int.reduceLT,Int.reduceLE,Int.reduceNeg,Nat.reduceEqDiff, ↓reduceIte,not_true_eq_false,not_false_eq_true]
   omega
  ·have hb':0<b:=by omega
   have h1:=Int.emod_nonneg a e
   have h2:=Int.emod_lt_of_pos a hb'
   have h:=ih b (a % b) hb h1 (by omega)
   rw[QGd]at h
   rw[Qds]
   simp[Qd5,Qd3,bodyF,retF,sSeq,thenF,sSet,sRet,sIf,sNil,eVar,eC,e1,e2,eA,f1,aNil,aCons,tVal,tAnd',tOr',tNot',eAnd,eOr,eNot,eIf,eTup,eLst,eIsa,isaT,QaU,oNo,oSome,sPar,sUnp,Q6,gN,gT,fLen,QaE,Out.bind_ok,Out.bind_exc,Out.bind_stuck,Out.pure_eq,D.scal,QbA,Qco,QbX,QbB,QaR,Qb0,Qc7,Qcs,QC,Qbo,List.length_cons,List.length_nil,List.map_cons,List.map_nil,List.cons_append,List.nil_append,List.append_nil,List.getElem?_cons_zero,List.getElem?_cons_succ,List.set_cons_zero,List.set_cons_succ,List.replicate,Nat.reduceAdd,Nat.reduceSub,Nat.reduceLeDiff,Nat.zero_add,Nat.add_zero,reduceIte,Bool.not_true,Bool.not_false,Bool.true_and,Bool.and_true,Bool.false_and,Bool.and_false,Bool.or_true,Bool.true_or,Bool.or_false,Bool.false_or,Bool.false_eq_true,decide_true,decide_false,decide_eq_true_eq,Bool.not_eq_true',decide_eq_false_iff_not,Int.reduceEq,Int.reduceLT,Int.reduceLE,Int.reduceNeg,Nat.reduceEqDiff, ↓reduceIte,not_true_eq_false,not_false_eq_true,hb',QsK hb']
   exact h
theorem ld_ok(a b:Int):Qdf [.int a,.int b]=.ok (.int (a.gcd b:Nat)):=by
 have h:=QR1 b.natAbs (a.natAbs:Int) (b.natAbs:Int) (by omega) (by omega) (by omega)
 have e:((a.natAbs:Int)).gcd (b.natAbs:Int)=a.gcd b:=by simp[Int.gcd]
 rw[e]at h
 rw[QEt]
 unfold QhK
 have x0:f1 dAbs [.int a]=.ok (.int (a.natAbs:Int)):=by show dAbs (.int a)=_;rw[QbB]
 have x1:f1 dAbs [.int b]=.ok (.int (b.natAbs:Int)):=by show dAbs (.int b)=_;rw[QbB]
 (repeat walk_at "e")
def okB(b:Nat)(p:Int×Int):Prop:=1<=p.2/\bitsI p.1<=b/\bitsI p.2<=b
theorem QLd{i j:Int}{k:Nat}(a:bitsI i<=k)(b:bitsI j<=k):bitsI (i+j)<=k+1:=by
 have h1:=Qc3 a
 have h2:=Qc3 b
 refine QS ?_
 rw[Nat.pow_succ]
 omega
theorem okB.mono{b b':Nat}{p:Int×Int}(h:okB b p)(hb:b<=b'):okB b' p:=⟨h.1,Nat.le_trans h.2.1 hb,Nat.le_trans h.2.2 hb⟩
theorem Qii{a b:Int}(hb:1<=b):pr a b=(a / ((a.gcd b:Nat):Int),b / ((a.gcd b:Nat):Int)):=by
 unfold pr shD
 rw[if_neg (by omega),Int.fdiv_eq_ediv_of_nonneg a (by omega),Int.fdiv_eq_ediv_of_nonneg b (by omega)]
theorem QPE{a b:Int}{k:Nat}(hb:1<=b)(ba:bitsI a<=k)(bb:bitsI b<=k):okB k (pr a b):=by
 have lw:=QiK (a:=a) (b:=b) (by omega)
 refine⟨lw.1,?_,?_⟩<;>rw[Qii hb]
 ·exact QkJ ba
 ·exact QkJ bb
theorem QyS{a b:Int}(hb:1<=b)(bb:bitsI b<=7900):Qc0 [.int a,.int b]=.ok (fr (pr a b)):=by
 have hd:=ld_ok a b
 have g0:0<a.gcd b:=Qjj (by omega)
 have g1:((a.gcd b:Nat):Int)∣b:=Int.gcd_dvd_right a b
 have g2:((a.gcd b:Nat):Int)<=b:=Int.le_of_dvd (by omega) g1
 have gb:bitsI ((a.gcd b:Nat):Int)<=7900:=QS (Nat.lt_of_le_of_lt (show(((a.gcd b:Nat):Int)).natAbs<=b.natAbs by omega) (Qc3 bb))
 rw[Qii hb]
 have gp:0<((a.gcd b:Nat):Int):=by omega
 generalize ((a.gcd b:Nat):Int)=g at *
 rw[QOR]
 unfold QoH fr
 (repeat walk_at "e")
theorem QqQ{x y:Int×Int}{b1 b2:Nat}(hx:okB b1 x)(hy:okB b2 y)(h:b1+b2<=7800):∃ p:Int×Int,low p.1 p.2/\qt p=qt x+qt y/\okB (b1+b2+1) p/\Qaf [fr x,fr y]=.ok (fr p):=by
 obtain⟨x1,x2,x3⟩:=hx
 obtain⟨y1,y2,y3⟩:=hy
 have q1:1 * 1<=x.2 * y.2:=Int.mul_le_mul x1 y1 (by decide) (by omega)
 have q:1<=x.2 * y.2:=by omega
 have bt:bitsI (x.1 * y.2+y.1 * x.2)<=b1+b2+1:=QLd (Qd4 x2 y3) (by have:=Qd4 y2 x3;omega)
 have bb:bitsI (x.2 * y.2)<=b1+b2:=Qd4 x3 y3
 have hl:=QyS (a:=x.1 * y.2+y.1 * x.2) q (by omega)
 refine⟨pr (x.1 * y.2+y.1 * x.2) (x.2 * y.2),QiK (by omega),?_,QPE q bt (by omega),?_⟩
 ·rw[qt_pr (by omega),Rat.intCast_add,Rat.intCast_mul,Rat.intCast_mul,Rat.intCast_mul]
  have:=QaP x1
  have:=QaP y1
  unfold qt
  grind
 ·have a0:=fr0 x
  have a1:=fr1 x
  have c0:=fr0 y
  have c1:=fr1 y
  have X2:bitsI x.1<=7800:=by omega
  have X3:bitsI x.2<=7800:=by omega
  have Y2:bitsI y.1<=7800:=by omega
  have Y3:bitsI y.2<=7800:=by omega
  clear x2 x3 y2 y3 bt bb
  rw[QzN]
  unfold Qjh
  (repeat walk_at "e")
def zero1:Int×Int:=(0,1)
theorem low0:low (0:Int) 1:=⟨Int.le_refl _,rfl⟩
theorem qt0:qt zero1=0:=by
 unfold qt zero1
 show((0:Int):Rat) / ((1:Int):Rat)=0
 have e0:((0:Int):Rat)=0:=rfl
 rw[e0];grind
theorem okB0:okB 1 zero1:=⟨Int.le_refl _,by decide,by decide⟩
def planD(kd:Nat->Int)(t:Nat->List (List Int))(m:Nat->Nat)(ld:Nat->Nat->Int)(st:Nat->Int)(k:Nat):D:=.tup [.int (kd k),tbD (t k),rl (m k) (fun j=>.int (ld k j)),.int (st k)]
section
variable{n nd:Nat}{nm dn c:Nat->Str}{t:Nat->List (List Int)}{m:Nat->Nat}{ld:Nat->Nat->Int}{st kd:Nat->Int}(hs:Seats n nd nm dn c t m ld st)(h4:∀ k,k<n->(t k).length<=4/\m k<=4){wr dw:Nat->Int×Int}(hw:∀ i,i<n->okW (wr i))(hd:∀ i,i<nd->okW (dw i))
def rowQ(t:List (List Int))(m:Nat)(q:Nat->Rat)(s:Nat):Rat:=Bar.sm m (fun j=>(ent t s j:Rat) * q j)
include hs hw hd h4
theorem QUr{k s j:Nat}(hk:k<n):0<=ent (t k) s j/\ent (t k) s j<=9:=by
 unfold ent
 rw[List.getD_eq_getElem?_getD,List.getD_eq_getElem?_getD]
 cases h1:(t k)[s]? with
 | none=>simp
 | some r=>
  show 0<=(r[j]?).getD 0/\(r[j]?).getD 0<=9
  cases h2:r[j]? with
  | none=>decide
  | some x=>exact(hs.tb k hk).ent r (List.mem_of_getElem? h1) x (List.mem_of_getElem? h2)
theorem QNZ{k s:Nat}(hk:k<n)(hsn:s<(t k).length):∃ p:Int×Int,low p.1 p.2/\qt p=rowQ (t k) (m k) (fun j=>qt (bh ld wr dw k j)) s/\okB 500 p/\
 Qa3 [rl n (planD kd t m ld st),.int (k:Int),.int (s:Int),rl n (fun i=>fr (wr i)),rl nd (fun i=>fr (dw i))]=.ok (fr p):=by
 have tb:=hs.tb k hk
 obtain⟨n4,m4⟩:=h4 k hk
 have x1:dIx (rl n (planD kd t m ld st)) (.int (k:Int))=.ok (planD kd t m ld st k):=ixR hk
 have x2:dIx (planD kd t m ld st k) (.int 2)=.ok (rl (m k) (fun j=>.int (ld k j))):=ix_t 2 rfl
 have x3:dIx (planD kd t m ld st k) (.int 1)=.ok (tbD (t k)):=ix_t 1 rfl
 have x4:dIx (tbD (t k)) (.int (s:Int))=.ok (dl (t k)[s]):=ixL s (by rw[List.getElem?_map,List.getElem?_eq_getElem hsn];rfl)
 have rm:((t k)[s]).length=m k:=tb.row _ (List.getElem_mem _)
 have hrow:((t k)[s]).map D.int=(List.range (m k)).map fun j=>D.int (ent (t k) s j):=by
  apply List.ext_getElem?
  intro j
  rw[List.getElem?_map]
  by_cases hj:j<m k
  ·rw[atR hj,List.getElem?_eq_getElem (show j<((t k)[s]).length by omega)]
   show some (D.int ((t k)[s])[j])=some (D.int (ent (t k) s j))
   unfold ent
   rw[List.getD_eq_getElem?_getD,List.getD_eq_getElem?_getD,List.getElem?_eq_getElem hsn]
   show _=some (D.int ((((t k)[s])[j]?).getD 0))
   rw[List.getElem?_eq_getElem (show j<((t k)[s]).length by omega)];rfl
  ·have a:((t k)[s])[j]?=none:=by simp;omega
   have b:((List.range (m k)).map fun j=>D.int (ent (t k) s j))[j]?=none:=by simp;omega
   rw[a,b];rfl
 generalize hP:rl n (planD kd t m ld st)=P at *
 have hz:itZ (e2 dIx (e2 dIx (eVar 0) (eVar 1)) (eC (.int 2))) (e2 dIx (e2 dIx (e2 dIx (eVar 0) (eVar 1)) (eC (.int 1))) (eVar 2)) [some (.k,P),some (.k,.int (k:Int)),some (.k,.int (s:Int)),some (.k,rl n (fun i=>fr (wr i))),some (.k,rl nd (fun i=>fr (dw i))),some (.k,fr zero1),none,none,none]=.ok ((List.range (m k)).map fun j=>D.tup [.int (ld k j),.int (ent (t k) s j)]):=by
  unfold itZ
  have a:e2 dIx (e2 dIx (eVar 0) (eVar 1)) (eC (.int 2)) [some (.k,P),some (.k,.int (k:Int)),some (.k,.int (s:Int)),some (.k,rl n (fun i=>fr (wr i))),some (.k,rl nd (fun i=>fr (dw i))),some (.k,fr zero1),none,none,none]=.ok (rl (m k) (fun j=>.int (ld k j))):=by (repeat walk_at "e")
  have b:e2 dIx (e2 dIx (e2 dIx (eVar 0) (eVar 1)) (eC (.int 1))) (eVar 2) [some (.k,P),some (.k,.int (k:Int)),some (.k,.int (s:Int)),some (.k,rl n (fun i=>fr (wr i))),some (.k,rl nd (fun i=>fr (dw i))),some (.k,fr zero1),none,none,none]=.ok (dl (t k)[s]):=by (repeat walk_at "e")
  rw[a,Out.bind_ok,b,Out.bind_ok]
  show Out.ok (List.zipWith _ _ (((t k)[s]).map D.int))=_
  rw[hrow,List.zipWith_map,List.zipWith_self]
 obtain⟨ς',hL,p,a6,a7,a8,rfl,lp,qp,bp⟩:=Qnu (body:=fun x ς=>gT [6,7] x ς>>=fun ς'=>Qex ς') (f:=fun j=>D.tup [.int (ld k j),.int (ent (t k) s j)]) (n:=m k)
  (P:=fun j ς=>∃(p:Int×Int)(a6 a7 a8:Option (SM×D)),ς=[some (.k,P),some (.k,.int (k:Int)),some (.k,.int (s:Int)),some (.k,rl n (fun i=>fr (wr i))),some (.k,rl nd (fun i=>fr (dw i))),some (.k,fr p),a6,a7,a8]/\low p.1 p.2/\qt p=Bar.sm j (fun j=>(ent (t k) s j:Rat) * qt (bh ld wr dw k j))/\okB (1+j * 120) p)
  (by
   rintro j hj ς ⟨p,a6,a7,a8,rfl,lp,qp,bp⟩
   obtain⟨l1,l2⟩:=hs.ldr k j hk hj
   obtain⟨e0,e9⟩:=QUr hs h4 hw hd (s:=s) (j:=j) hk
   have hb:=bh_ok hs hw hd hk hj
   have hsel:eIf (tVal (e2 dLt (eVar 6) (eC (.int 0)))) (e2 dIx (eVar 4) (e2 dSub (e1 dNeg (eC (.int 1))) (eVar 6))) (e2 dIx (eVar 3) (eVar 6)) [some (.k,P),some (.k,.int (k:Int)),some (.k,.int (s:Int)),some (.k,rl n (fun i=>fr (wr i))),some (.k,rl nd (fun i=>fr (dw i))),some (.k,fr p),some (.k,.int (ld k j)),some (.k,.int (ent (t k) s j)),a8]=.ok (fr (bh ld wr dw k j)):=by
    unfold bh
    by_cases h:ld k j<0
    ·rw[if_pos h]
     have g0:dLt (.int (ld k j)) (.int 0)=.ok (.bl true):=by rw[QaR,decide_eq_true h]
     have x1:dIx (rl nd (fun i=>fr (dw i))) (.int (-1 - ld k j))=.ok (fr (dw (-1 - ld k j).toNat)):=by
      have:=ixR (n:=nd) (f:=fun i=>fr (dw i)) (show(-1 - ld k j).toNat<nd by omega)
      rw[Int.toNat_of_nonneg (by omega)]at this
      exact this
     (repeat walk_at "e")
    ·rw[if_neg h]
     have g0:dLt (.int (ld k j)) (.int 0)=.ok (.bl false):=by rw[QaR,decide_eq_false h]
     have x1:dIx (rl n (fun i=>fr (wr i))) (.int (ld k j))=.ok (fr (wr (ld k j).toNat)):=by
      have:=ixR (n:=n) (f:=fun i=>fr (wr i)) (show(ld k j).toNat<n by omega)
      rw[Int.toNat_of_nonneg (by omega)]at this
      exact this
     (repeat walk_at "e")
   obtain⟨hb1,hb2,hb3⟩:=hb
   generalize hB:bh ld wr dw k j=B at *
   have be:bitsI (ent (t k) s j)<=4:=QS (by omega)
   have by':okB 110 (ent (t k) s j * B.1,B.2):=⟨hb1.1,Nat.le_trans (Qd4 be hb2) (by decide),QS (Nat.lt_of_le_of_lt hb3 (by decide))⟩
   obtain⟨p',lp',qp',bp',hp'⟩:=QqQ bp by' (by omega)
   have hp':Qaf [fr p,.tup [.int (ent (t k) s j * B.1),.int B.2]]=.ok (fr p'):=hp'
   have y0:=fr0 B
   have y1:=fr1 B
   refine⟨[some (.k,P),some (.k,.int (k:Int)),some (.k,.int (s:Int)),some (.k,rl n (fun i=>fr (wr i))),some (.k,rl nd (fun i=>fr (dw i))),some (.k,fr p'),some (.k,.int (ld k j)),some (.k,.int (ent (t k) s j)),some (.k,fr B)],?_,p',_,_,_,rfl,lp',?_,bp'.mono (by omega)⟩
   ·refine r_gT (by walk_at "all") ?_
    unfold Qex
    (repeat walk_at "e")
   ·rw[qp',qp]
    show _=Bar.sm j _+(ent (t k) s j:Rat) * qt (bh ld wr dw k j)
    rw[hB]
    congr 1
    unfold qt
    show((ent (t k) s j * B.1:Int):Rat) / (B.2:Rat)=_
    rw[Rat.intCast_mul]
    grind)
  [some (.k,P),some (.k,.int (k:Int)),some (.k,.int (s:Int)),some (.k,rl n (fun i=>fr (wr i))),some (.k,rl nd (fun i=>fr (dw i))),some (.k,fr zero1),none,none,none] ⟨zero1,_,_,_,rfl,low0,qt0,okB0⟩
 have hfor:=QbH (g:=gT [6,7]) (T:=Qex) hz hL
 refine⟨p,lp,qp,bp.mono (by omega),?_⟩
 have s5:sSet 5 (eTup (aCons (eC (.int 0)) (aCons (eC (.int 1)) aNil))) [some (.k,P),some (.k,.int (k:Int)),some (.k,.int (s:Int)),some (.k,rl n (fun i=>fr (wr i))),some (.k,rl nd (fun i=>fr (dw i))),none,none,none,none]=.ok (.nx [some (.k,P),some (.k,.int (k:Int)),some (.k,.int (s:Int)),some (.k,rl n (fun i=>fr (wr i))),some (.k,rl nd (fun i=>fr (dw i))),some (.k,fr zero1),none,none,none]):=rfl
 rw[Qyw]
 unfold Qf9
 (repeat walk_at "e")
end
theorem QAZ:∀ l:List D,(∀ d∈l,layD d=true)->layDs l=true
 | [],_=>rfl
 | x::xs,h=>by
  show(layD x&&layDs xs)=true
  rw[h x (List.mem_cons_self ..),QAZ xs fun d hd=>h d (List.mem_cons_of_mem _ hd)];rfl
theorem QAC{m:Nat}:∀ l:List D,(∀ d∈l,dep d<=m)->deps l<=m
 | [],_=>Nat.zero_le _
 | x::xs,h=>by
  show max (dep x) (deps xs)<=m
  have h1:=h x (List.mem_cons_self ..)
  have h2:=QAC xs fun d hd=>h d (List.mem_cons_of_mem _ hd)
  omega
theorem QQ7{d:D}(hl:layD d=true)(hd:dep d<=64):dNe d d=.ok (.bl false):=by
 have hs:=QFx hl hd
 rw[QPD hs hs,PySem.SeqAt.eqv_refl _ (QyG _ hl)];rfl
theorem QOe{n:Nat}{f:Nat->D}(h:∀ i,i<n->layD (f i)=true):layD (rl n f)=true:=QAZ _ fun d hd=>by
 obtain⟨i,hi,rfl⟩:=List.mem_map.mp hd
 exact h i (List.mem_range.mp hi)
theorem QNW{n m:Nat}{f:Nat->D}(h:∀ i,i<n->dep (f i)<=m):dep (rl n f)<=m+1:=Nat.succ_le_succ (QAC _ fun d hd=>by
 obtain⟨i,hi,rfl⟩:=List.mem_map.mp hd
 exact h i (List.mem_range.mp hi))
theorem QR6{d:D}(hl:layD d=true)(hd:dep d<=64):dEq d d=.ok (.bl true):=by
 have hs:=QFx hl hd
 rw[QPl hs hs,PySem.SeqAt.eqv_refl _ (QyG _ hl)]
section
variable{t:List (List Int)}{m:Nat}{q:Nat->Rat}
theorem rsum(s:Nat)(h:s<=t.length):Bar.sm s (rowQ t m q)=Bar.sm m (fun j=>(cs t s j:Rat) * q j):=by
 induction s with
 | zero=>
  show(0:Rat)=_
  rw[Bar.sm_zero]
  intro j _
  have:cs t 0 j=0:=by unfold cs;simp
  rw[this]
  have e0:((0:Int):Rat)=0:=rfl
  rw[e0];grind
 | succ s ih=>
  show Bar.sm s (rowQ t m q)+rowQ t m q s=_
  rw[ih (by omega)]
  unfold rowQ
  rw[← Bar.sm_add]
  exact Bar.sm_congr fun j _=>by
   show(cs t s j:Rat) * q j+(ent t s j:Rat) * q j=(cs t (s+1) j:Rat) * q j
   rw[QRC (by omega),Rat.intCast_add];grind
def meanQ(t:List (List Int))(m:Nat)(q:Nat->Rat):Rat:=Bar.sm t.length (rowQ t m q) / ((t.length:Int):Rat)
theorem QSM(h1:1<=t.length)(s:Nat)(hs:s<=t.length):leanQ t m q s=((s:Int):Rat) * meanQ t m q - Bar.sm s (rowQ t m q):=by
 have hn:=QaP (z:=(t.length:Int)) (by omega)
 unfold meanQ
 rw[rsum s hs,rsum t.length (Nat.le_refl _)]
 unfold leanQ
 have e:Bar.sm m (fun j=>(((s:Int) * cs t t.length j - (t.length:Int) * cs t s j:Int):Rat) / ((t.length:Int):Rat) * q j)=Bar.sm m (fun j=>(((s:Int):Rat) / ((t.length:Int):Rat)) * ((cs t t.length j:Rat) * q j)+(-1) * ((cs t s j:Rat) * q j)):=Bar.sm_congr fun j _=>by
  show(((s:Int) * cs t t.length j - (t.length:Int) * cs t s j:Int):Rat) / ((t.length:Int):Rat) * q j=_
  rw[Rat.intCast_sub,Rat.intCast_mul,Rat.intCast_mul]
  generalize ((t.length:Int):Rat)=N at *
  grind
 rw[e,Bar.sm_add,Bar.sm_mul,Bar.sm_mul]
 grind
end
section
variable{n nd:Nat}{nm dn c:Nat->Str}{t:Nat->List (List Int)}{m:Nat->Nat}{ld:Nat->Nat->Int}{st kd:Nat->Int}(hs:Seats n nd nm dn c t m ld st)(h4:∀ k,k<n->(t k).length<=4/\m k<=4){wr dw:Nat->Int×Int}(hw:∀ i,i<n->okW (wr i))(hd:∀ i,i<nd->okW (dw i))
include hs hw hd h4
theorem QRu{k:Nat}(hk:k<n):∃ p:Int×Int,low p.1 p.2/\qt p=meanQ (t k) (m k) (fun j=>qt (bh ld wr dw k j))/\okB 2010 p/\
 Qfv [rl n (planD kd t m ld st),.int (k:Int),rl n (fun i=>fr (wr i)),rl nd (fun i=>fr (dw i))]=.ok (fr p):=by
 obtain⟨n4,m4⟩:=h4 k hk
 have n1:=(hs.tb k hk).n1
 have x1:dIx (rl n (planD kd t m ld st)) (.int (k:Int))=.ok (planD kd t m ld st k):=ixR hk
 have x3:dIx (planD kd t m ld st k) (.int 1)=.ok (tbD (t k)):=ix_t 1 rfl
 have hlen:fLen [tbD (t k)]=.ok (.int ((t k).length:Int)):=by simp[fLen,tbD]
 have R:=fun s (h:s<(t k).length)=>QNZ hs h4 hw hd (kd:=kd) hk h
 generalize hP:rl n (planD kd t m ld st)=P at *
 generalize hW:rl n (fun i=>fr (wr i))=W at *
 generalize hDW:rl nd (fun i=>fr (dw i))=DW at *
 obtain⟨ς',hL,p,a6,rfl,lp,qp,bp⟩:=QbK (body:=fun x ς=>gN 6 x ς>>=fun ς'=>Qjc ς') (n:=(t k).length)
  (P:=fun s ς=>∃(p:Int×Int)(a6:Option (SM×D)),ς=[some (.k,P),some (.k,.int (k:Int)),some (.k,W),some (.k,DW),some (.k,fr p),some (.k,.int ((t k).length:Int)),a6]/\low p.1 p.2/\qt p=Bar.sm s (rowQ (t k) (m k) (fun j=>qt (bh ld wr dw k j)))/\okB (1+s * 501) p)
  (by
   rintro s hs' ς ⟨p,a6,rfl,lp,qp,bp⟩
   obtain⟨r,lr,qr,br,hr⟩:=R s hs'
   obtain⟨p',lp',qp',bp',hp'⟩:=QqQ bp br (by omega)
   refine⟨[some (.k,P),some (.k,.int (k:Int)),some (.k,W),some (.k,DW),some (.k,fr p'),some (.k,.int ((t k).length:Int)),some (.k,.int (s:Int))],?_,p',_,rfl,lp',?_,bp'.mono (by omega)⟩
   ·refine r_gN (by walk_at "s") ?_
    unfold Qjc
    (repeat walk_at "e")
   ·rw[qp',qp,qr];rfl)
  [some (.k,P),some (.k,.int (k:Int)),some (.k,W),some (.k,DW),some (.k,fr zero1),some (.k,.int ((t k).length:Int)),none] ⟨zero1,_,rfl,low0,qt0,okB0⟩
 have hR:itR1 (eVar 5) [some (.k,P),some (.k,.int (k:Int)),some (.k,W),some (.k,DW),some (.k,fr zero1),some (.k,.int ((t k).length:Int)),none]=.ok (QbM 0 (t k).length):=QcV (t k).length (by (repeat walk_at "e")) (by omega)
 have hfor:=QbH (g:=gN 6) (T:=Qjc) hR hL
 have bl:bitsI ((t k).length:Int)<=4:=QuC (by omega)
 have q1:1 * 1<=p.2 * ((t k).length:Int):=Int.mul_le_mul bp.1 (by omega) (by decide) (by have:=bp.1;omega)
 have q:1<=p.2 * ((t k).length:Int):=by omega
 have bb:bitsI (p.2 * ((t k).length:Int))<=2010:=Nat.le_trans (Qd4 bp.2.2 bl) (by omega)
 have hl:=QyS (a:=p.1) q (by omega)
 refine⟨pr p.1 (p.2 * ((t k).length:Int)),QiK (by omega),?_,QPE q (Nat.le_trans bp.2.1 (by omega)) bb,?_⟩
 ·rw[qt_pr (by omega)]
  unfold meanQ
  rw[← qp,Rat.intCast_mul]
  have:=QaP bp.1
  have:=QaP (z:=((t k).length:Int)) (by omega)
  unfold qt
  grind
 ·have p0:=fr0 p
  have p1:=fr1 p
  have P2:bitsI p.2<=2010:=Nat.le_trans bp.2.2 (by omega)
  have s4:∀ a5 a6,sSet 4 (eTup (aCons (eC (.int 0)) (aCons (eC (.int 1)) aNil))) [some (.k,P),some (.k,.int (k:Int)),some (.k,W),some (.k,DW),none,a5,a6]=.ok (.nx [some (.k,P),some (.k,.int (k:Int)),some (.k,W),some (.k,DW),some (.k,fr zero1),a5,a6]):=fun _ _=>rfl
  rw[QMz]
  unfold QmO
  (repeat (first | with_reducible exact s4 _ _ | walk_at "e"))
theorem QNP{k:Nat}(hk:k<n):∃ L:Nat->Int×Int,(∀ s,s<(t k).length->low (L s).1 (L s).2/\qt (L s)=leanQ (t k) (m k) (fun j=>qt (bh ld wr dw k j)) s/\okB 7600 (L s))/\(L ((t k).length - 1)).2=(L ((t k).length - 1)).2/\
 Qce [rl n (planD kd t m ld st),.int (k:Int),rl n (fun i=>fr (wr i)),rl nd (fun i=>fr (dw i))]=.ok (rl (t k).length (fun s=>fr (L s))):=by
 obtain⟨n4,m4⟩:=h4 k hk
 have n1:=(hs.tb k hk).n1
 have x1:dIx (rl n (planD kd t m ld st)) (.int (k:Int))=.ok (planD kd t m ld st k):=ixR hk
 have x3:dIx (planD kd t m ld st k) (.int 1)=.ok (tbD (t k)):=ix_t 1 rfl
 have hlen:fLen [tbD (t k)]=.ok (.int ((t k).length:Int)):=by simp[fLen,tbD]
 obtain⟨mn,lm,qm,bm,hm⟩:=QRu hs h4 hw hd (kd:=kd) hk
 have R:=fun s (h:s<(t k).length)=>QNZ hs h4 hw hd (kd:=kd) hk h
 generalize hP:rl n (planD kd t m ld st)=P at *
 generalize hW:rl n (fun i=>fr (wr i))=W at *
 generalize hDW:rl nd (fun i=>fr (dw i))=DW at *
 obtain⟨ς',hL,L,a6,a7,rfl,lL⟩:=QbK (body:=fun x ς=>gN 6 x ς>>=fun ς'=>QhX ς') (n:=(t k).length - 1)
  (P:=fun s ς=>∃(L:Nat->Int×Int)(a6 a7:Option (SM×D)),ς=[some (.k,P),some (.k,.int (k:Int)),some (.k,W),some (.k,DW),some (.k,fr mn),some (.o,rl (s+1) (fun s=>fr (L s))),a6,a7]/\∀ i,i<=s->low (L i).1 (L i).2/\qt (L i)=((i:Int):Rat) * meanQ (t k) (m k) (fun j=>qt (bh ld wr dw k j)) - Bar.sm i (rowQ (t k) (m k) (fun j=>qt (bh ld wr dw k j)))/\okB (1+i * 2515) (L i))
  (by
   rintro s hs' ς ⟨L,a6,a7,rfl,lL⟩
   obtain⟨r,lr,qr,br,hr⟩:=R s (by omega)
   obtain⟨ll,ql,bl⟩:=lL s (Nat.le_refl _)
   have bn:okB 500 (0 - r.1,r.2):=⟨br.1,by
    show bitsI (0 - r.1)<=500
    rw[Int.zero_sub];exact QO2 br.2.1,br.2.2⟩
   obtain⟨p1,lp1,qp1,bp1,hp1⟩:=QqQ bm bn (by omega)
   obtain⟨p2,lp2,qp2,bp2,hp2⟩:=QqQ bl bp1 (by omega)
   have hp1:Qaf [fr mn,.tup [.int (0 - r.1),.int r.2]]=.ok (fr p1):=hp1
   have y0:=fr0 r
   have y1:=fr1 r
   have hix:eIxO 5 (eVar 6) [some (.k,P),some (.k,.int (k:Int)),some (.k,W),some (.k,DW),some (.k,fr mn),some (.o,rl (s+1) (fun s=>fr (L s))),some (.k,.int (s:Int)),some (.k,fr r)]=.ok (fr (L s)):=by
    show optO (atI ((List.range (s+1)).map fun s=>fr (L s)) (s:Int))=_
    have:atI ((List.range (s+1)).map fun s=>fr (L s)) (s:Int)=some (fr (L s)):=by
     unfold atI
     rw[ixNR (show s<s+1 by omega)]
     show((List.range (s+1)).map fun s=>fr (L s))[s]?=_
     exact atR (by omega)
    rw[this];rfl
   have ea:(List.range (s+1)).map (fun j=>fr (L j))++[fr p2]=(List.range (s+1+1)).map (fun j=>fr ((fun j=>if j<s+1 then L j else p2) j)):=by
    rw[List.range_succ (n:=s+1),List.map_append]
    congr 1
    ·exact List.map_congr_left fun j hj=>by show fr (L j)=fr (if j<s+1 then L j else p2);rw[if_pos (List.mem_range.mp hj)]
    ·show [fr p2]=[fr (if s+1<s+1 then L (s+1) else p2)];rw[if_neg (by omega)]
   have hle:((List.range (s+1)).map (fun j=>fr (L j))).length<=1000:=by rw[List.length_map,List.length_range];omega
   refine⟨[some (.k,P),some (.k,.int (k:Int)),some (.k,W),some (.k,DW),some (.k,fr mn),some (.o,rl (s+1+1) (fun j=>fr ((fun j=>if j<s+1 then L j else p2) j))),some (.k,.int (s:Int)),some (.k,fr r)],?_,fun j=>if j<s+1 then L j else p2,_,_,rfl,?_⟩
   ·show _=Out.ok (Fl.nx [_,_,_,_,_,some (.o,.lst ((List.range (s+1+1)).map (fun j=>fr ((fun j=>if j<s+1 then L j else p2) j)))),_,_])
    rw[← ea]
    refine r_gN (by walk_at "s") ?_
    unfold QhX
    (repeat walk_at "e")
   ·intro i hi
    show low (if i<s+1 then L i else p2).1 (if i<s+1 then L i else p2).2/\qt (if i<s+1 then L i else p2)=_/\okB _ (if i<s+1 then L i else p2)
    by_cases h:i<s+1
    ·rw[if_pos h];exact lL i (by omega)
    ·have:i=s+1:=by omega
     subst this
     rw[if_neg h]
     refine⟨lp2,?_,bp2.mono (by omega)⟩
     rw[qp2,qp1,ql]
     show _=_ - (Bar.sm s _+rowQ _ _ _ s)
     rw[← qr,qm]
     have e1':(((s+1:Nat):Int):Rat)=((s:Int):Rat)+1:=by
      rw[Int.natCast_add,Rat.intCast_add];rfl
     rw[e1']
     have e2':qt (0 - r.1,r.2) = - qt r:=by
      unfold qt
      show((0 - r.1:Int):Rat) / (r.2:Rat)=_
      rw[Int.zero_sub,Rat.intCast_neg]
      have:=QaP br.1
      grind
     rw[e2']
     grind)
  [some (.k,P),some (.k,.int (k:Int)),some (.k,W),some (.k,DW),some (.k,fr mn),some (.o,rl (0+1) (fun _=>fr zero1)),none,none] ⟨fun _=>zero1,_,_,rfl,fun i hi=>by
   have:i=0:=by omega
   subst this
   refine⟨low0,?_,okB0⟩
   rw[qt0]
   show(0:Rat)=((0:Int):Rat) * _ - 0
   have e0:((0:Int):Rat)=0:=rfl
   rw[e0];grind⟩
 have hR:itR1 (e2 dSub (eA fLen (aCons (e2 dIx (e2 dIx (eVar 0) (eVar 1)) (eC (.int 1))) aNil)) (eC (.int 1))) [some (.k,P),some (.k,.int (k:Int)),some (.k,W),some (.k,DW),some (.k,fr mn),some (.o,.lst [fr zero1]),none,none]=.ok (QbM 0 ((t k).length - 1)):=QcV ((t k).length - 1) (by
  have e:(((t k).length - 1:Nat):Int)=((t k).length:Int) - 1:=by omega
  rw[e]
  (repeat walk_at "e")) (by omega)
 have hfor:=QbH (g:=gN 6) (T:=QhX) hR hL
 rw[show(t k).length - 1+1=(t k).length by omega]at hfor
 refine⟨L,fun s hs'=>?_,rfl,?_⟩
 ·obtain⟨a,b,d⟩:=lL s (by omega)
  exact⟨a,by rw[b,QSM n1 s (by omega)],d.mono (by omega)⟩
 ·have s5:∀ a6 a7,sSetO 5 (eLst (aCons (eTup (aCons (eC (.int 0)) (aCons (eC (.int 1)) aNil))) aNil)) [some (.k,P),some (.k,.int (k:Int)),some (.k,W),some (.k,DW),some (.k,fr mn),none,a6,a7]=.ok (.nx [some (.k,P),some (.k,.int (k:Int)),some (.k,W),some (.k,DW),some (.k,fr mn),some (.o,.lst [fr zero1]),a6,a7]):=fun _ _=>rfl
  rw[QJT]
  unfold Qks
  (repeat (first | with_reducible exact s5 _ _ | walk_at "e"))
end
theorem Qs7(i:Int):Qdn [.int i]=.ok (.bl true):=by
 simp[Qdn,QpP,bodyF,retF,sSeq,thenF,sSet,sRet,sIf,sNil,eVar,eC,e1,e2,eA,f1,aNil,aCons,tVal,tAnd',tOr',tNot',eAnd,eOr,eNot,eIf,eTup,eLst,eIsa,isaT,QaU,oNo,oSome,sPar,sUnp,Q6,gN,gT,fLen,QaE,Out.bind_ok,Out.bind_exc,Out.bind_stuck,Out.pure_eq,D.scal,QbA,Qco,QbX,QbB,QaR,Qb0,Qc7,Qcs,QC,Qbo,List.length_cons,List.length_nil,List.map_cons,List.map_nil,List.cons_append,List.nil_append,List.append_nil,List.getElem?_cons_zero,List.getElem?_cons_succ,List.set_cons_zero,List.set_cons_succ,List.replicate,Nat.reduceAdd,Nat.reduceSub,Nat.reduceLeDiff,Nat.zero_add,Nat.add_zero,reduceIte,Bool.not_true,Bool.not_false,Bool.true_and,Bool.and_true,Bool.false_and,Bool.and_false,Bool.or_true,Bool.true_or,Bool.or_false,Bool.false_or,Bool.false_eq_true,decide_true,decide_false,decide_eq_true_eq,Bool.not_eq_true',decide_eq_false_iff_not,Int.reduceEq,Int.reduceLT,Int.reduceLE,Int.reduceNeg,Nat.reduceEqDiff, ↓reduceIte,not_true_eq_false,not_false_eq_true]
theorem fr_eq(x:Int×Int):dEq (fr x) (fr x)=.ok (.bl true):=QR6 rfl (show dep (fr x)<=64 from Nat.le_of_ble_eq_true rfl)
theorem QSr(x:Int×Int):Qfd [fr x,fr x]=.ok (.bl true):=by
 have hi:isaT "tuple" (fr x)=.ok true:=by simp[isaT,QaU,fr]
 have hl:fLen [fr x]=.ok (.int 2):=by simp[fLen,fr]
 have hne:dNe (.int 2) (.int 2)=.ok (.bl false):=by rw[Qbo];rfl
 have x0:=fr0 x
 have x1:=fr1 x
 have w0:=Qs7 x.1
 have w1:=Qs7 x.2
 have he:=fr_eq x
 rw[QML]
 unfold Qmx
 (repeat walk_at "e")
theorem QK3(ns:List Int)(k:Nat):∃ v:Int,QbV [.lst (ns.map .int),.int (k:Int)]=.ok (.int v):=by
 have hlen:fLen [.lst (ns.map D.int)]=.ok (.int (ns.length:Int)):=by simp[fLen]
 by_cases h:k<ns.length
 ·have hlt:dLt (.int (k:Int)) (.int (ns.length:Int))=.ok (.bl true):=by rw[QaR,decide_eq_true (by omega)]
  have hix:dIx (.lst (ns.map .int)) (.int (k:Int))=.ok (.int ns[k]):=ixL k (by rw[List.getElem?_map,List.getElem?_eq_getElem h];rfl)
  refine⟨ns[k],?_⟩
  rw[Qzh]
  unfold QiX
  (repeat walk_at "e")
 ·have hlt:dLt (.int (k:Int)) (.int (ns.length:Int))=.ok (.bl false):=by rw[QaR,decide_eq_false (by omega)]
  refine⟨0,?_⟩
  rw[Qzh]
  unfold QiX
  (repeat walk_at "e")
theorem QfA(c:Int){k:Int}(hk:bitsI k<=300):∃ x:Int,0<=x/\x<2305843009213693951/\Qx [.int c,.int k]=.ok (.int x):=by
 have b1:bitsI ((c % 1000000007+7919 * k * k+31 * k+1) * 6364136223846793005 % 2305843009213693951)<=100:=bd_in (Int.emod_nonneg _ (by decide)) (Int.lt_trans (Int.emod_lt_of_pos _ (by decide)) (by decide))
 generalize hy:(c % 1000000007+7919 * k * k+31 * k+1) * 6364136223846793005=y at b1
 have s1:e2 dMul (e2 dAdd (e2 dAdd (e2 dAdd (e2 dMod (eVar 0) (eC (.int 1000000007))) (e2 dMul (e2 dMul (eC (.int 7919)) (eVar 1)) (eVar 1))) (e2 dMul (eC (.int 31)) (eVar 1))) (eC (.int 1))) (eC (.int 6364136223846793005)) [some (.k,.int c),some (.k,.int k),none]=.ok (.int y):=by
  rw[← hy]
  (repeat walk_at "e")
 refine⟨_,Int.emod_nonneg ((y % 2305843009213693951) * (y % 2305843009213693951)) (by decide:(2305843009213693951:Int)≠0),Int.emod_lt_of_pos _ (by decide),?_⟩
 rw[QIE]
 unfold Qkq
 (repeat walk_at "e")
theorem pick8(x:Int):∃ b:Int,0<=b/\b<=9/\dIx (.lst [.int 0,.int 1,.int 0,.int 2,.int 1,.int 0,.int 1,.int 0]) (.int (x % 8))=.ok (.int b):=by
 rcases(by omega:x % 8=0∨x % 8=1∨x % 8=2∨x % 8=3∨x % 8=4∨x % 8=5∨x % 8=6∨x % 8=7) with e | e | e | e | e | e | e | e<;>rw[e]
 ·exact⟨0,by omega,by omega,rfl⟩
 ·exact⟨1,by omega,by omega,rfl⟩
 ·exact⟨0,by omega,by omega,rfl⟩
 ·exact⟨2,by omega,by omega,rfl⟩
 ·exact⟨1,by omega,by omega,rfl⟩
 ·exact⟨0,by omega,by omega,rfl⟩
 ·exact⟨1,by omega,by omega,rfl⟩
 ·exact⟨0,by omega,by omega,rfl⟩
theorem QCW(d:Int){m:Nat}(hm:m<=100):∃ r:List Int,r.length=m/\(∀ x∈r,0<=x/\x<=9)/\QcZ [.int d,.int (m:Int)]=.ok (dl r):=by
 obtain⟨ς',hL,v,r,a3,rfl,hl,hr⟩:=QbK (body:=fun x ς=>gN 3 x ς>>=fun ς'=>QeO ς') (n:=m)
  (P:=fun k ς=>∃(v:Int)(r:List Int)(a3:Option (SM×D)),ς=[some (.k,.int v),some (.k,.int (m:Int)),some (.o,dl r),a3]/\r.length=k/\∀ x∈r,0<=x/\x<=9)
  (by
   rintro k hk ς ⟨v,r,a3,rfl,hl,hr⟩
   obtain⟨b,b0,b9,hb⟩:=pick8 v
   refine⟨[some (.k,.int (v / 8)),some (.k,.int (m:Int)),some (.o,dl (r++[b])),some (.k,.int (k:Int))],?_,v / 8,r++[b],_,rfl,by rw[List.length_append,hl];rfl,fun x hx=>by
    rcases List.mem_append.mp hx with w | w
    ·exact hr x w
    ·rw[List.mem_singleton.mp w];exact⟨b0,b9⟩⟩
   have hle:(r.map D.int).length<=1000:=by rw[List.length_map];omega
   have ea:dl (r++[b])=.lst (r.map D.int++[.int b]):=by unfold dl;simp
   rw[ea]
   show(gN 3 (D.int (k:Int)) [some (.k,.int v),some (.k,.int (m:Int)),some (.o,.lst (r.map D.int)),a3]>>=fun ς'=>QeO ς')=_
   refine r_gN (by walk_at "s") ?_
   unfold QeO
   (repeat walk_at "e"))
  [some (.k,.int d),some (.k,.int (m:Int)),some (.o,.lst []),none] ⟨d,[],_,rfl,rfl,fun x hx=>absurd hx List.not_mem_nil⟩
 have hR:itR1 (eVar 1) [some (.k,.int d),some (.k,.int (m:Int)),some (.o,.lst []),none]=.ok (QbM 0 m):=QcV m (by (repeat walk_at "e")) (by omega)
 have hfor:=QbH (g:=gN 3) (T:=QeO) hR hL
 refine⟨r,hl,hr,?_⟩
 rw[QGe]
 unfold QiA
 (repeat walk_at "e")
inductive Kd:Int->List (List Int)->Nat->Prop where
 | deal (n:Nat) (h1:1<=n) (h2:n<=4):Kd 0 (dealT n) n
 | bun (n:Nat) (h1:1<=n) (h2:n<=4):Kd 1 (bunT n) 1
 | copy (r:List Int) (m:Nat) (h:Tb [r] m) (hm:m<=4):Kd 2 [r] m
 | rows (t:List (List Int)) (m:Nat) (h:Tb t m) (h4:t.length<=4) (hm:m<=4):Kd 3 t m
theorem Kd.tb{w:Int}{t:List (List Int)}{m:Nat}:Kd w t m->Tb t m/\t.length<=4/\m<=4
 | .deal n h1 h2=>⟨QLr h1 (by omega),by simp[dealT];omega,h2⟩
 | .bun n h1 h2=>⟨QOu h1 (by omega),by simp[bunT];omega,by decide⟩
 | .copy _ _ h hm=>⟨h,by simp,hm⟩
 | .rows _ _ h h4 hm=>⟨h,h4,hm⟩
theorem Kd.num{w:Int}{t:List (List Int)}{m:Nat}:Kd w t m->w=0∨w=1∨w=2∨w=3
 | .deal .. => .inl rfl
 | .bun .. => .inr (.inl rfl)
 | .copy .. => .inr (.inr (.inl rfl))
 | .rows .. => .inr (.inr (.inr rfl))
theorem dbl(b:Bool):f1 dInt [.bl b]=.ok (.int (if b=true then 1 else 0)):=by cases b<;>rfl
theorem QQO{w:Int}{t:List (List Int)}{m:Nat}(h:Kd w t m):∃ c,CK.contains c=true/\QcP [.int w,tbD t]=.ok (ck c t m):=by
 have hlen:fLen [tbD t]=.ok (.int (t.length:Int)):=by simp[fLen,tbD]
 have e00:dEq (.int 0) (.int 0)=.ok (.bl true):=by rw[QC];rfl
 have e10:dEq (.int 1) (.int 0)=.ok (.bl false):=by rw[QC];rfl
 have e11:dEq (.int 1) (.int 1)=.ok (.bl true):=by rw[QC];rfl
 have e20:dEq (.int 2) (.int 0)=.ok (.bl false):=by rw[QC];rfl
 have e21:dEq (.int 2) (.int 1)=.ok (.bl false):=by rw[QC];rfl
 have e22:dEq (.int 2) (.int 2)=.ok (.bl true):=by rw[QC];rfl
 have e30:dEq (.int 3) (.int 0)=.ok (.bl false):=by rw[QC];rfl
 have e31:dEq (.int 3) (.int 1)=.ok (.bl false):=by rw[QC];rfl
 have e32:dEq (.int 3) (.int 2)=.ok (.bl false):=by rw[QC];rfl
 cases h with
 | deal _ h1 h2=>
  have hl:(dealT m).length=m:=by simp[dealT]
  rw[hl]at hlen
  have hi:=QNU (c:="Deal") (dk) h1 (by omega)
  refine⟨"Deal",dk,?_⟩
  unfold ck
  rw[Qkp]
  unfold Qet
  (repeat walk_at "e")
 | bun n h1 h2=>
  have hl:(bunT n).length=n:=by simp[bunT]
  rw[hl]at hlen
  have hi:=QQS (c:="Bundle") (dk) h1 (by omega)
  refine⟨"Bundle",dk,?_⟩
  unfold ck
  rw[Qkp]
  unfold Qet
  (repeat walk_at "e")
 | copy r m h hm=>
  have hi:=QOy (c:="Copy") (dk) h
  have hix0:dIx (tbD [r]) (.int 0)=.ok (dl r):=ixL 0 rfl
  have hdl:dList (dl r)=.ok (dl r):=rfl
  refine⟨"Copy",dk,?_⟩
  unfold ck
  rw[Qkp]
  unfold Qet
  (repeat walk_at "e")
 | rows t m h h4 hm=>
  have hi:=QOS (c:="Rows") (dk) h
  have hc:eComp [none] (itL (eVar 1)) (gN 0) cTrue Qs1 [some (.k,.int 3),some (.k,tbD t)]=.ok (tbD t):=by
   refine Qau dl dl rfl (fun x hx=>?_) (by have:=h.n2;omega)
   refine Qax (by walk_at "cap") (by walk_at "s") ?_
   rfl
  refine⟨"Rows",dk,?_⟩
  unfold ck
  rw[Qkp]
  unfold Qet
  (repeat walk_at "e")
theorem QyY{ς ς':SD}{i:Nat}{d:D}(e:ς[i]?=some (some (.o,d)))(h:ς.set i (some (.k,d))=ς'):frz i ς=ς':=by
 unfold frz
 rw[e]
 exact h
theorem QAg{T:SD->Out Fl}{j:Nat}{ς ς1:SD}{r:Out Fl}(hz:frz j ς=ς1)(h:T ς1=r):(fun ς=>T (frz j ς)) ς=r:=by
 show T (frz j ς)=r
 rw[hz];exact h
theorem QBP(t:List (List Int))(r:List Int):tbD (t++[r])=.lst (t.map dl++[dl r]):=by unfold tbD;simp
theorem Qux{N w:Int}{size:Nat}{Pr:Nat->List Int->Prop}(hz:size<=10) (step:∀ s:Nat,s<size->∃ r:List Int,Pr s r/\∀ t:List (List Int),t.length<=100->
 Qap [some (.k,.int N),some (.k,.int w),some (.k,.int (size:Int)),some (.o,tbD t),some (.k,.int (s:Int))]=.ok (.nx [some (.k,.int N),some (.k,.int w),some (.k,.int (size:Int)),some (.o,tbD (t++[r])),some (.k,.int (s:Int))])):
 ∃(t:List (List Int))(a4:Option (SM×D)),t.length=size/\(∀ s,s<size->∃ r,t[s]?=some r/\Pr s r)/\
  sFor (gN 4) (itR1 (eVar 2)) Qap [some (.k,.int N),some (.k,.int w),some (.k,.int (size:Int)),some (.o,.lst []),none]=.ok (.nx [some (.k,.int N),some (.k,.int w),some (.k,.int (size:Int)),some (.o,tbD t),a4]):=by
 obtain⟨ς',hL,t,a4,rfl,hl,hp⟩:=QbK (body:=fun x ς=>gN 4 x ς>>=fun ς'=>Qap ς') (n:=size)
  (P:=fun s ς=>∃(t:List (List Int))(a4:Option (SM×D)),ς=[some (.k,.int N),some (.k,.int w),some (.k,.int (size:Int)),some (.o,tbD t),a4]/\t.length=s/\∀ i,i<s->∃ r,t[i]?=some r/\Pr i r)
  (by
   rintro s hs ς ⟨t,a4,rfl,hl,hp⟩
   obtain⟨r,pr',hr⟩:=step s hs
   refine⟨[some (.k,.int N),some (.k,.int w),some (.k,.int (size:Int)),some (.o,tbD (t++[r])),some (.k,.int (s:Int))],r_gN (by walk_at "s") (hr t (by omega)),t++[r],_,rfl,by rw[List.length_append,hl];rfl,fun i hi=>?_⟩
   by_cases h:i<s
   ·obtain⟨r',h1,h2⟩:=hp i h
    exact⟨r',by rw[List.getElem?_append_left (by omega)];exact h1,h2⟩
   ·have:i=s:=by omega
    subst this
    exact⟨r,by rw[List.getElem?_append_right (by omega),hl];simp,pr'⟩)
  [some (.k,.int N),some (.k,.int w),some (.k,.int (size:Int)),some (.o,.lst []),none] ⟨[],_,rfl,rfl,fun i hi=>absurd hi (by omega)⟩
 have hR:itR1 (eVar 2) [some (.k,.int N),some (.k,.int w),some (.k,.int (size:Int)),some (.o,.lst []),none]=.ok (QbM 0 size):=QcV size (by (repeat walk_at "e")) (by omega)
 exact⟨t,a4,hl,hp,QbH (g:=gN 4) (T:=Qap) hR hL⟩
theorem QLf{t:List (List Int)}{n:Nat}{f:Nat->List Int}(hl:t.length=n)(h:∀ s,s<n->∃ r,t[s]?=some r/\r=f s):t=(List.range n).map f:=by
 apply List.ext_getElem?
 intro i
 rw[List.getElem?_map]
 by_cases hi:i<n
 ·obtain⟨r,h1,h2⟩:=h i hi
  rw[List.getElem?_range hi,h1,h2];rfl
 ·have a:t[i]?=none:=by simp;omega
  have b:(List.range n)[i]?=none:=by simp;omega
  rw[a,b];rfl
theorem QSb{N:Int}(h0:0<=N)(hb:bitsI N<=200):∃ w t m,Kd w t m/\QdX [.int N]=.ok (.tup [.int w,tbD t]):=by
 obtain⟨sz,hsz⟩:∃ n:Nat,1+N / 4 % 4=(n:Int):=⟨(1+N / 4 % 4).toNat,by omega⟩
 have z1:1<=sz:=by omega
 have z4:sz<=4:=by omega
 have g2:∀ w,sSet 2 (e2 dAdd (eC (.int 1)) (e2 dMod (e2 dFdiv (eVar 0) (eC (.int 4))) (eC (.int 4)))) [some (.k,.int N),some (.k,.int w),none,none,none]=.ok (.nx [some (.k,.int N),some (.k,.int w),some (.k,.int (sz:Int)),none,none]):=fun w=>by
  rw[← hsz]
  (repeat walk_at "e")
 have k01:dEq (.int 0) (.int 1)=.ok (.bl false):=by rw[QC];rfl
 have k03:dEq (.int 0) (.int 3)=.ok (.bl false):=by rw[QC];rfl
 have k02:dEq (.int 0) (.int 2)=.ok (.bl false):=by rw[QC];rfl
 have k00:dEq (.int 0) (.int 0)=.ok (.bl true):=by rw[QC];rfl
 have k10:dEq (.int 1) (.int 0)=.ok (.bl false):=by rw[QC];rfl
 have k11:dEq (.int 1) (.int 1)=.ok (.bl true):=by rw[QC];rfl
 have k12:dEq (.int 1) (.int 2)=.ok (.bl false):=by rw[QC];rfl
 have k13:dEq (.int 1) (.int 3)=.ok (.bl false):=by rw[QC];rfl
 have k20:dEq (.int 2) (.int 0)=.ok (.bl false):=by rw[QC];rfl
 have k21:dEq (.int 2) (.int 1)=.ok (.bl false):=by rw[QC];rfl
 have k22:dEq (.int 2) (.int 2)=.ok (.bl true):=by rw[QC];rfl
 have k23:dEq (.int 2) (.int 3)=.ok (.bl false):=by rw[QC];rfl
 have k30:dEq (.int 3) (.int 0)=.ok (.bl false):=by rw[QC];rfl
 have k31:dEq (.int 3) (.int 1)=.ok (.bl false):=by rw[QC];rfl
 have k32:dEq (.int 3) (.int 2)=.ok (.bl false):=by rw[QC];rfl
 have k33:dEq (.int 3) (.int 3)=.ok (.bl true):=by rw[QC];rfl
 have g1:∀ w:Int,N % 4=w->sSet 1 (e2 dMod (eVar 0) (eC (.int 4))) [some (.k,.int N),none,none,none,none]=.ok (.nx [some (.k,.int N),some (.k,.int w),none,none,none]):=fun w e=>by
  rw[← e]
  (repeat walk_at "e")
 have g3:∀ w:Int,sSetO 3 (eLst aNil) [some (.k,.int N),some (.k,.int w),some (.k,.int (sz:Int)),none,none]=.ok (.nx [some (.k,.int N),some (.k,.int w),some (.k,.int (sz:Int)),some (.o,.lst []),none]):=fun w=>by (repeat walk_at "e")
 have fin:∀(w:Int)(t:List (List Int))(a4:Option (SM×D)),(fun ς=>sRet (eTup (aCons (eVar 1) (aCons (eVar 3) aNil))) (frz 3 ς)) [some (.k,.int N),some (.k,.int w),some (.k,.int (sz:Int)),some (.o,tbD t),a4]=.ok (.rt false (.tup [.int w,tbD t])):=fun w t a4=>
  QAg (QyY (i:=3) rfl rfl) (by (repeat walk_at "e"))
 rcases(by omega:N % 4=0∨N % 4=1∨N % 4=2∨N % 4=3) with e | e | e | e
 ·obtain⟨t,a4,hl,hp,hfor⟩:=Qux (N:=N) (w:=0) (size:=sz) (Pr:=fun s r=>r=one sz s) (by omega) (fun s hs=>⟨one sz s,rfl,fun t ht=>by
   have hc:eComp [none,some 4] (itR1 (eVar 2)) (gN 0) cTrue QnY [some (.k,.int N),some (.k,.int 0),some (.k,.int (sz:Int)),some (.o,.lst (t.map dl)),some (.k,.int (s:Int))]=.ok (dl (one sz s)):=by
    have he:dl (one sz s)=.lst ((List.range sz).map fun k:Nat=>D.int (if k=s then 1 else 0)):=by unfold dl one;rw[List.map_map];rfl
    rw[he]
    refine QjM (fun k=>D.int (if k=s then 1 else 0)) (QcV sz rfl (by omega)) (fun k hk=>?_) (by omega)
    refine Qax (by walk_at "cap") (by walk_at "s") ?_
    unfold QnY
    have e:(if k=s then(1:Int) else 0)=(if decide ((k:Int)=(s:Int))=true then 1 else 0):=by
     by_cases e:k=s
     ·rw[if_pos e,if_pos (decide_eq_true (by omega))]
     ·rw[if_neg e,if_neg (by simp;omega)]
    rw[e]
    (repeat (first | with_reducible exact dbl _ | walk_at "e"))
   have hle:(t.map dl).length<=1000:=by rw[List.length_map];omega
   rw[QBP]
   show Qap [some (.k,.int N),some (.k,.int 0),some (.k,.int (sz:Int)),some (.o,.lst (t.map dl)),some (.k,.int (s:Int))]=_
   unfold Qap
   (repeat walk_at "e")⟩)
  have et:t=dealT sz:=QLf hl hp
  refine⟨0,dealT sz,sz,.deal sz z1 z4,?_⟩
  rw[et]at hfor
  have fin':=fin 0 (dealT sz) a4
  rw[Qmv]
  unfold Qfb
  have:=g1 0 e
  (repeat (first | with_reducible exact g2 _ | with_reducible exact g3 _ | walk_at "e"))
 ·obtain⟨t,a4,hl,hp,hfor⟩:=Qux (N:=N) (w:=1) (size:=sz) (Pr:=fun s r=>r=[if s+1=sz then 1 else 0]) (by omega) (fun s hs=>⟨[if s+1=sz then 1 else 0],rfl,fun t ht=>by
   have e:(if s+1=sz then(1:Int) else 0)=(if decide ((s:Int)=(sz:Int) - 1)=true then 1 else 0):=by
    by_cases e:s+1=sz
    ·rw[if_pos e,if_pos (decide_eq_true (by omega))]
    ·rw[if_neg e,if_neg (by simp;omega)]
   have hle:(t.map dl).length<=1000:=by rw[List.length_map];omega
   rw[QBP,e]
   show Qap [some (.k,.int N),some (.k,.int 1),some (.k,.int (sz:Int)),some (.o,.lst (t.map dl)),some (.k,.int (s:Int))]=Out.ok (Fl.nx [_,_,_,some (.o,.lst (t.map dl++[.lst [.int (if decide ((s:Int)=(sz:Int) - 1)=true then 1 else 0)]])),_])
   unfold Qap
   (repeat (first | with_reducible exact dbl _ | walk_at "e"))⟩)
  have et:t=bunT sz:=QLf hl hp
  refine⟨1,bunT sz,1,.bun sz z1 z4,?_⟩
  rw[et]at hfor
  have fin':=fin 1 (bunT sz) a4
  rw[Qmv]
  unfold Qfb
  have:=g1 1 e
  (repeat (first | with_reducible exact g2 _ | with_reducible exact g3 _ | walk_at "e"))
 ·have hloop:∃ a4,sFor (gN 4) (itR1 (eVar 2)) Qap [some (.k,.int N),some (.k,.int 2),some (.k,.int (sz:Int)),some (.o,.lst []),none]=.ok (.nx [some (.k,.int N),some (.k,.int 2),some (.k,.int (sz:Int)),some (.o,.lst []),a4]):=by
   obtain⟨ς',hL,a4,rfl⟩:=QbK (body:=fun x ς=>gN 4 x ς>>=fun ς'=>Qap ς') (n:=sz)
    (P:=fun s ς=>∃(a4:Option (SM×D)),ς=[some (.k,.int N),some (.k,.int 2),some (.k,.int (sz:Int)),some (.o,.lst []),a4])
    (by
     rintro s hs ς ⟨a4,rfl⟩
     refine⟨[some (.k,.int N),some (.k,.int 2),some (.k,.int (sz:Int)),some (.o,.lst []),some (.k,.int (s:Int))],?_,_,rfl⟩
     refine r_gN (by walk_at "s") ?_
     unfold Qap
     (repeat walk_at "e"))
    [some (.k,.int N),some (.k,.int 2),some (.k,.int (sz:Int)),some (.o,.lst []),none] ⟨_,rfl⟩
   have hR:itR1 (eVar 2) [some (.k,.int N),some (.k,.int 2),some (.k,.int (sz:Int)),some (.o,.lst []),none]=.ok (QbM 0 sz):=QcV sz (by (repeat walk_at "e")) (by omega)
   exact⟨a4,QbH (g:=gN 4) (T:=Qap) hR hL⟩
  obtain⟨a4,hfor⟩:=hloop
  obtain⟨r,hr,hr9,hc⟩:=QCW (N / 64) (m:=sz - 1) (by omega)
  have ec:((sz - 1:Nat):Int)=(sz:Int) - 1:=by omega
  rw[ec]at hc
  refine⟨2,[r],sz - 1,.copy r (sz - 1) ⟨by simp,by simp,by omega,fun x hx=>by rw[List.mem_singleton.mp hx];exact hr,fun x hx=>by rw[List.mem_singleton.mp hx];exact hr9⟩ (by omega),?_⟩
  have fin':=fin 2 [r] a4
  have fin':(fun ς=>sRet (eTup (aCons (eVar 1) (aCons (eVar 3) aNil))) (frz 3 ς)) [some (.k,.int N),some (.k,.int 2),some (.k,.int (sz:Int)),some (.o,.lst [dl r]),a4]=.ok (.rt false (.tup [.int 2,tbD [r]])):=fin'
  rw[Qmv]
  unfold Qfb
  have:=g1 2 e
  (repeat (first | with_reducible exact g2 _ | with_reducible exact g3 _ | walk_at "e"))
 ·obtain⟨ot,hot⟩:∃ n:Nat,N / 16 % 4=(n:Int):=⟨(N / 16 % 4).toNat,by omega⟩
  have o4:ot<=4:=by omega
  obtain⟨t,a4,hl,hp,hfor⟩:=Qux (N:=N) (w:=3) (size:=sz) (Pr:=fun s r=>r.length=ot/\∀ x∈r,0<=x/\x<=9) (by omega) (fun s hs=>by
   obtain⟨r,hr,hr9,hc⟩:=QCW (N / 64+48271 * (s:Int) * (s:Int)) (m:=ot) (by omega)
   refine⟨r,⟨hr,hr9⟩,fun t ht=>?_⟩
   rw[← hot]at hc
   have bs:bitsI (s:Int)<=100:=QuC (Nat.lt_of_lt_of_le hs (Nat.le_trans z4 (by decide)))
   have hle:(t.map dl).length<=1000:=by rw[List.length_map];omega
   rw[QBP]
   show Qap [some (.k,.int N),some (.k,.int 3),some (.k,.int (sz:Int)),some (.o,.lst (t.map dl)),some (.k,.int (s:Int))]=_
   unfold Qap
   (repeat walk_at "e"))
  have tb:Tb t ot:=⟨by omega,by omega,by omega,fun r hr=>by
   obtain⟨i,hi,e⟩:=List.getElem_of_mem hr
   obtain⟨r',h1,h2⟩:=hp i (by omega)
   rw[List.getElem?_eq_getElem hi,e]at h1
   cases h1;exact h2.1,fun r hr=>by
   obtain⟨i,hi,e⟩:=List.getElem_of_mem hr
   obtain⟨r',h1,h2⟩:=hp i (by omega)
   rw[List.getElem?_eq_getElem hi,e]at h1
   cases h1;exact h2.2⟩
  refine⟨3,t,ot,.rows t ot tb (by omega) o4,?_⟩
  have fin':=fin 3 t a4
  rw[Qmv]
  unfold Qfb
  have:=g1 3 e
  (repeat (first | with_reducible exact g2 _ | with_reducible exact g3 _ | walk_at "e"))
theorem QyR(n:Nat)(f:Nat->D)(d:D):(List.range n).map f++[d]=(List.range (n+1)).map fun i=>if i<n then f i else d:=by
 rw[List.range_succ,List.map_append]
 congr 1
 ·exact List.map_congr_left fun j hj=>by rw[if_pos (List.mem_range.mp hj)]
 ·show [d]=[if n<n then f n else d];rw[if_neg (by omega)]
section
variable{n nd:Nat}(n1:1<=n)(n5:n<=5)(d1:1<=nd)(d3:nd<=3){S:D}{f0 num:Int}{ring:Bool}{PL:D}{kd:Int}{t:List (List Int)}{m:Nat}(tb:Tb t m)(m4:m<=4)(hnum:bitsI num<=300)
include n1 n5 d1 d3 tb m4 hnum
theorem QMo{k:Nat}(hk:k<n){a11 a12:Option (SM×D)}:∃(ld:Nat->Int)(b11 b12:Option (SM×D)),(∀ j,j<m -> -(nd:Int)<=ld j/\ld j<(n:Int))/\
 sFor (gN 11) (itR1 (eA fLen (aCons (e2 dIx (eVar 9) (eC (.int 0))) aNil))) Qgn [some (.k,S),some (.k,.int f0),some (.k,.int (n:Int)),some (.k,.int (nd:Int)),some (.k,.bl ring),some (.o,PL),some (.k,.int (k:Int)),some (.k,.int num),some (.k,.int kd),some (.k,tbD t),some (.o,.lst []),a11,a12]
  = .ok (.nx [some (.k,S),some (.k,.int f0),some (.k,.int (n:Int)),some (.k,.int (nd:Int)),some (.k,.bl ring),some (.o,PL),some (.k,.int (k:Int)),some (.k,.int num),some (.k,.int kd),some (.k,tbD t),some (.o,rl m (fun j=>.int (ld j))),b11,b12]):=by
 have t1:=tb.n1
 have r0:t[0]?=some t[0]:=by simp
 have hix:dIx (tbD t) (.int 0)=.ok (dl t[0]):=ixL 0 (by rw[List.getElem?_map,r0];rfl)
 have hl0:fLen [dl t[0]]=.ok (.int (m:Int)):=by simp[fLen,dl,tb.row _ (List.getElem_mem _)]
 have np:(0:Int)<(n:Int)+(nd:Int):=by omega
 have dp:(0:Int)<(nd:Int):=by omega
 obtain⟨ς',hL,ld,b11,b12,rfl,hld⟩:=QbK (body:=fun x ς=>gN 11 x ς>>=fun ς'=>Qgn ς') (n:=m)
  (P:=fun j ς=>∃(ld:Nat->Int)(b11 b12:Option (SM×D)),ς=[some (.k,S),some (.k,.int f0),some (.k,.int (n:Int)),some (.k,.int (nd:Int)),some (.k,.bl ring),some (.o,PL),some (.k,.int (k:Int)),some (.k,.int num),some (.k,.int kd),some (.k,tbD t),some (.o,rl j (fun j=>.int (ld j))),b11,b12]/\∀ i,i<j -> -(nd:Int)<=ld i/\ld i<(n:Int))
  (by
   rintro j hj ς ⟨ld,b11,b12,rfl,hld⟩
   obtain⟨x,x0,x1,hx⟩:=QfA num (k:=(j:Int)) (QuC (Nat.lt_of_lt_of_le hj (Nat.le_trans m4 (by decide))))
   have y0:=Int.emod_nonneg x (show(n:Int)+(nd:Int)≠0 by omega)
   have y1:=Int.emod_lt_of_pos x np
   have hdiv:e2 dMod (eA (fun xs=>Qx (xs++[])) (aCons (eVar 7) (aCons (eVar 11) aNil))) (e2 dAdd (eVar 2) (eVar 3)) [some (.k,S),some (.k,.int f0),some (.k,.int (n:Int)),some (.k,.int (nd:Int)),some (.k,.bl ring),some (.o,PL),some (.k,.int (k:Int)),some (.k,.int num),some (.k,.int kd),some (.k,tbD t),some (.o,rl j (fun j=>.int (ld j))),some (.k,.int (j:Int)),b12]=.ok (.int (x % ((n:Int)+(nd:Int)))):=by (repeat walk_at "e")
   generalize x % ((n:Int)+(nd:Int))=y at *
   have hto:∃ z:Int,0<=z/\z<(n:Int)+(nd:Int)/\sIf (tAnd' (tNot' (tVal (eVar 4))) (tVal (e2 dLe (eVar 12) (eVar 6)))) (sSet 12 (e2 dAdd (eVar 2) (e2 dMod (eVar 12) (eVar 3)))) sNil [some (.k,S),some (.k,.int f0),some (.k,.int (n:Int)),some (.k,.int (nd:Int)),some (.k,.bl ring),some (.o,PL),some (.k,.int (k:Int)),some (.k,.int num),some (.k,.int kd),some (.k,tbD t),some (.o,rl j (fun j=>.int (ld j))),some (.k,.int (j:Int)),some (.k,.int y)]
    = .ok (.nx [some (.k,S),some (.k,.int f0),some (.k,.int (n:Int)),some (.k,.int (nd:Int)),some (.k,.bl ring),some (.o,PL),some (.k,.int (k:Int)),some (.k,.int num),some (.k,.int kd),some (.k,tbD t),some (.o,rl j (fun j=>.int (ld j))),some (.k,.int (j:Int)),some (.k,.int z)]):=by
    cases ring with
    | true=>
     refine⟨y,y0,y1,?_⟩
     (repeat walk_at "e")
    | false=>
     by_cases h:y<=(k:Int)
     ·have w0:=Int.emod_nonneg y (show(nd:Int)≠0 by omega)
      have w1:=Int.emod_lt_of_pos y dp
      have hle:dLe (.int y) (.int (k:Int))=.ok (.bl true):=by rw[Qb0,decide_eq_true h]
      refine⟨(n:Int)+y % (nd:Int),by omega,by omega,?_⟩
      (repeat walk_at "e")
     ·have hle:dLe (.int y) (.int (k:Int))=.ok (.bl false):=by rw[Qb0,decide_eq_false h]
      refine⟨y,y0,y1,?_⟩
      (repeat walk_at "e")
   obtain⟨z,z0,z1,hz⟩:=hto
   have hl:∃ v:Int, -(nd:Int)<=v/\v<(n:Int)/\eIf (tVal (e2 dLt (eVar 12) (eVar 2))) (eVar 12) (e2 dSub (e2 dSub (eVar 2) (eC (.int 1))) (eVar 12)) [some (.k,S),some (.k,.int f0),some (.k,.int (n:Int)),some (.k,.int (nd:Int)),some (.k,.bl ring),some (.o,PL),some (.k,.int (k:Int)),some (.k,.int num),some (.k,.int kd),some (.k,tbD t),some (.o,rl j (fun j=>.int (ld j))),some (.k,.int (j:Int)),some (.k,.int z)]=.ok (.int v):=by
    by_cases h:z<(n:Int)
    ·have hlt:dLt (.int z) (.int (n:Int))=.ok (.bl true):=by rw[QaR,decide_eq_true h]
     refine⟨z,by omega,h,?_⟩
     (repeat walk_at "e")
    ·have hlt:dLt (.int z) (.int (n:Int))=.ok (.bl false):=by rw[QaR,decide_eq_false h]
     refine⟨(n:Int) - 1 - z,by omega,by omega,?_⟩
     (repeat walk_at "e")
   obtain⟨v,v0,v1,hv⟩:=hl
   have ea:(List.range j).map (fun j=>D.int (ld j))++[.int v]=(List.range (j+1)).map (fun i=>D.int ((fun i=>if i<j then ld i else v) i)):=by
    rw[QyR]
    exact List.map_congr_left fun i _=>by show(if i<j then D.int (ld i) else .int v)=.int (if i<j then ld i else v);split<;>rfl
   have hle:((List.range j).map (fun j=>D.int (ld j))).length<=1000:=by rw[List.length_map,List.length_range];omega
   refine⟨[some (.k,S),some (.k,.int f0),some (.k,.int (n:Int)),some (.k,.int (nd:Int)),some (.k,.bl ring),some (.o,PL),some (.k,.int (k:Int)),some (.k,.int num),some (.k,.int kd),some (.k,tbD t),some (.o,rl (j+1) (fun i=>.int ((fun i=>if i<j then ld i else v) i))),some (.k,.int (j:Int)),some (.k,.int z)],?_,fun i=>if i<j then ld i else v,_,_,rfl,fun i hi=>?_⟩
   ·show _=Out.ok (Fl.nx [_,_,_,_,_,_,_,_,_,_,some (.o,.lst ((List.range (j+1)).map (fun i=>D.int ((fun i=>if i<j then ld i else v) i)))),_,_])
    rw[← ea]
    refine r_gN (by walk_at "s") ?_
    unfold Qgn
    (repeat walk_at "e")
   ·show -(nd:Int)<=(if i<j then ld i else v)/\(if i<j then ld i else v)<(n:Int)
    split
    ·rename_i w;exact hld i w
    ·exact⟨v0,v1⟩)
  [some (.k,S),some (.k,.int f0),some (.k,.int (n:Int)),some (.k,.int (nd:Int)),some (.k,.bl ring),some (.o,PL),some (.k,.int (k:Int)),some (.k,.int num),some (.k,.int kd),some (.k,tbD t),some (.o,.lst []),a11,a12] ⟨fun _=>0,_,_,rfl,fun i hi=>absurd hi (by omega)⟩
 have hR:itR1 (eA fLen (aCons (e2 dIx (eVar 9) (eC (.int 0))) aNil)) [some (.k,S),some (.k,.int f0),some (.k,.int (n:Int)),some (.k,.int (nd:Int)),some (.k,.bl ring),some (.o,PL),some (.k,.int (k:Int)),some (.k,.int num),some (.k,.int kd),some (.k,tbD t),some (.o,.lst []),a11,a12]=.ok (QbM 0 m):=QcV m (by (repeat walk_at "e")) (by omega)
 exact⟨ld,b11,b12,hld,QbH (g:=gN 11) (T:=Qgn) hR hL⟩
end
structure Plan(n nd:Nat)(kd:Nat->Int)(t:Nat->List (List Int))(m:Nat->Nat)(ld:Nat->Nat->Int)(st:Nat->Int)(N:Nat):Prop where
 kd:∀ k,k<N->Kd (kd k) (t k) (m k)
 ldr:∀ k j,k<N->j<m k -> -(nd:Int)<=ld k j/\ld k j<(n:Int)
 str:∀ k,k<N->0<=st k/\st k<((t k).length:Int)
theorem QSd(ns:List Int):∃(n nd:Nat)(kd:Nat->Int)(t:Nat->List (List Int))(m:Nat->Nat)(ld:Nat->Nat->Int)(st:Nat->Int),1<=n/\n<=5/\1<=nd/\nd<=3/\Plan n nd kd t m ld st n/\
 Qfj [.lst (ns.map .int)]=.ok (.tup [rl n (planD kd t m ld st),.int (nd:Int)]):=by
 obtain⟨v,hv⟩:=QK3 ns 0
 have hv:QbV [.lst (ns.map .int),.int 0]=.ok (.int v):=hv
 obtain⟨x,x0,x1,hx⟩:=QfA v (k:=0) (QuK rfl)
 obtain⟨y,y0,y1,hy⟩:=QfA v (k:=1) (QuK rfl)
 obtain⟨z,z0,z1,hz⟩:=QfA v (k:=2) (QuK rfl)
 obtain⟨n,hn⟩:∃ n:Nat,1+x % 5=(n:Int):=⟨(1+x % 5).toNat,by omega⟩
 obtain⟨nd,hnd⟩:∃ n:Nat,1+y % 3=(n:Int):=⟨(1+y % 3).toNat,by omega⟩
 have n1:1<=n:=by omega
 have n5:n<=5:=by omega
 have d1:1<=nd:=by omega
 have d3:nd<=3:=by omega
 generalize hS:D.lst (ns.map .int)=S at *
 have cell:∀ k:Nat,∃ w:Int,QbV [S,.int (k:Int)]=.ok (.int w):=fun k=>by rw[← hS];exact QK3 ns k
 generalize hr:decide (z % 2=1)=ring
 obtain⟨ς',hL,kd,t,m,ld,st,a6,a7,a8,a9,a10,a11,a12,rfl,pl⟩:=QbK (body:=fun x ς=>gN 6 x ς>>=fun ς'=>QiO ς') (n:=n)
  (P:=fun N ς=>∃(kd:Nat->Int)(t:Nat->List (List Int))(m:Nat->Nat)(ld:Nat->Nat->Int)(st:Nat->Int)(a6 a7 a8 a9 a10 a11 a12:Option (SM×D)),ς=[some (.k,S),some (.k,.int v),some (.k,.int (n:Int)),some (.k,.int (nd:Int)),some (.k,.bl ring),some (.o,rl N (planD kd t m ld st)),a6,a7,a8,a9,a10,a11,a12]/\Plan n nd kd t m ld st N)
  (by
   rintro k hk ς ⟨kd,t,m,ld,st,a6,a7,a8,a9,a10,a11,a12,rfl,pl⟩
   obtain⟨w,hw⟩:=cell (1+k)
   have hw:QbV [S,.int (1+(k:Int))]=.ok (.int w):=by
    have e:(((1+k:Nat)):Int)=1+(k:Int):=by omega
    rw[e]at hw;exact hw
   have bk:bitsI ((k:Int)+3)<=300:=Nat.le_trans (QS (show((k:Int)+3).natAbs<2 ^ 10 by omega)) (by decide)
   obtain⟨num,m0,m1,hm⟩:=QfA w (k:=(k:Int)+3) bk
   have bnum:bitsI num<=100:=bd_in m0 (Int.lt_trans m1 (by decide))
   obtain⟨w',t',m',K',hrow⟩:=QSb (N:=num / 7) (by omega) (Nat.le_trans (QkJ bnum) (by decide))
   obtain⟨tb',t4',m4'⟩:=K'.tb
   obtain⟨ld',b11,b12,hld',hfor⟩:=QMo n1 n5 d1 d3 (S:=S) (f0:=v) (num:=num) (ring:=ring) (PL:=rl k (planD kd t m ld st)) (kd:=w') tb' m4' (Nat.le_trans bnum (by decide)) hk (a11:=a11) (a12:=a12)
   have t1':=tb'.n1
   have tl:fLen [tbD t']=.ok (.int (t'.length:Int)):=by simp[fLen,tbD]
   have tp:(0:Int)<(t'.length:Int):=by omega
   have s0:=Int.emod_nonneg (num % 7) (show(t'.length:Int)≠0 by omega)
   have s1:=Int.emod_lt_of_pos (num % 7) tp
   have hle:((List.range k).map (planD kd t m ld st)).length<=1000:=by rw[List.length_map,List.length_range];omega
   have hz':(fun ς=>QbF 5 (eTup (aCons (eVar 8) (aCons (eVar 9) (aCons (eVar 10) (aCons (e2 dMod (e2 dMod (eVar 7) (eC (.int 7))) (eA fLen (aCons (eVar 9) aNil))) aNil))))) (frz 10 ς)) [some (.k,S),some (.k,.int v),some (.k,.int (n:Int)),some (.k,.int (nd:Int)),some (.k,.bl ring),some (.o,rl k (planD kd t m ld st)),some (.k,.int (k:Int)),some (.k,.int num),some (.k,.int w'),some (.k,tbD t'),some (.o,rl m' (fun j=>.int (ld' j))),b11,b12]
    = .ok (.nx [some (.k,S),some (.k,.int v),some (.k,.int (n:Int)),some (.k,.int (nd:Int)),some (.k,.bl ring),some (.o,.lst ((List.range k).map (planD kd t m ld st)++[.tup [.int w',tbD t',rl m' (fun j=>.int (ld' j)),.int (num % 7 % (t'.length:Int))]])),some (.k,.int (k:Int)),some (.k,.int num),some (.k,.int w'),some (.k,tbD t'),some (.k,rl m' (fun j=>.int (ld' j))),b11,b12]):=by
    refine QAg (T:=QbF 5 (eTup (aCons (eVar 8) (aCons (eVar 9) (aCons (eVar 10) (aCons (e2 dMod (e2 dMod (eVar 7) (eC (.int 7))) (eA fLen (aCons (eVar 9) aNil))) aNil)))))) (QyY (i:=10) rfl rfl) ?_
    refine r_app (xs:=(List.range k).map (planD kd t m ld st)) (d:=.tup [.int w',tbD t',rl m' (fun j=>.int (ld' j)),.int (num % 7 % (t'.length:Int))]) rfl ?_ hle rfl
    (repeat walk_at "e")
   refine⟨[some (.k,S),some (.k,.int v),some (.k,.int (n:Int)),some (.k,.int (nd:Int)),some (.k,.bl ring),some (.o,.lst ((List.range k).map (planD kd t m ld st)++[.tup [.int w',tbD t',rl m' (fun j=>.int (ld' j)),.int (num % 7 % (t'.length:Int))]])),some (.k,.int (k:Int)),some (.k,.int num),some (.k,.int w'),some (.k,tbD t'),some (.k,rl m' (fun j=>.int (ld' j))),b11,b12],?_,
    fun i=>if i<k then kd i else w',fun i=>if i<k then t i else t',fun i=>if i<k then m i else m',fun i=>if i<k then ld i else ld',fun i=>if i<k then st i else num % 7 % (t'.length:Int),some (.k,.int (k:Int)),some (.k,.int num),some (.k,.int w'),some (.k,tbD t'),some (.k,rl m' (fun j=>.int (ld' j))),b11,b12,?_,?_⟩
   ·refine r_gN (by walk_at "s") ?_
    unfold QiO
    have s10:sSetO 10 (eLst aNil) [some (.k,S),some (.k,.int v),some (.k,.int (n:Int)),some (.k,.int (nd:Int)),some (.k,.bl ring),some (.o,rl k (planD kd t m ld st)),some (.k,.int (k:Int)),some (.k,.int num),some (.k,.int w'),some (.k,tbD t'),a10,a11,a12]=.ok (.nx [some (.k,S),some (.k,.int v),some (.k,.int (n:Int)),some (.k,.int (nd:Int)),some (.k,.bl ring),some (.o,rl k (planD kd t m ld st)),some (.k,.int (k:Int)),some (.k,.int num),some (.k,.int w'),some (.k,tbD t'),some (.o,.lst []),a11,a12]):=by (repeat walk_at "e")
    have s8:sUnp [8,9] (eA (fun xs=>QdX (xs++[])) (aCons (e2 dFdiv (eVar 7) (eC (.int 7))) aNil)) [some (.k,S),some (.k,.int v),some (.k,.int (n:Int)),some (.k,.int (nd:Int)),some (.k,.bl ring),some (.o,rl k (planD kd t m ld st)),some (.k,.int (k:Int)),some (.k,.int num),a8,a9,a10,a11,a12]=.ok (.nx [some (.k,S),some (.k,.int v),some (.k,.int (n:Int)),some (.k,.int (nd:Int)),some (.k,.bl ring),some (.o,rl k (planD kd t m ld st)),some (.k,.int (k:Int)),some (.k,.int num),some (.k,.int w'),some (.k,tbD t'),a10,a11,a12]):=by (repeat walk_at "e")
    have s7:sSet 7 (eA (fun xs=>Qx (xs++[])) (aCons (eA (fun xs=>QbV (xs++[])) (aCons (eVar 0) (aCons (e2 dAdd (eC (.int 1)) (eVar 6)) aNil))) (aCons (e2 dAdd (eVar 6) (eC (.int 3))) aNil))) [some (.k,S),some (.k,.int v),some (.k,.int (n:Int)),some (.k,.int (nd:Int)),some (.k,.bl ring),some (.o,rl k (planD kd t m ld st)),some (.k,.int (k:Int)),a7,a8,a9,a10,a11,a12]=.ok (.nx [some (.k,S),some (.k,.int v),some (.k,.int (n:Int)),some (.k,.int (nd:Int)),some (.k,.bl ring),some (.o,rl k (planD kd t m ld st)),some (.k,.int (k:Int)),some (.k,.int num),a8,a9,a10,a11,a12]):=by (repeat walk_at "e")
    exact r_seq s7 (QtY (r_seq s8 (QtY (r_seq s10 (QtY (r_seq hfor (QtY hz')))))))
   ·have ea:(List.range k).map (planD kd t m ld st)++[.tup [.int w',tbD t',rl m' (fun j=>.int (ld' j)),.int (num % 7 % (t'.length:Int))]]=(List.range (k+1)).map (planD (fun i=>if i<k then kd i else w') (fun i=>if i<k then t i else t') (fun i=>if i<k then m i else m') (fun i=>if i<k then ld i else ld') (fun i=>if i<k then st i else num % 7 % (t'.length:Int))):=by
     rw[QyR]
     refine List.map_congr_left fun i hi=>?_
     unfold planD
     by_cases h:i<k
     ·simp only[if_pos h]
     ·simp only[if_neg h]
    rw[ea]
   ·refine⟨fun i hi=>?_,fun i j hi hj=>?_,fun i hi=>?_⟩
    ·by_cases h:i<k
     ·simp only[if_pos h];exact pl.kd i h
     ·simp only[if_neg h];exact K'
    ·by_cases h:i<k
     ·simp only[if_pos h]at hj ⊢;exact pl.ldr i j h hj
     ·simp only[if_neg h]at hj ⊢;exact hld' j hj
    ·by_cases h:i<k
     ·simp only[if_pos h];exact pl.str i h
     ·simp only[if_neg h];exact⟨s0,s1⟩)
  [some (.k,S),some (.k,.int v),some (.k,.int (n:Int)),some (.k,.int (nd:Int)),some (.k,.bl ring),some (.o,.lst []),none,none,none,none,none,none,none] ⟨fun _=>0,fun _=>[],fun _=>0,fun _ _=>0,fun _=>0,_,_,_,_,_,_,_,rfl,⟨fun i hi=>absurd hi (by omega),fun i j hi=>absurd hi (by omega),fun i hi=>absurd hi (by omega)⟩⟩
 have hR:itR1 (eVar 2) [some (.k,S),some (.k,.int v),some (.k,.int (n:Int)),some (.k,.int (nd:Int)),some (.k,.bl ring),some (.o,.lst []),none,none,none,none,none,none,none]=.ok (QbM 0 n):=QcV n (by (repeat walk_at "e")) (by omega)
 have hfor:=QbH (g:=gN 6) (T:=QiO) hR hL
 refine⟨n,nd,kd,t,m,ld,st,n1,n5,d1,d3,pl,?_⟩
 have g2:sSet 2 (e2 dAdd (eC (.int 1)) (e2 dMod (eA (fun xs=>Qx (xs++[])) (aCons (eVar 1) (aCons (eC (.int 0)) aNil))) (eC (.int 5)))) [some (.k,S),some (.k,.int v),none,none,none,none,none,none,none,none,none,none,none]=.ok (.nx [some (.k,S),some (.k,.int v),some (.k,.int (n:Int)),none,none,none,none,none,none,none,none,none,none]):=by
  rw[← hn]
  (repeat walk_at "e")
 have g3:sSet 3 (e2 dAdd (eC (.int 1)) (e2 dMod (eA (fun xs=>Qx (xs++[])) (aCons (eVar 1) (aCons (eC (.int 1)) aNil))) (eC (.int 3)))) [some (.k,S),some (.k,.int v),some (.k,.int (n:Int)),none,none,none,none,none,none,none,none,none,none]=.ok (.nx [some (.k,S),some (.k,.int v),some (.k,.int (n:Int)),some (.k,.int (nd:Int)),none,none,none,none,none,none,none,none,none]):=by
  rw[← hnd]
  (repeat walk_at "e")
 have g4:sSet 4 (e2 dEq (e2 dMod (eA (fun xs=>Qx (xs++[])) (aCons (eVar 1) (aCons (eC (.int 2)) aNil))) (eC (.int 2))) (eC (.int 1))) [some (.k,S),some (.k,.int v),some (.k,.int (n:Int)),some (.k,.int (nd:Int)),none,none,none,none,none,none,none,none,none]=.ok (.nx [some (.k,S),some (.k,.int v),some (.k,.int (n:Int)),some (.k,.int (nd:Int)),some (.k,.bl ring),none,none,none,none,none,none,none,none]):=by
  rw[← hr]
  (repeat walk_at "e")
 have fin:(fun ς=>sRet (eTup (aCons (eVar 5) (aCons (eVar 3) aNil))) (frz 5 ς)) [some (.k,S),some (.k,.int v),some (.k,.int (n:Int)),some (.k,.int (nd:Int)),some (.k,.bl ring),some (.o,rl n (planD kd t m ld st)),a6,a7,a8,a9,a10,a11,a12]=.ok (.rt false (.tup [rl n (planD kd t m ld st),.int (nd:Int)])):=QAg (T:=sRet (eTup (aCons (eVar 5) (aCons (eVar 3) aNil)))) (QyY (i:=5) rfl rfl) (by (repeat walk_at "e"))
 rw[QMt]
 unfold Qmj
 (repeat walk_at "e")
def lt(k:Nat):Str:=match k with | 0=>"a" | 1=>"b" | 2=>"c" | 3=>"d" | 4=>"e" | _=>"f"
def nmC(k:Nat):Str:=match k with | 0=>"ca" | 1=>"cb" | 2=>"cc" | 3=>"cd" | 4=>"ce" | _=>"cf"
def dnC(k:Nat):Str:=match k with | 0=>"da" | 1=>"db" | 2=>"dc" | 3=>"dd" | 4=>"de" | _=>"df"
theorem lt_ok{k:Nat}(h:k<5):dIx (.str "abcdef") (.int (k:Int))=.ok (.str (lt k)):=by
 rcases(by omega:k=0∨k=1∨k=2∨k=3∨k=4) with rfl | rfl | rfl | rfl | rfl<;>with_unfolding_all rfl
theorem nm_ok{k:Nat}(h:k<5):dAdd (.str "c") (.str (lt k))=.ok (.str (nmC k)):=by
 rcases(by omega:k=0∨k=1∨k=2∨k=3∨k=4) with rfl | rfl | rfl | rfl | rfl<;>with_unfolding_all rfl
theorem dn_ok{k:Nat}(h:k<5):dAdd (.str "d") (.str (lt k))=.ok (.str (dnC k)):=by
 rcases(by omega:k=0∨k=1∨k=2∨k=3∨k=4) with rfl | rfl | rfl | rfl | rfl<;>with_unfolding_all rfl
theorem QTO{k:Nat}(h:k<5):Qba [.str (nmC k)]=.ok (.bl true):=by
 rcases(by omega:k=0∨k=1∨k=2∨k=3∨k=4) with rfl | rfl | rfl | rfl | rfl<;>with_unfolding_all rfl
theorem QUC{k:Nat}(h:k<5):Qba [.str (dnC k)]=.ok (.bl true):=by
 rcases(by omega:k=0∨k=1∨k=2∨k=3∨k=4) with rfl | rfl | rfl | rfl | rfl<;>with_unfolding_all rfl
theorem QTy{i j:Nat}(hi:i<5)(hj:j<5)(e:nmC i=nmC j):i=j:=by
 have key:∀ a b:Fin 5,nmC a=nmC b->a=b:=dk
 have:=key ⟨i,hi⟩ ⟨j,hj⟩ e
 simpa using this
theorem QUm{i j:Nat}(hi:i<5)(hj:j<5)(e:dnC i=dnC j):i=j:=by
 have key:∀ a b:Fin 5,dnC a=dnC b->a=b:=dk
 have:=key ⟨i,hi⟩ ⟨j,hj⟩ e
 simpa using this
theorem QTE{i j:Nat}(hi:i<5)(hj:j<5):nmC i≠dnC j:=by
 have key:∀ a b:Fin 5,nmC a≠dnC b:=dk
 exact key ⟨i,hi⟩ ⟨j,hj⟩
theorem QNO{n nd:Nat}{kd:Nat->Int}{t:Nat->List (List Int)}{m:Nat->Nat}{ld:Nat->Nat->Int}{st:Nat->Int}(n1:1<=n)(n5:n<=5)(d1:1<=nd)(d3:nd<=3)(pl:Plan n nd kd t m ld st n):
 ∃ c:Nat->Str,Seats n nd nmC dnC c t m ld st/\Qdw [rl n (planD kd t m ld st),.int (nd:Int)]=.ok (offD n nd nmC dnC c t m ld st):=by
 have H:∀ k,∃ c:Str,k<n->CK.contains c=true/\QcP [.int (kd k),tbD (t k)]=.ok (ck c (t k) (m k)):=fun k=>by
  by_cases h:k<n
  ·obtain⟨c,h1,h2⟩:=QQO (pl.kd k h)
   exact⟨c,fun _=>⟨h1,h2⟩⟩
  ·exact⟨"Copy",fun z=>absurd z h⟩
 obtain⟨c,hc⟩:∃ c:Nat->Str,∀ k,k<n->CK.contains (c k)=true/\QcP [.int (kd k),tbD (t k)]=.ok (ck (c k) (t k) (m k)):=⟨fun k=>(H k).choose,fun k h=>(H k).choose_spec h⟩
 have sts:Seats n nd nmC dnC c t m ld st:=⟨n1,by omega,d1,by omega,fun k h=>(hc k h).1,fun k h=>(pl.kd k h).tb.1,pl.ldr,pl.str,fun k h=>QTO (by omega),fun k h=>QUC (by omega),fun i j hi hj e=>QTy (by omega) (by omega) e,fun i j hi hj e=>QUm (by omega) (by omega) e,fun i d hi hd=>QTE (by omega) (by omega)⟩
 refine⟨c,sts,?_⟩
 have mk:=QNT sts
 have hlen:=lenR n (planD kd t m ld st)
 have hix:∀ k:Nat,k<n->dIx (rl n (planD kd t m ld st)) (.int (k:Int))=.ok (planD kd t m ld st k):=fun k h=>ixR h
 generalize hP:rl n (planD kd t m ld st)=P at *
 obtain⟨ς',hL,a4,a5,a6,a7,a8,a9,rfl⟩:=QbK (body:=fun x ς=>gN 4 x ς>>=fun ς'=>QgR ς') (n:=n)
  (P:=fun k ς=>∃(a4 a5 a6 a7 a8 a9:Option (SM×D)),ς=[some (.k,P),some (.k,.int (nd:Int)),some (.k,.str "abcdef"),some (.o,rl k (seatD nmC dnC c t m ld st)),a4,a5,a6,a7,a8,a9])
  (by
   rintro k hk ς ⟨a4,a5,a6,a7,a8,a9,rfl⟩
   have x:=hix k hk
   have m6:=(sts.tb k hk).m6
   have l0:=lt_ok (k:=k) (by omega)
   have l1:=nm_ok (k:=k) (by omega)
   have hcl:=(hc k hk).2
   have hcm:∀ a9,eComp [none,some 2] (itL (eVar 7)) (gN 0) cTrue Qkb [some (.k,P),some (.k,.int (nd:Int)),some (.k,.str "abcdef"),some (.o,rl k (seatD nmC dnC c t m ld st)),some (.k,.int (k:Int)),some (.k,.int (kd k)),some (.k,tbD (t k)),some (.k,rl (m k) (fun j=>.int (ld k j))),some (.k,.int (st k)),a9]=.ok (rl (m k) (fun j=>.str (nml nmC dnC (ld k j)))):=fun a9=>by
    refine Qau (fun j=>D.int (ld k j)) (fun j=>D.str (nml nmC dnC (ld k j))) rfl (fun j hj=>?_) (by rw[List.length_range];omega)
    obtain⟨r1,r2⟩:=sts.ldr k j hk (List.mem_range.mp hj)
    refine Qax (τ0:=[none,some (.k,.str "abcdef")]) (QhC (c_k rfl c_nil)) (by walk_at "s") ?_
    unfold Qkb nml
    by_cases h:ld k j<0
    ·rw[if_pos h]
     have g0:dLt (.int (ld k j)) (.int 0)=.ok (.bl true):=by rw[QaR,decide_eq_true h]
     have x1:dIx (.str "abcdef") (.int (-1 - ld k j))=.ok (.str (lt (-1 - ld k j).toNat)):=by
      have:=lt_ok (k:=(-1 - ld k j).toNat) (by omega)
      rw[Int.toNat_of_nonneg (by omega)]at this
      exact this
     have x2:=dn_ok (k:=(-1 - ld k j).toNat) (by omega)
     (repeat walk_at "e")
    ·rw[if_neg h]
     have g0:dLt (.int (ld k j)) (.int 0)=.ok (.bl false):=by rw[QaR,decide_eq_false h]
     have x1:dIx (.str "abcdef") (.int (ld k j))=.ok (.str (lt (ld k j).toNat)):=by
      have:=lt_ok (k:=(ld k j).toNat) (by omega)
      rw[Int.toNat_of_nonneg (by omega)]at this
      exact this
     have x2:=nm_ok (k:=(ld k j).toNat) (by omega)
     (repeat walk_at "e")
   have ea:(List.range k).map (seatD nmC dnC c t m ld st)++[.tup [.str (nmC k),ck (c k) (t k) (m k),rl (m k) (fun j=>.str (nml nmC dnC (ld k j))),.int (st k)]]=(List.range (k+1)).map (seatD nmC dnC c t m ld st):=by
    rw[List.range_succ,List.map_append];rfl
   have hle:((List.range k).map (seatD nmC dnC c t m ld st)).length<=1000:=by rw[List.length_map,List.length_range];omega
   refine⟨[some (.k,P),some (.k,.int (nd:Int)),some (.k,.str "abcdef"),some (.o,rl (k+1) (seatD nmC dnC c t m ld st)),some (.k,.int (k:Int)),some (.k,.int (kd k)),some (.k,tbD (t k)),some (.k,rl (m k) (fun j=>.int (ld k j))),some (.k,.int (st k)),some (.k,rl (m k) (fun j=>.str (nml nmC dnC (ld k j))))],?_,_,_,_,_,_,_,rfl⟩
   show _=Out.ok (Fl.nx [_,_,_,some (.o,.lst ((List.range (k+1)).map (seatD nmC dnC c t m ld st))),_,_,_,_,_,_])
   rw[← ea]
   have x:dIx P (.int (k:Int))=.ok (.tup [.int (kd k),tbD (t k),rl (m k) (fun j=>.int (ld k j)),.int (st k)]):=x
   refine r_gN (by walk_at "s") ?_
   unfold QgR
   (repeat (first | with_reducible exact hcm _ | walk_at "e")))
  [some (.k,P),some (.k,.int (nd:Int)),some (.k,.str "abcdef"),some (.o,.lst []),none,none,none,none,none,none] ⟨_,_,_,_,_,_,rfl⟩
 have hR:itR1 (eA fLen (aCons (eVar 0) aNil)) [some (.k,P),some (.k,.int (nd:Int)),some (.k,.str "abcdef"),some (.o,.lst []),none,none,none,none,none,none]=.ok (QbM 0 n):=QcV n (by (repeat walk_at "e")) (by omega)
 have hfor:=QbH (g:=gN 4) (T:=QgR) hR hL
 have hdo:∀ ς:SD,ς[1]?=some (some (.k,.int (nd:Int)))->ς[2]?=some (some (.k,.str "abcdef"))->eComp [none,some 2] (itR1 (eVar 1)) (gN 0) cTrue QeQ ς=.ok (rl nd (fun d=>.str (dnC d))):=fun ς h1 h2=>by
  refine QjM (fun d=>.str (dnC d)) (QcV nd (r_var h1) (by omega)) (fun d hd=>?_) (by omega)
  have l0:=lt_ok (k:=d) (by omega)
  have l1:=dn_ok (k:=d) (by omega)
  refine Qax (τ0:=[none,some (.k,.str "abcdef")]) (QhC (c_k h2 c_nil)) (by walk_at "s") ?_
  unfold QeQ
  (repeat walk_at "e")
 have mk':Qbe "Office" [] [rl n (seatD nmC dnC c t m ld st),.lst [.tup [.str "in",.str "ca"]],rl nd (fun d=>.str (dnC d))]=.ok (offF n nd nmC dnC c t m ld st):=mk
 have fin:(fun ς=>sRetF (eMake "Office" Qbe (aCons (eVar 3) (aCons (eLst (aCons (eTup (aCons (eC (.str "in")) (aCons (eC (.str "ca")) aNil))) aNil)) (aCons (eComp [none,some 2] (itR1 (eVar 1)) (gN 0) cTrue QeQ) aNil)))) (frz 3 ς)) [some (.k,P),some (.k,.int (nd:Int)),some (.k,.str "abcdef"),some (.o,rl n (seatD nmC dnC c t m ld st)),a4,a5,a6,a7,a8,a9]=.ok (.rt true (offD n nd nmC dnC c t m ld st)):=by
  refine QAg (T:=sRetF (eMake "Office" Qbe (aCons (eVar 3) (aCons (eLst (aCons (eTup (aCons (eC (.str "in")) (aCons (eC (.str "ca")) aNil))) aNil)) (aCons (eComp [none,some 2] (itR1 (eVar 1)) (gN 0) cTrue QeQ) aNil))))) (QyY (i:=3) rfl rfl) ?_
  unfold offD
  (repeat (first | with_reducible exact hdo _ rfl rfl | walk_at "e"))
 rw[QHT]
 unfold Qi4
 (repeat walk_at "e")
theorem QO1(cell:Int){N:Nat}(hN:N<=20):∃(w:Nat->Int×Int)(B:Int),1<=B/\B<=1000000000/\(∀ i,i<N->okW (w i)/\(w i).2∣B)/\QdA [.int cell,.int (N:Int)]=.ok (rl N (fun i=>fr (w i))):=by
 obtain⟨x,x0,x1,hx⟩:=QfA cell (k:=89) (QuK rfl)
 have h9:dPow (.int 10) (.int 9)=.ok (.int 1000000000):=by rw[QAR (by decide)];rfl
 have h15:dPow (.int 10) (.int 15)=.ok (.int 1000000000000000):=by rw[QAR (by decide)];rfl
 obtain⟨b,b1,b2,hb⟩:∃ b:Int,1<=b/\b<=1000000000/\dIx (.lst [.int 12,.int 1000000000]) (.int (x % 2))=.ok (.int b):=by
  rcases(by omega:x % 2=0∨x % 2=1) with e | e<;>rw[e]
  ·exact⟨12,by omega,by omega,rfl⟩
  ·exact⟨1000000000,by omega,by omega,rfl⟩
 have bp:0<b:=by omega
 have q0:=Int.emod_nonneg (x / 2) (show b≠0 by omega)
 have q1:=Int.emod_lt_of_pos (x / 2) bp
 have hbot:e2 dAdd (eC (.int 1)) (e2 dMod (e2 dFdiv (eA (fun xs=>Qx (xs++[])) (aCons (eVar 0) (aCons (eC (.int 89)) aNil))) (eC (.int 2))) (e2 dIx (eLst (aCons (eC (.int 12)) (aCons (e2 dPow (eC (.int 10)) (eC (.int 9))) aNil))) (e2 dMod (eA (fun xs=>Qx (xs++[])) (aCons (eVar 0) (aCons (eC (.int 89)) aNil))) (eC (.int 2))))) [some (.k,.int cell),some (.k,.int (N:Int)),some (.o,.lst []),none,none,none,none]=.ok (.int (1+x / 2 % b)):=by (repeat walk_at "e")
 obtain⟨B,hB,B1,B2⟩:∃ B:Int,1+x / 2 % b=B/\1<=B/\B<=1000000000:=⟨_,rfl,by omega,by omega⟩
 rw[hB]at hbot
 obtain⟨ς',hL,w,a4,a5,a6,rfl,hw⟩:=QbK (body:=fun x ς=>gN 4 x ς>>=fun ς'=>QgQ ς') (n:=N)
  (P:=fun k ς=>∃(w:Nat->Int×Int)(a4 a5 a6:Option (SM×D)),ς=[some (.k,.int cell),some (.k,.int (N:Int)),some (.o,rl k (fun i=>fr (w i))),some (.k,.int B),a4,a5,a6]/\∀ i,i<k->okW (w i)/\(w i).2∣B)
  (by
   rintro k hk ς ⟨w,a4,a5,a6,rfl,hw⟩
   obtain⟨y,y0,y1,hy⟩:=QfA cell (k:=(k:Int)+90) (Nat.le_trans (QS (show((k:Int)+90).natAbs<2 ^ 10 by omega)) (by decide))
   obtain⟨tp,t0,t1,ht⟩:∃ tp:Int, -1000000000000000<=tp/\tp<=1000000000000000/\dIx (.lst [.int (y / 4 % 121 - 60),.int (y / 4 % (2 * 1000000000000000) - 1000000000000000),.int 0,.int 1]) (.int (y % 4))=.ok (.int tp):=by
    rcases(by omega:y % 4=0∨y % 4=1∨y % 4=2∨y % 4=3) with e | e | e | e<;>rw[e]
    ·exact⟨y / 4 % 121 - 60,by omega,by omega,rfl⟩
    ·exact⟨y / 4 % (2 * 1000000000000000) - 1000000000000000,by omega,by omega,rfl⟩
    ·exact⟨0,by omega,by omega,rfl⟩
    ·exact⟨1,by omega,by omega,rfl⟩
   have bB:bitsI B<=7900:=Nat.le_trans (QS (show B.natAbs<2 ^ 40 by omega)) (by decide)
   have hl:=QyS (a:=tp) B1 bB
   have ok:okW (pr tp B):=⟨QiK (by omega),by
    rw[Qii B1]
    exact QkJ (QS (show tp.natAbs<2 ^ 100 by omega)),by
    rw[Qii B1]
    exact Nat.le_trans (Int.natAbs_ediv_le_natAbs _ _) (by omega)⟩
   have ea:(List.range k).map (fun i=>fr (w i))++[fr (pr tp B)]=(List.range (k+1)).map (fun i=>fr ((fun i=>if i<k then w i else pr tp B) i)):=by
    rw[QyR]
    exact List.map_congr_left fun i _=>by show(if i<k then fr (w i) else fr (pr tp B))=fr (if i<k then w i else pr tp B);split<;>rfl
   have hle:((List.range k).map (fun i=>fr (w i))).length<=1000:=by rw[List.length_map,List.length_range];omega
   refine⟨[some (.k,.int cell),some (.k,.int (N:Int)),some (.o,rl (k+1) (fun i=>fr ((fun i=>if i<k then w i else pr tp B) i))),some (.k,.int B),some (.k,.int (k:Int)),some (.k,.int y),some (.k,.int tp)],?_,fun i=>if i<k then w i else pr tp B,_,_,_,rfl,fun i hi=>?_⟩
   ·show _=Out.ok (Fl.nx [_,_,some (.o,.lst ((List.range (k+1)).map (fun i=>fr ((fun i=>if i<k then w i else pr tp B) i)))),_,_,_,_])
    rw[← ea]
    refine r_gN (by walk_at "s") ?_
    unfold QgQ
    (repeat walk_at "e")
   ·show okW (if i<k then w i else pr tp B)/\(if i<k then w i else pr tp B).2∣B
    split
    ·rename_i z;exact hw i z
    ·refine⟨ok,?_⟩
     rw[Qii B1]
     exact Int.ediv_dvd_of_dvd (Int.gcd_dvd_right tp B))
  [some (.k,.int cell),some (.k,.int (N:Int)),some (.o,.lst []),some (.k,.int B),none,none,none] ⟨fun _=>zero1,_,_,_,rfl,fun i hi=>absurd hi (by omega)⟩
 have hR:itR1 (eVar 1) [some (.k,.int cell),some (.k,.int (N:Int)),some (.o,.lst []),some (.k,.int B),none,none,none]=.ok (QbM 0 N):=QcV N (by (repeat walk_at "e")) (by omega)
 have hfor:=QbH (g:=gN 4) (T:=QgQ) hR hL
 refine⟨w,B,B1,B2,hw,?_⟩
 rw[QF5]
 unfold QiY
 (repeat walk_at "e")
theorem QSS{p:Int×Int}{Z M:Int}(l:low p.1 p.2)(hM:1<=M)(h:qt p=(Z:Rat) / (M:Rat)):p.2∣M:=by
 obtain⟨p1,g⟩:=l
 have c1:=QaP p1
 have c2:=QaP hM
 have e:p.1 * M=Z * p.2:=by
  have:((p.1 * M:Int):Rat)=((Z * p.2:Int):Rat):=by
   rw[Rat.intCast_mul,Rat.intCast_mul]
   unfold qt at h
   grind
  exact Rat.intCast_inj.mp this
 refine QrD (m:=p.1) ⟨Z,?_⟩ (by rw[Int.gcd_comm];exact g)
 rw[e,Int.mul_comm]
theorem QUw{M:Int}{m:Nat}{f:Nat->Rat}(h:∀ j,j<m->∃ z:Int,f j=(z:Rat) / (M:Rat)):∃ Z:Int,Bar.sm m f=(Z:Rat) / (M:Rat):=by
 induction m with
 | zero=>
  refine⟨0,?_⟩
  show(0:Rat)=((0:Int):Rat) / _
  have e0:((0:Int):Rat)=0:=rfl
  rw[e0];grind
 | succ m ih=>
  obtain⟨Z,hZ⟩:=ih fun j hj=>h j (by omega)
  obtain⟨z,hz⟩:=h m (by omega)
  refine⟨Z+z,?_⟩
  show Bar.sm m f+f m=_
  rw[hZ,hz,Rat.intCast_add];grind
theorem QOa{t:List (List Int)}{m s:Nat}{f:Nat->Int×Int}{B:Int}(n1:1<=t.length)(B1:1<=B)(hf:∀ j,j<m->1<=(f j).2/\(f j).2∣B):∃ Z:Int,leanQ t m (fun j=>qt (f j)) s=(Z:Rat) / (((t.length:Int) * B:Int):Rat):=by
 unfold leanQ
 refine QUw fun j hj=>?_
 obtain⟨h1,d,hd⟩:=hf j hj
 have hn:=QaP (z:=(t.length:Int)) (by omega)
 have hB:=QaP B1
 have h2:=QaP h1
 generalize ((s:Int) * cs t t.length j - (t.length:Int) * cs t s j)=c
 refine⟨c * ((f j).1 * d),?_⟩
 have eB:(B:Rat)=((f j).2:Rat) * (d:Rat):=by rw[hd,Rat.intCast_mul]
 show(c:Rat) / ((t.length:Int):Rat) * qt (f j)=_
 rw[Rat.intCast_mul,Rat.intCast_mul,Rat.intCast_mul]
 unfold qt
 rw[eB]at hB ⊢
 have hd0:(d:Rat)≠0:=fun w=>hB (by rw[w];grind)
 generalize ((t.length:Int):Rat)=N at *
 generalize ((f j).2:Rat)=y at *
 generalize (d:Rat)=e at *
 generalize ((f j).1:Rat)=x at *
 generalize (c:Rat)=u at *
 grind
theorem QTt(c:Int):pr c 1=(c,1):=by
 rw[Qii (by decide)]
 have:c.gcd 1=1:=by simp
 rw[this];simp
theorem QN2(c:Int):QbG [.int c,.int 1]=.ok (fr (c,1)):=by
 have h:=QrP (a:=c) (b:=1) (by decide) (dk)
 rw[← QTt];exact h
theorem qt1(c:Int):qt (c,1)=(c:Rat):=by
 unfold qt
 show(c:Rat) / ((1:Int):Rat)=c
 have e1:((1:Int):Rat)=1:=rfl
 rw[e1];grind
theorem QzG{n k:Nat}(f g:Nat->D)(h:n+k<=900):dCat (rl n f) (rl k g)=.ok (rl (n+k) (fun i=>if i<n then f i else g (i - n))):=by
 rw[QBC (by simp;omega)]
 refine congrArg (fun l=>Out.ok (D.lst l)) ?_
 rw[List.range_add,List.map_append,List.map_map]
 congr 1
 ·exact List.map_congr_left fun j hj=>by rw[if_pos (List.mem_range.mp hj)]
 ·exact List.map_congr_left fun j hj=>by
   show g j=if n+j<n then f (n+j) else g (n+j - n)
   rw[if_neg (by omega),Nat.add_sub_cancel_left]
theorem QTK{N:Nat}(hN:N<=1000)(c:Nat->Int):QcE [rl N (fun i=>.int (c i))]=.ok (rl N (fun i=>fr (c i,1))):=by
 have hc:eComp [none] (itL (eVar 0)) (gN 0) cTrue Qh3 [some (.k,rl N (fun i=>.int (c i)))]=.ok (rl N (fun i=>fr (c i,1))):=by
  refine Qau (fun i=>D.int (c i)) (fun i=>fr (c i,1)) rfl (fun i hi=>?_) (by rw[List.length_range];exact hN)
  have h:=QN2 (c i)
  refine Qax (by walk_at "cap") (by walk_at "s") ?_
  unfold Qh3
  (repeat walk_at "e")
 rw[QBA]
 unfold QgS
 (repeat walk_at "e")
theorem QPL{n:Nat}(hn:n<=12){g:Nat->Int×Int}(hg:∀ i,i<n->1<=(g i).2/\bitsI (g i).1<=7700/\(g i).2.natAbs<=2 ^ 48):∃ p:Int×Int,low p.1 p.2/\qt p=Bar.sm n (fun i=>qt (g i))/\p.2.natAbs<=2 ^ 1200/\bitsI p.1<=20000/\Qh6 [rl n (fun i=>fr (g i))]=.ok (fr p):=by
 obtain⟨p,lp,qp,bp,np,hp⟩:=Quh hn (f:=fun _=>(1,1)) (g:=g) (fun i _=>⟨by decide,QS (show((1:Int)).natAbs<2 ^ 48 by decide),by decide⟩) hg
 refine⟨p,lp,?_,bp,np,?_⟩
 ·rw[qp]
  exact Bar.sm_congr fun i _=>by
   show qt (1,1) * qt (g i)=qt (g i)
   rw[qt1]
   have e1:((1:Int):Rat)=1:=rfl
   rw[e1];grind
 ·have hc:eComp [none] (itL (eVar 0)) (gN 0) cTrue Qse [some (.k,rl n (fun i=>fr (g i)))]=.ok (rl n (fun _=>fr (1,1))):=by
   refine Qau (fun i=>fr (g i)) (fun i=>fr (1,1)) rfl (fun i hi=>?_) (by rw[List.length_range];omega)
   have h:=QN2 1
   refine Qax (by walk_at "cap") (by walk_at "s") ?_
   unfold Qse
   (repeat walk_at "e")
  rw[QP3]
  unfold Qsa
  (repeat walk_at "e")
theorem QQZ{x y:Int×Int}(x1:1<=x.2)(y1:1<=y.2)(X1:bitsI x.1<=20000)(Y1:bitsI y.1<=20000)(X2:bitsI x.2<=1201)(Y2:bitsI y.2<=1201):∃ p:Int×Int,low p.1 p.2/\qt p=qt x+qt y/\QjT [fr x,fr y]=.ok (fr p):=by
 have q1:1 * 1<=x.2 * y.2:=Int.mul_le_mul x1 y1 (by decide) (by omega)
 have q:1<=x.2 * y.2:=by omega
 have sh:=QrP (a:=x.1 * y.2+y.1 * x.2) (b:=x.2 * y.2) (by omega) (Qc3 (Nat.le_trans (Qd4 X2 Y2) (by decide)))
 refine⟨pr (x.1 * y.2+y.1 * x.2) (x.2 * y.2),QiK (by omega),?_,?_⟩
 ·rw[qt_pr (by omega),Rat.intCast_add,Rat.intCast_mul,Rat.intCast_mul,Rat.intCast_mul]
  have:=QaP x1
  have:=QaP y1
  unfold qt
  grind
 ·show _=Out.ok (D.tup [.int ((x.1 * y.2+y.1 * x.2).fdiv (shD (x.1 * y.2+y.1 * x.2) (x.2 * y.2))),.int ((x.2 * y.2).fdiv (shD (x.1 * y.2+y.1 * x.2) (x.2 * y.2)))])
  have a0:=fr0 x
  have a1:=fr1 x
  have c0:=fr0 y
  have c1':=fr1 y
  rw[QSl]
  unfold QvQ
  (repeat walk_at "e")
section
variable{n nd:Nat}{nm dn c:Nat->Str}{t:Nat->List (List Int)}{m:Nat->Nat}{ld:Nat->Nat->Int}{st kd:Nat->Int}(hs:Seats n nd nm dn c t m ld st)(n5:n<=5)(d3:nd<=3){wr dw:Nat->Int×Int}(hw:∀ i,i<n->okW (wr i))(hd:∀ i,i<nd->okW (dw i))
include hs hw hd n5 d3
theorem QSx{sk de ou:Nat->Int}(hsk:∀ k,k<n->0<=sk k/\sk k<((t k).length:Int))(hde:∀ i,i<n->0<=de i/\de i<=1000000000)(hou:∀ i,i<nd->0<=ou i/\ou i<=1000000000)
 {P:Nat->Int×Int} (hP:∀ k,k<n->1<=(P k).2/\bitsI (P k).1<=7700/\(P k).2.natAbs<=2 ^ 48/\Qho [offD n nd nm dn c t m ld st,.int (k:Int),.int (sk k),rl n (fun i=>fr (wr i)),rl nd (fun i=>fr (dw i))]=.ok (fr (P k))):
 ∃ p:Int×Int,low p.1 p.2/\qt p=Bar.sm (n+nd) (fun i=>((if i<n then de i else ou (i - n):Int):Rat) * qt (if i<n then wr i else dw (i - n)))+Bar.sm n (fun k=>qt (P k))/\
 Qog [offD n nd nm dn c t m ld st,rl n (fun i=>fr (wr i)),rl nd (fun i=>fr (dw i)),rl n (fun k=>.int (sk k)),rl n (fun i=>.int (de i)),rl nd (fun i=>.int (ou i))]=.ok (fr p):=by
 obtain⟨x,lx,qx,bx,nx,hx⟩:=Quh (n:=n+nd) (by omega) (f:=fun i=>(if i<n then de i else ou (i - n),1)) (g:=fun i=>if i<n then wr i else dw (i - n))
  (fun i hi=>⟨show(1:Int)<=1 by decide,by
   show bitsI (if i<n then de i else ou (i - n))<=48
   refine QS ?_
   split
   ·rename_i h;have:=hde i h;omega
   ·have:=hou (i - n) (by omega);omega,show(1:Int).natAbs<=2 ^ 48 by decide⟩)
  (fun i hi=>by
   show 1<=(if i<n then wr i else dw (i - n)).2/\bitsI (if i<n then wr i else dw (i - n)).1<=7700/\(if i<n then wr i else dw (i - n)).2.natAbs<=2 ^ 48
   split
   ·rename_i h;obtain⟨a,b,c⟩:=hw i h;exact⟨a.1,Nat.le_trans b (by decide),c⟩
   ·obtain⟨a,b,c⟩:=hd (i - n) (by omega);exact⟨a.1,Nat.le_trans b (by decide),c⟩)
 obtain⟨y,ly,qy,by',ny,hy⟩:=QPL (n:=n) (by omega) (g:=P) fun k hk=>⟨(hP k hk).1,(hP k hk).2.1,(hP k hk).2.2.1⟩
 obtain⟨p,lp,qp,hp⟩:=QQZ lx.1 ly.1 nx ny (QS (Nat.lt_of_le_of_lt bx (dk))) (QS (Nat.lt_of_le_of_lt by' (dk)))
 refine⟨p,lp,?_,?_⟩
 ·rw[qp,qx,qy]
  congr 1
  exact Bar.sm_congr fun i _=>by
   show qt (_,1) * _=_
   rw[qt1]
 have c1:=QzG (n:=n) (k:=nd) (fun i=>D.int (de i)) (fun i=>.int (ou i)) (by omega)
 have e1:rl (n+nd) (fun i=>if i<n then D.int (de i) else .int (ou (i - n)))=rl (n+nd) (fun i=>.int (if i<n then de i else ou (i - n))):=QrL fun i _=>by split<;>rfl
 rw[e1]at c1
 have c2:=QzG (n:=n) (k:=nd) (fun i=>fr (wr i)) (fun i=>fr (dw i)) (by omega)
 have e2:rl (n+nd) (fun i=>if i<n then fr (wr i) else fr (dw (i - n)))=rl (n+nd) (fun i=>fr (if i<n then wr i else dw (i - n))):=QrL fun i _=>by split<;>rfl
 rw[e2]at c2
 have ws:=QTK (N:=n+nd) (by omega) (fun i=>if i<n then de i else ou (i - n))
 have hx:Qbg [rl (n+nd) (fun i=>fr (if i<n then de i else ou (i - n),1)),rl (n+nd) (fun i=>fr (if i<n then wr i else dw (i - n)))]=.ok (fr x):=hx
 generalize rl (n+nd) (fun i=>fr (if i<n then wr i else dw (i - n)))=WD at *
 generalize rl (n+nd) (fun i=>D.int (if i<n then de i else ou (i - n)))=DO at *
 generalize rl (n+nd) (fun i=>fr (if i<n then de i else ou (i - n),1))=DF at *
 generalize hO:offD n nd nm dn c t m ld st=O at *
 generalize hW:rl n (fun i=>fr (wr i))=W at *
 generalize hDW:rl nd (fun i=>fr (dw i))=DW at *
 generalize hDE:rl n (fun i=>D.int (de i))=DE' at *
 generalize hOU:rl nd (fun i=>D.int (ou i))=OU at *
 have hc:∀(a6:D),eComp [none,none,some 0,some 1,some 2] (itE (eVar 3)) (gT [0,1]) cTrue Qxw [some (.k,O),some (.k,W),some (.k,DW),some (.k,rl n (fun k=>.int (sk k))),some (.k,DE'),some (.k,OU),some (.k,a6),none]=.ok (rl n (fun k=>fr (P k))):=fun a6=>by
  refine Qau (fun i:Nat=>D.tup [.int (i:Int),.int (sk i)]) (fun k=>fr (P k)) (by rw[← enumR];rfl) (fun k hk=>?_) (by rw[List.length_range];omega)
  have h:=(hP k (List.mem_range.mp hk)).2.2.2
  refine QCl (by walk_at "cap") (by walk_at "all") ?_
  unfold Qxw
  (repeat walk_at "e")
 have hc':=hc (fr x)
 rw[QTD]
 unfold Qyv
 (repeat walk_at "e")
end
theorem QQW{x y:Int×Int}{A A2 A' c1 c2:Nat}(x1:1<=x.2)(y1:1<=y.2)(X2:bitsI x.1<=A)(x3:bitsI x.2<=c1)(Y2:bitsI y.1<=A2)(y3:bitsI y.2<=c2)(h:c1+c2<=7800)(hA:A<=20000)(hA2:A2<=20000)(h1:A+c2+1<=A')(h2:A2+c1+1<=A'):∃ p:Int×Int,low p.1 p.2/\qt p=qt x+qt y/\bitsI p.1<=A'/\bitsI p.2<=c1+c2/\Qaf [fr x,fr y]=.ok (fr p):=by
 have q1:1 * 1<=x.2 * y.2:=Int.mul_le_mul x1 y1 (by decide) (by omega)
 have q:1<=x.2 * y.2:=by omega
 have bb:bitsI (x.2 * y.2)<=c1+c2:=Qd4 x3 y3
 have bt:bitsI (x.1 * y.2+y.1 * x.2)<=A':=Nat.le_trans (QLd (k:=A' - 1) (Nat.le_trans (Qd4 X2 y3) (by omega)) (Nat.le_trans (Qd4 Y2 x3) (by omega))) (by omega)
 have hl:=QyS (a:=x.1 * y.2+y.1 * x.2) q (by omega)
 refine⟨pr (x.1 * y.2+y.1 * x.2) (x.2 * y.2),QiK (by omega),?_,?_,?_,?_⟩
 ·rw[qt_pr (by omega),Rat.intCast_add,Rat.intCast_mul,Rat.intCast_mul,Rat.intCast_mul]
  have:=QaP x1
  have:=QaP y1
  unfold qt
  grind
 ·rw[Qii q];exact QkJ bt
 ·rw[Qii q];exact QkJ bb
 ·have a0:=fr0 x
  have a1:=fr1 x
  have c0:=fr0 y
  have c1':=fr1 y
  have X3:bitsI x.2<=7800:=by omega
  have Y3:bitsI y.2<=7800:=by omega
  have X4:bitsI x.1<=20000:=by omega
  have Y4:bitsI y.1<=20000:=by omega
  clear x3 y3 bb bt X2 Y2
  rw[QzN]
  unfold Qjh
  (repeat walk_at "e")
theorem QyK(cell:Int){N:Nat}(hN:N<=20){k0:Int}(hk0:0<=k0)(hk1:k0<=100):∃ c:Nat->Int,(∀ i,i<N->0<=c i/\c i<=1000000000)/\Qcu [.int cell,.int (N:Int),.int k0]=.ok (rl N (fun i=>.int (c i))):=by
 have h9:dPow (.int 10) (.int 9)=.ok (.int 1000000000):=by rw[QAR (by decide)];rfl
 obtain⟨ς',hL,c,a4,a5,rfl,hc⟩:=QbK (body:=fun x ς=>gN 4 x ς>>=fun ς'=>Qf7 ς') (n:=N)
  (P:=fun k ς=>∃(c:Nat->Int)(a4 a5:Option (SM×D)),ς=[some (.k,.int cell),some (.k,.int (N:Int)),some (.k,.int k0),some (.o,rl k (fun i=>.int (c i))),a4,a5]/\∀ i,i<k->0<=c i/\c i<=1000000000)
  (by
   rintro k hk ς ⟨c,a4,a5,rfl,hc⟩
   obtain⟨y,y0,y1,hy⟩:=QfA cell (k:=k0+(k:Int)) (Nat.le_trans (QS (show(k0+(k:Int)).natAbs<2 ^ 10 by omega)) (by decide))
   obtain⟨tp,t0,t1,ht⟩:∃ tp:Int,0<=tp/\tp<=1000000000/\dIx (.lst [.int 0,.int 1,.int (y / 4 % 9),.int (y / 4 % (1000000000+1))]) (.int (y % 4))=.ok (.int tp):=by
    rcases(by omega:y % 4=0∨y % 4=1∨y % 4=2∨y % 4=3) with e | e | e | e<;>rw[e]
    ·exact⟨0,by omega,by omega,rfl⟩
    ·exact⟨1,by omega,by omega,rfl⟩
    ·exact⟨y / 4 % 9,by omega,by omega,rfl⟩
    ·exact⟨y / 4 % (1000000000+1),by omega,by omega,rfl⟩
   have ea:(List.range k).map (fun i=>D.int (c i))++[.int tp]=(List.range (k+1)).map (fun i=>D.int ((fun i=>if i<k then c i else tp) i)):=by
    rw[QyR]
    exact List.map_congr_left fun i _=>by show(if i<k then D.int (c i) else .int tp)=.int (if i<k then c i else tp);split<;>rfl
   have hle:((List.range k).map (fun i=>D.int (c i))).length<=1000:=by rw[List.length_map,List.length_range];omega
   refine⟨[some (.k,.int cell),some (.k,.int (N:Int)),some (.k,.int k0),some (.o,rl (k+1) (fun i=>.int ((fun i=>if i<k then c i else tp) i))),some (.k,.int (k:Int)),some (.k,.int y)],?_,fun i=>if i<k then c i else tp,_,_,rfl,fun i hi=>?_⟩
   ·show _=Out.ok (Fl.nx [_,_,_,some (.o,.lst ((List.range (k+1)).map (fun i=>D.int ((fun i=>if i<k then c i else tp) i)))),_,_])
    rw[← ea]
    refine r_gN (by walk_at "s") ?_
    unfold Qf7
    (repeat walk_at "e")
   ·show 0<=(if i<k then c i else tp)/\(if i<k then c i else tp)<=1000000000
    split
    ·rename_i z;exact hc i z
    ·exact⟨t0,t1⟩)
  [some (.k,.int cell),some (.k,.int (N:Int)),some (.k,.int k0),some (.o,.lst []),none,none] ⟨fun _=>0,_,_,rfl,fun i hi=>absurd hi (by omega)⟩
 have hR:itR1 (eVar 1) [some (.k,.int cell),some (.k,.int (N:Int)),some (.k,.int k0),some (.o,.lst []),none,none]=.ok (QbM 0 N):=QcV N (by (repeat walk_at "e")) (by omega)
 have hfor:=QbH (g:=gN 4) (T:=Qf7) hR hL
 refine⟨c,hc,?_⟩
 rw[QDs]
 unfold QhO
 (repeat walk_at "e")
theorem QP5{Pl W DW DE' OU:D}{n N:Nat}(n5:n<=5)(N8:N<=8){sk cn:Nat->Int}{wd P:Nat->Int×Int}(hlen:fLen [Pl]=.ok (.int (n:Int)))(c1:dCat DE' OU=.ok (rl N (fun i=>.int (cn i))))(c2:dCat W DW=.ok (rl N (fun i=>fr (wd i))))
 (hcn:∀ i,i<N->0<=cn i/\cn i<=1000000000) (hwd:∀ i,i<N->okW (wd i)) (hP:∀ k,k<n->1<=(P k).2/\bitsI (P k).1<=7700/\(P k).2.natAbs<=2 ^ 48/\∃ d:D,Qce [Pl,.int (k:Int),W,DW]=.ok d/\dIx d (.int (sk k))=.ok (fr (P k))):
 ∃ p:Int×Int,low p.1 p.2/\qt p=Bar.sm N (fun i=>(cn i:Rat) * qt (wd i))+Bar.sm n (fun k=>qt (P k))/\Qfc [Pl,W,DW,rl n (fun k=>.int (sk k)),DE',OU]=.ok (fr p):=by
 have sx:∀ k,k<n->dIx (rl n (fun k=>D.int (sk k))) (.int (k:Int))=.ok (.int (sk k)):=fun k hk=>ixR hk
 generalize hS:rl n (fun k=>D.int (sk k))=S at *
 have hz:itZ (e2 dCat (eVar 4) (eVar 5)) (e2 dCat (eVar 1) (eVar 2)) [some (.k,Pl),some (.k,W),some (.k,DW),some (.k,S),some (.k,DE'),some (.k,OU),some (.k,fr zero1),none,none,none]=.ok ((List.range N).map fun i=>D.tup [.int (cn i),fr (wd i)]):=by
  unfold itZ
  have a:e2 dCat (eVar 4) (eVar 5) [some (.k,Pl),some (.k,W),some (.k,DW),some (.k,S),some (.k,DE'),some (.k,OU),some (.k,fr zero1),none,none,none]=.ok (rl N (fun i=>.int (cn i))):=by (repeat walk_at "e")
  have b:e2 dCat (eVar 1) (eVar 2) [some (.k,Pl),some (.k,W),some (.k,DW),some (.k,S),some (.k,DE'),some (.k,OU),some (.k,fr zero1),none,none,none]=.ok (rl N (fun i=>fr (wd i))):=by (repeat walk_at "e")
  rw[a,Out.bind_ok,b,Out.bind_ok]
  show Out.ok (List.zipWith _ _ _)=_
  rw[List.zipWith_map,List.zipWith_self]
 obtain⟨ς',hL,p,a7,a8,rfl,lp,qp,bp⟩:=Qnu (body:=fun x ς=>gT [7,8] x ς>>=fun ς'=>Qjv ς') (f:=fun i=>D.tup [.int (cn i),fr (wd i)]) (n:=N)
  (P:=fun j ς=>∃(p:Int×Int)(a7 a8:Option (SM×D)),ς=[some (.k,Pl),some (.k,W),some (.k,DW),some (.k,S),some (.k,DE'),some (.k,OU),some (.k,fr p),a7,a8,none]/\low p.1 p.2/\qt p=Bar.sm j (fun i=>(cn i:Rat) * qt (wd i))/\okB (1+j * 150) p)
  (by
   rintro j hj ς ⟨p,a7,a8,rfl,lp,qp,bp⟩
   obtain⟨e0,e9⟩:=hcn j hj
   obtain⟨hb1,hb2,hb3⟩:=hwd j hj
   have be:bitsI (cn j)<=40:=QS (show(cn j).natAbs<2 ^ 40 by omega)
   have by':okB 149 (cn j * (wd j).1,(wd j).2):=⟨hb1.1,Nat.le_trans (Qd4 be hb2) (by decide),QS (Nat.lt_of_le_of_lt hb3 (by decide))⟩
   obtain⟨p',lp',qp',bp',hp'⟩:=QqQ bp by' (by omega)
   have hp':Qaf [fr p,.tup [.int (cn j * (wd j).1),.int (wd j).2]]=.ok (fr p'):=hp'
   have y0:=fr0 (wd j)
   have y1:=fr1 (wd j)
   refine⟨[some (.k,Pl),some (.k,W),some (.k,DW),some (.k,S),some (.k,DE'),some (.k,OU),some (.k,fr p'),some (.k,.int (cn j)),some (.k,fr (wd j)),none],?_,p',_,_,rfl,lp',?_,bp'.mono (by omega)⟩
   ·refine r_gT (by walk_at "all") ?_
    unfold Qjv
    (repeat walk_at "e")
   ·rw[qp',qp]
    show _=Bar.sm j _+(cn j:Rat) * qt (wd j)
    congr 1
    unfold qt
    show((cn j * (wd j).1:Int):Rat) / ((wd j).2:Rat)=_
    rw[Rat.intCast_mul]
    grind)
  [some (.k,Pl),some (.k,W),some (.k,DW),some (.k,S),some (.k,DE'),some (.k,OU),some (.k,fr zero1),none,none,none] ⟨zero1,_,_,rfl,low0,qt0,okB0⟩
 obtain⟨ς2,hL2,p2,b9,rfl,lp2,qp2,np2,dp2⟩:=QbK (body:=fun x ς=>gN 9 x ς>>=fun ς'=>QiB ς') (n:=n)
  (P:=fun k ς=>∃(q:Int×Int)(b9:Option (SM×D)),ς=[some (.k,Pl),some (.k,W),some (.k,DW),some (.k,S),some (.k,DE'),some (.k,OU),some (.k,fr q),a7,a8,b9]/\low q.1 q.2/\qt q=qt p+Bar.sm k (fun k=>qt (P k))/\bitsI q.1<=9000+k * 60/\bitsI q.2<=1201+k * 49)
  (by
   rintro k hk ς ⟨q,b9,rfl,lq,qq,nq,dq⟩
   obtain⟨h1,h2,h3,d,hl,hx⟩:=hP k hk
   obtain⟨q',lq',qq',nq',dq',hq'⟩:=QQW (A:=9000+k * 60) (A2:=7700) (A':=9000+(k+1) * 60) (c1:=1201+k * 49) (c2:=49) lq.1 h1 nq dq h2 (QS (Nat.lt_of_le_of_lt h3 (by decide))) (by omega) (by omega) (by omega) (by omega) (by omega)
   have hsx:=sx k hk
   refine⟨[some (.k,Pl),some (.k,W),some (.k,DW),some (.k,S),some (.k,DE'),some (.k,OU),some (.k,fr q'),a7,a8,some (.k,.int (k:Int))],?_,q',_,rfl,lq',?_,nq',by omega⟩
   ·refine r_gN (by walk_at "s") ?_
    unfold QiB
    (repeat walk_at "e")
   ·rw[qq',qq]
    show _=qt p+(Bar.sm k _+qt (P k))
    grind)
  [some (.k,Pl),some (.k,W),some (.k,DW),some (.k,S),some (.k,DE'),some (.k,OU),some (.k,fr p),a7,a8,none] ⟨p,_,rfl,lp,by show _=qt p+0;grind,Nat.le_trans bp.2.1 (by omega),Nat.le_trans bp.2.2 (by omega)⟩
 have hR:itR1 (eA fLen (aCons (eVar 0) aNil)) [some (.k,Pl),some (.k,W),some (.k,DW),some (.k,S),some (.k,DE'),some (.k,OU),some (.k,fr p),a7,a8,none]=.ok (QbM 0 n):=QcV n (by (repeat walk_at "e")) (by omega)
 have hfor1:=QbH (g:=gT [7,8]) (T:=Qjv) hz hL
 have hfor2:=QbH (g:=gN 9) (T:=QiB) hR hL2
 refine⟨p2,lp2,?_,?_⟩
 ·rw[qp2,qp]
 ·have s6:sSet 6 (eTup (aCons (eC (.int 0)) (aCons (eC (.int 1)) aNil))) [some (.k,Pl),some (.k,W),some (.k,DW),some (.k,S),some (.k,DE'),some (.k,OU),none,none,none,none]=.ok (.nx [some (.k,Pl),some (.k,W),some (.k,DW),some (.k,S),some (.k,DE'),some (.k,OU),some (.k,fr zero1),none,none,none]):=rfl
  rw[QMN]
  unfold QmL
  (repeat walk_at "e")
theorem QSN{α β:Type}(f:α->β)(xs:List α)(a b:Option Int):cutD (xs.map f) a b=(cutD xs a b).map f:=by
 unfold cutD
 rw[List.length_map,List.map_take,List.map_drop]
theorem QRi{α:Type}(xs:List α)(a b:Option Int):(cutD xs a b).length<=xs.length:=by
 unfold cutD
 rw[List.length_take,List.length_drop];omega
theorem QRy(n k:Nat)(f:Nat->D):cutD ((List.range (n+k)).map f) none (some (n:Int))=(List.range n).map f:=by
 rw[QTb, ← List.map_take,List.take_range]
 congr 2;omega
theorem QSG(n k:Nat)(f:Nat->D):cutD ((List.range (n+k)).map f) (some (n:Int)) none=(List.range k).map fun i=>f (n+i):=by
 rw[QQz]
 apply List.ext_getElem?
 intro i
 rw[List.getElem?_drop,List.getElem?_map,List.getElem?_map]
 by_cases h:i<k
 ·rw[List.getElem?_range h,List.getElem?_range (show n+i<n+k by omega)];rfl
 ·have a:(List.range k)[i]?=none:=by simp;omega
  have b:(List.range (n+k))[n+i]?=none:=by simp;omega
  rw[a,b];rfl
theorem QFZ{body:D->SD->Out Fl}{P:SD->Prop}:∀(l:List D),(∀ d∈l,∀ ς,P ς->∃ ς',body d ς=.ok (.nx ς')/\P ς')->∀ ς,P ς->∃ ς',loopD body l ς=.ok (.nx ς')/\P ς'
 | [],_,ς,p=>⟨ς,rfl,p⟩
 | d::l,h,ς,p=>by
  obtain⟨ς1,h1,p1⟩:=h d (List.mem_cons_self ..) ς p
  obtain⟨ς2,h2,p2⟩:=QFZ l (fun d hd=>h d (List.mem_cons_of_mem _ hd)) ς1 p1
  exact⟨ς2,by rw[loopD,h1];exact h2,p2⟩
section
variable{n nd:Nat}{nm dn c:Nat->Str}{t:Nat->List (List Int)}{m:Nat->Nat}{ld:Nat->Nat->Int}{st kd:Nat->Int}(hs:Seats n nd nm dn c t m ld st)(h4:∀ k,k<n->(t k).length<=4/\m k<=4)(n5:n<=5)(d3:nd<=3)
include hs h4 n5 d3
theorem QQ1(cell:Int)(S0:D)(a5 a6 a7 a8 a9 a10 a11 a12:Option (SM×D)):∃ b5 b6 b7 b8 b9 b10 b11 b12:Option (SM×D),QqM [some (.k,S0),some (.k,rl n (planD kd t m ld st)),some (.k,.int (nd:Int)),some (.k,offD n nd nm dn c t m ld st),some (.k,.int cell),a5,a6,a7,a8,a9,a10,a11,a12]
 = .ok (.nx [some (.k,S0),some (.k,rl n (planD kd t m ld st)),some (.k,.int (nd:Int)),some (.k,offD n nd nm dn c t m ld st),some (.k,.int cell),b5,b6,b7,b8,b9,b10,b11,b12]):=by
 obtain⟨w,B,B1,B2,hw,hws⟩:=QO1 cell (N:=n+nd) (by omega)
 have ecast:((n+nd:Nat):Int)=(n:Int)+(nd:Int):=by omega
 rw[ecast]at hws
 have c1:=QRy n nd (fun i=>fr (w i))
 have c2:=QSG n nd (fun i=>fr (w i))
 have hW:∀ i,i<n->okW (w i):=fun i hi=>(hw i (by omega)).1
 have hD:∀ i,i<nd->okW ((fun i=>w (n+i)) i):=fun i hi=>(hw (n+i) (by omega)).1
 obtain⟨de,hde,gde⟩:=QyK cell (N:=n) (by omega) (k0:=50) (by decide) (by decide)
 obtain⟨ou,hou,gou⟩:=QyK cell (N:=nd) (by omega) (k0:=60) (by decide) (by decide)
 have H:∀ k:Nat,∃ y:Int,k<n->0<=y/\Qx [.int cell,.int ((k:Int)+40)]=.ok (.int y):=fun k=>by
  by_cases hk:k<n
  ·obtain⟨y,y0,y1,hy⟩:=QfA cell (k:=(k:Int)+40) (Nat.le_trans (QS (show((k:Int)+40).natAbs<2 ^ 10 by omega)) (by decide))
   exact⟨y,fun _=>⟨y0,hy⟩⟩
  ·exact⟨0,fun z=>absurd z hk⟩
 obtain⟨ys,hys⟩:∃ ys:Nat->Int,∀ k,k<n->0<=ys k/\Qx [.int cell,.int ((k:Int)+40)]=.ok (.int (ys k)):=⟨fun k=>(H k).choose,fun k h=>(H k).choose_spec h⟩
 obtain⟨sk,esk⟩:∃ sk:Nat->Int,∀ k,sk k=ys k % ((t k).length:Int):=⟨_,fun _=>rfl⟩
 have skr:∀ k,k<n->0<=sk k/\sk k<((t k).length:Int):=fun k hk=>by
  have:=(hs.tb k hk).n1
  rw[esk]
  exact⟨Int.emod_nonneg _ (by omega),Int.emod_lt_of_pos _ (by omega)⟩
 have K:∀ k:Nat,∃ p:Int×Int,k<n->low p.1 p.2/\bitsI p.1<=7700/\p.2.natAbs<=2 ^ 48/\Qho [offD n nd nm dn c t m ld st,.int (k:Int),.int (sk k),rl n (fun i=>fr (w i)),rl nd (fun i=>fr ((fun i=>w (n+i)) i))]=.ok (fr p)/\∃ d:D,Qce [rl n (planD kd t m ld st),.int (k:Int),rl n (fun i=>fr (w i)),rl nd (fun i=>fr ((fun i=>w (n+i)) i))]=.ok d/\dIx d (.int (sk k))=.ok (fr p):=fun k=>by
  by_cases hk:k<n
  ·obtain⟨s0,s1⟩:=skr k hk
   have n1':=(hs.tb k hk).n1
   obtain⟨n4,m4⟩:=h4 k hk
   obtain⟨s,es⟩:∃ s:Nat,(s:Int)=sk k:=⟨(sk k).toNat,Int.toNat_of_nonneg s0⟩
   have hs':s<(t k).length:=by omega
   obtain⟨p,lp,qp,bp,hp⟩:=QSH hs hW hD hk hs'
   obtain⟨L,hL,_,gL⟩:=QNP hs h4 hW hD (kd:=kd) hk
   have e:L s=p:=QOO (hL s hs').1 lp (by rw[(hL s hs').2.1,qp])
   obtain⟨Z,hZ⟩:=QOa (s:=s) n1' B1 (f:=bh ld w (fun i=>w (n+i)) k) (t:=t k) (m:=m k) (fun j hj=>by
    obtain⟨l1,l2⟩:=hs.ldr k j hk hj
    unfold bh
    split
    ·have:=hw (n+(-1 - ld k j).toNat) (by omega)
     exact⟨this.1.1.1,this.2⟩
    ·have:=hw (ld k j).toNat (by omega)
     exact⟨this.1.1.1,this.2⟩)
   have q1:1 * 1<=((t k).length:Int) * B:=Int.mul_le_mul (by omega) B1 (by decide) (by omega)
   have q2:((t k).length:Int) * B<=4 * 1000000000:=Int.mul_le_mul (by omega) B2 (by omega) (by decide)
   have dv:p.2∣((t k).length:Int) * B:=QSS lp (by omega) (by rw[qp,hZ])
   have le:p.2<=((t k).length:Int) * B:=Int.le_of_dvd (by omega) dv
   refine⟨p,fun _=>⟨lp,?_,?_,?_,_,gL,?_⟩⟩
   ·rw[← e];exact Nat.le_trans (hL s hs').2.2.2.1 (by decide)
   ·have:=lp.1
    omega
   ·rw[← es];exact hp
   ·rw[← es, ← e];exact ixR hs'
  ·exact⟨(0,1),fun z=>absurd z hk⟩
 obtain⟨P,hP⟩:∃ P:Nat->Int×Int,∀ k,k<n->low (P k).1 (P k).2/\bitsI (P k).1<=7700/\(P k).2.natAbs<=2 ^ 48/\Qho [offD n nd nm dn c t m ld st,.int (k:Int),.int (sk k),rl n (fun i=>fr (w i)),rl nd (fun i=>fr ((fun i=>w (n+i)) i))]=.ok (fr (P k))/\∃ d:D,Qce [rl n (planD kd t m ld st),.int (k:Int),rl n (fun i=>fr (w i)),rl nd (fun i=>fr ((fun i=>w (n+i)) i))]=.ok d/\dIx d (.int (sk k))=.ok (fr (P k)):=⟨fun k=>(K k).choose,fun k h=>(K k).choose_spec h⟩
 obtain⟨p,lp,qp,hbook⟩:=QSx hs n5 d3 hW hD skr hde hou (P:=P) (fun k hk=>⟨(hP k hk).1.1,(hP k hk).2.1,(hP k hk).2.2.1,(hP k hk).2.2.2.1⟩)
 have k1:=QzG (n:=n) (k:=nd) (fun i=>D.int (de i)) (fun i=>.int (ou i)) (by omega)
 have e1:rl (n+nd) (fun i=>if i<n then D.int (de i) else .int (ou (i - n)))=rl (n+nd) (fun i=>.int ((fun i=>if i<n then de i else ou (i - n)) i)):=QrL fun i _=>by show _=D.int (if i<n then de i else ou (i - n));split<;>rfl
 rw[e1]at k1
 have k2:=QzG (n:=n) (k:=nd) (fun i=>fr (w i)) (fun i=>fr ((fun i=>w (n+i)) i)) (by omega)
 have e2:rl (n+nd) (fun i=>if i<n then fr (w i) else fr ((fun i=>w (n+i)) (i - n)))=rl (n+nd) (fun i=>fr ((fun i=>if i<n then w i else(fun i=>w (n+i)) (i - n)) i)):=QrL fun i _=>by show _=fr (if i<n then w i else w (n+(i - n)));split<;>rfl
 rw[e2]at k2
 obtain⟨p2,lp2,qp2,hlb⟩:=QP5 (n:=n) (N:=n+nd) n5 (by omega) (sk:=sk) (cn:=fun i=>if i<n then de i else ou (i - n)) (wd:=fun i=>if i<n then w i else(fun i=>w (n+i)) (i - n)) (P:=P) (lenR n (planD kd t m ld st)) k1 k2
  (fun i hi=>by
   show 0<=(if i<n then de i else ou (i - n))/\(if i<n then de i else ou (i - n))<=1000000000
   split
   ·rename_i h;exact hde i h
   ·exact hou (i - n) (by omega))
  (fun i hi=>by
   show okW (if i<n then w i else w (n+(i - n)))
   split
   ·rename_i h;exact hW i h
   ·exact hD (i - n) (by omega))
  (fun k hk=>⟨(hP k hk).1.1,(hP k hk).2.1,(hP k hk).2.2.1,(hP k hk).2.2.2.2⟩)
 have ep:p2=p:=QOO lp2 lp (qp2.trans qp.symm)
 subst ep
 have hsame:=QSr p2
 have hst:eComp [none,some 4,some 1] (itR1 (eA fLen (aCons (eVar 1) aNil))) (gN 0) cTrue QBH [some (.k,S0),some (.k,rl n (planD kd t m ld st)),some (.k,.int (nd:Int)),some (.k,offD n nd nm dn c t m ld st),some (.k,.int cell),some (.k,rl (n+nd) (fun i=>fr (w i))),some (.k,rl n (fun i=>fr (w i))),some (.k,rl nd (fun i=>fr ((fun i=>w (n+i)) i))),a8,a9,a10,a11,a12]=.ok (rl n (fun k=>.int (sk k))):=by
  have hlen:=lenR n (planD kd t m ld st)
  refine QjM (fun k=>D.int (sk k)) (QcV n (by (repeat walk_at "e")) (by omega)) (fun k hk=>?_) (by omega)
  obtain⟨y0,hy⟩:=hys k hk
  have n1':=(hs.tb k hk).n1
  have tp:(0:Int)<((t k).length:Int):=by omega
  have x1:dIx (rl n (planD kd t m ld st)) (.int (k:Int))=.ok (planD kd t m ld st k):=ixR hk
  have x3:dIx (planD kd t m ld st k) (.int 1)=.ok (tbD (t k)):=ix_t 1 rfl
  have hl:fLen [tbD (t k)]=.ok (.int ((t k).length:Int)):=by simp[fLen,tbD]
  rw[esk]
  refine Qax (by walk_at "cap") (by walk_at "s") ?_
  unfold QBH
  (repeat walk_at "e")
 have hlen:=lenR n (planD kd t m ld st)
 have hne:dNe (.lst [rl n (fun i=>fr (w i)),rl nd (fun i=>fr ((fun i=>w (n+i)) i)),rl n (fun k=>.int (sk k)),rl n (fun i=>.int (de i)),rl nd (fun i=>.int (ou i))]) (.lst [rl n (fun i=>fr (w i)),rl nd (fun i=>fr ((fun i=>w (n+i)) i)),rl n (fun k=>.int (sk k)),rl n (fun i=>.int (de i)),rl nd (fun i=>.int (ou i))])=.ok (.bl false):=by
  have a:∀(q:Nat)(f:Nat->Int×Int),dep (rl q (fun i=>fr (f i)))<=5:=fun q f=>Nat.le_trans (QNW (m:=dep (fr (0,0))) fun i _=>Nat.le_refl _) (by decide)
  have b:∀(q:Nat)(f:Nat->Int),dep (rl q (fun i=>.int (f i)))<=5:=fun q f=>Nat.le_trans (QNW (m:=dep (.int 0)) fun i _=>Nat.le_refl _) (by decide)
  have a':∀(q:Nat)(f:Nat->Int×Int),layD (rl q (fun i=>fr (f i)))=true:=fun q f=>QOe fun i _=>rfl
  have b':∀(q:Nat)(f:Nat->Int),layD (rl q (fun i=>.int (f i)))=true:=fun q f=>QOe fun i _=>rfl
  have mem5:∀{Q:D->Prop}{x1 x2 x3 x4 x5:D},Q x1->Q x2->Q x3->Q x4->Q x5->∀ d∈[x1,x2,x3,x4,x5],Q d:=by
   intro Q x1 x2 x3 x4 x5 h1 h2 h3 h4 h5 d hd
   simp only[List.mem_cons,List.not_mem_nil,or_false]at hd
   rcases hd with rfl | rfl | rfl | rfl | rfl<;>assumption
  refine QQ7 (show layDs _=true from QAZ _ (mem5 (a' _ _) (a' _ _) (b' _ _) (b' _ _) (b' _ _))) (Nat.le_trans (Nat.succ_le_succ (QAC _ (mem5 (Q:=fun d=>dep d<=5) (a _ _) (a _ _) (b _ _) (b _ _) (b _ _)))) (by decide))
 have hdW:∀(q:Nat)(f:Nat->D),dList (rl q f)=.ok (rl q f):=fun _ _=>rfl
 have d1:=hdW n (fun i=>fr (w i))
 have d2:=hdW nd (fun i=>fr ((fun i=>w (n+i)) i))
 have d4:=hdW n (fun k=>.int (sk k))
 have d5:=hdW n (fun i=>.int (de i))
 have d6:=hdW nd (fun i=>.int (ou i))
 clear hdW hP K H qp qp2 e1 e2 k1 k2
 have sl1:eSl (eVar 5) oNo (oSome (eA fLen (aCons (eVar 1) aNil))) [some (.k,S0),some (.k,rl n (planD kd t m ld st)),some (.k,.int (nd:Int)),some (.k,offD n nd nm dn c t m ld st),some (.k,.int cell),some (.k,rl (n+nd) (fun i=>fr (w i))),a6,a7,a8,a9,a10,a11,a12]=.ok (rl n (fun i=>fr (w i))):=by (repeat walk_at "e")
 have sl2:eSl (eVar 5) (oSome (eA fLen (aCons (eVar 1) aNil))) oNo [some (.k,S0),some (.k,rl n (planD kd t m ld st)),some (.k,.int (nd:Int)),some (.k,offD n nd nm dn c t m ld st),some (.k,.int cell),some (.k,rl (n+nd) (fun i=>fr (w i))),some (.k,rl n (fun i=>fr (w i))),a7,a8,a9,a10,a11,a12]=.ok (rl nd (fun i=>fr ((fun i=>w (n+i)) i))):=by (repeat walk_at "e")
 generalize hSO:rl (n+nd) (fun i=>fr (w i))=SO at *
 generalize hPP:rl n (planD kd t m ld st)=P0 at *
 generalize hO:offD n nd nm dn c t m ld st=O at *
 generalize hWW:rl n (fun i=>fr (w i))=W at *
 generalize hDW:rl nd (fun i=>fr ((fun i=>w (n+i)) i))=DW at *
 generalize hSS:rl n (fun k=>D.int (sk k))=SS at *
 generalize hDE:rl n (fun i=>D.int (de i))=DE' at *
 generalize hOU:rl nd (fun i=>D.int (ou i))=OU at *
 have i0:dIx (.lst [W,DW,SS,DE',OU]) (.int 0)=.ok W:=ixL 0 rfl
 have i1:dIx (.lst [W,DW,SS,DE',OU]) (.int 1)=.ok DW:=ixL 1 rfl
 have i2:dIx (.lst [W,DW,SS,DE',OU]) (.int 2)=.ok SS:=ixL 2 rfl
 have i3:dIx (.lst [W,DW,SS,DE',OU]) (.int 3)=.ok DE':=ixL 3 rfl
 have i4:dIx (.lst [W,DW,SS,DE',OU]) (.int 4)=.ok OU:=ixL 4 rfl
 refine⟨some (.k,SO),some (.k,W),some (.k,DW),some (.k,SS),some (.k,DE'),some (.k,OU),some (.k,.lst [W,DW,SS,DE',OU]),some (.k,fr p2),?_⟩
 unfold QqM
 (repeat walk_at "e")
end
theorem the_law(ns:List Int)(hl:ns.length<=63)(hb:∀ z∈ns,bitsI z<=1048576):QoR [.lst (ns.map .int)]=.ok (.bl true):=by
 obtain⟨n,nd,kd,t,m,ld,st,n1,n5,d1,d3,pl,hplan⟩:=QSd ns
 obtain⟨c,sts,hoff⟩:=QNO n1 n5 d1 d3 pl
 have h4:∀ k,k<n->(t k).length<=4/\m k<=4:=fun k h=>⟨(pl.kd k h).tb.2.1,(pl.kd k h).tb.2.2⟩
 have hlen:=lenR n (planD kd t m ld st)
 have tk:=QQ1 sts h4 n5 d3 (kd:=kd)
 generalize hP:rl n (planD kd t m ld st)=P at *
 generalize hO:offD n nd nmC dnC c t m ld st=O at *
 have cc:=QSN D.int ns (some 11) (some 19)
 have cl:=QRi ns (some 11) (some 19)
 generalize cutD ns (some 11) (some 19)=xs at cc cl
 have hcat:dCat (.lst [.int 0]) (.lst (xs.map .int))=.ok (.lst ((0::xs).map .int)):=by
  rw[QBC (by simp;omega)];rfl
 obtain⟨ς',hL,a4,a5,a6,a7,a8,a9,a10,a11,a12,rfl⟩:=QFZ (body:=fun x ς=>gN 4 x ς>>=fun ς'=>QqM ς') (P:=fun ς=>∃(a4 a5 a6 a7 a8 a9 a10 a11 a12:Option (SM×D)),ς=[some (.k,.lst (ns.map .int)),some (.k,P),some (.k,.int (nd:Int)),some (.k,O),a4,a5,a6,a7,a8,a9,a10,a11,a12]) ((0::xs).map D.int)
  (by
   rintro d hd ς ⟨a4,a5,a6,a7,a8,a9,a10,a11,a12,rfl⟩
   obtain⟨cell,_,rfl⟩:=List.mem_map.mp hd
   obtain⟨b5,b6,b7,b8,b9,b10,b11,b12,h⟩:=tk cell (.lst (ns.map .int)) a5 a6 a7 a8 a9 a10 a11 a12
   exact⟨_,r_gN (by walk_at "s") h,_,_,_,_,_,_,_,_,_,rfl⟩)
  [some (.k,.lst (ns.map .int)),some (.k,P),some (.k,.int (nd:Int)),some (.k,O),none,none,none,none,none,none,none,none,none] ⟨_,_,_,_,_,_,_,_,_,rfl⟩
 have hfor:=QbH (g:=gN 4) (T:=QqM) (its:=itL (e2 dCat (eLst (aCons (eC (.int 0)) aNil)) (eSl (eVar 0) (oSome (eC (.int 11))) (oSome (eC (.int 19)))))) (xs:=(0::xs).map D.int) (ς:=[some (.k,.lst (ns.map .int)),some (.k,P),some (.k,.int (nd:Int)),some (.k,O),none,none,none,none,none,none,none,none,none]) (by (repeat walk_at "e")) hL
 rw[QUH]
 unfold QET
 (repeat walk_at "e")
end My
namespace My
open PySem PySem.Spec L2 DL
theorem all_mk{l:W.OpenLaw}{w:World}{K:W.Frag}{h:Heap}{mg:Str->Option Value}{fa:Addr}(X:K.In h)(G:h.Ns mainGlobals mg)(hfa:mg "law"=some (.ref fa))
 {QH:Addr} {Qq:Addr} {QF:Addr} {QG:Addr} {QV:Addr} {Qbb:Addr} {QaK:Addr} {QfH:Addr} {Qae:Addr} {QhE:Addr} {Qhr:Addr} {QfI:Addr} {QhG:Addr} {QeN:Addr} {QaW:Addr} {QK:Addr} {Qa9:Addr} {QeU:Addr} {Qr5:Addr} {QJH QKq:Option Addr} {QJs:Array (Option Value)} {QIj QKa QIZ QKK Qww QKD:Value} {Qpe:Addr} {QFc QGk:Option Addr} {QHV:Array (Option Value)} {QH3 QFt QGT QEU Quk QGm:Value} {Qn1:Addr} {QEl QDF:Option Addr} {QEP:Array (Option Value)} {QDp QDl QEz QEf Qtb QDI:Value} {QsF:Addr} {QJ2 QIK:Option Addr} {QKm:Array (Option Value)} {QKo QIX QJQ QKt Qwo QIh:Value} {Qrv:Addr} {QI0 QIy:Option Addr} {QJX:Array (Option Value)} {QIQ QIs QJ5 QIp QwB QJY:Value} {Qpf:Addr} {QGv QGG:Option Addr} {QGf:Array (Option Value)} {QGn QFo QHj QF0 Qvh QGx:Value} {Quw:Addr} {QMC QLS:Option Addr} {QLI:Array (Option Value)} {QMe QMP QNa QMr QAr QLD:Value} {Qob:Addr} {QEg QER:Option Addr} {QEB:Array (Option Value)} {QEw QEx QDN QDf Qti QEI:Value} {QuQ:Addr} {QNc QNk:Option Addr} {QMM:Array (Option Value)} {QNl QMQ QL7 QMw Qyx QLT:Value} {Qp7:Addr} {QFI QGL:Option Addr} {QFy:Array (Option Value)} {QG2 QFr QEV QGi Qua QHf:Value} {Qpq:Addr} {QFl QFa:Option Addr} {QHY:Array (Option Value)} {QHn QGM QGb QGp Quj QE0:Value} {Qsl:Addr} {QJW QJV:Option Addr} {QJz:Array (Option Value)} {QKx QKI QI8 QJu Qwz QIf:Value} {Qqj:Addr} {QE9 QFg:Option Addr} {QHZ:Array (Option Value)} {QFk QFY QHC QGt Qvz QFf:Value} {QrQ:Addr} {QKb QKB:Option Addr} {QJq:Array (Option Value)} {QIC QKn QJ0 QJj QwN QIe:Value} {QDz QDM:Option Addr} {QDq:Array (Option Value)} {QEd QEs QD9 QDW Qth QEp:Value} {QAe Qyj:Option Addr} {Qzr:Array (Option Value)} {Qyl Qza QyJ QAl Qo2 QzK:Value} {Qvg:Addr} {QMH QMb:Option Addr} {QL6:Array (Option Value)} {QM0 QLX QMk QMi QzX QL1:Value} {QpH:Addr} {QGB QGW:Option Addr} {QFb:Array (Option Value)} {QHw QHW QGu QH7 Qvs QHA:Value} {QrE:Addr} {QK0 QJw:Option Addr} {QIq:Array (Option Value)} {QKg QKh QIG QIW QwO QIa:Value} {Qla:Addr} {QCh QAI:Option Addr} {QCt:Array (Option Value)} {QBl QCf QCa QAx Qrf QAu:Value} {Qsx:Addr} {QKi QKY:Option Addr} {QKP:Array (Option Value)} {QKS QH9 QI2 QJ9 Qwn QKV:Value} {QBv QCq:Option Addr} {QAK:Array (Option Value)} {QB6 QA5 QBw QBu Qrj QAV:Value} {QuB:Addr} {QMf QLF:Option Addr} {QL2:Array (Option Value)} {QMI QNo QNy QLW QzT QMu:Value} {QjI:Addr} {Qy5 Qzp:Option Addr} {Qyh:Array (Option Value)} {QzH Qzu Qyf QAo QoT QzL:Value} {Qun Quf:Option Addr} {QuP:Array (Option Value)} {Quu Qvt QuR QuO QkT Qvk:Value} {Qxk:Addr} {QOl QOn:Option Addr} {QOb:Array (Option Value)} {QOz QNI QOt QNQ QC0 QNN:Value} {QsD:Addr} {QJb QKT:Option Addr} {QJR:Array (Option Value)} {QIV QJB QId QKu Qwr QIu:Value} {QEW QH1:Option Addr} {QHp:Array (Option Value)} {QFv QFp QHe QGw Qvw QEZ:Value} {Qnq:Addr} {QD8 QEA:Option Addr} {QDG:Array (Option Value)} {QDv QDn QD3 QDJ Qtj QDS:Value} {QFK QGI:Option Addr} {QHo:Array (Option Value)} {QG1 QFn QHv QFH QuX QGz:Value} {QBE QBj:Option Addr} {QAE:Array (Option Value)} {QCD QAY QB0 QCy Qq1 QCb:Value} {QG9 QE1:Option Addr} {QGQ:Array (Option Value)} {QFN QHc QFd QFG Qve QHE:Value} {QpV:Addr} {QHs QHh:Option Addr} {QHD:Array (Option Value)} {QGs QGR QE3 QH2 QuH QHX:Value} {Qn8:Addr} {QEy QEG:Option Addr} {QDK:Array (Option Value)} {QEe QEQ QEr QEi Qtg QES:Value} {Qlq:Addr} {QAS QAy:Option Addr} {QAP:Array (Option Value)} {QA9 QCx QBK QCc QqL QAD:Value} {QuE:Addr} {QMn QMc:Option Addr} {QMg:Array (Option Value)} {QLY QNm QNs QLQ QyC QMR:Value} {Qn6:Addr} {QDy QDY:Option Addr} {QEJ:Array (Option Value)} {QEn QD1 QDQ QDe Qtn QDh:Value} {Qld:Addr} {QCv QBN:Option Addr} {QBR:Array (Option Value)} {QA3 QAM QCg QBI Qq9 QAU:Value} {QgD:Addr} {QtR QtH:Option Addr} {QtC:Array (Option Value)} {QtN QtI QtL QtM QjB QtP:Value} {Qjq:Addr} {Qxb QxG:Option Addr} {QxD:Array (Option Value)} {QxW Qxu QxQ Qx9 Qnz QxB:Value} {QCi:Addr} {QQb QwP:Option Addr} {QPP:Array (Option Value)} {QQt Qxj Qxh QwZ Qsg QwW:Value} {QvT:Addr} {QGS:Tok} {QO0:Value} {QOf:Option Addr} {QQy:Nat} {QPy:Array (Option Value)} {Qsy:Addr} {QKw QIJ:Option Addr} {QKd:Array (Option Value)} {QJr QJo QKp QJZ QwA QJ3:Value} {QBx:Addr} {QQj QQh:Option Addr} {QQT:Array (Option Value)} {QP7 QPO QP1 QQD QHg QQk:Value} {Qj8:Addr} {QzJ QzI:Option Addr} {Qz6:Array (Option Value)} {QzB QyP QyO QyU QoI Qze:Value} {QAn Qzf:Option Addr} {QAp:Array (Option Value)} {QyD QyV Qy0 QzR QoK Qz9:Value} {QAA QCE:Option Addr} {QBy:Array (Option Value)} {QAH QAv QAJ QBs Qrp QCe:Value} {Qm5 Qnn:Option Addr} {Qne:Array (Option Value)} {QmY Qoa QnN QmX Qgy Qnp:Value} {QEE QDL:Option Addr} {QDC:Array (Option Value)} {QEN QDT QDD QEO Qs6 QEM:Value} {Qzx QzU:Option Addr} {Qzc:Array (Option Value)} {Qy8 Qy4 Qyo Qzy Qo3 Qzv:Value} {QiR:Addr} {Qxg Qxv:Option Addr} {Qxi:Array (Option Value)} {Qxt Qw9 Qxc QxL QnC Qw4:Value} {QGc:Addr} {QR4 QRn:Option Addr} {QRb:Array (Option Value)} {QRa QSO QQ2 QR8 QK5 QQ8:Value} {Qxd:Addr} {QPA QOc:Option Addr} {QPr:Array (Option Value)} {QPj QNY QPC QN4 QC4 QPd:Value} {QGY:Addr} {QRG QSa:Option Addr} {QSI:Array (Option Value)} {QRN QSR QSL QSJ QLl QRp:Value} {Qqn:Addr} {QG4 QFB:Option Addr} {QHd:Array (Option Value)} {QEY QH6 QGK QHG Quo QFe:Value} {Qr7:Addr} {QJ7 QJS:Option Addr} {QKE:Array (Option Value)} {QKW QIL QKv QKQ QwH QI6:Value} {QrV:Addr} {QKk QIP:Option Addr} {QKA:Array (Option Value)} {QJF QIF QJl QJv Qwx QIO:Value} {Qjp:Addr} {QwY Qx0:Option Addr} {QxV:Array (Option Value)} {QxR Qxy QxC Qw8 QnA Qyd:Value} {QsV:Addr} {QJe QIg:Option Addr} {QIH:Array (Option Value)} {QIM QJ8 QJd QIN Qwj QJa:Value} {Qpp:Addr} {QGq QGF:Option Addr} {QHz:Array (Option Value)} {QFP QFU QFJ QFL QvE QHP:Value} {Qsv:Addr} {QKl QJh:Option Addr} {QJM:Array (Option Value)} {QIS QJc QJx QIc Qwy QKs:Value} {QMW:Addr} {QUu QOI:Option Addr} {QUx:Array (Option Value)} {QTP QPi QPF QPo QG3 QPk:Value} {tk_MOST_SIGNS:Tok} {tk_LETTERS:Tok} {tk_MOST_CLERKS:Tok} {tk_MOST_ENTRIES:Tok} {tk_MOST_DOORS:Tok} {tk_MOST_OUTS:Tok} {tk_MOST_SENT:Tok} {tk_MOST_ROWS:Tok}
 (QzP:W.nsIn K mainGlobals "Deal"=some (some (.ref QH)))
 (QCz:W.plainGet K QH Str.empty=true)
 (QBY:W.hasDictIn K QH=true)
 (QBQ:W.plainOver K QH=true)
 (QBf:W.findIn K (.ref QH) "__setattr__"=some (some (.builtin "object.__setattr__")))
 (QlI:W.findIn K (.ref QH) "table"=some none)
 (QfS:W.findIn K (.ref QH) "clerk_names"=some none)
 (QgG:W.findIn K (.ref QH) "door_names"=some none)
 (Qfm:W.findIn K (.ref QH) "entry_places"=some none)
 (QlO:W.findIn K (.ref QH) "staff"=some none)
 (Qfi:W.findIn K (.ref QH) "first_states"=some none)
 (QnS:W.findIn K (.ref QH) "ways"=some none)
 (Qlg:W.findIn K (.ref QH) "heads"=some none)
 (QsX:W.nsIn K mainGlobals "Bundle"=some (some (.ref Qq)))
 (QuU:W.plainGet K Qq Str.empty=true)
 (QvF:W.hasDictIn K Qq=true)
 (Qul:W.plainOver K Qq=true)
 (QvG:W.findIn K (.ref Qq) "__setattr__"=some (some (.builtin "object.__setattr__")))
 (QiL:W.findIn K (.ref Qq) "table"=some none)
 (QeY:W.findIn K (.ref Qq) "clerk_names"=some none)
 (Qfn:W.findIn K (.ref Qq) "door_names"=some none)
 (Qeh:W.findIn K (.ref Qq) "entry_places"=some none)
 (Qju:W.findIn K (.ref Qq) "staff"=some none)
 (Qel:W.findIn K (.ref Qq) "first_states"=some none)
 (QjZ:W.findIn K (.ref Qq) "ways"=some none)
 (Qiy:W.findIn K (.ref Qq) "heads"=some none)
 (QzD:W.nsIn K mainGlobals "Copy"=some (some (.ref QF)))
 (QBU:W.plainGet K QF Str.empty=true)
 (QBX:W.hasDictIn K QF=true)
 (QA1:W.plainOver K QF=true)
 (QBa:W.findIn K (.ref QF) "__setattr__"=some (some (.builtin "object.__setattr__")))
 (QlX:W.findIn K (.ref QF) "table"=some none)
 (QfO:W.findIn K (.ref QF) "clerk_names"=some none)
 (QgB:W.findIn K (.ref QF) "door_names"=some none)
 (QfG:W.findIn K (.ref QF) "entry_places"=some none)
 (Qlu:W.findIn K (.ref QF) "staff"=some none)
 (QfD:W.findIn K (.ref QF) "first_states"=some none)
 (Qoe:W.findIn K (.ref QF) "ways"=some none)
 (QlY:W.findIn K (.ref QF) "heads"=some none)
 (Qy6:W.nsIn K mainGlobals "Rows"=some (some (.ref QG)))
 (QAs:W.plainGet K QG Str.empty=true)
 (QCF:W.hasDictIn K QG=true)
 (QAG:W.plainOver K QG=true)
 (QBT:W.findIn K (.ref QG) "__setattr__"=some (some (.builtin "object.__setattr__")))
 (QlZ:W.findIn K (.ref QG) "table"=some none)
 (QfR:W.findIn K (.ref QG) "clerk_names"=some none)
 (Qgi:W.findIn K (.ref QG) "door_names"=some none)
 (Qfa:W.findIn K (.ref QG) "entry_places"=some none)
 (Qlf:W.findIn K (.ref QG) "staff"=some none)
 (Qfq:W.findIn K (.ref QG) "first_states"=some none)
 (QnP:W.findIn K (.ref QG) "ways"=some none)
 (QlF:W.findIn K (.ref QG) "heads"=some none)
 (QsR:W.nsIn K mainGlobals "Office"=some (some (.ref QV)))
 (QvB:W.plainGet K QV Str.empty=true)
 (Qvo:W.hasDictIn K QV=true)
 (Qvl:W.plainOver K QV=true)
 (Qvx:W.findIn K (.ref QV) "__setattr__"=some (some (.builtin "object.__setattr__")))
 (QiQ:W.findIn K (.ref QV) "table"=some none)
 (QeS:W.findIn K (.ref QV) "clerk_names"=some none)
 (QfE:W.findIn K (.ref QV) "door_names"=some none)
 (Qej:W.findIn K (.ref QV) "entry_places"=some none)
 (Qis:W.findIn K (.ref QV) "staff"=some none)
 (Qes:W.findIn K (.ref QV) "first_states"=some none)
 (Qj9:W.findIn K (.ref QV) "ways"=some none)
 (QiD:W.findIn K (.ref QV) "heads"=some none)
 (QpL:W.findIn K (.ref QH) "outs"=some (some (.ref Qbb)))
 (QlR:W.findIn K (.ref Qq) "outs"=some (some (.ref Qbb)))
 (QpR:W.findIn K (.ref QF) "outs"=some (some (.ref Qbb)))
 (Qpl:W.findIn K (.ref QG) "outs"=some (some (.ref Qbb)))
 (QlS:W.findIn K (.ref QH) "period"=some (some (.ref QaK)))
 (Qja:W.findIn K (.ref Qq) "period"=some (some (.ref QaK)))
 (QlH:W.findIn K (.ref QF) "period"=some (some (.ref QaK)))
 (QlQ:W.findIn K (.ref QG) "period"=some (some (.ref QaK)))
 (QnW:W.findIn K (.ref QH) "whole"=some (some (.ref QaW)))
 (QjK:W.findIn K (.ref Qq) "whole"=some (some (.ref QaW)))
 (Qm8:W.findIn K (.ref QF) "whole"=some (some (.ref QaW)))
 (Qoi:W.findIn K (.ref QG) "whole"=some (some (.ref QaW)))
 (Qeo:W.findIn K (.ref QH) "sent_from_start"=some (some (.ref QK)))
 (QdC:W.findIn K (.ref Qq) "sent_from_start"=some (some (.ref QK)))
 (Qen:W.findIn K (.ref QF) "sent_from_start"=some (some (.ref QK)))
 (Qeg:W.findIn K (.ref QG) "sent_from_start"=some (some (.ref QK)))
 (QjY:W.findIn K (.ref QV) "leads"=some (some (.ref QeU)))
 (QjP:W.findIn K (.ref QV) "clerk"=some (some (.ref QeN)))
 (Qo8:W.findIn K (.ref QH) "sent"=some (some (.ref Qa9)))
 (Qlo:W.findIn K (.ref Qq) "sent"=some (some (.ref Qa9)))
 (Qpy:W.findIn K (.ref QF) "sent"=some (some (.ref Qa9)))
 (QpJ:W.findIn K (.ref QG) "sent"=some (some (.ref Qa9)))
 (QhZ:W.findIn K (.ref QH) "keep_rows"=some (some (.ref Qae)))
 (QgA:W.findIn K (.ref Qq) "keep_rows"=some (some (.ref Qae)))
 (Qh0:W.findIn K (.ref QF) "keep_rows"=some (some (.ref Qae)))
 (Qh9:W.findIn K (.ref QG) "keep_rows"=some (some (.ref Qae)))
 (QpE:W.findIn K (.ref QH) "__init__"=some (some (.ref Qhr)))
 (QlN:W.findIn K (.ref Qq) "__init__"=some (some (.ref QfI)))
 (Qpg:W.findIn K (.ref QF) "__init__"=some (some (.ref QhG)))
 (QpC:W.findIn K (.ref QG) "__init__"=some (some (.ref QhE)))
 (Ql1:W.findIn K (.ref QV) "__init__"=some (some (.ref QfH)))
 (Qxf:W.makesIn K QH=true)
 (Qx1:W.keepIn K (.ref QH)=true)
 (Qsn:W.makesIn K Qq=true)
 (Qrr:W.keepIn K (.ref Qq)=true)
 (Qyc:W.makesIn K QF=true)
 (QxY:W.keepIn K (.ref QF)=true)
 (Qxl:W.makesIn K QG=true)
 (Qxe:W.keepIn K (.ref QG)=true)
 (Qrt:W.makesIn K QV=true)
 (QrU:W.keepIn K (.ref QV)=true)
 (y1:W.specialIn K (.builtin "object.__class__") "__get__"=some (some (.builtin "getset_descriptor.__get__")))
 (y2:W.takesIn K (.builtin "object.__class__")=some true)
 (QAT:W.findIn K (.ref QH) "__class__"=some (some (.builtin "object.__class__")))
 (QA6:W.mroIn K QH (.type "object")=some true)
 (Qvr:W.findIn K (.ref Qq) "__class__"=some (some (.builtin "object.__class__")))
 (Qt7:W.mroIn K Qq (.type "object")=some true)
 (QCC:W.findIn K (.ref QF) "__class__"=some (some (.builtin "object.__class__")))
 (QBZ:W.mroIn K QF (.type "object")=some true)
 (QBz:W.findIn K (.ref QG) "__class__"=some (some (.builtin "object.__class__")))
 (QBm:W.mroIn K QG (.type "object")=some true)
 (QuZ:W.findIn K (.ref QV) "__class__"=some (some (.builtin "object.__class__")))
 (QtV:W.mroIn K QV (.type "object")=some true)
 (Qsp:W.nsIn K mainGlobals "_law_cell"=some (some (.ref Qr5)))
 (Qsh:K.lookup Qr5=some ⟨QIj,QJH,.func (W.fnOf "_law_cell" "_law_cell" (Qm QcN) (Qk QcN) (Qa QcN) .none QKa QIZ QKK QKq Qww QKD),QJs⟩)
 (QsO:W.codeIn K Qww "_law_cell"=true)
 (Qmi:W.keepIn K (.ref Qr5)=true)
 (QpO:W.nsIn K mainGlobals "_law_mixed"=some (some (.ref Qpe)))
 (QpQ:K.lookup Qpe=some ⟨QH3,QFc,.func (W.fnOf "_law_mixed" "_law_mixed" (Qm Qcf) (Qk Qcf) (Qa Qcf) .none QFt QGT QEU QGk Quk QGm),QHV⟩)
 (Qo9:W.codeIn K Quk "_law_mixed"=true)
 (Qkz:W.keepIn K (.ref Qpe)=true)
 (Qnk:W.nsIn K mainGlobals "_law_counts"=some (some (.ref Qn1)))
 (Qm4:K.lookup Qn1=some ⟨QDp,QEl,.func (W.fnOf "_law_counts" "_law_counts" (Qm QaS) (Qk QaS) (Qa QaS) .none QDl QEz QEf QDF Qtb QDI),QEP⟩)
 (Qno:W.codeIn K Qtb "_law_counts"=true)
 (Qjt:W.keepIn K (.ref Qn1)=true)
 (Qrz:W.nsIn K mainGlobals "_law_rows"=some (some (.ref QsF)))
 (QrR:K.lookup QsF=some ⟨QKo,QJ2,.func (W.fnOf "_law_rows" "_law_rows" (Qm Qah) (Qk Qah) (Qa Qah) .none QIX QJQ QKt QIK Qwo QIh),QKm⟩)
 (QrS:W.codeIn K Qwo "_law_rows"=true)
 (Qmy:W.keepIn K (.ref QsF)=true)
 (QsH:W.nsIn K mainGlobals "_law_plan"=some (some (.ref Qrv)))
 (Qrx:K.lookup Qrv=some ⟨QIQ,QI0,.func (W.fnOf "_law_plan" "_law_plan" (Qm QM) (Qk QM) (Qa QM) .none QIs QJ5 QIp QIy QwB QJY),QJX⟩)
 (QsP:W.codeIn K QwB "_law_plan"=true)
 (Qml:W.keepIn K (.ref Qrv)=true)
 (Qqv:W.nsIn K mainGlobals "places_of"=some (some (.ref Qpf)))
 (Qqp:K.lookup Qpf=some ⟨QGn,QGv,.func (W.fnOf "places_of" "places_of" (Qm QaA) (Qk QaA) (Qa QaA) .none QFo QHj QF0 QGG Qvh QGx),QGf⟩)
 (Qpu:W.codeIn K Qvh "places_of"=true)
 (Qkh:W.keepIn K (.ref Qpf)=true)
 (QtZ:W.nsIn K mainGlobals "is_list"=some (some (.ref Quw)))
 (Qur:K.lookup Quw=some ⟨QMe,QMC,.func (W.fnOf "is_list" "is_list" (Qm Qcv) (Qk Qcv) (Qa Qcv) .none QMP QNa QMr QLS QAr QLD),QLI⟩)
 (QuV:W.codeIn K QAr "is_list"=true)
 (Qo7:W.keepIn K (.ref Quw)=true)
 (Qn0:W.nsIn K mainGlobals "all_unlike"=some (some (.ref Qob)))
 (QmW:K.lookup Qob=some ⟨QEw,QEg,.func (W.fnOf "all_unlike" "all_unlike" (Qm QbP) (Qk QbP) (Qa QbP) .none QEx QDN QDf QER Qti QEI),QEB⟩)
 (Qnd:W.codeIn K Qti "all_unlike"=true)
 (Qiw:W.keepIn K (.ref Qob)=true)
 (QtU:W.nsIn K mainGlobals "is_name"=some (some (.ref QuQ)))
 (Qvi:K.lookup QuQ=some ⟨QNl,QNc,.func (W.fnOf "is_name" "is_name" (Qm Qa0) (Qk Qa0) (Qa Qa0) .none QMQ QL7 QMw QNk Qyx QLT),QMM⟩)
 (QuY:W.codeIn K Qyx "is_name"=true)
 (QoL:W.keepIn K (.ref QuQ)=true)
 (Qqa:W.nsIn K mainGlobals "are_names"=some (some (.ref Qp7)))
 (Qqc:K.lookup Qp7=some ⟨QG2,QFI,.func (W.fnOf "are_names" "are_names" (Qm Qaz) (Qk Qaz) (Qa Qaz) .none QFr QEV QGi QGL Qua QHf),QFy⟩)
 (Qph:W.codeIn K Qua "are_names"=true)
 (Qkl:W.keepIn K (.ref Qp7)=true)
 (QpM:W.nsIn K mainGlobals "are_texts"=some (some (.ref Qpq)))
 (Qqr:K.lookup Qpq=some ⟨QHn,QFl,.func (W.fnOf "are_texts" "are_texts" (Qm Qak) (Qk Qak) (Qa Qak) .none QGM QGb QGp QFa Quj QE0),QHY⟩)
 (Qp1:W.codeIn K Quj "are_texts"=true)
 (Qko:W.keepIn K (.ref Qpq)=true)
 (Qsd:W.nsIn K mainGlobals "is_whole"=some (some (.ref Qsl)))
 (Qsm:K.lookup Qsl=some ⟨QKx,QJW,.func (W.fnOf "is_whole" "is_whole" (Qm Qci) (Qk Qci) (Qa Qci) .none QKI QI8 QJu QJV Qwz QIf),QJz⟩)
 (Qsr:W.codeIn K Qwz "is_whole"=true)
 (QmP:W.keepIn K (.ref Qsl)=true)
 (Qps:W.nsIn K mainGlobals "is_within"=some (some (.ref Qqj)))
 (Qqb:K.lookup Qqj=some ⟨QFk,QE9,.func (W.fnOf "is_within" "is_within" (Qm QbI) (Qk QbI) (Qa QbI) .none QFY QHC QGt QFg Qvz QFf),QHZ⟩)
 (QpK:W.codeIn K Qvz "is_within"=true)
 (Qkm:W.keepIn K (.ref Qqj)=true)
 (Qrq:W.nsIn K mainGlobals "is_clerk"=some (some (.ref QrQ)))
 (QsI:K.lookup QrQ=some ⟨QIC,QKb,.func (W.fnOf "is_clerk" "is_clerk" (Qm Qbp) (Qk Qbp) (Qa Qbp) .none QKn QJ0 QJj QKB QwN QIe),QJq⟩)
 (QrM:W.codeIn K QwN "is_clerk"=true)
 (Qmp:W.keepIn K (.ref QrQ)=true)
 (QeJ:W.isFn K (.ref Qbb)=true)
 (Qn4:K.lookup Qbb=some ⟨QEd,QDz,.func (W.fnOf "outs" "Clerk.outs" (Qm Qcg) (Qk Qcg) (Qa Qcg) .none QEs QD9 QDW QDM Qth QEp),QDq⟩)
 (Qoh:W.codeIn K Qth "Clerk.outs"=true)
 (Qdt:W.keepIn K (.ref Qbb)=true)
 (Qdr:W.isFn K (.ref QaK)=true)
 (Qj1:K.lookup QaK=some ⟨Qyl,QAe,.func (W.fnOf "period" "Clerk.period" (Qm Qbk) (Qk Qbk) (Qa Qbk) .none Qza QyJ QAl Qyj Qo2 QzK),Qzr⟩)
 (Qj3:W.codeIn K Qo2 "Clerk.period"=true)
 (QcB:W.keepIn K (.ref QaK)=true)
 (Qvn:W.nsIn K mainGlobals "is_seat"=some (some (.ref Qvg)))
 (QuI:K.lookup Qvg=some ⟨QM0,QMH,.func (W.fnOf "is_seat" "is_seat" (Qm Qa6) (Qk Qa6) (Qa Qa6) .none QLX QMk QMi QMb QzX QL1),QL6⟩)
 (Que:W.codeIn K QzX "is_seat"=true)
 (QoV:W.keepIn K (.ref Qvg)=true)
 (Qpj:W.nsIn K mainGlobals "are_seats"=some (some (.ref QpH)))
 (QpB:K.lookup QpH=some ⟨QHw,QGB,.func (W.fnOf "are_seats" "are_seats" (Qm Qaa) (Qk Qaa) (Qa Qaa) .none QHW QGu QH7 QGW Qvs QHA),QFb⟩)
 (Qql:W.codeIn K Qvs "are_seats"=true)
 (Qkv:W.keepIn K (.ref QpH)=true)
 (QsC:W.nsIn K mainGlobals "is_entry"=some (some (.ref QrE)))
 (QrJ:K.lookup QrE=some ⟨QKg,QK0,.func (W.fnOf "is_entry" "is_entry" (Qm Qbm) (Qk Qbm) (Qa Qbm) .none QKh QIG QIW QJw QwO QIa),QIq⟩)
 (QsB:W.codeIn K QwO "is_entry"=true)
 (QmD:W.keepIn K (.ref QrE)=true)
 (Qk4:W.nsIn K mainGlobals "are_entries"=some (some (.ref Qla)))
 (Qlt:K.lookup Qla=some ⟨QBl,QCh,.func (W.fnOf "are_entries" "are_entries" (Qm QT) (Qk QT) (Qa QT) .none QCf QCa QAx QAI Qrf QAu),QCt⟩)
 (Qle:W.codeIn K Qrf "are_entries"=true)
 (QhS:W.keepIn K (.ref Qla)=true)
 (QrI:W.nsIn K mainGlobals "leads_to"=some (some (.ref Qsx)))
 (QrY:K.lookup Qsx=some ⟨QKS,QKi,.func (W.fnOf "leads_to" "leads_to" (Qm Qcj) (Qk Qcj) (Qa Qcj) .none QH9 QI2 QJ9 QKY Qwn QKV),QKP⟩)
 (Qsj:W.codeIn K Qwn "leads_to"=true)
 (QmS:W.keepIn K (.ref Qsx)=true)
 (Qlw:W.isFn K (.ref QfH)=true)
 (Qln:K.lookup QfH=some ⟨QB6,QBv,.func (W.fnOf "__init__" "Office.__init__" (Qm Qn) (Qk Qn) (Qa Qn) .none QA5 QBw QBu QCq Qrj QAV),QAK⟩)
 (QlC:W.codeIn K Qrj "Office.__init__"=true)
 (Qly:W.keepIn K (.ref QfH)=true)
 (Qu8:W.nsIn K mainGlobals "sums_of"=some (some (.ref QuB)))
 (Quv:K.lookup QuB=some ⟨QMI,QMf,.func (W.fnOf "sums_of" "sums_of" (Qm Qb5) (Qk Qb5) (Qa Qb5) .none QNo QNy QLW QLF QzT QMu),QL2⟩)
 (Qug:W.codeIn K QzT "sums_of"=true)
 (QoA:W.keepIn K (.ref QuB)=true)
 (QjO:W.nsIn K mainGlobals "running_sums"=some (some (.ref QjI)))
 (QjF:K.lookup QjI=some ⟨QzH,Qy5,.func (W.fnOf "running_sums" "running_sums" (Qm Qan) (Qk Qan) (Qa Qan) .none Qzu Qyf QAo Qzp QoT QzL),Qyh⟩)
 (Qkc:W.codeIn K QoT "running_sums"=true)
 (QgI:W.keepIn K (.ref QjI)=true)
 (Qcr:W.isFn K (.ref Qae)=true)
 (Qhk:K.lookup Qae=some ⟨Quu,Qun,.func (W.fnOf "keep_rows" "Clerk.keep_rows" (Qm QW) (Qk QW) (Qa QW) .none Qvt QuR QuO Quf QkT Qvk),QuP⟩)
 (Qhd:W.codeIn K QkT "Clerk.keep_rows"=true)
 (Qby:W.keepIn K (.ref Qae)=true)
 (QxO:W.nsIn K mainGlobals "is_row"=some (some (.ref Qxk)))
 (QxS:K.lookup Qxk=some ⟨QOz,QOl,.func (W.fnOf "is_row" "is_row" (Qm Qbc) (Qk Qbc) (Qa Qbc) .none QNI QOt QNQ QOn QC0 QNN),QOb⟩)
 (Qxs:W.codeIn K QC0 "is_row"=true)
 (QsW:W.keepIn K (.ref Qxk)=true)
 (QrT:W.nsIn K mainGlobals "is_table"=some (some (.ref QsD)))
 (Qst:K.lookup QsD=some ⟨QIV,QJb,.func (W.fnOf "is_table" "is_table" (Qm Q8) (Qk Q8) (Qa Q8) .none QJB QId QKu QKT Qwr QIu),QJR⟩)
 (Qru:W.codeIn K Qwr "is_table"=true)
 (QmH:W.keepIn K (.ref QsD)=true)
 (QpT:W.isFn K (.ref QhE)=true)
 (Qpb:K.lookup QhE=some ⟨QFv,QEW,.func (W.fnOf "__init__" "Rows.__init__" (Qm Qcd) (Qk Qcd) (Qa Qcd) .none QFp QHe QGw QH1 Qvw QEZ),QHp⟩)
 (Qqh:W.codeIn K Qvw "Rows.__init__"=true)
 (QpD:W.keepIn K (.ref QhE)=true)
 (Qn5:W.nsIn K mainGlobals "single_row"=some (some (.ref Qnq)))
 (Qm0:K.lookup Qnq=some ⟨QDv,QD8,.func (W.fnOf "single_row" "single_row" (Qm QaV) (Qk QaV) (Qa QaV) .none QDn QD3 QDJ QEA Qtj QDS),QDG⟩)
 (Qni:W.codeIn K Qtj "single_row"=true)
 (QiW:W.keepIn K (.ref Qnq)=true)
 (Qqg:W.isFn K (.ref Qhr)=true)
 (QpY:K.lookup Qhr=some ⟨QG1,QFK,.func (W.fnOf "__init__" "Deal.__init__" (Qm Qar) (Qk Qar) (Qa Qar) .none QFn QHv QFH QGI QuX QGz),QHo⟩)
 (Qqd:W.codeIn K QuX "Deal.__init__"=true)
 (QpN:W.keepIn K (.ref Qhr)=true)
 (Ql2:W.isFn K (.ref QfI)=true)
 (Qlx:K.lookup QfI=some ⟨QCD,QBE,.func (W.fnOf "__init__" "Bundle.__init__" (Qm Qab) (Qk Qab) (Qa Qab) .none QAY QB0 QCy QBj Qq1 QCb),QAE⟩)
 (Qlz:W.codeIn K Qq1 "Bundle.__init__"=true)
 (Qk9:W.keepIn K (.ref QfI)=true)
 (Qpm:W.isFn K (.ref QhG)=true)
 (Qp9:K.lookup QhG=some ⟨QFN,QG9,.func (W.fnOf "__init__" "Copy.__init__" (Qm Qcc) (Qk Qcc) (Qa Qcc) .none QHc QFd QFG QE1 Qve QHE),QGQ⟩)
 (QpX:W.codeIn K Qve "Copy.__init__"=true)
 (Qpi:W.keepIn K (.ref QhG)=true)
 (QpF:W.nsIn K mainGlobals "_law_clerk"=some (some (.ref QpV)))
 (Qqt:K.lookup QpV=some ⟨QGs,QHs,.func (W.fnOf "_law_clerk" "_law_clerk" (Qm Q9) (Qk Q9) (Qa Q9) .none QGR QE3 QH2 QHh QuH QHX),QHD⟩)
 (Qpa:W.codeIn K QuH "_law_clerk"=true)
 (Qky:W.keepIn K (.ref QpV)=true)
 (QnH:W.nsIn K mainGlobals "_law_office"=some (some (.ref Qn8)))
 (QmV:K.lookup Qn8=some ⟨QEe,QEy,.func (W.fnOf "_law_office" "_law_office" (Qm Qw) (Qk Qw) (Qa Qw) .none QEQ QEr QEi QEG Qtg QES),QDK⟩)
 (QnM:W.codeIn K Qtg "_law_office"=true)
 (Qjk:W.keepIn K (.ref Qn8)=true)
 (QlM:W.nsIn K mainGlobals "_law_divisor"=some (some (.ref Qlq)))
 (QlU:K.lookup Qlq=some ⟨QA9,QAS,.func (W.fnOf "_law_divisor" "_law_divisor" (Qm Qbd) (Qk Qbd) (Qa Qbd) .none QCx QBK QCc QAy QqL QAD),QAP⟩)
 (QlE:W.codeIn K QqL "_law_divisor"=true)
 (QhQ:W.keepIn K (.ref Qlq)=true)
 (Quz:W.nsIn K mainGlobals "_law_low"=some (some (.ref QuE)))
 (Qu5:K.lookup QuE=some ⟨QLY,QMn,.func (W.fnOf "_law_low" "_law_low" (Qm QcR) (Qk QcR) (Qa QcR) .none QNm QNs QLQ QMc QyC QMR),QMg⟩)
 (QtX:W.codeIn K QyC "_law_low"=true)
 (Qo6:W.keepIn K (.ref QuE)=true)
 (QnZ:W.nsIn K mainGlobals "_law_worths"=some (some (.ref Qn6)))
 (Qnh:K.lookup Qn6=some ⟨QEn,QDy,.func (W.fnOf "_law_worths" "_law_worths" (Qm Q5) (Qk Q5) (Qa Q5) .none QD1 QDQ QDe QDY Qtn QDh),QEJ⟩)
 (Qng:W.codeIn K Qtn "_law_worths"=true)
 (Qio:W.keepIn K (.ref Qn6)=true)
 (Qlc:W.nsIn K mainGlobals "_law_counted"=some (some (.ref Qld)))
 (QlP:K.lookup Qld=some ⟨QA3,QCv,.func (W.fnOf "_law_counted" "_law_counted" (Qm Qac) (Qk Qac) (Qa Qac) .none QAM QCg QBI QBN Qq9 QAU),QBR⟩)
 (Ql3:W.codeIn K Qq9 "_law_counted"=true)
 (QhH:W.keepIn K (.ref Qld)=true)
 (Qgw:W.nsIn K mainGlobals "greatest_divisor"=some (some (.ref QgD)))
 (Qgx:K.lookup QgD=some ⟨QtN,QtR,.func (W.fnOf "greatest_divisor" "greatest_divisor" (Qm Qal) (Qk Qal) (Qa Qal) .none QtI QtL QtM QtH QjB QtP),QtC⟩)
 (Qgt:W.codeIn K QjB "greatest_divisor"=true)
 (QdV:W.keepIn K (.ref QgD)=true)
 (QiC:W.nsIn K mainGlobals "common_bottom"=some (some (.ref Qjq)))
 (Qip:K.lookup Qjq=some ⟨QxW,Qxb,.func (W.fnOf "common_bottom" "common_bottom" (Qm Qav) (Qk Qav) (Qa Qav) .none Qxu QxQ Qx9 QxG Qnz QxB),QxD⟩)
 (QiJ:W.codeIn K Qnz "common_bottom"=true)
 (Qf4:W.keepIn K (.ref Qjq)=true)
 (QvS:W.nsIn K mainGlobals "share"=some (some (.ref QCi)))
 (QBq:K.lookup QCi=some ⟨QQt,QQb,.func (W.fnOf "share" "share" (Qm Qbt) (Qk Qbt) (Qa Qbt) (.ref QvT) Qxj Qxh QwZ QwP Qsg QwW),QPP⟩)
 (QB9:W.codeIn K Qsg "share"=true)
 (Qrb:W.keepIn K (.ref QCi)=true)
 (t_shareh:K.lookup QvT=some ⟨QO0,QOf,.seq #[.int 1 QGS] QQy,QPy⟩)
 (Qrs:W.nsIn K mainGlobals "worth_of"=some (some (.ref Qsy)))
 (QrH:K.lookup Qsy=some ⟨QJr,QKw,.func (W.fnOf "worth_of" "worth_of" (Qm Q3) (Qk Q3) (Qa Q3) .none QJo QKp QJZ QIJ QwA QJ3),QKd⟩)
 (Qr2:W.codeIn K QwA "worth_of"=true)
 (QmG:W.keepIn K (.ref Qsy)=true)
 (QBt:W.nsIn K mainGlobals "added"=some (some (.ref QBx)))
 (QBh:K.lookup QBx=some ⟨QP7,QQj,.func (W.fnOf "added" "added" (Qm QfN) (Qk QfN) (Qa QfN) .none QPO QP1 QQD QQh QHg QQk),QQT⟩)
 (QCo:W.codeIn K QHg "added"=true)
 (QvU:W.keepIn K (.ref QBx)=true)
 (Qke:W.nsIn K mainGlobals "whole_shares"=some (some (.ref Qj8)))
 (Qj5:K.lookup Qj8=some ⟨QzB,QzJ,.func (W.fnOf "whole_shares" "whole_shares" (Qm QaH) (Qk QaH) (Qa QaH) .none QyP QyO QyU QzI QoI Qze),Qz6⟩)
 (Qj7:W.codeIn K QoI "whole_shares"=true)
 (QgL:W.keepIn K (.ref Qj8)=true)
 (QjG:W.isFn K (.ref QeN)=true)
 (QjL:K.lookup QeN=some ⟨QyD,QAn,.func (W.fnOf "clerk" "Office.clerk" (Qm Qbh) (Qk Qbh) (Qa Qbh) .none QyV Qy0 QzR Qzf QoK Qz9),QAp⟩)
 (QjE:W.codeIn K QoK "Office.clerk"=true)
 (QgU:W.keepIn K (.ref QeN)=true)
 (QdT:W.isFn K (.ref QaW)=true)
 (Qlb:K.lookup QaW=some ⟨QAH,QAA,.func (W.fnOf "whole" "Clerk.whole" (Qm QbR) (Qk QbR) (Qa QbR) .none QAv QAJ QBs QCE Qrp QCe),QBy⟩)
 (Qk7:W.codeIn K Qrp "Clerk.whole"=true)
 (Qdd:W.keepIn K (.ref QaW)=true)
 (QaQ:W.isFn K (.ref QK)=true)
 (QdQ:K.lookup QK=some ⟨QmY,Qm5,.func (W.fnOf "sent_from_start" "Clerk.sent_from_start" (Qm Qr) (Qk Qr) (Qa Qr) .none Qoa QnN QmX Qnn Qgy Qnp),Qne⟩)
 (QdS:W.codeIn K Qgy "Clerk.sent_from_start"=true)
 (Qat:W.keepIn K (.ref QK)=true)
 (QeH:W.isFn K (.ref Qa9)=true)
 (Qn2:K.lookup Qa9=some ⟨QEN,QEE,.func (W.fnOf "sent" "Clerk.sent" (Qm Qad) (Qk Qad) (Qa Qad) .none QDT QDD QEO QDL Qs6 QEM),QDC⟩)
 (Qnv:W.codeIn K Qs6 "Clerk.sent"=true)
 (Qdy:W.keepIn K (.ref Qa9)=true)
 (Qka:W.isFn K (.ref QeU)=true)
 (QjR:K.lookup QeU=some ⟨Qy8,Qzx,.func (W.fnOf "leads" "Office.leads" (Qm QaX) (Qk QaX) (Qa QaX) .none Qy4 Qyo Qzy QzU Qo3 Qzv),Qzc⟩)
 (QjX:W.codeIn K Qo3 "Office.leads"=true)
 (QgT:W.keepIn K (.ref QeU)=true)
 (Qit:W.nsIn K mainGlobals "worths_behind"=some (some (.ref QiR)))
 (Qi9:K.lookup QiR=some ⟨Qxt,Qxg,.func (W.fnOf "worths_behind" "worths_behind" (Qm Q7) (Qk Q7) (Qa Q7) .none Qw9 Qxc QxL Qxv QnC Qw4),Qxi⟩)
 (Qi5:W.codeIn K QnC "worths_behind"=true)
 (Qf6:W.keepIn K (.ref QiR)=true)
 (QFz:W.nsIn K mainGlobals "lean"=some (some (.ref QGc)))
 (QFw:K.lookup QGc=some ⟨QRa,QR4,.func (W.fnOf "lean" "lean" (Qm QaT) (Qk QaT) (Qa QaT) .none QSO QQ2 QR8 QRn QK5 QQ8),QRb⟩)
 (QE8:W.codeIn K QK5 "lean"=true)
 (Qyn:W.keepIn K (.ref QGc)=true)
 (QxU:W.nsIn K mainGlobals "sum_of"=some (some (.ref Qxd)))
 (QxK:K.lookup Qxd=some ⟨QPj,QPA,.func (W.fnOf "sum_of" "sum_of" (Qm Qc9) (Qk Qc9) (Qa Qc9) .none QNY QPC QN4 QOc QC4 QPd),QPr⟩)
 (QwX:W.codeIn K QC4 "sum_of"=true)
 (QrF:W.keepIn K (.ref Qxd)=true)
 (QFV:W.nsIn K mainGlobals "book"=some (some (.ref QGY)))
 (QFX:K.lookup QGY=some ⟨QRN,QRG,.func (W.fnOf "book" "book" (Qm QaM) (Qk QaM) (Qa QaM) .none QSR QSL QSJ QSa QLl QRp),QSI⟩)
 (QHN:W.codeIn K QLl "book"=true)
 (QyW:W.keepIn K (.ref QGY)=true)
 (Qpt:W.nsIn K mainGlobals "_law_whole"=some (some (.ref Qqn)))
 (QpU:K.lookup Qqn=some ⟨QEY,QG4,.func (W.fnOf "_law_whole" "_law_whole" (Qm QbN) (Qk QbN) (Qa QbN) .none QH6 QGK QHG QFB Quo QFe),QHd⟩)
 (QpS:W.codeIn K Quo "_law_whole"=true)
 (QkA:W.keepIn K (.ref Qqn)=true)
 (QrO:W.nsIn K mainGlobals "_law_same"=some (some (.ref Qr7)))
 (Qsc:K.lookup Qr7=some ⟨QKW,QJ7,.func (W.fnOf "_law_same" "_law_same" (Qm Qbn) (Qk Qbn) (Qa Qbn) .none QIL QKv QKQ QJS QwH QI6),QKE⟩)
 (Qrw:W.codeIn K QwH "_law_same"=true)
 (QmJ:W.keepIn K (.ref Qr7)=true)
 (QsN:W.nsIn K mainGlobals "_law_plus"=some (some (.ref QrV)))
 (QrK:K.lookup QrV=some ⟨QJF,QKk,.func (W.fnOf "_law_plus" "_law_plus" (Qm QcJ) (Qk QcJ) (Qa QcJ) .none QIF QJl QJv QIP Qwx QIO),QKA⟩)
 (QsQ:W.codeIn K Qwx "_law_plus"=true)
 (Qmt:W.keepIn K (.ref QrV)=true)
 (Qin:W.nsIn K mainGlobals "_law_row_worth"=some (some (.ref Qjp)))
 (QiG:K.lookup Qjp=some ⟨QxR,QwY,.func (W.fnOf "_law_row_worth" "_law_row_worth" (Qm QJ) (Qk QJ) (Qa QJ) .none Qxy QxC Qw8 Qx0 QnA Qyd),QxV⟩)
 (Qjn:W.codeIn K QnA "_law_row_worth"=true)
 (Qf0:W.keepIn K (.ref Qjp)=true)
 (Qr9:W.nsIn K mainGlobals "_law_mean"=some (some (.ref QsV)))
 (Qr3:K.lookup QsV=some ⟨QIM,QJe,.func (W.fnOf "_law_mean" "_law_mean" (Qm Qai) (Qk Qai) (Qa Qai) .none QJ8 QJd QIN QIg Qwj QJa),QIH⟩)
 (QsL:W.codeIn K Qwj "_law_mean"=true)
 (QmR:W.keepIn K (.ref QsV)=true)
 (Qqq:W.nsIn K mainGlobals "_law_leans"=some (some (.ref Qpp)))
 (Qqs:K.lookup Qpp=some ⟨QFP,QGq,.func (W.fnOf "_law_leans" "_law_leans" (Qm QY) (Qk QY) (Qa QY) .none QFU QFJ QFL QGF QvE QHP),QHz⟩)
 (Qpx:W.codeIn K QvE "_law_leans"=true)
 (Qkk:W.keepIn K (.ref Qpp)=true)
 (QrA:W.nsIn K mainGlobals "_law_book"=some (some (.ref Qsv)))
 (Qsb:K.lookup Qsv=some ⟨QIS,QKl,.func (W.fnOf "_law_book" "_law_book" (Qm QZ) (Qk QZ) (Qa QZ) .none QJc QJx QIc QJh Qwy QKs),QJM⟩)
 (QsA:W.codeIn K Qwy "_law_book"=true)
 (QmT:W.keepIn K (.ref Qsv)=true)
 (QNw:W.nsIn K mainGlobals "law"=some (some (.ref QMW)))
 (QMD:K.lookup QMW=some ⟨QTP,QUu,.func (W.fnOf "law" "law" (Qm Qag) (Qk Qag) (Qa Qag) .none QPi QPF QPo QOI QG3 QPk),QUx⟩)
 (QLG:W.codeIn K QG3 "law"=true)
 (QNp:W.keepIn K (.ref QMW)=true)
 (z_len:W.nsIn K mainGlobals "len"=some none)
 (z_range:W.nsIn K mainGlobals "range"=some none)
 (z_int:W.nsIn K mainGlobals "int"=some none)
 (z_enumerate:W.nsIn K mainGlobals "enumerate"=some none)
 (z_isinstance:W.nsIn K mainGlobals "isinstance"=some none)
 (z_list:W.nsIn K mainGlobals "list"=some none)
 (z_set:W.nsIn K mainGlobals "set"=some none)
 (z_str:W.nsIn K mainGlobals "str"=some none)
 (z_all:W.nsIn K mainGlobals "all"=some none)
 (z_bool:W.nsIn K mainGlobals "bool"=some none)
 (z_tuple:W.nsIn K mainGlobals "tuple"=some none)
 (z_any:W.nsIn K mainGlobals "any"=some none)
 (z_zip:W.nsIn K mainGlobals "zip"=some none)
 (z_abs:W.nsIn K mainGlobals "abs"=some none)
 (z_sum:W.nsIn K mainGlobals "sum"=some none)
 (c_MOST_SIGNS:W.nsIn K mainGlobals "MOST_SIGNS"=some (some (.int 6 tk_MOST_SIGNS)))
 (c_LETTERS:W.nsIn K mainGlobals "LETTERS"=some (some (.str "abcdefghijklmnopqrstuvwxyz" tk_LETTERS)))
 (c_MOST_CLERKS:W.nsIn K mainGlobals "MOST_CLERKS"=some (some (.int 60 tk_MOST_CLERKS)))
 (c_MOST_ENTRIES:W.nsIn K mainGlobals "MOST_ENTRIES"=some (some (.int 6 tk_MOST_ENTRIES)))
 (c_MOST_DOORS:W.nsIn K mainGlobals "MOST_DOORS"=some (some (.int 6 tk_MOST_DOORS)))
 (c_MOST_OUTS:W.nsIn K mainGlobals "MOST_OUTS"=some (some (.int 6 tk_MOST_OUTS)))
 (c_MOST_SENT:W.nsIn K mainGlobals "MOST_SENT"=some (some (.int 9 tk_MOST_SENT)))
 (c_MOST_ROWS:W.nsIn K mainGlobals "MOST_ROWS"=some (some (.int 12 tk_MOST_ROWS)))
 (QlA:W.kitOne K (.ref QV) (.ref QH)=some false)
 (Qpw:W.kitOne K (.ref QG) (.ref QH)=some false)
 (Qqe:W.kitOne K (.ref QF) (.ref QH)=some false)
 (QlV:W.kitOne K (.ref Qq) (.ref QH)=some false)
 (QpA:W.kitOne K (.ref QH) (.ref QH)=some true)
 (Qi1:W.kitOne K (.ref QV) (.ref Qq)=some false)
 (Qlk:W.kitOne K (.ref QG) (.ref Qq)=some false)
 (QlL:W.kitOne K (.ref QF) (.ref Qq)=some false)
 (Qjx:W.kitOne K (.ref Qq) (.ref Qq)=some true)
 (QlG:W.kitOne K (.ref QH) (.ref Qq)=some false)
 (QlT:W.kitOne K (.ref QV) (.ref QF)=some false)
 (QpI:W.kitOne K (.ref QG) (.ref QF)=some false)
 (Qp5:W.kitOne K (.ref QF) (.ref QF)=some true)
 (Qlm:W.kitOne K (.ref Qq) (.ref QF)=some false)
 (Qqo:W.kitOne K (.ref QH) (.ref QF)=some false)
 (QlD:W.kitOne K (.ref QV) (.ref QG)=some false)
 (Qp3:W.kitOne K (.ref QG) (.ref QG)=some true)
 (Qpz:W.kitOne K (.ref QF) (.ref QG)=some false)
 (Qk8:W.kitOne K (.ref Qq) (.ref QG)=some false)
 (Qpc:W.kitOne K (.ref QH) (.ref QG)=some false):
 ∃ fd:FuncData,(∀(s:Shared)(v:Value),BindsTo s fd ⟨[v],[]⟩ [("_law_script",v)])/\∀ base:Heap,K.In base->base.Ns mainGlobals mg->FnOk l.prog w K mg base CX0 9 fa fd ["_law_script"] (SpD K (ctOf K) false QoR):=by
 have ee:=hfa.symm.trans (W.mg_of X G QNw)
 cases ee
 have QK1:=W.mg_of X G QzP
 have Qbu:=ct_of QzP
 have QcA:Cls K QH:=⟨QCz,QBY,QBQ,QBf⟩
 have QC5:=W.mg_of X G QsX
 have Qay:=ct_of QsX
 have Qa7:Cls K Qq:=⟨QuU,QvF,Qul,QvG⟩
 have QK7:=W.mg_of X G QzD
 have Qbs:=ct_of QzD
 have QcH:Cls K QF:=⟨QBU,QBX,QA1,QBa⟩
 have QLt:=W.mg_of X G Qy6
 have Qbj:=ct_of Qy6
 have QcD:Cls K QG:=⟨QAs,QCF,QAG,QBT⟩
 have QOY:=W.mg_of X G QsR
 have Qa8:=ct_of QsR
 have Qc1:Cls K QV:=⟨QvB,Qvo,Qvl,Qvx⟩
 have fo_table:FldOk K (ctOf K) Qj "table":=by
  intro c hc A hA
  have hm:c∈Qj:=by simpa using hc
  simp only[Qj,List.mem_cons,List.not_mem_nil,or_false]at hm
  rcases hm with rfl | rfl | rfl | rfl | rfl
  ·rw[Qbu]at hA;cases hA;exact⟨QcA,QlI⟩
  ·rw[Qay]at hA;cases hA;exact⟨Qa7,QiL⟩
  ·rw[Qbs]at hA;cases hA;exact⟨QcH,QlX⟩
  ·rw[Qbj]at hA;cases hA;exact⟨QcD,QlZ⟩
  ·rw[Qa8]at hA;cases hA;exact⟨Qc1,QiQ⟩
 have fo_clerk_names:FldOk K (ctOf K) Qj "clerk_names":=by
  intro c hc A hA
  have hm:c∈Qj:=by simpa using hc
  simp only[Qj,List.mem_cons,List.not_mem_nil,or_false]at hm
  rcases hm with rfl | rfl | rfl | rfl | rfl
  ·rw[Qbu]at hA;cases hA;exact⟨QcA,QfS⟩
  ·rw[Qay]at hA;cases hA;exact⟨Qa7,QeY⟩
  ·rw[Qbs]at hA;cases hA;exact⟨QcH,QfO⟩
  ·rw[Qbj]at hA;cases hA;exact⟨QcD,QfR⟩
  ·rw[Qa8]at hA;cases hA;exact⟨Qc1,QeS⟩
 have fo_door_names:FldOk K (ctOf K) Qj "door_names":=by
  intro c hc A hA
  have hm:c∈Qj:=by simpa using hc
  simp only[Qj,List.mem_cons,List.not_mem_nil,or_false]at hm
  rcases hm with rfl | rfl | rfl | rfl | rfl
  ·rw[Qbu]at hA;cases hA;exact⟨QcA,QgG⟩
  ·rw[Qay]at hA;cases hA;exact⟨Qa7,Qfn⟩
  ·rw[Qbs]at hA;cases hA;exact⟨QcH,QgB⟩
  ·rw[Qbj]at hA;cases hA;exact⟨QcD,Qgi⟩
  ·rw[Qa8]at hA;cases hA;exact⟨Qc1,QfE⟩
 have fo_entry_places:FldOk K (ctOf K) Qj "entry_places":=by
  intro c hc A hA
  have hm:c∈Qj:=by simpa using hc
  simp only[Qj,List.mem_cons,List.not_mem_nil,or_false]at hm
  rcases hm with rfl | rfl | rfl | rfl | rfl
  ·rw[Qbu]at hA;cases hA;exact⟨QcA,Qfm⟩
  ·rw[Qay]at hA;cases hA;exact⟨Qa7,Qeh⟩
  ·rw[Qbs]at hA;cases hA;exact⟨QcH,QfG⟩
  ·rw[Qbj]at hA;cases hA;exact⟨QcD,Qfa⟩
  ·rw[Qa8]at hA;cases hA;exact⟨Qc1,Qej⟩
 have fo_staff:FldOk K (ctOf K) Qj "staff":=by
  intro c hc A hA
  have hm:c∈Qj:=by simpa using hc
  simp only[Qj,List.mem_cons,List.not_mem_nil,or_false]at hm
  rcases hm with rfl | rfl | rfl | rfl | rfl
  ·rw[Qbu]at hA;cases hA;exact⟨QcA,QlO⟩
  ·rw[Qay]at hA;cases hA;exact⟨Qa7,Qju⟩
  ·rw[Qbs]at hA;cases hA;exact⟨QcH,Qlu⟩
  ·rw[Qbj]at hA;cases hA;exact⟨QcD,Qlf⟩
  ·rw[Qa8]at hA;cases hA;exact⟨Qc1,Qis⟩
 have fo_first_states:FldOk K (ctOf K) Qj "first_states":=by
  intro c hc A hA
  have hm:c∈Qj:=by simpa using hc
  simp only[Qj,List.mem_cons,List.not_mem_nil,or_false]at hm
  rcases hm with rfl | rfl | rfl | rfl | rfl
  ·rw[Qbu]at hA;cases hA;exact⟨QcA,Qfi⟩
  ·rw[Qay]at hA;cases hA;exact⟨Qa7,Qel⟩
  ·rw[Qbs]at hA;cases hA;exact⟨QcH,QfD⟩
  ·rw[Qbj]at hA;cases hA;exact⟨QcD,Qfq⟩
  ·rw[Qa8]at hA;cases hA;exact⟨Qc1,Qes⟩
 have fo_ways:FldOk K (ctOf K) Qj "ways":=by
  intro c hc A hA
  have hm:c∈Qj:=by simpa using hc
  simp only[Qj,List.mem_cons,List.not_mem_nil,or_false]at hm
  rcases hm with rfl | rfl | rfl | rfl | rfl
  ·rw[Qbu]at hA;cases hA;exact⟨QcA,QnS⟩
  ·rw[Qay]at hA;cases hA;exact⟨Qa7,QjZ⟩
  ·rw[Qbs]at hA;cases hA;exact⟨QcH,Qoe⟩
  ·rw[Qbj]at hA;cases hA;exact⟨QcD,QnP⟩
  ·rw[Qa8]at hA;cases hA;exact⟨Qc1,Qj9⟩
 have fo_heads:FldOk K (ctOf K) Qj "heads":=by
  intro c hc A hA
  have hm:c∈Qj:=by simpa using hc
  simp only[Qj,List.mem_cons,List.not_mem_nil,or_false]at hm
  rcases hm with rfl | rfl | rfl | rfl | rfl
  ·rw[Qbu]at hA;cases hA;exact⟨QcA,Qlg⟩
  ·rw[Qay]at hA;cases hA;exact⟨Qa7,Qiy⟩
  ·rw[Qbs]at hA;cases hA;exact⟨QcH,QlY⟩
  ·rw[Qbj]at hA;cases hA;exact⟨QcD,QlF⟩
  ·rw[Qa8]at hA;cases hA;exact⟨Qc1,QiD⟩
 have QvN:ClsD K QH:=⟨QcA,QAT,y1,y2,QA6⟩
 have QoB:ClsD K Qq:=⟨Qa7,Qvr,y1,y2,Qt7⟩
 have QvW:ClsD K QF:=⟨QcH,QCC,y1,y2,QBZ⟩
 have QvL:ClsD K QG:=⟨QcD,QBz,y1,y2,QBm⟩
 have Qo0:ClsD K QV:=⟨Qc1,QuZ,y1,y2,QtV⟩
 have QAk:=Qp (st:=QcN) Qsh QsO Qmi
 have QNB:=QAk.binds (ps:=["_law_script","_law_k"]) fun _ _ _ _ _ _ us hl=>match us,hl with | [_,_],_=>rfl
 have QwE:=Qp (st:=Qcf) QpQ Qo9 Qkz
 have QJk:=QwE.binds (ps:=["_law_cell_here","_law_k"]) fun _ _ _ _ _ _ us hl=>match us,hl with | [_,_],_=>rfl
 have Quy:=Qp (st:=QaS) Qm4 Qno Qjt
 have QFR:=Quy.binds (ps:=["_law_number","_law_many"]) fun _ _ _ _ _ _ us hl=>match us,hl with | [_,_],_=>rfl
 have QyI:=Qp (st:=Qah) QrR QrS Qmy
 have QLB:=QyI.binds (ps:=["_law_number"]) fun _ _ _ _ _ _ us hl=>match us,hl with | [_],_=>rfl
 have QAh:=Qp (st:=QM) Qrx QsP Qml
 have QMd:=QAh.binds (ps:=["_law_script"]) fun _ _ _ _ _ _ us hl=>match us,hl with | [_],_=>rfl
 have QwI:=Qp (st:=QaA) Qqp Qpu Qkh
 have QJy:=QwI.binds (ps:=["names","doors"]) fun _ _ _ _ _ _ us hl=>match us,hl with | [_,_],_=>rfl
 have QDb:=Qp (st:=Qcv) Qur QuV Qo7
 have QPn:=QDb.binds (ps:=["thing","most"]) fun _ _ _ _ _ _ us hl=>match us,hl with | [_,_],_=>rfl
 have QuA:=Qp (st:=QbP) QmW Qnd Qiw
 have QGP:=QuA.binds (ps:=["names"]) fun _ _ _ _ _ _ us hl=>match us,hl with | [_],_=>rfl
 have QCP:=Qp (st:=Qa0) Qvi QuY QoL
 have QPv:=QCP.binds (ps:=["thing"]) fun _ _ _ _ _ _ us hl=>match us,hl with | [_],_=>rfl
 have Qwp:=Qp (st:=Qaz) Qqc Qph Qkl
 have QKy:=Qwp.binds (ps:=["thing","most"]) fun _ _ _ _ _ _ us hl=>match us,hl with | [_,_],_=>rfl
 have QwD:=Qp (st:=Qak) Qqr Qp1 Qko
 have QKe:=QwD.binds (ps:=["thing","many"]) fun _ _ _ _ _ _ us hl=>match us,hl with | [_,_],_=>rfl
 have Qzt:=Qp (st:=Qci) Qsm Qsr QmP
 have QNb:=Qzt.binds (ps:=["thing"]) fun _ _ _ _ _ _ us hl=>match us,hl with | [_],_=>rfl
 have Qwt:=Qp (st:=QbI) Qqb QpK Qkm
 have QJt:=Qwt.binds (ps:=["thing","least","most"]) fun _ _ _ _ _ _ us hl=>match us,hl with | [_,_,_],_=>rfl
 have QyL:=Qp (st:=Qbp) QsI QrM Qmp
 have QLx:=QyL.binds (ps:=["thing"]) fun _ _ _ _ _ _ us hl=>match us,hl with | [_],_=>rfl
 have Qt9:=Qp (st:=Qcg) Qn4 Qoh Qdt
 have Qi0:=Qt9.binds (ps:=["self"]) fun _ _ _ _ _ _ us hl=>match us,hl with | [_],_=>rfl
 have QqD:=Qp (st:=Qbk) Qj1 Qj3 QcB
 have QgN:=QqD.binds (ps:=["self"]) fun _ _ _ _ _ _ us hl=>match us,hl with | [_],_=>rfl
 have QCK:=Qp (st:=Qa6) QuI Que QoV
 have QOL:=QCK.binds (ps:=["thing"]) fun _ _ _ _ _ _ us hl=>match us,hl with | [_],_=>rfl
 have QwL:=Qp (st:=Qaa) QpB Qql Qkv
 have QII:=QwL.binds (ps:=["thing","doors"]) fun _ _ _ _ _ _ us hl=>match us,hl with | [_,_],_=>rfl
 have QzA:=Qp (st:=Qbm) QrJ QsB QmD
 have QL5:=QzA.binds (ps:=["thing","names"]) fun _ _ _ _ _ _ us hl=>match us,hl with | [_,_],_=>rfl
 have Qte:=Qp (st:=QT) Qlt Qle QhS
 have QDm:=Qte.binds (ps:=["thing","names"]) fun _ _ _ _ _ _ us hl=>match us,hl with | [_,_],_=>rfl
 have Qy1:=Qp (st:=Qcj) QrY Qsj QmS
 have QNf:=Qy1.binds (ps:=["seat","places"]) fun _ _ _ _ _ _ us hl=>match us,hl with | [_,_],_=>rfl
 have Qs5:=Qp (st:=Qn) Qln QlC Qly
 have QEC:=Qs5.binds (ps:=["self","clerks","entries","doors"]) fun _ _ _ _ _ _ us hl=>match us,hl with | [_,_,_,_],_=>rfl
 have QC8:=Qp (st:=Qb5) Quv Qug QoA
 have QNS:=QC8.binds (ps:=["one","other"]) fun _ _ _ _ _ _ us hl=>match us,hl with | [_,_],_=>rfl
 have QqJ:=Qp (st:=Qan) QjF Qkc QgI
 have QBS:=QqJ.binds (ps:=["rows"]) fun _ _ _ _ _ _ us hl=>match us,hl with | [_],_=>rfl
 have Ql9:=Qp (st:=QW) Qhk Qhd Qby
 have QeB:=Ql9.binds (ps:=["self","rows"]) fun _ _ _ _ _ _ us hl=>match us,hl with | [_,_],_=>rfl
 have QE4:=Qp (st:=Qbc) QxS Qxs QsW
 have QQo:=QE4.binds (ps:=["thing"]) fun _ _ _ _ _ _ us hl=>match us,hl with | [_],_=>rfl
 have Qyi:=Qp (st:=Q8) Qst Qru QmH
 have QND:=Qyi.binds (ps:=["thing"]) fun _ _ _ _ _ _ us hl=>match us,hl with | [_],_=>rfl
 have QwK:=Qp (st:=Qcd) Qpb Qqh QpD
 have QKX:=QwK.binds (ps:=["self","rows"]) fun _ _ _ _ _ _ us hl=>match us,hl with | [_,_],_=>rfl
 have QuG:=Qp (st:=QaV) Qm0 Qni QiW
 have QHF:=QuG.binds (ps:=["many","place"]) fun _ _ _ _ _ _ us hl=>match us,hl with | [_,_],_=>rfl
 have QwC:=Qp (st:=Qar) QpY Qqd QpN
 have QJP:=QwC.binds (ps:=["self","many"]) fun _ _ _ _ _ _ us hl=>match us,hl with | [_,_],_=>rfl
 have QsZ:=Qp (st:=Qab) Qlx Qlz Qk9
 have QEH:=QsZ.binds (ps:=["self","size"]) fun _ _ _ _ _ _ us hl=>match us,hl with | [_,_],_=>rfl
 have Qws:=Qp (st:=Qcc) Qp9 QpX Qpi
 have QKc:=Qws.binds (ps:=["self","counts"]) fun _ _ _ _ _ _ us hl=>match us,hl with | [_,_],_=>rfl
 have QwF:=Qp (st:=Q9) Qqt Qpa Qky
 have QIm:=QwF.binds (ps:=["_law_kind","_law_rows_here"]) fun _ _ _ _ _ _ us hl=>match us,hl with | [_,_],_=>rfl
 have Qum:=Qp (st:=Qw) QmV QnM Qjk
 have QHO:=Qum.binds (ps:=["_law_plan_here","_law_doors"]) fun _ _ _ _ _ _ us hl=>match us,hl with | [_,_],_=>rfl
 have Qs0:=Qp (st:=Qbd) QlU QlE QhQ
 have QDE:=Qs0.binds (ps:=["_law_one","_law_other"]) fun _ _ _ _ _ _ us hl=>match us,hl with | [_,_],_=>rfl
 have QC1:=Qp (st:=QcR) Qu5 QtX Qo6
 have QPB:=QC1.binds (ps:=["_law_top","_law_bottom"]) fun _ _ _ _ _ _ us hl=>match us,hl with | [_,_],_=>rfl
 have QvA:=Qp (st:=Q5) Qnh Qng Qio
 have QFM:=QvA.binds (ps:=["_law_cell_here","_law_many"]) fun _ _ _ _ _ _ us hl=>match us,hl with | [_,_],_=>rfl
 have Qtl:=Qp (st:=Qac) QlP Ql3 QhH
 have QDj:=Qtl.binds (ps:=["_law_cell_here","_law_many","_law_k"]) fun _ _ _ _ _ _ us hl=>match us,hl with | [_,_,_],_=>rfl
 have Qk1:=Qp (st:=Qal) Qgx Qgt QdV
 have Qu2:=Qk1.binds (ps:=["one","other"]) fun _ _ _ _ _ _ us hl=>match us,hl with | [_,_],_=>rfl
 have QoM:=Qp (st:=Qav) Qip QiJ Qf4
 have QAb:=QoM.binds (ps:=["fractions"]) fun _ _ _ _ _ _ us hl=>match us,hl with | [_],_=>rfl
 have QRq:=Qp (st:=Qbt) QBq QB9 Qrb
 have Qyr:=Qp (st:=Q3) QrH Qr2 QmG
 have QL0:=Qyr.binds (ps:=["shares","worths"]) fun _ _ _ _ _ _ us hl=>match us,hl with | [_,_],_=>rfl
 have QLo:=Qp (st:=QfN) QBh QCo QvU
 have QR3:=QLo.binds (ps:=["one","other"]) fun _ _ _ _ _ _ us hl=>match us,hl with | [_,_],_=>rfl
 have QqV:=Qp (st:=QaH) Qj5 Qj7 QgL
 have QAQ:=QqV.binds (ps:=["counts"]) fun _ _ _ _ _ _ us hl=>match us,hl with | [_],_=>rfl
 have QqP:=Qp (st:=Qbh) QjL QjE QgU
 have QAL:=QqP.binds (ps:=["self","k"]) fun _ _ _ _ _ _ us hl=>match us,hl with | [_,_],_=>rfl
 have Qtd:=Qp (st:=QbR) Qlb Qk7 Qdd
 have QhI:=Qtd.binds (ps:=["self"]) fun _ _ _ _ _ _ us hl=>match us,hl with | [_],_=>rfl
 have Qg1:=Qp (st:=Qr) QdQ QdS Qat
 have Qcw:=Qg1.binds (ps:=["self","count"]) fun _ _ _ _ _ _ us hl=>match us,hl with | [_,_],_=>rfl
 have QtT:=Qp (st:=Qad) Qn2 Qnv Qdy
 have Qjd:=QtT.binds (ps:=["self","state","count"]) fun _ _ _ _ _ _ us hl=>match us,hl with | [_,_,_],_=>rfl
 have Qrd:=Qp (st:=QaX) QjR QjX QgT
 have QBW:=Qrd.binds (ps:=["self","k"]) fun _ _ _ _ _ _ us hl=>match us,hl with | [_,_],_=>rfl
 have Qo5:=Qp (st:=Q7) Qi9 Qi5 Qf6
 have QzQ:=Qo5.binds (ps:=["office","k","worths","door_worths"]) fun _ _ _ _ _ _ us hl=>match us,hl with | [_,_,_,_],_=>rfl
 have QOM:=Qp (st:=QaT) QFw QE8 Qyn
 have QTC:=QOM.binds (ps:=["office","k","state","worths","door_worths"]) fun _ _ _ _ _ _ us hl=>match us,hl with | [_,_,_,_,_],_=>rfl
 have QHl:=Qp (st:=Qc9) QxK QwX QrF
 have QQv:=QHl.binds (ps:=["fractions"]) fun _ _ _ _ _ _ us hl=>match us,hl with | [_],_=>rfl
 have QOQ:=Qp (st:=QaM) QFX QHN QyW
 have QT6:=QOQ.binds (ps:=["office","worths","door_worths","states","desks","out"]) fun _ _ _ _ _ _ us hl=>match us,hl with | [_,_,_,_,_,_],_=>rfl
 have Qwu:=Qp (st:=QbN) QpU QpS QkA
 have QJi:=Qwu.binds (ps:=["_law_found"]) fun _ _ _ _ _ _ us hl=>match us,hl with | [_],_=>rfl
 have QyA:=Qp (st:=Qbn) Qsc Qrw QmJ
 have QLR:=QyA.binds (ps:=["_law_found","_law_due"]) fun _ _ _ _ _ _ us hl=>match us,hl with | [_,_],_=>rfl
 have QzF:=Qp (st:=QcJ) QrK QsQ Qmt
 have QL4:=QzF.binds (ps:=["_law_one","_law_other"]) fun _ _ _ _ _ _ us hl=>match us,hl with | [_,_],_=>rfl
 have QoJ:=Qp (st:=QJ) QiG Qjn Qf0
 have Qzi:=QoJ.binds (ps:=["_law_plan_here","_law_k","_law_state","_law_worths_here","_law_door_worths"]) fun _ _ _ _ _ _ us hl=>match us,hl with | [_,_,_,_,_],_=>rfl
 have Qyz:=Qp (st:=Qai) Qr3 QsL QmR
 have QMT:=Qyz.binds (ps:=["_law_plan_here","_law_k","_law_worths_here","_law_door_worths"]) fun _ _ _ _ _ _ us hl=>match us,hl with | [_,_,_,_],_=>rfl
 have Qwl:=Qp (st:=QY) Qqs Qpx Qkk
 have QJU:=Qwl.binds (ps:=["_law_plan_here","_law_k","_law_worths_here","_law_door_worths"]) fun _ _ _ _ _ _ us hl=>match us,hl with | [_,_,_,_],_=>rfl
 have QyE:=Qp (st:=QZ) Qsb QsA QmT
 have QMv:=QyE.binds (ps:=["_law_plan_here","_law_worths_here","_law_door_worths","_law_states","_law_desks","_law_out"]) fun _ _ _ _ _ _ us hl=>match us,hl with | [_,_,_,_,_,_],_=>rfl
 have QQ0:=Qp (st:=Qag) QMD QLG QNp
 have QUM:=QQ0.binds (ps:=["_law_script"]) fun _ _ _ _ _ _ us hl=>match us,hl with | [_],_=>rfl
 have zz_len:mg "len"=none:=W.mg_none_of X G z_len
 have zz_range:mg "range"=none:=W.mg_none_of X G z_range
 have zz_int:mg "int"=none:=W.mg_none_of X G z_int
 have zz_enumerate:mg "enumerate"=none:=W.mg_none_of X G z_enumerate
 have zz_isinstance:mg "isinstance"=none:=W.mg_none_of X G z_isinstance
 have zz_list:mg "list"=none:=W.mg_none_of X G z_list
 have zz_set:mg "set"=none:=W.mg_none_of X G z_set
 have zz_str:mg "str"=none:=W.mg_none_of X G z_str
 have zz_all:mg "all"=none:=W.mg_none_of X G z_all
 have zz_bool:mg "bool"=none:=W.mg_none_of X G z_bool
 have zz_tuple:mg "tuple"=none:=W.mg_none_of X G z_tuple
 have zz_any:mg "any"=none:=W.mg_none_of X G z_any
 have zz_zip:mg "zip"=none:=W.mg_none_of X G z_zip
 have zz_abs:mg "abs"=none:=W.mg_none_of X G z_abs
 have zz_sum:mg "sum"=none:=W.mg_none_of X G z_sum
 have cc_MOST_SIGNS:=W.mg_of X G c_MOST_SIGNS
 have cc_LETTERS:=W.mg_of X G c_LETTERS
 have cc_MOST_CLERKS:=W.mg_of X G c_MOST_CLERKS
 have cc_MOST_ENTRIES:=W.mg_of X G c_MOST_ENTRIES
 have cc_MOST_DOORS:=W.mg_of X G c_MOST_DOORS
 have cc_MOST_OUTS:=W.mg_of X G c_MOST_OUTS
 have cc_MOST_SENT:=W.mg_of X G c_MOST_SENT
 have cc_MOST_ROWS:=W.mg_of X G c_MOST_ROWS
 have QCB:KitI K (ctOf K) (.ref QH) [("Deal",true),("Bundle",false),("Copy",false),("Rows",false),("Office",false)]:=(Qaq Qbu QvN QpA (Qaq Qay QoB QlV (Qaq Qbs QvW Qqe (Qaq Qbj QvL Qpw (Qaq Qa8 Qo0 QlA QsM)))))
 have QvJ:KitI K (ctOf K) (.ref Qq) [("Deal",false),("Bundle",true),("Copy",false),("Rows",false),("Office",false)]:=(Qaq Qbu QvN QlG (Qaq Qay QoB Qjx (Qaq Qbs QvW QlL (Qaq Qbj QvL Qlk (Qaq Qa8 Qo0 Qi1 QsM)))))
 have QAw:KitI K (ctOf K) (.ref QF) [("Deal",false),("Bundle",false),("Copy",true),("Rows",false),("Office",false)]:=(Qaq Qbu QvN Qqo (Qaq Qay QoB Qlm (Qaq Qbs QvW Qp5 (Qaq Qbj QvL QpI (Qaq Qa8 Qo0 QlT QsM)))))
 have QBL:KitI K (ctOf K) (.ref QG) [("Deal",false),("Bundle",false),("Copy",false),("Rows",true),("Office",false)]:=(Qaq Qbu QvN Qpc (Qaq Qay QoB Qk8 (Qaq Qbs QvW Qpz (Qaq Qbj QvL Qp3 (Qaq Qa8 Qo0 QlD QsM)))))
 refine⟨W.fnOf "law" "law" (Qm Qag) (Qk Qag) (Qa Qag) .none QPi QPF QPo QOI QG3 QPk,fun s v=>.of_eq rfl,fun base _ _=>?_⟩
 have QNg:FnOk l.prog w K mg base CX0 1 _ _ ["_law_script","_law_k"] (SpD K (ctOf K) false QbV):=QMh QAk zz_len
 have QM5:DefOk l.prog w K mg base (ctOf K) "_law_cell" 1 false [] QbV:=⟨_,_,_,_,QNg,W.mg_of X G Qsp,Qmi,QNB,.nil⟩
 have QI1:FnOk l.prog w K mg base CX0 1 _ _ ["_law_cell_here","_law_k"] (SpD K (ctOf K) false Qx):=QJp QwE
 have Qkg:DefOk l.prog w K mg base (ctOf K) "_law_mixed" 1 false [] Qx:=⟨_,_,_,_,QI1,W.mg_of X G QpO,Qkz,QJk,.nil⟩
 have QG6:FnOk l.prog w K mg base CX0 1 _ _ ["_law_number","_law_many"] (SpD K (ctOf K) true QcZ):=QE6 Quy zz_range
 have QG8:DefOk l.prog w K mg base (ctOf K) "_law_counts" 1 true [] QcZ:=⟨_,_,_,_,QG6,W.mg_of X G Qnk,Qjt,QFR,.nil⟩
 have QL3:FnOk l.prog w K mg base CX0 2 _ _ ["_law_number"] (SpD K (ctOf K) false QdX):=QLA QyI QG8 zz_range zz_int
 have QMp:DefOk l.prog w K mg base (ctOf K) "_law_rows" 2 false [] QdX:=⟨_,_,_,_,QL3,W.mg_of X G Qrz,Qmy,QLB,.nil⟩
 have QMx:FnOk l.prog w K mg base CX0 3 _ _ ["_law_script"] (SpD K (ctOf K) false Qfj):=QNx QAh QM5 Qkg QMp zz_range zz_len
 have QLL:DefOk l.prog w K mg base (ctOf K) "_law_plan" 3 false [] Qfj:=⟨_,_,_,_,QMx,W.mg_of X G QsH,Qml,QMd,.nil⟩
 have QIv:FnOk l.prog w K mg base CX0 1 _ _ ["names","doors"] (SpD K (ctOf K) true Qd9):=QI3 QwI zz_enumerate
 have QIx:DefOk l.prog w K mg base (ctOf K) "places_of" 1 true [] Qd9:=⟨_,_,_,_,QIv,W.mg_of X G Qqv,Qkh,QJy,.nil⟩
 have QPu:FnOk l.prog w K mg base CX0 1 _ _ ["thing","most"] (SpD K (ctOf K) false Qct):=QOh QDb zz_isinstance zz_list zz_len
 have Qvb:DefOk l.prog w K mg base (ctOf K) "is_list" 1 false [] Qct:=⟨_,_,_,_,QPu,W.mg_of X G QtZ,Qo7,QPn,.nil⟩
 have QFF:FnOk l.prog w K mg base CX0 1 _ _ ["names"] (SpD K (ctOf K) false Qao):=QFi QuA zz_len zz_set
 have Qm3:DefOk l.prog w K mg base (ctOf K) "all_unlike" 1 false [] Qao:=⟨_,_,_,_,QFF,W.mg_of X G Qn0,Qiw,QGP,.nil⟩
 have QNL:FnOk l.prog w K mg base CX0 1 _ _ ["thing"] (SpD K (ctOf K) false Qba):=QOs QCP zz_isinstance zz_str zz_len zz_all cc_MOST_SIGNS ⟨_,rfl⟩ cc_LETTERS ⟨_,rfl⟩
 have Qvm:DefOk l.prog w K mg base (ctOf K) "is_name" 1 false [] Qba:=⟨_,_,_,_,QNL,W.mg_of X G QtU,QoL,QPv,.nil⟩
 have QJO:FnOk l.prog w K mg base CX0 2 _ _ ["thing","most"] (SpD K (ctOf K) false Qep):=QID Qwp Qvb Qvm Qm3 zz_all
 have QIo:DefOk l.prog w K mg base (ctOf K) "are_names" 2 false [] Qep:=⟨_,_,_,_,QJO,W.mg_of X G Qqa,Qkl,QKy,.nil⟩
 have QKL:FnOk l.prog w K mg base CX0 1 _ _ ["thing","many"] (SpD K (ctOf K) false Qee):=QKZ QwD zz_isinstance zz_list zz_len zz_all zz_str
 have QKJ:DefOk l.prog w K mg base (ctOf K) "are_texts" 1 false [] Qee:=⟨_,_,_,_,QKL,W.mg_of X G QpM,Qko,QKe,.nil⟩
 have QNi:FnOk l.prog w K mg base CX0 1 _ _ ["thing"] (SpD K (ctOf K) false QbT):=QLO Qzt zz_isinstance zz_int zz_bool
 have Qzk:DefOk l.prog w K mg base (ctOf K) "is_whole" 1 false [] QbT:=⟨_,_,_,_,QNi,W.mg_of X G Qsd,QmP,QNb,.nil⟩
 have QH8:FnOk l.prog w K mg base CX0 2 _ _ ["thing","least","most"] (SpD K (ctOf K) false QaZ):=QIb Qwt Qzk
 have Qki:DefOk l.prog w K mg base (ctOf K) "is_within" 2 false [] QaZ:=⟨_,_,_,_,QH8,W.mg_of X G Qps,Qkm,QJt,.nil⟩
 have QNG:FnOk l.prog w K mg base CX0 1 _ _ ["thing"] (SpD K (ctOf K) false Qff):=QM8 QyL zz_isinstance QK1 QC5 QK7 QLt QCB QvJ QAw QBL
 have QNC:DefOk l.prog w K mg base (ctOf K) "is_clerk" 1 false [] Qff:=⟨_,_,_,_,QNG,W.mg_of X G Qrq,Qmp,QLx,.nil⟩
 have Qi2:FnOk l.prog w K mg base CX0 1 _ _ ["self"] (SpD K (ctOf K) false QcS):=QE2 Qt9 zz_len fo_table
 have mt_outs:MtOk l.prog w K mg base (ctOf K) CX0 "outs" 1 Qd (fun c=>SpD K (ctOf K) false ((fun _=>QcS) c)):=by
  intro c hc
  have hm:c∈Qd:=by simpa using hc
  simp only[Qd,List.mem_cons,List.not_mem_nil,or_false]at hm
  rcases hm with rfl | rfl | rfl | rfl
  ·exact⟨QH,Qbb,_,_,Qbu,QcA,⟨QpL,QeJ,Qdt⟩,Qi2.mono (by decide),Qi0⟩
  ·exact⟨Qq,Qbb,_,_,Qay,Qa7,⟨QlR,QeJ,Qdt⟩,Qi2.mono (by decide),Qi0⟩
  ·exact⟨QF,Qbb,_,_,Qbs,QcH,⟨QpR,QeJ,Qdt⟩,Qi2.mono (by decide),Qi0⟩
  ·exact⟨QG,Qbb,_,_,Qbj,QcD,⟨Qpl,QeJ,Qdt⟩,Qi2.mono (by decide),Qi0⟩
 have QgO:FnOk l.prog w K mg base CX0 1 _ _ ["self"] (SpD K (ctOf K) false QR):=QA7 QqD zz_len fo_table
 have mt_period:MtOk l.prog w K mg base (ctOf K) CX0 "period" 1 Qd (fun c=>SpD K (ctOf K) false ((fun _=>QR) c)):=by
  intro c hc
  have hm:c∈Qd:=by simpa using hc
  simp only[Qd,List.mem_cons,List.not_mem_nil,or_false]at hm
  rcases hm with rfl | rfl | rfl | rfl
  ·exact⟨QH,QaK,_,_,Qbu,QcA,⟨QlS,Qdr,QcB⟩,QgO.mono (by decide),QgN⟩
  ·exact⟨Qq,QaK,_,_,Qay,Qa7,⟨Qja,Qdr,QcB⟩,QgO.mono (by decide),QgN⟩
  ·exact⟨QF,QaK,_,_,Qbs,QcH,⟨QlH,Qdr,QcB⟩,QgO.mono (by decide),QgN⟩
  ·exact⟨QG,QaK,_,_,Qbj,QcD,⟨QlQ,Qdr,QcB⟩,QgO.mono (by decide),QgN⟩
 have QOi:FnOk l.prog w K mg base CX0 3 _ _ ["thing"] (SpD K (ctOf K) false Qgj):=QPq QCK Qvm QNC QKJ Qki zz_isinstance zz_tuple zz_len mt_outs mt_period
 have QN1:DefOk l.prog w K mg base (ctOf K) "is_seat" 3 false [] Qgj:=⟨_,_,_,_,QOi,W.mg_of X G Qvn,QoV,QOL,.nil⟩
 have QJ6:FnOk l.prog w K mg base CX0 4 _ _ ["thing","doors"] (SpD K (ctOf K) false Qei):=QKN QwL Qvb QN1 Qm3 zz_all cc_MOST_CLERKS ⟨_,rfl⟩
 have QIi:DefOk l.prog w K mg base (ctOf K) "are_seats" 4 false [] Qei:=⟨_,_,_,_,QJ6,W.mg_of X G Qpj,Qkv,QII,.nil⟩
 have QMS:FnOk l.prog w K mg base CX0 2 _ _ ["thing","names"] (SpD K (ctOf K) false QfB):=QMa QzA Qvm zz_isinstance zz_tuple zz_len
 have QLH:DefOk l.prog w K mg base (ctOf K) "is_entry" 2 false [] QfB:=⟨_,_,_,_,QMS,W.mg_of X G QsC,QmD,QL5,.nil⟩
 have QEc:FnOk l.prog w K mg base CX0 3 _ _ ["thing","names"] (SpD K (ctOf K) false Qdb):=QEu Qte Qvb QLH Qm3 zz_all cc_MOST_ENTRIES ⟨_,rfl⟩
 have QEa:DefOk l.prog w K mg base (ctOf K) "are_entries" 3 false [] Qdb:=⟨_,_,_,_,QEc,W.mg_of X G Qk4,QhS,QDm,.nil⟩
 have QMZ:FnOk l.prog w K mg base CX0 1 _ _ ["seat","places"] (SpD K (ctOf K) true Qfe):=QMj Qy1
 have QLU:DefOk l.prog w K mg base (ctOf K) "leads_to" 1 true [] Qfe:=⟨_,_,_,_,QMZ,W.mg_of X G QrI,QmS,QNf,.nil⟩
 have QDo:FnOk l.prog w K mg base (CXR l.prog w) 5 _ _ ["self","clerks","entries","doors"] (SpI K (ctOf K) Qbe):=QDr Qs5 QIo QIi QEa QIx QLU zz_any zz_list cc_MOST_DOORS ⟨_,rfl⟩ fo_clerk_names fo_door_names fo_entry_places fo_staff fo_first_states fo_ways
 have Qu3:MkOk l.prog w K mg base (ctOf K) "Office" 5 Qbe:=⟨QV,QfH,_,_,Qa8,QOY,⟨Qrt,Ql1,Qlw,QrU⟩,QDo,QEC⟩
 have QPp:FnOk l.prog w K mg base CX0 1 _ _ ["one","other"] (SpD K (ctOf K) true Qe4):=QO7 QC8 zz_zip
 have QOr:DefOk l.prog w K mg base (ctOf K) "sums_of" 1 true [] Qe4:=⟨_,_,_,_,QPp,W.mg_of X G Qu8,QoA,QNS,.nil⟩
 have QB8:FnOk l.prog w K mg base CX0 2 _ _ ["rows"] (SpD K (ctOf K) true Qbf):=QBd QqJ QOr
 have QCn:DefOk l.prog w K mg base (ctOf K) "running_sums" 2 true [] Qbf:=⟨_,_,_,_,QB8,W.mg_of X G QjO,QgI,QBS,.nil⟩
 have QeC:FnOk l.prog w K mg base (CXR l.prog w) 3 _ _ ["self","rows"] (SpI K (ctOf K) QP):=Qwb Ql9 QCn zz_list fo_table fo_heads
 have ms_keep_rows:MtOk l.prog w K mg base (ctOf K) (CXR l.prog w) "keep_rows" 3 Qd (fun _=>SpI K (ctOf K) QP):=by
  intro c hc
  have hm:c∈Qd:=by simpa using hc
  simp only[Qd,List.mem_cons,List.not_mem_nil,or_false]at hm
  rcases hm with rfl | rfl | rfl | rfl
  ·exact⟨QH,Qae,_,_,Qbu,QcA,⟨QhZ,Qcr,Qby⟩,QeC.mono (by decide),QeB⟩
  ·exact⟨Qq,Qae,_,_,Qay,Qa7,⟨QgA,Qcr,Qby⟩,QeC.mono (by decide),QeB⟩
  ·exact⟨QF,Qae,_,_,Qbs,QcH,⟨Qh0,Qcr,Qby⟩,QeC.mono (by decide),QeB⟩
  ·exact⟨QG,Qae,_,_,Qbj,QcD,⟨Qh9,Qcr,Qby⟩,QeC.mono (by decide),QeB⟩
 have QQi:FnOk l.prog w K mg base CX0 3 _ _ ["thing"] (SpD K (ctOf K) false Qfy):=QPX QE4 Qki zz_isinstance zz_list zz_len zz_all cc_MOST_OUTS ⟨_,rfl⟩ cc_MOST_SENT ⟨_,rfl⟩
 have QHi:DefOk l.prog w K mg base (ctOf K) "is_row" 3 false [] Qfy:=⟨_,_,_,_,QQi,W.mg_of X G QxO,QsW,QQo,.nil⟩
 have QLZ:FnOk l.prog w K mg base CX0 4 _ _ ["thing"] (SpD K (ctOf K) false Qfr):=QMV Qyi QHi zz_isinstance zz_list zz_len zz_all cc_MOST_ROWS ⟨_,rfl⟩
 have QMO:DefOk l.prog w K mg base (ctOf K) "is_table" 4 false [] Qfr:=⟨_,_,_,_,QLZ,W.mg_of X G QrT,QmH,QND,.nil⟩
 have QJ1:FnOk l.prog w K mg base (CXR l.prog w) 5 _ _ ["self","rows"] (SpI K (ctOf K) Qeb):=QIA QwK QMO ms_keep_rows
 have QCs:MkOk l.prog w K mg base (ctOf K) "Rows" 5 Qeb:=⟨QG,QhE,_,_,Qbj,QLt,⟨Qxl,QpC,QpT,Qxe⟩,QJ1,QKX⟩
 have QF2:FnOk l.prog w K mg base CX0 1 _ _ ["many","place"] (SpD K (ctOf K) true QdB):=QH0 QuG zz_range
 have QFW:DefOk l.prog w K mg base (ctOf K) "single_row" 1 true [] QdB:=⟨_,_,_,_,QF2,W.mg_of X G Qn5,QiW,QHF,.nil⟩
 have QJm:FnOk l.prog w K mg base (CXR l.prog w) 4 _ _ ["self","many"] (SpI K (ctOf K) Qed):=QJg QwC Qki QFW zz_range cc_MOST_OUTS ⟨_,rfl⟩ ms_keep_rows
 have QCA:MkOk l.prog w K mg base (ctOf K) "Deal" 4 Qed:=⟨QH,Qhr,_,_,Qbu,QK1,⟨Qxf,QpE,Qqg,Qx1⟩,QJm,QJP⟩
 have QEk:FnOk l.prog w K mg base (CXR l.prog w) 4 _ _ ["self","size"] (SpI K (ctOf K) Qde):=QDB QsZ Qki zz_range cc_MOST_ROWS ⟨_,rfl⟩ ms_keep_rows
 have Qu9:MkOk l.prog w K mg base (ctOf K) "Bundle" 4 Qde:=⟨Qq,QfI,_,_,Qay,QC5,⟨Qsn,QlN,Ql2,Qrr⟩,QEk,QEH⟩
 have QIr:FnOk l.prog w K mg base (CXR l.prog w) 4 _ _ ["self","counts"] (SpI K (ctOf K) Qec):=QJN Qws QHi ms_keep_rows
 have QCu:MkOk l.prog w K mg base (ctOf K) "Copy" 4 Qec:=⟨QF,QhG,_,_,Qbs,QK7,⟨Qyc,Qpg,Qpm,QxY⟩,QIr,QKc⟩
 have QJn:FnOk l.prog w K mg base CX0 7 _ _ ["_law_kind","_law_rows_here"] (SpD K (ctOf K) true QcP):=QI4 QwF zz_len zz_list QCA Qu9 QCu QCs
 have QKr:DefOk l.prog w K mg base (ctOf K) "_law_clerk" 7 true [] QcP:=⟨_,_,_,_,QJn,W.mg_of X G QpF,Qky,QIm,.nil⟩
 have QG0:FnOk l.prog w K mg base CX0 8 _ _ ["_law_plan_here","_law_doors"] (SpD K (ctOf K) true Qdw):=QGr Qum QKr zz_range zz_len Qu3
 have QHK:DefOk l.prog w K mg base (ctOf K) "_law_office" 8 true [] Qdw:=⟨_,_,_,_,QG0,W.mg_of X G QnH,Qjk,QHO,.nil⟩
 have QD2:FnOk l.prog w K mg base CX0 1 _ _ ["_law_one","_law_other"] (SpD K (ctOf K) false Qdf):=QDZ Qs0 zz_abs
 have QDO:DefOk l.prog w K mg base (ctOf K) "_law_divisor" 1 false [] Qdf:=⟨_,_,_,_,QD2,W.mg_of X G QlM,QhQ,QDE,.nil⟩
 have QPI:FnOk l.prog w K mg base CX0 2 _ _ ["_law_top","_law_bottom"] (SpD K (ctOf K) false Qc0):=QOK QC1 QDO
 have Qvc:DefOk l.prog w K mg base (ctOf K) "_law_low" 2 false [] Qc0:=⟨_,_,_,_,QPI,W.mg_of X G Quz,Qo6,QPB,.nil⟩
 have QFs:FnOk l.prog w K mg base CX0 3 _ _ ["_law_cell_here","_law_many"] (SpD K (ctOf K) true QdA):=QGl QvA Qkg Qvc zz_range
 have QHy:DefOk l.prog w K mg base (ctOf K) "_law_worths" 3 true [] QdA:=⟨_,_,_,_,QFs,W.mg_of X G QnZ,Qio,QFM,.nil⟩
 have QEF:FnOk l.prog w K mg base CX0 2 _ _ ["_law_cell_here","_law_many","_law_k"] (SpD K (ctOf K) true Qcu):=QEb Qtl Qkg zz_range
 have QEq:DefOk l.prog w K mg base (ctOf K) "_law_counted" 2 true [] Qcu:=⟨_,_,_,_,QEF,W.mg_of X G Qlc,QhH,QDj,.nil⟩
 have Quc:FnOk l.prog w K mg base CX0 1 _ _ ["one","other"] (SpD K (ctOf K) false Qaj):=Qup Qk1
 have QkD:DefOk l.prog w K mg base (ctOf K) "greatest_divisor" 1 false [] Qaj:=⟨_,_,_,_,Quc,W.mg_of X G Qgw,QdV,Qu2,.nil⟩
 have QzZ:FnOk l.prog w K mg base CX0 2 _ _ ["fractions"] (SpD K (ctOf K) false QbD):=Qz3 QoM QkD
 have QAi:DefOk l.prog w K mg base (ctOf K) "common_bottom" 2 false [] QbD:=⟨_,_,_,_,QzZ,W.mg_of X G QiC,Qf4,QAb,.nil⟩
 have QLs:FnOk l.prog w K mg base CX0 2 _ _ ["top","bottom"] (SpD K (ctOf K) false QbG):=QSB QRq Qzk QkD zz_abs
 have B_share_0:Binds K (W.fnOf "share" "share" (Qm Qbt) (Qk Qbt) (Qa Qbt) (.ref QvT) Qxj Qxh QwZ QwP Qsg QwW) ["top","bottom"] []:=fun s us kin hl=>by
  match us,hl with
  | [],hh=>exact absurd hh (by simp)
  | [_],hh=>exact absurd hh (by simp)
  | [_,_],_=>exact W.binds_K kin rfl t_shareh rfl rfl rfl
  | _::_::_::_,hh=>exact absurd hh (by simp<;>omega)
 have QA2:DefOk l.prog w K mg base (ctOf K) "share" 2 false [] QbG:=⟨_,_,_,_,QLs,W.mg_of X G QvS,Qrb,B_share_0,.nil⟩
 have B_share_1:Binds K (W.fnOf "share" "share" (Qm Qbt) (Qk Qbt) (Qa Qbt) (.ref QvT) Qxj Qxh QwZ QwP Qsg QwW) ["top","bottom"] [.int 1 QGS]:=fun s us kin hl=>by
  match us,hl with
  | [],hh=>exact absurd hh (by simp)
  | [_],_=>exact W.binds_K kin rfl t_shareh rfl rfl rfl
  | _::_::_,hh=>exact absurd hh (by simp<;>omega)
 have H_share_1:DefOk l.prog w K mg base (ctOf K) "share" 2 false [(.int 1)] QbG:=⟨_,_,_,_,QLs,W.mg_of X G QvS,Qrb,B_share_1,(.cons ⟨_,rfl⟩ .nil)⟩
 have QLK:FnOk l.prog w K mg base CX0 3 _ _ ["shares","worths"] (SpD K (ctOf K) false Qbg):=QMY Qyr QAi QA2 zz_zip zz_sum
 have QsE:DefOk l.prog w K mg base (ctOf K) "worth_of" 3 false [] Qbg:=⟨_,_,_,_,QLK,W.mg_of X G Qrs,QmG,QL0,.nil⟩
 have QSi:FnOk l.prog w K mg base CX0 3 _ _ ["one","other"] (SpD K (ctOf K) false QjT):=QRc QLo QA2
 have QRw:DefOk l.prog w K mg base (ctOf K) "added" 3 false [] QjT:=⟨_,_,_,_,QSi,W.mg_of X G QBt,QvU,QR3,.nil⟩
 have QBO:FnOk l.prog w K mg base CX0 3 _ _ ["counts"] (SpD K (ctOf K) true QcE):=QBp QqV H_share_1
 have QCj:DefOk l.prog w K mg base (ctOf K) "whole_shares" 3 true [] QcE:=⟨_,_,_,_,QBO,W.mg_of X G Qke,QgL,QAQ,.nil⟩
 have QAN:FnOk l.prog w K mg base CX0 1 _ _ ["self","k"] (SpD K (ctOf K) false Qb2):=QCH QqP fo_staff
 have mt_clerk:MtOk l.prog w K mg base (ctOf K) CX0 "clerk" 1 QaF (fun c=>SpD K (ctOf K) false ((fun _=>Qb2) c)):=by
  intro c hc
  have hm:c∈QaF:=by simpa using hc
  simp only[QaF,List.mem_cons,List.not_mem_nil,or_false]at hm
  rcases hm with rfl
  ·exact⟨QV,QeN,_,_,Qa8,Qc1,⟨QjP,QjG,QgU⟩,QAN.mono (by decide),QAL⟩
 have QhM:FnOk l.prog w K mg base CX0 2 _ _ ["self"] (SpD K (ctOf K) true QaG):=QD0 Qtd zz_list fo_heads mt_period
 have mt_whole:MtOk l.prog w K mg base (ctOf K) CX0 "whole" 2 Qd (fun c=>SpD K (ctOf K) true ((fun _=>QaG) c)):=by
  intro c hc
  have hm:c∈Qd:=by simpa using hc
  simp only[Qd,List.mem_cons,List.not_mem_nil,or_false]at hm
  rcases hm with rfl | rfl | rfl | rfl
  ·exact⟨QH,QaW,_,_,Qbu,QcA,⟨QnW,QdT,Qdd⟩,QhM.mono (by decide),QhI⟩
  ·exact⟨Qq,QaW,_,_,Qay,Qa7,⟨QjK,QdT,Qdd⟩,QhM.mono (by decide),QhI⟩
  ·exact⟨QF,QaW,_,_,Qbs,QcH,⟨Qm8,QdT,Qdd⟩,QhM.mono (by decide),QhI⟩
  ·exact⟨QG,QaW,_,_,Qbj,QcD,⟨Qoi,QdT,Qdd⟩,QhM.mono (by decide),QhI⟩
 have Qcx:FnOk l.prog w K mg base CX0 3 _ _ ["self","count"] (SpD K (ctOf K) true QQ):=Qok Qg1 zz_zip fo_heads mt_period mt_whole
 have mt_sent_from_start:MtOk l.prog w K mg base (ctOf K) CX0 "sent_from_start" 3 Qd (fun c=>SpD K (ctOf K) true ((fun _=>QQ) c)):=by
  intro c hc
  have hm:c∈Qd:=by simpa using hc
  simp only[Qd,List.mem_cons,List.not_mem_nil,or_false]at hm
  rcases hm with rfl | rfl | rfl | rfl
  ·exact⟨QH,QK,_,_,Qbu,QcA,⟨Qeo,QaQ,Qat⟩,Qcx.mono (by decide),Qcw⟩
  ·exact⟨Qq,QK,_,_,Qay,Qa7,⟨QdC,QaQ,Qat⟩,Qcx.mono (by decide),Qcw⟩
  ·exact⟨QF,QK,_,_,Qbs,QcH,⟨Qen,QaQ,Qat⟩,Qcx.mono (by decide),Qcw⟩
  ·exact⟨QG,QK,_,_,Qbj,QcD,⟨Qeg,QaQ,Qat⟩,Qcx.mono (by decide),Qcw⟩
 have Qiu:FnOk l.prog w K mg base CX0 4 _ _ ["self","state","count"] (SpD K (ctOf K) true QcT):=QE7 QtT zz_zip mt_sent_from_start
 have mt_sent:MtOk l.prog w K mg base (ctOf K) CX0 "sent" 4 Qd (fun c=>SpD K (ctOf K) true ((fun _=>QcT) c)):=by
  intro c hc
  have hm:c∈Qd:=by simpa using hc
  simp only[Qd,List.mem_cons,List.not_mem_nil,or_false]at hm
  rcases hm with rfl | rfl | rfl | rfl
  ·exact⟨QH,Qa9,_,_,Qbu,QcA,⟨Qo8,QeH,Qdy⟩,Qiu.mono (by decide),Qjd⟩
  ·exact⟨Qq,Qa9,_,_,Qay,Qa7,⟨Qlo,QeH,Qdy⟩,Qiu.mono (by decide),Qjd⟩
  ·exact⟨QF,Qa9,_,_,Qbs,QcH,⟨Qpy,QeH,Qdy⟩,Qiu.mono (by decide),Qjd⟩
  ·exact⟨QG,Qa9,_,_,Qbj,QcD,⟨QpJ,QeH,Qdy⟩,Qiu.mono (by decide),Qjd⟩
 have QAO:FnOk l.prog w K mg base CX0 1 _ _ ["self","k"] (SpD K (ctOf K) true Qbi):=QCp Qrd zz_list fo_ways
 have mt_leads:MtOk l.prog w K mg base (ctOf K) CX0 "leads" 1 QaF (fun c=>SpD K (ctOf K) true ((fun _=>Qbi) c)):=by
  intro c hc
  have hm:c∈QaF:=by simpa using hc
  simp only[QaF,List.mem_cons,List.not_mem_nil,or_false]at hm
  rcases hm with rfl
  ·exact⟨QV,QeU,_,_,Qa8,Qc1,⟨QjY,Qka,QgT⟩,QAO.mono (by decide),QBW⟩
 have Qz0:FnOk l.prog w K mg base CX0 2 _ _ ["office","k","worths","door_worths"] (SpD K (ctOf K) true Qcm):=Qz2 Qo5 mt_leads
 have Qzg:DefOk l.prog w K mg base (ctOf K) "worths_behind" 2 true [] Qcm:=⟨_,_,_,_,Qz0,W.mg_of X G Qit,Qf6,QzQ,.nil⟩
 have QTe:FnOk l.prog w K mg base CX0 5 _ _ ["office","k","state","worths","door_worths"] (SpD K (ctOf K) false Qho):=QSU QOM QA2 QsE Qzg zz_zip mt_clerk mt_period mt_sent mt_whole
 have QTQ:DefOk l.prog w K mg base (ctOf K) "lean" 5 false [] Qho:=⟨_,_,_,_,QTe,W.mg_of X G QFz,Qyn,QTC,.nil⟩
 have QQH:FnOk l.prog w K mg base CX0 4 _ _ ["fractions"] (SpD K (ctOf K) false Qh6):=QPU QHl QsE H_share_1
 have QP6:DefOk l.prog w K mg base (ctOf K) "sum_of" 4 false [] Qh6:=⟨_,_,_,_,QQH,W.mg_of X G QxU,QrF,QQv,.nil⟩
 have QTa:FnOk l.prog w K mg base CX0 6 _ _ ["office","worths","door_worths","states","desks","out"] (SpD K (ctOf K) false Qog):=QS0 QOQ QsE QCj QTQ QRw QP6 zz_enumerate
 have QTv:DefOk l.prog w K mg base (ctOf K) "book" 6 false [] Qog:=⟨_,_,_,_,QTa,W.mg_of X G QFV,QyW,QT6,.nil⟩
 have QKO:FnOk l.prog w K mg base CX0 1 _ _ ["_law_found"] (SpD K (ctOf K) false Qdn):=QI7 Qwu zz_isinstance zz_int zz_bool
 have QKG:DefOk l.prog w K mg base (ctOf K) "_law_whole" 1 false [] Qdn:=⟨_,_,_,_,QKO,W.mg_of X G Qpt,QkA,QJi,.nil⟩
 have QMX:FnOk l.prog w K mg base CX0 2 _ _ ["_law_found","_law_due"] (SpD K (ctOf K) false Qfd):=QMK QyA QKG zz_isinstance zz_tuple zz_len
 have QNq:DefOk l.prog w K mg base (ctOf K) "_law_same" 2 false [] Qfd:=⟨_,_,_,_,QMX,W.mg_of X G QrO,QmJ,QLR,.nil⟩
 have QM7:FnOk l.prog w K mg base CX0 3 _ _ ["_law_one","_law_other"] (SpD K (ctOf K) false Qaf):=QNr QzF Qvc
 have QmB:DefOk l.prog w K mg base (ctOf K) "_law_plus" 3 false [] Qaf:=⟨_,_,_,_,QM7,W.mg_of X G QsN,Qmt,QL4,.nil⟩
 have Qym:FnOk l.prog w K mg base CX0 4 _ _ ["_law_plan_here","_law_k","_law_state","_law_worths_here","_law_door_worths"] (SpD K (ctOf K) false Qa3):=Qz1 QoJ QmB zz_zip
 have QoN:DefOk l.prog w K mg base (ctOf K) "_law_row_worth" 4 false [] Qa3:=⟨_,_,_,_,Qym,W.mg_of X G Qin,Qf0,Qzi,.nil⟩
 have QMy:FnOk l.prog w K mg base CX0 5 _ _ ["_law_plan_here","_law_k","_law_worths_here","_law_door_worths"] (SpD K (ctOf K) false Qfv):=QL9 Qyz QmB QoN Qvc zz_len zz_range
 have QLP:DefOk l.prog w K mg base (ctOf K) "_law_mean" 5 false [] Qfv:=⟨_,_,_,_,QMy,W.mg_of X G Qr9,QmR,QMT,.nil⟩
 have QJD:FnOk l.prog w K mg base CX0 6 _ _ ["_law_plan_here","_law_k","_law_worths_here","_law_door_worths"] (SpD K (ctOf K) true Qce):=QIY Qwl QLP QoN QmB zz_range zz_len
 have QKR:DefOk l.prog w K mg base (ctOf K) "_law_leans" 6 true [] Qce:=⟨_,_,_,_,QJD,W.mg_of X G Qqq,Qkk,QJU,.nil⟩
 have QMq:FnOk l.prog w K mg base CX0 7 _ _ ["_law_plan_here","_law_worths_here","_law_door_worths","_law_states","_law_desks","_law_out"] (SpD K (ctOf K) false Qfc):=QLJ QyE QmB QKR zz_zip zz_range zz_len
 have QM4:DefOk l.prog w K mg base (ctOf K) "_law_book" 7 false [] Qfc:=⟨_,_,_,_,QMq,W.mg_of X G QrA,QmT,QMv,.nil⟩
 have QUI:FnOk l.prog w K mg base CX0 9 _ _ ["_law_script"] (SpD K (ctOf K) false QoR):=QUG QQ0 QLL QHK QHy Qkg QEq QTv QNq QM4 zz_len zz_range zz_list
 exact QUI
theorem walk{l:W.OpenLaw}{q:Program}{loose:List Str}{XP:(Str->Option Value)->Heap->Prop}{YP:World->Heap->Prop}{d:DefRec}{K:Params->W.Frag}(hn:l.most=some 63)(hdf:d.params.defaults=[])
 (hY:∀(w:World)(h:Heap),YP w h->(K w.params).In h) (hlaw:∀ ns:List Int,ns.length<=63->(∀ z∈ns,bitsI z<=1048576)->QoR [.lst (ns.map .int)]=.ok (.bl true))
 (F:∀(w:World)(mg:Str->Option Value)(fa:Addr)(h:Heap),(K w.params).In h->h.Ns mainGlobals mg->mg d.name=some (.ref fa)->
  ∃ fd:FuncData,(∀(s:Shared)(u:Value),BindsTo s fd ⟨[u],[]⟩ [("_law_script",u)])/\∀ base:Heap,(K w.params).In base->base.Ns mainGlobals mg->FnOk l.prog w (K w.params) mg base CX0 9 fa fd ["_law_script"] (SpD (K w.params) (ctOf (K w.params)) false QoR)):
 W.WalkO q loose XP YP l.row.toRowW d [] (fun f vs=>PySem.call f vs):=
 DL.walk_of (n:=63) (k:=9) (x:="_law_script") (CX:=fun _=>CX0) (sp:=fun w=>SpD (K w.params) (ctOf (K w.params)) false QoR) hn (by decide) hdf ⟨rfl,by decide,by decide⟩ hY F
  (fun w H a ns hl hbits _ hS=>⟨[.lst (ns.map .int)],H,Same.refl H,⟨.ref a,[],rfl,⟨a,_,rfl,hS,RepL.map_int ns⟩,rfl⟩,by rw[hlaw ns hl hbits];exact fun v H' G' _ _ _ _ r=>r⟩) fun _ _ _ _ _ z=>z
end My
open PySem PySem.W PyProof.Rows
set_option maxRecDepth 100000 in
set_option maxHeartbeats 0 in
theorem PySem.Challenge.cw_dockethall_k57_book_holds : PySem.Challenge.rw_dockethall_k57_book.Holds := by
 w_on;o_law;k_head;(case hw=>w_witness2)
 k_fill
 refine My.walk (l:=PySem.Challenge.rw_dockethall_k57_book) rfl rfl (fun w h Y=>PySem.W.kIn_of Y) My.the_law ?F
 case F=>
  intro w mg fa h KX G hmg
  refine' My.all_mk KX G hmg ?QzP ?QCz ?QBY ?QBQ ?QBf ?QlI ?QfS ?QgG ?Qfm ?QlO ?Qfi ?QnS ?Qlg ?QsX ?QuU ?QvF ?Qul ?QvG ?QiL ?QeY ?Qfn ?Qeh ?Qju ?Qel ?QjZ ?Qiy ?QzD ?QBU ?QBX ?QA1 ?QBa ?QlX ?QfO ?QgB ?QfG ?Qlu ?QfD ?Qoe ?QlY ?Qy6 ?QAs ?QCF ?QAG ?QBT ?QlZ ?QfR ?Qgi ?Qfa ?Qlf ?Qfq ?QnP ?QlF ?QsR ?QvB ?Qvo ?Qvl ?Qvx ?QiQ ?QeS ?QfE ?Qej ?Qis ?Qes ?Qj9 ?QiD ?QpL ?QlR ?QpR ?Qpl ?QlS ?Qja ?QlH ?QlQ ?QnW ?QjK ?Qm8 ?Qoi ?Qeo ?QdC ?Qen ?Qeg ?QjY ?QjP ?Qo8 ?Qlo ?Qpy ?QpJ ?QhZ ?QgA ?Qh0 ?Qh9 ?QpE ?QlN ?Qpg ?QpC ?Ql1 ?Qxf ?Qx1 ?Qsn ?Qrr ?Qyc ?QxY ?Qxl ?Qxe ?Qrt ?QrU ?y1 ?y2 ?QAT ?QA6 ?Qvr ?Qt7 ?QCC ?QBZ ?QBz ?QBm ?QuZ ?QtV ?Qsp ?Qsh ?QsO ?Qmi ?QpO ?QpQ ?Qo9 ?Qkz ?Qnk ?Qm4 ?Qno ?Qjt ?Qrz ?QrR ?QrS ?Qmy ?QsH ?Qrx ?QsP ?Qml ?Qqv ?Qqp ?Qpu ?Qkh ?QtZ ?Qur ?QuV ?Qo7 ?Qn0 ?QmW ?Qnd ?Qiw ?QtU ?Qvi ?QuY ?QoL ?Qqa ?Qqc ?Qph ?Qkl ?QpM ?Qqr ?Qp1 ?Qko ?Qsd ?Qsm ?Qsr ?QmP ?Qps ?Qqb ?QpK ?Qkm ?Qrq ?QsI ?QrM ?Qmp ?QeJ ?Qn4 ?Qoh ?Qdt ?Qdr ?Qj1 ?Qj3 ?QcB ?Qvn ?QuI ?Que ?QoV ?Qpj ?QpB ?Qql ?Qkv ?QsC ?QrJ ?QsB ?QmD ?Qk4 ?Qlt ?Qle ?QhS ?QrI ?QrY ?Qsj ?QmS ?Qlw ?Qln ?QlC ?Qly ?Qu8 ?Quv ?Qug ?QoA ?QjO ?QjF ?Qkc ?QgI ?Qcr ?Qhk ?Qhd ?Qby ?QxO ?QxS ?Qxs ?QsW ?QrT ?Qst ?Qru ?QmH ?QpT ?Qpb ?Qqh ?QpD ?Qn5 ?Qm0 ?Qni ?QiW ?Qqg ?QpY ?Qqd ?QpN ?Ql2 ?Qlx ?Qlz ?Qk9 ?Qpm ?Qp9 ?QpX ?Qpi ?QpF ?Qqt ?Qpa ?Qky ?QnH ?QmV ?QnM ?Qjk ?QlM ?QlU ?QlE ?QhQ ?Quz ?Qu5 ?QtX ?Qo6 ?QnZ ?Qnh ?Qng ?Qio ?Qlc ?QlP ?Ql3 ?QhH ?Qgw ?Qgx ?Qgt ?QdV ?QiC ?Qip ?QiJ ?Qf4 ?QvS ?QBq ?QB9 ?Qrb ?t_shareh ?Qrs ?QrH ?Qr2 ?QmG ?QBt ?QBh ?QCo ?QvU ?Qke ?Qj5 ?Qj7 ?QgL ?QjG ?QjL ?QjE ?QgU ?QdT ?Qlb ?Qk7 ?Qdd ?QaQ ?QdQ ?QdS ?Qat ?QeH ?Qn2 ?Qnv ?Qdy ?Qka ?QjR ?QjX ?QgT ?Qit ?Qi9 ?Qi5 ?Qf6 ?QFz ?QFw ?QE8 ?Qyn ?QxU ?QxK ?QwX ?QrF ?QFV ?QFX ?QHN ?QyW ?Qpt ?QpU ?QpS ?QkA ?QrO ?Qsc ?Qrw ?QmJ ?QsN ?QrK ?QsQ ?Qmt ?Qin ?QiG ?Qjn ?Qf0 ?Qr9 ?Qr3 ?QsL ?QmR ?Qqq ?Qqs ?Qpx ?Qkk ?QrA ?Qsb ?QsA ?QmT ?QNw ?QMD ?QLG ?QNp ?z_len ?z_range ?z_int ?z_enumerate ?z_isinstance ?z_list ?z_set ?z_str ?z_all ?z_bool ?z_tuple ?z_any ?z_zip ?z_abs ?z_sum ?c_MOST_SIGNS ?c_LETTERS ?c_MOST_CLERKS ?c_MOST_ENTRIES ?c_MOST_DOORS ?c_MOST_OUTS ?c_MOST_SENT ?c_MOST_ROWS ?QlA ?Qpw ?Qqe ?QlV ?QpA ?Qi1 ?Qlk ?QlL ?Qjx ?QlG ?QlT ?QpI ?Qp5 ?Qlm ?Qqo ?QlD ?Qp3 ?Qpz ?Qk8 ?Qpc
  (case QzP=>k_is)
  (case QCz=>k_is)
  (case QBY=>k_is)
  (case QBQ=>k_is)
  (case QBf=>k_is)
  (case QlI=>k_is)
  (case QfS=>k_is)
  (case QgG=>k_is)
  (case Qfm=>k_is)
  (case QlO=>k_is)
  (case Qfi=>k_is)
  (case QnS=>k_is)
  (case Qlg=>k_is)
  (case QsX=>k_is)
  (case QuU=>k_is)
  (case QvF=>k_is)
  (case Qul=>k_is)
  (case QvG=>k_is)
  (case QiL=>k_is)
  (case QeY=>k_is)
  (case Qfn=>k_is)
  (case Qeh=>k_is)
  (case Qju=>k_is)
  (case Qel=>k_is)
  (case QjZ=>k_is)
  (case Qiy=>k_is)
  (case QzD=>k_is)
  (case QBU=>k_is)
  (case QBX=>k_is)
  (case QA1=>k_is)
  (case QBa=>k_is)
  (case QlX=>k_is)
  (case QfO=>k_is)
  (case QgB=>k_is)
  (case QfG=>k_is)
  (case Qlu=>k_is)
  (case QfD=>k_is)
  (case Qoe=>k_is)
  (case QlY=>k_is)
  (case Qy6=>k_is)
  (case QAs=>k_is)
  (case QCF=>k_is)
  (case QAG=>k_is)
  (case QBT=>k_is)
  (case QlZ=>k_is)
  (case QfR=>k_is)
  (case Qgi=>k_is)
  (case Qfa=>k_is)
  (case Qlf=>k_is)
  (case Qfq=>k_is)
  (case QnP=>k_is)
  (case QlF=>k_is)
  (case QsR=>k_is)
  (case QvB=>k_is)
  (case Qvo=>k_is)
  (case Qvl=>k_is)
  (case Qvx=>k_is)
  (case QiQ=>k_is)
  (case QeS=>k_is)
  (case QfE=>k_is)
  (case Qej=>k_is)
  (case Qis=>k_is)
  (case Qes=>k_is)
  (case Qj9=>k_is)
  (case QiD=>k_is)
  (case QpL=>k_is)
  (case QlR=>k_is)
  (case QpR=>k_is)
  (case Qpl=>k_is)
  (case QlS=>k_is)
  (case Qja=>k_is)
  (case QlH=>k_is)
  (case QlQ=>k_is)
  (case QnW=>k_is)
  (case QjK=>k_is)
  (case Qm8=>k_is)
  (case Qoi=>k_is)
  (case Qeo=>k_is)
  (case QdC=>k_is)
  (case Qen=>k_is)
  (case Qeg=>k_is)
  (case QjY=>k_is)
  (case QjP=>k_is)
  (case Qo8=>k_is)
  (case Qlo=>k_is)
  (case Qpy=>k_is)
  (case QpJ=>k_is)
  (case QhZ=>k_is)
  (case QgA=>k_is)
  (case Qh0=>k_is)
  (case Qh9=>k_is)
  (case QpE=>k_is)
  (case QlN=>k_is)
  (case Qpg=>k_is)
  (case QpC=>k_is)
  (case Ql1=>k_is)
  (case Qxf=>k_is)
  (case Qx1=>k_is)
  (case Qsn=>k_is)
  (case Qrr=>k_is)
  (case Qyc=>k_is)
  (case QxY=>k_is)
  (case Qxl=>k_is)
  (case Qxe=>k_is)
  (case Qrt=>k_is)
  (case QrU=>k_is)
  (case y1=>k_is)
  (case y2=>k_is)
  (case QAT=>k_is)
  (case QA6=>k_is)
  (case Qvr=>k_is)
  (case Qt7=>k_is)
  (case QCC=>k_is)
  (case QBZ=>k_is)
  (case QBz=>k_is)
  (case QBm=>k_is)
  (case QuZ=>k_is)
  (case QtV=>k_is)
  (case Qsp=>k_is)
  (case Qsh=>k_is)
  (case QsO=>k_is)
  (case Qmi=>k_is)
  (case QpO=>k_is)
  (case QpQ=>k_is)
  (case Qo9=>k_is)
  (case Qkz=>k_is)
  (case Qnk=>k_is)
  (case Qm4=>k_is)
  (case Qno=>k_is)
  (case Qjt=>k_is)
  (case Qrz=>k_is)
  (case QrR=>k_is)
  (case QrS=>k_is)
  (case Qmy=>k_is)
  (case QsH=>k_is)
  (case Qrx=>k_is)
  (case QsP=>k_is)
  (case Qml=>k_is)
  (case Qqv=>k_is)
  (case Qqp=>k_is)
  (case Qpu=>k_is)
  (case Qkh=>k_is)
  (case QtZ=>k_is)
  (case Qur=>k_is)
  (case QuV=>k_is)
  (case Qo7=>k_is)
  (case Qn0=>k_is)
  (case QmW=>k_is)
  (case Qnd=>k_is)
  (case Qiw=>k_is)
  (case QtU=>k_is)
  (case Qvi=>k_is)
  (case QuY=>k_is)
  (case QoL=>k_is)
  (case Qqa=>k_is)
  (case Qqc=>k_is)
  (case Qph=>k_is)
  (case Qkl=>k_is)
  (case QpM=>k_is)
  (case Qqr=>k_is)
  (case Qp1=>k_is)
  (case Qko=>k_is)
  (case Qsd=>k_is)
  (case Qsm=>k_is)
  (case Qsr=>k_is)
  (case QmP=>k_is)
  (case Qps=>k_is)
  (case Qqb=>k_is)
  (case QpK=>k_is)
  (case Qkm=>k_is)
  (case Qrq=>k_is)
  (case QsI=>k_is)
  (case QrM=>k_is)
  (case Qmp=>k_is)
  (case QeJ=>k_is)
  (case Qn4=>k_is)
  (case Qoh=>k_is)
  (case Qdt=>k_is)
  (case Qdr=>k_is)
  (case Qj1=>k_is)
  (case Qj3=>k_is)
  (case QcB=>k_is)
  (case Qvn=>k_is)
  (case QuI=>k_is)
  (case Que=>k_is)
  (case QoV=>k_is)
  (case Qpj=>k_is)
  (case QpB=>k_is)
  (case Qql=>k_is)
  (case Qkv=>k_is)
  (case QsC=>k_is)
  (case QrJ=>k_is)
  (case QsB=>k_is)
  (case QmD=>k_is)
  (case Qk4=>k_is)
  (case Qlt=>k_is)
  (case Qle=>k_is)
  (case QhS=>k_is)
  (case QrI=>k_is)
  (case QrY=>k_is)
  (case Qsj=>k_is)
  (case QmS=>k_is)
  (case Qlw=>k_is)
  (case Qln=>k_is)
  (case QlC=>k_is)
  (case Qly=>k_is)
  (case Qu8=>k_is)
  (case Quv=>k_is)
  (case Qug=>k_is)
  (case QoA=>k_is)
  (case QjO=>k_is)
  (case QjF=>k_is)
  (case Qkc=>k_is)
  (case QgI=>k_is)
  (case Qcr=>k_is)
  (case Qhk=>k_is)
  (case Qhd=>k_is)
  (case Qby=>k_is)
  (case QxO=>k_is)
  (case QxS=>k_is)
  (case Qxs=>k_is)
  (case QsW=>k_is)
  (case QrT=>k_is)
  (case Qst=>k_is)
  (case Qru=>k_is)
  (case QmH=>k_is)
  (case QpT=>k_is)
  (case Qpb=>k_is)
  (case Qqh=>k_is)
  (case QpD=>k_is)
  (case Qn5=>k_is)
  (case Qm0=>k_is)
  (case Qni=>k_is)
  (case QiW=>k_is)
  (case Qqg=>k_is)
  (case QpY=>k_is)
  (case Qqd=>k_is)
  (case QpN=>k_is)
  (case Ql2=>k_is)
  (case Qlx=>k_is)
  (case Qlz=>k_is)
  (case Qk9=>k_is)
  (case Qpm=>k_is)
  (case Qp9=>k_is)
  (case QpX=>k_is)
  (case Qpi=>k_is)
  (case QpF=>k_is)
  (case Qqt=>k_is)
  (case Qpa=>k_is)
  (case Qky=>k_is)
  (case QnH=>k_is)
  (case QmV=>k_is)
  (case QnM=>k_is)
  (case Qjk=>k_is)
  (case QlM=>k_is)
  (case QlU=>k_is)
  (case QlE=>k_is)
  (case QhQ=>k_is)
  (case Quz=>k_is)
  (case Qu5=>k_is)
  (case QtX=>k_is)
  (case Qo6=>k_is)
  (case QnZ=>k_is)
  (case Qnh=>k_is)
  (case Qng=>k_is)
  (case Qio=>k_is)
  (case Qlc=>k_is)
  (case QlP=>k_is)
  (case Ql3=>k_is)
  (case QhH=>k_is)
  (case Qgw=>k_is)
  (case Qgx=>k_is)
  (case Qgt=>k_is)
  (case QdV=>k_is)
  (case QiC=>k_is)
  (case Qip=>k_is)
  (case QiJ=>k_is)
  (case Qf4=>k_is)
  (case QvS=>k_is)
  (case QBq=>k_is)
  (case QB9=>k_is)
  (case Qrb=>k_is)
  (case t_shareh=>k_is)
  (case Qrs=>k_is)
  (case QrH=>k_is)
  (case Qr2=>k_is)
  (case QmG=>k_is)
  (case QBt=>k_is)
  (case QBh=>k_is)
  (case QCo=>k_is)
  (case QvU=>k_is)
  (case Qke=>k_is)
  (case Qj5=>k_is)
  (case Qj7=>k_is)
  (case QgL=>k_is)
  (case QjG=>k_is)
  (case QjL=>k_is)
  (case QjE=>k_is)
  (case QgU=>k_is)
  (case QdT=>k_is)
  (case Qlb=>k_is)
  (case Qk7=>k_is)
  (case Qdd=>k_is)
  (case QaQ=>k_is)
  (case QdQ=>k_is)
  (case QdS=>k_is)
  (case Qat=>k_is)
  (case QeH=>k_is)
  (case Qn2=>k_is)
  (case Qnv=>k_is)
  (case Qdy=>k_is)
  (case Qka=>k_is)
  (case QjR=>k_is)
  (case QjX=>k_is)
  (case QgT=>k_is)
  (case Qit=>k_is)
  (case Qi9=>k_is)
  (case Qi5=>k_is)
  (case Qf6=>k_is)
  (case QFz=>k_is)
  (case QFw=>k_is)
  (case QE8=>k_is)
  (case Qyn=>k_is)
  (case QxU=>k_is)
  (case QxK=>k_is)
  (case QwX=>k_is)
  (case QrF=>k_is)
  (case QFV=>k_is)
  (case QFX=>k_is)
  (case QHN=>k_is)
  (case QyW=>k_is)
  (case Qpt=>k_is)
  (case QpU=>k_is)
  (case QpS=>k_is)
  (case QkA=>k_is)
  (case QrO=>k_is)
  (case Qsc=>k_is)
  (case Qrw=>k_is)
  (case QmJ=>k_is)
  (case QsN=>k_is)
  (case QrK=>k_is)
  (case QsQ=>k_is)
  (case Qmt=>k_is)
  (case Qin=>k_is)
  (case QiG=>k_is)
  (case Qjn=>k_is)
  (case Qf0=>k_is)
  (case Qr9=>k_is)
  (case Qr3=>k_is)
  (case QsL=>k_is)
  (case QmR=>k_is)
  (case Qqq=>k_is)
  (case Qqs=>k_is)
  (case Qpx=>k_is)
  (case Qkk=>k_is)
  (case QrA=>k_is)
  (case Qsb=>k_is)
  (case QsA=>k_is)
  (case QmT=>k_is)
  (case QNw=>k_is)
  (case QMD=>k_is)
  (case QLG=>k_is)
  (case QNp=>k_is)
  (case z_len=>k_is)
  (case z_range=>k_is)
  (case z_int=>k_is)
  (case z_enumerate=>k_is)
  (case z_isinstance=>k_is)
  (case z_list=>k_is)
  (case z_set=>k_is)
  (case z_str=>k_is)
  (case z_all=>k_is)
  (case z_bool=>k_is)
  (case z_tuple=>k_is)
  (case z_any=>k_is)
  (case z_zip=>k_is)
  (case z_abs=>k_is)
  (case z_sum=>k_is)
  (case c_MOST_SIGNS=>k_is)
  (case c_LETTERS=>k_is)
  (case c_MOST_CLERKS=>k_is)
  (case c_MOST_ENTRIES=>k_is)
  (case c_MOST_DOORS=>k_is)
  (case c_MOST_OUTS=>k_is)
  (case c_MOST_SENT=>k_is)
  (case c_MOST_ROWS=>k_is)
  (case QlA=>kit_is)
  (case Qpw=>kit_is)
  (case Qqe=>kit_is)
  (case QlV=>kit_is)
  (case QpA=>kit_is)
  (case Qi1=>kit_is)
  (case Qlk=>kit_is)
  (case QlL=>kit_is)
  (case Qjx=>kit_is)
  (case QlG=>kit_is)
  (case QlT=>kit_is)
  (case QpI=>kit_is)
  (case Qp5=>kit_is)
  (case Qlm=>kit_is)
  (case Qqo=>kit_is)
  (case QlD=>kit_is)
  (case Qp3=>kit_is)
  (case Qpz=>kit_is)
  (case Qk8=>kit_is)
  (case Qpc=>kit_is)
