import PyProof.Rows.All
import Wide.All
import OpenK.AllK
import Wide.FinOn
import Lean
import PyProof.EqAt
import PyProof.EqKinds
import PyProof.TupleCall
import PyProof.ListRange
import PyProof.PureStr
import PyProof.MeetsStr3
import PyProof.Draws
import PySem.Challenge.RW_dockethall_k32_one_handling
namespace PySem.W.Fast
def tw3182065803169519972:=0
def tw14480789772795982947:=0
def tw18136898121065934671:=0
def tw4949248388428165510:=0
def tw3100406392139640967:=0
def tw898096238277963713:=0
def tw5443144617095862046:=0
def tw13804601211737310898:=0
def tw12861362549271543887:=0
def tw12876851679377581459:=0
def tw15596967221995634729:=0
def tw15295366874656194359:=0
def tw14598291175818979097:=0
def tw6559249233438910850:=0
def tw7532032917546812116:=0
def tw2765653287314972481:=0
def tw8537707006925296661:=0
def tw7426493191297367420:=0
def tw1993520589959746659:=0
def tw8552678679417314355:=0
def tw11488583621455685321:=0
def tw13147665916001903348:=0
def tw2310871596665578314:=0
def tw14621413359844882317:=0
def tw60584128227616141:=0
def tw16061598838504944337:=0
def tw7242220680043513836:=0
def tw14003670062077585399:=0
def tw12675781077379588598:=0
def tw768101678637453745:=0
def tw7456618165345495366:=0
def tw2684603469946941289:=0
def tw17880340613943313226:=0
def tw12673842251755917738:=0
def tw7793817101632231321:=0
def tw6904399682984819916:=0
def tw9285300137516329980:=0
def tw1183805019604116649:=0
def tw6380595230515893020:=0
def tw18045560498097171218:=0
def tw1033266627759305036:=0
def tw16305016293479657646:=0
def tw56519191063768185:=0
def tw10607627860431063849:=0
def tw3212229638426792288:=0
def tw7687457873961415536:=0
def tw13255856228529531078:=0
def tw17072278038812950577:=0
def tw17788365128685649151:=0
def tw3230306080920765274:=0
def tw17452412517616359138:=0
def tw13126543848237342421:=0
def tw3945155596437024496:=0
def tw11205629470648865427:=0
def tw7046981149480079468:=0
def tw3211836972178687108:=0
def tw3396272806493886630:=0
def tw13518801162908971333:=0
def tw5094721403460338664:=0
def tw15050786847443145198:=0
def tw7700502504807083933:=0
def tw702761290537116979:=0
def tw13068183304392131173:=0
def tw8737756286461049089:=0
def tw13600860197501469996:=0
def tw9855513432765913175:=0
def tw9724656058661191886:=0
def tw7744167707263558842:=0
def tw1067396378345303797:=0
def tw5016792625410802777:=0
def tw8404640398308050513:=0
def tw18307076672160487711:=0
def tw16554352636184078995:=0
def tw3407220083610001974:=0
def tw3795284305910953793:=0
def tw15070555103403407039:=0
def tw8435154672455919126:=0
def tw320545206145803978:=0
def tw10153807914012154112:=0
def tw2436792536696884430:=0
def tw17390099361573278605:=0
def tw7969713144881812146:=0
def tw18086012676636576299:=0
def tw17947669784466452177:=0
def tw92797485012502350:=0
def tw1885649046783186995:=0
def tw4190078634200861123:=0
def tw14193349937861286414:=0
def tw10223506952472045594:=0
def tw11130706276162095975:=0
def tw18108109410863482774:=0
def tw14946409416081790205:=0
def tw14407949145131896596:=0
def tw5988527526730469492:=0
def tw15779515200504355580:=0
def tw15660199083663664195:=0
def tw7286392034187537410:=0
def tw11613663795590698285:=0
def tw3676097083667829711:=0
def tw5111869214294525870:=0
def tw8020748870357483435:=0
def tw15797597786349175382:=0
def tw2763041287741782180:=0
def tw10196661268026530377:=0
def tw7136221663620901005:=0
def tw150904962285117752:=0
def tw12699201599202718670:=0
def tw7080333287811936828:=0
def tw16803356399469679484:=0
def tw8218609131111923598:=0
def tw6605318387473820252:=0
def tw14413619426822647591:=0
def tw6824995791874681157:=0
def tw9571682924475374589:=0
def tw17685700408324495423:=0
end PySem.W.Fast
set_option Elab.async false
set_option linter.all false
set_option maxRecDepth 100000
theorem oi{a b:Prop}(h:a):a∨b:=Or.inl h
theorem dk{p:Prop}(h:p:=by decide +kernel):p:=h
namespace L2
open PySem PySem.Spec PyProof.Rows
abbrev Key:=Sum Int Str
def keyIs:Key->Value->Bool
 | .inl k,v=>Value.isInt k v
 | .inr x,v=>Value.isStrOf x v
def keyH(w:World):Key->Int
 | .inl k=>hashInt k
 | .inr x=>hashStr w x
theorem Qcb:∀{k:Key}{v:Value},keyIs k v=true->(∃ i t,k=Sum.inl i/\v=Value.int i t)∨(∃ x t,k=Sum.inr x/\v=Value.str x t)
 | .inl i,v,h=>by
  obtain⟨t,e⟩:=Value.isInt_shape (k:=i) (v:=v) h
  exact .inl ⟨i,t,rfl,e⟩
 | .inr x,v,h=>by
  obtain⟨t,e⟩:=Value.isStrOf_shape (x:=x) (v:=v) h
  exact .inr ⟨x,t,rfl,e⟩
theorem QJS(i:Int)(t:Tok):keyIs (.inl i) (.int i t)=true:=by simp[keyIs,Value.isInt]
theorem QKA(x:Str)(t:Tok):keyIs (.inr x) (.str x t)=true:=by simp[keyIs,Value.isStrOf]
theorem QO9(a b:Int):decide ((Sum.inl a:Key)=Sum.inl b)=(a == b):=by
 by_cases e:a=b
 ·subst e;simp
 ·have h:¬ (Sum.inl a:Key)=Sum.inl b:=fun q=>e (Sum.inl.inj q)
  rw[decide_eq_false h]
  exact(beq_eq_false_iff_ne.mpr e).symm
theorem QOF(a b:Str):decide ((Sum.inr a:Key)=Sum.inr b)=decide (a=b):=by
 by_cases e:a=b
 ·subst e;simp
 ·have h:¬ (Sum.inr a:Key)=Sum.inr b:=fun q=>e (Sum.inr.inj q)
  rw[decide_eq_false h,decide_eq_false e]
theorem QOV(a:Int)(b:Str):decide ((Sum.inl a:Key)=Sum.inr b)=false:=decide_eq_false (fun q=>nomatch q)
theorem QOg(a:Str)(b:Int):decide ((Sum.inr a:Key)=Sum.inl b)=false:=decide_eq_false (fun q=>nomatch q)
def Qb3(prog:Program)(w:World):PySem.KeyKind prog w Key where
 is:=keyIs
 hash:=keyH w
 inj:=fun v a b ha hb=>by
  rcases Qcb ha with⟨i,t,rfl,rfl⟩ | ⟨x,t,rfl,rfl⟩
  ·rcases Qcb hb with⟨j,u,rfl,e⟩ | ⟨y,u,rfl,e⟩
   ·injection e with e1 _;rw[e1]
   ·exact nomatch e
  ·rcases Qcb hb with⟨j,u,rfl,e⟩ | ⟨y,u,rfl,e⟩
   ·exact nomatch e
   ·injection e with e1 _;rw[e1]
 byValue:=fun k v h=>by
  rcases Qcb h with⟨i,t,rfl,rfl⟩ | ⟨x,t,rfl,rfl⟩<;>rfl
 pyHash:=fun hv h=>by
  rcases Qcb hv with⟨i,t,rfl,rfl⟩ | ⟨x,t,rfl,rfl⟩
  ·exact wpAny_pyHash_int h
  ·exact wpAny_pyHash_str h
 eqBool:=fun hu hv h=>by
  rcases Qcb hu with⟨i,t,rfl,rfl⟩ | ⟨x,t,rfl,rfl⟩
  ·rcases Qcb hv with⟨j,u,rfl,rfl⟩ | ⟨y,u,rfl,rfl⟩
   ·rw[QO9]at h;exact wpAny_eqBool_int h
   ·rw[QOV]at h;exact SeqAt.EqAt.int_str i t y u _ _ _ _ h
  ·rcases Qcb hv with⟨j,u,rfl,rfl⟩ | ⟨y,u,rfl,rfl⟩
   ·rw[QOg]at h;exact SeqAt.EqAt.str_int x t j u _ _ _ _ h
   ·rw[QOF]at h;exact wpAny_eqBool_str h
 «strs»:=fun k x t v h=>by
  rcases Qcb h with⟨i,u,rfl,e⟩ | ⟨y,u,rfl,e⟩
  ·exact nomatch e
  ·injection e with e1 _
   subst e1
   cases v<;>rfl
theorem QFf(prog:Program)(w:World)(i:Int)(t:Tok):(Qb3 prog w).is (.inl i) (.int i t)=true:=QJS i t
theorem QE2(prog:Program)(w:World)(x:Str)(t:Tok):(Qb3 prog w).is (.inr x) (.str x t)=true:=QKA x t
end L2
namespace L2
open PySem PySem.Spec PyProof.Rows
inductive V where
 | non | bl (b:Bool) | int (i:Int) | str (x:Str) | byt (b:Array UInt8) | flt (b:UInt64) | ref (a:Addr) | ty (n:String)
 deriving DecidableEq
def RelV:V->Value->Prop
 | .non,u=>u=Value.none
 | .bl b,u=>u=Value.bool b
 | .int i,u=>∃ t,u=Value.int i t
 | .str x,u=>∃ t,u=Value.str x t
 | .byt b,u=>∃ t,u=Value.bytes b t
 | .flt b,u=>∃ t,u=Value.float b t
 | .ref a,u=>u=Value.ref a
 | .ty n,u=>u=Value.type n
abbrev Vals:List V->List Value->Prop:=Paired RelV
theorem Vals.length{xs:List V}{us:List Value}(r:Vals xs us):xs.length=us.length:=Paired.length r
theorem Vals.get:∀{xs:List V}{us:List Value}{i:Nat}{x:V},Vals xs us->xs[i]?=some x->∃ u,us[i]?=some u/\RelV x u
 | _,_,_,_,.nil,e=>by simp at e
 | _,_,0,_,.cons r _,e=>by simp at e;subst e;exact⟨_,rfl,r⟩
 | _,_,i+1,x,.cons _ t,e=>by
  obtain⟨u,h1,h2⟩:=Vals.get (i:=i) (x:=x) t (by simpa using e)
  exact⟨u,by simpa using h1,h2⟩
theorem Vals.set{x:V}{u:Value}(r:RelV x u):∀{xs:List V}{us:List Value}(i:Nat),Vals xs us->Vals (xs.set i x) (us.set i u)
 | _,_,_,.nil=>.nil
 | _,_,0,.cons _ t=>.cons r t
 | _,_,i+1,.cons q t=>.cons q (Vals.set r i t)
theorem Vals.append:∀{xs ys:List V}{us ws:List Value},Vals xs us->Vals ys ws->Vals (xs++ys) (us++ws)
 | _,_,_,_,.nil,s=>s
 | _,_,_,_,.cons r t,s=>.cons r (Vals.append t s)
theorem Vals.take:∀{xs:List V}{us:List Value}(n:Nat),Vals xs us->Vals (xs.take n) (us.take n)
 | _,_,0,_=>.nil
 | _,_,_+1,.nil=>.nil
 | _,_,n+1,.cons r t=>.cons r (Vals.take n t)
theorem Vals.drop:∀{xs:List V}{us:List Value}(n:Nat),Vals xs us->Vals (xs.drop n) (us.drop n)
 | _,_,0,r=>r
 | _,_,_+1,.nil=>.nil
 | _,_,n+1,.cons _ t=>Vals.drop n t
def RelO:Option V->Option Value->Prop
 | some v,some u=>RelV v u
 | none,none=>True
 | _,_=>False
def KV{κ:Type}:List (κ×V)->List (κ×Value)->Prop:=Paired fun(p:κ×V) (q:κ×Value)=>p.1=q.1/\RelV p.2 q.2
def kV:Key->V
 | .inl i=>.int i
 | .inr x=>.str x
inductive HO where
 /-- a list -/
 | lst (xs:List V)
 /-- a tuple (never changes) -/
 | tup (xs:List V)
 /-- a dict whose keys are ints and texts;one whose keys are tuples of ints and texts (the empty one is both) -/
 | dK (kvs:List (Key×V)) | dT (kvs:List (List Key×V))
 /-- a set of ints: its members,its size -/
 | set (S:Int->Bool) (n:Nat)
 /-- an instance of the class at C,its dict at dx,its attributes -/
 | ins (C dx:Addr) (fs:List (Str×V))
 /-- the dict of the instance at x -/
 | own (x:Addr)
 /-- the dict of an exception -/
 | xd (fs:List (Str×V))
 /-- a bound method,f of x -/
 | met (f x:Addr)
 /-- a range object lo,lo+1, .. below hi -/
 | rng (lo hi:Int)
 /-- a thing that is known to the object (the script;a dict while a loop walks it): read,never written while it is so -/
 | frz (o:Obj) (u:HO)
 /-- a code object's table -/
 | tbl (ps:Array Value)
 /-- any other thing,by what is true of its one object (a def of one's own: SetO a S n:=HO.ext fun h => ..) -/
 | ext (φ : Heap->Prop)
abbrev Hp:=Addr->Option HO
def upd(H:Hp)(a:Addr)(o:HO):Hp:=fun b=>if b=a then some o else H b
theorem QG{H:Hp}{a:Addr}{o:HO}:upd H a o a=some o:=by unfold upd;rw[if_pos rfl]
theorem Qk{H:Hp}{a b:Addr}{o:HO}(h:b≠a):upd H a o b=H b:=by unfold upd;rw[if_neg h]
theorem QNJ{H:Hp}{a:Addr}{o u:HO}:upd (upd H a o) a u=upd H a u:=by
 funext b;unfold upd;split<;>rfl
theorem ne_of{H:Hp}{a b:Addr}{o u:HO}(h:H a=some o)(h':H b=some u)(d:o≠u):a≠b:=by
 intro e;subst e;rw[h]at h';exact d (Option.some.inj h')
theorem QU{H:Hp}{a b:Addr}{o:HO}(h:H a=some o)(h':H b=none):a≠b:=by
 intro e;subst e;rw[h]at h';cases h'
section
variable(P:Program)(w:World)
def ObjOk(H:Hp)(h:Heap)(a:Addr):HO->Prop
 | .lst xs=>xs.length<=sizeLine/\∃(its:List Value)(n:Nat),Vals xs its/\h.get? a=some { cls:=.type "list",data:=.seq its.toArray n }
 | .tup xs=>xs.length<=sizeLine/\∃ its:List Value,Vals xs its/\IsTup h a its.toArray
 | .dK kvs=>kvs.length<=sizeLine/\(a == sysModules)=false/\∃ vs,KV kvs vs/\h.DictOf (Qb3 P w) a vs
 | .dT kvs=>kvs.length<=sizeLine/\(a == sysModules)=false/\∃ xs:List (List Key×Addr×Value),
  Paired (fun(p:List Key×V) (q:List Key×Addr×Value)=>p.1=q.1/\H q.2.1=some (.tup (p.1.map kV))/\RelV p.2 q.2.2) kvs xs/\
  ∃ o es ep,h.get? a=some o/\o.ExactDict/\o.data=.dict es ep/\es.toList=xs.map (entryOfKey (tupleKind (Qb3 P w)))/\(xs.map (·.1)).Nodup
 | .set S n=>h.SetOf (intKind P w) a S n
 | .ins C dx fs=>H dx=some (.own a)/\fs.length<=1000/\dx≠a/\h.get? a=some (PySem.W.instObj C dx)/\
  ∃ mA,h.Ns1 dx mA/\(∀ f,RelO (fs.lookup f) (mA f))/\PySem.Within mA (fs.map (·.1))
 | .own _=>∃ o,h.get? a=some o
 | .xd fs=>∃ mA,h.Ns1 a mA/\∀ f,RelO (fs.lookup f) (mA f)
 | .rng lo hi=>∃ t u v,h.get? a=some { cls:=.type "range",data:=.fields #[.int lo t,.int hi u,.int 1 v] }
 | .frz o u=>h.get? a=some o/\ObjOk H h a u
 | .tbl ps=>h.get? a=some { cls:=.none,data:=.fields ps }
 | .met f x=>h.get? a=some (PySem.W.methodObj (.ref f) (.ref x))
 | .ext φ => φ h/\(∃ o,h.get? a=some o)/\∀ h1 h2:Heap, φ h1->(∀ o,h1.get? a=some o->h2.get? a=some o) -> φ h2
def HOk(H:Hp)(h:Heap):Prop:=∀ a o,H a=some o->ObjOk P w H h a o
end
section
variable{P:Program}{w:World}{H H':Hp}{h h':Heap}{a:Addr}{o:HO}
theorem ObjOk.lt(x:ObjOk P w H h a o):a<h.objs.size:=by
 cases o with
 | lst xs=>obtain⟨_,_,_,_,e⟩:=x;exact Heap.lt_size e
 | tup xs=>obtain⟨_,_,_,p⟩:=x;exact p.lt
 | dK kvs=>obtain⟨_,_,_,_,o,_,_,e,_⟩:=x;exact Heap.lt_size e
 | dT kvs=>obtain⟨_,_,_,_,o,_,_,e,_⟩:=x;exact Heap.lt_size e
 | set S n=>obtain⟨o,_,_,_,e,_⟩:=x;exact Heap.lt_size e
 | ins C dx fs=>obtain⟨_,_,_,e,_⟩:=x;exact Heap.lt_size e
 | own y=>obtain⟨_,e⟩:=x;exact Heap.lt_size e
 | xd fs=>obtain⟨_,⟨_,_,_,e,_⟩,_⟩:=x;exact Heap.lt_size e
 | rng lo hi=>obtain⟨_,_,_,e⟩:=x;exact Heap.lt_size e
 | frz ob u=>obtain⟨e,_⟩:=x;exact Heap.lt_size e
 | tbl ps=>exact Heap.lt_size (show h.get? a=some _ from x)
 | met f y=>exact Heap.lt_size (show h.get? a=some _ from x)
 | ext φ => obtain⟨_,⟨_,e⟩,_⟩:=x;exact Heap.lt_size e
theorem Paired.mapP{α β:Type}{F G:α->β->Prop}:∀{l₁:List α}{l₂ : List β},Paired F l₁ l₂ -> (∀ a b,F a b->G a b)->Paired G l₁ l₂
 | _,_,.nil,_=>.nil
 | _,_,.cons r t,f=>.cons (f _ _ r) (Paired.mapP t f)
theorem ObjOk.stay(x:ObjOk P w H h a o)(k:∀ b u,(b=a∨H b=some (.own a))->h.get? b=some u->h'.get? b=some u)
 (ho:∀ b,H b=some (.own a)->H' b=some (.own a)) (ht:∀ b xs,H b=some (.tup xs)->H' b=some (.tup xs)):ObjOk P w H' h' a o:=by
 induction o with
 | lst xs=>obtain⟨z,its,n,r,e⟩:=x;exact⟨z,its,n,r,k _ _ (.inl rfl) e⟩
 | tup xs=>obtain⟨z,its,r,ob,e,c⟩:=x;exact⟨z,its,r,ob,k _ _ (.inl rfl) e,c⟩
 | dK kvs=>obtain⟨z,y,vs,r,ob,es,ep,e,c⟩:=x;exact⟨z,y,vs,r,ob,es,ep,k _ _ (.inl rfl) e,c⟩
 | dT kvs=>
  obtain⟨z,y,xs,r,ob,es,ep,e,c⟩:=x
  exact⟨z,y,xs,Paired.mapP r fun p q z=>⟨z.1,ht _ _ z.2.1,z.2.2⟩,ob,es,ep,k _ _ (.inl rfl) e,c⟩
 | set S n=>obtain⟨ob,es,ep,t,e,c⟩:=x;exact⟨ob,es,ep,t,k _ _ (.inl rfl) e,c⟩
 | ins C dx fs=>
  obtain⟨d,z,ne,e,mA,⟨od,es,ep,e2,c⟩,r⟩:=x
  exact⟨ho _ d,z,ne,k _ _ (.inl rfl) e,mA,⟨od,es,ep,k _ _ (.inr d) e2,c⟩,r⟩
 | own y=>obtain⟨ob,e⟩:=x;exact⟨ob,k _ _ (.inl rfl) e⟩
 | xd fs=>obtain⟨mA,⟨od,es,ep,e,c⟩,r⟩:=x;exact⟨mA,⟨od,es,ep,k _ _ (.inl rfl) e,c⟩,r⟩
 | rng lo hi=>obtain⟨t,u,v,e⟩:=x;exact⟨t,u,v,k _ _ (.inl rfl) e⟩
 | frz ob u ih=>obtain⟨e,q⟩:=x;exact⟨k _ _ (.inl rfl) e,ih q⟩
 | tbl ps=>
  have e:h.get? a=some { cls:=.none,data:=.fields ps }:=x
  show h'.get? a=some { cls:=.none,data:=.fields ps }
  exact k a _ (.inl rfl) e
 | met f y=>
  have e:h.get? a=some (PySem.W.methodObj (.ref f) (.ref y)):=x
  show h'.get? a=some (PySem.W.methodObj (.ref f) (.ref y))
  exact k a _ (.inl rfl) e
 | ext φ => obtain⟨p,⟨o,e⟩,st⟩:=x;exact⟨st _ _ p fun o q=>k _ _ (.inl rfl) q,⟨o,k _ _ (.inl rfl) e⟩,st⟩
theorem HOk.lt(x:HOk P w H h)(e:H a=some o):a<h.objs.size:=(x a o e).lt
theorem HOk.fresh(x:HOk P w H h)(e:h.objs.size<=a):H a=none:=by
 cases q:H a with
 | none=>rfl
 | some u=>exact absurd (Nat.lt_of_lt_of_le (x.lt q) e) (Nat.lt_irrefl _)
theorem HOk.kept(x:HOk P w H h)(k:∀ b u,h.get? b=some u->h'.get? b=some u):HOk P w H h':=fun a o e=>
 (x a o e).stay (fun b u _ q=>k b u q) (fun _ q=>q) fun _ _ q=>q
theorem HOk.laid(x:HOk P w H h)(k:∀ b u,h.get? b=some u->h'.get? b=some u)(hp:h.objs.size<=a)(new:ObjOk P w (upd H a o) h' a o):HOk P w (upd H a o) h':=fun b u e=>by
 have hn:=x.fresh hp
 by_cases hb:b=a
 ·subst hb;rw[QG]at e;cases e;exact new
 ·rw[Qk hb]at e
  exact(x b u e).stay (fun c v _ q=>k c v q) (fun c q=>by rw[Qk (QU q hn)];exact q) fun c xs q=>by rw[Qk (QU q hn)];exact q
end
def Rd(H:Hp)(a:Addr)(u:HO):Prop:=H a=some u∨∃ o,H a=some (.frz o u)
theorem Rd.of{H:Hp}{a:Addr}{u:HO}(h:H a=some u):Rd H a u:=.inl h
theorem Rd.ok{P:Program}{w:World}{H:Hp}{h:Heap}{a:Addr}{u:HO}(r:Rd H a u)(x:HOk P w H h):ObjOk P w H h a u:=by
 rcases r with r | ⟨o,r⟩
 ·exact x a u r
 ·obtain⟨_,q⟩:=x a _ r
  exact q
def Mut:Option HO->Prop
 | some (.lst _)=>True
 | some (.dK _)=>True
 | some (.dT _)=>True
 | some (.set _ _)=>True
 | some (.ins _ _ _)=>True
 | some (.ext _)=>True
 | _=>False
section
variable{P:Program}{w:World}{H:Hp}{h h':Heap}{x e:Addr}{o':HO}
theorem HOk.write(ok:HOk P w H h)(mu:Mut (H x))(he:e=x∨H e=some (.own x))(k:∀ b u,b≠e->h.get? b=some u->h'.get? b=some u)(heo:∃ u,h'.get? e=some u)
 (new:ObjOk P w (upd H x o') h' x o'):HOk P w (upd H x o') h':=fun b u q=>by
 have nown:∀ c y,H c=some (.own y)->c≠x:=fun c y r z=>by subst z;rw[r]at mu;exact mu
 have ntup:∀ c xs,H c=some (.tup xs)->c≠x:=fun c xs r z=>by subst z;rw[r]at mu;exact mu
 by_cases hb:b=x
 ·subst hb;rw[QG]at q;cases q;exact new
 ·rw[Qk hb]at q
  by_cases hbe:b=e
  ·have q':H b=some (.own x):=by
    rcases he with z | z
    ·exact absurd (hbe.trans z) hb
    ·rw[hbe];exact z
   rw[q]at q';cases q'
   obtain⟨v,hv⟩:=heo
   exact⟨v,by rw[hbe];exact hv⟩
  ·refine(ok b u q).stay (fun c v hc r=>k c v ?_ r) (fun c r=>by rw[Qk (nown c b r)];exact r) fun c xs r=>by rw[Qk (ntup c xs r)];exact r
   rcases hc with rfl | hc
   ·exact hbe
   ·rintro rfl
    rcases he with z | z
    ·exact nown c b hc z
    ·rw[hc]at z;cases z;exact hb rfl
end
structure Un(fs ex:List Addr)(H H':Hp)(h h':Heap):Prop where
 keep:∀ b o,h.get? b=some o->H b=none->b∉fs->b∉ex->h'.get? b=some o
 slot:∀ b o,h.get? b=some o->H b=none->b∈fs->b∉ex->∃ sl,h'.get? b=some { o with slots:=sl }
 free:∀ b o,h.get? b=some o->H b=none->b∉ex->H' b=none
 there:∀ b o,h.get? b=some o->b∉ex->∃ o',h'.get? b=some o'
 tups:∀ b xs,H b=some (.tup xs)->H' b=some (.tup xs)
 frzs:∀ b o u,H b=some (.frz o u)->H' b=some (.frz o u)
 tbls:∀ b ps,H b=some (.tbl ps)->∃ more,H' b=some (.tbl (ps++more))
section
variable{fs fs' ex ex':List Addr}{H H1 H2:Hp}{h h1 h2 h':Heap}{a x e:Addr}{o:HO}
theorem Un.any(u:Un fs ex H H1 h h1){b:Addr}{ob:Obj}(q:h.get? b=some ob)(n:H b=none)(hx:b∉ex):∃ sl,h1.get? b=some { ob with slots:=sl }:=by
 by_cases hb:b∈fs
 ·exact u.slot b ob q n hb hx
 ·exact⟨ob.slots,u.keep b ob q n hb hx⟩
theorem Un.trans(a:Un fs ex H H1 h h1)(b:Un fs ex H1 H2 h1 h2):Un fs ex H H2 h h2 where
 keep:=fun c ob q n hc hx=>b.keep c ob (a.keep c ob q n hc hx) (a.free c ob q n hx) hc hx
 slot:=fun c ob q n hc hx=>by
  obtain⟨sl,e1⟩:=a.slot c ob q n hc hx
  obtain⟨sl',e2⟩:=b.slot c _ e1 (a.free c ob q n hx) hc hx
  exact⟨sl',e2⟩
 free:=fun c ob q n hx=>by
  obtain⟨o',e1⟩:=a.there c ob q hx
  exact b.free c o' e1 (a.free c ob q n hx) hx
 there:=fun c ob q hx=>by
  obtain⟨o',e1⟩:=a.there c ob q hx
  exact b.there c o' e1 hx
 tups:=fun c xs q=>b.tups c xs (a.tups c xs q)
 frzs:=fun c ob xs q=>b.frzs c ob xs (a.frzs c ob xs q)
 tbls:=fun c ps q=>by
  obtain⟨m1,e1⟩:=a.tbls c ps q
  obtain⟨m2,e2⟩:=b.tbls c _ e1
  exact⟨m1++m2,by rw[e2,Array.append_assoc]⟩
theorem Un.kept(k:∀ b u,h.get? b=some u->h'.get? b=some u):Un fs ex H H h h':=
 ⟨fun b ob q _ _ _=>k b ob q,fun b ob q _ _ _=>⟨ob.slots,k b ob q⟩,fun _ _ _ n _=>n,fun b ob q _=>⟨ob,k b ob q⟩,fun _ _ q=>q,fun _ _ _ q=>q,fun _ ps q=>⟨#[],by rw[q];simp⟩⟩
theorem Un.refl:Un fs ex H H h h:=Un.kept fun _ _ q=>q
theorem Un.laid(k:∀ b u,h.get? b=some u->h'.get? b=some u)(hp:h.objs.size<=a)(hn:H a=none):Un fs ex H (upd H a o) h h' where
 keep:=fun b u q _ _ _=>k b u q
 slot:=fun b u q _ _ _=>⟨u.slots,k b u q⟩
 free:=fun b u q n _=>by rw[Qk (Nat.ne_of_lt (Nat.lt_of_lt_of_le (Heap.lt_size q) hp))];exact n
 there:=fun b u q _=>⟨u,k b u q⟩
 tups:=fun b xs q=>by rw[Qk (QU q hn)];exact q
 frzs:=fun b u xs q=>by rw[Qk (QU q hn)];exact q
 tbls:=fun b ps q=>⟨#[],by rw[Qk (QU q hn),q];simp⟩
theorem Un.write(mu:Mut (H x))(he:e=x∨H e=some (.own x))(k:∀ b u,b≠e->h.get? b=some u->h'.get? b=some u)(heo:∃ u,h'.get? e=some u):Un fs ex H (upd H x o) h h':=by
 have hx:∀ b,H b=none->b≠x:=fun b n z=>by subst z;rw[n]at mu;exact mu
 have hb:∀ b,H b=none->b≠e:=fun b n z=>by
  subst z
  rcases he with r | r
  ·exact hx b n r
  ·rw[n]at r;cases r
 have hm:∀ b u,H b=some u->¬ Mut (some u)->b≠x:=fun b u q nm z=>by subst z;rw[q]at mu;exact nm mu
 refine⟨fun b u q n _ _=>k b u (hb b n) q,fun b u q n _ _=>⟨u.slots,k b u (hb b n) q⟩,fun b u q n _=>by rw[Qk (hx b n)];exact n,fun b u q _=>?_,
  fun b xs q=>by rw[Qk (hm b _ q fun z=>z)];exact q,fun b u xs q=>by rw[Qk (hm b _ q fun z=>z)];exact q,fun b ps q=>⟨#[],by rw[Qk (hm b _ q fun z=>z),q];simp⟩⟩
 by_cases hbe:b=e
 ·subst hbe;exact heo
 ·exact⟨u,k b u hbe q⟩
end
def trk(h:Heap)(H:Hp):List Addr:=(List.range h.objs.size).filter fun a=>(H a).isSome
def hidT(h:Heap)(H:Hp):Heap:=PySem.W.hideAll h (trk h H)
theorem QKP(h:Heap)(H:Hp):(hidT h H).objs.size=h.objs.size:=PySem.W.hideAll_size _ _
theorem QLV{h:Heap}{H:Hp}{b:Addr}{o:Obj}(e:h.get? b=some o)(n:H b=none):(hidT h H).get? b=some o:=
 PySem.W.hideAll_get _ e fun hm=>by
  have q:(H b).isSome=true:=(List.mem_filter.mp hm).2
  rw[n]at q;simp at q
theorem QNq{h:Heap}{H:Hp}{b:Addr}{o:Obj}(e:(hidT h H).get? b=some o):h.get? b=some o/\H b=none:=by
 have e':h.get? b=some o:=PySem.W.of_hideAll (trk h H) e
 refine⟨e',?_⟩
 cases q:H b with
 | none=>rfl
 | some x=>
  have hm:b∈trk h H:=List.mem_filter.mpr ⟨List.mem_range.mpr (Heap.lt_size e'),by simp[q]⟩
  have z:(hidT h H).get? b=none:=PySem.W.hideAll_none (trk h H) hm
  rw[z]at e;cases e
def QM6(g h:Heap)(L:Addr):List (Addr×Obj):=(List.range h.objs.size).filterMap fun a=>if a=L∨(g.get? a).isSome=true then none else(h.get? a).map fun o=>(a,o)
def rest(g h:Heap)(L d:Addr):List (Addr×Obj):=(QM6 g h L).filter fun p=>decide (p.1≠d)
end L2
namespace L2
open PySem PySem.Spec PyProof.Rows
structure Mod(K:PySem.W.Frag)(mg:Str->Option Value)(base:Heap):Prop where
 kin:K.In base
 glob:base.Ns mainGlobals mg
 blt:∃ mb,base.Ns builtinsNs mb/\∀ x:Str,x≠"__name__"->mb x=bootBuiltins x
 nolimit:base.NoLimit
structure Cx where
 prog:Program
 w:World
 K:PySem.W.Frag
 mg:Str->Option Value
 base:Heap
 A:Around
 N:List Str
 s₀:Shared
 H₀:Hp
 env:Env
 outer:List Env
 stack:List Env
 ex:List Addr
 fn:Str->Bool
 calm:Bool
 pn:List (Addr×Obj)
 xe:Value->Shared->Prop
def frs(l:List Env):List Addr:=l.filterMap (·.frame)
abbrev Cx.fs(X:Cx):List Addr:=frs X.outer
def Vis(sc:Scope)(x:Str):Prop:=sc.names.lookup x=some .local∨sc.names.lookup x=some .cell∨sc.names.lookup x=some .free
def Loc(sc:Scope)(x:Str):Prop:=sc.names.lookup x=some .local∨sc.names.lookup x=some .cell
def Look(env:Env)(h:Heap)(m:Str->Option Value)(x:Str)(u:Value):Prop:=
 (env.kindOf x=some .local/\m x=some u)∨((env.kindOf x=some .cell∨env.kindOf x=some .free)/\∃ c,env.cells.lookup x=some c/\h.IsCell c (some u))
structure Cx.Ok(X:Cx):Prop where
 mod:Mod X.K X.mg X.base
 kind:X.env.scope.kind=.function
 glob:X.env.globals=mainGlobals
 blt:X.env.builtins=builtinsNs
 above:X.s₀.heap.objs.size<=X.env.locals
 inj:∀ x y c,X.env.cells.lookup x=some c->X.env.cells.lookup y=some c->x=y
 has:∀ x,(X.env.kindOf x=some .cell∨X.env.kindOf x=some .free)->∃ c,X.env.cells.lookup x=some c
 cab:∀ x c,X.fn x=true->X.env.cells.lookup x=some c->X.s₀.heap.objs.size<=c
 hd:X.calm=true->X.A.handled=none
 frames:X.A.frames=some X.stack
 stk:X.stack=X.outer∨(X.stack=X.env::X.outer/\X.env.frame=some X.env.locals)
 exf:∀ b∈X.ex,b≠X.env.locals/\∀ x c,X.env.cells.lookup x=some c->c≠b
 bs:∀ b o,X.base.get? b=some o->X.s₀.heap.get? b=some o/\X.H₀ b=none
 bsz:X.base.objs.size<=X.s₀.heap.objs.size
 noex:∀ b o,X.base.get? b=some o->b∉X.ex
 exfs:∀ b∈X.ex,b∉X.fs
 funs:X.s₀.heap.FunFrames X.base X.outer
 frf:∀ b∈X.fs,X.H₀ b=none
structure Inv(X:Cx)(pins:List (Addr×Obj))(σ:List (Option V))(H:Hp)(s:Shared):Prop where
 ok:X.Ok
 os:s.os=X.s₀.os
 bare:AllBare s.gens
 base:Un X.fs X.ex X.H₀ H X.s₀.heap s.heap
 loc:∃ m,s.heap.Ns X.env.locals m/\∀(i:Nat)(x:Str)(v:V),X.N[i]?=some x->σ[i]?=some (some v)->Vis X.env.scope x->∃ u,RelV v u/\Look X.env s.heap m x u
 cell:∀ x c,X.env.cells.lookup x=some c->∃ v,s.heap.IsCell c v
 free:H X.env.locals=none
 freeC:∀ x c,X.env.cells.lookup x=some c->H c=none
 pin:∀ p∈X.pn++pins,s.heap.get? p.1=some p.2/\H p.1=none/\p.1≠X.env.locals/\p.1∉X.fs/\∀ v,p.2.data≠.cell v
 hok:HOk X.prog X.w H s.heap
 len:σ.length=X.N.length
section
variable{X:Cx}{pins:List (Addr×Obj)}{σ:List (Option V)}{H H':Hp}{s:Shared}{h':Heap}
theorem Cx.Ok.nofr(ok:X.Ok){b:Addr}{o:Obj}(e:X.base.get? b=some o):b∉X.fs:=fun hb=>by
 have:=(ok.funs.mem hb).1
 rw[e]at this;cases this
theorem Inv.bs(I:Inv X pins σ H s):∀ b o,X.base.get? b=some o->s.heap.get? b=some o/\H b=none:=fun b o e=>
 ⟨I.base.keep b o (I.ok.bs b o e).1 (I.ok.bs b o e).2 (I.ok.nofr e) (I.ok.noex b o e),I.base.free b o (I.ok.bs b o e).1 (I.ok.bs b o e).2 (I.ok.noex b o e)⟩
theorem Inv.bk(I:Inv X pins σ H s):∀ b o,X.base.get? b=some o->s.heap.get? b=some o:=fun b o e=>(I.bs b o e).1
theorem Inv.mod(I:Inv X pins σ H s):Mod X.K X.mg X.base:=I.ok.mod
theorem Inv.kIn(I:Inv X pins σ H s):X.K.In s.heap:=I.ok.mod.kin.keeps I.bk
theorem Inv.lt(I:Inv X pins σ H s):X.env.locals<s.heap.objs.size:=let ⟨_,hn,_⟩:=I.loc;hn.lt
theorem Inv.sz(I:Inv X pins σ H s):X.s₀.heap.objs.size<=s.heap.objs.size:=Nat.le_trans I.ok.above (Nat.le_of_lt I.lt)
theorem Inv.nofs(I:Inv X pins σ H s){a:Addr}(h:s.heap.objs.size<=a):a∉X.fs:=fun hb=>by
 obtain⟨_,o,ho,_⟩:=I.ok.funs.mem hb
 exact absurd (Nat.lt_of_lt_of_le (Heap.lt_size ho) (Nat.le_trans I.sz h)) (Nat.lt_irrefl _)
theorem Inv.cne(I:Inv X pins σ H s):∀ x c,X.env.cells.lookup x=some c->c≠X.env.locals:=fun x c e z=>by
 obtain⟨v,o,ho,hd⟩:=I.cell x c e
 obtain⟨m,⟨o',es,ep,ho',hd',_⟩,_⟩:=I.loc
 rw[z,ho']at ho;cases ho;rw[hd']at hd;cases hd
theorem Inv.funs(I:Inv X pins σ H s):s.heap.FunFrames X.base X.outer:=by
 have all:∀(l:List Env),(∀ b∈frs l,b∈X.fs)->X.s₀.heap.FunFrames X.base l->s.heap.FunFrames X.base l:=by
  intro l
  induction l with
  | nil=>intro _ _;trivial
  | cons env r ih=>
   intro hs hl
   obtain⟨hk,⟨L,o,hf,hn,ho,hd⟩,hr⟩:=hl
   have hL:L∈X.fs:=hs L (by unfold frs;rw[List.filterMap_cons,hf];exact List.mem_cons_self)
   obtain⟨sl,e⟩:=I.base.slot L o ho (I.ok.frf L hL) hL fun z=>I.ok.exfs L z hL
   exact⟨hk,⟨L,_,hf,hn,e,hd⟩,ih (fun b hb=>hs b (by unfold frs;rw[List.filterMap_cons,hf];exact List.mem_cons_of_mem _ hb)) hr⟩
 exact all X.outer (fun _ hb=>hb) I.ok.funs
theorem Inv.stack(I:Inv X pins σ H s):s.heap.FunFrames X.base X.stack:=by
 rcases I.ok.stk with e | ⟨e,hf⟩
 ·rw[e];exact I.funs
 ·rw[e]
  obtain⟨m,hn,_⟩:=I.loc
  refine .cons (by rw[I.ok.kind];decide) hf hn ?_ I.funs
  exact Heap.get?_none_of_le (Nat.le_trans I.ok.bsz I.ok.above)
theorem Inv.stkSub(I:Inv X pins σ H s):∀ b∈frs X.stack,b∈X.env.locals::X.fs:=fun b hb=>by
 rcases I.ok.stk with e | ⟨e,hf⟩
 ·rw[e]at hb;exact List.mem_cons_of_mem _ hb
 ·rw[e]at hb
  unfold frs at hb
  rw[List.filterMap_cons,hf]at hb
  exact hb
theorem Inv.stkFree(I:Inv X pins σ H s):∀ b∈frs X.stack,H b=none:=fun b hb=>by
 rcases List.mem_cons.mp (I.stkSub b hb) with e | hb
 ·rw[e];exact I.free
 ·obtain⟨_,o,ho,_⟩:=I.ok.funs.mem hb
  exact I.base.free b o ho (I.ok.frf b hb) fun z=>I.ok.exfs b z hb
theorem Inv.step{g':Array GenState}{t':Nat}{d':Drawn}{ch:List Addr}(I:Inv X pins σ H s)
 (hch:∀ b∈ch,(b∈X.ex∨X.s₀.heap.objs.size<=b)/\b≠X.env.locals/\(∀ x c,X.env.cells.lookup x=some c->c≠b)/\∀ p∈X.pn++pins,p.1≠b)
 (keep:∀ b o,b≠X.env.locals->b∉X.fs->b∉ch->s.heap.get? b=some o->H b=none->h'.get? b=some o)
 (slot:∀ b o,b≠X.env.locals->b∈X.fs->b∉ch->s.heap.get? b=some o->H b=none->∃ sl,h'.get? b=some { o with slots:=sl }) (free:∀ b o,b∉ch->s.heap.get? b=some o->H b=none->H' b=none)
 (there:∀ b o,b∉ch->s.heap.get? b=some o->∃ o',h'.get? b=some o')
 (tups:∀ b xs,H b=some (.tup xs)->H' b=some (.tup xs)) (frzs:∀ b o u,H b=some (.frz o u)->H' b=some (.frz o u)) (tbls:∀ b ps,H b=some (.tbl ps)->∃ more,H' b=some (.tbl (ps++more)))
 (ns:∀ m,s.heap.Ns X.env.locals m->h'.Ns X.env.locals m) (hok:HOk X.prog X.w H' h') (hg:AllBare g'):
 Inv X pins σ H' { s with heap:=h',gens:=g',drawn:=d',toks:=t' }:=by
 have neL:∀ b o,X.s₀.heap.get? b=some o->b≠X.env.locals:=fun b o e=>Nat.ne_of_lt (Nat.lt_of_lt_of_le (Heap.lt_size e) I.ok.above)
 have neC:∀ b o,X.s₀.heap.get? b=some o->b∉X.ex->b∉ch:=fun b o e hx hb=>by
  rcases(hch b hb).1 with z | z
  ·exact hx z
  ·exact absurd (Nat.lt_of_lt_of_le (Heap.lt_size e) z) (Nat.lt_irrefl _)
 have cellK:∀ x c,X.env.cells.lookup x=some c->∀ v,s.heap.IsCell c v->h'.IsCell c v:=fun x c e v ⟨o,ho,hd⟩=>by
  have nch:c∉ch:=fun z=>(hch c z).2.2.1 x c e rfl
  by_cases hc:c∈X.fs
  ·obtain⟨sl,q⟩:=slot c o (I.cne x c e) hc nch ho (I.freeC x c e)
   exact⟨_,q,hd⟩
  ·exact⟨o,keep c o (I.cne x c e) hc nch ho (I.freeC x c e),hd⟩
 refine⟨I.ok,I.os,hg,⟨fun b o e n hb hx=>?_,fun b o e n hb hx=>?_,fun b o e n hx=>?_,fun b o e hx=>?_,fun b xs e=>tups b xs (I.base.tups b xs e),fun b o xs e=>frzs b o xs (I.base.frzs b o xs e),fun b ps e=>?_⟩,?_,fun x c e=>?_,?_,fun x c e=>?_,fun p hp=>?_,hok,I.len⟩
 ·exact keep b o (neL b o e) hb (neC b o e hx) (I.base.keep b o e n hb hx) (I.base.free b o e n hx)
 ·obtain⟨sl,e1⟩:=I.base.slot b o e n hb hx
  obtain⟨sl',e2⟩:=slot b _ (neL b o e) hb (neC b o e hx) e1 (I.base.free b o e n hx)
  exact⟨sl',e2⟩
 ·obtain⟨o',e1⟩:=I.base.there b o e hx
  exact free b o' (neC b o e hx) e1 (I.base.free b o e n hx)
 ·obtain⟨o',e1⟩:=I.base.there b o e hx
  exact there b o' (neC b o e hx) e1
 ·obtain⟨m1,e1⟩:=I.base.tbls b ps e
  obtain⟨m2,e2⟩:=tbls b _ e1
  exact⟨m1++m2,by rw[e2,Array.append_assoc]⟩
 ·obtain⟨m,hn,hl⟩:=I.loc
  refine⟨m,ns m hn,fun i x v e1 e2 e3=>?_⟩
  obtain⟨u,r,l⟩:=hl i x v e1 e2 e3
  refine⟨u,r,?_⟩
  rcases l with l | ⟨k,c,e,z⟩
  ·exact .inl l
  ·exact .inr ⟨k,c,e,cellK x c e _ z⟩
 ·obtain⟨v,z⟩:=I.cell x c e
  exact⟨v,cellK x c e v z⟩
 ·obtain⟨m,⟨o,_,_,ho,_⟩,_⟩:=I.loc
  exact free _ o (fun z=>(hch _ z).2.1 rfl) ho I.free
 ·obtain⟨v,o,ho,hd⟩:=I.cell x c e
  exact free c o (fun z=>(hch c z).2.2.1 x c e rfl) ho (I.freeC x c e)
 ·obtain⟨e,n,ne,nf,d⟩:=I.pin p hp
  have nch:p.1∉ch:=fun z=>(hch p.1 z).2.2.2 p hp rfl
  exact⟨keep p.1 p.2 ne nf nch e n,free p.1 p.2 nch e n,ne,nf,d⟩
theorem Inv.un{t':Nat}(I:Inv X pins σ H s)(u:Un X.fs [] H H' s.heap h')(hok:HOk X.prog X.w H' h'):Inv X pins σ H' { s with heap:=h',toks:=t' }:=by
 obtain⟨m,⟨o,es,ep,ho,r⟩,_⟩:=id I.loc
 obtain⟨sl,hL⟩:=u.any ho I.free (by simp)
 exact I.step (g':=s.gens) (d':=s.drawn) (ch:=[]) (fun _ z=>nomatch z) (fun b o _ hb _ e n=>u.keep b o e n hb (by simp)) (fun b o _ hb _ e n=>u.slot b o e n hb (by simp)) (fun b o _ e n=>u.free b o e n (by simp)) (fun b o _ e=>u.there b o e (by simp)) u.tups u.frzs u.tbls (fun m' hm=>by
  obtain⟨o',es',ep',ho',r'⟩:=hm
  rw[ho]at ho';cases ho'
  exact⟨_,es',ep',hL,r'⟩) hok I.bare
theorem Inv.call{g':Array GenState}{t':Nat}{d':Drawn}{ch:List Addr}(I:Inv X pins σ H s)(u:Un (frs X.stack) ch H H' s.heap h')(hok:HOk X.prog X.w H' h')(hg:AllBare g')
 (hch:∀ b∈ch,(b∈X.ex∨X.s₀.heap.objs.size<=b)/\b≠X.env.locals/\(∀ x c,X.env.cells.lookup x=some c->c≠b)/\∀ p∈X.pn++pins,p.1≠b):
 Inv X pins σ H' { s with heap:=h',gens:=g',drawn:=d',toks:=t' }:=by
 obtain⟨m,⟨o,es,ep,ho,r⟩,_⟩:=id I.loc
 obtain⟨sl,hL⟩:=u.any ho I.free fun z=>(hch _ z).2.1 rfl
 exact I.step (ch:=ch) hch (fun b o hL hb hc e n=>u.keep b o e n (fun z=>(List.mem_cons.mp (I.stkSub b z)).elim hL hb) hc) (fun b o _ _ hc e n=>u.any e n hc) (fun b o hc e n=>u.free b o e n hc) (fun b o hc e=>u.there b o e hc) u.tups u.frzs u.tbls (fun m' hm=>by
  obtain⟨o',es',ep',ho',r'⟩:=hm
  rw[ho]at ho';cases ho'
  exact⟨_,es',ep',hL,r'⟩) hok hg
theorem Inv.turned{t':Nat}{it:Addr}(I:Inv X pins σ H s)(k:∀ b o,b≠it->s.heap.get? b=some o->h'.get? b=some o)(hn:H it=none)(hL:it≠X.env.locals)
 (h1:it∈X.ex∨X.s₀.heap.objs.size<=it) (h2:∀ x c,X.env.cells.lookup x=some c->c≠it) (h3:∀ p∈X.pn++pins,p.1≠it):Inv X pins σ H { s with heap:=h',toks:=t' }:=by
 have nit:∀ b u,H b=some u->b≠it:=fun b u e z=>by rw[z,hn]at e;cases e
 refine I.step (g':=s.gens) (d':=s.drawn) (ch:=[it]) (fun b hb=>?_) (fun b o _ _ hc e _=>k b o (fun z=>hc (by simp[z])) e) (fun b o _ _ hc e _=>⟨o.slots,k b o (fun z=>hc (by simp[z])) e⟩) (fun _ _ _ _ n=>n)
  (fun b o hc e=>⟨o,k b o (fun z=>hc (by simp[z])) e⟩) (fun _ _ e=>e) (fun _ _ _ e=>e) (fun b ps e=>⟨#[],by rw[e];simp⟩) (fun m hm=>?_) (fun b u e=>?_) I.bare
 ·have e:b=it:=by simpa using hb
  subst e
  exact⟨h1,hL,h2,h3⟩
 ·obtain⟨o,es,ep,ho,r⟩:=hm
  exact⟨o,es,ep,k _ o (Ne.symm hL) ho,r⟩
 ·refine(I.hok b u e).stay (fun c v hc q=>k c v ?_ q) (fun _ q=>q) fun _ _ q=>q
  rcases hc with z | z
  ·rw[z];exact nit b u e
  ·exact nit c _ z
theorem Inv.tok(I:Inv X pins σ H s)(t:Nat):Inv X pins σ H { s with toks:=t }:=I.un (h':=s.heap) (t':=t) Un.refl I.hok
theorem Inv.kept{t':Nat}(I:Inv X pins σ H s)(k:∀ b u,s.heap.get? b=some u->h'.get? b=some u):Inv X pins σ H { s with heap:=h',toks:=t' }:=I.un (Un.kept k) (I.hok.kept k)
theorem Inv.laid{a:Addr}{o:HO}{t':Nat}(I:Inv X pins σ H s)(k:∀ b u,s.heap.get? b=some u->h'.get? b=some u)(hp:s.heap.objs.size<=a)(new:ObjOk X.prog X.w (upd H a o) h' a o):
 Inv X pins σ (upd H a o) { s with heap:=h',toks:=t' }:=I.un (Un.laid k hp (I.hok.fresh hp)) (I.hok.laid k hp new)
theorem Inv.write{x e:Addr}{o:HO}{t':Nat}(I:Inv X pins σ H s)(mu:Mut (H x))(he:e=x∨H e=some (.own x))(k:∀ b u,b≠e->s.heap.get? b=some u->h'.get? b=some u)(heo:∃ u,h'.get? e=some u)
 (new:ObjOk X.prog X.w (upd H x o) h' x o):Inv X pins σ (upd H x o) { s with heap:=h',toks:=t' }:=I.un (Un.write mu he k heo) (I.hok.write mu he k heo new)
theorem Inv.pins_of{pins':List (Addr×Obj)}(I:Inv X pins σ H s)(h:∀ p∈pins',s.heap.get? p.1=some p.2/\H p.1=none/\p.1≠X.env.locals/\p.1∉X.fs/\∀ v,p.2.data≠.cell v):Inv X pins' σ H s:=
 ⟨I.ok,I.os,I.bare,I.base,I.loc,I.cell,I.free,I.freeC,fun p hp=>(List.mem_append.mp hp).elim (fun z=>I.pin p (List.mem_append_left _ z)) (h p),I.hok,I.len⟩
theorem QEj{N:List Str}(hN:N.Nodup){i j:Nat}{x:Str}(a:N[i]?=some x)(b:N[j]?=some x):i=j:=by
 obtain⟨h1,e1⟩:=List.getElem?_eq_some_iff.mp a
 obtain⟨h2,e2⟩:=List.getElem?_eq_some_iff.mp b
 exact(List.getElem_inj hN).mp (e1.trans e2.symm)
theorem Qy5{M:Model}{A:Around}{E:Value->Shared->Prop}{i:Nat}{x:Str}{v:V}{u:Value}{Q:Unit->Shared->Prop}(I:Inv X pins σ H s)(hN:X.N.Nodup)(hi:X.N[i]?=some x)(hx:Loc X.env.scope x)(r:RelV v u)
 (h:∀ s',Inv X pins (σ.set i (some v)) H s'->(∃ a,Heap.SameBut a s.heap s'.heap/\(a=X.env.locals∨X.env.cells.lookup x=some a))->Q () s') (hf:X.fn x=true∨X.env.scope.names.lookup x=some .local:=by first | exact .inl rfl | exact .inr rfl | assumption):wpAny M A (storeName X.env x u) Q E s:=by
 obtain⟨m,hn,hl⟩:=id I.loc
 have hcls:(X.env.scope.kind == .class||(X.env.scope.kind == .module&&X.env.locals != X.env.globals))=false:=by rw[I.ok.kind];rfl
 have hiσ:i<σ.length:=by rw[I.len];exact(List.getElem?_eq_some_iff.mp hi).1
 have cne:=I.cne
 have tracked:∀{a:Addr}{h':Heap},(∃ o,s.heap.get? a=some o/\H a=none)->Heap.SameBut a s.heap h'->HOk X.prog X.w H h':=fun {a h'} ha hs b ob e=>by
  obtain⟨_,_,hfree⟩:=ha
  refine(I.hok b ob e).stay (fun c w' hc q=>(hs.2 c ?_).trans q) (fun _ q=>q) fun _ _ q=>q
  rintro rfl
  rcases hc with rfl | hc
  ·rw[hfree]at e;cases e
  ·rw[hfree]at hc;cases hc
 rcases hx with hk | hk
 ·refine wpAny_storeName_local hk hn (fun h' hn' hs=>?_) hcls
  obtain⟨oL,_,_,hoL,_⟩:=id hn
  refine h _ ⟨I.ok,I.os,I.bare,⟨fun b o e n hb hx=>?_,fun b o e n hb hx=>?_,I.base.free,fun b o e hx=>?_,I.base.tups,I.base.frzs,I.base.tbls⟩,⟨_,hn',fun j y v' e1 e2 e3=>?_⟩,fun y c e=>?_,I.free,I.freeC,fun p hp=>?_,tracked ⟨oL,hoL,I.free⟩ hs,by simpa using I.len⟩ ⟨_,hs,.inl rfl⟩
  ·exact(hs.2 b (Nat.ne_of_lt (Nat.lt_of_lt_of_le (Heap.lt_size e) I.ok.above))).trans (I.base.keep b o e n hb hx)
  ·obtain⟨sl,e1⟩:=I.base.slot b o e n hb hx
   exact⟨sl,(hs.2 b (Nat.ne_of_lt (Nat.lt_of_lt_of_le (Heap.lt_size e) I.ok.above))).trans e1⟩
  ·obtain⟨o',e1⟩:=I.base.there b o e hx
   exact⟨o',(hs.2 b (Nat.ne_of_lt (Nat.lt_of_lt_of_le (Heap.lt_size e) I.ok.above))).trans e1⟩
  ·by_cases hj:j=i
   ·subst hj
    rw[hi]at e1;cases e1
    rw[List.getElem?_set_self hiσ]at e2
    cases e2
    exact⟨u,r,.inl ⟨hk,by simp⟩⟩
   ·rw[List.getElem?_set_ne (Ne.symm hj)]at e2
    obtain⟨u',r',q⟩:=hl j y v' e1 e2 e3
    refine⟨u',r',?_⟩
    rcases q with⟨k,e⟩ | ⟨k,c,e,z⟩
    ·refine .inl ⟨k,?_⟩
     have:y≠x:=fun e=>hj (QEj hN e1 (e ▸ hi))
     simp[this,e]
    ·exact .inr ⟨k,c,e,z.sameBut hs (cne y c e)⟩
  ·obtain⟨w',z⟩:=I.cell y c e
   exact⟨w',z.sameBut hs (cne y c e)⟩
  ·obtain⟨e,n,ne,nf,d⟩:=I.pin p hp
   exact⟨(hs.2 p.1 ne).trans e,n,ne,nf,d⟩
 ·have hfn:X.fn x=true:=by
   rcases hf with z | z
   ·exact z
   ·rw[z]at hk;cases hk
  obtain⟨c,hc⟩:=I.ok.has x (.inl hk)
  obtain⟨w',z⟩:=I.cell x c hc
  refine wpAny_storeName_cell I.ok.kind hk hc z (fun h' hc' hs=>?_)
  obtain⟨oc,hoc,hocd⟩:=id z
  refine h { s with heap:=h' } ⟨I.ok,I.os,I.bare,⟨fun b o e n hb hx=>?_,fun b o e n hb hx=>?_,I.base.free,fun b o e hx=>?_,I.base.tups,I.base.frzs,I.base.tbls⟩,⟨m,hn.sameBut hs (Ne.symm (cne x c hc)),fun j y v' e1 e2 e3=>?_⟩,fun y c' e=>?_,I.free,I.freeC,fun p hp=>?_,tracked ⟨oc,hoc,I.freeC x c hc⟩ hs,by simpa using I.len⟩ ⟨c,hs,.inr hc⟩
  ·exact(hs.2 b (Nat.ne_of_lt (Nat.lt_of_lt_of_le (Heap.lt_size e) (I.ok.cab x c hfn hc)))).trans (I.base.keep b o e n hb hx)
  ·obtain⟨sl,e1⟩:=I.base.slot b o e n hb hx
   exact⟨sl,(hs.2 b (Nat.ne_of_lt (Nat.lt_of_lt_of_le (Heap.lt_size e) (I.ok.cab x c hfn hc)))).trans e1⟩
  ·obtain⟨o',e1⟩:=I.base.there b o e hx
   exact⟨o',(hs.2 b (Nat.ne_of_lt (Nat.lt_of_lt_of_le (Heap.lt_size e) (I.ok.cab x c hfn hc)))).trans e1⟩
  ·by_cases hj:j=i
   ·subst hj
    rw[hi]at e1;cases e1
    rw[List.getElem?_set_self hiσ]at e2
    cases e2
    exact⟨u,r,.inr ⟨.inl hk,c,hc,hc'⟩⟩
   ·rw[List.getElem?_set_ne (Ne.symm hj)]at e2
    obtain⟨u',r',q⟩:=hl j y v' e1 e2 e3
    refine⟨u',r',?_⟩
    rcases q with q | ⟨k,c',e,z'⟩
    ·exact .inl q
    ·refine .inr ⟨k,c',e,z'.sameBut hs ?_⟩
     rintro rfl
     exact hj (QEj hN e1 (I.ok.inj _ _ _ e hc ▸ hi))
  ·by_cases hcc:c'=c
   ·subst hcc;exact⟨_,hc'⟩
   ·obtain⟨w2,z2⟩:=I.cell y c' e
    exact⟨w2,z2.sameBut hs hcc⟩
  ·obtain⟨e,n,ne,nf,d⟩:=I.pin p hp
   refine⟨(hs.2 p.1 ?_).trans e,n,ne,nf,d⟩
   intro q
   rw[q,hoc]at e
   have q':oc=p.2:=Option.some.inj e
   exact d w' (by rw[← q'];exact hocd)
theorem QEk{M:Model}{A:Around}{E:Value->Shared->Prop}{i:Nat}{x:Str}{v:V}{u:Value}{Q:Unit->Shared->Prop}(I:Inv X pins σ H s)(hN:X.N.Nodup)(hi:X.N[i]?=some x)(hx:Loc X.env.scope x)(r:RelV v u)
 (h:∀ s',Inv X pins (σ.set i (some v)) H s'->Q () s') (hf:X.fn x=true∨X.env.scope.names.lookup x=some .local:=by first | exact .inl rfl | exact .inr rfl | assumption):wpAny M A (storeName X.env x u) Q E s:=
 Qy5 I hN hi hx r (fun s' I' _=>h s' I') hf
theorem Inv.call'{s':Shared}{ch:List Addr}(I:Inv X pins σ H s)(ho:s'.os=s.os)(u:Un (frs X.stack) ch H H' s.heap s'.heap)(hok:HOk X.prog X.w H' s'.heap)(hg:AllBare s'.gens)
 (hch:∀ b∈ch,(b∈X.ex∨X.s₀.heap.objs.size<=b)/\b≠X.env.locals/\(∀ x c,X.env.cells.lookup x=some c->c≠b)/\∀ p∈X.pn++pins,p.1≠b):Inv X pins σ H' s':=by
 obtain⟨h',g',d',t',o'⟩:=s'
 have e:o'=s.os:=ho
 subst e
 exact I.call (g':=g') (t':=t') (d':=d') u hok hg hch
end
abbrev XK:=Value->Option Addr->Hp->Prop
abbrev St:=List (Option V)
abbrev VK:=V->Hp->Prop
abbrev TE:=St->Hp->VK->Prop
abbrev TT:=St->Hp->(Bool->Hp->Prop)->Prop
abbrev TA:=St->Hp->(List V->Hp->Prop)->Prop
structure Ends where
 nx:St->Hp->Prop
 rt:VK
 bk:St->Hp->Prop:=fun _ _=>False
 ct:St->Hp->Prop:=fun _ _=>False
abbrev TS:=Ends->St->Hp->Prop
def EP(X:Cx)(pins:List (Addr×Obj))(σ:St)(Q:VK)(u:Value)(s':Shared):Prop:=∃ v H',Inv X pins σ H' s'/\RelV v u/\Q v H'
def TP(X:Cx)(pins:List (Addr×Obj))(σ:St)(Q:Bool->Hp->Prop)(b:Bool)(s':Shared):Prop:=∃ H',Inv X pins σ H' s'/\Q b H'
def AP(X:Cx)(pins:List (Addr×Obj))(σ:St)(Q:List V->Hp->Prop)(us:List Value)(s':Shared):Prop:=∃ vs H',Inv X pins σ H' s'/\Vals vs us/\Q vs H'
def SP(X:Cx)(pins:List (Addr×Obj))(D:Ends)(f:Flow)(s':Shared):Prop:=
 match f with
 | .next=>∃ σ' H',Inv X pins σ' H' s'/\D.nx σ' H'
 | .brk=>∃ σ' H',Inv X pins σ' H' s'/\D.bk σ' H'
 | .cont=>∃ σ' H',Inv X pins σ' H' s'/\D.ct σ' H'
 | .ret u=>∃ v σ' H',Inv X pins σ' H' s'/\RelV v u/\D.rt v H'
def PE(X:Cx)(e:Expr)(t:TE):Prop:=
 ∀(pins:List (Addr×Obj))(s:Shared)(σ:St)(H:Hp)(Q:VK),Inv X pins σ H s->t σ H Q->wpAny (model X.prog X.w) X.A (eval e X.env) (EP X pins σ Q) X.xe s
def PT(X:Cx)(e:Expr)(t:TT):Prop:=
 ∀(pins:List (Addr×Obj))(s:Shared)(σ:St)(H:Hp)(Q:Bool->Hp->Prop),Inv X pins σ H s->t σ H Q->wpAny (model X.prog X.w) X.A (isTrue e X.env (eval e X.env)) (TP X pins σ Q) X.xe s
def PW(X:Cx)(e:Expr)(t:TT):Prop:=
 ∀(whole:Sem Value)(pins:List (Addr×Obj))(s:Shared)(σ:St)(H:Hp)(Q:Bool->Hp->Prop),Inv X pins σ H s->t σ H Q->wpAny (model X.prog X.w) X.A (isTrue e X.env whole) (TP X pins σ Q) X.xe s
theorem PW.pt{X:Cx}{e:Expr}{t:TT}(h:PW X e t):PT X e t:=h _
def PA(X:Cx)(es:List Expr)(t:TA):Prop:=
 ∀(pos:Pos)(pins:List (Addr×Obj))(s:Shared)(σ:St)(H:Hp)(Q:List V->Hp->Prop),Inv X pins σ H s->t σ H Q->wpAny (model X.prog X.w) X.A (spliced (backTo pos (starEach es X.env))) (AP X pins σ Q) X.xe s
def PS(X:Cx)(st:Stmt)(t:TS):Prop:=
 ∀(pins:List (Addr×Obj))(s:Shared)(σ:St)(H:Hp)(D:Ends),Inv X pins σ H s->t D σ H->wpAny (model X.prog X.w) X.A (exec st X.env) (SP X pins D) X.xe s
def PSs(X:Cx)(st:List Stmt)(t:TS):Prop:=
 ∀(pins:List (Addr×Obj))(s:Shared)(σ:St)(H:Hp)(D:Ends),Inv X pins σ H s->t D σ H->wpAny (model X.prog X.w) X.A (execs st X.env) (SP X pins D) X.xe s
theorem thn{α:Type}{t:Sem α}{Q Q':α->Shared->Prop}{M:Model}{A:Around}{E:Value->Shared->Prop}{s:Shared}(h:wpAny M A t Q E s)(hQ:∀ a s,Q a s->Q' a s):wpAny M A t Q' E s:=wpAny_mono h hQ fun _ _ x=>x
end L2
namespace L2
open PySem PySem.Spec PyProof.Rows
section
variable{X:Cx}
def tVar(i:Nat):TE:=fun σ H Q=>∃ v,σ[i]?=some (some v)/\Q v H
def tC(v:V):TE:=fun _ H Q=>Q v H
theorem Qda{i:Nat}{x:Str}{pos:Pos}(hN:X.N[i]?=some x)(hv:Vis X.env.scope x)(hd:(x == ("__debug__":Str))=false:=by decide)(hcd:(x == ("__classdict__":Str))=false:=by decide):PE X (.Name x pos) (tVar i):=by
 intro pins s σ H Q I h
 obtain⟨v,e,h⟩:=h
 obtain⟨m,hn,hl⟩:=I.loc
 obtain⟨u,r,l⟩:=hl i x v hN e hv
 have fin:EP X pins σ Q u s:=⟨v,H,I,r,h⟩
 rcases l with⟨hk,hm⟩ | ⟨hk,c,hc,hcell⟩
 ·exact wpAny_Name (wpAny_loadName_local I.ok.kind hk hn hm fin) hd
 ·rcases hk with hk | hk
  ·exact wpAny_Name (wpAny_loadName_cell I.ok.kind hk hc hcell fin) hd
  ·exact wpAny_Name (wpAny_loadName_free I.ok.kind hk hc hcell fin hcd) hd
theorem QKz{i j pos}:PE X (.Constant (.int i) j pos) (tC (.int i)):=fun _ _ _ H _ I h=>wpAny_Constant_int ⟨.int i,H,I.tok _,⟨_,rfl⟩,h⟩
theorem pe_bl{b j pos}:PE X (.Constant (.bool b) j pos) (tC (.bl b)):=fun _ _ _ H _ I h=>Constant_bool ⟨.bl b,H,I,rfl,h⟩
theorem QOw{j pos}:PE X (.Constant .none j pos) (tC .non):=fun _ _ _ H _ I h=>Constant_none ⟨.non,H,I,rfl,h⟩
theorem QOI{x j pos}:PE X (.Constant (.str x) j pos) (tC (.str x)):=fun _ _ _ H _ I h=>Calls.Constant_str ⟨.str x,H,I.tok _,⟨_,rfl⟩,h⟩
def Gl(X:Cx)(x:Str):Prop:=X.env.kindOf x=some .globalImplicit
theorem Qyx{E:Value->Shared->Prop}{pins:List (Addr×Obj)}{s:Shared}{σ:St}{H:Hp}{x:Str}{u:Value}{pos:Pos}{Q:Value->Shared->Prop}(I:Inv X pins σ H s)(hg:Gl X x)(hm:X.mg x=some u)(h:Q u s)
 (hd:(x == ("__debug__":Str))=false:=by decide):wpAny (model X.prog X.w) X.A (eval (.Name x pos) X.env) Q E s:=
 Calls.Name_function_global I.ok.kind hg (Calls.loadGlobal_global (by rw[I.ok.glob];exact I.mod.glob.keeps I.bk) hm h) hd
theorem Qi1{E:Value->Shared->Prop}{pins:List (Addr×Obj)}{s:Shared}{σ:St}{H:Hp}{x:Str}{u:Value}{pos:Pos}{Q:Value->Shared->Prop}(I:Inv X pins σ H s)(hg:Gl X x)(hm:X.mg x=none)(hv:bootBuiltins x=some u)(h:Q u s)
 (hn:x≠"__name__":=by decide) (hd:(x == ("__debug__":Str))=false:=by decide):wpAny (model X.prog X.w) X.A (eval (.Name x pos) X.env) Q E s:=by
 obtain⟨mb,h1,h2⟩:=I.mod.blt
 exact Calls.Name_function_global I.ok.kind hg (Calls.loadGlobal_builtin (by rw[I.ok.glob];exact I.mod.glob.keeps I.bk) hm (by rw[I.ok.blt];exact h1.keeps I.bk) ((h2 x hn).trans hv) h) hd
theorem Qox{x:Str}{v:V}{u:Value}{pos:Pos}(hg:Gl X x)(hm:X.mg x=some u)(r:RelV v u)(hd:(x == ("__debug__":Str))=false:=by decide):PE X (.Name x pos) (tC v):=
 fun _ _ _ H _ I h=>Qyx I hg hm ⟨v,H,I,r,h⟩ hd
theorem QM9{x:Str}{v:V}{u:Value}{pos:Pos}(hg:Gl X x)(hm:X.mg x=none)(hv:bootBuiltins x=some u)(r:RelV v u)(hn:x≠"__name__":=by decide)(hd:(x == ("__debug__":Str))=false:=by decide):PE X (.Name x pos) (tC v):=
 fun _ _ _ H _ I h=>Qi1 I hg hm hv ⟨v,H,I,r,h⟩ hn hd
variable{a b:Expr}{ta tb:TE}{pos:Pos}
def tB(t:TE):TT:=fun σ H Q=>t σ H fun x H1=>∃ c,x=.bl c/\Q c H1
theorem QPc{e:Expr}{t:TE}(h:PE X e t)(he:∀ whole,isTrue e X.env whole=(do let v ← whole;standAt e.pos;holding [v] (truthy v)):=by intro _;rfl):PT X e (tB t):=by
 intro pins s σ H Q I hw
 refine isTrue_plain (thn (h pins s σ H _ I hw) fun v s1 ⟨x,H1,I1,r1,q1⟩=>?_) (he _)
 obtain⟨d,rfl,q⟩:=q1
 cases r1
 exact wpAny_truthy_bool ⟨H1,I1,q⟩
variable{tA tB':TT}{rest:List Expr}
def tAnd(t u:TT):TT:=fun σ H Q=>t σ H fun c H1=>if c=true then u σ H1 Q else Q false H1
def tOr(t u:TT):TT:=fun σ H Q=>t σ H fun c H1=>if c=true then Q true H1 else u σ H1 Q
def tNot(t:TT):TT:=fun σ H Q=>t σ H fun c H1=>Q (!c) H1
theorem QNB(ha:PT X a tA):PW X (.BoolOp .And [a] pos) tA:=by
 intro wh pins s σ H Q I h
 refine isTrue_and (thn (ha pins s σ H Q I h) fun c s1 e=>?_)
 cases c with
 | true=>exact isTrue_and_nil e
 | false=>exact e
theorem QOd(ha:PT X a tA):PW X (.BoolOp .Or [a] pos) tA:=by
 intro wh pins s σ H Q I h
 refine isTrue_or (thn (ha pins s σ H Q I h) fun c s1 e=>?_)
 cases c with
 | false=>exact isTrue_or_nil e
 | true=>exact e
theorem QN0(ha:PT X a tA)(hb:PW X (.BoolOp .And (b::rest) pos) tB'):PW X (.BoolOp .And (a::b::rest) pos) (tAnd tA tB'):=by
 intro wh pins s σ H Q I h
 refine isTrue_and (thn (ha pins s σ H _ I h) fun c s1 ⟨H1,I1,q1⟩=>?_)
 cases c with
 | true=>exact hb wh pins s1 σ H1 Q I1 q1
 | false=>exact⟨H1,I1,q1⟩
theorem pw_or(ha:PT X a tA)(hb:PW X (.BoolOp .Or (b::rest) pos) tB'):PW X (.BoolOp .Or (a::b::rest) pos) (tOr tA tB'):=by
 intro wh pins s σ H Q I h
 refine isTrue_or (thn (ha pins s σ H _ I h) fun c s1 ⟨H1,I1,q1⟩=>?_)
 cases c with
 | true=>exact⟨H1,I1,q1⟩
 | false=>exact hb wh pins s1 σ H1 Q I1 q1
theorem QPl(ha:PT X a tA):PT X (.UnaryOp .Not a pos) (tNot tA):=by
 intro pins s σ H Q I h
 exact isTrue_not (ha pins s σ H (fun c H1=>Q (!c) H1) I h)
def tAndV(ta tb:TE):TE:=fun σ H Q=>ta σ H fun x H1=>∃ c,x=.bl c/\if c=true then tb σ H1 Q else Q (.bl false) H1
def tNotV(ta:TE):TE:=fun σ H Q=>ta σ H fun x H1=>∃ c,x=.bl c/\Q (.bl (!c)) H1
theorem QPi{op}{t:TE}(h:PE X a t):PE X (.BoolOp op [a] pos) t:=fun pins s σ H Q I hw=>BoolOp_one (h pins s σ H Q I hw)
theorem QOJ(ha:PE X a ta)(hb:PE X (.BoolOp .And (b::rest) pos) tb):PE X (.BoolOp .And (a::b::rest) pos) (tAndV ta tb):=by
 intro pins s σ H Q I h
 refine BoolOp_and (thn (ha pins s σ H _ I h) fun v s1 ⟨x,H1,I1,r1,q1⟩=>?_)
 obtain⟨c,rfl,q1⟩:=q1
 cases r1
 refine wpAny_truthy_bool ?_
 cases c with
 | true=>exact hb pins s1 σ H1 Q I1 q1
 | false=>exact⟨.bl false,H1,I1,rfl,q1⟩
theorem QOf(ha:PE X a ta):PE X (.UnaryOp .Not a pos) (tNotV ta):=by
 intro pins s σ H Q I h
 refine UnaryOp_ (thn (ha pins s σ H _ I h) fun v s1 ⟨x,H1,I1,r1,q1⟩=>?_)
 obtain⟨c,rfl,q1⟩:=q1
 cases r1
 exact not_of (wpAny_truthy_bool ⟨.bl (!c),H1,I1,rfl,q1⟩)
def tIf(t:TT)(ta tb:TE):TE:=fun σ H Q=>t σ H fun c H1=>if c=true then ta σ H1 Q else tb σ H1 Q
theorem QMN{c:Expr}(hc:PT X c tA)(ha:PE X a ta)(hb:PE X b tb):PE X (.IfExp c a b pos) (tIf tA ta tb):=by
 intro pins s σ H Q I h
 refine wpAny_IfExp (thn (hc pins s σ H _ I h) fun d s1 ⟨H1,I1,q1⟩=>?_)
 cases d with
 | true=>exact ha pins s1 σ H1 Q I1 q1
 | false=>exact hb pins s1 σ H1 Q I1 q1
end
end L2
namespace L2
open PySem PySem.Spec PyProof.Rows
def SqL(K:PySem.W.Frag)(H:Hp)(a:Addr)(xs:List V):Prop:=
 Rd H a (.lst xs)∨
  ∃(o:Obj)(its:Array Value)(n:Nat),K.lookup a=some o/\o.cls=.type "list"/\o.dict=none/\o.data=.seq its n/\its.size<=sizeLine/\Vals xs its.toList
def SqT(K:PySem.W.Frag)(H:Hp)(a:Addr)(xs:List V):Prop:=
 Rd H a (.tup xs)∨
  ∃(o:Obj)(its:Array Value)(n:Nat),K.lookup a=some o/\o.cls=.type "tuple"/\o.data=.seq its n/\its.size<=sizeLine/\Vals xs its.toList
def absV:Value->Option V
 | .none=>some .non
 | .bool b=>some (.bl b)
 | .int i _=>some (.int i)
 | .str x _=>some (.str x)
 | .bytes b _=>some (.byt b)
 | .float b _=>some (.flt b)
 | .ref a=>some (.ref a)
 | .type n=>some (.ty n)
 | _=>none
theorem RelV.abs{x:V}{u:Value}(r:RelV x u):absV u=some x:=by
 cases x with
 | non=>cases r;rfl
 | bl _=>cases r;rfl
 | int _=>obtain⟨t,rfl⟩:=r;rfl
 | str _=>obtain⟨t,rfl⟩:=r;rfl
 | byt _=>obtain⟨t,rfl⟩:=r;rfl
 | flt _=>obtain⟨t,rfl⟩:=r;rfl
 | ref _=>cases r;rfl
 | ty _=>cases r;rfl
theorem RelV.inj{x y:V}{u:Value}(r:RelV x u)(q:RelV y u):x=y:=Option.some.inj (r.abs.symm.trans q.abs)
theorem Vals.inj:∀{xs ys:List V}{us:List Value},Vals xs us->Vals ys us->xs=ys
 | _,_,_,.nil,.nil=>rfl
 | _,_,_,.cons r t,.cons r' t'=>by rw[r.inj r',Vals.inj t t']
section
variable{X:Cx}{pins:List (Addr×Obj)}{σ:St}{H:Hp}{s:Shared}{a:Addr}{xs ys:List V}
theorem SqL.of{K:PySem.W.Frag}(h:H a=some (.lst xs)):SqL K H a xs:=.inl (.inl h)
theorem SqT.of{K:PySem.W.Frag}(h:H a=some (.tup xs)):SqT K H a xs:=.inl (.inl h)
theorem Inv.list(I:Inv X pins σ H s)(h:SqL X.K H a xs):∃ its:List Value,Vals xs its/\PlainL s.heap a its.toArray/\xs.length<=sizeLine:=by
 rcases h with h | ⟨o,its,n,hk,hc,hd,hs,hz,r⟩
 ·obtain⟨z,its,n,r,e⟩:=h.ok I.hok
  exact⟨its,r,⟨_,n,e,rfl,rfl,rfl⟩,z⟩
 ·refine⟨its.toList,r,⟨o,n,I.kIn a o hk,hc,hd,by simpa using hs⟩,?_⟩
  have e:=r.length
  simp only[Array.length_toList]at e
  omega
theorem Inv.tuple(I:Inv X pins σ H s)(h:SqT X.K H a xs):∃ its:List Value,Vals xs its/\IsTup s.heap a its.toArray/\xs.length<=sizeLine:=by
 rcases h with h | ⟨o,its,n,hk,hc,hs,hz,r⟩
 ·obtain⟨z,its,r,p⟩:=h.ok I.hok
  exact⟨its,r,p,z⟩
 ·refine⟨its.toList,r,⟨o,I.kIn a o hk,hc,n,by simpa using hs⟩,?_⟩
  have e:=r.length
  simp only[Array.length_toList]at e
  omega
theorem Inv.list_inj(I:Inv X pins σ H s)(h:SqL X.K H a xs)(h':SqL X.K H a ys):xs=ys:=by
 obtain⟨its,r,⟨o,n,e,_,_,d⟩,_⟩:=I.list h
 obtain⟨its',r',⟨o',n',e',_,_,d'⟩,_⟩:=I.list h'
 rw[e]at e';cases e'
 rw[d]at d'
 injection d' with d1 _
 have:its=its':=by simpa using congrArg Array.toList d1
 subst this
 exact r.inj r'
theorem Inv.tuple_inj(I:Inv X pins σ H s)(h:SqT X.K H a xs)(h':SqT X.K H a ys):xs=ys:=by
 obtain⟨its,r,⟨o,e,_,n,d⟩,_⟩:=I.tuple h
 obtain⟨its',r',⟨o',e',_,n',d'⟩,_⟩:=I.tuple h'
 rw[e]at e';cases e'
 rw[d]at d'
 injection d' with d1 _
 have:its=its':=by simpa using congrArg Array.toList d1
 subst this
 exact r.inj r'
end
abbrev Cx.wish(X:Cx)(E:Value->Shared->Prop):Cx:={ X with xe:=E }
abbrev Cx.nox(X:Cx):Cx:=X.wish fun _ _=>False
theorem Cx.Ok.wish{X:Cx}(ok:X.Ok)(E:Value->Shared->Prop):(X.wish E).Ok:=
 ⟨ok.mod,ok.kind,ok.glob,ok.blt,ok.above,ok.inj,ok.has,ok.cab,ok.hd,ok.frames,ok.stk,ok.exf,ok.bs,ok.bsz,ok.noex,ok.exfs,ok.funs,ok.frf⟩
theorem Cx.Ok.unwish{X:Cx}{E:Value->Shared->Prop}(ok:(X.wish E).Ok):X.Ok:=
 ⟨ok.mod,ok.kind,ok.glob,ok.blt,ok.above,ok.inj,ok.has,ok.cab,ok.hd,ok.frames,ok.stk,ok.exf,ok.bs,ok.bsz,ok.noex,ok.exfs,ok.funs,ok.frf⟩
section
variable{X:Cx}{pins:List (Addr×Obj)}{σ:St}{H:Hp}{s:Shared}{E:Value->Shared->Prop}
theorem Inv.wish(I:Inv X pins σ H s)(E:Value->Shared->Prop):Inv (X.wish E) pins σ H s:=⟨I.ok.wish E,I.os,I.bare,I.base,I.loc,I.cell,I.free,I.freeC,I.pin,I.hok,I.len⟩
theorem Inv.unwish(I:Inv (X.wish E) pins σ H s):Inv X pins σ H s:=⟨I.ok.unwish,I.os,I.bare,I.base,I.loc,I.cell,I.free,I.freeC,I.pin,I.hok,I.len⟩
theorem SP.unwish{D:Ends}{f:Flow}{s':Shared}(h:SP (X.wish E) pins D f s'):SP X pins D f s':=by
 cases f with
 | next=>obtain⟨σ',H',I,q⟩:=h;exact⟨σ',H',I.unwish,q⟩
 | brk=>obtain⟨σ',H',I,q⟩:=h;exact⟨σ',H',I.unwish,q⟩
 | cont=>obtain⟨σ',H',I,q⟩:=h;exact⟨σ',H',I.unwish,q⟩
 | ret u=>obtain⟨v,σ',H',I,r,q⟩:=h;exact⟨v,σ',H',I.unwish,r,q⟩
theorem PE.nox{e:Expr}{t:TE}(h:PE X.nox e t):PE X e t:=fun pins s σ H Q I hw=>
 wpAny_mono (h pins s σ H Q (I.wish _) hw) (fun _ _ ⟨v,H',I',r,q⟩=>⟨v,H',I'.unwish,r,q⟩) fun _ _ z=>False.elim z
theorem PT.nox{e:Expr}{t:TT}(h:PT X.nox e t):PT X e t:=fun pins s σ H Q I hw=>
 wpAny_mono (h pins s σ H Q (I.wish _) hw) (fun _ _ ⟨H',I',q⟩=>⟨H',I'.unwish,q⟩) fun _ _ z=>False.elim z
theorem PSs.nox{st:List Stmt}{t:TS}(h:PSs X.nox st t):PSs X st t:=fun pins s σ H D I hw=>
 wpAny_mono (h pins s σ H D (I.wish _) hw) (fun _ _ q=>q.unwish) fun _ _ z=>False.elim z
end
section
variable{X:Cx}{st:Stmt}{rest:List Stmt}{t u:TS}{e:Expr}{te:TE}{pos:Pos}
def tNext:TS:=fun D σ H=>D.nx σ H
def tSeq(t u:TS):TS:=fun D σ H=>t { D with nx:=u D } σ H
theorem QHu:PSs X [] tNext:=fun _ _ σ H _ I h=>wpAny_execs_nil ⟨σ,H,I,h⟩
theorem Qly(h1:PS X st t)(h2:PSs X rest u):PSs X (st::rest) (tSeq t u):=by
 intro pins s σ H D I h
 refine wpAny_execs_cons (thn (h1 pins s σ H { D with nx:=u D } I h) fun f s1 q=>?_)
 cases f with
 | next=>
  obtain⟨σ',H',I',q⟩:=q
  exact h2 pins s1 σ' H' D I' q
 | ret v=>exact q
 | brk=>exact q
 | cont=>exact q
theorem Qxv(h1:PS X st t):PSs X [st] t:=by
 intro pins s σ H D I h
 refine wpAny_execs_cons (thn (h1 pins s σ H D I h) fun f s1 q=>?_)
 cases f with
 | next=>exact wpAny_execs_nil q
 | ret v=>exact q
 | brk=>exact q
 | cont=>exact q
theorem Inv.quiet{pins:List (Addr×Obj)}{σ:St}{H:Hp}{s:Shared}(I:Inv X pins σ H s):interactive X.env=false:=by simp[interactive,I.ok.kind]
def tDrop(te:TE):TS:=fun D σ H=>te σ H fun _ H1=>D.nx σ H1
theorem Qti(he:PE X e te)(hs:swapsWith e none pos.line X.env=pure false:=by rfl):PS X (.Expr e pos) (tDrop te):=by
 intro pins s σ H D I h
 exact wpAny_Expr_any (thn (he pins s σ H _ I h) fun v s1 ⟨x,H1,I1,r1,q1⟩=>⟨σ,H1,I1,q1⟩) I.quiet hs
def tRet(te:TE):TS:=fun D σ H=>te σ H D.rt
theorem Qwl(he:PE X e te):PS X (.Return (some e) pos) (tRet te):=by
 intro pins s σ H D I h
 exact wpAny_Return_some (thn (he pins s σ H _ I h) fun v s1 ⟨x,H1,I1,r1,q1⟩=>⟨x,σ,H1,I1,r1,q1⟩)
def tIfS(c:TT)(t u:TS):TS:=fun D σ H=>c σ H fun b H1=>if b=true then t D σ H1 else u D σ H1
theorem ps_if{c:Expr}{a b:List Stmt}{tc:TT}(hc:PT X c tc)(ha:PSs X a t)(hb:PSs X b u):PS X (.If c a b pos) (tIfS tc t u):=by
 intro pins s σ H D I h
 refine wpAny_If (thn (hc pins s σ H _ I h) fun d s1 ⟨H1,I1,q1⟩=>?_)
 cases d with
 | true=>exact ha pins s1 σ H1 D I1 q1
 | false=>exact hb pins s1 σ H1 D I1 q1
def QOQ:TS:=fun _ _ _=>False
theorem QMA:PS X st QOQ:=fun _ _ _ _ _ _ h=>h.elim
end
abbrev TG:=V->St->Hp->(St->Hp->Prop)->Prop
abbrev TGs:=List V->St->Hp->(St->Hp->Prop)->Prop
def PG(X:Cx)(target:Expr)(t:TG):Prop:=
 ∀(pins:List (Addr×Obj))(s:Shared)(σ:St)(H:Hp)(v:V)(u:Value)(Q:St->Hp->Prop),Inv X pins σ H s->RelV v u->t v σ H Q->
  wpAny (model X.prog X.w) X.A (assign target X.env u) (fun _ s'=>∃ σ' H',Inv X pins σ' H' s'/\Q σ' H') X.xe s
def PGs(X:Cx)(ts:List Expr)(t:TGs):Prop:=
 ∀(pins:List (Addr×Obj))(s:Shared)(σ:St)(H:Hp)(vs:List V)(us:List Value)(Q:St->Hp->Prop),Inv X pins σ H s->Vals vs us->t vs σ H Q->
  wpAny (model X.prog X.w) X.A (assignInOrder ((assignEach ts X.env).map (·.2)) us) (fun _ s'=>∃ σ' H',Inv X pins σ' H' s'/\Q σ' H') X.xe s
abbrev TSet:=V->V->V->Hp->(Hp->Prop)->Prop
def PSet(X:Cx)(t:TSet):Prop:=
 ∀(pins:List (Addr×Obj))(s:Shared)(σ:St)(H:Hp)(o i v:V)(ov iv u:Value)(Q:Hp->Prop),Inv X pins σ H s->RelV o ov->RelV i iv->RelV v u->t o i v H Q->
  wpAny (model X.prog X.w) X.A (setItem ov iv u) (fun _ s'=>∃ H',Inv X pins σ H' s'/\Q H') X.xe s
section
variable{X:Cx}{pos:Pos}
def gName(i:Nat):TG:=fun v σ H Q=>Q (σ.set i (some v)) H
theorem Qx4{i:Nat}{x:Str}(hN:X.N.Nodup)(hi:X.N[i]?=some x)(hx:Loc X.env.scope x)(hf:X.fn x=true∨X.env.scope.names.lookup x=some .local:=by first | exact .inl rfl | exact .inr rfl | assumption):PG X (.Name x pos) (gName i):=by
 intro pins s σ H v u Q I r h
 exact wpAny_assign_Name (QEk I hN hi hx r (fun s' I'=>⟨_,H,I',h⟩) hf)
def gNil:TGs:=fun vs σ H Q=>vs=[]/\Q σ H
def gCons(t:TG)(u:TGs):TGs:=fun vs σ H Q=>∃ v r,vs=v::r/\t v σ H fun σ' H'=>u r σ' H' Q
theorem QNd:PGs X [] gNil:=by
 intro pins s σ H vs us Q I r h
 obtain⟨e,h⟩:=h
 subst e
 cases r
 exact assignInOrder_nil ⟨σ,H,I,h⟩
theorem QMq{e:Expr}{es:List Expr}{t:TG}{u:TGs}(h1:PG X e t)(h2:PGs X es u)
 (hs:(assignEach (e::es) X.env).map (·.2)=assign e X.env::(assignEach es X.env).map (·.2):=by rfl):PGs X (e::es) (gCons t u):=by
 intro pins s σ H vs us Q I r h
 obtain⟨v,vr,e1,h⟩:=h
 subst e1
 cases r with
 | cons r rr=>
  rw[hs]
  refine assignInOrder_cons (thn (h1 pins s σ H _ _ _ I r h) fun _ s1 ⟨σ1,H1,I1,q1⟩=>?_)
  exact h2 pins s1 σ1 H1 _ _ Q I1 rr q1
def gTup(K:PySem.W.Frag)(n:Nat)(t:TGs):TG:=fun v σ H Q=>∃ a xs,v=.ref a/\SqT K H a xs/\xs.length=n/\t xs σ H Q
theorem QKV{es:List Expr}{k:Nat}{t:TGs}{n:Nat}(hc:X.calm=true)(h:PGs X es t)
 (hn:(assignEach es X.env).length=n:=by rfl) (hst:(assignEach es X.env).findIdx? (·.1)=none:=by rfl):PG X (.Tuple es k pos) (gTup X.K n t):=by
 intro pins s σ H v u Q I r hw
 obtain⟨a,xs,e1,hq,hl,hw⟩:=hw
 subst e1
 cases r
 obtain⟨its,rv,ht,hz⟩:=I.tuple hq
 refine assign_Tuple_tuple (I.ok.hd hc) ht (by simp[hn, ← hl,rv.length]) hst fun h' hx=>?_
 have I1:Inv X pins σ H { s with heap:=h' }:=I.kept (t':=s.toks) fun b o e=>hx b o (Nat.ne_of_lt (Heap.lt_size e)) e
 exact h pins _ σ H xs _ Q I1 (by simpa using rv) hw
def gSub(to ti:TE)(t:TSet):TG:=fun v σ H Q=>to σ H fun o H1=>ti σ H1 fun i H2=>t o i v H2 fun H3=>Q σ H3
theorem QLF{o i:Expr}{to ti:TE}{t:TSet}(ho:PE X o to)(hi:PE X i ti)(hs:PSet X t)
 (ha:∀ v,assign (.Subscript o i pos) X.env v=(do
  let ov ← holding [v] (eval o X.env)
  let iv ← holding [v,ov] (eval i X.env)
  standAt pos
  holding [v,ov,iv] (setItem ov iv v)
  release [v,ov,iv] []):=by intro _;rfl):PG X (.Subscript o i pos) (gSub to ti t):=by
 intro pins s σ H v u Q I r h
 rw[ha]
 refine wpAny_bind (wpAny_holding (thn (ho pins s σ H _ I h) fun ov s1 ⟨x,H1,I1,r1,q1⟩=>?_))
 refine wpAny_bind (wpAny_holding (thn (hi pins s1 σ H1 _ I1 q1) fun iv s2 ⟨y,H2,I2,r2,q2⟩=>?_))
 refine wpAny_bind (wpAny_standAt (wpAny_bind (wpAny_holding (thn (hs pins s2 σ H2 x y v ov iv u _ I2 r1 r2 r q2) fun _ s3 ⟨H3,I3,q3⟩=>?_))))
 exact wpAny_release ⟨σ,H3,I3,q3⟩
def tAsg(te:TE)(g:TG):TS:=fun D σ H=>te σ H fun x H1=>g x σ H1 D.nx
theorem QBi{tg e:Expr}{te:TE}{g:TG}(he:PE X e te)(hg:PG X tg g)(hs:swapsWithSole [tg] e pos.line X.env=pure false:=by rfl)(hw:swappedStores [tg] e X.env=pure none:=by rfl)
 (h1:(assignEach [tg] X.env).map (·.2)=[assign tg X.env]:=by rfl):PS X (.Assign [tg] e pos) (tAsg te g):=by
 intro pins s σ H D I h
 refine wpAny_Assign_stores (thn (he pins s σ H _ I h) fun v s1 ⟨x,H1,I1,r1,q1⟩=>?_) hs hw
 rw[h1]
 exact thn (hg pins s1 σ H1 x v _ I1 r1 q1) fun _ s2 q=>q
theorem QB3{i:Nat}{x:Str}{e:Expr}{te:TE}{pos':Pos}(hN:X.N.Nodup)(hi:X.N[i]?=some x)(hx:Loc X.env.scope x)(he:PE X e te)(hs:swapsWith e (some (.Name x pos')) pos.line X.env=pure false:=by rfl)(hf:X.fn x=true∨X.env.scope.names.lookup x=some .local:=by first | exact .inl rfl | exact .inr rfl | assumption):
 PS X (.Assign [.Name x pos'] e pos) (tAsg te (gName i)):=by
 intro pins s σ H D I h
 refine wpAny_Assign_Name (thn (he pins s σ H _ I h) fun v s1 ⟨y,H1,I1,r1,q1⟩=>?_) hs
 exact QEk I1 hN hi hx r1 (fun s2 I2=>⟨_,H1,I2,q1⟩) hf
end
section
variable{X:Cx}{pos:Pos}
end
structure It where
 go:Nat->Hp->Prop
 yld:Nat->Hp->V->Hp->Prop
 stop:Nat->Hp->Prop
def FpOk(X:Cx)(pins:List (Addr×Obj))(H:Hp)(b:Addr):Prop:=
 H b=none/\b≠X.env.locals/\b∉X.fs/\(b∈X.ex∨X.s₀.heap.objs.size<=b)/\(∀ x c,X.env.cells.lookup x=some c->c≠b)/\∀ p∈X.pn++pins,p.1≠b
theorem Inv.fpOk{X:Cx}{pins:List (Addr×Obj)}{σ:St}{H H':Hp}{s:Shared}{b:Addr}(I:Inv X pins σ H s)(hb:s.heap.objs.size<=b)(hn:H' b=none):FpOk X pins H' b:=by
 refine⟨hn,Nat.ne_of_gt (Nat.lt_of_lt_of_le I.lt hb),I.nofs hb,.inr (Nat.le_trans I.sz hb),fun x c e z=>?_,fun p hp z=>?_⟩
 ·obtain⟨v,q⟩:=I.cell x c e
  exact absurd (Nat.lt_of_lt_of_le q.lt (by rw[z];exact hb)) (Nat.lt_irrefl _)
 ·exact absurd (Nat.lt_of_lt_of_le (Heap.lt_size (I.pin p hp).1) (by rw[z];exact hb)) (Nat.lt_irrefl _)
structure Turn(P:Program)(w:World)(K:PySem.W.Frag)(tg:Expr)(J:It)(fp:List Addr)(it:Addr)(tn:Nat->Heap->Prop):Prop where
 mem:it∈fp
 obj:∀ i h,tn i h->∀ b∈fp,∃ o,h.get? b=some o/\∀ v,o.data≠.cell v
 keep:∀ i h h',tn i h->(∀ b∈fp,∀ o,h.get? b=some o->h'.get? b=some o)->tn i h'
 item:∀(X:Cx),X.prog=P->X.w=w->X.K=K->X.calm=true->∀(i:Nat)(pins:List (Addr×Obj))(s:Shared)(σ:St)(H:Hp)(E:Value->Shared->Prop),Inv X pins σ H s->(∀ b∈fp,FpOk X pins H b)->tn i s.heap->J.go i H->
  wpAny (model P w) X.A (pyNext (.ref it)) (fun r s1=>∃ u,r=some u/\
   wpAny (model P w) X.A (letOwnedTupleGo tg (.ref it) u) (fun _ s2=>∃ x H',Inv X pins σ H' s2/\RelV x u/\J.yld i H x H'/\tn (i+1) s2.heap/\∀ b∈fp,H' b=none) E s1) E s
 done:∀(X:Cx),X.prog=P->X.w=w->X.K=K->X.calm=true->∀(i:Nat)(pins:List (Addr×Obj))(s:Shared)(σ:St)(H:Hp)(E:Value->Shared->Prop),Inv X pins σ H s->(∀ b∈fp,FpOk X pins H b)->tn i s.heap->J.stop i H->
  wpAny (model P w) X.A (pyNext (.ref it)) (fun r s1=>r=none/\Inv X pins σ H s1) E s
 self:∀(A:Around)(i:Nat)(s:Shared)(Q:Value->Shared->Prop)(E:Value->Shared->Prop),tn i s.heap->Q (.ref it) s->wpAny (model P w) A (pyIter (.ref it)) Q E s
abbrev TI:=St->Hp->(It->Hp->Prop)->Prop
def PIE(X:Cx)(pins:List (Addr×Obj))(σ:St)(tg:Expr)(R:It->Hp->Prop)(itv:Value)(s2:Shared):Prop:=
 ∃(it:Addr)(fp:List Addr)(tn:Nat->Heap->Prop)(J:It)(H':Hp),itv=.ref it/\Inv X pins σ H' s2/\Turn X.prog X.w X.K tg J fp it tn/\tn 0 s2.heap/\(∀ b∈fp,FpOk X pins H' b)/\R J H'
def PI(X:Cx)(tg iter:Expr)(wi:TI):Prop:=
 ∀(pins:List (Addr×Obj))(s:Shared)(σ:St)(H:Hp)(R:It->Hp->Prop),Inv X pins σ H s->wi σ H R->
  wpAny (model X.prog X.w) X.A (eval iter X.env) (fun v s1=>wpAny (model X.prog X.w) X.A (pyIter v) (PIE X pins σ tg R) X.xe s1) X.xe s
theorem go_of{M:Model}{A:Around}{E:Value->Shared->Prop}{s:Shared}{tg:Expr}{it:Addr}{u:Value}{o:Obj}{n:String}{vs:Array Value}{Q:Unit->Shared->Prop}(ho:s.heap.get? it=some o)(hc:o.cls=.type n)(hd:o.data=.fields vs)
 (hn:["enumerate","zip","dict_itemiterator","dict_reverseitemiterator","odict_iterator","itertools.zip_longest","itertools.pairwise"].contains n=false) (hQ:Q () s):wpAny M A (letOwnedTupleGo tg (.ref it) u) Q E s:=by
 unfold letOwnedTupleGo
 cases tg<;>first
  | exact wpAny_pure hQ
  | (cases u<;>first
   | exact wpAny_pure hQ
   | (refine wpAny_bind (wpAny_load ho ?_)
      rw[hc,hd]
      show wpAny M A (if (["enumerate","zip","dict_itemiterator","dict_reverseitemiterator","odict_iterator","itertools.zip_longest","itertools.pairwise"].contains n&&vs[0]? == some (rawInt _))=true then _ else _) Q E s
      rw[if_neg (by intro h;rw[hn,Bool.false_and]at h;cases h)]
      exact wpAny_pure hQ))
def Itl(K:PySem.W.Frag)(a:Addr):It:=
 ⟨fun i H=>∃ xs x,SqL K H a xs/\xs[i]?=some x,fun i H x H'=>H'=H/\∀ xs,SqL K H a xs->xs[i]?=some x,fun i H=>∃ xs,SqL K H a xs/\xs.length<=i⟩
def Itt(K:PySem.W.Frag)(a:Addr):It:=
 ⟨fun i H=>∃ xs x,SqT K H a xs/\xs[i]?=some x,fun i H x H'=>H'=H/\∀ xs,SqT K H a xs->xs[i]?=some x,fun i H=>∃ xs,SqT K H a xs/\xs.length<=i⟩
def Itr(lo:Int)(n:Nat):It:=⟨fun i _=>i<n,fun i H x H'=>H'=H/\x=.int (lo+i),fun i _=>n<=i⟩
theorem QJW{P:Program}{w:World}{K:PySem.W.Frag}{tg:Expr}(a it:Addr):Turn P w K tg (Itl K a) [it] it (fun i h=>h.IsListIter it a i) where
 mem:=by simp
 obj:=fun i h st b hb=>by
  have e:b=it:=by simpa using hb
  subst e
  obtain⟨o,e,c,d⟩:=st
  exact⟨o,e,fun v z=>by rw[d]at z;cases z⟩
 keep:=fun i h h' st k=>st.at fun o e=>k it (by simp) o e
 item:=by
  intro X hP hw hK hc i pins s σ H E I hf st hg
  subst hP hw hK
  obtain⟨xs,x,hq,hx⟩:=hg
  obtain⟨its,rv,p,hz⟩:=I.list hq
  obtain⟨u,hu,ru⟩:=rv.get hx
  obtain⟨f0,f1,f2,f3,f4,f5⟩:=hf it (by simp)
  refine wpAny_pyNext_list_item st p.isList (x:=u) (by simpa using hu) fun h' st' sb=>?_
  have I1:Inv X pins σ H { s with heap:=h' }:=I.turned (t':=s.toks) (fun b o hb e=>(sb.2 b hb).trans e) f0 f1 f3 f4 f5
  obtain⟨o,e,c,d⟩:=id st'
  exact⟨u,rfl,go_of (s:={ s with heap:=h' }) e c d (by decide) ⟨x,H,I1,ru,⟨rfl,fun ys hy=>by rw[I.list_inj hy hq];exact hx⟩,st',fun b hb=>(hf b hb).1⟩⟩
 done:=by
  intro X hP hw hK hc i pins s σ H E I hf st hg
  subst hP hw hK
  obtain⟨xs,hq,hx⟩:=hg
  obtain⟨its,rv,p,hz⟩:=I.list hq
  obtain⟨f0,f1,f2,f3,f4,f5⟩:=hf it (by simp)
  have hl:=rv.length
  exact wpAny_pyNext_list_end (I.ok.hd hc) st p.isList (by simp;omega) fun h' eb=>⟨rfl,I.turned (t':=s.toks) (fun b o hb e=>eb b o hb e) f0 f1 f3 f4 f5⟩
 self:=fun _ _ _ _ _ st h=>wpAny_pyIter_listiter st h
theorem QJt{P:Program}{w:World}{K:PySem.W.Frag}{tg:Expr}(a it:Addr):Turn P w K tg (Itt K a) [it] it (fun i h=>h.IsTupleIter it a i) where
 mem:=by simp
 obj:=fun i h st b hb=>by
  have e:b=it:=by simpa using hb
  subst e
  obtain⟨o,e,c,d⟩:=st
  exact⟨o,e,fun v z=>by rw[d]at z;cases z⟩
 keep:=fun i h h' st k=>st.at fun o e=>k it (by simp) o e
 item:=by
  intro X hP hw hK hc i pins s σ H E I hf st hg
  subst hP hw hK
  obtain⟨xs,x,hq,hx⟩:=hg
  obtain⟨its,rv,p,hz⟩:=I.tuple hq
  obtain⟨u,hu,ru⟩:=rv.get hx
  obtain⟨f0,f1,f2,f3,f4,f5⟩:=hf it (by simp)
  refine wpAny_pyNext_tuple_item st (show s.heap.IsTuple a its.toArray from p) (x:=u) (by simpa using hu) fun h' st' sb=>?_
  have I1:Inv X pins σ H { s with heap:=h' }:=I.turned (t':=s.toks) (fun b o hb e=>(sb.2 b hb).trans e) f0 f1 f3 f4 f5
  obtain⟨o,e,c,d⟩:=id st'
  exact⟨u,rfl,go_of (s:={ s with heap:=h' }) e c d (by decide) ⟨x,H,I1,ru,⟨rfl,fun ys hy=>by rw[I.tuple_inj hy hq];exact hx⟩,st',fun b hb=>(hf b hb).1⟩⟩
 done:=by
  intro X hP hw hK hc i pins s σ H E I hf st hg
  subst hP hw hK
  obtain⟨xs,hq,hx⟩:=hg
  obtain⟨its,rv,p,hz⟩:=I.tuple hq
  obtain⟨f0,f1,f2,f3,f4,f5⟩:=hf it (by simp)
  have hl:=rv.length
  exact wpAny_pyNext_tuple_end (I.ok.hd hc) st (show s.heap.IsTuple a its.toArray from p) (by simp;omega) fun h' eb=>⟨rfl,I.turned (t':=s.toks) (fun b o hb e=>eb b o hb e) f0 f1 f3 f4 f5⟩
 self:=fun _ _ _ _ _ st h=>wpAny_pyIter_tupleiter st h
theorem QJE{P:Program}{w:World}{K:PySem.W.Frag}{tg:Expr}(it:Addr)(lo:Int)(n:Nat):Turn P w K tg (Itr lo n) [it] it (fun i h=>IsRangeIter h it (lo+(i:Nat) * 1) ((n:Int) - (i:Nat)) 1) where
 mem:=by simp
 obj:=fun i h st b hb=>by
  have e:b=it:=by simpa using hb
  subst e
  exact⟨_,st,fun v z=>by
   have z':Data.fields _=Data.cell v:=z
   cases z'⟩
 keep:=fun i h h' st k=>k it (by simp) _ st
 item:=by
  intro X hP hw hK hc i pins s σ H E I hf st hg
  subst hP hw hK
  obtain⟨f0,f1,f2,f3,f4,f5⟩:=hf it (by simp)
  have W:=Walks.range (prog:=X.prog) (w:=X.w) (I.ok.hd hc) it lo 1 n
  refine W.item i s _ _ hg st fun v h' tk hv st' kk=>?_
  obtain⟨t,rfl⟩:=hv
  have I1:Inv X pins σ H { s with heap:=h',toks:=tk }:=I.turned (fun b o hb e=>kk b o (by simpa using hb) e) f0 f1 f3 f4 f5
  refine⟨_,rfl,go_of (s:={ s with heap:=h',toks:=tk }) (n:="range_iterator") st' rfl rfl (by decide) ⟨.int (lo+i),H,I1,⟨t,?_⟩,⟨rfl,rfl⟩,st',fun b hb=>(hf b hb).1⟩⟩
  rw[Int.mul_one]
 done:=by
  intro X hP hw hK hc i pins s σ H E I hf st hg
  subst hP hw hK
  obtain⟨f0,f1,f2,f3,f4,f5⟩:=hf it (by simp)
  exact wpAny_pyNext_range_end (I.ok.hd hc) st (by have:n<=i:=hg;omega) fun h' eb=>⟨rfl,I.turned (t':=s.toks) (fun b o hb e=>eb b o hb e) f0 f1 f3 f4 f5⟩
 self:=fun _ _ _ _ _ st h=>wpAny_pyIter_rangeiter st h
end L2
namespace L2
open PySem PySem.Spec PyProof.Rows
section
variable{X:Cx}{tg:Expr}
def iList(K:PySem.W.Frag)(tl:TE):TI:=fun σ H R=>tl σ H fun x H1=>∃ a,x=.ref a/\(∃ xs,SqL K H1 a xs)/\R (Itl K a) H1
def iTup(K:PySem.W.Frag)(tl:TE):TI:=fun σ H R=>tl σ H fun x H1=>∃ a,x=.ref a/\(∃ xs,SqT K H1 a xs)/\R (Itt K a) H1
theorem QNP{l:Expr}{tl:TE}(hl:PE X l tl):PI X tg l (iList X.K tl):=by
 intro pins s σ H R I h
 refine thn (hl pins s σ H _ I h) fun v s1 ⟨x,H1,I1,r1,q1⟩=>?_
 obtain⟨a,e,⟨xs,hq⟩,q⟩:=q1
 subst e
 cases r1
 obtain⟨its,rv,p,hz⟩:=I1.list hq
 refine wpAny_pyIter_list p.isList ?_
 refine⟨s1.heap.objs.size,[s1.heap.objs.size],_,_,H1,rfl,I1.kept (t':=s1.toks) fun b o e=>Heap.get?_push_of_some _ e,QJW a _,⟨_,Heap.get?_push_size _ rfl,rfl,rfl⟩,fun b hb=>?_,q⟩
 have e:b=s1.heap.objs.size:=by simpa using hb
 subst e
 exact I1.fpOk (Nat.le_refl _) (I1.hok.fresh (Nat.le_refl _))
theorem QOE{l:Expr}{tl:TE}(hl:PE X l tl):PI X tg l (iTup X.K tl):=by
 intro pins s σ H R I h
 refine thn (hl pins s σ H _ I h) fun v s1 ⟨x,H1,I1,r1,q1⟩=>?_
 obtain⟨a,e,⟨xs,hq⟩,q⟩:=q1
 subst e
 cases r1
 obtain⟨its,rv,p,hz⟩:=I1.tuple hq
 refine wpAny_pyIter_tuple (show s1.heap.IsTuple a its.toArray from p) ?_
 refine⟨s1.heap.objs.size,[s1.heap.objs.size],_,_,H1,rfl,I1.kept (t':=s1.toks) fun b o e=>Heap.get?_push_of_some _ e,QJt a _,⟨_,Heap.get?_push_size _ rfl,rfl,rfl⟩,fun b hb=>?_,q⟩
 have e:b=s1.heap.objs.size:=by simpa using hb
 subst e
 exact I1.fpOk (Nat.le_refl _) (I1.hok.fresh (Nat.le_refl _))
theorem QMC{pins:List (Addr×Obj)}{σ:St}{H:Hp}{s:Shared}{R:It->Hp->Prop}{E:Value->Shared->Prop}{lo hi:Int}{t u v:Tok}{tk:Nat}(I:Inv X pins σ H s)(h1 : -(2 ^ 62)<=lo)(h2:lo<2 ^ 62)(h3 : -(2 ^ 62)<=hi)(h4:hi<2 ^ 62)
 (q:R (Itr lo (hi - lo).toNat) H):wpAny (model X.prog X.w) X.A (pyIter (.ref s.heap.objs.size)) (PIE X pins σ tg R) E { s with heap:=s.heap.push { cls:=.type "range",data:=.fields #[.int lo t,.int hi u,.int 1 v] },toks:=tk }:=by
 refine wpAny_pyIter_range (IsRange.new ..) (small_one h1 h2 h3 h4) ?_
 have I1:Inv X pins σ H { s with heap:=s.heap.push { cls:=.type "range",data:=.fields #[.int lo t,.int hi u,.int 1 v] },toks:=tk }:=I.kept fun b o e=>Heap.get?_push_of_some _ e
 refine⟨(s.heap.push { cls:=.type "range",data:=.fields #[.int lo t,.int hi u,.int 1 v] }).objs.size,[(s.heap.push { cls:=.type "range",data:=.fields #[.int lo t,.int hi u,.int 1 v] }).objs.size],_,_,H,rfl,
  I1.kept (t':=tk) fun b o e=>Heap.get?_push_of_some _ e,QJE _ lo (hi - lo).toNat,?_,fun b hb=>?_,q⟩
 ·have e1:lo+((0:Nat):Int) * 1=lo:=by simp
  have e2:(((hi - lo).toNat:Nat):Int) - ((0:Nat):Int)=Builtin.Range.rangeSize lo hi 1:=by rw[rangeSize_one];split<;>omega
  show IsRangeIter _ _ (lo+((0:Nat):Int) * 1) ((((hi - lo).toNat:Nat):Int) - ((0:Nat):Int)) 1
  rw[e1,e2]
  exact Heap.get?_push_size _ rfl
 ·have e:b=(s.heap.push { cls:=.type "range",data:=.fields #[.int lo t,.int hi u,.int 1 v] }).objs.size:=by simpa using hb
  subst e
  exact I1.fpOk (Nat.le_refl _) (I1.hok.fresh (Nat.le_refl _))
def iRng1(ta:TA):TI:=fun σ H R=>ta σ H fun vs H1=>∃ j:Int,vs=[.int j] /\ -(2 ^ 62)<=j/\j<2 ^ 62/\R (Itr 0 j.toNat) H1
theorem QLi{a:Expr}{ta:TA}{p pos:Pos}(hg:Gl X "range")(hm:X.mg "range"=none)(ha:PA X [a] ta)(hs:starEach [a] X.env=[(false,eval a X.env)]:=by rfl):PI X tg (.Call (.Name "range" p) [a] [] pos) (iRng1 ta):=by
 intro pins s σ H R I h
 refine Call_ (Qi1 I hg hm boot_range (PyProof.Rows.callWith_type1 (thn (ha pos pins s σ H _ I h) fun us s1 ⟨vs,H1,I1,r1,q1⟩=>?_) hs rfl))
 obtain⟨j,e,q1,q2,q⟩:=q1
 subst e
 cases r1 with
 | cons r rr=>
  cases rr
  obtain⟨t,rfl⟩:=r
  exact call_range_1 (QMC I1 (by omega) (by omega) q1 q2 (by simpa using q))
def tFor(wi:TI)(g:TG)(tb:TS):TS:=fun D σ H=>wi σ H fun J H1=>∃ W:Nat->Nat->St->Hp->Prop,(∃ m,W 0 m σ H1)/\∀ i m σ H,W i m σ H->
 (J.stop i H/\D.nx σ H)∨(J.go i H/\∃ N:St->Hp->Prop,(∀ σ' H',N σ' H'->∃ m',m'<m/\W (i+1) m' σ' H')/\∀ x H',J.yld i H x H'->g x σ H' fun σ2 H2=>tb { D with nx:=N,ct:=N,bk:=D.nx } σ2 H2)
def Qsn(fp:List Addr)(h:Heap):List (Addr×Obj):=fp.filterMap fun b=>(h.get? b).map fun o=>(b,o)
theorem Qkv{fp:List Addr}{h:Heap}{b:Addr}{o:Obj}(hb:b∈fp)(e:h.get? b=some o):(b,o)∈Qsn fp h:=List.mem_filterMap.mpr ⟨b,hb,by rw[e];rfl⟩
theorem QLN{fp:List Addr}{h:Heap}{p:Addr×Obj}(hp:p∈Qsn fp h):p.1∈fp/\h.get? p.1=some p.2:=by
 obtain⟨b,hb,e⟩:=List.mem_filterMap.mp hp
 cases q:h.get? b with
 | none=>rw[q]at e;cases e
 | some o=>
  rw[q]at e
  have e':(b,o)=p:=Option.some.inj e
  subst e'
  exact⟨hb,q⟩
theorem Inv.pinned{pins:List (Addr×Obj)}{σ:St}{H:Hp}{s:Shared}{fp:List Addr}(I:Inv X pins σ H s)(hf:∀ b∈fp,FpOk X pins H b)(ho:∀ b∈fp,∃ o,s.heap.get? b=some o/\∀ v,o.data≠.cell v):Inv X (pins++Qsn fp s.heap) σ H s:=
 I.pins_of fun p hp=>(List.mem_append.mp hp).elim (fun z=>I.pin p (List.mem_append_right _ z)) fun z=>by
  obtain⟨hb,e⟩:=QLN z
  obtain⟨f0,f1,f2,_⟩:=hf p.1 hb
  obtain⟨o,e',d⟩:=ho p.1 hb
  rw[e]at e';cases e'
  exact⟨e,f0,f1,f2,d⟩
theorem Inv.unpinned{pins pl:List (Addr×Obj)}{σ:St}{H:Hp}{s:Shared}(I:Inv X (pins++pl) σ H s):Inv X pins σ H s:=I.pins_of fun p hp=>I.pin p (List.mem_append_right _ (List.mem_append_left _ hp))
theorem QKO{iter:Expr}{body:List Stmt}{wi:TI}{g:TG}{tb:TS}{pos:Pos}(hp:PassesOwn (model X.prog X.w) X.A X.env X.xe)(hc:X.calm=true)(hi:PI X tg iter wi)(hg:PG X tg g)(hb:PSs X body tb)
 (hs:∀ x,foldedSetIterable iter X.env x=pure x:=by intro _;rfl):PS X (.For tg iter body [] pos) (tFor wi g tb):=by
 intro pins s σ H D I h
 refine wpAny_For (thn (hi pins s σ H _ I h) fun v s1 h1=>thn h1 fun itv s2 h2=>?_) hs
 obtain⟨it,fp,tn,J,H2,e,I2,T,st2,f2,W,⟨m0,w0⟩,turn⟩:=h2
 subst e
 -- what stays true of the iterator's objects through the loop
 have stat:∀{H':Hp},(∀ b∈fp,H' b=none)->∀ b∈fp,FpOk X pins H' b:=fun hn b hb=>⟨hn b hb,(f2 b hb).2⟩
 refine codeAny_forLoop_any (fun n s'=>∃ i σ' H',Inv X pins σ' H' s'/\tn i s'.heap/\(∀ b∈fp,H' b=none)/\W i n σ' H') ?_ m0 ⟨0,σ,H2,I2,st2,fun b hb=>(f2 b hb).1,w0⟩
 rintro n s3 ⟨i,σ3,H3,I3,st3,fr3,w3⟩
 rcases turn i n σ3 H3 w3 with⟨stop,qn⟩ | ⟨go,N,hN,step⟩
 ·refine wpAny_passesOwn hp (thn (T.done X rfl rfl rfl hc i pins s3 σ3 H3 X.xe I3 (stat fr3) st3 stop) fun r s4 ⟨hr,I4⟩=>?_)
  subst hr
  exact wpAny_execs_nil ⟨σ3,H3,I4,qn⟩
 ·refine wpAny_passesOwn hp (thn (T.item X rfl rfl rfl hc i pins s3 σ3 H3 X.xe I3 (stat fr3) st3 go) fun r s4 ⟨u,hr,h4⟩=>?_)
  subst hr
  refine wpAny_passesOwn hp (thn h4 fun _ s5 ⟨x,H5,I5,r5,y5,st5,fr5⟩=>?_)
  have I5':=I5.pinned (stat fr5) (T.obj _ _ st5)
  refine wpAny_passesOwn hp (thn (hg _ s5 σ3 H5 x u _ I5' r5 (step x H5 y5)) fun _ s6 ⟨σ6,H6,I6,q6⟩=>?_)
  refine wpAny_passesOwn hp (thn (hb _ s6 σ6 H6 _ I6 q6) fun f s7 q7=>?_)
  have again:∀{σ7:St}{H7:Hp},Inv X (pins++Qsn fp s5.heap) σ7 H7 s7->N σ7 H7->∃ m,m<n/\∃ i σ' H',Inv X pins σ' H' s7/\tn i s7.heap/\(∀ b∈fp,H' b=none)/\W i m σ' H':=fun {σ7 H7} I7 n7=>by
   obtain⟨m',hm,w7⟩:=hN σ7 H7 n7
   refine⟨m',hm,i+1,σ7,H7,I7.unpinned,T.keep _ _ _ st5 fun b hb o e=>(I7.pin (b,o) (List.mem_append_right _ (List.mem_append_right _ (Qkv hb e)))).1,fun b hb=>?_,w7⟩
   obtain⟨o,e,d⟩:=T.obj _ _ st5 b hb
   exact(I7.pin (b,o) (List.mem_append_right _ (List.mem_append_right _ (Qkv hb e)))).2.1
  cases f with
  | next=>obtain⟨σ7,H7,I7,n7⟩:=q7;exact again I7 n7
  | cont=>obtain⟨σ7,H7,I7,n7⟩:=q7;exact again I7 n7
  | brk=>obtain⟨σ7,H7,I7,q7⟩:=q7;exact⟨σ7,H7,I7.unpinned,q7⟩
  | ret v=>obtain⟨x7,σ7,H7,I7,r7,q7⟩:=q7;exact⟨x7,σ7,H7,I7.unpinned,r7,q7⟩
end
end L2
namespace L2
open PySem PySem.Spec PyProof.Rows
abbrev R2:=V->V->Hp->VK->Prop
def OpR(X:Cx)(f:Value->Value->Sem Value)(r:R2):Prop:=
 ∀(pins:List (Addr×Obj))(s:Shared)(σ:St)(H:Hp)(x y:V)(v u:Value)(Q:VK),Inv X pins σ H s->RelV x v->RelV y u->r x y H Q->
  wpAny (model X.prog X.w) X.A (f v u) (EP X pins σ Q) X.xe s
def UnR(X:Cx)(f:Value->Sem Value)(r:V->Hp->VK->Prop):Prop:=
 ∀(pins:List (Addr×Obj))(s:Shared)(σ:St)(H:Hp)(x:V)(v:Value)(Q:VK),Inv X pins σ H s->RelV x v->r x H Q->
  wpAny (model X.prog X.w) X.A (f v) (EP X pins σ Q) X.xe s
def CallR(X:Cx)(f:Value)(r:List V->Hp->VK->Prop):Prop:=
 ∀(pins:List (Addr×Obj))(s:Shared)(σ:St)(H:Hp)(xs:List V)(us:List Value)(Q:VK),Inv X pins σ H s->Vals xs us->r xs H Q->
  wpAny (model X.prog X.w) X.A (call f us) (EP X pins σ Q) X.xe s
def tOp(r:R2)(ta tb:TE):TE:=fun σ H Q=>ta σ H fun x H1=>tb σ H1 fun y H2=>r x y H2 Q
def tUn(r:V->Hp->VK->Prop)(ta:TE):TE:=fun σ H Q=>ta σ H fun x H1=>r x H1 Q
def rI(C:Int->Int->Prop)(g:Int->Int->V):R2:=fun x y H Q=>∃ i j,x=.int i/\y=.int j/\C i j/\Q (g i j) H
def rI0(g:Int->Int->V):R2:=fun x y H Q=>∃ i j,x=.int i/\y=.int j/\Q (g i j) H
def rU(g:Int->V):V->Hp->VK->Prop:=fun x H Q=>∃ i,x=.int i/\Q (g i) H
section
variable{X:Cx}{a b c:Expr}{ta tb tc:TE}{pos:Pos}
theorem binT(ha:PE X a ta)(hb:PE X b tb){pins:List (Addr×Obj)}{s:Shared}{σ:St}{H:Hp}{R:V->V->Hp->Prop}(I:Inv X pins σ H s)
 (h:ta σ H fun x H1=>tb σ H1 fun y H2=>R x y H2) {Q:Value->Shared->Prop} {f:Value->Value->Sem Value}
 (hf:∀ v u s2 x y H2,Inv X pins σ H2 s2->RelV x v->RelV y u->R x y H2->wpAny (model X.prog X.w) X.A (f v u) Q X.xe s2):
 wpAny (model X.prog X.w) X.A (eval a X.env) (fun v s₁=>wpAny (model X.prog X.w) X.A (eval b X.env) (fun u s₂ => wpAny (model X.prog X.w) X.A (f v u) Q X.xe s₂) X.xe s₁) X.xe s:=by
 refine thn (ha pins s σ H _ I h) fun v s1 ⟨x,H1,I1,r1,q1⟩=>?_
 refine thn (hb pins s1 σ H1 _ I1 q1) fun u s2 ⟨y,H2,I2,r2,q2⟩=>?_
 exact hf v u s2 x y H2 I2 r1 r2 q2
theorem pe_op{op:Operator}{r:R2}(ho:OpR X (binaryOp op) r)(ha:PE X a ta)(hb:PE X b tb):PE X (.BinOp a op b pos) (tOp r ta tb):=by
 intro pins s σ H Q I h
 exact wpAny_BinOp (binT ha hb I h fun v u s2 x y H2 I2 rx ry q=>ho pins s2 σ H2 x y v u Q I2 rx ry q)
theorem pe_un{op:UnaryOp}{r:V->Hp->VK->Prop}(ho:UnR X (unaryOp op) r)(ha:PE X a ta):PE X (.UnaryOp op a pos) (tUn r ta):=by
 intro pins s σ H Q I h
 exact UnaryOp_ (thn (ha pins s σ H _ I h) fun v s1 ⟨x,H1,I1,r1,q1⟩=>ho pins s1 σ H1 x v Q I1 r1 q1)
theorem opI{f:Value->Value->Sem Value}{C:Int->Int->Prop}{g:Int->Int->Int}
 (rule:∀(i j:Int)(t u:Tok)(s:Shared)(Q:Value->Shared->Prop)(E:Value->Shared->Prop),C i j->Q (.int (g i j) s.toks) { s with toks:=s.toks+1 }->wpAny (model X.prog X.w) X.A (f (.int i t) (.int j u)) Q E s):
 OpR X f (rI C fun i j=>.int (g i j)):=by
 intro pins s σ H x y v u Q I rx ry h
 obtain⟨i,j,rfl,rfl,hc,q⟩:=h
 obtain⟨t,rfl⟩:=rx
 obtain⟨t',rfl⟩:=ry
 exact rule i j t t' s _ _ hc ⟨.int (g i j),H,I.tok _,⟨_,rfl⟩,q⟩
theorem opI0{f:Value->Value->Sem Value}{g:Int->Int->Int}
 (rule:∀(i j:Int)(t u:Tok)(s:Shared)(Q:Value->Shared->Prop)(E:Value->Shared->Prop),Q (.int (g i j) s.toks) { s with toks:=s.toks+1 }->wpAny (model X.prog X.w) X.A (f (.int i t) (.int j u)) Q E s):
 OpR X f (rI0 fun i j=>.int (g i j)):=by
 intro pins s σ H x y v u Q I rx ry h
 obtain⟨i,j,rfl,rfl,q⟩:=h
 obtain⟨t,rfl⟩:=rx
 obtain⟨t',rfl⟩:=ry
 exact rule i j t t' s _ _ ⟨.int (g i j),H,I.tok _,⟨_,rfl⟩,q⟩
theorem opB0{f:Value->Value->Sem Value}{g:Int->Int->Bool}
 (rule:∀(i j:Int)(t u:Tok)(s:Shared)(Q:Value->Shared->Prop)(E:Value->Shared->Prop),Q (.bool (g i j)) s->wpAny (model X.prog X.w) X.A (f (.int i t) (.int j u)) Q E s):
 OpR X f (rI0 fun i j=>.bl (g i j)):=by
 intro pins s σ H x y v u Q I rx ry h
 obtain⟨i,j,rfl,rfl,q⟩:=h
 obtain⟨t,rfl⟩:=rx
 obtain⟨t',rfl⟩:=ry
 exact rule i j t t' s _ _ ⟨.bl (g i j),H,I,rfl,q⟩
def CPow(i j:Int):Prop:=0<=j/\j<=1000000/\i.natAbs<2 ^ 64
def CMul(i j:Int):Prop:=(-(2 ^ 64)<i/\i<2 ^ 64)∨(-(2 ^ 64)<j/\j<2 ^ 64)
theorem CMul.ok{i j:Int}(h:CMul i j):IntMulOk i j:=by
 rcases h with⟨h1,h2⟩ | ⟨h1,h2⟩
 ·exact .of_left (intBits_le_64 h1 h2)
 ·exact .of_right (intBits_le_64 h1 h2)
theorem QOy:OpR X (binaryOp .Add) (rI0 fun i j=>.int (i+j)):=opI0 fun _ _ _ _ _ _ _ q=>add_int q
theorem QPk:OpR X (binaryOp .Sub) (rI0 fun i j=>.int (i - j)):=opI0 fun _ _ _ _ _ _ _ q=>sub_int q
theorem QNX:OpR X (binaryOp .Mod) (rI (fun _ j=>j≠0) fun i j=>.int (i.fmod j)):=opI fun _ _ _ _ _ _ _ hc q=>mod_int' hc q
theorem QOq:OpR X (binaryOp .Pow) (rI CPow fun i j=>.int (i ^ j.toNat)):=opI fun _ _ _ _ _ _ _ hc q=>pow_int_small hc.1 hc.2.1 hc.2.2 q
theorem unI{f:Value->Sem Value}{g:Int->Int}
 (rule:∀(i:Int)(t:Tok)(s:Shared)(Q:Value->Shared->Prop)(E:Value->Shared->Prop),Q (.int (g i) s.toks) { s with toks:=s.toks+1 }->wpAny (model X.prog X.w) X.A (f (.int i t)) Q E s):
 UnR X f (rU fun i=>.int (g i)):=by
 intro pins s σ H x v Q I rx h
 obtain⟨i,rfl,q⟩:=h
 obtain⟨t,rfl⟩:=rx
 exact rule i t s _ _ ⟨.int (g i),H,I.tok _,⟨_,rfl⟩,q⟩
theorem QOT:UnR X (unaryOp .USub) (rU fun i=>.int (-i)):=unI fun _ _ _ _ _ q=>neg_int q
end
def scal:V->V->Bool
 | .non,.non=>true | .non,.int _=>true | .int _,.non=>true | .non,.bl _=>true | .bl _,.non=>true | .non,.str _=>true | .str _,.non=>true
 | .int _,.int _=>true | .bl _,.bl _=>true | .str _,.str _=>true | .byt _,.byt _=>true
 | .int _,.str _=>true | .str _,.int _=>true | .bl _,.str _=>true | .str _,.bl _=>true
 | _,_=>false
section
variable{X:Cx}{a b c:Expr}{ta tb tc:TE}{pos:Pos}
theorem QN4{pins:List (Addr×Obj)}{σ:St}{H:Hp}{s:Shared}{Q:VK}{k k':Bool}(I:Inv X pins σ H s)(q:Q (.bl k) H)(e:k=k'):EP X pins σ Q (.bool k') s:=by
 subst e
 exact⟨.bl k,H,I,rfl,q⟩
theorem op_lt:OpR X (compareOp .Lt) (rI0 fun i j=>.bl (decide (i<j))):=opB0 fun _ _ _ _ _ _ _ q=>lt_int q
theorem op_le:OpR X (compareOp .LtE) (rI0 fun i j=>.bl (decide (i<=j))):=opB0 fun _ _ _ _ _ _ _ q=>le_int q
theorem op_gt:OpR X (compareOp .Gt) (rI0 fun i j=>.bl (decide (j<i))):=opB0 fun _ _ _ _ _ _ _ q=>gt_int q
theorem op_ge:OpR X (compareOp .GtE) (rI0 fun i j=>.bl (decide (j<=i))):=opB0 fun _ _ _ _ _ _ _ q=>ge_int q
theorem QKx:OpR X (compareOp .In) (fun x y H Q=>∃ i j,x=.str i/\y=.str j/\Q (.bl (!(Builtin.Str.occurrences j i 0 j.length 1).isEmpty)) H):=by
 intro pins s σ H x y v u Q I rx ry h
 obtain⟨i,j,rfl,rfl,q⟩:=h
 obtain⟨t,rfl⟩:=rx
 obtain⟨t',rfl⟩:=ry
 exact in_str (QN4 I q rfl)
theorem OpR.or{f:Value->Value->Sem Value}{r r':R2}(h:OpR X f r)(h':OpR X f r'):OpR X f (fun x y H Q=>r x y H Q∨r' x y H Q):=by
 intro pins s σ H x y v u Q I rx ry q
 rcases q with q | q
 ·exact h pins s σ H x y v u Q I rx ry q
 ·exact h' pins s σ H x y v u Q I rx ry q
theorem QlC(b:Expr){op:CmpOp}(h:op≠.In:=by decide)(h2:op≠.NotIn:=by decide):behindInMarks op b=false:=by
 have e1:(op == CmpOp.In)=false:=by cases op<;>first | rfl | exact absurd rfl h
 have e2:(op == CmpOp.NotIn)=false:=by cases op<;>first | rfl | exact absurd rfl h2
 cases b<;>simp[behindInMarks,e1,e2]
theorem QNe{op:CmpOp}{r:R2}(ho:OpR X (compareOp op) r)(ha:PE X a ta)(hb:PE X b tb)(hm:behindInMarks op b=false):PE X (.Compare a [op] [b] pos) (tOp r ta tb):=by
 intro pins s σ H Q I h
 exact wpAny_Compare1 (binT ha hb I h fun v u s2 x y H2 I2 rx ry q=>ho pins s2 σ H2 x y v u Q I2 rx ry q) hm
def tTest(t:TE):TT:=fun σ H Q=>t σ H fun x H'=>∃ k,x=.bl k/\Q k H'
theorem QNo{op:CmpOp}{r:R2}(ho:OpR X (compareOp op) r)(ha:PE X a ta)(hb:PE X b tb)(hm:behindInMarks op b=false):PT X (.Compare a [op] [b] pos) (tTest (tOp r ta tb)):=by
 intro pins s σ H Q I h
 refine wpAny_isTrue_Compare1 (thn (ha pins s σ H _ I h) fun v s1 ⟨x,H1,I1,r1,q1⟩=>thn (hb pins s1 σ H1 _ I1 q1) fun u s2 ⟨y,H2,I2,r2,q2⟩=>
  thn (ho pins s2 σ H2 x y v u _ I2 r1 r2 q2) fun c s3 ⟨z,H3,I3,r3,k,e,q3⟩=>?_) hm
 subst e
 cases r3
 exact wpAny_truthy_bool ⟨H3,I3,q3⟩
def QDn(r r':R2)(ta tb tc:TE):TE:=fun σ H Q=>ta σ H fun x H1=>tb σ H1 fun y H2=>r x y H2 fun z H3=>∃ k,z=.bl k/\
 (if k=true then tc σ H3 fun w' H4=>r' y w' H4 Q else Q (.bl false) H3)
theorem QMy{op op':CmpOp}{r r':R2}(ho:OpR X (compareOp op) r)(ho':OpR X (compareOp op') r')(ha:PE X a ta)(hb:PE X b tb)(hc:PE X c tc)
 (hm:lastMarks [op,op'] [b,c]=false:=by with_unfolding_all rfl):PE X (.Compare a [op,op'] [b,c] pos) (QDn r r' ta tb tc):=by
 intro pins s σ H Q I h
 refine Compare_chain (thn (ha pins s σ H _ I h) fun v s1 ⟨x,H1,I1,r1,q1⟩=>chain_link (thn (hb pins s1 σ H1 _ I1 q1) fun u s2 ⟨y,H2,I2,r2,q2⟩=>
  thn (ho pins s2 σ H2 x y v u _ I2 r1 r2 q2) fun d s3 ⟨z,H3,I3,r3,k,e,q3⟩=>?_)) hm
 subst e
 cases r3
 refine wpAny_truthy_bool ?_
 cases k with
 | false=>exact ite_ff ⟨.bl false,H3,I3,rfl,q3⟩
 | true=>exact ite_tt (chain_last (thn (hc pins s3 σ H3 _ I3 q3) fun w' s4 ⟨z',H4,I4,r4,q4⟩=>ho' pins s4 σ H4 y z' u w' Q I4 r2 r4 q4))
theorem QL8{op op':CmpOp}{r r':R2}(ho:OpR X (compareOp op) r)(ho':OpR X (compareOp op') r')(ha:PE X a ta)(hb:PE X b tb)(hc:PE X c tc)
 (hm:lastMarks [op,op'] [b,c]=false:=by with_unfolding_all rfl):PT X (.Compare a [op,op'] [b,c] pos) (tTest (QDn r r' ta tb tc)):=by
 intro pins s σ H Q I h
 refine isTrue_chain (thn (ha pins s σ H _ I h) fun v s1 ⟨x,H1,I1,r1,q1⟩=>test_link (thn (hb pins s1 σ H1 _ I1 q1) fun u s2 ⟨y,H2,I2,r2,q2⟩=>
  thn (ho pins s2 σ H2 x y v u _ I2 r1 r2 q2) fun d s3 ⟨z,H3,I3,r3,k,e,q3⟩=>?_)) hm
 subst e
 cases r3
 refine wpAny_truthy_bool ?_
 cases k with
 | false=>
  obtain⟨k',e',q'⟩:=q3
  cases e'
  exact ite_ff ⟨H3,I3,q'⟩
 | true=>
  refine ite_tt (test_last (thn (hc pins s3 σ H3 _ I3 q3) fun w' s4 ⟨z',H4,I4,r4,q4⟩=>thn (ho' pins s4 σ H4 y z' u w' _ I4 r2 r4 q4) fun d' s5 ⟨z2,H5,I5,r5,k2,e2,q5⟩=>?_))
  subst e2
  cases r5
  exact wpAny_truthy_bool ⟨H5,I5,q5⟩
theorem QoD:(sizeLine:Nat)<2 ^ 63:=by rw[sizeLine_eq];decide
theorem QIB:OpR X (binaryOp .Add) (fun x y H Q=>∃ i j,x=.str i/\y=.str j/\i.length+j.length<=sizeLine/\Q (.str (i++j)) H):=by
 intro pins s σ H x y v u Q I rx ry h
 obtain⟨i,j,rfl,rfl,hz,q⟩:=h
 obtain⟨t,rfl⟩:=rx
 obtain⟨t',rfl⟩:=ry
 exact add_str (fun t' tk=>⟨.str (i++j),H,I.tok _,⟨_,rfl⟩,q⟩) hz
theorem vals1{x:V}{us:List Value}(r:Vals [x] us):∃ u,us=[u]/\RelV x u:=by
 cases r with
 | cons r1 r2=>cases r2;exact⟨_,rfl,r1⟩
theorem vals2{x y:V}{us:List Value}(r:Vals [x,y] us):∃ u w',us=[u,w']/\RelV x u/\RelV y w':=by
 cases r with
 | cons r1 r2=>
  cases r2 with
  | cons r3 r4=>cases r4;exact⟨_,_,rfl,r1,r3⟩
theorem QJ9:CallR X (.type "int") (fun xs H Q=>(∃ i,xs=[.int i]/\Q (.int i) H)∨∃ k,xs=[.bl k]/\Q (.int (if k then 1 else 0)) H):=by
 intro pins s σ H xs us Q I r h
 rcases h with⟨i,rfl,q⟩ | ⟨k,rfl,q⟩
 ·obtain⟨u,rfl,t,rfl⟩:=vals1 r
  exact call_int_int ⟨.int i,H,I,⟨_,rfl⟩,q⟩
 ·obtain⟨u,rfl,r1⟩:=vals1 r
  cases r1
  exact call_int_bool ⟨.int (if k then 1 else 0),H,I.tok _,⟨_,rfl⟩,q⟩
end
end L2
namespace L2
open PySem PySem.Spec PyProof.Rows
structure ObjM(h:Heap)(x dx C:Addr)(mA:Str->Option Value):Prop where
 obj:h.get? x=some (PySem.W.instObj C dx)
 ns:h.Ns1 dx mA
 ne:dx≠x
theorem QKp{h:Heap}{dx:Addr}{mA:Str->Option Value}(n:h.Ns1 dx mA):∃ od,h.get? dx=some od/\∀ name,PySem.W.lookIn name od=some (mA name):=by
 obtain⟨o,es,ep,ho,hd,hk,_,hm⟩:=n
 refine⟨o,ho,fun name=>?_⟩
 have e:=hm name
 unfold nsFind findBy at e
 rw[← Array.find?_toList]at e
 unfold PySem.W.lookIn
 rw[hd]
 dsimp only
 split
 ·rename_i y q
  rw[q]at e
  exact congrArg some e
 ·rename_i q
  rw[q]at e
  have a:es.toList.any (·.refKey)=false:=by
   rw[List.any_eq_false]
   intro y hy
   obtain⟨z,t,hkey⟩:=hk y (Array.mem_toList_iff.mp hy)
   simp[DictEntry.refKey,hkey]
  have a':¬ es.toList.any (·.refKey)=true:=by rw[a];exact Bool.false_ne_true
  rw[if_neg a']
  exact congrArg some e
theorem ObjM.look{h:Heap}{x dx C:Addr}{mA:Str->Option Value}(I:ObjM h x dx C mA):∃ od,PySem.W.InstAt h x (PySem.W.instObj C dx) C (some od)/\∀ name,PySem.W.lookIn name od=some (mA name):=
 let ⟨od,ho,hl⟩:=QKp I.ns
 ⟨od,⟨I.obj,rfl,rfl,ho⟩,hl⟩
section
variable{prog:Program}{w:World}{A:Around}{E:Value->Shared->Prop}{s:Shared}{K:PySem.W.Frag}{x dx C f:Addr}{mA:Str->Option Value}{name:Str}{v:Value}
theorem QNN{expr:Bool}{Q:Value->Shared->Prop}(X:K.In s.heap)(I:ObjM s.heap x dx C mA)(hg:PySem.W.plainGet K C name=true)(hh:PySem.W.hasDictIn K C=true)
 (ha:PySem.W.findIn K (.ref C) name=some none) (hv:mA name=some v) (hv':PySem.W.handedIn v=true) (h:Q v { s with toks:=s.toks+1 }):
 wpAny (model prog w) A (getAttr (.ref x) name expr) Q E s:=by
 obtain⟨od,J,hl⟩:=I.look
 exact PySem.W.get_value X J (PySem.W.plainGet_of hg).1 (PySem.W.findObj_own hh ha rfl (by rw[hl,hv])) hv' h
theorem QMh{pl:Sem Bool}{Q:Value×List Value->Shared->Prop}(X:K.In s.heap)(I:ObjM s.heap x dx C mA)(hg:PySem.W.plainGet K C name=true)
 (hf:PySem.W.findIn K (.ref C) name=some (some (.ref f))) (ht:PySem.W.isFn K (.ref f)=true) (hv:mA name=none) (h:Q (.ref f,[.ref x]) s):
 wpAny (model prog w) A (getMethod (.ref x) name pl) Q E s:=by
 obtain⟨od,J,hl⟩:=I.look
 exact PySem.W.method_fn X J (PySem.W.plainGet_of hg).1 (PySem.W.plainGet_of hg).2 hf (beq_iff_eq.mp ht) (by show(PySem.W.lookIn name od).map (·.isSome)=some false;rw[hl,hv];rfl) h
theorem QNS{ns:List Str}{Q:Unit->Shared->Prop}(X:K.In s.heap)(I:ObjM s.heap x dx C mA)
 (hs:PySem.W.findIn K (.ref C) "__setattr__"=some (some (.builtin "object.__setattr__"))) (hp:PySem.W.plainOver K C=true) (ht:PySem.W.takerIn K C name=some none) (hh:PySem.W.hasDictIn K C=true)
 (hw:PySem.Within mA ns) (hsz:ns.length<=sizeLine)
 (h:∀ h',ObjM h' x dx C (fun y=>if y=name then some v else mA y)->Heap.SameBut dx s.heap h'->Q () { s with heap:=h',toks:=s.toks+2 }):
 wpAny (model prog w) A (setAttr (.ref x) name v) Q E s:=by
 obtain⟨od,J,hl⟩:=I.look
 refine PySem.W.set_plain X J hs (PySem.W.osa_open (s:={ s with toks:=s.toks+1 }) (r:=none) X J hp ht fun b=>?_)
 obtain⟨cd,hc,hd'⟩:=PySem.W.any_some hh
 have hx:s.heap.get? x=some ⟨.ref C,some dx,.plain, #[]⟩:=I.obj
 refine wpAny_bind (wpAny_pure (wpAny_bind (wpAny_bind (wpAny_loadPart hx (wpAny_bind (PySem.W.Looks.here (s:={ s with toks:=s.toks+1 }) (PySem.W.looks_clsIn X hc) ?_))))))
 rw[hd']
 refine wpAny_pure (a:=some dx) (wpAny_bind (wpAny_pure (wpAny_bind ?_)))
 refine wpAny_nsSet1 (s:={ s with toks:=s.toks+1 }) I.ns fun h' hn2 hs2=>?_
 obtain⟨oD,esD,epD,hoD,hdD,hcD⟩:=hn2.count (PySem.Within.cons name v hw)
 refine wpAny_bind (wpAny_lookBehind hoD (by rw[hdD];exact pastItsLine_dict (Nat.le_trans hcD (by rw[List.length_cons];omega))) ?_)
 exact wpAny_pure (h _ ⟨(hs2.2 _ (Ne.symm I.ne)).trans I.obj,hn2,I.ne⟩ hs2)
theorem QLU{R:Result->Shared->Prop}{vs:List Value}{kw:List (Str×Value)}(X:K.In s.heap)(hm:PySem.W.makesIn K C=true)
 (hi:PySem.W.findIn K (.ref C) "__init__"=some (some (.ref f))) (hf:PySem.W.typeIn K (.ref f)=some (.type "function"))
 (h:codeAny (model prog w) (A.under (.builtin "type.__call__" ⟨.ref C::vs,kw⟩)) (.call (.ref f) ⟨.ref (s.heap.objs.size+1)::vs,kw⟩) (PySem.W.InitBack (s.heap.objs.size+1) R)
  { s with heap:=(s.heap.push PySem.W.emptyDict).push (PySem.W.instObj C s.heap.objs.size) }):
 codeAny (model prog w) A (.call (.ref C) ⟨vs,kw⟩) R s:=by
 obtain⟨hh,g,d,t,os⟩:=s
 exact PySem.W.make_core (PySem.W.makes_of X hm) (PySem.W.looks_findIn X hi) (fun self=>PySem.W.bind_fn X self hf) (.inl rfl) h
end
def putF(f:Str)(v:V):List (Str×V)->List (Str×V)
 | []=>[(f,v)]
 | (g,x)::r=>if g=f then(g,v)::r else(g,x)::putF f v r
theorem Qt3(f g:Str)(v:V):∀ fs:List (Str×V),(putF f v fs).lookup g=if g=f then some v else fs.lookup g
 | []=>by
  show List.lookup g [(f,v)]=_
  by_cases h:g=f
  ·have hb:(g == f)=true:=beq_iff_eq.mpr h
   simp only[List.lookup,hb,if_pos h]
  ·have hb:(g == f)=false:=beq_eq_false_iff_ne.mpr h
   simp only[List.lookup,hb,if_neg h]
 | (k,x)::r=>by
  have ih:=Qt3 f g v r
  rw[show putF f v ((k,x)::r)=(if k=f then(k,v)::r else(k,x)::putF f v r) from rfl]
  by_cases hk:k=f
  ·rw[if_pos hk]
   by_cases h:g=k
   ·have hb:(g == k)=true:=beq_iff_eq.mpr h
    simp only[List.lookup,hb,if_pos (h.trans hk)]
   ·have hb:(g == k)=false:=beq_eq_false_iff_ne.mpr h
    simp only[List.lookup,hb,if_neg (fun e:g=f=>h (e.trans hk.symm))]
  ·rw[if_neg hk]
   by_cases h:g=k
   ·have hb:(g == k)=true:=beq_iff_eq.mpr h
    simp only[List.lookup,hb,if_neg (fun e:g=f=>hk (h.symm.trans e))]
   ·have hb:(g == k)=false:=beq_eq_false_iff_ne.mpr h
    simp only[List.lookup,hb]
    exact ih
theorem QrX(f:Str)(v:V):∀ fs:List (Str×V),f∈(putF f v fs).map (·.1)/\∀ g,g∈fs.map (·.1)->g∈(putF f v fs).map (·.1)
 | []=>⟨by simp[putF],fun g h=>by simp at h⟩
 | (k,x)::r=>by
  obtain⟨i1,i2⟩:=QrX f v r
  rw[show putF f v ((k,x)::r)=(if k=f then(k,v)::r else(k,x)::putF f v r) from rfl]
  by_cases hk:k=f
  ·rw[if_pos hk]
   subst hk
   exact⟨by simp,fun g h=>by simpa using h⟩
  ·rw[if_neg hk]
   refine⟨?_,fun g h=>?_⟩
   ·rw[List.map_cons]
    exact List.mem_cons_of_mem _ i1
   ·rw[List.map_cons]at h ⊢
    rcases List.mem_cons.mp h with e | e
    ·exact List.mem_cons.mpr (.inl e)
    ·exact List.mem_cons_of_mem _ (i2 g e)
theorem Qt6(f:Str)(v:V):∀ fs:List (Str×V),(putF f v fs).length<=fs.length+1
 | []=>by simp[putF]
 | (k,x)::r=>by
  have ih:=Qt6 f v r
  rw[show putF f v ((k,x)::r)=(if k=f then(k,v)::r else(k,x)::putF f v r) from rfl]
  by_cases hk:k=f
  ·rw[if_pos hk,List.length_cons,List.length_cons];omega
  ·rw[if_neg hk,List.length_cons,List.length_cons];omega
theorem RelO.some_of{v:V}{o:Option Value}(r:RelO (some v) o):∃ u,o=some u/\RelV v u:=by
 cases o with
 | none=>exact(show False from r).elim
 | some u=>exact⟨u,rfl,r⟩
theorem RelO.none_of{o:Option Value}(r:RelO none o):o=none:=by
 cases o with
 | none=>rfl
 | some u=>exact(show False from r).elim
theorem QJZ{v:V}{u:Value}(r:RelV v u):PySem.W.handedIn u=true:=by
 cases v with
 | non=>cases (show u=Value.none from r);rfl
 | bl b=>cases (show u=Value.bool b from r);rfl
 | int i=>obtain⟨t,e⟩:=(show ∃ t,u=Value.int i t from r);cases e;rfl
 | str x=>obtain⟨t,e⟩:=(show ∃ t,u=Value.str x t from r);cases e;rfl
 | byt b=>obtain⟨t,e⟩:=(show ∃ t,u=Value.bytes b t from r);cases e;rfl
 | flt b=>obtain⟨t,e⟩:=(show ∃ t,u=Value.float b t from r);cases e;rfl
 | ref a=>cases (show u=Value.ref a from r);rfl
 | ty n=>cases (show u=Value.type n from r);rfl
section
variable{P:Program}{w:World}{H H':Hp}{h h':Heap}{a C dx:Addr}{fs fs':List (Str×V)}
theorem QoK(hok:HOk P w H h)(e:H a=some (.ins C dx fs)):∃ mA,ObjM h a dx C mA/\(∀ f,RelO (fs.lookup f) (mA f))/\PySem.Within mA (fs.map (·.1))/\fs.length<=1000/\H dx=some (.own a):=by
 obtain⟨d,z,ne,ob,mA,n,r,q⟩:=(show ObjOk P w H h a (.ins C dx fs) from hok a _ e)
 exact⟨mA,⟨ob,n,ne⟩,r,q,z,d⟩
end
structure Cls(K:PySem.W.Frag)(C:Addr):Prop where
 pg:PySem.W.plainGet K C Str.empty=true
 hd:PySem.W.hasDictIn K C=true
 po:PySem.W.plainOver K C=true
 sa:PySem.W.findIn K (.ref C) "__setattr__"=some (some (.builtin "object.__setattr__"))
theorem Cls.get{K:PySem.W.Frag}{C:Addr}(c:Cls K C)(f:Str):PySem.W.plainGet K C f=true:=c.pg
def Qk7(K:PySem.W.Frag)(C:Addr)(f:Str):Prop:=PySem.W.findIn K (.ref C) f=some none
theorem Qk7.taker{K:PySem.W.Frag}{C:Addr}{f:Str}(n:Qk7 K C f):PySem.W.takerIn K C f=some none:=by
 unfold PySem.W.takerIn
 rw[show PySem.W.findIn K (.ref C) f=some none from n]
 rfl
structure Meth(K:PySem.W.Frag)(C:Addr)(m:Str)(f:Addr):Prop where
 at_:PySem.W.findIn K (.ref C) m=some (some (.ref f))
 fn:PySem.W.isFn K (.ref f)=true
 kp:PySem.W.keepIn K (.ref f)=true
section
variable{X:Cx}{pins:List (Addr×Obj)}{σ:St}{H:Hp}{s:Shared}{a C dx:Addr}{fs:List (Str×V)}{f:Str}{v:V}{A:Around}{E:Value->Shared->Prop}
theorem QIr{b:Bool}{Q:Value->Shared->Prop}(I:Inv X pins σ H s)(e:H a=some (.ins C dx fs))(c:Cls X.K C)(n:Qk7 X.K C f)(l:fs.lookup f=some v)
 (h:∀ u s',Inv X pins σ H s'->RelV v u->Q u s'):wpAny (model X.prog X.w) A (getAttr (.ref a) f b) Q E s:=by
 obtain⟨mA,O,r,_,_,_⟩:=QoK I.hok e
 obtain⟨u,hu,ru⟩:=RelO.some_of (v:=v) (o:=mA f) (by rw[← l];exact r f)
 exact QNN I.kIn O (c.get f) c.hd n hu (QJZ ru) (h u _ (I.tok _) ru)
theorem QwY{m:Str}{g:Addr}{pl:Sem Bool}{Q:Value×List Value->Shared->Prop}(I:Inv X pins σ H s)(e:H a=some (.ins C dx fs))(c:Cls X.K C)(k:Meth X.K C m g)(l:fs.lookup m=none)
 (h:Q (.ref g,[.ref a]) s):wpAny (model X.prog X.w) A (getMethod (.ref a) m pl) Q E s:=by
 obtain⟨mA,O,r,_,_,_⟩:=QoK I.hok e
 have hn:mA m=none:=RelO.none_of (by rw[← l];exact r m)
 exact QMh I.kIn O (c.get m) k.at_ k.fn hn h
theorem QJD{y:V}{u:Value}{Q:Unit->Shared->Prop}(I:Inv X pins σ H s)(e:H a=some (.ins C dx fs))(c:Cls X.K C)(n:Qk7 X.K C f)(hl:fs.length<1000)(ry:RelV y u)
 (h:∀ s',Inv X pins σ (upd H a (.ins C dx (putF f y fs))) s'->Q () s'):wpAny (model X.prog X.w) A (setAttr (.ref a) f u) Q E s:=by
 obtain⟨mA,O,r,wi,_,ho⟩:=QoK I.hok e
 have hz:(fs.map (·.1)).length<=sizeLine:=by rw[List.length_map,sizeLine_eq];omega
 refine QNS I.kIn O c.sa c.po n.taker c.hd wi hz fun h' O' sb=>h _ ?_
 have hd:∃ o,h'.get? dx=some o:=let ⟨o,_,_,e',_⟩:=O'.ns;⟨o,e'⟩
 refine I.write (x:=a) (e:=dx) (by rw[e];exact True.intro) (.inr ho) (fun b q hb z=>(sb.2 b hb).trans z) hd ?_
 refine⟨by rw[Qk O.ne];exact ho,?_,O.ne,O'.obj,_,O'.ns,fun g=>?_,fun g hg=>?_⟩
 ·have:=Qt6 f y fs;omega
 ·show RelO ((putF f y fs).lookup g) (if g=f then some u else mA g)
  rw[Qt3]
  by_cases q:g=f
  ·rw[if_pos q,if_pos q];exact ry
  ·rw[if_neg q,if_neg q];exact r g
 ·by_cases q:g=f
  ·rw[q];exact(QrX f y fs).1
  ·refine(QrX f y fs).2 g (wi g fun z=>hg ?_)
   show(if g=f then some u else mA g)=none
   rw[if_neg q];exact z
theorem Inv.made(I:Inv X pins σ H s):Inv X pins σ (upd (upd H s.heap.objs.size (.own (s.heap.objs.size+1))) (s.heap.objs.size+1) (.ins C s.heap.objs.size []))
 { s with heap:=(s.heap.push PySem.W.emptyDict).push (PySem.W.instObj C s.heap.objs.size) }:=by
 have e1:(s.heap.push PySem.W.emptyDict).get? s.heap.objs.size=some PySem.W.emptyDict:=Heap.get?_push_size s.heap rfl
 have e2:((s.heap.push PySem.W.emptyDict).push (PySem.W.instObj C s.heap.objs.size)).get? (s.heap.objs.size+1)=some (PySem.W.instObj C s.heap.objs.size):=by
  have:=Heap.get?_push_size (s.heap.push PySem.W.emptyDict) (o:=PySem.W.instObj C s.heap.objs.size) rfl
  rwa [Heap.size_push]at this
 have e3:(s.heap.push PySem.W.emptyDict).Ns s.heap.objs.size (fun _=>none):=⟨PySem.W.emptyDict, #[],_,e1,rfl,(fun e he=>absurd he (by simp)),fun _=>rfl⟩
 have I1:=I.laid (a:=s.heap.objs.size) (o:=.own (s.heap.objs.size+1)) (h':=s.heap.push PySem.W.emptyDict) (t':=s.toks) (fun b u q=>Heap.get?_push_of_some _ q) (Nat.le_refl _) ⟨_,e1⟩
 refine I1.laid (a:=s.heap.objs.size+1) (o:=.ins C s.heap.objs.size []) (t':=s.toks) (fun b u q=>Heap.get?_push_of_some _ q) (Nat.le_of_eq (Heap.size_push _ _)) ?_
 have ne:s.heap.objs.size≠s.heap.objs.size+1:=Nat.ne_of_lt (Nat.lt_succ_self _)
 refine⟨by rw[Qk ne,QG],Nat.zero_le _,ne,e2,fun _=>none,(Heap.Ns1.of_empty e3).at fun o q=>Heap.get?_push_of_some _ q,fun _=>True.intro,fun y hy=>absurd rfl hy⟩
theorem QNr{prog:Program}{w:World}{env:Env}{e:Expr}{f:Str}{pos:Pos}{s:Shared}{Q:Value->Shared->Prop}(hb:attributeBase e f env (eval e env)=eval e env)
 (h:wpAny (model prog w) A (eval e env) (fun o s₁=>wpAny (model prog w) A (getAttr o f true) Q E s₁) E s):wpAny (model prog w) A (eval (.Attribute e f pos) env) Q E s:=
 Attribute_any_ h (by rw[arm_eval_Attribute,hb])
end
def tFld(K:PySem.W.Frag)(ta:TE)(f:Str):TE:=fun σ H Q=>ta σ H fun x H1=>∃ a C dx fs v,x=.ref a/\H1 a=some (.ins C dx fs)/\Cls K C/\Qk7 K C f/\fs.lookup f=some v/\Q v H1
def sFld(K:PySem.W.Frag)(ta tv:TE)(f:Str):TS:=fun D σ H=>tv σ H fun y H1=>ta σ H1 fun x H2=>∃ a C dx fs,x=.ref a/\H2 a=some (.ins C dx fs)/\Cls K C/\Qk7 K C f/\fs.length<1000/\
 D.nx σ (upd H2 a (.ins C dx (putF f y fs)))
section
variable{X:Cx}{o e value:Expr}{f:Str}{pos pos' tpos:Pos}{ta tv:TE}
theorem QOi(he:PE X e ta)(hb:attributeBase e f X.env (eval e X.env)=eval e X.env):PE X (.Attribute e f pos) (tFld X.K ta f):=by
 intro pins s σ H Q I h
 refine QNr hb (thn (he pins s σ H _ I h) fun u s1 ⟨x,H1,I1,rx,a,C,dx,fs,v,ex,ea,c,n,l,q⟩=>?_)
 subst ex
 obtain rfl:u=Value.ref a:=rx
 exact QIr I1 ea c n l fun u' s2 I2 ru=>⟨v,H1,I2,ru,q⟩
theorem QOR(ha:PE X o ta)(hv:PE X value tv)(hs:swapsWith value (some (.Attribute o f pos')) pos.line X.env=pure false):PS X (.Assign [.Attribute o f pos'] value pos) (sFld X.K ta tv f):=by
 intro pins s σ H D I h
 refine plainObj_wpAny_Assign_Attribute (thn (hv pins s σ H _ I h) fun u s1 ⟨y,H1,I1,ry,q⟩=>thn (ha pins s1 σ H1 _ I1 q) fun ov s2 ⟨x,H2,I2,rx,a,C,dx,fs,ex,ea,c,n,l,q2⟩=>?_) hs
 subst ex
 obtain rfl:ov=Value.ref a:=rx
 exact QJD I2 ea c n l ry fun s3 I3=>⟨σ,_,I3,q2⟩
end
section
variable{X:Cx}{pins:List (Addr×Obj)}{σ:St}{H:Hp}{s:Shared}{A:Around}{E:Value->Shared->Prop}{Q:Value->Shared->Prop}{c:Value}{b:Bool}
end
end L2
namespace L2
open PySem PySem.Spec PyProof.Rows
structure Room(k:Nat)(A:Around):Prop where
 hd:A.handled=none
 dp:A.depth+3 * k+5<recursionLimit
 un:A.units+16 * k+200<cLine
theorem Room.mono{j k:Nat}{A:Around}(r:Room k A)(h:j<=k):Room j A:=⟨r.hd,by have:=r.dp;omega,by have:=r.un;omega⟩
theorem Room.deeper{k:Nat}{A:Around}(r:Room (k+1) A)(env:Env):Room k (A.deeper env):=
 ⟨r.hd,by have:=r.dp;show A.depth+1+3 * k+5<_;omega,by have:=r.un;show A.units+3+16 * k+200<_;omega⟩
theorem QH2{A:Around}{C:Addr}{us:List Value}{kw:List (Str×Value)}:(A.under (.builtin "type.__call__" ⟨.ref C::us,kw⟩)).depth=A.depth+1:=by
 first | rfl | simp[Around.under,Code.weight,Code.isCreation,Code.isGuard,Code.isCaller,Code.frames,Code.isFrame,guardIds]
theorem QHT{A:Around}{C:Addr}{us:List Value}{kw:List (Str×Value)}:(A.under (.builtin "type.__call__" ⟨.ref C::us,kw⟩)).units=A.units+1:=by
 first | rfl | simp[Around.under,Code.cUnits,Code.frames,Code.isFrame]
theorem Room.make{k:Nat}{A:Around}(r:Room (k+1) A)(C:Addr)(us:List Value)(kw:List (Str×Value)):Room k (A.under (.builtin "type.__call__" ⟨.ref C::us,kw⟩)):=
 ⟨r.hd,by have:=r.dp;rw[QH2];omega,by have:=r.un;rw[QHT];omega⟩
theorem Room.depth{k:Nat}{A:Around}(r:Room k A):A.depth<recursionLimit:=by have:=r.dp;omega
theorem Room.units{k:Nat}{A:Around}(r:Room k A):A.units+64<cLine:=by have:=r.un;omega
def tNil:TA:=fun _ H Q=>Q [] H
def tCons(ta:TE)(tr:TA):TA:=fun σ H Q=>ta σ H fun x H1=>tr σ H1 fun xs H2=>Q (x::xs) H2
section
variable{X:Cx}{e:Expr}{es:List Expr}{te:TE}{t:TA}{pos:Pos}
theorem Qc6:PA X [] tNil:=fun _ _ _ _ H Q I h=>Calls.spliced_nil ⟨[],H,I,.nil,h⟩
theorem Qbh(ha:PE X e te)(hr:PA X es t)(hs:starEach (e::es) X.env=(false,eval e X.env)::starEach es X.env:=by rfl):PA X (e::es) (tCons te t):=by
 intro pos pins s σ H Q I h
 rw[hs]
 show wpAny _ _ (spliced ((false,eval e X.env)::backTo pos (starEach es X.env))) _ _ s
 refine Calls.spliced_cons (thn (ha pins s σ H _ I h) fun u s1 ⟨x,H1,I1,r1,q1⟩=>?_)
 exact thn (hr pos pins s1 σ H1 _ I1 q1) fun us s2 ⟨xs,H2,I2,r2,q2⟩=>⟨x::xs,H2,I2,.cons r1 r2,q2⟩
def tTup(t:TA):TE:=fun σ H Q=>t σ H fun xs H1=>xs.length<=sizeLine/\∀ p,H1 p=none->Q (.ref p) (upd H1 p (.tup xs))
def tLst(t:TA):TE:=fun σ H Q=>t σ H fun xs H1=>xs.length<=sizeLine/\∀ p,H1 p=none->Q (.ref p) (upd H1 p (.lst xs))
theorem QCO{x1}(h:PA X es t):PE X (.Tuple es x1 pos) (tTup t):=by
 intro pins s σ H Q I hq
 refine wpAny_Tuple_spliced (thn (h pos pins s σ H _ I hq) fun us s1 ⟨xs,H1,I1,r,z,q⟩=>⟨by rw[← r.length];exact z,?_⟩)
 have hf:H1 s1.heap.objs.size=none:=I1.hok.fresh (Nat.le_refl _)
 refine⟨.ref s1.heap.objs.size,upd H1 s1.heap.objs.size (.tup xs),I1.laid (t':=s1.toks) (fun b u e=>Heap.get?_push_of_some _ e) (Nat.le_refl _) ?_,rfl,q _ hf⟩
 exact⟨z,us,r,⟨_,Heap.get?_push_size _ rfl,rfl,_,rfl⟩⟩
theorem QOU(h:PA X es t):PE X (.List es pos) (tLst t):=by
 intro pins s σ H Q I hq
 refine wpAny_List_spliced (thn (h pos pins s σ H _ I hq) fun us s1 ⟨xs,H1,I1,r,z,q⟩=>⟨by rw[← r.length];exact z,?_⟩)
 have hf:H1 s1.heap.objs.size=none:=I1.hok.fresh (Nat.le_refl _)
 refine⟨.ref s1.heap.objs.size,upd H1 s1.heap.objs.size (.lst xs),I1.laid (t':=s1.toks) (fun b u e=>Heap.get?_push_of_some _ e) (Nat.le_refl _) ?_,rfl,q _ hf⟩
 exact⟨z,us,0,r,Heap.get?_push_size _ rfl⟩
end
abbrev Sp:=List V->Hp->VK->XK->Prop
abbrev CXT:=List Env->Hp->Shared->XK->Value->Shared->Prop
structure Env0(P:Program)(w:World)(K:PySem.W.Frag)(mg:Str->Option Value)(base:Heap)(A:Around)(outer:List Env)(s:Shared)(H:Hp):Prop where
 frames:A.frames=some outer
 mod:Mod K mg base
 bs:∀ b o,base.get? b=some o->s.heap.get? b=some o/\H b=none
 bsz:base.objs.size<=s.heap.objs.size
 funs:s.heap.FunFrames base outer
 frf:∀ b∈frs outer,H b=none
 hok:HOk P w H s.heap
 bare:AllBare s.gens
def CE(outer:List Env)(P:Program)(w:World)(H:Hp)(s:Shared)(Q:VK)(u:Value)(s':Shared):Prop:=
 ∃ v H',s'.os=s.os/\AllBare s'.gens/\Un (frs outer) [] H H' s.heap s'.heap/\HOk P w H' s'.heap/\RelV v u/\Q v H'
def CR(CX:CXT)(outer:List Env)(P:Program)(w:World)(H:Hp)(s:Shared)(Q:VK)(E:XK)(r:Result)(s':Shared):Prop:=
 match r with
 | .ok (.ret u)=>CE outer P w H s Q u s'
 | .ok _=>False
 | .error e=>CX outer H s E e s'
structure FnOk(P:Program)(w:World)(K:PySem.W.Frag)(mg:Str->Option Value)(base:Heap)(CX:CXT)(k:Nat)(f:Addr)(fd:FuncData)(ps:List Str)(sp:Sp):Prop where
 len:∀ vs H Q E,sp vs H Q E->vs.length=ps.length
 run:∀(A:Around)(outer:List Env)(s:Shared)(H:Hp)(args:Args)(us:List Value)(vs:List V)(Q:VK)(E:XK),Room k A->Env0 P w K mg base A outer s H->BindsTo s fd args (ps.zip us)->Vals vs us->sp vs H Q E->
  codeAny (model P w) A (.call (.ref f) args) (CR CX outer P w H s Q E) s
theorem FnOk.mono{P:Program}{w:World}{K:PySem.W.Frag}{mg:Str->Option Value}{base:Heap}{CX:CXT}{j k:Nat}{f:Addr}{fd:FuncData}{ps:List Str}{sp:Sp}(F:FnOk P w K mg base CX j f fd ps sp)(h:j<=k):
 FnOk P w K mg base CX k f fd ps sp:=⟨F.len,fun A outer s H args us vs Q E hr=>F.run A outer s H args us vs Q E (hr.mono h)⟩
theorem Env0.make{P:Program}{w:World}{K:PySem.W.Frag}{mg:Str->Option Value}{base:Heap}{A:Around}{outer:List Env}{s:Shared}{H:Hp}(e:Env0 P w K mg base A outer s H)(C:Addr)(us:List Value)(kw:List (Str×Value)):
 Env0 P w K mg base (A.under (.builtin "type.__call__" ⟨.ref C::us,kw⟩)) outer s H:=⟨by first | exact e.frames | (simpa [Around.under,Code.envs,Code.isFrame,pushEnvs] using e.frames),e.mod,e.bs,e.bsz,e.funs,e.frf,e.hok,e.bare⟩
section
variable{X:Cx}{pins:List (Addr×Obj)}{σ:St}{H:Hp}{s s':Shared}
theorem Inv.env0(I:Inv X pins σ H s):Env0 X.prog X.w X.K X.mg X.base X.A X.stack s H:=
 ⟨I.ok.frames,I.ok.mod,I.bs,Nat.le_trans I.ok.bsz I.sz,I.stack,I.stkFree,I.hok,I.bare⟩
theorem Inv.after{Q:VK}{u:Value}(I:Inv X pins σ H s)(h:CE X.stack X.prog X.w H s Q u s'):EP X pins σ Q u s':=by
 obtain⟨v,H',os,bare,un,hok,r,q⟩:=h
 obtain⟨hh,g,d,t,os'⟩:=s'
 obtain rfl:os'=s.os:=os
 exact⟨v,H',I.call (h':=hh) (g':=g) (d':=d) (t':=t) (ch:=[]) un hok bare (fun b z=>absurd z (by simp)),r,q⟩
end
def tCall(sp:Sp)(dvs:List V)(E:XK)(t:TA):TE:=fun σ H Q=>t σ H fun vs H1=>sp (vs++dvs) H1 Q E
def tMake(C:Addr)(sp:Sp)(dvs:List V)(E:XK)(t:TA):TE:=fun σ H Q=>t σ H fun vs H1=>∀ x dx,H1 x=none->H1 dx=none->dx≠x->
 sp (.ref x::(vs++dvs)) (upd (upd H1 dx (.own x)) x (.ins C dx [])) (fun v H2=>v=.non/\Q (.ref x) H2) E
def Binds(K:PySem.W.Frag)(fd:FuncData)(ps:List Str)(ds:List Value):Prop:=
 ∀(s:Shared)(us:List Value),K.In s.heap->(us++ds).length=ps.length->BindsTo s fd ⟨us,[]⟩ (ps.zip (us++ds))
theorem Binds.all{K:PySem.W.Frag}{fd:FuncData}{ps:List Str}(h:∀ us:List Value,us.length=ps.length->bindArgs fd ⟨us,[]⟩=pure (ps.zip us)):Binds K fd ps []:=fun s us _ hl=>by
 rw[List.append_nil]at hl ⊢
 exact .of_eq (h us hl)
def Qhd(CX:CXT)(X:Cx)(E:XK):Prop:=∀(pins:List (Addr×Obj))(σ:St)(H:Hp)(s:Shared)(e:Value)(s':Shared),Inv X pins σ H s->CX X.stack H s E e s'->X.xe e s'
section
variable{X:Cx}{CX:CXT}{k:Nat}{f C:Addr}{fd:FuncData}{ps:List Str}{sp:Sp}{dvs:List V}{ds:List Value}{E:XK}{x m:Str}{p pos apos:Pos}{e o:Expr}{es:List Expr}{ta:TE}{t:TA}
theorem QBd{pins:List (Addr×Obj)}{σ:St}{H:Hp}{s:Shared}{Q:VK}{us:List Value}{vs:List V}(F:FnOk X.prog X.w X.K X.mg X.base CX k f fd ps sp)(hr:Room k X.A)(hb:Binds X.K fd ps ds)(hd:Vals dvs ds)(hx:Qhd CX X E)
 (I:Inv X pins σ H s) (r:Vals vs us) (h:sp (vs++dvs) H Q E):wpAny (model X.prog X.w) X.A (call (.ref f) us) (EP X pins σ Q) X.xe s:=by
 have r2:Vals (vs++dvs) (us++ds):=r.append hd
 have hl:(us++ds).length=ps.length:=by rw[← r2.length];exact F.len _ _ _ _ h
 refine wpAny_call (codeAny_mono (F.run X.A X.stack s H ⟨us,[]⟩ (us++ds) (vs++dvs) Q E hr I.env0 (hb s us I.kIn hl) r2 h) fun r s' hq=>?_)
 cases r with
 | error e=>exact hx pins σ H s e s' I hq
 | ok fl=>
  cases fl with
  | ret u=>exact I.after hq
  | next=>exact False.elim hq
  | brk=>exact False.elim hq
  | cont=>exact False.elim hq
theorem Qtp(F:FnOk X.prog X.w X.K X.mg X.base CX k f fd ps sp)(hr:Room k X.A)(hg:Gl X x)(hm:X.mg x=some (.ref f))(hk:PySem.W.keepIn X.K (.ref f)=true)(hb:Binds X.K fd ps ds)(hd:Vals dvs ds)(hx:Qhd CX X E)
 (ha:PA X (e::es) t) (hdb:(x == ("__debug__":Str))=false:=by decide) (he:starEach (e::es) X.env=(false,eval e X.env)::starEach es X.env:=by rfl) (hpl:(backTo pos (starEach es X.env)).any (·.1)=false:=by rfl):
 PE X (.Call (.Name x p) (e::es) [] pos) (tCall sp dvs E t):=by
 intro pins s σ H Q I h
 refine wpAny_Call_Name_kw (Qyx I hg hm ?_ hdb)
 refine PySem.W.callWith_K (h₀:=X.base) I.ok.mod.kin hk (thn (ha pos pins s σ H _ I h) fun us s1 ⟨vs,H1,I1,r,q⟩=>⟨I1.kIn,?_⟩) he hpl
 exact QBd F hr hb hd hx I1 r q
structure Mk(K:PySem.W.Frag)(C f:Addr):Prop where
 makes:PySem.W.makesIn K C=true
 init:PySem.W.findIn K (.ref C) "__init__"=some (some (.ref f))
 fn:PySem.W.isFn K (.ref f)=true
 kp:PySem.W.keepIn K (.ref C)=true
theorem QMr{pins:List (Addr×Obj)}{σ:St}{H:Hp}{s:Shared}{Q:VK}{us:List Value}{vs:List V}(M:Mk X.K C f)(F:FnOk X.prog X.w X.K X.mg X.base CX k f fd ps sp)(hr:Room (k+1) X.A)(hb:Binds X.K fd ps ds)(hd:Vals dvs ds)
 (hx:Qhd CX X E) (I:Inv X pins σ H s) (r:Vals vs us)
 (h:∀ x dx,H x=none->H dx=none->dx≠x->sp (.ref x::(vs++dvs)) (upd (upd H dx (.own x)) x (.ins C dx [])) (fun v H2=>v=.non/\Q (.ref x) H2) E):
 wpAny (model X.prog X.w) X.A (call (.ref C) us) (EP X pins σ Q) X.xe s:=by
 have hq:=h (s.heap.objs.size+1) s.heap.objs.size (I.hok.fresh (Nat.le_succ _)) (I.hok.fresh (Nat.le_refl _)) (Nat.ne_of_lt (Nat.lt_succ_self _))
 have I2:=Inv.made (C:=C) I
 have r2:Vals (V.ref (s.heap.objs.size+1)::(vs++dvs)) (Value.ref (s.heap.objs.size+1)::(us++ds)):=.cons rfl (r.append hd)
 have hl:(Value.ref (s.heap.objs.size+1)::us++ds).length=ps.length:=by
  have e:=r2.length
  rw[F.len _ _ _ _ hq]at e
  exact e.symm
 refine wpAny_call (QLU (f:=f) I.kIn M.makes M.init (beq_iff_eq.mp M.fn) (codeAny_mono (F.run _ X.stack _ _ ⟨Value.ref (s.heap.objs.size+1)::us,[]⟩ (Value.ref (s.heap.objs.size+1)::(us++ds)) _ _ E (hr.make C us [])
  (I2.env0.make C us []) (hb _ (Value.ref (s.heap.objs.size+1)::us) I2.kIn hl) r2 hq) fun r s' hq'=>?_))
 cases r with
 | error e=>exact hx pins σ _ _ e s' I2 hq'
 | ok fl=>
  cases fl with
  | ret u=>
   obtain⟨v,H',I3,rv,ev,q3⟩:=I2.after hq'
   subst ev
   exact⟨rv,⟨V.ref (s.heap.objs.size+1),H',I3,rfl,q3⟩⟩
  | next=>exact False.elim hq'
  | brk=>exact False.elim hq'
  | cont=>exact False.elim hq'
theorem QNt(M:Mk X.K C f)(F:FnOk X.prog X.w X.K X.mg X.base CX k f fd ps sp)(hr:Room (k+1) X.A)(hg:Gl X x)(hm:X.mg x=some (.ref C))(hb:Binds X.K fd ps ds)(hd:Vals dvs ds)(hx:Qhd CX X E)
 (ha:PA X (e::es) t) (hdb:(x == ("__debug__":Str))=false:=by decide) (he:starEach (e::es) X.env=(false,eval e X.env)::starEach es X.env:=by rfl) (hpl:(backTo pos (starEach es X.env)).any (·.1)=false:=by rfl):
 PE X (.Call (.Name x p) (e::es) [] pos) (tMake C sp dvs E t):=by
 intro pins s σ H Q I h
 refine wpAny_Call_Name_kw (Qyx I hg hm ?_ hdb)
 refine PySem.W.callWith_K (h₀:=X.base) I.ok.mod.kin M.kp (thn (ha pos pins s σ H _ I h) fun us s1 ⟨vs,H1,I1,r,q⟩=>⟨I1.kIn,?_⟩) he hpl
 exact QMr M F hr hb hd hx I1 r q
end
section
variable{X:Cx}{CX:CXT}{k:Nat}{f C:Addr}{fd:FuncData}{ps ks:List Str}{sp:Sp}{E:XK}{x m:Str}{p pos apos kpos:Pos}{e o:Expr}{es:List Expr}{kws:List Keyword}{te ta:TE}{t tk:TA}{nm:Option Str}
variable{g:List Value->List Value->List Value}{gV:List V->List V->List V}
end
structure Qq(N P:List Str)(sc:Scope):Prop where
 kind:sc.kind=.function
 co:sc.isCoroutine=false
 gen:sc.isGenerator=false
 nd:N.Nodup
 pre:N.take P.length=P
 par:∀ x∈P,sc.names.lookup x=some .local∨sc.names.lookup x=some .cell
 nofree:∀ y∈sc.names,y.2≠.free
theorem Qzh{kindOf:Str->Option NameKind}{x:Str}:∀{binds:List (Str×Value)}{m:Str->Option Value},(∀ v,(x,v)∉binds)->bindL kindOf binds m x=m x
 | [],_,_=>rfl
 | (n,v)::r,m,h=>by
  unfold bindL
  rw[Qzh fun w hw=>h w (List.mem_cons_of_mem _ hw)]
  split
  ·have:x≠n:=by rintro rfl;exact h v List.mem_cons_self
   simp[this]
  ·rfl
theorem Qy6{kindOf:Str->Option NameKind}{x:Str}:∀{binds:List (Str×Value)}{m:Str->Option Value},(∀ v,(x,v)∉binds)->bindC kindOf binds m x=m x
 | [],_,_=>rfl
 | (n,v)::r,m,h=>by
  unfold bindC
  rw[Qy6 fun w hw=>h w (List.mem_cons_of_mem _ hw)]
  split
  ·rfl
  ·have:x≠n:=by rintro rfl;exact h v List.mem_cons_self
   simp[this]
theorem Qze{kindOf:Str->Option NameKind}{x:Str}{v:Value}:∀{P:List Str}{vs:List Value}{i:Nat}{m:Str->Option Value},P.Nodup->P[i]?=some x->vs[i]?=some v->kindOf x=some .local->
 bindL kindOf (P.zip vs) m x=some v
 | [],_,_,_,_,h,_,_=>by simp at h
 | _::_,[],_,_,_,_,h,_=>by simp at h
 | p::P,w::vs,0,m,nd,h1,h2,hk=>by
  simp at h1 h2;subst h1;subst h2
  show bindL kindOf ((p,w)::P.zip vs) m p=_
  unfold bindL
  rw[Qzh fun v hv=>(List.nodup_cons.mp nd).1 (List.of_mem_zip hv).1,if_pos hk]
  simp
 | p::P,w::vs,i+1,m,nd,h1,h2,hk=>by
  show bindL kindOf ((p,w)::P.zip vs) m x=_
  unfold bindL
  exact Qze (i:=i) (List.nodup_cons.mp nd).2 (by simpa using h1) (by simpa using h2) hk
theorem Qzm{kindOf:Str->Option NameKind}{x:Str}{v:Value}:∀{P:List Str}{vs:List Value}{i:Nat}{m:Str->Option Value},P.Nodup->P[i]?=some x->vs[i]?=some v->kindOf x≠some .local->
 bindC kindOf (P.zip vs) m x=some v
 | [],_,_,_,_,h,_,_=>by simp at h
 | _::_,[],_,_,_,_,h,_=>by simp at h
 | p::P,w::vs,0,m,nd,h1,h2,hk=>by
  simp at h1 h2;subst h1;subst h2
  show bindC kindOf ((p,w)::P.zip vs) m p=_
  unfold bindC
  rw[Qy6 fun v hv=>(List.nodup_cons.mp nd).1 (List.of_mem_zip hv).1,if_neg hk]
  simp
 | p::P,w::vs,i+1,m,nd,h1,h2,hk=>by
  show bindC kindOf ((p,w)::P.zip vs) m x=_
  unfold bindC
  exact Qzm (i:=i) (List.nodup_cons.mp nd).2 (by simpa using h1) (by simpa using h2) hk
def start(N:List Str)(vs:List V):St:=vs.map some++List.replicate (N.length - vs.length) none
def cxOf(CX:CXT)(P:Program)(w:World)(K:PySem.W.Frag)(mg:Str->Option Value)(base:Heap)(N:List Str)(qual:Str)(scope:Scope)(f:Addr)(cd:Value)(A:Around)(outer:List Env)(s:Shared)(H:Hp)(E:XK):Cx where
 prog:=P
 w:=w
 K:=K
 mg:=mg
 base:=base
 A:=A.deeper (envOfC qual scope s.heap.objs.size f cd)
 N:=N
 s₀:=s
 H₀:=H
 env:=envOfC qual scope s.heap.objs.size f cd
 outer:=outer
 stack:=envOfC qual scope s.heap.objs.size f cd::outer
 ex:=[]
 calm:=true
 fn:=fun _=>true
 pn:=[]
 xe:=fun e s'=>wpAny (model P w) (A.deeper (envOfC qual scope s.heap.objs.size f cd)) (leaving (envOfC qual scope s.heap.objs.size f cd) e) (fun _ s''=>CX outer H s E e s'') (fun e' s''=>CX outer H s E e' s'') s'
theorem QCo{sc:Scope}{n:Nat}{x:Str}(h:sc.names.lookup x=some .cell):∃ c,(cellsFrom n sc.names []).lookup x=some c:=by
 have q:=PySem.W.cellsFrom_some sc.names n [] (.inl h)
 exact Option.isSome_iff_exists.mp q
theorem QKe{CX:CXT}{P:Program}{w:World}{K:PySem.W.Frag}{mg:Str->Option Value}{base:Heap}{N ps:List Str}{qual:Str}{scope:Scope}{f:Addr}{cd:Value}{A:Around}{outer:List Env}{s s1:Shared}{H:Hp}{E:XK}{us:List Value}{vs:List V}
 (S:Qq N ps scope) (hd:A.handled=none) (e0:Env0 P w K mg base A outer s H) (hl:vs.length=ps.length) (r:Vals vs us)
 (x:InCallC s s.heap.objs.size (bindL (envOfC qual scope s.heap.objs.size f cd).kindOf (ps.zip us) fun _=>none) (cellsFrom (s.heap.objs.size+1) scope.names []) (bindC (envOfC qual scope s.heap.objs.size f cd).kindOf (ps.zip us) fun _=>none) s1):
 Inv (cxOf CX P w K mg base N qual scope f cd A outer s H E) [] (start N vs) H s1:=by
 have hpl:ps.length<=N.length:=by have:=congrArg List.length S.pre;rw[List.length_take]at this;omega
 obtain⟨h1,tk,rfl,hk⟩:=x.done
 have noA:∀ b:Addr,b∉(cxOf CX P w K mg base N qual scope f cd A outer s H E).ex:=fun b z=>absurd (show b∈([]:List Addr) from z) (by simp)
 refine⟨⟨e0.mod,S.kind,rfl,rfl,Nat.le_refl _,fun y z c h1 h2=>?_,fun y hy=>?_,fun y c _ h=>?_,fun _=>hd,Around.frames_deeper e0.frames,.inr ⟨rfl,rfl⟩,fun b z=>absurd z (noA b),e0.bs,e0.bsz,fun b _ _=>noA b,fun b z=>absurd z (noA b),e0.funs,e0.frf⟩,
  rfl,e0.bare,Un.kept hk,⟨_,x.toInCall.ns,fun i y v h1 h2 h3=>?_⟩,fun y c h=>⟨_,x.cell y c h⟩,e0.hok.fresh (Nat.le_refl _),fun y c h=>?_,fun p hp=>absurd (show p∈([]:List (Addr×Obj)) from hp) (by simp),e0.hok.kept hk,?_⟩
 ·exact name_of_addr x.apart (PySem.mem_of_lookup h1) (PySem.mem_of_lookup h2)
 ·have hy:scope.names.lookup y=some .cell∨scope.names.lookup y=some .free:=hy
  rcases hy with hy | hy
  ·exact QCo hy
  ·exact absurd rfl (S.nofree _ (PySem.mem_of_lookup hy))
 ·exact Nat.le_of_lt (x.above y c (PySem.mem_of_lookup h))
 ·have hi:i<vs.length:=by
   unfold start at h2
   by_cases hi:i<vs.length
   ·exact hi
   ·rw[List.getElem?_append_right (by simpa using hi)]at h2
    rw[List.getElem?_replicate]at h2
    split at h2<;>cases h2
  have ha:vs[i]?=some v:=by
   unfold start at h2
   rw[List.getElem?_append_left (by simpa using hi),List.getElem?_map]at h2
   cases e:vs[i]? with
   | none=>rw[e]at h2;cases h2
   | some a=>rw[e]at h2;cases h2;rfl
  obtain⟨u,hu,rv⟩:=r.get ha
  have hp:ps[i]?=some y:=by
   rw[← S.pre,List.getElem?_take_of_lt (by omega)];exact h1
  have ndP:ps.Nodup:=by rw[← S.pre];exact S.nd.sublist (List.take_sublist _ _)
  refine⟨u,rv,?_⟩
  rcases S.par y (List.mem_of_getElem? hp) with k | k
  ·exact .inl ⟨k,Qze ndP hp hu k⟩
  ·obtain⟨c,e⟩:=QCo (n:=s.heap.objs.size+1) k
   refine .inr ⟨.inl k,c,e,?_⟩
   have q:=x.cell y c e
   rw[Qzm ndP hp hu (by show scope.names.lookup y≠_;rw[k];decide)]at q
   exact q
 ·exact e0.hok.fresh (Nat.le_of_lt (x.above y c (PySem.mem_of_lookup h)))
 ·unfold start
  show _=N.length
  rw[List.length_append,List.length_map,List.length_replicate]
  omega
theorem fn_of{CX:CXT}{P:Program}{w:World}{K:PySem.W.Frag}{mg:Str->Option Value}{base:Heap}{k:Nat}{f:Addr}{name qual:Str}{params:Arguments}{body:List Stmt}{scope:Scope}{dV kV doc pm cdv ct oc:Value}{an od:Option Addr}
 {osl:Array (Option Value)} {N ps:List Str} {sp:Sp} (lk:K.lookup f=some ⟨oc,od,.func (PySem.W.fnOf name qual params body scope dV kV doc pm an cdv ct),osl⟩) (hcd:PySem.W.codeIn K cdv qual=true) (S:Qq N ps scope)
 (len:∀ vs H Q E,sp vs H Q E->vs.length=ps.length)
 (hbody:∀(A:Around)(outer:List Env)(s:Shared)(H:Hp)(vs:List V)(Q:VK)(E:XK),Room k (A.deeper (envOfC qual scope s.heap.objs.size f cdv))->sp vs H Q E->
  ∃ t,PSs (cxOf CX P w K mg base N qual scope f cdv A outer s H E) body t/\t { nx:=fun _ H'=>Q .non H',rt:=Q } (start N vs) H):
 FnOk P w K mg base CX (k+1) f (PySem.W.fnOf name qual params body scope dV kV doc pm an cdv ct) ps sp:=by
 refine⟨len,fun A outer s H args us vs Q E hr e0 hb r hsp=>?_⟩
 have hl:=len _ _ _ _ hsp
 have KX:K.In s.heap:=e0.mod.kin.keeps fun b o e=>(e0.bs b o e).1
 have lim:s.heap.NoLimit:=e0.mod.nolimit.keeps fun b o e=>(e0.bs b o e).1
 have hkind:∀ y∈ps.zip us,scope.names.lookup y.1=some .local∨(scope.names.lookup y.1=some .cell/\((cellsFrom (s.heap.objs.size+1) scope.names []).lookup y.1).isSome=true):=fun⟨n,v⟩ hy=>by
  rcases S.par n (List.of_mem_zip hy).1 with q | q
  ·exact .inl q
  ·exact .inr ⟨q,PySem.W.cellsFrom_some _ _ _ (.inl q)⟩
 refine codeAny_call_function hr.depth (KX _ _ lk) rfl S.co S.gen rfl (PySem.W.codeRec_of KX hcd) (hb _ _ _ _ ?_)
 refine wpAny_newFunctionEnv_cells S.kind hkind fun env he s1 x=>?_
 subst he
 refine⟨lim.keeps x.toInCall.keep,codeAny_func ?_⟩
 obtain⟨t,ht,hq⟩:=hbody A outer s H vs Q E (hr.deeper _) hsp
 have I:Inv (cxOf CX P w K mg base N qual scope f cdv A outer s H E) [] (start N vs) H s1:=QKe S hr.hd e0 hl r x
 refine wpAny_mono (ht [] s1 (start N vs) H _ I hq) (fun fl s' hs=>?_) fun e s' hs=>hs
 have fin:∀{σ':St}{H':Hp}{v:V}{u:Value},Inv (cxOf CX P w K mg base N qual scope f cdv A outer s H E) [] σ' H' s'->RelV v u->Q v H'->CE outer P w H s Q u s':=
  fun {σ' H' v u} J rv q=>⟨v,H',J.os,J.bare,J.base,J.hok,rv,q⟩
 cases fl with
 | ret u=>
  obtain⟨v,σ',H',J,rv,q⟩:=hs
  exact fin J rv q
 | next=>
  obtain⟨σ',H',J,q⟩:=hs
  exact fin (v:=V.non) (u:=Value.none) J rfl q
 | brk=>
  obtain⟨_,_,_,q⟩:=hs
  exact False.elim q
 | cont=>
  obtain⟨_,_,_,q⟩:=hs
  exact False.elim q
end L2
namespace L2
open PySem PySem.Spec PyProof.Rows
section
variable{X:Cx}{x:Str}{p pos:Pos}{e:Expr}{es:List Expr}{t:TA}{id T:String}{r:List V->Hp->VK->Prop}
def tCB(r:List V->Hp->VK->Prop)(t:TA):TE:=fun σ H Q=>t σ H fun vs H1=>r vs H1 Q
theorem QuJ(hc:CallR X (.builtin id) r)(hg:Gl X x)(hm:X.mg x=none)(hv:bootBuiltins x=some (.builtin id))(ha:PA X (e::es) t)(hn:x≠"__name__":=by decide)(hdb:(x == ("__debug__":Str))=false:=by decide)
 (he:starEach (e::es) X.env=(false,eval e X.env)::starEach es X.env:=by rfl) (hpl:(backTo pos (starEach es X.env)).any (·.1)=false:=by rfl):PE X (.Call (.Name x p) (e::es) [] pos) (tCB r t):=by
 intro pins s σ H Q I h
 refine wpAny_Call_Name_kw (Qi1 I hg hm hv ?_ hn hdb)
 exact PyProof.Rows.callWith_builtin1 (thn (ha pos pins s σ H _ I h) fun us s1 ⟨vs,H1,I1,r1,q1⟩=>hc pins s1 σ H1 vs us Q I1 r1 q1) he hpl
theorem Qzl(hc:CallR X (.type T) r)(hg:Gl X x)(hm:X.mg x=none)(hv:bootBuiltins x=some (.type T))(ha:PA X (e::es) t)(hn:x≠"__name__":=by decide)(hdb:(x == ("__debug__":Str))=false:=by decide)
 (he:starEach (e::es) X.env=(false,eval e X.env)::starEach es X.env:=by rfl) (hpl:(backTo pos (starEach es X.env)).any (·.1)=false:=by rfl):PE X (.Call (.Name x p) (e::es) [] pos) (tCB r t):=by
 intro pins s σ H Q I h
 refine wpAny_Call_Name_kw (Qi1 I hg hm hv ?_ hn hdb)
 exact PyProof.Rows.callWith_type1 (thn (ha pos pins s σ H _ I h) fun us s1 ⟨vs,H1,I1,r1,q1⟩=>hc pins s1 σ H1 vs us Q I1 r1 q1) he hpl
end
end L2
namespace HT
open PySem PyProof.Rows
section
open PySem.SeqAt
open PySem.AutoSeq1 (wpAny_loadPart')
open PySem.MeetsSeq PySem.MeetsSeq2 PySem.MeetsSeq3
end
section
variable{prog:Program}{w:World}{A:Around}{E:Value->Shared->Prop}{s:Shared}
def sIx(n d:Nat):Option Int->Nat
 | none=>d
 | some v=>if v<0 then(v+(n:Int)).toNat else min v.toNat n
theorem sIx_nat(n d k:Nat):sIx n d (some (k:Int))=min k n:=by
 show(if (k:Int)<0 then((k:Int)+(n:Int)).toNat else min (k:Int).toNat n)=min k n
 rw[if_neg (by omega),Int.toNat_natCast]
end
end HT
namespace L2
open PySem PySem.Spec PyProof.Rows
abbrev TO:=St->Hp->(Option Int->Hp->Prop)->Prop
def PO(X:Cx)(e:Option Expr)(t:TO):Prop:=
 ∀(pins:List (Addr×Obj))(s:Shared)(σ:St)(H:Hp)(Q:Option Int->Hp->Prop),Inv X pins σ H s->t σ H Q->
  wpAny (model X.prog X.w) X.A (evalPart e X.env) (fun u s'=>∃ o H',Inv X pins σ H' s'/\IsPart u o/\Q o H') X.xe s
def tPart(t:TE):TO:=fun σ H Q=>t σ H fun x H1=>∃ i,x=.int i/\Q (some i) H1
section
variable{X:Cx}{e:Expr}{te:TE}{lo hi:Option Expr}{tl th:TO}{pos p2:Pos}
theorem QMU(h:PE X e te):PO X (some e) (tPart te):=by
 intro pins s σ H Q I hw
 rw[evalPart_some]
 refine thn (h pins s σ H _ I hw) fun u s1 ⟨x,H1,I1,r1,q1⟩=>?_
 obtain⟨i,rfl,q⟩:=q1
 obtain⟨t,rfl⟩:=r1
 exact⟨some i,H1,I1,.int i t,q⟩
def SlR(X:Cx)(r:V->Option Int->Option Int->Hp->VK->Prop):Prop:=
 ∀(pins:List (Addr×Obj))(s:Shared)(σ:St)(H:Hp)(x:V)(v vl vu:Value)(lo hi:Option Int)(sl:Addr)(Q:VK),Inv X pins σ H s->RelV x v->s.heap.IsSliceOf sl vl vu .none->IsPart vl lo->IsPart vu hi->r x lo hi H Q->
  ∃ T id,typeLookup (.type T) "__getitem__"=pure (some (.builtin id))/\s.TypeIs v T/\wpAny (model X.prog X.w) X.A (getItem v (.ref sl)) (EP X pins σ Q) X.xe s
def tSl(r:V->Option Int->Option Int->Hp->VK->Prop)(te:TE)(tl th:TO):TE:=fun σ H Q=>te σ H fun x H1=>tl σ H1 fun l H2=>th σ H2 fun u H3=>r x l u H3 Q
theorem QMb{r:V->Option Int->Option Int->Hp->VK->Prop}(hr:SlR X r)(he:PE X e te)(hl:PO X lo tl)(hu:PO X hi th):PE X (.Subscript e (.Slice lo hi none p2) pos) (tSl r te tl th):=by
 intro pins s σ H Q I h
 refine Subscript_ (thn (he pins s σ H _ I h) fun v s1 ⟨x,H1,I1,r1,q1⟩=>?_)
 refine wpAny_Slice (thn (hl pins s1 σ H1 _ I1 q1) fun vl s2 ⟨l,H2,I2,pl,q2⟩=>thn (hu pins s2 σ H2 _ I2 q2) fun vu s3 ⟨u,H3,I3,pu,q3⟩=>?_)
 rw[evalPart_none]
 refine wpAny_pure ?_
 have I4:Inv X pins σ H3 { s3 with heap:=s3.heap.push { cls:=.type "slice",data:=.fields #[vl,vu,.none] } }:=I3.kept (t':=s3.toks) fun b ob q=>Heap.get?_push_of_some _ q
 obtain⟨T,id,hT,ht,hg⟩:=hr pins { s3 with heap:=s3.heap.push { cls:=.type "slice",data:=.fields #[vl,vu,.none] } } σ H3 x v vl vu l u s3.heap.objs.size Q I4 r1 (Heap.IsSliceOf.new ..) pl pu q3
 show wpAny (model X.prog X.w) X.A (subscriptTail e (.Slice lo hi none p2) v (.ref s3.heap.objs.size)) (EP X pins σ Q) X.xe { s3 with heap:=s3.heap.push { cls:=.type "slice",data:=.fields #[vl,vu,.none] } }
 exact tail_any (ops:=[.ref s3.heap.objs.size,v]) ht hT hg (by with_unfolding_all rfl)
def cutV(xs:List V)(lo hi:Option Int):List V:=(xs.drop (HT.sIx xs.length 0 lo)).take (HT.sIx xs.length xs.length hi - HT.sIx xs.length 0 lo)
theorem QEJ(xs:List V)(lo hi:Option Int):(cutV xs lo hi).length<=xs.length:=by
 unfold cutV
 rw[List.length_take,List.length_drop]
 omega
end
end L2
namespace L2
open PySem PySem.Spec PyProof.Rows
def ixN(n:Nat)(i:Int):Option Nat:=if 0<=i then(if i<n then some i.toNat else none) else if -(n:Int)<=i then some (i+n).toNat else none
def atI{α:Type}(xs:List α)(i:Int):Option α:=(ixN xs.length i).bind fun j=>xs[j]?
theorem QHB{n:Nat}{i:Int}{j:Nat}(h:ixN n i=some j):seqIndex? i n=some j/\j<n /\ -(n:Int)<=i/\i<n:=by
 unfold ixN at h
 by_cases h0:0<=i
 ·rw[if_pos h0]at h
  by_cases h1:i<n
  ·rw[if_pos h1]at h
   have e:i.toNat=j:=Option.some.inj h
   exact⟨by rw[seqIndex_of h0 h1,e],by omega,by omega,h1⟩
  ·rw[if_neg h1]at h;cases h
 ·rw[if_neg h0]at h
  by_cases h1 : -(n:Int)<=i
  ·rw[if_pos h1]at h
   have e:(i+n).toNat=j:=Option.some.inj h
   exact⟨by rw[seqIndex_neg (by omega) h1,e],by omega,h1,by omega⟩
  ·rw[if_neg h1]at h;cases h
theorem QxG{α:Type}{xs:List α}{i:Int}{v:α}(h:atI xs i=some v):∃ j,seqIndex? i xs.length=some j/\xs[j]?=some v/\j<xs.length /\ -(xs.length:Int)<=i/\i<xs.length:=by
 unfold atI at h
 cases e:ixN xs.length i with
 | none=>rw[e]at h;cases h
 | some j=>
  rw[e]at h
  obtain⟨h1,h2,h3,h4⟩:=QHB e
  exact⟨j,h1,h,h2,h3,h4⟩
theorem QyW{α:Type}{xs:List α}{j:Nat}{v:α}(h:xs[j]?=some v):atI xs (j:Int)=some v:=by
 have hj:j<xs.length:=(List.getElem?_eq_some_iff.mp h).1
 have e:ixN xs.length (j:Int)=some j:=by
  unfold ixN
  rw[if_pos (by omega),if_pos (by omega)];simp
 unfold atI;rw[e];exact h
def Qtj(b:Expr):Prop:=∀ o i,subscripted b false o i=operate [o,i] (getItem o i)
def IxR(X:Cx)(r:R2):Prop:=
 ∀(value slice:Expr)(pins:List (Addr×Obj))(s:Shared)(σ:St)(H:Hp)(x y:V)(v u:Value)(Q:VK),Inv X pins σ H s->RelV x v->RelV y u->r x y H Q->
  subscripted slice false v u=operate [v,u] (getItem v u)->wpAny (model X.prog X.w) X.A (subscriptTail value slice v u) (EP X pins σ Q) X.xe s
def MtR(X:Cx)(id:String)(r:V->List V->Hp->VK->Prop):Prop:=
 ∀(pins:List (Addr×Obj))(s:Shared)(σ:St)(H:Hp)(x:V)(xs:List V)(v:Value)(us:List Value)(Q:VK),Inv X pins σ H s->RelV x v->Vals xs us->r x xs H Q->
  wpAny (model X.prog X.w) X.A (call (.builtin id) (v::us)) (EP X pins σ Q) X.xe s
section
variable{X:Cx}{a b:Expr}{ta tb:TE}{pos:Pos}
theorem IxR.or{r r':R2}(h:IxR X r)(h':IxR X r'):IxR X (fun x y H Q=>r x y H Q∨r' x y H Q):=by
 intro value slice pins s σ H x y v u Q I rx ry q hs
 rcases q with q | q
 ·exact h value slice pins s σ H x y v u Q I rx ry q hs
 ·exact h' value slice pins s σ H x y v u Q I rx ry q hs
theorem pe_ix{r:R2}(hr:IxR X r)(ha:PE X a ta)(hb:PE X b tb)(hs:Qtj b):PE X (.Subscript a b pos) (tOp r ta tb):=by
 intro pins s σ H Q I h
 exact Subscript_ (binT ha hb I h fun v u s2 x y H2 I2 rx ry q=>hr a b pins s2 σ H2 x y v u Q I2 rx ry q (hs _ _))
def rIxL(K:PySem.W.Frag):R2:=fun x y H Q=>∃ p xs i v,x=.ref p/\y=.int i/\SqL K H p xs/\atI xs i=some v/\Q v H
def rIxT(K:PySem.W.Frag):R2:=fun x y H Q=>∃ p xs i v,x=.ref p/\y=.int i/\SqT K H p xs/\atI xs i=some v/\Q v H
def rIxS:R2:=fun x y H Q=>∃ z i c,x=.str z/\y=.int i/\z.length<=sizeLine/\atI z.cps.toList i=some c/\Q (.str ⟨#[c]⟩) H
theorem QNk:IxR X (rIxL X.K):=by
 intro value slice pins s σ H x y v u Q I rx ry h hs
 obtain⟨p,xs,i,z,rfl,rfl,hq,he,q⟩:=h
 cases rx
 obtain⟨t,rfl⟩:=ry
 obtain⟨its,r,pl,hz⟩:=I.list hq
 obtain⟨j,h1,h2,h3,h4,h5⟩:=QxG he
 obtain⟨w,ew,rw'⟩:=r.get h2
 have hl:=r.length
 have hn:=QoD
 have fin:EP X pins σ Q w s:=⟨z,H,I,rw',q⟩
 by_cases h0:0<=i
 ·have hj:i.toNat=j:=by
   rw[seqIndex_of h0 h5]at h1
   exact Option.some.inj h1
  exact item_listR pl.isList h0 (by omega) (by rw[hj];simpa using ew) fin hs
 ·have hj:(i+(its.toArray.size:Int)).toNat=j:=by
   rw[seqIndex_neg (by omega) h4]at h1
   rw[List.size_toArray, ← hl]
   exact Option.some.inj h1
  exact subscriptTail_builtinR (x:=w) pl.isList.typeIs slot_list_getitem.lookup
   (wpAny_getItem_list_neg (Q:=fun r s'=>r=w/\EP X pins σ Q r s') pl.isList (by omega) (by rw[List.size_toArray]<;>omega) (by omega) (by rw[hj];simpa using ew) ⟨rfl,fin⟩) hs
theorem QPb:IxR X (rIxT X.K):=by
 intro value slice pins s σ H x y v u Q I rx ry h hs
 obtain⟨p,xs,i,z,rfl,rfl,hq,he,q⟩:=h
 cases rx
 obtain⟨t,rfl⟩:=ry
 obtain⟨its,r,pl,hz⟩:=I.tuple hq
 obtain⟨j,h1,h2,h3,h4,h5⟩:=QxG he
 obtain⟨w,ew,rw'⟩:=r.get h2
 have hl:=r.length
 have hn:=QoD
 have fin:EP X pins σ Q w s:=⟨z,H,I,rw',q⟩
 exact subscriptTail_builtinR (x:=w) pl.typeIs slot_tuple_getitem.lookup
  (getItem_tuple (j:=j) (Q:=fun r s'=>r=w/\EP X pins σ Q r s') pl (by omega) (by omega) (by rw[List.size_toArray, ← hl];exact h1) (by simpa using ew) ⟨rfl,fin⟩) hs
theorem QN5:IxR X rIxS:=by
 intro value slice pins s σ H x y v u Q I rx ry h hs
 obtain⟨z,i,c,rfl,rfl,hz,he,q⟩:=h
 obtain⟨t,rfl⟩:=rx
 obtain⟨t',rfl⟩:=ry
 obtain⟨j,h1,h2,h3,h4,h5⟩:=QxG he
 have hl:z.cps.toList.length=z.length:=by simp[Str.length]
 rw[hl]at h1 h4 h5
 have hn:=QoD
 exact tail_any (typeIs_str s z t) slot_str_getitem.lookup (getItem_str (c:=c) (by
  have e1:decide (i < -(2 ^ 63:Int))=false:=decide_eq_false (by omega)
  have e2:decide (i ≥ 2 ^ 63)=false:=decide_eq_false (by omega)
  rw[e1,e2,Bool.or_false]) (by rw[h1];simpa using h2) ⟨.str ⟨#[c]⟩,H,I.tok _,⟨_,rfl⟩,q⟩) hs
def rIx(K:PySem.W.Frag):R2:=fun x y H Q=>rIxL K x y H Q∨rIxT K x y H Q∨rIxS x y H Q
theorem QBt:IxR X (rIx X.K):=QNk.or (QPb.or QN5)
theorem QIK(its:List Value)(n j:Nat)(u:Value):Obj.mapSeq (·.setIfInBounds j u) { cls:=.type "list",data:=.seq its.toArray n }={ cls:=.type "list",data:=.seq (its.set j u).toArray n }:=by
 simp[Obj.mapSeq]
theorem Inv.lst{pins:List (Addr×Obj)}{σ:St}{H:Hp}{s:Shared}{p:Addr}{xs:List V}(I:Inv X pins σ H s)(h:H p=some (.lst xs)):
 ∃(its:List Value)(n:Nat),Vals xs its/\s.heap.get? p=some { cls:=.type "list",data:=.seq its.toArray n }/\xs.length<=sizeLine:=by
 obtain⟨z,its,n,r,e⟩:=I.hok p _ h
 exact⟨its,n,r,e,z⟩
theorem Inv.lstUpd{pins:List (Addr×Obj)}{σ:St}{H:Hp}{s:Shared}{p:Addr}{xs ys:List V}{its its':List Value}{n n':Nat}{f:Obj->Obj}(I:Inv X pins σ H s)(h:H p=some (.lst xs))
 (ho:s.heap.get? p=some { cls:=.type "list",data:=.seq its.toArray n }) (hf:f { cls:=.type "list",data:=.seq its.toArray n }={ cls:=.type "list",data:=.seq its'.toArray n' }) (r:Vals ys its') (hz:ys.length<=sizeLine) (t:Nat):
 Inv X pins σ (upd H p (.lst ys)) { s with heap:=s.heap.update p f,toks:=t }:=by
 have e:(s.heap.update p f).get? p=some { cls:=.type "list",data:=.seq its'.toArray n' }:=by
  rw[Heap.get?_update_self f ho (by rw[hf]<;>rfl),hf]
 refine I.write (x:=p) (e:=p) (by rw[h];trivial) (.inl rfl) (fun b u hb q=>(Heap.get?_update_other _ _ (Ne.symm hb)).trans q) ⟨_,e⟩ ?_
 exact⟨hz,its',n',r,e⟩
def rSetL:V->V->V->Hp->(Hp->Prop)->Prop:=fun o i v H Q=>∃ p xs k j,o=.ref p/\i=.int k/\H p=some (.lst xs)/\ixN xs.length k=some j/\Q (upd H p (.lst (xs.set j v)))
theorem QCs:PSet X rSetL:=by
 intro pins s σ H o i v ov iv u Q I ro ri rv h
 obtain⟨p,xs,k,j,rfl,rfl,hp,hj,q⟩:=h
 cases ro
 obtain⟨t,rfl⟩:=ri
 obtain⟨its,n,r,ho,hz⟩:=I.lst hp
 obtain⟨h1,h2,h3,h4⟩:=QHB hj
 have hl:=r.length
 have hn:=QoD
 have I':Inv X pins σ (upd H p (.lst (xs.set j v))) { s with heap:=s.heap.update p (Obj.mapSeq (·.setIfInBounds j u)) }:=
  I.lstUpd hp ho (QIK its n j u) (r.set rv j) (by rw[List.length_set];exact hz) s.toks
 by_cases h0:0<=k
 ·have hk:k.toNat=j:=by
   rw[seqIndex_of h0 h4]at h1
   exact Option.some.inj h1
  exact PySem.W.ki_setAt ho h0 (by omega) (by rw[List.size_toArray, ← hl];exact h4) (by rw[hk];exact⟨_,I',q⟩)
 ·have hk:(k+(its.toArray.size:Int)).toNat=j:=by
   rw[seqIndex_neg (by omega) h3]at h1
   rw[List.size_toArray, ← hl]
   exact Option.some.inj h1
  exact PySem.W.ki_setBack ho (by omega) (by rw[List.size_toArray, ← hl];exact h3) (by omega) (by rw[hk];exact⟨_,I',q⟩)
theorem QBW(lo hi:Option Int)(n:Nat):(sliceBounds lo hi none n).1=((HT.sIx n 0 lo:Nat):Int)/\(sliceBounds lo hi none n).2.1=((HT.sIx n n hi:Nat):Int)/\(sliceBounds lo hi none n).2.2=1:=by
 refine⟨?_,?_,rfl⟩
 ·cases lo with
  | none=>simp[sliceBounds,HT.sIx]
  | some i=>
   simp only[sliceBounds,HT.sIx,Option.getD_none,show(1:Int) > 0 by decide,if_true]
   by_cases h:i<0
   ·simp only[h,if_true]<;>omega
   ·simp only[h,if_false]<;>omega
 ·cases hi with
  | none=>simp[sliceBounds,HT.sIx]
  | some i=>
   simp only[sliceBounds,HT.sIx,Option.getD_none,show(1:Int) > 0 by decide,if_true]
   by_cases h:i<0
   ·simp only[h,if_true]<;>omega
   ·simp only[h,if_false]<;>omega
theorem QzH(its:List Value)(lo hi:Option Int):slicePick its.toArray lo hi none=((its.drop (HT.sIx its.length 0 lo)).take (HT.sIx its.length its.length hi - HT.sIx its.length 0 lo)).toArray:=by
 obtain⟨h1,h2,h3⟩:=QBW lo hi its.toArray.size
 unfold slicePick
 rw[h1,h2,h3]
 simp only[sliceRange_one,pick_run,List.size_toArray]<;>rfl
def rSlL(K:PySem.W.Frag):V->Option Int->Option Int->Hp->VK->Prop:=fun x lo hi H Q=>∃ a xs,x=.ref a/\SqL K H a xs/\∀ p,H p=none->Q (.ref p) (upd H p (.lst (cutV xs lo hi)))
theorem QMV:SlR X (rSlL X.K):=by
 intro pins s σ H x v vl vu lo hi sl Q I rx hs pl pu h
 obtain⟨a,xs,rfl,hx,q⟩:=h
 cases rx
 obtain⟨its,r,ht,hz⟩:=I.list hx
 have hlen:=r.length
 refine⟨"list",_,slot_list_getitem.lookup,ht.isList.typeIs,?_⟩
 refine wpAny_getItem_list_slice ht.isList hs pl pu .none (by simp) ?_ (by rw[List.size_toArray]<;>omega)
 rw[QzH, ← hlen]
 refine⟨.ref s.heap.objs.size,_,I.laid (t':=s.toks) (o:=.lst (cutV xs lo hi)) (fun b ob q=>Heap.get?_push_of_some _ q) (Nat.le_refl _) ?_,rfl,q _ (I.hok.fresh (Nat.le_refl _))⟩
 exact⟨Nat.le_trans (QEJ xs lo hi) hz,_,0,(r.drop (HT.sIx xs.length 0 lo)).take (HT.sIx xs.length xs.length hi - HT.sIx xs.length 0 lo),Heap.get?_push_size _ rfl⟩
def flatV:V->Bool
 | .non=>true
 | .bl _=>true
 | .int _=>true
 | .str _=>true
 | _=>false
def eqV:V->V->Bool
 | .non,.non=>true
 | .bl a,.bl b=>a == b
 | .bl a,.int b=>(if a then 1 else 0) == b
 | .int a,.bl b=>a == (if b then 1 else 0)
 | .int a,.int b=>a == b
 | .str a,.str b=>a == b
 | _,_=>false
theorem QOp{A:Around}{s:Shared}{y x:V}{u v:Value}(ry:RelV y u)(rx:RelV x v)(fy:flatV y=true)(fx:flatV x=true):SeqAt.EqAt A s u v (eqV y x):=by
 cases y with
 | non=>
  cases ry
  cases x with
  | non=>cases rx;exact SeqAt.EqAt.same _
  | bl b=>cases rx;exact SeqAt.EqAt.none_bool b
  | int b=>obtain⟨t,rfl⟩:=rx;exact SeqAt.EqAt.none_int b t
  | str b=>obtain⟨t,rfl⟩:=rx;exact SeqAt.EqAt.none_str b t
  | _=>exact absurd (show false=true from fx) Bool.false_ne_true
 | bl a=>
  cases ry
  cases x with
  | non=>cases rx;exact SeqAt.EqAt.bool_none a
  | bl b=>cases rx;exact SeqAt.EqAt.bool_bool a b
  | int b=>obtain⟨t,rfl⟩:=rx;exact SeqAt.EqAt.bool_int a b t
  | str b=>obtain⟨t,rfl⟩:=rx;exact SeqAt.EqAt.bool_str a b t
  | _=>exact absurd (show false=true from fx) Bool.false_ne_true
 | int a=>
  obtain⟨t',rfl⟩:=ry
  cases x with
  | non=>cases rx;exact SeqAt.EqAt.int_none a t'
  | bl b=>cases rx;exact SeqAt.EqAt.int_bool a t' b
  | int b=>obtain⟨t,rfl⟩:=rx;exact SeqAt.EqAt.int_int a t' b t
  | str b=>obtain⟨t,rfl⟩:=rx;exact SeqAt.EqAt.int_str a t' b t
  | _=>exact absurd (show false=true from fx) Bool.false_ne_true
 | str a=>
  obtain⟨t',rfl⟩:=ry
  cases x with
  | non=>cases rx;exact SeqAt.EqAt.str_none a t'
  | bl b=>cases rx;exact SeqAt.EqAt.str_bool a t' b
  | int b=>obtain⟨t,rfl⟩:=rx;exact SeqAt.EqAt.str_int a t' b t
  | str b=>obtain⟨t,rfl⟩:=rx;exact SeqAt.EqAt.str_str a t' b t
  | _=>exact absurd (show false=true from fx) Bool.false_ne_true
 | _=>exact absurd (show false=true from fy) Bool.false_ne_true
def eqU(x:V)(u:Value):Bool:=match u with
 | .none=>eqV .non x
 | .bool b=>eqV (.bl b) x
 | .int i _=>eqV (.int i) x
 | .str z _=>eqV (.str z) x
 | _=>false
theorem QK1{x y:V}{u:Value}(r:RelV y u)(f:flatV y=true):eqU x u=eqV y x:=by
 cases y with
 | non=>cases r;rfl
 | bl b=>cases r;rfl
 | int i=>obtain⟨t,rfl⟩:=r;rfl
 | str z=>obtain⟨t,rfl⟩:=r;rfl
 | _=>exact absurd (show false=true from f) Bool.false_ne_true
theorem QyL{x:V}:∀{xs:List V}{us:List Value},Vals xs us->xs.all flatV=true->us.any (eqU x)=xs.any fun y=>eqV y x
 | _,_,.nil,_=>rfl
 | y::xs,u::us,.cons r t,f=>by
  rw[List.all_cons,Bool.and_eq_true]at f
  rw[List.any_cons,List.any_cons,QK1 r f.1,QyL t f.2]
theorem QuQ{A:Around}{s:Shared}{x:V}{v:Value}(rx:RelV x v)(fx:flatV x=true):∀{xs:List V}{us:List Value},Vals xs us->xs.all flatV=true->∀ u∈us,SeqAt.EqAt A s u v (eqU x u)
 | _,_,.nil,_=>fun u hu=>by cases hu
 | y::xs,u::us,.cons r t,f=>fun u' hu=>by
  rw[List.all_cons,Bool.and_eq_true]at f
  rcases List.mem_cons.mp hu with rfl | hu
  ·rw[QK1 r f.1];exact QOp r rx f.1 fx
  ·exact QuQ rx fx t f.2 u' hu
def inV(x:V)(xs:List V):Bool:=xs.any fun y=>eqV y x
def rIn(K:PySem.W.Frag)(neg:Bool):R2:=fun x y H Q=>∃ p xs,y=.ref p/\(SqL K H p xs∨SqT K H p xs)/\flatV x=true/\xs.all flatV=true/\Q (.bl (if neg then !inV x xs else inV x xs)) H
theorem QKs:OpR X (compareOp .In) (rIn X.K false):=by
 intro pins s σ H x y v u Q I rx ry h
 obtain⟨p,xs,rfl,hq,fx,fs,q⟩:=h
 cases ry
 rcases hq with hq | hq
 ·obtain⟨its,r,pl,hz⟩:=I.list hq
  refine SeqAt.in_listAt (eqU x) pl.isList (fun w hw=>QuQ rx fx r fs w (by simpa using hw)) ⟨.bl _,H,I,rfl,?_⟩
  rw[show its.toArray.any (eqU x)=its.any (eqU x) by simp,QyL r fs]
  exact q
 ·obtain⟨its,r,pl,hz⟩:=I.tuple hq
  refine SeqAt.in_tupleAt (eqU x) pl (fun w hw=>QuQ rx fx r fs w (by simpa using hw)) ⟨.bl _,H,I,rfl,?_⟩
  rw[show its.toArray.any (eqU x)=its.any (eqU x) by simp,QyL r fs]
  exact q
theorem QC3:CallR X (.builtin "len") (fun xs H Q=>∃ p ys,xs=[.ref p]/\(SqL X.K H p ys∨SqT X.K H p ys)/\Q (.int ys.length) H):=by
 intro pins s σ H xs us Q I r h
 obtain⟨p,ys,rfl,hq,q⟩:=h
 obtain⟨u,rfl,rx⟩:=vals1 r
 cases rx
 have hn:=QoD
 rcases hq with hq | hq
 ·obtain⟨its,r',pl,hz⟩:=I.list hq
  have hlen:=r'.length
  exact Calls.call_len_list pl.isList (by simp only[List.size_toArray]<;>omega) ⟨.int ys.length,H,I.tok _,⟨s.toks+1,by rw[List.size_toArray,hlen]⟩,q⟩
 ·obtain⟨its,r',pl,hz⟩:=I.tuple hq
  have hlen:=r'.length
  exact len_tuple pl (by simp only[List.size_toArray]<;>omega) ⟨.int ys.length,H,I.tok _,⟨s.toks+1,by rw[List.size_toArray,hlen]⟩,q⟩
theorem QCg:CallR X (.builtin "len") (fun xs H Q=>∃ z,xs=[.str z]/\z.length<=sizeLine/\Q (.int z.length) H):=by
 intro pins s σ H xs us Q I r h
 obtain⟨z,rfl,hz,q⟩:=h
 obtain⟨u,rfl,t,rfl⟩:=vals1 r
 have hn:=QoD
 exact len_str (by omega) ⟨.int z.length,H,I.tok _,⟨_,rfl⟩,q⟩
theorem CallR.or{f:Value}{r r':List V->Hp->VK->Prop}(h:CallR X f r)(h':CallR X f r'):CallR X f (fun xs H Q=>r xs H Q∨r' xs H Q):=by
 intro pins s σ H xs us Q I rs q
 rcases q with q | q
 ·exact h pins s σ H xs us Q I rs q
 ·exact h' pins s σ H xs us Q I rs q
theorem QBO:CallR X (.type "list") (fun xs H Q=>∃ p ys,xs=[.ref p]/\(SqL X.K H p ys∨SqT X.K H p ys)/\∀ l,H l=none->Q (.ref l) (upd H l (.lst ys))):=by
 intro pins s σ H xs us Q I r h
 obtain⟨p,ys,rfl,hq,q⟩:=h
 obtain⟨u,rfl,rx⟩:=vals1 r
 cases rx
 have fin:∀(its:List Value),Vals ys its->ys.length<=sizeLine->∀(h':Heap)(c':Nat),(∀ b o',s.heap.get? b=some o'->h'.get? b=some o')->
  h'.get? s.heap.objs.size=some { cls:=.type "list",dict:=none,data:=.seq its.toArray c',slots := #[] }->EP X pins σ Q (.ref s.heap.objs.size) { s with heap:=h' }:=fun its r' hz h' c' kp e=>
  ⟨.ref s.heap.objs.size,_,I.laid (t':=s.toks) kp (Nat.le_refl _) (show ObjOk X.prog X.w _ h' _ (.lst ys) from⟨hz,its,c',r',e⟩),rfl,q _ (I.hok.fresh (Nat.le_refl _))⟩
 rcases hq with hq | hq
 ·obtain⟨its,r',pl,hz⟩:=I.list hq
  have hlen:=r'.length
  obtain⟨o,ho,hc,n,hd⟩:=pl.isList
  exact call_list_seq p (.inl rfl) ho hc hd (fun h' c' kp e=>fin its r' hz h' c' kp e) (by simp only[List.size_toArray]<;>omega)
 ·obtain⟨its,r',pl,hz⟩:=I.tuple hq
  have hlen:=r'.length
  obtain⟨o,ho,hc,n,hd⟩:=pl
  exact call_list_seq p (.inr rfl) ho hc hd (fun h' c' kp e=>fin its r' hz h' c' kp e) (by simp only[List.size_toArray]<;>omega)
def tyV(K:PySem.W.Frag)(T:String)(x:V)(H:Hp):Prop:=match x with
 | .str _=>T="str"
 | .int _=>T="int"
 | .ref p=>(T="list"/\∃ xs,SqL K H p xs)∨(T="tuple"/\∃ o,K.lookup p=some o/\o.cls=.type "tuple"/\o.dict=none)∨
  (T="dict"/\((∃ kvs,H p=some (.dK kvs))∨∃ kvs,H p=some (.dT kvs)))∨(T="set"/\∃ S n,H p=some (.set S n))
 | _=>False
theorem QPf{pins:List (Addr×Obj)}{σ:St}{H:Hp}{s:Shared}{T:String}{x:V}{v:Value}(I:Inv X pins σ H s)(r:RelV x v)(ty:tyV X.K T x H):
 s.TypeIs v T/\∀ a,v=.ref a->∃ ob,s.heap.get? a=some ob/\ob.dict=none:=by
 cases x with
 | str z=>
  obtain⟨t,rfl⟩:=r
  cases (show T="str" from ty)
  exact⟨typeIs_str s z t,fun _ e=>nomatch e⟩
 | int i=>
  obtain⟨t,rfl⟩:=r
  cases (show T="int" from ty)
  exact⟨typeIs_int s i t,fun _ e=>nomatch e⟩
 | ref p=>
  cases r
  rcases ty with⟨rfl,xs,hq⟩ | ⟨rfl,o,hk,hc,hd⟩ | ⟨rfl,hk⟩ | ⟨rfl,S,n,hk⟩
  ·obtain⟨its,_,pl,_⟩:=I.list hq
   refine⟨pl.isList.typeIs,fun a e=>?_⟩
   cases e
   obtain⟨o,n,e,c,hd,_⟩:=pl
   exact⟨o,e,hd⟩
  ·refine⟨⟨o,I.kIn p o hk,hc⟩,fun a e=>?_⟩
   cases e
   exact⟨o,I.kIn _ o hk,hd⟩
  ·have z:∃ o,s.heap.get? p=some o/\o.ExactDict:=by
    rcases hk with⟨kvs,hk⟩ | ⟨kvs,hk⟩
    ·obtain⟨_,_,_,_,o,_,_,e,ex,_⟩:=I.hok p _ hk
     exact⟨o,e,ex⟩
    ·obtain⟨_,_,_,_,o,_,_,e,ex,_⟩:=I.hok p _ hk
     exact⟨o,e,ex⟩
   obtain⟨o,e,ex⟩:=z
   refine⟨⟨o,e,ex.1⟩,fun a e2=>?_⟩
   cases e2
   exact⟨o,e,ex.2.1⟩
  ·obtain⟨o,_,_,_,e,ex,_⟩:=I.hok p _ hk
   refine⟨⟨o,e,ex.1⟩,fun a e2=>?_⟩
   cases e2
   exact⟨o,e,ex.2.1⟩
 | _=>exact False.elim ty
def tBM(K:PySem.W.Frag)(T:String)(r:V->List V->Hp->VK->Prop)(to:TE)(t:TA):TE:=fun σ H Q=>to σ H fun x H1=>tyV K T x H1/\t σ H1 fun xs H2=>r x xs H2 Q
variable{o e:Expr}{es:List Expr}{to:TE}{t:TA}{name:Str}{apos cpos:Pos}{T id:String}{r:V->List V->Hp->VK->Prop}
theorem pe_bm(pa:PlainAttrs T)(slot:Slot T name id)(hty:typeOf (.builtin id)=pure (.type "method_descriptor"))(hm:MtR X id r)(ho:PE X o to)(ha:PA X (e::es) t)
 (hbase:attributeBase o name X.env (eval o X.env)=eval o X.env:=by rfl)
 (hfew:((backTo cpos (starEach (e::es) X.env)).all (fun x => !x.1)&&(backToKw cpos (keywordEach [] X.env)).all (fun x=>x.1.isSome)
  && decide ((e::es).length+([]:List Keyword).length+(if ([]:List Keyword).isEmpty then 0 else 1)<30))=true:=by rfl)
 (hline:(apos.endLine == cpos.line)=true:=by rfl) (hs:starEach (e::es) X.env=(false,eval e X.env)::starEach es X.env:=by rfl) (hplain:(backTo cpos (starEach es X.env)).any (·.1)=false:=by rfl):
 PE X (.Call (.Attribute o name apos) (e::es) [] cpos) (tBM X.K T r to t):=by
 intro pins s σ H Q I h
 refine wpAny_Call_method_late hbase hfew hline rfl (thn (ho pins s σ H _ I h) fun v s1 ⟨x,H1,I1,r1,ty,q1⟩=>?_)
 obtain⟨h1,h2⟩:=QPf I1 r1 ty
 refine⟨T,id,pa,slot,hty,h1,h2,?_⟩
 have hA:=ha cpos pins s1 σ H1 _ I1 q1
 rw[hs]at hA ⊢
 refine Calls.callWith_builtin (by show(false||(backTo cpos (starEach es X.env)).any (·.1))=false;rw[hplain]<;>rfl) (Calls.evalArgs_plain ?_)
 exact thn hA fun us s2 ⟨vs,H2,I2,r2,q2⟩=>hm pins s2 σ H2 x vs v us Q I2 r1 r2 q2
end
end L2
namespace L2
open PySem PySem.Spec PyProof.Rows
def MtM(X:Cx)(id:String)(r:V->List V->Hp->VK->Prop):Prop:=
 ∀(pins:List (Addr×Obj))(s:Shared)(σ:St)(H:Hp)(x:V)(xs:List V)(v:Value)(us:List Value)(Q:VK),Inv X pins σ H s->RelV x v->Vals xs us->r x xs H Q->
  wpAny (model X.prog X.w) X.A (call (.builtin id) (v::us)) (EP X pins σ Q) X.xe s
theorem Vals.one:∀{x:V}{us:List Value},Vals [x] us->∃ u,us=[u]/\RelV x u
 | _,_,.cons r .nil=>⟨_,rfl,r⟩
theorem Vals.rep{xs:List V}{us:List Value}(h:Vals xs us):∀ k:Nat,Vals (List.replicate k xs).flatten (List.replicate k us).flatten
 | 0=>.nil
 | k+1=>by
  rw[List.replicate_succ,List.replicate_succ,List.flatten_cons,List.flatten_cons]
  exact Vals.append h (Vals.rep h k)
theorem Qzs(its:List Value):∀(k:Nat)(acc:List Value),
 List.foldl (fun x1 x2=>x1++x2) acc.toArray (List.replicate k its.toArray)=(acc++(List.replicate k its).flatten).toArray
 | 0,acc=>by simp
 | k+1,acc=>by
  have e:acc.toArray++its.toArray=(acc++its).toArray:=by simp
  have e2:(acc++its)++(List.replicate k its).flatten=acc++(List.replicate (k+1) its).flatten:=by
   rw[List.replicate_succ,List.flatten_cons,List.append_assoc]
  rw[← e2, ← Qzs its k (acc++its), ← e,List.replicate_succ,List.foldl_cons]
section
variable{X:Cx}{pins:List (Addr×Obj)}{σ:St}{H:Hp}{s:Shared}{l b:Addr}{xs ys zs:List V}
theorem Inv.lset{its its':List Value}{n:Nat}{f:Array Value->Array Value}{t':Nat}(I:Inv X pins σ H s)(hH:H l=some (.lst xs))
 (e:s.heap.get? l=some { cls:=.type "list",data:=.seq its.toArray n }) (hf:f its.toArray=its'.toArray) (hv:Vals ys its') (hz:ys.length<=sizeLine):
 Inv X pins σ (upd H l (.lst ys)) { s with heap:=s.heap.update l (Obj.mapSeq f),toks:=t' }:=by
 have q:=PySem.IsL.update e f
 rw[hf]at q
 refine I.write (x:=l) (e:=l) (by rw[hH];exact trivial) (.inl rfl) (fun b' u hb hu=>(Heap.get?_update_other s.heap (Obj.mapSeq f) (Ne.symm hb)).trans hu) ⟨_,q⟩ ?_
 exact⟨hz,its',_,hv,q⟩
theorem Inv.lnew{its:List Value}{t':Nat}(I:Inv X pins σ H s)(hv:Vals ys its)(hz:ys.length<=sizeLine):
 Inv X pins σ (upd H s.heap.objs.size (.lst ys)) { s with heap:=s.heap.push { cls:=.type "list",data:=.seq its.toArray },toks:=t' }:=
 I.laid (fun _ _ q=>Heap.get?_push_of_some _ q) (Nat.le_refl _) ⟨hz,its,0,hv,Heap.get?_push_size _ rfl⟩
theorem Inv.fresh(I:Inv X pins σ H s):H s.heap.objs.size=none:=I.hok.fresh (Nat.le_refl _)
theorem Inv.lstM(I:Inv X pins σ H s)(hH:H l=some (.lst xs)):xs.length<=sizeLine/\∃(its:List Value)(n:Nat),Vals xs its/\xs.length=its.length/\s.heap.get? l=some { cls:=.type "list",data:=.seq its.toArray n }:=by
 obtain⟨z,its,n,r,e⟩:=I.hok l _ hH
 exact⟨z,its,n,r,r.length,e⟩
theorem QMI{n:Nat}(h:n<=sizeLine):Builtin.List.listTooLong n=false:=by
 unfold Builtin.List.listTooLong
 exact decide_eq_false (by omega)
end
section
variable{X:Cx}
def Qxg:V->List V->Hp->VK->Prop:=fun x vs H Q=>∃ l xs y,x=.ref l/\vs=[y]/\H l=some (.lst xs)/\xs.length<sizeLine/\Q .non (upd H l (.lst (xs++[y])))
theorem QrH:MtM X "list.append" Qxg:=by
 intro pins s σ H x vs v us Q I rx rv h
 obtain⟨l,xs,y,rfl,rfl,hH,hz,q⟩:=h
 cases rx
 obtain⟨u,rfl,ru⟩:=rv.one
 obtain⟨z,its,n,r,hl,e⟩:=I.lstM hH
 refine call_meets F.slot_list_append ⟨_,e,rfl⟩ F.entry_list_append (F.args_list_append_2 _ _) (PySem.list_append l its.toArray n u (by rw[List.size_toArray];omega)) ⟨e,?_⟩
 refine⟨.non,_,I.lset (its':=its++[u]) hH e (by simp) (r.append (.cons ru .nil)) ?_,rfl,q⟩
 rw[List.length_append,List.length_singleton]
 omega
def rRep:R2:=fun x y H Q=>∃ l k xs,x=.ref l/\y=.int k/\H l=some (.lst xs) /\ -(2 ^ 63)<=k/\k<2 ^ 63/\xs.length * k.toNat<=sizeLine/\
 ∀ p,H p=none->Q (.ref p) (upd H p (.lst (List.replicate k.toNat xs).flatten))
theorem QNj{α:Type}(xs:List α)(k:Nat):(List.replicate k xs).flatten.length=k * xs.length:=by
 induction k with
 | zero=>simp
 | succ k ih=>rw[List.replicate_succ,List.flatten_cons,List.length_append,ih,Nat.succ_mul,Nat.add_comm]
theorem QOK:OpR X (binaryOp .Mult) rRep:=by
 intro pins s σ H x y v u Q I rx ry h
 obtain⟨l,k,xs,rfl,rfl,hH,h1,h2,hz,q⟩:=h
 cases rx
 obtain⟨t,rfl⟩:=ry
 obtain⟨z,its,n,r,hl,e⟩:=I.lstM hH
 have hlen:its.toArray.size * k.toNat<=sizeLine:=by rw[List.size_toArray, ← hl];exact hz
 have hcap:¬ its.toArray.size * k.toNat > (2 ^ 63 - 1) / 8:=by
  have:(sizeLine:Nat)<=(2 ^ 63 - 1) / 8:=by decide
  omega
 have hfit:¬ (!Builtin.List.listFitsIndex k)=true:=by
  rw[fitsIndex_both h1 h2]
  exact Bool.false_ne_true
 have hlong:¬ Builtin.List.listTooLong (its.toArray.size * k.toNat)=true:=by
  rw[QMI hlen]
  exact Bool.false_ne_true
 have hnew:List.foldl (fun x1 x2=>x1++x2) #[] (List.replicate (if its.toArray.isEmpty=true then 0 else k.toNat) its.toArray)=(List.replicate k.toNat its).flatten.toArray:=by
  have f0:∀ m:Nat,List.foldl (fun x1 x2=>x1++x2) #[] (List.replicate m its.toArray)=(List.replicate m its).flatten.toArray:=fun m=>by
   have:=Qzs its m []
   rw[List.nil_append]at this
   exact this
  rw[f0]
  cases its with
  | nil=>simp
  | cons a r'=>rw[if_neg (by simp)]
 refine wpAny_binaryOp_repeat_ref (T:="list") (U:="int") (by decide) ⟨_,e,rfl⟩ (fun s'=>typeIs_int s' k t) noFill_list_mul F.fills_int_mul F.slot_int_rmul repeat_list F.slot_int_index.lookup
  (call_meets F.slot_int_rmul (typeIs_int s k t) F.entry_int_rmul (F.args_int_rmul_2 _ _) (int___rmul___int_list k t l its.toArray n)
   ⟨e,rfl,⟨_,e,rfl⟩,call_meets F.slot_list_mul ⟨_,e,rfl⟩ F.entry_list_mul (F.args_list_mul_2 _ _) (AutoListH.list___mul___list_int_3 l its.toArray n k t hfit hcap hlong) ⟨e,?_⟩⟩)
 rw[hnew]
 exact⟨.ref _,_,I.lnew (t':=s.toks) (r.rep k.toNat) (by rw[QNj,Nat.mul_comm];exact hz),rfl,q _ I.fresh⟩
end
section
variable{prog:Program}{w:World}{A:Around}{E:Value->Shared->Prop}{s:Shared}
end
section
variable{X:Cx}
end
end L2
namespace Att
open PySem PySem.W PySem.Calls PyProof.Rows
theorem Qvp{P:Params}{h:Heap}:∀(ns:List Int)(vs:List Value),WellAll P h vs (ns.map WData.int)->IntsAre vs ns:=by
 intro ns
 induction ns with
 | nil=>
  intro vs w
  rw[List.map_nil]at w
  cases w
  exact .nil
 | cons n ns ih=>
  intro vs w
  rw[List.map_cons]at w
  cases w with
  | cons a b=>
   cases a
   exact .cons _ _ (ih _ b)
theorem script_of{l:OpenLaw}{n:Nat}(hn:l.most=some n){P:Params}{h:Heap}{args:List WData}{vals:List Value}
 (hpre:l.row.toRowW.claim.pre args=true) (hwl:WellAll P h vals args):
 ∃ a vs ns,vals=[Value.ref a]/\args=[WData.list (ns.map WData.int)]/\h.get? a=some { cls:=.type "list",data:=.seq vs.toArray }/\IntsAre vs ns/\ns.length<=n:=by
 have hsh:WShape.hasAll [] args [.list .int]=true:=(pre_splitW hpre).1
 have hc:l.pre.holds [] { args:=args }=true:=(pre_splitW hpre).2
 obtain⟨d,r,rfl,h1,h2⟩:=hasAllW_cons hsh
 obtain rfl:=hasAllW_nil h2
 obtain⟨xs,rfl,h3⟩:=hasW_list h1
 obtain⟨ns,rfl⟩:=items_int h3
 have hlen:ns.length<=n:=by
  unfold OpenLaw.pre at hc
  have h4:(WTm.not (.lt (.lit (.int (n:Int))) (.len (.arg 0)))).holds [] { args:=[.list (ns.map .int)] }=true:=by
   have h4:=(holds_andW hc).1
   rw[hn]at h4
   exact h4
  have h5:=condW_of h4 (w_not (w_lt w_lit (w_len_list (w_arg rfl))))
  rw[List.length_map]at h5
  refine Nat.le_of_not_lt fun q=>?_
  have q':(n:Int)<((ns.length:Nat):Int):=by omega
  first
   | (rw[decide_eq_true q']at h5;exact absurd h5 (by decide))
   | (simp at h5;omega)
 cases hwl with
 | cons w1 w2=>
  cases w2
  cases w1 with
  | list ho hall=>exact⟨_,_,ns,rfl,rfl,ho,Qvp ns _ hall,hlen⟩
theorem post_true(l:OpenLaw)(args:List WData):l.row.toRowW.claim.post args (.bool true) args=true:=
 postW_of (r:=l.row.toRowW) (X:=(true == true))
  (show WShape.has [] (.bool true) .bool=true by first | rfl | decide | simp[WShape.has,WShape.arms,WShape.armsAll])
  (show(WTm.eq .res (.lit (.bool true))).value [] { args:=args,res:=some (.bool true),after:=args }=some (.bool (true == true)) from w_eq_bool (w_res rfl) w_lit) rfl
section
variable{prog:Program}{w:World}{A:Around}{E:Value->Shared->Prop}{s:Shared}{K:Frag}
end
end Att
namespace L2
open PySem PySem.Spec PyProof.Rows
theorem Qzo:∀{vs:List Value}{ns:List Int},IntsAre vs ns->Vals (ns.map V.int) vs
 | _,_,.nil=>.nil
 | _,_,.cons n t h=>.cons ⟨t,rfl⟩ (Qzo h)
def Only(H:Hp):Prop:=∀ b,H b=none∨∃ o xs,H b=some (.frz o (.lst xs))
theorem QLX{P:Program}{w:World}{K:PySem.W.Frag}{mg mb:Str->Option Value}{CX:CXT}{k:Nat}{fa a:Addr}{fd:FuncData}{x:Str}{sp:Sp}{s₁:Shared}{vs:List Value}{ns:List Int}
 (KX:K.In s₁.heap) (hns:s₁.heap.Ns mainGlobals mg) (hb:s₁.heap.Ns builtinsNs mb) (hbb:∀ x:Str,x≠"__name__"->mb x=bootBuiltins x) (hlim:s₁.heap.NoLimit) (hg:s₁.gens = #[])
 (ha:s₁.heap.get? a=some { cls:=.type "list",data:=.seq vs.toArray }) (hi:IntsAre vs ns) (hl:ns.length<=sizeLine) (hr:Room k callerA)
 (F:∀ base:Heap,K.In base->base.Ns mainGlobals mg->FnOk P w K mg base CX k fa fd [x] sp) (hbind:∀(s:Shared)(u:Value),BindsTo s fd ⟨[u],[]⟩ [(x,u)])
 (hsp:∀ H:Hp,Only H->SqL K H a (ns.map V.int)->sp [.ref a] H (fun v _=>v=.bl true) fun _ _ _=>False)
 (hCX:∀ H e s',CX [] H s₁ (fun _ _ _=>False) e s'->False):
 codeAny (model P w) callerA (.call (.ref fa) ⟨[.ref a],[]⟩) (fun r s'=>r=.ok (.ret (.bool true))/\OldK s₁.heap s'.heap/\s'.os=s₁.os/\AllBare s'.gens) s₁:=by
 have rv:=Qzo hi
 have lenV:=hi.length
 -- from an abstract heap in which nothing but the script may be tracked
 have core:∀ H:Hp,Only H->SqL K H a (ns.map V.int)->HOk P w H s₁.heap->(∀ b,H b≠none->b=a)->(H a≠none->K.lookup a=none)->
  codeAny (model P w) callerA (.call (.ref fa) ⟨[.ref a],[]⟩) (fun r s'=>r=.ok (.ret (.bool true))/\OldK s₁.heap s'.heap/\s'.os=s₁.os/\AllBare s'.gens) s₁:=by
  intro H hO hS hok hA hK
  have base_of:∀{b:Addr}{o:Obj},s₁.heap.get? b=some o->H b=none->(hidT s₁.heap H).get? b=some o:=fun e n=>QLV e n
  have noA:∀{b:Addr}{o:Obj}{es:Array DictEntry}{ep:Nat},s₁.heap.get? b=some o->o.data=.dict es ep->H b=none:=fun {b o es ep} e d=>by
   cases q:H b with
   | none=>rfl
   | some u=>
    have e':b=a:=hA b (by rw[q];simp)
    subst e'
    rw[ha]at e;cases e
    have d':Data.seq vs.toArray _=Data.dict es ep:=d
    cases d'
  have nsK:∀{b:Addr}{m:Str->Option Value},s₁.heap.Ns b m->(hidT s₁.heap H).Ns b m:=fun {b m} ⟨o,es,ep,e,d,r⟩=>⟨o,es,ep,base_of e (noA e d),d,r⟩
  have hKb:K.In (hidT s₁.heap H):=fun b o e=>base_of (KX b o e) (by
   cases q:H b with
   | none=>rfl
   | some u=>
    have e':b=a:=hA b (by rw[q];simp)
    subst e'
    rw[hK (by rw[q];simp)]at e;cases e)
  have hM:Mod K mg (hidT s₁.heap H):=⟨hKb,nsK hns,⟨mb,nsK hb,hbb⟩,let ⟨mc,h1,h2⟩:=hlim;⟨mc,nsK h1,h2⟩⟩
  have e0:Env0 P w K mg (hidT s₁.heap H) callerA [] s₁ H:=⟨rfl,hM,fun b o e=>QNq e,Nat.le_of_eq (QKP _ _),trivial,fun b hb=>absurd (show b∈([]:List Addr) from hb) (by simp),hok,.of_eq hg⟩
  refine codeAny_mono ((F _ hKb (nsK hns)).run callerA [] s₁ H ⟨[.ref a],[]⟩ [.ref a] [.ref a] _ _ hr e0 (hbind s₁ (.ref a)) (.cons rfl .nil) (hsp H hO hS)) fun r s' h=>?_
  cases r with
  | error e=>exact(hCX H e s' h).elim
  | ok fl=>
   cases fl with
   | next=>exact False.elim h
   | brk=>exact False.elim h
   | cont=>exact False.elim h
   | ret u=>
    obtain⟨v,H',os,bare,un,hok',r',q⟩:=h
    have q':v=.bl true:=q
    subst q'
    obtain rfl:u=Value.bool true:=r'
    refine⟨rfl,OldK.of_keep fun b o e=>?_,os,bare⟩
    cases q:H b with
    | none=>exact un.keep b o e q (by intro z;exact absurd (show b∈([]:List Addr) from z) (by simp)) (by simp)
    | some u=>
     rcases hO b with z | ⟨ob,xs,z⟩
     ·rw[q]at z;cases z
     ·have z2:=un.frzs b ob _ z
      obtain⟨e1,_⟩:=hok b _ z
      obtain⟨e2,_⟩:=hok' b _ z2
      rw[e]at e1;cases e1
      exact e2
 cases hk:K.lookup a with
 | some o=>
  -- the script is one of the module's own objects
  have e:=KX a o hk
  rw[ha]at e
  cases e
  refine core (fun _=>none) (fun _=>.inl rfl) (.inr ⟨_,vs.toArray,_,hk,rfl,rfl,rfl,by rw[List.size_toArray,lenV];exact hl,by simpa using rv⟩) (fun b u z=>by have z':(none:Option HO)=some u:=z;cases z') (fun b z=>absurd rfl z) fun z=>absurd rfl z
 | none=>
  refine core (fun b=>if b=a then some (.frz { cls:=.type "list",data:=.seq vs.toArray } (.lst (ns.map V.int))) else none) (fun b=>?_) (.inl (.inr ⟨{ cls:=.type "list",data:=.seq vs.toArray },if_pos rfl⟩)) (fun b u z=>?_) (fun b z=>?_) fun _=>hk
  ·by_cases hb:b=a
   ·exact .inr ⟨_,_,if_pos hb⟩
   ·exact .inl (if_neg hb)
  ·by_cases hb:b=a
   ·have z':=(if_pos hb).symm.trans z
    cases z'
    subst hb
    exact⟨ha,by rw[List.length_map];exact hl,vs,_,rv,ha⟩
   ·have z':=(if_neg hb).symm.trans z
    cases z'
  ·by_cases hb:b=a
   ·exact hb
   ·exact absurd (if_neg hb) z
end L2
namespace L2
open PySem PySem.Spec PyProof.Rows
end L2
namespace L2
open PySem PySem.Spec PyProof.Rows
def Qr(s:Stmt):Arguments:=match s with
 | .FunctionDef _ a _ _ _ _ _ _ _ _=>a
 | _=>{ posonlyargs:=[],args:=[],vararg:=none,kwonlyargs:=[],kw_defaults:=[],kwarg:=none,defaults:=[] }
def Qp(s:Stmt):List Stmt:=match s with
 | .FunctionDef _ _ b _ _ _ _ _ _ _=>b
 | _=>[]
def Qa(s:Stmt):Scope:=match s with
 | .FunctionDef _ _ _ _ _ _ sc _ _ _=>sc
 | _=>{ kind:=.function,names:=[],isGenerator:=false,isCoroutine:=false }
abbrev CX0:CXT:=fun _ _ _ _ _ _=>False
abbrev E0:XK:=fun _ _ _=>False
theorem pass0{X:Cx}:Qhd CX0 X E0:=fun _ _ _ _ _ _ _ h=>h.elim
structure Fun(K:PySem.W.Frag)(x qual:Str)(st:Stmt)(f:Addr)(fd:FuncData):Prop where
 ex:∃(oc:Value)(od:Option Addr)(kV doc pm:Value)(an:Option Addr)(cdv ct:Value)(osl:Array (Option Value)),
  fd=PySem.W.fnOf x qual (Qr st) (Qp st) (Qa st) .none kV doc pm an cdv ct/\K.lookup f=some ⟨oc,od,.func fd,osl⟩/\PySem.W.codeIn K cdv qual=true
 kp:PySem.W.keepIn K (.ref f)=true
section
variable{P:Program}{w:World}{K:PySem.W.Frag}{mg:Str->Option Value}{base:Heap}
theorem Fun.ok{x qual:Str}{st:Stmt}{f:Addr}{fd:FuncData}{N ps:List Str}{k:Nat}{sp:Sp}(F:Fun K x qual st f fd)(S:Qq N ps (Qa st))(len:∀ vs H Q E,sp vs H Q E->vs.length=ps.length)
 (hbody:∀(cdv:Value)(A:Around)(outer:List Env)(s:Shared)(H:Hp)(vs:List V)(Q:VK)(E:XK),Room k (A.deeper (envOfC qual (Qa st) s.heap.objs.size f cdv))->sp vs H Q E->
  ∃ t,PSs (cxOf CX0 P w K mg base N qual (Qa st) f cdv A outer s H E).nox (Qp st) t/\t { nx:=fun _ H'=>Q .non H',rt:=Q } (start N vs) H):FnOk P w K mg base CX0 (k+1) f fd ps sp:=by
 obtain⟨oc,od,kV,doc,pm,an,cdv,ct,osl,rfl,lk,hcd⟩:=F.ex
 refine fn_of lk hcd S len fun A outer s H vs Q E hr hsp=>?_
 obtain⟨t,h,q⟩:=hbody cdv A outer s H vs Q E hr hsp
 exact⟨t,h.nox,q⟩
end
section
variable{X:Cx}
end
theorem iteF{A B:Prop}(h:B):if false=true then A else B:=by
 rw[if_neg Bool.false_ne_true]
 exact h
theorem iteT{A B:Prop}(h:A):if true=true then A else B:=by
 rw[if_pos rfl]
 exact h
def Same(H H':Hp):Prop:=∀ b o,H b=some o->H' b=some o
theorem Same.refl(H:Hp):Same H H:=fun _ _ h=>h
theorem Same.trans{H H1 H2:Hp}(a:Same H H1)(b:Same H1 H2):Same H H2:=fun c o h=>b c o (a c o h)
theorem Same.free{H H':Hp}(e:Same H H'){l:Addr}(h:H' l=Option.none):H l=Option.none:=by
 cases q:H l with
 | none=>rfl
 | some o=>
  rw[e l o q]at h
  cases h
theorem Same.seq{K:PySem.W.Frag}{H H':Hp}{a:Addr}{xs:List V}(e:Same H H')(h:SqL K H a xs):SqL K H' a xs:=by
 rcases h with(h | ⟨o,h⟩) | h
 ·exact .inl (.inl (e _ _ h))
 ·exact .inl (.inr ⟨o,e _ _ h⟩)
 ·exact .inr h
end L2
namespace L2
open PySem PySem.Spec PyProof.Rows
section
variable{κ:Type}[DecidableEq κ]
def valV(kvs:List (κ×V))(k:κ):Option V:=(kvs.find? fun kv=>decide (kv.1=k)).map (·.2)
def putK(kvs:List (κ×V))(k:κ)(v:V):List (κ×V):=
 if (kvs.any fun kv=>decide (kv.1=k))=true then kvs.map (fun kv=>if kv.1=k then(kv.1,v) else kv) else kvs++[(k,v)]
theorem QuP{p:κ×V}{r:List (κ×V)}{k:κ}(e:p.1=k):valV (p::r) k=some p.2:=by simp[valV,List.find?_cons,e]
theorem QuH{p:κ×V}{r:List (κ×V)}{k:κ}(e:¬ p.1=k):valV (p::r) k=valV r k:=by simp[valV,List.find?_cons,e]
theorem QCF(k:κ):∀ kvs:List (κ×V),(kvs.any fun kv=>decide (kv.1=k))=(valV kvs k).isSome
 | []=>rfl
 | p::r=>by
  rw[List.any_cons]
  by_cases e:p.1=k
  ·simp only[QuP e,decide_eq_true e,Bool.true_or,Option.isSome_some]
  ·rw[QuH e,decide_eq_false e,Bool.false_or];exact QCF k r
theorem Qt0(kvs:List (κ×V))(k:κ)(v:V):(putK kvs k v).length<=kvs.length+1:=by
 unfold putK
 split
 ·rw[List.length_map];omega
 ·rw[List.length_append,List.length_cons,List.length_nil];omega
theorem RelO.isSome_eq{o:Option V}{u:Option Value}(r:RelO o u):o.isSome=u.isSome:=by
 cases o with
 | none=>cases u with
  | none=>rfl
  | some _=>exact(show False from r).elim
 | some _=>cases u with
  | none=>exact(show False from r).elim
  | some _=>rfl
theorem RelO.getD{o:Option V}{u:Option Value}{d:V}{d':Value}(r:RelO o u)(rd:RelV d d'):RelV (o.getD d) (u.getD d'):=by
 cases o with
 | none=>cases u with
  | none=>exact rd
  | some _=>exact(show False from r).elim
 | some _=>cases u with
  | none=>exact(show False from r).elim
  | some _=>exact r
theorem KV.val{kvs:List (κ×V)}{vs:List (κ×Value)}(r:KV kvs vs)(k:κ):RelO (valV kvs k) (valueAt vs k):=by
 unfold KV at r
 induction r with
 | nil=>exact True.intro
 | @cons p q ps qs h t ih=>
  obtain⟨h1,h2⟩:=h
  by_cases e:p.1=k
  ·have e':q.1=k:=h1.symm.trans e
   have b:valueAt (q::qs) k=some q.2:=by simp[valueAt,List.find?_cons,e']
   rw[QuP e,b];exact h2
  ·have e':¬ q.1=k:=fun z=>e (h1.trans z)
   have b:valueAt (q::qs) k=valueAt qs k:=by simp[valueAt,List.find?_cons,e']
   rw[QuH e,b];exact ih
theorem KV.any{kvs:List (κ×V)}{vs:List (κ×Value)}(r:KV kvs vs)(k:κ):(kvs.any fun kv=>decide (kv.1=k))=vs.any fun kv=>decide (kv.1=k):=by
 unfold KV at r
 induction r with
 | nil=>rfl
 | cons h t ih=>rw[List.any_cons,List.any_cons,ih,h.1]
theorem KV.repl{kvs:List (κ×V)}{vs:List (κ×Value)}(r:KV kvs vs)(k:κ){y:V}{u:Value}(ry:RelV y u):
 KV (kvs.map fun kv=>if kv.1=k then(kv.1,y) else kv) (vs.map fun kv=>if kv.1=k then(kv.1,u) else kv):=by
 unfold KV at r ⊢
 induction r with
 | nil=>exact .nil
 | @cons p q ps qs h t ih=>
  rw[List.map_cons,List.map_cons]
  refine .cons ?_ ih
  obtain⟨h1,h2⟩:=h
  by_cases e:p.1=k
  ·rw[if_pos e,if_pos (h1.symm.trans e)];exact⟨h1,ry⟩
  ·rw[if_neg e,if_neg (fun z=>e (h1.trans z))];exact⟨h1,h2⟩
theorem KV.put{kvs:List (κ×V)}{vs:List (κ×Value)}(r:KV kvs vs)(k:κ){y:V}{u:Value}(ry:RelV y u):KV (putK kvs k y) (stored vs k u):=by
 unfold putK stored
 rw[r.any k]
 by_cases e:(vs.any fun kv=>decide (kv.1=k))=true
 ·rw[if_pos e,if_pos e];exact r.repl k ry
 ·rw[if_neg e,if_neg e];exact Paired.snoc r ⟨rfl,ry⟩
theorem KV.length{kvs:List (κ×V)}{vs:List (κ×Value)}(r:KV kvs vs):kvs.length=vs.length:=Paired.length r
end
theorem kV_is{P:Program}{w:World}{k:Key}{u:Value}(r:RelV (kV k) u):(Qb3 P w).is k u=true:=by
 cases k with
 | inl i=>obtain⟨t,e⟩:=(show ∃ t,u=Value.int i t from r);subst e;exact QFf P w i t
 | inr x=>obtain⟨t,e⟩:=(show ∃ t,u=Value.str x t from r);subst e;exact QE2 P w x t
theorem Qy8{P:Program}{w:World}:∀{ks:List Key}{us:List Value},Vals (ks.map kV) us->ItemsAre (Qb3 P w) ks us
 | [],_,r=>by rw[List.map_nil]at r;cases r;exact .nil
 | k::ks,_,r=>by
  rw[List.map_cons]at r
  cases r with
  | cons h t=>exact .cons (kV_is h) (Qy8 t)
abbrev KT(H:Hp):List (List Key×V)->List (List Key×Addr×Value)->Prop:=Paired fun p q=>p.1=q.1/\H q.2.1=some (.tup (p.1.map kV))/\RelV p.2 q.2.2
theorem KT.val{H:Hp}{kvs:List (List Key×V)}{xs:List (List Key×Addr×Value)}(r:KT H kvs xs)(k:List Key):RelO (valV kvs k) ((atKey xs k).map (·.2)):=by
 induction r with
 | nil=>exact True.intro
 | @cons p q ps qs h t ih=>
  obtain⟨h1,_,h2⟩:=h
  by_cases e:p.1=k
  ·have e':q.1=k:=h1.symm.trans e
   have b:atKey (q::qs) k=some q.2:=by simp[atKey,List.find?_cons,e']
   rw[QuP e,b];exact h2
  ·have e':¬ q.1=k:=fun z=>e (h1.trans z)
   have b:atKey (q::qs) k=atKey qs k:=by simp[atKey,List.find?_cons,e']
   rw[QuH e,b];exact ih
theorem KT.repl{H:Hp}{kvs:List (List Key×V)}{xs:List (List Key×Addr×Value)}(r:KT H kvs xs)(k:List Key){y:V}{u:Value}(ry:RelV y u):
 KT H (kvs.map fun kv=>if kv.1=k then(kv.1,y) else kv) (xs.map (putAt k u)):=by
 induction r with
 | nil=>exact .nil
 | @cons p q ps qs h t ih=>
  rw[List.map_cons,List.map_cons]
  refine .cons ?_ ih
  obtain⟨h1,h2,h3⟩:=h
  unfold putAt
  by_cases e:p.1=k
  ·rw[if_pos e,if_pos (h1.symm.trans e)];exact⟨h1,h2,ry⟩
  ·rw[if_neg e,if_neg (fun z=>e (h1.trans z))];exact⟨h1,h2,h3⟩
theorem KT.put{H:Hp}{kvs:List (List Key×V)}{xs:List (List Key×Addr×Value)}(r:KT H kvs xs)(k:List Key){b:Addr}{y:V}{u:Value}(hb:H b=some (.tup (k.map kV)))(ry:RelV y u):
 KT H (putK kvs k y) (storedH xs k b u):=by
 have e:(kvs.any fun kv=>decide (kv.1=k))=(atKey xs k).isSome:=by
  rw[QCF,(r.val k).isSome_eq,Option.isSome_map]
 unfold putK storedH
 rw[e]
 by_cases q:(atKey xs k).isSome=true
 ·rw[if_pos q,if_pos q];exact r.repl k ry
 ·rw[if_neg q,if_neg q];exact Paired.snoc r ⟨rfl,hb,ry⟩
theorem KT.keeps{H H':Hp}{kvs:List (List Key×V)}{xs:List (List Key×Addr×Value)}(r:KT H kvs xs)(ht:∀ b ys,H b=some (.tup ys)->H' b=some (.tup ys)):KT H' kvs xs:=
 Paired.mapP r fun _ _ z=>⟨z.1,ht _ _ z.2.1,z.2.2⟩
section
variable{P:Program}{w:World}{H:Hp}{h:Heap}{a:Addr}
theorem rd_of{u:HO}(ok:HOk P w H h)(e:Rd H a u):ObjOk P w H h a u:=e.ok ok
theorem dk_rd{kvs:List (Key×V)}(ok:HOk P w H h)(e:Rd H a (.dK kvs)):kvs.length<=sizeLine/\(a == sysModules)=false/\∃ vs,KV kvs vs/\h.DictOf (Qb3 P w) a vs:=
 show ObjOk P w H h a (.dK kvs) from rd_of ok e
theorem dk_of{kvs:List (Key×V)}(ok:HOk P w H h)(e:H a=some (.dK kvs)):kvs.length<=sizeLine/\(a == sysModules)=false/\∃ vs,KV kvs vs/\h.DictOf (Qb3 P w) a vs:=dk_rd ok (.inl e)
theorem Qv1{ks:List Key}(ok:HOk P w H h)(e:H a=some (.tup (ks.map kV))):(tupleKind (Qb3 P w)).is h ks a:=by
 obtain⟨_,its,r,o,h1,h2,n,h3⟩:=(show ObjOk P w H h a (.tup (ks.map kV)) from ok a _ e)
 exact⟨o,its.toArray,n,h1,h2,h3,by simpa using Qy8 r⟩
theorem dt_rd{kvs:List (List Key×V)}(ok:HOk P w H h)(e:Rd H a (.dT kvs)):kvs.length<=sizeLine/\(a == sysModules)=false/\
 ∃ xs,KT H kvs xs/\h.DictOfH (tupleKind (Qb3 P w)) a xs:=by
 obtain⟨z,y,xs,r,o,es,ep,h1,h2,h3,h4,h5⟩:=(show ObjOk P w H h a (.dT kvs) from rd_of ok e)
 refine⟨z,y,xs,r,o,es,ep,h1,h2,h3,h4,fun x hx=>?_,h5⟩
 have all:∀{l:List (List Key×V)}{m:List (List Key×Addr×Value)},KT H l m->∀ x∈m,(tupleKind (Qb3 P w)).is h x.1 x.2.1:=by
  intro l m q
  induction q with
  | nil=>intro x hx;exact nomatch hx
  | @cons p q ps qs hq t ih=>
   intro x hx
   rcases List.mem_cons.mp hx with e | hx
   ·subst e
    exact Qv1 ok (by rw[← hq.1];exact hq.2.1)
   ·exact ih x hx
 exact all r x hx
theorem dt_of{kvs:List (List Key×V)}(ok:HOk P w H h)(e:H a=some (.dT kvs)):kvs.length<=sizeLine/\(a == sysModules)=false/\
 ∃ xs,KT H kvs xs/\h.DictOfH (tupleKind (Qb3 P w)) a xs:=dt_rd ok (.inl e)
end
def DGet(H:Hp)(a:Addr)(y:V)(r:Option V):Prop:=
 (∃ kvs k,Rd H a (.dK kvs)/\y=kV k/\r=valV kvs k)∨∃ kvs k b,Rd H a (.dT kvs)/\y=.ref b/\H b=some (.tup (k.map kV))/\r=valV kvs k
def DPut(H:Hp)(a:Addr)(y v:V)(H':Hp):Prop:=
 (∃ kvs k,H a=some (.dK kvs)/\y=kV k/\kvs.length<sizeLine/\H'=upd H a (.dK (putK kvs k v)))∨
 ∃ kvs k b,H a=some (.dT kvs)/\y=.ref b/\H b=some (.tup (k.map kV))/\kvs.length<sizeLine/\H'=upd H a (.dT (putK kvs k v))
theorem DGet.k{H:Hp}{a:Addr}{kvs:List (Key×V)}{k:Key}(e:H a=some (.dK kvs)):DGet H a (kV k) (valV kvs k):=.inl ⟨kvs,k,.inl e,rfl,rfl⟩
theorem DGet.t{H:Hp}{a b:Addr}{kvs:List (List Key×V)}{k:List Key}(e:H a=some (.dT kvs))(eb:H b=some (.tup (k.map kV))):DGet H a (.ref b) (valV kvs k):=.inr ⟨kvs,k,b,.inl e,rfl,eb,rfl⟩
theorem DPut.k{H:Hp}{a:Addr}{kvs:List (Key×V)}{k:Key}{v:V}(e:H a=some (.dK kvs))(hl:kvs.length<sizeLine):DPut H a (kV k) v (upd H a (.dK (putK kvs k v))):=.inl ⟨kvs,k,e,rfl,hl,rfl⟩
theorem DPut.t{H:Hp}{a b:Addr}{kvs:List (List Key×V)}{k:List Key}{v:V}(e:H a=some (.dT kvs))(eb:H b=some (.tup (k.map kV)))(hl:kvs.length<sizeLine):
 DPut H a (.ref b) v (upd H a (.dT (putK kvs k v))):=.inr ⟨kvs,k,b,e,rfl,eb,hl,rfl⟩
section
variable{X:Cx}{pins:List (Addr×Obj)}{σ:St}{H:Hp}{s:Shared}{a:Addr}{y v:V}{u r:Value}{o:Option V}{A:Around}{E:Value->Shared->Prop}
theorem QLe{Q:Value->Shared->Prop}(hu:A.units+1<cLine)(I:Inv X pins σ H s)(g:DGet H a y (some v))(ry:RelV y u)(h:∀ w' s',Inv X pins σ H s'->RelV v w'->Q w' s'):
 wpAny (model X.prog X.w) A (getItem (.ref a) u) Q E s:=by
 rcases g with⟨kvs,k,e,ey,l⟩ | ⟨kvs,k,b,e,ey,eb,l⟩
 ·subst ey
  obtain⟨z,hd,vs,rel,dd⟩:=dk_rd I.hok e
  obtain⟨w',hw,rw'⟩:=RelO.some_of (v:=v) (o:=valueAt vs k) (by rw[l];exact rel.val k)
  exact wpAny_getItem_of (kV_is ry) dd.mapOf hw (h w' _ (I.tok _) rw')
 ·subst ey
  cases (show u=Value.ref b from ry)
  obtain⟨z,hd,xs,rel,dd⟩:=dt_rd I.hok e
  obtain⟨w',hw,rw'⟩:=RelO.some_of (v:=v) (o:=(atKey xs k).map (·.2)) (by rw[l];exact rel.val k)
  obtain⟨p,hp,hp2⟩:=Option.map_eq_some_iff.mp hw
  refine wpAny_getItem_heap (tupleKind_room_in1 hu) (Qv1 I.hok eb) dd hp ?_
  rw[hp2]
  exact h w' _ (I.tok _) rw'
theorem QHx{h':Heap}{t':Nat}{ob:HO}(I:Inv X pins σ H s)(mu:Mut (H a))(hs:Heap.SameBut a s.heap h')(he:∃ q,h'.get? a=some q)(new:ObjOk X.prog X.w (upd H a ob) h' a ob):
 Inv X pins σ (upd H a ob) { s with heap:=h',toks:=t' }:=
 I.write (x:=a) (e:=a) mu (.inl rfl) (fun b q hb z=>(hs.2 b hb).trans z) he new
theorem QN8{P:Program}{w:World}{H':Hp}{h':Heap}{kvs:List (Key×V)}{vs:List (Key×Value)}(z:kvs.length<=sizeLine)(hd:(a == sysModules)=false)(rel:KV kvs vs)(dd:h'.DictOf (Qb3 P w) a vs):
 ObjOk P w H' h' a (.dK kvs):=⟨z,hd,vs,rel,dd⟩
theorem QKi{H':Hp}{Q:Unit->Shared->Prop}(hu:A.units+1<cLine)(I:Inv X pins σ H s)(g:DPut H a y v H')(ry:RelV y u)(rv:RelV v r)(h:∀ s',Inv X pins σ H' s'->Q () s'):
 wpAny (model X.prog X.w) A (setItem (.ref a) u r) Q E s:=by
 rcases g with⟨kvs,k,e,ey,l,eH⟩ | ⟨kvs,k,b,e,ey,eb,l,eH⟩
 ·subst ey eH
  obtain⟨z,hd,vs,rel,dd⟩:=dk_of I.hok e
  have hz:vs.length<=sizeLine:=by rw[← rel.length];exact z
  have hl:(putK kvs k v).length<=sizeLine:=by have:=Qt0 kvs k v;omega
  refine wpAny_setItem_pairs (hsz:=hz) (kV_is ry) dd fun h' dd' hs=>h _ ?_
  have he:∃ q,h'.get? a=some q:=let ⟨q,_,_,hq,_⟩:=dd';⟨q,hq⟩
  exact QHx I (by rw[e];exact True.intro) hs he (QN8 hl hd (rel.put k rv) dd')
 ·subst ey eH
  cases (show u=Value.ref b from ry)
  obtain⟨z,hd,xs,rel,dd⟩:=dt_of I.hok e
  have hz:xs.length<=sizeLine:=by rw[← Paired.length rel];exact z
  have hl:(putK kvs k v).length<=sizeLine:=by have:=Qt0 kvs k v;omega
  refine wpAny_setItem_heap (hsz:=hz) (tupleKind_room_in1 hu) (Qv1 I.hok eb) dd fun h' dd' hs=>h _ ?_
  obtain⟨q,es,ep,hq,h2,h3,h4,_,h5⟩:=dd'
  refine QHx I (by rw[e];exact True.intro) hs ⟨q,hq⟩ ⟨hl,hd,_,(rel.put k eb rv).keeps fun c ys ec=>?_,q,es,ep,hq,h2,h3,h4,h5⟩
  rw[Qk (ne_of ec e (fun z=>nomatch z))]
  exact ec
end
section
variable{X:Cx}{pins:List (Addr×Obj)}{σ:St}{H:Hp}{s:Shared}{a:Addr}{kvs:List (Key×V)}{k:Key}{u:Value}{A:Around}{E:Value->Shared->Prop}
end
def NoSl(i:Expr):Prop:=∀ ov iv,subscripted i false ov iv=operate [ov,iv] (getItem ov iv)
theorem QNI{prog:Program}{w:World}{A:Around}{E:Value->Shared->Prop}{s:Shared}{env:Env}{value slice:Expr}{pos:Pos}{T id:String}{Q:Value->Shared->Prop}
 (hl:typeLookup (.type T) "__getitem__"=pure (some (.builtin id))) (hs:NoSl slice)
 (h:wpAny (model prog w) A (eval value env) (fun o s₁=>wpAny (model prog w) A (eval slice env) (fun i s₂ => s₂.TypeIs o T/\wpAny (model prog w) A (getItem o i) Q E s₂) E s₁) E s):
 wpAny (model prog w) A (eval (.Subscript value slice pos) env) Q E s:=by
 refine Subscript_ (wpAny_mono h (fun o s₁ h₁=>wpAny_mono h₁ (fun i s₂ h₂ => ?_) fun _ _ x=>x) fun _ _ x=>x)
 obtain⟨hT,h₂⟩:=h₂
 unfold subscriptTail
 refine wpAny_bind ?_
 rw[getitemInPython_of_ne hT.not_modules]
 refine wpAny_bind (wpAny_specialOf hT hl ?_)
 have fin:wpAny (model prog w) A (subscripted slice false o i) (fun r s₃ => wpAny (model prog w) A (letTemporaryGo value o r>>=fun _=>pure r) Q E s₃) E s₂ := by
  rw[hs o i]
  exact wpAny_operating (wpAny_mono h₂ (fun r s₃ h₃ => wpAny_bind (wpAny_letTemporaryGo (wpAny_pure h₃))) fun _ _ x=>x)
 first
  | exact wpAny_pure (wpAny_bind fin)
  | exact wpAny_bind (wpAny_pure (wpAny_bind fin))
  | exact wpAny_bind fin
theorem QEA{X:Cx}{pins:List (Addr×Obj)}{σ:St}{H:Hp}{s:Shared}{a:Addr}{y:V}{o:Option V}(I:Inv X pins σ H s)(g:DGet H a y o):s.TypeIs (.ref a) "dict":=by
 rcases g with⟨kvs,k,e,_,_⟩ | ⟨kvs,k,b,e,_,_,_⟩
 ·obtain⟨_,_,vs,_,dd⟩:=dk_rd I.hok e
  exact dd.typeIs
 ·obtain⟨_,_,xs,_,dd⟩:=dt_rd I.hok e
  exact dd.typeIs
def tDGet(td ty:TE):TE:=fun σ H Q=>td σ H fun x H1=>ty σ H1 fun y H2=>∃ a v,x=.ref a/\DGet H2 a y (some v)/\Q v H2
def sDPut(td ty tv:TE):TS:=fun D σ H=>tv σ H fun v H1=>td σ H1 fun x H2=>ty σ H2 fun y H3=>∃ a H4,x=.ref a/\DPut H3 a y v H4/\D.nx σ H4
section
variable{X:Cx}{o i e value:Expr}{pos pos' tpos:Pos}{td ty tv:TE}
theorem QNR(hu:X.A.units+1<cLine)(ho:PE X o td)(hi:PE X i ty)(hs:NoSl i):PE X (.Subscript o i pos) (tDGet td ty):=by
 intro pins s σ H Q I h
 refine QNI PySem.F.slot_dict_getitem.lookup hs (thn (ho pins s σ H _ I h) fun u s1 ⟨x,H1,I1,rx,q1⟩=>thn (hi pins s1 σ H1 _ I1 q1) fun iv s2 ⟨y,H2,I2,ry,a,v,ex,g,q2⟩=>?_)
 subst ex
 obtain rfl:u=Value.ref a:=rx
 exact⟨QEA I2 g,QLe hu I2 g ry fun w' s3 I3 rw'=>⟨v,H2,I3,rw',q2⟩⟩
theorem QNh(hu:X.A.units+1<cLine)(ho:PE X o td)(hi:PE X i ty)(hv:PE X value tv)(hs:swapsWith value (some (.Subscript o i pos')) pos.line X.env=pure false):
 PS X (.Assign [.Subscript o i pos'] value pos) (sDPut td ty tv):=by
 intro pins s σ H D I h
 refine wpAny_Assign_Subscript (thn (hv pins s σ H _ I h) fun r s1 ⟨v,H1,I1,rv,q1⟩=>thn (ho pins s1 σ H1 _ I1 q1) fun u s2 ⟨x,H2,I2,rx,q2⟩=>thn (hi pins s2 σ H2 _ I2 q2) fun iv s3 ⟨y,H3,I3,ry,a,H4,ex,g,q3⟩=>?_) hs
 subst ex
 obtain rfl:u=Value.ref a:=rx
 exact QKi hu I3 g ry rv fun s4 I4=>⟨σ,H4,I4,q3⟩
end
section
variable{X:Cx}{pos:Pos}
end
structure M1(X:Cx)(o:Expr)(m:Str)(apos:Pos)(e:Expr)(cpos:Pos):Prop where
 base:attributeBase o m X.env (eval o X.env)=eval o X.env
 few:((backTo cpos (starEach [e] X.env)).all (fun x => !x.1)&&(backToKw cpos (keywordEach [] X.env)).all (fun x=>x.1.isSome)
  && decide (([e]:List Expr).length+([]:List Keyword).length+(if ([]:List Keyword).isEmpty then 0 else 1)<30))=true
 line:(apos.endLine == cpos.line)=true
 trees:backTo cpos (starEach [e] X.env)=[(false,eval e X.env)]
def IsD(H:Hp)(a:Addr):Prop:=(∃ kvs,Rd H a (.dK kvs))∨∃ kvs,Rd H a (.dT kvs)
theorem QOv{X:Cx}{pins:List (Addr×Obj)}{σ:St}{H:Hp}{s:Shared}{a:Addr}(I:Inv X pins σ H s)(d:IsD H a):
 s.TypeIs (.ref a) "dict"/\(∀ b,Value.ref a=.ref b->∃ ob,s.heap.get? b=some ob/\ob.dict=none)/\(a == sysModules)=false:=by
 rcases d with⟨kvs,e⟩ | ⟨kvs,e⟩
 ·obtain⟨_,hd,vs,_,dd⟩:=dk_rd I.hok e
  refine⟨dd.typeIs,fun b q=>?_,hd⟩
  cases q
  obtain⟨ob,_,_,h1,h2,_⟩:=dd
  exact⟨ob,h1,h2.2.1⟩
 ·obtain⟨_,hd,xs,_,dd⟩:=dt_rd I.hok e
  refine⟨dd.typeIs,fun b q=>?_,hd⟩
  cases q
  obtain⟨ob,_,_,h1,h2,_⟩:=dd
  exact⟨ob,h1,h2.2.1⟩
section
variable{X:Cx}{pins:List (Addr×Obj)}{σ:St}{H:Hp}{s:Shared}{a:Addr}{y d:V}{u r:Value}{o:Option V}{A:Around}{E:Value->Shared->Prop}
theorem QOl{Q:Value->Shared->Prop}(hu:A.units+1<cLine)(I:Inv X pins σ H s)(g:DGet H a y o)(ry:RelV y u)(h:∀ w' s',Inv X pins σ H s'->RelV (o.getD .non) w'->Q w' s'):
 wpAny (model X.prog X.w) A (call (.builtin "dict.get") [.ref a,u]) Q E s:=by
 rcases g with⟨kvs,k,e,ey,l⟩ | ⟨kvs,k,b,e,ey,eb,l⟩
 ·subst ey
  obtain⟨z,hd,vs,rel,dd⟩:=dk_rd I.hok e
  refine call_meetsIn PySem.F.slot_dict_get dd.typeIs PySem.F.entry_dict_get (PySem.F.args_dict_get_2 _ _) (meets_dict_get (Qb3 X.prog X.w) a (kV_is ry) hd) ⟨_,dd.mapOf,h _ _ (I.tok _) ?_⟩
  rw[l]
  exact(rel.val k).getD rfl
 ·subst ey
  cases (show u=Value.ref b from ry)
  obtain⟨z,hd,xs,rel,dd⟩:=dt_rd I.hok e
  refine call_meetsIn PySem.F.slot_dict_get dd.typeIs PySem.F.entry_dict_get (PySem.F.args_dict_get_2 _ _) (meetsH_dict_get (tupleKind (Qb3 X.prog X.w)) a b hd) ⟨tupleKind_room_in1 hu,k,xs,Qv1 I.hok eb,dd,h _ _ (I.tok _) ?_⟩
  rw[l]
  exact(rel.val k).getD rfl
end
def QOP(td ty:TE):TE:=fun σ H Q=>td σ H fun x H1=>∃ a,x=.ref a/\IsD H1 a/\ty σ H1 fun y H2=>∃ o,DGet H2 a y o/\Q (o.getD .non) H2
section
variable{X:Cx}{o e f:Expr}{apos cpos:Pos}{td ty tx:TE}
theorem QL0(hu:X.A.units+1<cLine)(ho:PE X o td)(he:PE X e ty)(m:M1 X o "get" apos e cpos):PE X (.Call (.Attribute o "get" apos) [e] [] cpos) (QOP td ty):=by
 intro pins s σ H Q I h
 refine wpAny_Call_method m.base m.few m.line PySem.F.plainAttrs_dict PySem.F.slot_dict_get PySem.F.type_dict_get (thn (ho pins s σ H _ I h) fun u s1 ⟨x,H1,I1,rx,a,ex,d,q1⟩=>?_)
 subst ex
 obtain rfl:u=Value.ref a:=rx
 obtain⟨t1,t2,_⟩:=QOv I1 d
 refine⟨t1,t2,?_⟩
 rw[m.trees]
 refine Calls.callWith_builtin rfl (Calls.evalArgs_plain (Calls.spliced_cons (thn (he pins s1 σ H1 _ I1 q1) fun iv s2 ⟨y,H2,I2,ry,ov,g,q2⟩=>Calls.spliced_nil ?_)))
 exact QOl hu I2 g ry fun w' s3 I3 rw'=>⟨_,H2,I3,rw',q2⟩
end
section
variable{X:Cx}{pins:List (Addr×Obj)}{σ:St}{H:Hp}{s:Shared}{a:Addr}{kvs:List (Key×V)}{A:Around}{E:Value->Shared->Prop}
end
section
variable{X:Cx}{pins:List (Addr×Obj)}{σ:St}{H:Hp}{s:Shared}{a:Addr}{y:V}{u:Value}{A:Around}{E:Value->Shared->Prop}
end
end L2
namespace L2
open PySem PySem.Spec PyProof.Rows
structure FlyS(P:Program)(w:World)(l:List Env)(H:Hp)(s:Shared)(ea C t:Addr)(H':Hp)(B:Heap)(s':Shared):Prop where
 os:s'.os=s.os
 bare:AllBare s'.gens
 un:Un (frs l) [] H H' s.heap s'.heap
 kb:∀ b o,s.heap.get? b=some o->H b=none->b∉frs l->B.get? b=some o
 th:∀ b o,s.heap.get? b=some o->b∉frs l->∃ o',B.get? b=some o'
 hok:HOk P w H' B
 fly:Heap.FlyingW B l ea (.ref C) (.ref t) s'.heap
def CXR(P:Program)(w:World):CXT:=fun l H s E e s'=>∃ ea C t H' B,e=.ref ea/\FlyS P w l H s ea C t H' B s'/\E (.ref C) none H'
section
variable{P:Program}{w:World}{l:List Env}{H H':Hp}{s s':Shared}{ea C t:Addr}{B h':Heap}
end
section
variable{X:Cx}{pins:List (Addr×Obj)}{σ:St}{H1:Hp}{s1:Shared}{E:XK}{ea C:Addr}{vs:List Value}{h':Heap}{Ex:Value->Shared->Prop}{M:Model}
theorem Qkc(I:Inv X pins σ H1 s1):∀ b o,X.s₀.heap.get? b=some o->b∉X.fs->b∉frs X.stack:=fun b o e hb z=>by
 rcases List.mem_cons.mp (I.stkSub b z) with q | q
 ·have:=Heap.lt_size e
  rw[q]at this
  exact absurd (Nat.lt_of_lt_of_le this I.ok.above) (Nat.lt_irrefl _)
 ·exact hb q
theorem QNL(I:Inv X pins σ H1 s1):HOk X.prog X.w H1 (PySem.W.hideAll s1.heap (frs X.stack)):=fun a o e=>
 (I.hok a o e).stay (fun b u hb q=>PySem.W.hideAll_get _ q fun z=>by
  have:=I.stkFree b z
  rcases hb with rfl | hb
  ·rw[this]at e;cases e
  ·rw[this]at hb;cases hb) (fun _ q=>q) fun _ _ q=>q
theorem QHy(I:Inv X pins σ H1 s1):∀ b∈X.fs,∀ o,X.s₀.heap.get? b=some o->∀ vs,o.data≠.fields vs:=fun b hb o e=>by
 obtain⟨_,o',h1,h2⟩:=I.ok.funs.mem hb
 rw[e]at h1;cases h1
 exact h2
theorem QIU(I:Inv X pins σ H1 s1)(hst:X.stack=X.env::X.outer)(hfr:X.env.frame=some X.env.locals)(hex:X.ex=[])(hx:Heap.MadeExcOf s1.heap h' ea (.ref C) vs)(hE:E (.ref C) none H1):
 wpAny M X.A (leaving X.env (.ref ea)) (fun _ s''=>CXR X.prog X.w X.outer X.H₀ X.s₀ E (.ref ea) s'') Ex { s1 with heap:=h' }:=by
 have hin:∀ env∈X.stack,∀ b,env.frame=some b->b∈frs X.stack:=fun env he b hb=>List.mem_filterMap.mpr ⟨env,he,hb⟩
 have st:=I.stack
 refine wpAny_leaves_madeW (base:=PySem.W.hideAll s1.heap (frs X.stack)) (h:=s1.heap) (env:=X.env) (outer:=X.outer) (by rw[← hst];exact I.ok.frames) hfr (fun b o q=>PySem.W.of_hideAll _ q)
  (by rw[← hst];exact PySem.W.funFrames_hide st hin) hx fun h2 t fl tp nt up=>?_
 have nx:∀ b:Addr,b∉X.ex:=fun b z=>by rw[hex]at z;cases z
 have kbB:∀ b o,X.s₀.heap.get? b=some o->X.H₀ b=none->b∉X.fs->(PySem.W.hideAll s1.heap (frs X.stack)).get? b=some o:=fun b o e n hb=>PySem.W.hideAll_get _ (I.base.keep b o e n hb (nx b)) (Qkc I b o e hb)
 have thB:∀ b o,X.s₀.heap.get? b=some o->b∉X.fs->∃ o',(PySem.W.hideAll s1.heap (frs X.stack)).get? b=some o':=fun b o e hb=>by
  obtain⟨o',q⟩:=I.base.there b o e (nx b)
  exact⟨o',PySem.W.hideAll_get _ q (Qkc I b o e hb)⟩
 have slot:∀ b o,X.s₀.heap.get? b=some o->X.H₀ b=none->b∈X.fs->∃ sl,h2.get? b=some { o with slots:=sl }:=fun b o e n hb=>by
  obtain⟨sl,q⟩:=I.base.slot b o e n hb (nx b)
  obtain⟨sl2,q2⟩:=up b _ (hx.keeps _ _ q) (QHy I b hb o e)
  exact⟨sl2,q2⟩
 refine⟨ea,C,t,H1,_,rfl,⟨I.os,I.bare,⟨fun b o e n hb _=>fl.1 b o (kbB b o e n hb),fun b o e n hb _=>slot b o e n hb,fun b o e n _=>I.base.free b o e n (nx b),fun b o e _=>?_,I.base.tups,I.base.frzs,I.base.tbls⟩,kbB,thB,QNL I,fl⟩,hE⟩
 by_cases hb:b∈X.fs
 ·obtain⟨sl,q⟩:=slot b o e (I.ok.frf b hb) hb
  exact⟨_,q⟩
 ·obtain⟨o',q⟩:=thB b o e hb
  exact⟨o',fl.1 b o' q⟩
theorem QMz{s':Shared}{e:Value}(I:Inv X pins σ H1 s1)(hst:X.stack=X.env::X.outer)(hfr:X.env.frame=some X.env.locals)(hex:X.ex=[])(h:CXR X.prog X.w X.stack H1 s1 E e s'):
 wpAny M X.A (leaving X.env e) (fun _ s''=>CXR X.prog X.w X.outer X.H₀ X.s₀ E e s'') Ex s':=by
 obtain⟨ea,C,t,H',B,rfl,F,hE⟩:=h
 have fl:=F.fly
 rw[hst]at fl
 refine wpAny_leaves_onW (by rw[← hst];exact I.ok.frames) hfr fl fun h2 fl2 up=>?_
 have nx:∀ b:Addr,b∉X.ex:=fun b z=>by rw[hex]at z;cases z
 have nn:∀ b:Addr,b∉([]:List Addr):=fun b z=>by cases z
 have kbB:∀ b o,X.s₀.heap.get? b=some o->X.H₀ b=none->b∉X.fs->B.get? b=some o:=fun b o e n hb=>
  F.kb b o (I.base.keep b o e n hb (nx b)) (I.base.free b o e n (nx b)) (Qkc I b o e hb)
 have thB:∀ b o,X.s₀.heap.get? b=some o->b∉X.fs->∃ o',B.get? b=some o':=fun b o e hb=>by
  obtain⟨o',q⟩:=I.base.there b o e (nx b)
  exact F.th b o' q (Qkc I b o e hb)
 have slot:∀ b o,X.s₀.heap.get? b=some o->X.H₀ b=none->b∈X.fs->∃ sl,h2.get? b=some { o with slots:=sl }:=fun b o e n hb=>by
  obtain⟨sl,q⟩:=I.base.slot b o e n hb (nx b)
  have hs:b∈frs X.stack:=by
   rw[hst]
   obtain⟨env,h1,h2⟩:=List.mem_filterMap.mp hb
   exact List.mem_filterMap.mpr ⟨env,List.mem_cons_of_mem _ h1,h2⟩
  obtain⟨sl1,q1⟩:=F.un.slot b _ q (I.base.free b o e n (nx b)) hs (nn b)
  obtain⟨sl2,q2⟩:=up b _ q1 (QHy I b hb o e)
  exact⟨sl2,q2⟩
 refine⟨ea,C,t,H',B,rfl,⟨F.os.trans I.os,F.bare,⟨fun b o e n hb _=>fl2.1 b o (kbB b o e n hb),fun b o e n hb _=>slot b o e n hb,fun b o e n _=>?_,fun b o e _=>?_,fun b xs e=>F.un.tups b xs (I.base.tups b xs e),fun b o u e=>F.un.frzs b o u (I.base.frzs b o u e),fun b ps e=>?_⟩,kbB,thB,F.hok,fl2⟩,hE⟩
 ·obtain⟨o',q⟩:∃ o',s1.heap.get? b=some o':=I.base.there b o e (nx b)
  exact F.un.free b o' q (I.base.free b o e n (nx b)) (nn b)
 ·by_cases hb:b∈X.fs
  ·obtain⟨sl,q⟩:=slot b o e (I.ok.frf b hb) hb
   exact⟨_,q⟩
  ·obtain⟨o',q⟩:=thB b o e hb
   exact⟨o',fl2.1 b o' q⟩
 ·obtain⟨m1,q1⟩:=I.base.tbls b ps e
  obtain⟨m2,q2⟩:=F.un.tbls b _ q1
  exact⟨m1++m2,by rw[q2,Array.append_assoc]⟩
end
section
variable{P:Program}{w:World}{K:PySem.W.Frag}{mg:Str->Option Value}{base:Heap}{N:List Str}{qual:Str}{scope:Scope}{f:Addr}{cd:Value}{A:Around}{outer:List Env}{s:Shared}{H:Hp}{E:XK}
theorem passR:Qhd (CXR P w) (cxOf (CXR P w) P w K mg base N qual scope f cd A outer s H E) E:=fun pins σ H1 s1 e s' I h=>QMz I rfl rfl rfl h
end
end L2
namespace L2
open PySem PySem.Spec PyProof.Rows
section
variable{X:Cx}{C:Addr}{E:XK}{x:Str}{e₀:Expr}{rest:List Expr}{ta:TA}{np cpos pos:Pos}
end
end L2
namespace L2
open PySem PySem.Spec PyProof.Rows
def exO(ea C:Addr):HO:=.ext fun h=>∃ o vs,h.get? ea=some o/\o.cls=.ref C/\o.data=.fields vs
section
variable{X:Cx}{pins:List (Addr×Obj)}{σ:St}{H H':Hp}{s s':Shared}{ea C t:Addr}{B:Heap}
end
section
variable{X:Cx}{pins:List (Addr×Obj)}{σ:St}{H H':Hp}{s s':Shared}{ea C DD t:Addr}{B:Heap}{x n:Str}{np hpos:Pos}{b₀:Stmt}{suite:List Stmt}{rest:List ExceptHandler}{D:Ends}{Ex:Value->Shared->Prop}{i:Nat}{ts:TS}
end
end L2
namespace L2
open PySem PySem.Spec PyProof.Rows
abbrev TXS:=Ends->St->Hp->(St->XK)->Prop
section
variable{X:Cx}{k:Nat}{f:Addr}{fd:FuncData}{ps:List Str}{sp:Sp}{dvs:List V}{ds:List Value}{x:Str}{p pos:Pos}{e:Expr}{es:List Expr}{ta:TA}
theorem PA.nox{es:List Expr}{t:TA}(h:PA X.nox es t){pos:Pos}{pins:List (Addr×Obj)}{s:Shared}{σ:St}{H:Hp}{Q:List V->Hp->Prop}{E:Value->Shared->Prop}(I:Inv X pins σ H s)(q:t σ H Q):
 wpAny (model X.prog X.w) X.A (spliced (backTo pos (starEach es X.env))) (AP X pins σ Q) E s:=
 wpAny_mono (h pos pins s σ H Q (I.wish _) q) (fun _ _ ⟨v,H',I',r,q⟩=>⟨v,H',I'.unwish,r,q⟩) fun _ _ z=>False.elim z
variable{t u:TXS}{te:TX}{st:Stmt}{rest:List Stmt}{i:Nat}{px:Pos}
end
end L2
namespace L2
open PySem PySem.Spec PyProof.Rows
def ExAt(x D:Addr)(h:Heap):Prop:=∃ o vs,h.get? x=some o/\o.cls=.ref D/\o.data=.fields vs
section
open PySem.W PySem.Calls Builtin Builtin.ObjectAttr Builtin.Getset_descriptor
variable{K:PySem.W.Frag}{x D:Addr}
theorem QoS{M:Model}{h:Heap}(I:ExAt x D h):Looks M h (typeOf (.ref x)) (.ref D):=by
 obtain⟨o,vs,h1,h2,_⟩:=I
 exact h2 ▸ (Looks.ld h1).andThen .now
theorem Qw5{M:Model}{h:Heap}(X:K.In h){name:Str}{a g:Value}(ha:findIn K (.ref D) name=some (some a))(hg:specialIn K a "__get__"=some (some g))(ht:takesIn K a=some true):
 Looks M h (find (.ref x) (.ref D) name) (.bind g a):=by
 have L1:=looks_findIn (M:=M) X ha
 have L2:Looks M h (getOf (some a)) (some g):=looks_specialIn X hg
 have L3:=looks_takesIn (M:=M) X ht
 exact L1.andThen (L2.andThen ((show Looks M h (dataDescriptor? (some a) (some g)) (some (g,a)) from L3.andThen .now).andThen (Looks.tag .now)))
variable{prog:Program}{w:World}{A:Around}{E:Value->Shared->Prop}{s:Shared}{name:Str}
theorem QMg{M:Model}{nameV:Value}{Q:Unit->Shared->Prop}(X:K.In s.heap)(I:ExAt x D s.heap)(hb:mroIn K D (.type "BaseException")=some true)(hq:Q () s):wpAny M A (checkBuiltinCall "BaseException.__getattribute__" ⟨[.ref x,nameV],[]⟩) Q E s:=by
 obtain⟨hh,g,dr,t,os⟩:=s
 have hk:builtinKind "BaseException.__getattribute__"=some .slot:=dk
 have hsplit:splitId "BaseException.__getattribute__"=some ("BaseException","__getattribute__"):=dk
 have L0:=QoS (M:=M) I
 have L1:=looks_mroIn (M:=M) X hb
 have ha:=F.args_bexc_ga (.ref x) nameV
 simp only[checkBuiltinCall,hk,hsplit]
 refine wpAny_bind ?_
 unfold isInstance
 repeat (first | lk | wp_step)
 exact hq
theorem QN1{R:Result->Shared->Prop}{tp:Value}(X:K.In s.heap)(I:ExAt x D s.heap)(hm:mroIn K D (.type "object")=some true)
 (h:R (.ok (.ret (.ref D))) s):codeAny (model prog w) A (.call (.builtin "getset_descriptor.__get__") ⟨[.builtin "object.__class__",.ref x,tp],[]⟩) R s:=by
 obtain⟨hh,g,dr,t,os⟩:=s
 have L0:=QoS (M:=model prog w) I
 have L1:=looks_mroIn (M:=model prog w) X hm
 refine codeAny_call_builtin KF.slot_gs.plain KF.entry_gs (KF.slot_gs.check _ _ _ _ _ _ _ _ KF.type_class (KF.args_gs _ _ _) ?_)
 unfold Builtin.«getset_descriptor.__get__» descrGet
 rw[dga_obj]
 refine wpAny_bind (wpAny_pure ?_)
 unfold descrGetter descrCheckInstance descrNameAndClass isInstance
 simp only[KF.owner_class]
 repeat lk
 refine⟨Code.quiet_builtin _ (dk),codeAny_builtin KF.entry_class ?_⟩
 unfold Builtin.«object.__class__» shownTypeOf
 repeat lk
 exact h
theorem QMP{g a:Value}{tk:Tok}{Q:Fin->Shared->Prop}(X:K.In s.heap)(I:ExAt x D s.heap)(ha:findIn K (.ref D) "__class__"=some (some (.builtin "object.__class__")))
 (hn:specialIn K (.builtin "object.__class__") "__get__"=some (some (.builtin "getset_descriptor.__get__"))) (ht:takesIn K (.builtin "object.__class__")=some true) (hm:mroIn K D (.type "object")=some true)
 (hq:Q (.done (.ret (.ref D))) s):wpAny (model prog w) A (Builtin.«object.__getattribute__» ⟨[.ref x,.str "__class__" tk],[]⟩) Q E s:=by
 have L3:=Qw5 (x:=x) (M:=model prog w) X ha hn ht
 have L0:=QoS (M:=model prog w) I
 obtain⟨hh,gg,d,t,os⟩:=s
 refine wpAny_bind (wpAny_pure ?_)
 refine wpAny_bind (wpAny_pure (wpAny_bind (L0.at (wpAny_bind (L3.at ?_)))))
 show wpAny _ _ (holding [_] (call (.builtin "getset_descriptor.__get__") [.builtin "object.__class__",.ref x,.ref D])>>=ret) _ _ _
 exact wpAny_bind (wpAny_holding (wpAny_call (QN1 (s:=⟨hh,gg,d,t,os⟩) X I hm (wpAny_pure hq))))
theorem QMW{Q:Option Value->Shared->Prop}(X:K.In s.heap)(I:ExAt x D s.heap)(g1:findIn K (.ref D) "__getattribute__"=some (some (.builtin "BaseException.__getattribute__")))(hb:mroIn K D (.type "BaseException")=some true)
 (g2:findIn K (.ref D) "__getattr__"=some none) (ha:findIn K (.ref D) "__class__"=some (some (.builtin "object.__class__")))
 (hn:specialIn K (.builtin "object.__class__") "__get__"=some (some (.builtin "getset_descriptor.__get__"))) (ht:takesIn K (.builtin "object.__class__")=some true) (hm:mroIn K D (.type "object")=some true)
 (h:Q (some (.ref D)) { s with toks:=s.toks+1 }):wpAny (model prog w) A (getAttr? (.ref x) "__class__") Q E s:=by
 obtain⟨hh,g,d,t,os⟩:=s
 have L0:=QoS (M:=model prog w) I
 have L1:=looks_findIn (M:=model prog w) X g1
 have L2:=looks_findIn (M:=model prog w) X g2
 have f3:=PySem.F.attr_ValueError.ga.bind (.ref x)
 have hx2:(Value.builtin "BaseException.__getattribute__" == Value.builtin "object.__getattribute__")=false:=dk
 have hx1:(onTheHeap (Value.ref D)&&Value.builtin "BaseException.__getattribute__" == Value.builtin "object.__getattribute__")=false:=by rw[hx2];rfl
 unfold getAttr? getAttrBy? getAttrBy
 refine wpAny_bind (wpAny_mkText (wpAny_bind (wpAny_attempt (wpAny_holding (wpAny_bind (L0.at (wpAny_bind (L1.at ?_))))))))
 show wpAny _ _ (if (onTheHeap (Value.ref D)&&Value.builtin "BaseException.__getattribute__" == Value.builtin "object.__getattribute__")=true then _ else getAttrByItsOwn _ _ _ _ _ _) _ _ _
 rw[hx1,if_neg (by decide)]
 unfold getAttrByItsOwn
 refine wpAny_bind ?_
 show wpAny _ _ (typeLookup (.ref D) "__getattr__") _ _ _
 refine L2.at ?_
 refine wpAny_bind (wpAny_attempt ?_)
 refine wpAny_holding ?_
 show wpAny _ _ (boundAndCalled (.builtin "BaseException.__getattribute__") (.ref x) _) _ _ _
 unfold boundAndCalled
 refine wpAny_bind (wpAny_of_eq f3 ?_)
 refine wpAny_call (codeAny_call_builtin PySem.F.attr_ValueError.ga.plain F.entry_bexc_ga (QMg (s:=⟨hh,g,d,t+1,os⟩) X I hb (QMP (g:=.none) (a:=.none) (s:=⟨hh,g,d,t+1,os⟩) X I ha hn ht hm ?_)))
 show wpAny _ _ (handedOut (.ref D)) _ _ _
 exact handed_on rfl (wpAny_pure h)
structure ExCls(K:PySem.W.Frag)(D:Addr):Prop where
 cl:(clsIn K D).isSome=true
 g1:findIn K (.ref D) "__getattribute__"=some (some (.builtin "BaseException.__getattribute__"))
 hb:mroIn K D (.type "BaseException")=some true
 g2:findIn K (.ref D) "__getattr__"=some none
 ha:findIn K (.ref D) "__class__"=some (some (.builtin "object.__class__"))
 hn:specialIn K (.builtin "object.__class__") "__get__"=some (some (.builtin "getset_descriptor.__get__"))
 htk:takesIn K (.builtin "object.__class__")=some true
 hm:mroIn K D (.type "object")=some true
theorem QL3(e:ExCls K D):KitX K (.ref x) (.ref D) (ExAt x D) where
 ty:=fun _ _ _ I=>QoS I
 it:=fun _ _ X _=>by
  obtain⟨cdD,hcD⟩:=Option.isSome_iff_exists.mp e.cl
  unfold clsIn at hcD
  split at hcD
  ·rename_i c' d' cd' sl' ho
   intro A' Q' E' s' k q
   unfold isType loadHead
   exact wpAny_bind (wpAny_loadPart (k _ _ (X _ _ ho)) (wpAny_pure q))
  ·cases hcD
 ne:=fun h tp dd its n sl X htp=>by
  obtain⟨cdD,hcD⟩:=Option.isSome_iff_exists.mp e.cl
  refine Bool.eq_false_iff.mpr fun q=>?_
  have e:D=tp:=Value.ref.inj (beq_iff_eq.mp q)
  subst e
  unfold clsIn at hcD
  split at hcD
  ·rename_i c' d' cd' sl' ho
   have z:=(X _ _ ho).symm.trans htp
   cases z
  ·cases hcD
 ca:=fun X I k=>QMW X I e.g1 e.hb e.g2 e.ha e.hn e.htk e.hm k
end
end L2
set_option maxHeartbeats 1000000
namespace L2
open PySem PySem.Spec PyProof.Rows
section
variable{prog:Program}{w:World}{A:Around}{R:Result->Shared->Prop}{s:Shared}
theorem QCh{elt target iter:Expr}{ifs:List Expr}{scope:Scope}{pos:Pos}{it acc:Value}{env:Env}(I:Nat->Shared->Prop)(NB:Value->Shared->Prop)(hNB:∀ e s',NB e s'->notedBy (model prog w) A env (fun e s'=>R (.error e) s') e s')
 (turn:∀ n s,I n s->wpAny (model prog w) A (pyNext it) (fun r s₁=>match r with
  | none=>R (.ok .next) s₁
  | some v=>wpAny (model prog w) A (letOwnedTupleGo target it v) (fun _ s₁'=>wpAny (model prog w) A (assign target env v) (fun _ s₂ =>
   wpAny (model prog w) A (forIn ifs true fun c r=>if r=true then do let ok ← isTrue c env (eval c env);pure (ForInStep.yield ok) else pure (ForInStep.yield r)) (fun ok s₃ =>
    if ok=true then wpAny (model prog w) A (eval elt env) (fun x s₄ =>
     wpAny (model prog w) A (call (.builtin "list.append") [acc,x]) (fun _ s₅ => ∃ m,m<n/\I m s₅) NB s₄) NB s₃
    else ∃ m,m<n/\I m s₃) NB s₂) NB s₁') NB s₁) NB s)
 (n:Nat) (h:I n s):
 codeAny (model prog w) A (.compLoop (.ListComp elt [⟨target,iter,ifs,0⟩] scope pos) 0 it acc env) R s:=by
 refine codeAny_loop rfl I (fun n s hI=>?_) n h
 show wpAny _ A ((compTurn (.ListComp elt [⟨target,iter,ifs,0⟩] scope pos) 0 it acc env).onRaise (fun x=>do noteFrame x env;theTreesLotGoes x)) _ _ s
 refine wpAny_noted ?_
 rw[compTurn_list]
 refine wpAny_bind (wpAny_standAt (wpAny_bind (wpAny_mono (turn n s hI) (fun r s₁ h₁=>?_) hNB)))
 cases r with
 | none=>exact wpAny_pure h₁
 | some v=>
  refine wpAny_bind (wpAny_mono h₁ (fun _ s₁' h₁'=>?_) hNB)
  refine wpAny_bind (wpAny_mono h₁' (fun _ s₂ h₂ => wpAny_bind (wpAny_mono h₂ (fun ok s₃ h₃ => ?_) hNB)) hNB)
  cases ok with
  | false=>exact wpAny_pure ⟨rfl,h₃⟩
  | true=>
   exact wpAny_bind (wpAny_bind (wpAny_mono h₃ (fun x s₄ h₄ => wpAny_bind (wpAny_mono h₄ (fun _ s₅ h₅ => wpAny_pure (wpAny_pure ⟨rfl,h₅⟩)) hNB)) hNB))
end
def Qi(scope outer:Scope):Scope:=
 { scope with names:=scope.names.map fun(n,k)=>if (k == .free&&outer.kind == .function&&outer.names.lookup n == some .cell) then(n,.cell) else(n,k) }
theorem QoE(c:Str->NameKind->Bool)(x:Str):∀ names:List (Str×NameKind),(names.map fun(n,k)=>if c n k=true then(n,NameKind.cell) else(n,k)).lookup x=(names.lookup x).map fun k=>if c x k=true then NameKind.cell else k
 | []=>rfl
 | (n,k)::r=>by
  have ih:=QoE c x r
  show List.lookup x ((if c n k=true then(n,NameKind.cell) else(n,k))::_)=_
  by_cases hx:x=n
  ·subst hx
   by_cases hc:c x k=true
   ·rw[if_pos hc,List.lookup_cons_self,List.lookup_cons_self];simp[hc]
   ·rw[if_neg hc,List.lookup_cons_self,List.lookup_cons_self];simp[hc]
  ·have hb:(x == n)=false:=by simpa using hx
   by_cases hc:c n k=true
   ·rw[if_pos hc,List.lookup_cons,List.lookup_cons,hb];exact ih
   ·rw[if_neg hc,List.lookup_cons,List.lookup_cons,hb];exact ih
theorem QmT(scope outer:Scope)(x:Str):(Qi scope outer).names.lookup x=(scope.names.lookup x).map fun k=>if (k == .free&&outer.kind == .function&&outer.names.lookup x == some .cell)=true then NameKind.cell else k:=
 QoE (fun n k=>k == .free&&outer.kind == .function&&outer.names.lookup n == some .cell) x scope.names
theorem Qz0{scope outer:Scope}{x:Str}(h:scope.names.lookup x=some .free):(Qi scope outer).names.lookup x=some .cell∨(Qi scope outer).names.lookup x=some .free:=by
 rw[QmT,h]
 show some (if _ then _ else _)=_∨some (if _ then _ else _)=_
 split
 ·exact .inl rfl
 ·exact .inr rfl
theorem QAi{scope outer:Scope}{x:Str}(h:(Qi scope outer).names.lookup x=some .cell∨(Qi scope outer).names.lookup x=some .free):scope.names.lookup x=some .cell∨scope.names.lookup x=some .free:=by
 rw[QmT]at h
 cases e:scope.names.lookup x with
 | none=>rw[e]at h;rcases h with h | h<;>cases h
 | some k=>
  rw[e]at h
  cases k with
  | free=>exact .inr rfl
  | cell=>exact .inl rfl
  | _=>rcases h with h | h<;>cases h
def Qbz(env:Env):List (Str×NameKind)->List (Str×Addr)->List (Str×Addr)
 | [],acc=>acc
 | (n,k)::r,acc=>if (k == .free)=true then Qbz env r ((n,(env.cells.lookup n).getD 0)::acc) else Qbz env r acc
theorem QvK{scope:Scope}{env:Env}(h:∀ y∈scope.names,y.2=.free->(env.cells.lookup y.1).isSome=true):closureFor scope env=pure (Qbz env scope.names []):=by
 have go:∀(names:List (Str×NameKind))(acc:List (Str×Addr)),(∀ y∈names,y.2=.free->(env.cells.lookup y.1).isSome=true)->
  (forIn names acc fun x r=>if (x.2 == NameKind.free)=true then(cellOf env x.1>>=fun a=>pure (ForInStep.yield ((x.1,a)::r))) else pure (ForInStep.yield r):Sem (List (Str×Addr)))=pure (Qbz env names acc):=by
  intro names
  induction names with
  | nil=>intro acc _;rfl
  | cons y r ih=>
   intro acc hy
   obtain⟨n,k⟩:=y
   rw[List.forIn_cons]
   unfold Qbz
   by_cases hk:(k == NameKind.free)=true
   ·obtain⟨c,hc⟩:=Option.isSome_iff_exists.mp (hy (n,k) List.mem_cons_self (beq_iff_eq.mp hk))
    have e:cellOf env n=pure c:=by unfold cellOf;rw[show env.cells.lookup n=some c from hc]
    simp only[hk,if_true,e]
    rw[show(env.cells.lookup n).getD 0=c from by rw[show env.cells.lookup n=some c from hc];rfl]
    exact ih _ fun y hm=>hy y (List.mem_cons_of_mem _ hm)
   ·simp only[hk]
    exact ih _ fun y hm=>hy y (List.mem_cons_of_mem _ hm)
 have e:=go scope.names [] h
 unfold closureFor
 exact congrArg (fun m=>m>>=fun s=>(pure s:Sem (List (Str×Addr)))) e
theorem Qks{env:Env}{p:Str×Addr}:∀{names:List (Str×NameKind)}{acc:List (Str×Addr)},p∈Qbz env names acc->p∈acc∨p.2=(env.cells.lookup p.1).getD 0/\∃ y∈names,y.1=p.1/\y.2=.free
 | [],_,h=>.inl h
 | (n,k)::r,acc,h=>by
  unfold Qbz at h
  split at h
  ·rename_i hk
   rcases Qks h with h | ⟨h,y,hy,e⟩
   ·rcases List.mem_cons.mp h with h | h
    ·subst h;exact .inr ⟨rfl,(n,k),List.mem_cons_self,rfl,beq_iff_eq.mp hk⟩
    ·exact .inl h
   ·exact .inr ⟨h,y,List.mem_cons_of_mem _ hy,e⟩
  ·rcases Qks h with h | ⟨h,y,hy,e⟩
   ·exact .inl h
   ·exact .inr ⟨h,y,List.mem_cons_of_mem _ hy,e⟩
theorem QkA{env:Env}{x:Str}:∀{names:List (Str×NameKind)}{acc:List (Str×Addr)},(acc.lookup x).isSome=true∨(∃ y∈names,y.1=x/\y.2=.free)->((Qbz env names acc).lookup x).isSome=true
 | [],_,h=>h.elim id fun⟨_,hy,_⟩=>nomatch hy
 | (n,k)::r,acc,h=>by
  unfold Qbz
  split
  ·rename_i hk
   refine QkA ?_
   rcases h with h | ⟨y,hy,e1,e2⟩
   ·refine .inl ?_
    rw[List.lookup_cons]
    split
    ·rfl
    ·exact h
   ·rcases List.mem_cons.mp hy with rfl | hy
    ·refine .inl ?_
     have e1:n=x:=e1
     subst e1
     rw[List.lookup_cons_self];rfl
    ·exact .inr ⟨y,hy,e1,e2⟩
  ·rename_i hk
   refine QkA ?_
   rcases h with h | ⟨y,hy,e1,e2⟩
   ·exact .inl h
   ·rcases List.mem_cons.mp hy with rfl | hy
    ·have e2:k=.free:=e2
     subst e2
     exact absurd rfl hk
    ·exact .inr ⟨y,hy,e1,e2⟩
theorem Qcu{α:Type}{l:List (Str×α)}{x:Str}{c:α}(h:l.lookup x=some c):(x,c)∈l:=PySem.mem_of_lookup h
theorem QwS{p:Str×Addr}:∀{names:List (Str×NameKind)}{n:Nat}{acc:List (Str×Addr)},p∈cellsFrom n names acc->p∈acc∨n<=p.2
 | [],_,_,h=>.inl h
 | (y,k)::r,n,acc,h=>by
  unfold cellsFrom at h
  split at h
  ·rcases QwS h with h | h
   ·rcases List.mem_cons.mp h with h | h
    ·subst h;exact .inr (Nat.le_refl _)
    ·exact .inl h
   ·exact .inr (Nat.le_of_succ_le h)
  ·exact QwS h
theorem QB9:∀{names:List (Str×NameKind)}{n:Nat}{acc:List (Str×Addr)},(∀ p∈acc,p.2<n)->(∀ p∈acc,∀ q∈acc,p.2=q.2->p.1=q.1)->∀ p∈cellsFrom n names acc,∀ q∈cellsFrom n names acc,p.2=q.2->p.1=q.1
 | [],_,_,_,h=>h
 | (y,k)::r,n,acc,hl,hi=>by
  unfold cellsFrom
  split
  ·refine QB9 (fun p hp=>?_) fun p hp q hq e=>?_
   ·rcases List.mem_cons.mp hp with rfl | hp
    ·exact Nat.lt_succ_self _
    ·exact Nat.lt_succ_of_lt (hl p hp)
   ·rcases List.mem_cons.mp hp with rfl | hp<;>rcases List.mem_cons.mp hq with rfl | hq
    ·rfl
    ·exact absurd e (Nat.ne_of_gt (hl q hq))
    ·exact absurd e (Nat.ne_of_lt (hl p hp))
    ·exact hi p hp q hq e
  ·exact QB9 hl hi
theorem QyU:∀{names:List (Str×NameKind)}{h:Heap}{acc:List (Str×Addr)},(∀ p∈acc,∃ v,h.IsCell p.2 v)->∀ p∈cellsFrom h.objs.size names acc,∃ v,(pushCells h names).IsCell p.2 v
 | [],_,_,h=>h
 | (y,k)::r,h,acc,hc=>by
  unfold cellsFrom pushCells
  split
  ·have:=QyU (names:=r) (h:=h.push { cls:=.type "cell",data:=.cell none }) (acc:=(y,h.objs.size)::acc) fun p hp=>by
    rcases List.mem_cons.mp hp with rfl | hp
    ·exact⟨none,_,Heap.get?_push_size _ rfl,rfl⟩
    ·obtain⟨v,q⟩:=hc p hp
     exact⟨v,q.keeps fun b o e=>Heap.get?_push_of_some _ e⟩
   rwa [Heap.size_push]at this
  ·exact QyU hc
theorem QxY{x:Str}:∀{names:List (Str×NameKind)}{n:Nat}{acc:List (Str×Addr)},(∀ y∈names,y.1=x->y.2=.free)->(cellsFrom n names acc).lookup x=acc.lookup x
 | [],_,_,_=>rfl
 | (y,k)::r,n,acc,h=>by
  unfold cellsFrom
  split
  ·rename_i hk
   rw[QxY fun z hz=>h z (List.mem_cons_of_mem _ hz),List.lookup_cons]
   split
   ·rename_i hb
    have hx:x=y:=beq_iff_eq.mp hb
    have:=h (y,k) List.mem_cons_self hx.symm
    have this:k=.free:=this
    subst this
    exact absurd hk (by decide)
   ·rfl
  ·exact QxY fun z hz=>h z (List.mem_cons_of_mem _ hz)
def QC6(scope:Scope)(cl:List (Str×Addr))(L:Addr)(env:Env):Env:=
 { scope:=Qi scope env.scope,locals:=L,globals:=env.globals,cells:=cellsFrom (L+1) scope.names cl,qual:=env.qual,func:=none,code:=env.code,frame:=env.frame,builtins:=env.builtins }
theorem QNv{M:Model}{A:Around}{E:Value->Shared->Prop}{s:Shared}{scope:Scope}{cl:List (Str×Addr)}{env:Env}{Q:Env->Shared->Prop}
 (h:∀ c,{ c with scope:=relabel scope env }=QC6 scope cl s.heap.objs.size env->c.locals=s.heap.objs.size->Q c { s with heap:=pushCells (s.heap.push { cls:=.type "dict",data:=.dict #[] }) scope.names }):
 wpAny M A (newFunctionEnv scope env.globals cl [] env.qual none .none (some env)) Q E s:=by
 simp only[newFunctionEnv,Option.isSome_some,if_true]
 refine wpAny_bind (wpAny_alloc ?_)
 refine wpAny_bind (wpAny_layCells _ (fun name kind cells=>by cases hkc:kind == NameKind.cell<;>simp[hkc]) _ _ _ _ ?_)
 rw[show({ s with heap:=s.heap.push { cls:=.type "dict",data:=.dict #[] } }:Shared).heap.objs.size=s.heap.objs.size+1 from Heap.size_push ..]
 refine wpAny_bind (wpAny_pure (wpAny_pure (h _ ?_ rfl)))
 rfl
def capt(js:List (Option Nat))(σ:St):St:=js.map fun j=>j.bind fun j=>(σ[j]?).join
structure QK(N':List Str)(js:List (Option Nat))(scope outer:Scope)(N:List Str):Prop where
 kind:scope.kind=.function
 uniq:∀ y∈scope.names,scope.names.lookup y.1=some y.2
 nd:N'.Nodup
 len:js.length=N'.length
 free:∀ y∈scope.names,y.2=.free->outer.names.lookup y.1=some .cell∨outer.names.lookup y.1=some .free
 cap:((N'.zip js).all fun p=>match p.2 with
  | none=>true
  | some j=>decide (N[j]?=some p.1)&&decide (scope.names.lookup p.1=some .free))=true
theorem QK.capOf{N':List Str}{js:List (Option Nat)}{scope outer:Scope}{N:List Str}(S:QK N' js scope outer N){i j:Nat}{x:Str}(h1:N'[i]?=some x)(h2:js[i]?=some (some j)):
 N[j]?=some x/\scope.names.lookup x=some .free/\∀ y∈scope.names,y.1=x->y.2=.free:=by
 have h:=List.all_eq_true.mp S.cap (x,some j) (by
  refine List.mem_of_getElem? (i:=i) ?_
  rw[List.getElem?_zip_eq_some]
  exact⟨h1,h2⟩)
 simp only[Bool.and_eq_true,decide_eq_true_eq]at h
 exact⟨h.1,h.2,fun y hy e=>by
  have:=S.uniq y hy
  rw[e,h.2]at this
  exact(Option.some.inj this).symm⟩
theorem QK.names{N':List Str}{js:List (Option Nat)}{scope outer:Scope}{N:List Str}(S:QK N' js scope outer N):∀ y∈scope.names,y.2=.local->scope.names.lookup y.1=some .local:=fun y hy e=>by
 rw[S.uniq y hy,e]
def cxC(X:Cx)(N':List Str)(scope:Scope)(fp:List Addr)(s:Shared)(H:Hp):Cx:=
 { X with N:=N',s₀:=s,H₀:=H,env:=QC6 scope (Qbz X.env scope.names []) s.heap.objs.size X.env,outer:=X.stack,ex:=fp,
          fn:=fun x=>match scope.names.lookup x with | some .cell=>true | _=>false,pn:=[],xe:=fun _ _=>False }
theorem QL6{X:Cx}{N':List Str}{js:List (Option Nat)}{scope:Scope}{pins:List (Addr×Obj)}{σ:St}{H:Hp}{s:Shared}{fp:List Addr}(S:QK N' js scope X.env.scope X.N)(I:Inv X pins σ H s)(hf:∀ b∈fp,FpOk X pins H b)
 (hlt:∀ b∈fp,b<s.heap.objs.size):
 Inv (cxC X N' scope fp s H) [] (capt js σ) H { s with heap:=pushCells (s.heap.push { cls:=.type "dict",data:=.dict #[] }) scope.names }:=by
 have hk:∀ b o,s.heap.get? b=some o->(pushCells (s.heap.push { cls:=.type "dict",data:=.dict #[] }) scope.names).get? b=some o:=fun b o e=>pushCells_keeps _ _ b o (Heap.get?_push_of_some _ e)
 have sz:(s.heap.push { cls:=.type "dict",data:=.dict #[] }).objs.size=s.heap.objs.size+1:=Heap.size_push ..
 -- captured cells stand in the outer frame
 have out:∀ x,(∃ y∈scope.names,y.1=x/\y.2=.free)->∃ c,X.env.cells.lookup x=some c:=fun x ⟨y,hy,e1,e2⟩=>by
  subst e1
  exact I.ok.has y.1 (S.free y hy e2)
 have clm:∀ p∈Qbz X.env scope.names [],X.env.cells.lookup p.1=some p.2:=fun p hp=>by
  rcases Qks hp with h | ⟨h,hy⟩
  ·cases h
  ·obtain⟨c,hc⟩:=out p.1 hy
   rw[hc]at h ⊢
   rw[h];rfl
 have cllt:∀ p∈Qbz X.env scope.names [],p.2<s.heap.objs.size:=fun p hp=>by
  obtain⟨v,q⟩:=I.cell p.1 p.2 (clm p hp)
  exact q.lt
 have cin:∀ x c,(cellsFrom (s.heap.objs.size+1) scope.names (Qbz X.env scope.names [])).lookup x=some c->X.env.cells.lookup x=some c∨s.heap.objs.size+1<=c:=fun x c e=>by
  rcases QwS (Qcu e) with h | h
  ·exact .inl (clm _ h)
  ·exact .inr h
 have capL:∀ x,scope.names.lookup x=some .free->(∀ y∈scope.names,y.1=x->y.2=.free)->(cellsFrom (s.heap.objs.size+1) scope.names (Qbz X.env scope.names [])).lookup x=X.env.cells.lookup x:=fun x hx hy=>by
  rw[QxY hy]
  have hs:=QkA (env:=X.env) (x:=x) (names:=scope.names) (acc:=[]) (.inr ⟨_,Qcu hx,rfl,rfl⟩)
  obtain⟨c,hc⟩:=Option.isSome_iff_exists.mp hs
  rw[hc,clm _ (Qcu hc)]
 refine⟨⟨I.ok.mod,S.kind,I.ok.glob,I.ok.blt,Nat.le_refl _,fun x y c h1 h2=>?_,fun x hx=>?_,fun x c hx h=>?_,I.ok.hd,I.ok.frames,.inl rfl,fun b hb=>?_,I.bs,Nat.le_trans I.ok.bsz I.sz,fun b o e hb=>?_,fun b hb hz=>?_,I.stack,I.stkFree⟩,
  rfl,I.bare,Un.kept hk,?_,fun x c h=>?_,I.hok.fresh (Nat.le_refl _),fun x c h=>?_,fun p hp=>absurd (show p∈([]:List (Addr×Obj)) from hp) (by simp),I.hok.kept hk,?_⟩
 ·refine QB9 (names:=scope.names) (n:=s.heap.objs.size+1) (acc:=Qbz X.env scope.names []) (fun p hp=>Nat.lt_succ_of_lt (cllt p hp)) (fun p hp q hq e=>?_) (x,c) (Qcu h1) (y,c) (Qcu h2) rfl
  have a:=clm p hp
  have b:=clm q hq
  rw[← e]at b
  exact I.ok.inj _ _ _ a b
 ·have hx':=QAi (show(Qi scope X.env.scope).names.lookup x=some .cell∨_ from hx)
  refine Option.isSome_iff_exists.mp (PySem.W.cellsFrom_some scope.names _ _ ?_)
  rcases hx' with h | h
  ·exact .inl h
  ·exact .inr (QkA (.inr ⟨_,Qcu h,rfl,rfl⟩))
 ·rcases QwS (Qcu h) with hm | hm
  ·-- an own cell's name is captured too: its first entry is the own one
   have hx':scope.names.lookup x=some .cell:=by
    have hx2:(match scope.names.lookup x with | some .cell=>true | _=>false)=true:=hx
    split at hx2
    ·assumption
    ·cases hx2
   rcases Qks hm with q | ⟨_,y,hy,e1,e2⟩
   ·cases q
   ·have:=S.uniq y hy
    have e1:y.1=x:=e1
    rw[e1,hx',e2]at this
    cases this
  ·exact Nat.le_of_succ_le hm
 ·refine⟨Nat.ne_of_lt (hlt b hb),fun x c h e=>?_⟩
  rcases cin x c h with q | q
  ·exact(hf b hb).2.2.2.2.1 x c q e
  ·have:=hlt b hb
   rw[← e]at this
   exact absurd (Nat.lt_of_lt_of_le this (Nat.le_of_succ_le q)) (Nat.lt_irrefl _)
 ·rcases(hf b hb).2.2.2.1 with z | z
  ·exact I.ok.noex b o e z
  ·exact absurd (Nat.lt_of_lt_of_le (Heap.lt_size (I.ok.bs b o e).1) z) (Nat.lt_irrefl _)
 ·rcases List.mem_cons.mp (I.stkSub b hz) with e | e
  ·exact(hf b hb).2.1 e
  ·exact(hf b hb).2.2.1 e
 ·obtain⟨m,hn,hl⟩:=I.loc
  refine⟨fun _=>none,(Heap.Ns.new s.heap (.type "dict")).keeps (pushCells_keeps _ _),fun i x v h1 h2 h3=>?_⟩
  have h2':((js[i]?).map fun j=>j.bind fun j=>(σ[j]?).join)=some (some v):=by
   unfold capt at h2
   rw[List.getElem?_map]at h2
   exact h2
  cases e:js[i]? with
  | none=>rw[e]at h2';cases h2'
  | some o=>
   rw[e]at h2'
   cases o with
   | none=>cases h2'
   | some j=>
    have h4:(σ[j]?).join=some v:=Option.some.inj h2'
    have h5:σ[j]?=some (some v):=by
     cases z:σ[j]? with
     | none=>rw[z]at h4;cases h4
     | some o=>rw[z]at h4;have h4:o=some v:=h4;rw[h4]
    obtain⟨hN,hx,hy⟩:=S.capOf h1 e
    have hvis:=S.free _ (Qcu hx) rfl
    obtain⟨u,r,lk⟩:=hl j x v hN h5 (.inr hvis)
    refine⟨u,r,.inr ⟨Qz0 hx,?_⟩⟩
    rcases lk with⟨k,_⟩ | ⟨_,c,hc,z⟩
    ·have k:X.env.scope.names.lookup x=some .local:=k
     rcases hvis with q | q
     ·rw[k]at q;cases q
     ·rw[k]at q;cases q
    ·exact⟨c,(capL x hx hy).trans hc,z.keeps hk⟩
 ·have:=QyU (names:=scope.names) (h:=s.heap.push { cls:=.type "dict",data:=.dict #[] }) (acc:=Qbz X.env scope.names []) (fun p hp=>by
   obtain⟨v,q⟩:=I.cell p.1 p.2 (clm p hp)
   exact⟨v,q.keeps fun b o e=>Heap.get?_push_of_some _ e⟩) (x,c) (by rw[sz];exact Qcu h)
  exact this
 ·rcases cin x c h with q | q
  ·exact I.freeC x c q
  ·exact I.hok.fresh (Nat.le_of_succ_le q)
 ·show(js.map _).length=N'.length
  rw[List.length_map];exact S.len
def eMax(X:Cx)(e:Expr):TE:=fun σ H Q=>∃ t,PE X e t/\t σ H Q
theorem QOZ{X:Cx}{e:Expr}:PE X e (eMax X e):=fun pins s σ H Q I ⟨t,ht,h⟩=>ht pins s σ H Q I h
def gMax(X:Cx)(e:Expr):TG:=fun v σ H Q=>∃ t,PG X e t/\t v σ H Q
theorem QOa{X:Cx}{e:Expr}:PG X e (gMax X e):=fun pins s σ H v u Q I r ⟨t,ht,h⟩=>ht pins s σ H v u Q I r h
def PIf(X:Cx)(ifs:List Expr)(tc:TT):Prop:=(ifs=[]/\tc=fun _ H Q=>Q true H)∨∃ c,ifs=[c]/\PT X c tc
theorem QND{X:Cx}:PIf X [] (fun _ H Q=>Q true H):=.inl ⟨rfl,rfl⟩
theorem QNl{X:Cx}{c:Expr}{tc:TT}(h:PT X c tc):PIf X [c] tc:=.inr ⟨c,rfl,h⟩
theorem PIf.run{X:Cx}{ifs:List Expr}{tc:TT}(h:PIf X ifs tc){pins:List (Addr×Obj)}{s:Shared}{σ:St}{H:Hp}{Q:Bool->Hp->Prop}(I:Inv X pins σ H s)(q:tc σ H Q):
 wpAny (model X.prog X.w) X.A (forIn ifs true fun c r=>if r=true then do let ok ← isTrue c X.env (eval c X.env);pure (ForInStep.yield ok) else pure (ForInStep.yield r)) (TP X pins σ Q) X.xe s:=by
 rcases h with⟨rfl,rfl⟩ | ⟨c,rfl,h⟩
 ·exact wpAny_tests_nil ⟨H,I,q⟩
 ·exact wpAny_tests_one (h pins s σ H Q I q)
def cMax(X:Cx)(ifs:List Expr):TT:=fun σ H Q=>∃ t,PIf X ifs t/\t σ H Q
def CompW(X':Cx)(js:List (Option Nat))(tg elt:Expr)(ifs:List Expr)(σ:St)(H1:Hp)(J:It)(p:Addr)(Q:VK):Prop:=
 ∃ W:Nat->Nat->St->Hp->Prop,(∃ m,W 0 m (capt js σ) (upd H1 p (.lst [])))/\∀ i m τ H',W i m τ H'->
 (J.stop i H'/\Q (.ref p) H')∨(J.go i H'/\∃ N:St->Hp->Prop,(∀ τ' H'',N τ' H''->∃ m',m'<m/\W (i+1) m' τ' H'')/\∀ x H'',J.yld i H' x H''->gMax X' tg x τ H'' fun τ2 H2=>cMax X' ifs τ2 H2 fun b H3=>
  if b=true then eMax X' elt τ2 H3 fun y H4=>∃ ys,H4 p=some (.lst ys)/\ys.length<sizeLine/\N τ2 (upd H4 p (.lst (ys++[y]))) else N τ2 H3)
def tComp(X:Cx)(N':List Str)(js:List (Option Nat))(scope:Scope)(tg elt:Expr)(ifs:List Expr)(wi:TI):TE:=fun σ H Q=>wi σ H fun J H1=>∀ p,H1 p=none->∀ fp s,
 CompW (cxC X N' scope fp s (upd H1 p (.lst []))) js tg elt ifs σ H1 J p Q
section
variable{X:Cx}{N':List Str}{js:List (Option Nat)}{scope:Scope}{tg iter elt:Expr}{ifs:List Expr}{wi:TI}{pos:Pos}
theorem QwE{pins:List (Addr×Obj)}{σ:St}{H:Hp}{s:Shared}{R:V->Hp->Prop}{E:Value->Shared->Prop}(hc:X.calm=true)(S:QK N' js scope X.env.scope X.N)
 {it:Addr} {fp:List Addr} {tn:Nat->Heap->Prop} {J:It} (I2:Inv X pins σ H s) (T:Turn X.prog X.w X.K tg J fp it tn) (st:tn 0 s.heap) (hf:∀ b∈fp,FpOk X pins H b)
 (hW:∀ p,H p=none->∀ fp s,CompW (cxC X N' scope fp s (upd H p (.lst []))) js tg elt ifs σ H J p R)
 {RR:Value->Addr->Result->Shared->Prop}
 (hRR:∀(D C:Addr)(s':Shared)(H':Hp),Inv X pins σ H' s'->(∃ m,s'.heap.Ns C m)->H' C=none->C≠X.env.locals->X.s₀.heap.objs.size<=C->(∀ x c,X.env.cells.lookup x=some c->c≠C)->(∀ p∈X.pn++pins,p.1≠C)->R (.ref D) H'->RR (.ref D) C (.ok .next) s'):
 wpAny (model X.prog X.w) X.A (newList []) (fun acc s₃ => wpAny (model X.prog X.w) X.A (newFunctionEnv scope X.env.globals (Qbz X.env scope.names []) [] X.env.qual none .none (some X.env)) (fun cenv s₄ =>
  codeAny (model X.prog X.w) X.A (.compStart (.ListComp elt [⟨tg,iter,ifs,0⟩] scope pos) 0 (.ref it) acc { cenv with scope:=relabel scope X.env }) (RR acc cenv.locals) s₄) E s₃) E s:=by
 refine wpAny_newObj_type ?_
 have hfresh:H s.heap.objs.size=none:=I2.hok.fresh (Nat.le_refl _)
 have I3:Inv X pins σ (upd H s.heap.objs.size (.lst [])) { s with heap:=s.heap.push { cls:=.type "list",data:=.seq ([]:List Value).toArray } }:=I2.lnew (t':=s.toks) .nil (Nat.zero_le _)
 generalize hs3:({ s with heap:=s.heap.push { cls:=.type "list",data:=.seq ([]:List Value).toArray } }:Shared)=s3 at I3 ⊢
 have hsz3:s3.heap.objs.size=s.heap.objs.size+1:=by rw[← hs3];exact Heap.size_push ..
 have hk3:∀ b o,s.heap.get? b=some o->s3.heap.get? b=some o:=fun b o e=>by rw[← hs3];exact Heap.get?_push_of_some _ e
 have flt:∀ b∈fp,b<s.heap.objs.size:=fun b hb=>by
  obtain⟨o,e,_⟩:=T.obj _ _ st b hb
  exact Heap.lt_size e
 have hf3:∀ b∈fp,FpOk X pins (upd H s.heap.objs.size (.lst [])) b:=fun b hb=>⟨by rw[Qk (Nat.ne_of_lt (flt b hb))];exact(hf b hb).1,(hf b hb).2⟩
 have st3:tn 0 s3.heap:=T.keep _ _ _ st fun b _ o e=>hk3 b o e
 refine QNv fun cenv ecenv el=>?_
 rw[ecenv,el]
 have I4:=QL6 (fp:=fp) S I3 hf3 fun b hb=>by rw[hsz3];exact Nat.lt_succ_of_lt (flt b hb)
 obtain⟨W,⟨m0,w0⟩,turn⟩:=hW _ hfresh fp s3
 generalize hX':cxC X N' scope fp s3 (upd H s.heap.objs.size (.lst []))=X' at I4 turn
 generalize hs4:({ s3 with heap:=pushCells (s3.heap.push { cls:=.type "dict",data:=.dict #[] }) scope.names }:Shared)=s4 at I4 ⊢
 have eenv:QC6 scope (Qbz X.env scope.names []) s3.heap.objs.size X.env=X'.env:=by rw[← hX'];rfl
 have eprog:X'.prog=X.prog:=by rw[← hX'];rfl
 have ew:X'.w=X.w:=by rw[← hX'];rfl
 have eK:X'.K=X.K:=by rw[← hX'];rfl
 have eA:X'.A=X.A:=by rw[← hX'];rfl
 have ecalm:X'.calm=true:=by rw[← hX'];exact hc
 have exe:∀ e s',X'.xe e s'->False:=fun e s' h=>by rw[← hX']at h;exact h
 have eex:X'.ex=fp:=by rw[← hX'];rfl
 have efs:X'.fs=frs X.stack:=by rw[← hX'];rfl
 have epn:X'.pn=[]:=by rw[← hX'];rfl
 have es0:X'.s₀=s3:=by rw[← hX'];rfl
 have eH0:X'.H₀=upd H s.heap.objs.size (.lst []):=by rw[← hX'];rfl
 have eloc:X'.env.locals=s3.heap.objs.size:=by rw[← eenv];rfl
 rw[eenv]
 have st4:tn 0 s4.heap:=T.keep _ _ _ st3 fun b _ o e=>by rw[← hs4];exact pushCells_keeps _ _ b o (Heap.get?_push_of_some _ e)
 -- the iterator's objects,seen from the block
 have fpok:∀{H':Hp},(∀ b∈fp,H' b=none)->∀ b∈fp,FpOk X' [] H' b:=fun {H'} hn b hb=>by
  obtain⟨h1,h2⟩:=I4.ok.exf b (by rw[eex];exact hb)
  exact⟨hn b hb,h1,fun z=>I4.ok.exfs b (by rw[eex];exact hb) z,.inl (by rw[eex];exact hb),h2,fun p hp=>by rw[epn]at hp;cases hp⟩
 have loop:∀ s5,s5=s4->codeAny (model X.prog X.w) X.A (.compLoop (.ListComp elt [⟨tg,iter,ifs,0⟩] scope pos) 0 (.ref it) (.ref s.heap.objs.size) X'.env) (RR (.ref s.heap.objs.size) s3.heap.objs.size) s5:=by
  rintro s5 rfl
  refine QCh (fun n s'=>∃ i τ H',Inv X' [] τ H' s'/\tn i s'.heap/\(∀ b∈fp,H' b=none)/\W i n τ H') (fun _ _=>False) (fun _ _ h=>h.elim) ?_ m0 ⟨0,_,_,I4,st4,fun b hb=>(hf3 b hb).1,w0⟩
  rintro n s6 ⟨i,τ,H6,I6,st6,fr6,w6⟩
  have A1:∀{α:Type}{t:Sem α}{Q:α->Shared->Prop}{s:Shared},wpAny (model X'.prog X'.w) X'.A t Q X'.xe s->wpAny (model X.prog X.w) X.A t Q (fun _ _=>False) s:=fun {α t Q s} h=>by
   rw[eprog,ew,eA]at h
   exact wpAny_mono h (fun _ _ q=>q) exe
  rcases turn i n τ H6 w6 with⟨stop,qn⟩ | ⟨go,N,hN,step⟩
  ·have h7:=T.done X' eprog ew eK ecalm i [] s6 τ H6 (fun _ _=>False) I6 (fpok fr6) st6 stop
   rw[eA]at h7
   refine thn h7 fun r s7 ⟨hr,I7⟩=>?_
   subst hr
   -- back to the frame around
   have un:=I7.base
   rw[es0,eH0,efs,eex]at un
   have Iout:Inv X pins σ H6 s7:=I3.call' (ch:=fp) (by rw[I7.os,es0]) un (by have:=I7.hok;rw[eprog,ew]at this;exact this) I7.bare fun b hb=>by
    obtain⟨f0,f1,f2,f3,f4,f5⟩:=hf3 b hb
    exact⟨f3,f1,f4,f5⟩
   refine hRR _ _ s7 H6 Iout ?_ ?_ ?_ ?_ ?_ ?_ qn
   ·obtain⟨m,hn,_⟩:=I7.loc
    rw[eloc]at hn
    exact⟨m,hn⟩
   ·have:=I7.free
    rw[eloc]at this
    exact this
   ·exact Nat.ne_of_gt I3.lt
   ·exact I3.sz
   ·intro x c e z
    obtain⟨v,q⟩:=I3.cell x c e
    exact absurd q.lt (by rw[z];exact Nat.lt_irrefl _)
   ·intro p hp z
    exact absurd (Heap.lt_size (I3.pin p hp).1) (by rw[z];exact Nat.lt_irrefl _)
  ·have h6:=T.item X' eprog ew eK ecalm i [] s6 τ H6 (fun _ _=>False) I6 (fpok fr6) st6 go
   rw[eA]at h6
   refine thn h6 fun r s7 ⟨u,hr,h7⟩=>?_
   subst hr
   refine thn h7 fun _ s8 ⟨x,H8,I8,r8,y8,st8,fr8⟩=>?_
   have I8':=I8.pinned (fpok fr8) (T.obj _ _ st8)
   refine thn (A1 (QOa _ s8 τ H8 x u _ I8' r8 (step x H8 y8))) fun _ s9 ⟨τ9,H9,I9,q9⟩=>?_
   obtain⟨tcc,hif,q9⟩:=q9
   refine thn (A1 (hif.run I9 q9)) fun ok s10 ⟨H10,I10,q10⟩=>?_
   have again:∀{τ':St}{H':Hp}{s':Shared},Inv X' ([]++Qsn fp s8.heap) τ' H' s'->N τ' H'->∃ m,m<n/\∃ i τ H',Inv X' [] τ H' s'/\tn i s'.heap/\(∀ b∈fp,H' b=none)/\W i m τ H':=fun {τ' H' s'} I' n'=>by
    obtain⟨m',hm,w'⟩:=hN τ' H' n'
    refine⟨m',hm,i+1,τ',H',I'.unpinned,T.keep _ _ _ st8 fun b hb o e=>(I'.pin (b,o) (List.mem_append_right _ (List.mem_append_right _ (Qkv hb e)))).1,fun b hb=>?_,w'⟩
    obtain⟨o,e,d⟩:=T.obj _ _ st8 b hb
    exact(I'.pin (b,o) (List.mem_append_right _ (List.mem_append_right _ (Qkv hb e)))).2.1
   cases ok with
   | false=>
    rw[if_neg Bool.false_ne_true]at q10 ⊢
    exact again I10 q10
   | true=>
    rw[if_pos rfl]at q10 ⊢
    refine thn (A1 (QOZ _ s10 τ9 H10 _ I10 q10)) fun y s11 ⟨yv,H11,I11,r11,ys,hp11,hz,n11⟩=>?_
    refine thn (A1 (QrH _ s11 τ9 H11 (.ref s.heap.objs.size) [yv] (.ref s.heap.objs.size) [y] (fun _ H'=>N τ9 H') I11 rfl (.cons r11 .nil) ⟨_,ys,yv,rfl,rfl,hp11,hz,n11⟩)) fun _ s12 ⟨v12,H12,I12,_,n12⟩=>?_
    exact again I12 n12
 exact codeAny_compStart_list (loop _ rfl) (T.self _ 0 _ _ _ st4 (loop _ rfl))
theorem QNO(hc:X.calm=true)(S:QK N' js scope X.env.scope X.N)(hi:PI X tg iter wi)
 (hs:∀ x,foldedSetIterable iter X.env x=pure x:=by intro _;rfl):PE X (.ListComp elt [⟨tg,iter,ifs,0⟩] scope pos) (tComp X N' js scope tg elt ifs wi):=by
 intro pins s σ H Q I h
 rw[eval_ListComp]
 have hcl:closureFor scope X.env=pure (Qbz X.env scope.names []):=QvK fun y hy e=>by
  obtain⟨c,hc⟩:=I.ok.has y.1 (S.free y hy e)
  rw[hc];rfl
 refine wpAny_comprehension_free (use:=none) rfl hs hcl S.kind S.names (thn (hi pins s σ H _ I h) fun v s1 h1=>thn h1 fun itv s2 h2=>?_)
 obtain⟨it,fp,tn,J,H2,e,I2,T,st2,f2,hW⟩:=h2
 subst e
 refine QwE (R:=Q) (RR:=fun acc C=>compPost (model X.prog X.w) X.A X.xe none (EP X pins σ Q) acc C) hc S I2 T st2 f2 hW ?_
 intro D C s' H' I' ⟨m,hn⟩ hC h1 h2 h3 h4 q
 refine⟨m,hn,fun h' hsb=>⟨.ref D,H',?_,rfl,q⟩⟩
 exact I'.turned (t':=s'.toks) (fun b o hb e=>(hsb.2 b hb).trans e) hC (Ne.symm (Ne.symm h1)) (.inr h2) h3 h4
theorem QMX{i:Nat}{x:Str}{px spos:Pos}(hc:X.calm=true)(S:QK N' js scope X.env.scope X.N)(hi:PI X tg iter wi)
 (hN:X.N.Nodup) (hx:X.N[i]?=some x) (hl:Loc X.env.scope x)
 (hsw:swapsWith (.ListComp elt [⟨tg,iter,ifs,0⟩] scope pos) (some (.Name x px)) spos.line X.env=pure true)
 (hf:X.fn x=true∨X.env.scope.names.lookup x=some .local:=by first | exact .inl rfl | exact .inr rfl | assumption)
 (hs:∀ x,foldedSetIterable iter X.env x=pure x:=by intro _;rfl):PS X (.Assign [.Name x px] (.ListComp elt [⟨tg,iter,ifs,0⟩] scope pos) spos) (tAsg (tComp X N' js scope tg elt ifs wi) (gName i)):=by
 intro pins s σ H D I h
 rw[exec_Assign_Name_used _ _ _ _ hsw]
 refine wpAny_bind (wpAny_standAt (wpAny_bind ?_))
 show wpAny _ X.A (do let _ ← comprehension (.ListComp elt [⟨tg,iter,ifs,0⟩] scope pos) scope X.env _ (newList []) false (eval iter X.env) (some (assign (.Name x px) X.env))) _ _ s
 have hcl:closureFor scope X.env=pure (Qbz X.env scope.names []):=QvK fun y hy e=>by
  obtain⟨c,hc⟩:=I.ok.has y.1 (S.free y hy e)
  rw[hc];rfl
 refine wpAny_bind (wpAny_mono (wpAny_comprehension_free (use:=some (assign (.Name x px) X.env)) (Q:=fun _ s'=>SP X pins D .next s') rfl hs hcl S.kind S.names
  (thn (hi pins s σ H _ I h) fun v s1 h1=>thn h1 fun itv s2 h2=>?_)) (fun _ s' hq=>wpAny_pure (wpAny_pure hq)) fun _ _ e=>e)
 obtain⟨it,fp,tn,J,H2,e,I2,T,st2,f2,hW⟩:=h2
 subst e
 refine QwE (R:=fun v H'=>D.nx (σ.set i (some v)) H') (RR:=fun acc C=>compPost (model X.prog X.w) X.A X.xe (some (assign (.Name x px) X.env)) (fun _ s'=>SP X pins D .next s') acc C) hc S I2 T st2 f2 hW ?_
 intro DD C s' H' I' ⟨m,hn⟩ hC h1 h2 h3 h4 q
 show wpAny _ X.A (assign (.Name x px) X.env (.ref DD)) _ _ s'
 refine wpAny_assign_Name (Qy5 (v:=.ref DD) I' hN hx hl rfl (fun s'' I'' ⟨a,hsb,ha⟩=>?_) hf)
 have hCa:C≠a:=by
  rcases ha with rfl | ha
  ·exact h1
  ·exact Ne.symm (h3 x a ha)
 refine⟨m,hn.sameBut hsb hCa,fun h' hsb'=>⟨_,H',?_,q⟩⟩
 exact I''.turned (t':=s''.toks) (fun b o hb e=>(hsb'.2 b hb).trans e) hC h1 (.inr h2) h3 h4
end
end L2
namespace DL
open PySem PySem.Spec PyProof.Rows L2
inductive D where
 | non | bl (b:Bool) | int (i:Int) | str (x:Str)
 | lst (xs:List D) | tup (xs:List D) | dic (kvs:List (Key×D)) | ins (c:Str) (fs:List (Str×D)) | err (c:Str)
instance:Inhabited D:=⟨.non⟩
abbrev CTab:=Str->Option Addr
section
variable(K:PySem.W.Frag)(CT:CTab)(H:Hp)
mutual
def Rep:D->V->Prop
 | .non,v=>v=.non
 | .bl b,v=>v=.bl b
 | .int i,v=>v=.int i
 | .str x,v=>v=.str x
 | .lst ds,v=>∃ a vs,v=.ref a/\SqL K H a vs/\RepL ds vs
 | .tup ds,v=>∃ a vs,v=.ref a/\SqT K H a vs/\RepL ds vs
 | .dic kds,v=>∃ a kvs,v=.ref a/\Rd H a (.dK kvs)/\RepK kds kvs
 | .ins c fds,v=>∃ a C dx fs,v=.ref a/\CT c=some C/\H a=some (.ins C dx fs)/\RepF fds fs
 | .err c,v=>∃ a C,v=.ref a/\CT c=some C/\H a=some (exO a C)
def RepL:List D->List V->Prop
 | [],vs=>vs=[]
 | d::ds,vs=>∃ v r,vs=v::r/\Rep d v/\RepL ds r
def RepK:List (Key×D)->List (Key×V)->Prop
 | [],kvs=>kvs=[]
 | (k,d)::ds,kvs=>∃ v r,kvs=(k,v)::r/\Rep d v/\RepK ds r
def RepF:List (Str×D)->List (Str×V)->Prop
 | [],kvs=>kvs=[]
 | (k,d)::ds,kvs=>∃ v r,kvs=(k,v)::r/\Rep d v/\RepF ds r
end
end
section
variable{K:PySem.W.Frag}{CT:CTab}{H H':Hp}
theorem Same.sqT{a:Addr}{xs:List V}(e:Same H H')(h:SqT K H a xs):SqT K H' a xs:=by
 rcases h with(h | ⟨o,h⟩) | h
 ·exact .inl (.inl (e _ _ h))
 ·exact .inl (.inr ⟨o,e _ _ h⟩)
 ·exact .inr h
theorem Same.rd{a:Addr}{u:HO}(e:Same H H')(h:Rd H a u):Rd H' a u:=by
 rcases h with h | ⟨o,h⟩
 ·exact .inl (e _ _ h)
 ·exact .inr ⟨o,e _ _ h⟩
mutual
theorem Rep.mono(e:Same H H'):∀(d:D)(v:V),Rep K CT H d v->Rep K CT H' d v
 | .non,_,h=>h
 | .bl _,_,h=>h
 | .int _,_,h=>h
 | .str _,_,h=>h
 | .lst ds,_,⟨a,vs,h1,h2,h3⟩=>⟨a,vs,h1,e.seq h2,RepL.mono e ds vs h3⟩
 | .tup ds,_,⟨a,vs,h1,h2,h3⟩=>⟨a,vs,h1,Same.sqT e h2,RepL.mono e ds vs h3⟩
 | .dic ds,_,⟨a,vs,h1,h2,h3⟩=>⟨a,vs,h1,Same.rd e h2,RepK.mono e ds vs h3⟩
 | .ins c ds,_,⟨a,C,dx,fs,h1,h2,h3,h4⟩=>⟨a,C,dx,fs,h1,h2,e _ _ h3,RepF.mono e ds fs h4⟩
 | .err c,_,⟨a,C,h1,h2,h3⟩=>⟨a,C,h1,h2,e _ _ h3⟩
theorem RepL.mono(e:Same H H'):∀(ds:List D)(vs:List V),RepL K CT H ds vs->RepL K CT H' ds vs
 | [],_,h=>h
 | d::ds,_,⟨v,r,h1,h2,h3⟩=>⟨v,r,h1,Rep.mono e d v h2,RepL.mono e ds r h3⟩
theorem RepK.mono(e:Same H H'):∀(ds:List (Key×D))(vs:List (Key×V)),RepK K CT H ds vs->RepK K CT H' ds vs
 | [],_,h=>h
 | (k,d)::ds,_,⟨v,r,h1,h2,h3⟩=>⟨v,r,h1,Rep.mono e d v h2,RepK.mono e ds r h3⟩
theorem RepF.mono(e:Same H H'):∀(ds:List (Str×D))(vs:List (Str×V)),RepF K CT H ds vs->RepF K CT H' ds vs
 | [],_,h=>h
 | (k,d)::ds,_,⟨v,r,h1,h2,h3⟩=>⟨v,r,h1,Rep.mono e d v h2,RepF.mono e ds r h3⟩
end
theorem RepL.length:∀{ds:List D}{vs:List V},RepL K CT H ds vs->ds.length=vs.length
 | [],_,h=>by cases h;rfl
 | d::ds,_,⟨v,r,h1,h2,h3⟩=>by subst h1;simp[RepL.length h3]
theorem RepL.get:∀{ds:List D}{vs:List V}{i:Nat}{d:D},RepL K CT H ds vs->ds[i]?=some d->∃ v,vs[i]?=some v/\Rep K CT H d v
 | [],_,_,_,_,e=>by simp at e
 | d::ds,_,0,_,⟨v,r,h1,h2,h3⟩,e=>by subst h1;simp at e;subst e;exact⟨v,rfl,h2⟩
 | d::ds,_,i+1,x,⟨v,r,h1,h2,h3⟩,e=>by
  subst h1
  obtain⟨u,a,b⟩:=RepL.get (i:=i) (d:=x) h3 (by simpa using e)
  exact⟨u,by simpa using a,b⟩
theorem RepL.append:∀{ds es:List D}{vs us:List V},RepL K CT H ds vs->RepL K CT H es us->RepL K CT H (ds++es) (vs++us)
 | [],_,_,_,h,k=>by cases h;exact k
 | d::ds,_,_,_,⟨v,r,h1,h2,h3⟩,k=>by subst h1;exact⟨v,_,rfl,h2,RepL.append h3 k⟩
theorem RepL.take:∀(n:Nat){ds:List D}{vs:List V},RepL K CT H ds vs->RepL K CT H (ds.take n) (vs.take n)
 | 0,_,_,_=>by simp[RepL]
 | n+1,[],_,h=>by cases h;simp[RepL]
 | n+1,d::ds,_,⟨v,r,h1,h2,h3⟩=>by subst h1;exact⟨v,_,rfl,h2,RepL.take n h3⟩
theorem RepL.drop:∀(n:Nat){ds:List D}{vs:List V},RepL K CT H ds vs->RepL K CT H (ds.drop n) (vs.drop n)
 | 0,_,_,h=>h
 | n+1,[],_,h=>by cases h;simp[RepL]
 | n+1,d::ds,_,⟨v,r,h1,h2,h3⟩=>by subst h1;exact RepL.drop n h3
theorem RepL.set{d:D}{v:V}(q:Rep K CT H d v):∀(i:Nat){ds:List D}{vs:List V},RepL K CT H ds vs->RepL K CT H (ds.set i d) (vs.set i v)
 | _,[],_,h=>by cases h;simp[RepL]
 | 0,_::ds,_,⟨w,r,h1,h2,h3⟩=>by subst h1;exact⟨v,r,rfl,q,h3⟩
 | i+1,e::ds,_,⟨w,r,h1,h2,h3⟩=>by subst h1;exact⟨w,_,rfl,h2,RepL.set q i h3⟩
theorem RepL.rep{ds:List D}{vs:List V}(h:RepL K CT H ds vs):∀ k:Nat,RepL K CT H (List.replicate k ds).flatten (List.replicate k vs).flatten
 | 0=>rfl
 | k+1=>by
  rw[List.replicate_succ,List.replicate_succ,List.flatten_cons,List.flatten_cons]
  exact h.append (h.rep k)
theorem RepL.one{d:D}{v:V}(h:Rep K CT H d v):RepL K CT H [d] [v]:=⟨v,[],rfl,h,rfl⟩
theorem RepL.map_int:∀(ns:List Int),RepL K CT H (ns.map D.int) (ns.map V.int)
 | []=>rfl
 | n::ns=>⟨_,_,rfl,rfl,RepL.map_int ns⟩
end
inductive Out(α:Type) where
 | ok (a:α) | exc (x:D) | stuck
namespace Out
def bind{α β:Type}:Out α->(α->Out β)->Out β
 | .ok a,f=>f a
 | .exc x,_=>.exc x
 | .stuck,_=>.stuck
instance:Monad Out where
 pure:=.ok
 bind:=bind
def post{α:Type}(o:Out α)(k:α->Prop)(x:D->Prop):Prop:=match o with
 | .ok a=>k a
 | .exc e=>x e
 | .stuck=>False
@[simp] theorem bind_ok{α β:Type}(a:α)(f:α->Out β):(Out.ok a>>=f)=f a:=rfl
@[simp] theorem bind_exc{α β:Type}(x:D)(f:α->Out β):((Out.exc x:Out α)>>=f)=.exc x:=rfl
@[simp] theorem bind_stuck{α β:Type}(f:α->Out β):((Out.stuck:Out α)>>=f)=.stuck:=rfl
@[simp] theorem QPx{α β:Type}(a:α)(f:α->Out β):(Out.ok a).bind f=f a:=rfl
@[simp] theorem QPw{α β:Type}(x:D)(f:α->Out β):(Out.exc x:Out α).bind f=.exc x:=rfl
@[simp] theorem QPm{α β:Type}(f:α->Out β):(Out.stuck:Out α).bind f=.stuck:=rfl
@[simp] theorem pure_eq{α:Type}(a:α):(pure a:Out α)=.ok a:=rfl
theorem post_bind{α β:Type}(o:Out α)(f:α->Out β)(k:β->Prop)(x:D->Prop):(o>>=f).post k x↔o.post (fun a=>(f a).post k x) x:=by
 cases o<;>exact Iff.rfl
theorem post_mono{α:Type}{o:Out α}{k k':α->Prop}{x:D->Prop}(h:o.post k x)(hk:∀ a,k a->k' a):o.post k' x:=by
 cases o with
 | ok a=>exact hk a h
 | exc e=>exact h
 | stuck=>exact h
end Out
end DL
namespace DL
open PySem PySem.Spec PyProof.Rows L2
abbrev St:=L2.St
inductive SM where
 | k | o | l | s
abbrev SD:=List (Option (SM×D))
structure Dc where
 X:Cx
 CT:CTab
 G0:Hp
 XD:D->Prop
 /-- what is lent -/
 B:Hp
 /-- what of the entry's objects may be written -/
 M:Addr->Prop
 /-- which address a written slot holds -/
 W:Nat->Option Addr:=fun _=>none
abbrev Dc.K(C:Dc):PySem.W.Frag:=C.X.K
def Own(K:PySem.W.Frag)(CT:CTab)(G H:Hp)(p:Addr):D->Prop
 | .lst ds=>∃ vs,H p=some (.lst vs)/\RepL K CT G ds vs
 | .dic ds=>∃ kvs,H p=some (.dK kvs)/\RepK K CT G ds kvs
 | .ins c ds=>∃ A dx fs,CT c=some A/\H p=some (.ins A dx fs)/\RepF K CT G ds fs
 | _=>False
theorem Own.there{K:PySem.W.Frag}{CT:CTab}{G H:Hp}{p:Addr}:∀{d:D},Own K CT G H p d->∃ o,H p=some o
 | .lst _,⟨_,h,_⟩=>⟨_,h⟩
 | .dic _,⟨_,h,_⟩=>⟨_,h⟩
 | .ins _ _,⟨_,_,_,_,h,_⟩=>⟨_,h⟩
 | .non,h=>h.elim
 | .bl _,h=>h.elim
 | .int _,h=>h.elim
 | .str _,h=>h.elim
 | .tup _,h=>h.elim
theorem Own.mono{K:PySem.W.Frag}{CT:CTab}{G G' H H':Hp}{p:Addr}(g:Same G G')(h:∀ o,H p=some o->H' p=some o):∀{d:D},Own K CT G H p d->Own K CT G' H' p d
 | .lst ds,⟨vs,a,b⟩=>⟨vs,h _ a,RepL.mono g ds vs b⟩
 | .dic ds,⟨vs,a,b⟩=>⟨vs,h _ a,RepK.mono g ds vs b⟩
 | .ins _ ds,⟨A,dx,fs,e,a,b⟩=>⟨A,dx,fs,e,h _ a,RepF.mono g ds fs b⟩
 | .non,h=>h.elim
 | .bl _,h=>h.elim
 | .int _,h=>h.elim
 | .str _,h=>h.elim
 | .tup _,h=>h.elim
theorem Own.rep{K:PySem.W.Frag}{CT:CTab}{G H:Hp}{p:Addr}(g:Same G H):∀{d:D},Own K CT G H p d->Rep K CT H d (.ref p)
 | .lst ds,⟨vs,a,b⟩=>⟨p,vs,rfl,SqL.of a,RepL.mono g ds vs b⟩
 | .dic ds,⟨vs,a,b⟩=>⟨p,vs,rfl,Rd.of a,RepK.mono g ds vs b⟩
 | .ins _ ds,⟨A,dx,fs,e,a,b⟩=>⟨p,A,dx,fs,rfl,e,a,RepF.mono g ds fs b⟩
 | .non,h=>h.elim
 | .bl _,h=>h.elim
 | .int _,h=>h.elim
 | .str _,h=>h.elim
 | .tup _,h=>h.elim
structure GH(C:Dc)(G H:Hp):Prop where
 sub:Same G H
 g0:Same C.G0 G
 new:∀ b,C.G0 b=none->G b≠none->C.X.H₀ b=none
 fr:∀ b o,C.X.H₀ b=some o->¬ C.M b->H b=some o
 dom:∀ b,H b=none->C.X.H₀ b=none
 bs:Same C.B H
 bh:∀ b,C.X.H₀ b=none->C.B b=none
structure StR(C:Dc)(G H:Hp)(σ:St)(ς:SD):Prop extends GH C G H where
 len:σ.length=ς.length
 fz:∀(i:Nat) d,ς[i]?=some (some (.k,d))->∃ v,σ[i]?=some (some v)/\Rep C.X.K C.CT G d v
 ow:∀(i:Nat) d,ς[i]?=some (some (.o,d))->∃ p,σ[i]?=some (some (.ref p))/\G p=none/\C.X.H₀ p=none/\Own C.X.K C.CT G H p d
 ln:∀(i:Nat) d,ς[i]?=some (some (.l,d))->∃ v,σ[i]?=some (some v)/\Rep C.X.K C.CT C.B d v
 inj:∀(i j:Nat) d e p,i≠j->ς[i]?=some (some (.o,d))->ς[j]?=some (some (.o,e))->σ[i]?=some (some (.ref p))->σ[j]?≠some (some (.ref p))
 sf:∀(i:Nat) d,ς[i]?=some (some (.s,d))->∃ p,σ[i]?=some (some (.ref p))/\G p=none/\C.X.H₀ p≠none/\(C.M p/\C.W i=some p)/\C.B p=none/\Own C.X.K C.CT G H p d
 su:∀(i j:Nat) d e p,i≠j->ς[i]?=some (some (.s,d))->ς[j]?=some (some (.s,e))->σ[i]?=some (some (.ref p))->σ[j]?≠some (some (.ref p))
section
variable{C:Dc}{G G' H H':Hp}{σ:St}{ς:SD}
theorem GH.gnone(S:GH C G H){p:Addr}(h:H p=none):G p=none:=S.sub.free h
theorem GH.h0none(S:GH C G H){p:Addr}(h:H p=none):C.X.H₀ p=none:=S.dom p h
theorem Qy{H:Hp}{p:Addr}{o:HO}(h:H p=none):Same H (upd H p o):=fun b u e=>by
 rw[Qk (QU e h)];exact e
theorem Qsr{G H:Hp}{p:Addr}{o:HO}(s:Same G H):Same (upd G p o) (upd H p o):=fun b u e=>by
 by_cases hb:b=p
 ·subst hb;rw[QG]at e ⊢;exact e
 ·rw[Qk hb]at e ⊢;exact s b u e
theorem GH.grow(S:GH C G H)(hH:Same H H')(hG:Same G G')(hs:Same G' H')(hn:∀ b,G b=none->G' b≠none->H b=none):GH C G' H' where
 sub:=hs
 g0:=S.g0.trans hG
 new:=fun b h0 h1=>by
  cases q:G b with
  | none=>exact S.h0none (hn b q h1)
  | some o=>exact S.new b h0 (by rw[q];simp)
 fr:=fun b o e m=>hH b o (S.fr b o e m)
 dom:=fun b e=>S.dom b (hH.free e)
 bs:=S.bs.trans hH
 bh:=S.bh
theorem StR.own_ne(S:StR C G H σ ς){i:Nat}{d:D}{p:Addr}(h:ς[i]?=some (some (.o,d)))(hp:σ[i]?=some (some (.ref p))):∃ o,H p=some o:=by
 obtain⟨q,e,_,_,o⟩:=S.ow i d h
 rw[hp]at e;cases e
 exact o.there
theorem StR.grow(S:StR C G H σ ς)(hH:Same H H')(hG:Same G G')(hs:Same G' H')(hn:∀ b,G b=none->G' b≠none->H b=none):StR C G' H' σ ς where
 toGH:=S.toGH.grow hH hG hs hn
 len:=S.len
 fz:=fun i d e=>let ⟨v,a,b⟩:=S.fz i d e;⟨v,a,Rep.mono hG d v b⟩
 ow:=fun i d e=>by
  obtain⟨p,a,b,c,o⟩:=S.ow i d e
  refine⟨p,a,?_,c,o.mono hG fun u q=>hH _ _ q⟩
  cases q:G' p with
  | none=>rfl
  | some u=>
   obtain⟨w,hw⟩:=o.there
   have:=hn p b (by rw[q];simp)
   rw[hw]at this;cases this
 ln:=S.ln
 inj:=S.inj
 sf:=fun i d e=>by
  obtain⟨p,a,b,c,m,z,o⟩:=S.sf i d e
  refine⟨p,a,?_,c,m,z,o.mono hG fun u q=>hH _ _ q⟩
  cases q:G' p with
  | none=>rfl
  | some u=>
   obtain⟨w,hw⟩:=o.there
   have:=hn p b (by rw[q];simp)
   rw[hw]at this;cases this
 su:=S.su
theorem StR.alloc(S:StR C G H σ ς){p:Addr}{o:HO}(h:H p=none):StR C (upd G p o) (upd H p o) σ ς:=
 S.grow (Qy h) (Qy (S.sub.free h)) (Qsr S.sub) fun b g n=>by
  by_cases hb:b=p
  ·subst hb;exact h
  ·rw[Qk hb,g]at n;exact absurd rfl n
theorem StR.allocO(S:StR C G H σ ς){p:Addr}{o:HO}(h:H p=none):StR C G (upd H p o) σ ς:=
 S.grow (Qy h) (Same.refl G) (S.sub.trans (Qy h)) fun b g n=>absurd g n
end
def KD(C:Dc)(G H:Hp)(σ:St)(ς:SD)(Q:VK)(d:D):Prop:=∀ v H' G',StR C G' H' σ ς->Same H H'->Same G G'->Rep C.X.K C.CT G' d v->Q v H'
def KB(C:Dc)(G H:Hp)(σ:St)(ς:SD)(Q:VK)(d:D):Prop:=∀ v H' G',StR C G' H' σ ς->Same H H'->Same G G'->Rep C.X.K C.CT H' d v->Q v H'
def KF(C:Dc)(G H:Hp)(σ:St)(ς:SD)(Q:VK)(d:D):Prop:=∀ p H' G',StR C G' H' σ ς->Same H H'->Same G G'->H p=none->G' p=none->Own C.X.K C.CT G' H' p d->Q (.ref p) H'
def DE(C:Dc)(e:Expr)(E:SD->Out D):Prop:=∃ t,PE C.X e t/\∀ G H σ ς Q,StR C G H σ ς->(E ς).post (KD C G H σ ς Q) C.XD->t σ H Q
def DB(C:Dc)(e:Expr)(E:SD->Out D):Prop:=∃ t,PE C.X e t/\∀ G H σ ς Q,StR C G H σ ς->(E ς).post (KB C G H σ ς Q) C.XD->t σ H Q
def DF(C:Dc)(e:Expr)(E:SD->Out D):Prop:=∃ t,PE C.X e t/\∀ G H σ ς Q,StR C G H σ ς->(E ς).post (KF C G H σ ς Q) C.XD->t σ H Q
def KT(C:Dc)(G H:Hp)(σ:St)(ς:SD)(Q:Bool->Hp->Prop)(b:Bool):Prop:=∀ H' G',StR C G' H' σ ς->Same H H'->Same G G'->Q b H'
def DT(C:Dc)(e:Expr)(T:SD->Out Bool):Prop:=∃ t,PT C.X e t/\∀ G H σ ς Q,StR C G H σ ς->(T ς).post (KT C G H σ ς Q) C.XD->t σ H Q
def DW(C:Dc)(e:Expr)(T:SD->Out Bool):Prop:=∃ t,PW C.X e t/\∀ G H σ ς Q,StR C G H σ ς->(T ς).post (KT C G H σ ς Q) C.XD->t σ H Q
def DA(C:Dc)(es:List Expr)(A:SD->Out (List D)):Prop:=∃ t,PA C.X es t/\∀ G H σ ς Q,StR C G H σ ς->
 (A ς).post (fun ds=>∀ vs H' G',StR C G' H' σ ς->Same H H'->Same G G'->RepL C.X.K C.CT G' ds vs->Q vs H') C.XD->t σ H Q
def DAB(C:Dc)(es:List Expr)(A:SD->Out (List D)):Prop:=∃ t,PA C.X es t/\∀ G H σ ς Q,StR C G H σ ς->
 (A ς).post (fun ds=>∀ vs H' G',StR C G' H' σ ς->Same H H'->Same G G'->RepL C.X.K C.CT H' ds vs->Q vs H') C.XD->t σ H Q
inductive Fl where
 | nx (ς:SD) | rt (fr:Bool) (d:D) | bk (ς:SD) | ct (ς:SD)
def RetR(K:PySem.W.Frag)(CT:CTab)(fr:Bool)(H0 G' H':Hp)(d:D)(v:V):Prop:=
 if fr=true then ∃ p,v=.ref p/\H0 p=none/\G' p=none/\Own K CT G' H' p d else Rep K CT G' d v
def FlK(C:Dc)(G:Hp)(W:Ends):Fl->Prop
 | .nx ς'=>∀ σ' H' G',StR C G' H' σ' ς'->Same G G'->W.nx σ' H'
 | .bk ς'=>∀ σ' H' G',StR C G' H' σ' ς'->Same G G'->W.bk σ' H'
 | .ct ς'=>∀ σ' H' G',StR C G' H' σ' ς'->Same G G'->W.ct σ' H'
 | .rt fr d=>∀ v H' G',GH C G' H'->Same G G'->RetR C.X.K C.CT fr C.X.H₀ G' H' d v->W.rt v H'
def DS(C:Dc)(st:Stmt)(T:SD->Out Fl):Prop:=∃ t,PS C.X st t/\∀ G H σ ς W,StR C G H σ ς->(T ς).post (FlK C G W) C.XD->t W σ H
def DSs(C:Dc)(st:List Stmt)(T:SD->Out Fl):Prop:=∃ t,PSs C.X st t/\∀ G H σ ς W,StR C G H σ ς->(T ς).post (FlK C G W) C.XD->t W σ H
section
variable{C:Dc}{e:Expr}{E:SD->Out D}
theorem StR.freeze{G H:Hp}{σ:St}{ς:SD}(S:StR C G H σ ς){p:Addr}{o:HO}(hp:H p=some o)(hg:G p=none)(h0:C.X.H₀ p=none)(hn:∀(i:Nat) d,ς[i]?=some (some (.o,d))->σ[i]?≠some (some (.ref p))):StR C (upd G p o) H σ ς where
 sub:=fun b u q=>by
  by_cases hb:b=p
  ·subst hb;rw[QG]at q;cases q;exact hp
  ·rw[Qk hb]at q;exact S.sub b u q
 g0:=S.g0.trans (Qy hg)
 new:=fun b h1 h2=>by
  by_cases hb:b=p
  ·subst hb;exact h0
  ·rw[Qk hb]at h2;exact S.new b h1 h2
 fr:=S.fr
 dom:=S.dom
 bs:=S.bs
 bh:=S.bh
 len:=S.len
 fz:=fun i d q=>let ⟨v,a,b⟩:=S.fz i d q;⟨v,a,Rep.mono (Qy hg) d v b⟩
 ow:=fun i d q=>by
  obtain⟨r,a,b,c,w⟩:=S.ow i d q
  refine⟨r,a,?_,c,w.mono (Qy hg) fun _ z=>z⟩
  rw[Qk (by rintro rfl;exact hn i d q a)];exact b
 ln:=S.ln
 inj:=S.inj
 sf:=fun i d q=>by
  obtain⟨r,a,b,c,m,z,w⟩:=S.sf i d q
  refine⟨r,a,?_,c,m,z,w.mono (Qy hg) fun _ z=>z⟩
  rw[Qk (by rintro rfl;exact c h0)];exact b
 su:=S.su
theorem Own.known{K:PySem.W.Frag}{CT:CTab}{G H:Hp}{p:Addr}{o:HO}(hg:G p=none)(hp:H p=some o):∀{d:D},Own K CT G H p d->Rep K CT (upd G p o) d (.ref p)
 | .lst ds,⟨vs,a,b⟩=>by rw[hp]at a;cases a;exact⟨p,vs,rfl,SqL.of QG,RepL.mono (Qy hg) ds vs b⟩
 | .dic ds,⟨vs,a,b⟩=>by rw[hp]at a;cases a;exact⟨p,vs,rfl,Rd.of QG,RepK.mono (Qy hg) ds vs b⟩
 | .ins _ ds,⟨A,dx,fs,e,a,b⟩=>by rw[hp]at a;cases a;exact⟨p,A,dx,fs,rfl,e,QG,RepF.mono (Qy hg) ds fs b⟩
 | .non,h=>h.elim
 | .bl _,h=>h.elim
 | .int _,h=>h.elim
 | .str _,h=>h.elim
 | .tup _,h=>h.elim
theorem StR.new_ne{G H:Hp}{σ:St}{ς:SD}(S:StR C G H σ ς){p:Addr}(h:H p=none):∀(i:Nat) d,ς[i]?=some (some (.o,d))->σ[i]?≠some (some (.ref p)):=fun i d q z=>by
 obtain⟨o,w⟩:=S.own_ne q z
 rw[h]at w;cases w
theorem KD.ofF{G H:Hp}{σ:St}{ς:SD}{Q:VK}{d:D}(S:StR C G H σ ς)(k:KD C G H σ ς Q d):KF C G H σ ς Q d:=fun p H' G' S' hH hG hp hg ow=>by
 obtain⟨o,ho⟩:=ow.there
 exact k _ _ _ (S'.freeze ho hg (S.h0none hp) (S.new_ne hp)) hH (hG.trans (Qy hg)) (ow.known hg ho)
theorem DF.de(h:DF C e E):DE C e E:=by
 obtain⟨t,h1,h2⟩:=h
 refine⟨t,h1,fun G H σ ς Q S q=>h2 G H σ ς Q S (Out.post_mono q fun d k=>KD.ofF S k)⟩
theorem DE.db(h:DE C e E):DB C e E:=by
 obtain⟨t,h1,h2⟩:=h
 refine⟨t,h1,fun G H σ ς Q S q=>h2 G H σ ς Q S (Out.post_mono q fun d k v H' G' S' a b r=>k v H' G' S' a b (Rep.mono S'.sub d v r))⟩
def D.scal:D->Bool
 | .non=>true
 | .bl _=>true
 | .int _=>true
 | .str _=>true
 | _=>false
theorem Rep.scal{K:PySem.W.Frag}{CT:CTab}{G H:Hp}:∀{d:D}{v:V},d.scal=true->Rep K CT H d v->Rep K CT G d v
 | .non,_,_,h=>h
 | .bl _,_,_,h=>h
 | .int _,_,_,h=>h
 | .str _,_,_,h=>h
def Qot(o:Out D):Out D:=o>>=fun d=>if d.scal=true then .ok d else .stuck
theorem DB.de(h:DB C e E):DE C e (fun ς=>Qot (E ς)):=by
 obtain⟨t,h1,h2⟩:=h
 refine⟨t,h1,fun G H σ ς Q S q=>h2 G H σ ς Q S ?_⟩
 unfold Qot at q
 rw[Out.post_bind]at q
 refine Out.post_mono q fun d k v H' G' S' a b r=>?_
 by_cases hs:d.scal=true
 ·rw[if_pos hs]at k
  exact k v H' G' S' a b (r.scal hs)
 ·rw[if_neg hs]at k
  exact k.elim
theorem KD.now{G H:Hp}{σ:St}{ς:SD}{Q:VK}{d:D}{v:V}(k:KD C G H σ ς Q d)(S:StR C G H σ ς)(r:Rep C.X.K C.CT G d v):Q v H:=k v H G S (Same.refl H) (Same.refl G) r
theorem KB.now{G H:Hp}{σ:St}{ς:SD}{Q:VK}{d:D}{v:V}(k:KB C G H σ ς Q d)(S:StR C G H σ ς)(r:Rep C.X.K C.CT H d v):Q v H:=k v H G S (Same.refl H) (Same.refl G) r
theorem KT.now{G H:Hp}{σ:St}{ς:SD}{Q:Bool->Hp->Prop}{b:Bool}(k:KT C G H σ ς Q b)(S:StR C G H σ ς):Q b H:=k H G S (Same.refl H) (Same.refl G)
theorem KD.later{G H G1 H1:Hp}{σ:St}{ς:SD}{Q:VK}{d:D}(k:KD C G H σ ς Q d)(hH:Same H H1)(hG:Same G G1):KD C G1 H1 σ ς Q d:=fun v H' G' S a b r=>k v H' G' S (hH.trans a) (hG.trans b) r
theorem KB.later{G H G1 H1:Hp}{σ:St}{ς:SD}{Q:VK}{d:D}(k:KB C G H σ ς Q d)(hH:Same H H1)(hG:Same G G1):KB C G1 H1 σ ς Q d:=fun v H' G' S a b r=>k v H' G' S (hH.trans a) (hG.trans b) r
theorem KT.later{G H G1 H1:Hp}{σ:St}{ς:SD}{Q:Bool->Hp->Prop}{d:Bool}(k:KT C G H σ ς Q d)(hH:Same H H1)(hG:Same G G1):KT C G1 H1 σ ς Q d:=fun H' G' S a b=>k H' G' S (hH.trans a) (hG.trans b)
theorem KF.later{G H G1 H1:Hp}{σ:St}{ς:SD}{Q:VK}{d:D}(k:KF C G H σ ς Q d)(hH:Same H H1)(hG:Same G G1):KF C G1 H1 σ ς Q d:=fun p H' G' S a b hp hg ow=>k p H' G' S (hH.trans a) (hG.trans b) (hH.free hp) hg ow
theorem KF.lst{G H:Hp}{σ:St}{ς:SD}{Q:VK}{ds:List D}{vs:List V}(k:KF C G H σ ς Q (.lst ds))(S:StR C G H σ ς)(r:RepL C.X.K C.CT G ds vs):∀ p,H p=none->Q (.ref p) (upd H p (.lst vs)):=fun p hp=>
 k p _ G (S.allocO hp) (Qy hp) (Same.refl G) hp (S.gnone hp) ⟨vs,QG,r⟩
theorem KD.tup{G H:Hp}{σ:St}{ς:SD}{Q:VK}{ds:List D}{vs:List V}(k:KD C G H σ ς Q (.tup ds))(S:StR C G H σ ς)(r:RepL C.X.K C.CT G ds vs):∀ p,H p=none->Q (.ref p) (upd H p (.tup vs)):=fun p hp=>
 k _ _ _ (S.alloc hp) (Qy hp) (Qy (S.gnone hp)) ⟨p,vs,rfl,SqT.of QG,RepL.mono (Qy (S.gnone hp)) ds vs r⟩
end
end DL
namespace DL
open PySem PySem.Spec PyProof.Rows L2
def eVar(i:Nat):SD->Out D:=fun ς=>match ς[i]? with | some (some (.k,d))=>.ok d | _=>.stuck
def eVarB(i:Nat):SD->Out D:=fun ς=>match ς[i]? with | some (some (_,d))=>.ok d | _=>.stuck
def eC(d:D):SD->Out D:=fun _=>.ok d
section
variable{C:Dc}{pos:Pos}
theorem QLQ{i:Nat}{ς:SD}{k:D->Prop}{x:D->Prop}(h:(eVar i ς).post k x):∃ d,ς[i]?=some (some (.k,d))/\k d:=by
 unfold eVar at h
 split at h
 ·rename_i d e;exact⟨d,e,h⟩
 ·exact h.elim
theorem QLE{i:Nat}{ς:SD}{k:D->Prop}{x:D->Prop}(h:(eVarB i ς).post k x):∃ b d,ς[i]?=some (some (b,d))/\k d:=by
 unfold eVarB at h
 split at h
 ·rename_i b d e;exact⟨b,d,e,h⟩
 ·exact h.elim
theorem Qb(i:Nat){x:Str}(hN:C.X.N[i]?=some x:=by rfl)(hv:Vis C.X.env.scope x:=by first | exact Or.inl rfl | exact Or.inr (Or.inl rfl) | exact Or.inr (Or.inr rfl))
 (hd:(x == ("__debug__":Str))=false:=by decide) (hcd:(x == ("__classdict__":Str))=false:=by decide):DE C (.Name x pos) (eVar i):=by
 refine⟨_,Qda (i:=i) hN hv hd hcd,fun G H σ ς Q S q=>?_⟩
 obtain⟨d,e,k⟩:=QLQ q
 obtain⟨v,a,b⟩:=S.fz i d e
 exact⟨v,a,k.now S b⟩
theorem Qi8(i:Nat){x:Str}(hN:C.X.N[i]?=some x:=by rfl)(hv:Vis C.X.env.scope x:=by first | exact Or.inl rfl | exact Or.inr (Or.inl rfl) | exact Or.inr (Or.inr rfl))
 (hd:(x == ("__debug__":Str))=false:=by decide) (hcd:(x == ("__classdict__":Str))=false:=by decide):DB C (.Name x pos) (eVarB i):=by
 refine⟨_,Qda (i:=i) hN hv hd hcd,fun G H σ ς Q S q=>?_⟩
 obtain⟨b,d,e,k⟩:=QLE q
 cases b with
 | k=>
  obtain⟨v,a,b⟩:=S.fz i d e
  exact⟨v,a,k.now S (Rep.mono S.sub d v b)⟩
 | o=>
  obtain⟨p,a,b,c,w⟩:=S.ow i d e
  exact⟨_,a,k.now S (w.rep S.sub)⟩
 | l=>
  obtain⟨v,a,b⟩:=S.ln i d e
  exact⟨v,a,k.now S (Rep.mono S.bs d v b)⟩
 | s=>
  obtain⟨p,a,b,c,m,z,w⟩:=S.sf i d e
  exact⟨_,a,k.now S (w.rep S.sub)⟩
theorem Qd{i:Int}{j}:DE C (.Constant (.int i) j pos) (eC (.int i)):=⟨_,QKz,fun G H σ ς Q S q=>KD.now q S rfl⟩
theorem de_bl{b:Bool}{j}:DE C (.Constant (.bool b) j pos) (eC (.bl b)):=⟨_,pe_bl,fun G H σ ς Q S q=>KD.now q S rfl⟩
theorem QOO{j}:DE C (.Constant .none j pos) (eC .non):=⟨_,QOw,fun G H σ ς Q S q=>KD.now q S rfl⟩
theorem QKo{x:Str}{j}:DE C (.Constant (.str x) j pos) (eC (.str x)):=⟨_,QOI,fun G H σ ς Q S q=>KD.now q S rfl⟩
def toV:D->V
 | .bl b=>.bl b
 | .int i=>.int i
 | .str x=>.str x
 | _=>.non
theorem Qxq{K:PySem.W.Frag}{CT:CTab}{H:Hp}:∀{d:D},d.scal=true->Rep K CT H d (toV d)
 | .non,_=>rfl
 | .bl _,_=>rfl
 | .int _,_=>rfl
 | .str _,_=>rfl
theorem QeL{x:Str}{d:D}{u:Value}(hg:Gl C.X x)(hm:C.X.mg x=some u)(hs:d.scal=true)(r:RelV (toV d) u)(hd:(x == ("__debug__":Str))=false:=by decide):DE C (.Name x pos) (eC d):=
 ⟨_,Qox hg hm r hd,fun G H σ ς Q S q=>KD.now q S (Qxq hs)⟩
end
def e1(f:D->Out D)(a:SD->Out D):SD->Out D:=fun ς=>a ς>>=f
def e2(f:D->D->Out D)(a b:SD->Out D):SD->Out D:=fun ς=>a ς>>=fun x=>b ς>>=fun y=>f x y
def DRS(C:Dc)(r:R2)(f:D->D->Out D):Prop:=∀ G H σ ς (Q:VK) x y vx vy,StR C G H σ ς->Rep C.X.K C.CT H x vx->Rep C.X.K C.CT H y vy->
 (f x y).post (fun d=>d.scal=true/\Q (toV d) H) (fun _=>False)->r vx vy H Q
def scal2(f:D->D->Out D):Prop:=∀ x y,match f x y with | .ok d=>d.scal=true | .exc _=>False | .stuck=>True
section
variable{C:Dc}{a b c:Expr}{A B A':SD->Out D}{pos:Pos}
theorem QlB{o:Out D}{G H:Hp}{σ:St}{ς:SD}{Q:VK}(S:StR C G H σ ς)(hs:match o with | .ok d=>d.scal=true | .exc _=>False | .stuck=>True)(q:o.post (KD C G H σ ς Q) C.XD):
 o.post (fun d=>d.scal=true/\Q (toV d) H) (fun _=>False):=by
 cases o with
 | ok d=>exact⟨hs,KD.now q S (Qxq hs)⟩
 | exc _=>exact hs
 | stuck=>exact q
theorem dop{t:TE}{r:R2}{f:D->D->Out D}{ta tb:TE}(hr:DRS C r f)(hs:scal2 f)
 (h1:∀ G H σ ς Q,StR C G H σ ς->(A ς).post (KB C G H σ ς Q) C.XD->ta σ H Q) (h2:∀ G H σ ς Q,StR C G H σ ς->(B ς).post (KB C G H σ ς Q) C.XD->tb σ H Q):
 ∀ G H σ ς Q,StR C G H σ ς->(e2 f A B ς).post (KD C G H σ ς Q) C.XD->tOp r ta tb σ H Q:=by
 intro G H σ ς Q S q
 unfold e2 at q
 rw[Out.post_bind]at q
 refine h1 G H σ ς _ S (Out.post_mono q fun x k v1 H1 G1 S1 a1 b1 r1=>?_)
 rw[Out.post_bind]at k
 refine h2 G1 H1 σ ς _ S1 (Out.post_mono k fun y k2 v2 H2 G2 S2 a2 b2 r2=>?_)
 refine hr G2 H2 σ ς _ x y v1 v2 S2 (Rep.mono a2 x v1 r1) r2 (QlB S2 (hs x y) ?_)
 exact Out.post_mono k2 fun d kd=>KD.later kd (a1.trans a2) (b1.trans b2)
theorem de_op{op:Operator}{r:R2}{f:D->D->Out D}(ho:OpR C.X (binaryOp op) r)(hr:DRS C r f)(hs:scal2 f)(ha:DB C a A)(hb:DB C b B):DE C (.BinOp a op b pos) (e2 f A B):=by
 obtain⟨ta,p1,q1⟩:=ha
 obtain⟨tb,p2,q2⟩:=hb
 exact⟨_,pe_op ho p1 p2,dop (t:=ta) hr hs q1 q2⟩
theorem QB4{op:CmpOp}{r:R2}{f:D->D->Out D}(ho:OpR C.X (compareOp op) r)(hr:DRS C r f)(hs:scal2 f)(ha:DB C a A)(hb:DB C b B)(hm:behindInMarks op b=false):DE C (.Compare a [op] [b] pos) (e2 f A B):=by
 obtain⟨ta,p1,q1⟩:=ha
 obtain⟨tb,p2,q2⟩:=hb
 exact⟨_,QNe ho p1 p2 hm,dop (t:=ta) hr hs q1 q2⟩
def tVal(a:SD->Out D):SD->Out Bool:=fun ς=>a ς>>=fun d=>match d with | .bl b=>.ok b | _=>.stuck
theorem Qsq{o:Out D}{G H:Hp}{σ:St}{ς:SD}{Q:Bool->Hp->Prop}(q:(o>>=fun d=>match d with | .bl b=>Out.ok b | _=>.stuck).post (KT C G H σ ς Q) C.XD):
 o.post (KD C G H σ ς fun x H'=>∃ k,x=.bl k/\Q k H') C.XD:=by
 rw[Out.post_bind]at q
 refine Out.post_mono q fun d k v H' G' S' a b r=>?_
 cases d with
 | bl c=>exact⟨c,r,k H' G' S' a b⟩
 | _=>exact k.elim
theorem QoB{op:CmpOp}{r:R2}{f:D->D->Out D}(ho:OpR C.X (compareOp op) r)(hr:DRS C r f)(hs:scal2 f)(ha:DB C a A)(hb:DB C b B)(hm:behindInMarks op b=false):DT C (.Compare a [op] [b] pos) (tVal (e2 f A B)):=by
 obtain⟨ta,p1,q1⟩:=ha
 obtain⟨tb,p2,q2⟩:=hb
 exact⟨_,QNo ho p1 p2 hm,fun G H σ ς Q S q=>dop (t:=ta) hr hs q1 q2 G H σ ς _ S (Qsq q)⟩
theorem Qay(h:DE C a A)(he:∀ whole,isTrue a C.X.env whole=(do let v ← whole;standAt a.pos;holding [v] (truthy v)):=by intro _;rfl):DT C a (tVal A):=by
 obtain⟨ta,p1,q1⟩:=h
 exact⟨_,QPc p1 he,fun G H σ ς Q S q=>q1 G H σ ς _ S (Qsq q)⟩
def Qc9(f g:D->D->Out D)(a b c:SD->Out D):SD->Out D:=fun ς=>a ς>>=fun x=>b ς>>=fun y=>f x y>>=fun z=>match z with
 | .bl true=>c ς>>=fun w=>g y w
 | .bl false=>.ok (.bl false)
 | _=>.stuck
theorem QK4{r r':R2}{f g:D->D->Out D}{ta tb tc:TE}(hr:DRS C r f)(hs:scal2 f)(hr':DRS C r' g)(hs':scal2 g)
 (h1:∀ G H σ ς Q,StR C G H σ ς->(A ς).post (KB C G H σ ς Q) C.XD->ta σ H Q) (h2:∀ G H σ ς Q,StR C G H σ ς->(B ς).post (KB C G H σ ς Q) C.XD->tb σ H Q)
 (h3:∀ G H σ ς Q,StR C G H σ ς->(A' ς).post (KB C G H σ ς Q) C.XD->tc σ H Q):
 ∀ G H σ ς Q,StR C G H σ ς->(Qc9 f g A B A' ς).post (KD C G H σ ς Q) C.XD->QDn r r' ta tb tc σ H Q:=by
 intro G H σ ς Q S q
 unfold Qc9 at q
 rw[Out.post_bind]at q
 refine h1 G H σ ς _ S (Out.post_mono q fun x k v1 H1 G1 S1 a1 b1 r1=>?_)
 rw[Out.post_bind]at k
 refine h2 G1 H1 σ ς _ S1 (Out.post_mono k fun y k2 v2 H2 G2 S2 a2 b2 r2=>?_)
 rw[Out.post_bind]at k2
 refine hr G2 H2 σ ς _ x y v1 v2 S2 (Rep.mono a2 x v1 r1) r2 ?_
 have hxy:=hs x y
 cases e:f x y with
 | exc _=>rw[e]at hxy;exact hxy
 | stuck=>rw[e]at k2;exact k2.elim
 | ok z=>
  rw[e]at k2
  refine⟨by rw[e]at hxy;exact hxy,?_⟩
  cases z with
  | bl cc=>
   refine⟨cc,rfl,?_⟩
   cases cc with
   | false=>exact iteF (KD.now (KD.later (show KD C G H σ ς Q (.bl false) from k2) (a1.trans a2) (b1.trans b2)) S2 rfl)
   | true=>
    refine iteT (h3 G2 H2 σ ς _ S2 ?_)
    have k2':(A' ς>>=fun w=>g y w).post (KD C G H σ ς Q) C.XD:=k2
    rw[Out.post_bind]at k2'
    refine Out.post_mono k2' fun w k3 v3 H3 G3 S3 a3 b3 r3=>?_
    refine hr' G3 H3 σ ς _ y w v2 v3 S3 (Rep.mono a3 y v2 r2) r3 (QlB S3 (hs' y w) ?_)
    exact Out.post_mono k3 fun d kd=>KD.later kd ((a1.trans a2).trans a3) ((b1.trans b2).trans b3)
  | _=>exact k2.elim
theorem QBr{op op':CmpOp}{r r':R2}{f g:D->D->Out D}(ho:OpR C.X (compareOp op) r)(hr:DRS C r f)(hs:scal2 f)(ho':OpR C.X (compareOp op') r')(hr':DRS C r' g)(hs':scal2 g)
 (ha:DB C a A) (hb:DB C b B) (hc:DB C c A') (hm:lastMarks [op,op'] [b,c]=false:=by with_unfolding_all rfl):DE C (.Compare a [op,op'] [b,c] pos) (Qc9 f g A B A'):=by
 obtain⟨ta,p1,q1⟩:=ha
 obtain⟨tb,p2,q2⟩:=hb
 obtain⟨tc,p3,q3⟩:=hc
 exact⟨_,QMy ho ho' p1 p2 p3 hm,QK4 hr hs hr' hs' q1 q2 q3⟩
theorem QDj{op op':CmpOp}{r r':R2}{f g:D->D->Out D}(ho:OpR C.X (compareOp op) r)(hr:DRS C r f)(hs:scal2 f)(ho':OpR C.X (compareOp op') r')(hr':DRS C r' g)(hs':scal2 g)
 (ha:DB C a A) (hb:DB C b B) (hc:DB C c A') (hm:lastMarks [op,op'] [b,c]=false:=by with_unfolding_all rfl):DT C (.Compare a [op,op'] [b,c] pos) (tVal (Qc9 f g A B A')):=by
 obtain⟨ta,p1,q1⟩:=ha
 obtain⟨tb,p2,q2⟩:=hb
 obtain⟨tc,p3,q3⟩:=hc
 exact⟨_,QL8 ho ho' p1 p2 p3 hm,fun G H σ ς Q S q=>QK4 hr hs hr' hs' q1 q2 q3 G H σ ς _ S (Qsq q)⟩
end
section
variable{C:Dc}
def dI(cnd:Int->Int->Bool)(g:Int->Int->D):D->D->Out D
 | .int i,.int j=>if cnd i j=true then .ok (g i j) else .stuck
 | _,_=>.stuck
def dI0(g:Int->Int->D):D->D->Out D
 | .int i,.int j=>.ok (g i j)
 | _,_=>.stuck
theorem QQ{α:Type}{c:Prop}[Decidable c]{a b:Out α}{k:α->Prop}{x:D->Prop}(h:(if c then a else b).post k x):(c/\a.post k x)∨(¬ c/\b.post k x):=by
 by_cases e:c
 ·rw[if_pos e]at h;exact .inl ⟨e,h⟩
 ·rw[if_neg e]at h;exact .inr ⟨e,h⟩
theorem Qlu{c:Prop}[Decidable c]{d:D}(h:d.scal=true):match (if c then Out.ok d else Out.stuck:Out D) with | .ok d=>d.scal=true | .exc _=>False | .stuck=>True:=by
 by_cases e:c
 ·rw[if_pos e];exact h
 ·rw[if_neg e];exact True.intro
theorem Qto{cnd:Int->Int->Bool}{g:Int->Int->D}(h:∀ i j,(g i j).scal=true):scal2 (dI cnd g):=by
 intro x y
 cases x with
 | int i=>
  cases y with
  | int j=>exact Qlu (h i j)
  | _=>exact True.intro
 | _=>exact True.intro
theorem Qb2{g:Int->Int->D}(h:∀ i j,(g i j).scal=true):scal2 (dI0 g):=by
 intro x y
 cases x<;>cases y<;>simp[dI0,h]
theorem QvU{cnd:Int->Int->Bool}{P:Int->Int->Prop}{g:Int->Int->D}(hP:∀ i j,cnd i j=true->P i j):DRS C (rI P fun i j=>toV (g i j)) (dI cnd g):=by
 intro G H σ ς Q x y vx vy S hx hy q
 cases x with
 | int i=>
  cases y with
  | int j=>
   cases hx;cases hy
   refine⟨i,j,rfl,rfl,?_⟩
   rcases QQ (show(if cnd i j=true then Out.ok (g i j) else Out.stuck).post _ _ from q) with⟨hc,q⟩ | ⟨hc,q⟩
   ·exact⟨hP i j hc,q.2⟩
   ·exact q.elim
  | _=>exact q.elim
 | _=>exact q.elim
theorem QcJ{g:Int->Int->D}:DRS C (rI0 fun i j=>toV (g i j)) (dI0 g):=by
 intro G H σ ς Q x y vx vy S hx hy q
 cases x with
 | int i=>
  cases y with
  | int j=>
   cases hx;cases hy
   exact⟨i,j,rfl,rfl,q.2⟩
  | _=>exact q.elim
 | _=>exact q.elim
variable{a b c:Expr}{A B:SD->Out D}{pos:Pos}
def dSub:D->D->Out D:=dI0 fun i j=>.int (i - j)
def big(i:Int):Bool:=decide (i.natAbs<2 ^ 9000)
def dMul:D->D->Out D:=dI (fun i j=>decide (Builtin.Int.intBits i+Builtin.Int.intBits j<=134217728)) fun i j=>.int (i * j)
def dFdiv:D->D->Out D:=dI (fun i j=>decide (j≠0)&&big j) fun i j=>.int (i.fdiv j)
def dMod:D->D->Out D:=dI (fun i j=>decide (j≠0)) fun i j=>.int (i.fmod j)
def dPow:D->D->Out D:=dI (fun i j=>decide (0<=j)&&decide (j<=1000000)&&decide (i.natAbs<2 ^ 64)) fun i j=>.int (i ^ j.toNat)
theorem QL9{i:Int}(h:big i=true):i.natAbs.log2<9000:=by
 have h':i.natAbs<2 ^ 9000:=of_decide_eq_true h
 by_cases z:i.natAbs=0
 ·rw[z];decide
 ·exact(Nat.log2_lt z).mpr h'
theorem QNz{X:Cx}:OpR X (binaryOp .Mult) (rI IntMulOk fun i j=>.int (i * j)):=opI fun _ _ _ _ _ _ _ hc q=>mul_int q hc
def CDivB(i j:Int):Prop:=j≠0/\j.natAbs.log2<9000
theorem QMa{X:Cx}:OpR X (binaryOp .FloorDiv) (rI CDivB fun i j=>.int (i.fdiv j)):=opI fun _ _ _ _ _ _ _ hc q=>floordiv_int hc.1 q (.inl (PyProof.noPylong_of_log2 hc.2))
theorem Qc8(ha:DB C a A)(hb:DB C b B):DE C (.BinOp a .Sub b pos) (e2 dSub A B):=de_op QPk QcJ (Qb2 fun _ _=>rfl) ha hb
theorem QiU(ha:DB C a A)(hb:DB C b B):DE C (.BinOp a .Mult b pos) (e2 dMul A B):=de_op QNz (QvU fun i j h=>IntMulOk.of_le (Nat.le_refl _) (Nat.le_refl _) (of_decide_eq_true h)) (Qto fun _ _=>rfl) ha hb
theorem Qth(ha:DB C a A)(hb:DB C b B):DE C (.BinOp a .FloorDiv b pos) (e2 dFdiv A B):=de_op QMa (QvU fun i j h=>by
 rw[Bool.and_eq_true]at h
 exact⟨of_decide_eq_true h.1,QL9 h.2⟩) (Qto fun _ _=>rfl) ha hb
theorem Q0(ha:DB C a A)(hb:DB C b B):DE C (.BinOp a .Mod b pos) (e2 dMod A B):=de_op QNX (QvU fun i j h=>of_decide_eq_true h) (Qto fun _ _=>rfl) ha hb
theorem QvF(ha:DB C a A)(hb:DB C b B):DE C (.BinOp a .Pow b pos) (e2 dPow A B):=de_op QOq (QvU fun i j h=>by
 rw[Bool.and_eq_true,Bool.and_eq_true]at h
 exact⟨of_decide_eq_true h.1.1,of_decide_eq_true h.1.2,of_decide_eq_true h.2⟩) (Qto fun _ _=>rfl) ha hb
def dAdd:D->D->Out D
 | .int i,.int j=>.ok (.int (i+j))
 | .str x,.str y=>if x.length+y.length<=sizeLine then .ok (.str (x++y)) else .stuck
 | _,_=>.stuck
theorem QaQ(ha:DB C a A)(hb:DB C b B):DE C (.BinOp a .Add b pos) (e2 dAdd A B):=by
 refine de_op (QOy.or QIB) ?_ ?_ ha hb
 ·intro G H σ ς Q x y vx vy S hx hy q
  cases x with
  | int i=>
   cases y with
   | int j=>
    cases hx;cases hy
    exact .inl ⟨i,j,rfl,rfl,q.2⟩
   | _=>exact q.elim
  | str i=>
   cases y with
   | str j=>
    cases hx;cases hy
    rcases QQ (show(if i.length+j.length<=sizeLine then Out.ok (D.str (i++j)) else Out.stuck).post _ _ from q) with⟨hc,q⟩ | ⟨hc,q⟩
    ·exact .inr ⟨i,j,rfl,rfl,hc,q.2⟩
    ·exact q.elim
   | _=>exact q.elim
  | _=>exact q.elim
 ·intro x y
  cases x with
  | int i=>
   cases y with
   | int j=>exact rfl
   | _=>exact True.intro
  | str i=>
   cases y with
   | str j=>exact Qlu rfl
   | _=>exact True.intro
  | _=>exact True.intro
def dLt:D->D->Out D:=dI0 fun i j=>.bl (decide (i<j))
def dLe:D->D->Out D:=dI0 fun i j=>.bl (decide (i<=j))
def dGt:D->D->Out D:=dI0 fun i j=>.bl (decide (j<i))
def dGe:D->D->Out D:=dI0 fun i j=>.bl (decide (j<=i))
end
section
variable{C:Dc}{a b c:Expr}{A B:SD->Out D}{pos:Pos}
def dNeg:D->Out D
 | .int i=>.ok (.int (-i))
 | _=>.stuck
theorem Qk6(ha:DB C a A):DE C (.UnaryOp .USub a pos) (e1 dNeg A):=by
 obtain⟨ta,p1,q1⟩:=ha
 refine⟨_,pe_un QOT p1,fun G H σ ς Q S q=>?_⟩
 unfold e1 at q
 rw[Out.post_bind]at q
 refine q1 G H σ ς _ S (Out.post_mono q fun x k v1 H1 G1 S1 a1 b1 r1=>?_)
 cases x with
 | int i=>cases r1;exact⟨i,rfl,KD.now (KD.later k a1 b1) S1 rfl⟩
 | _=>exact k.elim
variable{TA TB:SD->Out Bool}{rest:List Expr}
def tAnd'(a b:SD->Out Bool):SD->Out Bool:=fun ς=>a ς>>=fun c=>if c=true then b ς else .ok false
def tOr'(a b:SD->Out Bool):SD->Out Bool:=fun ς=>a ς>>=fun c=>if c=true then .ok true else b ς
def tNot'(a:SD->Out Bool):SD->Out Bool:=fun ς=>a ς>>=fun c=>.ok (!c)
theorem DW.dt{e:Expr}{T:SD->Out Bool}(h:DW C e T):DT C e T:=let ⟨t,p,q⟩:=h;⟨t,p.pt,q⟩
theorem QHi(ha:DT C a TA):DW C (.BoolOp .And [a] pos) TA:=let ⟨t,p,q⟩:=ha;⟨t,QNB p,q⟩
theorem QeJ(ha:DT C a TA):DW C (.BoolOp .Or [a] pos) TA:=let ⟨t,p,q⟩:=ha;⟨t,QOd p,q⟩
theorem QLK(ha:DT C a TA)(hb:DW C (.BoolOp .And (b::rest) pos) TB):DW C (.BoolOp .And (a::b::rest) pos) (tAnd' TA TB):=by
 obtain⟨t1,p1,q1⟩:=ha
 obtain⟨t2,p2,q2⟩:=hb
 refine⟨_,QN0 p1 p2,fun G H σ ς Q S q=>?_⟩
 unfold tAnd' at q
 rw[Out.post_bind]at q
 refine q1 G H σ ς _ S (Out.post_mono q fun x k H1 G1 S1 a1 b1=>?_)
 cases x with
 | true=>exact iteT (q2 G1 H1 σ ς _ S1 (Out.post_mono (show(TB ς).post _ _ from k) fun x k=>KT.later k a1 b1))
 | false=>exact iteF (KT.now (KT.later (show KT C G H σ ς Q false from k) a1 b1) S1)
theorem dw_or(ha:DT C a TA)(hb:DW C (.BoolOp .Or (b::rest) pos) TB):DW C (.BoolOp .Or (a::b::rest) pos) (tOr' TA TB):=by
 obtain⟨t1,p1,q1⟩:=ha
 obtain⟨t2,p2,q2⟩:=hb
 refine⟨_,pw_or p1 p2,fun G H σ ς Q S q=>?_⟩
 unfold tOr' at q
 rw[Out.post_bind]at q
 refine q1 G H σ ς _ S (Out.post_mono q fun x k H1 G1 S1 a1 b1=>?_)
 cases x with
 | true=>exact iteT (KT.now (KT.later (show KT C G H σ ς Q true from k) a1 b1) S1)
 | false=>exact iteF (q2 G1 H1 σ ς _ S1 (Out.post_mono (show(TB ς).post _ _ from k) fun x k=>KT.later k a1 b1))
theorem Qat(ha:DT C a TA):DT C (.UnaryOp .Not a pos) (tNot' TA):=by
 obtain⟨t1,p1,q1⟩:=ha
 refine⟨_,QPl p1,fun G H σ ς Q S q=>?_⟩
 unfold tNot' at q
 rw[Out.post_bind]at q
 exact q1 G H σ ς _ S (Out.post_mono q fun x k H1 G1 S1 a1 b1=>k H1 G1 S1 a1 b1)
def eAnd(a b:SD->Out D):SD->Out D:=fun ς=>a ς>>=fun d=>match d with | .bl true=>b ς | .bl false=>.ok (.bl false) | _=>.stuck
def eOr(a b:SD->Out D):SD->Out D:=fun ς=>a ς>>=fun d=>match d with | .bl true=>.ok (.bl true) | .bl false=>b ς | _=>.stuck
def eNot(a:SD->Out D):SD->Out D:=fun ς=>a ς>>=fun d=>match d with | .bl c=>.ok (.bl (!c)) | _=>.stuck
theorem Qg9{op}(h:DE C a A):DE C (.BoolOp op [a] pos) A:=let ⟨t,p,q⟩:=h;⟨t,QPi p,q⟩
theorem QdX(ha:DE C a A)(hb:DE C (.BoolOp .And (b::rest) pos) B):DE C (.BoolOp .And (a::b::rest) pos) (eAnd A B):=by
 obtain⟨t1,p1,q1⟩:=ha
 obtain⟨t2,p2,q2⟩:=hb
 refine⟨_,QOJ p1 p2,fun G H σ ς Q S q=>?_⟩
 unfold eAnd at q
 rw[Out.post_bind]at q
 refine q1 G H σ ς _ S (Out.post_mono q fun x k v1 H1 G1 S1 a1 b1 r1=>?_)
 cases x with
 | bl c=>
  refine⟨c,r1,?_⟩
  cases c with
  | true=>exact iteT (q2 G1 H1 σ ς _ S1 (Out.post_mono (show(B ς).post _ _ from k) fun x k=>KD.later k a1 b1))
  | false=>exact iteF (KD.now (KD.later (show KD C G H σ ς Q (.bl false) from k) a1 b1) S1 rfl)
 | _=>exact k.elim
theorem QKj(ha:DE C a A):DE C (.UnaryOp .Not a pos) (eNot A):=by
 obtain⟨t1,p1,q1⟩:=ha
 refine⟨_,QOf p1,fun G H σ ς Q S q=>?_⟩
 unfold eNot at q
 rw[Out.post_bind]at q
 refine q1 G H σ ς _ S (Out.post_mono q fun x k v1 H1 G1 S1 a1 b1 r1=>?_)
 cases x with
 | bl c=>exact⟨c,r1,KD.now (KD.later (show KD C G H σ ς Q (.bl (!c)) from k) a1 b1) S1 rfl⟩
 | _=>exact k.elim
def eIf(t:SD->Out Bool)(a b:SD->Out D):SD->Out D:=fun ς=>t ς>>=fun c=>if c=true then a ς else b ς
theorem de_if{t:Expr}(ht:DT C t TA)(ha:DE C a A)(hb:DE C b B):DE C (.IfExp t a b pos) (eIf TA A B):=by
 obtain⟨t0,p0,q0⟩:=ht
 obtain⟨t1,p1,q1⟩:=ha
 obtain⟨t2,p2,q2⟩:=hb
 refine⟨_,QMN p0 p1 p2,fun G H σ ς Q S q=>?_⟩
 unfold eIf at q
 rw[Out.post_bind]at q
 refine q0 G H σ ς _ S (Out.post_mono q fun x k H1 G1 S1 a1 b1=>?_)
 cases x with
 | true=>exact iteT (q1 G1 H1 σ ς _ S1 (Out.post_mono (show(A ς).post _ _ from k) fun x k=>KD.later k a1 b1))
 | false=>exact iteF (q2 G1 H1 σ ς _ S1 (Out.post_mono (show(B ς).post _ _ from k) fun x k=>KD.later k a1 b1))
end
end DL
namespace DL
open PySem PySem.Spec PyProof.Rows L2
def aNil:SD->Out (List D):=fun _=>.ok []
def aCons(a:SD->Out D)(r:SD->Out (List D)):SD->Out (List D):=fun ς=>a ς>>=fun x=>r ς>>=fun xs=>.ok (x::xs)
section
variable{C:Dc}{e:Expr}{es:List Expr}{E:SD->Out D}{A:SD->Out (List D)}{pos:Pos}
theorem Qj:DA C [] aNil:=⟨_,Qc6,fun G H σ ς Q S q=>q [] H G S (Same.refl H) (Same.refl G) rfl⟩
theorem QF:DAB C [] aNil:=⟨_,Qc6,fun G H σ ς Q S q=>q [] H G S (Same.refl H) (Same.refl G) rfl⟩
theorem Qc(ha:DE C e E)(hr:DA C es A)(hs:starEach (e::es) C.X.env=(false,eval e C.X.env)::starEach es C.X.env:=by rfl):DA C (e::es) (aCons E A):=by
 obtain⟨t1,p1,q1⟩:=ha
 obtain⟨t2,p2,q2⟩:=hr
 refine⟨_,Qbh p1 p2 hs,fun G H σ ς Q S q=>?_⟩
 unfold aCons at q
 rw[Out.post_bind]at q
 refine q1 G H σ ς _ S (Out.post_mono q fun x k v1 H1 G1 S1 a1 b1 r1=>?_)
 rw[Out.post_bind]at k
 refine q2 G1 H1 σ ς _ S1 (Out.post_mono k fun xs k2 vs H2 G2 S2 a2 b2 r2=>?_)
 exact k2 (v1::vs) H2 G2 S2 (a1.trans a2) (b1.trans b2) ⟨v1,vs,rfl,Rep.mono b2 x v1 r1,r2⟩
theorem QB(ha:DB C e E)(hr:DAB C es A)(hs:starEach (e::es) C.X.env=(false,eval e C.X.env)::starEach es C.X.env:=by rfl):DAB C (e::es) (aCons E A):=by
 obtain⟨t1,p1,q1⟩:=ha
 obtain⟨t2,p2,q2⟩:=hr
 refine⟨_,Qbh p1 p2 hs,fun G H σ ς Q S q=>?_⟩
 unfold aCons at q
 rw[Out.post_bind]at q
 refine q1 G H σ ς _ S (Out.post_mono q fun x k v1 H1 G1 S1 a1 b1 r1=>?_)
 rw[Out.post_bind]at k
 refine q2 G1 H1 σ ς _ S1 (Out.post_mono k fun xs k2 vs H2 G2 S2 a2 b2 r2=>?_)
 exact k2 (v1::vs) H2 G2 S2 (a1.trans a2) (b1.trans b2) ⟨v1,vs,rfl,Rep.mono a2 x v1 r1,r2⟩
def fits(n:Nat):Bool:=decide (n<=sizeLine)
def eTup(a:SD->Out (List D)):SD->Out D:=fun ς=>a ς>>=fun xs=>if fits xs.length=true then .ok (.tup xs) else .stuck
def eLst(a:SD->Out (List D)):SD->Out D:=fun ς=>a ς>>=fun xs=>if fits xs.length=true then .ok (.lst xs) else .stuck
theorem Qfg{x1}(h:DA C es A):DE C (.Tuple es x1 pos) (eTup A):=by
 obtain⟨t,p,q⟩:=h
 refine⟨_,QCO p,fun G H σ ς Q S k=>?_⟩
 unfold eTup at k
 rw[Out.post_bind]at k
 refine q G H σ ς _ S (Out.post_mono k fun xs k2 vs H1 G1 S1 a1 b1 r1=>?_)
 rcases QQ k2 with⟨hc,k3⟩ | ⟨_,k3⟩
 ·exact⟨by rw[← r1.length];exact of_decide_eq_true hc,KD.tup (KD.later k3 a1 b1) S1 r1⟩
 ·exact k3.elim
theorem QaV(h:DA C es A):DF C (.List es pos) (eLst A):=by
 obtain⟨t,p,q⟩:=h
 refine⟨_,QOU p,fun G H σ ς Q S k=>?_⟩
 unfold eLst at k
 rw[Out.post_bind]at k
 refine q G H σ ς _ S (Out.post_mono k fun xs k2 vs H1 G1 S1 a1 b1 r1=>?_)
 rcases QQ k2 with⟨hc,k3⟩ | ⟨_,k3⟩
 ·exact⟨by rw[← r1.length];exact of_decide_eq_true hc,KF.lst (KF.later k3 a1 b1) S1 r1⟩
 ·exact k3.elim
end
theorem QoY{K:PySem.W.Frag}{CT:CTab}{H:Hp}{ds:List D}{vs:List V}{i:Int}{d:D}(r:RepL K CT H ds vs)(h:atI ds i=some d):∃ v,atI vs i=some v/\Rep K CT H d v:=by
 unfold atI at h ⊢
 rw[← r.length]
 cases e:ixN ds.length i with
 | none=>rw[e]at h;cases h
 | some j=>
  rw[e]at h
  exact r.get h
def optO{α:Type}:Option α->Out α
 | some a=>.ok a
 | none=>.stuck
theorem QcM{α:Type}{o:Option α}{k:α->Prop}{x:D->Prop}(h:(optO o).post k x):∃ a,o=some a/\k a:=by
 cases o with
 | none=>exact h.elim
 | some a=>exact⟨a,rfl,h⟩
def dIx:D->D->Out D
 | .lst xs,.int i=>optO (atI xs i)
 | .tup xs,.int i=>optO (atI xs i)
 | .str x,.int i=>if fits x.length=true then optO ((atI x.cps.toList i).map fun c=>D.str ⟨#[c]⟩) else .stuck
 | _,_=>.stuck
section
variable{C:Dc}{a b:Expr}{A B:SD->Out D}{pos:Pos}
theorem QO4{R:Hp->Hp}{G H:Hp}{σ:St}{ς:SD}{Q:VK}{x y:D}{vx vy:V}{k:D->Prop}(hx:Rep C.X.K C.CT H x vx)(hy:Rep C.X.K C.CT H y vy)
 (q:(dIx x y).post k C.XD) (hk:∀ d v,k d->Rep C.X.K C.CT H d v->Q v H):rIx C.X.K vx vy H Q:=by
 cases y with
 | int i=>
  cases hy
  cases x with
  | lst xs=>
   obtain⟨p,vs,rfl,h2,h3⟩:=hx
   obtain⟨d,e,kd⟩:=QcM q
   obtain⟨v,e2,r⟩:=QoY h3 e
   exact .inl ⟨p,vs,i,v,rfl,rfl,h2,e2,hk d v kd r⟩
  | tup xs=>
   obtain⟨p,vs,rfl,h2,h3⟩:=hx
   obtain⟨d,e,kd⟩:=QcM q
   obtain⟨v,e2,r⟩:=QoY h3 e
   exact .inr (.inl ⟨p,vs,i,v,rfl,rfl,h2,e2,hk d v kd r⟩)
  | str z=>
   cases hx
   rcases QQ (show(if fits z.length=true then optO ((atI z.cps.toList i).map fun c=>D.str ⟨#[c]⟩) else .stuck).post k C.XD from q) with⟨hc,q⟩ | ⟨_,q⟩
   ·obtain⟨d,e,kd⟩:=QcM q
    cases e3:atI z.cps.toList i with
    | none=>rw[e3]at e;cases e
    | some c=>
     rw[e3]at e
     cases e
     exact .inr (.inr ⟨z,i,c,rfl,rfl,of_decide_eq_true hc,e3,hk _ _ kd rfl⟩)
   ·exact q.elim
  | _=>exact q.elim
 | _=>cases x<;>exact q.elim
theorem db_ix(ha:DB C a A)(hb:DB C b B)(hs:Qtj b:=by intro _ _;rfl):DB C (.Subscript a b pos) (e2 dIx A B):=by
 obtain⟨ta,p1,q1⟩:=ha
 obtain⟨tb,p2,q2⟩:=hb
 refine⟨_,pe_ix QBt p1 p2 hs,fun G H σ ς Q S q=>?_⟩
 unfold e2 at q
 rw[Out.post_bind]at q
 refine q1 G H σ ς _ S (Out.post_mono q fun x k v1 H1 G1 S1 a1 b1 r1=>?_)
 rw[Out.post_bind]at k
 refine q2 G1 H1 σ ς _ S1 (Out.post_mono k fun y k2 v2 H2 G2 S2 a2 b2 r2=>?_)
 exact QO4 (R:=id) (G:=G2) (σ:=σ) (ς:=ς) (Rep.mono a2 x v1 r1) r2 k2 fun d v kd r=>KB.now (KB.later kd (a1.trans a2) (b1.trans b2)) S2 r
theorem de_ix(ha:DE C a A)(hb:DB C b B)(hs:Qtj b:=by intro _ _;rfl):DE C (.Subscript a b pos) (e2 dIx A B):=by
 obtain⟨ta,p1,q1⟩:=ha
 obtain⟨tb,p2,q2⟩:=hb
 refine⟨_,pe_ix QBt p1 p2 hs,fun G H σ ς Q S q=>?_⟩
 unfold e2 at q
 rw[Out.post_bind]at q
 refine q1 G H σ ς _ S (Out.post_mono q fun x k v1 H1 G1 S1 a1 b1 r1=>?_)
 rw[Out.post_bind]at k
 refine q2 G1 H1 σ ς _ S1 (Out.post_mono k fun y k2 v2 H2 G2 S2 a2 b2 r2=>?_)
 have r1':=Rep.mono b2 x v1 r1
 cases y with
 | int i=>
  cases r2
  cases x with
  | lst xs=>
   obtain⟨p,vs,rfl,h2,h3⟩:=r1'
   obtain⟨d,e,kd⟩:=QcM k2
   obtain⟨v,e2,r⟩:=QoY h3 e
   exact .inl ⟨p,vs,i,v,rfl,rfl,S2.sub.seq h2,e2,KD.now (KD.later kd (a1.trans a2) (b1.trans b2)) S2 r⟩
  | tup xs=>
   obtain⟨p,vs,rfl,h2,h3⟩:=r1'
   obtain⟨d,e,kd⟩:=QcM k2
   obtain⟨v,e2,r⟩:=QoY h3 e
   exact .inr (.inl ⟨p,vs,i,v,rfl,rfl,Same.sqT S2.sub h2,e2,KD.now (KD.later kd (a1.trans a2) (b1.trans b2)) S2 r⟩)
  | str z=>
   cases r1'
   rcases QQ (show(if fits z.length=true then optO ((atI z.cps.toList i).map fun c=>D.str ⟨#[c]⟩) else .stuck).post _ C.XD from k2) with⟨hc,q⟩ | ⟨_,q⟩
   ·obtain⟨d,e,kd⟩:=QcM q
    cases e3:atI z.cps.toList i with
    | none=>rw[e3]at e;cases e
    | some c=>
     rw[e3]at e
     cases e
     exact .inr (.inr ⟨z,i,c,rfl,rfl,of_decide_eq_true hc,e3,KD.now (KD.later kd (a1.trans a2) (b1.trans b2)) S2 rfl⟩)
   ·exact q.elim
  | _=>exact k2.elim
 | _=>cases x<;>exact k2.elim
end
def cutD{α:Type}(xs:List α)(lo hi:Option Int):List α:=(xs.drop (HT.sIx xs.length 0 lo)).take (HT.sIx xs.length xs.length hi - HT.sIx xs.length 0 lo)
theorem QNE{K:PySem.W.Frag}{CT:CTab}{H:Hp}{ds:List D}{vs:List V}(lo hi:Option Int)(r:RepL K CT H ds vs):RepL K CT H (cutD ds lo hi) (cutV vs lo hi):=by
 unfold cutD cutV
 rw[r.length]
 exact(r.drop _).take _
def oNo:SD->Out (Option Int):=fun _=>.ok none
def oSome(e:SD->Out D):SD->Out (Option Int):=fun ς=>e ς>>=fun d=>match d with | .int i=>.ok (some i) | _=>.stuck
def DO(C:Dc)(e:Option Expr)(T:SD->Out (Option Int)):Prop:=∃ t,PO C.X e t/\∀ G H σ ς Q,StR C G H σ ς->(T ς).post (fun o=>∀ H' G',StR C G' H' σ ς->Same H H'->Same G G'->Q o H') C.XD->t σ H Q
section
variable{C:Dc}{a b:Expr}{A B:SD->Out D}{lo hi:Option Expr}{L U:SD->Out (Option Int)}{pos p2:Pos}
theorem QHq(h:DB C a A):DO C (some a) (oSome A):=by
 obtain⟨t,p,q⟩:=h
 refine⟨_,QMU p,fun G H σ ς Q S k=>?_⟩
 unfold oSome at k
 rw[Out.post_bind]at k
 refine q G H σ ς _ S (Out.post_mono k fun x k2 v1 H1 G1 S1 a1 b1 r1=>?_)
 cases x with
 | int i=>cases r1;exact⟨i,rfl,k2 H1 G1 S1 a1 b1⟩
 | _=>exact k2.elim
def eSl(a:SD->Out D)(l u:SD->Out (Option Int)):SD->Out D:=fun ς=>a ς>>=fun x=>l ς>>=fun i=>u ς>>=fun j=>match x with
 | .lst xs=>.ok (.lst (cutD xs i j))
 | _=>.stuck
theorem df_sl(ha:DE C a A)(hl:DO C lo L)(hu:DO C hi U):DF C (.Subscript a (.Slice lo hi none p2) pos) (eSl A L U):=by
 obtain⟨ta,p1,q1⟩:=ha
 obtain⟨tl,p3,q3⟩:=hl
 obtain⟨tu,p4,q4⟩:=hu
 refine⟨_,QMb QMV p1 p3 p4,fun G H σ ς Q S q=>?_⟩
 unfold eSl at q
 rw[Out.post_bind]at q
 refine q1 G H σ ς _ S (Out.post_mono q fun x k v1 H1 G1 S1 a1 b1 r1=>?_)
 rw[Out.post_bind]at k
 refine q3 G1 H1 σ ς _ S1 (Out.post_mono k fun i k2 H2 G2 S2 a2 b2=>?_)
 rw[Out.post_bind]at k2
 refine q4 G2 H2 σ ς _ S2 (Out.post_mono k2 fun j k3 H3 G3 S3 a3 b3=>?_)
 cases x with
 | lst xs=>
  obtain⟨p,vs,rfl,h2,h3⟩:=Rep.mono (b2.trans b3) _ v1 r1
  exact⟨p,vs,rfl,S3.sub.seq h2,KF.lst (KF.later (show KF C G H σ ς Q (.lst (cutD xs i j)) from k3) ((a1.trans a2).trans a3) ((b1.trans b2).trans b3)) S3 (QNE i j h3)⟩
 | _=>exact k3.elim
end
section
variable{C:Dc}{x:Str}{p pos:Pos}{e:Expr}{es:List Expr}{A:SD->Out (List D)}{id T:String}
def eA(f:List D->Out D)(a:SD->Out (List D)):SD->Out D:=fun ς=>a ς>>=f
def DCS(C:Dc)(r:List V->Hp->VK->Prop)(f:List D->Out D):Prop:=∀ G H σ ς (Q:VK) xs vs,StR C G H σ ς->RepL C.X.K C.CT H xs vs->
 (f xs).post (fun d=>d.scal=true/\Q (toV d) H) (fun _=>False)->r vs H Q
def scalA(f:List D->Out D):Prop:=∀ xs,match f xs with | .ok d=>d.scal=true | .exc _=>False | .stuck=>True
theorem dcall{r:List V->Hp->VK->Prop}{f:List D->Out D}{t:TA}(hr:DCS C r f)(hs:scalA f)
 (h:∀ G H σ ς Q,StR C G H σ ς->(A ς).post (fun ds=>∀ vs H' G',StR C G' H' σ ς->Same H H'->Same G G'->RepL C.X.K C.CT H' ds vs->Q vs H') C.XD->t σ H Q):
 ∀ G H σ ς Q,StR C G H σ ς->(eA f A ς).post (KD C G H σ ς Q) C.XD->tCB r t σ H Q:=by
 intro G H σ ς Q S q
 unfold eA at q
 rw[Out.post_bind]at q
 refine h G H σ ς _ S (Out.post_mono q fun ds k vs H1 G1 S1 a1 b1 r1=>?_)
 exact hr G1 H1 σ ς Q ds vs S1 r1 (QlB S1 (hs ds) (Out.post_mono k fun d kd=>KD.later kd a1 b1))
theorem Qun{r:List V->Hp->VK->Prop}{f:List D->Out D}(hc:CallR C.X (.builtin id) r)(hr:DCS C r f)(hs:scalA f)(hg:Gl C.X x)(hm:C.X.mg x=none)(hv:bootBuiltins x=some (.builtin id))(ha:DAB C (e::es) A)(hn:x≠"__name__":=by decide)(hdb:(x == ("__debug__":Str))=false:=by decide)
 (he:starEach (e::es) C.X.env=(false,eval e C.X.env)::starEach es C.X.env:=by rfl) (hpl:(backTo pos (starEach es C.X.env)).any (·.1)=false:=by rfl):DE C (.Call (.Name x p) (e::es) [] pos) (eA f A):=by
 obtain⟨t,p1,q1⟩:=ha
 exact⟨_,QuJ hc hg hm hv p1 hn hdb he hpl,dcall hr hs q1⟩
theorem QKN{r:List V->Hp->VK->Prop}{f:List D->Out D}(hc:CallR C.X (.type T) r)(hr:DCS C r f)(hs:scalA f)(hg:Gl C.X x)(hm:C.X.mg x=none)(hv:bootBuiltins x=some (.type T))(ha:DAB C (e::es) A)(hn:x≠"__name__":=by decide)(hdb:(x == ("__debug__":Str))=false:=by decide)
 (he:starEach (e::es) C.X.env=(false,eval e C.X.env)::starEach es C.X.env:=by rfl) (hpl:(backTo pos (starEach es C.X.env)).any (·.1)=false:=by rfl):DE C (.Call (.Name x p) (e::es) [] pos) (eA f A):=by
 obtain⟨t,p1,q1⟩:=ha
 exact⟨_,Qzl hc hg hm hv p1 hn hdb he hpl,dcall hr hs q1⟩
def fLen:List D->Out D
 | [.lst xs]=>.ok (.int xs.length)
 | [.tup xs]=>.ok (.int xs.length)
 | [.str x]=>if fits x.length=true then .ok (.int x.length) else .stuck
 | _=>.stuck
theorem QM4:DCS C (fun xs H Q=>(∃ p ys,xs=[.ref p]/\(SqL C.X.K H p ys∨SqT C.X.K H p ys)/\Q (.int ys.length) H)∨∃ z,xs=[.str z]/\z.length<=sizeLine/\Q (.int z.length) H) fLen:=by
 intro G H σ ς Q xs vs S r q
 cases xs with
 | nil=>exact q.elim
 | cons x xr=>
  obtain⟨v,vr,rfl,r1,r2⟩:=r
  cases xr with
  | cons y yr=>cases x<;>exact q.elim
  | nil=>
   cases r2
   cases x with
   | lst ys=>
    obtain⟨p,us,rfl,h2,h3⟩:=r1
    exact .inl ⟨p,us,rfl,.inl h2,by rw[← h3.length];exact q.2⟩
   | tup ys=>
    obtain⟨p,us,rfl,h2,h3⟩:=r1
    exact .inl ⟨p,us,rfl,.inr h2,by rw[← h3.length];exact q.2⟩
   | str z=>
    cases r1
    rcases QQ (show(if fits z.length=true then Out.ok (D.int z.length) else .stuck).post _ _ from q) with⟨hc,q⟩ | ⟨_,q⟩
    ·exact .inr ⟨z,rfl,of_decide_eq_true hc,q.2⟩
    ·exact q.elim
   | _=>exact q.elim
theorem QLS:scalA fLen:=by
 intro xs
 cases xs with
 | nil=>exact True.intro
 | cons x xr=>
  cases xr with
  | cons y yr=>cases x<;>exact True.intro
  | nil=>
   cases x with
   | lst ys=>exact rfl
   | tup ys=>exact rfl
   | str z=>exact Qlu rfl
   | _=>exact True.intro
theorem Qaw(hg:Gl C.X "len")(hm:C.X.mg "len"=none)(ha:DAB C (e::es) A)
 (he:starEach (e::es) C.X.env=(false,eval e C.X.env)::starEach es C.X.env:=by rfl) (hpl:(backTo pos (starEach es C.X.env)).any (·.1)=false:=by rfl):DE C (.Call (.Name "len" p) (e::es) [] pos) (eA fLen A):=
 Qun (QC3.or QCg) QM4 QLS hg hm PySem.boot_len ha (by decide) (by decide) he hpl
def f1(g:D->Out D):List D->Out D
 | [x]=>g x
 | _=>.stuck
theorem QyF{g:D->Out D}(h:∀ x,match g x with | .ok d=>d.scal=true | .exc _=>False | .stuck=>True):scalA (f1 g):=by
 intro xs
 match xs with
 | []=>exact True.intro
 | [x]=>exact h x
 | _::_::_=>exact True.intro
def dAbs:D->Out D
 | .int i=>.ok (.int (if i<0 then -i else i))
 | _=>.stuck
theorem QC7{r:List V->Hp->VK->Prop}{g:D->Out D}(h:∀ G H σ ς (Q:VK) x v,StR C G H σ ς->Rep C.X.K C.CT H x v->(g x).post (fun d=>d.scal=true/\Q (toV d) H) (fun _=>False)->r [v] H Q):DCS C r (f1 g):=by
 intro G H σ ς Q xs vs S r q
 match xs,r with
 | [],_=>exact q.elim
 | [x],⟨v,vr,e1,r1,r2⟩=>cases r2;subst e1;exact h G H σ ς Q x v S r1 q
 | _::_::_,_=>exact q.elim
end
mutual
def D.py:D->PyData
 | .non=>.none
 | .bl b=>.bool b
 | .int i=>.int i
 | .str x=>.str x
 | .lst xs=>.list (D.pys xs)
 | .tup xs=>.tuple (D.pys xs)
 | .dic _=>.dict []
 | .ins _ _=>.dict []
 | .err _=>.dict []
def D.pys:List D->List PyData
 | []=>[]
 | x::xs=>D.py x::D.pys xs
end
section
variable{X:Cx}{pins:List (Addr×Obj)}{σ:L2.St}{H:Hp}{s:Shared}{CT:CTab}
mutual
theorem Qlx(I:Inv X pins σ H s):∀(d:D)(v:V)(u:Value),Rep X.K CT H d v->RelV v u->d.py.canLay0=true->∃ as,Reads s.heap u d.py as
 | .non,_,_,h,r,_=>by cases h;cases r;exact⟨_,.none⟩
 | .bl b,_,_,h,r,_=>by cases h;cases r;exact⟨_,.bool b⟩
 | .int i,_,_,h,r,_=>by cases h;obtain⟨t,rfl⟩:=r;exact⟨_,.int i t⟩
 | .str x,_,_,h,r,_=>by cases h;obtain⟨t,rfl⟩:=r;exact⟨_,.str x t⟩
 | .lst ds,_,_,⟨a,vs,h1,h2,h3⟩,r,c=>by
  subst h1;cases r
  obtain⟨its,q,⟨o,n,ho,hc,_,hd⟩,_⟩:=I.list h2
  obtain⟨as,ra⟩:=Qrr I ds vs its h3 q (by simpa [D.py,PyData.canLay0] using c)
  exact⟨_,.list ho hc hd (by simpa using ra)⟩
 | .tup ds,_,_,⟨a,vs,h1,h2,h3⟩,r,c=>by
  subst h1;cases r
  obtain⟨its,q,⟨o,ho,hc,n,hd⟩,_⟩:=I.tuple h2
  obtain⟨as,ra⟩:=Qrr I ds vs its h3 q (by simpa [D.py,PyData.canLay0] using c)
  exact⟨_,.tuple ho hc hd (by simpa using ra)⟩
 | .dic _,_,_,_,_,c=>by simp[D.py,PyData.canLay0]at c
 | .ins _ _,_,_,_,_,c=>by simp[D.py,PyData.canLay0]at c
 | .err _,_,_,_,_,c=>by simp[D.py,PyData.canLay0]at c
theorem Qrr(I:Inv X pins σ H s):∀(ds:List D)(vs:List V)(us:List Value),RepL X.K CT H ds vs->Vals vs us->PyData.canLayAll0 (D.pys ds)=true->∃ as,ReadsAll s.heap us (D.pys ds) as
 | [],_,_,h,r,_=>by cases h;cases r;exact⟨_,.nil⟩
 | d::ds,_,_,⟨v,w,h1,h2,h3⟩,r,c=>by
  subst h1
  cases r with
  | cons r1 r2=>
   have c':d.py.canLay0=true/\PyData.canLayAll0 (D.pys ds)=true:=by simpa [D.pys,PyData.canLayAll0] using c
   obtain⟨as,q1⟩:=Qlx I d v _ h2 r1 c'.1
   obtain⟨bs,q2⟩:=Qrr I ds w _ h3 r2 c'.2
   exact⟨_,.cons q1 q2⟩
end
end
def shp(d:D):Bool:=SeqAt.shaped d.py
def dEq(x y:D):Out D:=if (shp x&&shp y)=true then .ok (.bl (PyData.eqv x.py y.py)) else .stuck
def dNe(x y:D):Out D:=if (shp x&&shp y)=true then .ok (.bl (!PyData.eqv x.py y.py)) else .stuck
section
variable{C:Dc}{a b:Expr}{A B:SD->Out D}{pos:Pos}
def rEqD(C:Dc)(n:Bool):R2:=fun vx vy H Q=>∃ x y,Rep C.X.K C.CT H x vx/\Rep C.X.K C.CT H y vy/\shp x=true/\shp y=true/\Q (.bl (n != PyData.eqv x.py y.py)) H
theorem QLO(hu:C.X.A.units+64<cLine):OpR C.X (compareOp .Eq) (rEqD C false):=by
 intro pins s σ H vx vy u w Q I rx ry h
 obtain⟨x,y,h1,h2,h3,h4,q⟩:=h
 obtain⟨as,ra⟩:=Qlx I x vx u h1 rx (SeqAt.canLay_of_shaped h3)
 obtain⟨bs,rb⟩:=Qlx I y vy w h2 ry (SeqAt.canLay_of_shaped h4)
 exact eq_dataH ra rb h3 h4 hu ⟨.bl _,H,I,rfl,by simpa using q⟩
theorem QOt(hu:C.X.A.units+64<cLine):OpR C.X (compareOp .NotEq) (rEqD C true):=by
 intro pins s σ H vx vy u w Q I rx ry h
 obtain⟨x,y,h1,h2,h3,h4,q⟩:=h
 obtain⟨as,ra⟩:=Qlx I x vx u h1 rx (SeqAt.canLay_of_shaped h3)
 obtain⟨bs,rb⟩:=Qlx I y vy w h2 ry (SeqAt.canLay_of_shaped h4)
 exact ne_dataH ra rb h3 h4 hu ⟨.bl _,H,I,rfl,by simpa using q⟩
theorem QLm:DRS C (rEqD C false) dEq:=by
 intro G H σ ς Q x y vx vy S hx hy q
 rcases QQ q with⟨hc,q⟩ | ⟨_,q⟩
 ·rw[Bool.and_eq_true]at hc
  exact⟨x,y,hx,hy,hc.1,hc.2,by simpa [toV] using q.2⟩
 ·exact q.elim
theorem QO7:DRS C (rEqD C true) dNe:=by
 intro G H σ ς Q x y vx vy S hx hy q
 rcases QQ q with⟨hc,q⟩ | ⟨_,q⟩
 ·rw[Bool.and_eq_true]at hc
  exact⟨x,y,hx,hy,hc.1,hc.2,by simpa [toV] using q.2⟩
 ·exact q.elim
theorem QHz:scal2 dEq:=fun x y=>Qlu rfl
theorem QNm:scal2 dNe:=fun x y=>Qlu rfl
theorem dt_lt(ha:DB C a A)(hb:DB C b B):DT C (.Compare a [.Lt] [b] pos) (tVal (e2 dLt A B)):=QoB op_lt QcJ (Qb2 fun _ _=>rfl) ha hb (QlC _)
theorem dt_le(ha:DB C a A)(hb:DB C b B):DT C (.Compare a [.LtE] [b] pos) (tVal (e2 dLe A B)):=QoB op_le QcJ (Qb2 fun _ _=>rfl) ha hb (QlC _)
theorem dt_gt(ha:DB C a A)(hb:DB C b B):DT C (.Compare a [.Gt] [b] pos) (tVal (e2 dGt A B)):=QoB op_gt QcJ (Qb2 fun _ _=>rfl) ha hb (QlC _)
theorem dt_ge(ha:DB C a A)(hb:DB C b B):DT C (.Compare a [.GtE] [b] pos) (tVal (e2 dGe A B)):=QoB op_ge QcJ (Qb2 fun _ _=>rfl) ha hb (QlC _)
theorem de_eq(hu:C.X.A.units+64<cLine)(ha:DB C a A)(hb:DB C b B):DE C (.Compare a [.Eq] [b] pos) (e2 dEq A B):=QB4 (QLO hu) QLm QHz ha hb (QlC _)
theorem dt_eq(hu:C.X.A.units+64<cLine)(ha:DB C a A)(hb:DB C b B):DT C (.Compare a [.Eq] [b] pos) (tVal (e2 dEq A B)):=QoB (QLO hu) QLm QHz ha hb (QlC _)
theorem dt_ne(hu:C.X.A.units+64<cLine)(ha:DB C a A)(hb:DB C b B):DT C (.Compare a [.NotEq] [b] pos) (tVal (e2 dNe A B)):=QoB (QOt hu) QO7 QNm ha hb (QlC _)
end
end DL
namespace DL
open PySem PySem.Spec PyProof.Rows L2
section
variable{C:Dc}{a b:Expr}{A B:SD->Out D}{pos:Pos}
end
def Qct:D->String
 | .non=>"NoneType"
 | .bl _=>"bool"
 | .int _=>"int"
 | .str _=>"str"
 | .lst _=>"list"
 | .tup _=>"tuple"
 | .dic _=>"dict"
 | .ins _ _=>"object"
 | .err _=>"object"
structure ClsD(K:PySem.W.Frag)(A:Addr):Prop where
 cl:Cls K A
 ha:PySem.W.findIn K (.ref A) "__class__"=some (some (.builtin "object.__class__"))
 hn:PySem.W.specialIn K (.builtin "object.__class__") "__get__"=some (some (.builtin "getset_descriptor.__get__"))
 htk:PySem.W.takesIn K (.builtin "object.__class__")=some true
 hm:PySem.W.mroIn K A (.type "object")=some true
def KitD(K:PySem.W.Frag)(CT:CTab)(d:D)(uc:Value)(b:Bool):Prop:=match d with
 | .ins c _=>∀ A,CT c=some A->ClsD K A/\PySem.W.kitOne K (.ref A) uc=some b
 | .err c=>∀ A,CT c=some A->ExCls K A/\PySem.W.kitOne K (.ref A) uc=some b
 | d=>PySem.W.kitOne K (.type (Qct d)) uc=some b
section
variable{C:Dc}{e cx:Expr}{E:SD->Out D}{p pos:Pos}{vc:V}{uc:Value}
theorem QNf{pins:List (Addr×Obj)}{σ:L2.St}{H:Hp}{s:Shared}{A:Around}{Ex:Value->Shared->Prop}{Q:Value->Shared->Prop}{d:D}{v:V}{u:Value}{b:Bool}(I:Inv C.X pins σ H s)(h:Rep C.X.K C.CT H d v)(r:RelV v u)(k:KitD C.X.K C.CT d uc b)
 (q:∀ tk,Q (.bool b) { s with toks:=tk }):wpAny (model C.X.prog C.X.w) A (call (.builtin "isinstance") [u,uc]) Q Ex s:=by
 cases d with
 | non=>cases h;cases r;exact PySem.W.kia_one PySem.W.kitx_none I.kIn True.intro k (fun z=>nomatch z) q
 | bl y=>cases h;cases r;exact PySem.W.kia_one PySem.W.kitx_bool I.kIn True.intro k (fun z=>nomatch z) q
 | int i=>cases h;obtain⟨t,rfl⟩:=r;exact PySem.W.kia_one PySem.W.kitx_int I.kIn True.intro k (fun z=>nomatch z) q
 | str i=>cases h;obtain⟨t,rfl⟩:=r;exact PySem.W.kia_one PySem.W.kitx_str I.kIn True.intro k (fun z=>nomatch z) q
 | lst ds=>
  obtain⟨a,vs,rfl,h2,_⟩:=h;cases r
  obtain⟨its,_,⟨o,n,ho,hc,_⟩,_⟩:=I.list h2
  exact PySem.W.kia_one PySem.W.kitx_list I.kIn ⟨o,ho,hc⟩ k (fun z=>nomatch z) q
 | tup ds=>
  obtain⟨a,vs,rfl,h2,_⟩:=h;cases r
  obtain⟨its,_,⟨o,ho,hc,_⟩,_⟩:=I.tuple h2
  exact PySem.W.kia_one PySem.W.kitx_tuple I.kIn ⟨o,ho,hc⟩ k (fun z=>nomatch z) q
 | dic ds=>
  obtain⟨a,kvs,rfl,h2,_⟩:=h;cases r
  obtain⟨_,_,vs,_,p⟩:=h2.ok I.hok
  obtain⟨o,es,ep,h1,h2,_⟩:=p
  exact PySem.W.kia_one PySem.W.kitx_dict I.kIn ⟨o,h1,h2.1⟩ k (fun z=>nomatch z) q
 | ins c fs=>
  obtain⟨a,A',dx,fs',rfl,h1,h2,_⟩:=h;cases r
  obtain⟨cd,kk⟩:=k A' h1
  obtain⟨mA,O,_⟩:=QoK I.hok h2
  obtain⟨od,J,_⟩:=O.look
  exact PySem.W.kia_one (PySem.W.kitx_own (cd.cl.get _) cd.cl.hd cd.ha cd.hn cd.htk cd.hm) I.kIn J kk (fun z=>nomatch z) q
 | err c=>
  obtain⟨a,A',rfl,h1,h2⟩:=h;cases r
  obtain⟨cd,kk⟩:=k A' h1
  obtain⟨J,_⟩:=(show ObjOk C.X.prog C.X.w H s.heap a (exO a A') from I.hok a _ h2)
  exact PySem.W.kia_one (QL3 cd) I.kIn J kk (fun z=>nomatch z) q
def clsV:V->Option Value
 | .ty n=>some (.type n)
 | .ref a=>some (.ref a)
 | _=>none
def eIsa(f:D->Out Bool)(a:SD->Out D):SD->Out D:=fun ς=>a ς>>=fun d=>f d>>=fun b=>.ok (.bl b)
theorem QO1{f:D->Out Bool}(hc:PE C.X cx (tC vc))(rc:clsV vc=some uc)(hf:∀ d,match f d with | .ok b=>KitD C.X.K C.CT d uc b | .exc _=>False | .stuck=>True)(hg:Gl C.X "isinstance")(hm:C.X.mg "isinstance"=none)(h:DB C e E)
 (he:starEach (e::[cx]) C.X.env=(false,eval e C.X.env)::starEach [cx] C.X.env:=by rfl) (he2:starEach (cx::[]) C.X.env=(false,eval cx C.X.env)::starEach [] C.X.env:=by rfl)
 (hpl:(backTo pos (starEach [cx] C.X.env)).any (·.1)=false:=by rfl):DE C (.Call (.Name "isinstance" p) [e,cx] [] pos) (eIsa f E):=by
 obtain⟨t,p1,q1⟩:=h
 have hR:CallR C.X (.builtin "isinstance") (fun xs H Q=>∃ d x b,xs=[x,vc]/\Rep C.X.K C.CT H d x/\KitD C.X.K C.CT d uc b/\Q (.bl b) H):=by
  intro pins s σ H xs us Q I r h
  obtain⟨d,x,b,rfl,h1,h2,q⟩:=h
  obtain⟨u,w,rfl,r1,r2⟩:=vals2 r
  have:w=uc:=by
   cases vc<;>first
    | (cases rc;cases r2;rfl)
    | cases rc
  subst this
  exact QNf I h1 r1 h2 fun tk=>⟨.bl b,H,I.tok _,rfl,q⟩
 refine⟨_,QuJ hR hg hm PyProof.Rows.Boot.«isinstance» (Qbh p1 (Qbh hc Qc6 he2) he) (by decide) (by decide) he hpl,fun G H σ ς Q S q=>?_⟩
 unfold eIsa at q
 rw[Out.post_bind]at q
 refine q1 G H σ ς _ S (Out.post_mono q fun d k v1 H1 G1 S1 a1 b1 r1=>?_)
 rw[Out.post_bind]at k
 have hd:=hf d
 cases e:f d with
 | exc _=>rw[e]at hd;exact hd.elim
 | stuck=>rw[e]at k;exact k.elim
 | ok b=>
  rw[e]at k hd
  exact⟨d,v1,b,rfl,r1,hd,KD.now (KD.later (show KD C G H σ ς Q (.bl b) from k) a1 b1) S1 rfl⟩
end
end DL
namespace DL
open PySem PySem.Spec PyProof.Rows L2
section
variable{C:Dc}{G H:Hp}{σ:St}{ς:SD}
theorem Qs{α:Type}{xs:List α}{i j:Nat}{x y:α}(h:(xs.set i x)[j]?=some y):(i=j/\y=x/\i<xs.length)∨(i≠j/\xs[j]?=some y):=by
 rw[List.getElem?_set]at h
 by_cases e:i=j
 ·rw[if_pos e]at h
  by_cases l:i<xs.length
  ·rw[if_pos l]at h;exact .inl ⟨e,(Option.some.inj h).symm,l⟩
  ·rw[if_neg l]at h;cases h
 ·rw[if_neg e]at h;exact .inr ⟨e,h⟩
theorem QgS{α:Type}{xs:List α}{i:Nat}{x:α}(h:i<xs.length):(xs.set i x)[i]?=some x:=by
 rw[List.getElem?_set,if_pos rfl,if_pos h]
theorem Qm{α:Type}{xs:List α}{i j:Nat}{x:α}(h:i≠j):(xs.set i x)[j]?=xs[j]?:=by
 rw[List.getElem?_set,if_neg h]
theorem StR.set(S:StR C G H σ ς){d:D}{v:V}(i:Nat)(r:Rep C.X.K C.CT G d v):StR C G H (σ.set i (some v)) (ς.set i (some (.k,d))) where
 toGH:=S.toGH
 len:=by rw[List.length_set,List.length_set];exact S.len
 fz:=fun j e h=>by
  rcases Qs h with⟨rfl,h2,l⟩ | ⟨ne,h2⟩
  ·cases h2
   exact⟨v,QgS (by rw[S.len];exact l),r⟩
  ·rw[Qm ne];exact S.fz j e h2
 ow:=fun j e h=>by
  rcases Qs h with⟨rfl,h2,l⟩ | ⟨ne,h2⟩
  ·cases h2
  ·rw[Qm ne];exact S.ow j e h2
 ln:=fun j e h=>by
  rcases Qs h with⟨rfl,h2,l⟩ | ⟨ne,h2⟩
  ·cases h2
  ·rw[Qm ne];exact S.ln j e h2
 inj:=fun j k d1 d2 p hjk h1 h2 h3=>by
  rcases Qs h1 with⟨rfl,q1,l⟩ | ⟨n1,q1⟩
  ·cases q1
  ·rcases Qs h2 with⟨rfl,q2,l⟩ | ⟨n2,q2⟩
   ·cases q2
   ·rw[Qm n1]at h3
    rw[Qm n2];exact S.inj j k d1 d2 p hjk q1 q2 h3
 sf:=fun j e h=>by
  rcases Qs h with⟨rfl,h2,l⟩ | ⟨ne,h2⟩
  ·cases h2
  ·rw[Qm ne];exact S.sf j e h2
 su:=fun j k d1 d2 p hjk h1 h2 h3=>by
  rcases Qs h1 with⟨rfl,q1,l⟩ | ⟨n1,q1⟩
  ·cases q1
  ·rcases Qs h2 with⟨rfl,q2,l⟩ | ⟨n2,q2⟩
   ·cases q2
   ·rw[Qm n1]at h3
    rw[Qm n2];exact S.su j k d1 d2 p hjk q1 q2 h3
theorem StR.setO(S:StR C G H σ ς){d:D}{p:Addr}(i:Nat)(hg:G p=none)(h0:C.X.H₀ p=none)(ow:Own C.X.K C.CT G H p d)(hn:∀(j:Nat) e,j≠i->ς[j]?=some (some (.o,e))->σ[j]?≠some (some (.ref p))):
 StR C G H (σ.set i (some (.ref p))) (ς.set i (some (.o,d))) where
 toGH:=S.toGH
 len:=by rw[List.length_set,List.length_set];exact S.len
 fz:=fun j e h=>by
  rcases Qs h with⟨rfl,h2,l⟩ | ⟨ne,h2⟩
  ·cases h2
  ·rw[Qm ne];exact S.fz j e h2
 ow:=fun j e h=>by
  rcases Qs h with⟨rfl,h2,l⟩ | ⟨ne,h2⟩
  ·cases h2
   exact⟨p,QgS (by rw[S.len];exact l),hg,h0,ow⟩
  ·rw[Qm ne];exact S.ow j e h2
 ln:=fun j e h=>by
  rcases Qs h with⟨rfl,h2,l⟩ | ⟨ne,h2⟩
  ·cases h2
  ·rw[Qm ne];exact S.ln j e h2
 inj:=fun j k d1 d2 q hjk h1 h2 h3=>by
  rcases Qs h1 with⟨rfl,q1,l1⟩ | ⟨n1,q1⟩
  ·rcases Qs h2 with⟨rfl,q2,l⟩ | ⟨n2,q2⟩
   ·exact absurd rfl hjk
   ·rw[QgS (by rw[S.len];exact l1)]at h3
    cases h3
    rw[Qm n2];exact hn k d2 (Ne.symm n2) q2
  ·rcases Qs h2 with⟨rfl,q2,l⟩ | ⟨n2,q2⟩
   ·rw[Qm n1]at h3
    rw[QgS (by rw[S.len];exact l)]
    intro z;cases z
    exact hn j d1 (Ne.symm n1) q1 h3
   ·rw[Qm n1]at h3
    rw[Qm n2];exact S.inj j k d1 d2 q hjk q1 q2 h3
 sf:=fun j e h=>by
  rcases Qs h with⟨rfl,h2,l⟩ | ⟨ne,h2⟩
  ·cases h2
  ·rw[Qm ne];exact S.sf j e h2
 su:=fun j k d1 d2 p hjk h1 h2 h3=>by
  rcases Qs h1 with⟨rfl,q1,l⟩ | ⟨n1,q1⟩
  ·cases q1
  ·rcases Qs h2 with⟨rfl,q2,l⟩ | ⟨n2,q2⟩
   ·cases q2
   ·rw[Qm n1]at h3
    rw[Qm n2];exact S.su j k d1 d2 p hjk q1 q2 h3
end
def sNil:SD->Out Fl:=fun ς=>.ok (.nx ς)
def thenF(U:SD->Out Fl):Fl->Out Fl
 | .nx ς=>U ς
 | .rt b d=>.ok (.rt b d)
 | .bk ς=>.ok (.bk ς)
 | .ct ς=>.ok (.ct ς)
def sSeq(T U:SD->Out Fl):SD->Out Fl:=fun ς=>T ς>>=thenF U
section
variable{C:Dc}{e:Expr}{E:SD->Out D}{st:Stmt}{rest:List Stmt}{T U:SD->Out Fl}{pos:Pos}
theorem FlK.later{G G1:Hp}{W:Ends}{f:Fl}(h:FlK C G W f)(s:Same G G1):FlK C G1 W f:=by
 cases f with
 | nx ς=>exact fun σ' H' G' S q=>h σ' H' G' S (s.trans q)
 | bk ς=>exact fun σ' H' G' S q=>h σ' H' G' S (s.trans q)
 | ct ς=>exact fun σ' H' G' S q=>h σ' H' G' S (s.trans q)
 | rt b d=>exact fun σ' H' G' S q=>h σ' H' G' S (s.trans q)
theorem QP:DSs C [] sNil:=⟨_,QHu,fun G H σ ς W S q=>q σ H G S (Same.refl G)⟩
theorem Qg(h1:DS C st T)(h2:DSs C rest U):DSs C (st::rest) (sSeq T U):=by
 obtain⟨t1,p1,q1⟩:=h1
 obtain⟨t2,p2,q2⟩:=h2
 refine⟨_,Qly p1 p2,fun G H σ ς W S q=>?_⟩
 unfold sSeq at q
 rw[Out.post_bind]at q
 refine q1 G H σ ς _ S (Out.post_mono q fun f k=>?_)
 cases f with
 | nx ς'=>exact fun σ' H' G' S' s'=>q2 G' H' σ' ς' W S' (Out.post_mono (show(U ς').post _ _ from k) fun f k=>FlK.later k s')
 | bk ς'=>exact k
 | ct ς'=>exact k
 | rt b d=>exact k
theorem Qh(h1:DS C st T):DSs C [st] T:=let ⟨t,p,q⟩:=h1;⟨t,Qxv p,q⟩
def sSet(i:Nat)(E:SD->Out D):SD->Out Fl:=fun ς=>E ς>>=fun d=>.ok (.nx (ς.set i (some (.k,d))))
def sSetO(i:Nat)(E:SD->Out D):SD->Out Fl:=fun ς=>E ς>>=fun d=>.ok (.nx (ς.set i (some (.o,d))))
theorem QW{i:Nat}{x:Str}{pos':Pos}(hN:C.X.N.Nodup)(hi:C.X.N[i]?=some x)(hx:Loc C.X.env.scope x)(he:DE C e E)(hs:swapsWith e (some (.Name x pos')) pos.line C.X.env=pure false:=by rfl)
 (hf:C.X.fn x=true∨C.X.env.scope.names.lookup x=some .local:=by first | exact .inl rfl | exact .inr rfl | assumption):DS C (.Assign [.Name x pos'] e pos) (sSet i E):=by
 obtain⟨t,p,q⟩:=he
 refine⟨_,QB3 hN hi hx p hs hf,fun G H σ ς W S k=>?_⟩
 unfold sSet at k
 rw[Out.post_bind]at k
 exact q G H σ ς _ S (Out.post_mono k fun d k v H1 G1 S1 a1 b1 r1=>k _ H1 G1 (S1.set i r1) b1)
theorem Qb5{i:Nat}{x:Str}{pos':Pos}(hN:C.X.N.Nodup)(hi:C.X.N[i]?=some x)(hx:Loc C.X.env.scope x)(he:DF C e E)(hs:swapsWith e (some (.Name x pos')) pos.line C.X.env=pure false:=by rfl)
 (hf:C.X.fn x=true∨C.X.env.scope.names.lookup x=some .local:=by first | exact .inl rfl | exact .inr rfl | assumption):DS C (.Assign [.Name x pos'] e pos) (sSetO i E):=by
 obtain⟨t,p,q⟩:=he
 refine⟨_,QB3 hN hi hx p hs hf,fun G H σ ς W S k=>?_⟩
 unfold sSetO at k
 rw[Out.post_bind]at k
 exact q G H σ ς _ S (Out.post_mono k fun d k p H1 G1 S1 a1 b1 hp hg ow=>k _ H1 G1 (S1.setO i hg (S.h0none hp) ow fun j e _ z=>S.new_ne hp j e z) b1)
def sPar(i j:Nat)(A:SD->Out (List D)):SD->Out Fl:=fun ς=>A ς>>=fun ds=>match ds with
 | [x,y]=>.ok (.nx ((ς.set i (some (.k,x))).set j (some (.k,y))))
 | _=>.stuck
def QaI:List Nat->List D->SD->Out SD
 | [],[],ς=>.ok ς
 | i::is,d::ds,ς=>QaI is ds (ς.set i (some (.k,d)))
 | _,_,_=>.stuck
def DGs(C:Dc)(es:List Expr)(is:List Nat):Prop:=∃ t,PGs C.X es t/\∀ G H σ ς ds vs ς' (Q:St->Hp->Prop),StR C G H σ ς->RepL C.X.K C.CT G ds vs->QaI is ds ς=.ok ς'->
 (∀ σ',StR C G H σ' ς'->Q σ' H)->t vs σ H Q
theorem QgL:DGs C [] []:=by
 refine⟨_,QNd,fun G H σ ς ds vs ς' Q S r h q=>?_⟩
 cases ds with
 | nil=>
  cases h
  exact⟨r,q σ S⟩
 | cons d ds=>cases h
theorem QaA{i:Nat}{is:List Nat}{x:Str}{es:List Expr}(hN:C.X.N.Nodup)(hi:C.X.N[i]?=some x)(hx:Loc C.X.env.scope x)(h2:DGs C es is)
 (hf:C.X.fn x=true∨C.X.env.scope.names.lookup x=some .local:=by first | exact .inl rfl | exact .inr rfl | assumption)
 (hs:(assignEach (.Name x pos::es) C.X.env).map (·.2)=assign (.Name x pos) C.X.env::(assignEach es C.X.env).map (·.2):=by rfl):DGs C (.Name x pos::es) (i::is):=by
 obtain⟨t,p,q⟩:=h2
 refine⟨_,QMq (Qx4 hN hi hx hf) p hs,fun G H σ ς ds vs ς' Q S r h k=>?_⟩
 cases ds with
 | nil=>cases h
 | cons d ds=>
  obtain⟨v,w,rfl,r1,r2⟩:=r
  exact⟨v,w,rfl,q G H _ _ ds w ς' Q (S.set i r1) r2 h k⟩
def sUnp(is:List Nat)(E:SD->Out D):SD->Out Fl:=fun ς=>E ς>>=fun d=>match d with
 | .tup ds=>QaI is ds ς>>=fun ς'=>.ok (.nx ς')
 | _=>.stuck
theorem QpP:∀{is:List Nat}{ds:List D}{ς ς':SD},QaI is ds ς=.ok ς'->ds.length=is.length
 | [],[],_,_,_=>rfl
 | i::is,d::ds,ς,ς',h=>by
  have:=QpP (is:=is) (ds:=ds) h
  simp[this]
 | [],_::_,_,_,h=>by cases h
 | _::_,[],_,_,h=>by cases h
theorem QEc{es:List Expr}{is:List Nat}{k:Nat}{pt:Pos}(hc:C.X.calm=true)(he:DE C e E)(hg:DGs C es is)(hn:(assignEach es C.X.env).length=is.length:=by rfl)(hst:(assignEach es C.X.env).findIdx? (·.1)=none:=by rfl)
 (hs:swapsWithSole [.Tuple es k pt] e pos.line C.X.env=pure false:=by rfl) (hw:swappedStores [.Tuple es k pt] e C.X.env=pure none:=by rfl)
 (h1:(assignEach [.Tuple es k pt] C.X.env).map (·.2)=[assign (.Tuple es k pt) C.X.env]:=by rfl):DS C (.Assign [.Tuple es k pt] e pos) (sUnp is E):=by
 obtain⟨t,p,q⟩:=he
 obtain⟨t2,p2,q2⟩:=hg
 refine⟨_,QBi p (QKV hc p2 hn hst) hs hw h1,fun G H σ ς W S k=>?_⟩
 unfold sUnp at k
 rw[Out.post_bind]at k
 refine q G H σ ς _ S (Out.post_mono k fun d k v H1 G1 S1 a1 b1 r1=>?_)
 cases d with
 | tup ds=>
  obtain⟨a,vs,rfl,h2,h3⟩:=r1
  have k':(QaI is ds ς>>=fun ς'=>Out.ok (Fl.nx ς')).post (FlK C G W) C.XD:=k
  rw[Out.post_bind]at k'
  cases z:QaI is ds ς with
  | exc _=>exact absurd z (by
   have:∀(is:List Nat) (ds:List D) (ς:SD) x,QaI is ds ς≠.exc x:=by
    intro is
    induction is with
    | nil=>intro ds ς x h;cases ds<;>cases h
    | cons i is ih=>intro ds ς x h;cases ds with
     | nil=>cases h
     | cons d ds=>exact ih ds _ x h
   exact this is ds ς _)
  | stuck=>rw[z]at k';exact k'.elim
  | ok ς'=>
   rw[z]at k'
   refine⟨a,vs,rfl,Same.sqT S1.sub h2,by rw[← h3.length];exact QpP z,?_⟩
   exact q2 G1 H1 σ ς ds vs ς' _ S1 h3 z fun σ' S'=>k' σ' H1 G1 S' b1
 | _=>exact k.elim
def sRet(E:SD->Out D):SD->Out Fl:=fun ς=>E ς>>=fun d=>.ok (.rt false d)
def sRetF(E:SD->Out D):SD->Out Fl:=fun ς=>E ς>>=fun d=>.ok (.rt true d)
theorem QD(he:DE C e E):DS C (.Return (some e) pos) (sRet E):=by
 obtain⟨t,p,q⟩:=he
 refine⟨_,Qwl p,fun G H σ ς W S k=>?_⟩
 unfold sRet at k
 rw[Out.post_bind]at k
 exact q G H σ ς _ S (Out.post_mono k fun d k v H1 G1 S1 a1 b1 r1=>k v H1 G1 S1.toGH b1 r1)
theorem QcK(he:DF C e E):DS C (.Return (some e) pos) (sRetF E):=by
 obtain⟨t,p,q⟩:=he
 refine⟨_,Qwl p,fun G H σ ς W S k=>?_⟩
 unfold sRetF at k
 rw[Out.post_bind]at k
 exact q G H σ ς _ S (Out.post_mono k fun d k p H1 G1 S1 a1 b1 hp hg ow=>k _ H1 G1 S1.toGH b1 ⟨p,rfl,S.h0none hp,hg,ow⟩)
def sRetO(i:Nat):SD->Out Fl:=fun ς=>match ς[i]? with | some (some (.o,d))=>.ok (.rt true d) | _=>.stuck
theorem Qow(i:Nat){x:Str}{px:Pos}(hN:C.X.N[i]?=some x:=by rfl)(hv:Vis C.X.env.scope x:=by first | exact Or.inl rfl | exact Or.inr (Or.inl rfl) | exact Or.inr (Or.inr rfl))
 (hd:(x == ("__debug__":Str))=false:=by decide) (hcd:(x == ("__classdict__":Str))=false:=by decide):DS C (.Return (some (.Name x px)) pos) (sRetO i):=by
 refine⟨_,Qwl (Qda (i:=i) hN hv hd hcd),fun G H σ ς W S k=>?_⟩
 unfold sRetO at k
 split at k
 ·rename_i d z
  obtain⟨p,a,b,c,w⟩:=S.ow i d z
  exact⟨_,a,k _ H G S.toGH (Same.refl G) ⟨p,rfl,c,b,w⟩⟩
 ·exact k.elim
def sIf(c:SD->Out Bool)(T U:SD->Out Fl):SD->Out Fl:=fun ς=>c ς>>=fun b=>if b=true then T ς else U ς
theorem ds_if{c:Expr}{a b:List Stmt}{TC:SD->Out Bool}(hc:DT C c TC)(ha:DSs C a T)(hb:DSs C b U):DS C (.If c a b pos) (sIf TC T U):=by
 obtain⟨t0,p0,q0⟩:=hc
 obtain⟨t1,p1,q1⟩:=ha
 obtain⟨t2,p2,q2⟩:=hb
 refine⟨_,ps_if p0 p1 p2,fun G H σ ς W S k=>?_⟩
 unfold sIf at k
 rw[Out.post_bind]at k
 refine q0 G H σ ς _ S (Out.post_mono k fun b k H1 G1 S1 a1 b1=>?_)
 cases b with
 | true=>exact iteT (q1 G1 H1 σ ς W S1 (Out.post_mono (show(T ς).post _ _ from k) fun f k=>FlK.later k b1))
 | false=>exact iteF (q2 G1 H1 σ ς W S1 (Out.post_mono (show(U ς).post _ _ from k) fun f k=>FlK.later k b1))
def Qf7:SD->Out Fl:=fun _=>.stuck
theorem Qeh:DS C st Qf7:=⟨_,QMA,fun G H σ ς W S k=>k.elim⟩
end
def loopD(body:D->SD->Out Fl):List D->SD->Out Fl
 | [],ς=>.ok (.nx ς)
 | x::xs,ς=>body x ς>>=fun f=>match f with
  | .nx ς'=>loopD body xs ς'
  | .ct ς'=>loopD body xs ς'
  | .bk ς'=>.ok (.nx ς')
  | .rt b d=>.ok (.rt b d)
def DG(C:Dc)(tg:Expr)(g:D->SD->Out SD):Prop:=∃ t,PG C.X tg t/\∀ G H σ ς d v ς' (Q:St->Hp->Prop),StR C G H σ ς->Rep C.X.K C.CT G d v->g d ς=.ok ς'->(∀ σ',StR C G H σ' ς'->Q σ' H)->t v σ H Q
def gN(i:Nat):D->SD->Out SD:=fun d ς=>.ok (ς.set i (some (.k,d)))
def gT(is:List Nat):D->SD->Out SD:=fun d ς=>match d with | .tup ds=>QaI is ds ς | _=>.stuck
def noExc{α β γ : Type}(g:α->β->Out γ):Prop:=∀ a b x,g a b≠.exc x
theorem Qx(i:Nat):noExc (gN i):=fun _ _ _ h=>by cases h
theorem QDX(is:List Nat):∀(ds:List D) (ς:SD) x,QaI is ds ς≠.exc x:=by
 induction is with
 | nil=>intro ds ς x h;cases ds<;>cases h
 | cons i is ih=>intro ds ς x h;cases ds with
  | nil=>cases h
  | cons d ds=>exact ih ds _ x h
theorem QkX(is:List Nat):noExc (gT is):=fun d ς x h=>by
 cases d with
 | tup ds=>exact QDX is ds ς x h
 | _=>cases h
section
variable{C:Dc}{e tg iter:Expr}{E:SD->Out D}{body:List Stmt}{T U:SD->Out Fl}{pos:Pos}{g:D->SD->Out SD}
theorem QC{i:Nat}{x:Str}(hN:C.X.N.Nodup)(hi:C.X.N[i]?=some x)(hx:Loc C.X.env.scope x)
 (hf:C.X.fn x=true∨C.X.env.scope.names.lookup x=some .local:=by first | exact .inl rfl | exact .inr rfl | assumption):DG C (.Name x pos) (gN i):=
 ⟨_,Qx4 hN hi hx hf,fun G H σ ς d v ς' Q S r h k=>by cases h;exact k _ (S.set i r)⟩
theorem Qs4{es:List Expr}{is:List Nat}{k:Nat}(hc:C.X.calm=true)(hg:DGs C es is)(hn:(assignEach es C.X.env).length=is.length:=by rfl)(hst:(assignEach es C.X.env).findIdx? (·.1)=none:=by rfl):
 DG C (.Tuple es k pos) (gT is):=by
 obtain⟨t2,p2,q2⟩:=hg
 refine⟨_,QKV hc p2 hn hst,fun G H σ ς d v ς' Q S r h k=>?_⟩
 cases d with
 | tup ds=>
  obtain⟨a,vs,rfl,h2,h3⟩:=r
  exact⟨a,vs,rfl,Same.sqT S.sub h2,by rw[← h3.length];exact QpP h,q2 G H σ ς ds vs ς' Q S h3 h k⟩
 | _=>cases h
def sFor(g:D->SD->Out SD)(its:SD->Out (List D))(T:SD->Out Fl):SD->Out Fl:=fun ς=>its ς>>=fun xs=>loopD (fun x ς=>g x ς>>=fun ς'=>T ς') xs ς
def itL(E:SD->Out D):SD->Out (List D):=fun ς=>E ς>>=fun d=>match d with | .lst xs=>.ok xs | _=>.stuck
theorem turnD{W:Ends}{x:D}{v:V}{xs:List D}{G H:Hp}{σ:St}{ς:SD}{tb:TS}{tt:TG}{N:L2.St->Hp->Prop}(hne:noExc g)
 (hg:∀ G H σ ς d v ς' (Q:St->Hp->Prop),StR C G H σ ς->Rep C.X.K C.CT G d v->g d ς=.ok ς'->(∀ σ',StR C G H σ' ς'->Q σ' H)->tt v σ H Q)
 (hb:∀ G H σ ς W,StR C G H σ ς->(T ς).post (FlK C G W) C.XD->tb W σ H)
 (S:StR C G H σ ς) (r:Rep C.X.K C.CT G x v) (q:(loopD (fun x ς=>g x ς>>=fun ς'=>T ς') (x::xs) ς).post (FlK C G W) C.XD)
 (hN:∀ σ' H' G' ς',StR C G' H' σ' ς'->Same G G'->(loopD (fun x ς=>g x ς>>=fun ς'=>T ς') xs ς').post (FlK C G' W) C.XD->N σ' H'):
 tt v σ H fun σ2 H2=>tb { W with nx:=N,ct:=N,bk:=W.nx } σ2 H2:=by
 have q':((g x ς>>=fun ς'=>T ς')>>=fun f=>match f with
  | .nx ς'=>loopD (fun x ς=>g x ς>>=fun ς'=>T ς') xs ς'
  | .ct ς'=>loopD (fun x ς=>g x ς>>=fun ς'=>T ς') xs ς'
  | .bk ς'=>.ok (.nx ς')
  | .rt b d=>.ok (.rt b d)).post (FlK C G W) C.XD:=q
 rw[Out.post_bind,Out.post_bind]at q'
 cases z:g x ς with
 | exc y=>exact absurd z (hne _ _ _)
 | stuck=>rw[z]at q';exact q'.elim
 | ok ς1=>
  rw[z]at q'
  refine hg G H σ ς x v ς1 _ S r z fun σ1 S1=>hb G H σ1 ς1 _ S1 (Out.post_mono q' fun f k=>?_)
  cases f with
  | nx ς'=>exact fun σ' H' G' S' s'=>hN σ' H' G' ς' S' s' (Out.post_mono (show(loopD _ xs ς').post _ _ from k) fun f k=>FlK.later k s')
  | ct ς'=>exact fun σ' H' G' S' s'=>hN σ' H' G' ς' S' s' (Out.post_mono (show(loopD _ xs ς').post _ _ from k) fun f k=>FlK.later k s')
  | bk ς'=>exact fun σ' H' G' S' s'=>(show FlK C G W (.nx ς') from k) σ' H' G' S' s'
  | rt b d=>exact k
theorem Qzi{α:Type}{xs:List α}{i:Nat}{x:α}(h:xs[i]?=some x):xs.drop i=x::xs.drop (i+1):=by
 obtain⟨l,e⟩:=List.getElem?_eq_some_iff.mp h
 rw[List.drop_eq_getElem_cons l,e]
def Qb1(lo:Int)(n:Nat):List D:=(List.range n).map fun(i:Nat)=>D.int (lo+i)
theorem QJM{lo:Int}{n i:Nat}(h:i<n):(Qb1 lo n)[i]?=some (D.int (lo+i)):=by
 unfold Qb1
 rw[List.getElem?_map,List.getElem?_range h];rfl
theorem Qwn{lo:Int}{n:Nat}:(Qb1 lo n).length=n:=by simp[Qb1]
def Qo8(i:Int):Bool:=decide (-(2 ^ 62)<=i)&&decide (i<2 ^ 62)
def itR1(A:SD->Out D):SD->Out (List D):=fun ς=>A ς>>=fun d=>match d with
 | .int n=>if Qo8 n=true then .ok (Qb1 0 n.toNat) else .stuck
 | _=>.stuck
theorem QJx{i:Int}(h:Qo8 i=true) : -(2 ^ 62)<=i/\i<2 ^ 62:=by
 unfold Qo8 at h
 rw[Bool.and_eq_true]at h
 exact⟨of_decide_eq_true h.1,of_decide_eq_true h.2⟩
end
end DL
namespace DL
open PySem PySem.Spec PyProof.Rows L2
def RetG(K:PySem.W.Frag)(CT:CTab)(fr:Bool)(H0 G' H':Hp)(d:D)(v:V):Prop:=
 if (fr && !d.scal)=true then ∃ p,v=.ref p/\H0 p=none/\G' p=none/\Own K CT G' H' p d else Rep K CT G' d v
def retF(fr:Bool):Fl->Out D
 | .rt b d=>if (!fr||b||d.scal)=true then .ok d else .stuck
 | .nx _=>.ok .non
 | _=>.stuck
def bodyF(fr:Bool)(n len:Nat)(T:SD->Out Fl):List D->Out D:=fun ds=>
 if ds.length=n then T (ds.map (fun d=>some (.k,d))++List.replicate (len - n) none)>>=retF fr else .stuck
def SpD(K:PySem.W.Frag)(CT:CTab)(fr:Bool)(m:List D->Out D):Sp:=fun vs H Q _=>∃ ds G0,Same G0 H/\RepL K CT G0 ds vs/\
 (m ds).post (fun d=>∀ v H' G',Same G0 G'->Same H H'->Same G' H'->(∀ b,G0 b=none->G' b≠none->H b=none)->RetG K CT fr H G' H' d v->Q v H') (fun _=>False)
structure FunV(K:PySem.W.Frag)(x qual:Str)(st:Stmt)(f:Addr)(fd:FuncData)(dV:Value):Prop where
 ex:∃(oc:Value)(od:Option Addr)(kV doc pm:Value)(an:Option Addr)(cdv ct:Value)(osl:Array (Option Value)),
  fd=PySem.W.fnOf x qual (Qr st) (Qp st) (Qa st) dV kV doc pm an cdv ct/\K.lookup f=some ⟨oc,od,.func fd,osl⟩/\PySem.W.codeIn K cdv qual=true
 kp:PySem.W.keepIn K (.ref f)=true
theorem Qu{K:PySem.W.Frag}{x qual:Str}{st:Stmt}{f:Addr}{oc:Value}{od an:Option Addr}{osl:Array (Option Value)}{dV kV doc pm cdv ct:Value}(l:K.lookup f=some ⟨oc,od,.func (PySem.W.fnOf x qual (Qr st) (Qp st) (Qa st) dV kV doc pm an cdv ct),osl⟩)
 (c:PySem.W.codeIn K cdv qual=true) (k:PySem.W.keepIn K (.ref f)=true):FunV K x qual st f (PySem.W.fnOf x qual (Qr st) (Qp st) (Qa st) dV kV doc pm an cdv ct) dV:=⟨⟨oc,od,kV,doc,pm,an,cdv,ct,osl,rfl,l,c⟩,k⟩
theorem FunV.binds{K:PySem.W.Frag}{x qual:Str}{st:Stmt}{f:Addr}{fd:FuncData}{ps:List Str}(F:FunV K x qual st f fd .none)
 (h:∀(kV doc pm:Value)(an:Option Addr)(cdv ct:Value)(us:List Value),us.length=ps.length->bindArgs (PySem.W.fnOf x qual (Qr st) (Qp st) (Qa st) .none kV doc pm an cdv ct) ⟨us,[]⟩=pure (ps.zip us)):Binds K fd ps []:=by
 obtain⟨oc,od,kV,doc,pm,an,cdv,ct,osl,rfl,lk,hcd⟩:=F.ex
 exact .all (h kV doc pm an cdv ct)
abbrev dcOf(P:Program)(w:World)(K:PySem.W.Frag)(mg:Str->Option Value)(base:Heap)(CT:CTab)(N:List Str)(qual:Str)(sc:Scope)(f:Addr)(cdv:Value)(A:Around)(outer:List Env)(s:Shared)(H:Hp)(E:XK)(G:Hp):Dc:=
 { X:=(cxOf CX0 P w K mg base N qual sc f cdv A outer s H E).nox,CT:=CT,G0:=G,XD:=fun _=>False,B:=H,M:=fun _=>False }
theorem Qd0{N:List Str}{vs:List V}{i:Nat}{v:V}(h:vs[i]?=some v):(L2.start N vs)[i]?=some (some v):=by
 unfold L2.start
 have hi:i<vs.length:=(List.getElem?_eq_some_iff.mp h).1
 rw[List.getElem?_append_left (by simpa using hi),List.getElem?_map,h];rfl
theorem Qbt{ds:List D}{k:Nat}{i:Nat}{x:SM×D}(h:(ds.map (fun d=>some (SM.k,d))++List.replicate k (none:Option (SM×D)))[i]?=some (some x)):∃ d,ds[i]?=some d/\x=(.k,d):=by
 by_cases hi:i<ds.length
 ·rw[List.getElem?_append_left (by simpa using hi),List.getElem?_map]at h
  cases e:ds[i]? with
  | none=>rw[e]at h;cases h
  | some d=>rw[e]at h;cases h;exact⟨d,rfl,rfl⟩
 ·rw[List.getElem?_append_right (by simpa using hi),List.getElem?_replicate]at h
  split at h<;>cases h
theorem GH.freezeR{C:Dc}{G' H':Hp}(S:GH C G' H'){p:Addr}{o:HO}(hp:H' p=some o)(hg:G' p=none)(h0:C.X.H₀ p=none):GH C (upd G' p o) H' where
 sub:=fun b u q=>by
  by_cases hb:b=p
  ·subst hb;rw[QG]at q;cases q;exact hp
  ·rw[Qk hb]at q;exact S.sub b u q
 g0:=S.g0.trans (Qy hg)
 new:=fun b h1 h2=>by
  by_cases hb:b=p
  ·subst hb;exact h0
  ·rw[Qk hb]at h2;exact S.new b h1 h2
 fr:=S.fr
 dom:=S.dom
 bs:=S.bs
 bh:=S.bh
theorem fnV{P:Program}{w:World}{K:PySem.W.Frag}{mg:Str->Option Value}{base:Heap}{CT:CTab}{fr:Bool}{x qual:Str}{st:Stmt}{f:Addr}{fd:FuncData}{dV:Value}{N ps:List Str}{k:Nat}{T:SD->Out Fl}
 (F:FunV K x qual st f fd dV) (S:Qq N ps (Qa st))
 (hb:∀(cdv:Value)(A:Around)(outer:List Env)(s:Shared)(H:Hp)(E:XK)(G:Hp),Room k (A.deeper (envOfC qual (Qa st) s.heap.objs.size f cdv))->DSs (dcOf P w K mg base CT N qual (Qa st) f cdv A outer s H E G) (Qp st) T):
 FnOk P w K mg base CX0 (k+1) f fd ps (SpD K CT fr (bodyF fr ps.length N.length T)):=by
 obtain⟨oc,od,kV,doc,pm,an,cdv,ct,osl,rfl,lk,hcd⟩:=F.ex
 have hpl:ps.length<=N.length:=by have:=congrArg List.length S.pre;rw[List.length_take]at this;omega
 have len:∀ vs H Q E,SpD K CT fr (bodyF fr ps.length N.length T) vs H Q E->vs.length=ps.length:=by
  intro vs H Q E ⟨ds,G0,sub,r,q⟩
  unfold bodyF at q
  by_cases hl:ds.length=ps.length
  ·rw[← r.length];exact hl
  ·rw[if_neg hl]at q;exact q.elim
 refine fn_of lk hcd S len fun A outer s H vs Q E hr hsp=>?_
 have hlen:=len vs H Q E hsp
 obtain⟨ds,G0,sub,r,q⟩:=hsp
 obtain⟨t,p1,q1⟩:=hb cdv A outer s H E G0 hr
 have hl:ds.length=ps.length:=by rw[r.length];exact hlen
 refine⟨t,p1.nox,?_⟩
 unfold bodyF at q
 rw[if_pos hl,Out.post_bind]at q
 have S0:StR (dcOf P w K mg base CT N qual (Qa st) f cdv A outer s H E G0) G0 H (L2.start N vs) (ds.map (fun d=>some (.k,d))++List.replicate (N.length - ps.length) none):={
  sub:=sub
  g0:=Same.refl _
  new:=fun b h1 h2=>absurd h1 h2
  fr:=fun b o e _=>e
  dom:=fun b e=>e
  bs:=Same.refl _
  bh:=fun b e=>e
  len:=by unfold L2.start;simp;omega
  fz:=fun i d e=>by
   obtain⟨d',e1,e2⟩:=Qbt e
   cases e2
   obtain⟨v,e3,rv⟩:=r.get e1
   exact⟨v,Qd0 e3,rv⟩
  ow:=fun i d e=>by
   obtain⟨d',e1,e2⟩:=Qbt e
   cases e2
  ln:=fun i d e=>by
   obtain⟨d',e1,e2⟩:=Qbt e
   cases e2
  inj:=fun i j d e p _ h=>by
   obtain⟨d',e1,e2⟩:=Qbt h
   cases e2
  sf:=fun i d e=>by
   obtain⟨d',e1,e2⟩:=Qbt e
   cases e2
  su:=fun i j d e p _ h=>by
   obtain⟨d',e1,e2⟩:=Qbt h
   cases e2 }
 refine q1 G0 H (L2.start N vs) _ _ S0 (Out.post_mono q fun fl kk=>?_)
 cases fl with
 | nx ς'=>exact fun σ' H' G' S' s'=>kk .non H' G' s' (fun b o e=>S'.fr b o e id) S'.sub S'.new (by unfold RetG;rw[if_neg (by cases fr<;>decide)];rfl)
 | bk ς'=>exact fun σ' H' G' S' s'=>kk.elim
 | ct ς'=>exact fun σ' H' G' S' s'=>kk.elim
 | rt b d=>
  intro v H' G' S' s' ret
  have kk':(if (!fr||b||d.scal)=true then Out.ok d else Out.stuck).post (fun d=>∀ v H' G',Same G0 G'->Same H H'->Same G' H'->(∀ b,G0 b=none->G' b≠none->H b=none)->RetG K CT fr H G' H' d v->Q v H') (fun _=>False):=kk
  rcases QQ kk' with⟨hc,k2⟩ | ⟨_,k2⟩
  ·have k3:∀ v H' G',Same G0 G'->Same H H'->Same G' H'->(∀ b,G0 b=none->G' b≠none->H b=none)->RetG K CT fr H G' H' d v->Q v H':=k2
   cases b with
   | false=>
    refine k3 v H' G' s' (fun b o e=>S'.fr b o e id) S'.sub S'.new ?_
    unfold RetG
    have hn:¬ (fr && !d.scal)=true:=by revert hc;cases fr<;>cases d.scal<;>simp
    rw[if_neg hn]
    exact ret
   | true=>
    obtain⟨p,rfl,h0,hg,ow⟩:=(show ∃ p,v=.ref p/\H p=none/\G' p=none/\Own K CT G' H' p d from ret)
    cases fr with
    | true=>
     refine k3 _ H' G' s' (fun b o e=>S'.fr b o e id) S'.sub S'.new ?_
     have hs:d.scal=false:=by cases d<;>first | rfl | exact ow.elim
     unfold RetG
     rw[if_pos (by rw[hs];rfl)]
     exact⟨p,rfl,h0,hg,ow⟩
    | false=>
     obtain⟨o,ho⟩:=ow.there
     have S2:=GH.freezeR S' ho hg h0
     refine k3 _ H' _ (s'.trans (Qy hg)) (fun b o e=>S2.fr b o e id) S2.sub S2.new ?_
     unfold RetG
     rw[if_neg (by simp)]
     exact ow.known hg ho
  ·exact k2.elim
def DefOk(P:Program)(w:World)(K:PySem.W.Frag)(mg:Str->Option Value)(base:Heap)(CT:CTab)(x:Str)(k:Nat)(fr:Bool)(dd:List D)(m:List D->Out D):Prop:=
 ∃ f fd ps ds,FnOk P w K mg base CX0 k f fd ps (SpD K CT fr m)/\mg x=some (.ref f)/\PySem.W.keepIn K (.ref f)=true/\Binds K fd ps ds/\Vals (dd.map toV) ds
theorem QuV{K:PySem.W.Frag}{CT:CTab}{H:Hp}:∀{dd:List D},dd.all D.scal=true->RepL K CT H dd (dd.map toV)
 | [],_=>rfl
 | d::ds,h=>by
  rw[List.all_cons,Bool.and_eq_true]at h
  exact⟨_,_,rfl,Qxq h.1,QuV h.2⟩
def QkJ(o:Out D):Out D:=o>>=fun d=>if d.scal=true then .stuck else .ok d
section
variable{C:Dc}{x:Str}{k:Nat}{fr:Bool}{dd:List D}{m:List D->Out D}{e:Expr}{es:List Expr}{A:SD->Out (List D)}{p pos:Pos}
theorem de_f(h:DefOk C.X.prog C.X.w C.X.K C.X.mg C.X.base C.CT x k fr dd m)(hr:Room k C.X.A)(ha:DA C (e::es) A)(hg:Gl C.X x)(hs:dd.all D.scal=true:=by rfl)(hx:∀ x,¬ C.XD x:=by exact fun _ h=>h)
 (hdb:(x == ("__debug__":Str))=false:=by decide) (he:starEach (e::es) C.X.env=(false,eval e C.X.env)::starEach es C.X.env:=by rfl) (hpl:(backTo pos (starEach es C.X.env)).any (·.1)=false:=by rfl):
 DE C (.Call (.Name x p) (e::es) [] pos) (eA (fun xs=>m (xs++dd)) A):=by
 obtain⟨f,fd,ps,ds,F,hm,hk,hb,hd⟩:=h
 obtain⟨t,p1,q1⟩:=ha
 refine⟨_,Qtp F hr hg hm hk hb hd pass0 p1 hdb he hpl,fun G H σ ς Q S q=>?_⟩
 unfold eA at q
 rw[Out.post_bind]at q
 refine q1 G H σ ς _ S (Out.post_mono q fun xs kk vs H1 G1 S1 a1 b1 r1=>⟨xs++dd,G1,S1.sub,r1.append (QuV hs),?_⟩)
 cases z:m (xs++dd) with
 | stuck=>rw[z]at kk;exact kk.elim
 | exc y=>rw[z]at kk;exact absurd kk (hx y)
 | ok d=>
  rw[z]at kk
  intro v H' G' g1 h1 s1 n1 ret
  unfold RetG at ret
  by_cases hc:(fr && !d.scal)=true
  ·rw[if_pos hc]at ret
   obtain⟨pp,rfl,h0,hg',ow⟩:=ret
   obtain⟨o,ho⟩:=ow.there
   have S2:=(S1.grow h1 g1 s1 n1).freeze ho hg' (S1.h0none h0) (fun i d' z1 z2=>by
    obtain⟨o',ho'⟩:=S1.own_ne z1 z2
    rw[h0]at ho';cases ho')
   exact(show KD C G H σ ς Q d from kk) _ _ _ S2 (a1.trans h1) ((b1.trans g1).trans (Qy hg')) (ow.known hg' ho)
  ·rw[if_neg hc]at ret
   exact(show KD C G H σ ς Q d from kk) v H' G' (S1.grow h1 g1 s1 n1) (a1.trans h1) (b1.trans g1) ret
theorem df_f(h:DefOk C.X.prog C.X.w C.X.K C.X.mg C.X.base C.CT x k true dd m)(hr:Room k C.X.A)(ha:DA C (e::es) A)(hg:Gl C.X x)(hs:dd.all D.scal=true:=by rfl)(hx:∀ x,¬ C.XD x:=by exact fun _ h=>h)
 (hdb:(x == ("__debug__":Str))=false:=by decide) (he:starEach (e::es) C.X.env=(false,eval e C.X.env)::starEach es C.X.env:=by rfl) (hpl:(backTo pos (starEach es C.X.env)).any (·.1)=false:=by rfl):
 DF C (.Call (.Name x p) (e::es) [] pos) (fun ς=>QkJ (eA (fun xs=>m (xs++dd)) A ς)):=by
 obtain⟨f,fd,ps,ds,F,hm,hk,hb,hd⟩:=h
 obtain⟨t,p1,q1⟩:=ha
 refine⟨_,Qtp F hr hg hm hk hb hd pass0 p1 hdb he hpl,fun G H σ ς Q S q=>?_⟩
 unfold QkJ eA at q
 rw[Out.post_bind,Out.post_bind]at q
 refine q1 G H σ ς _ S (Out.post_mono q fun xs kk vs H1 G1 S1 a1 b1 r1=>⟨xs++dd,G1,S1.sub,r1.append (QuV hs),?_⟩)
 cases z:m (xs++dd) with
 | stuck=>rw[z]at kk;exact kk.elim
 | exc y=>rw[z]at kk;exact absurd kk (hx y)
 | ok d=>
  rw[z]at kk
  intro v H' G' g1 h1 s1 n1 ret
  rcases QQ (show(if d.scal=true then Out.stuck else Out.ok d).post _ _ from kk) with⟨_,kk⟩ | ⟨hc,kk⟩
  ·exact kk.elim
  ·unfold RetG at ret
   rw[if_pos (by cases hh:d.scal with | true=>exact absurd hh hc | false=>rfl)]at ret
   obtain⟨pp,rfl,h0,hg',ow⟩:=ret
   exact(show KF C G H σ ς Q d from kk) pp H' G' (S1.grow h1 g1 s1 n1) (a1.trans h1) (b1.trans g1) (a1.free h0) hg' ow
end
abbrev bitsI(i:Int):Nat:=Builtin.Int.intBits i
theorem QvG:∀{xs:List PySem.W.WData}{x:PySem.W.WData},x∈xs->x.weight<=PySem.W.WData.weightAll xs
 | y::r,x,hx=>by
  rcases List.mem_cons.mp hx with rfl | hx'
  ·simp only[PySem.W.WData.weightAll];omega
  ·have:=QvG hx'
   simp only[PySem.W.WData.weightAll];omega
theorem QGB{ns:List Int}(h:PySem.W.WData.layableAll [PySem.W.WData.list (ns.map PySem.W.WData.int)]=true):∀ z∈ns,bitsI z<=1048576:=fun z hz=>by
 have h1:(PySem.W.WData.list (ns.map PySem.W.WData.int)).layable=true:=by simpa [PySem.W.WData.layableAll] using h
 have h2:(PySem.W.WData.list (ns.map PySem.W.WData.int)).weight<=2 ^ 20:=of_decide_eq_true (Bool.and_eq_true_iff.mp h1).2
 have h3:(PySem.W.WData.int z).weight<=PySem.W.WData.weightAll (ns.map PySem.W.WData.int):=QvG (List.mem_map.mpr ⟨z,hz,rfl⟩)
 have h4:(PySem.W.WData.int z).weight<=1048576:=by
  have e:(2:Nat) ^ 20=1048576:=by decide
  simp only[PySem.W.WData.weight]at h2
  omega
 simpa only[PySem.W.WData.weight,Builtin.Int.intBits] using h4
theorem walk_of{l:PySem.W.OpenLaw}{n k:Nat}{q:Program}{loose:List Str}{XP:(Str->Option Value)->Heap->Prop}{YP:World->Heap->Prop}{d:DefRec}{K:Params->PySem.W.Frag}{CX:World->CXT}{sp:World->Sp}{x:Str}
 (hn:l.most=some n) (hn2:n<=sizeLine) (hdf:d.params.defaults=[]) (hr:Room k callerA)
 (hY:∀(w:World)(h:Heap),YP w h->(K w.params).In h)
 (F:∀(w:World)(mg:Str->Option Value)(fa:Addr)(h:Heap),(K w.params).In h->h.Ns mainGlobals mg->mg d.name=some (.ref fa)->
  ∃ fd:FuncData,(∀(s:Shared)(u:Value),BindsTo s fd ⟨[u],[]⟩ [(x,u)])/\
   ∀ base:Heap,(K w.params).In base->base.Ns mainGlobals mg->FnOk l.prog w (K w.params) mg base (CX w) k fa fd [x] (sp w))
 (hsp:∀(w:World)(H:Hp)(a:Addr)(ns:List Int),ns.length<=n->(∀ z∈ns,bitsI z<=1048576)->Only H->SqL (K w.params) H a (ns.map V.int)->sp w [.ref a] H (fun v _=>v=.bl true) fun _ _ _=>False)
 (hCX:∀(w:World)(H:Hp)(s:Shared)(e:Value)(s':Shared),CX w [] H s (fun _ _ _=>False) e s'->False):
 PySem.W.WalkO q loose XP YP l.row.toRowW d [] (fun f vs=>PySem.call f vs):=by
 intro w s₀ s₁ mg mb G Y fa o pm cd doc dV kV ho hd hcd hD hmg hg args vals as hpre hlay hrd hwl hlo
 obtain rfl:dV=.none:=PySem.W.Dflts.none hD hdf
 obtain rfl:kV=.none:=PySem.W.Dflts.noKw hD
 obtain⟨a,vs,ns,rfl,rfl,hobj,hints,hlen⟩:=Att.script_of hn hpre hwl
 have KX:=hY w _ Y
 obtain⟨fd,hb,hF⟩:=F w mg fa _ KX G.T.g hmg
 refine PySem.W.enter_call (codeAny_mono (QLX KX G.T.g G.T.b G.T.builtins G.T.nolimit hg hobj hints (Nat.le_trans hlen hn2) hr hF hb (fun H hO hS=>hsp w H a ns hlen (QGB hlay) hO hS) fun H e s'=>hCX w H s₁ e s') fun r s' hq=>?_)
 obtain⟨rfl,h2,h3,h4⟩:=hq
 exact⟨.inl ⟨.bool true,.bool true,[],rfl,fun _=>rfl,.bool true,Att.post_true l _,fun _=>⟨List.Pairwise.nil,fun _ hm=>(nomatch hm)⟩⟩,h2,h3,h4⟩
end DL
namespace DL
open PySem PySem.Spec PyProof.Rows L2
def rCatS(K:PySem.W.Frag):R2:=fun x y H Q=>∃ l b xs zs,x=.ref l/\y=.ref b/\SqL K H l xs/\SqL K H b zs/\xs.length+zs.length<=sizeLine/\∀ p,H p=none->Q (.ref p) (upd H p (.lst (xs++zs)))
theorem QMT{X:Cx}:OpR X (binaryOp .Add) (rCatS X.K):=by
 intro pins s σ H x y v u Q I rx ry h
 obtain⟨l,b,xs,zs,rfl,rfl,hH,hB,hz,q⟩:=h
 cases rx
 cases ry
 obtain⟨its,r,pl,hz1⟩:=I.list hH
 obtain⟨its2,r2,pl2,hz2⟩:=I.list hB
 obtain⟨⟨cls,dd,data,sl⟩,n,ho,hc,hdd,hd⟩:=pl
 obtain⟨⟨cls2,dd2,data2,sl2⟩,n2,ho2,hc2,hdd2,hd2⟩:=pl2
 simp only at hc hd hc2 hd2
 subst hc hd hc2 hd2
 have e:its.toArray++its2.toArray=(its++its2).toArray:=by simp
 have h1:=r.length
 have h2:=r2.length
 refine concat_meets ⟨_,ho,rfl⟩ ⟨_,ho2,rfl⟩ noFill_list_add seq_list_add PySem.F.slot_list_add PySem.F.entry_list_add (PySem.F.args_list_add_2 _ _) (list_addW l b its.toArray its2.toArray n n2 dd dd2 sl sl2 (by rw[List.size_toArray,List.size_toArray];omega)) ⟨ho,ho2,?_⟩
 rw[e]
 exact⟨.ref _,_,I.lnew (t':=s.toks) (r.append r2) (by rw[List.length_append];omega),rfl,q _ I.fresh⟩
def dCat:D->D->Out D
 | .lst xs,.lst ys=>if fits (xs.length+ys.length)=true then .ok (.lst (xs++ys)) else .stuck
 | _,_=>.stuck
def dRep:D->D->Out D
 | .lst xs,.int k=>if (decide (-(2 ^ 63)<=k)&&decide (k<2 ^ 63)&&fits (xs.length * k.toNat))=true then .ok (.lst (List.replicate k.toNat xs).flatten) else .stuck
 | _,_=>.stuck
section
variable{C:Dc}{a b:Expr}{A B:SD->Out D}{pos:Pos}
theorem QOC(ha:DE C a A)(hb:DE C b B):DF C (.BinOp a .Add b pos) (e2 dCat A B):=by
 obtain⟨ta,p1,q1⟩:=ha
 obtain⟨tb,p2,q2⟩:=hb
 refine⟨_,pe_op QMT p1 p2,fun G H σ ς Q S q=>?_⟩
 unfold e2 at q
 rw[Out.post_bind]at q
 refine q1 G H σ ς _ S (Out.post_mono q fun x k v1 H1 G1 S1 a1 b1 r1=>?_)
 rw[Out.post_bind]at k
 refine q2 G1 H1 σ ς _ S1 (Out.post_mono k fun y k2 v2 H2 G2 S2 a2 b2 r2=>?_)
 have r1':=Rep.mono b2 x v1 r1
 cases x with
 | lst xs=>
  cases y with
  | lst ys=>
   obtain⟨p,vs,rfl,h2,h3⟩:=r1'
   obtain⟨p',vs',rfl,h2',h3'⟩:=r2
   rcases QQ (show(if fits (xs.length+ys.length)=true then Out.ok (D.lst (xs++ys)) else .stuck).post _ _ from k2) with⟨hc,k3⟩ | ⟨_,k3⟩
   ·exact⟨p,p',vs,vs',rfl,rfl,S2.sub.seq h2,S2.sub.seq h2',by rw[← h3.length, ← h3'.length];exact of_decide_eq_true hc,
     KF.lst (KF.later (show KF C G H σ ς Q (.lst (xs++ys)) from k3) (a1.trans a2) (b1.trans b2)) S2 (h3.append h3')⟩
   ·exact k3.elim
  | _=>exact k2.elim
 | _=>cases y<;>exact k2.elim
theorem QOx(ha:DF C a A)(hb:DB C b B):DF C (.BinOp a .Mult b pos) (e2 dRep A B):=by
 obtain⟨ta,p1,q1⟩:=ha
 obtain⟨tb,p2,q2⟩:=hb
 refine⟨_,pe_op QOK p1 p2,fun G H σ ς Q S q=>?_⟩
 unfold e2 at q
 rw[Out.post_bind]at q
 refine q1 G H σ ς _ S (Out.post_mono q fun x k p H1 G1 S1 a1 b1 hp hg ow=>?_)
 rw[Out.post_bind]at k
 refine q2 G1 H1 σ ς _ S1 (Out.post_mono k fun y k2 v2 H2 G2 S2 a2 b2 r2=>?_)
 cases x with
 | lst xs=>
  cases y with
  | int i=>
   cases r2
   obtain⟨vs,h2,h3⟩:=ow
   rcases QQ (show(if (decide (-(2 ^ 63)<=i)&&decide (i<2 ^ 63)&&fits (xs.length * i.toNat))=true then Out.ok (D.lst (List.replicate i.toNat xs).flatten) else .stuck).post _ _ from k2) with⟨hc,k3⟩ | ⟨_,k3⟩
   ·rw[Bool.and_eq_true,Bool.and_eq_true]at hc
    have h3':RepL C.X.K C.CT G2 xs vs:=RepL.mono b2 xs vs h3
    exact⟨p,i,vs,rfl,rfl,a2 _ _ h2,of_decide_eq_true hc.1.1,of_decide_eq_true hc.1.2,by rw[← h3'.length];exact of_decide_eq_true hc.2,
     KF.lst (KF.later (show KF C G H σ ς Q (.lst (List.replicate i.toNat xs).flatten) from k3) (a1.trans a2) (b1.trans b2)) S2 (h3'.rep i.toNat)⟩
   ·exact k3.elim
  | _=>exact k2.elim
 | _=>cases y<;>exact k2.elim
def dList:D->Out D
 | .lst xs=>.ok (.lst xs)
 | .tup xs=>.ok (.lst xs)
 | _=>.stuck
theorem Qcm{p:Pos}(hg:Gl C.X "list")(hm:C.X.mg "list"=none)(ha:DE C a A)
 (he:starEach (a::[]) C.X.env=(false,eval a C.X.env)::starEach [] C.X.env:=by rfl):DF C (.Call (.Name "list" p) [a] [] pos) (e1 dList A):=by
 obtain⟨ta,p1,q1⟩:=ha
 refine⟨_,Qzl QBO hg hm PyProof.Rows.Boot.«list» (Qbh p1 Qc6 he) (by decide) (by decide) he rfl,fun G H σ ς Q S q=>?_⟩
 unfold e1 at q
 rw[Out.post_bind]at q
 refine q1 G H σ ς _ S (Out.post_mono q fun x k v1 H1 G1 S1 a1 b1 r1=>?_)
 cases x with
 | lst xs=>
  obtain⟨p,vs,rfl,h2,h3⟩:=r1
  exact⟨p,vs,rfl,.inl (S1.sub.seq h2),KF.lst (KF.later (show KF C G H σ ς Q (.lst xs) from k) a1 b1) S1 h3⟩
 | tup xs=>
  obtain⟨p,vs,rfl,h2,h3⟩:=r1
  exact⟨p,vs,rfl,.inr (Same.sqT S1.sub h2),KF.lst (KF.later (show KF C G H σ ς Q (.lst xs) from k) a1 b1) S1 h3⟩
 | _=>exact k.elim
end
section
variable{C:Dc}{e:Expr}{es:List Expr}{A:SD->Out (List D)}{p pos:Pos}
def dInt:D->Out D
 | .int i=>.ok (.int i)
 | .bl b=>.ok (.int (if b then 1 else 0))
 | _=>.stuck
theorem QHE(hg:Gl C.X "int")(hm:C.X.mg "int"=none)(ha:DAB C (e::es) A)
 (he:starEach (e::es) C.X.env=(false,eval e C.X.env)::starEach es C.X.env:=by rfl) (hpl:(backTo pos (starEach es C.X.env)).any (·.1)=false:=by rfl):DE C (.Call (.Name "int" p) (e::es) [] pos) (eA (f1 dInt) A):=by
 refine QKN QJ9 (QC7 ?_) (QyF ?_) hg hm PyProof.Rows.Boot.«int» ha (by decide) (by decide) he hpl
 ·intro G H σ ς Q x v S r q
  cases x with
  | int i=>cases r;exact .inl ⟨i,rfl,q.2⟩
  | bl b=>cases r;exact .inr ⟨b,rfl,q.2⟩
  | _=>exact q.elim
 ·intro x
  cases x<;>first | exact rfl | exact True.intro
end
def isaT(T:String):D->Out Bool
 | .ins _ _=>.stuck
 | .err _=>.stuck
 | .bl _=>.ok (T == "bool"||T == "int")
 | d=>.ok (Qct d == T)
structure Kit(K:PySem.W.Frag)(T:String):Prop where
 h:∀ d:D,(match d with | .ins _ _=>True | .err _=>True | .bl _=>PySem.W.kitOne K (.type "bool") (.type T)=some (T == "bool"||T == "int") | d=>PySem.W.kitOne K (.type (Qct d)) (.type T)=some (Qct d == T))
section
variable{C:Dc}{e:Expr}{E:SD->Out D}{p pc pos:Pos}
theorem Qcl(T:Str){T':String}(k:Kit C.X.K T')(hgT:Gl C.X T)(hmT:C.X.mg T=none)(hb:bootBuiltins T=some (.type T'))(hg:Gl C.X "isinstance")(hm:C.X.mg "isinstance"=none)(h:DB C e E)
 (hn:T≠"__name__":=by decide) (hdb:(T == ("__debug__":Str))=false:=by decide)
 (he:starEach (e::[.Name T pc]) C.X.env=(false,eval e C.X.env)::starEach [.Name T pc] C.X.env:=by rfl) (he2:starEach (.Name T pc::[]) C.X.env=(false,eval (.Name T pc) C.X.env)::starEach [] C.X.env:=by rfl)
 (hpl:(backTo pos (starEach [.Name T pc] C.X.env)).any (·.1)=false:=by rfl):DE C (.Call (.Name "isinstance" p) [e,.Name T pc] [] pos) (eIsa (isaT T') E):=by
 refine QO1 (vc:=.ty T') (uc:=.type T') (QM9 hgT hmT hb rfl hn hdb) rfl (fun d=>?_) hg hm h he he2 hpl
 have:=k.h d
 cases d<;>first | exact True.intro | exact this
end
theorem Qso{K:PySem.W.Frag}{T:String}(h1:PySem.W.kitOne K (.type "NoneType") (.type T)=some ("NoneType" == T))(h2:PySem.W.kitOne K (.type "bool") (.type T)=some (T == "bool"||T == "int"))
 (h3:PySem.W.kitOne K (.type "int") (.type T)=some ("int" == T)) (h4:PySem.W.kitOne K (.type "str") (.type T)=some ("str" == T)) (h5:PySem.W.kitOne K (.type "list") (.type T)=some ("list" == T))
 (h6:PySem.W.kitOne K (.type "tuple") (.type T)=some ("tuple" == T)) (h7:PySem.W.kitOne K (.type "dict") (.type T)=some ("dict" == T)):Kit K T:=⟨fun d=>by
 cases d with
 | non=>exact h1
 | bl _=>exact h2
 | int _=>exact h3
 | str _=>exact h4
 | lst _=>exact h5
 | tup _=>exact h6
 | dic _=>exact h7
 | ins _ _=>exact True.intro
 | err _=>exact True.intro⟩
theorem QHw{K:PySem.W.Frag}:Kit K "int":=Qso (by rfl) (by rfl) (by rfl) (by rfl) (by rfl) (by rfl) (by rfl)
theorem QC8{K:PySem.W.Frag}:Kit K "bool":=Qso (by rfl) (by rfl) (by rfl) (by rfl) (by rfl) (by rfl) (by rfl)
theorem QHk{K:PySem.W.Frag}:Kit K "str":=Qso (by rfl) (by rfl) (by rfl) (by rfl) (by rfl) (by rfl) (by rfl)
theorem QlM{K:PySem.W.Frag}:Kit K "list":=Qso (by rfl) (by rfl) (by rfl) (by rfl) (by rfl) (by rfl) (by rfl)
theorem Qr7{K:PySem.W.Frag}:Kit K "tuple":=Qso (by rfl) (by rfl) (by rfl) (by rfl) (by rfl) (by rfl) (by rfl)
def QcF(i:Nat)(E:SD->Out D):SD->Out Fl:=fun ς=>match ς[i]? with
 | some (some (.o,.lst xs))=>E ς>>=fun d=>if decide (xs.length<sizeLine)=true then .ok (.nx (ς.set i (some (.o,.lst (xs++[d]))))) else .stuck
 | _=>.stuck
def sPutO(i:Nat)(I E:SD->Out D):SD->Out Fl:=fun ς=>E ς>>=fun d=>match ς[i]? with
 | some (some (.o,.lst xs))=>I ς>>=fun k=>match k with
  | .int k=>optO (ixN xs.length k)>>=fun j=>.ok (.nx (ς.set i (some (.o,.lst (xs.set j d)))))
  | _=>.stuck
 | _=>.stuck
section
variable{C:Dc}{G H:Hp}{σ:St}{ς:SD}
theorem Qh6{α:Type}{xs:List α}{i:Nat}{x:α}(h:xs[i]?=some x):xs.set i x=xs:=by
 obtain⟨hi,e⟩:=List.getElem?_eq_some_iff.mp h
 rw[← e];exact List.set_getElem_self hi
theorem StR.write(S:StR C G H σ ς){i:Nat}{p:Addr}{xs ys:List D}{vs ws:List V}(hi:ς[i]?=some (some (.o,.lst xs)))(hp:σ[i]?=some (some (.ref p)))(hH:H p=some (.lst vs))(r:RepL C.X.K C.CT G ys ws):
 StR C G (upd H p (.lst ws)) σ (ς.set i (some (.o,.lst ys))):=by
 obtain⟨p',e1,hg,h0,ow⟩:=S.ow i _ hi
 rw[hp]at e1;cases e1
 have hil:i<ς.length:=(List.getElem?_eq_some_iff.mp hi).1
 have ne:∀ b o,G b=some o->b≠p:=fun b o e z=>by subst z;rw[hg]at e;cases e
 have S':StR C G (upd H p (.lst ws)) (σ.set i (some (.ref p))) (ς.set i (some (.o,.lst ys))):={
  sub:=fun b o e=>by rw[Qk (ne b o e)];exact S.sub b o e
  g0:=S.g0
  new:=S.new
  fr:=fun b o e m=>by
   rw[Qk (by rintro rfl;rw[h0]at e;cases e)];exact S.fr b o e m
  dom:=fun b e=>by
   by_cases hb:b=p
   ·subst hb;exact h0
   ·rw[Qk hb]at e;exact S.dom b e
  bs:=fun b o e=>by
   rw[Qk (by rintro rfl;rw[S.bh _ h0]at e;cases e)];exact S.bs b o e
  bh:=S.bh
  len:=by rw[List.length_set,List.length_set];exact S.len
  fz:=fun j d h=>by
   rcases Qs h with⟨rfl,h2,l⟩ | ⟨hne,h2⟩
   ·cases h2
   ·rw[Qm hne];exact S.fz j d h2
  ow:=fun j d h=>by
   rcases Qs h with⟨rfl,h2,l⟩ | ⟨hne,h2⟩
   ·cases h2
    exact⟨p,QgS (by rw[S.len];exact l),hg,h0,⟨ws,QG,r⟩⟩
   ·rw[Qm hne]
    obtain⟨q,a,b,c,w⟩:=S.ow j d h2
    have qp:q≠p:=by
     rintro rfl
     exact S.inj i j _ _ q hne hi h2 hp a
    exact⟨q,a,b,c,w.mono (Same.refl G) fun o z=>by rw[Qk qp];exact z⟩
  ln:=fun j d h=>by
   rcases Qs h with⟨rfl,h2,l⟩ | ⟨hne,h2⟩
   ·cases h2
   ·rw[Qm hne];exact S.ln j d h2
  inj:=fun j k d1 d2 q hjk h1 h2 h3=>by
   have get:∀(j:Nat) d,(ς.set i (some (.o,D.lst ys)))[j]?=some (some (.o,d))->∃ d',ς[j]?=some (some (.o,d')):=fun j d h=>by
    rcases Qs h with⟨rfl,h2,l⟩ | ⟨hne,h2⟩
    ·exact⟨_,hi⟩
    ·exact⟨_,h2⟩
   obtain⟨d1',g1⟩:=get j d1 h1
   obtain⟨d2',g2⟩:=get k d2 h2
   rw[Qh6 hp]at h3 ⊢
   exact S.inj j k d1' d2' q hjk g1 g2 h3
  sf:=fun j d h=>by
   rcases Qs h with⟨rfl,h2,l⟩ | ⟨hne,h2⟩
   ·cases h2
   ·rw[Qm hne]
    obtain⟨q,a,b,c,m,z,w⟩:=S.sf j d h2
    have qp:q≠p:=by
     rintro rfl
     exact c h0
    exact⟨q,a,b,c,m,z,w.mono (Same.refl G) fun o z=>by rw[Qk qp];exact z⟩
  su:=fun j k d1 d2 q hjk h1 h2 h3=>by
   rcases Qs h1 with⟨rfl,q1,l⟩ | ⟨n1,q1⟩
   ·cases q1
   ·rcases Qs h2 with⟨rfl,q2,l⟩ | ⟨n2,q2⟩
    ·cases q2
    ·rw[Qm n1]at h3
     rw[Qm n2];exact S.su j k d1 d2 q hjk q1 q2 h3 }
 rw[Qh6 hp]at S'
 exact S'
variable{a e:Expr}{A E:SD->Out D}{pos p1 p2 p3:Pos}{x:Str}
theorem QdZ(i:Nat)(he:DE C e E)(hN:C.X.N[i]?=some x:=by rfl)(hv:Vis C.X.env.scope x:=by first | exact Or.inl rfl | exact Or.inr (Or.inl rfl) | exact Or.inr (Or.inr rfl))
 (hd:(x == ("__debug__":Str))=false:=by decide) (hcd:(x == ("__classdict__":Str))=false:=by decide)
 (hbase:attributeBase (.Name x p1) "append" C.X.env (eval (.Name x p1) C.X.env)=eval (.Name x p1) C.X.env:=by rfl)
 (hfew:((backTo p3 (starEach (e::[]) C.X.env)).all (fun x => !x.1)&&(backToKw p3 (keywordEach [] C.X.env)).all (fun x=>x.1.isSome)
  && decide ((e::[]).length+([]:List Keyword).length+(if ([]:List Keyword).isEmpty then 0 else 1)<30))=true:=by rfl)
 (hline:(p2.endLine == p3.line)=true:=by rfl) (hs:starEach (e::[]) C.X.env=(false,eval e C.X.env)::starEach [] C.X.env:=by rfl)
 (hsw:swapsWith (.Call (.Attribute (.Name x p1) "append" p2) [e] [] p3) none pos.line C.X.env=pure false:=by rfl):
 DS C (.Expr (.Call (.Attribute (.Name x p1) "append" p2) [e] [] p3) pos) (QcF i E):=by
 obtain⟨t,p,q⟩:=he
 refine⟨_,Qti (pe_bm PySem.F.plainAttrs_list PySem.F.slot_list_append PySem.F.type_list_append QrH (Qda (i:=i) hN hv hd hcd) (Qbh p Qc6 hs) hbase hfew hline hs rfl) hsw,fun G H σ ς W S k=>?_⟩
 unfold QcF at k
 split at k
 ·rename_i xs z
  obtain⟨pp,e1,hg,h0,ow⟩:=S.ow i _ z
  obtain⟨vs,hv1,hv2⟩:=ow
  rw[Out.post_bind]at k
  refine⟨_,e1,.inl ⟨rfl,vs,SqL.of hv1⟩,q G H σ ς _ S (Out.post_mono k fun d k2 v H1 G1 S1 a1 b1 r1=>?_)⟩
  rcases QQ k2 with⟨hc,k3⟩ | ⟨_,k3⟩
  ·have hl:=hv2.length
   refine⟨pp,vs,v,rfl,rfl,a1 _ _ hv1,by rw[← hl];exact of_decide_eq_true hc,?_⟩
   exact k3 σ _ G1 (S1.write z e1 (a1 _ _ hv1) ((RepL.mono b1 xs vs hv2).append (RepL.one r1))) b1
  ·exact k3.elim
 ·exact k.elim
theorem QoL(i:Nat)(hi:DB C a A)(he:DE C e E)(hN:C.X.N[i]?=some x:=by rfl)(hv:Vis C.X.env.scope x:=by first | exact Or.inl rfl | exact Or.inr (Or.inl rfl) | exact Or.inr (Or.inr rfl))
 (hd:(x == ("__debug__":Str))=false:=by decide) (hcd:(x == ("__classdict__":Str))=false:=by decide)
 (hst:∀ v,assign (.Subscript (.Name x p1) a p2) C.X.env v=(do
  let ov ← holding [v] (eval (.Name x p1) C.X.env)
  let iv ← holding [v,ov] (eval a C.X.env)
  standAt p2
  holding [v,ov,iv] (setItem ov iv v)
  release [v,ov,iv] []):=by intro _;rfl)
 (hs:swapsWithSole [.Subscript (.Name x p1) a p2] e pos.line C.X.env=pure false:=by rfl) (hw:swappedStores [.Subscript (.Name x p1) a p2] e C.X.env=pure none:=by rfl)
 (h1:(assignEach [.Subscript (.Name x p1) a p2] C.X.env).map (·.2)=[assign (.Subscript (.Name x p1) a p2) C.X.env]:=by rfl):DS C (.Assign [.Subscript (.Name x p1) a p2] e pos) (sPutO i A E):=by
 obtain⟨t,p,q⟩:=he
 obtain⟨t2,p2,q2⟩:=hi
 refine⟨_,QBi p (QLF (Qda (i:=i) hN hv hd hcd) p2 QCs hst) hs hw h1,fun G H σ ς W S k=>?_⟩
 unfold sPutO at k
 rw[Out.post_bind]at k
 refine q G H σ ς _ S (Out.post_mono k fun d k v H1 G1 S1 a1 b1 r1=>?_)
 split at k
 ·rename_i xs z
  obtain⟨pp,e1,hg,h0,ow⟩:=S1.ow i _ z
  obtain⟨vs,hv1,hv2⟩:=ow
  rw[Out.post_bind]at k
  refine⟨_,e1,q2 G1 H1 σ ς _ S1 (Out.post_mono k fun y k2 w H2 G2 S2 a2 b2 r2=>?_)⟩
  cases y with
  | int j=>
   cases r2
   have k2':(optO (ixN xs.length j)>>=fun j=>Out.ok (Fl.nx (ς.set i (some (.o,D.lst (xs.set j d)))))).post (FlK C G W) C.XD:=k2
   rw[Out.post_bind]at k2'
   obtain⟨jj,ej,k3⟩:=QcM k2'
   refine⟨pp,vs,j,jj,rfl,rfl,a2 _ _ hv1,by rw[← hv2.length];exact ej,?_⟩
   exact k3 σ _ G2 (S2.write z e1 (a2 _ _ hv1) ((RepL.mono b2 xs vs hv2).set (Rep.mono b2 d v r1) jj)) (b1.trans b2)
  | _=>exact k2.elim
 ·exact k.elim
end
end DL
namespace DL
open PySem PySem.Spec PyProof.Rows L2
structure DIt(K:PySem.W.Frag)(CT:CTab)(G1:Hp)(J:It)(ds:List D):Prop where
 go:∀ G H (i:Nat) d,Same G1 G->Same G H->ds[i]?=some d->J.go i H/\∀ x H',J.yld i H x H'->∃ G',Same G G'/\Same H H'/\Same G' H'/\(∀ b,G b=none->G' b≠none->H b=none)/\Rep K CT G' d x
 stop:∀ G H,Same G1 G->Same G H->J.stop ds.length H
structure DItB(K:PySem.W.Frag)(CT:CTab)(B1 G1:Hp)(J:It)(ds:List D):Prop where
 go:∀ G H (i:Nat) d,Same G1 G->Same G H->Same B1 H->ds[i]?=some d->J.go i H/\∀ x H',J.yld i H x H'->∃ G',Same G G'/\Same H H'/\Same G' H'/\(∀ b,G b=none->G' b≠none->H b=none)/\Rep K CT G' d x
 stop:∀ G H,Same G1 G->Same G H->Same B1 H->J.stop ds.length H
theorem DIt.b{K:PySem.W.Frag}{CT:CTab}{B1 G1:Hp}{J:It}{ds:List D}(h:DIt K CT G1 J ds):DItB K CT B1 G1 J ds:=⟨fun G H i d a b _ e=>h.go G H i d a b e,fun G H a b _=>h.stop G H a b⟩
def DIB(C:Dc)(tg iter:Expr)(its:SD->Out (List D)):Prop:=∃ wi,PI C.X tg iter wi/\∀ G H σ ς (R:It->Hp->Prop),StR C G H σ ς->
 (its ς).post (fun ds=>∀ J H1 G1,StR C G1 H1 σ ς->Same H H1->Same G G1->DItB C.X.K C.CT H1 G1 J ds->R J H1) C.XD->wi σ H R
def DI(C:Dc)(tg iter:Expr)(its:SD->Out (List D)):Prop:=∃ wi,PI C.X tg iter wi/\∀ G H σ ς (R:It->Hp->Prop),StR C G H σ ς->
 (its ς).post (fun ds=>∀ J H1 G1,StR C G1 H1 σ ς->Same H H1->Same G G1->DIt C.X.K C.CT G1 J ds->R J H1) C.XD->wi σ H R
section
variable{C:Dc}{e tg iter:Expr}{E:SD->Out D}{body:List Stmt}{T U:SD->Out Fl}{pos:Pos}{g:D->SD->Out SD}{its:SD->Out (List D)}
theorem DI.b(h:DI C tg iter its):DIB C tg iter its:=by
 obtain⟨wi,p,q⟩:=h
 exact⟨wi,p,fun G H σ ς R S k=>q G H σ ς R S (Out.post_mono k fun ds kd J H1 G1 S1 a b dit=>kd J H1 G1 S1 a b dit.b)⟩
theorem QLP{K:PySem.W.Frag}{CT:CTab}{G1:Hp}{a:Addr}{ds:List D}{vs:List V}(h:SqL K G1 a vs)(r:RepL K CT G1 ds vs):DIt K CT G1 (Itl K a) ds where
 go:=fun G H i d s1 sH hd=>by
  obtain⟨v,hv,rv⟩:=r.get hd
  have hq:SqL K H a vs:=sH.seq (s1.seq h)
  refine⟨⟨vs,v,hq,hv⟩,fun x H' ⟨e,y⟩=>?_⟩
  have ex:vs[i]?=some x:=y vs hq
  rw[hv]at ex;cases ex
  subst e
  exact⟨G,Same.refl _,Same.refl _,sH,fun b g n=>absurd g n,Rep.mono s1 d v rv⟩
 stop:=fun G H s1 sH=>⟨vs,sH.seq (s1.seq h),by rw[r.length];exact Nat.le_refl _⟩
theorem QLf{K:PySem.W.Frag}{CT:CTab}{G1:Hp}{lo:Int}{n:Nat}:DIt K CT G1 (Itr lo n) (Qb1 lo n) where
 go:=fun G H i d s1 sH hd=>by
  have hi:i<n:=by
   have:=(List.getElem?_eq_some_iff.mp hd).1
   rw[Qwn]at this;exact this
  rw[QJM hi]at hd;cases hd
  exact⟨hi,fun x H' ⟨e,y⟩=>by
   subst e y
   exact⟨G,Same.refl _,Same.refl _,sH,fun b g n=>absurd g n,rfl⟩⟩
 stop:=fun G H s1 sH=>by rw[Qwn];exact Nat.le_refl _
theorem Qal(h:DE C iter E):DI C tg iter (itL E):=by
 obtain⟨t,p,q⟩:=h
 refine⟨_,QNP p,fun G H σ ς R S k=>?_⟩
 unfold itL at k
 rw[Out.post_bind]at k
 refine q G H σ ς _ S (Out.post_mono k fun d k v H1 G1 S1 a1 b1 r1=>?_)
 cases d with
 | lst xs=>
  obtain⟨a,vs,rfl,h2,h3⟩:=r1
  exact⟨a,rfl,⟨vs,S1.sub.seq h2⟩,k _ H1 G1 S1 a1 b1 (QLP h2 h3)⟩
 | _=>exact k.elim
theorem QaF{a:Expr}{A:SD->Out D}{p1 p2:Pos}(hgl:Gl C.X "range")(hm:C.X.mg "range"=none)(ha:DB C a A)
 (hst:starEach [a] C.X.env=(false,eval a C.X.env)::starEach [] C.X.env:=by rfl):DI C tg (.Call (.Name "range" p1) [a] [] p2) (itR1 A):=by
 obtain⟨t,p,q⟩:=ha
 refine⟨_,QLi hgl hm (Qbh p Qc6 hst) hst,fun G H σ ς R S k=>?_⟩
 unfold itR1 at k
 rw[Out.post_bind]at k
 refine q G H σ ς _ S (Out.post_mono k fun d k v H1 G1 S1 a1 b1 r=>?_)
 cases d with
 | int n=>
  cases r
  rcases QQ k with⟨hc,k⟩ | ⟨_,k⟩
  ·obtain⟨c1,c2⟩:=QJx hc
   exact⟨n,rfl,c1,c2,k _ H1 G1 S1 a1 b1 QLf⟩
  ·exact k.elim
 | _=>exact k.elim
theorem Qcn(hp:PassesOwn (model C.X.prog C.X.w) C.X.A C.X.env C.X.xe)(hc:C.X.calm=true)(hi:DI C tg iter its)(hg:DG C tg g)(hne:noExc g)(hb:DSs C body T)
 (hs:∀ x,foldedSetIterable iter C.X.env x=pure x:=by intro _;rfl):DS C (.For tg iter body [] pos) (sFor g its T):=by
 obtain⟨t0,p0,q0⟩:=hi
 obtain⟨t1,p1,q1⟩:=hg
 obtain⟨t2,p2,q2⟩:=hb
 refine⟨_,QKO hp hc p0 p1 p2 hs,fun G H σ ς W S k=>?_⟩
 unfold sFor at k
 rw[Out.post_bind]at k
 refine q0 G H σ ς _ S (Out.post_mono k fun xs k J H1 G1 S1 a1 b1 dit=>?_)
 refine⟨fun i m σ' H'=>m=xs.length - i/\i<=xs.length/\∃ G' ς',StR C G' H' σ' ς'/\Same G1 G'/\(loopD (fun x ς=>g x ς>>=fun ς'=>T ς') (xs.drop i) ς').post (FlK C G' W) C.XD,
  ⟨xs.length,by simp,Nat.zero_le _,G1,ς,S1,Same.refl _,Out.post_mono (by simpa using k) fun f k=>FlK.later k b1⟩,?_⟩
 rintro i m σ' H' ⟨rfl,hle,G',ς',S',s',q'⟩
 by_cases hlt:i<xs.length
 ·have hd:xs[i]?=some xs[i]:=by simp[hlt]
  obtain⟨hgo,hy⟩:=dit.go G' H' i _ s' S'.sub hd
  refine .inr ⟨hgo,fun σ2 H2=>∃ G2 ς2,StR C G2 H2 σ2 ς2/\Same G1 G2/\(loopD (fun x ς=>g x ς>>=fun ς'=>T ς') (xs.drop (i+1)) ς2).post (FlK C G2 W) C.XD,
   fun σ2 H2 h2=>⟨xs.length - (i+1),by omega,rfl,hlt,h2⟩,fun x H'' y=>?_⟩
  obtain⟨G'',g1,h1,s1,n1,r⟩:=hy x H'' y
  rw[Qzi hd]at q'
  exact turnD hne q1 q2 (S'.grow h1 g1 s1 n1) r (Out.post_mono q' fun f k=>FlK.later k g1) fun σ2 H2 G2 ς2 S2 s2 q2=>⟨G2,ς2,S2,(s'.trans g1).trans s2,q2⟩
 ·have e:i=xs.length:=by omega
  subst e
  rw[List.drop_length]at q'
  exact .inl ⟨dit.stop G' H' s' S'.sub,q' σ' H' G' S' (Same.refl _)⟩
end
def compM(f:D->Out (Option D)):List D->Out (List D)
 | []=>.ok []
 | x::xs=>f x>>=fun o=>compM f xs>>=fun ys=>.ok (o.toList++ys)
def captS(ς:SD)(j:Nat):Option (SM×D):=match ς[j]? with
 | some (some (.k,d))=>some (.k,d)
 | some (some (_,d))=>some (.l,d)
 | _=>none
def captD(js:List (Option Nat))(ς:SD):SD:=js.map fun j=>j.bind (captS ς)
def turnC(js:List (Option Nat))(g:D->SD->Out SD)(c:SD->Out Bool)(e:SD->Out D)(ς:SD)(x:D):Out (Option D):=
 g x (captD js ς)>>=fun τ=>c τ>>=fun b=>if b=true then e τ>>=fun y=>.ok (some y) else .ok none
def eComp(js:List (Option Nat))(its:SD->Out (List D))(g:D->SD->Out SD)(c:SD->Out Bool)(e:SD->Out D):SD->Out D:=fun ς=>
 its ς>>=fun xs=>compM (turnC js g c e ς) xs>>=fun ys=>if fits ys.length=true then .ok (.lst ys) else .stuck
def DIf(C:Dc)(ifs:List Expr)(T:SD->Out Bool):Prop:=∃ t,PIf C.X ifs t/\∀ G H σ ς Q,StR C G H σ ς->(T ς).post (KT C G H σ ς Q) C.XD->t σ H Q
def cTrue:SD->Out Bool:=fun _=>.ok true
theorem QT{C:Dc}:DIf C [] cTrue:=⟨_,QND,fun G H σ ς Q S q=>KT.now q S⟩
theorem QNG{C:Dc}{c:Expr}{T:SD->Out Bool}(h:DT C c T):DIf C [c] T:=let ⟨t,p,q⟩:=h;⟨t,QNl p,q⟩
def gKeep(g:D->SD->Out SD)(τ0:SD):Prop:=∀ x τ,g x τ0=.ok τ->τ.length=τ0.length/\∀(i:Nat) md,τ0[i]?=some (some md)->τ[i]?=some (some md)
theorem QL{i:Nat}{τ0:SD}(h:τ0[i]?=some none):gKeep (gN i) τ0:=by
 intro x τ e
 cases e
 refine⟨List.length_set ..,fun j md hj=>?_⟩
 rw[Qm (by rintro rfl;rw[h]at hj;cases hj)];exact hj
theorem QF7:∀(is:List Nat)(ds:List D)(τ0 τ:SD),(∀ i∈is,∀ md,τ0[i]?=some (some md)->False)->QaI is ds τ0=.ok τ->τ.length=τ0.length/\∀(i:Nat) md,τ0[i]?=some (some md)->τ[i]?=some (some md)
 | [],[],τ0,τ,_,e=>by cases e;exact⟨rfl,fun _ _ h=>h⟩
 | i::is,d::ds,τ0,τ,h,e=>by
  have e':QaI is ds (τ0.set i (some (.k,d)))=.ok τ:=e
  -- the later targets may meet the stored one again: only what was there ahead is kept
  have go:∀(is:List Nat)(ds:List D)(τ1 τ:SD),τ1.length=τ0.length->(∀ i∈is,∀ md,τ0[i]?=some (some md)->False)->(∀(i:Nat) md,τ0[i]?=some (some md)->τ1[i]?=some (some md))->QaI is ds τ1=.ok τ->
   τ.length=τ0.length/\∀(i:Nat) md,τ0[i]?=some (some md)->τ[i]?=some (some md):=by
   intro is
   induction is with
   | nil=>intro ds τ1 τ hl _ hk e;cases ds with
    | nil=>cases e;exact⟨hl,hk⟩
    | cons _ _=>cases e
   | cons i is ih=>intro ds τ1 τ hl hn hk e;cases ds with
    | nil=>cases e
    | cons d ds=>
     refine ih ds _ τ (by rw[List.length_set];exact hl) (fun j hj=>hn j (List.mem_cons_of_mem _ hj)) (fun j md hj=>?_) e
     rw[Qm (by rintro rfl;exact hn _ List.mem_cons_self md hj)];exact hk j md hj
  refine go is ds _ τ (List.length_set ..) (fun j hj=>h j (List.mem_cons_of_mem _ hj)) (fun j md hj=>?_) e'
  rw[Qm (by rintro rfl;exact h _ List.mem_cons_self md hj)];exact hj
 | [],_::_,_,_,_,e=>by cases e
 | _::_,[],_,_,_,e=>by cases e
theorem QMs{is:List Nat}{τ0:SD}(h:∀ i∈is,τ0[i]?=some none):gKeep (gT is) τ0:=by
 intro x τ e
 cases x with
 | tup ds=>exact QF7 is ds τ0 τ (fun i hi md z=>by rw[h i hi]at z;cases z) e
 | _=>cases e
theorem Qz{js:List (Option Nat)}{i:Nat}(h:js[i]?=some none)(ς:SD):(captD js ς)[i]?=some none:=by
 unfold captD
 rw[List.getElem?_map,h];rfl
section
variable{C:Dc}{G H:Hp}{σ:St}{ς:SD}
theorem StR.weak{ς':SD}(S:StR C G H σ ς')(hl:ς'.length=ς.length)(h:∀(i:Nat) md,ς[i]?=some (some md)->ς'[i]?=some (some md)):StR C G H σ ς:=
 { S with len:=by rw[S.len,hl],fz:=fun i d e=>S.fz i d (h i _ e),ow:=fun i d e=>S.ow i d (h i _ e),ln:=fun i d e=>S.ln i d (h i _ e),inj:=fun i j d e p n h1 h2=>S.inj i j d e p n (h i _ h1) (h j _ h2),sf:=fun i d e=>S.sf i d (h i _ e),su:=fun i j d e p n h1 h2=>S.su i j d e p n (h i _ h1) (h j _ h2) }
theorem StR.updM(S:StR C G H σ ς){p:Addr}{o:HO}(hM:C.M p)(h0:C.X.H₀ p≠none)(hno:∀(i:Nat) d,ς[i]?≠some (some (.s,d)))(hB:C.B p=none)(hg:G p=none):StR C G (upd H p o) σ ς where
 sub:=fun b u e=>by rw[Qk (by rintro rfl;rw[hg]at e;cases e)];exact S.sub b u e
 g0:=S.g0
 new:=S.new
 fr:=fun b u e m=>by rw[Qk (by rintro rfl;exact m hM)];exact S.fr b u e m
 dom:=fun b e=>by
  by_cases hb:b=p
  ·subst hb;rw[QG]at e;cases e
  ·rw[Qk hb]at e;exact S.dom b e
 bs:=fun b u e=>by rw[Qk (by rintro rfl;rw[hB]at e;cases e)];exact S.bs b u e
 bh:=S.bh
 len:=S.len
 fz:=S.fz
 ow:=fun i d e=>by
  obtain⟨q,a,b,c,w⟩:=S.ow i d e
  exact⟨q,a,b,c,w.mono (Same.refl G) fun u z=>by rw[Qk (by rintro rfl;exact h0 c)];exact z⟩
 ln:=S.ln
 inj:=S.inj
 sf:=fun i d e=>absurd e (hno i d)
 su:=S.su
abbrev ccOf(C:Dc)(N':List Str)(scope:Scope)(fp:List Addr)(s:Shared)(H1 G1:Hp)(p:Addr):Dc:=
 { X:=cxC C.X N' scope fp s (upd H1 p (.lst [])),CT:=C.CT,G0:=G1,XD:=fun _=>False,B:=H1,M:=fun b=>b=p }
theorem Qja{js:List (Option Nat)}{i:Nat}{md:SM×D}(h:(captD js ς)[i]?=some (some md)):∃ j,js[i]?=some (some j)/\captS ς j=some md:=by
 unfold captD at h
 rw[List.getElem?_map]at h
 cases e:js[i]? with
 | none=>rw[e]at h;cases h
 | some o=>
  rw[e]at h
  cases o with
  | none=>cases h
  | some j=>exact⟨j,rfl,Option.some.inj h⟩
theorem QpN{js:List (Option Nat)}{i j:Nat}{v:V}(h:js[i]?=some (some j))(hv:σ[j]?=some (some v)):(capt js σ)[i]?=some (some v):=by
 unfold capt
 rw[List.getElem?_map,h]
 show some ((σ[j]?).join)=_
 rw[hv];rfl
theorem Qf5{j:Nat}{m:SM}{d:D}(h:captS ς j=some (m,d)):(m=.k/\ς[j]?=some (some (.k,d)))∨(m=.l/\(ς[j]?=some (some (.o,d))∨ς[j]?=some (some (.l,d))∨ς[j]?=some (some (.s,d)))):=by
 unfold captS at h
 split at h
 ·rename_i d' e;cases h;exact .inl ⟨rfl,e⟩
 ·rename_i m' d' hne e
  cases h
  cases m' with
  | k=>exact(hne rfl).elim
  | o=>exact .inr ⟨rfl,.inl e⟩
  | l=>exact .inr ⟨rfl,.inr (.inl e)⟩
  | s=>exact .inr ⟨rfl,.inr (.inr e)⟩
 ·cases h
theorem QuC{js:List (Option Nat)}{i:Nat}{d:D}(h:(captD js ς)[i]?=some (some (.s,d))):False:=by
 obtain⟨j,h1,h2⟩:=Qja h
 rcases Qf5 h2 with⟨h3,_⟩ | ⟨h3,_⟩<;>cases h3
theorem StR.comp{N':List Str}{scope:Scope}{fp:List Addr}{s:Shared}{js:List (Option Nat)}{p:Addr}(S:StR C G H σ ς)(hp:H p=none):StR (ccOf C N' scope fp s H G p) G (upd H p (.lst [])) (capt js σ) (captD js ς) where
 sub:=S.sub.trans (Qy hp)
 g0:=Same.refl _
 new:=fun b h1 h2=>absurd h1 h2
 fr:=fun b o e _=>e
 dom:=fun b e=>e
 bs:=Qy hp
 bh:=fun b e=>by
  have e':upd H p (.lst []) b=none:=e
  by_cases hb:b=p
  ·subst hb;exact hp
  ·rw[Qk hb]at e';exact e'
 len:=by unfold capt captD;rw[List.length_map,List.length_map]
 fz:=fun i d e=>by
  obtain⟨j,h1,h2⟩:=Qja e
  rcases Qf5 h2 with⟨_,h3⟩ | ⟨h3,_⟩
  ·obtain⟨v,a,b⟩:=S.fz j d h3
   exact⟨v,QpN h1 a,b⟩
  ·cases h3
 ow:=fun i d e=>by
  obtain⟨j,h1,h2⟩:=Qja e
  rcases Qf5 h2 with⟨h3,_⟩ | ⟨h3,_⟩<;>cases h3
 ln:=fun i d e=>by
  obtain⟨j,h1,h2⟩:=Qja e
  rcases Qf5 h2 with⟨h3,_⟩ | ⟨_,h3 | h3 | h3⟩
  ·cases h3
  ·obtain⟨q,a,_,_,w⟩:=S.ow j d h3
   exact⟨_,QpN h1 a,w.rep S.sub⟩
  ·obtain⟨v,a,b⟩:=S.ln j d h3
   exact⟨v,QpN h1 a,Rep.mono S.bs d v b⟩
  ·obtain⟨q,a,_,_,_,_,w⟩:=S.sf j d h3
   exact⟨_,QpN h1 a,w.rep S.sub⟩
 inj:=fun i j d e q _ h=>by
  obtain⟨j,h1,h2⟩:=Qja h
  rcases Qf5 h2 with⟨h3,_⟩ | ⟨h3,_⟩<;>cases h3
 sf:=fun i d e=>(QuC e).elim
 su:=fun i j d e p _ h=>(QuC h).elim
variable{N':List Str}{js:List (Option Nat)}{scope:Scope}{tg iter elt:Expr}{ifs:List Expr}{its:SD->Out (List D)}{g:D->SD->Out SD}{c:SD->Out Bool}{e:SD->Out D}{pos:Pos}
theorem QMu{J:It}{xs:List D}{p:Addr}{fp:List Addr}{s:Shared}{Q:VK}(S:StR C G H σ ς)(hp:H p=none)(dit:DItB C.X.K C.CT H G J xs)(hx:∀ x,¬ C.XD x)(hk:gKeep g (captD js ς))(hne:noExc g)
 (hin:DG (ccOf C N' scope fp s H G p) tg g/\DIf (ccOf C N' scope fp s H G p) ifs c/\DE (ccOf C N' scope fp s H G p) elt e)
 (q:(compM (turnC js g c e ς) xs>>=fun ys=>if fits ys.length=true then Out.ok (D.lst ys) else .stuck).post (fun d=>∀ H' G',StR C G' H' σ ς->Same H H'->Same G G'->G' p=none->Own C.X.K C.CT G' H' p d->Q (.ref p) H') C.XD):
 CompW (cxC C.X N' scope fp s (upd H p (.lst []))) js tg elt ifs σ H J p Q:=by
 obtain⟨⟨tt,pg,hg⟩,⟨tcc,pif,hcI⟩,⟨te,pe,he⟩⟩:=hin
 generalize hτ:captD js ς=τ0 at hk
 have S0:StR (ccOf C N' scope fp s H G p) G (upd H p (.lst [])) (capt js σ) τ0:=by rw[← hτ];exact S.comp hp
 refine⟨fun i m τ H'=>m=xs.length - i/\i<=xs.length/\∃ G' acc vs,StR (ccOf C N' scope fp s H G p) G' H' τ τ0/\H' p=some (.lst vs)/\RepL C.X.K C.CT G' acc vs/\G' p=none/\
  (compM (turnC js g c e ς) (xs.drop i)).post (fun ys=>(if fits (acc++ys).length=true then Out.ok (D.lst (acc++ys)) else .stuck).post (fun d=>∀ H' G',StR C G' H' σ ς->Same H H'->Same G G'->G' p=none->Own C.X.K C.CT G' H' p d->Q (.ref p) H') C.XD) C.XD,
  ⟨xs.length,by simp,Nat.zero_le _,G,[],[],S0,QG,rfl,S.sub.free hp,by rw[Out.post_bind]at q;simpa using q⟩,?_⟩
 rintro i m τ H' ⟨rfl,hle,G',acc,vs,S',hp',r',hg',q'⟩
 have hH0:(ccOf C N' scope fp s H G p).X.H₀ p≠none:=by
  show upd H p (.lst []) p≠none
  rw[QG];simp
 by_cases hlt:i<xs.length
 ·have hd:xs[i]?=some xs[i]:=by simp[hlt]
  obtain⟨hgo,hy⟩:=dit.go G' H' i _ S'.g0 S'.sub S'.bs hd
  refine .inr ⟨hgo,fun τ2 H2=>i+1<=xs.length/\∃ G' acc vs,StR (ccOf C N' scope fp s H G p) G' H2 τ2 τ0/\H2 p=some (.lst vs)/\RepL C.X.K C.CT G' acc vs/\G' p=none/\
   (compM (turnC js g c e ς) (xs.drop (i+1))).post (fun ys=>(if fits (acc++ys).length=true then Out.ok (D.lst (acc++ys)) else .stuck).post (fun d=>∀ H' G',StR C G' H' σ ς->Same H H'->Same G G'->G' p=none->Own C.X.K C.CT G' H' p d->Q (.ref p) H') C.XD) C.XD,
   fun τ2 H2 h2=>⟨xs.length - (i+1),by omega,rfl,h2⟩,fun x H'' y=>?_⟩
  obtain⟨G'',g1,h1,s1,n1,r⟩:=hy x H'' y
  have S'':=S'.grow h1 g1 s1 n1
  have hgp:G'' p=none:=by
   cases z:G'' p with
   | none=>rfl
   | some o=>
    have:=n1 p hg' (by rw[z];simp)
    rw[hp']at this;cases this
  rw[Qzi hd,compM,Out.post_bind]at q'
  have tu:turnC js g c e ς xs[i]=(g xs[i] τ0>>=fun τ=>c τ>>=fun b=>if b=true then e τ>>=fun y=>Out.ok (some y) else Out.ok none):=by unfold turnC;rw[hτ]
  rw[tu,Out.post_bind]at q'
  cases z:g xs[i] τ0 with
  | exc w=>exact absurd z (hne _ _ _)
  | stuck=>rw[z]at q';exact q'.elim
  | ok τ1=>
   rw[z]at q'
   obtain⟨hl1,hk1⟩:=hk _ _ z
   refine⟨tt,pg,hg G'' H'' τ τ0 xs[i] x τ1 _ S'' r z fun τ2 S2=>?_⟩
   have q2:(c τ1>>=fun b=>if b=true then e τ1>>=fun y=>Out.ok (some y) else Out.ok none).post _ _:=q'
   rw[Out.post_bind]at q2
   -- no refusal leaves the block
   have q3:(c τ1).post (fun b=>(if b=true then e τ1>>=fun y=>Out.ok (some y) else Out.ok none).post (fun o=>(compM (turnC js g c e ς) (xs.drop (i+1))>>=fun ys=>Out.ok (o.toList++ys)).post (fun ys=>(if fits (acc++ys).length=true then Out.ok (D.lst (acc++ys)) else .stuck).post (fun d=>∀ H' G',StR C G' H' σ ς->Same H H'->Same G G'->G' p=none->Own C.X.K C.CT G' H' p d->Q (.ref p) H') C.XD) C.XD) C.XD) (fun _=>False):=by
    cases w:c τ1 with
    | ok b=>rw[w]at q2;exact q2
    | exc w'=>rw[w]at q2;exact absurd q2 (hx _)
    | stuck=>rw[w]at q2;exact q2.elim
   refine⟨tcc,pif,hcI G'' H'' τ2 τ1 _ S2 (Out.post_mono q3 fun b kb H3 G3 S3 a3 b3=>?_)⟩
   have hp3:H3 p=some (.lst vs):=a3 _ _ (h1 _ _ hp')
   have hg3:G3 p=none:=by
    cases z3:G3 p with
    | none=>rfl
    | some o=>
     have e3:(ccOf C N' scope fp s H G p).G0 p=none:=S.sub.free hp
     exact absurd (S3.new p e3 (by rw[z3];simp)) hH0
   cases b with
   | false=>
    refine iteF ⟨hlt,G3,acc,vs,S3.weak (by rw[hl1]) hk1,hp3,RepL.mono (g1.trans b3) acc vs r',hg3,?_⟩
    have kb':(compM (turnC js g c e ς) (xs.drop (i+1))>>=fun ys=>Out.ok ((none:Option D).toList++ys)).post (fun ys=>(if fits (acc++ys).length=true then Out.ok (D.lst (acc++ys)) else .stuck).post (fun d=>∀ H' G',StR C G' H' σ ς->Same H H'->Same G G'->G' p=none->Own C.X.K C.CT G' H' p d->Q (.ref p) H') C.XD) C.XD:=kb
    rw[Out.post_bind]at kb'
    exact Out.post_mono kb' fun ys k=>k
   | true=>
    have kb:(e τ1>>=fun y=>Out.ok (some y)).post (fun o=>(compM (turnC js g c e ς) (xs.drop (i+1))>>=fun ys=>Out.ok (o.toList++ys)).post (fun ys=>(if fits (acc++ys).length=true then Out.ok (D.lst (acc++ys)) else .stuck).post (fun d=>∀ H' G',StR C G' H' σ ς->Same H H'->Same G G'->G' p=none->Own C.X.K C.CT G' H' p d->Q (.ref p) H') C.XD) C.XD) C.XD:=kb
    rw[Out.post_bind]at kb
    have kb2:(e τ1).post (fun y=>(compM (turnC js g c e ς) (xs.drop (i+1))>>=fun ys=>Out.ok ((some y:Option D).toList++ys)).post (fun ys=>(if fits (acc++ys).length=true then Out.ok (D.lst (acc++ys)) else .stuck).post (fun d=>∀ H' G',StR C G' H' σ ς->Same H H'->Same G G'->G' p=none->Own C.X.K C.CT G' H' p d->Q (.ref p) H') C.XD) C.XD) (fun _=>False):=by
     cases w:e τ1 with
     | ok b=>rw[w]at kb;exact kb
     | exc w'=>rw[w]at kb;exact absurd kb (hx _)
     | stuck=>rw[w]at kb;exact kb.elim
    refine iteT ⟨te,pe,he G3 H3 τ2 τ1 _ S3 (Out.post_mono kb2 fun y ky v4 H4 G4 S4 a4 b4 r4=>?_)⟩
    rw[Out.post_bind]at ky
    have hp4:H4 p=some (.lst vs):=a4 _ _ hp3
    have hg4:G4 p=none:=by
     cases z3:G4 p with
     | none=>rfl
     | some o=>
      have e3:(ccOf C N' scope fp s H G p).G0 p=none:=S.sub.free hp
      exact absurd (S4.new p e3 (by rw[z3];simp)) hH0
    have rr:=RepL.mono ((g1.trans b3).trans b4) acc vs r'
    refine⟨vs,hp4,?_,hlt,G4,acc++[y],vs++[v4],?_,QG,rr.append (RepL.one r4),hg4,?_⟩
    ·cases w:compM (turnC js g c e ς) (xs.drop (i+1)) with
     | stuck=>rw[w]at ky;exact ky.elim
     | exc w'=>rw[w]at ky;exact absurd ky (hx _)
     | ok ys=>
      rw[w]at ky
      rcases QQ (show(if fits (acc++((some y:Option D).toList++ys)).length=true then Out.ok (D.lst (acc++((some y:Option D).toList++ys))) else .stuck).post _ _ from ky) with⟨hc,_⟩ | ⟨_,k⟩
      ·have hc':=of_decide_eq_true hc
       rw[List.length_append,List.length_append]at hc'
       have:(some y:Option D).toList.length=1:=rfl
       have hl:=r'.length
       omega
      ·exact k.elim
    ·exact(S4.weak (by rw[hl1]) hk1).updM rfl hH0 (fun i d z=>by rw[← hτ]at z;exact QuC z) hp hg4
    ·exact Out.post_mono ky fun ys k=>by
      have e5:acc++[y]++ys=acc++((some y:Option D).toList++ys):=by simp
      rw[e5];exact k
 ·have ei:i=xs.length:=by omega
  subst ei
  rw[List.drop_length]at q'
  refine .inl ⟨dit.stop G' H' S'.g0 S'.sub S'.bs,?_⟩
  have q2:(if fits (acc++[]).length=true then Out.ok (D.lst (acc++[])) else .stuck).post _ C.XD:=q'
  rcases QQ q2 with⟨_,k⟩ | ⟨_,k⟩
  ·rw[List.append_nil]at k
   have hHH:Same H H':=fun b o eb=>S'.fr b o (by
    show upd H p (.lst []) b=some o
    rw[Qk (QU eb hp)];exact eb) (QU eb hp)
   have SG:StR C G' H' σ ς:=S.grow hHH S'.g0 S'.sub fun b h1 h2=>by
    have:=S'.new b h1 h2
    have this:upd H p (.lst []) b=none:=this
    by_cases hb:b=p
    ·subst hb;exact hp
    ·rw[Qk hb]at this;exact this
   exact k H' G' SG hHH S'.g0 hg' ⟨vs,hp',r'⟩
  ·exact k.elim
theorem compT(hi:∃ wi,PI C.X tg iter wi/\∀ G H σ ς (R:It->Hp->Prop),StR C G H σ ς->(its ς).post (fun ds=>∀ J H1 G1,StR C G1 H1 σ ς->Same H H1->Same G G1->DItB C.X.K C.CT H1 G1 J ds->R J H1) C.XD->wi σ H R)
 (hx:∀ x,¬ C.XD x) (hk:∀ ς,gKeep g (captD js ς)) (hne:noExc g)
 (hin:∀ fp s H G p,DG (ccOf C N' scope fp s H G p) tg g/\DIf (ccOf C N' scope fp s H G p) ifs c/\DE (ccOf C N' scope fp s H G p) elt e):
 ∃ wi,PI C.X tg iter wi/\∀ G H σ ς Q,StR C G H σ ς->(eComp js its g c e ς).post (KF C G H σ ς Q) C.XD->tComp C.X N' js scope tg elt ifs wi σ H Q:=by
 obtain⟨wi,pi,hq⟩:=hi
 refine⟨wi,pi,fun G H σ ς Q S k=>?_⟩
 unfold eComp at k
 rw[Out.post_bind]at k
 refine hq G H σ ς _ S (Out.post_mono k fun xs k J H1 G1 S1 a1 b1 dit p hp fp s=>?_)
 refine QMu S1 hp dit hx (hk ς) hne (hin fp s H1 G1 p) (Out.post_mono k fun d kd H' G' S' h1 g1 hg ow=>?_)
 exact kd p H' G' S' (a1.trans h1) (b1.trans g1) (a1.free hp) hg ow
theorem Qaa(hc:C.X.calm=true)(S:QK N' js scope C.X.env.scope C.X.N)(hi:DIB C tg iter its)(hk:∀ ς,gKeep g (captD js ς))(hne:noExc g)
 (hin:∀ fp s H G p,DG (ccOf C N' scope fp s H G p) tg g/\DIf (ccOf C N' scope fp s H G p) ifs c/\DE (ccOf C N' scope fp s H G p) elt e)
 (hx:∀ x,¬ C.XD x:=by exact fun _ h=>h) (hs:∀ x,foldedSetIterable iter C.X.env x=pure x:=by intro _;rfl):DF C (.ListComp elt [⟨tg,iter,ifs,0⟩] scope pos) (eComp js its g c e):=by
 obtain⟨wi,pi,h⟩:=compT hi hx hk hne hin
 exact⟨_,QNO hc S pi hs,h⟩
variable{i:Nat}{x:Str}{px spos:Pos}
theorem QoI(hc:C.X.calm=true)(S:QK N' js scope C.X.env.scope C.X.N)(hi:DIB C tg iter its)(hk:∀ ς,gKeep g (captD js ς))(hne:noExc g)
 (hin:∀ fp s H G p,DG (ccOf C N' scope fp s H G p) tg g/\DIf (ccOf C N' scope fp s H G p) ifs c/\DE (ccOf C N' scope fp s H G p) elt e)
 (hN:C.X.N.Nodup) (hxN:C.X.N[i]?=some x) (hl:Loc C.X.env.scope x)
 (hsw:swapsWith (.ListComp elt [⟨tg,iter,ifs,0⟩] scope pos) (some (.Name x px)) spos.line C.X.env=pure true:=by rfl)
 (hf:C.X.fn x=true∨C.X.env.scope.names.lookup x=some .local:=by first | exact .inl rfl | exact .inr rfl | assumption)
 (hx:∀ x,¬ C.XD x:=by exact fun _ h=>h) (hs:∀ x,foldedSetIterable iter C.X.env x=pure x:=by intro _;rfl):DS C (.Assign [.Name x px] (.ListComp elt [⟨tg,iter,ifs,0⟩] scope pos) spos) (sSet i (eComp js its g c e)):=by
 obtain⟨wi,pi,h⟩:=compT hi hx hk hne hin
 refine⟨_,QMX hc S pi hN hxN hl hsw hf hs,fun G H σ ς W S k=>?_⟩
 unfold sSet at k
 rw[Out.post_bind]at k
 exact h G H σ ς _ S (Out.post_mono k fun d k=>KD.ofF (Q:=fun v H1=>W.nx (σ.set i (some v)) H1) S fun v H1 G1 S1 a1 b1 r1=>k _ H1 G1 (S1.set i r1) b1)
end
end DL
namespace L2
open PySem PySem.Spec PyProof.Rows
def Its(x:Str):It:=⟨fun i _=>i<x.cps.size,fun i H v H'=>H'=H/\∃ c,x.cps[i]?=some c/\v=.str ⟨#[c]⟩,fun i _=>x.cps.size<=i⟩
section
variable{X:Cx}{tg:Expr}
theorem Qzd{P:Program}{w:World}{K:PySem.W.Frag}{tg:Expr}{x:Str}{ty:String}{t:Tok}(it:Addr)(hn:["enumerate","zip","dict_itemiterator","dict_reverseitemiterator","odict_iterator","itertools.zip_longest","itertools.pairwise"].contains ty=false)
 (hs:∀(A:Around)(i:Nat)(s:Shared)(Q:Value->Shared->Prop)(E:Value->Shared->Prop),s.heap.IsStrIter it ty x t i->Q (.ref it) s->wpAny (model P w) A (pyIter (.ref it)) Q E s)
 (W:∀ A':Around,A'.handled=none->Walks P w A' it [it] [it] x.cps.size (SignAt x) (fun i h=>h.IsStrIter it ty x t i)):Turn P w K tg (Its x) [it] it (fun i h=>h.IsStrIter it ty x t i/\i<=x.cps.size) where
 mem:=by simp
 obj:=fun i h st b hb=>by
  have e:b=it:=by simpa using hb
  subst e
  obtain⟨⟨o,e,c,d⟩,_⟩:=st
  exact⟨o,e,fun v z=>by rw[d]at z;cases z⟩
 keep:=fun i h h' st k=>⟨by obtain⟨⟨o,e,c,d⟩,_⟩:=st;exact⟨o,k it (by simp) o e,c,d⟩,st.2⟩
 item:=by
  intro X hP hw hK hc i pins s σ H E I hf st hg
  subst hP hw hK
  obtain⟨f0,f1,f2,f3,f4,f5⟩:=hf it (by simp)
  refine(W X.A (I.ok.hd hc)).item i s _ _ hg st.1 fun v h' tk hv st' kk=>?_
  obtain⟨c,u,hcx,rfl⟩:=hv
  have I1:Inv X pins σ H { s with heap:=h',toks:=tk }:=I.turned (fun b o hb e=>kk b o (by simpa using hb) e) f0 f1 f3 f4 f5
  obtain⟨o,e,c',d⟩:=id st'
  exact⟨_,rfl,go_of (s:={ s with heap:=h',toks:=tk }) e c' d hn ⟨.str ⟨#[c]⟩,H,I1,⟨u,rfl⟩,⟨rfl,c,hcx,rfl⟩,⟨st',hg⟩,fun b hb=>(hf b hb).1⟩⟩
 done:=by
  intro X hP hw hK hc i pins s σ H E I hf st hg
  subst hP hw hK
  obtain⟨f0,f1,f2,f3,f4,f5⟩:=hf it (by simp)
  have hg':x.cps.size<=i:=hg
  have e:i=x.cps.size:=Nat.le_antisymm st.2 hg'
  subst e
  exact(W X.A (I.ok.hd hc)).done s _ _ st.1 fun h' tk kk=>⟨rfl,I.turned (fun b o hb e=>kk b o (by simpa using hb) e) f0 f1 f3 f4 f5⟩
 self:=fun A i s Q E st h=>hs A i s Q E st.1 h
def iStr(tl:TE):TI:=fun σ H R=>tl σ H fun x H1=>∃ z,x=.str z/\R (Its z) H1
theorem QPj{l:Expr}{tl:TE}(hl:PE X l tl):PI X tg l (iStr tl):=by
 intro pins s σ H R I h
 refine thn (hl pins s σ H _ I h) fun v s1 ⟨x,H1,I1,r1,q1⟩=>?_
 obtain⟨z,e,q⟩:=q1
 subst e
 obtain⟨t,rfl⟩:=r1
 cases ha:z.cps.all (· < 128)
 ·refine wpAny_pyIter_wide ha ⟨s1.heap.objs.size,[s1.heap.objs.size],_,_,H1,rfl,I1.kept (t':=s1.toks) fun b o e=>Heap.get?_push_of_some _ e,Qzd (x:=z) (ty:="str_iterator") (t:=t) _ (by decide) (fun _ _ _ _ _ st h=>wpAny_pyIter_striter_wide st h) (fun A' hA=>Walks.strWide hA _ z t),⟨⟨_,Heap.get?_push_size _ rfl,rfl,rfl⟩,Nat.zero_le _⟩,fun b hb=>?_,q⟩
  have e:b=s1.heap.objs.size:=by simpa using hb
  subst e
  exact I1.fpOk (Nat.le_refl _) (I1.hok.fresh (Nat.le_refl _))
 ·refine wpAny_pyIter_ascii ha ⟨s1.heap.objs.size,[s1.heap.objs.size],_,_,H1,rfl,I1.kept (t':=s1.toks) fun b o e=>Heap.get?_push_of_some _ e,Qzd (x:=z) (ty:="str_ascii_iterator") (t:=t) _ (by decide) (fun _ _ _ _ _ st h=>wpAny_pyIter_striter_ascii st h) (fun A' hA=>Walks.strAscii hA _ z t),⟨⟨_,Heap.get?_push_size _ rfl,rfl,rfl⟩,Nat.zero_le _⟩,fun b hb=>?_,q⟩
  have e:b=s1.heap.objs.size:=by simpa using hb
  subst e
  exact I1.fpOk (Nat.le_refl _) (I1.hok.fresh (Nat.le_refl _))
theorem QKS(bs:List Bool):(List.range bs.length).all (fun i=>(bs[i]?).getD false)=bs.all id:=by
 rw[Bool.eq_iff_iff,List.all_eq_true,List.all_eq_true]
 constructor
 ·intro h b hb
  obtain⟨i,hi,e⟩:=List.mem_iff_getElem.mp hb
  have:=h i (List.mem_range.mpr hi)
  rw[List.getElem?_eq_getElem hi,Option.getD_some,e]at this
  exact this
 ·intro h i hi
  have hi':=List.mem_range.mp hi
  rw[List.getElem?_eq_getElem hi',Option.getD_some]
  exact h _ (List.getElem_mem hi')
theorem QK5(bs:List Bool):(List.range bs.length).any (fun i=>(bs[i]?).getD false)=bs.any id:=by
 rw[Bool.eq_iff_iff,List.any_eq_true,List.any_eq_true]
 constructor
 ·rintro ⟨i,hi,h⟩
  have hi':=List.mem_range.mp hi
  rw[List.getElem?_eq_getElem hi',Option.getD_some]at h
  exact⟨_,List.getElem_mem hi',h⟩
 ·rintro ⟨b,hb,h⟩
  obtain⟨i,hi,e⟩:=List.mem_iff_getElem.mp hb
  exact⟨i,List.mem_range.mpr hi,by rw[List.getElem?_eq_getElem hi,Option.getD_some,e];exact h⟩
theorem QJ6(hc:X.calm=true):CallR X (.builtin "all") (fun xs H Q=>∃(p:Addr)(bs:List Bool),xs=[.ref p]/\SqL X.K H p (bs.map V.bl)/\Q (.bl (bs.all id)) H):=by
 intro pins s σ H xs us Q I r h
 obtain⟨p,bs,rfl,hq,q⟩:=h
 obtain⟨u,rfl,rx⟩:=vals1 r
 cases rx
 obtain⟨its,rv,pl,hz⟩:=I.list hq
 have hlen:=rv.length
 refine call_all_walk ?_
 refine wpAny_pyIter_list pl.isList ?_
 have hp:p<s.heap.objs.size:=by obtain⟨o,n,ho,_⟩:=pl;exact Heap.lt_size ho
 have hne:p≠s.heap.objs.size:=Nat.ne_of_lt hp
 refine⟨_,_,_,_,_,_,fun i=>(bs[i]?).getD false,rfl,Walks.list (A:=X.A.in1) (I.ok.hd hc) _ p hne its.toArray,⟨⟨_,Heap.get?_push_size _ rfl,rfl,rfl⟩,pl.isList.at fun o e=>Heap.get?_push_of_some _ e⟩,?_,fun h' tk kk=>⟨.bl (bs.all id),H,?_,?_,q⟩⟩
 ·intro i v s2 Q2 E2 hv hQ2
  have hv':its[i]?=some v:=by simpa using hv
  have hi:i<bs.length:=by
   have:=(List.getElem?_eq_some_iff.mp hv').1
   rw[List.length_map]at hlen
   omega
  obtain⟨y,hy,ry⟩:=rv.get (i:=i) (x:=.bl bs[i]) (by rw[List.getElem?_map,List.getElem?_eq_getElem hi];rfl)
  rw[hv']at hy
  cases hy
  cases ry
  have hQ2:Q2 ((bs[i]?).getD false) s2:=hQ2
  rw[List.getElem?_eq_getElem hi,Option.getD_some]at hQ2
  exact wpAny_pure hQ2
 ·exact I.kept fun b o e=>kk b o (by
   intro hb
   have e2:b=s.heap.objs.size:=by simpa using hb
   subst e2
   exact absurd (Heap.lt_size e) (Nat.lt_irrefl _)) (Heap.get?_push_of_some _ e)
 ·rw[List.size_toArray, ← hlen,List.length_map,QKS];exact rfl
theorem QKg(hc:X.calm=true):CallR X (.builtin "any") (fun xs H Q=>∃(p:Addr)(bs:List Bool),xs=[.ref p]/\SqL X.K H p (bs.map V.bl)/\Q (.bl (bs.any id)) H):=by
 intro pins s σ H xs us Q I r h
 obtain⟨p,bs,rfl,hq,q⟩:=h
 obtain⟨u,rfl,rx⟩:=vals1 r
 cases rx
 obtain⟨its,rv,pl,hz⟩:=I.list hq
 have hlen:=rv.length
 refine call_any_walk ?_
 refine wpAny_pyIter_list pl.isList ?_
 have hp:p<s.heap.objs.size:=by obtain⟨o,n,ho,_⟩:=pl;exact Heap.lt_size ho
 have hne:p≠s.heap.objs.size:=Nat.ne_of_lt hp
 refine⟨_,_,_,_,_,_,fun i=>(bs[i]?).getD false,rfl,Walks.list (A:=X.A.in1) (I.ok.hd hc) _ p hne its.toArray,⟨⟨_,Heap.get?_push_size _ rfl,rfl,rfl⟩,pl.isList.at fun o e=>Heap.get?_push_of_some _ e⟩,?_,fun h' tk kk=>⟨.bl (bs.any id),H,?_,?_,q⟩⟩
 ·intro i v s2 Q2 E2 hv hQ2
  have hv':its[i]?=some v:=by simpa using hv
  have hi:i<bs.length:=by
   have:=(List.getElem?_eq_some_iff.mp hv').1
   rw[List.length_map]at hlen
   omega
  obtain⟨y,hy,ry⟩:=rv.get (i:=i) (x:=.bl bs[i]) (by rw[List.getElem?_map,List.getElem?_eq_getElem hi];rfl)
  rw[hv']at hy
  cases hy
  cases ry
  have hQ2:Q2 ((bs[i]?).getD false) s2:=hQ2
  rw[List.getElem?_eq_getElem hi,Option.getD_some]at hQ2
  exact wpAny_pure hQ2
 ·exact I.kept fun b o e=>kk b o (by
   intro hb
   have e2:b=s.heap.objs.size:=by simpa using hb
   subst e2
   exact absurd (Heap.lt_size e) (Nat.lt_irrefl _)) (Heap.get?_push_of_some _ e)
 ·rw[List.size_toArray, ← hlen,List.length_map,QK5];exact rfl
end
end L2
namespace DL
open PySem PySem.Spec PyProof.Rows L2
def signs(z:Str):List D:=z.cps.toList.map fun c=>D.str ⟨#[c]⟩
def itS(E:SD->Out D):SD->Out (List D):=fun ς=>E ς>>=fun d=>match d with | .str z=>.ok (signs z) | _=>.stuck
section
variable{C:Dc}{e tg iter a b:Expr}{E A B:SD->Out D}{pos p:Pos}{es:List Expr}{AA:SD->Out (List D)}
theorem QMY{K:PySem.W.Frag}{CT:CTab}{G1:Hp}{z:Str}:DIt K CT G1 (Its z) (signs z) where
 go:=fun G H i d s1 sH hd=>by
  unfold signs at hd
  rw[List.getElem?_map]at hd
  cases hc:z.cps.toList[i]? with
  | none=>rw[hc]at hd;cases hd
  | some c=>
   rw[hc]at hd
   cases hd
   have hi:i<z.cps.size:=by
    have:=(List.getElem?_eq_some_iff.mp hc).1
    simpa using this
   refine⟨hi,fun x H' ⟨e,c',h1,h2⟩=>?_⟩
   subst e h2
   have h1':z.cps.toList[i]?=some c':=by simpa using h1
   rw[hc]at h1'
   cases h1'
   exact⟨G,Same.refl _,Same.refl _,sH,fun b g n=>absurd g n,rfl⟩
 stop:=fun G H s1 sH=>by
  unfold signs
  show z.cps.size<=_
  rw[List.length_map];simp
theorem QN9(h:DB C iter E):DI C tg iter (itS E):=by
 obtain⟨t,p,q⟩:=h
 refine⟨_,QPj p,fun G H σ ς R S k=>?_⟩
 unfold itS at k
 rw[Out.post_bind]at k
 refine q G H σ ς _ S (Out.post_mono k fun d k v H1 G1 S1 a1 b1 r1=>?_)
 cases d with
 | str z=>cases r1;exact⟨z,rfl,k _ H1 G1 S1 a1 b1 QMY⟩
 | _=>exact k.elim
def dIn:D->D->Out D
 | .str x,.str y=>.ok (.bl (!(Builtin.Str.occurrences y x 0 y.length 1).isEmpty))
 | _,_=>.stuck
theorem QN3:DRS C (fun x y H Q=>∃ i j,x=.str i/\y=.str j/\Q (.bl (!(Builtin.Str.occurrences j i 0 j.length 1).isEmpty)) H) dIn:=by
 intro G H σ ς Q x y vx vy S hx hy q
 cases x with
 | str x=>
  cases y with
  | str y=>cases hx;cases hy;exact⟨x,y,rfl,rfl,q.2⟩
  | _=>exact q.elim
 | _=>cases y<;>exact q.elim
theorem QNY:scal2 dIn:=fun x y=>by cases x<;>cases y<;>first | exact rfl | exact True.intro
theorem de_in(ha:DB C a A)(hb:DB C b B)(hm:behindInMarks .In b=false:=by rfl):DE C (.Compare a [.In] [b] pos) (e2 dIn A B):=QB4 QKx QN3 QNY ha hb hm
def blsOf:List D->Option (List Bool)
 | []=>some []
 | .bl b::r=>(blsOf r).map (b :: ·)
 | _::_=>none
theorem Qr5{K:PySem.W.Frag}{CT:CTab}{H:Hp}:∀{ds:List D}{bs:List Bool}{vs:List V},blsOf ds=some bs->RepL K CT H ds vs->vs=bs.map V.bl
 | [],bs,vs,h,r=>by cases h;exact r
 | d::ds,bs,vs,h,⟨v,w,h1,h2,h3⟩=>by
  cases d with
  | bl b=>
   cases e:blsOf ds with
   | none=>rw[blsOf,e]at h;cases h
   | some cs=>
    rw[blsOf,e]at h
    cases h
    cases h2
    rw[h1,Qr5 e h3];rfl
  | _=>cases h
def fAll:D->Out D
 | .lst xs=>match blsOf xs with | some bs=>.ok (.bl (bs.all id)) | none=>.stuck
 | _=>.stuck
def fAny:D->Out D
 | .lst xs=>match blsOf xs with | some bs=>.ok (.bl (bs.any id)) | none=>.stuck
 | _=>.stuck
theorem Qi6(hc:C.X.calm=true)(hg:Gl C.X "all")(hm:C.X.mg "all"=none)(ha:DAB C (e::es) AA)
 (he:starEach (e::es) C.X.env=(false,eval e C.X.env)::starEach es C.X.env:=by rfl) (hpl:(backTo pos (starEach es C.X.env)).any (·.1)=false:=by rfl):DE C (.Call (.Name "all" p) (e::es) [] pos) (eA (f1 fAll) AA):=by
 refine Qun (QJ6 hc) (QC7 ?_) (QyF ?_) hg hm PyProof.Rows.Boot.«all» ha (by decide) (by decide) he hpl
 ·intro G H σ ς Q x v S r q
  cases x with
  | lst xs=>
   cases eb:blsOf xs with
   | none=>rw[fAll,eb]at q;exact q.elim
   | some bs=>
    rw[fAll,eb]at q
    obtain⟨a,vs,rfl,h2,h3⟩:=r
    rw[Qr5 eb h3]at h2
    exact⟨a,bs,rfl,h2,q.2⟩
  | _=>exact q.elim
 ·intro x
  cases x with
  | lst xs=>
   rw[fAll]
   cases blsOf xs with
   | none=>exact True.intro
   | some bs=>exact rfl
  | _=>exact True.intro
theorem QPh(hc:C.X.calm=true)(hg:Gl C.X "any")(hm:C.X.mg "any"=none)(ha:DAB C (e::es) AA)
 (he:starEach (e::es) C.X.env=(false,eval e C.X.env)::starEach es C.X.env:=by rfl) (hpl:(backTo pos (starEach es C.X.env)).any (·.1)=false:=by rfl):DE C (.Call (.Name "any" p) (e::es) [] pos) (eA (f1 fAny) AA):=by
 refine Qun (QKg hc) (QC7 ?_) (QyF ?_) hg hm PyProof.Rows.Boot.«any» ha (by decide) (by decide) he hpl
 ·intro G H σ ς Q x v S r q
  cases x with
  | lst xs=>
   cases eb:blsOf xs with
   | none=>rw[fAny,eb]at q;exact q.elim
   | some bs=>
    rw[fAny,eb]at q
    obtain⟨a,vs,rfl,h2,h3⟩:=r
    rw[Qr5 eb h3]at h2
    exact⟨a,bs,rfl,h2,q.2⟩
  | _=>exact q.elim
 ·intro x
  cases x with
  | lst xs=>
   rw[fAny]
   cases blsOf xs with
   | none=>exact True.intro
   | some bs=>exact rfl
  | _=>exact True.intro
theorem QMo{X:Cx}:PE X (.Dict [] [] pos) (fun _ H Q=>∀ p,H p=none->Q (.ref p) (upd H p (.dK []))):=fun pins s σ H Q I h=>by
 have hb:sysModules<s.heap.objs.size:=Nat.lt_trans (by decide) (show mainGlobals<s.heap.objs.size from(I.mod.glob.keeps I.bk).lt)
 exact wpAny_Dict_empty ⟨.ref s.heap.objs.size,_,I.laid (a:=s.heap.objs.size) (o:=.dK []) (t':=s.toks) (fun _ _ q=>Heap.get?_push_of_some _ q) (Nat.le_refl _)
  ⟨Nat.zero_le _,beq_eq_false_iff_ne.mpr (Ne.symm (Nat.ne_of_lt hb)),[],.nil,Heap.DictOf.new s.heap⟩,rfl,h _ (I.hok.fresh (Nat.le_refl _))⟩
def eDic0:SD->Out D:=fun _=>.ok (.dic [])
theorem QNb:DF C (.Dict [] [] pos) eDic0:=⟨_,QMo,fun G H σ ς Q S q p hp=>by
 have q:KF C G H σ ς Q (.dic []):=q
 exact q p _ G (S.allocO hp) (Qy hp) (Same.refl _) hp (S.gnone hp) ⟨[],QG,rfl⟩⟩
end
end DL
namespace DL
open PySem PySem.Spec PyProof.Rows L2
def ctOf(K:PySem.W.Frag):CTab:=fun c=>match PySem.W.nsIn K mainGlobals c with | some (some (.ref a))=>some a | _=>none
theorem ct_of{K:PySem.W.Frag}{c:Str}{a:Addr}(h:PySem.W.nsIn K mainGlobals c=some (some (.ref a))):ctOf K c=some a:=by unfold ctOf;rw[h]
structure Rz(C:Dc)(E:XK):Prop where
 pass:Qhd (CXR C.X.prog C.X.w) C.X E
 xd:∀ d,C.XD d->∃ c Cc,d=.err c/\C.CT c=some Cc/\∀ H',(∀ b o,C.X.H₀ b=some o->¬ C.M b->H' b=some o)->E (.ref Cc) none H'
 made:∀(Cc:Addr) pins σ H1 s1 ea h' vs,Inv C.X pins σ H1 s1->Heap.MadeExcOf s1.heap h' ea (.ref Cc) vs->E (.ref Cc) none H1->C.X.xe (.ref ea) { s1 with heap:=h' }
 calm:C.X.calm=true
theorem rz0{C:Dc}(hx:∀ d,¬ C.XD d:=by exact fun _ h=>h)(hc:C.X.calm=true:=by rfl):Rz C E0 where
 pass:=fun pins σ H s e s' I h=>by obtain⟨_,_,_,_,_,_,_,z⟩:=h;exact z.elim
 xd:=fun d h=>absurd h (hx d)
 made:=fun Cc pins σ H1 s1 ea h' vs I hx hE=>hE.elim
 calm:=hc
abbrev Dc.nox(C:Dc):Dc:={ C with X:=C.X.nox,XD:=fun _=>False }
def noX{α:Type}:Out α->Out α
 | .exc _=>.stuck
 | o=>o
theorem QPd{α:Type}(a:α):noX (.ok a)=.ok a:=rfl
theorem QDd{α:Type}{o:Out α}{k:α->Prop}{x:D->Prop}(h:(noX o).post k x):o.post k (fun _=>False):=by cases o<;>exact h
section
variable{C:Dc}{G H:Hp}{σ:St}{ς:SD}{e:Expr}{es:List Expr}{st:Stmt}{sts:List Stmt}
theorem GH.nox(S:GH C G H):GH C.nox G H:=⟨S.sub,S.g0,S.new,S.fr,S.dom,S.bs,S.bh⟩
theorem GH.unnox(S:GH C.nox G H):GH C G H:=⟨S.sub,S.g0,S.new,S.fr,S.dom,S.bs,S.bh⟩
theorem StR.nox(S:StR C G H σ ς):StR C.nox G H σ ς:=⟨S.toGH.nox,S.len,S.fz,S.ow,S.ln,S.inj,S.sf,S.su⟩
theorem StR.unnox(S:StR C.nox G H σ ς):StR C G H σ ς:=⟨S.toGH.unnox,S.len,S.fz,S.ow,S.ln,S.inj,S.sf,S.su⟩
theorem PA.nox'{X:Cx}{t:TA}(h:PA X.nox es t):PA X es t:=fun pos pins s σ H Q I q=>PA.nox h I q
theorem DA.lift{A:SD->Out (List D)}(h:DA C.nox es A):DA C es (fun ς=>noX (A ς)):=by
 obtain⟨t,p,q⟩:=h
 exact⟨t,PA.nox' p,fun G H σ ς Q S k=>q G H σ ς Q S.nox (Out.post_mono (QDd k) fun d kd v H' G' S' a b r=>kd v H' G' S'.unnox a b r)⟩
theorem FlK.nox{W:Ends}{f:Fl}(h:FlK C G W f):FlK C.nox G W f:=by
 cases f with
 | nx ς=>exact fun σ' H' G' S q=>h σ' H' G' S.unnox q
 | bk ς=>exact fun σ' H' G' S q=>h σ' H' G' S.unnox q
 | ct ς=>exact fun σ' H' G' S q=>h σ' H' G' S.unnox q
 | rt b d=>exact fun v H' G' S q r=>h v H' G' S.unnox q r
theorem PS.nox'{X:Cx}{t:TS}(h:PS X.nox st t):PS X st t:=fun pins s σ H D I hw=>
 wpAny_mono (h pins s σ H D (I.wish _) hw) (fun _ _ q=>q.unwish) fun _ _ z=>False.elim z
theorem DS.lift{T:SD->Out Fl}(h:DS C.nox st T):DS C st (fun ς=>noX (T ς)):=by
 obtain⟨t,p,q⟩:=h
 exact⟨t,PS.nox' p,fun G H σ ς W S k=>q G H σ ς W S.nox (Out.post_mono (QDd k) fun f kf=>kf.nox)⟩
variable{x:Str}{k:Nat}{fr:Bool}{dd:List D}{m:List D->Out D}{A:SD->Out (List D)}{p pos:Pos}{E:XK}
end
end DL
namespace DL
open PySem PySem.Spec PyProof.Rows L2
section
variable{C:Dc}{x:Str}{k:Nat}{fr:Bool}{dd:List D}{m:List D->Out D}{e:Expr}{es:List Expr}{A:SD->Out (List D)}{p pos:Pos}
variable{T U:SD->Out FX}{TE:SD->Out EX}{st:Stmt}{sts rest:List Stmt}{i:Nat}{px:Pos}
section
variable{G H:Hp}{σ:St}{ς:SD}{ea:Addr}
end
end
end DL
namespace L2
open PySem PySem.Spec PyProof.Rows
end L2
namespace DL
open PySem PySem.Spec PyProof.Rows L2
section
variable{C:Dc}{pos p:Pos}{e cx:Expr}{E:SD->Out D}
end
end DL
namespace L2
open PySem PySem.Spec PyProof.Rows
def Itz(K:PySem.W.Frag)(a b:Addr):It:=
 ⟨fun i H=>∃ xs ys x y,SqL K H a xs/\SqL K H b ys/\xs[i]?=some x/\ys[i]?=some y,
  fun i H v H'=>∃ p x y,H p=none/\v=.ref p/\H'=upd H p (.tup [x,y])/\(∀ xs,SqL K H a xs->xs[i]?=some x)/\∀ ys,SqL K H b ys->ys[i]?=some y,
  fun i H=>∃ xs ys,SqL K H a xs/\SqL K H b ys/\(xs.length<=i∨ys.length<=i)⟩
theorem QLW{P:Program}{w:World}{K:PySem.W.Frag}{elts:List Expr}{k1:Nat}{pos:Pos}{z TI TO i1 i2 l1 l2:Addr}(D:ZipApart z TI TO i1 i2 l1 l2):
 Turn P w K (.Tuple elts k1 pos) (Itz K l1 l2) [z,TI,TO,i1,i2] z (fun i h=>IsZip h z TI TO .none/\IsPair h TI (.ref i1) (.ref i2)/\(∃ a b,IsPair h TO a b)/\h.IsListIter i1 l1 i/\h.IsListIter i2 l2 i) where
 mem:=by simp
 obj:=fun i h st b hb=>by
  obtain⟨s1,s2,⟨_,_,s3⟩,⟨o4,e4,c4,d4⟩,⟨o5,e5,c5,d5⟩⟩:=st
  simp only[List.mem_cons,List.not_mem_nil,or_false]at hb
  rcases hb with rfl | rfl | rfl | rfl | rfl
  ·exact⟨_,s1,fun v q=>by cases q⟩
  ·exact⟨_,s2,fun v q=>by cases q⟩
  ·exact⟨_,s3,fun v q=>by cases q⟩
  ·exact⟨_,e4,fun v q=>by rw[d4]at q;cases q⟩
  ·exact⟨_,e5,fun v q=>by rw[d5]at q;cases q⟩
 keep:=fun i h h' st k=>by
  obtain⟨s1,s2,⟨a,b,s3⟩,s4,s5⟩:=st
  exact⟨k z (by simp) _ s1,k TI (by simp) _ s2,⟨a,b,k TO (by simp) _ s3⟩,s4.at fun o e=>k i1 (by simp) o e,s5.at fun o e=>k i2 (by simp) o e⟩
 item:=by
  intro X hP hw hK hc i pins s σ H E I hf st hg
  subst hP hw hK
  obtain⟨xs,ys,x,y,q1,q2,hx,hy⟩:=hg
  obtain⟨its1,rv1,p1,hz1⟩:=I.list q1
  obtain⟨its2,rv2,p2,hz2⟩:=I.list q2
  obtain⟨u1,hu1,ru1⟩:=rv1.get hx
  obtain⟨u2,hu2,ru2⟩:=rv2.get hy
  obtain⟨s1,s2,⟨a,b,s3⟩,s4,s5⟩:=st
  refine wpAny_pyNext_zip_item D s1 s2 s3 s4 s5 p1.isList p2.isList (x:=u1) (y:=u2) (by simpa using hu1) (by simpa using hu2) fun h' a1 a2 a3 a4 a5 a6 hk=>?_
  have hT:H s.heap.objs.size=none:=I.hok.fresh (Nat.le_refl _)
  have fp:∀ c∈[z,TO,i1,i2],FpOk X pins H c:=fun c hc=>hf c (by
   simp only[List.mem_cons,List.not_mem_nil,or_false]at hc ⊢
   rcases hc with rfl | rfl | rfl | rfl<;>simp)
  have out:∀ c,c∉[z,TO,i1,i2]->∀ o,s.heap.get? c=some o->h'.get? c=some o:=fun c hc o e=>hk c o (fun q=>hc (by simp[q])) (fun q=>hc (by simp[q])) (fun q=>hc (by simp[q])) (fun q=>hc (by simp[q])) e
  have trk:∀ c o,H c=some o->c∉[z,TO,i1,i2]:=fun c o e hc=>by rw[(fp c hc).1]at e;cases e
  have hok:HOk X.prog X.w (upd H s.heap.objs.size (.tup [x,y])) h':=fun c o e=>by
   by_cases hcT:c=s.heap.objs.size
   ·subst hcT
    rw[QG]at e
    cases e
    exact⟨by show 2<=sizeLine;decide,[u1,u2],.cons ru1 (.cons ru2 .nil),⟨_,a5,rfl,_,rfl⟩⟩
   ·rw[Qk hcT]at e
    refine(I.hok c o e).stay (fun b u hb q=>out b ?_ u q) (fun b q=>?_) fun b ts q=>?_
    ·rcases hb with rfl | hb
     ·exact trk b _ e
     ·exact trk b _ hb
    ·rw[Qk (QU q hT)];exact q
    ·rw[Qk (QU q hT)];exact q
  have I1:Inv X pins σ (upd H s.heap.objs.size (.tup [x,y])) { s with heap:=h',gens:=s.gens,drawn:=s.drawn,toks:=s.toks }:=I.step (ch:=[z,TO,i1,i2])
   (fun c hc=>⟨(fp c hc).2.2.2.1,(fp c hc).2.1,(fp c hc).2.2.2.2.1,(fp c hc).2.2.2.2.2⟩) (fun c o _ _ hc e _=>out c hc o e) (fun c o _ _ hc e _=>⟨o.slots,out c hc o e⟩)
   (fun c o hc e n=>by rw[Qk (Nat.ne_of_lt (Heap.lt_size e))];exact n) (fun c o hc e=>⟨o,out c hc o e⟩)
   (fun c ts e=>by rw[Qk (QU e hT)];exact e) (fun c o u e=>by rw[Qk (QU e hT)];exact e) (fun c ts e=>⟨#[],by rw[Qk (QU e hT),e];simp⟩)
   (fun m hm=>by
    obtain⟨o,es,ep,ho,r⟩:=hm
    exact⟨o,es,ep,out _ (fun hc=>(fp _ hc).2.1 rfl) o ho,r⟩) hok I.bare
  have lt:∀{c o},s.heap.get? c=some o->s.heap.objs.size≠c:=fun e=>Nat.ne_of_gt (Heap.lt_size e)
  refine⟨_,rfl,wpAny_letOwnedTupleGo_zip a1 fun h2 hz2 hs2=>?_⟩
  obtain⟨z0,z1,z2,z3,z4,z5⟩:=hf z (by simp)
  have I2:Inv X pins σ (upd H s.heap.objs.size (.tup [x,y])) { s with heap:=h2 }:=Inv.turned (s:={ s with heap:=h',gens:=s.gens,drawn:=s.drawn,toks:=s.toks }) (t':=s.toks) (it:=z) I1 (fun b o hb e=>(hs2.2 b hb).trans e) (by rw[Qk (lt s1).symm];exact z0) z1 z3 z4 z5
  refine⟨.ref s.heap.objs.size,_,I2,rfl,⟨_,x,y,hT,rfl,rfl,fun xs' q'=>by rw[I.list_inj q' q1];exact hx,fun ys' q'=>by rw[I.list_inj q' q2];exact hy⟩,
   ⟨hz2,hs2.extBut _ _ D.TIz (out TI (by simp[D.TIz,D.TITO,D.TIi1,D.TIi2]) _ s2),⟨_,_,hs2.extBut _ _ D.TOz a2⟩,a3.extBut hs2.extBut D.i1z,a4.extBut hs2.extBut D.i2z⟩,fun c hc=>?_⟩
  have:H c=none:=(hf c hc).1
  obtain⟨oc,hoc⟩:∃ o,s.heap.get? c=some o:=by
   simp only[List.mem_cons,List.not_mem_nil,or_false]at hc
   rcases hc with rfl | rfl | rfl | rfl | rfl
   ·exact⟨_,s1⟩
   ·exact⟨_,s2⟩
   ·exact⟨_,s3⟩
   ·obtain⟨o,e,_⟩:=s4;exact⟨o,e⟩
   ·obtain⟨o,e,_⟩:=s5;exact⟨o,e⟩
  rw[Qk (lt hoc).symm];exact this
 done:=by
  intro X hP hw hK hc i pins s σ H E I hf st hg
  subst hP hw hK
  obtain⟨xs,ys,q1,q2,hend⟩:=hg
  obtain⟨its1,rv1,p1,hz1⟩:=I.list q1
  obtain⟨its2,rv2,p2,hz2⟩:=I.list q2
  have l1:=rv1.length
  have l2:=rv2.length
  obtain⟨s1,s2,⟨a,b,s3⟩,s4,s5⟩:=st
  have fp:∀ c∈[z,TO,i1,i2],FpOk X pins H c:=fun c hc=>hf c (by
   simp only[List.mem_cons,List.not_mem_nil,or_false]at hc ⊢
   rcases hc with rfl | rfl | rfl | rfl<;>simp)
  refine wpAny_pyNext_zip_end (I.ok.hd hc) D s1 s2 s3 s4 s5 p1.isList p2.isList (by simp;omega) fun h' hk=>⟨rfl,?_⟩
  have out:∀ c,c∉[z,TO,i1,i2]->∀ o,s.heap.get? c=some o->h'.get? c=some o:=fun c hc o e=>hk c o (fun q=>hc (by simp[q])) (fun q=>hc (by simp[q])) (fun q=>hc (by simp[q])) (fun q=>hc (by simp[q])) e
  have trk:∀ c o,H c=some o->c∉[z,TO,i1,i2]:=fun c o e hc=>by rw[(fp c hc).1]at e;cases e
  exact I.step (g':=s.gens) (d':=s.drawn) (t':=s.toks) (ch:=[z,TO,i1,i2]) (fun c hc=>⟨(fp c hc).2.2.2.1,(fp c hc).2.1,(fp c hc).2.2.2.2.1,(fp c hc).2.2.2.2.2⟩) (fun c o _ _ hc e _=>out c hc o e) (fun c o _ _ hc e _=>⟨o.slots,out c hc o e⟩)
   (fun c o hc e n=>n) (fun c o hc e=>⟨o,out c hc o e⟩) (fun c ts e=>e) (fun c o u e=>e) (fun c ts e=>⟨#[],by rw[e];simp⟩)
   (fun m hm=>by
    obtain⟨o,es,ep,ho,r⟩:=hm
    exact⟨o,es,ep,out _ (fun hc=>(fp _ hc).2.1 rfl) o ho,r⟩)
   (fun c o e=>(I.hok c o e).stay (fun b u hb q=>out b (by
    rcases hb with rfl | hb
    ·exact trk b _ e
    ·exact trk b _ hb) u q) (fun b q=>q) fun b ts q=>q) I.bare
 self:=fun _ _ _ _ _ st h=>wpAny_pyIter_zip st.1 h
section
variable{X:Cx}
theorem QLs(n l1 l2:Nat)(h1:l1<n)(h2:l2<n):ZipApart (n+4) (n+2) (n+3) n (n+1) l1 l2:=⟨(show ¬ ((n+2:Nat)=n+4) by omega),(show ¬ ((n+3:Nat)=n+4) by omega),(show ¬ ((n:Nat)=n+4) by omega),(show ¬ ((n+1:Nat)=n+4) by omega),(show ¬ ((n+2:Nat)=n+3) by omega),(show ¬ ((n+2:Nat)=n) by omega),(show ¬ ((n+2:Nat)=n+1) by omega),(show ¬ ((n+3:Nat)=n) by omega),(show ¬ ((n+3:Nat)=n+1) by omega),(show ¬ ((n:Nat)=n+1) by omega),(show ¬ ((l1:Nat)=n+4) by omega),(show ¬ ((l1:Nat)=n+3) by omega),(show ¬ ((l1:Nat)=n) by omega),(show ¬ ((l1:Nat)=n+1) by omega),(show ¬ ((l2:Nat)=n+4) by omega),(show ¬ ((l2:Nat)=n+3) by omega),(show ¬ ((l2:Nat)=n) by omega),(show ¬ ((l2:Nat)=n+1) by omega)⟩
def iZip(K:PySem.W.Frag)(ta:TA):TI:=fun σ H R=>ta σ H fun vs H1=>∃ a b,vs=[.ref a,.ref b]/\(∃ xs,SqL K H1 a xs)/\(∃ ys,SqL K H1 b ys)/\R (Itz K a b) H1
theorem QO5{elts:List Expr}{k1:Nat}{tpos:Pos}{a b:Expr}{ta:TA}{p pos:Pos}(hg:Gl X "zip")(hm:X.mg "zip"=none)(ha:PA X [a,b] ta)(hs:starEach [a,b] X.env=[(false,eval a X.env),(false,eval b X.env)]:=by rfl)(hs2:starEach [b] X.env=[(false,eval b X.env)]:=by rfl):
 PI X (.Tuple elts k1 tpos) (.Call (.Name "zip" p) [a,b] [] pos) (iZip X.K ta):=by
 intro pins s σ H R I h
 refine Call_ (Qi1 I hg hm PyProof.Rows.Boot.«zip» (PyProof.Rows.callWith_type1 (thn (ha pos pins s σ H _ I h) fun us s1 ⟨vs,H1,I1,r1,q1⟩=>?_) (by rw[hs,hs2]) (by rw[hs2];rfl)))
 obtain⟨l1,l2,e,⟨xs,hx⟩,⟨ys,hy⟩,q⟩:=q1
 subst e
 cases r1 with
 | cons r rr=>
  cases rr with
  | cons r' rr=>
   cases rr
   cases r
   cases r'
   obtain⟨its1,rv1,p1,hz1⟩:=I1.list hx
   obtain⟨its2,rv2,p2,hz2⟩:=I1.list hy
   have n1:l1<s1.heap.objs.size:=by obtain⟨o,n,ho,_⟩:=p1;exact Heap.lt_size ho
   have n2:l2<s1.heap.objs.size:=by obtain⟨o,n,ho,_⟩:=p2;exact Heap.lt_size ho
   refine call_zip_2 p1.isList p2.isList fun h' c1 c2 c3 c4 c5 c6 hk=>?_
   refine wpAny_pyIter_zip c1 ?_
   refine⟨_,_,_,Itz X.K l1 l2,H1,rfl,I1.kept (t':=s1.toks) fun b o e=>hk b o e,QLW (i1:=s1.heap.objs.size) (i2:=s1.heap.objs.size+1) (TI:=s1.heap.objs.size+2) (TO:=s1.heap.objs.size+3) (z:=s1.heap.objs.size+4) (l1:=l1) (l2:=l2)
    (QLs s1.heap.objs.size l1 l2 n1 n2),⟨c1,c2,⟨_,_,c3⟩,c4,c5⟩,fun b hb=>?_,q⟩
   have hb':s1.heap.objs.size<=b:=by
    simp only[List.mem_cons,List.not_mem_nil,or_false]at hb
    rcases hb with rfl | rfl | rfl | rfl | rfl<;>omega
   exact I1.fpOk hb' (I1.hok.fresh hb')
end
end L2
namespace DL
open PySem PySem.Spec PyProof.Rows L2
def itZ(A B:SD->Out D):SD->Out (List D):=fun ς=>A ς>>=fun x=>B ς>>=fun y=>match x,y with
 | .lst xs,.lst ys=>.ok (List.zipWith (fun a b=>.tup [a,b]) xs ys)
 | _,_=>.stuck
section
variable{C:Dc}{a b:Expr}{A B:SD->Out D}
theorem QNQ{K:PySem.W.Frag}{CT:CTab}{G1:Hp}{p q:Addr}{xs ys:List D}{us vs:List V}(h1:SqL K G1 p us)(r1:RepL K CT G1 xs us)(h2:SqL K G1 q vs)(r2:RepL K CT G1 ys vs):DIt K CT G1 (Itz K p q) (List.zipWith (fun a b=>D.tup [a,b]) xs ys) where
 go:=fun G H i d s1 sH hd=>by
  rw[List.getElem?_zipWith]at hd
  cases e1:xs[i]? with
  | none=>rw[e1]at hd;cases hd
  | some x=>
   cases e2:ys[i]? with
   | none=>rw[e1,e2]at hd;cases hd
   | some y=>
    rw[e1,e2]at hd
    cases hd
    obtain⟨u,hu,ru⟩:=r1.get e1
    obtain⟨v,hv,rv⟩:=r2.get e2
    have q1:SqL K H p us:=sH.seq (s1.seq h1)
    have q2:SqL K H q vs:=sH.seq (s1.seq h2)
    refine⟨⟨us,vs,u,v,q1,q2,hu,hv⟩,fun w H' ⟨t,x',y',n,e,e',k1,k2⟩=>?_⟩
    have z1:=k1 us q1
    have z2:=k2 vs q2
    rw[hu]at z1;cases z1
    rw[hv]at z2;cases z2
    subst e e'
    have gn:G t=none:=sH.free n
    refine⟨upd G t (.tup [u,v]),Qy gn,Qy n,Qsr sH,fun b g g'=>?_,t,[u,v],rfl,SqT.of QG,⟨u,_,rfl,Rep.mono (s1.trans (Qy gn)) x u ru,v,_,rfl,Rep.mono (s1.trans (Qy gn)) y v rv,rfl⟩⟩
    by_cases hb:b=t
    ·subst hb;exact n
    ·rw[Qk hb]at g';exact absurd g g'
 stop:=fun G H s1 sH=>by
  refine⟨us,vs,sH.seq (s1.seq h1),sH.seq (s1.seq h2),?_⟩
  have l1:=r1.length
  have l2:=r2.length
  rw[List.length_zipWith]
  omega
theorem QKl{elts:List Expr}{k1:Nat}{tpos p pos:Pos}(hgl:Gl C.X "zip")(hm:C.X.mg "zip"=none)(ha:DE C a A)(hb:DE C b B)
 (hst:starEach [a,b] C.X.env=(false,eval a C.X.env)::starEach [b] C.X.env:=by rfl) (hst2:starEach [b] C.X.env=(false,eval b C.X.env)::starEach [] C.X.env:=by rfl):DI C (.Tuple elts k1 tpos) (.Call (.Name "zip" p) [a,b] [] pos) (itZ A B):=by
 obtain⟨t0,p0,q0⟩:=ha
 obtain⟨t3,p3,q3⟩:=hb
 refine⟨_,QO5 hgl hm (Qbh p0 (Qbh p3 Qc6 hst2) hst) (by rw[hst,hst2];rfl) (by rw[hst2];rfl),fun G H σ ς R S k=>?_⟩
 unfold itZ at k
 rw[Out.post_bind]at k
 refine q0 G H σ ς _ S (Out.post_mono k fun d k v H1 G1 S1 a1 b1 r=>?_)
 rw[Out.post_bind]at k
 refine q3 G1 H1 σ ς _ S1 (Out.post_mono k fun d2 k v2 H2 G2 S2 a2 b2 r'=>?_)
 cases d with
 | lst xs=>
  cases d2 with
  | lst ys=>
   obtain⟨p1,us,rfl,h1,r1⟩:=Rep.mono b2 _ v r
   obtain⟨p2,vs,rfl,h2,r2⟩:=r'
   exact⟨p1,p2,rfl,⟨us,S2.sub.seq h1⟩,⟨vs,S2.sub.seq h2⟩,k _ H2 G2 S2 (a1.trans a2) (b1.trans b2) (QNQ h1 r1 h2 r2)⟩
  | _=>exact k.elim
 | _=>exact k.elim
end
end DL
namespace DL
open PySem PySem.Spec PyProof.Rows L2
def putD(f:Str)(d:D):List (Str×D)->List (Str×D)
 | []=>[(f,d)]
 | (g,x)::r=>if g=f then(g,d)::r else(g,x)::putD f d r
section
variable{K:PySem.W.Frag}{CT:CTab}{H H':Hp}
theorem RepF.look:∀{fds:List (Str×D)}{fs:List (Str×V)}{f:Str},RepF K CT H fds fs->(∀ d,fds.lookup f=some d->∃ v,fs.lookup f=some v/\Rep K CT H d v)/\(fds.lookup f=none->fs.lookup f=none)
 | [],_,f,h=>by cases h;exact⟨fun d z=>(by cases z),fun _=>rfl⟩
 | (k,d)::fds,_,f,⟨v,r,h1,h2,h3⟩=>by
  subst h1
  have ih:=RepF.look (f:=f) h3
  rw[List.lookup_cons,List.lookup_cons]
  cases f == k with
  | true=>exact⟨fun d' z=>by cases z;exact⟨v,rfl,h2⟩,fun z=>by cases z⟩
  | false=>exact ih
theorem RepF.len:∀{fds:List (Str×D)}{fs:List (Str×V)},RepF K CT H fds fs->fds.length=fs.length
 | [],_,h=>by cases h;rfl
 | (k,d)::fds,_,⟨v,r,h1,h2,h3⟩=>by subst h1;rw[List.length_cons,List.length_cons,RepF.len h3]
theorem RepF.put{f:Str}{d:D}{v:V}(q:Rep K CT H d v):∀{fds:List (Str×D)}{fs:List (Str×V)},RepF K CT H fds fs->RepF K CT H (putD f d fds) (putF f v fs)
 | [],_,h=>by cases h;exact⟨v,[],rfl,q,rfl⟩
 | (k,x)::fds,_,⟨u,r,h1,h2,h3⟩=>by
  subst h1
  unfold putD putF
  by_cases hk:k=f
  ·rw[if_pos hk,if_pos hk];exact⟨v,r,rfl,q,h3⟩
  ·rw[if_neg hk,if_neg hk];exact⟨u,_,rfl,h2,RepF.put q h3⟩
end
def FldOk(K:PySem.W.Frag)(CT:CTab)(cs:List Str)(f:Str):Prop:=∀ c,cs.contains c=true->∀ A,CT c=some A->Cls K A/\Qk7 K A f
def dFld(cs:List Str)(f:Str):D->Out D
 | .ins c fs=>if cs.contains c=true then optO (fs.lookup f) else .stuck
 | _=>.stuck
section
variable{C:Dc}{e:Expr}{E:SD->Out D}{f:Str}{cs:List Str}{pos:Pos}
theorem QiY(hF:FldOk C.X.K C.CT cs f)(h:DE C e E)(hb:attributeBase e f C.X.env (eval e C.X.env)=eval e C.X.env:=by rfl):DE C (.Attribute e f pos) (e1 (dFld cs f) E):=by
 obtain⟨t,p,q⟩:=h
 refine⟨_,QOi p hb,fun G H σ ς Q S k=>?_⟩
 unfold e1 at k
 rw[Out.post_bind]at k
 refine q G H σ ς _ S (Out.post_mono k fun d k v H1 G1 S1 a1 b1 r=>?_)
 cases d with
 | ins c fds=>
  rcases QQ k with⟨hc,k⟩ | ⟨_,k⟩
  ·obtain⟨d,e1',kd⟩:=QcM k
   obtain⟨a,A,dx,fs,rfl,h1,h2,h3⟩:=r
   obtain⟨v,e2',rv⟩:=(RepF.look h3).1 d e1'
   obtain⟨cl,na⟩:=hF c hc A h1
   exact⟨a,A,dx,fs,v,rfl,S1.sub _ _ h2,cl,na,e2',KD.now (KD.later kd a1 b1) S1 rv⟩
  ·exact k.elim
 | _=>exact k.elim
theorem StR.writeS{G H:Hp}{σ:St}{ς:SD}(S:StR C G H σ ς){i:Nat}{p A dx:Addr}{c:Str}{fds fds':List (Str×D)}{fs':List (Str×V)}(hi:ς[i]?=some (some (.s,.ins c fds)))(hp:σ[i]?=some (some (.ref p)))(hc:C.CT c=some A)(r:RepF C.X.K C.CT G fds' fs'):
 StR C G (upd H p (.ins A dx fs')) σ (ς.set i (some (.s,.ins c fds'))):=by
 obtain⟨p',e1,hg,h0,⟨hM,hW⟩,hB,ow⟩:=S.sf i _ hi
 rw[hp]at e1;cases e1
 have ne:∀ b o,G b=some o->b≠p:=fun b o e z=>by subst z;rw[hg]at e;cases e
 have S':StR C G (upd H p (.ins A dx fs')) (σ.set i (some (.ref p))) (ς.set i (some (.s,.ins c fds'))):={
  sub:=fun b o e=>by rw[Qk (ne b o e)];exact S.sub b o e
  g0:=S.g0
  new:=S.new
  fr:=fun b o e m=>by
   rw[Qk (by rintro rfl;exact m hM)];exact S.fr b o e m
  dom:=fun b e=>by
   by_cases hb:b=p
   ·subst hb;rw[QG]at e;cases e
   ·rw[Qk hb]at e;exact S.dom b e
  bs:=fun b o e=>by
   rw[Qk (by rintro rfl;rw[hB]at e;cases e)];exact S.bs b o e
  bh:=S.bh
  len:=by rw[List.length_set,List.length_set];exact S.len
  fz:=fun j d h=>by
   rcases Qs h with⟨rfl,h2,l⟩ | ⟨hne,h2⟩
   ·cases h2
   ·rw[Qm hne];exact S.fz j d h2
  ow:=fun j d h=>by
   rcases Qs h with⟨rfl,h2,l⟩ | ⟨hne,h2⟩
   ·cases h2
   ·rw[Qm hne]
    obtain⟨q,a,b,c',w⟩:=S.ow j d h2
    have qp:q≠p:=by
     rintro rfl
     exact h0 c'
    exact⟨q,a,b,c',w.mono (Same.refl G) fun o z=>by rw[Qk qp];exact z⟩
  ln:=fun j d h=>by
   rcases Qs h with⟨rfl,h2,l⟩ | ⟨hne,h2⟩
   ·cases h2
   ·rw[Qm hne];exact S.ln j d h2
  inj:=fun j k d1 d2 q hjk h1 h2 h3=>by
   rcases Qs h1 with⟨rfl,q1,l⟩ | ⟨n1,q1⟩
   ·cases q1
   ·rcases Qs h2 with⟨rfl,q2,l⟩ | ⟨n2,q2⟩
    ·cases q2
    ·rw[Qm n1]at h3
     rw[Qm n2]
     exact S.inj j k d1 d2 q hjk q1 q2 h3
  sf:=fun j d h=>by
   rcases Qs h with⟨rfl,h2,l⟩ | ⟨hne,h2⟩
   ·cases h2
    exact⟨p,QgS (by rw[S.len];exact l),hg,h0,⟨hM,hW⟩,hB,⟨A,dx,fs',hc,QG,r⟩⟩
   ·rw[Qm hne]
    obtain⟨q,a,b,c2,m,z,w⟩:=S.sf j d h2
    have qp:q≠p:=by
     rintro rfl
     exact S.su i j _ _ q hne hi h2 hp a
    exact⟨q,a,b,c2,m,z,w.mono (Same.refl G) fun o z=>by rw[Qk qp];exact z⟩
  su:=fun j k d1 d2 q hjk h1 h2 h3=>by
   have get:∀(j:Nat) d,(ς.set i (some (.s,D.ins c fds')))[j]?=some (some (.s,d))->∃ d',ς[j]?=some (some (.s,d')):=fun j d h=>by
    rcases Qs h with⟨rfl,h2,l⟩ | ⟨hne,h2⟩
    ·exact⟨_,hi⟩
    ·exact⟨_,h2⟩
   obtain⟨d1',g1⟩:=get j d1 h1
   obtain⟨d2',g2⟩:=get k d2 h2
   rw[Qh6 hp]at h3 ⊢
   exact S.su j k d1' d2' q hjk g1 g2 h3 }
 rw[Qh6 hp]at S'
 exact S'
def sFldS(cs:List Str)(f:Str)(i:Nat)(E:SD->Out D):SD->Out Fl:=fun ς=>E ς>>=fun d=>match ς[i]? with
 | some (some (.s,.ins c fds))=>if (cs.contains c&&decide (fds.length<1000))=true then .ok (.nx (ς.set i (some (.s,.ins c (putD f d fds))))) else .stuck
 | _=>.stuck
theorem QgP(i:Nat){x:Str}{px pa:Pos}(hF:FldOk C.X.K C.CT cs f)(h:DE C e E)(hN:C.X.N[i]?=some x:=by rfl)(hv:Vis C.X.env.scope x:=by first | exact Or.inl rfl | exact Or.inr (Or.inl rfl) | exact Or.inr (Or.inr rfl))
 (hd:(x == ("__debug__":Str))=false:=by decide) (hcd:(x == ("__classdict__":Str))=false:=by decide)
 (hs:swapsWith e (some (.Attribute (.Name x px) f pa)) pos.line C.X.env=pure false:=by rfl):DS C (.Assign [.Attribute (.Name x px) f pa] e pos) (sFldS cs f i E):=by
 obtain⟨t,p,q⟩:=h
 refine⟨_,QOR (Qda (i:=i) hN hv hd hcd) p hs,fun G H σ ς W S k=>?_⟩
 unfold sFldS at k
 rw[Out.post_bind]at k
 refine q G H σ ς _ S (Out.post_mono k fun d k v H1 G1 S1 a1 b1 r=>?_)
 split at k
 ·rename_i c fds z
  rcases QQ k with⟨hc,k⟩ | ⟨_,k⟩
  ·rw[Bool.and_eq_true]at hc
   obtain⟨pp,e1',hg,h0,hM,hB,A,dx,fs,hA,hH,rf⟩:=S1.sf i _ z
   obtain⟨cl,na⟩:=hF c hc.1 A hA
   refine⟨_,e1',pp,A,dx,fs,rfl,hH,cl,na,by rw[← rf.len];exact of_decide_eq_true hc.2,?_⟩
   exact(show FlK C G W (.nx (ς.set i (some (.s,.ins c (putD f d fds))))) from k) σ _ G1 (S1.writeS z e1' hA (rf.put r)) b1
  ·exact k.elim
 ·exact k.elim
end
end DL
namespace L2
open PySem PySem.Spec PyProof.Rows
section
variable{X:Cx}{CX:CXT}{k:Nat}{m:Str}{dvs:List V}{E:XK}{o e:Expr}{es:List Expr}{ta:TE}{t:TA}{apos pos:Pos}{cs:Addr->Sp->Prop}
def MTab(X:Cx)(CX:CXT)(k:Nat)(m:Str)(dvs:List V)(cs:Addr->Sp->Prop):Prop:=
 ∀ C sp,cs C sp->Cls X.K C/\∃ f fd ps ds,Meth X.K C m f/\FnOk X.prog X.w X.K X.mg X.base CX k f fd ps sp/\Binds X.K fd ps ds/\Vals dvs ds
def QK7(m:Str)(dvs:List V)(cs:Addr->Sp->Prop)(E:XK)(ta:TE)(t:TA):TE:=fun σ H Q=>ta σ H fun x H1=>∃ a C dx fs sp,x=.ref a/\H1 a=some (.ins C dx fs)/\cs C sp/\fs.lookup m=none/\t σ H1 fun vs H2=>sp (x::(vs++dvs)) H2 Q E
theorem QBm{pl:Sem Bool}(he:PE X o ta)(tab:MTab X CX k m dvs cs)(hr:Room k X.A)(hx:Qhd CX X E)(ha:PA X (e::es) t)
 (hst:starEach (e::es) X.env=(false,eval e X.env)::starEach es X.env:=by rfl) (hpl:(backTo pos (starEach es X.env)).any (·.1)=false:=by rfl)
 (ht:eval (.Call (.Attribute o m apos) (e::es) [] pos) X.env=(do
  let ov ← eval o X.env
  standAt apos.atName
  let (f,first) ← holding [ov] (getMethod ov m pl)
  callWith pos f first (backTo pos (starEach (e::es) X.env)) (backToKw pos (keywordEach [] X.env))):=by rfl):
 PE X (.Call (.Attribute o m apos) (e::es) [] pos) (QK7 m dvs cs E ta t):=by
 intro pins s σ H Q I h
 refine PySem.W.methodCall_KW (pl:=pl) (thn (he pins s σ H _ I h) fun u s1 ⟨x,H1,I1,rx,a,C,dx,fs,sp,ex,ea,hc,l,q⟩=>?_) ht
 subst ex
 obtain rfl:u=Value.ref a:=rx
 obtain⟨c,f,fd,ps,ds,hm,F,hb,hd⟩:=tab C sp hc
 refine QwY I1 ea c hm l ?_
 refine PySem.W.callWith_K (first:=[.ref a]) (h₀:=X.base) I.ok.mod.kin hm.kp (thn (ha pos pins s1 σ H1 _ I1 q) fun us s2 ⟨vs,H2,I2,r,q2⟩=>⟨I2.kIn,?_⟩) hst hpl
 exact QBd (us:=.ref a::us) (vs:=.ref a::vs) F hr hb hd hx I2 (.cons rfl r) q2
theorem QLA{pl:Sem Bool}(he:PE X o ta)(tab:MTab X CX k m dvs cs)(hr:Room k X.A)(hx:Qhd CX X E)
 (ht:eval (.Call (.Attribute o m apos) [] [] pos) X.env=(do
  let ov ← eval o X.env
  standAt apos.atName
  let (f,first) ← holding [ov] (getMethod ov m pl)
  callWith pos f first (backTo pos (starEach [] X.env)) (backToKw pos (keywordEach [] X.env))):=by rfl):
 PE X (.Call (.Attribute o m apos) [] [] pos) (QK7 m dvs cs E ta tNil):=by
 intro pins s σ H Q I h
 refine PySem.W.methodCall_KW (pl:=pl) (thn (he pins s σ H _ I h) fun u s1 ⟨x,H1,I1,rx,a,C,dx,fs,sp,ex,ea,hc,l,q⟩=>?_) ht
 subst ex
 obtain rfl:u=Value.ref a:=rx
 obtain⟨c,f,fd,ps,ds,hm,F,hb,hd⟩:=tab C sp hc
 refine QwY I1 ea c hm l ?_
 exact PySem.W.callWith_K0 (first:=[.ref a]) I1.kIn hm.kp (QBd (us:=[.ref a]) (vs:=[.ref a]) F hr hb hd hx I1 (.cons rfl .nil) q)
end
end L2
namespace DL
open PySem PySem.Spec PyProof.Rows L2
def XDofI(CT:CTab)(E:XK)(H:Hp)(p:Addr):D->Prop:=fun d=>∃ c C,d=.err c/\CT c=some C/\∀ H',(∀ b o,H b=some o->b≠p->H' b=some o)->E (.ref C) none H'
def SpI(K:PySem.W.Frag)(CT:CTab)(m:Str->List (Str×D)->List D->Out (List (Str×D))):Sp:=fun vs H Q E=>∃ p c A dx fs fds vs' ds G0,vs=.ref p::vs'/\CT c=some A/\H p=some (.ins A dx fs)/\G0 p=none/\Same G0 H/\RepF K CT G0 fds fs/\RepL K CT G0 ds vs'/\
 (m c fds ds).post (fun fds'=>∀ H' G' fs' dx',Same G0 G'->(∀ b o,H b=some o->b≠p->H' b=some o)->Same G' H'->(∀ b,G0 b=none->G' b≠none->H b=none)->H' p=some (.ins A dx' fs')->RepF K CT G' fds' fs'->Q .non H') (XDofI CT E H p)
def Qrx(c:Str)(ς:SD):Out (List (Str×D)):=match (ς[0]?:Option (Option (SM×D))) with
 | some (some (SM.s,D.ins c' fds))=>if c'=c then .ok fds else .stuck
 | _=>.stuck
def Qfo(c:Str):Fl->Out (List (Str×D))
 | .nx ς=>Qrx c ς
 | _=>.stuck
def bodyI(n len:Nat)(T:SD->Out Fl):Str->List (Str×D)->List D->Out (List (Str×D)):=fun c fds ds=>
 if ds.length+1=n then T (some (.s,.ins c fds)::(ds.map (fun d=>some (.k,d))++List.replicate (len - n) none))>>=Qfo c else .stuck
abbrev dcI(P:Program)(w:World)(K:PySem.W.Frag)(mg:Str->Option Value)(base:Heap)(CT:CTab)(N:List Str)(qual:Str)(sc:Scope)(f:Addr)(cdv:Value)(A:Around)(outer:List Env)(s:Shared)(H:Hp)(E:XK)(G:Hp)(p:Addr):Dc:=
 { X:=cxOf (CXR P w) P w K mg base N qual sc f cdv A outer s H E,CT:=CT,G0:=G,XD:=XDofI CT E H p,B:=fun b=>if b=p then none else H b,M:=fun b=>b=p,W:=fun _=>some p }
theorem fnI{P:Program}{w:World}{K:PySem.W.Frag}{mg:Str->Option Value}{base:Heap}{CT:CTab}{x qual:Str}{st:Stmt}{f:Addr}{fd:FuncData}{dV:Value}{N ps:List Str}{k:Nat}{T:SD->Out Fl}
 (F:FunV K x qual st f fd dV) (S:Qq N ps (Qa st))
 (hb:∀(cdv:Value)(A:Around)(outer:List Env)(s:Shared)(H:Hp)(E:XK)(G:Hp)(p:Addr),Room k (A.deeper (envOfC qual (Qa st) s.heap.objs.size f cdv))->DSs (dcI P w K mg base CT N qual (Qa st) f cdv A outer s H E G p) (Qp st) T):
 FnOk P w K mg base (CXR P w) (k+1) f fd ps (SpI K CT (bodyI ps.length N.length T)):=by
 obtain⟨oc,od,kV,doc,pm,an,cdv,ct,osl,rfl,lk,hcd⟩:=F.ex
 have hpl:ps.length<=N.length:=by have:=congrArg List.length S.pre;rw[List.length_take]at this;omega
 have len:∀ vs H Q E,SpI K CT (bodyI ps.length N.length T) vs H Q E->vs.length=ps.length:=by
  intro vs H Q E ⟨p,c,A,dx,fs,fds,vs',ds,G0,e,_,_,_,_,_,r,q⟩
  unfold bodyI at q
  by_cases hl:ds.length+1=ps.length
  ·rw[e,List.length_cons, ← r.length];exact hl
  ·rw[if_neg hl]at q;exact q.elim
 refine fn_of lk hcd S len fun A outer s H vs Q E hr hsp=>?_
 have hlen:=len vs H Q E hsp
 obtain⟨p,c,Ac,dx,fs,fds,vs',ds,G0,rfl,hct,hp,hg,sub,rf,r,q⟩:=hsp
 obtain⟨t,p1,q1⟩:=hb cdv A outer s H E G0 p hr
 have hl:ds.length+1=ps.length:=by rw[r.length];exact hlen
 refine⟨t,p1,?_⟩
 unfold bodyI at q
 rw[if_pos hl,Out.post_bind]at q
 have get:∀(i:Nat) x,(some (SM.s,D.ins c fds)::(ds.map (fun d=>some (SM.k,d))++List.replicate (N.length - ps.length) none))[i]?=some (some x)->(i=0/\x=(.s,.ins c fds))∨∃ j d,i=j+1/\ds[j]?=some d/\x=(.k,d):=fun i x h=>by
  cases i with
  | zero=>exact .inl ⟨rfl,by simpa using h.symm⟩
  | succ j=>
   rw[List.getElem?_cons_succ]at h
   obtain⟨d,e1,e2⟩:=Qbt h
   exact .inr ⟨j,d,rfl,e1,e2⟩
 have S0:StR (dcI P w K mg base CT N qual (Qa st) f cdv A outer s H E G0 p) G0 H (L2.start N (.ref p::vs')) (some (.s,.ins c fds)::(ds.map (fun d=>some (.k,d))++List.replicate (N.length - ps.length) none)):={
  sub:=sub
  g0:=Same.refl _
  new:=fun b h1 h2=>absurd h1 h2
  fr:=fun b o e _=>e
  dom:=fun b e=>e
  bs:=fun b o e=>by
   have e':(if b=p then none else H b)=some o:=e
   by_cases hb:b=p
   ·rw[if_pos hb]at e';cases e'
   ·rw[if_neg hb]at e';exact e'
  bh:=fun b e=>by
   show(if b=p then none else H b)=none
   by_cases hb:b=p
   ·rw[if_pos hb]
   ·rw[if_neg hb];exact e
  len:=by unfold L2.start;simp;have:=r.length;simp at hlen;omega
  fz:=fun i d e=>by
   rcases get i _ e with⟨_,z⟩ | ⟨j,d',rfl,e1,z⟩
   ·cases z
   ·cases z
    obtain⟨v,e3,rv⟩:=r.get e1
    exact⟨v,Qd0 (by simpa using e3),rv⟩
  ow:=fun i d e=>by
   rcases get i _ e with⟨_,z⟩ | ⟨j,d',rfl,e1,z⟩<;>cases z
  ln:=fun i d e=>by
   rcases get i _ e with⟨_,z⟩ | ⟨j,d',rfl,e1,z⟩<;>cases z
  inj:=fun i j d e p _ h=>by
   rcases get i _ h with⟨_,z⟩ | ⟨j,d',rfl,e1,z⟩<;>cases z
  sf:=fun i d e=>by
   rcases get i _ e with⟨rfl,z⟩ | ⟨j,d',rfl,e1,z⟩
   ·cases z
    exact⟨p,Qd0 rfl,hg,(by show H p≠none;rw[hp];simp),⟨rfl,rfl⟩,if_pos rfl,⟨Ac,dx,fs,hct,hp,rf⟩⟩
   ·cases z
  su:=fun i j d e q hij h1 h2=>by
   rcases get i _ h1 with⟨rfl,z⟩ | ⟨j,d',rfl,e1,z⟩
   ·rcases get j _ h2 with⟨rfl,z⟩ | ⟨j,d',rfl,e1,z⟩
    ·exact absurd rfl hij
    ·cases z
   ·cases z }
 refine q1 G0 H (L2.start N (.ref p::vs')) _ _ S0 (Out.post_mono q fun fl kk=>?_)
 cases fl with
 | nx ς'=>
  intro σ' H' G' S' s'
  have kk:(Qrx c ς').post _ _:=kk
  unfold Qrx at kk
  split at kk
  ·rename_i c' fds' z
   rcases QQ kk with⟨rfl,k2⟩ | ⟨_,k2⟩
   ·obtain⟨p',e1,hg',h0,⟨hM,_⟩,hB,A',dx',fs',hA',hH',rf'⟩:=S'.sf 0 _ z
    have hM:p'=p:=hM
    subst hM
    have hA':CT c'=some A':=hA'
    rw[hct]at hA'
    cases hA'
    exact k2 H' G' fs' dx' s' (fun b o e hb=>S'.fr b o e hb) S'.sub S'.new hH' rf'
   ·exact k2.elim
  ·exact kk.elim
 | bk ς'=>exact kk.elim
 | ct ς'=>exact kk.elim
 | rt b d=>exact kk.elim
end DL
namespace DL
open PySem PySem.Spec PyProof.Rows L2
theorem QwK{P:Program}{w:World}{K:PySem.W.Frag}{mg:Str->Option Value}{base:Heap}{CT:CTab}{N:List Str}{qual:Str}{sc:Scope}{f:Addr}{cdv:Value}{A:Around}{outer:List Env}{s:Shared}{H:Hp}{E:XK}{G:Hp}{p:Addr}:
 Rz (dcI P w K mg base CT N qual sc f cdv A outer s H E G p) E where
 pass:=passR
 xd:=fun d ⟨c,Cc,h1,h2,h3⟩=>⟨c,Cc,h1,h2,fun H' k=>h3 H' fun b o e hb=>k b o e hb⟩
 made:=fun Cc pins σ H1 s1 ea h' vs I hx hE=>QIU I rfl rfl rfl hx hE
 calm:=rfl
section
variable{C:Dc}{E:XK}{c:Str}{A f:Addr}{fd:FuncData}{ps:List Str}{ds:List Value}{dd:List D}{k:Nat}{m:Str->List (Str×D)->List D->Out (List (Str×D))}{e:Expr}{es:List Expr}{AA:SD->Out (List D)}{p pos:Pos}
def eMake(c:Str)(m:Str->List (Str×D)->List D->Out (List (Str×D)))(a:SD->Out (List D)):SD->Out D:=fun ς=>a ς>>=fun xs=>m c [] xs>>=fun fds=>.ok (.ins c fds)
def MkOk(P:Program)(w:World)(K:PySem.W.Frag)(mg:Str->Option Value)(base:Heap)(CT:CTab)(c:Str)(k:Nat)(m:Str->List (Str×D)->List D->Out (List (Str×D))):Prop:=
 ∃ A f fd ps,CT c=some A/\mg c=some (.ref A)/\Mk K A f/\FnOk P w K mg base (CXR P w) k f fd ps (SpI K CT m)/\Binds K fd ps []
theorem QoP(rz:Rz C E)(h:MkOk C.X.prog C.X.w C.X.K C.X.mg C.X.base C.CT c k m)(hr:Room (k+1) C.X.A)(ha:DA C (e::es) AA)(hg:Gl C.X c)
 (hdb:(c == ("__debug__":Str))=false:=by decide) (he:starEach (e::es) C.X.env=(false,eval e C.X.env)::starEach es C.X.env:=by rfl) (hpl:(backTo pos (starEach es C.X.env)).any (·.1)=false:=by rfl):
 DF C (.Call (.Name c p) (e::es) [] pos) (eMake c m AA):=by
 obtain⟨A,f,fd,ps,hct,hm,M,F,hb⟩:=h
 obtain⟨t,p1,q1⟩:=ha
 refine⟨_,QNt M F hr hg hm hb .nil rz.pass p1 hdb he hpl,fun G H σ ς Q S q=>?_⟩
 unfold eMake at q
 rw[Out.post_bind]at q
 refine q1 G H σ ς _ S (Out.post_mono q fun xs kk vs H1 G1 S1 a1 b1 r1=>?_)
 intro x dx nx ndx ne
 rw[Out.post_bind]at kk
 have keep:∀ b o,H1 b=some o->upd (upd H1 dx (.own x)) x (.ins A dx []) b=some o:=fun b o e=>by
  rw[Qk (QU e nx),Qk (QU e ndx)];exact e
 have back:∀ b,upd (upd H1 dx (.own x)) x (.ins A dx []) b=none->H1 b=none:=fun b e=>by
  by_cases hx:b=x
  ·subst hx;exact nx
  ·rw[Qk hx]at e
   by_cases hd:b=dx
   ·subst hd;exact ndx
   ·rw[Qk hd]at e;exact e
 refine⟨x,c,A,dx,[],[],vs++[],xs,G1,rfl,hct,QG,S1.sub.free nx,fun b o e=>keep b o (S1.sub b o e),rfl,by rw[List.append_nil];exact r1,?_⟩
 cases z:m c [] xs with
 | stuck=>rw[z]at kk;exact kk.elim
 | exc y=>
  rw[z]at kk
  obtain⟨c',Cc,e1',e2',e3'⟩:=rz.xd y kk
  exact⟨c',Cc,e1',e2',fun H' s'=>e3' H' fun b o q m'=>s' b o (keep b o (S1.fr b o q m')) (QU (S1.fr b o q m') nx)⟩
 | ok fds=>
  rw[z]at kk
  intro H' G' fs' dx' g1 h1 s1 n1 hp rf
  have hh:Same H1 H':=fun b o e=>h1 b o (keep b o e) (QU e nx)
  have hgp:G' x=none:=by
   cases zz:G' x with
   | none=>rfl
   | some o=>have:=n1 x (S1.sub.free nx) (by rw[zz];simp);rw[QG]at this;cases this
  exact⟨rfl,(show KF C G H σ ς Q (.ins c fds) from kk) x H' G' (S1.grow hh g1 s1 fun b g g'=>back b (n1 b g g')) (a1.trans hh) (b1.trans g1) (a1.free nx) hgp ⟨A,dx',fs',hct,hp,rf⟩⟩
end
def MtOk(P:Program)(w:World)(K:PySem.W.Frag)(mg:Str->Option Value)(base:Heap)(CT:CTab)(CX:CXT)(name:Str)(k:Nat)(cs:List Str)(sp:Str->Sp):Prop:=
 ∀ c,cs.contains c=true->∃ A f fd ps,CT c=some A/\Cls K A/\Meth K A name f/\FnOk P w K mg base CX k f fd ps (sp c)/\Binds K fd ps []
def csOf(CT:CTab)(cs:List Str)(sp:Str->Sp):Addr->Sp->Prop:=fun A s=>∃ c,cs.contains c=true/\CT c=some A/\s=sp c
theorem mtab{X:Cx}{CT:CTab}{CX:CXT}{name:Str}{k:Nat}{cs:List Str}{sp:Str->Sp}(h:MtOk X.prog X.w X.K X.mg X.base CT CX name k cs sp):MTab X CX k name [] (csOf CT cs sp):=by
 rintro A s ⟨c,hc,hA,rfl⟩
 obtain⟨A',f,fd,ps,h1,h2,h3,h4,h5⟩:=h c hc
 rw[hA]at h1;cases h1
 exact⟨h2,f,fd,ps,[],h3,h4,h5,.nil⟩
section
variable{C:Dc}{name:Str}{k:Nat}{cs:List Str}{fr:Bool}{mt:Str->List D->Out D}{o e:Expr}{es:List Expr}{O:SD->Out D}{AA:SD->Out (List D)}{apos pos:Pos}
def eMeth(cs:List Str)(name:Str)(mt:Str->List D->Out D)(O:SD->Out D)(A:SD->Out (List D)):SD->Out D:=fun ς=>O ς>>=fun d=>match d with
 | .ins c fds=>if (cs.contains c&&(fds.lookup name).isNone)=true then A ς>>=fun xs=>mt c (.ins c fds::xs) else .stuck
 | _=>.stuck
theorem QHt{G H:Hp}{σ:St}{ς:SD}{Q:VK}{t:TA}{c:Str}{fds:List (Str×D)}{v1:V}{H1 G1:Hp}(S1:StR C G1 H1 σ ς)(a1:Same H H1)(b1:Same G G1)(r1:Rep C.X.K C.CT G1 (.ins c fds) v1)
 (tk:MtOk C.X.prog C.X.w C.X.K C.X.mg C.X.base C.CT CX0 name k cs (fun c=>SpD C.X.K C.CT fr (mt c))) (hx:∀ x,¬ C.XD x)
 (hq:∀ G H σ ς Q,StR C G H σ ς->(AA ς).post (fun ds=>∀ vs H' G',StR C G' H' σ ς->Same H H'->Same G G'->RepL C.X.K C.CT G' ds vs->Q vs H') C.XD->t σ H Q)
 {K':D->Prop} (hK:∀ d v H2 G2 H' G',StR C G2 H2 σ ς->Same H H2->Same G G2->K' d->Same G2 G'->Same H2 H'->Same G' H'->(∀ b,G2 b=none->G' b≠none->H2 b=none)->RetG C.X.K C.CT fr H2 G' H' d v->Q v H')
 (kk:(if (cs.contains c&&(fds.lookup name).isNone)=true then AA ς>>=fun xs=>mt c (.ins c fds::xs) else .stuck).post K' C.XD):
 ∃ a Cc dx fs sp,v1=.ref a/\H1 a=some (.ins Cc dx fs)/\csOf C.CT cs (fun c=>SpD C.X.K C.CT fr (mt c)) Cc sp/\fs.lookup name=none/\t σ H1 fun vs H2=>sp (v1::(vs++[])) H2 Q E0:=by
 rcases QQ kk with⟨hc,kk⟩ | ⟨_,kk⟩
 ·rw[Bool.and_eq_true]at hc
  obtain⟨a,Cc,dx,fs,rfl,hct,hh,rf⟩:=r1
  refine⟨a,Cc,dx,fs,_,rfl,S1.sub _ _ hh,⟨c,hc.1,hct,rfl⟩,(RepF.look rf).2 (by simpa using hc.2),?_⟩
  rw[Out.post_bind]at kk
  refine hq G1 H1 σ ς _ S1 (Out.post_mono kk fun xs k2 vs H2 G2 S2 a2 b2 r2=>?_)
  refine⟨.ins c fds::xs,G2,S2.sub,⟨_,_,rfl,Rep.mono b2 (.ins c fds) (.ref a) ⟨a,Cc,dx,fs,rfl,hct,hh,rf⟩,by rw[List.append_nil];exact r2⟩,?_⟩
  cases z:mt c (.ins c fds::xs) with
  | stuck=>rw[z]at k2;exact k2.elim
  | exc y=>rw[z]at k2;exact absurd k2 (hx y)
  | ok d=>
   rw[z]at k2
   intro v H' G' g1 h1 s1 n1 ret
   exact hK d v H2 G2 H' G' S2 (a1.trans a2) (b1.trans b2) k2 g1 h1 s1 n1 ret
 ·exact kk.elim
theorem retKD{G H:Hp}{σ:St}{ς:SD}{Q:VK}:∀ d v H2 G2 H' G',StR C G2 H2 σ ς->Same H H2->Same G G2->KD C G H σ ς Q d->Same G2 G'->Same H2 H'->Same G' H'->(∀ b,G2 b=none->G' b≠none->H2 b=none)->RetG C.X.K C.CT fr H2 G' H' d v->Q v H':=by
 intro d v H2 G2 H' G' S2 a b kd g1 h1 s1 n1 ret
 unfold RetG at ret
 by_cases hc:(fr && !d.scal)=true
 ·rw[if_pos hc]at ret
  obtain⟨pp,rfl,h0,hg',ow⟩:=ret
  obtain⟨o,ho⟩:=ow.there
  have S3:=(S2.grow h1 g1 s1 n1).freeze ho hg' (S2.h0none h0) (fun i d' z1 z2=>by
   obtain⟨o',ho'⟩:=S2.own_ne z1 z2
   rw[h0]at ho';cases ho')
  exact kd _ _ _ S3 (a.trans h1) ((b.trans g1).trans (Qy hg')) (ow.known hg' ho)
 ·rw[if_neg hc]at ret
  exact kd v H' G' (S2.grow h1 g1 s1 n1) (a.trans h1) (b.trans g1) ret
theorem QyK{pl:Sem Bool}(tk:MtOk C.X.prog C.X.w C.X.K C.X.mg C.X.base C.CT CX0 name k cs (fun c=>SpD C.X.K C.CT fr (mt c)))(hr:Room k C.X.A)(ho:DE C o O)(ha:DA C (e::es) AA)(hx:∀ x,¬ C.XD x:=by exact fun _ h=>h)
 (hst:starEach (e::es) C.X.env=(false,eval e C.X.env)::starEach es C.X.env:=by rfl) (hpl:(backTo pos (starEach es C.X.env)).any (·.1)=false:=by rfl)
 (ht:eval (.Call (.Attribute o name apos) (e::es) [] pos) C.X.env=(do
  let ov ← eval o C.X.env
  standAt apos.atName
  let (f,first) ← holding [ov] (getMethod ov name pl)
  callWith pos f first (backTo pos (starEach (e::es) C.X.env)) (backToKw pos (keywordEach [] C.X.env))):=by rfl):
 DE C (.Call (.Attribute o name apos) (e::es) [] pos) (eMeth cs name mt O AA):=by
 obtain⟨t1,p1,q1⟩:=ho
 obtain⟨t2,p2,q2⟩:=ha
 refine⟨_,QBm (pl:=pl) p1 (mtab tk) hr pass0 p2 hst hpl ht,fun G H σ ς Q S q=>?_⟩
 unfold eMeth at q
 rw[Out.post_bind]at q
 refine q1 G H σ ς _ S (Out.post_mono q fun d kk v1 H1 G1 S1 a1 b1 r1=>?_)
 cases d with
 | ins c fds=>exact QHt S1 a1 b1 r1 tk hx q2 retKD kk
 | _=>exact kk.elim
theorem Qh0{pl:Sem Bool}(tk:MtOk C.X.prog C.X.w C.X.K C.X.mg C.X.base C.CT CX0 name k cs (fun c=>SpD C.X.K C.CT fr (mt c)))(hr:Room k C.X.A)(ho:DE C o O)(hx:∀ x,¬ C.XD x:=by exact fun _ h=>h)
 (ht:eval (.Call (.Attribute o name apos) [] [] pos) C.X.env=(do
  let ov ← eval o C.X.env
  standAt apos.atName
  let (f,first) ← holding [ov] (getMethod ov name pl)
  callWith pos f first (backTo pos (starEach [] C.X.env)) (backToKw pos (keywordEach [] C.X.env))):=by rfl):
 DE C (.Call (.Attribute o name apos) [] [] pos) (eMeth cs name mt O aNil):=by
 obtain⟨t1,p1,q1⟩:=ho
 refine⟨_,QLA (pl:=pl) p1 (mtab tk) hr pass0 ht,fun G H σ ς Q S q=>?_⟩
 unfold eMeth at q
 rw[Out.post_bind]at q
 refine q1 G H σ ς _ S (Out.post_mono q fun d kk v1 H1 G1 S1 a1 b1 r1=>?_)
 cases d with
 | ins c fds=>exact QHt (AA:=aNil) (t:=tNil) S1 a1 b1 r1 tk hx (fun G H σ ς Q S q=>q [] H G S (Same.refl H) (Same.refl G) rfl) retKD kk
 | _=>exact kk.elim
end
end DL
namespace DL
open PySem PySem.Spec PyProof.Rows L2
section
variable{C:Dc}{name:Str}{k:Nat}{cs:List Str}{mt:Str->List D->Out D}{o e:Expr}{es:List Expr}{O:SD->Out D}{AA:SD->Out (List D)}{apos pos:Pos}
variable{E:XK}{m:Str->List (Str×D)->List D->Out (List (Str×D))}{x:Str}{px spos:Pos}
def QiX(cs:List Str)(name:Str)(m:Str->List (Str×D)->List D->Out (List (Str×D)))(i:Nat)(A:SD->Out (List D)):SD->Out Fl:=fun ς=>match (ς[i]?:Option (Option (SM×D))) with
 | some (some (SM.s,D.ins c fds))=>if (cs.contains c&&(fds.lookup name).isNone)=true then A ς>>=fun xs=>m c fds xs>>=fun fds'=>.ok (.nx (ς.set i (some (.s,.ins c fds')))) else .stuck
 | _=>.stuck
theorem QpX{pl:Sem Bool}(i:Nat)(rz:Rz C E)(tk:MtOk C.X.prog C.X.w C.X.K C.X.mg C.X.base C.CT (CXR C.X.prog C.X.w) name k cs (fun _=>SpI C.X.K C.CT m))(hr:Room k C.X.A)(ha:DA C (e::es) AA)
 (hN:C.X.N[i]?=some x:=by rfl) (hv:Vis C.X.env.scope x:=by first | exact Or.inl rfl | exact Or.inr (Or.inl rfl) | exact Or.inr (Or.inr rfl))
 (hd:(x == ("__debug__":Str))=false:=by decide) (hcd:(x == ("__classdict__":Str))=false:=by decide)
 (hst:starEach (e::es) C.X.env=(false,eval e C.X.env)::starEach es C.X.env:=by rfl) (hpl:(backTo pos (starEach es C.X.env)).any (·.1)=false:=by rfl)
 (ht:eval (.Call (.Attribute (.Name x px) name apos) (e::es) [] pos) C.X.env=(do
  let ov ← eval (.Name x px) C.X.env
  standAt apos.atName
  let (f,first) ← holding [ov] (getMethod ov name pl)
  callWith pos f first (backTo pos (starEach (e::es) C.X.env)) (backToKw pos (keywordEach [] C.X.env))):=by rfl)
 (hsw:swapsWith (.Call (.Attribute (.Name x px) name apos) (e::es) [] pos) none spos.line C.X.env=pure false:=by rfl):
 DS C (.Expr (.Call (.Attribute (.Name x px) name apos) (e::es) [] pos) spos) (QiX cs name m i AA):=by
 obtain⟨t2,p2,q2⟩:=ha
 refine⟨_,Qti (QBm (pl:=pl) (Qda (i:=i) hN hv hd hcd) (mtab tk) hr rz.pass p2 hst hpl ht) hsw,fun G H σ ς W S kk=>?_⟩
 unfold QiX at kk
 split at kk
 ·rename_i c fds z
  rcases QQ kk with⟨hc,kk⟩ | ⟨_,kk⟩
  ·rw[Bool.and_eq_true]at hc
   obtain⟨p,e1',hg,h0,⟨hM,_⟩,hB,A,dx,fs,hct,hh,rf⟩:=S.sf i _ z
   refine⟨_,e1',p,A,dx,fs,_,rfl,hh,⟨c,hc.1,hct,rfl⟩,(RepF.look rf).2 (by simpa using hc.2),?_⟩
   rw[Out.post_bind]at kk
   refine q2 G H σ ς _ S (Out.post_mono kk fun xs k2 vs H2 G2 S2 a2 b2 r2=>?_)
   obtain⟨p',e2',hg2,_,_,_,A2,dx2,fs2,hct2,hh2,rf2⟩:=S2.sf i _ z
   rw[e1']at e2';cases e2'
   rw[Out.post_bind]at k2
   refine⟨p,c,A2,dx2,fs2,fds,vs++[],xs,G2,rfl,hct2,hh2,hg2,S2.sub,rf2,by rw[List.append_nil];exact r2,?_⟩
   cases zz:m c fds xs with
   | stuck=>rw[zz]at k2;exact k2.elim
   | exc y=>
    rw[zz]at k2
    obtain⟨c',Cc,f1,f2,f3⟩:=rz.xd y k2
    exact⟨c',Cc,f1,f2,fun H' s'=>f3 H' fun b o q mm=>s' b o (S2.fr b o q mm) (by rintro rfl;exact mm hM)⟩
   | ok fds'=>
    rw[zz]at k2
    intro H' G' fs' dx' g1 h1 s1 n1 hp rf'
    have gp:G' p=none:=by
     cases y:G' p with
     | none=>rfl
     | some o=>have:=n1 p hg2 (by rw[y];simp);rw[hh2]at this;cases this
    have S3:StR C G' (upd H' p (.ins A2 dx2 fs2)) σ ς:=S2.grow (fun b o e=>by
     by_cases hb:b=p
     ·subst hb;rw[QG];rw[hh2]at e;exact e
     ·rw[Qk hb];exact h1 b o e hb) g1 (fun b o e=>by
     rw[Qk (by rintro rfl;rw[gp]at e;cases e)];exact s1 b o e) n1
    have S4:=S3.writeS (dx:=dx') z e1' hct2 rf'
    have eq:upd (upd H' p (.ins A2 dx2 fs2)) p (.ins A2 dx' fs')=H':=by
     rw[QNJ]
     funext b
     by_cases hb:b=p
     ·subst hb;rw[QG,hp]
     ·rw[Qk hb]
    rw[eq]at S4
    exact(show FlK C G W (.nx (ς.set i (some (.s,.ins c fds')))) from k2) σ H' G' S4 (b2.trans g1)
  ·exact kk.elim
 ·exact kk.elim
end
end DL
namespace DL
open PySem PySem.Spec PyProof.Rows L2
def inCls(s:Stmt)(j:Nat):Stmt:=match s with
 | .ClassDef _ _ _ b _ _ _ _ _ _ _=>b.getD j (.Pass ⟨0,0,0,0⟩)
 | _=>.Pass ⟨0,0,0,0⟩
def KitI(K:PySem.W.Frag)(CT:CTab)(uc:Value)(tbl:List (Str×Bool)):Prop:=∀ c b,tbl.lookup c=some b->∀ A,CT c=some A->ClsD K A/\PySem.W.kitOne K (.ref A) uc=some b
theorem Qp7{K:PySem.W.Frag}{CT:CTab}{uc:Value}:KitI K CT uc []:=fun _ _ h=>nomatch h
theorem Qah{K:PySem.W.Frag}{CT:CTab}{uc:Value}{c:Str}{b:Bool}{A:Addr}{tbl:List (Str×Bool)}(hc:CT c=some A)(hx:ClsD K A)(hk:PySem.W.kitOne K (.ref A) uc=some b)(r:KitI K CT uc tbl):KitI K CT uc ((c,b)::tbl):=by
 intro c' b' h A' hA
 rw[List.lookup_cons]at h
 cases e:c' == c with
 | true=>
  rw[e]at h
  cases h
  rw[beq_iff_eq.mp e,hc]at hA
  cases hA
  exact⟨hx,hk⟩
 | false=>
  rw[e]at h
  exact r c' b' h A' hA
section
variable{C:Dc}{pos p:Pos}{e cx:Expr}{E:SD->Out D}
end
def eIxO(i:Nat)(b:SD->Out D):SD->Out D:=fun ς=>match (ς[i]?:Option (Option (SM×D))) with
 | some (some (SM.o,D.lst xs))=>b ς>>=fun k=>match k with | .int k=>optO (atI xs k) | _=>.stuck
 | _=>.stuck
section
variable{C:Dc}{pos px:Pos}{b:Expr}{B:SD->Out D}{x f:Str}{cs:List Str}
theorem QOX(i:Nat)(hb:DB C b B)(hN:C.X.N[i]?=some x:=by rfl)(hv:Vis C.X.env.scope x:=by first | exact Or.inl rfl | exact Or.inr (Or.inl rfl) | exact Or.inr (Or.inr rfl))
 (hd:(x == ("__debug__":Str))=false:=by decide) (hcd:(x == ("__classdict__":Str))=false:=by decide) (hs:Qtj b:=by intro _ _;rfl):DE C (.Subscript (.Name x px) b pos) (eIxO i B):=by
 obtain⟨tb,p2,q2⟩:=hb
 refine⟨_,pe_ix QBt (Qda (i:=i) hN hv hd hcd) p2 hs,fun G H σ ς Q S q=>?_⟩
 unfold eIxO at q
 split at q
 ·rename_i xs z
  obtain⟨p,e1',hg,h0,ow⟩:=S.ow i _ z
  rw[Out.post_bind]at q
  refine⟨_,e1',q2 G H σ ς _ S (Out.post_mono q fun y k2 v2 H2 G2 S2 a2 b2 r2=>?_)⟩
  cases y with
  | int k=>
   cases r2
   obtain⟨d,e2',kd⟩:=QcM k2
   obtain⟨p',e3',hg',h0',vs,hv1,hv2⟩:=S2.ow i _ z
   rw[e1']at e3';cases e3'
   obtain⟨v,e4',rv⟩:=QoY hv2 e2'
   exact .inl ⟨p,vs,k,v,rfl,rfl,SqL.of hv1,e4',KD.now (KD.later kd a2 b2) S2 rv⟩
  | _=>exact k2.elim
 ·exact q.elim
end
end DL
namespace L2
open PySem PySem.Spec PyProof.Rows
def Ite(K:PySem.W.Frag)(a:Addr):It:=
 ⟨fun i H=>∃ xs x,SqL K H a xs/\xs[i]?=some x,
  fun i H v H'=>∃ p x,H p=none/\v=.ref p/\H'=upd H p (.tup [.int i,x])/\(∀ xs,SqL K H a xs->xs[i]?=some x),
  fun i H=>∃ xs,SqL K H a xs/\xs.length<=i⟩
theorem QLB{P:Program}{w:World}{K:PySem.W.Frag}{elts:List Expr}{k1:Nat}{pos:Pos}{e it l:Addr}(D1:e≠it):
 Turn P w K (.Tuple elts k1 pos) (Ite K l) [e,it] e (fun i h=>(∃ old,IsEnum h e it (i:Int) old)/\h.IsListIter it l i) where
 mem:=by simp
 obj:=fun i h st b hb=>by
  obtain⟨⟨old,s1⟩,⟨o4,e4,c4,d4⟩⟩:=st
  simp only[List.mem_cons,List.not_mem_nil,or_false]at hb
  rcases hb with rfl | rfl
  ·exact⟨_,s1,fun v q=>by cases q⟩
  ·exact⟨_,e4,fun v q=>by rw[d4]at q;cases q⟩
 keep:=fun i h h' st k=>by
  obtain⟨⟨old,s1⟩,s4⟩:=st
  exact⟨⟨old,k e (by simp) _ s1⟩,s4.at fun o q=>k it (by simp) o q⟩
 item:=by
  intro X hP hw hK hc i pins s σ H E I hf st hg
  subst hP hw hK
  obtain⟨xs,x,q1,hx⟩:=hg
  obtain⟨its1,rv1,p1,hz1⟩:=I.list q1
  obtain⟨u1,hu1,ru1⟩:=rv1.get hx
  obtain⟨⟨old,s1⟩,s4⟩:=st
  refine wpAny_pyNext_enum_item s1 s4 p1.isList (x:=u1) (by simpa using hu1) D1 fun h' a1 a3 a5 a6 hk=>?_
  have hT:H s.heap.objs.size=none:=I.hok.fresh (Nat.le_refl _)
  have fp:∀ c∈[e,it],FpOk X pins H c:=hf
  have out:∀ c,c∉[e,it]->∀ o,s.heap.get? c=some o->h'.get? c=some o:=fun c hc o q=>hk c o (fun q=>hc (by simp[q])) (fun q=>hc (by simp[q])) q
  have trk:∀ c o,H c=some o->c∉[e,it]:=fun c o q hc=>by rw[(fp c hc).1]at q;cases q
  have hok:HOk X.prog X.w (upd H s.heap.objs.size (.tup [.int i,x])) h':=fun c o q=>by
   by_cases hcT:c=s.heap.objs.size
   ·subst hcT
    rw[QG]at q
    cases q
    exact⟨by show 2<=sizeLine;decide,[.int i s.toks,u1],.cons ⟨_,rfl⟩ (.cons ru1 .nil),⟨_,a5,rfl,_,rfl⟩⟩
   ·rw[Qk hcT]at q
    refine(I.hok c o q).stay (fun b u hb q'=>out b ?_ u q') (fun b q'=>?_) fun b ts q'=>?_
    ·rcases hb with rfl | hb
     ·exact trk b _ q
     ·exact trk b _ hb
    ·rw[Qk (QU q' hT)];exact q'
    ·rw[Qk (QU q' hT)];exact q'
  have I1:Inv X pins σ (upd H s.heap.objs.size (.tup [.int i,x])) { s with heap:=h',gens:=s.gens,drawn:=s.drawn,toks:=s.toks+1 }:=I.step (ch:=[e,it])
   (fun c hc=>⟨(fp c hc).2.2.2.1,(fp c hc).2.1,(fp c hc).2.2.2.2.1,(fp c hc).2.2.2.2.2⟩) (fun c o _ _ hc q _=>out c hc o q) (fun c o _ _ hc q _=>⟨o.slots,out c hc o q⟩)
   (fun c o hc q n=>by rw[Qk (Nat.ne_of_lt (Heap.lt_size q))];exact n) (fun c o hc q=>⟨o,out c hc o q⟩)
   (fun c ts q=>by rw[Qk (QU q hT)];exact q) (fun c o u q=>by rw[Qk (QU q hT)];exact q) (fun c ts q=>⟨#[],by rw[Qk (QU q hT),q];simp⟩)
   (fun m hm=>by
    obtain⟨o,es,ep,ho,r⟩:=hm
    exact⟨o,es,ep,out _ (fun hc=>(fp _ hc).2.1 rfl) o ho,r⟩) hok I.bare
  have lt:∀{c o},s.heap.get? c=some o->s.heap.objs.size≠c:=fun q=>Nat.ne_of_gt (Heap.lt_size q)
  refine⟨_,rfl,wpAny_letOwnedTupleGo_enum a1 fun h2 hz2 hs2=>?_⟩
  obtain⟨z0,z1,z2,z3,z4,z5⟩:=hf e (by simp)
  have I2:Inv X pins σ (upd H s.heap.objs.size (.tup [.int i,x])) { s with heap:=h2,toks:=s.toks+1 }:=Inv.turned (s:={ s with heap:=h',gens:=s.gens,drawn:=s.drawn,toks:=s.toks+1 }) (t':=s.toks+1) (it:=e) I1 (fun b o hb q=>(hs2.2 b hb).trans q) (by rw[Qk (lt s1).symm];exact z0) z1 z3 z4 z5
  refine⟨.ref s.heap.objs.size,_,I2,rfl,⟨_,x,hT,rfl,rfl,fun xs' q'=>by rw[I.list_inj q' q1];exact hx⟩,
   ⟨⟨_,by have:((i+1:Nat):Int)=(i:Int)+1:=by push_cast;rfl
          rw[this];exact hz2⟩,a3.extBut hs2.extBut D1.symm⟩,fun c hc=>?_⟩
  have:H c=none:=(hf c hc).1
  obtain⟨oc,hoc⟩:∃ o,s.heap.get? c=some o:=by
   simp only[List.mem_cons,List.not_mem_nil,or_false]at hc
   rcases hc with rfl | rfl
   ·exact⟨_,s1⟩
   ·obtain⟨o,q,_⟩:=s4;exact⟨o,q⟩
  rw[Qk (lt hoc).symm];exact this
 done:=by
  intro X hP hw hK hc i pins s σ H E I hf st hg
  subst hP hw hK
  obtain⟨xs,q1,hend⟩:=hg
  obtain⟨its1,rv1,p1,hz1⟩:=I.list q1
  have l1:=rv1.length
  obtain⟨⟨old,s1⟩,s4⟩:=st
  obtain⟨z0,z1,z2,z3,z4,z5⟩:=hf it (by simp)
  refine wpAny_pyNext_enum_end (I.ok.hd hc) s1 s4 p1.isList (by simp;omega) fun h' hk=>⟨rfl,?_⟩
  have fp:∀ c∈[it],FpOk X pins H c:=fun c hc=>hf c (by simp only[List.mem_cons,List.not_mem_nil,or_false]at hc ⊢;exact Or.inr hc)
  have out:∀ c,c∉[it]->∀ o,s.heap.get? c=some o->h'.get? c=some o:=fun c hc o q=>hk c o (fun q=>hc (by simp[q])) q
  have trk:∀ c o,H c=some o->c∉[it]:=fun c o q hc=>by rw[(fp c hc).1]at q;cases q
  exact I.step (g':=s.gens) (d':=s.drawn) (t':=s.toks) (ch:=[it]) (fun c hc=>⟨(fp c hc).2.2.2.1,(fp c hc).2.1,(fp c hc).2.2.2.2.1,(fp c hc).2.2.2.2.2⟩) (fun c o _ _ hc q _=>out c hc o q) (fun c o _ _ hc q _=>⟨o.slots,out c hc o q⟩)
   (fun c o hc q n=>n) (fun c o hc q=>⟨o,out c hc o q⟩) (fun c ts q=>q) (fun c o u q=>q) (fun c ts q=>⟨#[],by rw[q];simp⟩)
   (fun m hm=>by
    obtain⟨o,es,ep,ho,r⟩:=hm
    exact⟨o,es,ep,out _ (fun hc=>(fp _ hc).2.1 rfl) o ho,r⟩)
   (fun c o q=>(I.hok c o q).stay (fun b u hb q'=>out b (by
    rcases hb with rfl | hb
    ·exact trk b _ q
    ·exact trk b _ hb) u q') (fun b q'=>q') fun b ts q'=>q') I.bare
 self:=fun _ _ _ _ _ st h=>wpAny_pyIter_enum st.1.choose_spec h
section
variable{X:Cx}
def iEnum(K:PySem.W.Frag)(ta:TA):TI:=fun σ H R=>ta σ H fun vs H1=>∃ a,vs=[.ref a]/\(∃ xs,SqL K H1 a xs)/\R (Ite K a) H1
theorem QNa{elts:List Expr}{k1:Nat}{tpos:Pos}{a:Expr}{ta:TA}{p pos:Pos}(hg:Gl X "enumerate")(hm:X.mg "enumerate"=none)(ha:PA X [a] ta)(hs:starEach [a] X.env=[(false,eval a X.env)]:=by rfl):
 PI X (.Tuple elts k1 tpos) (.Call (.Name "enumerate" p) [a] [] pos) (iEnum X.K ta):=by
 intro pins s σ H R I h
 refine Call_ (Qi1 I hg hm PyProof.Rows.Boot.«enumerate» (PyProof.Rows.callWith_type1 (thn (ha pos pins s σ H _ I h) fun us s1 ⟨vs,H1,I1,r1,q1⟩=>?_) (by rw[hs];rfl) (by rfl)))
 obtain⟨l1,e,⟨xs,hx⟩,q⟩:=q1
 subst e
 cases r1 with
 | cons r rr=>
  cases rr
  cases r
  obtain⟨its1,rv1,p1,hz1⟩:=I1.list hx
  refine call_enumerate_list p1.isList fun h' c1 c4 c6 hk=>?_
  refine wpAny_pyIter_enum c1 ?_
  refine⟨_,_,_,Ite X.K l1,H1,rfl,I1.kept (t':=s1.toks) fun b o e=>hk b o e,QLB (e:=s1.heap.objs.size+1) (it:=s1.heap.objs.size) (l:=l1) (show ¬ ((s1.heap.objs.size+1:Nat)=s1.heap.objs.size) by omega),
   ⟨⟨_,c1⟩,c4⟩,fun b hb=>?_,q⟩
  have hb':s1.heap.objs.size<=b:=by
   simp only[List.mem_cons,List.not_mem_nil,or_false]at hb
   rcases hb with rfl | rfl<;>omega
  exact I1.fpOk hb' (I1.hok.fresh hb')
end
end L2
namespace DL
open PySem PySem.Spec PyProof.Rows L2
def enumD(i:Nat):List D->List D
 | []=>[]
 | x::xs=>.tup [.int i,x]::enumD (i+1) xs
theorem Qy4:∀(xs:List D)(i:Nat),(enumD i xs).length=xs.length
 | [],_=>rfl
 | x::xs,i=>by simp[enumD,Qy4 xs]
theorem Qrv:∀(xs:List D)(n i:Nat),(enumD n xs)[i]?=xs[i]?.map fun x=>.tup [.int (n+i:Nat),x]
 | [],_,_=>rfl
 | x::xs,n,0=>rfl
 | x::xs,n,i+1=>by
  show(enumD (n+1) xs)[i]?=_
  rw[Qrv xs (n+1) i,show n+1+i=n+(i+1) by omega]
  rfl
def itE(A:SD->Out D):SD->Out (List D):=fun ς=>A ς>>=fun x=>match x with
 | .lst xs=>.ok (enumD 0 xs)
 | _=>.stuck
section
variable{C:Dc}{a:Expr}{A:SD->Out D}
theorem QL5{K:PySem.W.Frag}{CT:CTab}{G1:Hp}{p:Addr}{xs:List D}{us:List V}(h1:SqL K G1 p us)(r1:RepL K CT G1 xs us):DIt K CT G1 (Ite K p) (enumD 0 xs) where
 go:=fun G H i d s1 sH hd=>by
  rw[Qrv,Nat.zero_add]at hd
  cases e1':xs[i]? with
  | none=>rw[e1']at hd;cases hd
  | some x=>
   rw[e1']at hd
   cases hd
   obtain⟨u,hu,ru⟩:=r1.get e1'
   have q1:SqL K H p us:=sH.seq (s1.seq h1)
   refine⟨⟨us,u,q1,hu⟩,fun w H' ⟨t,x',n,e,e',k1⟩=>?_⟩
   have z1:=k1 us q1
   rw[hu]at z1;cases z1
   subst e e'
   have gn:G t=none:=sH.free n
   refine⟨upd G t (.tup [.int i,u]),Qy gn,Qy n,Qsr sH,fun b g g'=>?_,t,[.int i,u],rfl,SqT.of QG,⟨.int i,_,rfl,rfl,u,_,rfl,Rep.mono (s1.trans (Qy gn)) x u ru,rfl⟩⟩
   by_cases hb:b=t
   ·subst hb;exact n
   ·rw[Qk hb]at g';exact absurd g g'
 stop:=fun G H s1 sH=>by
  refine⟨us,sH.seq (s1.seq h1),?_⟩
  have l1:=r1.length
  rw[Qy4]
  omega
theorem QHK{elts:List Expr}{k1:Nat}{tpos p pos:Pos}(hgl:Gl C.X "enumerate")(hm:C.X.mg "enumerate"=none)(ha:DE C a A)
 (hst:starEach [a] C.X.env=(false,eval a C.X.env)::starEach [] C.X.env:=by rfl):DI C (.Tuple elts k1 tpos) (.Call (.Name "enumerate" p) [a] [] pos) (itE A):=by
 obtain⟨t0,p0,q0⟩:=ha
 refine⟨_,QNa hgl hm (Qbh p0 Qc6 hst) (by rw[hst];rfl),fun G H σ ς R S k=>?_⟩
 unfold itE at k
 rw[Out.post_bind]at k
 refine q0 G H σ ς _ S (Out.post_mono k fun d k v H1 G1 S1 a1 b1 r=>?_)
 cases d with
 | lst xs=>
  obtain⟨p1,us,rfl,h1,r1⟩:=r
  exact⟨p1,rfl,⟨us,S1.sub.seq h1⟩,k _ H1 G1 S1 a1 b1 (QL5 h1 r1)⟩
 | _=>exact k.elim
end
end DL
namespace L2
open PySem PySem.Spec PyProof.Rows
section
variable{X:Cx}
end
end L2
namespace DL
open PySem PySem.Spec PyProof.Rows L2
section
variable{C:Dc}{o e:Expr}{O E:SD->Out D}{apos cpos:Pos}
end
end DL
namespace L2
open PySem PySem.Spec PyProof.Rows
section
variable{X:Cx}{k:Nat}{f ea:Addr}{fd:FuncData}{ps:List Str}{sp:Sp}{dvs:List V}{ds:List Value}{x:Str}{p pos:Pos}{e:Expr}{es:List Expr}{t:TA}
end
end L2
namespace DL
open PySem PySem.Spec PyProof.Rows L2
section
variable{C:Dc}{ea:Addr}{x:Str}{k:Nat}{m:List D->Out D}{e:Expr}{es:List Expr}{A:SD->Out (List D)}{p pos:Pos}
end
end DL
namespace L2
open PySem PySem.Spec PyProof.Rows
section
variable{X:Cx}{tg:Expr}
end
end L2
namespace DL
open PySem PySem.Spec PyProof.Rows L2
section
variable{C:Dc}{a b c e:Expr}{es:List Expr}{A B E:SD->Out D}{AA:SD->Out (List D)}{tg:Expr}{p pos:Pos}
def frz(j:Nat)(ς:SD):SD:=match (ς[j]?:Option (Option (SM×D))) with
 | some (some (SM.o,d))=>ς.set j (some (.k,d))
 | _=>ς
theorem StR.frz{G H:Hp}{σ:L2.St}{ς:SD}(S:StR C G H σ ς){j:Nat}{d:D}(z:ς[j]?=some (some (.o,d))):∃ G',Same G G'/\StR C G' H σ (ς.set j (some (.k,d))):=by
 obtain⟨p,e,hg,h0,ow⟩:=S.ow j d z
 obtain⟨o,ho⟩:=ow.there
 have hj:j<ς.length:=(List.getElem?_eq_some_iff.mp z).1
 have get:∀(i:Nat) x,(ς.set j (some (.k,d)))[i]?=some (some x)->(i=j/\x=(.k,d))∨(i≠j/\ς[i]?=some (some x)):=fun i x h=>by
  rw[List.getElem?_set]at h
  by_cases q:j=i
  ·rw[if_pos q,if_pos (by omega)]at h
   cases h
   exact .inl ⟨q.symm,rfl⟩
  ·rw[if_neg q]at h
   exact .inr ⟨fun w=>q w.symm,h⟩
 refine⟨upd G p o,Qy hg,?_⟩
 have hn:∀(i:Nat) d',i≠j->ς[i]?=some (some (.o,d'))->σ[i]?≠some (some (.ref p)):=fun i d' hi q w=>S.inj i j d' d p hi q z w e
 exact {
  toGH:=GH.freezeR S.toGH ho hg h0
  len:=by rw[List.length_set];exact S.len
  fz:=fun i d' q=>by
   rcases get i _ q with⟨rfl,w⟩ | ⟨_,w⟩
   ·cases w
    exact⟨_,e,ow.known hg ho⟩
   ·obtain⟨v,a,b⟩:=S.fz i d' w
    exact⟨v,a,Rep.mono (Qy hg) d' v b⟩
  ow:=fun i d' q=>by
   rcases get i _ q with⟨rfl,w⟩ | ⟨hi,w⟩
   ·cases w
   ·obtain⟨r,a,b,c,w'⟩:=S.ow i d' w
    refine⟨r,a,?_,c,w'.mono (Qy hg) fun _ z=>z⟩
    rw[Qk (by rintro rfl;exact hn i d' hi w a)];exact b
  ln:=fun i d' q=>by
   rcases get i _ q with⟨rfl,w⟩ | ⟨_,w⟩
   ·cases w
   ·exact S.ln i d' w
  inj:=fun i k d1 d2 q hne h1 h2=>by
   rcases get i _ h1 with⟨rfl,w⟩ | ⟨_,w⟩
   ·cases w
   ·rcases get k _ h2 with⟨rfl,w2⟩ | ⟨_,w2⟩
    ·cases w2
    ·exact S.inj i k d1 d2 q hne w w2
  sf:=fun i d' q=>by
   rcases get i _ q with⟨rfl,w⟩ | ⟨_,w⟩
   ·cases w
   ·obtain⟨r,a,b,c,m,z',w'⟩:=S.sf i d' w
    refine⟨r,a,?_,c,m,z',w'.mono (Qy hg) fun _ z=>z⟩
    rw[Qk (by rintro rfl;exact c h0)];exact b
  su:=fun i k d1 d2 q hne h1 h2=>by
   rcases get i _ h1 with⟨rfl,w⟩ | ⟨_,w⟩
   ·cases w
   ·rcases get k _ h2 with⟨rfl,w2⟩ | ⟨_,w2⟩
    ·cases w2
    ·exact S.su i k d1 d2 q hne w w2 }
theorem QrB(j:Nat){st:Stmt}{T:SD->Out Fl}(h:DS C st T):DS C st (fun ς=>T (frz j ς)):=by
 obtain⟨t,p1,q⟩:=h
 refine⟨t,p1,fun G H σ ς W S k=>?_⟩
 have k:(T (frz j ς)).post (FlK C G W) C.XD:=k
 by_cases z:∃ d,ς[j]?=some (some (SM.o,d))
 ·obtain⟨d,z⟩:=z
  have e:frz j ς=ς.set j (some (.k,d)):=by unfold frz;rw[z]
  rw[e]at k
  obtain⟨G',sG,S'⟩:=S.frz z
  exact q G' H σ _ W S' (Out.post_mono k fun f kf=>FlK.later kf sG)
 ·have e:frz j ς=ς:=by
   unfold frz
   split
   ·rename_i d w;exact absurd ⟨d,w⟩ z
   ·rfl
  rw[e]at k
  exact q G H σ ς W S k
end
end DL
namespace LS
open PySem PySem.Spec PyProof.Rows
def met(f:Nat->Str):Nat->List Str
 | 0=>[]
 | i+1=>if f i∈met f i then met f i else met f i++[f i]
theorem met_le(f:Nat->Str):∀ i,(met f i).length<=i
 | 0=>Nat.le_refl _
 | i+1=>by
  have h:=met_le f i
  show(if _ then _ else _:List Str).length<=_
  split
  ·omega
  ·rw[List.length_append,List.length_singleton];omega
abbrev isIn(f:Nat->Str)(i:Nat):Str->Bool:=fun y=>decide (y∈met f i)
theorem QJ4(f:Nat->Str)(i:Nat)(y:Str):(isIn f i y||decide (y=f i))=isIn f (i+1) y:=by
 show _=decide (y∈(if _ then _ else _:List Str))
 by_cases h:f i∈met f i
 ·rw[if_pos h]
  by_cases e:y=f i
  ·subst e;simp[isIn,h]
  ·simp[isIn,e]
 ·rw[if_neg h]
  simp[isIn,Bool.decide_or]
theorem QMj(f:Nat->Str)(i:Nat):(if isIn f i (f i)=true then(met f i).length else(met f i).length+1)=(met f (i+1)).length:=by
 show _=(if _ then _ else _:List Str).length
 by_cases h:f i∈met f i
 ·rw[if_pos h,if_pos (decide_eq_true h)]
 ·rw[if_neg h,if_neg (by simpa [isIn] using h),List.length_append];rfl
section
variable{pg:Program}{wd:World}
theorem QLo{hp:Heap}{p:Addr}{f g:Str->Bool}{m n:Nat}(h:hp.SetOf (strKind pg wd) p f m)(hf:f=g)(hn:m=n):hp.SetOf (strKind pg wd) p g n:=hn ▸ hf ▸ h
variable{ar:Around}{Res:Result->Shared->Prop}{it:Addr}{ff wt:List Addr}{Gn:Array GenState->Array GenState->Prop}{n:Nat}{Pv:Nat->Value->Prop}{Sv:Nat->Shared->Prop}
theorem fill(Wk:WalksS pg wd ar.in1 it ff wt Gn n Pv Sv){p:Addr}(off:p∉ff){f:Nat->Str}(txt:∀ i v,Pv i v->∃ t,v=.str (f i) t)(few:n+1<scanBound):
 ∀(m i:Nat)(st:Shared),i+m=n->Sv i st->st.heap.SetOf (strKind pg wd) p (isIn f i) (met f i).length->
  (∀ st',Moved (p::wt) Gn st st'->st'.heap.SetOf (strKind pg wd) p (isIn f n) (met f n).length->Res (.ok (.ret .none)) st')->
  codeAny (model pg wd) ar (.builtin "set.update.loop" ⟨[.ref p,.ref it],[]⟩) Res st:=by
 have off':p∉wt:=fun z=>off (Wk.sub _ z)
 have more:∀ b,b∈wt->b∈p::wt:=fun b hb=>List.mem_cons_of_mem p hb
 have stays:∀{s s':Shared}{i:Nat},Moved wt Gn s s'->s.heap.SetOf (strKind pg wd) p (isIn f i) (met f i).length->s'.heap.SetOf (strKind pg wd) p (isIn f i) (met f i).length:=
  fun mv ⟨o,es,ep,tb,ho,rest⟩=>⟨o,es,ep,tb,mv.heap p o off' ho,rest⟩
 intro m
 induction m with
 | zero=>
  intro i st him hs hset fin
  obtain rfl:i=n:=by omega
  refine codeAny_builtin PyProof.Rows.F.entry_set_update_loop ?_
  rw[Around.under_plainId PyProof.Rows.F.plain_set_update_loop _]
  exact wpAny_bind (m:=pyNext (.ref it)) (Wk.done st _ _ hs fun st' mv=>wpAny_pure (fin st' (mv.mono more) (stays mv hset)))
 | succ m next=>
  intro i st him hs hset fin
  refine codeAny_builtin PyProof.Rows.F.entry_set_update_loop ?_
  rw[Around.under_plainId PyProof.Rows.F.plain_set_update_loop _]
  refine wpAny_bind (m:=pyNext (.ref it)) (Wk.item i st _ _ (by omega) hs fun v st' hv hs' mv=>?_)
  obtain⟨t,rfl⟩:=txt i v hv
  have key:=strKind_is pg wd (f i) t
  have hset1:=stays mv hset
  refine wpAny_bind (m:=holding [.str (f i) t] (setAdd p (.str (f i) t))) (wpAny_holding ?_)
  unfold setAdd
  refine wpAny_holding (wpAny_bind ((strKind pg wd).pyHash (k:=f i) key ?_))
  refine wpAny_setAddHashed_of (knd:=strKind pg wd) key rfl hset1 (by have:=met_le f i;omega) fun hp' same hset'=>?_
  have now:=QLo hset' (g:=isIn f (i+1)) (funext fun y=>QJ4 f i y) (QMj f i)
  have tt:st'.toks<=st'.toks+1:=Nat.le_succ _
  refine wpAny_pure ⟨plainId_quiet PyProof.Rows.F.plain_set_update_loop _,next (i+1) _ (by omega) (Wk.frame _ st' _ _ hs' tt fun b hb o e=>?_) now fun st2 mv2 hset2=>fin st2 (Moved.trans Wk.gtrans ((mv.mono more).then_heap tt fun b o hb e=>?_) mv2) hset2⟩
  ·rw[same.2 b fun z=>off (z ▸ hb)];exact e
  ·rw[same.2 b fun z=>hb (z ▸ List.mem_cons_self)];exact e
end
abbrev Qel(led:Bool):Obj:={ cls:=.type "set",dict:=none,data:=.set #[] 0 (.fresh 0 0 led) }
section
variable{pg:Program}{wd:World}{ar:Around}{Ex:Value->Shared->Prop}{st:Shared}
set_option maxHeartbeats 4000000 in
theorem of_list{l:Addr}{vs:Array Value}{f:Nat->Str}{Q:Value->Shared->Prop}(nh:ar.handled=none)(isl:st.heap.IsList l vs)(txt:∀ i v,vs[i]?=some v->∃ t,v=Value.str (f i) t)(few:vs.size+1<scanBound)
 (goal:∀(hp:Heap)(tk:Nat),hp.SetOf (strKind pg wd) st.heap.objs.size (isIn f vs.size) (met f vs.size).length->(∀ b o,b<st.heap.objs.size->st.heap.get? b=some o->hp.get? b=some o)->Q (.ref st.heap.objs.size) { st with heap:=hp,toks:=tk }):
 wpAny (model pg wd) ar (call (.type "set") [.ref l]) Q Ex st:=by
 have made:=PySem.F.called_set.made
 have sub:=PySem.F.called_set.sub
 have nt:=PySem.F.called_set.notType
 have cc:=PySem.F.called_set.canCreate
 have tc:=PySem.F.typeCall_set_1 (.ref l)
 obtain⟨c1,c2,mro⟩:=PySem.F.called_set.mro
 refine wpAny_call (codeAny_of_tree ?_)
 show wpAny (model pg wd) _ (callAny (.type "set") ⟨[.ref l],[]⟩) _ _ st
 refine wpAny_pure ⟨Code.quiet_builtin _ (dk),codeAny_builtin F.entry_type_call ?_⟩
 rw[Around.under_plain (weight_type_call_type "set" [.ref l] []) rfl]
 repeat (any_goals (first | assumption | wp_step))
 let mid:Shared->Prop:=fun s2=>∃ hp tk,s2={ st with heap:=hp,toks:=tk }/\hp.SetOf (strKind pg wd) st.heap.objs.size (isIn f vs.size) (met f vs.size).length/\∀ b o,b<st.heap.objs.size->st.heap.get? b=some o->hp.get? b=some o
 refine codeAny_mono (code_set_new_1 (.ref l) (E:=Ex) (Q₁:=fun v s1=>∃ led,v=.ref st.heap.objs.size/\s1={ st with heap:=st.heap.push (Qel led) }) fun led=>⟨led,rfl,rfl⟩) fun r1 s1 h1=>?_
 cases r1 with
 | error _=>exact h1
 | ok fl1=>
  cases fl1 with
  | ret v1=>
   obtain⟨led,rfl,rfl⟩:=h1
   have at1:(st.heap.push (Qel led)).get? st.heap.objs.size=some (Qel led):=Heap.get?_push_size _ rfl
   have ty1:Shared.TypeIs { st with heap:=st.heap.push (Qel led) } (.ref st.heap.objs.size) "set":=⟨_,at1,rfl⟩
   have lk:=PySem.F.called_set.init.lookup
   have bd:=PySem.F.called_set.init.bind (.ref st.heap.objs.size)
   repeat (any_goals (first | assumption | wp_step))
   refine codeAny_mono (codeAny_call_builtin (R:=wants (fun v s2=>v=.none/\mid s2) Ex) PySem.F.called_set.init.plain F.entry_set_init (check_set_init_1 ty1 ?_)) fun r2 s2 h2=>?_
   ·obtain⟨⟨oc,od,dt,os⟩,hol,e1,nl,e2⟩:=isl
    obtain rfl:oc=.type "list":=e1
    obtain rfl:dt=.seq vs nl:=e2
    have hol1:(st.heap.push (Qel led)).get? l=some ⟨.type "list",od,.seq vs nl,os⟩:=Heap.get?_push_of_some _ hol
    have isl1:(st.heap.push (Qel led)).IsList l vs:=⟨_,hol1,rfl,nl,rfl⟩
    have n1:=PySem.F.sub_list_set
    have n2:=PySem.F.sub_list_frozenset
    have n3:(Value.type "list" == Value.type "dict")=false:=by decide
    have lt : @LT.lt Nat _ l st.heap.objs.size:=Heap.lt_size hol
    have sz:=Heap.size_push st.heap (Qel led)
    unfold Builtin.«set.__init__» noKeywords Builtin.Frozenset.updateFrom
    generalize keep:pyIter=ITER
    wp_walk
    subst keep
    refine wpAny_pyIter_list isl1 (wpAny_bind (wpAny_runValue ?_))
    have off:st.heap.objs.size∉[(st.heap.push (Qel led)).objs.size,l]:=by
     rw[sz]
     intro z
     rcases List.mem_cons.mp z with z | z
     ·exact Nat.ne_of_lt (Nat.lt_succ_self _) z
     ·exact Nat.ne_of_gt lt (List.mem_singleton.mp z)
    have off2:l≠(st.heap.push (Qel led)).objs.size:=by rw[sz];exact Nat.ne_of_lt (Nat.lt_succ_of_lt lt)
    refine fill ((Walks.list (by simp[nh]) _ l off2 vs).toS) off txt few vs.size 0 _ (Nat.zero_add _) ⟨⟨_,Heap.get?_push_size _ rfl,rfl,rfl⟩,isl1.push _⟩ ?_ fun s3 mv hs3=>?_
    ·exact QLo ((setObjOf_fresh (knd:=strKind pg wd) led).setOf (Heap.get?_push_of_some _ at1) (by unfold scanBound;omega)) (funext fun y=>by simp[isIn,met]) rfl
    ·obtain⟨hp3,g3,d3,tk3,os3⟩:=s3
     obtain rfl:g3=st.gens:=mv.gens
     obtain rfl:d3=st.drawn:=mv.drawn
     obtain rfl:os3=st.os:=mv.os
     refine wpAny_pure (wpAny_pure ⟨rfl,hp3,tk3,rfl,hs3,fun b o hb e=>?_⟩)
     refine mv.heap b o (fun z=>?_) (Heap.get?_push_of_some _ (Heap.get?_push_of_some _ e))
     rw[sz]at z
     rcases List.mem_cons.mp z with z | z
     ·exact Nat.ne_of_lt hb z
     ·rcases List.mem_cons.mp z with z | z
      ·exact Nat.ne_of_lt (Nat.lt_succ_of_lt hb) z
      ·exact absurd z List.not_mem_nil
   ·cases r2 with
    | error _=>exact h2
    | ok fl2=>
     cases fl2 with
     | ret v2=>
      obtain⟨rfl,hp,tk,rfl,hs2,kp⟩:=h2
      repeat (any_goals (first | assumption | wp_step))
      exact goal hp tk hs2 kp
     | _=>exact h2.elim
  | _=>exact h1.elim
end
end LS
namespace DL
open PySem PySem.Spec PyProof.Rows L2
def dkey:D->Option Key
 | .int i=>some (.inl i)
 | .str x=>some (.inr x)
 | _=>none
def valD(kds:List (Key×D))(k:Key):Option D:=(kds.find? fun kv=>decide (kv.1=k)).map (·.2)
def putKD(kds:List (Key×D))(k:Key)(d:D):List (Key×D):=
 if (kds.any fun kv=>decide (kv.1=k))=true then kds.map (fun kv=>if kv.1=k then(kv.1,d) else kv) else kds++[(k,d)]
section
variable{K:PySem.W.Frag}{CT:CTab}{H:Hp}
theorem Qur{d:D}{v:V}{k:Key}(h:dkey d=some k)(r:Rep K CT H d v):v=kV k:=by
 cases d with
 | int i=>cases h;exact r
 | str x=>cases h;exact r
 | _=>cases h
theorem RepK.len:∀{ds:List (Key×D)}{vs:List (Key×V)},RepK K CT H ds vs->ds.length=vs.length
 | [],_,h=>by cases h;rfl
 | (k,d)::ds,_,⟨v,r,h1,h2,h3⟩=>by rw[h1,List.length_cons,List.length_cons,RepK.len h3]
theorem RepK.val(k:Key):∀{ds:List (Key×D)}{vs:List (Key×V)},RepK K CT H ds vs->(valD ds k=none/\valV vs k=none)∨∃ d v,valD ds k=some d/\valV vs k=some v/\Rep K CT H d v
 | [],_,h=>by cases h;exact .inl ⟨rfl,rfl⟩
 | (k',d)::ds,_,⟨v,r,h1,h2,h3⟩=>by
  subst h1
  by_cases e:k'=k
  ·subst e
   exact .inr ⟨d,v,by simp[valD],by simp[valV],h2⟩
  ·have a:valD ((k',d)::ds) k=valD ds k:=by simp[valD,List.find?_cons,e]
   have b:valV ((k',v)::r) k=valV r k:=by simp[valV,List.find?_cons,e]
   rw[a,b];exact RepK.val k h3
theorem RepK.any(k:Key):∀{ds:List (Key×D)}{vs:List (Key×V)},RepK K CT H ds vs->(ds.any fun kv=>decide (kv.1=k))=vs.any fun kv=>decide (kv.1=k)
 | [],_,h=>by cases h;rfl
 | (k',d)::ds,_,⟨v,r,h1,h2,h3⟩=>by
  subst h1
  rw[List.any_cons,List.any_cons,RepK.any k h3]
theorem RepK.repl(k:Key){d:D}{v:V}(hd:Rep K CT H d v):∀{ds:List (Key×D)}{vs:List (Key×V)},RepK K CT H ds vs->RepK K CT H (ds.map fun kv=>if kv.1=k then(kv.1,d) else kv) (vs.map fun kv=>if kv.1=k then(kv.1,v) else kv)
 | [],_,h=>by cases h;rfl
 | (k',d')::ds,_,⟨v',r,h1,h2,h3⟩=>by
  subst h1
  rw[List.map_cons,List.map_cons]
  by_cases e:k'=k
  ·rw[if_pos (show(k',d').1=k from e),if_pos (show(k',v').1=k from e)]
   exact⟨v,_,rfl,hd,RepK.repl k hd h3⟩
  ·rw[if_neg (show ¬ (k',d').1=k from e),if_neg (show ¬ (k',v').1=k from e)]
   exact⟨v',_,rfl,h2,RepK.repl k hd h3⟩
theorem RepK.snoc(k:Key){d:D}{v:V}(hd:Rep K CT H d v):∀{ds:List (Key×D)}{vs:List (Key×V)},RepK K CT H ds vs->RepK K CT H (ds++[(k,d)]) (vs++[(k,v)])
 | [],_,h=>by cases h;exact⟨v,[],rfl,hd,rfl⟩
 | (k',d')::ds,_,⟨v',r,h1,h2,h3⟩=>by
  subst h1
  exact⟨v',_,rfl,h2,RepK.snoc k hd h3⟩
theorem RepK.put(k:Key){d:D}{v:V}(hd:Rep K CT H d v){ds:List (Key×D)}{vs:List (Key×V)}(h:RepK K CT H ds vs):RepK K CT H (putKD ds k d) (putK vs k v):=by
 unfold putKD putK
 rw[RepK.any k h]
 split
 ·exact RepK.repl k hd h
 ·exact RepK.snoc k hd h
end
def eDix(A B:SD->Out D):SD->Out D:=fun ς=>A ς>>=fun x=>match x with
 | .dic kds=>B ς>>=fun y=>match dkey y with | some k=>optO (valD kds k) | none=>.stuck
 | _=>.stuck
def eDget(A B:SD->Out D):SD->Out D:=fun ς=>A ς>>=fun x=>match x with
 | .dic kds=>B ς>>=fun y=>match dkey y with | some k=>.ok ((valD kds k).getD .non) | none=>.stuck
 | _=>.stuck
def sPutD(i:Nat)(I E:SD->Out D):SD->Out Fl:=fun ς=>E ς>>=fun d=>match ς[i]? with
 | some (some (.o,.dic kds))=>I ς>>=fun y=>match dkey y with
  | some k=>if decide (kds.length<sizeLine)=true then .ok (.nx (ς.set i (some (.o,.dic (putKD kds k d))))) else .stuck
  | none=>.stuck
 | _=>.stuck
section
variable{C:Dc}{a b c:Expr}{A B Z:SD->Out D}{pos apos:Pos}
theorem QOc(hu:C.X.A.units+64<cLine)(ha:DE C a A)(hb:DB C b B)(hs:NoSl b:=by intro _ _;rfl):DE C (.Subscript a b pos) (eDix A B):=by
 obtain⟨ta,p1,q1⟩:=ha
 obtain⟨tb,p2,q2⟩:=hb
 refine⟨_,QNR (by omega) p1 p2 hs,fun G H σ ς Q S q=>?_⟩
 unfold eDix at q
 rw[Out.post_bind]at q
 refine q1 G H σ ς _ S (Out.post_mono q fun x k v1 H1 G1 S1 a1 b1 r1=>?_)
 cases x with
 | dic kds=>
  have k:(B ς>>=fun y=>match dkey y with | some k=>optO (valD kds k) | none=>.stuck).post (KD C G H σ ς Q) C.XD:=k
  rw[Out.post_bind]at k
  refine q2 G1 H1 σ ς _ S1 (Out.post_mono k fun y k2 v2 H2 G2 S2 a2 b2 r2=>?_)
  cases e:dkey y with
  | none=>rw[e]at k2;exact k2.elim
  | some kk=>
   rw[e]at k2
   obtain⟨d,ed,kd⟩:=QcM k2
   obtain⟨p,kvs,rfl,h2,h3⟩:=Rep.mono b2 _ v1 r1
   rcases RepK.val kk h3 with⟨n1,n2⟩ | ⟨d',v,n1,n2,r⟩
   ·rw[n1]at ed;cases ed
   ·rw[n1]at ed;cases ed
    exact⟨p,v,rfl,.inl ⟨kvs,kk,Same.rd S2.sub h2,Qur e r2,n2.symm⟩,KD.now (KD.later kd (a1.trans a2) (b1.trans b2)) S2 r⟩
 | _=>exact k.elim
theorem QNM{K:PySem.W.Frag}{CT:CTab}{H:Hp}:Rep K CT H .non .non:=rfl
theorem QM7(hu:C.X.A.units+64<cLine)(ha:DE C a A)(hb:DB C b B)
 (hbase:attributeBase a "get" C.X.env (eval a C.X.env)=eval a C.X.env:=by rfl)
 (hfew:((backTo pos (starEach [b] C.X.env)).all (fun x => !x.1)&&(backToKw pos (keywordEach [] C.X.env)).all (fun x=>x.1.isSome)
  && decide (([b]:List Expr).length+([]:List Keyword).length+(if ([]:List Keyword).isEmpty then 0 else 1)<30))=true:=by rfl)
 (hline:(apos.endLine == pos.line)=true:=by rfl) (htr:backTo pos (starEach [b] C.X.env)=[(false,eval b C.X.env)]:=by rfl):DE C (.Call (.Attribute a "get" apos) [b] [] pos) (eDget A B):=by
 obtain⟨ta,p1,q1⟩:=ha
 obtain⟨tb,p2,q2⟩:=hb
 refine⟨_,QL0 (by omega) p1 p2 ⟨hbase,hfew,hline,htr⟩,fun G H σ ς Q S q=>?_⟩
 unfold eDget at q
 rw[Out.post_bind]at q
 refine q1 G H σ ς _ S (Out.post_mono q fun x k v1 H1 G1 S1 a1 b1 r1=>?_)
 cases x with
 | dic kds=>
  have k:(B ς>>=fun y=>match dkey y with | some k=>Out.ok ((valD kds k).getD .non) | none=>.stuck).post (KD C G H σ ς Q) C.XD:=k
  rw[Out.post_bind]at k
  obtain⟨p,kvs,rfl,h2,h3⟩:=r1
  refine⟨p,rfl,.inl ⟨kvs,Same.rd S1.sub h2⟩,q2 G1 H1 σ ς _ S1 (Out.post_mono k fun y k2 v2 H2 G2 S2 a2 b2 r2=>?_)⟩
  cases e:dkey y with
  | none=>rw[e]at k2;exact k2.elim
  | some kk=>
   rw[e]at k2
   have kd:KD C G H σ ς Q ((valD kds kk).getD .non):=k2
   refine⟨valV kvs kk,.inl ⟨kvs,kk,Same.rd (S1.sub.trans a2) h2,Qur e r2,rfl⟩,?_⟩
   rcases RepK.val kk (RepK.mono b2 kds kvs h3) with⟨n1,n2⟩ | ⟨d',v,n1,n2,r⟩
   ·rw[n1]at kd;rw[n2];exact KD.now (KD.later kd (a1.trans a2) (b1.trans b2)) S2 QNM
   ·rw[n1]at kd;rw[n2];exact KD.now (KD.later kd (a1.trans a2) (b1.trans b2)) S2 r
 | _=>exact k.elim
theorem StR.writeD{G H:Hp}{σ:St}{ς:SD}(S:StR C G H σ ς){i:Nat}{p:Addr}{xs ys:List (Key×D)}{vs ws:List (Key×V)}(hi:ς[i]?=some (some (.o,.dic xs)))(hp:σ[i]?=some (some (.ref p)))(hH:H p=some (.dK vs))(r:RepK C.X.K C.CT G ys ws):
 StR C G (upd H p (.dK ws)) σ (ς.set i (some (.o,.dic ys))):=by
 obtain⟨p',e1,hg,h0,ow⟩:=S.ow i _ hi
 rw[hp]at e1;cases e1
 have hil:i<ς.length:=(List.getElem?_eq_some_iff.mp hi).1
 have ne:∀ b o,G b=some o->b≠p:=fun b o e z=>by subst z;rw[hg]at e;cases e
 have S':StR C G (upd H p (.dK ws)) (σ.set i (some (.ref p))) (ς.set i (some (.o,.dic ys))):={
  sub:=fun b o e=>by rw[Qk (ne b o e)];exact S.sub b o e
  g0:=S.g0
  new:=S.new
  fr:=fun b o e m=>by
   rw[Qk (by rintro rfl;rw[h0]at e;cases e)];exact S.fr b o e m
  dom:=fun b e=>by
   by_cases hb:b=p
   ·subst hb;exact h0
   ·rw[Qk hb]at e;exact S.dom b e
  bs:=fun b o e=>by
   rw[Qk (by rintro rfl;rw[S.bh _ h0]at e;cases e)];exact S.bs b o e
  bh:=S.bh
  len:=by rw[List.length_set,List.length_set];exact S.len
  fz:=fun j d h=>by
   rcases Qs h with⟨rfl,h2,l⟩ | ⟨hne,h2⟩
   ·cases h2
   ·rw[Qm hne];exact S.fz j d h2
  ow:=fun j d h=>by
   rcases Qs h with⟨rfl,h2,l⟩ | ⟨hne,h2⟩
   ·cases h2
    exact⟨p,QgS (by rw[S.len];exact l),hg,h0,⟨ws,QG,r⟩⟩
   ·rw[Qm hne]
    obtain⟨q,a,b,c,w⟩:=S.ow j d h2
    have qp:q≠p:=by
     rintro rfl
     exact S.inj i j _ _ q hne hi h2 hp a
    exact⟨q,a,b,c,w.mono (Same.refl G) fun o z=>by rw[Qk qp];exact z⟩
  ln:=fun j d h=>by
   rcases Qs h with⟨rfl,h2,l⟩ | ⟨hne,h2⟩
   ·cases h2
   ·rw[Qm hne];exact S.ln j d h2
  inj:=fun j k d1 d2 q hjk h1 h2 h3=>by
   have get:∀(j:Nat) d,(ς.set i (some (.o,D.dic ys)))[j]?=some (some (.o,d))->∃ d',ς[j]?=some (some (.o,d')):=fun j d h=>by
    rcases Qs h with⟨rfl,h2,l⟩ | ⟨hne,h2⟩
    ·exact⟨_,hi⟩
    ·exact⟨_,h2⟩
   obtain⟨d1',g1⟩:=get j d1 h1
   obtain⟨d2',g2⟩:=get k d2 h2
   rw[Qh6 hp]at h3 ⊢
   exact S.inj j k d1' d2' q hjk g1 g2 h3
  sf:=fun j d h=>by
   rcases Qs h with⟨rfl,h2,l⟩ | ⟨hne,h2⟩
   ·cases h2
   ·rw[Qm hne]
    obtain⟨q,a,b,c,m,z,w⟩:=S.sf j d h2
    have qp:q≠p:=by
     rintro rfl
     exact c h0
    exact⟨q,a,b,c,m,z,w.mono (Same.refl G) fun o z=>by rw[Qk qp];exact z⟩
  su:=fun j k d1 d2 q hjk h1 h2 h3=>by
   rcases Qs h1 with⟨rfl,q1,l⟩ | ⟨n1,q1⟩
   ·cases q1
   ·rcases Qs h2 with⟨rfl,q2,l⟩ | ⟨n2,q2⟩
    ·cases q2
    ·rw[Qm n1]at h3
     rw[Qm n2];exact S.su j k d1 d2 q hjk q1 q2 h3 }
 rw[Qh6 hp]at S'
 exact S'
variable{e:Expr}{E:SD->Out D}{p1 p2:Pos}{x:Str}
theorem QHl(hu:C.X.A.units+64<cLine)(i:Nat)(hi:DB C a A)(he:DE C e E)(hN:C.X.N[i]?=some x:=by rfl)(hv:Vis C.X.env.scope x:=by first | exact Or.inl rfl | exact Or.inr (Or.inl rfl) | exact Or.inr (Or.inr rfl))
 (hd:(x == ("__debug__":Str))=false:=by decide) (hcd:(x == ("__classdict__":Str))=false:=by decide)
 (hs:swapsWith e (some (.Subscript (.Name x p1) a p2)) pos.line C.X.env=pure false:=by rfl):DS C (.Assign [.Subscript (.Name x p1) a p2] e pos) (sPutD i A E):=by
 obtain⟨t,p,q⟩:=he
 obtain⟨t2,p2',q2⟩:=hi
 refine⟨_,QNh (by omega) (Qda (i:=i) hN hv hd hcd) p2' p hs,fun G H σ ς W S k=>?_⟩
 unfold sPutD at k
 rw[Out.post_bind]at k
 refine q G H σ ς _ S (Out.post_mono k fun d k v H1 G1 S1 a1 b1 r1=>?_)
 split at k
 ·rename_i kds z
  obtain⟨pp,e1,hg,h0,ow⟩:=S1.ow i _ z
  rw[Out.post_bind]at k
  refine⟨_,e1,q2 G1 H1 σ ς _ S1 (Out.post_mono k fun y k2 w H2 G2 S2 a2 b2 r2=>?_)⟩
  cases ey:dkey y with
  | none=>rw[ey]at k2;exact k2.elim
  | some kk=>
   rw[ey]at k2
   obtain⟨pp',e1',hg',h0',kvs,hv1,hv2⟩:=S2.ow i _ z
   rw[e1]at e1';cases e1'
   rcases QQ k2 with⟨hc,k3⟩ | ⟨_,k3⟩
   ·refine⟨pp,_,rfl,.inl ⟨kvs,kk,hv1,Qur ey r2,by rw[← hv2.len];exact of_decide_eq_true hc,rfl⟩,?_⟩
    exact k3 σ _ G2 (S2.writeD z e1 hv1 (RepK.put kk (Rep.mono b2 d v r1) hv2)) (b1.trans b2)
   ·exact k3.elim
 ·exact k.elim
end
end DL
namespace DL
open PySem PySem.Spec PyProof.Rows L2
def QeK(xs:List Str):Nat:=(LS.met (fun i=>xs.getD i "") xs.length).length
def QNs(K:PySem.W.Frag)(te:TA):TE:=fun σ H Q=>te σ H fun vs H1=>∃ p xs,vs=[V.ref p]/\SqL K H1 p (xs.map V.str)/\xs.length<4000/\Q (.int (QeK xs)) H1
section
variable{X:Cx}{e:Expr}{te:TA}{p1 p2 p3 pos:Pos}
theorem QD3:∀{xs:List Str}{us:List Value},Vals (xs.map V.str) us->∀(i:Nat) v,us[i]?=some v->∃ t,v=.str (xs.getD i "") t
 | [],_,h,i,v,hv=>by cases h;simp at hv
 | x::xs,_,h,i,v,hv=>by
  cases h with
  | cons hx hr=>
   cases i with
   | zero=>
    obtain⟨t,ht⟩:=hx
    refine⟨t,?_⟩
    simp at hv
    rw[← hv,ht];rfl
   | succ i=>
    have:=QD3 hr i v (by simpa using hv)
    simpa using this
theorem QKn(hh:X.A.handled=none)(gl:Gl X "len")(ml:X.mg "len"=none)(gs:Gl X "set")(ms:X.mg "set"=none)(he:PA X [e] te)
 (h1:starEach [e] X.env=(false,eval e X.env)::starEach [] X.env:=by rfl)
 (h2:starEach [.Call (.Name "set" p2) [e] [] p3] X.env=(false,eval (.Call (.Name "set" p2) [e] [] p3) X.env)::starEach [] X.env:=by rfl)
 (h3:backTo pos (starEach [.Call (.Name "set" p2) [e] [] p3] X.env)=[(false,eval (.Call (.Name "set" p2) [e] [] p3) X.env)]:=by rfl):
 PE X (.Call (.Name "len" p1) [.Call (.Name "set" p2) [e] [] p3] [] pos) (QNs X.K te):=by
 intro pins s σ H Q I h
 have inner:wpAny (model X.prog X.w) X.A (eval (.Call (.Name "set" p2) [e] [] p3) X.env) (fun u s'=>∃ D H1 xs,u=.ref D/\Inv X pins σ H1 s'/\s'.heap.SetOf (strKind X.prog X.w) D (LS.isIn (fun i=>xs.getD i "") xs.length) (QeK xs)/\QeK xs<4000/\Q (.int (QeK xs)) H1) X.xe s:=by
  refine wpAny_Call_Name_kw (Qi1 I gs ms PyProof.Rows.Boot.«set» ?_ (by decide) (by decide))
  refine PyProof.Rows.callWith_type1 (thn (he p3 pins s σ H _ I h) fun us s1 ⟨vs,H1,I1,r1,p,xs,ev,sq,few,q⟩=>?_) h1 rfl
  ·subst ev
   obtain⟨u,rfl,rx⟩:=vals1 r1
   cases rx
   obtain⟨its,rv,pl,hz⟩:=I1.list sq
   have hl:=rv.length
   rw[List.length_map]at hl
   have le:=LS.met_le (fun i=>xs.getD i "") xs.length
   refine LS.of_list hh pl.isList (f:=fun i=>xs.getD i "") (fun i v hv=>QD3 rv i v (by simpa using hv)) (by rw[List.size_toArray, ← hl];unfold scanBound;omega) fun hp tk hs kp=>?_
   have sz:its.toArray.size=xs.length:=by rw[List.size_toArray];omega
   rw[sz]at hs
   exact⟨_,H1,xs,rfl,I1.kept fun b o eb=>kp b o (Heap.lt_size eb) eb,hs,by unfold QeK;omega,q⟩
 refine wpAny_Call_Name_kw (Qi1 I gl ml PySem.boot_len ?_ (by decide) (by decide))
 refine PyProof.Rows.callWith_builtin1 ?_ h2 rfl
 rw[h3]
 refine Calls.spliced_cons (thn inner fun u s1 ⟨D,H1,xs,eu,I1,hs,few,q⟩=>Calls.spliced_nil ?_)
 subst eu
 obtain⟨o,es,ep,t,ho,hex,hd,hel,hmem,hb,hf,hn⟩:=hs
 refine call_len_set ho hex hd hf (by rw[hn];omega) ?_
 rw[hn]
 exact⟨.int (QeK xs),H1,(I1.tok _).tok _,⟨_,rfl⟩,q⟩
end
def strsD:List D->Option (List Str)
 | []=>some []
 | .str x::ds=>(strsD ds).map (x :: ·)
 | _::_=>none
theorem QBB{K:PySem.W.Frag}{CT:CTab}{H:Hp}:∀{ds:List D}{vs:List V}{xs:List Str},strsD ds=some xs->RepL K CT H ds vs->vs=xs.map V.str
 | [],_,_,h,r=>by cases h;cases r;rfl
 | d::ds,_,xs,h,⟨v,r,h1,h2,h3⟩=>by
  cases d with
  | str x=>
   obtain⟨ys,hy,rfl⟩:=Option.map_eq_some_iff.mp (show(strsD ds).map (x :: ·)=some xs from h)
   rw[h1,QBB hy h3,show v=V.str x from h2];rfl
  | _=>cases h
def QxZ:D->Out D
 | .lst ds=>match strsD ds with
  | some xs=>if decide (xs.length<4000)=true then .ok (.int (QeK xs)) else .stuck
  | none=>.stuck
 | _=>.stuck
section
variable{C:Dc}{a:Expr}{A:SD->Out D}{p1 p2 p3 pos:Pos}
theorem QKW(hh:C.X.A.handled=none)(gl:Gl C.X "len")(ml:C.X.mg "len"=none)(gs:Gl C.X "set")(ms:C.X.mg "set"=none)(ha:DB C a A)
 (h1:starEach [a] C.X.env=(false,eval a C.X.env)::starEach [] C.X.env:=by rfl)
 (h2:starEach [.Call (.Name "set" p2) [a] [] p3] C.X.env=(false,eval (.Call (.Name "set" p2) [a] [] p3) C.X.env)::starEach [] C.X.env:=by rfl)
 (h3:backTo pos (starEach [.Call (.Name "set" p2) [a] [] p3] C.X.env)=[(false,eval (.Call (.Name "set" p2) [a] [] p3) C.X.env)]:=by rfl):
 DE C (.Call (.Name "len" p1) [.Call (.Name "set" p2) [a] [] p3] [] pos) (e1 QxZ A):=by
 obtain⟨ta,q1,q2⟩:=ha
 refine⟨_,QKn hh gl ml gs ms (Qbh q1 Qc6 h1) h1 h2 h3,fun G H σ ς Q S q=>?_⟩
 unfold e1 at q
 rw[Out.post_bind]at q
 refine q2 G H σ ς _ S (Out.post_mono q fun x k v1 H1 G1 S1 a1 b1 r1=>?_)
 cases x with
 | lst ds=>
  obtain⟨p,vs,rfl,sq,r⟩:=r1
  have k:(match strsD ds with | some xs=>if decide (xs.length<4000)=true then Out.ok (D.int (QeK xs)) else .stuck | none=>.stuck).post (KD C G H σ ς Q) C.XD:=k
  cases es:strsD ds with
  | none=>rw[es]at k;exact k.elim
  | some xs=>
   rw[es]at k
   have ev:=QBB es r
   subst ev
   rcases QQ k with⟨hc,kd⟩ | ⟨_,kd⟩
   ·exact⟨p,xs,rfl,sq,of_decide_eq_true hc,KD.now (KD.later (show KD C G H σ ς Q (.int (QeK xs)) from kd) a1 b1) S1 rfl⟩
   ·exact kd.elim
 | _=>exact k.elim
end
end DL
namespace DL
open PySem PySem.Spec PyProof.Rows L2
def tVs(vs:List V):TA:=fun _ H Q=>Q vs H
def anyT:List (List (Str×Bool))->Str->Option Bool
 | [],_=>some false
 | t::ts,c=>match t.lookup c with
  | some true=>some true
  | some false=>anyT ts c
  | none=>none
def KitsT(K:PySem.W.Frag)(CT:CTab):List Value->List (List (Str×Bool))->Prop
 | [],[]=>True
 | u::us,t::ts=>KitI K CT u t/\KitsT K CT us ts
 | _,_=>False
theorem QCa{K:PySem.W.Frag}{CT:CTab}{c:Str}{A:Addr}(hA:CT c=some A):∀{us:List Value}{ts:List (List (Str×Bool))}{b:Bool},KitsT K CT us ts->anyT ts c=some b->PySem.W.kitAny K (.ref A) us=some b
 | [],[],b,_,h=>h
 | u::us,t::ts,b,⟨h1,h2⟩,h=>by
  unfold anyT at h
  unfold PySem.W.kitAny
  cases e:t.lookup c with
  | none=>rw[e]at h;cases h
  | some z=>
   rw[(h1 c z e A hA).2]
   rw[e]at h
   cases z with
   | true=>exact h
   | false=>exact QCa hA h2 h
theorem QLT{K:PySem.W.Frag}{CT:CTab}{c:Str}{A:Addr}(hA:CT c=some A){u:Value}{us:List Value}{t:List (Str×Bool)}{ts:List (List (Str×Bool))}{b:Bool}(h:KitsT K CT (u::us) (t::ts))(e:anyT (t::ts) c=some b):ClsD K A:=by
 unfold anyT at e
 cases q:t.lookup c with
 | none=>rw[q]at e;cases e
 | some z=>exact(h.1 c z q A hA).1
def isaTs(ts:List (List (Str×Bool))):D->Out Bool
 | .ins c _=>match anyT ts c with | some b=>.ok b | none=>.stuck
 | _=>.stuck
section
variable{C:Dc}{e:Expr}{E:SD->Out D}{p pos tp1:Pos}{cs:List Expr}
theorem QNx{X:Cx}:PA X [] (tVs []):=Qc6
theorem QpT{X:Cx}{e:Expr}{es:List Expr}{v:V}{vs:List V}(h:PE X e (tC v))(r:PA X es (tVs vs))(he:starEach (e::es) X.env=(false,eval e X.env)::starEach es X.env:=by rfl):PA X (e::es) (tVs (v::vs)):=Qbh h r he
theorem QDB:∀{as:List Addr}{us:List Value},Vals (as.map V.ref) us->us=as.map Value.ref
 | [],_,h=>by cases h;rfl
 | a::as,_,h=>by
  cases h with
  | cons h1 h2=>rw[QDB h2,show _=Value.ref a from h1];rfl
theorem QNT{x1}{a:Addr}{as:List Addr}{t:List (Str×Bool)}{ts:List (List (Str×Bool))}(hc:PA C.X cs (tVs ((a::as).map V.ref)))(hk:KitsT C.X.K C.CT ((a::as).map Value.ref) (t::ts))(hz:(a::as).length<=20)(hg:Gl C.X "isinstance")(hm:C.X.mg "isinstance"=none)(h:DB C e E)
 (he:starEach (e::[.Tuple cs x1 tp1]) C.X.env=(false,eval e C.X.env)::starEach [.Tuple cs x1 tp1] C.X.env:=by rfl) (he2:starEach (.Tuple cs x1 tp1::[]) C.X.env=(false,eval (.Tuple cs x1 tp1) C.X.env)::starEach [] C.X.env:=by rfl)
 (hpl:(backTo pos (starEach [.Tuple cs x1 tp1] C.X.env)).any (·.1)=false:=by rfl):DE C (.Call (.Name "isinstance" p) [e,.Tuple cs x1 tp1] [] pos) (eIsa (isaTs (t::ts)) E):=by
 obtain⟨te,p1,q1⟩:=h
 have hR:CallR C.X (.builtin "isinstance") (fun xs H Q=>∃ c fs x tp b,xs=[x,V.ref tp]/\Rep C.X.K C.CT H (.ins c fs) x/\H tp=some (.tup ((a::as).map V.ref))/\anyT (t::ts) c=some b/\Q (.bl b) H):=by
  intro pins s σ H xs us Q I r hq
  obtain⟨c,fs,x,tp,b,rfl,h1,h2,h3,q⟩:=hq
  obtain⟨u,w,rfl,r1,r2⟩:=vals2 r
  obtain rfl:w=Value.ref tp:=r2
  obtain⟨p',A',dx,fs',rfl,g1,g2,_⟩:=h1
  obtain rfl:u=Value.ref p':=r1
  have cd:=QLT g1 hk h3
  obtain⟨mA,O,_⟩:=QoK I.hok g2
  obtain⟨od,J,_⟩:=O.look
  obtain⟨_,its,rv,pt⟩:=(show ObjOk C.X.prog C.X.w H s.heap tp (.tup ((a::as).map V.ref)) from I.hok tp _ h2)
  obtain⟨⟨oc,odd,odt,osl⟩,ho,hcl,nn,hd⟩:=pt
  obtain rfl:oc=.type "tuple":=hcl
  obtain rfl:odt=.seq its.toArray nn:=hd
  obtain rfl:=QDB rv
  exact PySem.W.kia_tup (PySem.W.kitx_own (cd.cl.get _) cd.cl.hd cd.ha cd.hn cd.htk cd.hm) I.kIn J ho (QCa g1 hk h3) (fun z=>nomatch z) fun tk=>⟨.bl b,H,I.tok _,rfl,q⟩
 refine⟨_,QuJ hR hg hm PyProof.Rows.Boot.«isinstance» (Qbh p1 (Qbh (QCO hc) Qc6 he2) he) (by decide) (by decide) he hpl,fun G H σ ς Q S q=>?_⟩
 unfold eIsa at q
 rw[Out.post_bind]at q
 refine q1 G H σ ς _ S (Out.post_mono q fun d k v1 H1 G1 S1 a1 b1 r1=>?_)
 rw[Out.post_bind]at k
 cases d with
 | ins c fs=>
  cases ea:anyT (t::ts) c with
  | none=>
   have hs:isaTs (t::ts) (D.ins c fs)=.stuck:=by show(match anyT (t::ts) c with | some b=>Out.ok b | none=>Out.stuck)=_;rw[ea]
   rw[hs]at k;exact k.elim
  | some b=>
   have hs:isaTs (t::ts) (D.ins c fs)=.ok b:=by show(match anyT (t::ts) c with | some b=>Out.ok b | none=>Out.stuck)=_;rw[ea]
   rw[hs]at k
   refine⟨by rw[List.length_map];exact Nat.le_trans hz (by decide),fun tp htp=>?_⟩
   have S2:=S1.allocO (o:=.tup ((a::as).map V.ref)) htp
   exact⟨c,fs,v1,tp,b,rfl,Rep.mono (Qy htp) _ v1 r1,QG,ea,KD.now (KD.later (show KD C G H σ ς Q (.bl b) from k) (a1.trans (Qy htp)) b1) S2 rfl⟩
 | _=>exact k.elim
end
end DL
namespace DL
open PySem PySem.Spec PyProof.Rows L2
theorem QBq{K:PySem.W.Frag}{CT:CTab}{H:Hp}{d:D}{v:V}(h:d.scal=true)(r:Rep K CT H d v):v=toV d:=by
 cases d with
 | non=>exact r
 | bl b=>exact r
 | int i=>exact r
 | str x=>exact r
 | _=>cases h
theorem Qzc{K:PySem.W.Frag}{CT:CTab}{H:Hp}:∀{ds:List D}{vs:List V},ds.all D.scal=true->RepL K CT H ds vs->vs=ds.map toV
 | [],_,_,r=>by cases r;rfl
 | d::ds,_,h,⟨v,r,h1,h2,h3⟩=>by
  rw[List.all_cons,Bool.and_eq_true]at h
  rw[h1,QBq h.1 h2,Qzc h.2 h3];rfl
theorem Qzb{d:D}(h:d.scal=true):flatV (toV d)=true:=by
 cases d with
 | non=>rfl
 | bl b=>rfl
 | int i=>rfl
 | str x=>rfl
 | _=>cases h
theorem Qws:∀{ds:List D},ds.all D.scal=true->(ds.map toV).all flatV=true
 | [],_=>rfl
 | d::ds,h=>by
  rw[List.all_cons,Bool.and_eq_true]at h
  rw[List.map_cons,List.all_cons,Qzb h.1,Qws h.2];rfl
def dInL:D->D->Out D
 | x,.lst ds=>if (x.scal&&ds.all D.scal)=true then .ok (.bl (inV (toV x) (ds.map toV))) else .stuck
 | _,_=>.stuck
section
variable{C:Dc}{a b:Expr}{A B:SD->Out D}{pos:Pos}
theorem QNU:DRS C (rIn C.X.K false) dInL:=by
 intro G H σ ς Q x y vx vy S hx hy q
 cases y with
 | lst ds=>
  have q:(if (x.scal&&ds.all D.scal)=true then Out.ok (D.bl (inV (toV x) (ds.map toV))) else .stuck).post _ _:=q
  rcases QQ q with⟨hc,q⟩ | ⟨_,q⟩
  ·rw[Bool.and_eq_true]at hc
   obtain⟨p,vs,rfl,h2,h3⟩:=hy
   have e1:=QBq hc.1 hx
   have e2:=Qzc hc.2 h3
   subst e1;subst e2
   exact⟨p,_,rfl,.inl h2,Qzb hc.1,Qws hc.2,q.2⟩
  ·exact q.elim
 | _=>exact q.elim
theorem QMD:scal2 dInL:=fun x y=>by
 cases y with
 | lst ds=>
  show match (if (x.scal&&ds.all D.scal)=true then Out.ok (D.bl (inV (toV x) (ds.map toV))) else .stuck) with | .ok d=>d.scal=true | .exc _=>False | .stuck=>True
  split<;>rename_i h<;>(split at h<;>cases h)<;>first | rfl | trivial
 | _=>exact True.intro
theorem QKQ(ha:DB C a A)(hb:DB C b B)(hm:behindInMarks .In b=false:=by rfl):DE C (.Compare a [.In] [b] pos) (e2 dInL A B):=QB4 QKs QNU QMD ha hb hm
end
end DL
namespace DL
open PySem PySem.Spec PyProof.Rows L2
section
variable{C:Dc}{a b:Expr}{A B:SD->Out D}{pos:Pos}
end
end DL
namespace DL
open PySem PySem.Spec PyProof.Rows L2
section
variable{C:Dc}{e:Expr}{E:SD->Out D}{pos p1 p2 p3:Pos}{x:Str}
end
end DL
namespace DL
open PySem PySem.Spec PyProof.Rows L2
section
variable{K:PySem.W.Frag}{CT:CTab}{G H:Hp}
end
section
variable{C:Dc}{a b:Expr}{A B:SD->Out D}{pos:Pos}
end
end DL
namespace DL
open PySem PySem.Spec PyProof.Rows L2
def frzs:List Nat->SD->SD
 | [],ς=>ς
 | i::is,ς=>frzs is (frz i ς)
theorem QHs{C:Dc}{st:Stmt}:∀(is:List Nat){T:SD->Out Fl},DS C st T->DS C st (fun ς=>T (frzs is ς))
 | [],_,h=>h
 | i::is,_,h=>QrB i (QHs is h)
section
variable{X:Cx}{e:Expr}{te:TA}{p1 p2 p3 pos:Pos}
end
section
variable{C:Dc}{e:Expr}{A:SD->Out (List D)}{p1 p2 p3 pos:Pos}
end
end DL
namespace DL
open PySem PySem.Spec PyProof.Rows L2
section
variable{C:Dc}{e:Expr}{E:SD->Out D}{pos:Pos}
end
end DL
namespace DL
open PySem PySem.Spec PyProof.Rows L2
section
variable{C:Dc}{o e:Expr}{es:List Expr}{O:SD->Out D}{A:SD->Out (List D)}{apos cpos:Pos}{m:Str}{id:String}{r:V->List V->Hp->VK->Prop}{f:D->List D->Out D}
end
end DL
namespace L2
open PySem PySem.Spec PyProof.Rows
section
variable{X:Cx}
end
end L2
namespace DL
open PySem PySem.Spec PyProof.Rows L2
section
variable{C:Dc}{a:Expr}{A:SD->Out D}
end
end DL
namespace DL
open PySem PySem.Spec PyProof.Rows L2
section
variable{C:Dc}{G G' H H':Hp}{σ:St}{ς ς':SD}
theorem StR.swap(S:StR C G H σ ς)(P:Addr->Prop)(hl:ς'.length=ς.length)(g1:Same G G')(h1:∀ b o,H b=some o->¬ P b->H' b=some o)(s1:Same G' H')(n1:∀ b,G b=none->G' b≠none->H b=none)
 (hP:∀ b,P b->H' b≠none/\((C.X.H₀ b=none)∨(C.M b/\C.B b=none)))
 (hs:∀(i:Nat) m d',ς'[i]?=some (some (m,d'))->(ς[i]?=some (some (m,d'))/\∀ b,(m=.o∨m=.s)->σ[i]?=some (some (.ref b))->¬ P b)∨
  ((m=.o∨m=.s)/\∃ d b,ς[i]?=some (some (m,d))/\σ[i]?=some (some (.ref b))/\Own C.X.K C.CT G' H' b d')):StR C G' H' σ ς':=by
 have gn:∀ b,G b=none->(∃ o,H b=some o)->G' b=none:=fun b hb ⟨o,ho⟩=>by
  cases q:G' b with
  | none=>rfl
  | some u=>have:=n1 b hb (by rw[q];simp);rw[ho]at this;cases this
 have back:∀(i:Nat) m d',(m=.o∨m=.s)->ς'[i]?=some (some (m,d'))->∃ d,ς[i]?=some (some (m,d)):=fun i m d' hm h=>by
  rcases hs i m d' h with⟨e,_⟩ | ⟨_,d,b,e,_⟩
  ·exact⟨_,e⟩
  ·exact⟨_,e⟩
 exact {
  sub:=s1
  g0:=S.g0.trans g1
  new:=fun b h0 hn=>by
   cases q:G b with
   | none=>exact S.h0none (n1 b q hn)
   | some o=>exact S.new b h0 (by rw[q];simp)
  fr:=fun b o e m=>h1 b o (S.fr b o e m) fun p=>by
   rcases(hP b p).2 with z | z
   ·rw[z]at e;cases e
   ·exact m z.1
  dom:=fun b e=>by
   cases q:H b with
   | none=>exact S.dom b q
   | some o=>
    by_cases p:P b
    ·exact absurd e (hP b p).1
    ·rw[h1 b o q p]at e;cases e
  bs:=fun b o e=>h1 b o (S.bs b o e) fun p=>by
   rcases(hP b p).2 with z | z
   ·rw[S.bh b z]at e;cases e
   ·rw[z.2]at e;cases e
  bh:=S.bh
  len:=by rw[hl];exact S.len
  fz:=fun i d h=>by
   rcases hs i _ d h with⟨e,_⟩ | ⟨z | z,_⟩
   ·obtain⟨v,a,b⟩:=S.fz i d e
    exact⟨v,a,Rep.mono g1 d v b⟩
   ·cases z
   ·cases z
  ow:=fun i d h=>by
   rcases hs i _ d h with⟨e,np⟩ | ⟨_,d0,b,e,eb,w⟩
   ·obtain⟨p,a,hg,h0,w⟩:=S.ow i d e
    exact⟨p,a,gn p hg w.there,h0,w.mono g1 fun o z=>h1 p o z (np p (.inl rfl) a)⟩
   ·obtain⟨p,a,hg,h0,w0⟩:=S.ow i d0 e
    rw[eb]at a;cases a
    exact⟨b,eb,gn b hg w0.there,h0,w⟩
  ln:=fun i d h=>by
   rcases hs i _ d h with⟨e,_⟩ | ⟨z | z,_⟩
   ·exact S.ln i d e
   ·cases z
   ·cases z
  inj:=fun i j d e p n h1 h2=>by
   obtain⟨d1,q1⟩:=back i _ d (.inl rfl) h1
   obtain⟨d2,q2⟩:=back j _ e (.inl rfl) h2
   exact S.inj i j d1 d2 p n q1 q2
  sf:=fun i d h=>by
   rcases hs i _ d h with⟨e,np⟩ | ⟨_,d0,b,e,eb,w⟩
   ·obtain⟨p,a,hg,h0,m,z,w⟩:=S.sf i d e
    exact⟨p,a,gn p hg w.there,h0,m,z,w.mono g1 fun o z=>h1 p o z (np p (.inr rfl) a)⟩
   ·obtain⟨p,a,hg,h0,m,z,w0⟩:=S.sf i d0 e
    rw[eb]at a;cases a
    exact⟨b,eb,gn b hg w0.there,h0,m,z,w⟩
  su:=fun i j d e p n h1 h2=>by
   obtain⟨d1,q1⟩:=back i _ d (.inr rfl) h1
   obtain⟨d2,q2⟩:=back j _ e (.inr rfl) h2
   exact S.su i j d1 d2 p n q1 q2 }
theorem StR.wslot(S:StR C G H σ ς){i:Nat}{m:SM}{d:D}(hm:m=.o∨m=.s)(h:ς[i]?=some (some (m,d))):∃ p,σ[i]?=some (some (.ref p))/\G p=none/\(C.X.H₀ p=none∨(C.M p/\C.B p=none))/\Own C.X.K C.CT G H p d/\
 ∀(j:Nat) m' d',j≠i->(m'=.o∨m'=.s)->ς[j]?=some (some (m',d'))->σ[j]?≠some (some (.ref p)):=by
 rcases hm with rfl | rfl
 ·obtain⟨p,a,hg,h0,w⟩:=S.ow i d h
  refine⟨p,a,hg,.inl h0,w,fun j m' d' hj hm' h2 z=>?_⟩
  rcases hm' with rfl | rfl
  ·exact S.inj i j d d' p (Ne.symm hj) h h2 a z
  ·obtain⟨q,a2,_,hq,_⟩:=S.sf j d' h2
   rw[z]at a2;cases a2
   exact hq h0
 ·obtain⟨p,a,hg,h0,m,z,w⟩:=S.sf i d h
  refine⟨p,a,hg,.inr ⟨m.1,z⟩,w,fun j m' d' hj hm' h2 z=>?_⟩
  rcases hm' with rfl | rfl
  ·obtain⟨q,a2,_,hq,_⟩:=S.ow j d' h2
   rw[z]at a2;cases a2
   exact h0 hq
  ·exact S.su i j d d' p (Ne.symm hj) h h2 a z
theorem StR.writeW(S:StR C G H σ ς){i:Nat}{m:SM}{p:Addr}{xs ys:List D}{ws:List V}(hm:m=.o∨m=.s)(hi:ς[i]?=some (some (m,.lst xs)))(hp:σ[i]?=some (some (.ref p)))(r:RepL C.X.K C.CT G ys ws):
 StR C G (upd H p (.lst ws)) σ (ς.set i (some (m,.lst ys))):=by
 obtain⟨p',a,hg,h0,w,hne⟩:=S.wslot hm hi
 rw[hp]at a;cases a
 refine S.swap (fun b=>b=p) (List.length_set ..) (Same.refl G) (fun b o e n=>by rw[Qk n];exact e) (fun b o e=>by rw[Qk (by rintro rfl;rw[hg]at e;cases e)];exact S.sub b o e) (fun b e n=>absurd e n)
  (fun b e=>by subst e;exact⟨by rw[QG];simp,h0⟩) fun j m' d' h=>?_
 rcases Qs h with⟨rfl,h2,l⟩ | ⟨ne,h2⟩
 ·cases h2
  exact .inr ⟨hm,_,p,hi,hp,ws,QG,r⟩
 ·exact .inl ⟨h2,fun b hm' e z=>by subst z;exact hne j m' d' (Ne.symm ne) hm' h2 e⟩
end
end DL
namespace DL
open PySem PySem.Spec PyProof.Rows L2
def wr:SM->Bool
 | .o=>true
 | .s=>true
 | _=>false
theorem wr_of{m:SM}(h:wr m=true):m=.o∨m=.s:=by cases m<;>first | exact .inl rfl | exact .inr rfl | cases h
def sPutW(i:Nat)(A E:SD->Out D):SD->Out Fl:=fun ς=>E ς>>=fun d=>match (ς[i]?:Option (Option (SM×D))) with
 | some (some (m,.lst xs))=>if wr m=true then A ς>>=fun y=>match y with
  | .int j=>optO (ixN xs.length j)>>=fun j=>.ok (.nx (ς.set i (some (m,.lst (xs.set j d)))))
  | _=>.stuck else .stuck
 | _=>.stuck
section
variable{C:Dc}{a e:Expr}{A E:SD->Out D}{pos p1 p2:Pos}{x:Str}
theorem Qtg(i:Nat)(hi:DB C a A)(he:DE C e E)(hN:C.X.N[i]?=some x:=by rfl)(hv:Vis C.X.env.scope x:=by first | exact Or.inl rfl | exact Or.inr (Or.inl rfl) | exact Or.inr (Or.inr rfl))
 (hd:(x == ("__debug__":Str))=false:=by decide) (hcd:(x == ("__classdict__":Str))=false:=by decide)
 (hst:∀ v,assign (.Subscript (.Name x p1) a p2) C.X.env v=(do
  let ov ← holding [v] (eval (.Name x p1) C.X.env)
  let iv ← holding [v,ov] (eval a C.X.env)
  standAt p2
  holding [v,ov,iv] (setItem ov iv v)
  release [v,ov,iv] []):=by intro _;rfl)
 (hs:swapsWithSole [.Subscript (.Name x p1) a p2] e pos.line C.X.env=pure false:=by rfl) (hw:swappedStores [.Subscript (.Name x p1) a p2] e C.X.env=pure none:=by rfl)
 (h1:(assignEach [.Subscript (.Name x p1) a p2] C.X.env).map (·.2)=[assign (.Subscript (.Name x p1) a p2) C.X.env]:=by rfl):DS C (.Assign [.Subscript (.Name x p1) a p2] e pos) (sPutW i A E):=by
 obtain⟨t,p,q⟩:=he
 obtain⟨t2,p2,q2⟩:=hi
 refine⟨_,QBi p (QLF (Qda (i:=i) hN hv hd hcd) p2 QCs hst) hs hw h1,fun G H σ ς W S k=>?_⟩
 unfold sPutW at k
 rw[Out.post_bind]at k
 refine q G H σ ς _ S (Out.post_mono k fun d k v H1 G1 S1 a1 b1 r1=>?_)
 split at k
 ·rename_i m xs z
  rcases QQ k with⟨hc,k⟩ | ⟨_,k⟩
  ·obtain⟨pp,e1,hg,h0,ow,_⟩:=S1.wslot (wr_of hc) z
   obtain⟨vs,hv1,hv2⟩:=ow
   rw[Out.post_bind]at k
   refine⟨_,e1,q2 G1 H1 σ ς _ S1 (Out.post_mono k fun y k2 w H2 G2 S2 a2 b2 r2=>?_)⟩
   cases y with
   | int j=>
    cases r2
    have k2':(optO (ixN xs.length j)>>=fun j=>Out.ok (Fl.nx (ς.set i (some (m,D.lst (xs.set j d)))))).post (FlK C G W) C.XD:=k2
    rw[Out.post_bind]at k2'
    obtain⟨jj,ej,k3⟩:=QcM k2'
    refine⟨pp,vs,j,jj,rfl,rfl,a2 _ _ hv1,by rw[← hv2.length];exact ej,?_⟩
    exact k3 σ _ G2 (S2.writeW (wr_of hc) z e1 ((RepL.mono b2 xs vs hv2).set (Rep.mono b2 d v r1) jj)) (b1.trans b2)
   | _=>exact k2.elim
  ·exact k.elim
 ·exact k.elim
end
def ArgW(K:PySem.W.Frag)(CT:CTab)(G H:Hp):List Bool->List D->List V->List Addr->Prop
 | [],[],[],ps=>ps=[]
 | true::bs,d::ds,v::vs,ps=>∃ p ps',v=.ref p/\ps=p::ps'/\p∉ps'/\G p=none/\Own K CT G H p d/\ArgW K CT G H bs ds vs ps'
 | false::bs,d::ds,v::vs,ps=>Rep K CT G d v/\ArgW K CT G H bs ds vs ps
 | _,_,_,_=>False
def OwnL(K:PySem.W.Frag)(CT:CTab)(G H:Hp):List D->List Addr->Prop
 | [],[]=>True
 | d::ds,p::ps=>Own K CT G H p d/\OwnL K CT G H ds ps
 | _,_=>False
section
variable{K:PySem.W.Frag}{CT:CTab}{G H:Hp}
theorem ArgW.len:∀{bs:List Bool}{ds:List D}{vs:List V}{ps:List Addr},ArgW K CT G H bs ds vs ps->bs.length=vs.length/\ds.length=vs.length
 | [],[],[],_,_=>⟨rfl,rfl⟩
 | true::bs,d::ds,v::vs,ps,⟨_,_,_,_,_,_,_,h⟩=>by have:=ArgW.len h;simp[this.1,this.2]
 | false::bs,d::ds,v::vs,ps,⟨_,h⟩=>by have:=ArgW.len h;simp[this.1,this.2]
theorem ArgW.mem:∀{bs:List Bool}{ds:List D}{vs:List V}{ps:List Addr}{i:Nat}{v:V},ArgW K CT G H bs ds vs ps->bs[i]?=some true->vs[i]?=some v->∃ p,v=.ref p/\p∈ps
 | true::bs,d::ds,v::vs,ps,0,w,⟨p,ps',e,e2,_,_,_,_⟩,_,h=>by
  cases h;exact⟨p,e,by rw[e2];exact List.mem_cons_self ..⟩
 | true::bs,d::ds,v::vs,ps,i+1,w,⟨p,ps',e,e2,_,_,_,hh⟩,h1,h2=>by
  obtain⟨q,a,b⟩:=ArgW.mem (i:=i) hh (by simpa using h1) (by simpa using h2)
  exact⟨q,a,by rw[e2];exact List.mem_cons_of_mem _ b⟩
 | false::bs,d::ds,v::vs,ps,0,w,_,h,_=>by cases h
 | false::bs,d::ds,v::vs,ps,i+1,w,⟨_,hh⟩,h1,h2=>ArgW.mem (i:=i) hh (by simpa using h1) (by simpa using h2)
theorem ArgW.get:∀{bs:List Bool}{ds:List D}{vs:List V}{ps:List Addr}{i:Nat}{b:Bool}{d:D},ArgW K CT G H bs ds vs ps->bs[i]?=some b->ds[i]?=some d->∃ v,vs[i]?=some v/\(b=false->Rep K CT G d v)/\(b=true->∃ p,v=.ref p/\p∈ps/\G p=none/\Own K CT G H p d)
 | true::bs,d::ds,v::vs,ps,0,b,d',⟨p,ps',e,e2,_,g,o,_⟩,h1,h2=>by
  cases h1;cases h2;exact⟨v,rfl,fun z=>(nomatch z),fun _=>⟨p,e,by rw[e2];exact List.mem_cons_self ..,g,o⟩⟩
 | true::bs,d::ds,v::vs,ps,i+1,b,d',⟨p,ps',e,e2,_,_,_,hh⟩,h1,h2=>by
  obtain⟨w,a,a1,a2⟩:=ArgW.get (i:=i) hh (by simpa using h1) (by simpa using h2)
  exact⟨w,by simpa using a,a1,fun z=>let ⟨q,c1,c2,c3⟩:=a2 z;⟨q,c1,by rw[e2];exact List.mem_cons_of_mem _ c2,c3⟩⟩
 | false::bs,d::ds,v::vs,ps,0,b,d',⟨r,_⟩,h1,h2=>by
  cases h1;cases h2;exact⟨v,rfl,fun _=>r,fun z=>by cases z⟩
 | false::bs,d::ds,v::vs,ps,i+1,b,d',⟨_,hh⟩,h1,h2=>by
  obtain⟨w,a,a1,a2⟩:=ArgW.get (i:=i) hh (by simpa using h1) (by simpa using h2)
  exact⟨w,by simpa using a,a1,a2⟩
theorem ArgW.ne:∀{bs:List Bool}{ds:List D}{vs:List V}{ps:List Addr}{i j:Nat}{p:Addr},ArgW K CT G H bs ds vs ps->i<j->bs[i]?=some true->bs[j]?=some true->vs[i]?=some (.ref p)->vs[j]?≠some (.ref p)
 | true::bs,d::ds,v::vs,ps,0,j+1,p,⟨q,ps',e,_,n,_,_,hh⟩,_,_,hb,h1,h2=>by
  cases h1;cases e
  obtain⟨q',a,b⟩:=ArgW.mem (i:=j) hh (by simpa using hb) (by simpa using h2)
  cases a;exact n b
 | true::bs,d::ds,v::vs,ps,i+1,j+1,p,⟨q,ps',_,_,_,_,_,hh⟩,hl,ha,hb,h1,h2=>ArgW.ne (i:=i) (j:=j) hh (by omega) (by simpa using ha) (by simpa using hb) (by simpa using h1) (by simpa using h2)
 | false::bs,d::ds,v::vs,ps,0,j,p,_,_,h,_,_,_=>by cases h
 | false::bs,d::ds,v::vs,ps,i+1,j+1,p,⟨_,hh⟩,hl,ha,hb,h1,h2=>ArgW.ne (i:=i) (j:=j) hh (by omega) (by simpa using ha) (by simpa using hb) (by simpa using h1) (by simpa using h2)
end
def finW:List Bool->SD->Out (List D)
 | [],_=>.ok []
 | true::bs,some (.s,d)::ς=>finW bs ς>>=fun ws=>.ok (d::ws)
 | false::bs,_::ς=>finW bs ς
 | _,_=>.stuck
theorem Qxa{K:PySem.W.Frag}{CT:CTab}{G H G' H':Hp}:∀{bs:List Bool}{ds:List D}{vs:List V}{ps:List Addr}{ς:SD}{k:List D->Prop}{X:D->Prop},ArgW K CT G H bs ds vs ps->
 (∀(i:Nat) d v,bs[i]?=some true->ς[i]?=some (some (.s,d))->vs[i]?=some v->∃ p,v=.ref p/\Own K CT G' H' p d)->(finW bs ς).post k X->∃ ws,k ws/\OwnL K CT G' H' ws ps
 | [],[],[],ps,ς,k,X,h,_,q=>⟨[],q,by have h:ps=[]:=h;rw[h];trivial⟩
 | true::bs,d::ds,v::vs,ps,some (.s,d')::ς,k,X,⟨p,ps',e,e2,_,_,_,hh⟩,f,q=>by
  have q:(finW bs ς>>=fun ws=>.ok (d'::ws)).post k X:=q
  rw[Out.post_bind]at q
  obtain⟨ws,kw,ow⟩:=Qxa hh (fun i d v a b c=>f (i+1) d v (by simpa using a) (by simpa using b) (by simpa using c)) q
  obtain⟨p',e3,o⟩:=f 0 d' v rfl rfl rfl
  rw[e]at e3;cases e3
  exact⟨d'::ws,kw,by rw[e2];exact⟨o,ow⟩⟩
 | false::bs,d::ds,v::vs,ps,x::ς,k,X,⟨_,hh⟩,f,q=>Qxa (ς:=ς) hh (fun i d v a b c=>f (i+1) d v (by simpa using a) (by simpa using b) (by simpa using c)) q
 | true::bs,d::ds,v::vs,ps,[],k,X,_,_,q=>q.elim
 | true::bs,d::ds,v::vs,ps,none::ς,k,X,_,_,q=>q.elim
 | true::bs,d::ds,v::vs,ps,some (.k,_)::ς,k,X,_,_,q=>q.elim
 | true::bs,d::ds,v::vs,ps,some (.o,_)::ς,k,X,_,_,q=>q.elim
 | true::bs,d::ds,v::vs,ps,some (.l,_)::ς,k,X,_,_,q=>q.elim
 | false::bs,d::ds,v::vs,ps,[],k,X,_,_,q=>q.elim
end DL
namespace DL
open PySem PySem.Spec PyProof.Rows L2
def QkR:List Bool->List D->SD
 | b::bs,d::ds=>some (if b=true then SM.s else SM.k,d)::QkR bs ds
 | _,_=>[]
theorem Qw0:∀{bs:List Bool}{ds:List D},bs.length=ds.length->(QkR bs ds).length=bs.length
 | [],[],_=>rfl
 | _::bs,_::ds,h=>by
  show(QkR bs ds).length+1=_
  rw[Qw0 (by simpa using h)];rfl
theorem Qd3:∀{bs:List Bool}{ds:List D}{i:Nat}{x:SM×D}{n:Nat},(QkR bs ds++List.replicate n none)[i]?=some (some x)->∃ b d,bs[i]?=some b/\ds[i]?=some d/\x=(if b=true then SM.s else SM.k,d)
 | b::bs,d::ds,0,x,n,h=>by
  have h:some (some (if b=true then SM.s else SM.k,d))=some (some x):=h
  cases h;exact⟨b,d,rfl,rfl,rfl⟩
 | b::bs,d::ds,i+1,x,n,h=>by
  have h:(QkR bs ds++List.replicate n none)[i]?=some (some x):=h
  obtain⟨b',d',h1,h2,h3⟩:=Qd3 h
  exact⟨b',d',by simpa using h1,by simpa using h2,h3⟩
 | [],_,i,x,n,h=>by
  have h:([]++List.replicate n (none:Option (SM×D)))[i]?=some (some x):=h
  rw[List.nil_append,List.getElem?_replicate]at h
  split at h<;>cases h
 | b::bs,[],i,x,n,h=>by
  have h:([]++List.replicate n (none:Option (SM×D)))[i]?=some (some x):=h
  rw[List.nil_append,List.getElem?_replicate]at h
  split at h<;>cases h
def retW(fr:Bool)(bs:List Bool):Fl->Out (D×Option (List D))
 | .nx ς=>finW bs ς>>=fun ws=>.ok (.non,some ws)
 | .rt b d=>if (!fr||b||d.scal)=true then .ok (d,none) else .stuck
 | _=>.stuck
def bodyW(fr:Bool)(bs:List Bool)(len:Nat)(T:SD->Out Fl):List D->Out (D×Option (List D)):=fun ds=>
 if ds.length=bs.length then T (QkR bs ds++List.replicate (len - bs.length) none)>>=retW fr bs else .stuck
def SpW(K:PySem.W.Frag)(CT:CTab)(fr:Bool)(bs:List Bool)(m:List D->Out (D×Option (List D))):Sp:=fun vs H Q _=>∃ ds ps G0,Same G0 H/\ArgW K CT G0 H bs ds vs ps/\
 (m ds).post (fun r=>∀ v H' G',Same G0 G'->(∀ b o,H b=some o->b∉ps->H' b=some o)->Same G' H'->(∀ b,G0 b=none->G' b≠none->H b=none)->(∀ b,H' b=none->H b=none)->(∀ ws,r.2=some ws->OwnL K CT G' H' ws ps)->RetG K CT fr H G' H' r.1 v->Q v H') (fun _=>False)
abbrev dcW(P:Program)(w:World)(K:PySem.W.Frag)(mg:Str->Option Value)(base:Heap)(CT:CTab)(N:List Str)(qual:Str)(sc:Scope)(f:Addr)(cdv:Value)(A:Around)(outer:List Env)(s:Shared)(H:Hp)(E:XK)(G:Hp)(ps:List Addr)(vs:List V):Dc:=
 { X:=(cxOf CX0 P w K mg base N qual sc f cdv A outer s H E).nox,CT:=CT,G0:=G,XD:=fun _=>False,B:=fun b=>if b∈ps then none else H b,M:=fun b=>b∈ps,W:=fun i=>match vs[i]? with | some (.ref p)=>some p | _=>none }
theorem fnW{P:Program}{w:World}{K:PySem.W.Frag}{mg:Str->Option Value}{base:Heap}{CT:CTab}{fr:Bool}{x qual:Str}{st:Stmt}{f:Addr}{fd:FuncData}{dV:Value}{N pn:List Str}{k:Nat}{T:SD->Out Fl}{bs:List Bool}(hbs:bs.length=pn.length)
 (F:FunV K x qual st f fd dV) (S:Qq N pn (Qa st))
 (hb:∀(cdv:Value)(A:Around)(outer:List Env)(s:Shared)(H:Hp)(E:XK)(G:Hp)(ps:List Addr)(vs:List V),Room k (A.deeper (envOfC qual (Qa st) s.heap.objs.size f cdv))->DSs (dcW P w K mg base CT N qual (Qa st) f cdv A outer s H E G ps vs) (Qp st) T):
 FnOk P w K mg base CX0 (k+1) f fd pn (SpW K CT fr bs (bodyW fr bs N.length T)):=by
 obtain⟨oc,od,kV,doc,pm,an,cdv,ct,osl,rfl,lk,hcd⟩:=F.ex
 have hpl:pn.length<=N.length:=by have:=congrArg List.length S.pre;rw[List.length_take]at this;omega
 have len:∀ vs H Q E,SpW K CT fr bs (bodyW fr bs N.length T) vs H Q E->vs.length=pn.length:=by
  intro vs H Q E ⟨ds,ps,G0,sub,r,q⟩
  rw[← hbs,r.len.1]
 refine fn_of lk hcd S len fun A outer s H vs Q E hr hsp=>?_
 obtain⟨ds,ps,G0,sub,r,q⟩:=hsp
 obtain⟨t,p1,q1⟩:=hb cdv A outer s H E G0 ps vs hr
 have hl:=r.len
 refine⟨t,p1.nox,?_⟩
 unfold bodyW at q
 rw[if_pos (by rw[hl.1,hl.2]),Out.post_bind]at q
 have S0:StR (dcW P w K mg base CT N qual (Qa st) f cdv A outer s H E G0 ps vs) G0 H (L2.start N vs) (QkR bs ds++List.replicate (N.length - bs.length) none):={
  sub:=sub
  g0:=Same.refl _
  new:=fun b h1 h2=>absurd h1 h2
  fr:=fun b o e _=>e
  dom:=fun b e=>e
  bs:=fun b o e=>by
   have e':(if b∈ps then none else H b)=some o:=e
   by_cases hb:b∈ps
   ·rw[if_pos hb]at e';cases e'
   ·rw[if_neg hb]at e';exact e'
  bh:=fun b e=>by
   show(if b∈ps then none else H b)=none
   by_cases hb:b∈ps
   ·rw[if_pos hb]
   ·rw[if_neg hb];exact e
  len:=by unfold L2.start;rw[List.length_append,List.length_append,Qw0 (by rw[hl.1,hl.2]),List.length_map,List.length_replicate,List.length_replicate];omega
  fz:=fun i d e=>by
   obtain⟨b,d',h1,h2,h3⟩:=Qd3 e
   cases b with
   | true=>cases h3
   | false=>
    cases h3
    obtain⟨v,a,a1,_⟩:=r.get h1 h2
    exact⟨v,Qd0 a,a1 rfl⟩
  ow:=fun i d e=>by
   obtain⟨b,d',h1,h2,h3⟩:=Qd3 e
   cases b<;>cases h3
  ln:=fun i d e=>by
   obtain⟨b,d',h1,h2,h3⟩:=Qd3 e
   cases b<;>cases h3
  inj:=fun i j d e p _ h=>by
   obtain⟨b,d',h1,h2,h3⟩:=Qd3 h
   cases b<;>cases h3
  sf:=fun i d e=>by
   obtain⟨b,d',h1,h2,h3⟩:=Qd3 e
   cases b with
   | false=>cases h3
   | true=>
    cases h3
    obtain⟨v,a,_,a2⟩:=r.get h1 h2
    obtain⟨p,rfl,hm,hg,o⟩:=a2 rfl
    obtain⟨u,hu⟩:=o.there
    refine⟨p,Qd0 a,hg,(by show H p≠none;rw[hu];simp),⟨hm,?_⟩,if_pos hm,o⟩
    show(match vs[i]? with | some (.ref p)=>some p | _=>none)=some p
    rw[a]
  su:=fun i j d e p hij h1 h2 g1 g2=>by
   obtain⟨b,d1,c1,c2,c3⟩:=Qd3 h1
   obtain⟨b',d2,c4,c5,c6⟩:=Qd3 h2
   cases b with
   | false=>cases c3
   | true=>
    cases b' with
    | false=>cases c6
    | true=>
     obtain⟨v1,a1,_⟩:=r.get c1 c2
     obtain⟨v2,a2,_⟩:=r.get c4 c5
     rw[Qd0 a1]at g1;cases g1
     rw[Qd0 a2]at g2;cases g2
     rcases Nat.lt_or_gt_of_ne hij with l | l
     ·exact r.ne l c1 c4 a1 a2
     ·exact r.ne l c4 c1 a2 a1 }
 refine q1 G0 H (L2.start N vs) _ _ S0 (Out.post_mono q fun fl kk=>?_)
 cases fl with
 | nx ς'=>
  intro σ' H' G' S' s'
  have kk:(finW bs ς'>>=fun ws=>Out.ok (D.non,some ws)).post _ _:=kk
  rw[Out.post_bind]at kk
  obtain⟨ws,kw,ow⟩:=Qxa (G':=G') (H':=H') r (fun i d v b1 b2 b3=>by
   obtain⟨p,a,_,_,⟨_,hW⟩,_,o⟩:=S'.sf i d b2
   have hW:(match vs[i]? with | some (.ref p)=>some p | _=>none)=some p:=hW
   obtain⟨p',e,_⟩:=r.mem b1 b3
   subst e
   rw[b3]at hW
   cases hW
   exact⟨_,rfl,o⟩) kk
  exact kw .non H' G' s' (fun b o e hb=>S'.fr b o e hb) S'.sub S'.new S'.dom (fun ws' e=>by cases e;exact ow) (by
   show RetG K CT fr H G' H' D.non V.non
   unfold RetG;rw[if_neg (by cases fr<;>decide)];rfl)
 | bk ς'=>exact fun σ' H' G' S' s'=>kk.elim
 | ct ς'=>exact fun σ' H' G' S' s'=>kk.elim
 | rt b d=>
  intro v H' G' S' s' ret
  rcases QQ (show(if (!fr||b||d.scal)=true then Out.ok (d,none) else Out.stuck).post _ _ from kk) with⟨hc,k2⟩ | ⟨_,k2⟩
  ·cases b with
   | false=>
    refine k2 v H' G' s' (fun b o e hb=>S'.fr b o e hb) S'.sub S'.new S'.dom (fun ws' e=>by cases e) ?_
    unfold RetG
    have hn:¬ (fr && !d.scal)=true:=by revert hc;cases fr<;>cases d.scal<;>simp
    rw[if_neg hn]
    exact ret
   | true=>
    obtain⟨p,rfl,h0,hg,ow⟩:=(show ∃ p,v=.ref p/\H p=none/\G' p=none/\Own K CT G' H' p d from ret)
    cases fr with
    | true=>
     refine k2 _ H' G' s' (fun b o e hb=>S'.fr b o e hb) S'.sub S'.new S'.dom (fun ws' e=>by cases e) ?_
     have hs:d.scal=false:=by cases d<;>first | rfl | exact ow.elim
     unfold RetG
     rw[if_pos (by rw[hs];rfl)]
     exact⟨p,rfl,h0,hg,ow⟩
    | false=>
     obtain⟨o,ho⟩:=ow.there
     have S2:=GH.freezeR S' ho hg h0
     refine k2 _ H' _ (s'.trans (Qy hg)) (fun b o e hb=>S2.fr b o e hb) S2.sub S2.new S2.dom (fun ws' e=>by cases e) ?_
     unfold RetG
     rw[if_neg (by simp)]
     exact ow.known hg ho
  ·exact k2.elim
end DL
namespace DL
open PySem PySem.Spec PyProof.Rows L2
def eVarW(i:Nat):SD->Out D:=fun ς=>match (ς[i]?:Option (Option (SM×D))) with
 | some (some (m,d))=>if wr m=true then .ok d else .stuck
 | _=>.stuck
def RepA(K:PySem.W.Frag)(CT:CTab)(G:Hp)(σ:St)(ς:SD):List (Option Nat)->List D->List V->Prop
 | [],[],[]=>True
 | some s::ms,d::ds,v::vs=>(∃ m,wr m=true/\ς[s]?=some (some (m,d)))/\σ[s]?=some (some v)/\RepA K CT G σ ς ms ds vs
 | none::ms,d::ds,v::vs=>Rep K CT G d v/\RepA K CT G σ ς ms ds vs
 | _,_,_=>False
def DAW(C:Dc)(es:List Expr)(ms:List (Option Nat))(A:SD->Out (List D)):Prop:=∃ t,PA C.X es t/\∀ G H σ ς Q,StR C G H σ ς->
 (A ς).post (fun ds=>∀ vs H' G',StR C G' H' σ ς->Same H H'->Same G G'->RepA C.X.K C.CT G' σ ς ms ds vs->Q vs H') C.XD->t σ H Q
def Qfz(s:Nat)(w:D)(ς:SD):SD:=match (ς[s]?:Option (Option (SM×D))) with
 | some (some (m,_))=>ς.set s (some (m,w))
 | _=>ς
def setW:List (Option Nat)->List D->SD->SD
 | some s::ms,w::ws,ς=>setW ms ws (Qfz s w ς)
 | none::ms,ws,ς=>setW ms ws ς
 | _,_,ς=>ς
section
variable{C:Dc}{e:Expr}{es:List Expr}{E:SD->Out D}{A:SD->Out (List D)}{ms:List (Option Nat)}
theorem QHr:DAW C [] [] aNil:=⟨_,Qc6,fun G H σ ς Q S q=>q [] H G S (Same.refl H) (Same.refl G) trivial⟩
theorem daw_k(ha:DE C e E)(hr:DAW C es ms A)(hs:starEach (e::es) C.X.env=(false,eval e C.X.env)::starEach es C.X.env:=by rfl):DAW C (e::es) (none::ms) (aCons E A):=by
 obtain⟨t1,p1,q1⟩:=ha
 obtain⟨t2,p2,q2⟩:=hr
 refine⟨_,Qbh p1 p2 hs,fun G H σ ς Q S q=>?_⟩
 unfold aCons at q
 rw[Out.post_bind]at q
 refine q1 G H σ ς _ S (Out.post_mono q fun x k v1 H1 G1 S1 a1 b1 r1=>?_)
 rw[Out.post_bind]at k
 refine q2 G1 H1 σ ς _ S1 (Out.post_mono k fun xs k2 vs H2 G2 S2 a2 b2 r2=>?_)
 exact k2 (v1::vs) H2 G2 S2 (a1.trans a2) (b1.trans b2) ⟨Rep.mono b2 x v1 r1,r2⟩
theorem daw_w(i:Nat){x:Str}{px:Pos}(hr:DAW C es ms A)(hN:C.X.N[i]?=some x:=by rfl)(hv:Vis C.X.env.scope x:=by first | exact Or.inl rfl | exact Or.inr (Or.inl rfl) | exact Or.inr (Or.inr rfl))
 (hd:(x == ("__debug__":Str))=false:=by decide) (hcd:(x == ("__classdict__":Str))=false:=by decide) (hs:starEach (.Name x px::es) C.X.env=(false,eval (.Name x px) C.X.env)::starEach es C.X.env:=by rfl):
 DAW C (.Name x px::es) (some i::ms) (aCons (eVarW i) A):=by
 obtain⟨t2,p2,q2⟩:=hr
 refine⟨_,Qbh (Qda (i:=i) hN hv hd hcd) p2 hs,fun G H σ ς Q S q=>?_⟩
 unfold aCons eVarW at q
 rw[Out.post_bind]at q
 split at q
 ·rename_i m d z
  rcases QQ q with⟨hc,k⟩ | ⟨_,k⟩
  ·obtain⟨p,a,_⟩:=S.wslot (wr_of hc) z
   have k:(A ς>>=fun xs=>Out.ok (d::xs)).post (fun ds=>∀ vs H' G',StR C G' H' σ ς->Same H H'->Same G G'->RepA C.X.K C.CT G' σ ς (some i::ms) ds vs->Q vs H') C.XD:=k
   rw[Out.post_bind]at k
   refine⟨_,a,q2 G H σ ς _ S (Out.post_mono k fun xs k2 vs H2 G2 S2 a2 b2 r2=>?_)⟩
   exact k2 (.ref p::vs) H2 G2 S2 a2 b2 ⟨⟨m,hc,z⟩,a,r2⟩
  ·exact k.elim
 ·exact q.elim
theorem QoA{G H:Hp}{σ:St}{ς:SD}(S:StR C G H σ ς):∀{ms:List (Option Nat)}{ds:List D}{vs:List V},(ms.filterMap id).Nodup->RepA C.X.K C.CT G σ ς ms ds vs->
 ∃ ps,ArgW C.X.K C.CT G H (ms.map Option.isSome) ds vs ps/\∀ p,p∈ps↔∃ s,some s∈ms/\σ[s]?=some (some (.ref p))
 | [],[],[],_,_=>⟨[],rfl,fun p=>⟨fun h=>(nomatch h),fun⟨s,h,_⟩=>(nomatch h)⟩⟩
 | some s::ms,d::ds,v::vs,nd,⟨⟨m,hm,z⟩,e,r⟩=>by
  have nd:(s::ms.filterMap id).Nodup:=nd
  rw[List.nodup_cons]at nd
  obtain⟨ps,h1,h2⟩:=QoA S nd.2 r
  obtain⟨p,a,hg,h0,o,ne⟩:=S.wslot (wr_of hm) z
  rw[e]at a;cases a
  refine⟨p::ps,⟨p,ps,rfl,rfl,fun hp=>?_,hg,o,h1⟩,fun q=>?_⟩
  ·obtain⟨s',m1,m2⟩:=(h2 p).1 hp
   have hs:s'≠s:=by rintro rfl;exact nd.1 (List.mem_filterMap.mpr ⟨_,m1,rfl⟩)
   have:∃ m' d',wr m'=true/\ς[s']?=some (some (m',d')):=rep_slot r m1
   obtain⟨m',d',w',z'⟩:=this
   exact ne s' m' d' hs (wr_of w') z' m2
  ·rw[List.mem_cons,h2]
   constructor
   ·rintro (rfl | ⟨s',m1,m2⟩)
    ·exact⟨s,List.mem_cons_self ..,e⟩
    ·exact⟨s',List.mem_cons_of_mem _ m1,m2⟩
   ·rintro ⟨s',m1,m2⟩
    rcases List.mem_cons.mp m1 with q1 | q1
    ·cases q1
     rw[e]at m2;cases m2;exact .inl rfl
    ·exact .inr ⟨s',q1,m2⟩
 | none::ms,d::ds,v::vs,nd,⟨rr,r⟩=>by
  obtain⟨ps,h1,h2⟩:=QoA S (show(ms.filterMap id).Nodup from nd) r
  refine⟨ps,⟨rr,h1⟩,fun p=>?_⟩
  rw[h2]
  constructor
  ·rintro ⟨s',m1,m2⟩;exact⟨s',List.mem_cons_of_mem _ m1,m2⟩
  ·rintro ⟨s',m1,m2⟩
   rcases List.mem_cons.mp m1 with q1 | q1
   ·cases q1
   ·exact⟨s',q1,m2⟩
where rep_slot {G:Hp} {σ:St} {ς:SD}:∀{ms:List (Option Nat)}{ds:List D}{vs:List V}{s:Nat},RepA C.X.K C.CT G σ ς ms ds vs->some s∈ms->∃ m d,wr m=true/\ς[s]?=some (some (m,d))
 | [],[],[],_,_,h=>(nomatch h)
 | some s'::ms,d::ds,v::vs,s,⟨⟨m,hm,z⟩,_,r⟩,h=>by
  rcases List.mem_cons.mp h with q | q
  ·cases q;exact⟨m,d,hm,z⟩
  ·exact rep_slot r q
 | none::ms,d::ds,v::vs,s,⟨_,r⟩,h=>by
  rcases List.mem_cons.mp h with q | q
  ·cases q
  ·exact rep_slot r q
theorem QGW(s:Nat)(w:D)(ς:SD):(Qfz s w ς).length=ς.length:=by
 unfold Qfz;split<;>simp
theorem Qu2:∀(ms:List (Option Nat))(ws:List D)(ς:SD),(setW ms ws ς).length=ς.length
 | some s::ms,w::ws,ς=>by show(setW ms ws (Qfz s w ς)).length=_;rw[Qu2 ms ws,QGW]
 | none::ms,ws,ς=>Qu2 ms ws ς
 | [],ws,ς=>rfl
 | some s::ms,[],ς=>rfl
theorem QxL{K:PySem.W.Frag}{CT:CTab}{G H G' H':Hp}{σ:St}{ς:SD}:∀{ms:List (Option Nat)}{ds:List D}{vs:List V}{ws:List D}{ps:List Addr}{τ:SD},RepA K CT G σ ς ms ds vs->ArgW K CT G H (ms.map Option.isSome) ds vs ps->OwnL K CT G' H' ws ps->
 (∀(i:Nat) m d,some i∈ms->ς[i]?=some (some (m,d))->∃ d',τ[i]?=some (some (m,d')))->
 ∀(i:Nat) m d',(setW ms ws τ)[i]?=some (some (m,d'))->(τ[i]?=some (some (m,d'))/\some i∉ms)∨(wr m=true/\∃ d b,τ[i]?=some (some (m,d))/\σ[i]?=some (some (.ref b))/\Own K CT G' H' b d')
 | [],[],[],ws,ps,τ,_,_,_,_,i,m,d',h=>.inl ⟨h,fun z=>(nomatch z)⟩
 | none::ms,d::ds,v::vs,ws,ps,τ,⟨_,r⟩,⟨_,a⟩,o,f,i,m,d',h=>by
  rcases QxL (τ:=τ) r a o (fun i m d hi=>f i m d (List.mem_cons_of_mem _ hi)) i m d' h with⟨e,n⟩ | e
  ·exact .inl ⟨e,fun z=>by
    rcases List.mem_cons.mp z with q | q
    ·cases q
    ·exact n q⟩
  ·exact .inr e
 | some s::ms,d::ds,v::vs,[],ps,τ,_,⟨p,ps',e1,e2,_⟩,o,_,i,m,d',h=>by rw[e2]at o;exact o.elim
 | some s::ms,d::ds,v::vs,w::ws,ps,τ,⟨⟨m0,hm0,z⟩,e,r⟩,⟨p,ps',e1,e2,_,_,_,a⟩,o,f,i,m,d',h=>by
  rw[e2]at o
  obtain⟨o1,o2⟩:=o
  obtain⟨d0,t0⟩:=f s m0 d (List.mem_cons_self ..) z
  have es:Qfz s w τ=τ.set s (some (m0,w)):=by unfold Qfz;rw[t0]
  have h:(setW ms ws (Qfz s w τ))[i]?=some (some (m,d')):=h
  have back:∀(j:Nat) m1 d1,(Qfz s w τ)[j]?=some (some (m1,d1))->(j=s/\m1=m0/\d1=w)∨(j≠s/\τ[j]?=some (some (m1,d1))):=fun j m1 d1 hj=>by
   rw[es]at hj
   rcases Qs hj with⟨rfl,h2,l⟩ | ⟨ne,h2⟩
   ·cases h2;exact .inl ⟨rfl,rfl,rfl⟩
   ·exact .inr ⟨Ne.symm ne,h2⟩
  have fwd:∀(j:Nat) m1 d1,some j∈ms->ς[j]?=some (some (m1,d1))->∃ d2,(Qfz s w τ)[j]?=some (some (m1,d2)):=fun j m1 d1 hj hz=>by
   rw[es]
   by_cases hjs:j=s
   ·subst hjs
    rw[z]at hz;cases hz
    exact⟨w,QgS (List.getElem?_eq_some_iff.mp t0).1⟩
   ·obtain⟨d2,q⟩:=f j m1 d1 (List.mem_cons_of_mem _ hj) hz
    exact⟨d2,by rw[Qm (Ne.symm hjs)];exact q⟩
  rcases QxL r a o2 fwd i m d' h with⟨q,n⟩ | ⟨hw,d1,b,q1,q2,q3⟩
  ·rcases back i m d' q with⟨rfl,rfl,rfl⟩ | ⟨ne,q⟩
   ·exact .inr ⟨hm0,d0,p,t0,by rw[e,e1],o1⟩
   ·exact .inl ⟨q,fun zz=>by
     rcases List.mem_cons.mp zz with y | y
     ·cases y;exact ne rfl
     ·exact n y⟩
  ·rcases back i m d1 q1 with⟨rfl,rfl,rfl⟩ | ⟨ne,q⟩
   ·exact .inr ⟨hw,d0,b,t0,q2,q3⟩
   ·exact .inr ⟨hw,d1,b,q,q2,q3⟩
def DefW(P:Program)(w:World)(K:PySem.W.Frag)(mg:Str->Option Value)(base:Heap)(CT:CTab)(x:Str)(k:Nat)(fr:Bool)(bs:List Bool)(m:List D->Out (D×Option (List D))):Prop:=
 ∃ f fd ps,FnOk P w K mg base CX0 k f fd ps (SpW K CT fr bs m)/\mg x=some (.ref f)/\PySem.W.keepIn K (.ref f)=true/\Binds K fd ps []
def QoU(ms:List (Option Nat))(m:List D->Out (D×Option (List D)))(A:SD->Out (List D)):SD->Out Fl:=fun ς=>A ς>>=fun ds=>m ds>>=fun r=>match r.2 with
 | some ws=>.ok (.nx (setW ms ws ς))
 | none=>.stuck
theorem QDc{x:Str}{k:Nat}{fr:Bool}{bs:List Bool}{m:List D->Out (D×Option (List D))}{p pos spos:Pos}(h:DefW C.X.prog C.X.w C.X.K C.X.mg C.X.base C.CT x k fr bs m)(hr:Room k C.X.A)(ha:DAW C (e::es) ms A)(hg:Gl C.X x)
 (hbs:bs=ms.map Option.isSome:=by rfl) (nd:(ms.filterMap id).Nodup:=by decide) (hx:∀ x,¬ C.XD x:=by exact fun _ h=>h)
 (hdb:(x == ("__debug__":Str))=false:=by decide) (he:starEach (e::es) C.X.env=(false,eval e C.X.env)::starEach es C.X.env:=by rfl) (hpl:(backTo pos (starEach es C.X.env)).any (·.1)=false:=by rfl)
 (hsw:swapsWith (.Call (.Name x p) (e::es) [] pos) none spos.line C.X.env=pure false:=by rfl):
 DS C (.Expr (.Call (.Name x p) (e::es) [] pos) spos) (QoU ms m A):=by
 obtain⟨f,fd,pn,F,hm,hk,hb⟩:=h
 obtain⟨t,p1,q1⟩:=ha
 subst hbs
 refine⟨_,Qti (Qtp F hr hg hm hk hb .nil pass0 p1 hdb he hpl) hsw,fun G H σ ς W S q=>?_⟩
 unfold QoU at q
 rw[Out.post_bind]at q
 refine q1 G H σ ς _ S (Out.post_mono q fun ds kk vs H1 G1 S1 a1 b1 r1=>?_)
 obtain⟨ps,hA,hps⟩:=QoA S1 nd r1
 refine⟨ds,ps,G1,S1.sub,by rw[List.append_nil];exact hA,?_⟩
 rw[Out.post_bind]at kk
 cases z:m ds with
 | stuck=>rw[z]at kk;exact kk.elim
 | exc y=>rw[z]at kk;exact absurd kk (hx y)
 | ok r=>
  rw[z]at kk
  intro v H' G' g1 h1 s1 n1 d1 ow ret
  obtain⟨rv,rw'⟩:=r
  cases rw' with
  | none=>exact kk.elim
  | some ws=>
   have ow:=ow ws rfl
   refine(show FlK C G W (.nx (setW ms ws ς)) from kk) σ H' G' ?_ (b1.trans g1)
   refine S1.swap (fun b=>b∈ps) (Qu2 ms ws ς) g1 h1 s1 n1 (fun b hb=>?_) fun i mm d' hi=>?_
   ·obtain⟨s',m1,m2⟩:=(hps b).1 hb
    obtain⟨m',dd,w',z'⟩:=QoA.rep_slot r1 m1
    obtain⟨p',a,_,h0,o,_⟩:=S1.wslot (wr_of w') z'
    rw[m2]at a;cases a
    obtain⟨u,hu⟩:=o.there
    exact⟨fun y=>(by rw[d1 b y]at hu;cases hu),h0⟩
   ·rcases QxL (τ:=ς) r1 hA ow (fun i m d _ y=>⟨d,y⟩) i mm d' hi with⟨e1,e2⟩ | ⟨hw,d,b,e1,e2,e3⟩
    ·refine .inl ⟨e1,fun b hmm eb hb=>?_⟩
     obtain⟨s',m1,m2⟩:=(hps b).1 hb
     obtain⟨m',dd,w',z'⟩:=QoA.rep_slot r1 m1
     obtain⟨p',a,_,_,_,ne⟩:=S1.wslot (wr_of w') z'
     rw[m2]at a;cases a
     exact ne i mm d' (by rintro rfl;exact e2 m1) hmm e1 eb
    ·exact .inr ⟨wr_of hw,d,b,e1,e2,e3⟩
end
end DL
namespace DL
open PySem PySem.Spec PyProof.Rows L2
section
variable{C:Dc}{e:Expr}{es:List Expr}{E:SD->Out D}{A:SD->Out (List D)}{bs:List Bool}
end
end DL
namespace L2
open PySem PySem.Spec PyProof.Rows
section
variable{X:Cx}
end
end L2
namespace DL
open PySem PySem.Spec PyProof.Rows L2
section
variable{C:Dc}{e:Expr}{es:List Expr}{AA:SD->Out (List D)}{p pos:Pos}
end
end DL
namespace DL
open PySem PySem.Spec PyProof.Rows L2
section
variable{C:Dc}{x:Str}{k:Nat}{dd:List D}{m:List D->Out D}{e:Expr}{es:List Expr}{A:SD->Out (List D)}{p pos:Pos}
end
end DL
namespace L2
open PySem PySem.Spec PyProof.Rows
section
variable{prog:Program}{w:World}{A:Around}{E:Value->Shared->Prop}{s:Shared}{I l:Addr}
end
section
variable{prog:Program}{w:World}{A:Around}{s:Shared}{R:Result->Shared->Prop}{I l:Addr}
end
section
variable{prog:Program}{w:World}{A:Around}{E:Value->Shared->Prop}{s:Shared}{I l:Addr}
end
section
variable{X:Cx}{e:Expr}{te:TA}{p1 p2 p3 pos:Pos}
end
end L2
namespace DL
open PySem PySem.Spec PyProof.Rows L2
section
variable{C:Dc}{e:Expr}{A:SD->Out (List D)}{p1 p2 p3 pos:Pos}
end
end DL
namespace DL
open PySem PySem.Spec PyProof.Rows L2
def OwnAs(K:PySem.W.Frag)(CT:CTab)(H0 G H:Hp):List (List D)->List Addr->Prop
 | [],[]=>True
 | xs::r,a::as=>(H0 a=none/\G a=none/\Own K CT G H a (.lst xs))/\a∉as/\OwnAs K CT H0 G H r as
 | _,_=>False
def TupO(K:PySem.W.Frag)(CT:CTab)(H0 G H:Hp)(d:D)(v:V):Prop:=
 ∃(p:Addr)(as:List Addr)(xss:List (List D)),d=.tup (xss.map .lst)/\v=.ref p/\H0 p=none/\G p=none/\H p=some (.tup (as.map V.ref))/\OwnAs K CT H0 G H xss as
theorem OwnAs.mono{K:PySem.W.Frag}{CT:CTab}{H0 G G' H H':Hp}(g:Same G G')(h:Same H H'):∀{xss:List (List D)}{as:List Addr},(∀ a∈as,G' a=none)->OwnAs K CT H0 G H xss as->OwnAs K CT H0 G' H' xss as
 | [],[],_,_=>trivial
 | xs::r,a::as,n,⟨⟨h0,_,o⟩,na,ho⟩=>⟨⟨h0,n a (List.mem_cons_self ..),o.mono g fun o e=>h _ _ e⟩,na,ho.mono g h fun b hb=>n b (List.mem_cons_of_mem _ hb)⟩
theorem OwnAs.mem{K:PySem.W.Frag}{CT:CTab}{H0 G H:Hp}:∀{xss:List (List D)}{as:List Addr}{a:Addr},OwnAs K CT H0 G H xss as->a∈as->H0 a=none/\G a=none/\∃ vs,H a=some (.lst vs)
 | [],[],_,_,hm=>(nomatch hm)
 | [],_::_,_,h,_=>h.elim
 | _::_,[],_,h,_=>h.elim
 | xs::r,b::as,a,⟨⟨h0,hg,vs,hv,_⟩,_,ho⟩,hm=>by
  rcases List.mem_cons.mp hm with rfl | hm
  ·exact⟨h0,hg,vs,hv⟩
  ·exact ho.mem hm
section
variable{C:Dc}{G G' H H':Hp}{σ:St}{ς:SD}
theorem StR.hide(S:StR C G H σ ς)(i:Nat)(w:Option V):StR C G H (σ.set i w) (ς.set i none) where
 toGH:=S.toGH
 len:=by rw[List.length_set,List.length_set];exact S.len
 fz:=fun j e h=>by
  rcases Qs h with⟨rfl,h2,l⟩ | ⟨ne,h2⟩
  ·cases h2
  ·rw[Qm ne];exact S.fz j e h2
 ow:=fun j e h=>by
  rcases Qs h with⟨rfl,h2,l⟩ | ⟨ne,h2⟩
  ·cases h2
  ·rw[Qm ne];exact S.ow j e h2
 ln:=fun j e h=>by
  rcases Qs h with⟨rfl,h2,l⟩ | ⟨ne,h2⟩
  ·cases h2
  ·rw[Qm ne];exact S.ln j e h2
 inj:=fun j k d1 d2 p hjk h1 h2 h3=>by
  rcases Qs h1 with⟨rfl,q1,l⟩ | ⟨n1,q1⟩
  ·cases q1
  ·rcases Qs h2 with⟨rfl,q2,l⟩ | ⟨n2,q2⟩
   ·cases q2
   ·rw[Qm n1]at h3
    rw[Qm n2]
    exact S.inj j k d1 d2 p hjk q1 q2 h3
 sf:=fun j e h=>by
  rcases Qs h with⟨rfl,h2,l⟩ | ⟨ne,h2⟩
  ·cases h2
  ·rw[Qm ne];exact S.sf j e h2
 su:=fun j k d1 d2 p hjk h1 h2 h3=>by
  rcases Qs h1 with⟨rfl,q1,l⟩ | ⟨n1,q1⟩
  ·cases q1
  ·rcases Qs h2 with⟨rfl,q2,l⟩ | ⟨n2,q2⟩
   ·cases q2
   ·rw[Qm n1]at h3
    rw[Qm n2];exact S.su j k d1 d2 p hjk q1 q2 h3
theorem StR.freezeAs:∀{xss:List (List D)}{as:List Addr}{G:Hp},StR C G H σ ς->OwnAs C.X.K C.CT C.X.H₀ G H xss as->(∀ a∈as,∀(i:Nat) d,ς[i]?=some (some (.o,d))->σ[i]?≠some (some (.ref a)))->∃ G',StR C G' H σ ς/\Same G G'/\(∀ b,b∉as->G' b=G b)/\RepL C.X.K C.CT G' (xss.map .lst) (as.map V.ref)
 | [],[],G,S,_,_=>⟨G,S,Same.refl G,fun _ _=>rfl,rfl⟩
 | xs::r,a::as,G,S,⟨⟨h0,hg,o⟩,na,ho⟩,nn=>by
  obtain⟨vs,hv,rv⟩:=id o
  have S1:=S.freeze hv hg h0 (nn a (List.mem_cons_self ..))
  have ho1:OwnAs C.X.K C.CT C.X.H₀ (upd G a (.lst vs)) H r as:=ho.mono (Qy hg) (Same.refl H) fun b hb=>by
   rw[Qk (by rintro rfl;exact na hb)]
   exact(ho.mem hb).2.1
  obtain⟨G',S',g',k',r'⟩:=StR.freezeAs S1 ho1 fun b hb=>nn b (List.mem_cons_of_mem _ hb)
  refine⟨G',S',(Qy hg).trans g',fun b hb=>?_,?_⟩
  ·rw[k' b (fun h=>hb (List.mem_cons_of_mem _ h)),Qk (by rintro rfl;exact hb (List.mem_cons_self ..))]
  ·exact⟨.ref a,as.map V.ref,rfl,Rep.mono g' _ _ (o.known hg hv),r'⟩
end
def SpT(K:PySem.W.Frag)(CT:CTab)(m:List D->Out D):Sp:=fun vs H Q _=>∃ ds G0,Same G0 H/\RepL K CT G0 ds vs/\
 (m ds).post (fun d=>∀ v H' G',Same G0 G'->Same H H'->Same G' H'->(∀ b,G0 b=none->G' b≠none->H b=none)->TupO K CT H G' H' d v->Q v H') (fun _=>False)
def DefT(P:Program)(w:World)(K:PySem.W.Frag)(mg:Str->Option Value)(base:Heap)(CT:CTab)(x:Str)(k:Nat)(m:List D->Out D):Prop:=
 ∃ f fd ps,FnOk P w K mg base CX0 k f fd ps (SpT K CT m)/\mg x=some (.ref f)/\PySem.W.keepIn K (.ref f)=true/\Binds K fd ps []
def DTs(C:Dc)(sts:List Stmt)(T:SD->Out D):Prop:=∃ t,PSs C.X sts t/\∀ G H σ ς W,StR C G H σ ς->(T ς).post (fun d=>∀ v H' G',GH C G' H'->Same G G'->TupO C.X.K C.CT C.X.H₀ G' H' d v->W.rt v H') C.XD->t W σ H
def tSeq(T:SD->Out Fl)(U:SD->Out D):SD->Out D:=fun ς=>T ς>>=fun f=>match f with
 | .nx ς'=>U ς'
 | _=>.stuck
def oTup:List Nat->SD->Out (List (List D))
 | [],_=>.ok []
 | i::is,ς=>match (ς[i]?:Option (Option (SM×D))) with
  | some (some (.o,.lst xs))=>oTup is ς>>=fun r=>.ok (xs::r)
  | _=>.stuck
def tRet(is:List Nat):SD->Out D:=fun ς=>oTup is ς>>=fun xss=>.ok (.tup (xss.map .lst))
def AtO(σ:St)(ς:SD):List Nat->List (List D)->List Addr->Prop
 | [],[],[]=>True
 | i::is,xs::r,a::as=>ς[i]?=some (some (.o,.lst xs))/\σ[i]?=some (some (.ref a))/\AtO σ ς is r as
 | _,_,_=>False
section
variable{C:Dc}{G H:Hp}{σ:St}{ς:SD}
theorem AtO.mem:∀{is:List Nat}{xss:List (List D)}{as:List Addr}{a:Addr},AtO σ ς is xss as->a∈as->∃ j xs,j∈is/\ς[j]?=some (some (.o,.lst xs))/\σ[j]?=some (some (.ref a))
 | [],[],[],_,_,hm=>(nomatch hm)
 | i::is,xs::r,b::as,a,⟨h1,h2,h3⟩,hm=>by
  rcases List.mem_cons.mp hm with rfl | hm
  ·exact⟨i,xs,List.mem_cons_self ..,h1,h2⟩
  ·obtain⟨j,ys,q1,q2,q3⟩:=h3.mem hm
   exact⟨j,ys,List.mem_cons_of_mem _ q1,q2,q3⟩
theorem AtO.own(S:StR C G H σ ς):∀{is:List Nat}{xss:List (List D)}{as:List Addr},is.Nodup->AtO σ ς is xss as->OwnAs C.X.K C.CT C.X.H₀ G H xss as
 | [],[],[],_,_=>trivial
 | i::is,xs::r,a::as,nd,⟨h1,h2,h3⟩=>by
  have nd:=List.nodup_cons.mp nd
  obtain⟨p,e,hg,h0,o⟩:=S.ow i _ h1
  rw[h2]at e
  cases e
  refine⟨⟨h0,hg,o⟩,fun hm=>?_,AtO.own S nd.2 h3⟩
  obtain⟨j,ys,q1,q2,q3⟩:=h3.mem hm
  exact S.inj i j _ _ a (by rintro rfl;exact nd.1 q1) h1 q2 h2 q3
theorem AtO.len:∀{is:List Nat}{xss:List (List D)}{as:List Addr},AtO σ ς is xss as->as.length=is.length
 | [],[],[],_=>rfl
 | i::is,xs::r,a::as,⟨_,_,h⟩=>by rw[List.length_cons,List.length_cons,h.len]
end
section
variable{C:Dc}{st:Stmt}{rest:List Stmt}{T:SD->Out Fl}{U:SD->Out D}{es:List Expr}{is:List Nat}{pos:Pos}
def DOA(C:Dc)(es:List Expr)(is:List Nat):Prop:=∃ t,PA C.X es t/\∀ G H σ ς (Q:List V->Hp->Prop),StR C G H σ ς->(oTup is ς).post (fun xss=>∀ as,AtO σ ς is xss as->Q (as.map V.ref) H) C.XD->t σ H Q
theorem QNu:DOA C [] []:=⟨_,Qc6,fun G H σ ς Q S q=>q [] trivial⟩
theorem Qvc(i:Nat){x:Str}{px:Pos}(hr:DOA C es is)(hN:C.X.N[i]?=some x:=by rfl)(hv:Vis C.X.env.scope x:=by first | exact Or.inl rfl | exact Or.inr (Or.inl rfl) | exact Or.inr (Or.inr rfl))
 (hd:(x == ("__debug__":Str))=false:=by decide) (hcd:(x == ("__classdict__":Str))=false:=by decide) (hs:starEach (.Name x px::es) C.X.env=(false,eval (.Name x px) C.X.env)::starEach es C.X.env:=by rfl):DOA C (.Name x px::es) (i::is):=by
 obtain⟨t,p1,q1⟩:=hr
 refine⟨_,Qbh (Qda (i:=i) hN hv hd hcd) p1 hs,fun G H σ ς Q S q=>?_⟩
 unfold oTup at q
 split at q
 ·rename_i xs z
  obtain⟨p,e,_⟩:=S.ow i _ z
  rw[Out.post_bind]at q
  exact⟨_,e,q1 G H σ ς _ S (Out.post_mono q fun r k as ha=>k (p::as) ⟨z,e,ha⟩)⟩
 ·exact q.elim
theorem QlP(h1:DS C st T)(h2:DTs C rest U):DTs C (st::rest) (tSeq T U):=by
 obtain⟨t1,p1,q1⟩:=h1
 obtain⟨t2,p2,q2⟩:=h2
 refine⟨_,Qly p1 p2,fun G H σ ς W S q=>?_⟩
 unfold tSeq at q
 rw[Out.post_bind]at q
 refine q1 G H σ ς _ S (Out.post_mono q fun f k=>?_)
 cases f with
 | nx ς'=>exact fun σ' H' G' S' s'=>q2 G' H' σ' ς' W S' (Out.post_mono (show(U ς').post _ _ from k) fun d kd v H'' G'' gh s'' tu=>kd v H'' G'' gh (s'.trans s'') tu)
 | bk ς'=>exact k.elim
 | ct ς'=>exact k.elim
 | rt b d=>exact k.elim
theorem QNC{x1}{pt:Pos}(ha:DOA C es is)(nd:is.Nodup:=by decide)(hl:is.length<=100:=by decide):DTs C [.Return (some (.Tuple es x1 pt)) pos] (tRet is):=by
 obtain⟨t,p1,q1⟩:=ha
 refine⟨_,Qxv (Qwl (QCO p1)),fun G H σ ς W S q=>?_⟩
 unfold tRet at q
 rw[Out.post_bind]at q
 refine q1 G H σ ς _ S (Out.post_mono q fun xss k as ha=>⟨?_,fun p hp=>?_⟩)
 ·rw[List.length_map,ha.len]
  exact Nat.le_trans hl (by decide)
 ·have k:∀ v H' G',GH C G' H'->Same G G'->TupO C.X.K C.CT C.X.H₀ G' H' (.tup (xss.map .lst)) v->W.rt v H':=k
  have ow:=ha.own S nd
  exact k _ _ G (S.allocO hp).toGH (Same.refl G) ⟨p,as,xss,rfl,rfl,S.h0none hp,S.gnone hp,QG,ow.mono (Same.refl G) (Qy hp) fun a hm=>(ow.mem hm).2.1⟩
end
def bodyT(n len:Nat)(T:SD->Out D):List D->Out D:=fun ds=>if ds.length=n then T (ds.map (fun d=>some (SM.k,d))++List.replicate (len - n) none) else .stuck
theorem fnT{P:Program}{w:World}{K:PySem.W.Frag}{mg:Str->Option Value}{base:Heap}{CT:CTab}{x qual:Str}{st:Stmt}{f:Addr}{fd:FuncData}{dV:Value}{N ps:List Str}{k:Nat}{T:SD->Out D}
 (F:FunV K x qual st f fd dV) (S:Qq N ps (Qa st))
 (hb:∀(cdv:Value)(A:Around)(outer:List Env)(s:Shared)(H:Hp)(E:XK)(G:Hp),Room k (A.deeper (envOfC qual (Qa st) s.heap.objs.size f cdv))->DTs (dcOf P w K mg base CT N qual (Qa st) f cdv A outer s H E G) (Qp st) T):
 FnOk P w K mg base CX0 (k+1) f fd ps (SpT K CT (bodyT ps.length N.length T)):=by
 obtain⟨oc,od,kV,doc,pm,an,cdv,ct,osl,rfl,lk,hcd⟩:=F.ex
 have hpl:ps.length<=N.length:=by have:=congrArg List.length S.pre;rw[List.length_take]at this;omega
 have len:∀ vs H Q E,SpT K CT (bodyT ps.length N.length T) vs H Q E->vs.length=ps.length:=by
  intro vs H Q E ⟨ds,G0,sub,r,q⟩
  unfold bodyT at q
  by_cases hl:ds.length=ps.length
  ·rw[← r.length];exact hl
  ·rw[if_neg hl]at q;exact q.elim
 refine fn_of lk hcd S len fun A outer s H vs Q E hr hsp=>?_
 have hlen:=len vs H Q E hsp
 obtain⟨ds,G0,sub,r,q⟩:=hsp
 obtain⟨t,p1,q1⟩:=hb cdv A outer s H E G0 hr
 have hl:ds.length=ps.length:=by rw[r.length];exact hlen
 refine⟨t,p1.nox,?_⟩
 unfold bodyT at q
 rw[if_pos hl]at q
 have S0:StR (dcOf P w K mg base CT N qual (Qa st) f cdv A outer s H E G0) G0 H (L2.start N vs) (ds.map (fun d=>some (.k,d))++List.replicate (N.length - ps.length) none):={
  sub:=sub
  g0:=Same.refl _
  new:=fun b h1 h2=>absurd h1 h2
  fr:=fun b o e _=>e
  dom:=fun b e=>e
  bs:=Same.refl _
  bh:=fun b e=>e
  len:=by unfold L2.start;simp;omega
  fz:=fun i d e=>by
   obtain⟨d',e1,e2⟩:=Qbt e
   cases e2
   obtain⟨v,e3,rv⟩:=r.get e1
   exact⟨v,Qd0 e3,rv⟩
  ow:=fun i d e=>by obtain⟨d',e1,e2⟩:=Qbt e;cases e2
  ln:=fun i d e=>by obtain⟨d',e1,e2⟩:=Qbt e;cases e2
  inj:=fun i j d e p _ h=>by obtain⟨d',e1,e2⟩:=Qbt h;cases e2
  sf:=fun i d e=>by obtain⟨d',e1,e2⟩:=Qbt e;cases e2
  su:=fun i j d e p _ h=>by obtain⟨d',e1,e2⟩:=Qbt h;cases e2 }
 exact q1 G0 H (L2.start N vs) _ _ S0 (Out.post_mono q fun d kk v H' G' gh s' tu=>kk v H' G' s' (fun b o e=>gh.fr b o e id) gh.sub gh.new tu)
section
variable{C:Dc}{G G' H H':Hp}{σ:St}{ς:SD}
theorem StR.touch(S:StR C G H σ ς){a:Addr}{o o':HO}(ha:H a=some o)(hg:G a=none)(h0:C.X.H₀ a=none)(hn:∀(i:Nat) d,ς[i]?=some (some (.o,d))->σ[i]?≠some (some (.ref a))):StR C G (upd H a o') σ ς where
 sub:=fun b u e=>by rw[Qk (by rintro rfl;rw[hg]at e;cases e)];exact S.sub b u e
 g0:=S.g0
 new:=S.new
 fr:=fun b u e m=>by rw[Qk (by rintro rfl;rw[h0]at e;cases e)];exact S.fr b u e m
 dom:=fun b e=>by
  by_cases hb:b=a
  ·subst hb;exact h0
  ·rw[Qk hb]at e;exact S.dom b e
 bs:=fun b u e=>by rw[Qk (by rintro rfl;rw[S.bh _ h0]at e;cases e)];exact S.bs b u e
 bh:=S.bh
 len:=S.len
 fz:=S.fz
 ow:=fun i d e=>by
  obtain⟨p,e1,e2,e3,w⟩:=S.ow i d e
  exact⟨p,e1,e2,e3,w.mono (Same.refl G) fun u z=>by rw[Qk (by rintro rfl;exact hn i d e e1)];exact z⟩
 ln:=S.ln
 inj:=S.inj
 sf:=fun i d e=>by
  obtain⟨p,e1,e2,e3,m,z,w⟩:=S.sf i d e
  exact⟨p,e1,e2,e3,m,z,w.mono (Same.refl G) fun u z=>by rw[Qk (by rintro rfl;exact e3 h0)];exact z⟩
 su:=S.su
theorem QL4{ς:SD}{j:Nat}(h:ς[j]?=some none):ς.set j none=ς:=by
 apply List.ext_getElem?
 intro k
 rw[List.getElem?_set]
 split
 ·rename_i e
  subst e
  split
  ·exact h.symm
  ·rename_i hl
   rw[List.getElem?_eq_none (by omega)]at h
   cases h
 ·rfl
end
def Qf2(xss:List (List D)):Bool:=xss.all fun xs=>decide (xs.length<1000)
theorem OwnAs.short{K:PySem.W.Frag}{CT:CTab}{H0 G H:Hp}:∀{xss:List (List D)}{as:List Addr}{a:Addr},Qf2 xss=true->OwnAs K CT H0 G H xss as->a∈as->∃ vs:List V,H a=some (.lst vs)/\vs.length<1000
 | [],[],_,_,_,hm=>(nomatch hm)
 | [],_::_,_,_,h,_=>h.elim
 | _::_,[],_,_,h,_=>h.elim
 | xs::r,b::as,a,hs,⟨⟨_,_,vs,hv,rv⟩,_,ho⟩,hm=>by
  unfold Qf2 at hs
  rw[List.all_cons,Bool.and_eq_true]at hs
  rcases List.mem_cons.mp hm with rfl | hm
  ·exact⟨vs,hv,by rw[← rv.length];exact of_decide_eq_true hs.1⟩
  ·exact OwnAs.short (show Qf2 r=true from hs.2) ho hm
def lstsD:List D->Option (List (List D))
 | []=>some []
 | .lst xs::r=>(lstsD r).map (xs :: ·)
 | _=>none
theorem QsA:∀ xss:List (List D),lstsD (xss.map .lst)=some xss
 | []=>rfl
 | xs::r=>by show(lstsD (r.map .lst)).map (xs :: ·)=_;rw[QsA r];rfl
section
variable{C:Dc}{i j:Nat}{x y:Str}{p2 p3 p4 p5 p6 p7 p8 p9:Pos}{cj:Nat}{c:Int}{body:List Stmt}
theorem QKT(hN:C.X.N.Nodup)(hj:C.X.N[j]?=some y)(hy:Loc C.X.env.scope y)(hfy:C.X.fn y=true∨C.X.env.scope.names.lookup y=some .local)(hcalm:C.X.calm=true)(hp:PassesOwn (model C.X.prog C.X.w) C.X.A C.X.env C.X.xe)
 (hx:PE C.X (.Name x p4) (tVar i)) (hb:PSs C.X body (L2.tDrop (tBM C.X.K "list" Qxg (tVar j) (tCons (tC (.int c)) tNil)))) (hs:∀ z,foldedSetIterable (.Name x p4) C.X.env z=pure z):
 ∃ t,PS C.X (.For (.Name y p3) (.Name x p4) body [] p2) t/\
  ∀ G H σ ς (W:Ends) (p:Addr) (as:List Addr),StR C G H σ ς->ς[j]?=some none->σ[i]?=some (some (.ref p))->j<σ.length->H p=some (.tup (as.map V.ref))->(∀ a∈as,C.X.H₀ a=none/\G a=none/\∀(k:Nat) d,ς[k]?=some (some (.o,d))->σ[k]?≠some (some (.ref a)))->(∀ a∈as,∃ vs:List V,H a=some (.lst vs)/\vs.length<1000)->as.Nodup->
   (∀ σ' H',StR C G H' σ' ς->W.nx σ' H')->t W σ H:=by
 refine⟨_,QKO hp hcalm (QOE hx) (Qx4 hN hj hy hfy) hb hs,?_⟩
 intro G H σ ς W p as S hςj hσi hjl hpt hfr hls nd hnx
 refine⟨_,hσi,p,rfl,⟨_,.inl (.inl hpt)⟩,?_⟩
 refine⟨fun k mm σ' H'=>mm=as.length - k/\k<=as.length/\StR C G H' σ' ς/\(∀ n,n≠j->σ'[n]?=σ[n]?)/\σ'.length=σ.length/\H' p=some (.tup (as.map V.ref))/\∀ a∈as.drop k,∃ vs:List V,H' a=some (.lst vs)/\vs.length<1000,
  ⟨as.length,by simp,Nat.zero_le _,S,fun _ _=>rfl,rfl,hpt,by simpa using hls⟩,?_⟩
 rintro k mm σ' H' ⟨rfl,hle,S',hσ,hln,hpt',hls'⟩
 by_cases hk:k<as.length
 ·have hat:as[k]?=some as[k]:=List.getElem?_eq_getElem hk
  have hat':(as.map V.ref)[k]?=some (.ref as[k]):=by rw[List.getElem?_map,hat];rfl
  have hdr:as.drop k=as[k]::as.drop (k+1):=List.drop_eq_getElem_cons hk
  have hmem:as[k]∈as:=List.getElem_mem hk
  rw[hdr]at hls'
  obtain⟨vs,hv,hvl⟩:=hls' as[k] (List.mem_cons_self ..)
  obtain⟨h0,hg,hn⟩:=hfr as[k] hmem
  have hna:as[k]∉as.drop (k+1):=by
   have:=List.Nodup.sublist (List.drop_sublist k as) nd
   rw[hdr]at this
   exact(List.nodup_cons.mp this).1
  generalize as[k]=a at *
  refine .inr ⟨⟨_,_,.inl (.inl hpt'),hat'⟩,fun σ2 H2=>as.length - (k+1)=as.length - (k+1)/\k+1<=as.length/\StR C G H2 σ2 ς/\(∀ n,n≠j->σ2[n]?=σ[n]?)/\σ2.length=σ.length/\H2 p=some (.tup (as.map V.ref))/\∀ a∈as.drop (k+1),∃ vs:List V,H2 a=some (.lst vs)/\vs.length<1000,fun σ2 H2 h=>⟨_,by omega,h⟩,?_⟩
  rintro z H'' ⟨rfl,hz⟩
  have hz:=hz _ (.inl (.inl hpt'))
  rw[hat']at hz
  cases hz
  have hjs:(σ'.set j (some (V.ref a)))[j]?=some (some (.ref a)):=by rw[List.getElem?_set];simp;omega
  refine⟨_,hjs,.inl ⟨rfl,vs,SqL.of hv⟩,a,vs,.int c,rfl,rfl,hv,Nat.lt_of_lt_of_le hvl (by decide),rfl,hk,?_,?_,?_,?_,?_⟩
  ·have S2:=S'.hide j (some (V.ref a))
   rw[QL4 hςj]at S2
   refine S2.touch hv hg h0 fun n d hd=>?_
   have hnj:n≠j:=by rintro rfl;rw[hςj]at hd;cases hd
   rw[List.getElem?_set_ne (Ne.symm hnj),hσ n hnj]
   exact hn n d hd
  ·intro n hnj
   rw[List.getElem?_set_ne (Ne.symm hnj)]
   exact hσ n hnj
  ·rw[List.length_set];exact hln
  ·rw[Qk (by rintro rfl;rw[hpt']at hv;cases hv)];exact hpt'
  ·intro b hb'
   obtain⟨us,hu,hul⟩:=hls' b (List.mem_cons_of_mem _ hb')
   exact⟨us,by rw[Qk (by rintro rfl;exact hna hb')];exact hu,hul⟩
 ·have e:k=as.length:=by omega
  exact .inl ⟨⟨_,.inl (.inl hpt'),by rw[List.length_map];omega⟩,hnx σ' H' S'⟩
end
section
variable{C:Dc}{G H:Hp}{σ:St}{ς:SD}
theorem StR.forget(S:StR C G H σ ς)(i:Nat):StR C G H σ (ς.set i none) where
 toGH:=S.toGH
 len:=by rw[List.length_set];exact S.len
 fz:=fun j e h=>by
  rcases Qs h with⟨rfl,h2,l⟩ | ⟨ne,h2⟩
  ·cases h2
  ·exact S.fz j e h2
 ow:=fun j e h=>by
  rcases Qs h with⟨rfl,h2,l⟩ | ⟨ne,h2⟩
  ·cases h2
  ·exact S.ow j e h2
 ln:=fun j e h=>by
  rcases Qs h with⟨rfl,h2,l⟩ | ⟨ne,h2⟩
  ·cases h2
  ·exact S.ln j e h2
 inj:=fun j k d1 d2 p hjk h1 h2 h3=>by
  rcases Qs h1 with⟨rfl,q1,l⟩ | ⟨n1,q1⟩
  ·cases q1
  ·rcases Qs h2 with⟨rfl,q2,l⟩ | ⟨n2,q2⟩
   ·cases q2
   ·exact S.inj j k d1 d2 p hjk q1 q2 h3
 sf:=fun j e h=>by
  rcases Qs h with⟨rfl,h2,l⟩ | ⟨ne,h2⟩
  ·cases h2
  ·exact S.sf j e h2
 su:=fun j k d1 d2 p hjk h1 h2 h3=>by
  rcases Qs h1 with⟨rfl,q1,l⟩ | ⟨n1,q1⟩
  ·cases q1
  ·rcases Qs h2 with⟨rfl,q2,l⟩ | ⟨n2,q2⟩
   ·cases q2
   ·exact S.su j k d1 d2 p hjk q1 q2 h3
end
theorem OwnAs.h0{K:PySem.W.Frag}{CT:CTab}{H0 H0' G H:Hp}:∀{xss:List (List D)}{as:List Addr},(∀ a,H0 a=none->H0' a=none)->OwnAs K CT H0 G H xss as->OwnAs K CT H0' G H xss as
 | [],[],_,_=>trivial
 | xs::r,a::as,n,⟨⟨h0,hg,o⟩,na,ho⟩=>⟨⟨n a h0,hg,o⟩,na,ho.h0 n⟩
theorem OwnAs.nodup{K:PySem.W.Frag}{CT:CTab}{H0 G H:Hp}:∀{xss:List (List D)}{as:List Addr},OwnAs K CT H0 G H xss as->as.Nodup
 | [],[],_=>List.nodup_nil
 | [],_::_,h=>h.elim
 | _::_,[],_=>List.nodup_nil
 | xs::r,a::as,⟨_,na,ho⟩=>List.nodup_cons.mpr ⟨na,ho.nodup⟩
def onlyR:Fl->Out Fl
 | .rt b d=>.ok (.rt b d)
 | _=>.stuck
def Qsg(i j:Nat)(m:List D->Out D)(A:SD->Out (List D))(TC:SD->Out Bool)(R U:SD->Out Fl):SD->Out Fl:=fun ς=>A ς>>=fun ds=>m ds>>=fun d=>match d with
 | .tup es=>match lstsD es with
  | some xss=>if (Qf2 xss&&decide (i<ς.length)&&decide (j<ς.length))=true then TC (ς.set i (some (.k,.tup es)))>>=fun b=>if b=true then R (ς.set i (some (.k,.tup es)))>>=onlyR else U ((ς.set i none).set j none) else .stuck
  | none=>.stuck
 | _=>.stuck
section
variable{C:Dc}{i j:Nat}{x y fn:Str}{k:Nat}{m:List D->Out D}{e:Expr}{es:List Expr}{A:SD->Out (List D)}{tc:Expr}{TC:SD->Out Bool}{ra:List Stmt}{R U:SD->Out Fl}{rest:List Stmt}{sf:Stmt}{p0 p1 p2 p3 p4:Pos}
theorem QLk(hij:i≠j)(h:DefT C.X.prog C.X.w C.X.K C.X.mg C.X.base C.CT fn k m)(hr:Room k C.X.A)(ha:DA C (e::es) A)(hg:Gl C.X fn)(hN:C.X.N.Nodup)(hi:C.X.N[i]?=some x)(hx:Loc C.X.env.scope x)
 (hc:DT C tc TC) (hra:DSs C ra R)
 (hfor:∃ t,PS C.X sf t/\∀ G H σ ς (W:Ends) (p:Addr) (as:List Addr),StR C G H σ ς->ς[j]?=some none->σ[i]?=some (some (.ref p))->j<σ.length->H p=some (.tup (as.map V.ref))->(∀ a∈as,C.X.H₀ a=none/\G a=none/\∀(k:Nat) d,ς[k]?=some (some (.o,d))->σ[k]?≠some (some (.ref a)))->(∀ a∈as,∃ vs:List V,H a=some (.lst vs)/\vs.length<1000)->as.Nodup->
  (∀ σ' H',StR C G H' σ' ς->W.nx σ' H')->t W σ H)
 (hrest:DSs C rest U) (hxd:∀ x,¬ C.XD x:=by exact fun _ h=>h)
 (hs:swapsWith (.Call (.Name fn p3) (e::es) [] p4) (some (.Name x p2)) p1.line C.X.env=pure false:=by rfl)
 (hf:C.X.fn x=true∨C.X.env.scope.names.lookup x=some .local:=by first | exact .inl rfl | exact .inr rfl | assumption)
 (hdb:(fn == ("__debug__":Str))=false:=by decide) (he:starEach (e::es) C.X.env=(false,eval e C.X.env)::starEach es C.X.env:=by rfl) (hpl:(backTo p4 (starEach es C.X.env)).any (·.1)=false:=by rfl):
 DSs C (.Assign [.Name x p2] (.Call (.Name fn p3) (e::es) [] p4) p1::.If tc ra [] p0::sf::rest) (Qsg i j m A TC R U):=by
 obtain⟨f,fd,pn,F,hm,hk,hb⟩:=h
 obtain⟨ta,pa,qa⟩:=ha
 obtain⟨t2,pt,qt⟩:=hc
 obtain⟨t3,pr,qr⟩:=hra
 obtain⟨t4,pf,qf⟩:=hfor
 obtain⟨t5,pu,qu⟩:=hrest
 refine⟨_,Qly (QB3 hN hi hx (Qtp F hr hg hm hk hb .nil pass0 pa hdb he hpl) hs hf) (Qly (ps_if pt pr QHu) (Qly pf pu)),fun G H σ ς W S q=>?_⟩
 unfold Qsg at q
 rw[Out.post_bind]at q
 refine qa G H σ ς _ S (Out.post_mono q fun ds kk vs H1 G1 S1 a1 b1 r1=>⟨ds,G1,S1.sub,by rw[List.append_nil];exact r1,?_⟩)
 rw[Out.post_bind]at kk
 cases z:m ds with
 | stuck=>rw[z]at kk;exact kk.elim
 | exc y=>rw[z]at kk;exact absurd kk (hxd y)
 | ok d=>
  rw[z]at kk
  intro v H2 G2 g1 h1 s1 n1 tu
  obtain⟨p,as,xss,rfl,rfl,hp0,hpg,hpt,ow⟩:=tu
  have kk:(match lstsD (xss.map D.lst) with
   | some xss'=>if (Qf2 xss'&&decide (i<ς.length)&&decide (j<ς.length))=true then TC (ς.set i (some (.k,.tup (xss.map D.lst))))>>=fun b=>if b=true then R (ς.set i (some (.k,.tup (xss.map D.lst))))>>=onlyR else U ((ς.set i none).set j none) else Out.stuck
   | none=>Out.stuck).post (FlK C G W) C.XD:=kk
  rw[QsA]at kk
  rcases QQ kk with⟨hcc,kk⟩ | ⟨_,kk⟩
  case inr=>exact kk.elim
  rw[Bool.and_eq_true,Bool.and_eq_true]at hcc
  obtain⟨⟨hsh,hil⟩,hjl⟩:=hcc
  have hil:=of_decide_eq_true hil
  have hjl:=of_decide_eq_true hjl
  have S2:StR C G2 H2 σ ς:=S1.grow h1 g1 s1 n1
  have hne:∀ a,H1 a=none->∀(n:Nat) d,ς[n]?=some (some (.o,d))->σ[n]?≠some (some (.ref a)):=fun a h1a n d hd hσ=>by
   obtain⟨o,ho⟩:=S1.own_ne hd hσ
   rw[h1a]at ho;cases ho
  have ow':OwnAs C.X.K C.CT C.X.H₀ G2 H2 xss as:=ow.h0 fun a h=>S1.h0none h
  have hpa:p∉as:=fun hm=>by
   obtain⟨_,_,us,hu⟩:=ow.mem hm
   rw[hpt]at hu;cases hu
  obtain⟨G3,S3,g3,k3,r3⟩:=S2.freezeAs ow' fun a hm=>hne a (ow.mem hm).1
  have hG3:G3 p=none:=by rw[k3 p hpa];exact hpg
  have S4:=S3.freeze hpt hG3 (S1.h0none hp0) (hne p hp0)
  have rp:Rep C.X.K C.CT (upd G3 p (.tup (as.map V.ref))) (.tup (xss.map .lst)) (.ref p):=⟨p,as.map V.ref,rfl,.inl (.inl QG),RepL.mono (Qy hG3) _ _ r3⟩
  have S5:=S4.set i rp
  rw[Out.post_bind]at kk
  refine qt _ H2 _ _ _ S5 (Out.post_mono kk fun b kb H3 G5 S6 a6 b6=>?_)
  have gg:Same G G5:=(b1.trans g1).trans (g3.trans ((Qy hG3).trans b6))
  cases b with
  | true=>
   refine iteT (qr G5 H3 _ _ _ S6 ?_)
   have kb:(R (ς.set i (some (.k,.tup (xss.map .lst))))>>=onlyR).post (FlK C G W) C.XD:=kb
   rw[Out.post_bind]at kb
   refine Out.post_mono kb fun fl kf=>?_
   cases fl with
   | nx ς'=>exact kf.elim
   | bk ς'=>exact kf.elim
   | ct ς'=>exact kf.elim
   | rt b d=>exact FlK.later (show FlK C G W (.rt b d) from kf) gg
  | false=>
   refine iteF ?_
   have kb:(U ((ς.set i none).set j none)).post (FlK C G W) C.XD:=kb
   have hlen:=S.len
   have S7:StR C G2 H3 (σ.set i (some (.ref p))) ((ς.set i none).set j none):=((S2.hide i (some (.ref p))).grow a6 (Same.refl G2) (S2.sub.trans a6) fun b g n=>absurd g n).forget j
   refine qf G2 H3 _ _ _ p as S7 ?_ ?_ ?_ (a6 _ _ hpt) (fun a hm=>⟨S1.h0none (ow.mem hm).1,(ow.mem hm).2.1,fun n d hd=>?_⟩) (fun a hm=>?_) ow.nodup (fun σ' H' S'=>qu G2 H' σ' _ W S' (Out.post_mono kb fun f k=>FlK.later k (b1.trans g1)))
   ·rw[List.getElem?_set]
    simp
    omega
   ·rw[List.getElem?_set]
    simp
    omega
   ·rw[List.length_set];omega
   ·rcases Qs hd with⟨rfl,h2,l⟩ | ⟨nj,h2⟩
    ·cases h2
    ·rcases Qs h2 with⟨rfl,h3,l⟩ | ⟨ni,h3⟩
     ·cases h3
     ·rw[Qm ni]
      exact hne a (ow.mem hm).1 n d h3
   ·obtain⟨us,hu,hul⟩:=OwnAs.short hsh ow hm
    exact⟨us,a6 _ _ hu,hul⟩
end
section
variable{C:Dc}{j:Nat}{y:Str}{p5 p6 p7 p8 p9:Pos}{cj:Nat}{c:Int}
theorem QID(hN:C.X.N[j]?=some y:=by rfl)(hv:Vis C.X.env.scope y:=by first | exact Or.inl rfl | exact Or.inr (Or.inl rfl) | exact Or.inr (Or.inr rfl))
 (hd:(y == ("__debug__":Str))=false:=by decide) (hcd:(y == ("__classdict__":Str))=false:=by decide)
 (hbase:attributeBase (.Name y p6) "append" C.X.env (eval (.Name y p6) C.X.env)=eval (.Name y p6) C.X.env:=by rfl)
 (hfew:((backTo p9 (starEach (.Constant (.int c) cj p8::[]) C.X.env)).all (fun x => !x.1)&&(backToKw p9 (keywordEach [] C.X.env)).all (fun x=>x.1.isSome)
  && decide ((Expr.Constant (.int c) cj p8::[]).length+([]:List Keyword).length+(if ([]:List Keyword).isEmpty then 0 else 1)<30))=true:=by rfl)
 (hline:(p7.endLine == p9.line)=true:=by rfl) (hs:starEach (.Constant (.int c) cj p8::[]) C.X.env=(false,eval (.Constant (.int c) cj p8) C.X.env)::starEach [] C.X.env:=by rfl)
 (hsw:swapsWith (.Call (.Attribute (.Name y p6) "append" p7) [.Constant (.int c) cj p8] [] p9) none p5.line C.X.env=pure false:=by rfl):
 PSs C.X [.Expr (.Call (.Attribute (.Name y p6) "append" p7) [.Constant (.int c) cj p8] [] p9) p5] (L2.tDrop (tBM C.X.K "list" Qxg (tVar j) (tCons (tC (.int c)) tNil))):=
 Qxv (Qti (pe_bm PySem.F.plainAttrs_list PySem.F.slot_list_append PySem.F.type_list_append QrH (Qda (i:=j) hN hv hd hcd) (Qbh QKz Qc6 hs) hbase hfew hline hs rfl) hsw)
end
end DL
namespace DL
open PySem PySem.Spec PyProof.Rows L2
theorem QX{i j:Int}(h:0<j):dMod (.int i) (.int j)=.ok (.int (i % j)):=by
 show(if decide (j≠0)=true then Out.ok (D.int (i.fmod j)) else Out.stuck)=_
 rw[if_pos (decide_eq_true (by omega)),Int.fmod_eq_emod_of_nonneg i (by omega)]
theorem QL7{i j:Int}(h:j≠0)(hb:big j=true):dFdiv (.int i) (.int j)=.ok (.int (i.fdiv j)):=by
 show(if (decide (j≠0)&&big j)=true then Out.ok (D.int (i.fdiv j)) else Out.stuck)=_
 rw[if_pos (by rw[hb,decide_eq_true h];rfl)]
theorem QmG{i j:Int}(h:0<j)(hb:big j=true):dFdiv (.int i) (.int j)=.ok (.int (i / j)):=by
 rw[QL7 (by omega) hb,Int.fdiv_eq_ediv_of_nonneg i (by omega)]
theorem QkL{i:Int}{n:Nat}(h:i.natAbs<2 ^ n):bitsI i<=n:=PySem.intBits_le_iff.mpr h
theorem QoM{i:Int}{n:Nat}(h:bitsI i<=n):i.natAbs<2 ^ n:=PySem.intBits_le_iff.mp h
theorem QNZ{i j:Int}(h:bitsI i+bitsI j<=134217728):dMul (.int i) (.int j)=.ok (.int (i * j)):=by
 show(if decide (bitsI i+bitsI j<=134217728)=true then Out.ok (D.int (i * j)) else Out.stuck)=_
 rw[if_pos (decide_eq_true h)]
theorem QNn{i j:Int}{m n:Nat}(hi:bitsI i<=m)(hj:bitsI j<=n)(h:m+n<=134217728):dMul (.int i) (.int j)=.ok (.int (i * j)):=QNZ (by omega)
theorem Qak(i j:Int):dAdd (.int i) (.int j)=.ok (.int (i+j)):=rfl
theorem QcV(i j:Int):dSub (.int i) (.int j)=.ok (.int (i - j)):=rfl
theorem QeA(i:Int):dNeg (.int i)=.ok (.int (-i)):=rfl
theorem Qih(i:Int):dAbs (.int i)=.ok (.int (i.natAbs:Int)):=by
 show Out.ok (D.int (if i<0 then -i else i))=_
 congr 2;split<;>omega
theorem Qb4(i j:Int):dLt (.int i) (.int j)=.ok (.bl (decide (i<j))):=rfl
theorem QdB(i j:Int):dLe (.int i) (.int j)=.ok (.bl (decide (i<=j))):=rfl
theorem Qh7(i j:Int):dGt (.int i) (.int j)=.ok (.bl (decide (j<i))):=rfl
theorem QkK(i j:Int):dGe (.int i) (.int j)=.ok (.bl (decide (j<=i))):=rfl
theorem QHh{i j:Int}(h:(decide (0<=j)&&decide (j<=1000000)&&decide (i.natAbs<2 ^ 64))=true):dPow (.int i) (.int j)=.ok (.int (i ^ j.toNat)):=by
 show(if _=true then Out.ok (D.int (i ^ j.toNat)) else Out.stuck)=_
 rw[if_pos h]
mutual
def layD:D->Bool
 | .non=>true
 | .bl _=>true
 | .int _=>true
 | .str x=>PyData.strOk x
 | .lst xs=>layDs xs
 | .tup xs=>layDs xs
 | _=>false
def layDs:List D->Bool
 | []=>true
 | x::xs=>layD x&&layDs xs
end
mutual
def dep:D->Nat
 | .lst xs=>deps xs+1
 | .tup xs=>deps xs+1
 | _=>0
def deps:List D->Nat
 | []=>0
 | x::xs=>max (dep x) (deps xs)
end
mutual
theorem QJT:∀ d:D,layD d=true->d.py.canLay0=true
 | .non,_=>rfl
 | .bl _,_=>rfl
 | .int _,_=>rfl
 | .str x,h=>h
 | .lst xs,h=>QxR xs h
 | .tup xs,h=>QxR xs h
theorem QxR:∀ ds:List D,layDs ds=true->PyData.canLayAll0 (D.pys ds)=true
 | [],_=>rfl
 | x::xs,h=>by
  rw[layDs,Bool.and_eq_true]at h
  rw[D.pys,PyData.canLayAll0,Bool.and_eq_true]
  exact⟨QJT x h.1,QxR xs h.2⟩
end
mutual
theorem QKE:∀ d:D,layD d=true->d.py.depth=dep d
 | .non,_=>rfl
 | .bl _,_=>rfl
 | .int _,_=>rfl
 | .str x,h=>rfl
 | .lst xs,h=>by rw[D.py,PyData.depth,dep,QxW xs h]
 | .tup xs,h=>by rw[D.py,PyData.depth,dep,QxW xs h]
theorem QxW:∀ ds:List D,layDs ds=true->PyData.depthAll (D.pys ds)=deps ds
 | [],_=>rfl
 | x::xs,h=>by
  rw[layDs,Bool.and_eq_true]at h
  rw[D.pys,PyData.depthAll,deps,QKE x h.1,QxW xs h.2]
end
theorem QBo{d:D}(h:layD d=true)(hd:dep d<=64):shp d=true:=by
 unfold shp SeqAt.shaped
 rw[QJT d h,QKE d h]
 simpa using hd
theorem Qtf(i:Int):shp (.int i)=true:=QBo rfl (Nat.zero_le _)
theorem QKw{x y:D}(hx:shp x=true)(hy:shp y=true):dEq x y=.ok (.bl (PyData.eqv x.py y.py)):=by
 unfold dEq;rw[hx,hy];rfl
theorem QKc{x y:D}(hx:shp x=true)(hy:shp y=true):dNe x y=.ok (.bl (!PyData.eqv x.py y.py)):=by
 unfold dNe;rw[hx,hy];rfl
theorem QHo(i j:Int):(i == j)=decide (i=j):=by
 by_cases h:i=j
 ·subst h;simp
 ·simp[h]
theorem Qar(i j:Int):dEq (.int i) (.int j)=.ok (.bl (decide (i=j))):=by
 rw[QKw (Qtf i) (Qtf j), ← QHo]
 rfl
theorem QeO(i j:Int):dNe (.int i) (.int j)=.ok (.bl (!decide (i=j))):=by
 rw[QKc (Qtf i) (Qtf j), ← QHo]
 rfl
theorem Qc7{n:Nat}(h:n<=1000:=by decide):fits n=true:=decide_eq_true (Nat.le_trans h (by decide))
theorem ixT{xs:List D}{x:D}(k:Nat)(h:xs[k]?=some x):dIx (.tup xs) (.int (k:Int))=.ok x:=by
 show optO (atI xs (k:Int))=_
 rw[QyW h];rfl
theorem ixL{xs:List D}{x:D}(k:Nat)(h:xs[k]?=some x):dIx (.lst xs) (.int (k:Int))=.ok x:=by
 show optO (atI xs (k:Int))=_
 rw[QyW h];rfl
theorem QOH{α:Type}(xs:List α)(i k:Nat):cutD xs (some (i:Int)) (some (k:Int))=(xs.drop i).take (k - i):=by
 unfold cutD
 rw[HT.sIx_nat,HT.sIx_nat]
 by_cases h:i<=xs.length
 ·rw[Nat.min_eq_left h]
  by_cases h2:k<=xs.length
  ·rw[Nat.min_eq_left h2]
  ·rw[Nat.min_eq_right (by omega),List.take_of_length_le (by rw[List.length_drop];exact Nat.le_refl _),List.take_of_length_le (by rw[List.length_drop];omega)]
 ·rw[show min i xs.length=xs.length by omega,List.drop_length,List.drop_eq_nil_of_le (by omega:xs.length<=i)];simp
theorem QNw{xs ys:List D}(h:xs.length+ys.length<=1000):dCat (.lst xs) (.lst ys)=.ok (.lst (xs++ys)):=by
 show(if fits _=true then _ else _)=_
 rw[if_pos (Qc7 h)]
theorem Qb7{g:D->SD->Out SD}{its:SD->Out (List D)}{T:SD->Out Fl}{ς:SD}{xs:List D}{r:Out Fl}(h:its ς=.ok xs)(hL:loopD (fun x ς=>g x ς>>=fun ς'=>T ς') xs ς=r):sFor g its T ς=r:=by
 unfold sFor
 rw[h];exact hL
theorem Qce{A:SD->Out D}{ς:SD}(m:Nat)(h:A ς=.ok (.int (m:Int)))(hm:m<=1000000):itR1 A ς=.ok (Qb1 0 m):=by
 have hs:Qo8 (m:Int)=true:=by
  unfold Qo8
  rw[Bool.and_eq_true]
  exact⟨decide_eq_true (by omega),decide_eq_true (by omega)⟩
 unfold itR1
 rw[h,Out.bind_ok]
 simp only[hs,if_true,Int.toNat_natCast]
end DL
namespace DL
open PySem PySem.Spec PyProof.Rows L2
theorem Qcz{body:D->SD->Out Fl}{P:Nat->SD->Prop}{n:Nat}(h:∀ k:Nat,k<n->∀ ς,P k ς->∃ ς',body (.int (k:Int)) ς=.ok (.nx ς')/\P (k+1) ς'):∀ ς,P 0 ς->∃ ς',loopD body (Qb1 0 n) ς=.ok (.nx ς')/\P n ς':=by
 have key:∀(j:Nat)(k:Nat),k+j=n->∀ ς,P k ς->∃ ς',loopD body ((List.range' k j).map fun(i:Nat)=>D.int ((0:Int)+i)) ς=.ok (.nx ς')/\P n ς':=by
  intro j
  induction j with
  | zero=>
   intro k hk ς p
   have:k=n:=by omega
   subst this
   exact⟨ς,rfl,p⟩
  | succ j ih=>
   intro k hk ς p
   obtain⟨ς1,e1,p1⟩:=h k (by omega) ς p
   obtain⟨ς2,e2,p2⟩:=ih (k+1) (by omega) ς1 p1
   refine⟨ς2,?_,p2⟩
   rw[List.range'_succ,List.map_cons,loopD,Int.zero_add,e1]
   exact e2
 intro ς p
 have:=key n 0 (by omega) ς p
 unfold Qb1
 rw[List.range_eq_range']
 exact this
theorem Qvb{f:D->Out (Option D)}{h:D->Option D}:∀{xs:List D},(∀ x∈xs,f x=.ok (h x))->compM f xs=.ok (xs.filterMap h)
 | [],_=>rfl
 | x::xs,hf=>by
  rw[compM,hf x List.mem_cons_self,Out.bind_ok,Qvb (xs:=xs) (fun y hy=>hf y (List.mem_cons_of_mem _ hy)),Out.bind_ok,List.filterMap_cons]
  cases h x<;>rfl
theorem QrY{α:Type}(f:α->Bool):∀ xs:List α,blsOf (xs.map fun x=>D.bl (f x))=some (xs.map f)
 | []=>rfl
 | x::xs=>by rw[List.map_cons,blsOf,QrY f xs];rfl
theorem Qh8{α:Type}(f:α->Bool)(xs:List α):fAll (.lst (xs.map fun x=>D.bl (f x)))=.ok (.bl (xs.all f)):=by
 rw[fAll,QrY]
 show Out.ok (D.bl ((xs.map f).all id))=_
 rw[List.all_map];rfl
theorem QMk{α:Type}(f:α->Bool)(xs:List α):fAny (.lst (xs.map fun x=>D.bl (f x)))=.ok (.bl (xs.any f)):=by
 rw[fAny,QrY]
 show Out.ok (D.bl ((xs.map f).any id))=_
 rw[List.any_map];rfl
theorem QgO{n:Nat}(h:n<=1000):fits n=true:=Qc7 h
theorem QNK(z:Str):z.cps.toList.length=z.length:=by simp[Str.length]
end DL
namespace DL
open PySem PySem.Spec L2
section
variable{i j:Nat}{d x y:D}{m:SM}{ς ς' ς1:SD}{E A B:SD->Out D}{AA:SD->Out (List D)}{f:D->Out D}{g:D->D->Out D}{h:List D->Out D}{r:Out D}{xs ys:List D}{T U:SD->Out Fl}{P Q:SD->Out Bool}{b c:Bool}{fl:Fl}{rf:Out Fl}{rb:Out Bool}
theorem r_var(e:ς[i]?=some (some (.k,d))):eVar i ς=.ok d:=by unfold eVar;rw[e]
theorem Qhk(e:ς[i]?=some (some (m,d))):eVarB i ς=.ok d:=by unfold eVarB;rw[e]
theorem r_C:eC d ς=.ok d:=rfl
theorem r_e1(a:A ς=.ok x)(k:f x=r):e1 f A ς=r:=by unfold e1;rw[a];exact k
theorem r_e2(a:A ς=.ok x)(a':B ς=.ok y)(k:g x y=r):e2 g A B ς=r:=by unfold e2;rw[a,Out.bind_ok,a'];exact k
theorem r_eA(a:AA ς=.ok xs)(k:h xs=r):eA h AA ς=r:=by unfold eA;rw[a];exact k
theorem Q9{dd:List D}(a:AA ς=.ok xs)(e:xs++dd=ys)(k:h ys=r):eA (fun xs=>h (xs++dd)) AA ς=r:=by unfold eA;rw[a];show h (xs++dd)=r;rw[e];exact k
theorem r_nil:aNil ς=.ok []:=rfl
theorem Qf(a:A ς=.ok x)(k:AA ς=.ok xs):aCons A AA ς=.ok (x::xs):=by unfold aCons;rw[a,Out.bind_ok,k];rfl
theorem r_tup(a:AA ς=.ok xs)(k:xs.length<=1000):eTup AA ς=.ok (.tup xs):=by unfold eTup;rw[a,Out.bind_ok,if_pos (QgO k)]
theorem r_lst(a:AA ς=.ok xs)(k:xs.length<=1000):eLst AA ς=.ok (.lst xs):=by unfold eLst;rw[a,Out.bind_ok,if_pos (QgO k)]
theorem QaR(a:A ς=.ok (.bl b)):tVal A ς=.ok b:=by unfold tVal;rw[a];rfl
theorem QkQ(a:P ς=.ok b):tNot' P ς=.ok (!b):=by unfold tNot';rw[a];rfl
theorem r_or'(a:P ς=.ok b)(k:(if b=true then .ok true else Q ς)=rb):tOr' P Q ς=rb:=by unfold tOr';rw[a];exact k
theorem QvT(a:P ς=.ok b)(k:(if b=true then Q ς else .ok false)=rb):tAnd' P Q ς=rb:=by unfold tAnd';rw[a];exact k
theorem QwQ(a:A ς=.ok (.bl b))(k:(if b=true then B ς else .ok (.bl false))=r):eAnd A B ς=r:=by unfold eAnd;rw[a];cases b<;>exact k
theorem r_eIf(a:P ς=.ok b)(k:(if b=true then A ς else B ς)=r):eIf P A B ς=r:=by unfold eIf;rw[a];exact k
theorem r_isa{F:D->Out Bool}(a:A ς=.ok x)(k:F x=.ok b):eIsa F A ς=.ok (.bl b):=by unfold eIsa;rw[a,Out.bind_ok,k];rfl
theorem QHv{g':D->D->Out D}{E':SD->Out D}(a:A ς=.ok x)(a':B ς=.ok y)(k:g x y=.ok (.bl b))(k':(if b=true then E' ς>>=fun w=>g' y w else .ok (.bl false))=r):Qc9 g g' A B E' ς=r:=by unfold Qc9;rw[a,Out.bind_ok,a',Out.bind_ok,k];cases b<;>exact k'
theorem QJ3{z:D}(a:E ς=.ok z)(k:f z=r):(E ς>>=fun w=>f w)=r:=by rw[a];exact k
theorem r_set(a:E ς=.ok d)(k:ς.set i (some (.k,d))=ς'):sSet i E ς=.ok (.nx ς'):=by unfold sSet;rw[a,Out.bind_ok,k]
theorem QdC(a:E ς=.ok d)(k:ς.set i (some (.o,d))=ς'):sSetO i E ς=.ok (.nx ς'):=by unfold sSetO;rw[a,Out.bind_ok,k]
theorem r_seq(a:T ς=.ok fl)(k:thenF U fl=rf):sSeq T U ς=rf:=by unfold sSeq;rw[a];exact k
theorem r_okR{α:Type}{a:α}:(Out.ok a)=Out.ok a:=rfl
theorem Qn(k:U ς=rf):thenF U (.nx ς)=rf:=k
theorem QoH{z:Bool}:thenF U (.rt z d)=.ok (.rt z d):=rfl
theorem r_if(a:P ς=.ok b)(k:(if b=true then T ς else U ς)=rf):sIf P T U ς=rf:=by unfold sIf;rw[a];exact k
theorem Qi3{α:Type}{u v w:α}(a:b=true)(k:u=w):(if b=true then u else v)=w:=by rw[if_pos a];exact k
theorem QiT{α:Type}{u v w:α}(a:b=false)(k:v=w):(if b=true then u else v)=w:=by subst a;exact k
theorem r_ret(a:E ς=.ok d):sRet E ς=.ok (.rt false d):=by unfold sRet;rw[a];rfl
theorem Qru(a:E ς=.ok d):sRetF E ς=.ok (.rt true d):=by unfold sRetF;rw[a];rfl
theorem QC5(e:ς[i]?=some (some (.o,d))):sRetO i ς=.ok (.rt true d):=by unfold sRetO;rw[e]
theorem Qch:sNil ς=.ok (.nx ς):=rfl
theorem QHI{n:Nat}(k:n<=1000):decide (n<sizeLine)=true:=decide_eq_true (Nat.lt_of_le_of_lt k (by decide))
theorem r_app(e:ς[i]?=some (some (.o,.lst xs)))(a:E ς=.ok d)(k:xs.length<=1000)(l:ς.set i (some (.o,.lst (xs++[d])))=ς'):QcF i E ς=.ok (.nx ς'):=by
 unfold QcF;rw[e];show(E ς>>=fun d=>if decide (xs.length<sizeLine)=true then _ else _)=_;rw[a,Out.bind_ok,if_pos (QHI k),l]
theorem r_put{I:SD->Out D}{k:Int}(a:E ς=.ok d)(e:ς[i]?=some (some (.o,.lst xs)))(a':I ς=.ok (.int k))(q:ixN xs.length k=some j)(l:ς.set i (some (.o,.lst (xs.set j d)))=ς'):sPutO i I E ς=.ok (.nx ς'):=by
 unfold sPutO;rw[a,Out.bind_ok,e]
 show(I ς>>=_)=_
 rw[a',Out.bind_ok]
 show(optO (ixN xs.length k)>>=_)=_
 rw[q]
 show Out.ok (Fl.nx (ς.set i (some (.o,.lst (xs.set j d)))))=_
 rw[l]
theorem QDZ{o:Out D}(a:o=.ok d)(k:d.scal=true):Qot o=.ok d:=by unfold Qot;rw[a,Out.bind_ok,if_pos k]
theorem QsQ{o:Out D}(a:o=.ok d)(k:d.scal=false):QkJ o=.ok d:=by unfold QkJ;rw[a,Out.bind_ok,k];rfl
theorem r_noX{α:Type}{o:Out α}{a:α}(k:o=.ok a):noX o=.ok a:=by rw[k];rfl
theorem r_sl{l u:SD->Out (Option Int)}{p q:Option Int}(a:A ς=.ok (.lst xs))(k1:l ς=.ok p)(k2:u ς=.ok q)(e:cutD xs p q=ys):eSl A l u ς=.ok (.lst ys):=by unfold eSl;rw[a,Out.bind_ok,k1,Out.bind_ok,k2,Out.bind_ok];show Out.ok (D.lst _)=_;rw[e]
theorem Qxu{k:Int}(a:E ς=.ok (.int k)):oSome E ς=.ok (some k):=by unfold oSome;rw[a];rfl
theorem Qzq:QaI [] [] ς=.ok ς:=rfl
theorem Qy3{is:List Nat}{rs:Out SD}(a:ς.set i (some (.k,d))=ς1)(k:QaI is ys ς1=rs):QaI (i::is) (d::ys) ς=rs:=by show QaI is ys (ς.set i (some (.k,d)))=rs;rw[a];exact k
theorem r_unp{is:List Nat}(a:E ς=.ok (.tup ys))(k:QaI is ys ς=.ok ς'):sUnp is E ς=.ok (.nx ς'):=by unfold sUnp;rw[a,Out.bind_ok];show(QaI is ys ς>>=_)=_;rw[k];rfl
theorem Qbu{fr:Bool}(a:T ς=.ok fl)(k:retF fr fl=r):(T ς>>=retF fr)=r:=by rw[a];exact k
theorem r_rt{z:Bool}:retF false (.rt z d)=.ok d:=by unfold retF;simp
theorem r_rtT:retF true (.rt true d)=.ok d:=by unfold retF;simp
theorem r_gN{L:SD->Out Fl}(a:ς.set i (some (.k,d))=ς1)(k:L ς1=rf):(gN i d ς>>=fun ς'=>L ς')=rf:=by unfold gN;rw[a];exact k
theorem r_gT{L:SD->Out Fl}{is:List Nat}(a:QaI is ys ς=.ok ς1)(k:L ς1=rf):(gT is (.tup ys) ς>>=fun ς'=>L ς')=rf:=by unfold gT;show(QaI is ys ς>>=fun ς'=>L ς')=rf;rw[a];exact k
theorem QLv{cl:Str}{fds:List (Str×D)}{mk:Str->List (Str×D)->List D->Out (List (Str×D))}(a:AA ς=.ok xs)(k:mk cl [] xs=.ok fds):eMake cl mk AA ς=.ok (.ins cl fds):=by unfold eMake;rw[a,Out.bind_ok,k];rfl
theorem QM0{cs:List Str}{n cl:Str}{fds fds':List (Str×D)}{mk:Str->List (Str×D)->List D->Out (List (Str×D))}(e:ς[i]?=some (some (.s,.ins cl fds)))(k1:cs.contains cl=true)(k2:fds.lookup n=none)(a:AA ς=.ok xs)(k:mk cl fds xs=.ok fds')(l:ς.set i (some (.s,.ins cl fds'))=ς'):QiX cs n mk i AA ς=.ok (.nx ς'):=by
 unfold QiX;rw[e]
 show(if (cs.contains cl&&(fds.lookup n).isNone)=true then _ else _)=_
 rw[k1,k2]
 show(AA ς>>=_)=_
 rw[a,Out.bind_ok,k,Out.bind_ok,l]
theorem r_itL(a:E ς=.ok (.lst xs)):itL E ς=.ok xs:=by unfold itL;rw[a];rfl
end
theorem QN6{T:SD->Out Fl}{ς τ:SD}{c:Str}{fds:List (Str×D)}(a:T ς=.ok (.nx (some (.s,.ins c fds)::τ))):(T ς>>=Qfo c)=.ok fds:=by
 rw[a];simp[Qfo,Qrx]
theorem c_nil{ς:SD}:captD [] ς=[]:=rfl
theorem Qf6{ς τ:SD}{js:List (Option Nat)}(k:captD js ς=τ):captD (none::js) ς=none::τ:=by rw[← k];rfl
theorem c_k{ς τ:SD}{js:List (Option Nat)}{j:Nat}{d:D}(e:ς[j]?=some (some (.k,d)))(k:captD js ς=τ):captD (some j::js) ς=some (.k,d)::τ:=by
 rw[← k];show captS ς j::_=_;unfold captS;rw[e];rfl
theorem Qao{js:List (Option Nat)}{i:Nat}{e:SD->Out D}{ς τ0 τ:SD}{x d:D}(c:captD js ς=τ0)(a:τ0.set i (some (.k,x))=τ)(k:e τ=.ok d):turnC js (gN i) cTrue e ς x=.ok (some d):=by
 unfold turnC gN cTrue
 rw[c,a,Out.bind_ok,Out.bind_ok,if_pos rfl,k];rfl
theorem QM3{js:List (Option Nat)}{i:Nat}{q:SD->Out Bool}{e:SD->Out D}{ς τ0 τ:SD}{x d:D}{b:Bool}(c:captD js ς=τ0)(a:τ0.set i (some (.k,x))=τ)(h:q τ=.ok b)(k:e τ=.ok d):turnC js (gN i) q e ς x=.ok (if b=true then some d else none):=by
 unfold turnC gN
 rw[c,a,Out.bind_ok,h,Out.bind_ok,k];cases b<;>rfl
theorem Qas{α:Type}{js:List (Option Nat)}{its:SD->Out (List D)}{g:D->SD->Out SD}{e:SD->Out D}{ς:SD}{l:List α}(f:α->D)(h:α->D)(hi:its ς=.ok (l.map f))(ht:∀ x∈l,turnC js g cTrue e ς (f x)=.ok (some (h x)))(hl:l.length<=1000):
 eComp js its g cTrue e ς=.ok (.lst (l.map h)):=by
 have go:∀ l:List α,(∀ x∈l,turnC js g cTrue e ς (f x)=.ok (some (h x)))->compM (turnC js g cTrue e ς) (l.map f)=.ok (l.map h):=by
  intro l
  induction l with
  | nil=>intro _;rfl
  | cons x xs ih=>
   intro H
   have h1:=H x (List.mem_cons_self ..)
   have h2:=ih fun y hy=>H y (List.mem_cons_of_mem _ hy)
   show compM (turnC js g cTrue e ς) (f x::xs.map f)=_
   unfold compM
   rw[h1,Out.bind_ok,h2];rfl
 unfold eComp
 rw[hi,Out.bind_ok,go l ht,Out.bind_ok,if_pos (QgO (by rw[List.length_map];exact hl))]
theorem QkT{js:List (Option Nat)}{its:SD->Out (List D)}{g:D->SD->Out SD}{e:SD->Out D}{ς:SD}{n:Nat}(h:Nat->D)(hi:its ς=.ok (Qb1 0 n))(ht:∀ k:Nat,k<n->turnC js g cTrue e ς (.int (k:Int))=.ok (some (h k)))(hl:n<=1000):
 eComp js its g cTrue e ς=.ok (.lst ((List.range n).map h)):=by
 refine Qas (fun i:Nat=>D.int (0+(i:Int))) h hi (fun k hk=>?_) (by rw[List.length_range];exact hl)
 show turnC js g cTrue e ς (.int (0+(k:Int)))=_
 rw[Int.zero_add]
 exact ht k (List.mem_range.mp hk)
theorem r_get{ς:SD}{i:Nat}{m:SM}{d:D}(h:ς[i]?=some (some (m,d))):ς[i]?=some (some (m,d)):=h
theorem r_len{n:Nat}(h:n<=1000):n<=1000:=h
theorem QOo{i:Int}{n:Nat}(h:bitsI i<=n):bitsI i<=n:=h
theorem r_dec{m n:Nat}(h:decide (m<=n)=true):decide (m<=n)=true:=h
theorem r_id{α:Type}{a b:α}(h:a=b):a=b:=h
theorem QM1{n:Str}:List.lookup n ([]:List (Str×D))=none:=rfl
theorem QOn{α:Type}{x:α}{xs:List α}:(x::xs)[0]?=some x:=rfl
theorem QO8{α:Type}{x:α}{xs:List α}{n:Nat}{r:Option α}(h:xs[n]?=r):(x::xs)[n+1]?=r:=by rw[List.getElem?_cons_succ];exact h
theorem QLj{α:Type}{x y:α}{xs:List α}:(x::xs).set 0 y=y::xs:=rfl
theorem QJV{α:Type}{x y:α}{xs ys:List α}{n:Nat}(h:xs.set n y=ys):(x::xs).set (n+1) y=x::ys:=by rw[List.set_cons_succ,h]
theorem QOu{α:Type}{ys:List α}:[]++ys=ys:=rfl
theorem QOj{α:Type}{x:α}{xs ys zs:List α}(h:xs++ys=zs):x::xs++ys=x::zs:=by rw[List.cons_append,h]
theorem QD9{i:Int}(h:decide (i.natAbs<2 ^ 300)=true):bitsI i<=300:=QkL (of_decide_eq_true h)
theorem QOM{i j:Int}{m n:Nat}(a:bitsI i<=m)(b:bitsI j<=n):bitsI (i+j)<=m+n+1:=by
 have a:=QoM a
 have b:=QoM b
 refine QkL ?_
 have c1:2 ^ m<=2 ^ (m+n):=Nat.pow_le_pow_right (by decide) (by omega)
 have c2:2 ^ n<=2 ^ (m+n):=Nat.pow_le_pow_right (by decide) (by omega)
 rw[Nat.pow_succ]
 omega
theorem QO3{i j:Int}{m n:Nat}(a:bitsI i<=m)(b:bitsI j<=n):bitsI (i * j)<=m+n:=by
 have a:=QoM a
 have b:=QoM b
 refine QkL ?_
 rw[Int.natAbs_mul,Nat.pow_add]
 exact Nat.mul_lt_mul'' a b
theorem QOm{i j:Int}{n:Nat}(h:0<j)(b:bitsI j<=n):bitsI (i % j)<=n:=by
 have b:=QoM b
 have h1:=Int.emod_nonneg i (show j≠0 by omega)
 have h2:=Int.emod_lt_of_pos i h
 exact QkL (by omega)
theorem QOb{n m:Nat}(h:n<2 ^ m):bitsI (n:Int)<=m:=QkL (by simpa using h)
theorem bd_in{i:Int}{n:Nat}(h0:0<=i)(h:i<2 ^ n):bitsI i<=n:=QkL (by
 have:((2 ^ n:Nat):Int)=2 ^ n:=by simp
 omega)
theorem r_mul{i j:Int}{m n:Nat}(hi:bitsI i<=m)(hj:bitsI j<=n)(h:decide (m+n<=134217728)=true):dMul (.int i) (.int j)=.ok (.int (i * j)):=QNn hi hj (of_decide_eq_true h)
end DL
set_option maxHeartbeats 4000000
namespace My
open PySem PySem.Spec L2 DL
def top(i:Nat):Stmt:=PySem.Challenge.pw_dockethall_k32_one_handling.main.body.getD i (.Pass ⟨0,0,0,0⟩)
def Ql:List Str:=["Deal","Bundle","Copy","Rows","Office"]
def Qe:List Str:=["Deal","Bundle","Copy","Rows"]
def Qw:List Str:=["Office"]
abbrev Qb9:Stmt:=top 49
theorem QFu:Qq ["_law_script","_law_k"] ["_law_script","_law_k"] (Qa Qb9):=⟨rfl,rfl,rfl,dk,rfl,dk,dk⟩
noncomputable section
abbrev Lo(s:Stmt)(n:String):Prop:=(Qa s).names.lookup (n:Str)=some NameKind.local
abbrev Gl(s:Stmt)(n:String):Prop:=(Qa s).names.lookup (n:Str)=some NameKind.globalImplicit
variable{P:Program}{w:World}{K:PySem.W.Frag}{mg:Str->Option Value}{base:Heap}{CT:CTab}{f:Addr}{fd:FuncData}{dV:Value}
theorem Qj8:Lo Qb9 "_law_k":=dk
theorem Qgb:Lo Qb9 "_law_script":=dk
theorem Qyq:Gl Qb9 "len":=dk
def Qhz:SD->Out Fl:=(sSeq (sIf (tVal (e2 dLt (eVar 1) (eA fLen (aCons (eVar 0) aNil)))) (sRet (e2 dIx (eVar 0) (eVar 1))) sNil) (sRet (eC (.int 0))))
def QM:List D->Out D:=bodyF false 2 2 Qhz
theorem QvZ(d0 d1:D):QM [d0,d1]=(Qhz [some (.k,d0),some (.k,d1)]>>=retF false):=rfl
theorem QJu(F:FunV K "_law_cell" "_law_cell" Qb9 f fd dV)(z_len:mg "len"=none):FnOk P w K mg base CX0 1 f fd ["_law_script","_law_k"] (SpD K CT false QM):=
 @fnV P w K mg base CT false "_law_cell" "_law_cell" Qb9 f fd dV ["_law_script","_law_k"] ["_law_script","_law_k"] 0 Qhz F QFu fun cdv A outer s H E G hr=>
  (Qg (ds_if (dt_lt (DE.db (Qb 1 rfl (oi Qj8))) (DE.db (Qaw Qyq z_len (QB (DE.db (Qb 0 rfl (oi Qgb))) QF)))) (Qh (QD (de_ix (Qb 0 rfl (oi Qgb)) (DE.db (Qb 1 rfl (oi Qj8)))))) QP) (Qh (QD Qd)))
abbrev QbH:Stmt:=top 51
theorem QhD:Qq ["_law_cell_here","_law_k","_law_number"] ["_law_cell_here","_law_k"] (Qa QbH):=⟨rfl,rfl,rfl,dk,rfl,dk,dk⟩
theorem Qjr:Lo QbH "_law_cell_here":=dk
theorem Qbx:Lo QbH "_law_k":=dk
theorem Q6:Lo QbH "_law_number":=dk
def QiC:SD->Out Fl:=(sSeq (sSet 2 (e2 dAdd (e2 dAdd (e2 dMul (e2 dAdd (e2 dMod (eVar 0) (eC (.int 1000000007))) (eC (.int 1))) (eC (.int 6364136223846793005))) (e2 dMul (e2 dMul (eC (.int 7919)) (eVar 1)) (eVar 1))) (e2 dMul (eC (.int 31)) (eVar 1)))) (sSeq (sSet 2 (e2 dMod (eVar 2) (eC (.int 2305843009213693951)))) (sSeq (sSet 2 (e2 dMod (e2 dAdd (e2 dAdd (e2 dMul (eVar 2) (eVar 2)) (e2 dMul (e2 dMul (eC (.int 69621)) (eVar 1)) (eVar 1))) (eVar 1)) (eC (.int 2305843009213693951)))) (sRet (e2 dMod (e2 dMul (eVar 2) (eVar 2)) (eC (.int 2305843009213693951)))))))
def QaZ:List D->Out D:=bodyF false 2 3 QiC
theorem QFs(d0 d1:D):QaZ [d0,d1]=(QiC [some (.k,d0),some (.k,d1),none]>>=retF false):=rfl
theorem QFY(F:FunV K "_law_mixed" "_law_mixed" QbH f fd dV)  : FnOk P w K mg base CX0 1 f fd ["_law_cell_here","_law_k"] (SpD K CT false QaZ):=
 @fnV P w K mg base CT false "_law_mixed" "_law_mixed" QbH f fd dV ["_law_cell_here","_law_k","_law_number"] ["_law_cell_here","_law_k"] 0 QiC F QhD fun cdv A outer s H E G hr=>
  (Qg (QW (i:=2) QhD.nd rfl (oi Q6) (QaQ (DE.db (QaQ (DE.db (QiU (DE.db (QaQ (DE.db (Q0 (DE.db (Qb 0 rfl (oi Qjr))) (DE.db Qd))) (DE.db Qd))) (DE.db Qd))) (DE.db (QiU (DE.db (QiU (DE.db Qd) (DE.db (Qb 1 rfl (oi Qbx))))) (DE.db (Qb 1 rfl (oi Qbx))))))) (DE.db (QiU (DE.db Qd) (DE.db (Qb 1 rfl (oi Qbx))))))) (Qg (QW (i:=2) QhD.nd rfl (oi Q6) (Q0 (DE.db (Qb 2 rfl (oi Q6))) (DE.db Qd))) (Qg (QW (i:=2) QhD.nd rfl (oi Q6) (Q0 (DE.db (QaQ (DE.db (QaQ (DE.db (QiU (DE.db (Qb 2 rfl (oi Q6))) (DE.db (Qb 2 rfl (oi Q6))))) (DE.db (QiU (DE.db (QiU (DE.db Qd) (DE.db (Qb 1 rfl (oi Qbx))))) (DE.db (Qb 1 rfl (oi Qbx))))))) (DE.db (Qb 1 rfl (oi Qbx))))) (DE.db Qd))) (Qh (QD (Q0 (DE.db (QiU (DE.db (Qb 2 rfl (oi Q6))) (DE.db (Qb 2 rfl (oi Q6))))) (DE.db Qd)))))))
abbrev Qan:Stmt:=top 52
theorem QeF:Qq ["_law_cell_here","_law_many","_law_found","_law_number","_law_k"] ["_law_cell_here","_law_many"] (Qa Qan):=⟨rfl,rfl,rfl,dk,rfl,dk,dk⟩
theorem QbY:Lo Qan "_law_found":=dk
theorem Qcg:Lo Qan "_law_cell_here":=dk
theorem QbK:Lo Qan "_law_number":=dk
theorem Qol:Lo Qan "_law_many":=dk
theorem Qr8:Gl Qan "range":=dk
theorem QhL:Lo Qan "_law_k":=dk
theorem Ql6:Gl Qan "_law_mixed":=dk
def QdO:SD->Out Fl:=(sIf (tVal (e2 dEq (e2 dMod (eVar 0) (eC (.int 2))) (eC (.int 0)))) (sSeq (QcF 2 (e2 dMod (eVar 3) (e2 dPow (eC (.int 10)) (eC (.int 6))))) (sSet 3 (e2 dFdiv (eVar 3) (e2 dPow (eC (.int 10)) (eC (.int 6)))))) (QcF 2 (e2 dMod (eA (fun xs=>QaZ (xs++[])) (aCons (eVar 0) (aCons (eVar 4) aNil))) (e2 dPow (eC (.int 10)) (eC (.int 6))))))
def QhA:SD->Out Fl:=(sSeq (sSetO 2 (eLst aNil)) (sSeq (sSet 3 (e2 dFdiv (eVar 0) (eC (.int 2)))) (sSeq (sFor (gN 4) (itR1 (eVar 1)) QdO) (sRetO 2))))
def Q8:List D->Out D:=bodyF true 2 5 QhA
theorem QCC(d0 d1:D):Q8 [d0,d1]=(QhA [some (.k,d0),some (.k,d1),none,none,none]>>=retF true):=rfl
theorem QCc(F:FunV K "_law_digits" "_law_digits" Qan f fd dV)(QiI:DefOk P w K mg base CT "_law_mixed" 1 false [] QaZ)(z_range:mg "range"=none):FnOk P w K mg base CX0 2 f fd ["_law_cell_here","_law_many"] (SpD K CT true Q8):=
 @fnV P w K mg base CT true "_law_digits" "_law_digits" Qan f fd dV ["_law_cell_here","_law_many","_law_found","_law_number","_law_k"] ["_law_cell_here","_law_many"] 1 QhA F QeF fun cdv A outer s H E G hr=>
  (Qg (Qb5 (i:=2) QeF.nd rfl (oi QbY) (QaV Qj)) (Qg (QW (i:=3) QeF.nd rfl (oi QbK) (Qth (DE.db (Qb 0 rfl (oi Qcg))) (DE.db Qd))) (Qg (Qcn PassesOwn.never rfl (QaF Qr8 z_range (DE.db (Qb 1 rfl (oi Qol)))) (QC (i:=4) QeF.nd rfl (oi QhL)) (Qx _) (Qh (ds_if (dt_eq hr.units (DE.db (Q0 (DE.db (Qb 0 rfl (oi Qcg))) (DE.db Qd))) (DE.db Qd)) (Qg (QdZ 2 (Q0 (DE.db (Qb 3 rfl (oi QbK))) (DE.db (QvF (DE.db Qd) (DE.db Qd)))) rfl (oi QbY)) (Qh (QW (i:=3) QeF.nd rfl (oi QbK) (Qth (DE.db (Qb 3 rfl (oi QbK))) (DE.db (QvF (DE.db Qd) (DE.db Qd))))))) (Qh (QdZ 2 (Q0 (DE.db (de_f QiI (hr.mono (by decide)) (Qc (Qb 0 rfl (oi Qcg)) (Qc (Qb 4 rfl (oi QhL)) Qj)) Ql6)) (DE.db (QvF (DE.db Qd) (DE.db Qd)))) rfl (oi QbY)))))) (Qh (Qow 2 rfl (oi QbY))))))
abbrev QaD:Stmt:=top 53
theorem Qgj:Qq ["_law_digit","_law_many","_law_tame","_law_found","_law_k"] ["_law_digit","_law_many","_law_tame"] (Qa QaD):=⟨rfl,rfl,rfl,dk,rfl,dk,dk⟩
theorem Qc2:Lo QaD "_law_found":=dk
theorem QnT:Lo QaD "_law_many":=dk
theorem QrC:Gl QaD "range":=dk
theorem Qq2:Lo QaD "_law_k":=dk
theorem Qb0:Lo QaD "_law_digit":=dk
theorem Qns:Lo QaD "_law_tame":=dk
def QdG:SD->Out Fl:=(sSeq (QcF 3 (e2 dIx (eLst (aCons (e2 dMod (eVar 0) (eC (.int 10))) (aCons (e2 dIx (eLst (aCons (eC (.int 0)) (aCons (eC (.int 1)) (aCons (eC (.int 0)) (aCons (eC (.int 2)) (aCons (eC (.int 1)) (aCons (eC (.int 0)) (aCons (eC (.int 1)) (aCons (eC (.int 0)) (aCons (eC (.int 0)) (aCons (eC (.int 1)) aNil))))))))))) (e2 dMod (eVar 0) (eC (.int 10)))) aNil))) (eVar 2))) (sSet 0 (e2 dFdiv (eVar 0) (eC (.int 10)))))
def Qg8:SD->Out Fl:=(sSeq (sSetO 3 (eLst aNil)) (sSeq (sFor (gN 4) (itR1 (eVar 1)) QdG) (sRetO 3)))
def Qcf:List D->Out D:=bodyF true 3 5 Qg8
theorem QEb(d0 d1 d2:D):Qcf [d0,d1,d2]=(Qg8 [some (.k,d0),some (.k,d1),some (.k,d2),none,none]>>=retF true):=rfl
theorem QCR(F:FunV K "_law_counts" "_law_counts" QaD f fd dV)(z_range:mg "range"=none):FnOk P w K mg base CX0 1 f fd ["_law_digit","_law_many","_law_tame"] (SpD K CT true Qcf):=
 @fnV P w K mg base CT true "_law_counts" "_law_counts" QaD f fd dV ["_law_digit","_law_many","_law_tame","_law_found","_law_k"] ["_law_digit","_law_many","_law_tame"] 0 Qg8 F Qgj fun cdv A outer s H E G hr=>
  (Qg (Qb5 (i:=3) Qgj.nd rfl (oi Qc2) (QaV Qj)) (Qg (Qcn PassesOwn.never rfl (QaF QrC z_range (DE.db (Qb 1 rfl (oi QnT)))) (QC (i:=4) Qgj.nd rfl (oi Qq2)) (Qx _) (Qg (QdZ 3 (de_ix (DF.de (QaV (Qc (Q0 (DE.db (Qb 0 rfl (oi Qb0))) (DE.db Qd)) (Qc (de_ix (DF.de (QaV (Qc Qd (Qc Qd (Qc Qd (Qc Qd (Qc Qd (Qc Qd (Qc Qd (Qc Qd (Qc Qd (Qc Qd Qj)))))))))))) (DE.db (Q0 (DE.db (Qb 0 rfl (oi Qb0))) (DE.db Qd)))) Qj)))) (DE.db (Qb 2 rfl (oi Qns)))) rfl (oi Qc2)) (Qh (QW (i:=0) Qgj.nd rfl (oi Qb0) (Qth (DE.db (Qb 0 rfl (oi Qb0))) (DE.db Qd)))))) (Qh (Qow 3 rfl (oi Qc2)))))
abbrev QA:Stmt:=top 54
theorem QeM:Qq ["_law_digits_here","_law_tame","_law_kind","_law_size","_law_outs"] ["_law_digits_here","_law_tame"] (Qa QA):=⟨rfl,rfl,rfl,dk,rfl,dk,dk⟩
theorem Qbf:(Qa QA).names.lookup ("_law_digits_here":Str)=some NameKind.cell:=dk
theorem QaH:Lo QA "_law_kind":=dk
theorem Qen:(Qa QA).names.lookup ("_law_tame":Str)=some NameKind.cell:=dk
theorem Qa1:(Qa QA).names.lookup ("_law_size":Str)=some NameKind.cell:=dk
theorem QgJ:Gl QA "range":=dk
abbrev QbW:PySem.Scope:={ kind:=PySem.ScopeKind.function,names:=[ (PySem.Str.ofString ".0",PySem.NameKind.local),(PySem.Str.ofString "_law_s",PySem.NameKind.cell),(PySem.Str.ofString "range",PySem.NameKind.globalImplicit),(PySem.Str.ofString "_law_size",PySem.NameKind.free)],isGenerator:=false,isCoroutine:=false,more:=[]:PySem.Scope }
theorem QsX:QK ["_law_s","_law_size"] [none,some 3] QbW (Qa QA) ["_law_digits_here","_law_tame","_law_kind","_law_size","_law_outs"]:=⟨rfl,dk,dk,rfl,dk,dk⟩
theorem QpK:(Qi QbW (Qa QA)).names.lookup ("_law_s":Str)=some NameKind.cell:=dk
theorem Qmc:(Qi QbW (Qa QA)).names.lookup ("_law_size":Str)=some NameKind.cell:=dk
theorem Qrg:(Qi QbW (Qa QA)).names.lookup ("range":Str)=some NameKind.globalImplicit:=dk
abbrev Qgy:PySem.Scope:={ kind:=PySem.ScopeKind.function,names:=[ (PySem.Str.ofString ".0",PySem.NameKind.local),(PySem.Str.ofString "_law_o",PySem.NameKind.local),(PySem.Str.ofString "int",PySem.NameKind.globalImplicit),(PySem.Str.ofString "_law_s",PySem.NameKind.free)],isGenerator:=false,isCoroutine:=false,more:=[]:PySem.Scope }
theorem Qr0:QK ["_law_o","_law_s"] [none,some 0] Qgy (Qi QbW (Qa QA)) ["_law_s","_law_size"]:=⟨rfl,dk,dk,rfl,dk,dk⟩
theorem Qem:(Qi Qgy (Qi QbW (Qa QA))).names.lookup ("_law_o":Str)=some NameKind.local:=dk
theorem Qqp:(Qi Qgy (Qi QbW (Qa QA))).names.lookup ("_law_s":Str)=some NameKind.cell:=dk
theorem QtH:(Qi Qgy (Qi QbW (Qa QA))).names.lookup ("int":Str)=some NameKind.globalImplicit:=dk
def Qta:SD->Out D:=(eA (f1 dInt) (aCons (e2 dEq (eVar 0) (eVar 1)) aNil))
def Qlm:SD->Out D:=(eComp [none,some 0] (itR1 (eVar 1)) (gN 0) cTrue Qta)
abbrev Qgn:PySem.Scope:={ kind:=PySem.ScopeKind.function,names:=[ (PySem.Str.ofString ".0",PySem.NameKind.local),(PySem.Str.ofString "_law_s",PySem.NameKind.local),(PySem.Str.ofString "int",PySem.NameKind.globalImplicit),(PySem.Str.ofString "_law_size",PySem.NameKind.free)],isGenerator:=false,isCoroutine:=false,more:=[]:PySem.Scope }
theorem QsU:QK ["_law_s","_law_size"] [none,some 3] Qgn (Qa QA) ["_law_digits_here","_law_tame","_law_kind","_law_size","_law_outs"]:=⟨rfl,dk,dk,rfl,dk,dk⟩
theorem Qes:(Qi Qgn (Qa QA)).names.lookup ("_law_s":Str)=some NameKind.local:=dk
theorem Ql8:(Qi Qgn (Qa QA)).names.lookup ("_law_size":Str)=some NameKind.cell:=dk
theorem QtA:(Qi Qgn (Qa QA)).names.lookup ("int":Str)=some NameKind.globalImplicit:=dk
def QkO:SD->Out D:=(eLst (aCons (eA (f1 dInt) (aCons (e2 dEq (eVar 0) (e2 dSub (eVar 1) (eC (.int 1)))) aNil)) aNil))
theorem Qqt:(Qa QA).names.lookup ("_law_outs":Str)=some NameKind.cell:=dk
abbrev Qc5:PySem.Scope:={ kind:=PySem.ScopeKind.function,names:=[ (PySem.Str.ofString ".0",PySem.NameKind.local),(PySem.Str.ofString "_law_s",PySem.NameKind.local),(PySem.Str.ofString "_law_counts",PySem.NameKind.globalImplicit),(PySem.Str.ofString "_law_digits_here",PySem.NameKind.free),(PySem.Str.ofString "_law_outs",PySem.NameKind.free),(PySem.Str.ofString "_law_tame",PySem.NameKind.free)],isGenerator:=false,isCoroutine:=false,more:=[]:PySem.Scope }
theorem QrF:QK ["_law_s","_law_digits_here","_law_outs","_law_tame"] [none,some 0,some 4,some 1] Qc5 (Qa QA) ["_law_digits_here","_law_tame","_law_kind","_law_size","_law_outs"]:=⟨rfl,dk,dk,rfl,dk,dk⟩
theorem Qez:(Qi Qc5 (Qa QA)).names.lookup ("_law_s":Str)=some NameKind.local:=dk
theorem Qha:(Qi Qc5 (Qa QA)).names.lookup ("_law_digits_here":Str)=some NameKind.cell:=dk
theorem Ql4:(Qi Qc5 (Qa QA)).names.lookup ("_law_outs":Str)=some NameKind.cell:=dk
theorem Ql0:(Qi Qc5 (Qa QA)).names.lookup ("_law_tame":Str)=some NameKind.cell:=dk
theorem Qku:(Qi Qc5 (Qa QA)).names.lookup ("_law_counts":Str)=some NameKind.globalImplicit:=dk
def Qhf:SD->Out D:=(eA (fun xs=>Qcf (xs++[])) (aCons (e2 dIx (eVar 1) (e2 dAdd (eC (.int 10)) (eVar 0))) (aCons (eVar 2) (aCons (eVar 3) aNil))))
def Qeq:SD->Out Fl:=(sSeq (sSet 2 (e2 dMod (e2 dIx (eVar 0) (eC (.int 0))) (eC (.int 4)))) (sSeq (sSet 3 (e2 dAdd (eC (.int 1)) (e2 dMod (e2 dIx (eVar 0) (eC (.int 1))) (e2 dIx (eLst (aCons (eC (.int 12)) (aCons (eC (.int 4)) aNil))) (eVar 1))))) (sSeq (sIf (tVal (e2 dEq (eVar 2) (eC (.int 0)))) (sSeq (sSet 3 (e2 dAdd (eC (.int 1)) (e2 dMod (e2 dIx (eVar 0) (eC (.int 1))) (e2 dIx (eLst (aCons (eC (.int 6)) (aCons (eC (.int 4)) aNil))) (eVar 1))))) (sRet (eTup (aCons (eVar 2) (aCons (eComp [none,some 3] (itR1 (eVar 3)) (gN 0) cTrue Qlm) aNil))))) sNil) (sSeq (sIf (tVal (e2 dEq (eVar 2) (eC (.int 1)))) (sRet (eTup (aCons (eVar 2) (aCons (eComp [none,some 3] (itR1 (eVar 3)) (gN 0) cTrue QkO) aNil)))) sNil) (sSeq (sIf (tVal (e2 dEq (eVar 2) (eC (.int 2)))) (sSet 3 (eC (.int 1))) sNil) (sSeq (sSet 4 (e2 dMod (e2 dIx (eVar 0) (eC (.int 2))) (e2 dIx (eLst (aCons (eC (.int 7)) (aCons (eC (.int 4)) aNil))) (eVar 1)))) (sRet (eTup (aCons (eVar 2) (aCons (eComp [none,some 0,some 4,some 1] (itR1 (eVar 3)) (gN 0) cTrue Qhf) aNil))))))))))
def Qd8:List D->Out D:=bodyF false 2 5 Qeq
theorem Qkz(d0 d1:D):Qd8 [d0,d1]=(Qeq [some (.k,d0),some (.k,d1),none,none,none]>>=retF false):=rfl
theorem QI4(F:FunV K "_law_rows" "_law_rows" QA f fd dV)(QCS:DefOk P w K mg base CT "_law_counts" 1 true [] Qcf)(z_range:mg "range"=none)(z_int:mg "int"=none):FnOk P w K mg base CX0 2 f fd ["_law_digits_here","_law_tame"] (SpD K CT false Qd8):=
 @fnV P w K mg base CT false "_law_rows" "_law_rows" QA f fd dV ["_law_digits_here","_law_tame","_law_kind","_law_size","_law_outs"] ["_law_digits_here","_law_tame"] 1 Qeq F QeM fun cdv A outer s H E G hr=>
  (Qg (QW (i:=2) QeM.nd rfl (oi QaH) (Q0 (DE.db (de_ix (Qb 0 rfl (Or.inr (oi Qbf))) (DE.db Qd))) (DE.db Qd))) (Qg (QW (i:=3) QeM.nd rfl (Or.inr Qa1) (QaQ (DE.db Qd) (DE.db (Q0 (DE.db (de_ix (Qb 0 rfl (Or.inr (oi Qbf))) (DE.db Qd))) (DE.db (de_ix (DF.de (QaV (Qc Qd (Qc Qd Qj)))) (DE.db (Qb 1 rfl (Or.inr (oi Qen)))))))))) (Qg (ds_if (dt_eq hr.units (DE.db (Qb 2 rfl (oi QaH))) (DE.db Qd)) (Qg (QW (i:=3) QeM.nd rfl (Or.inr Qa1) (QaQ (DE.db Qd) (DE.db (Q0 (DE.db (de_ix (Qb 0 rfl (Or.inr (oi Qbf))) (DE.db Qd))) (DE.db (de_ix (DF.de (QaV (Qc Qd (Qc Qd Qj)))) (DE.db (Qb 1 rfl (Or.inr (oi Qen)))))))))) (Qh (QD (Qfg (Qc (Qb 2 rfl (oi QaH)) (Qc (DF.de (Qaa rfl QsX (DI.b (QaF QgJ z_range (DE.db (Qb 3 rfl (Or.inr (oi Qa1)))))) (fun ς=>QL (Qz rfl ς)) (Qx _) (fun fp s H G p=>⟨(QC (i:=0) QsX.nd rfl (Or.inr QpK) (hf:=Or.inl rfl)),QT,(DF.de (Qaa rfl Qr0 (DI.b (QaF Qrg z_range (DE.db (Qb 1 rfl (Or.inr (oi Qmc)))))) (fun ς=>QL (Qz rfl ς)) (Qx _) (fun fp s H G p=>⟨(QC (i:=0) Qr0.nd rfl (oi Qem) (hf:=Or.inr Qem)),QT,(QHE QtH z_int (QB (DE.db (de_eq hr.units (DE.db (Qb 0 rfl (oi Qem))) (DE.db (Qb 1 rfl (Or.inr (oi Qqp)))))) QF))⟩)))⟩))) Qj)))))) QP) (Qg (ds_if (dt_eq hr.units (DE.db (Qb 2 rfl (oi QaH))) (DE.db Qd)) (Qh (QD (Qfg (Qc (Qb 2 rfl (oi QaH)) (Qc (DF.de (Qaa rfl QsU (DI.b (QaF QgJ z_range (DE.db (Qb 3 rfl (Or.inr (oi Qa1)))))) (fun ς=>QL (Qz rfl ς)) (Qx _) (fun fp s H G p=>⟨(QC (i:=0) QsU.nd rfl (oi Qes) (hf:=Or.inr Qes)),QT,(DF.de (QaV (Qc (QHE QtA z_int (QB (DE.db (de_eq hr.units (DE.db (Qb 0 rfl (oi Qes))) (DE.db (Qc8 (DE.db (Qb 1 rfl (Or.inr (oi Ql8)))) (DE.db Qd))))) QF)) Qj)))⟩))) Qj))))) QP) (Qg (ds_if (dt_eq hr.units (DE.db (Qb 2 rfl (oi QaH))) (DE.db Qd)) (Qh (QW (i:=3) QeM.nd rfl (Or.inr Qa1) Qd)) QP) (Qg (QW (i:=4) QeM.nd rfl (Or.inr Qqt) (Q0 (DE.db (de_ix (Qb 0 rfl (Or.inr (oi Qbf))) (DE.db Qd))) (DE.db (de_ix (DF.de (QaV (Qc Qd (Qc Qd Qj)))) (DE.db (Qb 1 rfl (Or.inr (oi Qen)))))))) (Qh (QD (Qfg (Qc (Qb 2 rfl (oi QaH)) (Qc (DF.de (Qaa rfl QrF (DI.b (QaF QgJ z_range (DE.db (Qb 3 rfl (Or.inr (oi Qa1)))))) (fun ς=>QL (Qz rfl ς)) (Qx _) (fun fp s H G p=>⟨(QC (i:=0) QrF.nd rfl (oi Qez) (hf:=Or.inr Qez)),QT,(de_f QCS (hr.mono (by decide)) (Qc (de_ix (Qb 1 rfl (Or.inr (oi Qha))) (DE.db (QaQ (DE.db Qd) (DE.db (Qb 0 rfl (oi Qez)))))) (Qc (Qb 2 rfl (Or.inr (oi Ql4))) (Qc (Qb 3 rfl (Or.inr (oi Ql0))) Qj))) Qku)⟩))) Qj)))))))))))
abbrev QaE:Stmt:=top 55
theorem Qfm:Qq ["_law_first","_law_digit","_law_longer","_law_letters","_law_name","_law_j"] ["_law_first","_law_digit","_law_longer"] (Qa QaE):=⟨rfl,rfl,rfl,dk,rfl,dk,dk⟩
theorem QcR:Lo QaE "_law_letters":=dk
theorem Qof:Lo QaE "_law_first":=dk
theorem Qco:Lo QaE "_law_name":=dk
theorem Qm0:Lo QaE "_law_digit":=dk
theorem QtF:Gl QaE "range":=dk
theorem QiZ:Lo QaE "_law_j":=dk
theorem Ql3:Lo QaE "_law_longer":=dk
def Qgu:SD->Out Fl:=(sSet 4 (e2 dAdd (eVar 4) (e2 dIx (eVar 3) (e2 dMod (e2 dFdiv (eVar 2) (e2 dIx (eLst (aCons (eC (.int 1)) (aCons (eC (.int 26)) (aCons (eC (.int 676)) (aCons (eC (.int 17576)) (aCons (eC (.int 7)) aNil)))))) (eVar 5))) (eC (.int 26))))))
def QiK:SD->Out Fl:=(sSeq (sSet 3 (eC (.str "abcdefghijklmnopqrstuvwxyz"))) (sSeq (sSet 4 (e2 dIx (eVar 3) (eVar 0))) (sSeq (sFor (gN 5) (itR1 (e2 dMod (eVar 1) (eC (.int 6)))) Qgu) (sRet (eVar 4)))))
def QaM:List D->Out D:=bodyF false 3 6 QiK
theorem QEK(d0 d1 d2:D):QaM [d0,d1,d2]=(QiK [some (.k,d0),some (.k,d1),some (.k,d2),none,none,none]>>=retF false):=rfl
theorem QFy(F:FunV K "_law_named" "_law_named" QaE f fd dV)(z_range:mg "range"=none):FnOk P w K mg base CX0 1 f fd ["_law_first","_law_digit","_law_longer"] (SpD K CT false QaM):=
 @fnV P w K mg base CT false "_law_named" "_law_named" QaE f fd dV ["_law_first","_law_digit","_law_longer","_law_letters","_law_name","_law_j"] ["_law_first","_law_digit","_law_longer"] 0 QiK F Qfm fun cdv A outer s H E G hr=>
  (Qg (QW (i:=3) Qfm.nd rfl (oi QcR) QKo) (Qg (QW (i:=4) Qfm.nd rfl (oi Qco) (de_ix (Qb 3 rfl (oi QcR)) (DE.db (Qb 0 rfl (oi Qof))))) (Qg (Qcn PassesOwn.never rfl (QaF QtF z_range (DE.db (Q0 (DE.db (Qb 1 rfl (oi Qm0))) (DE.db Qd)))) (QC (i:=5) Qfm.nd rfl (oi QiZ)) (Qx _) (Qh (QW (i:=4) Qfm.nd rfl (oi Qco) (QaQ (DE.db (Qb 4 rfl (oi Qco))) (DE.db (de_ix (Qb 3 rfl (oi QcR)) (DE.db (Q0 (DE.db (Qth (DE.db (Qb 2 rfl (oi Ql3))) (DE.db (de_ix (DF.de (QaV (Qc Qd (Qc Qd (Qc Qd (Qc Qd (Qc Qd Qj))))))) (DE.db (Qb 5 rfl (oi QiZ))))))) (DE.db Qd))))))))) (Qh (QD (Qb 4 rfl (oi Qco)))))))
abbrev QR:Stmt:=top 56
theorem QcB:Qq ["_law_cell_here","_law_k","_law_many","_law_doors","_law_ring","_law_digits_here","_law_kind","_law_rows_here","_law_leads","_law_o","_law_to"] ["_law_cell_here","_law_k","_law_many","_law_doors","_law_ring"] (Qa QR):=⟨rfl,rfl,rfl,dk,rfl,dk,dk⟩
theorem Qe3:Lo QR "_law_cell_here":=dk
theorem Qnf:Gl QR "_law_digits":=dk
theorem Qai:Lo QR "_law_digits_here":=dk
theorem QpO:Gl QR "_law_rows":=dk
theorem QbE:Lo QR "_law_rows_here":=dk
theorem Qhu:Lo QR "_law_kind":=dk
theorem QdV:Lo QR "_law_leads":=dk
theorem Qpa:Gl QR "len":=dk
theorem QuF:Gl QR "range":=dk
theorem Qj5:Lo QR "_law_o":=dk
theorem Qcv:Lo QR "_law_many":=dk
theorem QgQ:Lo QR "_law_doors":=dk
theorem QaS:Lo QR "_law_to":=dk
theorem Qpv:Lo QR "_law_ring":=dk
theorem Qj9:Lo QR "_law_k":=dk
def QgX:SD->Out Fl:=(sSeq (sSet 10 (e2 dMod (e2 dIx (eVar 5) (e2 dAdd (eC (.int 4)) (eVar 9))) (e2 dAdd (eVar 2) (eVar 3)))) (sSeq (sIf (tAnd' (tNot' (tVal (eVar 4))) (tVal (e2 dLe (eVar 10) (eVar 1)))) (sSet 10 (e2 dAdd (eVar 2) (e2 dMod (eVar 10) (eVar 3)))) sNil) (QcF 8 (eIf (tVal (e2 dLt (eVar 10) (eVar 2))) (eVar 10) (e2 dSub (e2 dSub (eVar 2) (eC (.int 1))) (eVar 10))))))
theorem QoX:Gl QR "_law_named":=dk
def Qkj:SD->Out Fl:=(sSeq (sSet 5 (eA (fun xs=>Q8 (xs++[])) (aCons (eVar 0) (aCons (eC (.int 26)) aNil)))) (sSeq (sUnp [6,7] (eA (fun xs=>Qd8 (xs++[])) (aCons (eVar 5) (aCons (e2 dMod (eVar 0) (eC (.int 2))) aNil)))) (sSeq (sSetO 8 (eLst aNil)) (sSeq (sFor (gN 9) (itR1 (eA fLen (aCons (e2 dIx (eVar 7) (eC (.int 0))) aNil))) QgX) (fun ς=>(sRet (eTup (aCons (eVar 6) (aCons (eVar 7) (aCons (eVar 8) (aCons (e2 dMod (e2 dIx (eVar 5) (eC (.int 3))) (eA fLen (aCons (eVar 7) aNil))) (aCons (eA (fun xs=>QaM (xs++[])) (aCons (eVar 1) (aCons (e2 dIx (eVar 5) (eC (.int 22))) (aCons (e2 dIx (eVar 5) (eC (.int 23))) aNil)))) aNil))))))) (frz 8 ς))))))
def Qeb:List D->Out D:=bodyF false 5 11 Qkj
theorem QJG(d0 d1 d2 d3 d4:D):Qeb [d0,d1,d2,d3,d4]=(Qkj [some (.k,d0),some (.k,d1),some (.k,d2),some (.k,d3),some (.k,d4),none,none,none,none,none,none]>>=retF false):=rfl
theorem QH4(F:FunV K "_law_seat" "_law_seat" QR f fd dV)(QcP:DefOk P w K mg base CT "_law_digits" 2 true [] Q8)(QJN:DefOk P w K mg base CT "_law_rows" 2 false [] Qd8)(Qn6:DefOk P w K mg base CT "_law_named" 1 false [] QaM)(z_range:mg "range"=none)(z_len:mg "len"=none):FnOk P w K mg base CX0 3 f fd ["_law_cell_here","_law_k","_law_many","_law_doors","_law_ring"] (SpD K CT false Qeb):=
 @fnV P w K mg base CT false "_law_seat" "_law_seat" QR f fd dV ["_law_cell_here","_law_k","_law_many","_law_doors","_law_ring","_law_digits_here","_law_kind","_law_rows_here","_law_leads","_law_o","_law_to"] ["_law_cell_here","_law_k","_law_many","_law_doors","_law_ring"] 2 Qkj F QcB fun cdv A outer s H E G hr=>
  (Qg (QW (i:=5) QcB.nd rfl (oi Qai) (de_f QcP (hr.mono (by decide)) (Qc (Qb 0 rfl (oi Qe3)) (Qc Qd Qj)) Qnf)) (Qg (QEc rfl (de_f QJN (hr.mono (by decide)) (Qc (Qb 5 rfl (oi Qai)) (Qc (Q0 (DE.db (Qb 0 rfl (oi Qe3))) (DE.db Qd)) Qj)) QpO) (QaA (i:=6) QcB.nd rfl (oi Qhu) (QaA (i:=7) QcB.nd rfl (oi QbE) QgL))) (Qg (Qb5 (i:=8) QcB.nd rfl (oi QdV) (QaV Qj)) (Qg (Qcn PassesOwn.never rfl (QaF QuF z_range (DE.db (Qaw Qpa z_len (QB (DE.db (de_ix (Qb 7 rfl (oi QbE)) (DE.db Qd))) QF)))) (QC (i:=9) QcB.nd rfl (oi Qj5)) (Qx _) (Qg (QW (i:=10) QcB.nd rfl (oi QaS) (Q0 (DE.db (de_ix (Qb 5 rfl (oi Qai)) (DE.db (QaQ (DE.db Qd) (DE.db (Qb 9 rfl (oi Qj5))))))) (DE.db (QaQ (DE.db (Qb 2 rfl (oi Qcv))) (DE.db (Qb 3 rfl (oi QgQ))))))) (Qg (ds_if (DW.dt (QLK (Qat (Qay (Qb 4 rfl (oi Qpv)))) (QHi (dt_le (DE.db (Qb 10 rfl (oi QaS))) (DE.db (Qb 1 rfl (oi Qj9))))))) (Qh (QW (i:=10) QcB.nd rfl (oi QaS) (QaQ (DE.db (Qb 2 rfl (oi Qcv))) (DE.db (Q0 (DE.db (Qb 10 rfl (oi QaS))) (DE.db (Qb 3 rfl (oi QgQ)))))))) QP) (Qh (QdZ 8 (de_if (dt_lt (DE.db (Qb 10 rfl (oi QaS))) (DE.db (Qb 2 rfl (oi Qcv)))) (Qb 10 rfl (oi QaS)) (Qc8 (DE.db (Qc8 (DE.db (Qb 2 rfl (oi Qcv))) (DE.db Qd))) (DE.db (Qb 10 rfl (oi QaS))))) rfl (oi QdV)))))) (Qh (QrB 8 (QD (Qfg (Qc (Qb 6 rfl (oi Qhu)) (Qc (Qb 7 rfl (oi QbE)) (Qc (Qb 8 rfl (oi QdV)) (Qc (Q0 (DE.db (de_ix (Qb 5 rfl (oi Qai)) (DE.db Qd))) (DE.db (Qaw Qpa z_len (QB (DE.db (Qb 7 rfl (oi QbE))) QF)))) (Qc (de_f Qn6 (hr.mono (by decide)) (Qc (Qb 1 rfl (oi Qj9)) (Qc (de_ix (Qb 5 rfl (oi Qai)) (DE.db Qd)) (Qc (de_ix (Qb 5 rfl (oi Qai)) (DE.db Qd)) Qj))) QoX) Qj)))))))))))))
abbrev Q1:Stmt:=top 57
theorem QcC:Qq ["_law_script","_law_most","_law_cell_here","_law_first","_law_many","_law_doors","_law_ring","_law_plan_here","_law_k"] ["_law_script","_law_most"] (Qa Q1):=⟨rfl,rfl,rfl,dk,rfl,dk,dk⟩
theorem Qgd:Lo Q1 "_law_script":=dk
theorem Qhj:Gl Q1 "_law_cell":=dk
theorem QbF:Lo Q1 "_law_cell_here":=dk
theorem Qm9:Gl Q1 "_law_digits":=dk
theorem Qcj:Lo Q1 "_law_first":=dk
theorem Qpo:Lo Q1 "_law_most":=dk
theorem Qd9:Lo Q1 "_law_many":=dk
theorem QdJ:Lo Q1 "_law_doors":=dk
theorem Qhs:Lo Q1 "_law_ring":=dk
theorem Qcy:Lo Q1 "_law_plan_here":=dk
theorem Qva:Gl Q1 "range":=dk
theorem QfW:Lo Q1 "_law_k":=dk
theorem Qqw:Gl Q1 "_law_seat":=dk
def QgW:SD->Out Fl:=(QcF 7 (eA (fun xs=>Qeb (xs++[])) (aCons (eA (fun xs=>QM (xs++[])) (aCons (eVar 0) (aCons (e2 dAdd (eC (.int 1)) (eVar 8)) aNil))) (aCons (eVar 8) (aCons (eVar 4) (aCons (eVar 5) (aCons (eVar 6) aNil)))))))
def Qkl:SD->Out Fl:=(sSeq (sSet 2 (eA (fun xs=>QM (xs++[])) (aCons (eVar 0) (aCons (eC (.int 0)) aNil)))) (sSeq (sSet 3 (eA (fun xs=>Q8 (xs++[])) (aCons (eVar 2) (aCons (eC (.int 6)) aNil)))) (sSeq (sSet 4 (e2 dAdd (eC (.int 1)) (e2 dMod (e2 dIx (eVar 3) (eC (.int 0))) (e2 dIx (eLst (aCons (eVar 1) (aCons (eC (.int 5)) aNil))) (e2 dMod (eVar 2) (eC (.int 2))))))) (sSeq (sSet 5 (e2 dAdd (eC (.int 1)) (e2 dMod (e2 dIx (eVar 3) (eC (.int 1))) (e2 dIx (eLst (aCons (eC (.int 6)) (aCons (eC (.int 3)) aNil))) (e2 dMod (eVar 2) (eC (.int 2))))))) (sSeq (sSet 6 (e2 dEq (e2 dMod (e2 dIx (eVar 3) (eC (.int 2))) (eC (.int 2))) (eC (.int 1)))) (sSeq (sSetO 7 (eLst aNil)) (sSeq (sFor (gN 8) (itR1 (eVar 4)) QgW) (fun ς=>(sRet (eTup (aCons (eVar 7) (aCons (eVar 5) aNil)))) (frz 7 ς)))))))))
def QeD:List D->Out D:=bodyF false 2 9 Qkl
theorem QJd(d0 d1:D):QeD [d0,d1]=(Qkl [some (.k,d0),some (.k,d1),none,none,none,none,none,none,none]>>=retF false):=rfl
theorem QIa(F:FunV K "_law_plan" "_law_plan" Q1 f fd dV)(Qcw:DefOk P w K mg base CT "_law_cell" 1 false [] QM)(QcP:DefOk P w K mg base CT "_law_digits" 2 true [] Q8)(QIO:DefOk P w K mg base CT "_law_seat" 3 false [] Qeb)(z_range:mg "range"=none):FnOk P w K mg base CX0 4 f fd ["_law_script","_law_most"] (SpD K CT false QeD):=
 @fnV P w K mg base CT false "_law_plan" "_law_plan" Q1 f fd dV ["_law_script","_law_most","_law_cell_here","_law_first","_law_many","_law_doors","_law_ring","_law_plan_here","_law_k"] ["_law_script","_law_most"] 3 Qkl F QcC fun cdv A outer s H E G hr=>
  (Qg (QW (i:=2) QcC.nd rfl (oi QbF) (de_f Qcw (hr.mono (by decide)) (Qc (Qb 0 rfl (oi Qgd)) (Qc Qd Qj)) Qhj)) (Qg (QW (i:=3) QcC.nd rfl (oi Qcj) (de_f QcP (hr.mono (by decide)) (Qc (Qb 2 rfl (oi QbF)) (Qc Qd Qj)) Qm9)) (Qg (QW (i:=4) QcC.nd rfl (oi Qd9) (QaQ (DE.db Qd) (DE.db (Q0 (DE.db (de_ix (Qb 3 rfl (oi Qcj)) (DE.db Qd))) (DE.db (de_ix (DF.de (QaV (Qc (Qb 1 rfl (oi Qpo)) (Qc Qd Qj)))) (DE.db (Q0 (DE.db (Qb 2 rfl (oi QbF))) (DE.db Qd))))))))) (Qg (QW (i:=5) QcC.nd rfl (oi QdJ) (QaQ (DE.db Qd) (DE.db (Q0 (DE.db (de_ix (Qb 3 rfl (oi Qcj)) (DE.db Qd))) (DE.db (de_ix (DF.de (QaV (Qc Qd (Qc Qd Qj)))) (DE.db (Q0 (DE.db (Qb 2 rfl (oi QbF))) (DE.db Qd))))))))) (Qg (QW (i:=6) QcC.nd rfl (oi Qhs) (de_eq hr.units (DE.db (Q0 (DE.db (de_ix (Qb 3 rfl (oi Qcj)) (DE.db Qd))) (DE.db Qd))) (DE.db Qd))) (Qg (Qb5 (i:=7) QcC.nd rfl (oi Qcy) (QaV Qj)) (Qg (Qcn PassesOwn.never rfl (QaF Qva z_range (DE.db (Qb 4 rfl (oi Qd9)))) (QC (i:=8) QcC.nd rfl (oi QfW)) (Qx _) (Qh (QdZ 7 (de_f QIO (hr.mono (by decide)) (Qc (de_f Qcw (hr.mono (by decide)) (Qc (Qb 0 rfl (oi Qgd)) (Qc (QaQ (DE.db Qd) (DE.db (Qb 8 rfl (oi QfW)))) Qj)) Qhj) (Qc (Qb 8 rfl (oi QfW)) (Qc (Qb 4 rfl (oi Qd9)) (Qc (Qb 5 rfl (oi QdJ)) (Qc (Qb 6 rfl (oi Qhs)) Qj))))) Qqw) rfl (oi Qcy)))) (Qh (QrB 7 (QD (Qfg (Qc (Qb 7 rfl (oi Qcy)) (Qc (Qb 5 rfl (oi QdJ)) Qj)))))))))))))
abbrev Qaq:Stmt:=top 45
theorem QdK:Qq ["names","doors","places","k","name","d","door"] ["names","doors"] (Qa Qaq):=⟨rfl,rfl,rfl,dk,rfl,dk,dk⟩
theorem Qdb:Lo Qaq "places":=dk
theorem QtN:Lo Qaq "names":=dk
theorem QgN:Gl Qaq "enumerate":=dk
theorem Qla:Lo Qaq "name":=dk
theorem QqV:Lo Qaq "k":=dk
def Qgm:SD->Out Fl:=(sPutD 2 (eVar 4) (eVar 3))
theorem Qtx:Lo Qaq "doors":=dk
theorem Qlj:Lo Qaq "door":=dk
theorem QqG:Lo Qaq "d":=dk
def Qgr:SD->Out Fl:=(sPutD 2 (eVar 6) (e2 dSub (e1 dNeg (eC (.int 1))) (eVar 5)))
def QiH:SD->Out Fl:=(sSeq (sSetO 2 eDic0) (sSeq (sFor (gT [3,4]) (itE (eVar 0)) Qgm) (sSeq (sFor (gT [5,6]) (itE (eVar 1)) Qgr) (sRetO 2))))
def Qdg:List D->Out D:=bodyF true 2 7 QiH
theorem QGM(d0 d1:D):Qdg [d0,d1]=(QiH [some (.k,d0),some (.k,d1),none,none,none,none,none]>>=retF true):=rfl
theorem QG9(F:FunV K "places_of" "places_of" Qaq f fd dV)(z_enumerate:mg "enumerate"=none):FnOk P w K mg base CX0 1 f fd ["names","doors"] (SpD K CT true Qdg):=
 @fnV P w K mg base CT true "places_of" "places_of" Qaq f fd dV ["names","doors","places","k","name","d","door"] ["names","doors"] 0 QiH F QdK fun cdv A outer s H E G hr=>
  (Qg (Qb5 (i:=2) QdK.nd rfl (oi Qdb) QNb) (Qg (Qcn PassesOwn.never rfl (QHK QgN z_enumerate (Qb 0 rfl (oi QtN))) (Qs4 rfl (QaA (i:=3) QdK.nd rfl (oi QqV) (QaA (i:=4) QdK.nd rfl (oi Qla) QgL))) (QkX _) (Qh (QHl hr.units 2 (DE.db (Qb 4 rfl (oi Qla))) (Qb 3 rfl (oi QqV)) rfl (oi Qdb)))) (Qg (Qcn PassesOwn.never rfl (QHK QgN z_enumerate (Qb 1 rfl (oi Qtx))) (Qs4 rfl (QaA (i:=5) QdK.nd rfl (oi QqG) (QaA (i:=6) QdK.nd rfl (oi Qlj) QgL))) (QkX _) (Qh (QHl hr.units 2 (DE.db (Qb 6 rfl (oi Qlj))) (Qc8 (DE.db (Qk6 (DE.db Qd))) (DE.db (Qb 5 rfl (oi QqG)))) rfl (oi Qdb)))) (Qh (Qow 2 rfl (oi Qdb))))))
abbrev QbX:Stmt:=top 37
theorem QIE:Qq ["thing","most"] ["thing","most"] (Qa QbX):=⟨rfl,rfl,rfl,dk,rfl,dk,dk⟩
theorem Qmt:Lo QbX "thing":=dk
theorem QyT:Gl QbX "list":=dk
theorem Qpq:Gl QbX "isinstance":=dk
theorem QzZ:Gl QbX "len":=dk
theorem QyB:Lo QbX "most":=dk
def Qms:SD->Out Fl:=(sRet (eAnd (eIsa (isaT "list") (eVar 0)) (Qc9 dLe dLe (eC (.int 1)) (eA fLen (aCons (eVar 0) aNil)) (eVar 1))))
def QbV:List D->Out D:=bodyF false 2 2 Qms
theorem QKv(d0 d1:D):QbV [d0,d1]=(Qms [some (.k,d0),some (.k,d1)]>>=retF false):=rfl
theorem QLx(F:FunV K "is_list" "is_list" QbX f fd dV)(z_isinstance:mg "isinstance"=none)(z_list:mg "list"=none)(z_len:mg "len"=none):FnOk P w K mg base CX0 1 f fd ["thing","most"] (SpD K CT false QbV):=
 @fnV P w K mg base CT false "is_list" "is_list" QbX f fd dV ["thing","most"] ["thing","most"] 0 Qms F QIE fun cdv A outer s H E G hr=>
  (Qh (QD (QdX (Qcl "list" QlM QyT z_list PyProof.Rows.Boot.«list» Qpq z_isinstance (DE.db (Qb 0 rfl (oi Qmt)))) (Qg9 (QBr op_le QcJ (Qb2 fun _ _=>rfl) op_le QcJ (Qb2 fun _ _=>rfl) (DE.db Qd) (DE.db (Qaw QzZ z_len (QB (DE.db (Qb 0 rfl (oi Qmt))) QF))) (DE.db (Qb 1 rfl (oi QyB))))))))
abbrev Qbk:Stmt:=top 38
theorem QAx:Qq ["names"] ["names"] (Qa Qbk):=⟨rfl,rfl,rfl,dk,rfl,dk,dk⟩
theorem QiW:Lo Qbk "names":=dk
theorem Qlf:Gl Qbk "len":=dk
theorem Qu7:Gl Qbk "set":=dk
def Qg3:SD->Out Fl:=(sRet (e2 dEq (e1 QxZ (eVar 0)) (eA fLen (aCons (eVar 0) aNil))))
def Qag:List D->Out D:=bodyF false 1 1 Qg3
theorem QB5(d0:D):Qag [d0]=(Qg3 [some (.k,d0)]>>=retF false):=rfl
theorem QCU(F:FunV K "all_unlike" "all_unlike" Qbk f fd dV)(z_len:mg "len"=none)(z_set:mg "set"=none):FnOk P w K mg base CX0 1 f fd ["names"] (SpD K CT false Qag):=
 @fnV P w K mg base CT false "all_unlike" "all_unlike" Qbk f fd dV ["names"] ["names"] 0 Qg3 F QAx fun cdv A outer s H E G hr=>
  (Qh (QD (de_eq hr.units (DE.db (QKW hr.hd Qlf z_len Qu7 z_set (DE.db (Qb 0 rfl (oi QiW))))) (DE.db (Qaw Qlf z_len (QB (DE.db (Qb 0 rfl (oi QiW))) QF))))))
abbrev QaP:Stmt:=top 36
theorem QJy:Qq ["thing"] ["thing"] (Qa QaP):=⟨rfl,rfl,rfl,dk,rfl,dk,dk⟩
theorem Qhi:Lo QaP "thing":=dk
theorem QAj:Gl QaP "str":=dk
theorem Qqe:Gl QaP "isinstance":=dk
theorem Qz2:Gl QaP "len":=dk
theorem Qpk:Gl QaP "MOST_SIGNS":=dk
abbrev Qk5:PySem.Scope:={ kind:=PySem.ScopeKind.function,names:=[ (PySem.Str.ofString ".0",PySem.NameKind.local),(PySem.Str.ofString "sign",PySem.NameKind.local),(PySem.Str.ofString "LETTERS",PySem.NameKind.globalImplicit)],isGenerator:=false,isCoroutine:=false,more:=[]:PySem.Scope }
theorem QtP:QK ["sign"] [none] Qk5 (Qa QaP) ["thing"]:=⟨rfl,dk,dk,rfl,dk,dk⟩
theorem QfR:(Qi Qk5 (Qa QaP)).names.lookup ("sign":Str)=some NameKind.local:=dk
theorem QpM:(Qi Qk5 (Qa QaP)).names.lookup ("LETTERS":Str)=some NameKind.globalImplicit:=dk
def QnL:SD->Out D:=(e2 dIn (eVar 0) (eC (.str "abcdefghijklmnopqrstuvwxyz")))
theorem QAC:Gl QaP "all":=dk
def QmB:SD->Out Fl:=(sSeq (sIf (tOr' (tNot' (tVal (eIsa (isaT "str") (eVar 0)))) (tNot' (tVal (Qc9 dLe dLe (eC (.int 1)) (eA fLen (aCons (eVar 0) aNil)) (eC (.int 6)))))) (sRet (eC (.bl false))) sNil) (sRet (eA (f1 fAll) (aCons (eComp [none] (itS (eVar 0)) (gN 0) cTrue QnL) aNil))))
def QaO:List D->Out D:=bodyF false 1 1 QmB
theorem QLb(d0:D):QaO [d0]=(QmB [some (.k,d0)]>>=retF false):=rfl
theorem QKJ{u_MOST_SIGNS:Value}{u_LETTERS:Value}(F:FunV K "is_name" "is_name" QaP f fd dV)(z_isinstance:mg "isinstance"=none)(z_str:mg "str"=none)(z_len:mg "len"=none)(z_all:mg "all"=none)(c_MOST_SIGNS:mg "MOST_SIGNS"=some u_MOST_SIGNS)(r_MOST_SIGNS:RelV (toV (.int 6)) u_MOST_SIGNS)(c_LETTERS:mg "LETTERS"=some u_LETTERS)(r_LETTERS:RelV (toV (.str "abcdefghijklmnopqrstuvwxyz")) u_LETTERS):FnOk P w K mg base CX0 1 f fd ["thing"] (SpD K CT false QaO):=
 @fnV P w K mg base CT false "is_name" "is_name" QaP f fd dV ["thing"] ["thing"] 0 QmB F QJy fun cdv A outer s H E G hr=>
  (Qg (ds_if (DW.dt (dw_or (Qat (Qay (Qcl "str" QHk QAj z_str PyProof.Rows.Boot.«str» Qqe z_isinstance (DE.db (Qb 0 rfl (oi Qhi)))))) (QeJ (Qat (QDj op_le QcJ (Qb2 fun _ _=>rfl) op_le QcJ (Qb2 fun _ _=>rfl) (DE.db Qd) (DE.db (Qaw Qz2 z_len (QB (DE.db (Qb 0 rfl (oi Qhi))) QF))) (DE.db (QeL (d:=(.int 6)) Qpk c_MOST_SIGNS rfl r_MOST_SIGNS))))))) (Qh (QD de_bl)) QP) (Qh (QD (Qi6 rfl QAC z_all (QB (DE.db (DF.de (Qaa rfl QtP (DI.b (QN9 (DE.db (Qb 0 rfl (oi Qhi))))) (fun ς=>QL (Qz rfl ς)) (Qx _) (fun fp s H G p=>⟨(QC (i:=0) QtP.nd rfl (oi QfR) (hf:=Or.inr QfR)),QT,(de_in (DE.db (Qb 0 rfl (oi QfR))) (DE.db (QeL (d:=(.str "abcdefghijklmnopqrstuvwxyz")) QpM c_LETTERS rfl r_LETTERS)))⟩)))) QF)))))
abbrev Qap:Stmt:=top 39
theorem QCj:Qq ["thing","most"] ["thing","most"] (Qa Qap):=⟨rfl,rfl,rfl,dk,rfl,dk,dk⟩
theorem QfT:Lo Qap "thing":=dk
theorem QuK:Lo Qap "most":=dk
theorem Qq5:Gl Qap "is_list":=dk
abbrev QhX:PySem.Scope:={ kind:=PySem.ScopeKind.function,names:=[ (PySem.Str.ofString ".0",PySem.NameKind.local),(PySem.Str.ofString "name",PySem.NameKind.local),(PySem.Str.ofString "is_name",PySem.NameKind.globalImplicit)],isGenerator:=false,isCoroutine:=false,more:=[]:PySem.Scope }
theorem QqL:QK ["name"] [none] QhX (Qa Qap) ["thing","most"]:=⟨rfl,dk,dk,rfl,dk,dk⟩
theorem QeX:(Qi QhX (Qa Qap)).names.lookup ("name":Str)=some NameKind.local:=dk
theorem QnC:(Qi QhX (Qa Qap)).names.lookup ("is_name":Str)=some NameKind.globalImplicit:=dk
def Qjj:SD->Out D:=(eA (fun xs=>QaO (xs++[])) (aCons (eVar 0) aNil))
theorem QvO:Gl Qap "all":=dk
theorem QnN:Gl Qap "all_unlike":=dk
def Qit:SD->Out Fl:=(sRet (eAnd (eA (fun xs=>QbV (xs++[])) (aCons (eVar 0) (aCons (eVar 1) aNil))) (eAnd (eA (f1 fAll) (aCons (eComp [none] (itL (eVar 0)) (gN 0) cTrue Qjj) aNil)) (eA (fun xs=>Qag (xs++[])) (aCons (eVar 0) aNil)))))
def Qdp:List D->Out D:=bodyF false 2 2 Qit
theorem QE4(d0 d1:D):Qdp [d0,d1]=(Qit [some (.k,d0),some (.k,d1)]>>=retF false):=rfl
theorem QGf(F:FunV K "are_names" "are_names" Qap f fd dV)(QiV:DefOk P w K mg base CT "is_list" 1 false [] QbV)(QgR:DefOk P w K mg base CT "is_name" 1 false [] QaO)(Qfi:DefOk P w K mg base CT "all_unlike" 1 false [] Qag)(z_all:mg "all"=none):FnOk P w K mg base CX0 2 f fd ["thing","most"] (SpD K CT false Qdp):=
 @fnV P w K mg base CT false "are_names" "are_names" Qap f fd dV ["thing","most"] ["thing","most"] 1 Qit F QCj fun cdv A outer s H E G hr=>
  (Qh (QD (QdX (de_f QiV (hr.mono (by decide)) (Qc (Qb 0 rfl (oi QfT)) (Qc (Qb 1 rfl (oi QuK)) Qj)) Qq5) (QdX (Qi6 rfl QvO z_all (QB (DE.db (DF.de (Qaa rfl QqL (DI.b (Qal (Qb 0 rfl (oi QfT)))) (fun ς=>QL (Qz rfl ς)) (Qx _) (fun fp s H G p=>⟨(QC (i:=0) QqL.nd rfl (oi QeX) (hf:=Or.inr QeX)),QT,(de_f QgR (hr.mono (by decide)) (Qc (Qb 0 rfl (oi QeX)) Qj) QnC)⟩)))) QF)) (Qg9 (de_f Qfi (hr.mono (by decide)) (Qc (Qb 0 rfl (oi QfT)) Qj) QnN))))))
abbrev Qab:Stmt:=top 40
theorem QCq:Qq ["thing","many"] ["thing","many"] (Qa Qab):=⟨rfl,rfl,rfl,dk,rfl,dk,dk⟩
theorem QfN:Lo Qab "thing":=dk
theorem Qu5:Gl Qab "list":=dk
theorem QnY:Gl Qab "isinstance":=dk
theorem Qwi:Gl Qab "len":=dk
theorem Qut:Lo Qab "many":=dk
abbrev Qfu:PySem.Scope:={ kind:=PySem.ScopeKind.function,names:=[ (PySem.Str.ofString ".0",PySem.NameKind.local),(PySem.Str.ofString "text",PySem.NameKind.local),(PySem.Str.ofString "isinstance",PySem.NameKind.globalImplicit),(PySem.Str.ofString "str",PySem.NameKind.globalImplicit)],isGenerator:=false,isCoroutine:=false,more:=[]:PySem.Scope }
theorem QqW:QK ["text"] [none] Qfu (Qa Qab) ["thing","many"]:=⟨rfl,dk,dk,rfl,dk,dk⟩
theorem QeS:(Qi Qfu (Qa Qab)).names.lookup ("text":Str)=some NameKind.local:=dk
theorem Qsd:(Qi Qfu (Qa Qab)).names.lookup ("str":Str)=some NameKind.globalImplicit:=dk
theorem Qkm:(Qi Qfu (Qa Qab)).names.lookup ("isinstance":Str)=some NameKind.globalImplicit:=dk
def QjP:SD->Out D:=(eIsa (isaT "str") (eVar 0))
theorem Qv0:Gl Qab "all":=dk
def QiM:SD->Out Fl:=(sRet (eAnd (eIsa (isaT "list") (eVar 0)) (eAnd (e2 dEq (eA fLen (aCons (eVar 0) aNil)) (eVar 1)) (eA (f1 fAll) (aCons (eComp [none] (itL (eVar 0)) (gN 0) cTrue QjP) aNil)))))
def Qdj:List D->Out D:=bodyF false 2 2 QiM
theorem QGX(d0 d1:D):Qdj [d0,d1]=(QiM [some (.k,d0),some (.k,d1)]>>=retF false):=rfl
theorem QGa(F:FunV K "are_texts" "are_texts" Qab f fd dV)(z_isinstance:mg "isinstance"=none)(z_list:mg "list"=none)(z_len:mg "len"=none)(z_all:mg "all"=none)(z_str:mg "str"=none):FnOk P w K mg base CX0 1 f fd ["thing","many"] (SpD K CT false Qdj):=
 @fnV P w K mg base CT false "are_texts" "are_texts" Qab f fd dV ["thing","many"] ["thing","many"] 0 QiM F QCq fun cdv A outer s H E G hr=>
  (Qh (QD (QdX (Qcl "list" QlM Qu5 z_list PyProof.Rows.Boot.«list» QnY z_isinstance (DE.db (Qb 0 rfl (oi QfN)))) (QdX (de_eq hr.units (DE.db (Qaw Qwi z_len (QB (DE.db (Qb 0 rfl (oi QfN))) QF))) (DE.db (Qb 1 rfl (oi Qut)))) (Qg9 (Qi6 rfl Qv0 z_all (QB (DE.db (DF.de (Qaa rfl QqW (DI.b (Qal (Qb 0 rfl (oi QfN)))) (fun ς=>QL (Qz rfl ς)) (Qx _) (fun fp s H G p=>⟨(QC (i:=0) QqW.nd rfl (oi QeS) (hf:=Or.inr QeS)),QT,(Qcl "str" QHk Qsd z_str PyProof.Rows.Boot.«str» Qkm z_isinstance (DE.db (Qb 0 rfl (oi QeS))))⟩)))) QF)))))))
abbrev QbP:Stmt:=top 7
theorem QE8:Qq ["thing"] ["thing"] (Qa QbP):=⟨rfl,rfl,rfl,dk,rfl,dk,dk⟩
theorem Qk9:Lo QbP "thing":=dk
theorem Qy0:Gl QbP "int":=dk
theorem QgM:Gl QbP "isinstance":=dk
theorem QvP:Gl QbP "bool":=dk
def Qkn:SD->Out Fl:=(sRet (eAnd (eIsa (isaT "int") (eVar 0)) (eNot (eIsa (isaT "bool") (eVar 0)))))
def Qeu:List D->Out D:=bodyF false 1 1 Qkn
theorem QId(d0:D):Qeu [d0]=(Qkn [some (.k,d0)]>>=retF false):=rfl
theorem QIT(F:FunV K "is_whole" "is_whole" QbP f fd dV)(z_isinstance:mg "isinstance"=none)(z_int:mg "int"=none)(z_bool:mg "bool"=none):FnOk P w K mg base CX0 1 f fd ["thing"] (SpD K CT false Qeu):=
 @fnV P w K mg base CT false "is_whole" "is_whole" QbP f fd dV ["thing"] ["thing"] 0 Qkn F QE8 fun cdv A outer s H E G hr=>
  (Qh (QD (QdX (Qcl "int" QHw Qy0 z_int PyProof.Rows.Boot.«int» QgM z_isinstance (DE.db (Qb 0 rfl (oi Qk9)))) (Qg9 (QKj (Qcl "bool" QC8 QvP z_bool PyProof.Rows.Boot.«bool» QgM z_isinstance (DE.db (Qb 0 rfl (oi Qk9)))))))))
abbrev Qbm:Stmt:=top 8
theorem QBw:Qq ["thing","least","most"] ["thing","least","most"] (Qa Qbm):=⟨rfl,rfl,rfl,dk,rfl,dk,dk⟩
theorem Qka:Lo Qbm "thing":=dk
theorem Qqm:Gl Qbm "is_whole":=dk
theorem QtE:Lo Qbm "least":=dk
theorem Quw:Lo Qbm "most":=dk
def Qf1:SD->Out Fl:=(sRet (eAnd (eA (fun xs=>Qeu (xs++[])) (aCons (eVar 0) aNil)) (Qc9 dLe dLe (eVar 1) (eVar 0) (eVar 2))))
def Qac:List D->Out D:=bodyF false 3 3 Qf1
theorem Qt2(d0 d1 d2:D):Qac [d0,d1,d2]=(Qf1 [some (.k,d0),some (.k,d1),some (.k,d2)]>>=retF false):=rfl
theorem QFg(F:FunV K "is_within" "is_within" Qbm f fd dV)(QIm:DefOk P w K mg base CT "is_whole" 1 false [] Qeu):FnOk P w K mg base CX0 2 f fd ["thing","least","most"] (SpD K CT false Qac):=
 @fnV P w K mg base CT false "is_within" "is_within" Qbm f fd dV ["thing","least","most"] ["thing","least","most"] 1 Qf1 F QBw fun cdv A outer s H E G hr=>
  (Qh (QD (QdX (de_f QIm (hr.mono (by decide)) (Qc (Qb 0 rfl (oi Qka)) Qj) Qqm) (Qg9 (QBr op_le QcJ (Qb2 fun _ _=>rfl) op_le QcJ (Qb2 fun _ _=>rfl) (DE.db (Qb 1 rfl (oi QtE))) (DE.db (Qb 0 rfl (oi Qka))) (DE.db (Qb 2 rfl (oi Quw))))))))
abbrev Qa7:Stmt:=top 28
theorem QGU:Qq ["thing"] ["thing"] (Qa Qa7):=⟨rfl,rfl,rfl,dk,rfl,dk,dk⟩
theorem QuL:Lo Qa7 "thing":=dk
theorem Qwp:Gl Qa7 "Rows":=dk
theorem Qv8:Gl Qa7 "Copy":=dk
theorem QtM:Gl Qa7 "Bundle":=dk
theorem QvY:Gl Qa7 "Deal":=dk
theorem QoG:Gl Qa7 "isinstance":=dk
def QkI:SD->Out Fl:=(sRet (eIsa (isaTs [[("Deal",true),("Bundle",false),("Copy",false),("Rows",false),("Office",false)],[("Deal",false),("Bundle",true),("Copy",false),("Rows",false),("Office",false)],[("Deal",false),("Bundle",false),("Copy",true),("Rows",false),("Office",false)],[("Deal",false),("Bundle",false),("Copy",false),("Rows",true),("Office",false)]]) (eVar 0)))
def Qex:List D->Out D:=bodyF false 1 1 QkI
theorem QHL(d0:D):Qex [d0]=(QkI [some (.k,d0)]>>=retF false):=rfl
theorem QIk{QJ:Addr}{Qv:Addr}{QI:Addr}{QH:Addr}(F:FunV K "is_clerk" "is_clerk" Qa7 f fd dV)(z_isinstance:mg "isinstance"=none)(QOA:mg "Deal"=some (.ref QJ))(QME:mg "Bundle"=some (.ref Qv))(QOe:mg "Copy"=some (.ref QI))(QN2:mg "Rows"=some (.ref QH))(Qxe:KitI K CT (.ref QJ) [("Deal",true),("Bundle",false),("Copy",false),("Rows",false),("Office",false)])(QsK:KitI K CT (.ref Qv) [("Deal",false),("Bundle",true),("Copy",false),("Rows",false),("Office",false)])(QxX:KitI K CT (.ref QI) [("Deal",false),("Bundle",false),("Copy",true),("Rows",false),("Office",false)])(Qxo:KitI K CT (.ref QH) [("Deal",false),("Bundle",false),("Copy",false),("Rows",true),("Office",false)]):FnOk P w K mg base CX0 1 f fd ["thing"] (SpD K CT false Qex):=
 @fnV P w K mg base CT false "is_clerk" "is_clerk" Qa7 f fd dV ["thing"] ["thing"] 0 QkI F QGU fun cdv A outer s H E G hr=>
  (Qh (QD (QNT (a:=QJ) (as:=[Qv,QI,QH]) (QpT (Qox (v:=.ref QJ) QvY QOA rfl) (QpT (Qox (v:=.ref Qv) QtM QME rfl) (QpT (Qox (v:=.ref QI) Qv8 QOe rfl) (QpT (Qox (v:=.ref QH) Qwp QN2 rfl) QNx)))) ⟨Qxe,QsK,QxX,Qxo,True.intro⟩ (by simp) QoG z_isinstance (DE.db (Qb 0 rfl (oi QuL))))))
abbrev QbQ:Stmt:=inCls (top 20) 3
theorem QA1:Qq ["self"] ["self"] (Qa QbQ):=⟨rfl,rfl,rfl,dk,rfl,dk,dk⟩
theorem Qty:Lo QbQ "self":=dk
theorem Qus:Gl QbQ "len":=dk
def Qhr:SD->Out Fl:=(sRet (eA fLen (aCons (e2 dIx (e1 (dFld Ql "table") (eVar 0)) (eC (.int 0))) aNil)))
def Qcd:List D->Out D:=bodyF false 1 1 Qhr
theorem QCK(d0:D):Qcd [d0]=(Qhr [some (.k,d0)]>>=retF false):=rfl
theorem QDG(F:FunV K "outs" "Clerk.outs" QbQ f fd dV)(z_len:mg "len"=none)(fo_table:FldOk K CT Ql "table"):FnOk P w K mg base CX0 1 f fd ["self"] (SpD K CT false Qcd):=
 @fnV P w K mg base CT false "outs" "Clerk.outs" QbQ f fd dV ["self"] ["self"] 0 Qhr F QA1 fun cdv A outer s H E G hr=>
  (Qh (QD (Qaw Qus z_len (QB (DE.db (de_ix (QiY fo_table (Qb 0 rfl (oi Qty))) (DE.db Qd))) QF))))
abbrev Qa9:Stmt:=inCls (top 20) 2
theorem QvL:Qq ["self"] ["self"] (Qa Qa9):=⟨rfl,rfl,rfl,dk,rfl,dk,dk⟩
theorem Qra:Lo Qa9 "self":=dk
theorem Qrp:Gl Qa9 "len":=dk
def QfE:SD->Out Fl:=(sRet (eA fLen (aCons (e1 (dFld Ql "table") (eVar 0)) aNil)))
def QaB:List D->Out D:=bodyF false 1 1 QfE
theorem Qx8(d0:D):QaB [d0]=(QfE [some (.k,d0)]>>=retF false):=rfl
theorem QyR(F:FunV K "period" "Clerk.period" Qa9 f fd dV)(z_len:mg "len"=none)(fo_table:FldOk K CT Ql "table"):FnOk P w K mg base CX0 1 f fd ["self"] (SpD K CT false QaB):=
 @fnV P w K mg base CT false "period" "Clerk.period" Qa9 f fd dV ["self"] ["self"] 0 QfE F QvL fun cdv A outer s H E G hr=>
  (Qh (QD (Qaw Qrp z_len (QB (DE.db (QiY fo_table (Qb 0 rfl (oi Qra)))) QF))))
abbrev QaU:Stmt:=top 41
theorem QH7:Qq ["thing"] ["thing"] (Qa QaU):=⟨rfl,rfl,rfl,dk,rfl,dk,dk⟩
theorem Qbe:Lo QaU "thing":=dk
theorem Qvw:Gl QaU "tuple":=dk
theorem Qqd:Gl QaU "isinstance":=dk
theorem QzU:Gl QaU "len":=dk
theorem Qtt:Gl QaU "is_name":=dk
theorem QsP:Gl QaU "is_clerk":=dk
theorem Qq0:Gl QaU "are_texts":=dk
theorem Qq8:Gl QaU "is_within":=dk
def QmJ:SD->Out Fl:=(sSeq (sIf (tOr' (tNot' (tVal (eIsa (isaT "tuple") (eVar 0)))) (tVal (e2 dNe (eA fLen (aCons (eVar 0) aNil)) (eC (.int 4))))) (sRet (eC (.bl false))) sNil) (sSeq (sIf (tOr' (tNot' (tVal (eA (fun xs=>QaO (xs++[])) (aCons (e2 dIx (eVar 0) (eC (.int 0))) aNil)))) (tNot' (tVal (eA (fun xs=>Qex (xs++[])) (aCons (e2 dIx (eVar 0) (eC (.int 1))) aNil))))) (sRet (eC (.bl false))) sNil) (sRet (eAnd (eA (fun xs=>Qdj (xs++[])) (aCons (e2 dIx (eVar 0) (eC (.int 2))) (aCons (eMeth Qe "outs" (fun _=>Qcd) (e2 dIx (eVar 0) (eC (.int 1))) aNil) aNil))) (eA (fun xs=>Qac (xs++[])) (aCons (e2 dIx (eVar 0) (eC (.int 3))) (aCons (eC (.int 0)) (aCons (e2 dSub (eMeth Qe "period" (fun _=>QaB) (e2 dIx (eVar 0) (eC (.int 1))) aNil) (eC (.int 1))) aNil))))))))
def Qfc:List D->Out D:=bodyF false 1 1 QmJ
theorem QJP(d0:D):Qfc [d0]=(QmJ [some (.k,d0)]>>=retF false):=rfl
theorem QLw(F:FunV K "is_seat" "is_seat" QaU f fd dV)(QgR:DefOk P w K mg base CT "is_name" 1 false [] QaO)(QIC:DefOk P w K mg base CT "is_clerk" 1 false [] Qex)(QGZ:DefOk P w K mg base CT "are_texts" 1 false [] Qdj)(Qcc:DefOk P w K mg base CT "is_within" 2 false [] Qac)(z_isinstance:mg "isinstance"=none)(z_tuple:mg "tuple"=none)(z_len:mg "len"=none)(mt_outs:MtOk P w K mg base CT CX0 "outs" 1 Qe (fun c=>SpD K CT false ((fun _=>Qcd) c)))(mt_period:MtOk P w K mg base CT CX0 "period" 1 Qe (fun c=>SpD K CT false ((fun _=>QaB) c))):FnOk P w K mg base CX0 3 f fd ["thing"] (SpD K CT false Qfc):=
 @fnV P w K mg base CT false "is_seat" "is_seat" QaU f fd dV ["thing"] ["thing"] 2 QmJ F QH7 fun cdv A outer s H E G hr=>
  (Qg (ds_if (DW.dt (dw_or (Qat (Qay (Qcl "tuple" Qr7 Qvw z_tuple PyProof.Rows.Boot.«tuple» Qqd z_isinstance (DE.db (Qb 0 rfl (oi Qbe)))))) (QeJ (dt_ne hr.units (DE.db (Qaw QzU z_len (QB (DE.db (Qb 0 rfl (oi Qbe))) QF))) (DE.db Qd))))) (Qh (QD de_bl)) QP) (Qg (ds_if (DW.dt (dw_or (Qat (Qay (de_f QgR (hr.mono (by decide)) (Qc (de_ix (Qb 0 rfl (oi Qbe)) (DE.db Qd)) Qj) Qtt))) (QeJ (Qat (Qay (de_f QIC (hr.mono (by decide)) (Qc (de_ix (Qb 0 rfl (oi Qbe)) (DE.db Qd)) Qj) QsP)))))) (Qh (QD de_bl)) QP) (Qh (QD (QdX (de_f QGZ (hr.mono (by decide)) (Qc (de_ix (Qb 0 rfl (oi Qbe)) (DE.db Qd)) (Qc (Qh0 mt_outs (hr.mono (by decide)) (de_ix (Qb 0 rfl (oi Qbe)) (DE.db Qd))) Qj)) Qq0) (Qg9 (de_f Qcc (hr.mono (by decide)) (Qc (de_ix (Qb 0 rfl (oi Qbe)) (DE.db Qd)) (Qc Qd (Qc (Qc8 (DE.db (Qh0 mt_period (hr.mono (by decide)) (de_ix (Qb 0 rfl (oi Qbe)) (DE.db Qd)))) (DE.db Qd)) Qj))) Qq8)))))))
abbrev Q3:Stmt:=top 42
theorem QD5:Qq ["thing","doors"] ["thing","doors"] (Qa Q3):=⟨rfl,rfl,rfl,dk,rfl,dk,dk⟩
theorem QfZ:Lo Q3 "thing":=dk
theorem Qme:Gl Q3 "MOST_CLERKS":=dk
theorem Qrb:Gl Q3 "is_list":=dk
abbrev Qia:PySem.Scope:={ kind:=PySem.ScopeKind.function,names:=[ (PySem.Str.ofString ".0",PySem.NameKind.local),(PySem.Str.ofString "seat",PySem.NameKind.local),(PySem.Str.ofString "is_seat",PySem.NameKind.globalImplicit)],isGenerator:=false,isCoroutine:=false,more:=[]:PySem.Scope }
theorem QqK:QK ["seat"] [none] Qia (Qa Q3) ["thing","doors"]:=⟨rfl,dk,dk,rfl,dk,dk⟩
theorem QeV:(Qi Qia (Qa Q3)).names.lookup ("seat":Str)=some NameKind.local:=dk
theorem Qnv:(Qi Qia (Qa Q3)).names.lookup ("is_seat":Str)=some NameKind.globalImplicit:=dk
def Qji:SD->Out D:=(eA (fun xs=>Qfc (xs++[])) (aCons (eVar 0) aNil))
theorem QwU:Gl Q3 "all":=dk
abbrev QoT:PySem.Scope:={ kind:=PySem.ScopeKind.function,names:=[(PySem.Str.ofString ".0",PySem.NameKind.local),(PySem.Str.ofString "seat",PySem.NameKind.local)],isGenerator:=false,isCoroutine:=false,more:=[]:PySem.Scope }
theorem QqU:QK ["seat"] [none] QoT (Qa Q3) ["thing","doors"]:=⟨rfl,dk,dk,rfl,dk,dk⟩
theorem QeW:(Qi QoT (Qa Q3)).names.lookup ("seat":Str)=some NameKind.local:=dk
def Qjn:SD->Out D:=(e2 dIx (eVar 0) (eC (.int 0)))
theorem Qtv:Lo Q3 "doors":=dk
theorem QnP:Gl Q3 "all_unlike":=dk
def QiR:SD->Out Fl:=(sSeq (sIf (tOr' (tNot' (tVal (eA (fun xs=>QbV (xs++[])) (aCons (eVar 0) (aCons (eC (.int 60)) aNil))))) (tNot' (tVal (eA (f1 fAll) (aCons (eComp [none] (itL (eVar 0)) (gN 0) cTrue Qji) aNil))))) (sRet (eC (.bl false))) sNil) (sRet (eA (fun xs=>Qag (xs++[])) (aCons (e2 dCat (eComp [none] (itL (eVar 0)) (gN 0) cTrue Qjn) (eVar 1)) aNil))))
def Qdh:List D->Out D:=bodyF false 2 2 QiR
theorem QGE(d0 d1:D):Qdh [d0,d1]=(QiR [some (.k,d0),some (.k,d1)]>>=retF false):=rfl
theorem QFC{u_MOST_CLERKS:Value}(F:FunV K "are_seats" "are_seats" Q3 f fd dV)(QiV:DefOk P w K mg base CT "is_list" 1 false [] QbV)(QLd:DefOk P w K mg base CT "is_seat" 3 false [] Qfc)(Qfi:DefOk P w K mg base CT "all_unlike" 1 false [] Qag)(z_all:mg "all"=none)(c_MOST_CLERKS:mg "MOST_CLERKS"=some u_MOST_CLERKS)(r_MOST_CLERKS:RelV (toV (.int 60)) u_MOST_CLERKS):FnOk P w K mg base CX0 4 f fd ["thing","doors"] (SpD K CT false Qdh):=
 @fnV P w K mg base CT false "are_seats" "are_seats" Q3 f fd dV ["thing","doors"] ["thing","doors"] 3 QiR F QD5 fun cdv A outer s H E G hr=>
  (Qg (ds_if (DW.dt (dw_or (Qat (Qay (de_f QiV (hr.mono (by decide)) (Qc (Qb 0 rfl (oi QfZ)) (Qc (QeL (d:=(.int 60)) Qme c_MOST_CLERKS rfl r_MOST_CLERKS) Qj)) Qrb))) (QeJ (Qat (Qay (Qi6 rfl QwU z_all (QB (DE.db (DF.de (Qaa rfl QqK (DI.b (Qal (Qb 0 rfl (oi QfZ)))) (fun ς=>QL (Qz rfl ς)) (Qx _) (fun fp s H G p=>⟨(QC (i:=0) QqK.nd rfl (oi QeV) (hf:=Or.inr QeV)),QT,(de_f QLd (hr.mono (by decide)) (Qc (Qb 0 rfl (oi QeV)) Qj) Qnv)⟩)))) QF))))))) (Qh (QD de_bl)) QP) (Qh (QD (de_f Qfi (hr.mono (by decide)) (Qc (DF.de (QOC (DF.de (Qaa rfl QqU (DI.b (Qal (Qb 0 rfl (oi QfZ)))) (fun ς=>QL (Qz rfl ς)) (Qx _) (fun fp s H G p=>⟨(QC (i:=0) QqU.nd rfl (oi QeW) (hf:=Or.inr QeW)),QT,(de_ix (Qb 0 rfl (oi QeW)) (DE.db Qd))⟩))) (Qb 1 rfl (oi Qtv)))) Qj) QnP))))
abbrev Qa3:Stmt:=top 43
theorem QGD:Qq ["thing","names"] ["thing","names"] (Qa Qa3):=⟨rfl,rfl,rfl,dk,rfl,dk,dk⟩
theorem QcO:Lo Qa3 "thing":=dk
theorem Quz:Gl Qa3 "tuple":=dk
theorem Qo4:Gl Qa3 "isinstance":=dk
theorem Qy2:Gl Qa3 "len":=dk
theorem Qi7:Gl Qa3 "is_name":=dk
theorem QuT:Lo Qa3 "names":=dk
def Qkq:SD->Out Fl:=(sSeq (sIf (tOr' (tNot' (tVal (eIsa (isaT "tuple") (eVar 0)))) (tVal (e2 dNe (eA fLen (aCons (eVar 0) aNil)) (eC (.int 2))))) (sRet (eC (.bl false))) sNil) (sRet (eAnd (eA (fun xs=>QaO (xs++[])) (aCons (e2 dIx (eVar 0) (eC (.int 0))) aNil)) (eAnd (eA (fun xs=>QaO (xs++[])) (aCons (e2 dIx (eVar 0) (eC (.int 1))) aNil)) (e2 dInL (e2 dIx (eVar 0) (eC (.int 1))) (eVar 1))))))
def Qew:List D->Out D:=bodyF false 2 2 Qkq
theorem QIF(d0 d1:D):Qew [d0,d1]=(Qkq [some (.k,d0),some (.k,d1)]>>=retF false):=rfl
theorem QI9(F:FunV K "is_entry" "is_entry" Qa3 f fd dV)(QgR:DefOk P w K mg base CT "is_name" 1 false [] QaO)(z_isinstance:mg "isinstance"=none)(z_tuple:mg "tuple"=none)(z_len:mg "len"=none):FnOk P w K mg base CX0 2 f fd ["thing","names"] (SpD K CT false Qew):=
 @fnV P w K mg base CT false "is_entry" "is_entry" Qa3 f fd dV ["thing","names"] ["thing","names"] 1 Qkq F QGD fun cdv A outer s H E G hr=>
  (Qg (ds_if (DW.dt (dw_or (Qat (Qay (Qcl "tuple" Qr7 Quz z_tuple PyProof.Rows.Boot.«tuple» Qo4 z_isinstance (DE.db (Qb 0 rfl (oi QcO)))))) (QeJ (dt_ne hr.units (DE.db (Qaw Qy2 z_len (QB (DE.db (Qb 0 rfl (oi QcO))) QF))) (DE.db Qd))))) (Qh (QD de_bl)) QP) (Qh (QD (QdX (de_f QgR (hr.mono (by decide)) (Qc (de_ix (Qb 0 rfl (oi QcO)) (DE.db Qd)) Qj) Qi7) (QdX (de_f QgR (hr.mono (by decide)) (Qc (de_ix (Qb 0 rfl (oi QcO)) (DE.db Qd)) Qj) Qi7) (Qg9 (QKQ (DE.db (de_ix (Qb 0 rfl (oi QcO)) (DE.db Qd))) (DE.db (Qb 1 rfl (oi QuT))))))))))
abbrev QO:Stmt:=top 44
theorem Qyg:Qq ["thing","names"] ["thing","names"] (Qa QO):=⟨rfl,rfl,rfl,dk,rfl,dk,dk⟩
theorem QeR:Lo QO "thing":=dk
theorem QjC:Gl QO "MOST_ENTRIES":=dk
theorem Qph:Gl QO "is_list":=dk
abbrev Qey:PySem.Scope:={ kind:=PySem.ScopeKind.function,names:=[ (PySem.Str.ofString ".0",PySem.NameKind.local),(PySem.Str.ofString "entry",PySem.NameKind.local),(PySem.Str.ofString "is_entry",PySem.NameKind.globalImplicit),(PySem.Str.ofString "names",PySem.NameKind.free)],isGenerator:=false,isCoroutine:=false,more:=[]:PySem.Scope }
theorem Qmu:QK ["entry","names"] [none,some 1] Qey (Qa QO) ["thing","names"]:=⟨rfl,dk,dk,rfl,dk,dk⟩
theorem Qdr:(Qi Qey (Qa QO)).names.lookup ("entry":Str)=some NameKind.local:=dk
theorem Qnx:(Qi Qey (Qa QO)).names.lookup ("names":Str)=some NameKind.cell:=dk
theorem QkB:(Qi Qey (Qa QO)).names.lookup ("is_entry":Str)=some NameKind.globalImplicit:=dk
def Qg0:SD->Out D:=(eA (fun xs=>Qew (xs++[])) (aCons (eVar 0) (aCons (eVar 1) aNil)))
theorem QtB:Gl QO "all":=dk
abbrev QkN:PySem.Scope:={ kind:=PySem.ScopeKind.function,names:=[(PySem.Str.ofString ".0",PySem.NameKind.local),(PySem.Str.ofString "entry",PySem.NameKind.local)],isGenerator:=false,isCoroutine:=false,more:=[]:PySem.Scope }
theorem QmM:QK ["entry"] [none] QkN (Qa QO) ["thing","names"]:=⟨rfl,dk,dk,rfl,dk,dk⟩
theorem Qde:(Qi QkN (Qa QO)).names.lookup ("entry":Str)=some NameKind.local:=dk
def QhJ:SD->Out D:=(e2 dIx (eVar 0) (eC (.int 0)))
theorem QlU:Gl QO "all_unlike":=dk
def Qgo:SD->Out Fl:=(sSeq (sIf (tOr' (tNot' (tVal (eA (fun xs=>QbV (xs++[])) (aCons (eVar 0) (aCons (eC (.int 6)) aNil))))) (tNot' (tVal (eA (f1 fAll) (aCons (eComp [none,some 1] (itL (eVar 0)) (gN 0) cTrue Qg0) aNil))))) (sRet (eC (.bl false))) sNil) (sRet (eA (fun xs=>Qag (xs++[])) (aCons (eComp [none] (itL (eVar 0)) (gN 0) cTrue QhJ) aNil))))
def Qcr:List D->Out D:=bodyF false 2 2 Qgo
theorem Qz3(d0 d1:D):Qcr [d0,d1]=(Qgo [some (.k,d0),some (.k,d1)]>>=retF false):=rfl
theorem QzY{u_MOST_ENTRIES:Value}(F:FunV K "are_entries" "are_entries" QO f fd dV)(QiV:DefOk P w K mg base CT "is_list" 1 false [] QbV)(QH0:DefOk P w K mg base CT "is_entry" 2 false [] Qew)(Qfi:DefOk P w K mg base CT "all_unlike" 1 false [] Qag)(z_all:mg "all"=none)(c_MOST_ENTRIES:mg "MOST_ENTRIES"=some u_MOST_ENTRIES)(r_MOST_ENTRIES:RelV (toV (.int 6)) u_MOST_ENTRIES):FnOk P w K mg base CX0 3 f fd ["thing","names"] (SpD K CT false Qcr):=
 @fnV P w K mg base CT false "are_entries" "are_entries" QO f fd dV ["thing","names"] ["thing","names"] 2 Qgo F Qyg fun cdv A outer s H E G hr=>
  (Qg (ds_if (DW.dt (dw_or (Qat (Qay (de_f QiV (hr.mono (by decide)) (Qc (Qb 0 rfl (oi QeR)) (Qc (QeL (d:=(.int 6)) QjC c_MOST_ENTRIES rfl r_MOST_ENTRIES) Qj)) Qph))) (QeJ (Qat (Qay (Qi6 rfl QtB z_all (QB (DE.db (DF.de (Qaa rfl Qmu (DI.b (Qal (Qb 0 rfl (oi QeR)))) (fun ς=>QL (Qz rfl ς)) (Qx _) (fun fp s H G p=>⟨(QC (i:=0) Qmu.nd rfl (oi Qdr) (hf:=Or.inr Qdr)),QT,(de_f QH0 (hr.mono (by decide)) (Qc (Qb 0 rfl (oi Qdr)) (Qc (Qb 1 rfl (Or.inr (oi Qnx))) Qj)) QkB)⟩)))) QF))))))) (Qh (QD de_bl)) QP) (Qh (QD (de_f Qfi (hr.mono (by decide)) (Qc (DF.de (Qaa rfl QmM (DI.b (Qal (Qb 0 rfl (oi QeR)))) (fun ς=>QL (Qz rfl ς)) (Qx _) (fun fp s H G p=>⟨(QC (i:=0) QmM.nd rfl (oi Qde) (hf:=Or.inr Qde)),QT,(de_ix (Qb 0 rfl (oi Qde)) (DE.db Qd))⟩))) Qj) QlU))))
abbrev QbM:Stmt:=top 46
theorem QHd:Qq ["seat","places"] ["seat","places"] (Qa QbM):=⟨rfl,rfl,rfl,dk,rfl,dk,dk⟩
theorem Qv4:Lo QbM "seat":=dk
abbrev Qjo:PySem.Scope:={ kind:=PySem.ScopeKind.function,names:=[ (PySem.Str.ofString ".0",PySem.NameKind.local),(PySem.Str.ofString "text",PySem.NameKind.local),(PySem.Str.ofString "places",PySem.NameKind.free)],isGenerator:=false,isCoroutine:=false,more:=[]:PySem.Scope }
theorem Qsl:QK ["text","places"] [none,some 1] Qjo (Qa QbM) ["seat","places"]:=⟨rfl,dk,dk,rfl,dk,dk⟩
theorem Qfn:(Qi Qjo (Qa QbM)).names.lookup ("text":Str)=some NameKind.local:=dk
theorem QpV:(Qi Qjo (Qa QbM)).names.lookup ("places":Str)=some NameKind.cell:=dk
def QlH:SD->Out D:=(eDget (eVar 1) (eVar 0))
def Qkg:SD->Out Fl:=(sRetF (eComp [none,some 1] (itL (e2 dIx (eVar 0) (eC (.int 2)))) (gN 0) cTrue QlH))
def Qd5:List D->Out D:=bodyF true 2 2 Qkg
theorem QI3(d0 d1:D):Qd5 [d0,d1]=(Qkg [some (.k,d0),some (.k,d1)]>>=retF true):=rfl
theorem QIV(F:FunV K "leads_to" "leads_to" QbM f fd dV)  : FnOk P w K mg base CX0 1 f fd ["seat","places"] (SpD K CT true Qd5):=
 @fnV P w K mg base CT true "leads_to" "leads_to" QbM f fd dV ["seat","places"] ["seat","places"] 0 Qkg F QHd fun cdv A outer s H E G hr=>
  (Qh (QcK (Qaa rfl Qsl (DI.b (Qal (de_ix (Qb 0 rfl (oi Qv4)) (DE.db Qd)))) (fun ς=>QL (Qz rfl ς)) (Qx _) (fun fp s H G p=>⟨(QC (i:=0) Qsl.nd rfl (oi Qfn) (hf:=Or.inr Qfn)),QT,(QM7 hr.units (Qb 1 rfl (Or.inr (oi QpV))) (DE.db (Qb 0 rfl (oi Qfn))))⟩))))
abbrev Qo:Stmt:=inCls (top 47) 0
theorem QfB:Qq ["self","clerks","entries","doors","names","places","ways"] ["self","clerks","entries","doors"] (Qa Qo):=⟨rfl,rfl,rfl,dk,rfl,dk,dk⟩
theorem Qc1:Lo Qo "doors":=dk
theorem QlT:Gl Qo "MOST_DOORS":=dk
theorem Ql5:Gl Qo "are_names":=dk
theorem QbN:Lo Qo "clerks":=dk
theorem Ql7:Gl Qo "are_seats":=dk
abbrev QkP:PySem.Scope:={ kind:=PySem.ScopeKind.function,names:=[(PySem.Str.ofString ".0",PySem.NameKind.local),(PySem.Str.ofString "seat",PySem.NameKind.local)],isGenerator:=false,isCoroutine:=false,more:=[]:PySem.Scope }
theorem Qmk:QK ["seat"] [none] QkP (Qa Qo) ["self","clerks","entries","doors","names","places","ways"]:=⟨rfl,dk,dk,rfl,dk,dk⟩
theorem QdM:(Qi QkP (Qa Qo)).names.lookup ("seat":Str)=some NameKind.local:=dk
def QhK:SD->Out D:=(e2 dIx (eVar 0) (eC (.int 0)))
theorem Qc0:Lo Qo "names":=dk
theorem QgT:Lo Qo "entries":=dk
theorem Qko:Gl Qo "are_entries":=dk
theorem Qmb:Gl Qo "places_of":=dk
theorem QpZ:(Qa Qo).names.lookup ("places":Str)=some NameKind.cell:=dk
abbrev Qee:PySem.Scope:={ kind:=PySem.ScopeKind.function,names:=[ (PySem.Str.ofString ".0",PySem.NameKind.local),(PySem.Str.ofString "seat",PySem.NameKind.local),(PySem.Str.ofString "leads_to",PySem.NameKind.globalImplicit),(PySem.Str.ofString "places",PySem.NameKind.free)],isGenerator:=false,isCoroutine:=false,more:=[]:PySem.Scope }
theorem QmH:QK ["seat","places"] [none,some 5] Qee (Qa Qo) ["self","clerks","entries","doors","names","places","ways"]:=⟨rfl,dk,dk,rfl,dk,dk⟩
theorem QdW:(Qi Qee (Qa Qo)).names.lookup ("seat":Str)=some NameKind.local:=dk
theorem Ql9:(Qi Qee (Qa Qo)).names.lookup ("places":Str)=some NameKind.cell:=dk
theorem Qky:(Qi Qee (Qa Qo)).names.lookup ("leads_to":Str)=some NameKind.globalImplicit:=dk
def QgY:SD->Out D:=(eA (fun xs=>Qd5 (xs++[])) (aCons (eVar 0) (aCons (eVar 1) aNil)))
theorem Qfk:Lo Qo "ways":=dk
abbrev Qli:PySem.Scope:={ kind:=PySem.ScopeKind.function,names:=[(PySem.Str.ofString ".0",PySem.NameKind.local),(PySem.Str.ofString "way",PySem.NameKind.local)],isGenerator:=false,isCoroutine:=false,more:=[]:PySem.Scope }
theorem Qmp:QK ["way"] [none] Qli (Qa Qo) ["self","clerks","entries","doors","names","places","ways"]:=⟨rfl,dk,dk,rfl,dk,dk⟩
theorem Qef:(Qi Qli (Qa Qo)).names.lookup ("way":Str)=some NameKind.local:=dk
def QhH:SD->Out D:=(e2 dInL (eC .non) (eVar 0))
theorem Qts:Gl Qo "any":=dk
theorem Qbw:Lo Qo "self":=dk
theorem QrW:Gl Qo "list":=dk
abbrev QgG:PySem.Scope:={ kind:=PySem.ScopeKind.function,names:=[ (PySem.Str.ofString ".0",PySem.NameKind.local),(PySem.Str.ofString "entry",PySem.NameKind.local),(PySem.Str.ofString "places",PySem.NameKind.free)],isGenerator:=false,isCoroutine:=false,more:=[]:PySem.Scope }
theorem QmD:QK ["entry","places"] [none,some 5] QgG (Qa Qo) ["self","clerks","entries","doors","names","places","ways"]:=⟨rfl,dk,dk,rfl,dk,dk⟩
theorem Qca:(Qi QgG (Qa Qo)).names.lookup ("entry":Str)=some NameKind.local:=dk
theorem Qmg:(Qi QgG (Qa Qo)).names.lookup ("places":Str)=some NameKind.cell:=dk
def Qe1:SD->Out D:=(eTup (aCons (e2 dIx (eVar 0) (eC (.int 0))) (aCons (eDix (eVar 1) (e2 dIx (eVar 0) (eC (.int 1)))) aNil)))
abbrev Qlk:PySem.Scope:={ kind:=PySem.ScopeKind.function,names:=[(PySem.Str.ofString ".0",PySem.NameKind.local),(PySem.Str.ofString "seat",PySem.NameKind.local)],isGenerator:=false,isCoroutine:=false,more:=[]:PySem.Scope }
theorem Qmx:QK ["seat"] [none] Qlk (Qa Qo) ["self","clerks","entries","doors","names","places","ways"]:=⟨rfl,dk,dk,rfl,dk,dk⟩
theorem QdU:(Qi Qlk (Qa Qo)).names.lookup ("seat":Str)=some NameKind.local:=dk
def Qe6:SD->Out D:=(e2 dIx (eVar 0) (eC (.int 1)))
abbrev Qlt:PySem.Scope:={ kind:=PySem.ScopeKind.function,names:=[(PySem.Str.ofString ".0",PySem.NameKind.local),(PySem.Str.ofString "seat",PySem.NameKind.local)],isGenerator:=false,isCoroutine:=false,more:=[]:PySem.Scope }
theorem QmV:QK ["seat"] [none] Qlt (Qa Qo) ["self","clerks","entries","doors","names","places","ways"]:=⟨rfl,dk,dk,rfl,dk,dk⟩
theorem QdI:(Qi Qlt (Qa Qo)).names.lookup ("seat":Str)=some NameKind.local:=dk
def Qe7:SD->Out D:=(e2 dIx (eVar 0) (eC (.int 3)))
def Qgp:SD->Out Fl:=(sSeq (fun ς=>noX ((sIf (tNot' (tVal (eA (fun xs=>Qdp (xs++[])) (aCons (eVar 3) (aCons (eC (.int 6)) aNil))))) Qf7 sNil) ς)) (sSeq (fun ς=>noX ((sIf (tNot' (tVal (eA (fun xs=>Qdh (xs++[])) (aCons (eVar 1) (aCons (eVar 3) aNil))))) Qf7 sNil) ς)) (sSeq (fun ς=>noX ((sSet 4 (eComp [none] (itL (eVar 1)) (gN 0) cTrue QhK)) ς)) (sSeq (fun ς=>noX ((sIf (tNot' (tVal (eA (fun xs=>Qcr (xs++[])) (aCons (eVar 2) (aCons (eVar 4) aNil))))) Qf7 sNil) ς)) (sSeq (fun ς=>noX ((sSet 5 (eA (fun xs=>Qdg (xs++[])) (aCons (eVar 4) (aCons (eVar 3) aNil)))) ς)) (sSeq (fun ς=>noX ((sSet 6 (eComp [none,some 5] (itL (eVar 1)) (gN 0) cTrue QgY)) ς)) (sSeq (fun ς=>noX ((sIf (tVal (eA (f1 fAny) (aCons (eComp [none] (itL (eVar 6)) (gN 0) cTrue QhH) aNil))) Qf7 sNil) ς)) (sSeq (fun ς=>noX (sFldS Ql "clerk_names" 0 (eVar 4) ς)) (sSeq (fun ς=>noX (sFldS Ql "door_names" 0 (e1 dList (eVar 3)) ς)) (sSeq (fun ς=>noX (sFldS Ql "entry_places" 0 (eComp [none,some 5] (itL (eVar 2)) (gN 0) cTrue Qe1) ς)) (sSeq (fun ς=>noX (sFldS Ql "staff" 0 (eComp [none] (itL (eVar 1)) (gN 0) cTrue Qe6) ς)) (sSeq (fun ς=>noX (sFldS Ql "first_states" 0 (eComp [none] (itL (eVar 1)) (gN 0) cTrue Qe7) ς)) (fun ς=>noX (sFldS Ql "ways" 0 (eVar 6) ς))))))))))))))
def Qbq:Str->List (Str×D)->List D->Out (List (Str×D)):=bodyI 4 7 Qgp
theorem QzW(c:Str)(fds:List (Str×D))(d1 d2 d3:D):Qbq c fds [d1,d2,d3]=(Qgp [some (.s,.ins c fds),some (.k,d1),some (.k,d2),some (.k,d3),none,none,none]>>=Qfo c):=rfl
theorem Qzv{u_MOST_DOORS:Value}(F:FunV K "__init__" "Office.__init__" Qo f fd dV)(QF6:DefOk P w K mg base CT "are_names" 2 false [] Qdp)(QG5:DefOk P w K mg base CT "are_seats" 4 false [] Qdh)(QAg:DefOk P w K mg base CT "are_entries" 3 false [] Qcr)(QGl:DefOk P w K mg base CT "places_of" 1 true [] Qdg)(QIw:DefOk P w K mg base CT "leads_to" 1 true [] Qd5)(z_any:mg "any"=none)(z_list:mg "list"=none)(c_MOST_DOORS:mg "MOST_DOORS"=some u_MOST_DOORS)(r_MOST_DOORS:RelV (toV (.int 6)) u_MOST_DOORS)(fo_clerk_names:FldOk K CT Ql "clerk_names")(fo_door_names:FldOk K CT Ql "door_names")(fo_entry_places:FldOk K CT Ql "entry_places")(fo_staff:FldOk K CT Ql "staff")(fo_first_states:FldOk K CT Ql "first_states")(fo_ways:FldOk K CT Ql "ways"):FnOk P w K mg base (CXR P w) 5 f fd ["self","clerks","entries","doors"] (SpI K CT Qbq):=
 @fnI P w K mg base CT "__init__" "Office.__init__" Qo f fd dV ["self","clerks","entries","doors","names","places","ways"] ["self","clerks","entries","doors"] 4 Qgp F QfB fun cdv A outer s H E G p hr=>
  (Qg (DS.lift (ds_if (Qat (Qay (de_f QF6 (hr.mono (by decide)) (Qc (Qb 3 rfl (oi Qc1)) (Qc (QeL (d:=(.int 6)) QlT c_MOST_DOORS rfl r_MOST_DOORS) Qj)) Ql5))) (Qh Qeh) QP)) (Qg (DS.lift (ds_if (Qat (Qay (de_f QG5 (hr.mono (by decide)) (Qc (Qb 1 rfl (oi QbN)) (Qc (Qb 3 rfl (oi Qc1)) Qj)) Ql7))) (Qh Qeh) QP)) (Qg (DS.lift (QoI (i:=4) rfl Qmk (DI.b (Qal (Qb 1 rfl (oi QbN)))) (fun ς=>QL (Qz rfl ς)) (Qx _) (fun fp s H G p=>⟨(QC (i:=0) Qmk.nd rfl (oi QdM) (hf:=Or.inr QdM)),QT,(de_ix (Qb 0 rfl (oi QdM)) (DE.db Qd))⟩) QfB.nd rfl (oi Qc0))) (Qg (DS.lift (ds_if (Qat (Qay (de_f QAg (hr.mono (by decide)) (Qc (Qb 2 rfl (oi QgT)) (Qc (Qb 4 rfl (oi Qc0)) Qj)) Qko))) (Qh Qeh) QP)) (Qg (DS.lift (QW (i:=5) QfB.nd rfl (Or.inr QpZ) (de_f QGl (hr.mono (by decide)) (Qc (Qb 4 rfl (oi Qc0)) (Qc (Qb 3 rfl (oi Qc1)) Qj)) Qmb))) (Qg (DS.lift (QoI (i:=6) rfl QmH (DI.b (Qal (Qb 1 rfl (oi QbN)))) (fun ς=>QL (Qz rfl ς)) (Qx _) (fun fp s H G p=>⟨(QC (i:=0) QmH.nd rfl (oi QdW) (hf:=Or.inr QdW)),QT,(de_f QIw (hr.mono (by decide)) (Qc (Qb 0 rfl (oi QdW)) (Qc (Qb 1 rfl (Or.inr (oi Ql9))) Qj)) Qky)⟩) QfB.nd rfl (oi Qfk))) (Qg (DS.lift (ds_if (Qay (QPh rfl Qts z_any (QB (DE.db (DF.de (Qaa rfl Qmp (DI.b (Qal (Qb 6 rfl (oi Qfk)))) (fun ς=>QL (Qz rfl ς)) (Qx _) (fun fp s H G p=>⟨(QC (i:=0) Qmp.nd rfl (oi Qef) (hf:=Or.inr Qef)),QT,(QKQ (DE.db QOO) (DE.db (Qb 0 rfl (oi Qef))))⟩)))) QF))) (Qh Qeh) QP)) (Qg (DS.lift (QgP 0 fo_clerk_names (Qb 4 rfl (oi Qc0)) rfl (oi Qbw))) (Qg (DS.lift (QgP 0 fo_door_names (DF.de (Qcm QrW z_list (Qb 3 rfl (oi Qc1)))) rfl (oi Qbw))) (Qg (DS.lift (QgP 0 fo_entry_places (DF.de (Qaa rfl QmD (DI.b (Qal (Qb 2 rfl (oi QgT)))) (fun ς=>QL (Qz rfl ς)) (Qx _) (fun fp s H G p=>⟨(QC (i:=0) QmD.nd rfl (oi Qca) (hf:=Or.inr Qca)),QT,(Qfg (Qc (de_ix (Qb 0 rfl (oi Qca)) (DE.db Qd)) (Qc (QOc hr.units (Qb 1 rfl (Or.inr (oi Qmg))) (DE.db (de_ix (Qb 0 rfl (oi Qca)) (DE.db Qd)))) Qj)))⟩))) rfl (oi Qbw))) (Qg (DS.lift (QgP 0 fo_staff (DF.de (Qaa rfl Qmx (DI.b (Qal (Qb 1 rfl (oi QbN)))) (fun ς=>QL (Qz rfl ς)) (Qx _) (fun fp s H G p=>⟨(QC (i:=0) Qmx.nd rfl (oi QdU) (hf:=Or.inr QdU)),QT,(de_ix (Qb 0 rfl (oi QdU)) (DE.db Qd))⟩))) rfl (oi Qbw))) (Qg (DS.lift (QgP 0 fo_first_states (DF.de (Qaa rfl QmV (DI.b (Qal (Qb 1 rfl (oi QbN)))) (fun ς=>QL (Qz rfl ς)) (Qx _) (fun fp s H G p=>⟨(QC (i:=0) QmV.nd rfl (oi QdI) (hf:=Or.inr QdI)),QT,(de_ix (Qb 0 rfl (oi QdI)) (DE.db Qd))⟩))) rfl (oi Qbw))) (Qh (DS.lift (QgP 0 fo_ways (Qb 6 rfl (oi Qfk)) rfl (oi Qbw))))))))))))))))
abbrev QbB:Stmt:=top 18
theorem QIZ:Qq ["one","other"] ["one","other"] (Qa QbB):=⟨rfl,rfl,rfl,dk,rfl,dk,dk⟩
theorem QAa:Lo QbB "one":=dk
theorem QvH:Lo QbB "other":=dk
theorem QzM:Gl QbB "zip":=dk
abbrev Qlh:PySem.Scope:={ kind:=PySem.ScopeKind.function,names:=[ (PySem.Str.ofString ".0",PySem.NameKind.local),(PySem.Str.ofString "each",PySem.NameKind.local),(PySem.Str.ofString "more",PySem.NameKind.local)],isGenerator:=false,isCoroutine:=false,more:=[]:PySem.Scope }
theorem Qna:QK ["each","more"] [none,none] Qlh (Qa QbB) ["one","other"]:=⟨rfl,dk,dk,rfl,dk,dk⟩
theorem QfX:(Qi Qlh (Qa QbB)).names.lookup ("more":Str)=some NameKind.local:=dk
theorem QfU:(Qi Qlh (Qa QbB)).names.lookup ("each":Str)=some NameKind.local:=dk
def Quf:SD->Out D:=(e2 dAdd (eVar 0) (eVar 1))
def QmA:SD->Out Fl:=(sRetF (eComp [none,none] (itZ (eVar 0) (eVar 1)) (gT [0,1]) cTrue Quf))
def QdY:List D->Out D:=bodyF true 2 2 QmA
theorem QK3(d0 d1:D):QdY [d0,d1]=(QmA [some (.k,d0),some (.k,d1)]>>=retF true):=rfl
theorem QKh(F:FunV K "sums_of" "sums_of" QbB f fd dV)(z_zip:mg "zip"=none):FnOk P w K mg base CX0 1 f fd ["one","other"] (SpD K CT true QdY):=
 @fnV P w K mg base CT true "sums_of" "sums_of" QbB f fd dV ["one","other"] ["one","other"] 0 QmA F QIZ fun cdv A outer s H E G hr=>
  (Qh (QcK (Qaa rfl Qna (DI.b (QKl QzM z_zip (Qb 0 rfl (oi QAa)) (Qb 1 rfl (oi QvH)))) (fun ς=>QMs (fun i hi=>Qz (by revert hi;revert i;decide) ς)) (QkX _) (fun fp s H G p=>⟨(Qs4 rfl (QaA (i:=0) Qna.nd rfl (oi QfU) (QaA (i:=1) Qna.nd rfl (oi QfX) QgL (hf:=Or.inr QfX)) (hf:=Or.inr QfU))),QT,(QaQ (DE.db (Qb 0 rfl (oi QfU))) (DE.db (Qb 1 rfl (oi QfX))))⟩))))
abbrev Qae:Stmt:=top 19
theorem QhF:Qq ["rows","sums","row"] ["rows"] (Qa Qae):=⟨rfl,rfl,rfl,dk,rfl,dk,dk⟩
theorem QhN:Lo Qae "rows":=dk
abbrev Qj7:PySem.Scope:={ kind:=PySem.ScopeKind.function,names:=[(PySem.Str.ofString ".0",PySem.NameKind.local),(PySem.Str.ofString "each",PySem.NameKind.local)],isGenerator:=false,isCoroutine:=false,more:=[]:PySem.Scope }
theorem QkZ:QK ["each"] [none] Qj7 (Qa Qae) ["rows","sums","row"]:=⟨rfl,dk,dk,rfl,dk,dk⟩
theorem Qf4:(Qi Qj7 (Qa Qae)).names.lookup ("each":Str)=some NameKind.local:=dk
def QgB:SD->Out D:=(eC (.int 0))
theorem QcY:Lo Qae "sums":=dk
theorem Qi0:Lo Qae "row":=dk
theorem Qno:Gl Qae "sums_of":=dk
def QcT:SD->Out Fl:=(QcF 1 (eA (fun xs=>QdY (xs++[])) (aCons (eIxO 1 (e1 dNeg (eC (.int 1)))) (aCons (eVar 2) aNil))))
def Qfw:SD->Out Fl:=(sSeq (sSetO 1 (eLst (aCons (eComp [none] (itL (e2 dIx (eVar 0) (eC (.int 0)))) (gN 0) cTrue QgB) aNil))) (sSeq (sFor (gN 2) (itL (eVar 0)) QcT) (sRetO 1)))
def Qa6:List D->Out D:=bodyF true 1 3 Qfw
theorem Qye(d0:D):Qa6 [d0]=(Qfw [some (.k,d0),none,none]>>=retF true):=rfl
theorem QxM(F:FunV K "running_sums" "running_sums" Qae f fd dV)(QKq:DefOk P w K mg base CT "sums_of" 1 true [] QdY):FnOk P w K mg base CX0 2 f fd ["rows"] (SpD K CT true Qa6):=
 @fnV P w K mg base CT true "running_sums" "running_sums" Qae f fd dV ["rows","sums","row"] ["rows"] 1 Qfw F QhF fun cdv A outer s H E G hr=>
  (Qg (Qb5 (i:=1) QhF.nd rfl (oi QcY) (QaV (Qc (DF.de (Qaa rfl QkZ (DI.b (Qal (de_ix (Qb 0 rfl (oi QhN)) (DE.db Qd)))) (fun ς=>QL (Qz rfl ς)) (Qx _) (fun fp s H G p=>⟨(QC (i:=0) QkZ.nd rfl (oi Qf4) (hf:=Or.inr Qf4)),QT,Qd⟩))) Qj))) (Qg (Qcn PassesOwn.never rfl (Qal (Qb 0 rfl (oi QhN))) (QC (i:=2) QhF.nd rfl (oi Qi0)) (Qx _) (Qh (QdZ 1 (de_f QKq (hr.mono (by decide)) (Qc (QOX 1 (DE.db (Qk6 (DE.db Qd))) rfl (oi QcY)) (Qc (Qb 2 rfl (oi Qi0)) Qj)) Qno) rfl (oi QcY)))) (Qh (Qow 1 rfl (oi QcY)))))
abbrev QS:Stmt:=inCls (top 20) 1
theorem Qs5:Qq ["self","rows"] ["self","rows"] (Qa QS):=⟨rfl,rfl,rfl,dk,rfl,dk,dk⟩
theorem Qgh:Lo QS "rows":=dk
abbrev Qej:PySem.Scope:={ kind:=PySem.ScopeKind.function,names:=[ (PySem.Str.ofString ".0",PySem.NameKind.local),(PySem.Str.ofString "row",PySem.NameKind.local),(PySem.Str.ofString "list",PySem.NameKind.globalImplicit)],isGenerator:=false,isCoroutine:=false,more:=[]:PySem.Scope }
theorem QhM:QK ["row"] [none] Qej (Qa QS) ["self","rows"]:=⟨rfl,dk,dk,rfl,dk,dk⟩
theorem QcS:(Qi Qej (Qa QS)).names.lookup ("row":Str)=some NameKind.local:=dk
theorem QkE:(Qi Qej (Qa QS)).names.lookup ("list":Str)=some NameKind.globalImplicit:=dk
def QeU:SD->Out D:=(e1 dList (eVar 0))
theorem Qf3:Lo QS "self":=dk
theorem Qhg:Gl QS "running_sums":=dk
def Qdz:SD->Out Fl:=(sSeq (fun ς=>noX (sFldS Ql "table" 0 (eComp [none] (itL (eVar 1)) (gN 0) cTrue QeU) ς)) (fun ς=>noX (sFldS Ql "heads" 0 (eA (fun xs=>Qa6 (xs++[])) (aCons (eVar 1) aNil)) ς)))
def QN:Str->List (Str×D)->List D->Out (List (Str×D)):=bodyI 2 2 Qdz
theorem Qtr(c:Str)(fds:List (Str×D))(d1:D):QN c fds [d1]=(Qdz [some (.s,.ins c fds),some (.k,d1)]>>=Qfo c):=rfl
theorem Qtz(F:FunV K "keep_rows" "Clerk.keep_rows" QS f fd dV)(Qyk:DefOk P w K mg base CT "running_sums" 2 true [] Qa6)(z_list:mg "list"=none)(fo_table:FldOk K CT Ql "table")(fo_heads:FldOk K CT Ql "heads"):FnOk P w K mg base (CXR P w) 3 f fd ["self","rows"] (SpI K CT QN):=
 @fnI P w K mg base CT "keep_rows" "Clerk.keep_rows" QS f fd dV ["self","rows"] ["self","rows"] 2 Qdz F Qs5 fun cdv A outer s H E G p hr=>
  (Qg (DS.lift (QgP 0 fo_table (DF.de (Qaa rfl QhM (DI.b (Qal (Qb 1 rfl (oi Qgh)))) (fun ς=>QL (Qz rfl ς)) (Qx _) (fun fp s H G p=>⟨(QC (i:=0) QhM.nd rfl (oi QcS) (hf:=Or.inr QcS)),QT,(DF.de (Qcm QkE z_list (Qb 0 rfl (oi QcS))))⟩))) rfl (oi Qf3))) (Qh (DS.lift (QgP 0 fo_heads (de_f Qyk (hr.mono (by decide)) (Qc (Qb 1 rfl (oi Qgh)) Qj) Qhg) rfl (oi Qf3)))))
abbrev QaT:Stmt:=top 26
theorem QKa:Qq ["thing"] ["thing"] (Qa QaT):=⟨rfl,rfl,rfl,dk,rfl,dk,dk⟩
theorem QhO:Lo QaT "thing":=dk
theorem QAS:Gl QaT "list":=dk
theorem Qrj:Gl QaT "isinstance":=dk
theorem QBj:Gl QaT "len":=dk
theorem QsW:Gl QaT "MOST_OUTS":=dk
abbrev QiE:PySem.Scope:={ kind:=PySem.ScopeKind.function,names:=[ (PySem.Str.ofString ".0",PySem.NameKind.local),(PySem.Str.ofString "count",PySem.NameKind.local),(PySem.Str.ofString "is_within",PySem.NameKind.globalImplicit),(PySem.Str.ofString "MOST_SENT",PySem.NameKind.globalImplicit)],isGenerator:=false,isCoroutine:=false,more:=[]:PySem.Scope }
theorem Qw2:QK ["count"] [none] QiE (Qa QaT) ["thing"]:=⟨rfl,dk,dk,rfl,dk,dk⟩
theorem QfO:(Qi QiE (Qa QaT)).names.lookup ("count":Str)=some NameKind.local:=dk
theorem Qou:(Qi QiE (Qa QaT)).names.lookup ("MOST_SENT":Str)=some NameKind.globalImplicit:=dk
theorem Qo5:(Qi QiE (Qa QaT)).names.lookup ("is_within":Str)=some NameKind.globalImplicit:=dk
def QpH:SD->Out D:=(eA (fun xs=>Qac (xs++[])) (aCons (eVar 0) (aCons (eC (.int 0)) (aCons (eC (.int 9)) aNil))))
theorem QC1:Gl QaT "all":=dk
def QqC:SD->Out Fl:=(sSeq (sIf (tOr' (tNot' (tVal (eIsa (isaT "list") (eVar 0)))) (tVal (e2 dGt (eA fLen (aCons (eVar 0) aNil)) (eC (.int 6))))) (sRet (eC (.bl false))) sNil) (sRet (eA (f1 fAll) (aCons (eComp [none] (itL (eVar 0)) (gN 0) cTrue QpH) aNil))))
def QeB:List D->Out D:=bodyF false 1 1 QqC
theorem QMt(d0:D):QeB [d0]=(QqC [some (.k,d0)]>>=retF false):=rfl
theorem QMO{u_MOST_OUTS:Value}{u_MOST_SENT:Value}(F:FunV K "is_row" "is_row" QaT f fd dV)(Qcc:DefOk P w K mg base CT "is_within" 2 false [] Qac)(z_isinstance:mg "isinstance"=none)(z_list:mg "list"=none)(z_len:mg "len"=none)(z_all:mg "all"=none)(c_MOST_OUTS:mg "MOST_OUTS"=some u_MOST_OUTS)(r_MOST_OUTS:RelV (toV (.int 6)) u_MOST_OUTS)(c_MOST_SENT:mg "MOST_SENT"=some u_MOST_SENT)(r_MOST_SENT:RelV (toV (.int 9)) u_MOST_SENT):FnOk P w K mg base CX0 3 f fd ["thing"] (SpD K CT false QeB):=
 @fnV P w K mg base CT false "is_row" "is_row" QaT f fd dV ["thing"] ["thing"] 2 QqC F QKa fun cdv A outer s H E G hr=>
  (Qg (ds_if (DW.dt (dw_or (Qat (Qay (Qcl "list" QlM QAS z_list PyProof.Rows.Boot.«list» Qrj z_isinstance (DE.db (Qb 0 rfl (oi QhO)))))) (QeJ (dt_gt (DE.db (Qaw QBj z_len (QB (DE.db (Qb 0 rfl (oi QhO))) QF))) (DE.db (QeL (d:=(.int 6)) QsW c_MOST_OUTS rfl r_MOST_OUTS)))))) (Qh (QD de_bl)) QP) (Qh (QD (Qi6 rfl QC1 z_all (QB (DE.db (DF.de (Qaa rfl Qw2 (DI.b (Qal (Qb 0 rfl (oi QhO)))) (fun ς=>QL (Qz rfl ς)) (Qx _) (fun fp s H G p=>⟨(QC (i:=0) Qw2.nd rfl (oi QfO) (hf:=Or.inr QfO)),QT,(de_f Qcc (hr.mono (by decide)) (Qc (Qb 0 rfl (oi QfO)) (Qc Qd (Qc (QeL (d:=(.int 9)) Qou c_MOST_SENT rfl r_MOST_SENT) Qj))) Qo5)⟩)))) QF)))))
abbrev QZ:Stmt:=top 27
theorem QG2:Qq ["thing"] ["thing"] (Qa QZ):=⟨rfl,rfl,rfl,dk,rfl,dk,dk⟩
theorem Qeo:(Qa QZ).names.lookup ("thing":Str)=some NameKind.cell:=dk
theorem Qv6:Gl QZ "list":=dk
theorem Qpd:Gl QZ "isinstance":=dk
theorem Qx6:Gl QZ "len":=dk
theorem Qp5:Gl QZ "MOST_ROWS":=dk
abbrev QjI:PySem.Scope:={ kind:=PySem.ScopeKind.function,names:=[ (PySem.Str.ofString ".0",PySem.NameKind.local),(PySem.Str.ofString "row",PySem.NameKind.local),(PySem.Str.ofString "is_row",PySem.NameKind.globalImplicit)],isGenerator:=false,isCoroutine:=false,more:=[]:PySem.Scope }
theorem Qr1:QK ["row"] [none] QjI (Qa QZ) ["thing"]:=⟨rfl,dk,dk,rfl,dk,dk⟩
theorem QfY:(Qi QjI (Qa QZ)).names.lookup ("row":Str)=some NameKind.local:=dk
theorem Qp9:(Qi QjI (Qa QZ)).names.lookup ("is_row":Str)=some NameKind.globalImplicit:=dk
def QlQ:SD->Out D:=(eA (fun xs=>QeB (xs++[])) (aCons (eVar 0) aNil))
theorem QoW:Gl QZ "all":=dk
abbrev Qgk:PySem.Scope:={ kind:=PySem.ScopeKind.function,names:=[ (PySem.Str.ofString ".0",PySem.NameKind.local),(PySem.Str.ofString "row",PySem.NameKind.local),(PySem.Str.ofString "len",PySem.NameKind.globalImplicit),(PySem.Str.ofString "thing",PySem.NameKind.free)],isGenerator:=false,isCoroutine:=false,more:=[]:PySem.Scope }
theorem QsZ:QK ["row","thing"] [none,some 0] Qgk (Qa QZ) ["thing"]:=⟨rfl,dk,dk,rfl,dk,dk⟩
theorem QfV:(Qi Qgk (Qa QZ)).names.lookup ("row":Str)=some NameKind.local:=dk
theorem Qj6:(Qi Qgk (Qa QZ)).names.lookup ("len":Str)=some NameKind.globalImplicit:=dk
theorem Qq1:(Qi Qgk (Qa QZ)).names.lookup ("thing":Str)=some NameKind.cell:=dk
def QlR:SD->Out D:=(e2 dEq (eA fLen (aCons (eVar 0) aNil)) (eA fLen (aCons (e2 dIx (eVar 1) (eC (.int 0))) aNil)))
def Qkx:SD->Out Fl:=(sSeq (sIf (tOr' (tNot' (tVal (eIsa (isaT "list") (eVar 0)))) (tNot' (tVal (Qc9 dLe dLe (eC (.int 1)) (eA fLen (aCons (eVar 0) aNil)) (eC (.int 12)))))) (sRet (eC (.bl false))) sNil) (sSeq (sIf (tNot' (tVal (eA (f1 fAll) (aCons (eComp [none] (itL (eVar 0)) (gN 0) cTrue QlQ) aNil)))) (sRet (eC (.bl false))) sNil) (sRet (eA (f1 fAll) (aCons (eComp [none,some 0] (itL (eVar 0)) (gN 0) cTrue QlR) aNil)))))
def Qea:List D->Out D:=bodyF false 1 1 Qkx
theorem QIc(d0:D):Qea [d0]=(Qkx [some (.k,d0)]>>=retF false):=rfl
theorem QIN{u_MOST_ROWS:Value}(F:FunV K "is_table" "is_table" QZ f fd dV)(Quo:DefOk P w K mg base CT "is_row" 3 false [] QeB)(z_isinstance:mg "isinstance"=none)(z_list:mg "list"=none)(z_len:mg "len"=none)(z_all:mg "all"=none)(c_MOST_ROWS:mg "MOST_ROWS"=some u_MOST_ROWS)(r_MOST_ROWS:RelV (toV (.int 12)) u_MOST_ROWS):FnOk P w K mg base CX0 4 f fd ["thing"] (SpD K CT false Qea):=
 @fnV P w K mg base CT false "is_table" "is_table" QZ f fd dV ["thing"] ["thing"] 3 Qkx F QG2 fun cdv A outer s H E G hr=>
  (Qg (ds_if (DW.dt (dw_or (Qat (Qay (Qcl "list" QlM Qv6 z_list PyProof.Rows.Boot.«list» Qpd z_isinstance (DE.db (Qb 0 rfl (Or.inr (oi Qeo))))))) (QeJ (Qat (QDj op_le QcJ (Qb2 fun _ _=>rfl) op_le QcJ (Qb2 fun _ _=>rfl) (DE.db Qd) (DE.db (Qaw Qx6 z_len (QB (DE.db (Qb 0 rfl (Or.inr (oi Qeo)))) QF))) (DE.db (QeL (d:=(.int 12)) Qp5 c_MOST_ROWS rfl r_MOST_ROWS))))))) (Qh (QD de_bl)) QP) (Qg (ds_if (Qat (Qay (Qi6 rfl QoW z_all (QB (DE.db (DF.de (Qaa rfl Qr1 (DI.b (Qal (Qb 0 rfl (Or.inr (oi Qeo))))) (fun ς=>QL (Qz rfl ς)) (Qx _) (fun fp s H G p=>⟨(QC (i:=0) Qr1.nd rfl (oi QfY) (hf:=Or.inr QfY)),QT,(de_f Quo (hr.mono (by decide)) (Qc (Qb 0 rfl (oi QfY)) Qj) Qp9)⟩)))) QF)))) (Qh (QD de_bl)) QP) (Qh (QD (Qi6 rfl QoW z_all (QB (DE.db (DF.de (Qaa rfl QsZ (DI.b (Qal (Qb 0 rfl (Or.inr (oi Qeo))))) (fun ς=>QL (Qz rfl ς)) (Qx _) (fun fp s H G p=>⟨(QC (i:=0) QsZ.nd rfl (oi QfV) (hf:=Or.inr QfV)),QT,(de_eq hr.units (DE.db (Qaw Qj6 z_len (QB (DE.db (Qb 0 rfl (oi QfV))) QF))) (DE.db (Qaw Qj6 z_len (QB (DE.db (de_ix (Qb 1 rfl (Or.inr (oi Qq1))) (DE.db Qd))) QF))))⟩)))) QF))))))
abbrev QbG:Stmt:=inCls (top 24) 0
theorem QBz:Qq ["self","rows"] ["self","rows"] (Qa QbG):=⟨rfl,rfl,rfl,dk,rfl,dk,dk⟩
theorem Qlq:Lo QbG "rows":=dk
theorem Qp3:Gl QbG "is_table":=dk
theorem QuD:Lo QbG "self":=dk
def QiQ:SD->Out Fl:=(sSeq (fun ς=>noX ((sIf (tNot' (tVal (eA (fun xs=>Qea (xs++[])) (aCons (eVar 1) aNil)))) Qf7 sNil) ς)) (QiX Qe "keep_rows" QN 0 (fun ς=>noX ((aCons (eVar 1) aNil) ς))))
def Qdw:Str->List (Str×D)->List D->Out (List (Str×D)):=bodyI 2 2 QiQ
theorem QGL(c:Str)(fds:List (Str×D))(d1:D):Qdw c fds [d1]=(QiQ [some (.s,.ins c fds),some (.k,d1)]>>=Qfo c):=rfl
theorem QGz(F:FunV K "__init__" "Rows.__init__" QbG f fd dV)(QIs:DefOk P w K mg base CT "is_table" 4 false [] Qea)(ms_keep_rows:MtOk P w K mg base CT (CXR P w) "keep_rows" 3 Qe (fun _=>SpI K CT QN)):FnOk P w K mg base (CXR P w) 5 f fd ["self","rows"] (SpI K CT Qdw):=
 @fnI P w K mg base CT "__init__" "Rows.__init__" QbG f fd dV ["self","rows"] ["self","rows"] 4 QiQ F QBz fun cdv A outer s H E G p hr=>
  (Qg (DS.lift (ds_if (Qat (Qay (de_f QIs (hr.mono (by decide)) (Qc (Qb 1 rfl (oi Qlq)) Qj) Qp3))) (Qh Qeh) QP)) (Qh (QpX 0 QwK ms_keep_rows (hr.mono (by decide)) (DA.lift (Qc (Qb 1 rfl (oi Qlq)) Qj)) rfl (oi QuD))))
abbrev QaJ:Stmt:=top 25
theorem Qzx:Qq ["many","place"] ["many","place"] (Qa QaJ):=⟨rfl,rfl,rfl,dk,rfl,dk,dk⟩
theorem QtL:Lo QaJ "many":=dk
theorem QrT:Gl QaJ "range":=dk
abbrev Qht:PySem.Scope:={ kind:=PySem.ScopeKind.function,names:=[ (PySem.Str.ofString ".0",PySem.NameKind.local),(PySem.Str.ofString "out",PySem.NameKind.local),(PySem.Str.ofString "place",PySem.NameKind.free)],isGenerator:=false,isCoroutine:=false,more:=[]:PySem.Scope }
theorem Qoy:QK ["out","place"] [none,some 1] Qht (Qa QaJ) ["many","place"]:=⟨rfl,dk,dk,rfl,dk,dk⟩
theorem Qe0:(Qi Qht (Qa QaJ)).names.lookup ("out":Str)=some NameKind.local:=dk
theorem QoJ:(Qi Qht (Qa QaJ)).names.lookup ("place":Str)=some NameKind.cell:=dk
def Qik:SD->Out D:=(eIf (tVal (e2 dEq (eVar 0) (eVar 1))) (eC (.int 1)) (eC (.int 0)))
def Qhn:SD->Out Fl:=(sRetF (eComp [none,some 1] (itR1 (eVar 0)) (gN 0) cTrue Qik))
def QcN:List D->Out D:=bodyF true 2 2 Qhn
theorem QBL(d0 d1:D):QcN [d0,d1]=(Qhn [some (.k,d0),some (.k,d1)]>>=retF true):=rfl
theorem QDM(F:FunV K "single_row" "single_row" QaJ f fd dV)(z_range:mg "range"=none):FnOk P w K mg base CX0 1 f fd ["many","place"] (SpD K CT true QcN):=
 @fnV P w K mg base CT true "single_row" "single_row" QaJ f fd dV ["many","place"] ["many","place"] 0 Qhn F Qzx fun cdv A outer s H E G hr=>
  (Qh (QcK (Qaa rfl Qoy (DI.b (QaF QrT z_range (DE.db (Qb 0 rfl (oi QtL))))) (fun ς=>QL (Qz rfl ς)) (Qx _) (fun fp s H G p=>⟨(QC (i:=0) Qoy.nd rfl (oi Qe0) (hf:=Or.inr Qe0)),QT,(de_if (dt_eq hr.units (DE.db (Qb 0 rfl (oi Qe0))) (DE.db (Qb 1 rfl (Or.inr (oi QoJ))))) Qd Qd)⟩))))
abbrev Qaj:Stmt:=inCls (top 21) 0
theorem QBl:Qq ["self","many"] ["self","many"] (Qa Qaj):=⟨rfl,rfl,rfl,dk,rfl,dk,dk⟩
theorem Qk4:(Qa Qaj).names.lookup ("many":Str)=some NameKind.cell:=dk
theorem QoC:Gl Qaj "MOST_OUTS":=dk
theorem Qos:Gl Qaj "is_within":=dk
theorem QtD:Gl Qaj "range":=dk
abbrev Qfy:PySem.Scope:={ kind:=PySem.ScopeKind.function,names:=[ (PySem.Str.ofString ".0",PySem.NameKind.local),(PySem.Str.ofString "state",PySem.NameKind.local),(PySem.Str.ofString "single_row",PySem.NameKind.globalImplicit),(PySem.Str.ofString "many",PySem.NameKind.free)],isGenerator:=false,isCoroutine:=false,more:=[]:PySem.Scope }
theorem QqE:QK ["state","many"] [none,some 1] Qfy (Qa Qaj) ["self","many"]:=⟨rfl,dk,dk,rfl,dk,dk⟩
theorem Qer:(Qi Qfy (Qa Qaj)).names.lookup ("state":Str)=some NameKind.local:=dk
theorem Qq9:(Qi Qfy (Qa Qaj)).names.lookup ("many":Str)=some NameKind.cell:=dk
theorem Qkd:(Qi Qfy (Qa Qaj)).names.lookup ("single_row":Str)=some NameKind.globalImplicit:=dk
def Qjx:SD->Out D:=(eA (fun xs=>QcN (xs++[])) (aCons (eVar 1) (aCons (eVar 0) aNil)))
theorem QuW:Lo Qaj "self":=dk
def QiL:SD->Out Fl:=(sSeq (fun ς=>noX ((sIf (tNot' (tVal (eA (fun xs=>Qac (xs++[])) (aCons (eVar 1) (aCons (eC (.int 1)) (aCons (eC (.int 6)) aNil)))))) Qf7 sNil) ς)) (QiX Qe "keep_rows" QN 0 (fun ς=>noX ((aCons (eComp [none,some 1] (itR1 (eVar 1)) (gN 0) cTrue Qjx) aNil) ς))))
def Qdi:Str->List (Str×D)->List D->Out (List (Str×D)):=bodyI 2 2 QiL
theorem QGH(c:Str)(fds:List (Str×D))(d1:D):Qdi c fds [d1]=(QiL [some (.s,.ins c fds),some (.k,d1)]>>=Qfo c):=rfl
theorem QGj{u_MOST_OUTS:Value}(F:FunV K "__init__" "Deal.__init__" Qaj f fd dV)(Qcc:DefOk P w K mg base CT "is_within" 2 false [] Qac)(QBT:DefOk P w K mg base CT "single_row" 1 true [] QcN)(z_range:mg "range"=none)(c_MOST_OUTS:mg "MOST_OUTS"=some u_MOST_OUTS)(r_MOST_OUTS:RelV (toV (.int 6)) u_MOST_OUTS)(ms_keep_rows:MtOk P w K mg base CT (CXR P w) "keep_rows" 3 Qe (fun _=>SpI K CT QN)):FnOk P w K mg base (CXR P w) 4 f fd ["self","many"] (SpI K CT Qdi):=
 @fnI P w K mg base CT "__init__" "Deal.__init__" Qaj f fd dV ["self","many"] ["self","many"] 3 QiL F QBl fun cdv A outer s H E G p hr=>
  (Qg (DS.lift (ds_if (Qat (Qay (de_f Qcc (hr.mono (by decide)) (Qc (Qb 1 rfl (Or.inr (oi Qk4))) (Qc Qd (Qc (QeL (d:=(.int 6)) QoC c_MOST_OUTS rfl r_MOST_OUTS) Qj))) Qos))) (Qh Qeh) QP)) (Qh (QpX 0 QwK ms_keep_rows (hr.mono (by decide)) (DA.lift (Qc (DF.de (Qaa rfl QqE (DI.b (QaF QtD z_range (DE.db (Qb 1 rfl (Or.inr (oi Qk4)))))) (fun ς=>QL (Qz rfl ς)) (Qx _) (fun fp s H G p=>⟨(QC (i:=0) QqE.nd rfl (oi Qer) (hf:=Or.inr Qer)),QT,(de_f QBT (hr.mono (by decide)) (Qc (Qb 1 rfl (Or.inr (oi Qq9))) (Qc (Qb 0 rfl (oi Qer)) Qj)) Qkd)⟩))) Qj)) rfl (oi QuW))))
abbrev Q5:Stmt:=inCls (top 22) 0
theorem Qyy:Qq ["self","size"] ["self","size"] (Qa Q5):=⟨rfl,rfl,rfl,dk,rfl,dk,dk⟩
theorem Qi5:(Qa Q5).names.lookup ("size":Str)=some NameKind.cell:=dk
theorem Qmf:Gl Q5 "MOST_ROWS":=dk
theorem Qmh:Gl Q5 "is_within":=dk
theorem Qq4:Gl Q5 "range":=dk
abbrev QgD:PySem.Scope:={ kind:=PySem.ScopeKind.function,names:=[ (PySem.Str.ofString ".0",PySem.NameKind.local),(PySem.Str.ofString "state",PySem.NameKind.local),(PySem.Str.ofString "size",PySem.NameKind.free)],isGenerator:=false,isCoroutine:=false,more:=[]:PySem.Scope }
theorem QmR:QK ["state","size"] [none,some 1] QgD (Qa Q5) ["self","size"]:=⟨rfl,dk,dk,rfl,dk,dk⟩
theorem Qdo:(Qi QgD (Qa Q5)).names.lookup ("state":Str)=some NameKind.local:=dk
theorem QoF:(Qi QgD (Qa Q5)).names.lookup ("size":Str)=some NameKind.cell:=dk
def QhC:SD->Out D:=(eLst (aCons (eIf (tVal (e2 dEq (eVar 0) (e2 dSub (eVar 1) (eC (.int 1))))) (eC (.int 1)) (eC (.int 0))) aNil))
theorem QsT:Lo Q5 "self":=dk
def Qgs:SD->Out Fl:=(sSeq (fun ς=>noX ((sIf (tNot' (tVal (eA (fun xs=>Qac (xs++[])) (aCons (eVar 1) (aCons (eC (.int 1)) (aCons (eC (.int 12)) aNil)))))) Qf7 sNil) ς)) (QiX Qe "keep_rows" QN 0 (fun ς=>noX ((aCons (eComp [none,some 1] (itR1 (eVar 1)) (gN 0) cTrue QhC) aNil) ς))))
def Qcp:Str->List (Str×D)->List D->Out (List (Str×D)):=bodyI 2 2 Qgs
theorem QAt(c:Str)(fds:List (Str×D))(d1:D):Qcp c fds [d1]=(Qgs [some (.s,.ins c fds),some (.k,d1)]>>=Qfo c):=rfl
theorem Qz9{u_MOST_ROWS:Value}(F:FunV K "__init__" "Bundle.__init__" Q5 f fd dV)(Qcc:DefOk P w K mg base CT "is_within" 2 false [] Qac)(z_range:mg "range"=none)(c_MOST_ROWS:mg "MOST_ROWS"=some u_MOST_ROWS)(r_MOST_ROWS:RelV (toV (.int 12)) u_MOST_ROWS)(ms_keep_rows:MtOk P w K mg base CT (CXR P w) "keep_rows" 3 Qe (fun _=>SpI K CT QN)):FnOk P w K mg base (CXR P w) 4 f fd ["self","size"] (SpI K CT Qcp):=
 @fnI P w K mg base CT "__init__" "Bundle.__init__" Q5 f fd dV ["self","size"] ["self","size"] 3 Qgs F Qyy fun cdv A outer s H E G p hr=>
  (Qg (DS.lift (ds_if (Qat (Qay (de_f Qcc (hr.mono (by decide)) (Qc (Qb 1 rfl (Or.inr (oi Qi5))) (Qc Qd (Qc (QeL (d:=(.int 12)) Qmf c_MOST_ROWS rfl r_MOST_ROWS) Qj))) Qmh))) (Qh Qeh) QP)) (Qh (QpX 0 QwK ms_keep_rows (hr.mono (by decide)) (DA.lift (Qc (DF.de (Qaa rfl QmR (DI.b (QaF Qq4 z_range (DE.db (Qb 1 rfl (Or.inr (oi Qi5)))))) (fun ς=>QL (Qz rfl ς)) (Qx _) (fun fp s H G p=>⟨(QC (i:=0) QmR.nd rfl (oi Qdo) (hf:=Or.inr Qdo)),QT,(DF.de (QaV (Qc (de_if (dt_eq hr.units (DE.db (Qb 0 rfl (oi Qdo))) (DE.db (Qc8 (DE.db (Qb 1 rfl (Or.inr (oi QoF)))) (DE.db Qd)))) Qd Qd) Qj)))⟩))) Qj)) rfl (oi QsT))))
abbrev QbI:Stmt:=inCls (top 23) 0
theorem QDe:Qq ["self","counts"] ["self","counts"] (Qa QbI):=⟨rfl,rfl,rfl,dk,rfl,dk,dk⟩
theorem Qi4:Lo QbI "counts":=dk
theorem Qrz:Gl QbI "is_row":=dk
theorem QuI:Lo QbI "self":=dk
def QiG:SD->Out Fl:=(sSeq (fun ς=>noX ((sIf (tNot' (tVal (eA (fun xs=>QeB (xs++[])) (aCons (eVar 1) aNil)))) Qf7 sNil) ς)) (QiX Qe "keep_rows" QN 0 (fun ς=>noX ((aCons (eLst (aCons (eVar 1) aNil)) aNil) ς))))
def Qdl:Str->List (Str×D)->List D->Out (List (Str×D)):=bodyI 2 2 QiG
theorem QF2(c:Str)(fds:List (Str×D))(d1:D):Qdl c fds [d1]=(QiG [some (.s,.ins c fds),some (.k,d1)]>>=Qfo c):=rfl
theorem QEN(F:FunV K "__init__" "Copy.__init__" QbI f fd dV)(Quo:DefOk P w K mg base CT "is_row" 3 false [] QeB)(ms_keep_rows:MtOk P w K mg base CT (CXR P w) "keep_rows" 3 Qe (fun _=>SpI K CT QN)):FnOk P w K mg base (CXR P w) 4 f fd ["self","counts"] (SpI K CT Qdl):=
 @fnI P w K mg base CT "__init__" "Copy.__init__" QbI f fd dV ["self","counts"] ["self","counts"] 3 QiG F QDe fun cdv A outer s H E G p hr=>
  (Qg (DS.lift (ds_if (Qat (Qay (de_f Quo (hr.mono (by decide)) (Qc (Qb 1 rfl (oi Qi4)) Qj) Qrz))) (Qh Qeh) QP)) (Qh (QpX 0 QwK ms_keep_rows (hr.mono (by decide)) (DA.lift (Qc (DF.de (QaV (Qc (Qb 1 rfl (oi Qi4)) Qj))) Qj)) rfl (oi QuI))))
abbrev Q4:Stmt:=top 58
theorem QBQ:Qq ["_law_kind","_law_rows_here"] ["_law_kind","_law_rows_here"] (Qa Q4):=⟨rfl,rfl,rfl,dk,rfl,dk,dk⟩
theorem QdQ:Lo Q4 "_law_kind":=dk
theorem Qbn:Lo Q4 "_law_rows_here":=dk
theorem Qmi:Gl Q4 "len":=dk
theorem Qvg:Gl Q4 "Deal":=dk
theorem Qsb:Gl Q4 "Bundle":=dk
theorem Qu0:Gl Q4 "list":=dk
theorem QuX:Gl Q4 "Copy":=dk
abbrev QhZ:PySem.Scope:={ kind:=PySem.ScopeKind.function,names:=[ (PySem.Str.ofString ".0",PySem.NameKind.local),(PySem.Str.ofString "_law_row",PySem.NameKind.local),(PySem.Str.ofString "list",PySem.NameKind.globalImplicit)],isGenerator:=false,isCoroutine:=false,more:=[]:PySem.Scope }
theorem QqH:QK ["_law_row"] [none] QhZ (Qa Q4) ["_law_kind","_law_rows_here"]:=⟨rfl,dk,dk,rfl,dk,dk⟩
theorem Qc4:(Qi QhZ (Qa Q4)).names.lookup ("_law_row":Str)=some NameKind.local:=dk
theorem Qrd:(Qi QhZ (Qa Q4)).names.lookup ("list":Str)=some NameKind.globalImplicit:=dk
def QqM:SD->Out D:=(e1 dList (eVar 0))
theorem QuN:Gl Q4 "Rows":=dk
def Qdv:SD->Out Fl:=(sSeq (sIf (tVal (e2 dEq (eVar 0) (eC (.int 0)))) (sRetF (eMake "Deal" Qdi (aCons (eA fLen (aCons (eVar 1) aNil)) aNil))) sNil) (sSeq (sIf (tVal (e2 dEq (eVar 0) (eC (.int 1)))) (sRetF (eMake "Bundle" Qcp (aCons (eA fLen (aCons (eVar 1) aNil)) aNil))) sNil) (sSeq (sIf (tVal (e2 dEq (eVar 0) (eC (.int 2)))) (sRetF (eMake "Copy" Qdl (aCons (e1 dList (e2 dIx (eVar 1) (eC (.int 0)))) aNil))) sNil) (sRetF (eMake "Rows" Qdw (aCons (eComp [none] (itL (eVar 1)) (gN 0) cTrue QqM) aNil))))))
def Qb8:List D->Out D:=bodyF true 2 2 Qdv
theorem QiO(d0 d1:D):Qb8 [d0,d1]=(Qdv [some (.k,d0),some (.k,d1)]>>=retF true):=rfl
theorem QFT(F:FunV K "_law_clerk" "_law_clerk" Q4 f fd dV)(z_len:mg "len"=none)(z_list:mg "list"=none)(QyC:MkOk P w K mg base CT "Deal" 4 Qdi)(Qr9:MkOk P w K mg base CT "Bundle" 4 Qcp)(Qyb:MkOk P w K mg base CT "Copy" 4 Qdl)(QyQ:MkOk P w K mg base CT "Rows" 5 Qdw):FnOk P w K mg base CX0 7 f fd ["_law_kind","_law_rows_here"] (SpD K CT true Qb8):=
 @fnV P w K mg base CT true "_law_clerk" "_law_clerk" Q4 f fd dV ["_law_kind","_law_rows_here"] ["_law_kind","_law_rows_here"] 6 Qdv F QBQ fun cdv A outer s H E G hr=>
  (Qg (ds_if (dt_eq hr.units (DE.db (Qb 0 rfl (oi QdQ))) (DE.db Qd)) (Qh (QcK (QoP rz0 QyC (hr.mono (by decide)) (Qc (Qaw Qmi z_len (QB (DE.db (Qb 1 rfl (oi Qbn))) QF)) Qj) Qvg))) QP) (Qg (ds_if (dt_eq hr.units (DE.db (Qb 0 rfl (oi QdQ))) (DE.db Qd)) (Qh (QcK (QoP rz0 Qr9 (hr.mono (by decide)) (Qc (Qaw Qmi z_len (QB (DE.db (Qb 1 rfl (oi Qbn))) QF)) Qj) Qsb))) QP) (Qg (ds_if (dt_eq hr.units (DE.db (Qb 0 rfl (oi QdQ))) (DE.db Qd)) (Qh (QcK (QoP rz0 Qyb (hr.mono (by decide)) (Qc (DF.de (Qcm Qu0 z_list (de_ix (Qb 1 rfl (oi Qbn)) (DE.db Qd)))) Qj) QuX))) QP) (Qh (QcK (QoP rz0 QyQ (hr.mono (by decide)) (Qc (DF.de (Qaa rfl QqH (DI.b (Qal (Qb 1 rfl (oi Qbn)))) (fun ς=>QL (Qz rfl ς)) (Qx _) (fun fp s H G p=>⟨(QC (i:=0) QqH.nd rfl (oi Qc4) (hf:=Or.inr Qc4)),QT,(DF.de (Qcm Qrd z_list (Qb 0 rfl (oi Qc4))))⟩))) Qj) QuN))))))
abbrev Qt:Stmt:=top 59
theorem QaY:Qq ["_law_script","_law_plan_here","_law_doors","_law_first","_law_ends","_law_clerks","_law_kind","_law_rows_here","_law_leads","_law_state","_law_name","_law_names"] ["_law_script","_law_plan_here","_law_doors"] (Qa Qt):=⟨rfl,rfl,rfl,dk,rfl,dk,dk⟩
theorem Qlb:Lo Qt "_law_script":=dk
theorem Qoo:Gl Qt "_law_cell":=dk
theorem QkM:Gl Qt "_law_digits":=dk
theorem Ql1:(Qa Qt).names.lookup ("_law_first":Str)=some NameKind.cell:=dk
theorem QlX:Lo Qt "_law_doors":=dk
theorem Qrs:Gl Qt "range":=dk
abbrev Qe9:PySem.Scope:={ kind:=PySem.ScopeKind.function,names:=[ (PySem.Str.ofString ".0",PySem.NameKind.local),(PySem.Str.ofString "_law_d",PySem.NameKind.local),(PySem.Str.ofString "_law_named",PySem.NameKind.globalImplicit),(PySem.Str.ofString "_law_first",PySem.NameKind.free)],isGenerator:=false,isCoroutine:=false,more:=[]:PySem.Scope }
theorem QoN:QK ["_law_d","_law_first"] [none,some 3] Qe9 (Qa Qt) ["_law_script","_law_plan_here","_law_doors","_law_first","_law_ends","_law_clerks","_law_kind","_law_rows_here","_law_leads","_law_state","_law_name","_law_names"]:=⟨rfl,dk,dk,rfl,dk,dk⟩
theorem Qdc:(Qi Qe9 (Qa Qt)).names.lookup ("_law_d":Str)=some NameKind.local:=dk
theorem QeE:(Qi Qe9 (Qa Qt)).names.lookup ("_law_first":Str)=some NameKind.cell:=dk
theorem Qjc:(Qi Qe9 (Qa Qt)).names.lookup ("_law_named":Str)=some NameKind.globalImplicit:=dk
def QhW:SD->Out D:=(eA (fun xs=>QaM (xs++[])) (aCons (e2 dAdd (eC (.int 12)) (eVar 0)) (aCons (e2 dIx (eVar 1) (eC (.int 3))) (aCons (e2 dIx (eVar 1) (eC (.int 4))) aNil))))
theorem Qgg:(Qa Qt).names.lookup ("_law_ends":Str)=some NameKind.cell:=dk
theorem QcU:Lo Qt "_law_clerks":=dk
theorem Qd2:(Qa Qt).names.lookup ("_law_plan_here":Str)=some NameKind.cell:=dk
theorem Qga:Lo Qt "_law_name":=dk
theorem QfK:Lo Qt "_law_state":=dk
theorem QfL:Lo Qt "_law_leads":=dk
theorem Qd1:Lo Qt "_law_rows_here":=dk
theorem Qge:Lo Qt "_law_kind":=dk
abbrev Qe5:PySem.Scope:={ kind:=PySem.ScopeKind.function,names:=[ (PySem.Str.ofString ".0",PySem.NameKind.local),(PySem.Str.ofString "_law_to",PySem.NameKind.local),(PySem.Str.ofString "_law_ends",PySem.NameKind.free),(PySem.Str.ofString "_law_plan_here",PySem.NameKind.free)],isGenerator:=false,isCoroutine:=false,more:=[]:PySem.Scope }
theorem Qpe:QK ["_law_to","_law_ends","_law_plan_here"] [none,some 4,some 1] Qe5 (Qa Qt) ["_law_script","_law_plan_here","_law_doors","_law_first","_law_ends","_law_clerks","_law_kind","_law_rows_here","_law_leads","_law_state","_law_name","_law_names"]:=⟨rfl,dk,dk,rfl,dk,dk⟩
theorem Qbb:(Qi Qe5 (Qa Qt)).names.lookup ("_law_to":Str)=some NameKind.local:=dk
theorem Qkf:(Qi Qe5 (Qa Qt)).names.lookup ("_law_ends":Str)=some NameKind.cell:=dk
theorem Qhx:(Qi Qe5 (Qa Qt)).names.lookup ("_law_plan_here":Str)=some NameKind.cell:=dk
def Qij:SD->Out D:=(eIf (tVal (e2 dLt (eVar 0) (eC (.int 0)))) (e2 dIx (eVar 1) (e2 dSub (e1 dNeg (eC (.int 1))) (eVar 0))) (e2 dIx (e2 dIx (eVar 2) (eVar 0)) (eC (.int 4))))
theorem QfM:Lo Qt "_law_names":=dk
theorem Qmd:Gl Qt "_law_clerk":=dk
def QfD:SD->Out Fl:=(sSeq (sSet 11 (eComp [none,some 4,some 1] (itL (eVar 8)) (gN 0) cTrue Qij)) (QcF 5 (eTup (aCons (eVar 10) (aCons (eA (fun xs=>Qb8 (xs++[])) (aCons (eVar 6) (aCons (eVar 7) aNil))) (aCons (eVar 11) (aCons (eVar 9) aNil)))))))
theorem Qrc:Gl Qt "Office":=dk
def Qhb:SD->Out Fl:=(sSeq (sSet 3 (eA (fun xs=>Q8 (xs++[])) (aCons (eA (fun xs=>QM (xs++[])) (aCons (eVar 0) (aCons (eC (.int 0)) aNil))) (aCons (eC (.int 6)) aNil)))) (sSeq (sSet 4 (eComp [none,some 3] (itR1 (eVar 2)) (gN 0) cTrue QhW)) (sSeq (sSetO 5 (eLst aNil)) (sSeq (sFor (gT [6,7,8,9,10]) (itL (eVar 1)) QfD) (fun ς=>(sRetF (eMake "Office" Qbq (aCons (eVar 5) (aCons (eLst (aCons (eTup (aCons (eC (.str "in")) (aCons (e2 dIx (e2 dIx (eVar 1) (eC (.int 0))) (eC (.int 4))) aNil))) aNil)) (aCons (eVar 4) aNil))))) (frz 5 ς))))))
def QcL:List D->Out D:=bodyF true 3 12 Qhb
theorem QA8(d0 d1 d2:D):QcL [d0,d1,d2]=(Qhb [some (.k,d0),some (.k,d1),some (.k,d2),none,none,none,none,none,none,none,none,none]>>=retF true):=rfl
theorem QDH(F:FunV K "_law_office" "_law_office" Qt f fd dV)(QcP:DefOk P w K mg base CT "_law_digits" 2 true [] Q8)(Qcw:DefOk P w K mg base CT "_law_cell" 1 false [] QM)(Qn6:DefOk P w K mg base CT "_law_named" 1 false [] QaM)(QEG:DefOk P w K mg base CT "_law_clerk" 7 true [] Qb8)(z_range:mg "range"=none)(Qsm:MkOk P w K mg base CT "Office" 5 Qbq):FnOk P w K mg base CX0 8 f fd ["_law_script","_law_plan_here","_law_doors"] (SpD K CT true QcL):=
 @fnV P w K mg base CT true "_law_office" "_law_office" Qt f fd dV ["_law_script","_law_plan_here","_law_doors","_law_first","_law_ends","_law_clerks","_law_kind","_law_rows_here","_law_leads","_law_state","_law_name","_law_names"] ["_law_script","_law_plan_here","_law_doors"] 7 Qhb F QaY fun cdv A outer s H E G hr=>
  (Qg (QW (i:=3) QaY.nd rfl (Or.inr Ql1) (de_f QcP (hr.mono (by decide)) (Qc (de_f Qcw (hr.mono (by decide)) (Qc (Qb 0 rfl (oi Qlb)) (Qc Qd Qj)) Qoo) (Qc Qd Qj)) QkM)) (Qg (QW (i:=4) QaY.nd rfl (Or.inr Qgg) (DF.de (Qaa rfl QoN (DI.b (QaF Qrs z_range (DE.db (Qb 2 rfl (oi QlX))))) (fun ς=>QL (Qz rfl ς)) (Qx _) (fun fp s H G p=>⟨(QC (i:=0) QoN.nd rfl (oi Qdc) (hf:=Or.inr Qdc)),QT,(de_f Qn6 (hr.mono (by decide)) (Qc (QaQ (DE.db Qd) (DE.db (Qb 0 rfl (oi Qdc)))) (Qc (de_ix (Qb 1 rfl (Or.inr (oi QeE))) (DE.db Qd)) (Qc (de_ix (Qb 1 rfl (Or.inr (oi QeE))) (DE.db Qd)) Qj))) Qjc)⟩)))) (Qg (Qb5 (i:=5) QaY.nd rfl (oi QcU) (QaV Qj)) (Qg (Qcn PassesOwn.never rfl (Qal (Qb 1 rfl (Or.inr (oi Qd2)))) (Qs4 rfl (QaA (i:=6) QaY.nd rfl (oi Qge) (QaA (i:=7) QaY.nd rfl (oi Qd1) (QaA (i:=8) QaY.nd rfl (oi QfL) (QaA (i:=9) QaY.nd rfl (oi QfK) (QaA (i:=10) QaY.nd rfl (oi Qga) QgL)))))) (QkX _) (Qg (QoI (i:=11) rfl Qpe (DI.b (Qal (Qb 8 rfl (oi QfL)))) (fun ς=>QL (Qz rfl ς)) (Qx _) (fun fp s H G p=>⟨(QC (i:=0) Qpe.nd rfl (oi Qbb) (hf:=Or.inr Qbb)),QT,(de_if (dt_lt (DE.db (Qb 0 rfl (oi Qbb))) (DE.db Qd)) (de_ix (Qb 1 rfl (Or.inr (oi Qkf))) (DE.db (Qc8 (DE.db (Qk6 (DE.db Qd))) (DE.db (Qb 0 rfl (oi Qbb)))))) (de_ix (de_ix (Qb 2 rfl (Or.inr (oi Qhx))) (DE.db (Qb 0 rfl (oi Qbb)))) (DE.db Qd)))⟩) QaY.nd rfl (oi QfM)) (Qh (QdZ 5 (Qfg (Qc (Qb 10 rfl (oi Qga)) (Qc (de_f QEG (hr.mono (by decide)) (Qc (Qb 6 rfl (oi Qge)) (Qc (Qb 7 rfl (oi Qd1)) Qj)) Qmd) (Qc (Qb 11 rfl (oi QfM)) (Qc (Qb 9 rfl (oi QfK)) Qj))))) rfl (oi QcU))))) (Qh (QrB 5 (QcK (QoP rz0 Qsm (hr.mono (by decide)) (Qc (Qb 5 rfl (oi QcU)) (Qc (DF.de (QaV (Qc (Qfg (Qc QKo (Qc (de_ix (de_ix (Qb 1 rfl (Or.inr (oi Qd2))) (DE.db Qd)) (DE.db Qd)) Qj))) Qj))) (Qc (Qb 4 rfl (Or.inr (oi Qgg))) Qj))) Qrc))))))))
abbrev Qad:Stmt:=top 60
theorem QcW:Qq ["_law_script","_law_many","_law_desks_here","_law_k","_law_cell_here","_law_digits_here","_law_some"] ["_law_script","_law_many"] (Qa Qad):=⟨rfl,rfl,rfl,dk,rfl,dk,dk⟩
theorem Qci:Lo Qad "_law_desks_here":=dk
theorem Qoz:Lo Qad "_law_many":=dk
theorem QtC:Gl Qad "range":=dk
theorem Qi2:Lo Qad "_law_k":=dk
theorem Qma:Lo Qad "_law_script":=dk
theorem Qpf:Gl Qad "_law_cell":=dk
theorem Qbo:Lo Qad "_law_cell_here":=dk
theorem QlY:Gl Qad "_law_digits":=dk
theorem Qba:Lo Qad "_law_digits_here":=dk
theorem Qck:Lo Qad "_law_some":=dk
def Qgq:SD->Out Fl:=(sSeq (sSet 4 (eA (fun xs=>QM (xs++[])) (aCons (eVar 0) (aCons (e2 dAdd (eC (.int 1)) (eVar 3)) aNil)))) (sSeq (sSet 5 (eA (fun xs=>Q8 (xs++[])) (aCons (eVar 4) (aCons (eC (.int 26)) aNil)))) (sSeq (sSet 6 (e2 dMod (e2 dIx (eVar 5) (eC (.int 24))) (eC (.int 6)))) (sSeq (sIf (tAnd' (tVal (e2 dEq (e2 dMod (eVar 4) (eC (.int 2))) (eC (.int 0)))) (tVal (e2 dEq (e2 dMod (e2 dIx (eVar 5) (eC (.int 25))) (eC (.int 4))) (eC (.int 3))))) (sSet 6 (e2 dIx (eVar 5) (eC (.int 24)))) sNil) (QcF 2 (e2 dIx (eLst (aCons (eVar 6) (aCons (e2 dIx (eLst (aCons (eC (.int 0)) (aCons (eC (.int 1)) (aCons (eC (.int 2)) (aCons (eC (.int 3)) (aCons (eC (.int 0)) (aCons (eC (.int 5)) aNil))))))) (e2 dMod (eVar 6) (eC (.int 6)))) aNil))) (e2 dMod (eVar 4) (eC (.int 2)))))))))
def Qiy:SD->Out Fl:=(sSeq (sSetO 2 (eLst aNil)) (sSeq (sFor (gN 3) (itR1 (eVar 1)) Qgq) (sRetO 2)))
def Qdf:List D->Out D:=bodyF true 2 7 Qiy
theorem QGt(d0 d1:D):Qdf [d0,d1]=(Qiy [some (.k,d0),some (.k,d1),none,none,none,none,none]>>=retF true):=rfl
theorem QFt(F:FunV K "_law_desks" "_law_desks" Qad f fd dV)(Qcw:DefOk P w K mg base CT "_law_cell" 1 false [] QM)(QcP:DefOk P w K mg base CT "_law_digits" 2 true [] Q8)(z_range:mg "range"=none):FnOk P w K mg base CX0 3 f fd ["_law_script","_law_many"] (SpD K CT true Qdf):=
 @fnV P w K mg base CT true "_law_desks" "_law_desks" Qad f fd dV ["_law_script","_law_many","_law_desks_here","_law_k","_law_cell_here","_law_digits_here","_law_some"] ["_law_script","_law_many"] 2 Qiy F QcW fun cdv A outer s H E G hr=>
  (Qg (Qb5 (i:=2) QcW.nd rfl (oi Qci) (QaV Qj)) (Qg (Qcn PassesOwn.never rfl (QaF QtC z_range (DE.db (Qb 1 rfl (oi Qoz)))) (QC (i:=3) QcW.nd rfl (oi Qi2)) (Qx _) (Qg (QW (i:=4) QcW.nd rfl (oi Qbo) (de_f Qcw (hr.mono (by decide)) (Qc (Qb 0 rfl (oi Qma)) (Qc (QaQ (DE.db Qd) (DE.db (Qb 3 rfl (oi Qi2)))) Qj)) Qpf)) (Qg (QW (i:=5) QcW.nd rfl (oi Qba) (de_f QcP (hr.mono (by decide)) (Qc (Qb 4 rfl (oi Qbo)) (Qc Qd Qj)) QlY)) (Qg (QW (i:=6) QcW.nd rfl (oi Qck) (Q0 (DE.db (de_ix (Qb 5 rfl (oi Qba)) (DE.db Qd))) (DE.db Qd))) (Qg (ds_if (DW.dt (QLK (dt_eq hr.units (DE.db (Q0 (DE.db (Qb 4 rfl (oi Qbo))) (DE.db Qd))) (DE.db Qd)) (QHi (dt_eq hr.units (DE.db (Q0 (DE.db (de_ix (Qb 5 rfl (oi Qba)) (DE.db Qd))) (DE.db Qd))) (DE.db Qd))))) (Qh (QW (i:=6) QcW.nd rfl (oi Qck) (de_ix (Qb 5 rfl (oi Qba)) (DE.db Qd)))) QP) (Qh (QdZ 2 (de_ix (DF.de (QaV (Qc (Qb 6 rfl (oi Qck)) (Qc (de_ix (DF.de (QaV (Qc Qd (Qc Qd (Qc Qd (Qc Qd (Qc Qd (Qc Qd Qj)))))))) (DE.db (Q0 (DE.db (Qb 6 rfl (oi Qck))) (DE.db Qd)))) Qj)))) (DE.db (Q0 (DE.db (Qb 4 rfl (oi Qbo))) (DE.db Qd)))) rfl (oi Qci)))))))) (Qh (Qow 2 rfl (oi Qci)))))
abbrev Qbi:Stmt:=top 50
theorem QD6:Qq ["_law_found"] ["_law_found"] (Qa Qbi):=⟨rfl,rfl,rfl,dk,rfl,dk,dk⟩
theorem Qgi:Lo Qbi "_law_found":=dk
theorem Qwd:Gl Qbi "int":=dk
theorem Qgc:Gl Qbi "isinstance":=dk
theorem Qup:Gl Qbi "bool":=dk
def QtQ:SD->Out Fl:=(sRet (eAnd (eIsa (isaT "int") (eVar 0)) (eNot (eIsa (isaT "bool") (eVar 0)))))
def QeP:List D->Out D:=bodyF false 1 1 QtQ
theorem QG3(F:FunV K "_law_whole" "_law_whole" Qbi f fd dV)(z_isinstance:mg "isinstance"=none)(z_int:mg "int"=none)(z_bool:mg "bool"=none):FnOk P w K mg base CX0 1 f fd ["_law_found"] (SpD K CT false QeP):=
 @fnV P w K mg base CT false "_law_whole" "_law_whole" Qbi f fd dV ["_law_found"] ["_law_found"] 0 QtQ F QD6 fun cdv A outer s H E G hr=>
  (Qh (QD (QdX (Qcl "int" QHw Qwd z_int PyProof.Rows.Boot.«int» Qgc z_isinstance (DE.db (Qb 0 rfl (oi Qgi)))) (Qg9 (QKj (Qcl "bool" QC8 Qup z_bool PyProof.Rows.Boot.«bool» Qgc z_isinstance (DE.db (Qb 0 rfl (oi Qgi)))))))))
abbrev Qaf:Stmt:=top 62
theorem QqR:Qq ["_law_found","_law_due","_law_k"] ["_law_found","_law_due"] (Qa Qaf):=⟨rfl,rfl,rfl,dk,rfl,dk,dk⟩
theorem QbZ:Lo Qaf "_law_found":=dk
theorem QtJ:Gl Qaf "list":=dk
theorem QlZ:Gl Qaf "isinstance":=dk
theorem QgK:Gl Qaf "len":=dk
theorem QdD:Lo Qaf "_law_due":=dk
theorem QrM:Gl Qaf "range":=dk
theorem QcX:Lo Qaf "_law_k":=dk
theorem Ql2:Gl Qaf "_law_whole":=dk
def QfJ:SD->Out Fl:=(sIf (tOr' (tNot' (tVal (eA (fun xs=>QeP (xs++[])) (aCons (e2 dIx (eVar 0) (eVar 2)) aNil)))) (tVal (e2 dNe (e2 dIx (eVar 0) (eVar 2)) (e2 dIx (eVar 1) (eVar 2))))) (sRet (eC (.bl false))) sNil)
def QgZ:SD->Out Fl:=(sSeq (sIf (tOr' (tNot' (tVal (eIsa (isaT "list") (eVar 0)))) (tVal (e2 dNe (eA fLen (aCons (eVar 0) aNil)) (eA fLen (aCons (eVar 1) aNil))))) (sRet (eC (.bl false))) sNil) (sSeq (sFor (gN 2) (itR1 (eA fLen (aCons (eVar 1) aNil))) QfJ) (sRet (eC (.bl true)))))
def Qam:List D->Out D:=bodyF false 2 3 QgZ
theorem QDO(d0 d1:D):Qam [d0,d1]=(QgZ [some (.k,d0),some (.k,d1),none]>>=retF false):=rfl
theorem QDL(F:FunV K "_law_wholes" "_law_wholes" Qaf f fd dV)(QFw:DefOk P w K mg base CT "_law_whole" 1 false [] QeP)(z_isinstance:mg "isinstance"=none)(z_list:mg "list"=none)(z_len:mg "len"=none)(z_range:mg "range"=none):FnOk P w K mg base CX0 2 f fd ["_law_found","_law_due"] (SpD K CT false Qam):=
 @fnV P w K mg base CT false "_law_wholes" "_law_wholes" Qaf f fd dV ["_law_found","_law_due","_law_k"] ["_law_found","_law_due"] 1 QgZ F QqR fun cdv A outer s H E G hr=>
  (Qg (ds_if (DW.dt (dw_or (Qat (Qay (Qcl "list" QlM QtJ z_list PyProof.Rows.Boot.«list» QlZ z_isinstance (DE.db (Qb 0 rfl (oi QbZ)))))) (QeJ (dt_ne hr.units (DE.db (Qaw QgK z_len (QB (DE.db (Qb 0 rfl (oi QbZ))) QF))) (DE.db (Qaw QgK z_len (QB (DE.db (Qb 1 rfl (oi QdD))) QF))))))) (Qh (QD de_bl)) QP) (Qg (Qcn PassesOwn.never rfl (QaF QrM z_range (DE.db (Qaw QgK z_len (QB (DE.db (Qb 1 rfl (oi QdD))) QF)))) (QC (i:=2) QqR.nd rfl (oi QcX)) (Qx _) (Qh (ds_if (DW.dt (dw_or (Qat (Qay (de_f QFw (hr.mono (by decide)) (Qc (de_ix (Qb 0 rfl (oi QbZ)) (DE.db (Qb 2 rfl (oi QcX)))) Qj) Ql2))) (QeJ (dt_ne hr.units (DE.db (de_ix (Qb 0 rfl (oi QbZ)) (DE.db (Qb 2 rfl (oi QcX))))) (DE.db (de_ix (Qb 1 rfl (oi QdD)) (DE.db (Qb 2 rfl (oi QcX))))))))) (Qh (QD de_bl)) QP))) (Qh (QD de_bl))))
abbrev QV:Stmt:=top 61
theorem QcA:Qq ["_law_plan_here","_law_doors","_law_states","_law_desks_here","_law_k","_law_rows_here","_law_leads","_law_row","_law_later","_law_left","_law_out","_law_o"] ["_law_plan_here","_law_doors","_law_states","_law_desks_here","_law_k"] (Qa QV):=⟨rfl,rfl,rfl,dk,rfl,dk,dk⟩
theorem Qe2:Lo QV "_law_plan_here":=dk
theorem Qbd:Lo QV "_law_k":=dk
theorem Qcx:Lo QV "_law_rows_here":=dk
theorem QaC:Lo QV "_law_leads":=dk
theorem Qdt:Lo QV "_law_states":=dk
theorem QeZ:Lo QV "_law_row":=dk
theorem Qmz:Gl QV "list":=dk
theorem QdF:Lo QV "_law_later":=dk
theorem QoR:Gl QV "len":=dk
theorem QjW:Lo QV "_law_desks_here":=dk
theorem Qa2:Lo QV "_law_left":=dk
theorem Qo2:Lo QV "_law_doors":=dk
theorem QcZ:Lo QV "_law_out":=dk
theorem Qu6:Gl QV "range":=dk
theorem QaN:Lo QV "_law_o":=dk
def QhE:SD->Out Fl:=(sIf (tVal (e2 dLt (e2 dIx (eVar 6) (eVar 11)) (eC (.int 0)))) (sPutO 10 (e2 dSub (e1 dNeg (eC (.int 1))) (e2 dIx (eVar 6) (eVar 11))) (e2 dAdd (e2 dIx (eVarB 10) (e2 dSub (e1 dNeg (eC (.int 1))) (e2 dIx (eVar 6) (eVar 11)))) (e2 dIx (eVar 7) (eVar 11)))) (sPutO 9 (e2 dIx (eVar 6) (eVar 11)) (e2 dAdd (e2 dIx (eVarB 9) (e2 dIx (eVar 6) (eVar 11))) (e2 dIx (eVar 7) (eVar 11)))))
def Qkk:SD->Out Fl:=(sSeq (sSet 5 (e2 dIx (e2 dIx (eVar 0) (eVar 4)) (eC (.int 1)))) (sSeq (sSet 6 (e2 dIx (e2 dIx (eVar 0) (eVar 4)) (eC (.int 2)))) (sSeq (sSet 7 (e2 dIx (eVar 5) (e2 dIx (eVar 2) (eVar 4)))) (sSeq (sSetO 8 (e1 dList (eVar 2))) (sSeq (sPutO 8 (eVar 4) (e2 dMod (e2 dAdd (e2 dIx (eVar 2) (eVar 4)) (eC (.int 1))) (eA fLen (aCons (eVar 5) aNil)))) (sSeq (sSetO 9 (e1 dList (eVar 3))) (sSeq (sPutO 9 (eVar 4) (e2 dSub (e2 dIx (eVarB 9) (eVar 4)) (eC (.int 1)))) (sSeq (sSetO 10 (e2 dRep (eLst (aCons (eC (.int 0)) aNil)) (eVar 1))) (sSeq (sFor (gN 11) (itR1 (eA fLen (aCons (eVar 6) aNil))) QhE) (fun ς=>(sRet (eTup (aCons (eVar 8) (aCons (eVar 9) (aCons (eVar 10) aNil))))) (frzs [8,9,10] ς)))))))))))
def Qek:List D->Out D:=bodyF false 5 12 Qkk
theorem QH9(d0 d1 d2 d3 d4:D):Qek [d0,d1,d2,d3,d4]=(Qkk [some (.k,d0),some (.k,d1),some (.k,d2),some (.k,d3),some (.k,d4),none,none,none,none,none,none,none]>>=retF false):=rfl
theorem QIu(F:FunV K "_law_step" "_law_step" QV f fd dV)(z_list:mg "list"=none)(z_len:mg "len"=none)(z_range:mg "range"=none):FnOk P w K mg base CX0 1 f fd ["_law_plan_here","_law_doors","_law_states","_law_desks_here","_law_k"] (SpD K CT false Qek):=
 @fnV P w K mg base CT false "_law_step" "_law_step" QV f fd dV ["_law_plan_here","_law_doors","_law_states","_law_desks_here","_law_k","_law_rows_here","_law_leads","_law_row","_law_later","_law_left","_law_out","_law_o"] ["_law_plan_here","_law_doors","_law_states","_law_desks_here","_law_k"] 0 Qkk F QcA fun cdv A outer s H E G hr=>
  (Qg (QW (i:=5) QcA.nd rfl (oi Qcx) (de_ix (de_ix (Qb 0 rfl (oi Qe2)) (DE.db (Qb 4 rfl (oi Qbd)))) (DE.db Qd))) (Qg (QW (i:=6) QcA.nd rfl (oi QaC) (de_ix (de_ix (Qb 0 rfl (oi Qe2)) (DE.db (Qb 4 rfl (oi Qbd)))) (DE.db Qd))) (Qg (QW (i:=7) QcA.nd rfl (oi QeZ) (de_ix (Qb 5 rfl (oi Qcx)) (DE.db (de_ix (Qb 2 rfl (oi Qdt)) (DE.db (Qb 4 rfl (oi Qbd))))))) (Qg (Qb5 (i:=8) QcA.nd rfl (oi QdF) (Qcm Qmz z_list (Qb 2 rfl (oi Qdt)))) (Qg (QoL 8 (DE.db (Qb 4 rfl (oi Qbd))) (Q0 (DE.db (QaQ (DE.db (de_ix (Qb 2 rfl (oi Qdt)) (DE.db (Qb 4 rfl (oi Qbd))))) (DE.db Qd))) (DE.db (Qaw QoR z_len (QB (DE.db (Qb 5 rfl (oi Qcx))) QF)))) rfl (oi QdF)) (Qg (Qb5 (i:=9) QcA.nd rfl (oi Qa2) (Qcm Qmz z_list (Qb 3 rfl (oi QjW)))) (Qg (QoL 9 (DE.db (Qb 4 rfl (oi Qbd))) (Qc8 (db_ix (Qi8 9 rfl (oi Qa2)) (DE.db (Qb 4 rfl (oi Qbd)))) (DE.db Qd)) rfl (oi Qa2)) (Qg (Qb5 (i:=10) QcA.nd rfl (oi QcZ) (QOx (QaV (Qc Qd Qj)) (DE.db (Qb 1 rfl (oi Qo2))))) (Qg (Qcn PassesOwn.never rfl (QaF Qu6 z_range (DE.db (Qaw QoR z_len (QB (DE.db (Qb 6 rfl (oi QaC))) QF)))) (QC (i:=11) QcA.nd rfl (oi QaN)) (Qx _) (Qh (ds_if (dt_lt (DE.db (de_ix (Qb 6 rfl (oi QaC)) (DE.db (Qb 11 rfl (oi QaN))))) (DE.db Qd)) (Qh (QoL 10 (DE.db (Qc8 (DE.db (Qk6 (DE.db Qd))) (DE.db (de_ix (Qb 6 rfl (oi QaC)) (DE.db (Qb 11 rfl (oi QaN))))))) (QaQ (db_ix (Qi8 10 rfl (oi QcZ)) (DE.db (Qc8 (DE.db (Qk6 (DE.db Qd))) (DE.db (de_ix (Qb 6 rfl (oi QaC)) (DE.db (Qb 11 rfl (oi QaN)))))))) (DE.db (de_ix (Qb 7 rfl (oi QeZ)) (DE.db (Qb 11 rfl (oi QaN)))))) rfl (oi QcZ))) (Qh (QoL 9 (DE.db (de_ix (Qb 6 rfl (oi QaC)) (DE.db (Qb 11 rfl (oi QaN))))) (QaQ (db_ix (Qi8 9 rfl (oi Qa2)) (DE.db (de_ix (Qb 6 rfl (oi QaC)) (DE.db (Qb 11 rfl (oi QaN)))))) (DE.db (de_ix (Qb 7 rfl (oi QeZ)) (DE.db (Qb 11 rfl (oi QaN)))))) rfl (oi Qa2)))))) (Qh (QHs [8,9,10] (QD (Qfg (Qc (Qb 8 rfl (oi QdF)) (Qc (Qb 9 rfl (oi Qa2)) (Qc (Qb 10 rfl (oi QcZ)) Qj))))))))))))))))
abbrev Qa8:Stmt:=inCls (top 47) 2
theorem Qv7:Qq ["self"] ["self"] (Qa Qa8):=⟨rfl,rfl,rfl,dk,rfl,dk,dk⟩
theorem Qq6:Lo Qa8 "self":=dk
theorem Qrh:Gl Qa8 "list":=dk
def QfH:SD->Out Fl:=(sRetF (e1 dList (e1 (dFld Ql "door_names") (eVar 0))))
def Qa5:List D->Out D:=bodyF true 1 1 QfH
theorem QxK(d0:D):Qa5 [d0]=(QfH [some (.k,d0)]>>=retF true):=rfl
theorem Qxp(F:FunV K "doors" "Office.doors" Qa8 f fd dV)(z_list:mg "list"=none)(fo_door_names:FldOk K CT Ql "door_names"):FnOk P w K mg base CX0 1 f fd ["self"] (SpD K CT true Qa5):=
 @fnV P w K mg base CT true "doors" "Office.doors" Qa8 f fd dV ["self"] ["self"] 0 QfH F Qv7 fun cdv A outer s H E G hr=>
  (Qh (QcK (Qcm Qrh z_list (QiY fo_door_names (Qb 0 rfl (oi Qq6))))))
abbrev QaX:Stmt:=top 10
theorem Qxc:Qq ["office"] ["office"] (Qa QaX):=⟨rfl,rfl,rfl,dk,rfl,dk,dk⟩
theorem Qqj:Lo QaX "office":=dk
abbrev QkY:PySem.Scope:={ kind:=PySem.ScopeKind.function,names:=[(PySem.Str.ofString ".0",PySem.NameKind.local),(PySem.Str.ofString "door",PySem.NameKind.local)],isGenerator:=false,isCoroutine:=false,more:=[]:PySem.Scope }
theorem Qmq:QK ["door"] [none] QkY (Qa QaX) ["office"]:=⟨rfl,dk,dk,rfl,dk,dk⟩
theorem QgU:(Qi QkY (Qa QaX)).names.lookup ("door":Str)=some NameKind.local:=dk
def Qg1:SD->Out D:=(eC (.int 0))
def Qgv:SD->Out Fl:=(sRetF (eComp [none] (itL (eMeth Qw "doors" (fun _=>Qa5) (eVar 0) aNil)) (gN 0) cTrue Qg1))
def Qcq:List D->Out D:=bodyF true 1 1 Qgv
theorem QAH(d0:D):Qcq [d0]=(Qgv [some (.k,d0)]>>=retF true):=rfl
theorem QAs(F:FunV K "nothing_out" "nothing_out" QaX f fd dV)(mt_doors:MtOk P w K mg base CT CX0 "doors" 1 Qw (fun c=>SpD K CT true ((fun _=>Qa5) c))):FnOk P w K mg base CX0 2 f fd ["office"] (SpD K CT true Qcq):=
 @fnV P w K mg base CT true "nothing_out" "nothing_out" QaX f fd dV ["office"] ["office"] 1 Qgv F Qxc fun cdv A outer s H E G hr=>
  (Qh (QcK (Qaa rfl Qmq (DI.b (Qal (Qh0 mt_doors (hr.mono (by decide)) (Qb 0 rfl (oi Qqj))))) (fun ς=>QL (Qz rfl ς)) (Qx _) (fun fp s H G p=>⟨(QC (i:=0) Qmq.nd rfl (oi QgU) (hf:=Or.inr QgU)),QT,Qd⟩))))
abbrev Qa0:Stmt:=inCls (top 47) 5
theorem QwJ:Qq ["self","k"] ["self","k"] (Qa Qa0):=⟨rfl,rfl,rfl,dk,rfl,dk,dk⟩
theorem QqZ:Lo Qa0 "self":=dk
theorem Quu:Lo Qa0 "k":=dk
def Qfv:SD->Out Fl:=(sRet (e2 dIx (e1 (dFld Ql "staff") (eVar 0)) (eVar 1)))
def Qby:List D->Out D:=bodyF false 2 2 Qfv
theorem Qxy(d0 d1:D):Qby [d0,d1]=(Qfv [some (.k,d0),some (.k,d1)]>>=retF false):=rfl
theorem Qxm(F:FunV K "clerk" "Office.clerk" Qa0 f fd dV)(fo_staff:FldOk K CT Ql "staff"):FnOk P w K mg base CX0 1 f fd ["self","k"] (SpD K CT false Qby):=
 @fnV P w K mg base CT false "clerk" "Office.clerk" Qa0 f fd dV ["self","k"] ["self","k"] 0 Qfv F QwJ fun cdv A outer s H E G hr=>
  (Qh (QD (de_ix (QiY fo_staff (Qb 0 rfl (oi QqZ))) (DE.db (Qb 1 rfl (oi Quu))))))
abbrev Qfa:Stmt:=top 11
theorem QBa:Qq ["desks","out","leads","dockets","lead","count"] ["desks","out","leads","dockets"] (Qa Qfa):=⟨rfl,rfl,rfl,dk,rfl,dk,dk⟩
theorem QGF:Lo Qfa "leads":=dk
theorem QAw:Lo Qfa "dockets":=dk
theorem QLp:Gl Qfa "zip":=dk
theorem QnJ:Lo Qfa "count":=dk
theorem Qft:Lo Qfa "lead":=dk
theorem QtS:Lo Qfa "desks":=dk
theorem Qzr:Lo Qfa "out":=dk
def Qtn:SD->Out Fl:=(sIf (tVal (e2 dGe (eVar 4) (eC (.int 0)))) (sPutW 0 (eVar 4) (e2 dAdd (e2 dIx (eVarB 0) (eVar 4)) (eVar 5))) (sPutW 1 (e2 dSub (e1 dNeg (eC (.int 1))) (eVar 4)) (e2 dAdd (e2 dIx (eVarB 1) (e2 dSub (e1 dNeg (eC (.int 1))) (eVar 4))) (eVar 5))))
def QA5:SD->Out Fl:=(sFor (gT [4,5]) (itZ (eVar 2) (eVar 3)) Qtn)
def Qqn:List D->Out (D×Option (List D)):=bodyW false [true,true,false,false] 6 QA5
theorem QPt(d0 d1 d2 d3:D):Qqn [d0,d1,d2,d3]=(QA5 [some (.s,d0),some (.s,d1),some (.k,d2),some (.k,d3),none,none]>>=retW false [true,true,false,false]):=rfl
theorem QPv(F:FunV K "lay" "lay" Qfa f fd dV)(z_zip:mg "zip"=none):FnOk P w K mg base CX0 1 f fd ["desks","out","leads","dockets"] (SpW K CT false [true,true,false,false] Qqn):=
 @fnW P w K mg base CT false "lay" "lay" Qfa f fd dV ["desks","out","leads","dockets","lead","count"] ["desks","out","leads","dockets"] 0 QA5 [true,true,false,false] rfl F QBa fun cdv A outer s H E G ps vs hr=>
  (Qh (Qcn PassesOwn.never rfl (QKl QLp z_zip (Qb 2 rfl (oi QGF)) (Qb 3 rfl (oi QAw))) (Qs4 rfl (QaA (i:=4) QBa.nd rfl (oi Qft) (QaA (i:=5) QBa.nd rfl (oi QnJ) QgL))) (QkX _) (Qh (ds_if (dt_ge (DE.db (Qb 4 rfl (oi Qft))) (DE.db Qd)) (Qh (Qtg 0 (DE.db (Qb 4 rfl (oi Qft))) (QaQ (db_ix (Qi8 0 rfl (oi QtS)) (DE.db (Qb 4 rfl (oi Qft)))) (DE.db (Qb 5 rfl (oi QnJ)))) rfl (oi QtS))) (Qh (Qtg 1 (DE.db (Qc8 (DE.db (Qk6 (DE.db Qd))) (DE.db (Qb 4 rfl (oi Qft))))) (QaQ (db_ix (Qi8 1 rfl (oi Qzr)) (DE.db (Qc8 (DE.db (Qk6 (DE.db Qd))) (DE.db (Qb 4 rfl (oi Qft)))))) (DE.db (Qb 5 rfl (oi QnJ)))) rfl (oi Qzr)))))))
abbrev QaK:Stmt:=inCls (top 47) 7
theorem QwG:Qq ["self","k"] ["self","k"] (Qa QaK):=⟨rfl,rfl,rfl,dk,rfl,dk,dk⟩
theorem Qrf:Lo QaK "self":=dk
theorem Qux:Lo QaK "k":=dk
theorem Qri:Gl QaK "list":=dk
def QfC:SD->Out Fl:=(sRetF (e1 dList (e2 dIx (e1 (dFld Ql "ways") (eVar 0)) (eVar 1))))
def QbC:List D->Out D:=bodyF true 2 2 QfC
theorem Qyl(d0 d1:D):QbC [d0,d1]=(QfC [some (.k,d0),some (.k,d1)]>>=retF true):=rfl
theorem Qx5(F:FunV K "leads" "Office.leads" QaK f fd dV)(z_list:mg "list"=none)(fo_ways:FldOk K CT Ql "ways"):FnOk P w K mg base CX0 1 f fd ["self","k"] (SpD K CT true QbC):=
 @fnV P w K mg base CT true "leads" "Office.leads" QaK f fd dV ["self","k"] ["self","k"] 0 QfC F QwG fun cdv A outer s H E G hr=>
  (Qh (QcK (Qcm Qri z_list (de_ix (QiY fo_ways (Qb 0 rfl (oi Qrf))) (DE.db (Qb 1 rfl (oi Qux)))))))
abbrev QbJ:Stmt:=inCls (top 20) 4
theorem QCV:Qq ["self","state"] ["self","state"] (Qa QbJ):=⟨rfl,rfl,rfl,dk,rfl,dk,dk⟩
theorem QuM:Lo QbJ "self":=dk
theorem QtG:Lo QbJ "state":=dk
theorem Qve:Gl QbJ "list":=dk
def QiD:SD->Out Fl:=(sRetF (e1 dList (e2 dIx (e1 (dFld Ql "table") (eVar 0)) (eVar 1))))
def QcD:List D->Out D:=bodyF true 2 2 QiD
theorem QGR(d0 d1:D):QcD [d0,d1]=(QiD [some (.k,d0),some (.k,d1)]>>=retF true):=rfl
theorem QGQ(F:FunV K "row" "Clerk.row" QbJ f fd dV)(z_list:mg "list"=none)(fo_table:FldOk K CT Ql "table"):FnOk P w K mg base CX0 1 f fd ["self","state"] (SpD K CT true QcD):=
 @fnV P w K mg base CT true "row" "Clerk.row" QbJ f fd dV ["self","state"] ["self","state"] 0 QiD F QCV fun cdv A outer s H E G hr=>
  (Qh (QcK (Qcm Qve z_list (de_ix (QiY fo_table (Qb 0 rfl (oi QuM))) (DE.db (Qb 1 rfl (oi QtG)))))))
abbrev QbO:Stmt:=top 12
theorem Qzf:Qq ["office","states","desks","out","k","clerk"] ["office","states","desks","out","k"] (Qa QbO):=⟨rfl,rfl,rfl,dk,rfl,dk,dk⟩
theorem QmN:Lo QbO "office":=dk
theorem Qd6:Lo QbO "k":=dk
theorem QhU:Lo QbO "clerk":=dk
theorem QhS:Lo QbO "desks":=dk
theorem QEl:Lo QbO "out":=dk
theorem Qhw:Lo QbO "states":=dk
theorem QD8:Gl QbO "lay":=dk
def Qk0:SD->Out Fl:=(sSeq (sSet 5 (eMeth Qw "clerk" (fun _=>Qby) (eVar 0) (aCons (eVar 4) aNil))) (sSeq (sPutW 2 (eVar 4) (e2 dSub (e2 dIx (eVarB 2) (eVar 4)) (eC (.int 1)))) (sSeq (QoU [some 2,some 3,none,none] Qqn (aCons (eVarW 2) (aCons (eVarW 3) (aCons (eMeth Qw "leads" (fun _=>QbC) (eVar 0) (aCons (eVar 4) aNil)) (aCons (eMeth Qe "row" (fun _=>QcD) (eVar 5) (aCons (fun ς=>Qot ((e2 dIx (eVarB 1) (eVar 4)) ς)) aNil)) aNil))))) (sPutW 1 (eVar 4) (e2 dMod (e2 dAdd (e2 dIx (eVarB 1) (eVar 4)) (eC (.int 1))) (eMeth Qe "period" (fun _=>QaB) (eVar 5) aNil))))))
def QgF:List D->Out (D×Option (List D)):=bodyW false [false,true,true,true,false] 6 Qk0
theorem QMB(d0 d1 d2 d3 d4:D):QgF [d0,d1,d2,d3,d4]=(Qk0 [some (.k,d0),some (.s,d1),some (.s,d2),some (.s,d3),some (.k,d4),none]>>=retW false [false,true,true,true,false]):=rfl
theorem QMd(F:FunV K "handle" "handle" QbO f fd dV)(QPn:DefW P w K mg base CT "lay" 1 false [true,true,false,false] Qqn)(mt_clerk:MtOk P w K mg base CT CX0 "clerk" 1 Qw (fun c=>SpD K CT false ((fun _=>Qby) c)))(mt_leads:MtOk P w K mg base CT CX0 "leads" 1 Qw (fun c=>SpD K CT true ((fun _=>QbC) c)))(mt_row:MtOk P w K mg base CT CX0 "row" 1 Qe (fun c=>SpD K CT true ((fun _=>QcD) c)))(mt_period:MtOk P w K mg base CT CX0 "period" 1 Qe (fun c=>SpD K CT false ((fun _=>QaB) c))):FnOk P w K mg base CX0 2 f fd ["office","states","desks","out","k"] (SpW K CT false [false,true,true,true,false] QgF):=
 @fnW P w K mg base CT false "handle" "handle" QbO f fd dV ["office","states","desks","out","k","clerk"] ["office","states","desks","out","k"] 1 Qk0 [false,true,true,true,false] rfl F Qzf fun cdv A outer s H E G ps vs hr=>
  (Qg (QW (i:=5) Qzf.nd rfl (oi QhU) (QyK mt_clerk (hr.mono (by decide)) (Qb 0 rfl (oi QmN)) (Qc (Qb 4 rfl (oi Qd6)) Qj))) (Qg (Qtg 2 (DE.db (Qb 4 rfl (oi Qd6))) (Qc8 (db_ix (Qi8 2 rfl (oi QhS)) (DE.db (Qb 4 rfl (oi Qd6)))) (DE.db Qd)) rfl (oi QhS)) (Qg (QDc (ms:=[some 2,some 3,none,none]) QPn (hr.mono (by decide)) (daw_w 2 (daw_w 3 (daw_k (QyK mt_leads (hr.mono (by decide)) (Qb 0 rfl (oi QmN)) (Qc (Qb 4 rfl (oi Qd6)) Qj)) (daw_k (QyK mt_row (hr.mono (by decide)) (Qb 5 rfl (oi QhU)) (Qc (DB.de (db_ix (Qi8 1 rfl (oi Qhw)) (DE.db (Qb 4 rfl (oi Qd6))))) Qj)) QHr)) rfl (oi QEl)) rfl (oi QhS)) QD8) (Qh (Qtg 1 (DE.db (Qb 4 rfl (oi Qd6))) (Q0 (DE.db (QaQ (db_ix (Qi8 1 rfl (oi Qhw)) (DE.db (Qb 4 rfl (oi Qd6)))) (DE.db Qd))) (DE.db (Qh0 mt_period (hr.mono (by decide)) (Qb 5 rfl (oi QhU))))) rfl (oi Qhw))))))
abbrev Qbp:Stmt:=inCls (top 47) 4
theorem Qxi:Qq ["self"] ["self"] (Qa Qbp):=⟨rfl,rfl,rfl,dk,rfl,dk,dk⟩
theorem Qs0:Lo Qbp "self":=dk
theorem QtI:Gl Qbp "len":=dk
def Qgw:SD->Out Fl:=(sRet (eA fLen (aCons (e1 (dFld Ql "clerk_names") (eVar 0)) aNil)))
def QbU:List D->Out D:=bodyF false 1 1 Qgw
theorem Qz8(d0:D):QbU [d0]=(Qgw [some (.k,d0)]>>=retF false):=rfl
theorem QAn(F:FunV K "many" "Office.many" Qbp f fd dV)(z_len:mg "len"=none)(fo_clerk_names:FldOk K CT Ql "clerk_names"):FnOk P w K mg base CX0 1 f fd ["self"] (SpD K CT false QbU):=
 @fnV P w K mg base CT false "many" "Office.many" Qbp f fd dV ["self"] ["self"] 0 Qgw F Qxi fun cdv A outer s H E G hr=>
  (Qh (QD (Qaw QtI z_len (QB (DE.db (QiY fo_clerk_names (Qb 0 rfl (oi Qs0)))) QF))))
abbrev Qau:Stmt:=top 13
theorem Qkt:Qq ["office","states","desks","k","states_then","desks_then","out"] ["office","states","desks","k"] (Qa Qau):=⟨rfl,rfl,rfl,dk,rfl,dk,dk⟩
theorem Qog:Lo Qau "k":=dk
theorem QgA:Lo Qau "office":=dk
theorem Qre:Gl Qau "is_within":=dk
theorem QmQ:Lo Qau "desks":=dk
theorem QuY:Lo Qau "states":=dk
theorem QoV:Gl Qau "list":=dk
theorem QdR:Lo Qau "states_then":=dk
theorem Qec:Lo Qau "desks_then":=dk
theorem Qpi:Gl Qau "nothing_out":=dk
theorem Qjm:Lo Qau "out":=dk
theorem Quv:Gl Qau "handle":=dk
def Qmn:SD->Out D:=(tSeq (sIf (tOr' (tNot' (tVal (eA (fun xs=>Qac (xs++[])) (aCons (eVar 3) (aCons (eC (.int 0)) (aCons (e2 dSub (eMeth Qw "many" (fun _=>QbU) (eVar 0) aNil) (eC (.int 1))) aNil)))))) (tVal (e2 dLt (e2 dIx (eVar 2) (eVar 3)) (eC (.int 1))))) Qf7 sNil) (tSeq (sSetO 4 (e1 dList (eVar 1))) (tSeq (sSetO 5 (e1 dList (eVar 2))) (tSeq (sSetO 6 (fun ς=>QkJ ((eA (fun xs=>Qcq (xs++[])) (aCons (eVar 0) aNil)) ς))) (tSeq (QoU [none,some 4,some 5,some 6,none] QgF (aCons (eVar 0) (aCons (eVarW 4) (aCons (eVarW 5) (aCons (eVarW 6) (aCons (eVar 3) aNil)))))) (tRet [4,5,6]))))))
def Qfb:List D->Out D:=bodyT 4 7 Qmn
theorem QJQ(d0 d1 d2 d3:D):Qfb [d0,d1,d2,d3]=Qmn [some (.k,d0),some (.k,d1),some (.k,d2),some (.k,d3),none,none,none]:=rfl
theorem QKM(F:FunV K "handled" "handled" Qau f fd dV)(Qcc:DefOk P w K mg base CT "is_within" 2 false [] Qac)(QzI:DefOk P w K mg base CT "nothing_out" 2 true [] Qcq)(QLY:DefW P w K mg base CT "handle" 2 false [false,true,true,true,false] QgF)(z_list:mg "list"=none)(mt_many:MtOk P w K mg base CT CX0 "many" 1 Qw (fun c=>SpD K CT false ((fun _=>QbU) c))):FnOk P w K mg base CX0 3 f fd ["office","states","desks","k"] (SpT K CT Qfb):=
 @fnT P w K mg base CT "handled" "handled" Qau f fd dV ["office","states","desks","k","states_then","desks_then","out"] ["office","states","desks","k"] 2 Qmn F Qkt fun cdv A outer s H E G hr=>
  (QlP (ds_if (DW.dt (dw_or (Qat (Qay (de_f Qcc (hr.mono (by decide)) (Qc (Qb 3 rfl (oi Qog)) (Qc Qd (Qc (Qc8 (DE.db (Qh0 mt_many (hr.mono (by decide)) (Qb 0 rfl (oi QgA)))) (DE.db Qd)) Qj))) Qre))) (QeJ (dt_lt (DE.db (de_ix (Qb 2 rfl (oi QmQ)) (DE.db (Qb 3 rfl (oi Qog))))) (DE.db Qd))))) (Qh Qeh) QP) (QlP (Qb5 (i:=4) Qkt.nd rfl (oi QdR) (Qcm QoV z_list (Qb 1 rfl (oi QuY)))) (QlP (Qb5 (i:=5) Qkt.nd rfl (oi Qec) (Qcm QoV z_list (Qb 2 rfl (oi QmQ)))) (QlP (Qb5 (i:=6) Qkt.nd rfl (oi Qjm) (df_f QzI (hr.mono (by decide)) (Qc (Qb 0 rfl (oi QgA)) Qj) Qpi)) (QlP (QDc (ms:=[none,some 4,some 5,some 6,none]) QLY (hr.mono (by decide)) (daw_k (Qb 0 rfl (oi QgA)) (daw_w 4 (daw_w 5 (daw_w 6 (daw_k (Qb 3 rfl (oi Qog)) QHr) rfl (oi Qjm)) rfl (oi Qec)) rfl (oi QdR))) Quv) (QNC (Qvc 4 (Qvc 5 (Qvc 6 QNu rfl (oi Qjm)) rfl (oi Qec)) rfl (oi QdR))))))))
abbrev Qa4:Stmt:=inCls (top 47) 6
theorem Qww:Qq ["self"] ["self"] (Qa Qa4):=⟨rfl,rfl,rfl,dk,rfl,dk,dk⟩
theorem Qq7:Lo Qa4 "self":=dk
theorem Qq3:Gl Qa4 "list":=dk
def Qfr:SD->Out Fl:=(sRetF (e1 dList (e1 (dFld Ql "first_states") (eVar 0))))
def Qbv:List D->Out D:=bodyF true 1 1 Qfr
theorem Qyc(d0:D):Qbv [d0]=(Qfr [some (.k,d0)]>>=retF true):=rfl
theorem QxP(F:FunV K "begin" "Office.begin" Qa4 f fd dV)(z_list:mg "list"=none)(fo_first_states:FldOk K CT Ql "first_states"):FnOk P w K mg base CX0 1 f fd ["self"] (SpD K CT true Qbv):=
 @fnV P w K mg base CT true "begin" "Office.begin" Qa4 f fd dV ["self"] ["self"] 0 Qfr F Qww fun cdv A outer s H E G hr=>
  (Qh (QcK (Qcm Qq3 z_list (QiY fo_first_states (Qb 0 rfl (oi Qq7))))))
abbrev QaL:Stmt:=top 63
theorem QBp:Qq ["_law_found","_law_due"] ["_law_found","_law_due"] (Qa QaL):=⟨rfl,rfl,rfl,dk,rfl,dk,dk⟩
theorem Qbj:Lo QaL "_law_found":=dk
theorem Qtw:Gl QaL "tuple":=dk
theorem QnM:Gl QaL "isinstance":=dk
theorem Qvx:Gl QaL "len":=dk
theorem Qei:Lo QaL "_law_due":=dk
theorem Qc3:Gl QaL "_law_wholes":=dk
def QiP:SD->Out Fl:=(sSeq (sIf (tOr' (tNot' (tVal (eIsa (isaT "tuple") (eVar 0)))) (tVal (e2 dNe (eA fLen (aCons (eVar 0) aNil)) (eC (.int 3))))) (sRet (eC (.bl false))) sNil) (sRet (eAnd (eA (fun xs=>Qam (xs++[])) (aCons (e2 dIx (eVar 0) (eC (.int 0))) (aCons (e2 dIx (eVar 1) (eC (.int 0))) aNil))) (eAnd (eA (fun xs=>Qam (xs++[])) (aCons (e2 dIx (eVar 0) (eC (.int 1))) (aCons (e2 dIx (eVar 1) (eC (.int 1))) aNil))) (eA (fun xs=>Qam (xs++[])) (aCons (e2 dIx (eVar 0) (eC (.int 2))) (aCons (e2 dIx (eVar 1) (eC (.int 2))) aNil)))))))
def Qdd:List D->Out D:=bodyF false 2 2 QiP
theorem QE6(d0 d1:D):Qdd [d0,d1]=(QiP [some (.k,d0),some (.k,d1)]>>=retF false):=rfl
theorem QFo(F:FunV K "_law_right" "_law_right" QaL f fd dV)(Qfl:DefOk P w K mg base CT "_law_wholes" 2 false [] Qam)(z_isinstance:mg "isinstance"=none)(z_tuple:mg "tuple"=none)(z_len:mg "len"=none):FnOk P w K mg base CX0 3 f fd ["_law_found","_law_due"] (SpD K CT false Qdd):=
 @fnV P w K mg base CT false "_law_right" "_law_right" QaL f fd dV ["_law_found","_law_due"] ["_law_found","_law_due"] 2 QiP F QBp fun cdv A outer s H E G hr=>
  (Qg (ds_if (DW.dt (dw_or (Qat (Qay (Qcl "tuple" Qr7 Qtw z_tuple PyProof.Rows.Boot.«tuple» QnM z_isinstance (DE.db (Qb 0 rfl (oi Qbj)))))) (QeJ (dt_ne hr.units (DE.db (Qaw Qvx z_len (QB (DE.db (Qb 0 rfl (oi Qbj))) QF))) (DE.db Qd))))) (Qh (QD de_bl)) QP) (Qh (QD (QdX (de_f Qfl (hr.mono (by decide)) (Qc (de_ix (Qb 0 rfl (oi Qbj)) (DE.db Qd)) (Qc (de_ix (Qb 1 rfl (oi Qei)) (DE.db Qd)) Qj)) Qc3) (QdX (de_f Qfl (hr.mono (by decide)) (Qc (de_ix (Qb 0 rfl (oi Qbj)) (DE.db Qd)) (Qc (de_ix (Qb 1 rfl (oi Qei)) (DE.db Qd)) Qj)) Qc3) (Qg9 (de_f Qfl (hr.mono (by decide)) (Qc (de_ix (Qb 0 rfl (oi Qbj)) (DE.db Qd)) (Qc (de_ix (Qb 1 rfl (oi Qei)) (DE.db Qd)) Qj)) Qc3)))))))
abbrev QY:Stmt:=top 64
theorem Qcs:Qq ["_law_script","_law_plan_here","_law_doors","_law_office_here","_law_states","_law_desks_here","_law_cell_here","_law_some","_law_k","_law_due","_law_handed","_law_found","_law_one","_law_out"] ["_law_script"] (Qa QY):=⟨rfl,rfl,rfl,dk,rfl,dk,dk⟩
theorem QbS:Lo QY "_law_script":=dk
theorem QvX:Gl QY "_law_plan":=dk
theorem QgE:Lo QY "_law_doors":=dk
theorem QbL:Lo QY "_law_plan_here":=dk
theorem Qtu:Gl QY "_law_office":=dk
theorem Qds:Lo QY "_law_office_here":=dk
abbrev QCQ:PySem.Scope:={ kind:=PySem.ScopeKind.function,names:=[(PySem.Str.ofString ".0",PySem.NameKind.local),(PySem.Str.ofString "_law_row",PySem.NameKind.local)],isGenerator:=false,isCoroutine:=false,more:=[]:PySem.Scope }
theorem QHH:QK ["_law_row"] [none] QCQ (Qa QY) ["_law_script","_law_plan_here","_law_doors","_law_office_here","_law_states","_law_desks_here","_law_cell_here","_law_some","_law_k","_law_due","_law_handed","_law_found","_law_one","_law_out"]:=⟨rfl,dk,dk,rfl,dk,dk⟩
theorem QfS:(Qi QCQ (Qa QY)).names.lookup ("_law_row":Str)=some NameKind.local:=dk
def Qxk:SD->Out D:=(e2 dIx (eVar 0) (eC (.int 3)))
theorem QbR:Lo QY "_law_states":=dk
theorem Qsv:Gl QY "len":=dk
theorem Quy:Gl QY "_law_desks":=dk
theorem Qax:(Qa QY).names.lookup ("_law_desks_here":Str)=some NameKind.cell:=dk
theorem QmK:Gl QY "_law_cell":=dk
theorem Qls:Gl QY "_law_mixed":=dk
theorem QtK:Gl QY "_law_wholes":=dk
theorem QhG:Lo QY "_law_cell_here":=dk
theorem QFV:Gl QY "range":=dk
abbrev QuE:PySem.Scope:={ kind:=PySem.ScopeKind.function,names:=[ (PySem.Str.ofString ".0",PySem.NameKind.local),(PySem.Str.ofString "_law_k",PySem.NameKind.local),(PySem.Str.ofString "_law_desks_here",PySem.NameKind.free)],isGenerator:=false,isCoroutine:=false,more:=[]:PySem.Scope }
theorem QHm:QK ["_law_k","_law_desks_here"] [none,some 5] QuE (Qa QY) ["_law_script","_law_plan_here","_law_doors","_law_office_here","_law_states","_law_desks_here","_law_cell_here","_law_some","_law_k","_law_due","_law_handed","_law_found","_law_one","_law_out"]:=⟨rfl,dk,dk,rfl,dk,dk⟩
theorem Qe8:(Qi QuE (Qa QY)).names.lookup ("_law_k":Str)=some NameKind.local:=dk
theorem QkV:(Qi QuE (Qa QY)).names.lookup ("_law_desks_here":Str)=some NameKind.cell:=dk
def QxT:SD->Out Bool:=(tVal (e2 dGt (e2 dIx (eVar 1) (eVar 0)) (eC (.int 0))))
def Qyn:SD->Out D:=(eVar 0)
theorem Qe4:Lo QY "_law_some":=dk
theorem QkW:Lo QY "_law_k":=dk
theorem QwP:Gl QY "_law_step":=dk
theorem Qh3:Lo QY "_law_due":=dk
theorem Qw3:Gl QY "list":=dk
theorem Qdx:Lo QY "_law_handed":=dk
theorem Qgz:Lo QY "_law_found":=dk
theorem Qu9:Gl QY "_law_right":=dk
theorem QxI:Lo QY "_law_out":=dk
theorem QoQ:Lo QY "_law_one":=dk
theorem QzR:Gl QY "handled":=dk
def Qfx:SD->Out Fl:=(sSeq (sSet 7 (eComp [none,some 5] (itR1 (eA fLen (aCons (eVar 5) aNil))) (gN 0) QxT Qyn)) (sSeq (sIf (tVal (e2 dEq (eVar 7) (eLst aNil))) (sRet (eC (.bl true))) sNil) (sSeq (sSet 8 (e2 dIx (eVar 7) (e2 dMod (eVar 6) (eA fLen (aCons (eVar 7) aNil))))) (sSeq (sSet 9 (eA (fun xs=>Qek (xs++[])) (aCons (eVar 1) (aCons (eVar 2) (aCons (eVar 4) (aCons (eVar 5) (aCons (eVar 8) aNil))))))) (sSeq (sSet 10 (eTup (aCons (e1 dList (eVar 4)) (aCons (e1 dList (eVar 5)) aNil)))) (Qsg 11 12 Qfb (aCons (eVar 3) (aCons (e2 dIx (eVar 10) (eC (.int 0))) (aCons (e2 dIx (eVar 10) (eC (.int 1))) (aCons (eVar 8) aNil)))) (tNot' (tVal (eA (fun xs=>Qdd (xs++[])) (aCons (eVar 11) (aCons (eVar 9) aNil))))) (sRet (eC (.bl false))) (sSeq (sIf (tVal (e2 dNe (eVar 10) (eTup (aCons (eVar 4) (aCons (eVar 5) aNil))))) (sRet (eC (.bl false))) sNil) (sUnp [4,5,13] (eVar 9)))))))))
def QA4:SD->Out Fl:=(sSeq (sUnp [1,2] (eA (fun xs=>QeD (xs++[])) (aCons (eVar 0) (aCons (eC (.int 12)) aNil)))) (sSeq (sSet 3 (eA (fun xs=>QcL (xs++[])) (aCons (eVar 0) (aCons (eVar 1) (aCons (eVar 2) aNil))))) (sSeq (sSet 4 (eComp [none] (itL (eVar 1)) (gN 0) cTrue Qxk)) (sSeq (sSetO 5 (fun ς=>QkJ ((eA (fun xs=>Qdf (xs++[])) (aCons (eVar 0) (aCons (eA fLen (aCons (eVar 1) aNil)) aNil))) ς))) (sSeq (sIf (tVal (e2 dEq (e2 dMod (eA (fun xs=>QaZ (xs++[])) (aCons (eA (fun xs=>QM (xs++[])) (aCons (eVar 0) (aCons (eC (.int 0)) aNil))) (aCons (eC (.int 60)) aNil))) (eC (.int 4))) (eC (.int 1)))) (sPutO 5 (eC (.int 0)) (e2 dMod (eA (fun xs=>QaZ (xs++[])) (aCons (eA (fun xs=>QM (xs++[])) (aCons (eVar 0) (aCons (eC (.int 0)) aNil))) (aCons (eC (.int 61)) aNil))) (e2 dPow (eC (.int 10)) (eC (.int 9))))) sNil) (sSeq (sIf (tNot' (tVal (eA (fun xs=>Qam (xs++[])) (aCons (eMeth Qw "begin" (fun _=>Qbv) (eVar 3) aNil) (aCons (eVar 4) aNil))))) (sRet (eC (.bl false))) sNil) (sSeq (fun ς=>(sFor (gN 6) (itL (eSl (eVar 0) (oSome (eC (.int 13))) (oSome (eC (.int 53))))) Qfx) (frz 5 ς)) (sRet (eC (.bl true))))))))))
def QmP:List D->Out D:=bodyF false 1 14 QA4
theorem QPo(d0:D):QmP [d0]=(QA4 [some (.k,d0),none,none,none,none,none,none,none,none,none,none,none,none,none]>>=retF false):=rfl
theorem QPs(F:FunV K "law" "law" QY f fd dV)(QJA:DefOk P w K mg base CT "_law_plan" 4 false [] QeD)(QBX:DefOk P w K mg base CT "_law_office" 8 true [] QcL)(QGb:DefOk P w K mg base CT "_law_desks" 3 true [] Qdf)(QiI:DefOk P w K mg base CT "_law_mixed" 1 false [] QaZ)(Qcw:DefOk P w K mg base CT "_law_cell" 1 false [] QM)(Qfl:DefOk P w K mg base CT "_law_wholes" 2 false [] Qam)(QJI:DefOk P w K mg base CT "_law_step" 1 false [] Qek)(QLg:DefT P w K mg base CT "handled" 3 Qfb)(QHb:DefOk P w K mg base CT "_law_right" 3 false [] Qdd)(z_len:mg "len"=none)(z_range:mg "range"=none)(z_list:mg "list"=none)(mt_begin:MtOk P w K mg base CT CX0 "begin" 1 Qw (fun c=>SpD K CT true ((fun _=>Qbv) c))):FnOk P w K mg base CX0 9 f fd ["_law_script"] (SpD K CT false QmP):=
 @fnV P w K mg base CT false "law" "law" QY f fd dV ["_law_script","_law_plan_here","_law_doors","_law_office_here","_law_states","_law_desks_here","_law_cell_here","_law_some","_law_k","_law_due","_law_handed","_law_found","_law_one","_law_out"] ["_law_script"] 8 QA4 F Qcs fun cdv A outer s H E G hr=>
  (Qg (QEc rfl (de_f QJA (hr.mono (by decide)) (Qc (Qb 0 rfl (oi QbS)) (Qc Qd Qj)) QvX) (QaA (i:=1) Qcs.nd rfl (oi QbL) (QaA (i:=2) Qcs.nd rfl (oi QgE) QgL))) (Qg (QW (i:=3) Qcs.nd rfl (oi Qds) (de_f QBX (hr.mono (by decide)) (Qc (Qb 0 rfl (oi QbS)) (Qc (Qb 1 rfl (oi QbL)) (Qc (Qb 2 rfl (oi QgE)) Qj))) Qtu)) (Qg (QoI (i:=4) rfl QHH (DI.b (Qal (Qb 1 rfl (oi QbL)))) (fun ς=>QL (Qz rfl ς)) (Qx _) (fun fp s H G p=>⟨(QC (i:=0) QHH.nd rfl (oi QfS) (hf:=Or.inr QfS)),QT,(de_ix (Qb 0 rfl (oi QfS)) (DE.db Qd))⟩) Qcs.nd rfl (oi QbR)) (Qg (Qb5 (i:=5) Qcs.nd rfl (Or.inr Qax) (df_f QGb (hr.mono (by decide)) (Qc (Qb 0 rfl (oi QbS)) (Qc (Qaw Qsv z_len (QB (DE.db (Qb 1 rfl (oi QbL))) QF)) Qj)) Quy)) (Qg (ds_if (dt_eq hr.units (DE.db (Q0 (DE.db (de_f QiI (hr.mono (by decide)) (Qc (de_f Qcw (hr.mono (by decide)) (Qc (Qb 0 rfl (oi QbS)) (Qc Qd Qj)) QmK) (Qc Qd Qj)) Qls)) (DE.db Qd))) (DE.db Qd)) (Qh (QoL 5 (DE.db Qd) (Q0 (DE.db (de_f QiI (hr.mono (by decide)) (Qc (de_f Qcw (hr.mono (by decide)) (Qc (Qb 0 rfl (oi QbS)) (Qc Qd Qj)) QmK) (Qc Qd Qj)) Qls)) (DE.db (QvF (DE.db Qd) (DE.db Qd)))) rfl (Or.inr (oi Qax)))) QP) (Qg (ds_if (Qat (Qay (de_f Qfl (hr.mono (by decide)) (Qc (Qh0 mt_begin (hr.mono (by decide)) (Qb 3 rfl (oi Qds))) (Qc (Qb 4 rfl (oi QbR)) Qj)) QtK))) (Qh (QD de_bl)) QP) (Qg (QrB 5 (Qcn PassesOwn.never rfl (Qal (DF.de (df_sl (Qb 0 rfl (oi QbS)) (QHq (DE.db Qd)) (QHq (DE.db Qd))))) (QC (i:=6) Qcs.nd rfl (oi QhG)) (Qx _) (Qg (QoI (i:=7) rfl QHm (DI.b (QaF QFV z_range (DE.db (Qaw Qsv z_len (QB (DE.db (Qb 5 rfl (Or.inr (oi Qax)))) QF))))) (fun ς=>QL (Qz rfl ς)) (Qx _) (fun fp s H G p=>⟨(QC (i:=0) QHm.nd rfl (oi Qe8) (hf:=Or.inr Qe8)),(QNG (dt_gt (DE.db (de_ix (Qb 1 rfl (Or.inr (oi QkV))) (DE.db (Qb 0 rfl (oi Qe8))))) (DE.db Qd))),(Qb 0 rfl (oi Qe8))⟩) Qcs.nd rfl (oi Qe4)) (Qg (ds_if (dt_eq hr.units (DE.db (Qb 7 rfl (oi Qe4))) (DE.db (DF.de (QaV Qj)))) (Qh (QD de_bl)) QP) (Qg (QW (i:=8) Qcs.nd rfl (oi QkW) (de_ix (Qb 7 rfl (oi Qe4)) (DE.db (Q0 (DE.db (Qb 6 rfl (oi QhG))) (DE.db (Qaw Qsv z_len (QB (DE.db (Qb 7 rfl (oi Qe4))) QF))))))) (Qg (QW (i:=9) Qcs.nd rfl (oi Qh3) (de_f QJI (hr.mono (by decide)) (Qc (Qb 1 rfl (oi QbL)) (Qc (Qb 2 rfl (oi QgE)) (Qc (Qb 4 rfl (oi QbR)) (Qc (Qb 5 rfl (Or.inr (oi Qax))) (Qc (Qb 8 rfl (oi QkW)) Qj))))) QwP)) (Qg (QW (i:=10) Qcs.nd rfl (oi Qdx) (Qfg (Qc (DF.de (Qcm Qw3 z_list (Qb 4 rfl (oi QbR)))) (Qc (DF.de (Qcm Qw3 z_list (Qb 5 rfl (Or.inr (oi Qax))))) Qj)))) (QLk (i:=11) (j:=12) (by decide) QLg (hr.mono (by decide)) (Qc (Qb 3 rfl (oi Qds)) (Qc (de_ix (Qb 10 rfl (oi Qdx)) (DE.db Qd)) (Qc (de_ix (Qb 10 rfl (oi Qdx)) (DE.db Qd)) (Qc (Qb 8 rfl (oi QkW)) Qj)))) QzR Qcs.nd rfl (oi Qgz) (Qat (Qay (de_f QHb (hr.mono (by decide)) (Qc (Qb 11 rfl (oi Qgz)) (Qc (Qb 9 rfl (oi Qh3)) Qj)) Qu9))) (Qh (QD de_bl)) (QKT Qcs.nd rfl (oi QoQ) (by first | exact .inl rfl | exact .inr rfl) rfl PassesOwn.never (Qda (i:=11) rfl (oi Qgz)) (QID rfl (oi QoQ)) (by intro _;rfl)) (Qg (ds_if (dt_ne hr.units (DE.db (Qb 10 rfl (oi Qdx))) (DE.db (Qfg (Qc (Qb 4 rfl (oi QbR)) (Qc (Qb 5 rfl (Or.inr (oi Qax))) Qj))))) (Qh (QD de_bl)) QP) (Qh (QEc rfl (Qb 9 rfl (oi Qh3)) (QaA (i:=4) Qcs.nd rfl (oi QbR) (QaA (i:=5) Qcs.nd rfl (Or.inr Qax) (QaA (i:=13) Qcs.nd rfl (oi QxI) QgL)))))))))))))) (Qh (QD de_bl)))))))))
end
end My
set_option exponentiation.threshold 20000
namespace My
open PySem PySem.Spec L2 DL
local macro_rules | `(tactic| walk_at "g") => `(tactic| ((repeat (first | exact QOn | apply QO8));done))
local macro_rules | `(tactic| walk_at "s") => `(tactic| repeat (first | exact QLj | apply QJV))
local macro_rules | `(tactic| walk_at "all") => `(tactic| repeat (first | with_reducible exact Qzq | (apply Qy3;focus walk_at "s")))
local macro_rules | `(tactic| walk_at "cap") => `(tactic| repeat (first | exact c_nil | apply Qf6 | (apply c_k;focus walk_at "g") | (apply c_o;focus walk_at "g") | (apply c_l;focus walk_at "g") | (apply c_s;focus walk_at "g")))
local macro_rules | `(tactic| walk_at "b") => `(tactic| first | rfl | with_reducible assumption | (simp only[Bool.not_eq_true',Bool.not_eq_false',decide_eq_true_eq,decide_eq_false_iff_not,Bool.not_true,Bool.not_false];first | with_reducible assumption | omega) | (simp;done))
local macro_rules | `(tactic| walk_at "p") => `(tactic| first | decide | with_reducible assumption | omega)
local macro_rules | `(tactic| walk_at "l") => `(tactic| first | decide | with_reducible assumption | (simp only[List.length_map,List.length_cons,List.length_nil,List.length_range,List.length_append];omega) | omega | (simp;omega))
local macro_rules | `(tactic| walk_at "e") => `(tactic| first
 | ((with_reducible apply r_id);with_reducible assumption)
 | with_reducible exact r_okR | with_reducible exact QM1
 | with_reducible apply r_var | with_reducible apply Qhk | with_reducible exact r_C | with_reducible exact r_nil | with_reducible exact r_oNo | with_reducible exact Qch | with_reducible exact QoH
 | with_reducible exact Qak _ _ | with_reducible exact QcV _ _ | with_reducible exact QeA _ | with_reducible exact Qih _ | with_reducible exact Qb4 _ _ | with_reducible exact QdB _ _ | with_reducible exact Qh7 _ _ | with_reducible exact QkK _ _ | with_reducible exact Qar _ _ | with_reducible exact QeO _ _
 | with_reducible exact QX (by walk_at "p")
 | with_reducible exact r_rt | with_reducible exact r_rtT | with_reducible exact r_rtS rfl
 | with_reducible apply QC5
 | with_reducible exact QLj | with_reducible apply QJV
 | with_reducible exact QOu | with_reducible apply QOj
 | with_reducible exact Qzq | with_reducible apply Qy3
 | with_reducible exact c_nil | with_reducible apply Qf6 | ((with_reducible apply c_k);focus walk_at "g") | ((with_reducible apply c_o);focus walk_at "g") | ((with_reducible apply c_l);focus walk_at "g") | ((with_reducible apply c_s);focus walk_at "g")
 | ((with_reducible apply r_scal);exact rfl)
 | ((with_reducible apply r_get);focus walk_at "g")
 | ((with_reducible apply QOo);with_reducible assumption)
 | ((with_reducible apply QOm);focus walk_at "p") | with_reducible apply QOM | with_reducible apply bd_sub | with_reducible apply QO3 | with_reducible apply bd_div | with_reducible apply bd_neg | with_reducible exact QD9 rfl
 | ((with_reducible apply r_dec);focus exact rfl)
 | ((with_reducible apply r_len);focus walk_at "l")
 | with_reducible apply r_mul
 | ((with_reducible apply r_fdiv);focus walk_at "p")
 | ((with_reducible apply Qi3);focus walk_at "b")
 | ((with_reducible apply QiT);focus walk_at "b")
 | with_reducible apply Qf | with_reducible apply r_e2 | with_reducible apply r_e1 | with_reducible apply r_seq | with_reducible apply r_set | with_reducible apply QdC | with_reducible apply r_if | with_reducible apply Qn | with_reducible apply QaR | with_reducible apply QkQ | with_reducible apply r_or' | with_reducible apply QvT | with_reducible apply QwQ | with_reducible apply r_eOr | with_reducible apply r_eNot | with_reducible apply r_eIf | with_reducible apply r_isa | with_reducible apply QHv | with_reducible apply QJ3 | with_reducible apply r_ret | with_reducible apply Qru | with_reducible apply r_drop | with_reducible apply r_tup | with_reducible apply r_lst | with_reducible apply QDZ | with_reducible apply QsQ | with_reducible apply r_noX | with_reducible apply Qxu | with_reducible apply Qbu | with_reducible apply r_gN | with_reducible apply r_gT | with_reducible apply r_unp | with_reducible apply r_for | with_reducible apply r_itL | with_reducible apply r_itT | with_reducible apply r_itE | with_reducible apply r_itZ | with_reducible apply Q9 | with_reducible apply r_eA | with_reducible apply r_sl | with_reducible apply r_slB | with_reducible apply r_ixO | with_reducible apply r_meth | with_reducible apply QLv | with_reducible apply r_app | with_reducible apply r_put | with_reducible apply Qao | with_reducible apply r_turnT | with_reducible apply QN6 | with_reducible apply QM0 | with_reducible apply r_lm)
abbrev CK:List Str:=Qe
theorem QLa{c:Str}(h:CK.contains c=true):Ql.contains c=true:=by
 have hm:c∈Qe:=by simpa using h
 simp only[Qe,List.mem_cons,List.not_mem_nil,or_false]at hm
 rcases hm with rfl | rfl | rfl | rfl<;>decide +kernel
def dl(r:List Int):D:=.lst (r.map .int)
def tbD(t:List (List Int)):D:=.lst (t.map dl)
theorem Quq{js:List (Option Nat)}{its:SD->Out (List D)}{g:D->SD->Out SD}{e:SD->Out D}{ς:SD}{xs:List D}{h:D->D}(hi:its ς=.ok xs)(ht:∀ x∈xs,turnC js g cTrue e ς x=.ok (some (h x)))(hl:xs.length<=1000):
 eComp js its g cTrue e ς=.ok (.lst (xs.map h)):=by
 unfold eComp
 rw[hi,Out.bind_ok,Qvb (h:=fun x=>some (h x)) ht,Out.bind_ok]
 have e:xs.filterMap (fun x=>some (h x))=xs.map h:=by rw[← List.filterMap_eq_map];rfl
 rw[e,if_pos (QgO (by rw[List.length_map];exact hl))]
theorem QMl{js:List (Option Nat)}{its:SD->Out (List D)}{e:SD->Out D}{ς:SD}{a b:List Int}(f:Int->Int->Int)(hi:its ς=.ok (List.zipWith (fun x y=>.tup [x,y]) (a.map .int) (b.map .int)))
 (ht:∀ x∈a,∀ y∈b,turnC js (gT [0,1]) cTrue e ς (.tup [.int x,.int y])=.ok (some (.int (f x y)))) (hl:a.length<=1000):eComp js its (gT [0,1]) cTrue e ς=.ok (dl (List.zipWith f a b)):=by
 have hz:List.zipWith (fun x y=>D.tup [x,y]) (a.map .int) (b.map .int)=(List.zip a b).map fun p=>D.tup [.int p.1,.int p.2]:=by
  rw[List.zipWith_map,List.map_zip_eq_zipWith]
  rfl
 rw[Quq (h:=fun d=>match d with | .tup [.int x,.int y]=>.int (f x y) | _=>.non) (by rw[hi,hz]) ?_ ?_]
 ·unfold dl
  rw[List.map_map,List.map_zipWith,List.map_zip_eq_zipWith]
  rfl
 ·intro x hx
  obtain⟨⟨p,q⟩,hp,rfl⟩:=List.mem_map.mp hx
  exact ht p (List.of_mem_zip hp).1 q (List.of_mem_zip hp).2
 ·rw[List.length_map,List.length_zip]
  omega
theorem loopL{body:D->SD->Out Fl}{P:Nat->SD->Prop}:∀{xs:List D}(n:Nat),(∀ k x,xs[k]?=some x->∀ ς,P (n+k) ς->∃ ς',body x ς=.ok (.nx ς')/\P (n+k+1) ς')->∀ ς,P n ς->∃ ς',loopD body xs ς=.ok (.nx ς')/\P (n+xs.length) ς'
 | [],n,_,ς,p=>⟨ς,rfl,p⟩
 | x::xs,n,h,ς,p=>by
  obtain⟨ς1,e1',p1⟩:=h 0 x rfl ς p
  obtain⟨ς2,e2',p2⟩:=loopL (xs:=xs) (n+1) (fun k y hy ς q=>by
   have:=h (k+1) y hy ς (by rw[show n+(k+1)=n+1+k by omega];exact q)
   rw[show n+(k+1)+1=n+1+k+1 by omega]at this
   exact this) ς1 p1
  refine⟨ς2,?_,by rw[List.length_cons,show n+(xs.length+1)=n+1+xs.length by omega];exact p2⟩
  rw[loopD,e1']
  exact e2'
def cs(t:List (List Int))(k j:Nat):Int:=((t.take k).map fun r=>r.getD j 0).sum
def pre(t:List (List Int))(m k:Nat):List Int:=(List.range m).map (cs t k)
theorem QML{t:List (List Int)}{m k:Nat}{r:List Int}(hr:t[k]?=some r)(hm:r.length=m):List.zipWith (· + ·) (pre t m k) r=pre t m (k+1):=by
 apply List.ext_getElem?
 intro j
 unfold pre
 rw[List.getElem?_zipWith,List.getElem?_map,List.getElem?_map]
 by_cases hj:j<m
 ·have h1:(List.range m)[j]?=some j:=by simp[hj]
  have h2:r[j]?=some r[j]:=by simp[hm,hj]
  rw[h1,h2]
  show some (cs t k j+r[j])=some (cs t (k+1) j)
  unfold cs
  rw[List.take_add_one,hr]
  simp[hm,hj,List.getD_eq_getElem?_getD]
 ·have h1:(List.range m)[j]?=none:=by simp;omega
  rw[h1];rfl
theorem QMw(t:List (List Int))(m:Nat):pre t m 0=List.replicate m 0:=by
 unfold pre
 rw[List.eq_replicate_iff]
 refine⟨by simp,fun x hx=>?_⟩
 obtain⟨j,_,rfl⟩:=List.mem_map.mp hx
 rfl
structure Tb(t:List (List Int))(m:Nat):Prop where
 n1:1<=t.length
 n2:t.length<=12
 m6:m<=6
 row:∀ r∈t,r.length=m
 ent:∀ r∈t,∀ x∈r,0<=x/\x<=9
theorem QNH{a b:List Int}(hl:a.length<=1000):QdY [dl a,dl b]=.ok (dl (List.zipWith (· + ·) a b)):=by
 have h:=QMl (js:=[none,none]) (its:=itZ (eVar 0) (eVar 1)) (e:=Quf) (ς:=[some (.k,dl a),some (.k,dl b)]) (a:=a) (b:=b) (· + ·) rfl (fun x _ y _=>rfl) hl
 rw[QK3]
 unfold QmA sRetF
 rw[h];rfl
def hdD(t:List (List Int))(m:Nat)(k:Nat):D:=.lst ((List.range (k+1)).map fun i=>dl (pre t m i))
theorem QJq{t:List (List Int)}{m:Nat}(h:Tb t m):Qa6 [tbD t]=.ok (hdD t m t.length):=by
 obtain⟨n1,n2,m6,row,_⟩:=h
 have r0:t[0]?=some t[0]:=by simp
 have hr0:(t[0]).length=m:=row _ (List.getElem_mem _)
 have hix:dIx (tbD t) (.int 0)=.ok (dl t[0]):=ixL 0 (by rw[List.getElem?_map,r0];rfl)
 have hc:eComp [none] (itL (e2 dIx (eVar 0) (eC (.int 0)))) (gN 0) cTrue QgB [some (.k,tbD t),none,none]=.ok (dl (pre t m 0)):=by
  rw[Quq (xs:=(t[0]).map .int) (h:=fun _=>.int 0) (by simp only[itL,e2,eVar,eC,Out.bind_ok,List.getElem?_cons_zero,hix];rfl) (fun x _=>rfl) (by rw[List.length_map];omega)]
  rw[QMw,List.map_map]
  unfold dl
  congr 2
  rw[List.map_replicate]
  exact List.eq_replicate_iff.mpr ⟨by simp[hr0],fun x hx=>by obtain⟨_,_,rfl⟩:=List.mem_map.mp hx;rfl⟩
 obtain⟨ς',hL,a2,rfl⟩:=loopL (body:=fun x ς=>gN 2 x ς>>=fun ς'=>QcT ς') (xs:=t.map dl) (P:=fun k ς=>∃ a2,ς=[some (.k,tbD t),some (.o,hdD t m k),a2]) 0
  (by
   rintro k x hx ς ⟨a2,rfl⟩
   rw[Nat.zero_add]at *
   rw[List.getElem?_map]at hx
   cases ht:t[k]? with
   | none=>rw[ht]at hx;cases hx
   | some r=>
    rw[ht]at hx
    cases hx
    have hk:k<t.length:=(List.getElem?_eq_some_iff.mp ht).1
    have hrm:r.length=m:=row r (List.mem_of_getElem? ht)
    have hl:(pre t m k).length=m:=by simp[pre]
    have s:=QNH (a:=pre t m k) (b:=r) (by omega)
    rw[QML ht hrm]at s
    have hat:atI ((List.range (k+1)).map fun i=>dl (pre t m i)) (-1)=some (dl (pre t m k)):=by
     unfold atI ixN
     simp
     rw[if_pos (by omega),show((-1:Int)+((k:Int)+1)).toNat=k by omega]
     simp
    refine⟨[some (.k,tbD t),some (.o,hdD t m (k+1)),some (.k,dl r)],?_,_,rfl⟩
    have e1':eIxO 1 (e1 dNeg (eC (.int 1))) [some (.k,tbD t),some (.o,hdD t m k),some (.k,dl r)]=.ok (dl (pre t m k)):=by
     unfold eIxO hdD
     simp only[List.getElem?_cons_succ,List.getElem?_cons_zero,e1,eC,Out.bind_ok,QeA,hat];rfl
    have hlt:decide (((List.range (k+1)).map fun i=>dl (pre t m i)).length<sizeLine)=true:=by
     have:(1000:Nat)<=sizeLine:=by decide
     rw[List.length_map,List.length_range]
     exact decide_eq_true (by omega)
    have hnext:((List.range (k+1)).map fun i=>dl (pre t m i))++[dl (pre t m (k+1))]=(List.range (k+1+1)).map fun i=>dl (pre t m i):=by
     rw[List.range_succ (n:=k+1),List.map_append];rfl
    show QcT [some (.k,tbD t),some (.o,hdD t m k),some (.k,dl r)]=_
    unfold QcT QcF
    simp only[List.getElem?_cons_succ,List.getElem?_cons_zero,hdD]
    have e3':eA (fun xs=>QdY (xs++[])) (aCons (eIxO 1 (e1 dNeg (eC (.int 1)))) (aCons (eVar 2) aNil)) [some (.k,tbD t),some (.o,hdD t m k),some (.k,dl r)]=.ok (dl (pre t m (k+1))):=by
     simp only[eA,aCons,aNil,e1',eVar,Out.bind_ok,List.getElem?_cons_succ,List.getElem?_cons_zero,List.append_nil,s]
    rw[show(D.lst ((List.range (k+1)).map fun i=>dl (pre t m i)))=hdD t m k from rfl,e3',Out.bind_ok,if_pos hlt,hnext]
    rfl)
  [some (.k,tbD t),some (.o,hdD t m 0),none] ⟨_,rfl⟩
 rw[Nat.zero_add,List.length_map]at hL
 have hfor:=Qb7 (g:=gN 2) (its:=itL (eVar 0)) (T:=QcT) (ς:=[some (.k,tbD t),some (.o,hdD t m 0),none]) (xs:=t.map dl) rfl hL
 rw[Qye]
 unfold Qfw
 have hs:sSetO 1 (eLst (aCons (eComp [none] (itL (e2 dIx (eVar 0) (eC (.int 0)))) (gN 0) cTrue QgB) aNil)) [some (.k,tbD t),none,none]=.ok (.nx [some (.k,tbD t),some (.o,hdD t m 0),none]):=by
  simp only[sSetO,eLst,aCons,aNil,hc,Out.bind_ok,List.length_cons,List.length_nil,Qc7,Nat.reduceAdd,Nat.reduceLeDiff,if_true];rfl
 simp only[sSeq,hs,Out.bind_ok,thenF,hfor]
 rfl
def ckF(t:List (List Int))(m:Nat):List (Str×D):=[("table",tbD t),("heads",hdD t m t.length)]
def ck(c:Str)(t:List (List Int))(m:Nat):D:=.ins c (ckF t m)
theorem QOh(t:List (List Int))(m:Nat):(ckF t m).lookup ("table":Str)=some (tbD t):=by
 unfold ckF;rw[List.lookup_cons,beq_self_eq_true]
theorem QMS{n:Str}(h1:(n == ("table":Str))=false)(h2:(n == ("heads":Str))=false)(t:List (List Int))(m:Nat):(ckF t m).lookup n=none:=by
 unfold ckF;rw[List.lookup_cons,h1,List.lookup_cons,h2];rfl
theorem put_h(t:List (List Int))(m:Nat):putD "heads" (hdD t m t.length) [("table",tbD t)]=ckF t m:=by
 have:¬ (("table":Str)=("heads":Str)):=dk
 unfold putD
 rw[if_neg this];rfl
theorem Qtd{c:Str}(hc:CK.contains c=true){t:List (List Int)}{m:Nat}(h:Tb t m):QN c [] [tbD t]=.ok (ckF t m):=by
 have hk:eComp [none] (itL (eVar 1)) (gN 0) cTrue QeU [some (.s,.ins c []),some (.k,tbD t)]=.ok (tbD t):=by
  rw[Quq (xs:=t.map dl) (h:=id) rfl ?_ (by rw[List.length_map];have:=h.n2;omega),List.map_id]
  ·rfl
  ·intro x hx
   obtain⟨r,_,rfl⟩:=List.mem_map.mp hx
   rfl
 have r1:=QJq h
 have hz:∀ n:Nat,n<10->(Ql.contains c&&decide (n<1000))=true:=fun n hn=>by rw[QLa hc,Bool.true_and];exact decide_eq_true (by omega)
 have s1:sFldS Ql "table" 0 (eComp [none] (itL (eVar 1)) (gN 0) cTrue QeU) [some (.s,.ins c []),some (.k,tbD t)]=.ok (.nx [some (.s,.ins c [("table",tbD t)]),some (.k,tbD t)]):=by
  unfold sFldS
  rw[hk,Out.bind_ok]
  show(if (Ql.contains c&&decide (([]:List (Str×D)).length<1000))=true then _ else _)=_
  exact(if_pos (c:=(Ql.contains c&&decide (0<1000))=true) (hz 0 (by decide))).trans rfl
 have s2:sFldS Ql "heads" 0 (eA (fun xs=>Qa6 (xs++[])) (aCons (eVar 1) aNil)) [some (.s,.ins c [("table",tbD t)]),some (.k,tbD t)]=.ok (.nx [some (.s,.ins c (ckF t m)),some (.k,tbD t)]):=by
  unfold sFldS
  have:eA (fun xs=>Qa6 (xs++[])) (aCons (eVar 1) aNil) [some (.s,.ins c [("table",tbD t)]),some (.k,tbD t)]=.ok (hdD t m t.length):=by
   simp only[eA,aCons,aNil,eVar,Out.bind_ok,List.getElem?_cons_succ,List.getElem?_cons_zero,List.append_nil,r1]
  rw[this,Out.bind_ok]
  show(if (Ql.contains c&&decide ([(("table":Str),tbD t)].length<1000))=true then _ else _)=_
  refine(if_pos (c:=(Ql.contains c&&decide (1<1000))=true) (hz 1 (by decide))).trans ?_
  rw[put_h];rfl
 rw[Qtr]
 unfold Qdz
 simp only[sSeq,s1,QPd,Out.bind_ok,thenF,s2]
 simp only[Qfo,Qrx,List.getElem?_cons_zero,if_true]
theorem Qte{c:Str}(hc:CK.contains c=true){t:List (List Int)}{m:Nat}{n:Str}{mt:Str->List D->Out D}{O:SD->Out D}{A:SD->Out (List D)}{ς:SD}{xs:List D}(hO:O ς=.ok (ck c t m))(hA:A ς=.ok xs)(h1:(n == ("table":Str))=false)(h2:(n == ("heads":Str))=false):
 eMeth CK n mt O A ς=mt c (ck c t m::xs):=by
 unfold eMeth
 rw[hO,Out.bind_ok]
 show(if (CK.contains c&&((ckF t m).lookup n).isNone)=true then A ς>>=fun xs=>mt c (.ins c (ckF t m)::xs) else .stuck)=_
 simp only[QMS h1 h2,hc,Option.isNone_none,Bool.and_self,if_true,hA,Out.bind_ok]
 rfl
theorem fld_t{c:Str}(hc:CK.contains c=true)(t:List (List Int))(m:Nat):dFld Ql "table" (ck c t m)=.ok (tbD t):=by
 show(if Ql.contains c=true then optO ((ckF t m).lookup ("table":Str)) else .stuck)=_
 rw[if_pos (QLa hc),QOh];rfl
theorem Qzt{c:Str}(hc:CK.contains c=true)(t:List (List Int))(m:Nat):QaB [ck c t m]=.ok (.int (t.length:Int)):=by
 have:fLen [tbD t]=.ok (.int (t.length:Int)):=by simp[fLen,tbD]
 simp only[Qx8,QfE,sRet,eA,aCons,aNil,e1,eVar,List.getElem?_cons_zero,Out.bind_ok,fld_t hc,this]
 rfl
theorem Qzg(i:Int):Qeu [.int i]=.ok (.bl true):=by
 rw[QId];simp[Qkn,bodyF,retF,sSeq,thenF,sSet,sRet,sIf,sNil,eVar,eC,e1,e2,eA,f1,aNil,aCons,tVal,tAnd',tOr',tNot',eAnd,eOr,eNot,eIf,eTup,eLst,eIsa,isaT,Qct,oNo,oSome,sPar,sUnp,QaI,gN,gT,fLen,Qc7,Out.bind_ok,Out.bind_exc,Out.bind_stuck,Out.pure_eq,D.scal,Qak,QcV,QeA,Qih,Qb4,QdB,Qh7,QkK,Qar,QeO,List.length_cons,List.length_nil,List.map_cons,List.map_nil,List.cons_append,List.nil_append,List.append_nil,List.getElem?_cons_zero,List.getElem?_cons_succ,List.set_cons_zero,List.set_cons_succ,List.replicate,Nat.reduceAdd,Nat.reduceSub,Nat.reduceLeDiff,Nat.zero_add,Nat.add_zero,reduceIte,Bool.not_true,Bool.not_false,Bool.true_and,Bool.and_true,Bool.false_and,Bool.and_false,Bool.or_true,Bool.true_or,Bool.or_false,Bool.false_or,Bool.false_eq_true,decide_true,decide_false,decide_eq_true_eq,Bool.not_eq_true',decide_eq_false_iff_not,Int.reduceEq,Int.reduceLT,Int.reduceLE,Int.reduceNeg,Nat.reduceEqDiff, ↓reduceIte,not_true_eq_false,not_false_eq_true]
theorem QmE{i a b:Int}(h1:a<=i)(h2:i<=b):Qac [.int i,.int a,.int b]=.ok (.bl true):=by
 have hw:=Qzg i
 have e1':decide (a<=i)=true:=decide_eq_true h1
 have e2':decide (i<=b)=true:=decide_eq_true h2
 rw[Qt2]
 simp[Qf1,bodyF,retF,sSeq,thenF,sSet,sRet,sIf,sNil,eVar,eC,e1,e2,eA,f1,aNil,aCons,tVal,tAnd',tOr',tNot',eAnd,eOr,eNot,eIf,eTup,eLst,eIsa,isaT,Qct,oNo,oSome,sPar,sUnp,QaI,gN,gT,fLen,Qc7,Out.bind_ok,Out.bind_exc,Out.bind_stuck,Out.pure_eq,D.scal,Qak,QcV,QeA,Qih,Qb4,QdB,Qh7,QkK,Qar,QeO,List.length_cons,List.length_nil,List.map_cons,List.map_nil,List.cons_append,List.nil_append,List.append_nil,List.getElem?_cons_zero,List.getElem?_cons_succ,List.set_cons_zero,List.set_cons_succ,List.replicate,Nat.reduceAdd,Nat.reduceSub,Nat.reduceLeDiff,Nat.zero_add,Nat.add_zero,reduceIte,Bool.not_true,Bool.not_false,Bool.true_and,Bool.and_true,Bool.false_and,Bool.and_false,Bool.or_true,Bool.true_or,Bool.or_false,Bool.false_or,Bool.false_eq_true,decide_true,decide_false,decide_eq_true_eq,Bool.not_eq_true',decide_eq_false_iff_not,Int.reduceEq,Int.reduceLT,Int.reduceLE,Int.reduceNeg,Nat.reduceEqDiff, ↓reduceIte,not_true_eq_false,not_false_eq_true,hw,Qc9,h1,h2]
theorem QDl{r:List Int}(hl:r.length<=6)(h:∀ x∈r,0<=x/\x<=9):QeB [dl r]=.ok (.bl true):=by
 have hlen:fLen [dl r]=.ok (.int (r.length:Int)):=by simp[fLen,dl]
 have hc:eComp [none] (itL (eVar 0)) (gN 0) cTrue QpH [some (.k,dl r)]=.ok (.lst (r.map fun _=>D.bl true)):=by
  refine Qas D.int (fun _=>.bl true) rfl (fun x hx=>?_) (by omega)
  have hw:=QmE (h x hx).1 (h x hx).2
  refine Qao (by walk_at "cap") (by walk_at "s") ?_
  unfold QpH
  (repeat walk_at "e")
 have ha:fAll (.lst (r.map fun _=>D.bl true))=.ok (.bl true):=by rw[Qh8 (fun _=>true)];simp
 have hf:f1 fAll [.lst (r.map fun _=>D.bl true)]=.ok (.bl true):=ha
 have hi:isaT "list" (dl r)=.ok true:=by simp[isaT,dl,Qct]
 have hg:decide ((6:Int)<(r.length:Int))=false:=decide_eq_false (by omega)
 rw[QMt]
 unfold QqC
 (repeat walk_at "e")
theorem QHN{t:List (List Int)}{m:Nat}(h:Tb t m):Qea [tbD t]=.ok (.bl true):=by
 obtain⟨n1,n2,m6,row,ent'⟩:=h
 have hlen:fLen [tbD t]=.ok (.int (t.length:Int)):=by simp[fLen,tbD]
 have hc:eComp [none] (itL (eVar 0)) (gN 0) cTrue QlQ [some (.k,tbD t)]=.ok (.lst (t.map fun _=>D.bl true)):=by
  refine Qas dl (fun _=>.bl true) rfl (fun x hx=>?_) (by omega)
  have hw:=QDl (r:=x) (by rw[row x hx];exact m6) (ent' x hx)
  refine Qao (by walk_at "cap") (by walk_at "s") ?_
  unfold QlQ
  (repeat walk_at "e")
 have r0:t[0]?=some t[0]:=by simp
 have hr0:(t[0]).length=m:=row _ (List.getElem_mem _)
 have hix0:dIx (tbD t) (.int 0)=.ok (dl t[0]):=ixL 0 (by rw[List.getElem?_map,r0];rfl)
 have hl0:fLen [dl t[0]]=.ok (.int (m:Int)):=by simp[fLen,dl,hr0]
 have hc2:eComp [none,some 0] (itL (eVar 0)) (gN 0) cTrue QlR [some (.k,tbD t)]=.ok (.lst (t.map fun _=>D.bl true)):=by
  refine Qas dl (fun _=>.bl true) rfl (fun x hx=>?_) (by omega)
  have hlx:fLen [dl x]=.ok (.int (m:Int)):=by simp[fLen,dl,row x hx]
  have he:dEq (.int (m:Int)) (.int (m:Int))=.ok (.bl true):=by rw[Qar];simp
  refine Qao (by walk_at "cap") (by walk_at "s") ?_
  unfold QlR
  (repeat walk_at "e")
 have ha:fAll (.lst (t.map fun _=>D.bl true))=.ok (.bl true):=by rw[Qh8 (fun _=>true)];simp
 have hf:f1 fAll [.lst (t.map fun _=>D.bl true)]=.ok (.bl true):=ha
 have hi:isaT "list" (tbD t)=.ok true:=by simp[isaT,tbD,Qct]
 have hg:decide ((1:Int)<=(t.length:Int))=true:=decide_eq_true (by omega)
 have hg2:decide ((t.length:Int)<=12)=true:=decide_eq_true (by omega)
 rw[QIc]
 unfold Qkx
 (repeat walk_at "e")
theorem QKb{c:Str}(hc:CK.contains c=true){t:List (List Int)}{m:Nat}(h:Tb t m):Qdw c [] [tbD t]=.ok (ckF t m):=by
 have h1:=QHN h
 have h2:=Qtd hc h
 rw[QGL]
 unfold QiQ
 (repeat walk_at "e")
theorem QKX{c:Str}(hc:CK.contains c=true){r:List Int}{m:Nat}(h:Tb [r] m):Qdl c [] [dl r]=.ok (ckF [r] m):=by
 have h1:=QDl (r:=r) (by rw[h.row r (by simp)];exact h.m6) (h.ent r (by simp))
 have h2:QN c [] [.lst [dl r]]=.ok (ckF [r] m):=Qtd hc h
 rw[QF2]
 unfold QiG
 (repeat walk_at "e")
def one(n s:Nat):List Int:=(List.range n).map fun k=>if k=s then 1 else 0
def dealT(n:Nat):List (List Int):=(List.range n).map (one n)
def bunT(n:Nat):List (List Int):=(List.range n).map fun s=>[if s+1=n then 1 else 0]
theorem QKY{n s:Nat}(h:n<=100):QcN [.int n,.int s]=.ok (dl (one n s)):=by
 have hc:eComp [none,some 1] (itR1 (eVar 0)) (gN 0) cTrue Qik [some (.k,.int n),some (.k,.int s)]=.ok (.lst ((List.range n).map fun k=>D.int (if k=s then 1 else 0))):=by
  refine QkT (fun k=>D.int (if k=s then 1 else 0)) (Qce n rfl (by omega)) (fun k hk=>?_) (by omega)
  refine Qao (by walk_at "cap") (by walk_at "s") ?_
  unfold Qik
  by_cases e:k=s
  ·have e':decide ((k:Int)=(s:Int))=true:=decide_eq_true (by omega)
   rw[if_pos e]
   (repeat walk_at "e")
  ·have e':decide ((k:Int)=(s:Int))=false:=decide_eq_false (by omega)
   rw[if_neg e]
   (repeat walk_at "e")
 have he:dl (one n s)=.lst ((List.range n).map fun k=>D.int (if k=s then 1 else 0)):=by unfold dl one;rw[List.map_map];rfl
 rw[he,QBL]
 unfold Qhn
 (repeat walk_at "e")
theorem QHj{n:Nat}(h1:1<=n)(h6:n<=6):Tb (dealT n) n:=by
 refine⟨by simp[dealT];omega,by simp[dealT];omega,h6,fun r hr=>?_,fun r hr x hx=>?_⟩<;>obtain⟨s,_,rfl⟩:=List.mem_map.mp hr
 ·simp[one]
 ·obtain⟨k,_,rfl⟩:=List.mem_map.mp hx
  split<;>decide
theorem QKG{n:Nat}(h1:1<=n)(h6:n<=12):Tb (bunT n) 1:=by
 refine⟨by simp[bunT];omega,by simp[bunT];omega,by decide,fun r hr=>?_,fun r hr x hx=>?_⟩<;>obtain⟨s,_,rfl⟩:=List.mem_map.mp hr
 ·simp
 ·rw[List.mem_singleton.mp hx]
  split<;>decide
theorem QJU{c:Str}(hc:CK.contains c=true){n:Nat}(n1:1<=n)(n6:n<=6):Qdi c [] [.int n]=.ok (ckF (dealT n) n):=by
 have h1:=QmE (i:=n) (a:=1) (b:=6) (by omega) (by omega)
 have h2:=Qtd hc (QHj n1 n6)
 have hc':eComp [none,some 1] (itR1 (eVar 1)) (gN 0) cTrue Qjx [some (.s,.ins c []),some (.k,.int n)]=.ok (tbD (dealT n)):=by
  have he:tbD (dealT n)=.lst ((List.range n).map fun s=>dl (one n s)):=by unfold tbD dealT;rw[List.map_map];rfl
  rw[he]
  refine QkT (fun s=>dl (one n s)) (Qce n rfl (by omega)) (fun k hk=>?_) (by omega)
  have hs:=QKY (n:=n) (s:=k) (by omega)
  refine Qao (by walk_at "cap") (by walk_at "s") ?_
  unfold Qjx
  (repeat walk_at "e")
 rw[QGH]
 unfold QiL
 (repeat walk_at "e")
theorem QMm{c:Str}(hc:CK.contains c=true){n:Nat}(n1:1<=n)(n6:n<=12):Qcp c [] [.int n]=.ok (ckF (bunT n) 1):=by
 have h1:=QmE (i:=n) (a:=1) (b:=12) (by omega) (by omega)
 have h2:=Qtd hc (QKG n1 n6)
 have hc':eComp [none,some 1] (itR1 (eVar 1)) (gN 0) cTrue QhC [some (.s,.ins c []),some (.k,.int n)]=.ok (tbD (bunT n)):=by
  have he:tbD (bunT n)=.lst ((List.range n).map fun s=>D.lst [.int (if s+1=n then 1 else 0)]):=by unfold tbD bunT;rw[List.map_map];rfl
  rw[he]
  refine QkT (fun s=>D.lst [.int (if s+1=n then 1 else 0)]) (Qce n rfl (by omega)) (fun k hk=>?_) (by omega)
  refine Qao (by walk_at "cap") (by walk_at "s") ?_
  unfold QhC
  by_cases e:k+1=n
  ·have e':decide ((k:Int)=(n:Int) - 1)=true:=decide_eq_true (by omega)
   rw[if_pos e]
   (repeat walk_at "e")
  ·have e':decide ((k:Int)=(n:Int) - 1)=false:=decide_eq_false (by omega)
   rw[if_neg e]
   (repeat walk_at "e")
 rw[QAt]
 unfold Qgs
 (repeat walk_at "e")
abbrev rl(n:Nat)(f:Nat->D):D:=.lst ((List.range n).map f)
theorem atR{n i:Nat}{f:Nat->D}(h:i<n):((List.range n).map f)[i]?=some (f i):=by
 rw[List.getElem?_map,List.getElem?_range h];rfl
theorem ixR{n i:Nat}{f:Nat->D}(h:i<n):dIx (rl n f) (.int (i:Int))=.ok (f i):=ixL i (atR h)
theorem lenR(n:Nat)(f:Nat->D):fLen [rl n f]=.ok (.int (n:Int)):=by simp[fLen]
theorem Qfd{n:Nat}{f g:Nat->D}(h:∀ i,i<n->f i=g i):rl n f=rl n g:=by
 show D.lst _=D.lst _
 rw[List.map_congr_left fun i hi=>h i (List.mem_range.mp hi)]
theorem QpJ{body:D->SD->Out Fl}{P:Nat->SD->Prop}{f:Nat->D}{n:Nat}(h:∀ k:Nat,k<n->∀ ς,P k ς->∃ ς',body (f k) ς=.ok (.nx ς')/\P (k+1) ς')(ς:SD)(p0:P 0 ς):∃ ς',loopD body ((List.range n).map f) ς=.ok (.nx ς')/\P n ς':=by
 have go:∀ m k:Nat,k+m=n->∀ ς,P k ς->∃ ς',loopD body ((List.range' k m).map f) ς=.ok (.nx ς')/\P n ς':=by
  intro m
  induction m with
  | zero=>intro k hk ς p;exact⟨ς,rfl,by rw[← hk];exact p⟩
  | succ m ih=>
   intro k hk ς p
   obtain⟨ς1,e1',p1⟩:=h k (by omega) ς p
   obtain⟨ς2,e2',p2⟩:=ih (k+1) (by omega) ς1 p1
   refine⟨ς2,?_,p2⟩
   rw[List.range'_succ,List.map_cons,loopD,e1']
   exact e2'
 rw[List.range_eq_range']
 exact go n 0 (by omega) ς p0
theorem setR{n k:Nat}(hk:k<n)(f:Nat->D)(v:D):((List.range n).map f).set k v=(List.range n).map fun i=>if i=k then v else f i:=by
 apply List.ext_getElem?
 intro i
 rw[List.getElem?_set]
 by_cases hi:i<n
 ·have r1:((List.range n).map fun i=>if i=k then v else f i)[i]?=some (if i=k then v else f i):=atR hi
  rw[r1]
  by_cases e:k=i
  ·subst e
   rw[if_pos rfl,if_pos (by simpa using hi),if_pos rfl]
  ·rw[if_neg e,atR hi,if_neg (Ne.symm e)]
 ·have h1:((List.range n).map f)[i]?=none:=by simp;omega
  have h2:((List.range n).map fun i=>if i=k then v else f i)[i]?=none:=by simp;omega
  rw[h1,h2,if_neg (by omega)]
theorem ixNR{n k:Nat}(hk:k<n)(f:Nat->D):ixN ((List.range n).map f).length (k:Int)=some k:=by
 rw[List.length_map,List.length_range]
 unfold ixN
 rw[if_pos (by omega),if_pos (by omega)];simp
theorem allR{n:Nat}{f:Nat->D}(h:∀ i,i<n->(f i).scal=true):((List.range n).map f).all D.scal=true:=List.all_eq_true.mpr fun d hd=>by
 obtain⟨i,hi,rfl⟩:=List.mem_map.mp hd
 exact h i (List.mem_range.mp hi)
theorem QDh:∀ xs:List Str,strsD (xs.map D.str)=some xs
 | []=>rfl
 | x::xs=>by show(strsD (xs.map D.str)).map (x :: ·)=_;rw[QDh xs];rfl
def Inj(xs:List Str):Prop:=∀ i j,i<xs.length->xs[i]?=xs[j]?->i=j
theorem QDf{xs:List Str}(h:Inj xs):∀ i,i<=xs.length->LS.met (fun i=>xs.getD i "") i=xs.take i
 | 0,_=>rfl
 | i+1,hi=>by
  have ih:=QDf h i (by omega)
  have hl:i<xs.length:=by omega
  have e:xs.getD i ""=xs[i]:=by rw[List.getD_eq_getElem?_getD,List.getElem?_eq_getElem hl];rfl
  have ni:¬ xs[i]∈xs.take i:=fun z=>by
   obtain⟨j,hj,ej⟩:=List.getElem_of_mem z
   rw[List.getElem_take]at ej
   rw[List.length_take]at hj
   have:=h i j (by omega) (by rw[List.getElem?_eq_getElem hl,List.getElem?_eq_getElem (show j<xs.length by omega),ej])
   omega
  show(if xs.getD i ""∈LS.met (fun i=>xs.getD i "") i then LS.met (fun i=>xs.getD i "") i else LS.met (fun i=>xs.getD i "") i++[xs.getD i ""])=_
  rw[ih,e,if_neg ni,List.take_add_one,List.getElem?_eq_getElem hl];rfl
theorem Qst{xs:List Str}(h:Inj xs)(hl:xs.length<=1000):Qag [.lst (xs.map .str)]=.ok (.bl true):=by
 have hu:QxZ (.lst (xs.map .str))=.ok (.int (xs.length:Int)):=by
  show(match strsD (xs.map .str) with | some xs=>if decide (xs.length<4000)=true then Out.ok (D.int (QeK xs)) else .stuck | none=>.stuck)=_
  rw[QDh]
  show(if decide (xs.length<4000)=true then Out.ok (D.int (QeK xs)) else .stuck)=_
  rw[if_pos (decide_eq_true (by omega))]
  unfold QeK
  rw[QDf h _ (Nat.le_refl _),List.take_length]
 have hlen:fLen [.lst (xs.map D.str)]=.ok (.int (xs.length:Int)):=by simp[fLen]
 have he:dEq (.int (xs.length:Int)) (.int (xs.length:Int))=.ok (.bl true):=by rw[Qar];simp
 rw[QB5]
 unfold Qg3
 (repeat walk_at "e")
theorem Qp4{n:Nat}{f:Nat->D}{M:Int}(h1:1<=n)(h2:(n:Int)<=M):QbV [rl n f,.int M]=.ok (.bl true):=by
 have hlen:=lenR n f
 have hi:isaT "list" (rl n f)=.ok true:=by simp[isaT,Qct]
 have g1:decide ((1:Int)<=(n:Int))=true:=decide_eq_true (by omega)
 have g2:decide ((n:Int)<=M)=true:=decide_eq_true h2
 have g3:dLe (.int (n:Int)) (.int M)=.ok (.bl true):=by rw[QdB,g2]
 rw[QKv]
 unfold Qms
 (repeat walk_at "e")
theorem Qqi(n:Nat):f1 fAll [rl n (fun _=>.bl true)]=.ok (.bl true):=by
 show fAll (.lst ((List.range n).map fun _=>D.bl true))=_
 rw[Qh8 (fun _=>true)];simp
theorem Qsw(n:Nat)(f:Nat->Str):(List.range n).map (fun i=>D.str (f i))=((List.range n).map f).map D.str:=by rw[List.map_map];rfl
theorem QNF{n:Nat}{f:Nat->Str}(h:∀ i j,i<n->j<n->f i=f j->i=j):Inj ((List.range n).map f):=by
 intro i j hi z
 rw[List.length_map,List.length_range]at hi
 rw[List.getElem?_map,List.getElem?_map,List.getElem?_range hi]at z
 by_cases hj:j<n
 ·rw[List.getElem?_range hj]at z
  exact h i j hi hj (Option.some.inj z)
 ·have h1:(List.range n)[j]?=none:=by simp;omega
  rw[h1]at z;cases z
structure Seats(n nd:Nat)(nm dn c:Nat->Str)(t:Nat->List (List Int))(m:Nat->Nat)(ld:Nat->Nat->Int)(st:Nat->Int):Prop where
 n1:1<=n
 n2:n<=60
 d1:1<=nd
 d2:nd<=6
 ck:∀ k,k<n->CK.contains (c k)=true
 tb:∀ k,k<n->Tb (t k) (m k)
 ldr:∀ k j,k<n->j<m k -> -(nd:Int)<=ld k j/\ld k j<(n:Int)
 str:∀ k,k<n->0<=st k/\st k<((t k).length:Int)
 isn:∀ k,k<n->QaO [.str (nm k)]=.ok (.bl true)
 isd:∀ d,d<nd->QaO [.str (dn d)]=.ok (.bl true)
 inj:∀ i j,i<n->j<n->nm i=nm j->i=j
 injd:∀ i j,i<nd->j<nd->dn i=dn j->i=j
 sep:∀ i d,i<n->d<nd->nm i≠dn d
def nml(nm dn:Nat->Str)(l:Int):Str:=if l<0 then dn (-1 - l).toNat else nm l.toNat
def seatD(nm dn c:Nat->Str)(t:Nat->List (List Int))(m:Nat->Nat)(ld:Nat->Nat->Int)(st:Nat->Int)(k:Nat):D:=
 .tup [.str (nm k),ck (c k) (t k) (m k),rl (m k) (fun j=>.str (nml nm dn (ld k j))),.int (st k)]
theorem ix_t{xs:List D}{d:D}(i:Nat)(h:xs[i]?=some d):dIx (.tup xs) (.int (i:Int))=.ok d:=by
 show optO (atI xs (i:Int))=_
 have hi:i<xs.length:=(List.getElem?_eq_some_iff.mp h).1
 have:atI xs (i:Int)=some d:=by
  unfold atI ixN
  rw[if_pos (by omega),if_pos (by omega)]
  simpa using h
 rw[this];rfl
theorem QMM{c:Str}(hc:CK.contains c=true)(t:List (List Int))(m:Nat):Qex [ck c t m]=.ok (.bl true):=by
 have hm:c∈Qe:=by simpa using hc
 simp only[Qe,List.mem_cons,List.not_mem_nil,or_false]at hm
 have key:∀ c:Str,(c="Deal"∨c="Bundle"∨c="Copy"∨c="Rows")->anyT [[("Deal",true),("Bundle",false),("Copy",false),("Rows",false),("Office",false)],[("Deal",false),("Bundle",true),("Copy",false),("Rows",false),("Office",false)],[("Deal",false),("Bundle",false),("Copy",true),("Rows",false),("Office",false)],[("Deal",false),("Bundle",false),("Copy",false),("Rows",true),("Office",false)]] c=some true:=by
  rintro c (rfl | rfl | rfl | rfl)<;>decide +kernel
 have k:=key c hm
 rw[QHL]
 unfold QkI
 show(sRet (eIsa (isaTs _) (eVar 0)) [some (.k,.ins c (ckF t m))]>>=retF false)=_
 have hi:isaTs [[("Deal",true),("Bundle",false),("Copy",false),("Rows",false),("Office",false)],[("Deal",false),("Bundle",true),("Copy",false),("Rows",false),("Office",false)],[("Deal",false),("Bundle",false),("Copy",true),("Rows",false),("Office",false)],[("Deal",false),("Bundle",false),("Copy",false),("Rows",true),("Office",false)]] (.ins c (ckF t m))=.ok true:=by
  show(match anyT _ c with | some b=>Out.ok b | none=>Out.stuck)=_
  rw[k]
 (repeat walk_at "e")
theorem QNi{c:Str}(hc:CK.contains c=true){t:List (List Int)}{m:Nat}(h:Tb t m):Qcd [ck c t m]=.ok (.int (m:Int)):=by
 have n1:=h.n1
 have r0:t[0]?=some t[0]:=by simp
 have hix:dIx (tbD t) (.int 0)=.ok (dl t[0]):=ixL 0 (by rw[List.getElem?_map,r0];rfl)
 have hl0:fLen [dl t[0]]=.ok (.int (m:Int)):=by simp[fLen,dl,h.row _ (List.getElem_mem _)]
 have hf:=fld_t hc t m
 rw[QCK]
 unfold Qhr
 (repeat walk_at "e")
theorem QMH{n:Nat}(hn:n<=100)(f:Nat->Str):Qdj [rl n (fun j=>.str (f j)),.int (n:Int)]=.ok (.bl true):=by
 have hlen:=lenR n (fun j=>D.str (f j))
 have hi:isaT "list" (rl n (fun j=>D.str (f j)))=.ok true:=by simp[isaT,Qct]
 have hc:eComp [none] (itL (eVar 0)) (gN 0) cTrue QjP [some (.k,rl n (fun j=>.str (f j))),some (.k,.int (n:Int))]=.ok (rl n (fun _=>.bl true)):=by
  refine Qas (fun j=>D.str (f j)) (fun _=>.bl true) rfl (fun j _=>?_) (by rw[List.length_range];omega)
  have hs:isaT "str" (D.str (f j))=.ok true:=by simp[isaT,Qct]
  refine Qao (by walk_at "cap") (by walk_at "s") ?_
  unfold QjP
  (repeat walk_at "e")
 have he:dEq (.int (n:Int)) (.int (n:Int))=.ok (.bl true):=by rw[Qar];simp
 have ha:=Qqi n
 rw[QGX]
 unfold QiM
 (repeat walk_at "e")
theorem QNA:QaO [.str "in"]=.ok (.bl true):=by with_unfolding_all rfl
section
variable{n nd:Nat}{nm dn c:Nat->Str}{t:Nat->List (List Int)}{m:Nat->Nat}{ld:Nat->Nat->Int}{st:Nat->Int}(hs:Seats n nd nm dn c t m ld st)
include hs
theorem QMF:Qdp [rl nd (fun d=>.str (dn d)),.int 6]=.ok (.bl true):=by
 have d2:=hs.d2
 have h1:=Qp4 (n:=nd) (f:=fun d=>.str (dn d)) (M:=6) hs.d1 (by omega)
 have hc:eComp [none] (itL (eVar 0)) (gN 0) cTrue Qjj [some (.k,rl nd (fun d=>.str (dn d))),some (.k,.int 6)]=.ok (rl nd (fun _=>.bl true)):=by
  refine Qas (fun d=>D.str (dn d)) (fun _=>.bl true) rfl (fun d hd=>?_) (by rw[List.length_range];omega)
  have h:=hs.isd d (List.mem_range.mp hd)
  refine Qao (by walk_at "cap") (by walk_at "s") ?_
  unfold Qjj
  (repeat walk_at "e")
 have ha:=Qqi nd
 have hu:Qag [rl nd (fun d=>.str (dn d))]=.ok (.bl true):=by
  show Qag [.lst _]=_
  rw[Qsw]
  exact Qst (QNF hs.injd) (by simp;omega)
 rw[QE4]
 unfold Qit
 (repeat walk_at "e")
theorem QM8{k:Nat}(hk:k<n):Qfc [seatD nm dn c t m ld st k]=.ok (.bl true):=by
 have tb:=hs.tb k hk
 have hc:=hs.ck k hk
 have m6:=tb.m6
 obtain⟨s0,s1⟩:=hs.str k hk
 have hi:isaT "tuple" (seatD nm dn c t m ld st k)=.ok true:=by simp[isaT,Qct,seatD]
 have hl:fLen [seatD nm dn c t m ld st k]=.ok (.int 4):=by simp[fLen,seatD]
 have x0:dIx (seatD nm dn c t m ld st k) (.int 0)=.ok (.str (nm k)):=ix_t 0 rfl
 have x1:dIx (seatD nm dn c t m ld st k) (.int 1)=.ok (ck (c k) (t k) (m k)):=ix_t 1 rfl
 have x2:dIx (seatD nm dn c t m ld st k) (.int 2)=.ok (rl (m k) (fun j=>.str (nml nm dn (ld k j)))):=ix_t 2 rfl
 have x3:dIx (seatD nm dn c t m ld st k) (.int 3)=.ok (.int (st k)):=ix_t 3 rfl
 have h0:=hs.isn k hk
 have h1:=QMM hc (t k) (m k)
 have h2:=QMH (n:=m k) (by omega) (fun j=>nml nm dn (ld k j))
 have h3:=QmE (i:=st k) (a:=0) (b:=((t k).length:Int) - 1) s0 (by omega)
 have mo:eMeth Qe "outs" (fun _=>Qcd) (e2 dIx (eVar 0) (eC (.int 1))) aNil [some (.k,seatD nm dn c t m ld st k)]=.ok (.int (m k:Int)):=by
  rw[Qte (c:=c k) (t:=t k) (m:=m k) hc (xs:=[]) (by (repeat walk_at "e")) rfl (dk) (dk)]
  exact QNi hc tb
 have mp:eMeth Qe "period" (fun _=>QaB) (e2 dIx (eVar 0) (eC (.int 1))) aNil [some (.k,seatD nm dn c t m ld st k)]=.ok (.int ((t k).length:Int)):=by
  rw[Qte (c:=c k) (t:=t k) (m:=m k) hc (xs:=[]) (by (repeat walk_at "e")) rfl (dk) (dk)]
  exact Qzt hc _ _
 have hne:dNe (.int 4) (.int 4)=.ok (.bl false):=by rw[QeO];rfl
 rw[QJP]
 unfold QmJ
 (repeat walk_at "e")
theorem QMn:Qdh [rl n (seatD nm dn c t m ld st),rl nd (fun d=>.str (dn d))]=.ok (.bl true):=by
 have n2:=hs.n2
 have d2:=hs.d2
 have h1:=Qp4 (n:=n) (f:=seatD nm dn c t m ld st) (M:=60) hs.n1 (by omega)
 have hc:eComp [none] (itL (eVar 0)) (gN 0) cTrue Qji [some (.k,rl n (seatD nm dn c t m ld st)),some (.k,rl nd (fun d=>.str (dn d)))]=.ok (rl n (fun _=>.bl true)):=by
  refine Qas (seatD nm dn c t m ld st) (fun _=>.bl true) rfl (fun k hk=>?_) (by rw[List.length_range];omega)
  have h:=QM8 hs (List.mem_range.mp hk)
  refine Qao (by walk_at "cap") (by walk_at "s") ?_
  unfold Qji
  (repeat walk_at "e")
 have ha:=Qqi n
 have hn:eComp [none] (itL (eVar 0)) (gN 0) cTrue Qjn [some (.k,rl n (seatD nm dn c t m ld st)),some (.k,rl nd (fun d=>.str (dn d)))]=.ok (rl n (fun k=>.str (nm k))):=by
  refine Qas (seatD nm dn c t m ld st) (fun k=>D.str (nm k)) rfl (fun k hk=>?_) (by rw[List.length_range];omega)
  have x0:dIx (seatD nm dn c t m ld st k) (.int 0)=.ok (.str (nm k)):=ix_t 0 rfl
  refine Qao (by walk_at "cap") (by walk_at "s") ?_
  unfold Qjn
  (repeat walk_at "e")
 have hcat:dCat (rl n (fun k=>.str (nm k))) (rl nd (fun d=>.str (dn d)))=.ok (.lst ((((List.range n).map nm)++((List.range nd).map dn)).map .str)):=by
  rw[QNw (by simp;omega),List.map_append, ← Qsw, ← Qsw]
 have hu:Qag [.lst ((((List.range n).map nm)++((List.range nd).map dn)).map .str)]=.ok (.bl true):=by
  refine Qst ?_ (by simp;omega)
  intro i j hi z
  rw[List.length_append,List.length_map,List.length_map,List.length_range,List.length_range]at hi
  have at':∀ i,(((List.range n).map nm)++((List.range nd).map dn))[i]?=if i<n then some (nm i) else if i - n<nd then some (dn (i - n)) else none:=fun i=>by
   rw[List.getElem?_append,List.length_map,List.length_range]
   split
   ·rw[List.getElem?_map,List.getElem?_range (by assumption)];rfl
   ·split
    ·rw[List.getElem?_map,List.getElem?_range (by assumption)];rfl
    ·simp;omega
  rw[at',at']at z
  by_cases a:i<n
  ·rw[if_pos a]at z
   by_cases b:j<n
   ·rw[if_pos b]at z;exact hs.inj i j a b (Option.some.inj z)
   ·rw[if_neg b]at z
    by_cases d:j - n<nd
    ·rw[if_pos d]at z;exact absurd (Option.some.inj z) (hs.sep i _ a d)
    ·rw[if_neg d]at z;cases z
  ·rw[if_neg a,if_pos (show i - n<nd by omega)]at z
   by_cases b:j<n
   ·rw[if_pos b]at z;exact absurd (Option.some.inj z).symm (hs.sep j _ b (by omega))
   ·rw[if_neg b]at z
    by_cases d:j - n<nd
    ·rw[if_pos d]at z
     have:=hs.injd _ _ (by omega) d (Option.some.inj z)
     omega
    ·rw[if_neg d]at z;cases z
 rw[QGE]
 unfold QiR
 (repeat walk_at "e")
theorem QMx:dInL (.str (nm 0)) (rl n (fun k=>.str (nm k)))=.ok (.bl true):=by
 have n1:=hs.n1
 show(if (_&&((List.range n).map fun k=>D.str (nm k)).all D.scal)=true then Out.ok (D.bl (inV _ _)) else _)=_
 rw[if_pos (by rw[Bool.and_eq_true];exact⟨rfl,allR fun i _=>rfl⟩)]
 have:inV (toV (.str (nm 0))) (((List.range n).map fun k=>D.str (nm k)).map toV)=true:=by
  unfold inV
  rw[List.any_eq_true]
  refine⟨V.str (nm 0),?_,by show(nm 0 == nm 0)=true;exact beq_self_eq_true _⟩
  rw[List.map_map,List.mem_map]
  exact⟨0,List.mem_range.mpr (by omega),rfl⟩
 rw[this]
theorem QIb:Qcr [.lst [.tup [.str "in",.str (nm 0)]],rl n (fun k=>.str (nm k))]=.ok (.bl true):=by
 have n1:=hs.n1
 have hin:=QNA
 have h0:=hs.isn 0 (by omega)
 have hL:=QMx hs
 have e1':Qew [.tup [.str "in",.str (nm 0)],rl n (fun k=>.str (nm k))]=.ok (.bl true):=by
  have hi:isaT "tuple" (.tup [.str "in",.str (nm 0)])=.ok true:=by simp[isaT,Qct]
  have hl:fLen [.tup [.str "in",.str (nm 0)]]=.ok (.int 2):=by simp[fLen]
  have x0:dIx (.tup [.str "in",.str (nm 0)]) (.int 0)=.ok (.str "in"):=ix_t 0 rfl
  have x1:dIx (.tup [.str "in",.str (nm 0)]) (.int 1)=.ok (.str (nm 0)):=ix_t 1 rfl
  have hne:dNe (.int 2) (.int 2)=.ok (.bl false):=by rw[QeO];rfl
  rw[QIF]
  unfold Qkq
  (repeat walk_at "e")
 have h1:QbV [.lst [.tup [.str "in",.str (nm 0)]],.int 6]=.ok (.bl true):=Qp4 (n:=1) (f:=fun _=>.tup [.str "in",.str (nm 0)]) (M:=6) (by decide) (by decide)
 have hc:eComp [none,some 1] (itL (eVar 0)) (gN 0) cTrue Qg0 [some (.k,.lst [.tup [.str "in",.str (nm 0)]]),some (.k,rl n (fun k=>.str (nm k)))]=.ok (rl 1 (fun _=>.bl true)):=by
  refine Qas (l:=List.range 1) (fun _=>.tup [.str "in",.str (nm 0)]) (fun _=>.bl true) rfl (fun k hk=>?_) (by simp)
  refine Qao (by walk_at "cap") (by walk_at "s") ?_
  unfold Qg0
  (repeat walk_at "e")
 have ha:=Qqi 1
 have hn:eComp [none] (itL (eVar 0)) (gN 0) cTrue QhJ [some (.k,.lst [.tup [.str "in",.str (nm 0)]]),some (.k,rl n (fun k=>.str (nm k)))]=.ok (.lst ([("in":Str)].map .str)):=by
  refine Qas (l:=List.range 1) (fun _=>.tup [.str "in",.str (nm 0)]) (fun _=>.str "in") rfl (fun k hk=>?_) (by simp)
  have x0:dIx (.tup [.str "in",.str (nm 0)]) (.int 0)=.ok (.str "in"):=ix_t 0 rfl
  refine Qao (by walk_at "cap") (by walk_at "s") ?_
  unfold QhJ
  (repeat walk_at "e")
 have hu:Qag [.lst ([("in":Str)].map .str)]=.ok (.bl true):=Qst (by
  intro i j hi z
  have hi:i<1:=hi
  have:i=0:=by omega
  subst this
  cases j with
  | zero=>rfl
  | succ j=>simp at z) (by simp)
 rw[Qz3]
 unfold Qgo
 (repeat walk_at "e")
end
theorem QKK{i:Nat}{I E:SD->Out D}{ς ς':SD}{kds:List (Key×D)}{d y:D}{k:Key}(a:E ς=.ok d)(e:ς[i]?=some (some (.o,.dic kds)))(a':I ς=.ok y)(hk:dkey y=some k)(hl:kds.length<=1000)
 (l:ς.set i (some (.o,.dic (putKD kds k d)))=ς'):sPutD i I E ς=.ok (.nx ς'):=by
 unfold sPutD
 rw[a,Out.bind_ok,e]
 show(I ς>>=_)=_
 rw[a',Out.bind_ok,hk]
 show(if _ then _ else _)=_
 rw[if_pos (QHI hl),l]
theorem QOS{A B:SD->Out D}{ς:SD}{kds:List (Key×D)}{y:D}{k:Key}(a:A ς=.ok (.dic kds))(a':B ς=.ok y)(hk:dkey y=some k):eDget A B ς=.ok ((valD kds k).getD .non):=by
 unfold eDget
 rw[a,Out.bind_ok]
 show(B ς>>=_)=_
 rw[a',Out.bind_ok,hk]
theorem r_dix{A B:SD->Out D}{ς:SD}{kds:List (Key×D)}{y d:D}{k:Key}(a:A ς=.ok (.dic kds))(a':B ς=.ok y)(hk:dkey y=some k)(hv:valD kds k=some d):eDix A B ς=.ok d:=by
 unfold eDix
 rw[a,Out.bind_ok]
 show(B ς>>=_)=_
 rw[a',Out.bind_ok,hk]
 show optO (valD kds k)=_
 rw[hv];rfl
theorem QHG{kds:List (Key×D)}{k:Key}{d:D}(h:∀ kv∈kds,kv.1≠k):putKD kds k d=kds++[(k,d)]:=by
 unfold putKD
 rw[if_neg]
 intro z
 obtain⟨kv,hk,e⟩:=List.any_eq_true.mp z
 exact h kv hk (of_decide_eq_true e)
theorem QyV{k:Key}{d:D}:∀{kds:List (Key×D)}(i:Nat),kds[i]?=some (k,d)->(∀ j kv,j<i->kds[j]?=some kv->kv.1≠k)->valD kds k=some d
 | [],i,h,_=>by simp at h
 | kv::kds,0,h,_=>by
  simp at h
  subst h
  simp[valD]
 | kv::kds,i+1,h,hn=>by
  have h0:=hn 0 kv (by omega) rfl
  have:valD (kv::kds) k=valD kds k:=by simp[valD,List.find?_cons,h0]
  rw[this]
  exact QyV i (by simpa using h) fun j kv' hj he=>hn (j+1) kv' (by omega) (by simpa using he)
theorem enumR(n:Nat)(f:Nat->D):enumD 0 ((List.range n).map f)=(List.range n).map fun i:Nat=>D.tup [.int (i:Int),f i]:=by
 apply List.ext_getElem?
 intro i
 rw[Qrv,Nat.zero_add]
 by_cases hi:i<n
 ·have r1:((List.range n).map fun i:Nat=>D.tup [.int (i:Int),f i])[i]?=some (D.tup [.int (i:Int),f i]):=atR hi
  rw[atR hi,r1];rfl
 ·have h1:((List.range n).map f)[i]?=none:=by simp;omega
  have h2:((List.range n).map fun i:Nat=>D.tup [.int (i:Int),f i])[i]?=none:=by simp;omega
  rw[h1,h2];rfl
def plc(n nd:Nat)(nm dn:Nat->Str):List (Key×D):=((List.range n).map fun i:Nat=>((.inr (nm i):Key),D.int (i:Int)))++((List.range nd).map fun i:Nat=>((.inr (dn i):Key),D.int (-1 - (i:Int))))
theorem QvQ(n nd:Nat)(nm dn:Nat->Str)(i:Nat):(plc n nd nm dn)[i]?=if i<n then some (.inr (nm i),.int (i:Int)) else if i - n<nd then some (.inr (dn (i - n)),.int (-1 - ((i - n:Nat):Int))) else none:=by
 unfold plc
 rw[List.getElem?_append,List.length_map,List.length_range]
 split
 ·rw[List.getElem?_map,List.getElem?_range (by assumption)];rfl
 ·split
  ·rw[List.getElem?_map,List.getElem?_range (by assumption)];rfl
  ·simp;omega
section
variable{n nd:Nat}{nm dn c:Nat->Str}{t:Nat->List (List Int)}{m:Nat->Nat}{ld:Nat->Nat->Int}{st:Nat->Int}(hs:Seats n nd nm dn c t m ld st)
include hs
theorem plc_c{i:Nat}(hi:i<n):valD (plc n nd nm dn) (.inr (nm i))=some (.int (i:Int)):=by
 refine QyV i (by rw[QvQ,if_pos hi]) fun j kv hj he=>?_
 rw[QvQ,if_pos (by omega)]at he
 cases he
 intro z
 have:=hs.inj j i (by omega) hi (Sum.inr.inj z)
 omega
theorem plc_d{d:Nat}(hd:d<nd):valD (plc n nd nm dn) (.inr (dn d))=some (.int (-1 - (d:Int))):=by
 refine QyV (n+d) (by rw[QvQ,if_neg (by omega),if_pos (by omega),show n+d - n=d by omega]) fun j kv hj he=>?_
 rw[QvQ]at he
 by_cases a:j<n
 ·rw[if_pos a]at he
  cases he
  intro z
  exact hs.sep j d a hd (Sum.inr.inj z)
 ·rw[if_neg a,if_pos (by omega)]at he
  cases he
  intro z
  have:=hs.injd _ _ (by omega) hd (Sum.inr.inj z)
  omega
theorem QJX:Qdg [rl n (fun k=>.str (nm k)),rl nd (fun d=>.str (dn d))]=.ok (.dic (plc n nd nm dn)):=by
 have n2:=hs.n2
 have d2:=hs.d2
 obtain⟨ς1,hL1,a3,a4,rfl⟩:=QpJ (body:=fun x ς=>gT [3,4] x ς>>=fun ς'=>Qgm ς') (f:=fun i:Nat=>D.tup [.int (i:Int),.str (nm i)]) (n:=n)
  (P:=fun k ς=>∃(a3 a4:Option (SM×D)),ς=[some (.k,rl n (fun k=>.str (nm k))),some (.k,rl nd (fun d=>.str (dn d))),some (.o,.dic (plc k 0 nm dn)),a3,a4,none,none])
  (by
   rintro k hk ς ⟨a3,a4,rfl⟩
   refine⟨[some (.k,rl n (fun k=>.str (nm k))),some (.k,rl nd (fun d=>.str (dn d))),some (.o,.dic (plc (k+1) 0 nm dn)),some (.k,.int (k:Int)),some (.k,.str (nm k)),none,none],?_,_,_,rfl⟩
   have e:plc (k+1) 0 nm dn=putKD (plc k 0 nm dn) (.inr (nm k)) (.int (k:Int)):=by
    rw[QHG]
    ·show((List.range (k+1)).map _)++[]=((List.range k).map _++[])++[_]
     rw[List.append_nil,List.append_nil,List.range_succ,List.map_append];rfl
    ·intro kv hkv
     have hkv:kv∈((List.range k).map fun i:Nat=>((.inr (nm i):Key),D.int (i:Int)))++[]:=hkv
     rw[List.append_nil]at hkv
     obtain⟨i,hi,rfl⟩:=List.mem_map.mp hkv
     have hi:=List.mem_range.mp hi
     intro z
     have:=hs.inj i k (by omega) hk (Sum.inr.inj z)
     omega
   rw[e]
   refine r_gT (by walk_at "all") ?_
   unfold Qgm
   exact QKK (d:=.int (k:Int)) (y:=.str (nm k)) (k:=.inr (nm k)) (by (repeat walk_at "e")) rfl (by (repeat walk_at "e")) rfl (by unfold plc;simp;omega) rfl)
  [some (.k,rl n (fun k=>.str (nm k))),some (.k,rl nd (fun d=>.str (dn d))),some (.o,.dic []),none,none,none,none] ⟨_,_,rfl⟩
 obtain⟨ς2,hL2,a5,a6,rfl⟩:=QpJ (body:=fun x ς=>gT [5,6] x ς>>=fun ς'=>Qgr ς') (f:=fun i:Nat=>D.tup [.int (i:Int),.str (dn i)]) (n:=nd)
  (P:=fun k ς=>∃(a5 a6:Option (SM×D)),ς=[some (.k,rl n (fun k=>.str (nm k))),some (.k,rl nd (fun d=>.str (dn d))),some (.o,.dic (plc n k nm dn)),a3,a4,a5,a6])
  (by
   rintro k hk ς ⟨a5,a6,rfl⟩
   refine⟨[some (.k,rl n (fun k=>.str (nm k))),some (.k,rl nd (fun d=>.str (dn d))),some (.o,.dic (plc n (k+1) nm dn)),a3,a4,some (.k,.int (k:Int)),some (.k,.str (dn k))],?_,_,_,rfl⟩
   have e:plc n (k+1) nm dn=putKD (plc n k nm dn) (.inr (dn k)) (.int (-1 - (k:Int))):=by
    rw[QHG]
    ·unfold plc
     rw[List.range_succ,List.map_append,List.append_assoc];rfl
    ·intro kv hkv
     rcases List.mem_append.mp hkv with w | w
     ·obtain⟨i,hi,rfl⟩:=List.mem_map.mp w
      intro z
      exact hs.sep i k (List.mem_range.mp hi) hk (Sum.inr.inj z)
     ·obtain⟨i,hi,rfl⟩:=List.mem_map.mp w
      have hi:=List.mem_range.mp hi
      intro z
      have:=hs.injd i k (by omega) hk (Sum.inr.inj z)
      omega
   rw[e]
   refine r_gT (by walk_at "all") ?_
   unfold Qgr
   exact QKK (d:=.int (-1 - (k:Int))) (y:=.str (dn k)) (k:=.inr (dn k)) (by (repeat walk_at "e")) rfl (by (repeat walk_at "e")) rfl (by unfold plc;simp;omega) rfl)
  [some (.k,rl n (fun k=>.str (nm k))),some (.k,rl nd (fun d=>.str (dn d))),some (.o,.dic (plc n 0 nm dn)),a3,a4,none,none] ⟨_,_,rfl⟩
 have hi1:itE (eVar 0) [some (.k,rl n (fun k=>.str (nm k))),some (.k,rl nd (fun d=>.str (dn d))),some (.o,.dic []),none,none,none,none]=.ok ((List.range n).map fun i:Nat=>D.tup [.int (i:Int),.str (nm i)]):=by rw[← enumR];rfl
 have hi2:itE (eVar 1) [some (.k,rl n (fun k=>.str (nm k))),some (.k,rl nd (fun d=>.str (dn d))),some (.o,.dic (plc n 0 nm dn)),a3,a4,none,none]=.ok ((List.range nd).map fun i:Nat=>D.tup [.int (i:Int),.str (dn i)]):=by rw[← enumR];rfl
 have f1':=Qb7 (g:=gT [3,4]) (T:=Qgm) hi1 hL1
 have f2':=Qb7 (g:=gT [5,6]) (T:=Qgr) hi2 hL2
 have s0:sSetO 2 eDic0 [some (.k,rl n (fun k=>.str (nm k))),some (.k,rl nd (fun d=>.str (dn d))),none,none,none,none,none]=.ok (.nx [some (.k,rl n (fun k=>.str (nm k))),some (.k,rl nd (fun d=>.str (dn d))),some (.o,.dic []),none,none,none,none]):=rfl
 rw[QGM]
 unfold QiH
 (repeat walk_at "e")
theorem QMi{k:Nat}(hk:k<n):Qd5 [seatD nm dn c t m ld st k,.dic (plc n nd nm dn)]=.ok (rl (m k) (fun j=>.int (ld k j))):=by
 have m6:=(hs.tb k hk).m6
 have x2:dIx (seatD nm dn c t m ld st k) (.int 2)=.ok (rl (m k) (fun j=>.str (nml nm dn (ld k j)))):=ix_t 2 rfl
 have hc:eComp [none,some 1] (itL (e2 dIx (eVar 0) (eC (.int 2)))) (gN 0) cTrue QlH [some (.k,seatD nm dn c t m ld st k),some (.k,.dic (plc n nd nm dn))]=.ok (rl (m k) (fun j=>.int (ld k j))):=by
  refine Qas (fun j=>D.str (nml nm dn (ld k j))) (fun j=>D.int (ld k j)) (by (repeat walk_at "e")) (fun j hj=>?_) (by rw[List.length_range];omega)
  obtain⟨l1,l2⟩:=hs.ldr k j hk (List.mem_range.mp hj)
  refine Qao (by walk_at "cap") (by walk_at "s") ?_
  unfold QlH
  have hv:valD (plc n nd nm dn) (.inr (nml nm dn (ld k j)))=some (.int (ld k j)):=by
   unfold nml
   by_cases h:ld k j<0
   ·rw[if_pos h,plc_d hs (show(-1 - ld k j).toNat<nd by omega)]
    congr 2;omega
   ·rw[if_neg h,plc_c hs (show(ld k j).toNat<n by omega)]
    congr 2;omega
  rw[QOS (kds:=plc n nd nm dn) (y:=.str (nml nm dn (ld k j))) (k:=.inr (nml nm dn (ld k j))) (by (repeat walk_at "e")) (by (repeat walk_at "e")) rfl,hv];rfl
 rw[QI3]
 unfold Qkg
 (repeat walk_at "e")
end
theorem QHf{f:Str}{d:D}:∀{fs:List (Str×D)},(fs.map Prod.fst).contains f=false->putD f d fs=fs++[(f,d)]
 | [],_=>rfl
 | (g,x)::fs,h=>by
  rw[List.map_cons,List.contains_cons,Bool.or_eq_false_iff]at h
  have ne:¬ g=f:=fun z=>by subst z;simp at h
  show(if g=f then _ else(g,x)::putD f d fs)=_
  rw[if_neg ne,QHf h.2];rfl
theorem QoO{cs:List Str}{f c:Str}{i:Nat}{E:SD->Out D}{ς ς':SD}{d:D}{fds:List (Str×D)}(a:E ς=.ok d)(e:ς[i]?=some (some (.s,.ins c fds)))(hc:cs.contains c=true)(hl:fds.length<=900)(hf:(fds.map Prod.fst).contains f=false)
 (l:ς.set i (some (.s,.ins c (fds++[(f,d)])))=ς'):sFldS cs f i E ς=.ok (.nx ς'):=by
 unfold sFldS
 rw[a,Out.bind_ok,e]
 show(if (cs.contains c&&decide (fds.length<1000))=true then _ else _)=_
 rw[if_pos (by rw[hc,Bool.true_and];exact decide_eq_true (by omega)),QHf hf,l]
section
variable(n nd:Nat)(nm dn c:Nat->Str)(t:Nat->List (List Int))(m:Nat->Nat)(ld:Nat->Nat->Int)(st:Nat->Int)
def offF:List (Str×D):=[("clerk_names",rl n (fun k=>.str (nm k))),("door_names",rl nd (fun d=>.str (dn d))),("entry_places",.lst [.tup [.str "in",.int 0]]),("staff",rl n (fun k=>ck (c k) (t k) (m k))),("first_states",rl n (fun k=>.int (st k))),("ways",rl n (fun k=>rl (m k) (fun j=>.int (ld k j))))]
def offD:D:=.ins "Office" (offF n nd nm dn c t m ld st)
end
theorem QHC:Ql.contains "Office"=true:=dk
section
variable{n nd:Nat}{nm dn c:Nat->Str}{t:Nat->List (List Int)}{m:Nat->Nat}{ld:Nat->Nat->Int}{st:Nat->Int}(hs:Seats n nd nm dn c t m ld st)
include hs
theorem QM5{k:Nat}(hk:k<n):dInL .non (rl (m k) (fun j=>.int (ld k j)))=.ok (.bl false):=by
 show(if (_&&((List.range (m k)).map fun j=>D.int (ld k j)).all D.scal)=true then Out.ok (D.bl (inV _ _)) else _)=_
 rw[if_pos (by rw[Bool.and_eq_true];exact⟨rfl,allR fun i _=>rfl⟩)]
 have:inV (toV .non) (((List.range (m k)).map fun j=>D.int (ld k j)).map toV)=false:=by
  unfold inV
  rw[List.any_eq_false]
  intro v hv
  rw[List.map_map]at hv
  obtain⟨j,_,rfl⟩:=List.mem_map.mp hv
  simp[toV,eqV]
 rw[this]
theorem QKm:Qbq "Office" [] [rl n (seatD nm dn c t m ld st),.lst [.tup [.str "in",.str (nm 0)]],rl nd (fun d=>.str (dn d))]=.ok (offF n nd nm dn c t m ld st):=by
 have n1:=hs.n1
 have n2:=hs.n2
 have d2:=hs.d2
 have h1:=QMF hs
 have h2:=QMn hs
 have h3:=QIb hs
 have h4:=QJX hs
 have p0:=plc_c hs (i:=0) (by omega)
 have oc:=QHC
 generalize hS:rl n (seatD nm dn c t m ld st)=S at *
 generalize hE:D.lst [.tup [.str "in",.str (nm 0)]]=E at *
 generalize hDo:rl nd (fun d=>.str (dn d))=Do at *
 generalize hN:rl n (fun k=>.str (nm k))=N at *
 generalize hP:D.dic (plc n nd nm dn)=P at *
 generalize hW:rl n (fun k=>rl (m k) (fun j=>.int (ld k j)))=W
 have q0:eComp [none] (itL (eVar 1)) (gN 0) cTrue QhK [some (.s,.ins "Office" []),some (.k,S),some (.k,E),some (.k,Do),none,none,none]=.ok N:=by
  subst hS;subst hN
  refine Qas (seatD nm dn c t m ld st) (fun k=>D.str (nm k)) rfl (fun k hk=>?_) (by rw[List.length_range];omega)
  have x0:dIx (seatD nm dn c t m ld st k) (.int 0)=.ok (.str (nm k)):=ix_t 0 rfl
  refine Qao (τ0:=[none]) (Qf6 c_nil) (by walk_at "s") ?_
  unfold QhK
  (repeat walk_at "e")
 have q1:eComp [none,some 5] (itL (eVar 1)) (gN 0) cTrue QgY [some (.s,.ins "Office" []),some (.k,S),some (.k,E),some (.k,Do),some (.k,N),some (.k,P),none]=.ok W:=by
  subst hS;subst hW;subst hP
  refine Qas (seatD nm dn c t m ld st) (fun k=>rl (m k) (fun j=>.int (ld k j))) rfl (fun k hk=>?_) (by rw[List.length_range];omega)
  have hl:=QMi hs (List.mem_range.mp hk)
  refine Qao (τ0:=[none,some (.k,.dic (plc n nd nm dn))]) (Qf6 (c_k rfl c_nil)) (by walk_at "s") ?_
  unfold QgY
  (repeat walk_at "e")
 have q2:eComp [none] (itL (eVar 6)) (gN 0) cTrue QhH [some (.s,.ins "Office" []),some (.k,S),some (.k,E),some (.k,Do),some (.k,N),some (.k,P),some (.k,W)]=.ok (rl n (fun _=>.bl false)):=by
  subst hW
  refine Qas (fun k=>rl (m k) (fun j=>.int (ld k j))) (fun _=>D.bl false) rfl (fun k hk=>?_) (by rw[List.length_range];omega)
  have hl:=QM5 hs (List.mem_range.mp hk)
  refine Qao (τ0:=[none]) (Qf6 c_nil) (by walk_at "s") ?_
  unfold QhH
  (repeat walk_at "e")
 have ha:f1 fAny [rl n (fun _=>.bl false)]=.ok (.bl false):=by
  show fAny (.lst ((List.range n).map fun _=>D.bl false))=_
  rw[QMk (fun _=>false)];simp
 have q3:∀ F:List (Str×D),eComp [none,some 5] (itL (eVar 2)) (gN 0) cTrue Qe1 [some (.s,.ins "Office" F),some (.k,S),some (.k,E),some (.k,Do),some (.k,N),some (.k,P),some (.k,W)]=.ok (.lst [.tup [.str "in",.int 0]]):=fun F=>by
  subst hE;subst hP
  refine Qas (l:=List.range 1) (fun _=>.tup [.str "in",.str (nm 0)]) (fun _=>D.tup [.str "in",.int 0]) rfl (fun k hk=>?_) (by simp)
  have x0:dIx (.tup [.str "in",.str (nm 0)]) (.int 0)=.ok (.str "in"):=ix_t 0 rfl
  have x1:dIx (.tup [.str "in",.str (nm 0)]) (.int 1)=.ok (.str (nm 0)):=ix_t 1 rfl
  refine Qao (τ0:=[none,some (.k,.dic (plc n nd nm dn))]) (Qf6 (c_k rfl c_nil)) (by walk_at "s") ?_
  unfold Qe1
  have hd:eDix (eVar 1) (e2 dIx (eVar 0) (eC (.int 1))) [some (.k,.tup [.str "in",.str (nm 0)]),some (.k,.dic (plc n nd nm dn))]=.ok (.int 0):=r_dix (kds:=plc n nd nm dn) (y:=.str (nm 0)) (k:=.inr (nm 0)) (by (repeat walk_at "e")) (by (repeat walk_at "e")) rfl p0
  (repeat walk_at "e")
 have q4:∀ F:List (Str×D),eComp [none] (itL (eVar 1)) (gN 0) cTrue Qe6 [some (.s,.ins "Office" F),some (.k,S),some (.k,E),some (.k,Do),some (.k,N),some (.k,P),some (.k,W)]=.ok (rl n (fun k=>ck (c k) (t k) (m k))):=fun F=>by
  subst hS
  refine Qas (seatD nm dn c t m ld st) (fun k=>ck (c k) (t k) (m k)) rfl (fun k hk=>?_) (by rw[List.length_range];omega)
  have x0:dIx (seatD nm dn c t m ld st k) (.int 1)=.ok (ck (c k) (t k) (m k)):=ix_t 1 rfl
  refine Qao (τ0:=[none]) (Qf6 c_nil) (by walk_at "s") ?_
  unfold Qe6
  (repeat walk_at "e")
 have q5:∀ F:List (Str×D),eComp [none] (itL (eVar 1)) (gN 0) cTrue Qe7 [some (.s,.ins "Office" F),some (.k,S),some (.k,E),some (.k,Do),some (.k,N),some (.k,P),some (.k,W)]=.ok (rl n (fun k=>.int (st k))):=fun F=>by
  subst hS
  refine Qas (seatD nm dn c t m ld st) (fun k=>D.int (st k)) rfl (fun k hk=>?_) (by rw[List.length_range];omega)
  have x0:dIx (seatD nm dn c t m ld st k) (.int 3)=.ok (.int (st k)):=ix_t 3 rfl
  refine Qao (τ0:=[none]) (Qf6 c_nil) (by walk_at "s") ?_
  unfold Qe7
  (repeat walk_at "e")
 have hdl:dList Do=.ok Do:=by subst hDo;rfl
 let F1:List (Str×D):=[("clerk_names",N)]
 let F2:List (Str×D):=[("clerk_names",N),("door_names",Do)]
 let F3:List (Str×D):=[("clerk_names",N),("door_names",Do),("entry_places",.lst [.tup [.str "in",.int 0]])]
 let F4:List (Str×D):=[("clerk_names",N),("door_names",Do),("entry_places",.lst [.tup [.str "in",.int 0]]),("staff",rl n (fun k=>ck (c k) (t k) (m k)))]
 let F5:List (Str×D):=[("clerk_names",N),("door_names",Do),("entry_places",.lst [.tup [.str "in",.int 0]]),("staff",rl n (fun k=>ck (c k) (t k) (m k))),("first_states",rl n (fun k=>.int (st k)))]
 have s1:sFldS Ql "clerk_names" 0 (eVar 4) [some (.s,.ins "Office" []),some (.k,S),some (.k,E),some (.k,Do),some (.k,N),some (.k,P),some (.k,W)]=.ok (.nx [some (.s,.ins "Office" F1),some (.k,S),some (.k,E),some (.k,Do),some (.k,N),some (.k,P),some (.k,W)]):=
  QoO (d:=N) (by (repeat walk_at "e")) rfl oc (by decide) (by decide) rfl
 have s2:sFldS Ql "door_names" 0 (e1 dList (eVar 3)) [some (.s,.ins "Office" F1),some (.k,S),some (.k,E),some (.k,Do),some (.k,N),some (.k,P),some (.k,W)]=.ok (.nx [some (.s,.ins "Office" F2),some (.k,S),some (.k,E),some (.k,Do),some (.k,N),some (.k,P),some (.k,W)]):=
  QoO (d:=Do) (by (repeat walk_at "e")) rfl oc (Nat.le_of_ble_eq_true rfl) (by show(["clerk_names"]:List Str).contains "door_names"=false;decide +kernel) rfl
 have s3:sFldS Ql "entry_places" 0 (eComp [none,some 5] (itL (eVar 2)) (gN 0) cTrue Qe1) [some (.s,.ins "Office" F2),some (.k,S),some (.k,E),some (.k,Do),some (.k,N),some (.k,P),some (.k,W)]=.ok (.nx [some (.s,.ins "Office" F3),some (.k,S),some (.k,E),some (.k,Do),some (.k,N),some (.k,P),some (.k,W)]):=
  QoO (q3 _) rfl oc (Nat.le_of_ble_eq_true rfl) (by show(["clerk_names","door_names"]:List Str).contains "entry_places"=false;decide +kernel) rfl
 have s4:sFldS Ql "staff" 0 (eComp [none] (itL (eVar 1)) (gN 0) cTrue Qe6) [some (.s,.ins "Office" F3),some (.k,S),some (.k,E),some (.k,Do),some (.k,N),some (.k,P),some (.k,W)]=.ok (.nx [some (.s,.ins "Office" F4),some (.k,S),some (.k,E),some (.k,Do),some (.k,N),some (.k,P),some (.k,W)]):=
  QoO (q4 _) rfl oc (Nat.le_of_ble_eq_true rfl) (by show(["clerk_names","door_names","entry_places"]:List Str).contains "staff"=false;decide +kernel) rfl
 have s5:sFldS Ql "first_states" 0 (eComp [none] (itL (eVar 1)) (gN 0) cTrue Qe7) [some (.s,.ins "Office" F4),some (.k,S),some (.k,E),some (.k,Do),some (.k,N),some (.k,P),some (.k,W)]=.ok (.nx [some (.s,.ins "Office" F5),some (.k,S),some (.k,E),some (.k,Do),some (.k,N),some (.k,P),some (.k,W)]):=
  QoO (q5 _) rfl oc (Nat.le_of_ble_eq_true rfl) (by show(["clerk_names","door_names","entry_places","staff"]:List Str).contains "first_states"=false;decide +kernel) rfl
 have s6:sFldS Ql "ways" 0 (eVar 6) [some (.s,.ins "Office" F5),some (.k,S),some (.k,E),some (.k,Do),some (.k,N),some (.k,P),some (.k,W)]=.ok (.nx [some (.s,.ins "Office" (offF n nd nm dn c t m ld st)),some (.k,S),some (.k,E),some (.k,Do),some (.k,N),some (.k,P),some (.k,W)]):=
  QoO (d:=W) (by (repeat walk_at "e")) rfl oc (Nat.le_of_ble_eq_true rfl) (by show(["clerk_names","door_names","entry_places","staff","first_states"]:List Str).contains "ways"=false;decide +kernel) (by subst hN;subst hDo;subst hW;rfl)
 have fin:Qfo "Office" (.nx [some (.s,.ins "Office" (offF n nd nm dn c t m ld st)),some (.k,S),some (.k,E),some (.k,Do),some (.k,N),some (.k,P),some (.k,W)])=.ok (offF n nd nm dn c t m ld st):=by
  show(if ("Office":Str)="Office" then Out.ok (offF n nd nm dn c t m ld st) else .stuck)=_
  rw[if_pos rfl]
 rw[QzW]
 unfold Qgp
 (repeat walk_at "e")
end
section
variable{n nd:Nat}{nm dn c:Nat->Str}{t:Nat->List (List Int)}{m:Nat->Nat}{ld:Nat->Nat->Int}{st:Nat->Int}
theorem QIe:(offF n nd nm dn c t m ld st).lookup ("staff":Str)=some (rl n (fun k=>ck (c k) (t k) (m k))):=by
 have h1:(("staff":Str) == "clerk_names")=false:=dk
 have h2:(("staff":Str) == "door_names")=false:=dk
 have h3:(("staff":Str) == "entry_places")=false:=dk
 unfold offF
 rw[List.lookup_cons,h1,List.lookup_cons,h2,List.lookup_cons,h3,List.lookup_cons,beq_self_eq_true]
theorem QLD:(offF n nd nm dn c t m ld st).lookup ("ways":Str)=some (rl n (fun k=>rl (m k) (fun j=>.int (ld k j)))):=by
 have h1:(("ways":Str) == "clerk_names")=false:=dk
 have h2:(("ways":Str) == "door_names")=false:=dk
 have h3:(("ways":Str) == "entry_places")=false:=dk
 have h4:(("ways":Str) == "staff")=false:=dk
 have h5:(("ways":Str) == "first_states")=false:=dk
 unfold offF
 rw[List.lookup_cons,h1,List.lookup_cons,h2,List.lookup_cons,h3,List.lookup_cons,h4,List.lookup_cons,h5,List.lookup_cons,beq_self_eq_true]
theorem QLq{x:Str}(h:(["clerk_names","door_names","entry_places","staff","first_states","ways"]:List Str).all (fun y => !(x == y))=true):(offF n nd nm dn c t m ld st).lookup x=none:=by
 simp only[List.all_cons,List.all_nil,Bool.and_eq_true,Bool.not_eq_true',Bool.and_true]at h
 obtain⟨h1,h2,h3,h4,h5,h6⟩:=h
 unfold offF
 rw[List.lookup_cons,h1,List.lookup_cons,h2,List.lookup_cons,h3,List.lookup_cons,h4,List.lookup_cons,h5,List.lookup_cons,h6];rfl
theorem fld_o{x:Str}{d:D}(h:(offF n nd nm dn c t m ld st).lookup x=some d):dFld Ql x (offD n nd nm dn c t m ld st)=.ok d:=by
 show(if Ql.contains "Office"=true then optO ((offF n nd nm dn c t m ld st).lookup x) else .stuck)=_
 rw[if_pos QHC,h];rfl
theorem QkU{x:Str}{mt:Str->List D->Out D}{O:SD->Out D}{A:SD->Out (List D)}{ς:SD}{xs:List D}(hO:O ς=.ok (offD n nd nm dn c t m ld st))(hA:A ς=.ok xs)
 (h:(["clerk_names","door_names","entry_places","staff","first_states","ways"]:List Str).all (fun y => !(x == y))=true):eMeth Qw x mt O A ς=mt "Office" (offD n nd nm dn c t m ld st::xs):=by
 have hc:Qw.contains "Office"=true:=dk
 unfold eMeth
 rw[hO,Out.bind_ok]
 show(if (Qw.contains "Office"&&((offF n nd nm dn c t m ld st).lookup x).isNone)=true then A ς>>=fun xs=>mt "Office" (.ins "Office" (offF n nd nm dn c t m ld st)::xs) else .stuck)=_
 rw[QLq h,hc,if_pos (show(true&&(none:Option D).isNone)=true from rfl),hA];rfl
theorem QK9{k:Nat}(hk:k<n):Qby [offD n nd nm dn c t m ld st,.int (k:Int)]=.ok (ck (c k) (t k) (m k)):=by
 have h1:=fld_o (QIe (n:=n) (nd:=nd) (nm:=nm) (dn:=dn) (c:=c) (t:=t) (m:=m) (ld:=ld) (st:=st))
 have x1:dIx (rl n (fun k=>ck (c k) (t k) (m k))) (.int (k:Int))=.ok (ck (c k) (t k) (m k)):=ixR hk
 rw[Qxy]
 unfold Qfv
 (repeat walk_at "e")
theorem QJY{k:Nat}(hk:k<n):QbC [offD n nd nm dn c t m ld st,.int (k:Int)]=.ok (rl (m k) (fun j=>.int (ld k j))):=by
 have h1:=fld_o (QLD (n:=n) (nd:=nd) (nm:=nm) (dn:=dn) (c:=c) (t:=t) (m:=m) (ld:=ld) (st:=st))
 have x1:dIx (rl n (fun k=>rl (m k) (fun j=>.int (ld k j)))) (.int (k:Int))=.ok (rl (m k) (fun j=>.int (ld k j))):=ixR hk
 have hd:dList (rl (m k) (fun j=>.int (ld k j)))=.ok (rl (m k) (fun j=>.int (ld k j))):=rfl
 rw[Qyl]
 unfold QfC
 (repeat walk_at "e")
theorem QJl:(offF n nd nm dn c t m ld st).lookup ("clerk_names":Str)=some (rl n (fun k=>.str (nm k))):=by
 unfold offF
 rw[List.lookup_cons,beq_self_eq_true]
theorem QMc:QbU [offD n nd nm dn c t m ld st]=.ok (.int (n:Int)):=by
 have h1:=fld_o (QJl (n:=n) (nd:=nd) (nm:=nm) (dn:=dn) (c:=c) (t:=t) (m:=m) (ld:=ld) (st:=st))
 have hl:=lenR n (fun k=>.str (nm k))
 rw[Qz8]
 unfold Qgw
 (repeat walk_at "e")
end
def dkt:Nat->(Nat->Int)->(Nat->Int)->Int->Int
 | 0,_,_,_=>0
 | m+1,l,w,x=>dkt m l w x+if l m=x then w m else 0
theorem r_ifT{P:SD->Out Bool}{T U:SD->Out Fl}{ς:SD}{b:Bool}{rf:Out Fl}(a:P ς=.ok b)(hb:b=true)(k:T ς=rf):sIf P T U ς=rf:=r_if a (Qi3 hb k)
theorem r_ifF{P:SD->Out Bool}{T U:SD->Out Fl}{ς:SD}{b:Bool}{rf:Out Fl}(a:P ς=.ok b)(hb:b=false)(k:U ς=rf):sIf P T U ς=rf:=r_if a (QiT hb k)
theorem Qtk{N p:Nat}(hp:p<N)(F:Nat->Int)(c:Int):((List.range N).map fun i=>D.int (F i)).set p (.int (F p+c))=(List.range N).map fun i=>D.int (F i+if (p:Int)=(i:Int) then c else 0):=by
 rw[setR hp]
 apply List.map_congr_left
 intro i _
 by_cases e:i=p
 ·subst e
  rw[if_pos rfl,if_pos rfl]
 ·rw[if_neg e,if_neg (by omega),Int.add_zero]
theorem QKt{r:List Int}{m:Nat}(h:r.length=m):r.map D.int=(List.range m).map fun j=>D.int (r.getD j 0):=by
 apply List.ext_getElem?
 intro i
 rw[List.getElem?_map,List.getElem?_map]
 by_cases hi:i<m
 ·rw[List.getElem?_range hi,List.getElem?_eq_getElem (by omega)]
  simp[List.getD_eq_getElem?_getD,List.getElem?_eq_getElem (show i<r.length by omega)]
 ·rw[List.getElem?_eq_none (by omega),List.getElem?_eq_none (by rw[List.length_range];omega)];rfl
theorem QO0{x:D}{N:Nat}(h:N<=1000):dRep (.lst [x]) (.int (N:Int))=.ok (rl N (fun _=>x)):=by
 have e:(List.replicate N x)=(List.range N).map fun _=>x:=by
  apply List.ext_getElem?
  intro i
  rw[List.getElem?_map,List.getElem?_replicate]
  by_cases hi:i<N
  ·rw[if_pos hi,List.getElem?_range hi];rfl
  ·rw[if_neg hi,List.getElem?_eq_none (by rw[List.length_range];omega)];rfl
 show _=Out.ok (D.lst ((List.range N).map fun _=>x))
 rw[← e]
 unfold dRep
 simp only[Int.toNat_natCast,List.flatten_replicate_singleton,List.length_cons,List.length_nil]
 rw[if_pos]
 rw[Bool.and_eq_true,Bool.and_eq_true]
 exact⟨⟨decide_eq_true (by omega),decide_eq_true (by omega)⟩,QgO (by omega)⟩
theorem Qwu{I E:SD->Out D}{ς ς':SD}{i j:Nat}{k:Int}{s:SM}{xs:List D}{d:D}(hm:wr s=true)(a:E ς=.ok d)(e:ς[i]?=some (some (s,.lst xs)))(a':I ς=.ok (.int k))(q:ixN xs.length k=some j)(l:ς.set i (some (s,.lst (xs.set j d)))=ς'):sPutW i I E ς=.ok (.nx ς'):=by
 unfold sPutW
 rw[a,Out.bind_ok,e]
 show(if wr s=true then _ else _)=_
 rw[if_pos hm,a',Out.bind_ok]
 show(optO (ixN xs.length k)>>=_)=_
 rw[q]
 show Out.ok (Fl.nx (ς.set i _))=_
 rw[l]
theorem QHp{ms:List (Option Nat)}{f:List D->Out (D×Option (List D))}{A:SD->Out (List D)}{ς ς':SD}{ds ws:List D}{d:D}(a:A ς=.ok ds)(k:f ds=.ok (d,some ws))(l:setW ms ws ς=ς'):QoU ms f A ς=.ok (.nx ς'):=by
 unfold QoU
 rw[a,Out.bind_ok,k,Out.bind_ok]
 show Out.ok (Fl.nx (setW ms ws ς))=_
 rw[l]
theorem Qr2{ς:SD}{i:Nat}{s:SM}{d:D}(hm:wr s=true)(e:ς[i]?=some (some (s,d))):eVarW i ς=.ok d:=by
 unfold eVarW
 rw[e]
 show(if wr s=true then _ else _)=_
 rw[if_pos hm]
theorem QON{n nd m:Nat}{l w F G:Nat->Int}(hl:∀ j,j<m -> -(nd:Int)<=l j/\l j<(n:Int)):
 Qqn [rl n (fun i=>.int (F i)),rl nd (fun i=>.int (G i)),rl m (fun j=>.int (l j)),rl m (fun j=>.int (w j))]=.ok (.non,some [rl n (fun i=>.int (F i+dkt m l w (i:Int))),rl nd (fun i=>.int (G i+dkt m l w (-1 - (i:Int))))]):=by
 have hz:∀ x y:Option (SM×D),itZ (eVar 2) (eVar 3) [x,y,some (.k,rl m (fun j=>.int (l j))),some (.k,rl m (fun j=>.int (w j))),none,none]=.ok ((List.range m).map fun j=>D.tup [.int (l j),.int (w j)]):=fun x y=>by
  unfold itZ
  rw[r_var rfl,Out.bind_ok,r_var rfl,Out.bind_ok]
  show Out.ok (List.zipWith _ ((List.range m).map _) ((List.range m).map _))=_
  rw[List.zipWith_map,List.zipWith_self]
 generalize rl m (fun j=>D.int (l j))=Nu at *
 generalize rl m (fun j=>D.int (w j))=Wu at *
 obtain⟨ς',hL,a4,a5,rfl⟩:=QpJ (body:=fun x ς=>gT [4,5] x ς>>=fun ς'=>Qtn ς') (f:=fun j=>D.tup [.int (l j),.int (w j)]) (n:=m)
  (P:=fun j ς=>∃ a4 a5,ς=[some (.s,rl n (fun i=>.int (F i+dkt j l w (i:Int)))),some (.s,rl nd (fun i=>.int (G i+dkt j l w (-1 - (i:Int))))),some (.k,Nu),some (.k,Wu),a4,a5])
  (by
   rintro j hj ς ⟨a4,a5,rfl⟩
   obtain⟨p0,p1⟩:=hl j hj
   refine⟨[some (.s,rl n (fun i=>.int (F i+dkt (j+1) l w (i:Int)))),some (.s,rl nd (fun i=>.int (G i+dkt (j+1) l w (-1 - (i:Int))))),some (.k,Nu),some (.k,Wu),some (.k,.int (l j)),some (.k,.int (w j))],?_,_,_,rfl⟩
   refine r_gT (by walk_at "all") ?_
   unfold Qtn
   by_cases h:0<=l j
   ·obtain⟨p,hp⟩:∃ p:Nat,l j=(p:Int):=⟨(l j).toNat,by omega⟩
    have hpn:p<n:=by omega
    have hx:dIx (rl n (fun i=>.int (F i+dkt j l w (i:Int)))) (.int (p:Int))=.ok (.int (F p+dkt j l w (p:Int))):=ixR hpn
    have hn:=ixNR hpn (fun i=>D.int (F i+dkt j l w (i:Int)))
    have hset:((List.range n).map fun i:Nat=>D.int (F i+dkt j l w (i:Int))).set p (.int (F p+dkt j l w (p:Int)+w j))=(List.range n).map fun i:Nat=>D.int (F i+dkt (j+1) l w (i:Int)):=by
     rw[Qtk hpn (fun i=>F i+dkt j l w (i:Int)) (w j)]
     apply List.map_congr_left
     intro i _
     show D.int (F i+dkt j l w (i:Int)+(if (p:Int)=(i:Int) then w j else 0))=D.int (F i+(dkt j l w (i:Int)+if l j=(i:Int) then w j else 0))
     rw[hp,Int.add_assoc]
    have hG:rl nd (fun i=>D.int (G i+dkt (j+1) l w (-1 - (i:Int))))=rl nd (fun i=>D.int (G i+dkt j l w (-1 - (i:Int)))):=Qfd fun i _=>by
     show D.int (G i+(dkt j l w (-1 - (i:Int))+if l j = -1 - (i:Int) then w j else 0))=_
     rw[if_neg (by omega),Int.add_zero]
    rw[hG]
    refine r_ifT (by (repeat walk_at "e")) (decide_eq_true h) ?_
    have hi:eVar 4 [some (.s,rl n (fun i=>D.int (F i+dkt j l w (i:Int)))),some (.s,rl nd (fun i=>.int (G i+dkt j l w (-1 - (i:Int))))),some (.k,Nu),some (.k,Wu),some (.k,.int (l j)),some (.k,.int (w j))]=.ok (.int (p:Int)):=by
     rw[← hp];exact r_var rfl
    exact Qwu (s:=.s) (k:=(p:Int)) (j:=p) rfl (r_e2 (r_e2 (Qhk rfl) hi hx) (r_var rfl) (Qak _ _)) rfl hi hn (by rw[hset];walk_at "s")
   ·obtain⟨p,hp⟩:∃ p:Nat, -1 - l j=(p:Int):=⟨(-1 - l j).toNat,by omega⟩
    have hpn:p<nd:=by omega
    have hx:dIx (rl nd (fun i=>.int (G i+dkt j l w (-1 - (i:Int))))) (.int (p:Int))=.ok (.int (G p+dkt j l w (-1 - (p:Int)))):=ixR hpn
    have hn:=ixNR hpn (fun i=>D.int (G i+dkt j l w (-1 - (i:Int))))
    have hset:((List.range nd).map fun i:Nat=>D.int (G i+dkt j l w (-1 - (i:Int)))).set p (.int (G p+dkt j l w (-1 - (p:Int))+w j))=(List.range nd).map fun i:Nat=>D.int (G i+dkt (j+1) l w (-1 - (i:Int))):=by
     rw[Qtk hpn (fun i=>G i+dkt j l w (-1 - (i:Int))) (w j)]
     apply List.map_congr_left
     intro i _
     show D.int (G i+dkt j l w (-1 - (i:Int))+(if (p:Int)=(i:Int) then w j else 0))=D.int (G i+(dkt j l w (-1 - (i:Int))+if l j = -1 - (i:Int) then w j else 0))
     by_cases e:p=i
     ·subst e
      rw[if_pos rfl,if_pos (by omega),Int.add_assoc]
     ·rw[if_neg (by omega),if_neg (by omega),Int.add_zero,Int.add_zero]
    have hF:rl n (fun i=>D.int (F i+dkt (j+1) l w (i:Int)))=rl n (fun i=>D.int (F i+dkt j l w (i:Int))):=Qfd fun i _=>by
     show D.int (F i+(dkt j l w (i:Int)+if l j=(i:Int) then w j else 0))=_
     rw[if_neg (by omega),Int.add_zero]
    rw[hF]
    refine r_ifF (by (repeat walk_at "e")) (decide_eq_false h) ?_
    have hi:e2 dSub (e1 dNeg (eC (.int 1))) (eVar 4) [some (.s,rl n (fun i=>D.int (F i+dkt j l w (i:Int)))),some (.s,rl nd (fun i=>.int (G i+dkt j l w (-1 - (i:Int))))),some (.k,Nu),some (.k,Wu),some (.k,.int (l j)),some (.k,.int (w j))]=.ok (.int (p:Int)):=by
     rw[← hp];(repeat walk_at "e")
    exact Qwu (s:=.s) (k:=(p:Int)) (j:=p) rfl (r_e2 (r_e2 (Qhk rfl) hi hx) (r_var rfl) (Qak _ _)) rfl hi hn (by rw[hset];walk_at "s"))
  [some (.s,rl n (fun i=>.int (F i))),some (.s,rl nd (fun i=>.int (G i))),some (.k,Nu),some (.k,Wu),none,none] ⟨none,none,by
   have h1:rl n (fun i=>D.int (F i))=rl n (fun i=>D.int (F i+dkt 0 l w (i:Int))):=Qfd fun i _=>by show D.int (F i)=D.int (F i+0);rw[Int.add_zero]
   have h2:rl nd (fun i=>D.int (G i))=rl nd (fun i=>D.int (G i+dkt 0 l w (-1 - (i:Int)))):=Qfd fun i _=>by show D.int (G i)=D.int (G i+0);rw[Int.add_zero]
   rw[h1,h2]⟩
 have hfor:=Qb7 (g:=gT [4,5]) (T:=Qtn) (hz _ _) hL
 rw[QPt]
 unfold QA5
 rw[hfor]
 rfl
section
variable{n nd:Nat}{nm dn c:Nat->Str}{t:Nat->List (List Int)}{m:Nat->Nat}{ld:Nat->Nat->Int}{st:Nat->Int}(hs:Seats n nd nm dn c t m ld st)
include hs
theorem QKB:Qcq [offD n nd nm dn c t m ld st]=.ok (rl nd (fun _=>.int 0)):=by
 have d2:=hs.d2
 have lk:(offF n nd nm dn c t m ld st).lookup ("door_names":Str)=some (rl nd (fun d=>.str (dn d))):=by
  have h1:(("door_names":Str) == "clerk_names")=false:=dk
  unfold offF
  rw[List.lookup_cons,h1,List.lookup_cons,beq_self_eq_true]
 have h1:=fld_o lk
 have hdl:dList (rl nd (fun d=>.str (dn d)))=.ok (rl nd (fun d=>.str (dn d))):=rfl
 have hd:Qa5 [offD n nd nm dn c t m ld st]=.ok (rl nd (fun d=>.str (dn d))):=by
  rw[QxK]
  unfold QfH
  (repeat walk_at "e")
 have hm:eMeth Qw "doors" (fun _=>Qa5) (eVar 0) aNil [some (.k,offD n nd nm dn c t m ld st)]=.ok (rl nd (fun d=>.str (dn d))):=by
  rw[QkU (xs:=[]) (r_var rfl) rfl (dk)]
  exact hd
 have hc:eComp [none] (itL (eMeth Qw "doors" (fun _=>Qa5) (eVar 0) aNil)) (gN 0) cTrue Qg1 [some (.k,offD n nd nm dn c t m ld st)]=.ok (rl nd (fun _=>.int 0)):=by
  refine Qas (fun d=>D.str (dn d)) (fun _=>D.int 0) (r_itL hm) (fun i hi=>?_) (by rw[List.length_range];omega)
  refine Qao (by walk_at "cap") (by walk_at "s") ?_
  unfold Qg1
  (repeat walk_at "e")
 rw[QAH]
 unfold Qgv
 exact Qbu (Qru hc) r_rtT
end
def rw'(t:List (List Int))(s:Int)(j:Nat):Int:=(t.getD s.toNat []).getD j 0
theorem QNg{c:Str}(hc:CK.contains c=true){t:List (List Int)}{m:Nat}(h:Tb t m){s:Int}(s0:0<=s)(s1:s<(t.length:Int)):QcD [ck c t m,.int s]=.ok (rl m (fun j=>.int (rw' t s j))):=by
 obtain⟨k,rfl⟩:∃ k:Nat,s=(k:Int):=⟨s.toNat,by omega⟩
 have hk:k<t.length:=by omega
 have hg:t.getD k []=t[k]:=by simp[List.getD_eq_getElem?_getD,List.getElem?_eq_getElem hk]
 have hm:(t[k]).length=m:=h.row _ (List.getElem_mem hk)
 have hx:dIx (tbD t) (.int (k:Int))=.ok (dl t[k]):=ixL k (by rw[List.getElem?_map,List.getElem?_eq_getElem hk];rfl)
 have hl:dList (dl t[k])=.ok (dl t[k]):=rfl
 have hf:=fld_t hc t m
 have e:rl m (fun j=>D.int (rw' t (k:Int) j))=dl t[k]:=by
  unfold dl rw'
  rw[QKt hm,Int.toNat_natCast,hg]
 rw[e,QGR]
 unfold QiD
 exact Qbu (Qru (r_e1 (r_e2 (r_e1 (r_var rfl) hf) (r_var rfl) hx) hl)) r_rtT
theorem QNW{js:List (Option Nat)}{its:SD->Out (List D)}{g:D->SD->Out SD}{c:SD->Out Bool}{e:SD->Out D}{ς:SD}{n:Nat}(f:Nat->D)(p:Nat->Bool)(h:Nat->D)(hi:its ς=.ok ((List.range n).map f))(ht:∀ i,i<n->turnC js g c e ς (f i)=.ok (if p i=true then some (h i) else none))(hl:n<=1000):
 eComp js its g c e ς=.ok (.lst (((List.range n).filter p).map h)):=by
 have go:∀ l:List Nat,(∀ x∈l,turnC js g c e ς (f x)=.ok (if p x=true then some (h x) else none))->compM (turnC js g c e ς) (l.map f)=.ok ((l.filter p).map h):=by
  intro l
  induction l with
  | nil=>intro _;rfl
  | cons x xs ih=>
   intro H
   have h1:=H x (List.mem_cons_self ..)
   have h2:=ih fun y hy=>H y (List.mem_cons_of_mem _ hy)
   show compM (turnC js g c e ς) (f x::xs.map f)=_
   unfold compM
   rw[h1,Out.bind_ok,h2,List.filter_cons]
   cases p x<;>rfl
 unfold eComp
 rw[hi,Out.bind_ok,go _ (fun x hx=>ht x (List.mem_range.mp hx)),Out.bind_ok,if_pos (QgO (by
  rw[List.length_map]
  exact Nat.le_trans (List.length_filter_le ..) (by rw[List.length_range];exact hl)))]
theorem dk_bd{l w:Nat->Int}{x B:Int}:∀ m:Nat,(∀ j,j<m->0<=w j/\w j<=B)->0<=dkt m l w x/\dkt m l w x<=m * B
 | 0,_=>by show 0<=(0:Int)/\(0:Int)<=((0:Nat):Int) * B;simp
 | m+1,h=>by
  obtain⟨h0,h1⟩:=dk_bd (l:=l) (x:=x) m fun j hj=>h j (by omega)
  obtain⟨w0,w1⟩:=h m (by omega)
  show 0<=dkt m l w x+(if l m=x then w m else 0)/\dkt m l w x+(if l m=x then w m else 0)<=((m+1:Nat):Int) * B
  have e:((m+1:Nat):Int) * B=m * B+B:=by
   rw[show((m+1:Nat):Int)=(m:Int)+1 by omega,Int.add_mul,Int.one_mul]
  rw[e]
  split<;>omega
def up1(t:Nat->List (List Int))(S:Nat->Int)(k i:Nat):Int:=if i=k then(S k+1) % ((t k).length:Int) else S i
def dn1(K:Nat->Int)(k i:Nat):Int:=if i=k then K k - 1 else K i
theorem Qs6{n k:Nat}(hk:k<n)(f:Nat->Int)(v:Int):((List.range n).map fun i=>D.int (f i)).set k (.int v)=(List.range n).map fun i=>D.int (if i=k then v else f i):=by
 rw[setR hk]
 apply List.map_congr_left
 intro i _
 split<;>rfl
theorem QOL(z N:Int):Qac [.int z,.int 0,.int N]=.ok (.bl (decide (0<=z)&&decide (z<=N))):=by
 have h:=Qzg z
 rw[Qt2]
 unfold Qf1
 refine Qbu (r_ret (QwQ (Q9 (xs:=[.int z]) (Qf (r_var rfl) r_nil) rfl h) (Qi3 rfl (QHv (r_var rfl) (r_var rfl) (QdB _ _) ?_)))) r_rt
 by_cases h0:0<=z
 ·rw[if_pos (decide_eq_true h0),decide_eq_true h0,Bool.true_and]
  exact QJ3 (r_var rfl) (QdB _ _)
 ·rw[decide_eq_false h0,Bool.false_and];rfl
theorem QsJ{T:SD->Out Fl}{U:SD->Out D}{ς ς':SD}{r:Out D}(a:T ς=.ok (.nx ς'))(k:U ς'=r):DL.tSeq T U ς=r:=by
 unfold DL.tSeq
 rw[a]
 exact k
section
variable{n nd:Nat}{nm dn c:Nat->Str}{t:Nat->List (List Int)}{m:Nat->Nat}{ld:Nat->Nat->Int}{st:Nat->Int}(hs:Seats n nd nm dn c t m ld st)
include hs
theorem QKF{S K G:Nat->Int}{k:Nat}(hk:k<n)(s0:0<=S k)(s1:S k<((t k).length:Int)):
 QgF [offD n nd nm dn c t m ld st,rl n (fun i=>.int (S i)),rl n (fun i=>.int (K i)),rl nd (fun i=>.int (G i)),.int (k:Int)]=
  .ok (.non,some [rl n (fun i=>.int (up1 t S k i)),rl n (fun i=>.int (dn1 K k i+dkt (m k) (ld k) (rw' (t k) (S k)) (i:Int))),rl nd (fun i=>.int (G i+dkt (m k) (ld k) (rw' (t k) (S k)) (-1 - (i:Int))))]):=by
 have hc:=hs.ck k hk
 have tb:=hs.tb k hk
 have n1:=tb.n1
 have hrow:=QNg hc tb s0 s1
 have hlay:=QON (n:=n) (nd:=nd) (m:=m k) (l:=ld k) (w:=rw' (t k) (S k)) (F:=dn1 K k) (G:=G) (fun j hj=>hs.ldr k j hk hj)
 have hx1:dIx (rl n (fun i=>D.int (S i))) (.int (k:Int))=.ok (.int (S k)):=ixR (f:=fun i=>D.int (S i)) hk
 have hx2:dIx (rl n (fun i=>D.int (K i))) (.int (k:Int))=.ok (.int (K k)):=ixR (f:=fun i=>D.int (K i)) hk
 have hn1:=ixNR hk (fun i=>D.int (S i))
 have hn2:=ixNR hk (fun i=>D.int (K i))
 have p1:((List.range n).map fun i=>D.int (S i)).set k (.int ((S k+1) % ((t k).length:Int)))=(List.range n).map fun i=>D.int (up1 t S k i):=Qs6 hk S _
 have p2:((List.range n).map fun i=>D.int (K i)).set k (.int (K k - 1))=(List.range n).map fun i=>D.int (dn1 K k i):=Qs6 hk K _
 have hmod:dMod (.int (S k+1)) (.int ((t k).length:Int))=.ok (.int ((S k+1) % ((t k).length:Int))):=QX (by omega)
 have hclk:∀ ς:SD,ς[0]?=some (some (.k,offD n nd nm dn c t m ld st))->ς[4]?=some (some (.k,.int (k:Int)))->eMeth Qw "clerk" (fun _=>Qby) (eVar 0) (aCons (eVar 4) aNil) ς=.ok (ck (c k) (t k) (m k)):=fun ς h0 h4=>by
  rw[QkU (xs:=[.int (k:Int)]) (r_var h0) (Qf (r_var h4) r_nil) (dk)]
  exact QK9 hk
 have hlds:∀ ς:SD,ς[0]?=some (some (.k,offD n nd nm dn c t m ld st))->ς[4]?=some (some (.k,.int (k:Int)))->eMeth Qw "leads" (fun _=>QbC) (eVar 0) (aCons (eVar 4) aNil) ς=.ok (rl (m k) (fun j=>.int (ld k j))):=fun ς h0 h4=>by
  rw[QkU (xs:=[.int (k:Int)]) (r_var h0) (Qf (r_var h4) r_nil) (dk)]
  exact QJY hk
 have hro:∀ ς:SD,ς[1]?=some (some (.s,rl n (fun i=>.int (S i))))->ς[4]?=some (some (.k,.int (k:Int)))->ς[5]?=some (some (.k,ck (c k) (t k) (m k)))->eMeth Qe "row" (fun _=>QcD) (eVar 5) (aCons (fun ς=>Qot ((e2 dIx (eVarB 1) (eVar 4)) ς)) aNil) ς=.ok (rl (m k) (fun j=>.int (rw' (t k) (S k) j))):=fun ς h1 h4 h5=>by
  rw[Qte (c:=c k) (t:=t k) (m:=m k) hc (xs:=[.int (S k)]) (r_var h5) (Qf (QDZ (r_e2 (Qhk h1) (r_var h4) hx1) rfl) r_nil) (dk) (dk)]
  exact hrow
 have hper:∀ ς:SD,ς[5]?=some (some (.k,ck (c k) (t k) (m k)))->eMeth Qe "period" (fun _=>QaB) (eVar 5) aNil ς=.ok (.int ((t k).length:Int)):=fun ς h5=>by
  rw[Qte (c:=c k) (t:=t k) (m:=m k) hc (xs:=[]) (r_var h5) rfl (dk) (dk)]
  exact Qzt hc _ _
 generalize offD n nd nm dn c t m ld st=O at *
 generalize hCk:ck (c k) (t k) (m k)=Ck at *
 have hb:Qk0 [some (.k,O),some (.s,rl n (fun i=>.int (S i))),some (.s,rl n (fun i=>.int (K i))),some (.s,rl nd (fun i=>.int (G i))),some (.k,.int (k:Int)),none]=.ok (.nx [some (.k,O),some (.s,rl n (fun i=>.int (up1 t S k i))),some (.s,rl n (fun i=>.int (dn1 K k i+dkt (m k) (ld k) (rw' (t k) (S k)) (i:Int)))),some (.s,rl nd (fun i=>.int (G i+dkt (m k) (ld k) (rw' (t k) (S k)) (-1 - (i:Int))))),some (.k,.int (k:Int)),some (.k,Ck)]):=by
  unfold Qk0
  refine r_seq (r_set (hclk _ rfl rfl) (by walk_at "s")) (Qn ?_)
  refine r_seq (fl:=.nx [some (.k,O),some (.s,rl n (fun i=>.int (S i))),some (.s,rl n (fun i=>.int (dn1 K k i))),some (.s,rl nd (fun i=>.int (G i))),some (.k,.int (k:Int)),some (.k,Ck)]) (Qwu (s:=.s) (k:=(k:Int)) (j:=k) (d:=.int (K k - 1)) rfl (r_e2 (r_e2 (Qhk rfl) (r_var rfl) hx2) r_C (QcV _ _)) rfl (r_var rfl) hn2 (by rw[p2];walk_at "s")) (Qn ?_)
  refine r_seq (fl:=.nx [some (.k,O),some (.s,rl n (fun i=>.int (S i))),some (.s,rl n (fun i=>.int (dn1 K k i+dkt (m k) (ld k) (rw' (t k) (S k)) (i:Int)))),some (.s,rl nd (fun i=>.int (G i+dkt (m k) (ld k) (rw' (t k) (S k)) (-1 - (i:Int))))),some (.k,.int (k:Int)),some (.k,Ck)]) (QHp (Qf (Qr2 (s:=.s) rfl rfl) (Qf (Qr2 (s:=.s) rfl rfl) (Qf (hlds _ rfl rfl) (Qf (hro _ rfl rfl rfl) r_nil)))) hlay rfl) (Qn ?_)
  exact Qwu (s:=.s) (k:=(k:Int)) (j:=k) (d:=.int ((S k+1) % ((t k).length:Int))) rfl (r_e2 (r_e2 (r_e2 (Qhk rfl) (r_var rfl) hx1) r_C (Qak _ _)) (hper _ rfl) hmod) rfl (r_var rfl) hn1 (by rw[p1];walk_at "s")
 rw[QMB,hb]
 rfl
theorem QPg{ς:SD}(h:ς[0]?=some (some (.k,offD n nd nm dn c t m ld st))):eMeth Qw "many" (fun _=>QbU) (eVar 0) aNil ς=.ok (.int (n:Int)):=by
 rw[QkU (xs:=[]) (r_var h) rfl (dk)]
 exact QMc
theorem QJs{S K:Nat->Int}{k:Nat}(hk:k<n)(s0:0<=S k)(s1:S k<((t k).length:Int))(k1:1<=K k):
 Qfb [offD n nd nm dn c t m ld st,rl n (fun i=>.int (S i)),rl n (fun i=>.int (K i)),.int (k:Int)]=
  .ok (.tup [rl n (fun i=>.int (up1 t S k i)),rl n (fun i=>.int (dn1 K k i+dkt (m k) (ld k) (rw' (t k) (S k)) (i:Int))),rl nd (fun i=>.int (0+dkt (m k) (ld k) (rw' (t k) (S k)) (-1 - (i:Int))))]):=by
 have hh:=QKF hs (S:=S) (K:=K) (G:=fun _=>0) hk s0 s1
 have hno:=QKB hs
 have hmy:=fun ς h=>QPg hs (ς:=ς) h
 have hx2:dIx (rl n (fun i=>D.int (K i))) (.int (k:Int))=.ok (.int (K k)):=ixR (f:=fun i=>D.int (K i)) hk
 have hw:Qac [.int (k:Int),.int 0,.int ((n:Int) - 1)]=.ok (.bl true):=by
  rw[QOL,decide_eq_true (show(0:Int)<=(k:Int) by omega),decide_eq_true (show(k:Int)<=(n:Int) - 1 by omega)];rfl
 have l1:dList (rl n (fun i=>D.int (S i)))=.ok (rl n (fun i=>D.int (S i))):=rfl
 have l2:dList (rl n (fun i=>D.int (K i)))=.ok (rl n (fun i=>D.int (K i))):=rfl
 have hs1:(rl nd (fun _=>D.int 0)).scal=false:=rfl
 generalize offD n nd nm dn c t m ld st=O at *
 generalize rl n (fun i=>D.int (S i))=Sd at *
 generalize rl n (fun i=>D.int (K i))=Kd at *
 generalize rl nd (fun _=>D.int 0)=Gd at *
 have hk1:¬ K k<1:=by omega
 rw[QJQ]
 unfold Qmn
 refine QsJ (ς':=[some (.k,O),some (.k,Sd),some (.k,Kd),some (.k,.int (k:Int)),none,none,none]) ?_ ?_
 ·refine r_ifF (b:=false) ?_ rfl Qch
  refine r_or' (b:=false) (QkQ (b:=true) (QaR (Q9 (xs:=[.int (k:Int),.int 0,.int ((n:Int) - 1)]) (Qf (r_var rfl) (Qf r_C (Qf (r_e2 (hmy _ rfl) r_C (QcV _ _)) r_nil))) rfl hw))) ?_
  refine QiT rfl ?_
  rw[QaR (r_e2 (r_e2 (r_var rfl) (r_var rfl) hx2) r_C (Qb4 _ _)),decide_eq_false hk1]
 refine QsJ (QdC (r_e1 (r_var rfl) l1) (by walk_at "s")) (QsJ (QdC (r_e1 (r_var rfl) l2) (by walk_at "s")) (QsJ (QdC (QsQ (Q9 (xs:=[O]) (Qf (r_var rfl) r_nil) rfl hno) hs1) (by walk_at "s")) ?_))
 exact QsJ (QHp (Qf (r_var rfl) (Qf (Qr2 (s:=.o) rfl rfl) (Qf (Qr2 (s:=.o) rfl rfl) (Qf (Qr2 (s:=.o) rfl rfl) (Qf (r_var rfl) r_nil))))) hh rfl) rfl
end
theorem Qpb(ns:List Int)(k:Nat):∃ v:Int,QM [.lst (ns.map .int),.int (k:Int)]=.ok (.int v):=by
 have hlen:fLen [.lst (ns.map D.int)]=.ok (.int (ns.length:Int)):=by simp[fLen]
 by_cases h:k<ns.length
 ·have hlt:dLt (.int (k:Int)) (.int (ns.length:Int))=.ok (.bl true):=by rw[Qb4,decide_eq_true (by omega)]
  have hix:dIx (.lst (ns.map .int)) (.int (k:Int))=.ok (.int ns[k]):=ixL k (by rw[List.getElem?_map,List.getElem?_eq_getElem h];rfl)
  refine⟨ns[k],?_⟩
  rw[QvZ]
  unfold Qhz
  (repeat walk_at "e")
 ·have hlt:dLt (.int (k:Int)) (.int (ns.length:Int))=.ok (.bl false):=by rw[Qb4,decide_eq_false (by omega)]
  refine⟨0,?_⟩
  rw[QvZ]
  unfold Qhz
  (repeat walk_at "e")
theorem QsS{ς ς':SD}{i:Nat}{d:D}(e:ς[i]?=some (some (.o,d)))(h:ς.set i (some (.k,d))=ς'):frz i ς=ς':=by
 unfold frz
 rw[e]
 exact h
theorem QsN{T:SD->Out Fl}{j:Nat}{ς ς1:SD}{r:Out Fl}(hz:frz j ς=ς1)(h:T ς1=r):(fun ς=>T (frz j ς)) ς=r:=by
 show T (frz j ς)=r
 rw[hz];exact h
theorem Qwc(n:Nat)(f:Nat->D)(d:D):(List.range n).map f++[d]=(List.range (n+1)).map fun i=>if i<n then f i else d:=by
 rw[List.range_succ,List.map_append]
 congr 1
 ·exact List.map_congr_left fun j hj=>by rw[if_pos (List.mem_range.mp hj)]
 ·show [d]=[if n<n then f n else d];rw[if_neg (by omega)]
theorem Qu8(c:Int){k:Int}(hk:bitsI k<=300):∃ x:Int,0<=x/\x<2305843009213693951/\QaZ [.int c,.int k]=.ok (.int x):=by
 generalize hy:(c % 1000000007+1) * 6364136223846793005+7919 * k * k+31 * k=y
 have s1:sSet 2 (e2 dAdd (e2 dAdd (e2 dMul (e2 dAdd (e2 dMod (eVar 0) (eC (.int 1000000007))) (eC (.int 1))) (eC (.int 6364136223846793005))) (e2 dMul (e2 dMul (eC (.int 7919)) (eVar 1)) (eVar 1))) (e2 dMul (eC (.int 31)) (eVar 1))) [some (.k,.int c),some (.k,.int k),none]=.ok (.nx [some (.k,.int c),some (.k,.int k),some (.k,.int y)]):=by
  rw[← hy]
  (repeat walk_at "e")
 have s2:sSet 2 (e2 dMod (eVar 2) (eC (.int 2305843009213693951))) [some (.k,.int c),some (.k,.int k),some (.k,.int y)]=.ok (.nx [some (.k,.int c),some (.k,.int k),some (.k,.int (y % 2305843009213693951))]):=by (repeat walk_at "e")
 have b0:bitsI (y % 2305843009213693951)<=100:=bd_in (Int.emod_nonneg _ (by decide)) (Int.lt_trans (Int.emod_lt_of_pos _ (by decide)) (by decide))
 generalize y % 2305843009213693951=z at *
 have s3:sSet 2 (e2 dMod (e2 dAdd (e2 dAdd (e2 dMul (eVar 2) (eVar 2)) (e2 dMul (e2 dMul (eC (.int 69621)) (eVar 1)) (eVar 1))) (eVar 1)) (eC (.int 2305843009213693951))) [some (.k,.int c),some (.k,.int k),some (.k,.int z)]=.ok (.nx [some (.k,.int c),some (.k,.int k),some (.k,.int ((z * z+69621 * k * k+k) % 2305843009213693951))]):=by (repeat walk_at "e")
 have b1:bitsI ((z * z+69621 * k * k+k) % 2305843009213693951)<=100:=bd_in (Int.emod_nonneg _ (by decide)) (Int.lt_trans (Int.emod_lt_of_pos _ (by decide)) (by decide))
 generalize (z * z+69621 * k * k+k) % 2305843009213693951=w at *
 refine⟨w * w % 2305843009213693951,Int.emod_nonneg _ (by decide),Int.emod_lt_of_pos _ (by decide),?_⟩
 rw[QFs]
 unfold QiC
 refine Qbu (fl:=.rt false (.int (w * w % 2305843009213693951))) (r_seq s1 (Qn (r_seq s2 (Qn (r_seq s3 (Qn ?_)))))) r_rt
 (repeat walk_at "e")
def Dg(M:Nat)(g:Nat->Int):Prop:=∀ i,i<M->0<=g i/\g i<1000000
theorem QmL(c:Int){M:Nat}(hM:M<=100):∃ g:Nat->Int,Dg M g/\Q8 [.int c,.int (M:Int)]=.ok (rl M (fun i=>.int (g i))):=by
 have h6:dPow (.int 10) (.int 6)=.ok (.int 1000000):=by rw[QHh (by decide)];rfl
 have m2:dMod (.int c) (.int 2)=.ok (.int (c % 2)):=QX (by decide)
 obtain⟨ς',hL,g,z,a4,rfl,hg⟩:=Qcz (body:=fun x ς=>gN 4 x ς>>=fun ς'=>QdO ς') (n:=M)
  (P:=fun k ς=>∃(g:Nat->Int)(z:Int)(a4:Option (SM×D)),ς=[some (.k,.int c),some (.k,.int (M:Int)),some (.o,rl k (fun i=>.int (g i))),some (.k,.int z),a4]/\Dg k g)
  (by
   rintro k hk ς ⟨g,z,a4,rfl,hg⟩
   have hle:((List.range k).map (fun i=>D.int (g i))).length<=1000:=by rw[List.length_map,List.length_range];omega
   have ea:∀ v:Int,(List.range k).map (fun j=>D.int (g j))++[.int v]=(List.range (k+1)).map (fun i=>D.int (if i<k then g i else v)):=fun v=>by
    rw[Qwc]
    exact List.map_congr_left fun i _=>by split<;>rfl
   have hd:∀ v:Int,0<=v->v<1000000->Dg (k+1) (fun i=>if i<k then g i else v):=fun v v0 v1 i hi=>by
    show 0<=(if i<k then g i else v)/\(if i<k then g i else v)<1000000
    split
    ·rename_i w;exact hg i w
    ·exact⟨v0,v1⟩
   by_cases h:c % 2=0
   ·have mz:dMod (.int z) (.int 1000000)=.ok (.int (z % 1000000)):=QX (by decide)
    have dz:dFdiv (.int z) (.int 1000000)=.ok (.int (z / 1000000)):=QmG (by decide) (by decide)
    have v0:=Int.emod_nonneg z (b:=1000000) (by decide)
    have v1:=Int.emod_lt_of_pos z (b:=1000000) (by decide)
    generalize z % 1000000=v at *
    refine⟨[some (.k,.int c),some (.k,.int (M:Int)),some (.o,rl (k+1) (fun i=>.int (if i<k then g i else v))),some (.k,.int (z / 1000000)),some (.k,.int (k:Int))],?_,_,_,_,rfl,hd v v0 v1⟩
    refine r_gN (by walk_at "s") ?_
    unfold QdO
    refine r_ifT (b:=decide (c % 2=0)) (by (repeat walk_at "e")) (decide_eq_true h) ?_
    refine r_seq (r_app (xs:=(List.range k).map (fun i=>D.int (g i))) rfl (r_e2 (r_var rfl) (r_e2 r_C r_C h6) mz) hle (by rw[ea v];walk_at "s")) (Qn ?_)
    exact r_set (r_e2 (r_var rfl) (r_e2 r_C r_C h6) dz) (by walk_at "s")
   ·obtain⟨x,x0,x1,hx⟩:=Qu8 c (k:=(k:Int)) (QOb (Nat.lt_of_lt_of_le hk (Nat.le_trans hM (by decide))))
    have mz:dMod (.int x) (.int 1000000)=.ok (.int (x % 1000000)):=QX (by decide)
    have v0:=Int.emod_nonneg x (b:=1000000) (by decide)
    have v1:=Int.emod_lt_of_pos x (b:=1000000) (by decide)
    generalize x % 1000000=v at *
    refine⟨[some (.k,.int c),some (.k,.int (M:Int)),some (.o,rl (k+1) (fun i=>.int (if i<k then g i else v))),some (.k,.int z),some (.k,.int (k:Int))],?_,_,_,_,rfl,hd v v0 v1⟩
    refine r_gN (by walk_at "s") ?_
    unfold QdO
    refine r_ifF (b:=decide (c % 2=0)) (by (repeat walk_at "e")) (decide_eq_false h) ?_
    exact r_app (xs:=(List.range k).map (fun i=>D.int (g i))) rfl (r_e2 (Q9 (xs:=[.int c,.int (k:Int)]) (Qf (r_var rfl) (Qf (r_var rfl) r_nil)) rfl hx) (r_e2 r_C r_C h6) mz) hle (by rw[ea v];walk_at "s"))
  [some (.k,.int c),some (.k,.int (M:Int)),some (.o,.lst []),some (.k,.int (c / 2)),none] ⟨fun _=>0,_,_,rfl,fun i hi=>absurd hi (by omega)⟩
 have hR:itR1 (eVar 1) [some (.k,.int c),some (.k,.int (M:Int)),some (.o,.lst []),some (.k,.int (c / 2)),none]=.ok (Qb1 0 M):=Qce M (r_var rfl) (by omega)
 have hfor:=Qb7 (g:=gN 4) (T:=QdO) hR hL
 have d2:dFdiv (.int c) (.int 2)=.ok (.int (c / 2)):=QmG (by decide) (by decide)
 refine⟨g,hg,?_⟩
 rw[QCC]
 unfold QhA
 refine Qbu (fl:=.rt true (rl M (fun i=>.int (g i)))) (r_seq (QdC (d:=.lst []) (by (repeat walk_at "e")) (by walk_at "s")) (Qn (r_seq (r_set (r_e2 (r_var rfl) r_C d2) (by walk_at "s")) (Qn (r_seq hfor (Qn (QC5 rfl))))))) r_rtT
theorem dg_ix{M i:Nat}{g:Nat->Int}(h:i<M):dIx (rl M (fun i=>.int (g i))) (.int (i:Int))=.ok (.int (g i)):=ixR (f:=fun i=>D.int (g i)) h
theorem QO2(x:Int):∃ b:Int,0<=b/\b<=9/\dIx (.lst [.int 0,.int 1,.int 0,.int 2,.int 1,.int 0,.int 1,.int 0,.int 0,.int 1]) (.int (x % 10))=.ok (.int b):=by
 rcases(by omega:x % 10=0∨x % 10=1∨x % 10=2∨x % 10=3∨x % 10=4∨x % 10=5∨x % 10=6∨x % 10=7∨x % 10=8∨x % 10=9) with e | e | e | e | e | e | e | e | e | e<;>rw[e]
 ·exact⟨0,by omega,by omega,rfl⟩
 ·exact⟨1,by omega,by omega,rfl⟩
 ·exact⟨0,by omega,by omega,rfl⟩
 ·exact⟨2,by omega,by omega,rfl⟩
 ·exact⟨1,by omega,by omega,rfl⟩
 ·exact⟨0,by omega,by omega,rfl⟩
 ·exact⟨1,by omega,by omega,rfl⟩
 ·exact⟨0,by omega,by omega,rfl⟩
 ·exact⟨0,by omega,by omega,rfl⟩
 ·exact⟨1,by omega,by omega,rfl⟩
theorem pick2(a b:Int)(T:Int)(hT:T=0∨T=1):∃ v:Int,(v=a∨v=b)/\dIx (.lst [.int a,.int b]) (.int T)=.ok (.int v):=by
 rcases hT with rfl | rfl
 ·exact⟨a,.inl rfl,rfl⟩
 ·exact⟨b,.inr rfl,rfl⟩
theorem QLL(d:Int){m:Nat}(hm:m<=100){T:Int}(hT:T=0∨T=1):∃ r:List Int,r.length=m/\(∀ x∈r,0<=x/\x<=9)/\Qcf [.int d,.int (m:Int),.int T]=.ok (dl r):=by
 obtain⟨ς',hL,v,r,a3,rfl,hl,hr⟩:=Qcz (body:=fun x ς=>gN 4 x ς>>=fun ς'=>QdG ς') (n:=m)
  (P:=fun k ς=>∃(v:Int)(r:List Int)(a3:Option (SM×D)),ς=[some (.k,.int v),some (.k,.int (m:Int)),some (.k,.int T),some (.o,dl r),a3]/\r.length=k/\∀ x∈r,0<=x/\x<=9)
  (by
   rintro k hk ς ⟨v,r,a3,rfl,hl,hr⟩
   obtain⟨b,b0,b9,hb⟩:=QO2 v
   have hm10:dMod (.int v) (.int 10)=.ok (.int (v % 10)):=QX (by decide)
   have hd10:dFdiv (.int v) (.int 10)=.ok (.int (v / 10)):=QmG (by decide) (by decide)
   have q0:=Int.emod_nonneg v (b:=10) (by decide)
   have q1:=Int.emod_lt_of_pos v (b:=10) (by decide)
   obtain⟨e,he,hx⟩:=pick2 (v % 10) b T hT
   have e0:0<=e/\e<=9:=by rcases he with rfl | rfl<;>omega
   refine⟨[some (.k,.int (v / 10)),some (.k,.int (m:Int)),some (.k,.int T),some (.o,dl (r++[e])),some (.k,.int (k:Int))],?_,v / 10,r++[e],_,rfl,by rw[List.length_append,hl];rfl,fun x hx=>by
    rcases List.mem_append.mp hx with w | w
    ·exact hr x w
    ·rw[List.mem_singleton.mp w];exact e0⟩
   have hle:(r.map D.int).length<=1000:=by rw[List.length_map];omega
   have ea:dl (r++[e])=.lst (r.map D.int++[.int e]):=by unfold dl;simp
   rw[ea]
   show(gN 4 (D.int (k:Int)) [some (.k,.int v),some (.k,.int (m:Int)),some (.k,.int T),some (.o,.lst (r.map D.int)),a3]>>=fun ς'=>QdG ς')=_
   refine r_gN (by walk_at "s") ?_
   unfold QdG
   (repeat walk_at "e"))
  [some (.k,.int d),some (.k,.int (m:Int)),some (.k,.int T),some (.o,.lst []),none] ⟨d,[],_,rfl,rfl,fun x hx=>absurd hx List.not_mem_nil⟩
 have hR:itR1 (eVar 1) [some (.k,.int d),some (.k,.int (m:Int)),some (.k,.int T),some (.o,.lst []),none]=.ok (Qb1 0 m):=Qce m (by (repeat walk_at "e")) (by omega)
 have hfor:=Qb7 (g:=gN 4) (T:=QdG) hR hL
 refine⟨r,hl,hr,?_⟩
 rw[QEb]
 unfold Qg8
 (repeat walk_at "e")
inductive Kd:Int->List (List Int)->Nat->Prop where
 | deal (n:Nat) (h1:1<=n) (h2:n<=6):Kd 0 (dealT n) n
 | bun (n:Nat) (h1:1<=n) (h2:n<=12):Kd 1 (bunT n) 1
 | copy (r:List Int) (m:Nat) (h:Tb [r] m):Kd 2 [r] m
 | rows (t:List (List Int)) (m:Nat) (h:Tb t m):Kd 3 t m
theorem Kd.tb{w:Int}{t:List (List Int)}{m:Nat}:Kd w t m->Tb t m
 | .deal n h1 h2=>QHj h1 h2
 | .bun n h1 h2=>QKG h1 h2
 | .copy _ _ h=>h
 | .rows _ _ h=>h
theorem dbl(b:Bool):f1 dInt [.bl b]=.ok (.int (if b=true then 1 else 0)):=by cases b<;>rfl
theorem QMK{w:Int}{t:List (List Int)}{m:Nat}(h:Kd w t m):∃ c,CK.contains c=true/\Qb8 [.int w,tbD t]=.ok (ck c t m):=by
 have hlen:fLen [tbD t]=.ok (.int (t.length:Int)):=by simp[fLen,tbD]
 have e00:dEq (.int 0) (.int 0)=.ok (.bl true):=by rw[Qar];rfl
 have e10:dEq (.int 1) (.int 0)=.ok (.bl false):=by rw[Qar];rfl
 have e11:dEq (.int 1) (.int 1)=.ok (.bl true):=by rw[Qar];rfl
 have e20:dEq (.int 2) (.int 0)=.ok (.bl false):=by rw[Qar];rfl
 have e21:dEq (.int 2) (.int 1)=.ok (.bl false):=by rw[Qar];rfl
 have e22:dEq (.int 2) (.int 2)=.ok (.bl true):=by rw[Qar];rfl
 have e30:dEq (.int 3) (.int 0)=.ok (.bl false):=by rw[Qar];rfl
 have e31:dEq (.int 3) (.int 1)=.ok (.bl false):=by rw[Qar];rfl
 have e32:dEq (.int 3) (.int 2)=.ok (.bl false):=by rw[Qar];rfl
 cases h with
 | deal _ h1 h2=>
  have hl:(dealT m).length=m:=by simp[dealT]
  rw[hl]at hlen
  have hi:=QJU (c:="Deal") (dk) h1 (by omega)
  refine⟨"Deal",dk,?_⟩
  unfold ck
  rw[QiO]
  unfold Qdv
  (repeat walk_at "e")
 | bun n h1 h2=>
  have hl:(bunT n).length=n:=by simp[bunT]
  rw[hl]at hlen
  have hi:=QMm (c:="Bundle") (dk) h1 (by omega)
  refine⟨"Bundle",dk,?_⟩
  unfold ck
  rw[QiO]
  unfold Qdv
  (repeat walk_at "e")
 | copy r m h=>
  have hi:=QKX (c:="Copy") (dk) h
  have hix0:dIx (tbD [r]) (.int 0)=.ok (dl r):=ixL 0 rfl
  have hdl:dList (dl r)=.ok (dl r):=rfl
  refine⟨"Copy",dk,?_⟩
  unfold ck
  rw[QiO]
  unfold Qdv
  (repeat walk_at "e")
 | rows t m h=>
  have hi:=QKb (c:="Rows") (dk) h
  have hc:eComp [none] (itL (eVar 1)) (gN 0) cTrue QqM [some (.k,.int 3),some (.k,tbD t)]=.ok (tbD t):=by
   refine Qas dl dl rfl (fun x hx=>?_) (by have:=h.n2;omega)
   refine Qao (by walk_at "cap") (by walk_at "s") ?_
   rfl
  refine⟨"Rows",dk,?_⟩
  unfold ck
  rw[QiO]
  unfold Qdv
  (repeat walk_at "e")
theorem QLG{n:Nat}(hn:n<=100){ς:SD}(h:ς[3]?=some (some (.k,.int (n:Int))))(hc:captD [none,some 3] ς=[none,some (.k,.int (n:Int))]):eComp [none,some 3] (itR1 (eVar 3)) (gN 0) cTrue Qlm ς=.ok (tbD (dealT n)):=by
 have e:tbD (dealT n)=.lst ((List.range n).map fun s=>dl (one n s)):=by unfold tbD dealT;rw[List.map_map];rfl
 rw[e]
 refine Qas (fun s:Nat=>D.int ((0:Int)+s)) (fun s=>dl (one n s)) (Qce n (r_var h) (by omega)) (fun s _=>?_) (by rw[List.length_range];omega)
 refine Qao hc (by walk_at "s") ?_
 unfold Qlm
 have e2':dl (one n s)=.lst ((List.range n).map fun k=>D.int (if k=s then 1 else 0)):=by unfold dl one;rw[List.map_map];rfl
 rw[e2',Int.zero_add]
 refine Qas (fun k:Nat=>D.int ((0:Int)+k)) (fun k=>D.int (if k=s then 1 else 0)) (Qce n rfl (by omega)) (fun k _=>?_) (by rw[List.length_range];omega)
 refine Qao (by walk_at "cap") (by walk_at "s") ?_
 unfold Qta
 have hd:=dbl (decide (((0:Int)+(k:Int))=(s:Int)))
 have hh:(if decide (((0:Int)+(k:Int))=(s:Int))=true then(1:Int) else 0)=if k=s then 1 else 0:=by
  by_cases q:k=s
  ·rw[if_pos q,if_pos (decide_eq_true (by omega))]
  ·rw[if_neg q,decide_eq_false (by omega)];rfl
 rw[hh]at hd
 (repeat walk_at "e")
theorem QLR{n:Nat}(hn:n<=100){ς:SD}(h:ς[3]?=some (some (.k,.int (n:Int))))(hc:captD [none,some 3] ς=[none,some (.k,.int (n:Int))]):eComp [none,some 3] (itR1 (eVar 3)) (gN 0) cTrue QkO ς=.ok (tbD (bunT n)):=by
 have e:tbD (bunT n)=.lst ((List.range n).map fun s=>dl [if s+1=n then 1 else 0]):=by unfold tbD bunT;rw[List.map_map];rfl
 rw[e]
 refine Qas (fun s:Nat=>D.int ((0:Int)+s)) (fun s=>dl [if s+1=n then 1 else 0]) (Qce n (r_var h) (by omega)) (fun s _=>?_) (by rw[List.length_range];omega)
 refine Qao hc (by walk_at "s") ?_
 unfold QkO
 show _=Out.ok (D.lst [.int (if s+1=n then 1 else 0)])
 have hd:=dbl (decide (((0:Int)+(s:Int))=(n:Int) - 1))
 have hh:(if decide (((0:Int)+(s:Int))=(n:Int) - 1)=true then(1:Int) else 0)=if s+1=n then 1 else 0:=by
  by_cases q:s+1=n
  ·rw[if_pos q,if_pos (decide_eq_true (by omega))]
  ·rw[if_neg q,decide_eq_false (by omega)];rfl
 rw[hh]at hd
 (repeat walk_at "e")
theorem QNV{g:Nat->Int}(hg:Dg 26 g){T:Int}(hT:T=0∨T=1):∃ w t m,Kd w t m/\Qd8 [rl 26 (fun i=>.int (g i)),.int T]=.ok (.tup [.int w,tbD t]):=by
 have x0:dIx (rl 26 (fun i=>.int (g i))) (.int 0)=.ok (.int (g 0)):=dg_ix (M:=26) (i:=0) (by decide)
 have x1:dIx (rl 26 (fun i=>.int (g i))) (.int 1)=.ok (.int (g 1)):=dg_ix (M:=26) (i:=1) (by decide)
 have x2:dIx (rl 26 (fun i=>.int (g i))) (.int 2)=.ok (.int (g 2)):=dg_ix (M:=26) (i:=2) (by decide)
 have xs:∀ s:Nat,s<12->dIx (rl 26 (fun i=>.int (g i))) (.int (10+(s:Int)))=.ok (.int (g (10+s))):=fun s hs=>by
  rw[show(10:Int)+(s:Int)=((10+s:Nat):Int) by omega]
  exact dg_ix (by omega)
 obtain⟨A,hA,pA⟩:=pick2 12 4 T hT
 obtain⟨B,hB,pB⟩:=pick2 6 4 T hT
 obtain⟨C,hC,pC⟩:=pick2 7 4 T hT
 have m4:dMod (.int (g 0)) (.int 4)=.ok (.int (g 0 % 4)):=QX (by decide)
 have A1:0<A:=by rcases hA with rfl | rfl<;>decide
 have B1:0<B:=by rcases hB with rfl | rfl<;>decide
 have C1:0<C:=by rcases hC with rfl | rfl<;>decide
 have mA:dMod (.int (g 1)) (.int A)=.ok (.int (g 1 % A)):=QX A1
 have mB:dMod (.int (g 1)) (.int B)=.ok (.int (g 1 % B)):=QX B1
 have mC:dMod (.int (g 2)) (.int C)=.ok (.int (g 2 % C)):=QX C1
 obtain⟨sz,hsz,z1,z12⟩:∃ n:Nat,1+g 1 % A=(n:Int)/\1<=n/\n<=12:=by
  have a:=Int.emod_nonneg (g 1) (b:=A) (by omega)
  have b:=Int.emod_lt_of_pos (g 1) A1
  exact⟨(1+g 1 % A).toNat,by omega,by omega,by rcases hA with rfl | rfl<;>omega⟩
 obtain⟨sb,hsb,y1,y6⟩:∃ n:Nat,1+g 1 % B=(n:Int)/\1<=n/\n<=6:=by
  have a:=Int.emod_nonneg (g 1) (b:=B) (by omega)
  have b:=Int.emod_lt_of_pos (g 1) B1
  exact⟨(1+g 1 % B).toNat,by omega,by omega,by rcases hB with rfl | rfl<;>omega⟩
 obtain⟨ot,hot,o6⟩:∃ n:Nat,g 2 % C=(n:Int)/\n<=6:=by
  have a:=Int.emod_nonneg (g 2) (b:=C) (by omega)
  have b:=Int.emod_lt_of_pos (g 2) C1
  exact⟨(g 2 % C).toNat,by omega,by rcases hC with rfl | rfl<;>omega⟩
 rw[hot]at mC
 generalize hG:rl 26 (fun i=>D.int (g i))=G at *
 have w4:g 0 % 4=0∨g 0 % 4=1∨g 0 % 4=2∨g 0 % 4=3:=by omega
 generalize g 0 % 4=w at *
 have s2:sSet 2 (e2 dMod (e2 dIx (eVar 0) (eC (.int 0))) (eC (.int 4))) [some (.k,G),some (.k,.int T),none,none,none]=.ok (.nx [some (.k,G),some (.k,.int T),some (.k,.int w),none,none]):=r_set (r_e2 (r_e2 (r_var rfl) r_C x0) r_C m4) (by walk_at "s")
 have s3:sSet 3 (e2 dAdd (eC (.int 1)) (e2 dMod (e2 dIx (eVar 0) (eC (.int 1))) (e2 dIx (eLst (aCons (eC (.int 12)) (aCons (eC (.int 4)) aNil))) (eVar 1)))) [some (.k,G),some (.k,.int T),some (.k,.int w),none,none]=.ok (.nx [some (.k,G),some (.k,.int T),some (.k,.int w),some (.k,.int (sz:Int)),none]):=by
  rw[← hsz]
  exact r_set (r_e2 r_C (r_e2 (r_e2 (r_var rfl) r_C x1) (r_e2 (r_lst (Qf r_C (Qf r_C r_nil)) (show 2<=1000 by decide)) (r_var rfl) pA) mA) (Qak _ _)) (by walk_at "s")
 have s3b:sSet 3 (e2 dAdd (eC (.int 1)) (e2 dMod (e2 dIx (eVar 0) (eC (.int 1))) (e2 dIx (eLst (aCons (eC (.int 6)) (aCons (eC (.int 4)) aNil))) (eVar 1)))) [some (.k,G),some (.k,.int T),some (.k,.int w),some (.k,.int (sz:Int)),none]=.ok (.nx [some (.k,G),some (.k,.int T),some (.k,.int w),some (.k,.int (sb:Int)),none]):=by
  rw[← hsb]
  exact r_set (r_e2 r_C (r_e2 (r_e2 (r_var rfl) r_C x1) (r_e2 (r_lst (Qf r_C (Qf r_C r_nil)) (show 2<=1000 by decide)) (r_var rfl) pB) mB) (Qak _ _)) (by walk_at "s")
 have tail:∀(w:Int)(n:Nat),1<=n->n<=12->∃ t:List (List Int),t.length=n/\Tb t ot/\sSeq (sSet 4 (e2 dMod (e2 dIx (eVar 0) (eC (.int 2))) (e2 dIx (eLst (aCons (eC (.int 7)) (aCons (eC (.int 4)) aNil))) (eVar 1)))) (sRet (eTup (aCons (eVar 2) (aCons (eComp [none,some 0,some 4,some 1] (itR1 (eVar 3)) (gN 0) cTrue Qhf) aNil)))) [some (.k,G),some (.k,.int T),some (.k,.int w),some (.k,.int (n:Int)),none]=.ok (.rt false (.tup [.int w,tbD t])):=fun w n h1 h12=>by
  have H:∀ s:Nat,∃ r:List Int,s<12->r.length=ot/\(∀ x∈r,0<=x/\x<=9)/\Qcf [.int (g (10+s)),.int (ot:Int),.int T]=.ok (dl r):=fun s=>by
   obtain⟨r,a,b,e⟩:=QLL (g (10+s)) (m:=ot) (by omega) hT
   exact⟨r,fun _=>⟨a,b,e⟩⟩
  obtain⟨R,hR⟩:=Classical.axiomOfChoice H
  refine⟨(List.range n).map R,by simp,⟨by simp;omega,by simp;omega,by omega,fun r hr=>?_,fun r hr=>?_⟩,?_⟩
  ·obtain⟨s,hs,rfl⟩:=List.mem_map.mp hr
   exact(hR s (by have:=List.mem_range.mp hs;omega)).1
  ·obtain⟨s,hs,rfl⟩:=List.mem_map.mp hr
   exact(hR s (by have:=List.mem_range.mp hs;omega)).2.1
  ·have hc:eComp [none,some 0,some 4,some 1] (itR1 (eVar 3)) (gN 0) cTrue Qhf [some (.k,G),some (.k,.int T),some (.k,.int w),some (.k,.int (n:Int)),some (.k,.int (ot:Int))]=.ok (tbD ((List.range n).map R)):=by
    unfold tbD
    rw[List.map_map]
    refine QkT (fun s=>dl (R s)) (Qce n (r_var rfl) (by omega)) (fun s hs=>?_) (by omega)
    refine Qao (by walk_at "cap") (by walk_at "s") ?_
    unfold Qhf
    exact Q9 (xs:=[.int (g (10+s)),.int (ot:Int),.int T]) (Qf (r_e2 (r_var rfl) (r_e2 r_C (r_var rfl) (Qak _ _)) (xs s (by omega))) (Qf (r_var rfl) (Qf (r_var rfl) r_nil))) rfl (hR s (by omega)).2.2
   refine r_seq (r_set (r_e2 (r_e2 (r_var rfl) r_C x2) (r_e2 (r_lst (Qf r_C (Qf r_C r_nil)) (show 2<=1000 by decide)) (r_var rfl) pC) mC) (by walk_at "s")) (Qn ?_)
   exact r_ret (r_tup (Qf (r_var rfl) (Qf hc r_nil)) (show 2<=1000 by decide))
 have q:∀(a b:Int)(z:Bool),decide (a=b)=z->∀ ς:SD,ς[2]?=some (some (.k,.int a))->tVal (e2 dEq (eVar 2) (eC (.int b))) ς=.ok z:=fun a b z h ς hς=>by
  rw[QaR (r_e2 (r_var hς) r_C (Qar a b)),h]
 rcases w4 with rfl | rfl | rfl | rfl
 ·refine⟨0,dealT sb,sb,.deal sb y1 y6,?_⟩
  have hc:=QLG (n:=sb) (by omega) (ς:=[some (.k,G),some (.k,.int T),some (.k,.int 0),some (.k,.int (sb:Int)),none]) rfl (by walk_at "cap")
  rw[Qkz]
  unfold Qeq
  refine Qbu (fl:=.rt false (.tup [.int 0,tbD (dealT sb)])) (r_seq s2 (Qn (r_seq s3 (Qn (r_seq (fl:=.rt false (.tup [.int 0,tbD (dealT sb)])) ?_ QoH))))) r_rt
  exact r_ifT (q 0 0 true rfl _ rfl) rfl (r_seq s3b (Qn (r_ret (r_tup (Qf (r_var rfl) (Qf hc r_nil)) (show 2<=1000 by decide)))))
 ·refine⟨1,bunT sz,1,.bun sz z1 z12,?_⟩
  have hc:=QLR (n:=sz) (by omega) (ς:=[some (.k,G),some (.k,.int T),some (.k,.int 1),some (.k,.int (sz:Int)),none]) rfl (by walk_at "cap")
  rw[Qkz]
  unfold Qeq
  refine Qbu (fl:=.rt false (.tup [.int 1,tbD (bunT sz)])) (r_seq s2 (Qn (r_seq s3 (Qn (r_seq (r_ifF (q 1 0 false rfl _ rfl) rfl Qch) (Qn (r_seq (fl:=.rt false (.tup [.int 1,tbD (bunT sz)])) ?_ QoH))))))) r_rt
  exact r_ifT (q 1 1 true rfl _ rfl) rfl (r_ret (r_tup (Qf (r_var rfl) (Qf hc r_nil)) (show 2<=1000 by decide)))
 ·obtain⟨t,tl,tb,ht⟩:=tail 2 1 (by decide) (by decide)
  obtain⟨r,rfl⟩:∃ r,t=[r]:=by
   match t,tl with
   | [r],_=>exact⟨r,rfl⟩
  refine⟨2,[r],ot,.copy r ot tb,?_⟩
  rw[Qkz]
  unfold Qeq
  refine Qbu (fl:=.rt false (.tup [.int 2,tbD [r]])) (r_seq s2 (Qn (r_seq s3 (Qn (r_seq (r_ifF (q 2 0 false rfl _ rfl) rfl Qch) (Qn (r_seq (r_ifF (q 2 1 false rfl _ rfl) rfl Qch) (Qn (r_seq (fl:=.nx [some (.k,G),some (.k,.int T),some (.k,.int 2),some (.k,.int ((1:Nat):Int)),none]) ?_ (Qn ht)))))))))) r_rt
  exact r_ifT (q 2 2 true rfl _ rfl) rfl (r_set r_C (by walk_at "s"))
 ·obtain⟨t,tl,tb,ht⟩:=tail 3 sz z1 z12
  refine⟨3,t,ot,.rows t ot tb,?_⟩
  rw[Qkz]
  unfold Qeq
  refine Qbu (fl:=.rt false (.tup [.int 3,tbD t])) (r_seq s2 (Qn (r_seq s3 (Qn (r_seq (r_ifF (q 3 0 false rfl _ rfl) rfl Qch) (Qn (r_seq (r_ifF (q 3 1 false rfl _ rfl) rfl Qch) (Qn (r_seq (r_ifF (q 3 2 false rfl _ rfl) rfl Qch) (Qn ht)))))))))) r_rt
def inL(c:Nat):Bool := !(Builtin.Str.occurrences ("abcdefghijklmnopqrstuvwxyz":Str) ⟨#[c]⟩ 0 ("abcdefghijklmnopqrstuvwxyz":Str).length 1).isEmpty
theorem compN(z:Str)(hz:z.length<=1000):eComp [none] (itS (eVar 0)) (gN 0) cTrue QnL [some (.k,.str z)]=.ok (.lst (z.cps.toList.map fun c=>D.bl (inL c))):=by
 unfold eComp
 have h:=Qvb (f:=turnC [none] (gN 0) cTrue QnL [some (.k,.str z)]) (h:=fun d=>match d with | .str x=>some (.bl (!(Builtin.Str.occurrences ("abcdefghijklmnopqrstuvwxyz":Str) x 0 ("abcdefghijklmnopqrstuvwxyz":Str).length 1).isEmpty)) | _=>none) (xs:=signs z) (by
  intro x hx
  obtain⟨c,_,rfl⟩:=List.mem_map.mp hx
  rfl)
 have e:(signs z).filterMap (fun d=>match d with | .str x=>some (D.bl (!(Builtin.Str.occurrences ("abcdefghijklmnopqrstuvwxyz":Str) x 0 ("abcdefghijklmnopqrstuvwxyz":Str).length 1).isEmpty)) | _=>none)=z.cps.toList.map fun c=>D.bl (inL c):=by
  unfold signs
  rw[List.filterMap_map]
  exact List.filterMap_eq_map' (f:=fun c=>D.bl (inL c)) ▸ rfl
 show(compM _ (signs z)>>=_)=_
 rw[h,e,Out.bind_ok,if_pos (QgO (by rw[List.length_map,QNK];exact hz))]
def nmB(z:Str):Bool:=decide (1<=z.length)&&decide (z.length<=6)&&z.cps.toList.all inL
theorem QNc(z:Str)(hz:z.length<=1000):QaO [.str z]=.ok (.bl (nmB z)):=by
 rw[QLb]
 unfold QmB
 have hf:=QgO hz
 unfold nmB
 by_cases h1:1<=z.length
 ·by_cases h2:z.length<=6
  ·have h1':(1:Int)<=(z.length:Int):=by omega
   have h2':(z.length:Int)<=6:=by omega
   simp only[bodyF,retF,sSeq,thenF,sSet,sRet,sIf,sNil,eVar,eC,e1,e2,eA,f1,aNil,aCons,tVal,tAnd',tOr',tNot',eAnd,eOr,eNot,eIf,eTup,eLst,eIsa,isaT,Qct,oNo,oSome,sPar,sUnp,QaI,gN,gT,fLen,Qc7,Out.bind_ok,Out.bind_exc,Out.bind_stuck,Out.pure_eq,D.scal,Qak,QcV,QeA,Qih,Qb4,QdB,Qh7,QkK,Qar,QeO,List.length_cons,List.length_nil,List.map_cons,List.map_nil,List.cons_append,List.nil_append,List.append_nil,List.getElem?_cons_zero,List.getElem?_cons_succ,List.set_cons_zero,List.set_cons_succ,List.replicate,Nat.reduceAdd,Nat.reduceSub,Nat.reduceLeDiff,Nat.zero_add,Nat.add_zero,reduceIte,Bool.not_true,Bool.not_false,Bool.true_and,Bool.and_true,Bool.false_and,Bool.and_false,Bool.or_true,Bool.true_or,Bool.or_false,Bool.false_or,Bool.false_eq_true,decide_true,decide_false,decide_eq_true_eq,Bool.not_eq_true',decide_eq_false_iff_not,Int.reduceEq,Int.reduceLT,Int.reduceLE,Int.reduceNeg,Nat.reduceEqDiff, ↓reduceIte,not_true_eq_false,not_false_eq_true,Qc9,compN z hz,Qh8,hf,h1,h2,h1',h2',beq_self_eq_true]
  ·have h1':(1:Int)<=(z.length:Int):=by omega
   have h2':¬ (z.length:Int)<=6:=by omega
   simp only[bodyF,retF,sSeq,thenF,sSet,sRet,sIf,sNil,eVar,eC,e1,e2,eA,f1,aNil,aCons,tVal,tAnd',tOr',tNot',eAnd,eOr,eNot,eIf,eTup,eLst,eIsa,isaT,Qct,oNo,oSome,sPar,sUnp,QaI,gN,gT,fLen,Qc7,Out.bind_ok,Out.bind_exc,Out.bind_stuck,Out.pure_eq,D.scal,Qak,QcV,QeA,Qih,Qb4,QdB,Qh7,QkK,Qar,QeO,List.length_cons,List.length_nil,List.map_cons,List.map_nil,List.cons_append,List.nil_append,List.append_nil,List.getElem?_cons_zero,List.getElem?_cons_succ,List.set_cons_zero,List.set_cons_succ,List.replicate,Nat.reduceAdd,Nat.reduceSub,Nat.reduceLeDiff,Nat.zero_add,Nat.add_zero,reduceIte,Bool.not_true,Bool.not_false,Bool.true_and,Bool.and_true,Bool.false_and,Bool.and_false,Bool.or_true,Bool.true_or,Bool.or_false,Bool.false_or,Bool.false_eq_true,decide_true,decide_false,decide_eq_true_eq,Bool.not_eq_true',decide_eq_false_iff_not,Int.reduceEq,Int.reduceLT,Int.reduceLE,Int.reduceNeg,Nat.reduceEqDiff, ↓reduceIte,not_true_eq_false,not_false_eq_true,Qc9,compN z hz,Qh8,hf,h1,h2,h1',h2',beq_self_eq_true]
 ·have h1':¬ (1:Int)<=(z.length:Int):=by omega
  simp only[bodyF,retF,sSeq,thenF,sSet,sRet,sIf,sNil,eVar,eC,e1,e2,eA,f1,aNil,aCons,tVal,tAnd',tOr',tNot',eAnd,eOr,eNot,eIf,eTup,eLst,eIsa,isaT,Qct,oNo,oSome,sPar,sUnp,QaI,gN,gT,fLen,Qc7,Out.bind_ok,Out.bind_exc,Out.bind_stuck,Out.pure_eq,D.scal,Qak,QcV,QeA,Qih,Qb4,QdB,Qh7,QkK,Qar,QeO,List.length_cons,List.length_nil,List.map_cons,List.map_nil,List.cons_append,List.nil_append,List.append_nil,List.getElem?_cons_zero,List.getElem?_cons_succ,List.set_cons_zero,List.set_cons_succ,List.replicate,Nat.reduceAdd,Nat.reduceSub,Nat.reduceLeDiff,Nat.zero_add,Nat.add_zero,reduceIte,Bool.not_true,Bool.not_false,Bool.true_and,Bool.and_true,Bool.false_and,Bool.and_false,Bool.or_true,Bool.true_or,Bool.or_false,Bool.false_or,Bool.false_eq_true,decide_true,decide_false,decide_eq_true_eq,Bool.not_eq_true',decide_eq_false_iff_not,Int.reduceEq,Int.reduceLT,Int.reduceLE,Int.reduceNeg,Nat.reduceEqDiff, ↓reduceIte,not_true_eq_false,not_false_eq_true,Qc9,compN z hz,Qh8,hf,h1,h1',beq_self_eq_true]
theorem ltr{i:Nat}(h:i<26):dIx (.str "abcdefghijklmnopqrstuvwxyz") (.int (i:Int))=.ok (.str ⟨#[97+i]⟩):=by
 have e:("abcdefghijklmnopqrstuvwxyz":Str).cps.toList=(List.range 26).map (97 + ·):=dk
 show(if fits ("abcdefghijklmnopqrstuvwxyz":Str).length=true then optO ((atI ("abcdefghijklmnopqrstuvwxyz":Str).cps.toList (i:Int)).map fun c=>D.str ⟨#[c]⟩) else .stuck)=_
 rw[if_pos (dk),e,QyW (show((List.range 26).map (97 + ·))[i]?=some (97+i) by rw[List.getElem?_map,List.getElem?_range h];rfl)]
 rfl
theorem QHg{i:Nat}(h:i<26):inL (97+i)=true:=by
 have key:∀ a:Fin 26,inL (97+a)=true:=dk
 exact key ⟨i,h⟩
theorem QHD(x:Str)(c:Nat):(x++(⟨#[c]⟩:Str)).cps.toList=x.cps.toList++[c]:=by
 show(x.cps ++ #[c]).toList=_
 rw[Array.toList_append]
def Nh(x:Str)(f:Nat):Prop:=x.cps.toList.head?=some (97+f)/\nmB x=true
theorem Nh.isn{x:Str}{f:Nat}(h:Nh x f):QaO [.str x]=.ok (.bl true):=by
 have hn:=h.2
 have hl:x.length<=1000:=by
  unfold nmB at hn
  rw[Bool.and_eq_true,Bool.and_eq_true]at hn
  have:=of_decide_eq_true hn.1.2
  omega
 rw[QNc x hl,hn]
theorem Nh.ne{x y:Str}{f g:Nat}(hx:Nh x f)(hy:Nh y g)(e:x=y):f=g:=by
 have h1:=hx.1
 rw[e,hy.1]at h1
 have:=Option.some.inj h1
 omega
theorem pick5{j:Nat}(h:j<5):∃ b:Int,0<b/\big b=true/\dIx (.lst [.int 1,.int 26,.int 676,.int 17576,.int 7]) (.int (j:Int))=.ok (.int b):=by
 rcases(by omega:j=0∨j=1∨j=2∨j=3∨j=4) with rfl | rfl | rfl | rfl | rfl
 ·exact⟨1,by decide,by decide,rfl⟩
 ·exact⟨26,by decide,by decide,rfl⟩
 ·exact⟨676,by decide,by decide,rfl⟩
 ·exact⟨17576,by decide,by decide,rfl⟩
 ·exact⟨7,by decide,by decide,rfl⟩
theorem QEg{f:Nat}(hf:f<26)(d g:Int):∃ x:Str,Nh x f/\QaM [.int (f:Int),.int d,.int g]=.ok (.str x):=by
 obtain⟨q,hq,q5⟩:∃ q:Nat,d % 6=(q:Int)/\q<=5:=⟨(d % 6).toNat,by omega,by omega⟩
 have m6:dMod (.int d) (.int 6)=.ok (.int (q:Int)):=by rw[QX (by decide),hq]
 have x0:=ltr hf
 obtain⟨ς',hL,x,a5,rfl,h1,h2,h3⟩:=Qcz (body:=fun x ς=>gN 5 x ς>>=fun ς'=>Qgu ς') (n:=q)
  (P:=fun k ς=>∃(x:Str)(a5:Option (SM×D)),ς=[some (.k,.int (f:Int)),some (.k,.int d),some (.k,.int g),some (.k,.str "abcdefghijklmnopqrstuvwxyz"),some (.k,.str x),a5]/\x.cps.toList.head?=some (97+f)/\x.length=k+1/\x.cps.toList.all inL=true)
  (by
   rintro k hk ς ⟨x,a5,rfl,h1,h2,h3⟩
   obtain⟨b,b0,bb,hb⟩:=pick5 (j:=k) (by omega)
   have hd:dFdiv (.int g) (.int b)=.ok (.int (g / b)):=QmG b0 bb
   obtain⟨i,hi,i26⟩:∃ i:Nat,g / b % 26=(i:Int)/\i<26:=⟨(g / b % 26).toNat,by omega,by omega⟩
   have hm:dMod (.int (g / b)) (.int 26)=.ok (.int (i:Int)):=by rw[QX (by decide),hi]
   have hl:=ltr i26
   have hadd:dAdd (.str x) (.str ⟨#[97+i]⟩)=.ok (.str (x++(⟨#[97+i]⟩:Str))):=by
    show(if x.length+(⟨#[97+i]⟩:Str).length<=sizeLine then _ else _)=_
    rw[if_pos]
    have:(1000:Nat)<=sizeLine:=by decide
    show x.length+1<=sizeLine
    omega
   refine⟨[some (.k,.int (f:Int)),some (.k,.int d),some (.k,.int g),some (.k,.str "abcdefghijklmnopqrstuvwxyz"),some (.k,.str (x++(⟨#[97+i]⟩:Str))),some (.k,.int (k:Int))],?_,_,_,rfl,?_,?_,?_⟩
   ·refine r_gN (by walk_at "s") ?_
    unfold Qgu
    refine r_set (r_e2 (r_var rfl) (r_e2 (r_var rfl) (r_e2 (r_e2 (r_var rfl) (r_e2 (r_lst (Qf r_C (Qf r_C (Qf r_C (Qf r_C (Qf r_C r_nil))))) (show 5<=1000 by decide)) (r_var rfl) hb) hd) r_C hm) hl) hadd) (by walk_at "s")
   ·rw[QHD,List.head?_append,h1];rfl
   ·show(x.cps ++ #[97+i]).size=_
    rw[Array.size_append]
    show x.length+1=_
    omega
   ·rw[QHD,List.all_append,h3]
    show(true&&(inL (97+i)&&true))=true
    rw[QHg i26];rfl)
  [some (.k,.int (f:Int)),some (.k,.int d),some (.k,.int g),some (.k,.str "abcdefghijklmnopqrstuvwxyz"),some (.k,.str ⟨#[97+f]⟩),none] ⟨_,_,rfl,rfl,rfl,by show(inL (97+f)&&true)=true;rw[QHg hf];rfl⟩
 have hR:itR1 (e2 dMod (eVar 1) (eC (.int 6))) [some (.k,.int (f:Int)),some (.k,.int d),some (.k,.int g),some (.k,.str "abcdefghijklmnopqrstuvwxyz"),some (.k,.str ⟨#[97+f]⟩),none]=.ok (Qb1 0 q):=Qce q (r_e2 (r_var rfl) r_C m6) (by omega)
 have hfor:=Qb7 (g:=gN 5) (T:=Qgu) hR hL
 refine⟨x,⟨h1,?_⟩,?_⟩
 ·unfold nmB
  rw[h2,h3,decide_eq_true (show 1<=q+1 by omega),decide_eq_true (show q+1<=6 by omega)];rfl
 ·rw[QEK]
  unfold QiK
  exact Qbu (r_seq (r_set r_C (by walk_at "s")) (Qn (r_seq (r_set (r_e2 (r_var rfl) (r_var rfl) x0) (by walk_at "s")) (Qn (r_seq hfor (Qn (r_ret (r_var rfl)))))))) r_rt
theorem QMf{n nd k:Nat}(n1:1<=n)(n12:n<=12)(d1:1<=nd)(d6:nd<=6)(hk:k<n)(cell:Int)(ring:Bool):∃(w:Int)(t:List (List Int))(m:Nat)(ld:Nat->Int)(s:Int)(x:Str),Kd w t m/\(∀ j,j<m -> -(nd:Int)<=ld j/\ld j<(n:Int))/\(0<=s/\s<(t.length:Int))/\Nh x k/\
 Qeb [.int cell,.int (k:Int),.int (n:Int),.int (nd:Int),.bl ring]=.ok (.tup [.int w,tbD t,rl m (fun j=>.int (ld j)),.int s,.str x]):=by
 obtain⟨g,hg,hdg⟩:=QmL cell (M:=26) (by decide)
 obtain⟨w,t,m,K',hrow⟩:=QNV hg (T:=cell % 2) (by omega)
 have tb:=K'.tb
 have t1:=tb.n1
 have m6:=tb.m6
 have mc:dMod (.int cell) (.int 2)=.ok (.int (cell % 2)):=QX (by decide)
 obtain⟨x,hx,hnm⟩:=QEg (f:=k) (by omega) (g 22) (g 23)
 have x3:dIx (rl 26 (fun i=>.int (g i))) (.int 3)=.ok (.int (g 3)):=dg_ix (M:=26) (i:=3) (by decide)
 have x22:dIx (rl 26 (fun i=>.int (g i))) (.int 22)=.ok (.int (g 22)):=dg_ix (M:=26) (i:=22) (by decide)
 have x23:dIx (rl 26 (fun i=>.int (g i))) (.int 23)=.ok (.int (g 23)):=dg_ix (M:=26) (i:=23) (by decide)
 have xl:∀ j:Nat,j<m->dIx (rl 26 (fun i=>.int (g i))) (.int (4+(j:Int)))=.ok (.int (g (4+j))):=fun j hj=>by
  rw[show(4:Int)+(j:Int)=((4+j:Nat):Int) by omega]
  exact dg_ix (by omega)
 have r0:t[0]?=some t[0]:=by simp
 have hix:dIx (tbD t) (.int 0)=.ok (dl t[0]):=ixL 0 (by rw[List.getElem?_map,r0];rfl)
 have hl0:fLen [dl t[0]]=.ok (.int (m:Int)):=by simp[fLen,dl,tb.row _ (List.getElem_mem _)]
 have tl:fLen [tbD t]=.ok (.int (t.length:Int)):=by simp[fLen,tbD]
 have np:(0:Int)<(n:Int)+(nd:Int):=by omega
 have dp:(0:Int)<(nd:Int):=by omega
 generalize rl 26 (fun i=>D.int (g i))=G at *
 generalize hTd:tbD t=Td at *
 obtain⟨ς',hL,ld,b9,b10,rfl,hld⟩:=Qcz (body:=fun x ς=>gN 9 x ς>>=fun ς'=>QgX ς') (n:=m)
  (P:=fun j ς=>∃(ld:Nat->Int)(b9 b10:Option (SM×D)),ς=[some (.k,.int cell),some (.k,.int (k:Int)),some (.k,.int (n:Int)),some (.k,.int (nd:Int)),some (.k,.bl ring),some (.k,G),some (.k,.int w),some (.k,Td),some (.o,rl j (fun j=>.int (ld j))),b9,b10]/\∀ i,i<j -> -(nd:Int)<=ld i/\ld i<(n:Int))
  (by
   rintro j hj ς ⟨ld,b9,b10,rfl,hld⟩
   have hxj:=xl j hj
   generalize g (4+j)=x at *
   have y0:=Int.emod_nonneg x (show(n:Int)+(nd:Int)≠0 by omega)
   have y1:=Int.emod_lt_of_pos x np
   have hmd:dMod (.int x) (.int ((n:Int)+(nd:Int)))=.ok (.int (x % ((n:Int)+(nd:Int)))):=QX np
   generalize x % ((n:Int)+(nd:Int))=y at *
   have hdiv:sSet 10 (e2 dMod (e2 dIx (eVar 5) (e2 dAdd (eC (.int 4)) (eVar 9))) (e2 dAdd (eVar 2) (eVar 3))) [some (.k,.int cell),some (.k,.int (k:Int)),some (.k,.int (n:Int)),some (.k,.int (nd:Int)),some (.k,.bl ring),some (.k,G),some (.k,.int w),some (.k,Td),some (.o,rl j (fun j=>.int (ld j))),some (.k,.int (j:Int)),b10]=.ok (.nx [some (.k,.int cell),some (.k,.int (k:Int)),some (.k,.int (n:Int)),some (.k,.int (nd:Int)),some (.k,.bl ring),some (.k,G),some (.k,.int w),some (.k,Td),some (.o,rl j (fun j=>.int (ld j))),some (.k,.int (j:Int)),some (.k,.int y)]):=r_set (r_e2 (r_e2 (r_var rfl) (r_e2 r_C (r_var rfl) (Qak _ _)) hxj) (r_e2 (r_var rfl) (r_var rfl) (Qak _ _)) hmd) (by walk_at "s")
   have hto:∃ z:Int,0<=z/\z<(n:Int)+(nd:Int)/\sIf (tAnd' (tNot' (tVal (eVar 4))) (tVal (e2 dLe (eVar 10) (eVar 1)))) (sSet 10 (e2 dAdd (eVar 2) (e2 dMod (eVar 10) (eVar 3)))) sNil [some (.k,.int cell),some (.k,.int (k:Int)),some (.k,.int (n:Int)),some (.k,.int (nd:Int)),some (.k,.bl ring),some (.k,G),some (.k,.int w),some (.k,Td),some (.o,rl j (fun j=>.int (ld j))),some (.k,.int (j:Int)),some (.k,.int y)]
    = .ok (.nx [some (.k,.int cell),some (.k,.int (k:Int)),some (.k,.int (n:Int)),some (.k,.int (nd:Int)),some (.k,.bl ring),some (.k,G),some (.k,.int w),some (.k,Td),some (.o,rl j (fun j=>.int (ld j))),some (.k,.int (j:Int)),some (.k,.int z)]):=by
    cases ring with
    | true=>
     refine⟨y,y0,y1,?_⟩
     (repeat walk_at "e")
    | false=>
     by_cases h:y<=(k:Int)
     ·have w0:=Int.emod_nonneg y (show(nd:Int)≠0 by omega)
      have w1:=Int.emod_lt_of_pos y dp
      have hle:dLe (.int y) (.int (k:Int))=.ok (.bl true):=by rw[QdB,decide_eq_true h]
      refine⟨(n:Int)+y % (nd:Int),by omega,by omega,?_⟩
      (repeat walk_at "e")
     ·have hle:dLe (.int y) (.int (k:Int))=.ok (.bl false):=by rw[QdB,decide_eq_false h]
      refine⟨y,y0,y1,?_⟩
      (repeat walk_at "e")
   obtain⟨z,z0,z1,hz⟩:=hto
   have hl:∃ v:Int, -(nd:Int)<=v/\v<(n:Int)/\eIf (tVal (e2 dLt (eVar 10) (eVar 2))) (eVar 10) (e2 dSub (e2 dSub (eVar 2) (eC (.int 1))) (eVar 10)) [some (.k,.int cell),some (.k,.int (k:Int)),some (.k,.int (n:Int)),some (.k,.int (nd:Int)),some (.k,.bl ring),some (.k,G),some (.k,.int w),some (.k,Td),some (.o,rl j (fun j=>.int (ld j))),some (.k,.int (j:Int)),some (.k,.int z)]=.ok (.int v):=by
    by_cases h:z<(n:Int)
    ·have hlt:dLt (.int z) (.int (n:Int))=.ok (.bl true):=by rw[Qb4,decide_eq_true h]
     refine⟨z,by omega,h,?_⟩
     (repeat walk_at "e")
    ·have hlt:dLt (.int z) (.int (n:Int))=.ok (.bl false):=by rw[Qb4,decide_eq_false h]
     refine⟨(n:Int) - 1 - z,by omega,by omega,?_⟩
     (repeat walk_at "e")
   obtain⟨v,v0,v1,hv⟩:=hl
   have ea:(List.range j).map (fun j=>D.int (ld j))++[.int v]=(List.range (j+1)).map (fun i=>D.int (if i<j then ld i else v)):=by
    rw[Qwc]
    exact List.map_congr_left fun i _=>by split<;>rfl
   have hle:((List.range j).map (fun j=>D.int (ld j))).length<=1000:=by rw[List.length_map,List.length_range];omega
   refine⟨[some (.k,.int cell),some (.k,.int (k:Int)),some (.k,.int (n:Int)),some (.k,.int (nd:Int)),some (.k,.bl ring),some (.k,G),some (.k,.int w),some (.k,Td),some (.o,rl (j+1) (fun i=>.int (if i<j then ld i else v))),some (.k,.int (j:Int)),some (.k,.int z)],?_,fun i=>if i<j then ld i else v,_,_,rfl,fun i hi=>?_⟩
   ·refine r_gN (by walk_at "s") ?_
    unfold QgX
    refine r_seq hdiv (Qn (r_seq hz (Qn ?_)))
    exact r_app (xs:=(List.range j).map (fun j=>D.int (ld j))) rfl hv hle (by rw[ea];walk_at "s")
   ·show -(nd:Int)<=(if i<j then ld i else v)/\(if i<j then ld i else v)<(n:Int)
    split
    ·rename_i w;exact hld i w
    ·exact⟨v0,v1⟩)
  [some (.k,.int cell),some (.k,.int (k:Int)),some (.k,.int (n:Int)),some (.k,.int (nd:Int)),some (.k,.bl ring),some (.k,G),some (.k,.int w),some (.k,Td),some (.o,.lst []),none,none] ⟨fun _=>0,_,_,rfl,fun i hi=>absurd hi (by omega)⟩
 have hR:itR1 (eA fLen (aCons (e2 dIx (eVar 7) (eC (.int 0))) aNil)) [some (.k,.int cell),some (.k,.int (k:Int)),some (.k,.int (n:Int)),some (.k,.int (nd:Int)),some (.k,.bl ring),some (.k,G),some (.k,.int w),some (.k,Td),some (.o,.lst []),none,none]=.ok (Qb1 0 m):=Qce m (r_eA (Qf (r_e2 (r_var rfl) r_C hix) r_nil) hl0) (by omega)
 have hfor:=Qb7 (g:=gN 9) (T:=QgX) hR hL
 have s0:=Int.emod_nonneg (g 3) (show(t.length:Int)≠0 by omega)
 have s1:=Int.emod_lt_of_pos (g 3) (show(0:Int)<(t.length:Int) by omega)
 have ms:dMod (.int (g 3)) (.int (t.length:Int))=.ok (.int (g 3 % (t.length:Int))):=QX (by omega)
 refine⟨w,t,m,ld,g 3 % (t.length:Int),x,K',hld,⟨s0,s1⟩,hx,?_⟩
 generalize g 3 % (t.length:Int)=s at *
 have fin:(fun ς=>(sRet (eTup (aCons (eVar 6) (aCons (eVar 7) (aCons (eVar 8) (aCons (e2 dMod (e2 dIx (eVar 5) (eC (.int 3))) (eA fLen (aCons (eVar 7) aNil))) (aCons (eA (fun xs=>QaM (xs++[])) (aCons (eVar 1) (aCons (e2 dIx (eVar 5) (eC (.int 22))) (aCons (e2 dIx (eVar 5) (eC (.int 23))) aNil)))) aNil))))))) (frz 8 ς)) [some (.k,.int cell),some (.k,.int (k:Int)),some (.k,.int (n:Int)),some (.k,.int (nd:Int)),some (.k,.bl ring),some (.k,G),some (.k,.int w),some (.k,Td),some (.o,rl m (fun j=>.int (ld j))),b9,b10]=.ok (.rt false (.tup [.int w,Td,rl m (fun j=>.int (ld j)),.int s,.str x])):=by
  refine QsN (T:=sRet (eTup (aCons (eVar 6) (aCons (eVar 7) (aCons (eVar 8) (aCons (e2 dMod (e2 dIx (eVar 5) (eC (.int 3))) (eA fLen (aCons (eVar 7) aNil))) (aCons (eA (fun xs=>QaM (xs++[])) (aCons (eVar 1) (aCons (e2 dIx (eVar 5) (eC (.int 22))) (aCons (e2 dIx (eVar 5) (eC (.int 23))) aNil)))) aNil))))))) (QsS (i:=8) rfl rfl) ?_
  exact r_ret (r_tup (Qf (r_var rfl) (Qf (r_var rfl) (Qf (r_var rfl) (Qf (r_e2 (r_e2 (r_var rfl) r_C x3) (r_eA (Qf (r_var rfl) r_nil) tl) ms) (Qf (Q9 (xs:=[.int (k:Int),.int (g 22),.int (g 23)]) (Qf (r_var rfl) (Qf (r_e2 (r_var rfl) r_C x22) (Qf (r_e2 (r_var rfl) r_C x23) r_nil))) rfl hnm) r_nil))))) (show 5<=1000 by decide))
 rw[hTd,QJG]
 unfold Qkj
 refine Qbu (fl:=.rt false (.tup [.int w,Td,rl m (fun j=>.int (ld j)),.int s,.str x])) ?_ r_rt
 refine r_seq (r_set (Q9 (xs:=[.int cell,.int 26]) (Qf (r_var rfl) (Qf r_C r_nil)) rfl hdg) (by walk_at "s")) (Qn ?_)
 refine r_seq (r_unp (ys:=[.int w,Td]) (Q9 (xs:=[G,.int (cell % 2)]) (Qf (r_var rfl) (Qf (r_e2 (r_var rfl) r_C mc) r_nil)) rfl hrow) (by walk_at "all")) (Qn ?_)
 refine r_seq (QdC (d:=.lst []) (by (repeat walk_at "e")) (by walk_at "s")) (Qn (r_seq hfor (Qn fin)))
def planD(kd:Nat->Int)(t:Nat->List (List Int))(m:Nat->Nat)(ld:Nat->Nat->Int)(st:Nat->Int)(nm:Nat->Str)(k:Nat):D:=.tup [.int (kd k),tbD (t k),rl (m k) (fun j=>.int (ld k j)),.int (st k),.str (nm k)]
structure Plan(n nd:Nat)(kd:Nat->Int)(t:Nat->List (List Int))(m:Nat->Nat)(ld:Nat->Nat->Int)(st:Nat->Int)(nm:Nat->Str)(N:Nat):Prop where
 kd:∀ k,k<N->Kd (kd k) (t k) (m k)
 ldr:∀ k j,k<N->j<m k -> -(nd:Int)<=ld k j/\ld k j<(n:Int)
 str:∀ k,k<N->0<=st k/\st k<((t k).length:Int)
 nm:∀ k,k<N->Nh (nm k) k
theorem QMZ(ns:List Int):∃(n nd:Nat)(kd:Nat->Int)(t:Nat->List (List Int))(m:Nat->Nat)(ld:Nat->Nat->Int)(st:Nat->Int)(nm:Nat->Str),1<=n/\n<=12/\1<=nd/\nd<=6/\Plan n nd kd t m ld st nm n/\
 QeD [.lst (ns.map .int),.int 12]=.ok (.tup [rl n (planD kd t m ld st nm),.int (nd:Int)]):=by
 obtain⟨v,hv⟩:=Qpb ns 0
 have hv:QM [.lst (ns.map .int),.int 0]=.ok (.int v):=hv
 obtain⟨g,hg,hdg⟩:=QmL v (M:=6) (by decide)
 have hdg:Q8 [.int v,.int 6]=.ok (rl 6 (fun i=>.int (g i))):=hdg
 have x0:dIx (rl 6 (fun i=>.int (g i))) (.int 0)=.ok (.int (g 0)):=dg_ix (M:=6) (i:=0) (by decide)
 have x1:dIx (rl 6 (fun i=>.int (g i))) (.int 1)=.ok (.int (g 1)):=dg_ix (M:=6) (i:=1) (by decide)
 have x2:dIx (rl 6 (fun i=>.int (g i))) (.int 2)=.ok (.int (g 2)):=dg_ix (M:=6) (i:=2) (by decide)
 have mv:dMod (.int v) (.int 2)=.ok (.int (v % 2)):=QX (by decide)
 obtain⟨A,hA,pA⟩:=pick2 12 5 (v % 2) (by omega)
 obtain⟨B,hB,pB⟩:=pick2 6 3 (v % 2) (by omega)
 have A1:0<A:=by rcases hA with rfl | rfl<;>decide
 have B1:0<B:=by rcases hB with rfl | rfl<;>decide
 have mA:dMod (.int (g 0)) (.int A)=.ok (.int (g 0 % A)):=QX A1
 have mB:dMod (.int (g 1)) (.int B)=.ok (.int (g 1 % B)):=QX B1
 have m2:dMod (.int (g 2)) (.int 2)=.ok (.int (g 2 % 2)):=QX (by decide)
 obtain⟨n,hn,n1,n12⟩:∃ n:Nat,1+g 0 % A=(n:Int)/\1<=n/\n<=12:=by
  have a:=Int.emod_nonneg (g 0) (b:=A) (by omega)
  have b:=Int.emod_lt_of_pos (g 0) A1
  exact⟨(1+g 0 % A).toNat,by omega,by omega,by rcases hA with rfl | rfl<;>omega⟩
 obtain⟨nd,hnd,d1,d6⟩:∃ n:Nat,1+g 1 % B=(n:Int)/\1<=n/\n<=6:=by
  have a:=Int.emod_nonneg (g 1) (b:=B) (by omega)
  have b:=Int.emod_lt_of_pos (g 1) B1
  exact⟨(1+g 1 % B).toNat,by omega,by omega,by rcases hB with rfl | rfl<;>omega⟩
 have cell:∀ k:Nat,∃ w:Int,QM [.lst (ns.map .int),.int (k:Int)]=.ok (.int w):=fun k=>Qpb ns k
 generalize hS:D.lst (ns.map .int)=S at *
 generalize rl 6 (fun i=>D.int (g i))=G at *
 generalize hr:decide (g 2 % 2=1)=ring
 obtain⟨ς',hL,kd,t,m,ld,st,nm,a8,rfl,pl⟩:=Qcz (body:=fun x ς=>gN 8 x ς>>=fun ς'=>QgW ς') (n:=n)
  (P:=fun N ς=>∃(kd:Nat->Int)(t:Nat->List (List Int))(m:Nat->Nat)(ld:Nat->Nat->Int)(st:Nat->Int)(nm:Nat->Str)(a8:Option (SM×D)),ς=[some (.k,S),some (.k,.int 12),some (.k,.int v),some (.k,G),some (.k,.int (n:Int)),some (.k,.int (nd:Int)),some (.k,.bl ring),some (.o,rl N (planD kd t m ld st nm)),a8]/\Plan n nd kd t m ld st nm N)
  (by
   rintro k hk ς ⟨kd,t,m,ld,st,nm,a8,rfl,pl⟩
   obtain⟨w,hw⟩:=cell (1+k)
   have hw:QM [S,.int (1+(k:Int))]=.ok (.int w):=by
    have e:(((1+k:Nat)):Int)=1+(k:Int):=by omega
    rw[e]at hw;exact hw
   obtain⟨w',t',m',ld',s',x',K',hld',hs',hx',hseat⟩:=QMf n1 n12 d1 d6 hk w ring
   have hle:((List.range k).map (planD kd t m ld st nm)).length<=1000:=by rw[List.length_map,List.length_range];omega
   have ea:(List.range k).map (planD kd t m ld st nm)++[.tup [.int w',tbD t',rl m' (fun j=>.int (ld' j)),.int s',.str x']]=(List.range (k+1)).map (planD (fun i=>if i<k then kd i else w') (fun i=>if i<k then t i else t') (fun i=>if i<k then m i else m') (fun i=>if i<k then ld i else ld') (fun i=>if i<k then st i else s') (fun i=>if i<k then nm i else x')):=by
    rw[Qwc]
    refine List.map_congr_left fun i hi=>?_
    unfold planD
    by_cases h:i<k
    ·simp only[if_pos h]
    ·simp only[if_neg h]
   refine⟨[some (.k,S),some (.k,.int 12),some (.k,.int v),some (.k,G),some (.k,.int (n:Int)),some (.k,.int (nd:Int)),some (.k,.bl ring),some (.o,rl (k+1) (planD (fun i=>if i<k then kd i else w') (fun i=>if i<k then t i else t') (fun i=>if i<k then m i else m') (fun i=>if i<k then ld i else ld') (fun i=>if i<k then st i else s') (fun i=>if i<k then nm i else x'))),some (.k,.int (k:Int))],?_,_,_,_,_,_,_,_,rfl,?_⟩
   ·refine r_gN (by walk_at "s") ?_
    unfold QgW
    exact r_app (xs:=(List.range k).map (planD kd t m ld st nm)) rfl (Q9 (xs:=[.int w,.int (k:Int),.int (n:Int),.int (nd:Int),.bl ring]) (Qf (Q9 (xs:=[S,.int (1+(k:Int))]) (Qf (r_var rfl) (Qf (r_e2 r_C (r_var rfl) (Qak _ _)) r_nil)) rfl hw) (Qf (r_var rfl) (Qf (r_var rfl) (Qf (r_var rfl) (Qf (r_var rfl) r_nil))))) rfl hseat) hle (by rw[ea];walk_at "s")
   ·refine⟨fun i hi=>?_,fun i j hi hj=>?_,fun i hi=>?_,fun i hi=>?_⟩
    ·by_cases h:i<k
     ·simp only[if_pos h];exact pl.kd i h
     ·simp only[if_neg h];exact K'
    ·by_cases h:i<k
     ·simp only[if_pos h]at hj ⊢;exact pl.ldr i j h hj
     ·simp only[if_neg h]at hj ⊢;exact hld' j hj
    ·by_cases h:i<k
     ·simp only[if_pos h];exact pl.str i h
     ·simp only[if_neg h];exact hs'
    ·by_cases h:i<k
     ·simp only[if_pos h];exact pl.nm i h
     ·have e:i=k:=by omega
      subst e
      simp only[if_neg h];exact hx')
  [some (.k,S),some (.k,.int 12),some (.k,.int v),some (.k,G),some (.k,.int (n:Int)),some (.k,.int (nd:Int)),some (.k,.bl ring),some (.o,.lst []),none] ⟨fun _=>0,fun _=>[],fun _=>0,fun _ _=>0,fun _=>0,fun _=>"",_,rfl,⟨fun i hi=>absurd hi (by omega),fun i j hi=>absurd hi (by omega),fun i hi=>absurd hi (by omega),fun i hi=>absurd hi (by omega)⟩⟩
 have hR:itR1 (eVar 4) [some (.k,S),some (.k,.int 12),some (.k,.int v),some (.k,G),some (.k,.int (n:Int)),some (.k,.int (nd:Int)),some (.k,.bl ring),some (.o,.lst []),none]=.ok (Qb1 0 n):=Qce n (r_var rfl) (by omega)
 have hfor:=Qb7 (g:=gN 8) (T:=QgW) hR hL
 refine⟨n,nd,kd,t,m,ld,st,nm,n1,n12,d1,d6,pl,?_⟩
 have fin:(fun ς=>(sRet (eTup (aCons (eVar 7) (aCons (eVar 5) aNil)))) (frz 7 ς)) [some (.k,S),some (.k,.int 12),some (.k,.int v),some (.k,G),some (.k,.int (n:Int)),some (.k,.int (nd:Int)),some (.k,.bl ring),some (.o,rl n (planD kd t m ld st nm)),a8]=.ok (.rt false (.tup [rl n (planD kd t m ld st nm),.int (nd:Int)])):=QsN (T:=sRet (eTup (aCons (eVar 7) (aCons (eVar 5) aNil)))) (QsS (i:=7) rfl rfl) (r_ret (r_tup (Qf (r_var rfl) (Qf (r_var rfl) r_nil)) (show 2<=1000 by decide)))
 rw[QJd]
 unfold Qkl
 refine Qbu (fl:=.rt false (.tup [rl n (planD kd t m ld st nm),.int (nd:Int)])) ?_ r_rt
 refine r_seq (r_set (Q9 (xs:=[S,.int 0]) (Qf (r_var rfl) (Qf r_C r_nil)) rfl hv) (by walk_at "s")) (Qn ?_)
 refine r_seq (r_set (Q9 (xs:=[.int v,.int 6]) (Qf (r_var rfl) (Qf r_C r_nil)) rfl hdg) (by walk_at "s")) (Qn ?_)
 refine r_seq (r_set (d:=.int (n:Int)) (by
  rw[← hn]
  exact r_e2 r_C (r_e2 (r_e2 (r_var rfl) r_C x0) (r_e2 (r_lst (Qf (r_var rfl) (Qf r_C r_nil)) (show 2<=1000 by decide)) (r_e2 (r_var rfl) r_C mv) pA) mA) (Qak _ _)) (by walk_at "s")) (Qn ?_)
 refine r_seq (r_set (d:=.int (nd:Int)) (by
  rw[← hnd]
  exact r_e2 r_C (r_e2 (r_e2 (r_var rfl) r_C x1) (r_e2 (r_lst (Qf r_C (Qf r_C r_nil)) (show 2<=1000 by decide)) (r_e2 (r_var rfl) r_C mv) pB) mB) (Qak _ _)) (by walk_at "s")) (Qn ?_)
 refine r_seq (r_set (d:=.bl ring) (by
  rw[← hr]
  exact r_e2 (r_e2 (r_e2 (r_var rfl) r_C x2) r_C m2) r_C (Qar _ _)) (by walk_at "s")) (Qn ?_)
 refine r_seq (QdC (d:=.lst []) (by (repeat walk_at "e")) (by walk_at "s")) (Qn (r_seq hfor (Qn fin)))
theorem QKI(ns:List Int){n nd:Nat}{kd:Nat->Int}{t:Nat->List (List Int)}{m:Nat->Nat}{ld:Nat->Nat->Int}{st:Nat->Int}{nm:Nat->Str}(n1:1<=n)(n12:n<=12)(d1:1<=nd)(d6:nd<=6)(pl:Plan n nd kd t m ld st nm n):
 ∃(c dn:Nat->Str),Seats n nd nm dn c t m ld st/\QcL [.lst (ns.map .int),rl n (planD kd t m ld st nm),.int (nd:Int)]=.ok (offD n nd nm dn c t m ld st):=by
 obtain⟨v,hv⟩:=Qpb ns 0
 have hv:QM [.lst (ns.map .int),.int 0]=.ok (.int v):=hv
 obtain⟨g,hg,hdg⟩:=QmL v (M:=6) (by decide)
 have hdg:Q8 [.int v,.int 6]=.ok (rl 6 (fun i=>.int (g i))):=hdg
 have x3:dIx (rl 6 (fun i=>.int (g i))) (.int 3)=.ok (.int (g 3)):=dg_ix (M:=6) (i:=3) (by decide)
 have x4:dIx (rl 6 (fun i=>.int (g i))) (.int 4)=.ok (.int (g 4)):=dg_ix (M:=6) (i:=4) (by decide)
 have H:∀ k,∃ c:Str,k<n->CK.contains c=true/\Qb8 [.int (kd k),tbD (t k)]=.ok (ck c (t k) (m k)):=fun k=>by
  by_cases h:k<n
  ·obtain⟨c,h1,h2⟩:=QMK (pl.kd k h)
   exact⟨c,fun _=>⟨h1,h2⟩⟩
  ·exact⟨"Copy",fun z=>absurd z h⟩
 obtain⟨c,hc⟩:∃ c:Nat->Str,∀ k,k<n->CK.contains (c k)=true/\Qb8 [.int (kd k),tbD (t k)]=.ok (ck (c k) (t k) (m k)):=⟨fun k=>(H k).choose,fun k h=>(H k).choose_spec h⟩
 have H2:∀ d,∃ x:Str,d<nd->Nh x (12+d)/\QaM [.int (12+(d:Int)),.int (g 3),.int (g 4)]=.ok (.str x):=fun d=>by
  by_cases h:d<nd
  ·obtain⟨x,h1,h2⟩:=QEg (f:=12+d) (by omega) (g 3) (g 4)
   rw[show((12+d:Nat):Int)=12+(d:Int) by omega]at h2
   exact⟨x,fun _=>⟨h1,h2⟩⟩
  ·exact⟨"",fun z=>absurd z h⟩
 obtain⟨dn,hdn⟩:∃ dn:Nat->Str,∀ d,d<nd->Nh (dn d) (12+d)/\QaM [.int (12+(d:Int)),.int (g 3),.int (g 4)]=.ok (.str (dn d)):=⟨fun d=>(H2 d).choose,fun d h=>(H2 d).choose_spec h⟩
 have sts:Seats n nd nm dn c t m ld st:=⟨n1,by omega,d1,by omega,fun k h=>(hc k h).1,fun k h=>(pl.kd k h).tb,pl.ldr,pl.str,fun k h=>(pl.nm k h).isn,fun d h=>(hdn d h).1.isn,fun i j hi hj e=>(pl.nm i hi).ne (pl.nm j hj) e,fun i j hi hj e=>by have:=(hdn i hi).1.ne (hdn j hj).1 e;omega,fun i d hi hd e=>by have:=(pl.nm i hi).ne (hdn d hd).1 e;omega⟩
 refine⟨c,dn,sts,?_⟩
 have mk:=QKm sts
 have hix:∀ k:Nat,k<n->dIx (rl n (planD kd t m ld st nm)) (.int (k:Int))=.ok (planD kd t m ld st nm k):=fun k h=>ixR h
 have hit:∀ ς:SD,ς[1]?=some (some (.k,rl n (planD kd t m ld st nm)))->itL (eVar 1) ς=.ok ((List.range n).map (planD kd t m ld st nm)):=fun ς h=>r_itL (r_var h)
 have hx4:∀ k,dIx (planD kd t m ld st nm k) (.int 4)=.ok (.str (nm k)):=fun k=>ixT 4 rfl
 generalize hS:D.lst (ns.map .int)=S at *
 generalize rl 6 (fun i=>D.int (g i))=G at *
 generalize hP:rl n (planD kd t m ld st nm)=P at *
 have hends:∀ a5 a6 a7 a8 a9 a10 a11:Option (SM×D),eComp [none,some 3] (itR1 (eVar 2)) (gN 0) cTrue QhW [some (.k,S),some (.k,P),some (.k,.int (nd:Int)),some (.k,G),none,a5,a6,a7,a8,a9,a10,a11]=.ok (rl nd (fun d=>.str (dn d))):=fun a5 a6 a7 a8 a9 a10 a11=>by
  refine QkT (fun d=>.str (dn d)) (Qce nd (r_var rfl) (by omega)) (fun d hd=>?_) (by omega)
  refine Qao (by walk_at "cap") (by walk_at "s") ?_
  unfold QhW
  exact Q9 (xs:=[.int (12+(d:Int)),.int (g 3),.int (g 4)]) (Qf (r_e2 r_C (r_var rfl) (Qak _ _)) (Qf (r_e2 (r_var rfl) r_C x3) (Qf (r_e2 (r_var rfl) r_C x4) r_nil))) rfl (hdn d hd).2
 have hdx:∀ d:Nat,d<nd->dIx (rl nd (fun d=>.str (dn d))) (.int (d:Int))=.ok (.str (dn d)):=fun d h=>ixR (f:=fun d=>D.str (dn d)) h
 generalize hE:rl nd (fun d=>D.str (dn d))=E at *
 obtain⟨ς',hL,a6,a7,a8,a9,a10,a11,rfl⟩:=QpJ (body:=fun x ς=>gT [6,7,8,9,10] x ς>>=fun ς'=>QfD ς') (f:=planD kd t m ld st nm) (n:=n)
  (P:=fun k ς=>∃(a6 a7 a8 a9 a10 a11:Option (SM×D)),ς=[some (.k,S),some (.k,P),some (.k,.int (nd:Int)),some (.k,G),some (.k,E),some (.o,rl k (seatD nm dn c t m ld st)),a6,a7,a8,a9,a10,a11])
  (by
   rintro k hk ς ⟨a6,a7,a8,a9,a10,a11,rfl⟩
   have m6:=(sts.tb k hk).m6
   have hcl:=(hc k hk).2
   have hcm:eComp [none,some 4,some 1] (itL (eVar 8)) (gN 0) cTrue Qij [some (.k,S),some (.k,P),some (.k,.int (nd:Int)),some (.k,G),some (.k,E),some (.o,rl k (seatD nm dn c t m ld st)),some (.k,.int (kd k)),some (.k,tbD (t k)),some (.k,rl (m k) (fun j=>.int (ld k j))),some (.k,.int (st k)),some (.k,.str (nm k)),a11]=.ok (rl (m k) (fun j=>.str (nml nm dn (ld k j)))):=by
    refine Qas (fun j=>D.int (ld k j)) (fun j=>D.str (nml nm dn (ld k j))) rfl (fun j hj=>?_) (by rw[List.length_range];omega)
    obtain⟨r1,r2⟩:=sts.ldr k j hk (List.mem_range.mp hj)
    refine Qao (τ0:=[none,some (.k,E),some (.k,P)]) (Qf6 (c_k rfl (c_k rfl c_nil))) (by walk_at "s") ?_
    unfold Qij nml
    by_cases h:ld k j<0
    ·rw[if_pos h]
     have y:=hdx (-1 - ld k j).toNat (by omega)
     rw[Int.toNat_of_nonneg (by omega)]at y
     refine r_eIf (b:=true) (by rw[QaR (r_e2 (r_var rfl) r_C (Qb4 _ _)),decide_eq_true h]) (Qi3 rfl ?_)
     exact r_e2 (r_var rfl) (r_e2 (r_e1 r_C (QeA _)) (r_var rfl) (QcV _ _)) y
    ·rw[if_neg h]
     have y:=hix (ld k j).toNat (by omega)
     rw[Int.toNat_of_nonneg (by omega)]at y
     refine r_eIf (b:=false) (by rw[QaR (r_e2 (r_var rfl) r_C (Qb4 _ _)),decide_eq_false h]) (QiT rfl ?_)
     exact r_e2 (r_e2 (r_var rfl) (r_var rfl) y) r_C (hx4 _)
   have ea:(List.range k).map (seatD nm dn c t m ld st)++[.tup [.str (nm k),ck (c k) (t k) (m k),rl (m k) (fun j=>.str (nml nm dn (ld k j))),.int (st k)]]=(List.range (k+1)).map (seatD nm dn c t m ld st):=by
    rw[List.range_succ,List.map_append];rfl
   have hle:((List.range k).map (seatD nm dn c t m ld st)).length<=1000:=by rw[List.length_map,List.length_range];omega
   refine⟨[some (.k,S),some (.k,P),some (.k,.int (nd:Int)),some (.k,G),some (.k,E),some (.o,rl (k+1) (seatD nm dn c t m ld st)),some (.k,.int (kd k)),some (.k,tbD (t k)),some (.k,rl (m k) (fun j=>.int (ld k j))),some (.k,.int (st k)),some (.k,.str (nm k)),some (.k,rl (m k) (fun j=>.str (nml nm dn (ld k j))))],?_,_,_,_,_,_,_,rfl⟩
   unfold planD
   refine r_gT (by walk_at "all") ?_
   unfold QfD
   refine r_seq (r_set hcm (by walk_at "s")) (Qn ?_)
   exact r_app (xs:=(List.range k).map (seatD nm dn c t m ld st)) rfl (r_tup (Qf (r_var rfl) (Qf (Q9 (xs:=[.int (kd k),tbD (t k)]) (Qf (r_var rfl) (Qf (r_var rfl) r_nil)) rfl hcl) (Qf (r_var rfl) (Qf (r_var rfl) r_nil)))) (show 4<=1000 by decide)) hle (by rw[ea];walk_at "s"))
  [some (.k,S),some (.k,P),some (.k,.int (nd:Int)),some (.k,G),some (.k,E),some (.o,.lst []),none,none,none,none,none,none] ⟨_,_,_,_,_,_,rfl⟩
 have hfor:=Qb7 (g:=gT [6,7,8,9,10]) (T:=QfD) (hit _ rfl) hL
 have fin:(fun ς=>(sRetF (eMake "Office" Qbq (aCons (eVar 5) (aCons (eLst (aCons (eTup (aCons (eC (.str "in")) (aCons (e2 dIx (e2 dIx (eVar 1) (eC (.int 0))) (eC (.int 4))) aNil))) aNil)) (aCons (eVar 4) aNil))))) (frz 5 ς)) [some (.k,S),some (.k,P),some (.k,.int (nd:Int)),some (.k,G),some (.k,E),some (.o,rl n (seatD nm dn c t m ld st)),a6,a7,a8,a9,a10,a11]=.ok (.rt true (offD n nd nm dn c t m ld st)):=by
  refine QsN (T:=sRetF (eMake "Office" Qbq (aCons (eVar 5) (aCons (eLst (aCons (eTup (aCons (eC (.str "in")) (aCons (e2 dIx (e2 dIx (eVar 1) (eC (.int 0))) (eC (.int 4))) aNil))) aNil)) (aCons (eVar 4) aNil))))) (QsS (i:=5) rfl rfl) ?_
  unfold offD
  exact Qru (QLv (Qf (r_var rfl) (Qf (r_lst (Qf (r_tup (Qf r_C (Qf (r_e2 (r_e2 (r_var rfl) r_C (hix 0 (by omega))) r_C (hx4 0)) r_nil)) (show 2<=1000 by decide)) r_nil) (show 1<=1000 by decide)) (Qf (r_var rfl) r_nil))) mk)
 rw[QA8]
 unfold Qhb
 refine Qbu (fl:=.rt true (offD n nd nm dn c t m ld st)) ?_ r_rtT
 refine r_seq (r_set (Q9 (xs:=[.int v,.int 6]) (Qf (Q9 (xs:=[S,.int 0]) (Qf (r_var rfl) (Qf r_C r_nil)) rfl hv) (Qf r_C r_nil)) rfl hdg) (by walk_at "s")) (Qn ?_)
 refine r_seq (r_set (hends _ _ _ _ _ _ _) (by walk_at "s")) (Qn ?_)
 refine r_seq (QdC (d:=.lst []) (by (repeat walk_at "e")) (by walk_at "s")) (Qn (r_seq hfor (Qn fin)))
theorem QL1(ns:List Int){n:Nat}(hn:n<=12):∃ K:Nat->Int,(∀ i,i<n->0<=K i)/\Qdf [.lst (ns.map .int),.int (n:Int)]=.ok (rl n (fun i=>.int (K i))):=by
 have cell:∀ k:Nat,∃ w:Int,QM [.lst (ns.map .int),.int (k:Int)]=.ok (.int w):=fun k=>Qpb ns k
 generalize hS:D.lst (ns.map .int)=S at *
 obtain⟨ς',hL,K,a3,a4,a5,a6,rfl,hK⟩:=Qcz (body:=fun x ς=>gN 3 x ς>>=fun ς'=>Qgq ς') (n:=n)
  (P:=fun k ς=>∃(K:Nat->Int)(a3 a4 a5 a6:Option (SM×D)),ς=[some (.k,S),some (.k,.int (n:Int)),some (.o,rl k (fun i=>.int (K i))),a3,a4,a5,a6]/\∀ i,i<k->0<=K i)
  (by
   rintro k hk ς ⟨K,a3,a4,a5,a6,rfl,hK⟩
   obtain⟨w,hw⟩:=cell (1+k)
   have hw:QM [S,.int (1+(k:Int))]=.ok (.int w):=by
    have e:(((1+k:Nat)):Int)=1+(k:Int):=by omega
    rw[e]at hw;exact hw
   obtain⟨g,hg,hdg⟩:=QmL w (M:=26) (by decide)
   have hdg:Q8 [.int w,.int 26]=.ok (rl 26 (fun i=>.int (g i))):=hdg
   have x24:dIx (rl 26 (fun i=>.int (g i))) (.int 24)=.ok (.int (g 24)):=dg_ix (M:=26) (i:=24) (by decide)
   have x25:dIx (rl 26 (fun i=>.int (g i))) (.int 25)=.ok (.int (g 25)):=dg_ix (M:=26) (i:=25) (by decide)
   have g0:=(hg 24 (by decide)).1
   have m2:dMod (.int w) (.int 2)=.ok (.int (w % 2)):=QX (by decide)
   have m6:dMod (.int (g 24)) (.int 6)=.ok (.int (g 24 % 6)):=QX (by decide)
   have m4:dMod (.int (g 25)) (.int 4)=.ok (.int (g 25 % 4)):=QX (by decide)
   generalize rl 26 (fun i=>D.int (g i))=G at *
   have hif:∃ z:Int,0<=z/\sIf (tAnd' (tVal (e2 dEq (e2 dMod (eVar 4) (eC (.int 2))) (eC (.int 0)))) (tVal (e2 dEq (e2 dMod (e2 dIx (eVar 5) (eC (.int 25))) (eC (.int 4))) (eC (.int 3))))) (sSet 6 (e2 dIx (eVar 5) (eC (.int 24)))) sNil [some (.k,S),some (.k,.int (n:Int)),some (.o,rl k (fun i=>.int (K i))),some (.k,.int (k:Int)),some (.k,.int w),some (.k,G),some (.k,.int (g 24 % 6))]=.ok (.nx [some (.k,S),some (.k,.int (n:Int)),some (.o,rl k (fun i=>.int (K i))),some (.k,.int (k:Int)),some (.k,.int w),some (.k,G),some (.k,.int z)]):=by
    have t1:tVal (e2 dEq (e2 dMod (eVar 4) (eC (.int 2))) (eC (.int 0))) [some (.k,S),some (.k,.int (n:Int)),some (.o,rl k (fun i=>.int (K i))),some (.k,.int (k:Int)),some (.k,.int w),some (.k,G),some (.k,.int (g 24 % 6))]=.ok (decide (w % 2=0)):=QaR (r_e2 (r_e2 (r_var rfl) r_C m2) r_C (Qar _ _))
    have t2:tVal (e2 dEq (e2 dMod (e2 dIx (eVar 5) (eC (.int 25))) (eC (.int 4))) (eC (.int 3))) [some (.k,S),some (.k,.int (n:Int)),some (.o,rl k (fun i=>.int (K i))),some (.k,.int (k:Int)),some (.k,.int w),some (.k,G),some (.k,.int (g 24 % 6))]=.ok (decide (g 25 % 4=3)):=QaR (r_e2 (r_e2 (r_e2 (r_var rfl) r_C x25) r_C m4) r_C (Qar _ _))
    cases h1:decide (w % 2=0) with
    | false=>
     rw[h1]at t1
     exact⟨g 24 % 6,by omega,r_ifF (QvT t1 (QiT rfl rfl)) rfl Qch⟩
    | true=>
     rw[h1]at t1
     cases h2:decide (g 25 % 4=3) with
     | false=>
      rw[h2]at t2
      exact⟨g 24 % 6,by omega,r_ifF (QvT t1 (Qi3 rfl t2)) rfl Qch⟩
     | true=>
      rw[h2]at t2
      exact⟨g 24,g0,r_ifT (QvT t1 (Qi3 rfl t2)) rfl (r_set (r_e2 (r_var rfl) r_C x24) (by walk_at "s"))⟩
   obtain⟨z,z0,hz⟩:=hif
   have mz:dMod (.int z) (.int 6)=.ok (.int (z % 6)):=QX (by decide)
   obtain⟨b,b0,hb⟩:∃ b:Int,0<=b/\dIx (.lst [.int 0,.int 1,.int 2,.int 3,.int 0,.int 5]) (.int (z % 6))=.ok (.int b):=by
    rcases(by omega:z % 6=0∨z % 6=1∨z % 6=2∨z % 6=3∨z % 6=4∨z % 6=5) with e | e | e | e | e | e<;>rw[e]
    ·exact⟨0,by decide,rfl⟩
    ·exact⟨1,by decide,rfl⟩
    ·exact⟨2,by decide,rfl⟩
    ·exact⟨3,by decide,rfl⟩
    ·exact⟨0,by decide,rfl⟩
    ·exact⟨5,by decide,rfl⟩
   obtain⟨e,he,hx⟩:=pick2 z b (w % 2) (by omega)
   have e0:0<=e:=by rcases he with rfl | rfl<;>assumption
   have ea:(List.range k).map (fun j=>D.int (K j))++[.int e]=(List.range (k+1)).map (fun i=>D.int (if i<k then K i else e)):=by
    rw[Qwc]
    exact List.map_congr_left fun i _=>by split<;>rfl
   have hle:((List.range k).map (fun j=>D.int (K j))).length<=1000:=by rw[List.length_map,List.length_range];omega
   refine⟨[some (.k,S),some (.k,.int (n:Int)),some (.o,rl (k+1) (fun i=>.int (if i<k then K i else e))),some (.k,.int (k:Int)),some (.k,.int w),some (.k,G),some (.k,.int z)],?_,fun i=>if i<k then K i else e,_,_,_,_,rfl,fun i hi=>?_⟩
   ·refine r_gN (by walk_at "s") ?_
    unfold Qgq
    refine r_seq (r_set (Q9 (xs:=[S,.int (1+(k:Int))]) (Qf (r_var rfl) (Qf (r_e2 r_C (r_var rfl) (Qak _ _)) r_nil)) rfl hw) (by walk_at "s")) (Qn ?_)
    refine r_seq (r_set (Q9 (xs:=[.int w,.int 26]) (Qf (r_var rfl) (Qf r_C r_nil)) rfl hdg) (by walk_at "s")) (Qn ?_)
    refine r_seq (r_set (r_e2 (r_e2 (r_var rfl) r_C x24) r_C m6) (by walk_at "s")) (Qn ?_)
    refine r_seq hz (Qn ?_)
    exact r_app (xs:=(List.range k).map (fun j=>D.int (K j))) rfl (r_e2 (r_lst (xs:=[.int z,.int b]) (Qf (r_var rfl) (Qf (r_e2 (r_lst (Qf r_C (Qf r_C (Qf r_C (Qf r_C (Qf r_C (Qf r_C r_nil)))))) (show 6<=1000 by decide)) (r_e2 (r_var rfl) r_C mz) hb) r_nil)) (show 2<=1000 by decide)) (r_e2 (r_var rfl) r_C m2) hx) hle (by rw[ea];walk_at "s")
   ·show 0<=(if i<k then K i else e)
    split
    ·rename_i w;exact hK i w
    ·exact e0)
  [some (.k,S),some (.k,.int (n:Int)),some (.o,.lst []),none,none,none,none] ⟨fun _=>0,_,_,_,_,rfl,fun i hi=>absurd hi (by omega)⟩
 have hR:itR1 (eVar 1) [some (.k,S),some (.k,.int (n:Int)),some (.o,.lst []),none,none,none,none]=.ok (Qb1 0 n):=Qce n (r_var rfl) (by omega)
 have hfor:=Qb7 (g:=gN 3) (T:=Qgq) hR hL
 refine⟨K,hK,?_⟩
 rw[QGt]
 unfold Qiy
 exact Qbu (fl:=.rt true (rl n (fun i=>.int (K i)))) (r_seq (QdC (d:=.lst []) (by (repeat walk_at "e")) (by walk_at "s")) (Qn (r_seq hfor (Qn (QC5 rfl))))) r_rtT
theorem QI8(i:Int):QeP [.int i]=.ok (.bl true):=by
 rfl
theorem Qmv{n:Nat}(hn:n<=1000)(f:Nat->Int):Qam [rl n (fun i=>.int (f i)),rl n (fun i=>.int (f i))]=.ok (.bl true):=by
 have hl:=lenR n (fun i=>D.int (f i))
 have hx:∀ k,k<n->dIx (rl n (fun i=>D.int (f i))) (.int (k:Int))=.ok (.int (f k)):=fun k hk=>ixR (f:=fun i=>D.int (f i)) hk
 have hi:isaT "list" (rl n (fun i=>D.int (f i)))=.ok true:=rfl
 have hne:∀ z:Int,dNe (.int z) (.int z)=.ok (.bl false):=fun z=>by rw[QeO,decide_eq_true rfl];rfl
 generalize rl n (fun i=>D.int (f i))=A at *
 obtain⟨ς',hL,a2,rfl⟩:=Qcz (body:=fun x ς=>gN 2 x ς>>=fun ς'=>QfJ ς') (n:=n) (P:=fun _ ς=>∃ a2,ς=[some (.k,A),some (.k,A),a2])
  (by
   rintro k hk ς ⟨a2,rfl⟩
   have h1:=hx k hk
   have h2:=QI8 (f k)
   refine⟨[some (.k,A),some (.k,A),some (.k,.int (k:Int))],?_,_,rfl⟩
   refine r_gN (by walk_at "s") ?_
   unfold QfJ
   exact r_ifF (r_or' (b:=false) (QkQ (b:=true) (QaR (Q9 (xs:=[.int (f k)]) (Qf (r_e2 (r_var rfl) (r_var rfl) h1) r_nil) rfl h2))) (QiT rfl (QaR (r_e2 (r_e2 (r_var rfl) (r_var rfl) h1) (r_e2 (r_var rfl) (r_var rfl) h1) (hne _))))) rfl Qch)
  [some (.k,A),some (.k,A),none] ⟨_,rfl⟩
 have hR:itR1 (eA fLen (aCons (eVar 1) aNil)) [some (.k,A),some (.k,A),none]=.ok (Qb1 0 n):=Qce n (r_eA (Qf (r_var rfl) r_nil) hl) (by omega)
 have hfor:=Qb7 (g:=gN 2) (T:=QfJ) hR hL
 rw[QDO]
 unfold QgZ
 refine Qbu (fl:=.rt false (.bl true)) ?_ r_rt
 refine r_seq (r_ifF (r_or' (b:=false) (QkQ (b:=true) (QaR (r_isa (r_var rfl) hi))) (QiT rfl (QaR (r_e2 (r_eA (Qf (r_var rfl) r_nil) hl) (r_eA (Qf (r_var rfl) r_nil) hl) (hne _))))) rfl Qch) (Qn (r_seq hfor (Qn (r_ret r_C))))
section
variable{n nd:Nat}{nm dn c:Nat->Str}{t:Nat->List (List Int)}{m:Nat->Nat}{ld:Nat->Nat->Int}{st:Nat->Int}(hs:Seats n nd nm dn c t m ld st){kd:Nat->Int}
include hs
theorem QNp{S K:Nat->Int}{k:Nat}(hk:k<n)(s0:0<=S k)(s1:S k<((t k).length:Int)):
 Qek [rl n (planD kd t m ld st nm),.int (nd:Int),rl n (fun i=>.int (S i)),rl n (fun i=>.int (K i)),.int (k:Int)]=
  .ok (.tup [rl n (fun i=>.int (up1 t S k i)),rl n (fun i=>.int (dn1 K k i+dkt (m k) (ld k) (rw' (t k) (S k)) (i:Int))),rl nd (fun i=>.int (0+dkt (m k) (ld k) (rw' (t k) (S k)) (-1 - (i:Int))))]):=by
 have n2:=hs.n2
 have d2:=hs.d2
 have tb:=hs.tb k hk
 have n1:=tb.n1
 have m6:=tb.m6
 obtain⟨r,hr⟩:∃ r:Nat,S k=(r:Int):=⟨(S k).toNat,by omega⟩
 have hrl:r<(t k).length:=by omega
 have hrow:dIx (tbD (t k)) (.int (S k))=.ok (rl (m k) (fun j=>.int (rw' (t k) (S k) j))):=by
  have hg:(t k).getD r []=(t k)[r]:=by simp[List.getD_eq_getElem?_getD,List.getElem?_eq_getElem hrl]
  have hm:((t k)[r]).length=m k:=tb.row _ (List.getElem_mem hrl)
  have hx:dIx (tbD (t k)) (.int (r:Int))=.ok (dl (t k)[r]):=ixL r (by rw[List.getElem?_map,List.getElem?_eq_getElem hrl];rfl)
  have e:rl (m k) (fun j=>D.int (rw' (t k) (r:Int) j))=dl (t k)[r]:=by
   unfold dl rw'
   rw[QKt hm,Int.toNat_natCast,hg]
  rw[hr,hx,e]
 have hP:dIx (rl n (planD kd t m ld st nm)) (.int (k:Int))=.ok (planD kd t m ld st nm k):=ixR hk
 have hP1:dIx (planD kd t m ld st nm k) (.int 1)=.ok (tbD (t k)):=ixT 1 rfl
 have hP2:dIx (planD kd t m ld st nm k) (.int 2)=.ok (rl (m k) (fun j=>.int (ld k j))):=ixT 2 rfl
 have htl:fLen [tbD (t k)]=.ok (.int ((t k).length:Int)):=by simp[fLen,tbD]
 have hll:=lenR (m k) (fun j=>D.int (ld k j))
 have hx1:dIx (rl n (fun i=>D.int (S i))) (.int (k:Int))=.ok (.int (S k)):=ixR (f:=fun i=>D.int (S i)) hk
 have hx2:dIx (rl n (fun i=>D.int (K i))) (.int (k:Int))=.ok (.int (K k)):=ixR (f:=fun i=>D.int (K i)) hk
 have hn1:=ixNR hk (fun i=>D.int (S i))
 have hn2:=ixNR hk (fun i=>D.int (K i))
 have p1:((List.range n).map fun i=>D.int (S i)).set k (.int ((S k+1) % ((t k).length:Int)))=(List.range n).map fun i=>D.int (up1 t S k i):=Qs6 hk S _
 have p2:((List.range n).map fun i=>D.int (K i)).set k (.int (K k - 1))=(List.range n).map fun i=>D.int (dn1 K k i):=Qs6 hk K _
 have hmod:dMod (.int (S k+1)) (.int ((t k).length:Int))=.ok (.int ((S k+1) % ((t k).length:Int))):=QX (by omega)
 have l1:dList (rl n (fun i=>D.int (S i)))=.ok (rl n (fun i=>D.int (S i))):=rfl
 have l2:dList (rl n (fun i=>D.int (K i)))=.ok (rl n (fun i=>D.int (K i))):=rfl
 have hrep:=QO0 (x:=.int 0) (N:=nd) (by omega)
 have hlx:∀ j,j<m k->dIx (rl (m k) (fun j=>D.int (ld k j))) (.int (j:Int))=.ok (.int (ld k j)):=fun j hj=>ixR (f:=fun j=>D.int (ld k j)) hj
 have hwx:∀ j,j<m k->dIx (rl (m k) (fun j=>D.int (rw' (t k) (S k) j))) (.int (j:Int))=.ok (.int (rw' (t k) (S k) j)):=fun j hj=>ixR (f:=fun j=>D.int (rw' (t k) (S k) j)) hj
 have hldr:=fun j hj=>hs.ldr k j hk hj
 generalize rl n (planD kd t m ld st nm)=P at *
 generalize planD kd t m ld st nm k=Pk at *
 generalize tbD (t k)=Tk at *
 generalize rl (m k) (fun j=>D.int (ld k j))=Ls at *
 generalize rl (m k) (fun j=>D.int (rw' (t k) (S k) j))=Rs at *
 generalize hl:ld k=l at *
 generalize hw:rw' (t k) (S k)=w at *
 generalize dn1 K k=F at *
 obtain⟨ς',hL,a11,rfl⟩:=Qcz (body:=fun x ς=>gN 11 x ς>>=fun ς'=>QhE ς') (n:=m k)
  (P:=fun j ς=>∃ a11,ς=[some (.k,P),some (.k,.int (nd:Int)),some (.k,rl n (fun i=>.int (S i))),some (.k,rl n (fun i=>.int (K i))),some (.k,.int (k:Int)),some (.k,Tk),some (.k,Ls),some (.k,Rs),some (.o,rl n (fun i=>.int (up1 t S k i))),some (.o,rl n (fun i=>.int (F i+dkt j l w (i:Int)))),some (.o,rl nd (fun i=>.int (0+dkt j l w (-1 - (i:Int))))),a11])
  (by
   rintro j hj ς ⟨a11,rfl⟩
   obtain⟨q0,q1⟩:=hldr j hj
   have ex:=hlx j hj
   have ew:=hwx j hj
   generalize hSd:rl n (fun i=>D.int (S i))=Sd at *
   generalize hKd:rl n (fun i=>D.int (K i))=Kd at *
   generalize rl n (fun i=>D.int (up1 t S k i))=Ud at *
   refine⟨[some (.k,P),some (.k,.int (nd:Int)),some (.k,Sd),some (.k,Kd),some (.k,.int (k:Int)),some (.k,Tk),some (.k,Ls),some (.k,Rs),some (.o,Ud),some (.o,rl n (fun i=>.int (F i+dkt (j+1) l w (i:Int)))),some (.o,rl nd (fun i=>.int (0+dkt (j+1) l w (-1 - (i:Int))))),some (.k,.int (j:Int))],?_,_,rfl⟩
   refine r_gN (by walk_at "s") ?_
   unfold QhE
   by_cases h:l j<0
   ·obtain⟨p,hp⟩:∃ p:Nat, -1 - l j=(p:Int):=⟨(-1 - l j).toNat,by omega⟩
    have hpn:p<nd:=by omega
    have hx:dIx (rl nd (fun i=>.int (0+dkt j l w (-1 - (i:Int))))) (.int (p:Int))=.ok (.int (0+dkt j l w (-1 - (p:Int)))):=ixR hpn
    have hn:=ixNR hpn (fun i=>D.int (0+dkt j l w (-1 - (i:Int))))
    have hset:((List.range nd).map fun i:Nat=>D.int (0+dkt j l w (-1 - (i:Int)))).set p (.int (0+dkt j l w (-1 - (p:Int))+w j))=(List.range nd).map fun i:Nat=>D.int (0+dkt (j+1) l w (-1 - (i:Int))):=by
     rw[Qtk hpn (fun i=>0+dkt j l w (-1 - (i:Int))) (w j)]
     apply List.map_congr_left
     intro i _
     show D.int (0+dkt j l w (-1 - (i:Int))+(if (p:Int)=(i:Int) then w j else 0))=D.int (0+(dkt j l w (-1 - (i:Int))+if l j = -1 - (i:Int) then w j else 0))
     by_cases e:p=i
     ·subst e
      rw[if_pos rfl,if_pos (by omega),Int.add_assoc]
     ·rw[if_neg (by omega),if_neg (by omega),Int.add_zero,Int.add_zero]
    have hF:rl n (fun i=>D.int (F i+dkt (j+1) l w (i:Int)))=rl n (fun i=>D.int (F i+dkt j l w (i:Int))):=Qfd fun i _=>by
     show D.int (F i+(dkt j l w (i:Int)+if l j=(i:Int) then w j else 0))=_
     rw[if_neg (by omega),Int.add_zero]
    rw[hF]
    refine r_ifT (QaR (r_e2 (r_e2 (r_var rfl) (r_var rfl) ex) r_C (Qb4 _ _))) (decide_eq_true h) ?_
    have hi:e2 dSub (e1 dNeg (eC (.int 1))) (e2 dIx (eVar 6) (eVar 11)) [some (.k,P),some (.k,.int (nd:Int)),some (.k,Sd),some (.k,Kd),some (.k,.int (k:Int)),some (.k,Tk),some (.k,Ls),some (.k,Rs),some (.o,Ud),some (.o,rl n (fun i=>.int (F i+dkt j l w (i:Int)))),some (.o,rl nd (fun i=>.int (0+dkt j l w (-1 - (i:Int))))),some (.k,.int (j:Int))]=.ok (.int (p:Int)):=by
     rw[← hp]
     exact r_e2 (r_e1 r_C (QeA _)) (r_e2 (r_var rfl) (r_var rfl) ex) (QcV _ _)
    exact r_put (k:=(p:Int)) (j:=p) (r_e2 (r_e2 (Qhk rfl) hi hx) (r_e2 (r_var rfl) (r_var rfl) ew) (Qak _ _)) rfl hi hn (by rw[hset];walk_at "s")
   ·obtain⟨p,hp⟩:∃ p:Nat,l j=(p:Int):=⟨(l j).toNat,by omega⟩
    have hpn:p<n:=by omega
    have hx:dIx (rl n (fun i=>.int (F i+dkt j l w (i:Int)))) (.int (p:Int))=.ok (.int (F p+dkt j l w (p:Int))):=ixR hpn
    have hn:=ixNR hpn (fun i=>D.int (F i+dkt j l w (i:Int)))
    have hset:((List.range n).map fun i:Nat=>D.int (F i+dkt j l w (i:Int))).set p (.int (F p+dkt j l w (p:Int)+w j))=(List.range n).map fun i:Nat=>D.int (F i+dkt (j+1) l w (i:Int)):=by
     rw[Qtk hpn (fun i=>F i+dkt j l w (i:Int)) (w j)]
     apply List.map_congr_left
     intro i _
     show D.int (F i+dkt j l w (i:Int)+(if (p:Int)=(i:Int) then w j else 0))=D.int (F i+(dkt j l w (i:Int)+if l j=(i:Int) then w j else 0))
     rw[hp,Int.add_assoc]
    have hG:rl nd (fun i=>D.int (0+dkt (j+1) l w (-1 - (i:Int))))=rl nd (fun i=>D.int (0+dkt j l w (-1 - (i:Int)))):=Qfd fun i _=>by
     show D.int (0+(dkt j l w (-1 - (i:Int))+if l j = -1 - (i:Int) then w j else 0))=_
     rw[if_neg (by omega),Int.add_zero]
    rw[hG]
    refine r_ifF (QaR (r_e2 (r_e2 (r_var rfl) (r_var rfl) ex) r_C (Qb4 _ _))) (decide_eq_false h) ?_
    have hi:e2 dIx (eVar 6) (eVar 11) [some (.k,P),some (.k,.int (nd:Int)),some (.k,Sd),some (.k,Kd),some (.k,.int (k:Int)),some (.k,Tk),some (.k,Ls),some (.k,Rs),some (.o,Ud),some (.o,rl n (fun i=>.int (F i+dkt j l w (i:Int)))),some (.o,rl nd (fun i=>.int (0+dkt j l w (-1 - (i:Int))))),some (.k,.int (j:Int))]=.ok (.int (p:Int)):=by
     rw[← hp]
     exact r_e2 (r_var rfl) (r_var rfl) ex
    exact r_put (k:=(p:Int)) (j:=p) (r_e2 (r_e2 (Qhk rfl) hi hx) (r_e2 (r_var rfl) (r_var rfl) ew) (Qak _ _)) rfl hi hn (by rw[hset];walk_at "s"))
  [some (.k,P),some (.k,.int (nd:Int)),some (.k,rl n (fun i=>.int (S i))),some (.k,rl n (fun i=>.int (K i))),some (.k,.int (k:Int)),some (.k,Tk),some (.k,Ls),some (.k,Rs),some (.o,rl n (fun i=>.int (up1 t S k i))),some (.o,rl n (fun i=>.int (F i))),some (.o,rl nd (fun _=>.int 0)),none] ⟨none,by
   have h1:rl n (fun i=>D.int (F i))=rl n (fun i=>D.int (F i+dkt 0 l w (i:Int))):=Qfd fun i _=>by show D.int (F i)=D.int (F i+0);rw[Int.add_zero]
   have h2:rl nd (fun _=>D.int 0)=rl nd (fun i=>D.int (0+dkt 0 l w (-1 - (i:Int)))):=Qfd fun i _=>rfl
   rw[h1,h2]⟩
 have hR:itR1 (eA fLen (aCons (eVar 6) aNil)) [some (.k,P),some (.k,.int (nd:Int)),some (.k,rl n (fun i=>.int (S i))),some (.k,rl n (fun i=>.int (K i))),some (.k,.int (k:Int)),some (.k,Tk),some (.k,Ls),some (.k,Rs),some (.o,rl n (fun i=>.int (up1 t S k i))),some (.o,rl n (fun i=>.int (F i))),some (.o,rl nd (fun _=>.int 0)),none]=.ok (Qb1 0 (m k)):=Qce (m k) (r_eA (Qf (r_var rfl) r_nil) hll) (by omega)
 have hfor:=Qb7 (g:=gN 11) (T:=QhE) hR hL
 rw[QH9]
 unfold Qkk
 refine Qbu (fl:=.rt false (.tup [rl n (fun i=>.int (up1 t S k i)),rl n (fun i=>.int (F i+dkt (m k) l w (i:Int))),rl nd (fun i=>.int (0+dkt (m k) l w (-1 - (i:Int))))])) ?_ r_rt
 refine r_seq (r_set (r_e2 (r_e2 (r_var rfl) (r_var rfl) hP) r_C hP1) (by walk_at "s")) (Qn ?_)
 refine r_seq (r_set (r_e2 (r_e2 (r_var rfl) (r_var rfl) hP) r_C hP2) (by walk_at "s")) (Qn ?_)
 refine r_seq (r_set (r_e2 (r_var rfl) (r_e2 (r_var rfl) (r_var rfl) hx1) hrow) (by walk_at "s")) (Qn ?_)
 refine r_seq (QdC (r_e1 (r_var rfl) l1) (by walk_at "s")) (Qn ?_)
 refine r_seq (r_put (k:=(k:Int)) (j:=k) (r_e2 (r_e2 (r_e2 (r_var rfl) (r_var rfl) hx1) r_C (Qak _ _)) (r_eA (Qf (r_var rfl) r_nil) htl) hmod) rfl (r_var rfl) hn1 (by rw[p1];walk_at "s")) (Qn ?_)
 refine r_seq (QdC (r_e1 (r_var rfl) l2) (by walk_at "s")) (Qn ?_)
 refine r_seq (r_put (k:=(k:Int)) (j:=k) (r_e2 (r_e2 (Qhk rfl) (r_var rfl) hx2) r_C (QcV _ _)) rfl (r_var rfl) hn2 (by rw[p2];walk_at "s")) (Qn ?_)
 refine r_seq (QdC (r_e2 (r_lst (Qf r_C r_nil) (show 1<=1000 by decide)) (r_var rfl) hrep) (by walk_at "s")) (Qn ?_)
 refine r_seq hfor (Qn ?_)
 exact r_ret (ς:=[some (.k,P),some (.k,.int (nd:Int)),some (.k,rl n (fun i=>.int (S i))),some (.k,rl n (fun i=>.int (K i))),some (.k,.int (k:Int)),some (.k,Tk),some (.k,Ls),some (.k,Rs),some (.k,rl n (fun i=>.int (up1 t S k i))),some (.k,rl n (fun i=>.int (F i+dkt (m k) l w (i:Int)))),some (.k,rl nd (fun i=>.int (0+dkt (m k) l w (-1 - (i:Int))))),a11]) (r_tup (Qf (r_var rfl) (Qf (r_var rfl) (Qf (r_var rfl) r_nil))) (show 3<=1000 by decide))
end
theorem QwC:∀ l:List Int,layDs (l.map D.int)=true
 | []=>rfl
 | x::l=>by show(layD (D.int x)&&layDs (l.map D.int))=true;rw[QwC l];rfl
theorem QwW:∀ l:List Int,deps (l.map D.int)<=1
 | []=>Nat.zero_le _
 | x::l=>by
  have:=QwW l
  show max (dep (D.int x)) (deps (l.map D.int))<=1
  have h:dep (D.int x)=0:=rfl
  omega
theorem QCJ:∀ l:List Int,PyData.eqvAll (D.pys (l.map D.int)) (D.pys (l.map D.int))=true
 | []=>rfl
 | x::l=>by
  show(PyData.eqv (D.int x).py (D.int x).py&&PyData.eqvAll (D.pys (l.map D.int)) (D.pys (l.map D.int)))=true
  rw[QCJ l,Bool.and_true]
  simp[D.py,PyData.eqv]
theorem QOB(n:Nat)(f g:Nat->Int):dNe (.tup [rl n (fun i=>.int (f i)),rl n (fun i=>.int (g i))]) (.tup [rl n (fun i=>.int (f i)),rl n (fun i=>.int (g i))])=.ok (.bl false):=by
 have e:∀ f:Nat->Int,rl n (fun i=>D.int (f i))=.lst (((List.range n).map f).map D.int):=fun f=>by show D.lst _=_;rw[List.map_map];rfl
 rw[e f,e g]
 generalize (List.range n).map f=a
 generalize (List.range n).map g=b
 have hsh:shp (.tup [.lst (a.map D.int),.lst (b.map D.int)])=true:=QBo (d:=.tup [.lst (a.map D.int),.lst (b.map D.int)]) (by
  show(layDs (a.map D.int)&&(layDs (b.map D.int)&&true))=true
  rw[QwC,QwC];rfl) (by
  have h1:=QwW a
  have h2:=QwW b
  show max (deps (a.map D.int)+1) (max (deps (b.map D.int)+1) 0)+1<=64
  omega)
 rw[QKc hsh hsh]
 show Out.ok (D.bl (!(PyData.eqvAll (D.pys (a.map D.int)) (D.pys (a.map D.int))&&(PyData.eqvAll (D.pys (b.map D.int)) (D.pys (b.map D.int))&&true))))=_
 rw[QCJ,QCJ];rfl
theorem rw_bd{t:List (List Int)}{m:Nat}(h:Tb t m)(s:Int)(j:Nat):0<=rw' t s j/\rw' t s j<=9:=by
 unfold rw'
 rw[List.getD_eq_getElem?_getD,List.getD_eq_getElem?_getD]
 cases hr:t[s.toNat]? with
 | none=>simp
 | some r=>
  show 0<=(r[j]?).getD 0/\(r[j]?).getD 0<=9
  cases hx:r[j]? with
  | none=>simp
  | some x=>exact h.ent r (List.mem_of_getElem? hr) x (List.mem_of_getElem? hx)
theorem QHF{body:D->SD->Out Fl}{P:SD->Prop}:∀{xs:List D},(∀ x∈xs,∀ ς,P ς->(∃ ς',body x ς=.ok (.nx ς')/\P ς')∨body x ς=.ok (.rt false (.bl true)))->∀ ς,P ς->(∃ ς',loopD body xs ς=.ok (.nx ς')/\P ς')∨loopD body xs ς=.ok (.rt false (.bl true))
 | [],_,ς,p=>.inl ⟨ς,rfl,p⟩
 | x::xs,h,ς,p=>by
  rcases h x (List.mem_cons_self ..) ς p with⟨ς1,e1',p1⟩ | e1'
  ·rw[loopD,e1']
   exact QHF (fun y hy=>h y (List.mem_cons_of_mem _ hy)) ς1 p1
  ·rw[loopD,e1']
   exact .inr rfl
theorem QM2{i j:Nat}{f:List D->Out D}{A:SD->Out (List D)}{TC:SD->Out Bool}{R U:SD->Out Fl}{ς ς1 ς2:SD}{ds:List D}{xss:List (List D)}{r:Out Fl}(a:A ς=.ok ds)(h:f ds=.ok (.tup (xss.map .lst)))(hs:Qf2 xss=true)(hi:i<ς.length)(hj:j<ς.length)(e1':ς.set i (some (.k,.tup (xss.map .lst)))=ς1)(t:TC ς1=.ok false)(e2':(ς.set i none).set j none=ς2)(u:U ς2=r):Qsg i j f A TC R U ς=r:=by
 unfold Qsg
 rw[a,Out.bind_ok,h,Out.bind_ok]
 show(match lstsD (xss.map D.lst) with
  | some xss'=>if (Qf2 xss'&&decide (i<ς.length)&&decide (j<ς.length))=true then TC (ς.set i (some (.k,.tup (xss.map D.lst))))>>=fun b=>if b=true then R (ς.set i (some (.k,.tup (xss.map D.lst))))>>=onlyR else U ((ς.set i none).set j none) else Out.stuck
  | none=>Out.stuck)=r
 rw[QsA]
 show(if (Qf2 xss&&decide (i<ς.length)&&decide (j<ς.length))=true then _ else _)=r
 rw[if_pos (by rw[hs,decide_eq_true hi,decide_eq_true hj];rfl),e1',t,Out.bind_ok,if_neg (by decide),e2']
 exact u
theorem QMG{A B C:D}(hA:Qam [A,A]=.ok (.bl true))(hB:Qam [B,B]=.ok (.bl true))(hC:Qam [C,C]=.ok (.bl true)):Qdd [.tup [A,B,C],.tup [A,B,C]]=.ok (.bl true):=by
 have hi:isaT "tuple" (.tup [A,B,C])=.ok true:=rfl
 have hl:fLen [.tup [A,B,C]]=.ok (.int 3):=by simp[fLen]
 have e3:dNe (.int 3) (.int 3)=.ok (.bl false):=by rw[QeO];rfl
 have x0:dIx (.tup [A,B,C]) (.int 0)=.ok A:=ixT 0 rfl
 have x1:dIx (.tup [A,B,C]) (.int 1)=.ok B:=ixT 1 rfl
 have x2:dIx (.tup [A,B,C]) (.int 2)=.ok C:=ixT 2 rfl
 generalize D.tup [A,B,C]=T at *
 rw[QE6]
 unfold QiP
 refine Qbu (fl:=.rt false (.bl true)) (r_seq (r_ifF (r_or' (QkQ (b:=true) (QaR (r_isa (r_var rfl) hi))) (QiT rfl (QaR (r_e2 (r_eA (Qf (r_var rfl) r_nil) hl) r_C e3)))) rfl Qch) (Qn (r_ret ?_))) r_rt
 exact QwQ (Q9 (xs:=[A,A]) (Qf (r_e2 (r_var rfl) r_C x0) (Qf (r_e2 (r_var rfl) r_C x0) r_nil)) rfl hA) (Qi3 rfl (QwQ (Q9 (xs:=[B,B]) (Qf (r_e2 (r_var rfl) r_C x1) (Qf (r_e2 (r_var rfl) r_C x1) r_nil)) rfl hB) (Qi3 rfl (Q9 (xs:=[C,C]) (Qf (r_e2 (r_var rfl) r_C x2) (Qf (r_e2 (r_var rfl) r_C x2) r_nil)) rfl hC))))
def nz(l:List Nat):D:=.lst (l.map fun k:Nat=>D.int (k:Int))
theorem QOD(l:List Nat):fLen [nz l]=.ok (.int (l.length:Int)):=by simp[fLen,nz]
theorem nz_ix{l:List Nat}{i:Nat}(h:i<l.length):dIx (nz l) (.int (i:Int))=.ok (.int ((l[i]:Nat):Int)):=ixL i (by rw[List.getElem?_map,List.getElem?_eq_getElem h];rfl)
theorem QK6(l:List Nat):dEq (nz l) (.lst [])=.ok (.bl l.isEmpty):=by
 have e:nz l=.lst ((l.map fun k:Nat=>(k:Int)).map D.int):=by unfold nz;rw[List.map_map];rfl
 have hsh:∀ l:List Int,shp (.lst (l.map D.int))=true:=fun l=>QBo (d:=.lst (l.map D.int)) (QwC l) (by show deps (l.map D.int)+1<=64;have:=QwW l;omega)
 rw[e,QKw (hsh _) (show shp (.lst [])=true from hsh [])]
 cases l<;>rfl
section
variable{n nd:Nat}{nm dn c:Nat->Str}{t:Nat->List (List Int)}{m:Nat->Nat}{ld:Nat->Nat->Int}{st:Nat->Int}(hs:Seats n nd nm dn c t m ld st)
include hs
theorem QLr(f:Nat->Int){ς:SD}(h:ς[5]?=some (some (.k,rl n (fun i=>.int (f i))))):eComp [none,some 5] (itR1 (eA fLen (aCons (eVar 5) aNil))) (gN 0) QxT Qyn ς=.ok (nz ((List.range n).filter fun i=>decide (0<f i))):=by
 have n2:=hs.n2
 have hl:=lenR n (fun i=>D.int (f i))
 refine QNW (fun i:Nat=>D.int ((0:Int)+i)) (fun i=>decide (0<f i)) (fun i:Nat=>D.int (i:Int)) (Qce n (r_eA (Qf (r_var h) r_nil) hl) (by omega)) (fun i hi=>?_) (by omega)
 have hx:dIx (rl n (fun i=>D.int (f i))) (.int (i:Int))=.ok (.int (f i)):=ixR (f:=fun i=>D.int (f i)) hi
 rw[Int.zero_add]
 refine QM3 (τ0:=[none,some (.k,rl n (fun i=>.int (f i)))]) (Qf6 (c_k h c_nil)) (by walk_at "s") ?_ ?_
 ·unfold QxT
  exact QaR (r_e2 (r_e2 (r_var rfl) (r_var rfl) hx) r_C (Qh7 _ _))
 ·unfold Qyn
  exact r_var rfl
theorem QMe:Qbv [offD n nd nm dn c t m ld st]=.ok (rl n (fun k=>.int (st k))):=by
 have lk:(offF n nd nm dn c t m ld st).lookup ("first_states":Str)=some (rl n (fun k=>.int (st k))):=by
  have h1:(("first_states":Str) == "clerk_names")=false:=dk
  have h2:(("first_states":Str) == "door_names")=false:=dk
  have h3:(("first_states":Str) == "entry_places")=false:=dk
  have h4:(("first_states":Str) == "staff")=false:=dk
  unfold offF
  rw[List.lookup_cons,h1,List.lookup_cons,h2,List.lookup_cons,h3,List.lookup_cons,h4,List.lookup_cons,beq_self_eq_true]
 have h1:=fld_o lk
 have hdl:dList (rl n (fun k=>.int (st k)))=.ok (rl n (fun k=>.int (st k))):=rfl
 rw[Qyc]
 unfold Qfr
 exact Qbu (Qru (r_e1 (r_e1 (r_var rfl) h1) hdl)) r_rtT
theorem QNy{kd:Nat->Int}{S:D}{z:Int}{St K:Nat->Int}(hSt:∀ k,k<n->0<=St k/\St k<((t k).length:Int))(hK:∀ k,k<n->0<=K k)(a7 a8 a9 a10 a13:Option (SM×D)):
 (∃(St' K':Nat->Int)(b7 b8 b9 b10 b13:Option (SM×D)),(∀ k,k<n->0<=St' k/\St' k<((t k).length:Int))/\(∀ k,k<n->0<=K' k)/\Qfx [some (.k,S),some (.k,rl n (planD kd t m ld st nm)),some (.k,.int (nd:Int)),some (.k,offD n nd nm dn c t m ld st),some (.k,rl n (fun i=>.int (St i))),some (.k,rl n (fun i=>.int (K i))),some (.k,.int z),a7,a8,a9,a10,none,none,a13]=.ok (.nx [some (.k,S),some (.k,rl n (planD kd t m ld st nm)),some (.k,.int (nd:Int)),some (.k,offD n nd nm dn c t m ld st),some (.k,rl n (fun i=>.int (St' i))),some (.k,rl n (fun i=>.int (K' i))),some (.k,.int z),b7,b8,b9,b10,none,none,b13]))∨
 Qfx [some (.k,S),some (.k,rl n (planD kd t m ld st nm)),some (.k,.int (nd:Int)),some (.k,offD n nd nm dn c t m ld st),some (.k,rl n (fun i=>.int (St i))),some (.k,rl n (fun i=>.int (K i))),some (.k,.int z),a7,a8,a9,a10,none,none,a13]=.ok (.rt false (.bl true)):=by
 have n2:=hs.n2
 have d2:=hs.d2
 have hsc:=fun ς h=>QLr hs K (ς:=ς) h
 have n0:∀ z:SD,eLst aNil z=.ok (.lst []):=fun z=>by (repeat walk_at "e")
 cases hrd:(List.range n).filter fun i=>decide (0<K i) with
 | nil=>
  right
  have e:=QK6 ((List.range n).filter fun i=>decide (0<K i))
  rw[hrd]at e
  unfold Qfx
  refine r_seq (r_set (hsc _ rfl) (by walk_at "s")) (Qn ?_)
  rw[hrd]
  exact r_seq (fl:=.rt false (.bl true)) (r_ifT (QaR (r_e2 (r_var rfl) (n0 _) e)) rfl (r_ret r_C)) QoH
 | cons k0 ks=>
  left
  have e:=QK6 ((List.range n).filter fun i=>decide (0<K i))
  have hln:=QOD ((List.range n).filter fun i=>decide (0<K i))
  have hmem:∀ q,q∈(List.range n).filter (fun i=>decide (0<K i))->q<n/\0<K q:=fun q hq=>by
   rw[List.mem_filter,List.mem_range,decide_eq_true_eq]at hq
   exact hq
  have hpos:0<((List.range n).filter fun i=>decide (0<K i)).length:=by rw[hrd];simp
  have hem:((List.range n).filter fun i=>decide (0<K i)).isEmpty=false:=by rw[hrd];rfl
  rw[hem]at e
  clear hrd
  generalize (List.range n).filter (fun i=>decide (0<K i))=rd at *
  obtain⟨q,hq,q1⟩:∃ q:Nat,z % (rd.length:Int)=(q:Int)/\q<rd.length:=by
   have a:=Int.emod_nonneg z (b:=(rd.length:Int)) (by omega)
   have b:=Int.emod_lt_of_pos z (b:=(rd.length:Int)) (by omega)
   exact⟨(z % (rd.length:Int)).toNat,by omega,by omega⟩
  have hmod:dMod (.int z) (.int (rd.length:Int))=.ok (.int (q:Int)):=by rw[QX (by omega),hq]
  have hix:=nz_ix q1
  obtain⟨kn,kp⟩:=hmem rd[q] (List.getElem_mem q1)
  generalize rd[q]=k at *
  obtain⟨s0,s1⟩:=hSt k kn
  have hh:=QJs hs (S:=St) (K:=K) kn s0 s1 (by omega)
  have hst:=QNp hs (kd:=kd) (S:=St) (K:=K) kn s0 s1
  have w1:=Qmv (n:=n) (by omega) (up1 t St k)
  have w2:=Qmv (n:=n) (by omega) (fun i=>dn1 K k i+dkt (m k) (ld k) (rw' (t k) (St k)) (i:Int))
  have w3:=Qmv (n:=nd) (by omega) (fun i=>0+dkt (m k) (ld k) (rw' (t k) (St k)) (-1 - (i:Int)))
  have hri:=QMG w1 w2 w3
  have hne:=QOB n St K
  have l1:dList (rl n (fun i=>D.int (St i)))=.ok (rl n (fun i=>D.int (St i))):=rfl
  have l2:dList (rl n (fun i=>D.int (K i)))=.ok (rl n (fun i=>D.int (K i))):=rfl
  have hbd:∀ x:Int,0<=dkt (m k) (ld k) (rw' (t k) (St k)) x:=fun x=>(dk_bd (B:=9) (m k) fun j _=>rw_bd (hs.tb k kn) _ j).1
  have tn1:=(hs.tb k kn).n1
  refine⟨up1 t St k,fun i=>dn1 K k i+dkt (m k) (ld k) (rw' (t k) (St k)) (i:Int),some (.k,nz rd),some (.k,.int (k:Int)),some (.k,.tup [rl n (fun i=>.int (up1 t St k i)),rl n (fun i=>.int (dn1 K k i+dkt (m k) (ld k) (rw' (t k) (St k)) (i:Int))),rl nd (fun i=>.int (0+dkt (m k) (ld k) (rw' (t k) (St k)) (-1 - (i:Int))))]),some (.k,.tup [rl n (fun i=>.int (St i)),rl n (fun i=>.int (K i))]),some (.k,rl nd (fun i=>.int (0+dkt (m k) (ld k) (rw' (t k) (St k)) (-1 - (i:Int))))),fun i hi=>?_,fun i hi=>?_,?_⟩
  ·unfold up1
   by_cases e:i=k
   ·subst e
    rw[if_pos rfl]
    exact⟨Int.emod_nonneg _ (by omega),Int.emod_lt_of_pos _ (by omega)⟩
   ·rw[if_neg e];exact hSt i hi
  ·show 0<=dn1 K k i+dkt (m k) (ld k) (rw' (t k) (St k)) (i:Int)
   have:=hbd (i:Int)
   unfold dn1
   have:=hK i hi
   split<;>omega
  ·have x0:∀ A B:D,dIx (.tup [A,B]) (.int 0)=.ok A:=fun A B=>ixT 0 rfl
   have x1:∀ A B:D,dIx (.tup [A,B]) (.int 1)=.ok B:=fun A B=>ixT 1 rfl
   have hsh:Qf2 [(List.range n).map (fun i:Nat=>D.int (up1 t St k i)),(List.range n).map (fun i:Nat=>D.int (dn1 K k i+dkt (m k) (ld k) (rw' (t k) (St k)) (i:Int))),(List.range nd).map (fun i:Nat=>D.int (0+dkt (m k) (ld k) (rw' (t k) (St k)) (-1 - (i:Int))))]=true:=by
    unfold Qf2
    simp only[List.all_cons,List.all_nil,List.length_map,List.length_range,Bool.and_true,Bool.and_eq_true,decide_eq_true_eq]
    omega
   generalize rl n (planD kd t m ld st nm)=P at *
   generalize offD n nd nm dn c t m ld st=O at *
   generalize rl n (fun i=>D.int (St i))=Sd at *
   generalize rl n (fun i=>D.int (K i))=Kd at *
   unfold Qfx
   refine r_seq (r_set (hsc _ rfl) (by walk_at "s")) (Qn ?_)
   refine r_seq (r_ifF (QaR (r_e2 (r_var rfl) (n0 _) e)) rfl Qch) (Qn ?_)
   refine r_seq (r_set (r_e2 (r_var rfl) (r_e2 (r_var rfl) (r_eA (Qf (r_var rfl) r_nil) hln) hmod) hix) (by walk_at "s")) (Qn ?_)
   refine r_seq (r_set (Q9 (xs:=[P,.int (nd:Int),Sd,Kd,.int (k:Int)]) (Qf (r_var rfl) (Qf (r_var rfl) (Qf (r_var rfl) (Qf (r_var rfl) (Qf (r_var rfl) r_nil))))) rfl hst) (by walk_at "s")) (Qn ?_)
   refine r_seq (r_set (r_tup (Qf (r_e1 (r_var rfl) l1) (Qf (r_e1 (r_var rfl) l2) r_nil)) (show 2<=1000 by decide)) (by walk_at "s")) (Qn ?_)
   refine QM2 (xss:=[(List.range n).map (fun i:Nat=>D.int (up1 t St k i)),(List.range n).map (fun i:Nat=>D.int (dn1 K k i+dkt (m k) (ld k) (rw' (t k) (St k)) (i:Int))),(List.range nd).map (fun i:Nat=>D.int (0+dkt (m k) (ld k) (rw' (t k) (St k)) (-1 - (i:Int))))]) (Qf (r_var rfl) (Qf (r_e2 (r_var rfl) r_C (x0 _ _)) (Qf (r_e2 (r_var rfl) r_C (x1 _ _)) (Qf (r_var rfl) r_nil)))) hh hsh (by show 11<14;decide) (by show 12<14;decide) rfl ?_ rfl ?_
   ·exact QkQ (b:=true) (QaR (Q9 (xs:=[_,_]) (Qf (r_var rfl) (Qf (r_var rfl) r_nil)) rfl hri))
   ·refine r_seq (r_ifF (QaR (r_e2 (r_var rfl) (r_tup (Qf (r_var rfl) (Qf (r_var rfl) r_nil)) (show 2<=1000 by decide)) hne)) rfl Qch) (Qn ?_)
    exact r_unp (r_var rfl) (by walk_at "all")
end
theorem the_law(ns:List Int)(hl:ns.length<=63)(hb:∀ z∈ns,bitsI z<=1048576):QmP [.lst (ns.map .int)]=.ok (.bl true):=by
 obtain⟨n,nd,kd,t,m,ld,st,nm,n1,n12,d1,d6,pl,hpl⟩:=QMZ ns
 obtain⟨c,dn,hs,hof⟩:=QKI ns n1 n12 d1 d6 pl
 obtain⟨K0,hK0,hdk⟩:=QL1 ns n12
 obtain⟨v,hv⟩:=Qpb ns 0
 have hv:QM [.lst (ns.map .int),.int 0]=.ok (.int v):=hv
 obtain⟨x,x0,x1,hx⟩:=Qu8 v (k:=60) (QD9 rfl)
 obtain⟨y,y0,y1,hy⟩:=Qu8 v (k:=61) (QD9 rfl)
 have h9:dPow (.int 10) (.int 9)=.ok (.int 1000000000):=by rw[QHh (by decide)];rfl
 have hlp:=lenR n (planD kd t m ld st nm)
 have hst:∀ ς:SD,ς[1]?=some (some (.k,rl n (planD kd t m ld st nm)))->eComp [none] (itL (eVar 1)) (gN 0) cTrue Qxk ς=.ok (rl n (fun i=>.int (st i))):=fun ς h=>by
  refine Qas (planD kd t m ld st nm) (fun i=>D.int (st i)) (r_itL (r_var h)) (fun i hi=>?_) (by rw[List.length_range];omega)
  refine Qao (by walk_at "cap") (by walk_at "s") ?_
  unfold Qxk
  exact r_e2 (r_var rfl) r_C (ixT 3 rfl)
 have hbg:∀ ς:SD,ς[3]?=some (some (.k,offD n nd nm dn c t m ld st))->eMeth Qw "begin" (fun _=>Qbv) (eVar 3) aNil ς=.ok (rl n (fun k=>.int (st k))):=fun ς h=>by
  rw[QkU (xs:=[]) (r_var h) rfl (dk)]
  exact QMe hs
 have hwb:=Qmv (n:=n) (by omega) st
 have m4:dMod (.int x) (.int 4)=.ok (.int (x % 4)):=QX (by decide)
 have m9:dMod (.int y) (.int 1000000000)=.ok (.int (y % 1000000000)):=QX (by decide)
 have turn:=fun(z:Int) (St K:Nat->Int) h1 h2 a7 a8 a9 a10 a13=>QNy hs (kd:=kd) (S:=.lst (ns.map .int)) (z:=z) (St:=St) (K:=K) h1 h2 a7 a8 a9 a10 a13
 obtain⟨K,hK,hput⟩:∃ K:Nat->Int,(∀ i,i<n->0<=K i)/\sIf (tVal (e2 dEq (e2 dMod (eA (fun xs=>QaZ (xs++[])) (aCons (eA (fun xs=>QM (xs++[])) (aCons (eVar 0) (aCons (eC (.int 0)) aNil))) (aCons (eC (.int 60)) aNil))) (eC (.int 4))) (eC (.int 1)))) (sPutO 5 (eC (.int 0)) (e2 dMod (eA (fun xs=>QaZ (xs++[])) (aCons (eA (fun xs=>QM (xs++[])) (aCons (eVar 0) (aCons (eC (.int 0)) aNil))) (aCons (eC (.int 61)) aNil))) (e2 dPow (eC (.int 10)) (eC (.int 9))))) sNil [some (.k,.lst (ns.map .int)),some (.k,rl n (planD kd t m ld st nm)),some (.k,.int (nd:Int)),some (.k,offD n nd nm dn c t m ld st),some (.k,rl n (fun i=>.int (st i))),some (.o,rl n (fun i=>.int (K0 i))),none,none,none,none,none,none,none,none]=.ok (.nx [some (.k,.lst (ns.map .int)),some (.k,rl n (planD kd t m ld st nm)),some (.k,.int (nd:Int)),some (.k,offD n nd nm dn c t m ld st),some (.k,rl n (fun i=>.int (st i))),some (.o,rl n (fun i=>.int (K i))),none,none,none,none,none,none,none,none]):=by
  have hcell:∀ ς:SD,ς[0]?=some (some (.k,.lst (ns.map .int)))->eA (fun xs=>QM (xs++[])) (aCons (eVar 0) (aCons (eC (.int 0)) aNil)) ς=.ok (.int v):=fun ς h=>Q9 (xs:=[.lst (ns.map .int),.int 0]) (Qf (r_var h) (Qf r_C r_nil)) rfl hv
  by_cases h:x % 4=1
  ·have q0:=Int.emod_nonneg y (b:=1000000000) (by decide)
   generalize y % 1000000000=u at *
   refine⟨fun i=>if i=0 then u else K0 i,fun i hi=>?_,?_⟩
   ·show 0<=(if i=0 then u else K0 i)
    split
    ·exact q0
    ·exact hK0 i hi
   ·refine r_ifT (QaR (r_e2 (r_e2 (Q9 (xs:=[.int v,.int 60]) (Qf (hcell _ rfl) (Qf r_C r_nil)) rfl hx) r_C m4) r_C (Qar _ _))) (decide_eq_true h) ?_
    refine r_put (k:=((0:Nat):Int)) (j:=0) (d:=.int u) (xs:=(List.range n).map fun i=>D.int (K0 i)) (r_e2 (Q9 (xs:=[.int v,.int 61]) (Qf (hcell _ rfl) (Qf r_C r_nil)) rfl hy) (r_e2 r_C r_C h9) m9) rfl r_C (ixNR (by omega) _) ?_
    rw[Qs6 (by omega:0<n) K0 u]
    walk_at "s"
  ·exact⟨K0,hK0,r_ifF (QaR (r_e2 (r_e2 (Q9 (xs:=[.int v,.int 60]) (Qf (hcell _ rfl) (Qf r_C r_nil)) rfl hx) r_C m4) r_C (Qar _ _))) (decide_eq_false h) Qch⟩
 have hits:∀ ς:SD,ς[0]?=some (some (.k,.lst (ns.map .int)))->itL (eSl (eVar 0) (oSome (eC (.int 13))) (oSome (eC (.int 53)))) ς=.ok (((ns.drop 13).take 40).map D.int):=fun ς h=>by
  have hcut:cutD (ns.map D.int) (some 13) (some 53)=((ns.drop 13).take 40).map D.int:=by
   have:=QOH (ns.map D.int) 13 53
   rw[← List.map_drop, ← List.map_take]at this
   exact this
  exact r_itL (r_sl (p:=some 13) (q:=some 53) (r_var h) (Qxu r_C) (Qxu r_C) hcut)
 have hsK:(rl n (fun i=>D.int (K0 i))).scal=false:=rfl
 generalize rl n (planD kd t m ld st nm)=P at *
 generalize offD n nd nm dn c t m ld st=O at *
 generalize D.lst (ns.map D.int)=S at *
 have hl:=QHF (body:=fun x ς=>gN 6 x ς>>=fun ς'=>Qfx ς') (P:=fun ς=>∃(St K:Nat->Int)(a6 a7 a8 a9 a10 a13:Option (SM×D)),(∀ k,k<n->0<=St k/\St k<((t k).length:Int))/\(∀ k,k<n->0<=K k)/\ς=[some (.k,S),some (.k,P),some (.k,.int (nd:Int)),some (.k,O),some (.k,rl n (fun i=>.int (St i))),some (.k,rl n (fun i=>.int (K i))),a6,a7,a8,a9,a10,none,none,a13]) (xs:=((ns.drop 13).take 40).map D.int)
  (by
   rintro w hw ς ⟨St,K,a6,a7,a8,a9,a10,a13,h1,h2,rfl⟩
   obtain⟨z,_,rfl⟩:=List.mem_map.mp hw
   rcases turn z St K h1 h2 a7 a8 a9 a10 a13 with⟨St',K',b7,b8,b9,b10,b13,h3,h4,h5⟩ | h5
   ·exact .inl ⟨_,r_gN (by walk_at "s") h5,St',K',_,b7,b8,b9,b10,b13,h3,h4,rfl⟩
   ·exact .inr (r_gN (by walk_at "s") h5))
  [some (.k,S),some (.k,P),some (.k,.int (nd:Int)),some (.k,O),some (.k,rl n (fun i=>.int (st i))),some (.k,rl n (fun i=>.int (K i))),none,none,none,none,none,none,none,none] ⟨st,K,none,none,none,none,none,none,hs.str,hK,rfl⟩
 have hfor:∃ fl,(fun ς=>(sFor (gN 6) (itL (eSl (eVar 0) (oSome (eC (.int 13))) (oSome (eC (.int 53))))) Qfx) (frz 5 ς)) [some (.k,S),some (.k,P),some (.k,.int (nd:Int)),some (.k,O),some (.k,rl n (fun i=>.int (st i))),some (.o,rl n (fun i=>.int (K i))),none,none,none,none,none,none,none,none]=.ok fl/\thenF (sRet (eC (.bl true))) fl=.ok (.rt false (.bl true)):=by
  rcases hl with⟨ς',h1,_⟩ | h1
  ·exact⟨_,QsN (T:=sFor (gN 6) (itL (eSl (eVar 0) (oSome (eC (.int 13))) (oSome (eC (.int 53))))) Qfx) (QsS (i:=5) rfl rfl) (Qb7 (hits _ rfl) h1),Qn (r_ret r_C)⟩
  ·exact⟨_,QsN (T:=sFor (gN 6) (itL (eSl (eVar 0) (oSome (eC (.int 13))) (oSome (eC (.int 53))))) Qfx) (QsS (i:=5) rfl rfl) (Qb7 (hits _ rfl) h1),QoH⟩
 obtain⟨fl,hf1,hf2⟩:=hfor
 rw[QPo]
 unfold QA4
 refine Qbu (fl:=.rt false (.bl true)) ?_ r_rt
 refine r_seq (r_unp (ys:=[P,.int (nd:Int)]) (Q9 (xs:=[S,.int 12]) (Qf (r_var rfl) (Qf r_C r_nil)) rfl hpl) (by walk_at "all")) (Qn ?_)
 refine r_seq (r_set (Q9 (xs:=[S,P,.int (nd:Int)]) (Qf (r_var rfl) (Qf (r_var rfl) (Qf (r_var rfl) r_nil))) rfl hof) (by walk_at "s")) (Qn ?_)
 refine r_seq (r_set (hst _ rfl) (by walk_at "s")) (Qn ?_)
 refine r_seq (QdC (QsQ (Q9 (xs:=[S,.int (n:Int)]) (Qf (r_var rfl) (Qf (r_eA (Qf (r_var rfl) r_nil) hlp) r_nil)) rfl hdk) hsK) (by walk_at "s")) (Qn ?_)
 refine r_seq hput (Qn ?_)
 refine r_seq (r_ifF (QkQ (b:=true) (QaR (Q9 (xs:=[_,_]) (Qf (hbg _ rfl) (Qf (r_var rfl) r_nil)) rfl hwb))) rfl Qch) (Qn ?_)
 exact r_seq hf1 hf2
end My
namespace My
open PySem PySem.Spec L2 DL
theorem all_mk{l:W.OpenLaw}{w:World}{K:W.Frag}{h:Heap}{mg:Str->Option Value}{fa:Addr}(X:K.In h)(G:h.Ns mainGlobals mg)(hfa:mg "law"=some (.ref fa))
 {QJ:Addr} {Qv:Addr} {QI:Addr} {QH:Addr} {QE:Addr} {QaW:Addr} {Qaz:Addr} {QeG:Addr} {Q7:Addr} {Qgf:Addr} {Qf8:Addr} {QeI:Addr} {Qf0:Addr} {QdL:Addr} {QdE:Addr} {QdS:Addr} {Qbl:Addr} {QeH:Addr} {QdH:Addr} {Qpp:Addr} {QFW QFF:Option Addr} {QGN:Array (Option Value)} {QGm QEU QE1 QF0 Quc QGw:Value} {Qnr:Addr} {QCt QCX:Option Addr} {QDA:Array (Option Value)} {QD0 QEy QBY QBN Qrt QCN:Value} {Qlv:Addr} {QzC QzO:Option Addr} {QzL:Array (Option Value)} {QAk QAY Qzw QAW QqS QAO:Value} {QlG:Addr} {Qz5 QAK:Option Addr} {QzT:Array (Option Value)} {QzN Qz7 QAT QA2 QqN Qzy:Value} {QpA:Addr} {QEB QE9:Option Addr} {QET:Array (Option Value)} {QFh QFB QGI QFi Qt7 QE5:Value} {Qoh:Addr} {QCd QA9:Option Addr} {QCP:Array (Option Value)} {QCn QDw QD4 QCG QrA QB7:Value} {Qqq:Addr} {QGK QGp:Option Addr} {QFn:Array (Option Value)} {QFP QFD QED QGA Qt8 QHe:Value} {Qqr:Addr} {QFZ QFE:Option Addr} {QEH:Array (Option Value)} {QGx QGq QFN QG4 Qug QEV:Value} {QnD:Addr} {QDS QD1:Option Addr} {QDE:Array (Option Value)} {QCZ QEu QCE QBn QrU QDP:Value} {Qro:Addr} {QIH QHU:Option Addr} {QIh:Array (Option Value)} {QHR QIo QJJ QJi QwB QJe:Value} {Qk1:Addr} {QzV QAM:Option Addr} {Qz4:Array (Option Value)} {QAN QzA QAq QAe QqF QAz:Value} {QrE:Addr} {QI5 QIy:Option Addr} {QH6:Array (Option Value)} {QHW QIL QHQ QHZ QwX QI7:Value} {Qm4:Addr} {QCk QB6:Option Addr} {QBR:Array (Option Value)} {QB1 QEi QEq QBZ QsY QDC:Value} {QnF:Addr} {QDu QCL:Option Addr} {QDD:Array (Option Value)} {QCl QBH QBf QCz Qr6 QDQ:Value} {Qpr:Addr} {QFL QGk:Option Addr} {QG8:Array (Option Value)} {QGh QEX QHa QFx Qum QEE:Value} {Qm8:Addr} {QCT QDN:Option Addr} {QBD:Array (Option Value)} {QEs QB0 QBe QBh Qr4 QDi:Value} {Qp0:Addr} {QFH QFQ:Option Addr} {QFr:Array (Option Value)} {QFm QGV QF1 QGv Que QFU:Value} {QAr Qz6:Option Addr} {QAZ:Array (Option Value)} {QAl QAo QzB QAA QqI QzF:Value} {Qvo Qvs:Option Addr} {QvM:Array (Option Value)} {QvC QwR Qv2 QvV QmO Qv5:Value} {QrD:Addr} {QJm QJn:Option Addr} {QJo:Array (Option Value)} {QI6 QH5 QJH QJj QwL QHM:Value} {Qn9:Addr} {QDT QBJ:Option Addr} {QCy:Array (Option Value)} {QCB QEp QBS QBC QrZ QEa:Value} {QpS:Addr} {QFX QGG:Option Addr} {QF3:Array (Option Value)} {QFd QGY QFO QGg Qub QG0:Value} {Qjq:Addr} {QxV Qx2:Option Addr} {QyD:Array (Option Value)} {QxH Qys QyX Qxr Qo3 Qyo:Value} {QpY:Addr} {QFM QGT:Option Addr} {QGr:Array (Option Value)} {QGe QEZ QE3 QG6 Qt5 QEM:Value} {Qyp QxC:Option Addr} {QxO:Array (Option Value)} {Qym Qyr QyM Qyf Qpg Qyj:Value} {QrI:Addr} {QJk QJa:Option Addr} {QJF:Array (Option Value)} {QIg QJB QJz QIq QvJ QI2:Value} {Qim:Addr} {Qwx QwI:Option Addr} {Qvt:Array (Option Value)} {Qvv QvS QwZ QvE QmU Qwr:Value} {Qsc Qrk:Option Addr} {QsI:Array (Option Value)} {Qsa QrG Qsj QsD Qi9 QsM:Value} {Qu3:Addr} {QJ1 QKD:Option Addr} {QKk:Array (Option Value)} {QKR QKr QKd QLt Qy9 QJ5:Value} {Qqa:Addr} {QFa QEW:Option Addr} {QES:Array (Option Value)} {QFI QEP QGS QEY Quh QGO:Value} {QEx QBI:Option Addr} {QDk:Array (Option Value)} {QBU QDp QBP QEf Qsi QC9:Value} {Qk3:Addr} {QAU QAR:Option Addr} {QzX:Array (Option Value)} {QzJ QzP QAJ QAL QqY QA0:Value} {QDW QDz:Option Addr} {QCi:Array (Option Value)} {QC2 QBb QBG QCu Qs2 QDI:Value} {QxQ Qxl:Option Addr} {QyO:Array (Option Value)} {Qxf Qxj Qxt Qx7 Qo1 Qyv:Value} {QCI QCv:Option Addr} {QCM:Array (Option Value)} {QEr QEm QBV QBK Qse QEo:Value} {Qoq:Addr} {QEh QDt:Option Addr} {QCm:Array (Option Value)} {QCw QDK QD2 QBy Qrq QC0:Value} {Qld:Addr} {QzD QzE:Option Addr} {QAd:Array (Option Value)} {QAI QzK QzQ QAD QqX QAp:Value} {QnO:Addr} {QD7 QDx:Option Addr} {QCH:Array (Option Value)} {QA7 QBc QBM QDU QrQ QDo:Value} {Qnb:Addr} {QDa QCf:Option Addr} {QDs:Array (Option Value)} {QDr QC4 QA6 QEt Qsp QCW:Value} {Qlg:Addr} {QAG QAb:Option Addr} {QAy:Array (Option Value)} {QAu QAQ QAv QAP QqO Qz1:Value} {QqA:Addr} {QFv QFl:Option Addr} {QGC:Array (Option Value)} {QE7 QEI QG7 QFS Qui QGs:Value} {QvI Qvr:Option Addr} {Qwt:Array (Option Value)} {QwA Qwk Qwq Qwv QmF QvN:Value} {QjZ:Addr} {QyN Qyt:Option Addr} {QxD:Array (Option Value)} {QyG Qy1 Qxb QyI Qov QyJ:Value} {Qwa QwM:Option Addr} {QvW:Array (Option Value)} {QwO QvB Qvl Qwy QmI Qv9:Value} {QIf:Addr} {QOY QPa:Option Addr} {QPe:Array (Option Value)} {QOr QN7 QO6 QOG QLC QOW:Value} {Qvq QwD:Option Addr} {Qv3:Array (Option Value)} {Qwj Qvm Qwo Qvi Qmm Qvy:Value} {QBg QEe:Option Addr} {QBs:Array (Option Value)} {QB8 QBA QCr QCY Qsx QDV:Value} {QuS:Addr} {QLz QJ2:Option Addr} {QKZ:Array (Option Value)} {QLc QLl QLn QKL Qzj QK0:Value} {Qw8 Qyd:Option Addr} {Qx3:Array (Option Value)} {Qya Qw6 Qyi QxE QoZ Qxx:Value} {Qsu:Addr} {QJg QIn:Option Addr} {QHS:Array (Option Value)} {QIj QIP QHX QIM Qwe QIt:Value} {Qvj Qwh:Option Addr} {Qwm:Array (Option Value)} {Qvu QvD QwV QvA QmC Qwg:Value} {QmX:Addr} {QDm QCD:Option Addr} {QDb:Array (Option Value)} {QBv QCb QEd QBu Qss QBx:Value} {QJw:Addr} {QOs QKf:Option Addr} {QOk:Array (Option Value)} {QOz QLh QLy QLM QBE QK8:Value} {tk_MOST_SIGNS:Tok} {tk_LETTERS:Tok} {tk_MOST_CLERKS:Tok} {tk_MOST_ENTRIES:Tok} {tk_MOST_DOORS:Tok} {tk_MOST_OUTS:Tok} {tk_MOST_SENT:Tok} {tk_MOST_ROWS:Tok}
 (QwT:W.nsIn K mainGlobals "Deal"=some (some (.ref QJ)))
 (QyZ:W.plainGet K QJ Str.empty=true)
 (Qx0:W.hasDictIn K QJ=true)
 (QxS:W.plainOver K QJ=true)
 (QyH:W.findIn K (.ref QJ) "__setattr__"=some (some (.builtin "object.__setattr__")))
 (QjG:W.findIn K (.ref QJ) "table"=some none)
 (QeT:W.findIn K (.ref QJ) "clerk_names"=some none)
 (Qff:W.findIn K (.ref QJ) "door_names"=some none)
 (Qet:W.findIn K (.ref QJ) "entry_places"=some none)
 (Qjk:W.findIn K (.ref QJ) "staff"=some none)
 (Qeg:W.findIn K (.ref QJ) "first_states"=some none)
 (QlK:W.findIn K (.ref QJ) "ways"=some none)
 (Qju:W.findIn K (.ref QJ) "heads"=some none)
 (Qqs:W.nsIn K mainGlobals "Bundle"=some (some (.ref Qv)))
 (Qsh:W.plainGet K Qv Str.empty=true)
 (Qrw:W.hasDictIn K Qv=true)
 (Qs3:W.plainOver K Qv=true)
 (QsE:W.findIn K (.ref Qv) "__setattr__"=some (some (.builtin "object.__setattr__")))
 (Qhv:W.findIn K (.ref Qv) "table"=some none)
 (QdP:W.findIn K (.ref Qv) "clerk_names"=some none)
 (Qd4:W.findIn K (.ref Qv) "door_names"=some none)
 (Qdm:W.findIn K (.ref Qv) "entry_places"=some none)
 (Qhh:W.findIn K (.ref Qv) "staff"=some none)
 (Qdq:W.findIn K (.ref Qv) "first_states"=some none)
 (QhV:W.findIn K (.ref Qv) "ways"=some none)
 (Qhl:W.findIn K (.ref Qv) "heads"=some none)
 (Qwf:W.nsIn K mainGlobals "Copy"=some (some (.ref QI)))
 (QxU:W.plainGet K QI Str.empty=true)
 (Qxz:W.hasDictIn K QI=true)
 (QxF:W.plainOver K QI=true)
 (Qyz:W.findIn K (.ref QI) "__setattr__"=some (some (.builtin "object.__setattr__")))
 (Qjf:W.findIn K (.ref QI) "table"=some none)
 (QeY:W.findIn K (.ref QI) "clerk_names"=some none)
 (Qfh:W.findIn K (.ref QI) "door_names"=some none)
 (Qev:W.findIn K (.ref QI) "entry_places"=some none)
 (Qj1:W.findIn K (.ref QI) "staff"=some none)
 (Qep:W.findIn K (.ref QI) "first_states"=some none)
 (QkS:W.findIn K (.ref QI) "ways"=some none)
 (Qjg:W.findIn K (.ref QI) "heads"=some none)
 (QwH:W.nsIn K mainGlobals "Rows"=some (some (.ref QH)))
 (Qxw:W.plainGet K QH Str.empty=true)
 (Qxs:W.hasDictIn K QH=true)
 (QyP:W.plainOver K QH=true)
 (Qyw:W.findIn K (.ref QH) "__setattr__"=some (some (.builtin "object.__setattr__")))
 (QjD:W.findIn K (.ref QH) "table"=some none)
 (QeQ:W.findIn K (.ref QH) "clerk_names"=some none)
 (Qfj:W.findIn K (.ref QH) "door_names"=some none)
 (Qed:W.findIn K (.ref QH) "entry_places"=some none)
 (QjU:W.findIn K (.ref QH) "staff"=some none)
 (Qd7:W.findIn K (.ref QH) "first_states"=some none)
 (QlL:W.findIn K (.ref QH) "ways"=some none)
 (Qjz:W.findIn K (.ref QH) "heads"=some none)
 (Qqc:W.nsIn K mainGlobals "Office"=some (some (.ref QE)))
 (QrN:W.plainGet K QE Str.empty=true)
 (QrJ:W.hasDictIn K QE=true)
 (Qsz:W.plainOver K QE=true)
 (QrR:W.findIn K (.ref QE) "__setattr__"=some (some (.builtin "object.__setattr__")))
 (QgV:W.findIn K (.ref QE) "table"=some none)
 (QdT:W.findIn K (.ref QE) "clerk_names"=some none)
 (QeC:W.findIn K (.ref QE) "door_names"=some none)
 (Qdk:W.findIn K (.ref QE) "entry_places"=some none)
 (Qg7:W.findIn K (.ref QE) "staff"=some none)
 (Qdn:W.findIn K (.ref QE) "first_states"=some none)
 (QhY:W.findIn K (.ref QE) "ways"=some none)
 (Qg4:W.findIn K (.ref QE) "heads"=some none)
 (Qne:W.findIn K (.ref QJ) "outs"=some (some (.ref QaW)))
 (Qjs:W.findIn K (.ref Qv) "outs"=some (some (.ref QaW)))
 (Qnn:W.findIn K (.ref QI) "outs"=some (some (.ref QaW)))
 (Qoj:W.findIn K (.ref QH) "outs"=some (some (.ref QaW)))
 (QjK:W.findIn K (.ref QJ) "period"=some (some (.ref Qaz)))
 (Qhc:W.findIn K (.ref Qv) "period"=some (some (.ref Qaz)))
 (QjX:W.findIn K (.ref QI) "period"=some (some (.ref Qaz)))
 (Qjy:W.findIn K (.ref QH) "period"=some (some (.ref Qaz)))
 (Qic:W.findIn K (.ref QE) "doors"=some (some (.ref QdL)))
 (Qid:W.findIn K (.ref QE) "clerk"=some (some (.ref QdE)))
 (Qif:W.findIn K (.ref QE) "leads"=some (some (.ref QdS)))
 (Qqh:W.findIn K (.ref QJ) "row"=some (some (.ref Qbl)))
 (Qlp:W.findIn K (.ref Qv) "row"=some (some (.ref Qbl)))
 (Qpx:W.findIn K (.ref QI) "row"=some (some (.ref Qbl)))
 (QpF:W.findIn K (.ref QH) "row"=some (some (.ref Qbl)))
 (QjS:W.findIn K (.ref QE) "many"=some (some (.ref QeH)))
 (Qh5:W.findIn K (.ref QE) "begin"=some (some (.ref QdH)))
 (QgC:W.findIn K (.ref QJ) "keep_rows"=some (some (.ref Q7)))
 (Qfe:W.findIn K (.ref Qv) "keep_rows"=some (some (.ref Q7)))
 (QgI:W.findIn K (.ref QI) "keep_rows"=some (some (.ref Q7)))
 (QgH:W.findIn K (.ref QH) "keep_rows"=some (some (.ref Q7)))
 (QnX:W.findIn K (.ref QJ) "__init__"=some (some (.ref Qf8)))
 (QjT:W.findIn K (.ref Qv) "__init__"=some (some (.ref QeI)))
 (Qn2:W.findIn K (.ref QI) "__init__"=some (some (.ref Qf0)))
 (Qm2:W.findIn K (.ref QH) "__init__"=some (some (.ref Qgf)))
 (QjY:W.findIn K (.ref QE) "__init__"=some (some (.ref QeG)))
 (Qvh:W.makesIn K QJ=true)
 (Qu4:W.keepIn K (.ref QJ)=true)
 (Qqf:W.makesIn K Qv=true)
 (Qpt:W.keepIn K (.ref Qv)=true)
 (QuB:W.makesIn K QI=true)
 (QuA:W.keepIn K (.ref QI)=true)
 (QuZ:W.makesIn K QH=true)
 (Qu1:W.keepIn K (.ref QH)=true)
 (QpG:W.makesIn K QE=true)
 (Qpn:W.keepIn K (.ref QE)=true)
 (y1:W.specialIn K (.builtin "object.__class__") "__get__"=some (some (.builtin "getset_descriptor.__get__")))
 (y2:W.takesIn K (.builtin "object.__class__")=some true)
 (QxJ:W.findIn K (.ref QJ) "__class__"=some (some (.builtin "object.__class__")))
 (Qw9:W.mroIn K QJ (.type "object")=some true)
 (Qtb:W.findIn K (.ref Qv) "__class__"=some (some (.builtin "object.__class__")))
 (QsB:W.mroIn K Qv (.type "object")=some true)
 (QxA:W.findIn K (.ref QI) "__class__"=some (some (.builtin "object.__class__")))
 (QyS:W.mroIn K QI (.type "object")=some true)
 (Qx9:W.findIn K (.ref QH) "__class__"=some (some (.builtin "object.__class__")))
 (Qyh:W.mroIn K QH (.type "object")=some true)
 (QsF:W.findIn K (.ref QE) "__class__"=some (some (.builtin "object.__class__")))
 (QrK:W.mroIn K QE (.type "object")=some true)
 (Qps:W.nsIn K mainGlobals "_law_cell"=some (some (.ref Qpp)))
 (QpC:K.lookup Qpp=some ⟨QGm,QFW,.func (W.fnOf "_law_cell" "_law_cell" (Qr Qb9) (Qp Qb9) (Qa Qb9) .none QEU QE1 QF0 QFF Quc QGw),QGN⟩)
 (Qpz:W.codeIn K Quc "_law_cell"=true)
 (Qkh:W.keepIn K (.ref Qpp)=true)
 (QnI:W.nsIn K mainGlobals "_law_mixed"=some (some (.ref Qnr)))
 (Qon:K.lookup Qnr=some ⟨QD0,QCt,.func (W.fnOf "_law_mixed" "_law_mixed" (Qr QbH) (Qp QbH) (Qa QbH) .none QEy QBY QBN QCX Qrt QCN),QDA⟩)
 (Qoi:W.codeIn K Qrt "_law_mixed"=true)
 (Qiv:W.keepIn K (.ref Qnr)=true)
 (QlA:W.nsIn K mainGlobals "_law_digits"=some (some (.ref Qlv)))
 (Qlo:K.lookup Qlv=some ⟨QAk,QzC,.func (W.fnOf "_law_digits" "_law_digits" (Qr Qan) (Qp Qan) (Qa Qan) .none QAY Qzw QAW QzO QqS QAO),QzL⟩)
 (Qlr:W.codeIn K QqS "_law_digits"=true)
 (Qg2:W.keepIn K (.ref Qlv)=true)
 (QlJ:W.nsIn K mainGlobals "_law_counts"=some (some (.ref QlG)))
 (Qlc:K.lookup QlG=some ⟨QzN,Qz5,.func (W.fnOf "_law_counts" "_law_counts" (Qr QaD) (Qp QaD) (Qa QaD) .none Qz7 QAT QA2 QAK QqN Qzy),QzT⟩)
 (QlV:W.codeIn K QqN "_law_counts"=true)
 (Qhe:W.keepIn K (.ref QlG)=true)
 (Qqz:W.nsIn K mainGlobals "_law_rows"=some (some (.ref QpA)))
 (QpL:K.lookup QpA=some ⟨QFh,QEB,.func (W.fnOf "_law_rows" "_law_rows" (Qr QA) (Qp QA) (Qa QA) .none QFB QGI QFi QE9 Qt7 QE5),QET⟩)
 (Qqb:W.codeIn K Qt7 "_law_rows"=true)
 (Qkw:W.keepIn K (.ref QpA)=true)
 (Qnq:W.nsIn K mainGlobals "_law_named"=some (some (.ref Qoh)))
 (Qn3:K.lookup Qoh=some ⟨QCn,QCd,.func (W.fnOf "_law_named" "_law_named" (Qr QaE) (Qp QaE) (Qa QaE) .none QDw QD4 QCG QA9 QrA QB7),QCP⟩)
 (QnZ:W.codeIn K QrA "_law_named"=true)
 (QiN:W.keepIn K (.ref Qoh)=true)
 (Qp8:W.nsIn K mainGlobals "_law_seat"=some (some (.ref Qqq)))
 (QqB:K.lookup Qqq=some ⟨QFP,QGK,.func (W.fnOf "_law_seat" "_law_seat" (Qr QR) (Qp QR) (Qa QR) .none QFD QED QGA QGp Qt8 QHe),QFn⟩)
 (Qqo:W.codeIn K Qt8 "_law_seat"=true)
 (QkH:W.keepIn K (.ref Qqq)=true)
 (Qpu:W.nsIn K mainGlobals "_law_plan"=some (some (.ref Qqr)))
 (Qqk:K.lookup Qqr=some ⟨QGx,QFZ,.func (W.fnOf "_law_plan" "_law_plan" (Qr Q1) (Qp Q1) (Qa Q1) .none QGq QFN QG4 QFE Qug QEV),QEH⟩)
 (Qqy:W.codeIn K Qug "_law_plan"=true)
 (Qkr:W.keepIn K (.ref Qqr)=true)
 (QmY:W.nsIn K mainGlobals "places_of"=some (some (.ref QnD)))
 (Qom:K.lookup QnD=some ⟨QCZ,QDS,.func (W.fnOf "places_of" "places_of" (Qr Qaq) (Qp Qaq) (Qa Qaq) .none QEu QCE QBn QD1 QrU QDP),QDE⟩)
 (Qnl:W.codeIn K QrU "places_of"=true)
 (QiA:W.keepIn K (.ref QnD)=true)
 (QrO:W.nsIn K mainGlobals "is_list"=some (some (.ref Qro)))
 (Qtc:K.lookup Qro=some ⟨QHR,QIH,.func (W.fnOf "is_list" "is_list" (Qr QbX) (Qp QbX) (Qa QbX) .none QIo QJJ QJi QHU QwB QJe),QIh⟩)
 (Qsk:W.codeIn K QwB "is_list"=true)
 (Qmj:W.keepIn K (.ref Qro)=true)
 (Qln:W.nsIn K mainGlobals "all_unlike"=some (some (.ref Qk1)))
 (QlF:K.lookup Qk1=some ⟨QAN,QzV,.func (W.fnOf "all_unlike" "all_unlike" (Qr Qbk) (Qp Qbk) (Qa Qbk) .none QzA QAq QAe QAM QqF QAz),Qz4⟩)
 (QlS:W.codeIn K QqF "all_unlike"=true)
 (QhB:W.keepIn K (.ref Qk1)=true)
 (QrP:W.nsIn K mainGlobals "is_name"=some (some (.ref QrE)))
 (Qrn:K.lookup QrE=some ⟨QHW,QI5,.func (W.fnOf "is_name" "is_name" (Qr QaP) (Qp QaP) (Qa QaP) .none QIL QHQ QHZ QIy QwX QI7),QH6⟩)
 (Qs8:W.codeIn K QwX "is_name"=true)
 (Qmo:W.keepIn K (.ref QrE)=true)
 (Qop:W.nsIn K mainGlobals "are_names"=some (some (.ref Qm4)))
 (Qnu:K.lookup Qm4=some ⟨QB1,QCk,.func (W.fnOf "are_names" "are_names" (Qr Qap) (Qp Qap) (Qa Qap) .none QEi QEq QBZ QB6 QsY QDC),QBR⟩)
 (Qn7:W.codeIn K QsY "are_names"=true)
 (QiF:W.keepIn K (.ref Qm4)=true)
 (Qm7:W.nsIn K mainGlobals "are_texts"=some (some (.ref QnF)))
 (Qoc:K.lookup QnF=some ⟨QCl,QDu,.func (W.fnOf "are_texts" "are_texts" (Qr Qab) (Qp Qab) (Qa Qab) .none QBH QBf QCz QCL Qr6 QDQ),QDD⟩)
 (QnV:W.codeIn K Qr6 "are_texts"=true)
 (Qir:W.keepIn K (.ref QnF)=true)
 (Qqu:W.nsIn K mainGlobals "is_whole"=some (some (.ref Qpr)))
 (Qpl:K.lookup Qpr=some ⟨QGh,QFL,.func (W.fnOf "is_whole" "is_whole" (Qr QbP) (Qp QbP) (Qa QbP) .none QEX QHa QFx QGk Qum QEE),QG8⟩)
 (Qqg:W.codeIn K Qum "is_whole"=true)
 (QkD:W.keepIn K (.ref Qpr)=true)
 (Qm6:W.nsIn K mainGlobals "is_within"=some (some (.ref Qm8)))
 (QnE:K.lookup Qm8=some ⟨QEs,QCT,.func (W.fnOf "is_within" "is_within" (Qr Qbm) (Qp Qbm) (Qa Qbm) .none QB0 QBe QBh QDN Qr4 QDi),QBD⟩)
 (Qm5:W.codeIn K Qr4 "is_within"=true)
 (Qix:W.keepIn K (.ref Qm8)=true)
 (QpB:W.nsIn K mainGlobals "is_clerk"=some (some (.ref Qp0)))
 (Qpw:K.lookup Qp0=some ⟨QFm,QFH,.func (W.fnOf "is_clerk" "is_clerk" (Qr Qa7) (Qp Qa7) (Qa Qa7) .none QGV QF1 QGv QFQ Que QFU),QFr⟩)
 (QpE:W.codeIn K Que "is_clerk"=true)
 (Qki:W.keepIn K (.ref Qp0)=true)
 (QdN:W.isFn K (.ref QaW)=true)
 (Qll:K.lookup QaW=some ⟨QAl,QAr,.func (W.fnOf "outs" "Clerk.outs" (Qr QbQ) (Qp QbQ) (Qa QbQ) .none QAo QzB QAA Qz6 QqI QzF),QAZ⟩)
 (Qk8:W.codeIn K QqI "Clerk.outs"=true)
 (QcQ:W.keepIn K (.ref QaW)=true)
 (QcG:W.isFn K (.ref Qaz)=true)
 (Qh2:K.lookup Qaz=some ⟨QvC,Qvo,.func (W.fnOf "period" "Clerk.period" (Qr Qa9) (Qp Qa9) (Qa Qa9) .none QwR Qv2 QvV Qvs QmO Qv5),QvM⟩)
 (QhP:W.codeIn K QmO "Clerk.period"=true)
 (Qb6:W.keepIn K (.ref Qaz)=true)
 (Qsf:W.nsIn K mainGlobals "is_seat"=some (some (.ref QrD)))
 (QsH:K.lookup QrD=some ⟨QI6,QJm,.func (W.fnOf "is_seat" "is_seat" (Qr QaU) (Qp QaU) (Qa QaU) .none QH5 QJH QJj QJn QwL QHM),QJo⟩)
 (Qsy:W.codeIn K QwL "is_seat"=true)
 (Qmy:W.keepIn K (.ref QrD)=true)
 (QnG:W.nsIn K mainGlobals "are_seats"=some (some (.ref Qn9)))
 (Qn8:K.lookup Qn9=some ⟨QCB,QDT,.func (W.fnOf "are_seats" "are_seats" (Qr Q3) (Qp Q3) (Qa Q3) .none QEp QBS QBC QBJ QrZ QEa),QCy⟩)
 (QnW:W.codeIn K QrZ "are_seats"=true)
 (QiJ:W.keepIn K (.ref Qn9)=true)
 (Qpm:W.nsIn K mainGlobals "is_entry"=some (some (.ref QpS)))
 (Qpy:K.lookup QpS=some ⟨QFd,QFX,.func (W.fnOf "is_entry" "is_entry" (Qr Qa3) (Qp Qa3) (Qa Qa3) .none QGY QFO QGg QGG Qub QG0),QF3⟩)
 (QpI:W.codeIn K Qub "is_entry"=true)
 (Qke:W.keepIn K (.ref QpS)=true)
 (QjJ:W.nsIn K mainGlobals "are_entries"=some (some (.ref Qjq)))
 (QjM:K.lookup Qjq=some ⟨QxH,QxV,.func (W.fnOf "are_entries" "are_entries" (Qr QO) (Qp QO) (Qa QO) .none Qys QyX Qxr Qx2 Qo3 Qyo),QyD⟩)
 (Qje:W.codeIn K Qo3 "are_entries"=true)
 (Qgx:W.keepIn K (.ref Qjq)=true)
 (Qqv:W.nsIn K mainGlobals "leads_to"=some (some (.ref QpY)))
 (Qp2:K.lookup QpY=some ⟨QGe,QFM,.func (W.fnOf "leads_to" "leads_to" (Qr QbM) (Qp QbM) (Qa QbM) .none QEZ QE3 QG6 QGT Qt5 QEM),QGr⟩)
 (QpD:W.codeIn K Qt5 "leads_to"=true)
 (Qkp:W.keepIn K (.ref QpY)=true)
 (Qj0:W.isFn K (.ref QeG)=true)
 (Qjl:K.lookup QeG=some ⟨Qym,Qyp,.func (W.fnOf "__init__" "Office.__init__" (Qr Qo) (Qp Qo) (Qa Qo) .none Qyr QyM Qyf QxC Qpg Qyj),QxO⟩)
 (QjQ:W.codeIn K Qpg "Office.__init__"=true)
 (QjR:W.keepIn K (.ref QeG)=true)
 (Qs1:W.nsIn K mainGlobals "sums_of"=some (some (.ref QrI)))
 (Qrm:K.lookup QrI=some ⟨QIg,QJk,.func (W.fnOf "sums_of" "sums_of" (Qr QbB) (Qp QbB) (Qa QbB) .none QJB QJz QIq QJa QvJ QI2),QJF⟩)
 (QrS:W.codeIn K QvJ "sums_of"=true)
 (Qml:W.keepIn K (.ref QrI)=true)
 (Qio:W.nsIn K mainGlobals "running_sums"=some (some (.ref Qim)))
 (Qib:K.lookup Qim=some ⟨Qvv,Qwx,.func (W.fnOf "running_sums" "running_sums" (Qr Qae) (Qp Qae) (Qa Qae) .none QvS QwZ QvE QwI QmU Qwr),Qvt⟩)
 (QhT:W.codeIn K QmU "running_sums"=true)
 (QfI:W.keepIn K (.ref Qim)=true)
 (QbT:W.isFn K (.ref Q7)=true)
 (QfP:K.lookup Q7=some ⟨Qsa,Qsc,.func (W.fnOf "keep_rows" "Clerk.keep_rows" (Qr QS) (Qp QS) (Qa QS) .none QrG Qsj QsD Qrk Qi9 QsM),QsI⟩)
 (QfQ:W.codeIn K Qi9 "Clerk.keep_rows"=true)
 (Qbc:W.keepIn K (.ref Q7)=true)
 (Qvd:W.nsIn K mainGlobals "is_row"=some (some (.ref Qu3)))
 (QuG:K.lookup Qu3=some ⟨QKR,QJ1,.func (W.fnOf "is_row" "is_row" (Qr QaT) (Qp QaT) (Qa QaT) .none QKr QKd QLt QKD Qy9 QJ5),QKk⟩)
 (Qvf:W.codeIn K Qy9 "is_row"=true)
 (Qp6:W.keepIn K (.ref Qu3)=true)
 (QpR:W.nsIn K mainGlobals "is_table"=some (some (.ref Qqa)))
 (Qqx:K.lookup Qqa=some ⟨QFI,QFa,.func (W.fnOf "is_table" "is_table" (Qr QZ) (Qp QZ) (Qa QZ) .none QEP QGS QEY QEW Quh QGO),QES⟩)
 (QpW:W.codeIn K Quh "is_table"=true)
 (QkF:W.keepIn K (.ref Qqa)=true)
 (QmZ:W.isFn K (.ref Qgf)=true)
 (Qoe:K.lookup Qgf=some ⟨QBU,QEx,.func (W.fnOf "__init__" "Rows.__init__" (Qr QbG) (Qp QbG) (Qa QbG) .none QDp QBP QEf QBI Qsi QC9),QDk⟩)
 (QnA:W.codeIn K Qsi "Rows.__init__"=true)
 (QnK:W.keepIn K (.ref Qgf)=true)
 (Qk2:W.nsIn K mainGlobals "single_row"=some (some (.ref Qk3)))
 (QlI:K.lookup Qk3=some ⟨QzJ,QAU,.func (W.fnOf "single_row" "single_row" (Qr QaJ) (Qp QaJ) (Qa QaJ) .none QzP QAJ QAL QAR QqY QA0),QzX⟩)
 (Qlz:W.codeIn K QqY "single_row"=true)
 (Qg6:W.keepIn K (.ref Qk3)=true)
 (Qor:W.isFn K (.ref Qf8)=true)
 (Qng:K.lookup Qf8=some ⟨QC2,QDW,.func (W.fnOf "__init__" "Deal.__init__" (Qr Qaj) (Qp Qaj) (Qa Qaj) .none QBb QBG QCu QDz Qs2 QDI),QCi⟩)
 (Qny:W.codeIn K Qs2 "Deal.__init__"=true)
 (QnU:W.keepIn K (.ref Qf8)=true)
 (Qjw:W.isFn K (.ref QeI)=true)
 (Qjv:K.lookup QeI=some ⟨Qxf,QxQ,.func (W.fnOf "__init__" "Bundle.__init__" (Qr Q5) (Qp Q5) (Qa Q5) .none Qxj Qxt Qx7 Qxl Qo1 Qyv),QyO⟩)
 (QjO:W.codeIn K Qo1 "Bundle.__init__"=true)
 (Qj4:W.keepIn K (.ref QeI)=true)
 (Qod:W.isFn K (.ref Qf0)=true)
 (Qnk:K.lookup Qf0=some ⟨QEr,QCI,.func (W.fnOf "__init__" "Copy.__init__" (Qr QbI) (Qp QbI) (Qa QbI) .none QEm QBV QBK QCv Qse QEo),QCM⟩)
 (Qoa:W.codeIn K Qse "Copy.__init__"=true)
 (Qm1:W.keepIn K (.ref Qf0)=true)
 (Qnm:W.nsIn K mainGlobals "_law_clerk"=some (some (.ref Qoq)))
 (Qnd:K.lookup Qoq=some ⟨QCw,QEh,.func (W.fnOf "_law_clerk" "_law_clerk" (Qr Q4) (Qp Q4) (Qa Q4) .none QDK QD2 QBy QDt Qrq QC0),QCm⟩)
 (Qnz:W.codeIn K Qrq "_law_clerk"=true)
 (Qis:W.keepIn K (.ref Qoq)=true)
 (QlN:W.nsIn K mainGlobals "_law_office"=some (some (.ref Qld)))
 (Qlw:K.lookup Qld=some ⟨QAI,QzD,.func (W.fnOf "_law_office" "_law_office" (Qr Qt) (Qp Qt) (Qa Qt) .none QzK QzQ QAD QzE QqX QAp),QAd⟩)
 (QlO:W.codeIn K QqX "_law_office"=true)
 (QhI:W.keepIn K (.ref Qld)=true)
 (Qni:W.nsIn K mainGlobals "_law_desks"=some (some (.ref QnO)))
 (Qn4:K.lookup QnO=some ⟨QA7,QD7,.func (W.fnOf "_law_desks" "_law_desks" (Qr Qad) (Qp Qad) (Qa Qad) .none QBc QBM QDU QDx QrQ QDo),QCH⟩)
 (Qn5:W.codeIn K QrQ "_law_desks"=true)
 (Qiw:W.keepIn K (.ref QnO)=true)
 (QnR:W.nsIn K mainGlobals "_law_whole"=some (some (.ref Qnb)))
 (QmW:K.lookup Qnb=some ⟨QDr,QDa,.func (W.fnOf "_law_whole" "_law_whole" (Qr Qbi) (Qp Qbi) (Qa Qbi) .none QC4 QA6 QEt QCf Qsp QCW),QDs⟩)
 (Qn1:W.codeIn K Qsp "_law_whole"=true)
 (QiB:W.keepIn K (.ref Qnb)=true)
 (QlD:W.nsIn K mainGlobals "_law_wholes"=some (some (.ref Qlg)))
 (Qle:K.lookup Qlg=some ⟨QAu,QAG,.func (W.fnOf "_law_wholes" "_law_wholes" (Qr Qaf) (Qp Qaf) (Qa Qaf) .none QAQ QAv QAP QAb QqO Qz1),QAy⟩)
 (QlW:W.codeIn K QqO "_law_wholes"=true)
 (Qg5:W.keepIn K (.ref Qlg)=true)
 (Qql:W.nsIn K mainGlobals "_law_step"=some (some (.ref QqA)))
 (QpQ:K.lookup QqA=some ⟨QE7,QFv,.func (W.fnOf "_law_step" "_law_step" (Qr QV) (Qp QV) (Qa QV) .none QEI QG7 QFS QFl Qui QGs),QGC⟩)
 (QpU:W.codeIn K Qui "_law_step"=true)
 (QkC:W.keepIn K (.ref QqA)=true)
 (Qin:W.isFn K (.ref QdL)=true)
 (Qil:K.lookup QdL=some ⟨QwA,QvI,.func (W.fnOf "doors" "Office.doors" (Qr Qa8) (Qp Qa8) (Qa Qa8) .none Qwk Qwq Qwv Qvr QmF QvN),Qwt⟩)
 (QhR:W.codeIn K QmF "Office.doors"=true)
 (QfF:W.keepIn K (.ref QdL)=true)
 (Qjt:W.nsIn K mainGlobals "nothing_out"=some (some (.ref QjZ)))
 (QjE:K.lookup QjZ=some ⟨QyG,QyN,.func (W.fnOf "nothing_out" "nothing_out" (Qr QaX) (Qp QaX) (Qa QaX) .none Qy1 Qxb QyI Qyt Qov QyJ),QxD⟩)
 (QjN:W.codeIn K Qov "nothing_out"=true)
 (Qgt:W.keepIn K (.ref QjZ)=true)
 (Qh9:W.isFn K (.ref QdE)=true)
 (QhQ:K.lookup QdE=some ⟨QwO,Qwa,.func (W.fnOf "clerk" "Office.clerk" (Qr Qa0) (Qp Qa0) (Qa Qa0) .none QvB Qvl Qwy QwM QmI Qv9),QvW⟩)
 (Qie:W.codeIn K QmI "Office.clerk"=true)
 (QfG:W.keepIn K (.ref QdE)=true)
 (QH8:W.nsIn K mainGlobals "lay"=some (some (.ref QIf)))
 (QIA:K.lookup QIf=some ⟨QOr,QOY,.func (W.fnOf "lay" "lay" (Qr Qfa) (Qp Qfa) (Qa Qfa) .none QN7 QO6 QOG QPa QLC QOW),QPe⟩)
 (QIX:W.codeIn K QLC "lay"=true)
 (QA3:W.keepIn K (.ref QIf)=true)
 (Qig:W.isFn K (.ref QdS)=true)
 (Qip:K.lookup QdS=some ⟨Qwj,Qvq,.func (W.fnOf "leads" "Office.leads" (Qr QaK) (Qp QaK) (Qa QaK) .none Qvm Qwo Qvi QwD Qmm Qvy),Qv3⟩)
 (Qii:W.codeIn K Qmm "Office.leads"=true)
 (QfA:W.keepIn K (.ref QdS)=true)
 (QeN:W.isFn K (.ref Qbl)=true)
 (Qn0:K.lookup Qbl=some ⟨QB8,QBg,.func (W.fnOf "row" "Clerk.row" (Qr QbJ) (Qp QbJ) (Qa QbJ) .none QBA QCr QCY QEe Qsx QDV),QBs⟩)
 (Qob:W.codeIn K Qsx "Clerk.row"=true)
 (Qdu:W.keepIn K (.ref Qbl)=true)
 (QuR:W.nsIn K mainGlobals "handle"=some (some (.ref QuS)))
 (QuU:K.lookup QuS=some ⟨QLc,QLz,.func (W.fnOf "handle" "handle" (Qr QbO) (Qp QbO) (Qa QbO) .none QLl QLn QKL QJ2 Qzj QK0),QKZ⟩)
 (QuO:W.codeIn K Qzj "handle"=true)
 (Qp1:W.keepIn K (.ref QuS)=true)
 (Qjb:W.isFn K (.ref QeH)=true)
 (QjH:K.lookup QeH=some ⟨Qya,Qw8,.func (W.fnOf "many" "Office.many" (Qr Qbp) (Qp Qbp) (Qa Qbp) .none Qw6 Qyi QxE Qyd QoZ Qxx),Qx3⟩)
 (QjL:W.codeIn K QoZ "Office.many"=true)
 (Qgl:W.keepIn K (.ref QeH)=true)
 (Qrl:W.nsIn K mainGlobals "handled"=some (some (.ref Qsu)))
 (Qry:K.lookup Qsu=some ⟨QIj,QJg,.func (W.fnOf "handled" "handled" (Qr Qau) (Qp Qau) (Qa Qau) .none QIP QHX QIM QIn Qwe QIt),QHS⟩)
 (QsC:W.codeIn K Qwe "handled"=true)
 (Qmr:W.keepIn K (.ref Qsu)=true)
 (Qh4:W.isFn K (.ref QdH)=true)
 (Qh1:K.lookup QdH=some ⟨Qvu,Qvj,.func (W.fnOf "begin" "Office.begin" (Qr Qa4) (Qp Qa4) (Qa Qa4) .none QvD QwV QvA Qwh QmC Qwg),Qwm⟩)
 (Qiq:W.codeIn K QmC "Office.begin"=true)
 (Qfs:W.keepIn K (.ref QdH)=true)
 (QnB:W.nsIn K mainGlobals "_law_right"=some (some (.ref QmX)))
 (Qnj:K.lookup QmX=some ⟨QBv,QDm,.func (W.fnOf "_law_right" "_law_right" (Qr QaL) (Qp QaL) (Qa QaL) .none QCb QEd QBu QCD Qss QBx),QDb⟩)
 (Qnw:W.codeIn K Qss "_law_right"=true)
 (Qiu:W.keepIn K (.ref QmX)=true)
 (QJb:W.nsIn K mainGlobals "law"=some (some (.ref QJw)))
 (QHP:K.lookup QJw=some ⟨QOz,QOs,.func (W.fnOf "law" "law" (Qr QY) (Qp QY) (Qa QY) .none QLh QLy QLM QKf QBE QK8),QOk⟩)
 (QJC:W.codeIn K QBE "law"=true)
 (QI1:W.keepIn K (.ref QJw)=true)
 (z_len:W.nsIn K mainGlobals "len"=some none)
 (z_range:W.nsIn K mainGlobals "range"=some none)
 (z_int:W.nsIn K mainGlobals "int"=some none)
 (z_enumerate:W.nsIn K mainGlobals "enumerate"=some none)
 (z_isinstance:W.nsIn K mainGlobals "isinstance"=some none)
 (z_list:W.nsIn K mainGlobals "list"=some none)
 (z_set:W.nsIn K mainGlobals "set"=some none)
 (z_str:W.nsIn K mainGlobals "str"=some none)
 (z_all:W.nsIn K mainGlobals "all"=some none)
 (z_bool:W.nsIn K mainGlobals "bool"=some none)
 (z_tuple:W.nsIn K mainGlobals "tuple"=some none)
 (z_any:W.nsIn K mainGlobals "any"=some none)
 (z_zip:W.nsIn K mainGlobals "zip"=some none)
 (c_MOST_SIGNS:W.nsIn K mainGlobals "MOST_SIGNS"=some (some (.int 6 tk_MOST_SIGNS)))
 (c_LETTERS:W.nsIn K mainGlobals "LETTERS"=some (some (.str "abcdefghijklmnopqrstuvwxyz" tk_LETTERS)))
 (c_MOST_CLERKS:W.nsIn K mainGlobals "MOST_CLERKS"=some (some (.int 60 tk_MOST_CLERKS)))
 (c_MOST_ENTRIES:W.nsIn K mainGlobals "MOST_ENTRIES"=some (some (.int 6 tk_MOST_ENTRIES)))
 (c_MOST_DOORS:W.nsIn K mainGlobals "MOST_DOORS"=some (some (.int 6 tk_MOST_DOORS)))
 (c_MOST_OUTS:W.nsIn K mainGlobals "MOST_OUTS"=some (some (.int 6 tk_MOST_OUTS)))
 (c_MOST_SENT:W.nsIn K mainGlobals "MOST_SENT"=some (some (.int 9 tk_MOST_SENT)))
 (c_MOST_ROWS:W.nsIn K mainGlobals "MOST_ROWS"=some (some (.int 12 tk_MOST_ROWS)))
 (Qjh:W.kitOne K (.ref QE) (.ref QJ)=some false)
 (Qnh:W.kitOne K (.ref QH) (.ref QJ)=some false)
 (QnQ:W.kitOne K (.ref QI) (.ref QJ)=some false)
 (QjA:W.kitOne K (.ref Qv) (.ref QJ)=some false)
 (Qnt:W.kitOne K (.ref QJ) (.ref QJ)=some true)
 (Qhq:W.kitOne K (.ref QE) (.ref Qv)=some false)
 (QjV:W.kitOne K (.ref QH) (.ref Qv)=some false)
 (Qj2:W.kitOne K (.ref QI) (.ref Qv)=some false)
 (Qhy:W.kitOne K (.ref Qv) (.ref Qv)=some true)
 (Qjp:W.kitOne K (.ref QJ) (.ref Qv)=some false)
 (QjF:W.kitOne K (.ref QE) (.ref QI)=some false)
 (Qm3:W.kitOne K (.ref QH) (.ref QI)=some false)
 (QnS:W.kitOne K (.ref QI) (.ref QI)=some true)
 (QjB:W.kitOne K (.ref Qv) (.ref QI)=some false)
 (Qnc:W.kitOne K (.ref QJ) (.ref QI)=some false)
 (Qj3:W.kitOne K (.ref QE) (.ref QH)=some false)
 (Qnp:W.kitOne K (.ref QH) (.ref QH)=some true)
 (Qok:W.kitOne K (.ref QI) (.ref QH)=some false)
 (Qjd:W.kitOne K (.ref Qv) (.ref QH)=some false)
 (QnH:W.kitOne K (.ref QJ) (.ref QH)=some false):
 ∃ fd:FuncData,(∀(s:Shared)(v:Value),BindsTo s fd ⟨[v],[]⟩ [("_law_script",v)])/\∀ base:Heap,K.In base->base.Ns mainGlobals mg->FnOk l.prog w K mg base CX0 9 fa fd ["_law_script"] (SpD K (ctOf K) false QmP):=by
 have ee:=hfa.symm.trans (W.mg_of X G QJb)
 cases ee
 have QHA:=W.mg_of X G QwT
 have QbA:=ct_of QwT
 have QcE:Cls K QJ:=⟨QyZ,Qx0,QxS,QyH⟩
 have Qzp:=W.mg_of X G Qqs
 have QaG:=ct_of Qqs
 have QbD:Cls K Qv:=⟨Qsh,Qrw,Qs3,QsE⟩
 have QHJ:=W.mg_of X G Qwf
 have Qbs:=ct_of Qwf
 have QcH:Cls K QI:=⟨QxU,Qxz,QxF,Qyz⟩
 have QHn:=W.mg_of X G QwH
 have Qbr:=ct_of QwH
 have QcI:Cls K QH:=⟨Qxw,Qxs,QyP,Qyw⟩
 have QKU:=W.mg_of X G Qqc
 have Qav:=ct_of Qqc
 have Qbg:Cls K QE:=⟨QrN,QrJ,Qsz,QrR⟩
 have fo_table:FldOk K (ctOf K) Ql "table":=by
  intro c hc A hA
  have hm:c∈Ql:=by simpa using hc
  simp only[Ql,List.mem_cons,List.not_mem_nil,or_false]at hm
  rcases hm with rfl | rfl | rfl | rfl | rfl
  ·rw[QbA]at hA;cases hA;exact⟨QcE,QjG⟩
  ·rw[QaG]at hA;cases hA;exact⟨QbD,Qhv⟩
  ·rw[Qbs]at hA;cases hA;exact⟨QcH,Qjf⟩
  ·rw[Qbr]at hA;cases hA;exact⟨QcI,QjD⟩
  ·rw[Qav]at hA;cases hA;exact⟨Qbg,QgV⟩
 have fo_clerk_names:FldOk K (ctOf K) Ql "clerk_names":=by
  intro c hc A hA
  have hm:c∈Ql:=by simpa using hc
  simp only[Ql,List.mem_cons,List.not_mem_nil,or_false]at hm
  rcases hm with rfl | rfl | rfl | rfl | rfl
  ·rw[QbA]at hA;cases hA;exact⟨QcE,QeT⟩
  ·rw[QaG]at hA;cases hA;exact⟨QbD,QdP⟩
  ·rw[Qbs]at hA;cases hA;exact⟨QcH,QeY⟩
  ·rw[Qbr]at hA;cases hA;exact⟨QcI,QeQ⟩
  ·rw[Qav]at hA;cases hA;exact⟨Qbg,QdT⟩
 have fo_door_names:FldOk K (ctOf K) Ql "door_names":=by
  intro c hc A hA
  have hm:c∈Ql:=by simpa using hc
  simp only[Ql,List.mem_cons,List.not_mem_nil,or_false]at hm
  rcases hm with rfl | rfl | rfl | rfl | rfl
  ·rw[QbA]at hA;cases hA;exact⟨QcE,Qff⟩
  ·rw[QaG]at hA;cases hA;exact⟨QbD,Qd4⟩
  ·rw[Qbs]at hA;cases hA;exact⟨QcH,Qfh⟩
  ·rw[Qbr]at hA;cases hA;exact⟨QcI,Qfj⟩
  ·rw[Qav]at hA;cases hA;exact⟨Qbg,QeC⟩
 have fo_entry_places:FldOk K (ctOf K) Ql "entry_places":=by
  intro c hc A hA
  have hm:c∈Ql:=by simpa using hc
  simp only[Ql,List.mem_cons,List.not_mem_nil,or_false]at hm
  rcases hm with rfl | rfl | rfl | rfl | rfl
  ·rw[QbA]at hA;cases hA;exact⟨QcE,Qet⟩
  ·rw[QaG]at hA;cases hA;exact⟨QbD,Qdm⟩
  ·rw[Qbs]at hA;cases hA;exact⟨QcH,Qev⟩
  ·rw[Qbr]at hA;cases hA;exact⟨QcI,Qed⟩
  ·rw[Qav]at hA;cases hA;exact⟨Qbg,Qdk⟩
 have fo_staff:FldOk K (ctOf K) Ql "staff":=by
  intro c hc A hA
  have hm:c∈Ql:=by simpa using hc
  simp only[Ql,List.mem_cons,List.not_mem_nil,or_false]at hm
  rcases hm with rfl | rfl | rfl | rfl | rfl
  ·rw[QbA]at hA;cases hA;exact⟨QcE,Qjk⟩
  ·rw[QaG]at hA;cases hA;exact⟨QbD,Qhh⟩
  ·rw[Qbs]at hA;cases hA;exact⟨QcH,Qj1⟩
  ·rw[Qbr]at hA;cases hA;exact⟨QcI,QjU⟩
  ·rw[Qav]at hA;cases hA;exact⟨Qbg,Qg7⟩
 have fo_first_states:FldOk K (ctOf K) Ql "first_states":=by
  intro c hc A hA
  have hm:c∈Ql:=by simpa using hc
  simp only[Ql,List.mem_cons,List.not_mem_nil,or_false]at hm
  rcases hm with rfl | rfl | rfl | rfl | rfl
  ·rw[QbA]at hA;cases hA;exact⟨QcE,Qeg⟩
  ·rw[QaG]at hA;cases hA;exact⟨QbD,Qdq⟩
  ·rw[Qbs]at hA;cases hA;exact⟨QcH,Qep⟩
  ·rw[Qbr]at hA;cases hA;exact⟨QcI,Qd7⟩
  ·rw[Qav]at hA;cases hA;exact⟨Qbg,Qdn⟩
 have fo_ways:FldOk K (ctOf K) Ql "ways":=by
  intro c hc A hA
  have hm:c∈Ql:=by simpa using hc
  simp only[Ql,List.mem_cons,List.not_mem_nil,or_false]at hm
  rcases hm with rfl | rfl | rfl | rfl | rfl
  ·rw[QbA]at hA;cases hA;exact⟨QcE,QlK⟩
  ·rw[QaG]at hA;cases hA;exact⟨QbD,QhV⟩
  ·rw[Qbs]at hA;cases hA;exact⟨QcH,QkS⟩
  ·rw[Qbr]at hA;cases hA;exact⟨QcI,QlL⟩
  ·rw[Qav]at hA;cases hA;exact⟨Qbg,QhY⟩
 have fo_heads:FldOk K (ctOf K) Ql "heads":=by
  intro c hc A hA
  have hm:c∈Ql:=by simpa using hc
  simp only[Ql,List.mem_cons,List.not_mem_nil,or_false]at hm
  rcases hm with rfl | rfl | rfl | rfl | rfl
  ·rw[QbA]at hA;cases hA;exact⟨QcE,Qju⟩
  ·rw[QaG]at hA;cases hA;exact⟨QbD,Qhl⟩
  ·rw[Qbs]at hA;cases hA;exact⟨QcH,Qjg⟩
  ·rw[Qbr]at hA;cases hA;exact⟨QcI,Qjz⟩
  ·rw[Qav]at hA;cases hA;exact⟨Qbg,Qg4⟩
 have Qtq:ClsD K QJ:=⟨QcE,QxJ,y1,y2,Qw9⟩
 have QmS:ClsD K Qv:=⟨QbD,Qtb,y1,y2,QsB⟩
 have Qtl:ClsD K QI:=⟨QcH,QxA,y1,y2,QyS⟩
 have Qtm:ClsD K QH:=⟨QcI,Qx9,y1,y2,Qyh⟩
 have Qmw:ClsD K QE:=⟨Qbg,QsF,y1,y2,QrK⟩
 have Qw1:=Qu (st:=Qb9) QpC Qpz Qkh
 have QIv:=Qw1.binds (ps:=["_law_script","_law_k"]) fun _ _ _ _ _ _ us hl=>match us,hl with | [_,_],_=>rfl
 have Quj:=Qu (st:=QbH) Qon Qoi Qiv
 have QFb:=Quj.binds (ps:=["_law_cell_here","_law_k"]) fun _ _ _ _ _ _ us hl=>match us,hl with | [_,_],_=>rfl
 have QsR:=Qu (st:=Qan) Qlo Qlr Qg2
 have QB2:=QsR.binds (ps:=["_law_cell_here","_law_many"]) fun _ _ _ _ _ _ us hl=>match us,hl with | [_,_],_=>rfl
 have Qr3:=Qu (st:=QaD) Qlc QlV Qhe
 have QDF:=Qr3.binds (ps:=["_law_digit","_law_many","_law_tame"]) fun _ _ _ _ _ _ us hl=>match us,hl with | [_,_,_],_=>rfl
 have QwF:=Qu (st:=QA) QpL Qqb Qkw
 have QJp:=QwF.binds (ps:=["_law_digits_here","_law_tame"]) fun _ _ _ _ _ _ us hl=>match us,hl with | [_,_],_=>rfl
 have QtT:=Qu (st:=QaE) Qn3 QnZ QiN
 have QHc:=QtT.binds (ps:=["_law_first","_law_digit","_law_longer"]) fun _ _ _ _ _ _ us hl=>match us,hl with | [_,_,_],_=>rfl
 have Qwb:=Qu (st:=QR) QqB Qqo QkH
 have QIY:=Qwb.binds (ps:=["_law_cell_here","_law_k","_law_many","_law_doors","_law_ring"]) fun _ _ _ _ _ _ us hl=>match us,hl with | [_,_,_,_,_],_=>rfl
 have QwN:=Qu (st:=Q1) Qqk Qqy Qkr
 have QIz:=QwN.binds (ps:=["_law_script","_law_most"]) fun _ _ _ _ _ _ us hl=>match us,hl with | [_,_],_=>rfl
 have Qul:=Qu (st:=Qaq) Qom Qnl QiA
 have QFz:=Qul.binds (ps:=["names","doors"]) fun _ _ _ _ _ _ us hl=>match us,hl with | [_,_],_=>rfl
 have Qza:=Qu (st:=QbX) Qtc Qsk Qmj
 have QKy:=Qza.binds (ps:=["thing","most"]) fun _ _ _ _ _ _ us hl=>match us,hl with | [_,_],_=>rfl
 have QsV:=Qu (st:=Qbk) QlF QlS QhB
 have QCx:=QsV.binds (ps:=["names"]) fun _ _ _ _ _ _ us hl=>match us,hl with | [_],_=>rfl
 have Qzk:=Qu (st:=QaP) Qrn Qs8 Qmo
 have QKH:=Qzk.binds (ps:=["thing"]) fun _ _ _ _ _ _ us hl=>match us,hl with | [_],_=>rfl
 have QtW:=Qu (st:=Qap) Qnu Qn7 QiF
 have QFK:=QtW.binds (ps:=["thing","most"]) fun _ _ _ _ _ _ us hl=>match us,hl with | [_,_],_=>rfl
 have QtU:=Qu (st:=Qab) Qoc QnV Qir
 have QGP:=QtU.binds (ps:=["thing","many"]) fun _ _ _ _ _ _ us hl=>match us,hl with | [_,_],_=>rfl
 have Qvz:=Qu (st:=QbP) Qpl Qqg QkD
 have QI0:=Qvz.binds (ps:=["thing"]) fun _ _ _ _ _ _ us hl=>match us,hl with | [_],_=>rfl
 have QtY:=Qu (st:=Qbm) QnE Qm5 Qix
 have QGJ:=QtY.binds (ps:=["thing","least","most"]) fun _ _ _ _ _ _ us hl=>match us,hl with | [_,_,_],_=>rfl
 have QvR:=Qu (st:=Qa7) Qpw QpE Qki
 have QJc:=QvR.binds (ps:=["thing"]) fun _ _ _ _ _ _ us hl=>match us,hl with | [_],_=>rfl
 have Qs7:=Qu (st:=QbQ) Qll Qk8 QcQ
 have Qhp:=Qs7.binds (ps:=["self"]) fun _ _ _ _ _ _ us hl=>match us,hl with | [_],_=>rfl
 have Qo9:=Qu (st:=Qa9) Qh2 QhP Qb6
 have Qfq:=Qo9.binds (ps:=["self"]) fun _ _ _ _ _ _ us hl=>match us,hl with | [_],_=>rfl
 have Qy7:=Qu (st:=QaU) QsH Qsy Qmy
 have QJ0:=Qy7.binds (ps:=["thing"]) fun _ _ _ _ _ _ us hl=>match us,hl with | [_],_=>rfl
 have Qt9:=Qu (st:=Q3) Qn8 QnW QiJ
 have QFj:=Qt9.binds (ps:=["thing","doors"]) fun _ _ _ _ _ _ us hl=>match us,hl with | [_,_],_=>rfl
 have Qvk:=Qu (st:=Qa3) Qpy QpI Qke
 have QIQ:=Qvk.binds (ps:=["thing","names"]) fun _ _ _ _ _ _ us hl=>match us,hl with | [_,_],_=>rfl
 have QqJ:=Qu (st:=QO) QjM Qje Qgx
 have QAc:=QqJ.binds (ps:=["thing","names"]) fun _ _ _ _ _ _ us hl=>match us,hl with | [_,_],_=>rfl
 have Qwz:=Qu (st:=QbM) Qp2 QpD Qkp
 have QJh:=Qwz.binds (ps:=["seat","places"]) fun _ _ _ _ _ _ us hl=>match us,hl with | [_,_],_=>rfl
 have QqT:=Qu (st:=Qo) Qjl QjQ QjR
 have QzG:=QqT.binds (ps:=["self","clerks","entries","doors"]) fun _ _ _ _ _ _ us hl=>match us,hl with | [_,_,_,_],_=>rfl
 have Qzu:=Qu (st:=QbB) Qrm QrS Qml
 have QLJ:=Qzu.binds (ps:=["one","other"]) fun _ _ _ _ _ _ us hl=>match us,hl with | [_,_],_=>rfl
 have Qo7:=Qu (st:=Qae) Qib QhT QfI
 have QyE:=Qo7.binds (ps:=["rows"]) fun _ _ _ _ _ _ us hl=>match us,hl with | [_],_=>rfl
 have Qkb:=Qu (st:=QS) QfP QfQ Qbc
 have QdA:=Qkb.binds (ps:=["self","rows"]) fun _ _ _ _ _ _ us hl=>match us,hl with | [_,_],_=>rfl
 have QEw:=Qu (st:=QaT) QuG Qvf Qp6
 have QL2:=QEw.binds (ps:=["thing"]) fun _ _ _ _ _ _ us hl=>match us,hl with | [_],_=>rfl
 have Qw4:=Qu (st:=QZ) Qqx QpW QkF
 have QIJ:=Qw4.binds (ps:=["thing"]) fun _ _ _ _ _ _ us hl=>match us,hl with | [_],_=>rfl
 have QtX:=Qu (st:=QbG) Qoe QnA QnK
 have QFA:=QtX.binds (ps:=["self","rows"]) fun _ _ _ _ _ _ us hl=>match us,hl with | [_,_],_=>rfl
 have QsG:=Qu (st:=QaJ) QlI Qlz Qg6
 have QDR:=QsG.binds (ps:=["many","place"]) fun _ _ _ _ _ _ us hl=>match us,hl with | [_,_],_=>rfl
 have Qt4:=Qu (st:=Qaj) Qng Qny QnU
 have QEF:=Qt4.binds (ps:=["self","many"]) fun _ _ _ _ _ _ us hl=>match us,hl with | [_,_],_=>rfl
 have QqP:=Qu (st:=Q5) Qjv QjO Qj4
 have QAB:=QqP.binds (ps:=["self","size"]) fun _ _ _ _ _ _ us hl=>match us,hl with | [_,_],_=>rfl
 have Qt1:=Qu (st:=QbI) Qnk Qoa Qm1
 have QFp:=Qt1.binds (ps:=["self","counts"]) fun _ _ _ _ _ _ us hl=>match us,hl with | [_,_],_=>rfl
 have QtR:=Qu (st:=Q4) Qnd Qnz Qis
 have QFk:=QtR.binds (ps:=["_law_kind","_law_rows_here"]) fun _ _ _ _ _ _ us hl=>match us,hl with | [_,_],_=>rfl
 have Qs9:=Qu (st:=Qt) Qlw QlO QhI
 have QCp:=Qs9.binds (ps:=["_law_script","_law_plan_here","_law_doors"]) fun _ _ _ _ _ _ us hl=>match us,hl with | [_,_,_],_=>rfl
 have QtZ:=Qu (st:=Qad) Qn4 Qn5 Qiw
 have QEQ:=QtZ.binds (ps:=["_law_script","_law_many"]) fun _ _ _ _ _ _ us hl=>match us,hl with | [_,_],_=>rfl
 have QtO:=Qu (st:=Qbi) QmW Qn1 QiB
 have QEC:=QtO.binds (ps:=["_law_found"]) fun _ _ _ _ _ _ us hl=>match us,hl with | [_],_=>rfl
 have QsL:=Qu (st:=Qaf) Qle QlW Qg5
 have QDY:=QsL.binds (ps:=["_law_found","_law_due"]) fun _ _ _ _ _ _ us hl=>match us,hl with | [_,_],_=>rfl
 have Qvn:=Qu (st:=QV) QpQ QpU QkC
 have QHV:=Qvn.binds (ps:=["_law_plan_here","_law_doors","_law_states","_law_desks_here","_law_k"]) fun _ _ _ _ _ _ us hl=>match us,hl with | [_,_,_,_,_],_=>rfl
 have Qo6:=Qu (st:=Qa8) Qil QhR QfF
 have QyY:=Qo6.binds (ps:=["self"]) fun _ _ _ _ _ _ us hl=>match us,hl with | [_],_=>rfl
 have QqQ:=Qu (st:=QaX) QjE QjN Qgt
 have QAV:=QqQ.binds (ps:=["office"]) fun _ _ _ _ _ _ us hl=>match us,hl with | [_],_=>rfl
 have Qpj:=Qu (st:=Qa0) QhQ Qie QfG
 have Qxh:=Qpj.binds (ps:=["self","k"]) fun _ _ _ _ _ _ us hl=>match us,hl with | [_,_],_=>rfl
 have QMQ:=Qu (st:=Qfa) QIA QIX QA3
 have QPu:=QMQ.binds (ps:=["desks","out","leads","dockets"]) fun _ _ _ _ _ _ us hl=>match us,hl with | [_,_,_,_],_=>rfl
 have Qpc:=Qu (st:=QaK) Qip Qii QfA
 have Qxn:=Qpc.binds (ps:=["self","k"]) fun _ _ _ _ _ _ us hl=>match us,hl with | [_,_],_=>rfl
 have Qua:=Qu (st:=QbJ) Qn0 Qob Qdu
 have QiS:=Qua.binds (ps:=["self","state"]) fun _ _ _ _ _ _ us hl=>match us,hl with | [_,_],_=>rfl
 have QBk:=Qu (st:=QbO) QuU QuO Qp1
 have QLZ:=QBk.binds (ps:=["office","states","desks","out","k"]) fun _ _ _ _ _ _ us hl=>match us,hl with | [_,_,_,_,_],_=>rfl
 have QqD:=Qu (st:=Qbp) QjH QjL Qgl
 have QAm:=QqD.binds (ps:=["self"]) fun _ _ _ _ _ _ us hl=>match us,hl with | [_],_=>rfl
 have Qzn:=Qu (st:=Qau) Qry QsC Qmr
 have QLI:=Qzn.binds (ps:=["office","states","desks","k"]) fun _ _ _ _ _ _ us hl=>match us,hl with | [_,_,_,_],_=>rfl
 have Qo0:=Qu (st:=Qa4) Qh1 Qiq Qfs
 have Qxd:=Qo0.binds (ps:=["self"]) fun _ _ _ _ _ _ us hl=>match us,hl with | [_],_=>rfl
 have Qud:=Qu (st:=QaL) Qnj Qnw Qiu
 have QF9:=Qud.binds (ps:=["_law_found","_law_due"]) fun _ _ _ _ _ _ us hl=>match us,hl with | [_,_],_=>rfl
 have QMR:=Qu (st:=QY) QHP QJC QI1
 have QPy:=QMR.binds (ps:=["_law_script"]) fun _ _ _ _ _ _ us hl=>match us,hl with | [_],_=>rfl
 have zz_len:mg "len"=none:=W.mg_none_of X G z_len
 have zz_range:mg "range"=none:=W.mg_none_of X G z_range
 have zz_int:mg "int"=none:=W.mg_none_of X G z_int
 have zz_enumerate:mg "enumerate"=none:=W.mg_none_of X G z_enumerate
 have zz_isinstance:mg "isinstance"=none:=W.mg_none_of X G z_isinstance
 have zz_list:mg "list"=none:=W.mg_none_of X G z_list
 have zz_set:mg "set"=none:=W.mg_none_of X G z_set
 have zz_str:mg "str"=none:=W.mg_none_of X G z_str
 have zz_all:mg "all"=none:=W.mg_none_of X G z_all
 have zz_bool:mg "bool"=none:=W.mg_none_of X G z_bool
 have zz_tuple:mg "tuple"=none:=W.mg_none_of X G z_tuple
 have zz_any:mg "any"=none:=W.mg_none_of X G z_any
 have zz_zip:mg "zip"=none:=W.mg_none_of X G z_zip
 have cc_MOST_SIGNS:=W.mg_of X G c_MOST_SIGNS
 have cc_LETTERS:=W.mg_of X G c_LETTERS
 have cc_MOST_CLERKS:=W.mg_of X G c_MOST_CLERKS
 have cc_MOST_ENTRIES:=W.mg_of X G c_MOST_ENTRIES
 have cc_MOST_DOORS:=W.mg_of X G c_MOST_DOORS
 have cc_MOST_OUTS:=W.mg_of X G c_MOST_OUTS
 have cc_MOST_SENT:=W.mg_of X G c_MOST_SENT
 have cc_MOST_ROWS:=W.mg_of X G c_MOST_ROWS
 have Qxe:KitI K (ctOf K) (.ref QJ) [("Deal",true),("Bundle",false),("Copy",false),("Rows",false),("Office",false)]:=(Qah QbA Qtq Qnt (Qah QaG QmS QjA (Qah Qbs Qtl QnQ (Qah Qbr Qtm Qnh (Qah Qav Qmw Qjh Qp7)))))
 have QsK:KitI K (ctOf K) (.ref Qv) [("Deal",false),("Bundle",true),("Copy",false),("Rows",false),("Office",false)]:=(Qah QbA Qtq Qjp (Qah QaG QmS Qhy (Qah Qbs Qtl Qj2 (Qah Qbr Qtm QjV (Qah Qav Qmw Qhq Qp7)))))
 have QxX:KitI K (ctOf K) (.ref QI) [("Deal",false),("Bundle",false),("Copy",true),("Rows",false),("Office",false)]:=(Qah QbA Qtq Qnc (Qah QaG QmS QjB (Qah Qbs Qtl QnS (Qah Qbr Qtm Qm3 (Qah Qav Qmw QjF Qp7)))))
 have Qxo:KitI K (ctOf K) (.ref QH) [("Deal",false),("Bundle",false),("Copy",false),("Rows",true),("Office",false)]:=(Qah QbA Qtq QnH (Qah QaG QmS Qjd (Qah Qbs Qtl Qok (Qah Qbr Qtm Qnp (Qah Qav Qmw Qj3 Qp7)))))
 refine⟨W.fnOf "law" "law" (Qr QY) (Qp QY) (Qa QY) .none QLh QLy QLM QKf QBE QK8,fun s v=>.of_eq rfl,fun base _ _=>?_⟩
 have QIx:FnOk l.prog w K mg base CX0 1 _ _ ["_law_script","_law_k"] (SpD K (ctOf K) false QM):=QJu Qw1 zz_len
 have QkG:DefOk l.prog w K mg base (ctOf K) "_law_cell" 1 false [] QM:=⟨_,_,_,_,QIx,W.mg_of X G Qps,Qkh,QIv,.nil⟩
 have QGn:FnOk l.prog w K mg base CX0 1 _ _ ["_law_cell_here","_law_k"] (SpD K (ctOf K) false QaZ):=QFY Quj
 have Quk:DefOk l.prog w K mg base (ctOf K) "_law_mixed" 1 false [] QaZ:=⟨_,_,_,_,QGn,W.mg_of X G QnI,Qiv,QFb,.nil⟩
 have QEn:FnOk l.prog w K mg base CX0 2 _ _ ["_law_cell_here","_law_many"] (SpD K (ctOf K) true Q8):=QCc QsR Quk zz_range
 have Qho:DefOk l.prog w K mg base (ctOf K) "_law_digits" 2 true [] Q8:=⟨_,_,_,_,QEn,W.mg_of X G QlA,Qg2,QB2,.nil⟩
 have QDq:FnOk l.prog w K mg base CX0 1 _ _ ["_law_digit","_law_many","_law_tame"] (SpD K (ctOf K) true Qcf):=QCR Qr3 zz_range
 have QDy:DefOk l.prog w K mg base (ctOf K) "_law_counts" 1 true [] Qcf:=⟨_,_,_,_,QDq,W.mg_of X G QlJ,Qhe,QDF,.nil⟩
 have QIG:FnOk l.prog w K mg base CX0 2 _ _ ["_law_digits_here","_law_tame"] (SpD K (ctOf K) false Qd8):=QI4 QwF QDy zz_range zz_int
 have QH1:DefOk l.prog w K mg base (ctOf K) "_law_rows" 2 false [] Qd8:=⟨_,_,_,_,QIG,W.mg_of X G Qqz,Qkw,QJp,.nil⟩
 have QF8:FnOk l.prog w K mg base CX0 1 _ _ ["_law_first","_law_digit","_law_longer"] (SpD K (ctOf K) false QaM):=QFy QtT zz_range
 have QtV:DefOk l.prog w K mg base (ctOf K) "_law_named" 1 false [] QaM:=⟨_,_,_,_,QF8,W.mg_of X G Qnq,QiN,QHc,.nil⟩
 have QII:FnOk l.prog w K mg base CX0 3 _ _ ["_law_cell_here","_law_k","_law_many","_law_doors","_law_ring"] (SpD K (ctOf K) false Qeb):=QH4 Qwb Qho QH1 QtV zz_range zz_len
 have QIl:DefOk l.prog w K mg base (ctOf K) "_law_seat" 3 false [] Qeb:=⟨_,_,_,_,QII,W.mg_of X G Qp8,QkH,QIY,.nil⟩
 have QJL:FnOk l.prog w K mg base CX0 4 _ _ ["_law_script","_law_most"] (SpD K (ctOf K) false QeD):=QIa QwN QkG Qho QIl zz_range
 have QIS:DefOk l.prog w K mg base (ctOf K) "_law_plan" 4 false [] QeD:=⟨_,_,_,_,QJL,W.mg_of X G Qpu,Qkr,QIz,.nil⟩
 have QGy:FnOk l.prog w K mg base CX0 1 _ _ ["names","doors"] (SpD K (ctOf K) true Qdg):=QG9 Qul zz_enumerate
 have QGo:DefOk l.prog w K mg base (ctOf K) "places_of" 1 true [] Qdg:=⟨_,_,_,_,QGy,W.mg_of X G QmY,QiA,QFz,.nil⟩
 have QKC:FnOk l.prog w K mg base CX0 1 _ _ ["thing","most"] (SpD K (ctOf K) false QbV):=QLx Qza zz_isinstance zz_list zz_len
 have QrV:DefOk l.prog w K mg base (ctOf K) "is_list" 1 false [] QbV:=⟨_,_,_,_,QKC,W.mg_of X G QrO,Qmj,QKy,.nil⟩
 have QDg:FnOk l.prog w K mg base CX0 1 _ _ ["names"] (SpD K (ctOf K) false Qag):=QCU QsV zz_len zz_set
 have QlE:DefOk l.prog w K mg base (ctOf K) "all_unlike" 1 false [] Qag:=⟨_,_,_,_,QDg,W.mg_of X G Qln,QhB,QCx,.nil⟩
 have QKu:FnOk l.prog w K mg base CX0 1 _ _ ["thing"] (SpD K (ctOf K) false QaO):=QKJ Qzk zz_isinstance zz_str zz_len zz_all cc_MOST_SIGNS ⟨_,rfl⟩ cc_LETTERS ⟨_,rfl⟩
 have QrL:DefOk l.prog w K mg base (ctOf K) "is_name" 1 false [] QaO:=⟨_,_,_,_,QKu,W.mg_of X G QrP,Qmo,QKH,.nil⟩
 have QGi:FnOk l.prog w K mg base CX0 2 _ _ ["thing","most"] (SpD K (ctOf K) false Qdp):=QGf QtW QrV QrL QlE zz_all
 have QGc:DefOk l.prog w K mg base (ctOf K) "are_names" 2 false [] Qdp:=⟨_,_,_,_,QGi,W.mg_of X G Qop,QiF,QFK,.nil⟩
 have QGd:FnOk l.prog w K mg base CX0 1 _ _ ["thing","many"] (SpD K (ctOf K) false Qdj):=QGa QtU zz_isinstance zz_list zz_len zz_all zz_str
 have QEz:DefOk l.prog w K mg base (ctOf K) "are_texts" 1 false [] Qdj:=⟨_,_,_,_,QGd,W.mg_of X G Qm7,Qir,QGP,.nil⟩
 have QHY:FnOk l.prog w K mg base CX0 1 _ _ ["thing"] (SpD K (ctOf K) false Qeu):=QIT Qvz zz_isinstance zz_int zz_bool
 have QJv:DefOk l.prog w K mg base (ctOf K) "is_whole" 1 false [] Qeu:=⟨_,_,_,_,QHY,W.mg_of X G Qqu,QkD,QI0,.nil⟩
 have QE0:FnOk l.prog w K mg base CX0 2 _ _ ["thing","least","most"] (SpD K (ctOf K) false Qac):=QFg QtY QJv
 have Qf9:DefOk l.prog w K mg base (ctOf K) "is_within" 2 false [] Qac:=⟨_,_,_,_,QE0,W.mg_of X G Qm6,Qix,QGJ,.nil⟩
 have QJO:FnOk l.prog w K mg base CX0 1 _ _ ["thing"] (SpD K (ctOf K) false Qex):=QIk QvR zz_isinstance QHA Qzp QHJ QHn Qxe QsK QxX Qxo
 have QIR:DefOk l.prog w K mg base (ctOf K) "is_clerk" 1 false [] Qex:=⟨_,_,_,_,QJO,W.mg_of X G QpB,Qki,QJc,.nil⟩
 have Qhm:FnOk l.prog w K mg base CX0 1 _ _ ["self"] (SpD K (ctOf K) false Qcd):=QDG Qs7 zz_len fo_table
 have mt_outs:MtOk l.prog w K mg base (ctOf K) CX0 "outs" 1 Qe (fun c=>SpD K (ctOf K) false ((fun _=>Qcd) c)):=by
  intro c hc
  have hm:c∈Qe:=by simpa using hc
  simp only[Qe,List.mem_cons,List.not_mem_nil,or_false]at hm
  rcases hm with rfl | rfl | rfl | rfl
  ·exact⟨QJ,QaW,_,_,QbA,QcE,⟨Qne,QdN,QcQ⟩,Qhm.mono (by decide),Qhp⟩
  ·exact⟨Qv,QaW,_,_,QaG,QbD,⟨Qjs,QdN,QcQ⟩,Qhm.mono (by decide),Qhp⟩
  ·exact⟨QI,QaW,_,_,Qbs,QcH,⟨Qnn,QdN,QcQ⟩,Qhm.mono (by decide),Qhp⟩
  ·exact⟨QH,QaW,_,_,Qbr,QcI,⟨Qoj,QdN,QcQ⟩,Qhm.mono (by decide),Qhp⟩
 have Qfp:FnOk l.prog w K mg base CX0 1 _ _ ["self"] (SpD K (ctOf K) false QaB):=QyR Qo9 zz_len fo_table
 have mt_period:MtOk l.prog w K mg base (ctOf K) CX0 "period" 1 Qe (fun c=>SpD K (ctOf K) false ((fun _=>QaB) c)):=by
  intro c hc
  have hm:c∈Qe:=by simpa using hc
  simp only[Qe,List.mem_cons,List.not_mem_nil,or_false]at hm
  rcases hm with rfl | rfl | rfl | rfl
  ·exact⟨QJ,Qaz,_,_,QbA,QcE,⟨QjK,QcG,Qb6⟩,Qfp.mono (by decide),Qfq⟩
  ·exact⟨Qv,Qaz,_,_,QaG,QbD,⟨Qhc,QcG,Qb6⟩,Qfp.mono (by decide),Qfq⟩
  ·exact⟨QI,Qaz,_,_,Qbs,QcH,⟨QjX,QcG,Qb6⟩,Qfp.mono (by decide),Qfq⟩
  ·exact⟨QH,Qaz,_,_,Qbr,QcI,⟨Qjy,QcG,Qb6⟩,Qfp.mono (by decide),Qfq⟩
 have QLH:FnOk l.prog w K mg base CX0 3 _ _ ["thing"] (SpD K (ctOf K) false Qfc):=QLw Qy7 QrL QIR QEz Qf9 zz_isinstance zz_tuple zz_len mt_outs mt_period
 have QJ7:DefOk l.prog w K mg base (ctOf K) "is_seat" 3 false [] Qfc:=⟨_,_,_,_,QLH,W.mg_of X G Qsf,Qmy,QJ0,.nil⟩
 have QG1:FnOk l.prog w K mg base CX0 4 _ _ ["thing","doors"] (SpD K (ctOf K) false Qdh):=QFC Qt9 QrV QJ7 QlE zz_all cc_MOST_CLERKS ⟨_,rfl⟩
 have QFc:DefOk l.prog w K mg base (ctOf K) "are_seats" 4 false [] Qdh:=⟨_,_,_,_,QG1,W.mg_of X G QnG,QiJ,QFj,.nil⟩
 have QIi:FnOk l.prog w K mg base CX0 2 _ _ ["thing","names"] (SpD K (ctOf K) false Qew):=QI9 Qvk QrL zz_isinstance zz_tuple zz_len
 have QIW:DefOk l.prog w K mg base (ctOf K) "is_entry" 2 false [] Qew:=⟨_,_,_,_,QIi,W.mg_of X G Qpm,Qke,QIQ,.nil⟩
 have Qzz:FnOk l.prog w K mg base CX0 3 _ _ ["thing","names"] (SpD K (ctOf K) false Qcr):=QzY QqJ QrV QIW QlE zz_all cc_MOST_ENTRIES ⟨_,rfl⟩
 have QAh:DefOk l.prog w K mg base (ctOf K) "are_entries" 3 false [] Qcr:=⟨_,_,_,_,Qzz,W.mg_of X G QjJ,Qgx,QAc,.nil⟩
 have QH3:FnOk l.prog w K mg base CX0 1 _ _ ["seat","places"] (SpD K (ctOf K) true Qd5):=QIV Qwz
 have QJf:DefOk l.prog w K mg base (ctOf K) "leads_to" 1 true [] Qd5:=⟨_,_,_,_,QH3,W.mg_of X G Qqv,Qkp,QJh,.nil⟩
 have QAE:FnOk l.prog w K mg base (CXR l.prog w) 5 _ _ ["self","clerks","entries","doors"] (SpI K (ctOf K) Qbq):=Qzv QqT QGc QFc QAh QGo QJf zz_any zz_list cc_MOST_DOORS ⟨_,rfl⟩ fo_clerk_names fo_door_names fo_entry_places fo_staff fo_first_states fo_ways
 have Qsm:MkOk l.prog w K mg base (ctOf K) "Office" 5 Qbq:=⟨QE,QeG,_,_,Qav,QKU,⟨QpG,QjY,Qj0,Qpn⟩,QAE,QzG⟩
 have QJR:FnOk l.prog w K mg base CX0 1 _ _ ["one","other"] (SpD K (ctOf K) true QdY):=QKh Qzu zz_zip
 have QK2:DefOk l.prog w K mg base (ctOf K) "sums_of" 1 true [] QdY:=⟨_,_,_,_,QJR,W.mg_of X G Qs1,Qml,QLJ,.nil⟩
 have Qw7:FnOk l.prog w K mg base CX0 2 _ _ ["rows"] (SpD K (ctOf K) true Qa6):=QxM Qo7 QK2
 have Qyu:DefOk l.prog w K mg base (ctOf K) "running_sums" 2 true [] Qa6:=⟨_,_,_,_,Qw7,W.mg_of X G Qio,QfI,QyE,.nil⟩
 have Qdy:FnOk l.prog w K mg base (CXR l.prog w) 3 _ _ ["self","rows"] (SpI K (ctOf K) QN):=Qtz Qkb Qyu zz_list fo_table fo_heads
 have ms_keep_rows:MtOk l.prog w K mg base (ctOf K) (CXR l.prog w) "keep_rows" 3 Qe (fun _=>SpI K (ctOf K) QN):=by
  intro c hc
  have hm:c∈Qe:=by simpa using hc
  simp only[Qe,List.mem_cons,List.not_mem_nil,or_false]at hm
  rcases hm with rfl | rfl | rfl | rfl
  ·exact⟨QJ,Q7,_,_,QbA,QcE,⟨QgC,QbT,Qbc⟩,Qdy.mono (by decide),QdA⟩
  ·exact⟨Qv,Q7,_,_,QaG,QbD,⟨Qfe,QbT,Qbc⟩,Qdy.mono (by decide),QdA⟩
  ·exact⟨QI,Q7,_,_,Qbs,QcH,⟨QgI,QbT,Qbc⟩,Qdy.mono (by decide),QdA⟩
  ·exact⟨QH,Q7,_,_,Qbr,QcI,⟨QgH,QbT,Qbc⟩,Qdy.mono (by decide),QdA⟩
 have QMv:FnOk l.prog w K mg base CX0 3 _ _ ["thing"] (SpD K (ctOf K) false QeB):=QMO QEw Qf9 zz_isinstance zz_list zz_len zz_all cc_MOST_OUTS ⟨_,rfl⟩ cc_MOST_SENT ⟨_,rfl⟩
 have QEv:DefOk l.prog w K mg base (ctOf K) "is_row" 3 false [] QeB:=⟨_,_,_,_,QMv,W.mg_of X G Qvd,Qp6,QL2,.nil⟩
 have QIp:FnOk l.prog w K mg base CX0 4 _ _ ["thing"] (SpD K (ctOf K) false Qea):=QIN Qw4 QEv zz_isinstance zz_list zz_len zz_all cc_MOST_ROWS ⟨_,rfl⟩
 have QHO:DefOk l.prog w K mg base (ctOf K) "is_table" 4 false [] Qea:=⟨_,_,_,_,QIp,W.mg_of X G QpR,QkF,QIJ,.nil⟩
 have QER:FnOk l.prog w K mg base (CXR l.prog w) 5 _ _ ["self","rows"] (SpI K (ctOf K) Qdw):=QGz QtX QHO ms_keep_rows
 have QyQ:MkOk l.prog w K mg base (ctOf K) "Rows" 5 Qdw:=⟨QH,Qgf,_,_,Qbr,QHn,⟨QuZ,Qm2,QmZ,Qu1⟩,QER,QFA⟩
 have QCA:FnOk l.prog w K mg base CX0 1 _ _ ["many","place"] (SpD K (ctOf K) true QcN):=QDM QsG zz_range
 have QDv:DefOk l.prog w K mg base (ctOf K) "single_row" 1 true [] QcN:=⟨_,_,_,_,QCA,W.mg_of X G Qk2,Qg6,QDR,.nil⟩
 have QF5:FnOk l.prog w K mg base (CXR l.prog w) 4 _ _ ["self","many"] (SpI K (ctOf K) Qdi):=QGj Qt4 Qf9 QDv zz_range cc_MOST_OUTS ⟨_,rfl⟩ ms_keep_rows
 have QyC:MkOk l.prog w K mg base (ctOf K) "Deal" 4 Qdi:=⟨QJ,Qf8,_,_,QbA,QHA,⟨Qvh,QnX,Qor,Qu4⟩,QF5,QEF⟩
 have QAX:FnOk l.prog w K mg base (CXR l.prog w) 4 _ _ ["self","size"] (SpI K (ctOf K) Qcp):=Qz9 QqP Qf9 zz_range cc_MOST_ROWS ⟨_,rfl⟩ ms_keep_rows
 have Qr9:MkOk l.prog w K mg base (ctOf K) "Bundle" 4 Qcp:=⟨Qv,QeI,_,_,QaG,Qzp,⟨Qqf,QjT,Qjw,Qpt⟩,QAX,QAB⟩
 have QFq:FnOk l.prog w K mg base (CXR l.prog w) 4 _ _ ["self","counts"] (SpI K (ctOf K) Qdl):=QEN Qt1 QEv ms_keep_rows
 have Qyb:MkOk l.prog w K mg base (ctOf K) "Copy" 4 Qdl:=⟨QI,Qf0,_,_,Qbs,QHJ,⟨QuB,Qn2,Qod,QuA⟩,QFq,QFp⟩
 have QEL:FnOk l.prog w K mg base CX0 7 _ _ ["_law_kind","_law_rows_here"] (SpD K (ctOf K) true Qb8):=QFT QtR zz_len zz_list QyC Qr9 Qyb QyQ
 have QFJ:DefOk l.prog w K mg base (ctOf K) "_law_clerk" 7 true [] Qb8:=⟨_,_,_,_,QEL,W.mg_of X G Qnm,Qis,QFk,.nil⟩
 have QBF:FnOk l.prog w K mg base CX0 8 _ _ ["_law_script","_law_plan_here","_law_doors"] (SpD K (ctOf K) true QcL):=QDH Qs9 Qho QkG QtV QFJ zz_range Qsm
 have QCe:DefOk l.prog w K mg base (ctOf K) "_law_office" 8 true [] QcL:=⟨_,_,_,_,QBF,W.mg_of X G QlN,QhI,QCp,.nil⟩
 have QGu:FnOk l.prog w K mg base CX0 3 _ _ ["_law_script","_law_many"] (SpD K (ctOf K) true Qdf):=QFt QtZ QkG Qho zz_range
 have QF4:DefOk l.prog w K mg base (ctOf K) "_law_desks" 3 true [] Qdf:=⟨_,_,_,_,QGu,W.mg_of X G Qni,Qiw,QEQ,.nil⟩
 have QFR:FnOk l.prog w K mg base CX0 1 _ _ ["_law_found"] (SpD K (ctOf K) false QeP):=QG3 QtO zz_isinstance zz_int zz_bool
 have QFe:DefOk l.prog w K mg base (ctOf K) "_law_whole" 1 false [] QeP:=⟨_,_,_,_,QFR,W.mg_of X G QnR,QiB,QEC,.nil⟩
 have QDJ:FnOk l.prog w K mg base CX0 2 _ _ ["_law_found","_law_due"] (SpD K (ctOf K) false Qam):=QDL QsL QFe zz_isinstance zz_list zz_len zz_range
 have QsO:DefOk l.prog w K mg base (ctOf K) "_law_wholes" 2 false [] Qam:=⟨_,_,_,_,QDJ,W.mg_of X G QlD,Qg5,QDY,.nil⟩
 have QJK:FnOk l.prog w K mg base CX0 1 _ _ ["_law_plan_here","_law_doors","_law_states","_law_desks_here","_law_k"] (SpD K (ctOf K) false Qek):=QIu Qvn zz_list zz_len zz_range
 have QJr:DefOk l.prog w K mg base (ctOf K) "_law_step" 1 false [] Qek:=⟨_,_,_,_,QJK,W.mg_of X G Qql,QkC,QHV,.nil⟩
 have Qx1:FnOk l.prog w K mg base CX0 1 _ _ ["self"] (SpD K (ctOf K) true Qa5):=Qxp Qo6 zz_list fo_door_names
 have mt_doors:MtOk l.prog w K mg base (ctOf K) CX0 "doors" 1 Qw (fun c=>SpD K (ctOf K) true ((fun _=>Qa5) c)):=by
  intro c hc
  have hm:c∈Qw:=by simpa using hc
  simp only[Qw,List.mem_cons,List.not_mem_nil,or_false]at hm
  rcases hm with rfl
  ·exact⟨QE,QdL,_,_,Qav,Qbg,⟨Qic,Qin,QfF⟩,Qx1.mono (by decide),QyY⟩
 have QAF:FnOk l.prog w K mg base CX0 2 _ _ ["office"] (SpD K (ctOf K) true Qcq):=QAs QqQ mt_doors
 have QAf:DefOk l.prog w K mg base (ctOf K) "nothing_out" 2 true [] Qcq:=⟨_,_,_,_,QAF,W.mg_of X G Qjt,Qgt,QAV,.nil⟩
 have QxB:FnOk l.prog w K mg base CX0 1 _ _ ["self","k"] (SpD K (ctOf K) false Qby):=Qxm Qpj fo_staff
 have mt_clerk:MtOk l.prog w K mg base (ctOf K) CX0 "clerk" 1 Qw (fun c=>SpD K (ctOf K) false ((fun _=>Qby) c)):=by
  intro c hc
  have hm:c∈Qw:=by simpa using hc
  simp only[Qw,List.mem_cons,List.not_mem_nil,or_false]at hm
  rcases hm with rfl
  ·exact⟨QE,QdE,_,_,Qav,Qbg,⟨Qid,Qh9,QfG⟩,QxB.mono (by decide),Qxh⟩
 have QPq:FnOk l.prog w K mg base CX0 1 _ _ ["desks","out","leads","dockets"] (SpW K (ctOf K) false [true,true,false,false] Qqn):=QPv QMQ zz_zip
 have QPr:DefW l.prog w K mg base (ctOf K) "lay" 1 false [true,true,false,false] Qqn:=⟨_,_,_,QPq,W.mg_of X G QH8,QA3,QPu⟩
 have QxN:FnOk l.prog w K mg base CX0 1 _ _ ["self","k"] (SpD K (ctOf K) true QbC):=Qx5 Qpc zz_list fo_ways
 have mt_leads:MtOk l.prog w K mg base (ctOf K) CX0 "leads" 1 Qw (fun c=>SpD K (ctOf K) true ((fun _=>QbC) c)):=by
  intro c hc
  have hm:c∈Qw:=by simpa using hc
  simp only[Qw,List.mem_cons,List.not_mem_nil,or_false]at hm
  rcases hm with rfl
  ·exact⟨QE,QdS,_,_,Qav,Qbg,⟨Qif,Qig,QfA⟩,QxN.mono (by decide),Qxn⟩
 have Qiz:FnOk l.prog w K mg base CX0 1 _ _ ["self","state"] (SpD K (ctOf K) true QcD):=QGQ Qua zz_list fo_table
 have mt_row:MtOk l.prog w K mg base (ctOf K) CX0 "row" 1 Qe (fun c=>SpD K (ctOf K) true ((fun _=>QcD) c)):=by
  intro c hc
  have hm:c∈Qe:=by simpa using hc
  simp only[Qe,List.mem_cons,List.not_mem_nil,or_false]at hm
  rcases hm with rfl | rfl | rfl | rfl
  ·exact⟨QJ,Qbl,_,_,QbA,QcE,⟨Qqh,QeN,Qdu⟩,Qiz.mono (by decide),QiS⟩
  ·exact⟨Qv,Qbl,_,_,QaG,QbD,⟨Qlp,QeN,Qdu⟩,Qiz.mono (by decide),QiS⟩
  ·exact⟨QI,Qbl,_,_,Qbs,QcH,⟨Qpx,QeN,Qdu⟩,Qiz.mono (by decide),QiS⟩
  ·exact⟨QH,Qbl,_,_,Qbr,QcI,⟨QpF,QeN,Qdu⟩,Qiz.mono (by decide),QiS⟩
 have QMp:FnOk l.prog w K mg base CX0 2 _ _ ["office","states","desks","out","k"] (SpW K (ctOf K) false [false,true,true,true,false] QgF):=QMd QBk QPr mt_clerk mt_leads mt_row mt_period
 have QMJ:DefW l.prog w K mg base (ctOf K) "handle" 2 false [false,true,true,true,false] QgF:=⟨_,_,_,QMp,W.mg_of X G QuR,Qp1,QLZ⟩
 have QzS:FnOk l.prog w K mg base CX0 1 _ _ ["self"] (SpD K (ctOf K) false QbU):=QAn QqD zz_len fo_clerk_names
 have mt_many:MtOk l.prog w K mg base (ctOf K) CX0 "many" 1 Qw (fun c=>SpD K (ctOf K) false ((fun _=>QbU) c)):=by
  intro c hc
  have hm:c∈Qw:=by simpa using hc
  simp only[Qw,List.mem_cons,List.not_mem_nil,or_false]at hm
  rcases hm with rfl
  ·exact⟨QE,QeH,_,_,Qav,Qbg,⟨QjS,Qjb,Qgl⟩,QzS.mono (by decide),QAm⟩
 have QLu:FnOk l.prog w K mg base CX0 3 _ _ ["office","states","desks","k"] (SpT K (ctOf K) Qfb):=QKM Qzn Qf9 QAf QMJ zz_list mt_many
 have QJ8:DefT l.prog w K mg base (ctOf K) "handled" 3 Qfb:=⟨_,_,_,QLu,W.mg_of X G Qrl,Qmr,QLI⟩
 have QyA:FnOk l.prog w K mg base CX0 1 _ _ ["self"] (SpD K (ctOf K) true Qbv):=QxP Qo0 zz_list fo_first_states
 have mt_begin:MtOk l.prog w K mg base (ctOf K) CX0 "begin" 1 Qw (fun c=>SpD K (ctOf K) true ((fun _=>Qbv) c)):=by
  intro c hc
  have hm:c∈Qw:=by simpa using hc
  simp only[Qw,List.mem_cons,List.not_mem_nil,or_false]at hm
  rcases hm with rfl
  ·exact⟨QE,QdH,_,_,Qav,Qbg,⟨Qh5,Qh4,Qfs⟩,QyA.mono (by decide),Qxd⟩
 have QEO:FnOk l.prog w K mg base CX0 3 _ _ ["_law_found","_law_due"] (SpD K (ctOf K) false Qdd):=QFo Qud QsO zz_isinstance zz_tuple zz_len
 have QFG:DefOk l.prog w K mg base (ctOf K) "_law_right" 3 false [] Qdd:=⟨_,_,_,_,QEO,W.mg_of X G QnB,Qiu,QF9,.nil⟩
 have QPp:FnOk l.prog w K mg base CX0 9 _ _ ["_law_script"] (SpD K (ctOf K) false QmP):=QPs QMR QIS QCe QF4 Quk QkG QsO QJr QJ8 QFG zz_len zz_range zz_list mt_begin
 exact QPp
theorem walk{l:W.OpenLaw}{q:Program}{loose:List Str}{XP:(Str->Option Value)->Heap->Prop}{YP:World->Heap->Prop}{d:DefRec}{K:Params->W.Frag}(hn:l.most=some 63)(hdf:d.params.defaults=[])
 (hY:∀(w:World)(h:Heap),YP w h->(K w.params).In h) (hlaw:∀ ns:List Int,ns.length<=63->(∀ z∈ns,bitsI z<=1048576)->QmP [.lst (ns.map .int)]=.ok (.bl true))
 (F:∀(w:World)(mg:Str->Option Value)(fa:Addr)(h:Heap),(K w.params).In h->h.Ns mainGlobals mg->mg d.name=some (.ref fa)->
  ∃ fd:FuncData,(∀(s:Shared)(u:Value),BindsTo s fd ⟨[u],[]⟩ [("_law_script",u)])/\∀ base:Heap,(K w.params).In base->base.Ns mainGlobals mg->FnOk l.prog w (K w.params) mg base CX0 9 fa fd ["_law_script"] (SpD (K w.params) (ctOf (K w.params)) false QmP)):
 W.WalkO q loose XP YP l.row.toRowW d [] (fun f vs=>PySem.call f vs):=
 DL.walk_of (n:=63) (k:=9) (x:="_law_script") (CX:=fun _=>CX0) (sp:=fun w=>SpD (K w.params) (ctOf (K w.params)) false QmP) hn (by decide) hdf ⟨rfl,by decide,by decide⟩ hY F
  (fun w H a ns hl hbits _ hS=>⟨[.lst (ns.map .int)],H,Same.refl H,⟨.ref a,[],rfl,⟨a,_,rfl,hS,RepL.map_int ns⟩,rfl⟩,by rw[hlaw ns hl hbits];exact fun v H' G' _ _ _ _ r=>r⟩) fun _ _ _ _ _ z=>z
end My
open PySem PySem.W PyProof.Rows
set_option maxRecDepth 100000 in
set_option maxHeartbeats 0 in
theorem PySem.Challenge.cw_dockethall_k32_one_handling_holds : PySem.Challenge.rw_dockethall_k32_one_handling.Holds := by
 w_on;o_law;k_head;(case hw=>w_witness2)
 k_fill
 refine My.walk (l:=PySem.Challenge.rw_dockethall_k32_one_handling) rfl rfl (fun w h Y=>PySem.W.kIn_of Y) My.the_law ?F
 case F=>
  intro w mg fa h KX G hmg
  refine' My.all_mk KX G hmg ?QwT ?QyZ ?Qx0 ?QxS ?QyH ?QjG ?QeT ?Qff ?Qet ?Qjk ?Qeg ?QlK ?Qju ?Qqs ?Qsh ?Qrw ?Qs3 ?QsE ?Qhv ?QdP ?Qd4 ?Qdm ?Qhh ?Qdq ?QhV ?Qhl ?Qwf ?QxU ?Qxz ?QxF ?Qyz ?Qjf ?QeY ?Qfh ?Qev ?Qj1 ?Qep ?QkS ?Qjg ?QwH ?Qxw ?Qxs ?QyP ?Qyw ?QjD ?QeQ ?Qfj ?Qed ?QjU ?Qd7 ?QlL ?Qjz ?Qqc ?QrN ?QrJ ?Qsz ?QrR ?QgV ?QdT ?QeC ?Qdk ?Qg7 ?Qdn ?QhY ?Qg4 ?Qne ?Qjs ?Qnn ?Qoj ?QjK ?Qhc ?QjX ?Qjy ?Qic ?Qid ?Qif ?Qqh ?Qlp ?Qpx ?QpF ?QjS ?Qh5 ?QgC ?Qfe ?QgI ?QgH ?QnX ?QjT ?Qn2 ?Qm2 ?QjY ?Qvh ?Qu4 ?Qqf ?Qpt ?QuB ?QuA ?QuZ ?Qu1 ?QpG ?Qpn ?y1 ?y2 ?QxJ ?Qw9 ?Qtb ?QsB ?QxA ?QyS ?Qx9 ?Qyh ?QsF ?QrK ?Qps ?QpC ?Qpz ?Qkh ?QnI ?Qon ?Qoi ?Qiv ?QlA ?Qlo ?Qlr ?Qg2 ?QlJ ?Qlc ?QlV ?Qhe ?Qqz ?QpL ?Qqb ?Qkw ?Qnq ?Qn3 ?QnZ ?QiN ?Qp8 ?QqB ?Qqo ?QkH ?Qpu ?Qqk ?Qqy ?Qkr ?QmY ?Qom ?Qnl ?QiA ?QrO ?Qtc ?Qsk ?Qmj ?Qln ?QlF ?QlS ?QhB ?QrP ?Qrn ?Qs8 ?Qmo ?Qop ?Qnu ?Qn7 ?QiF ?Qm7 ?Qoc ?QnV ?Qir ?Qqu ?Qpl ?Qqg ?QkD ?Qm6 ?QnE ?Qm5 ?Qix ?QpB ?Qpw ?QpE ?Qki ?QdN ?Qll ?Qk8 ?QcQ ?QcG ?Qh2 ?QhP ?Qb6 ?Qsf ?QsH ?Qsy ?Qmy ?QnG ?Qn8 ?QnW ?QiJ ?Qpm ?Qpy ?QpI ?Qke ?QjJ ?QjM ?Qje ?Qgx ?Qqv ?Qp2 ?QpD ?Qkp ?Qj0 ?Qjl ?QjQ ?QjR ?Qs1 ?Qrm ?QrS ?Qml ?Qio ?Qib ?QhT ?QfI ?QbT ?QfP ?QfQ ?Qbc ?Qvd ?QuG ?Qvf ?Qp6 ?QpR ?Qqx ?QpW ?QkF ?QmZ ?Qoe ?QnA ?QnK ?Qk2 ?QlI ?Qlz ?Qg6 ?Qor ?Qng ?Qny ?QnU ?Qjw ?Qjv ?QjO ?Qj4 ?Qod ?Qnk ?Qoa ?Qm1 ?Qnm ?Qnd ?Qnz ?Qis ?QlN ?Qlw ?QlO ?QhI ?Qni ?Qn4 ?Qn5 ?Qiw ?QnR ?QmW ?Qn1 ?QiB ?QlD ?Qle ?QlW ?Qg5 ?Qql ?QpQ ?QpU ?QkC ?Qin ?Qil ?QhR ?QfF ?Qjt ?QjE ?QjN ?Qgt ?Qh9 ?QhQ ?Qie ?QfG ?QH8 ?QIA ?QIX ?QA3 ?Qig ?Qip ?Qii ?QfA ?QeN ?Qn0 ?Qob ?Qdu ?QuR ?QuU ?QuO ?Qp1 ?Qjb ?QjH ?QjL ?Qgl ?Qrl ?Qry ?QsC ?Qmr ?Qh4 ?Qh1 ?Qiq ?Qfs ?QnB ?Qnj ?Qnw ?Qiu ?QJb ?QHP ?QJC ?QI1 ?z_len ?z_range ?z_int ?z_enumerate ?z_isinstance ?z_list ?z_set ?z_str ?z_all ?z_bool ?z_tuple ?z_any ?z_zip ?c_MOST_SIGNS ?c_LETTERS ?c_MOST_CLERKS ?c_MOST_ENTRIES ?c_MOST_DOORS ?c_MOST_OUTS ?c_MOST_SENT ?c_MOST_ROWS ?Qjh ?Qnh ?QnQ ?QjA ?Qnt ?Qhq ?QjV ?Qj2 ?Qhy ?Qjp ?QjF ?Qm3 ?QnS ?QjB ?Qnc ?Qj3 ?Qnp ?Qok ?Qjd ?QnH
  (case QwT=>k_is)
  (case QyZ=>k_is)
  (case Qx0=>k_is)
  (case QxS=>k_is)
  (case QyH=>k_is)
  (case QjG=>k_is)
  (case QeT=>k_is)
  (case Qff=>k_is)
  (case Qet=>k_is)
  (case Qjk=>k_is)
  (case Qeg=>k_is)
  (case QlK=>k_is)
  (case Qju=>k_is)
  (case Qqs=>k_is)
  (case Qsh=>k_is)
  (case Qrw=>k_is)
  (case Qs3=>k_is)
  (case QsE=>k_is)
  (case Qhv=>k_is)
  (case QdP=>k_is)
  (case Qd4=>k_is)
  (case Qdm=>k_is)
  (case Qhh=>k_is)
  (case Qdq=>k_is)
  (case QhV=>k_is)
  (case Qhl=>k_is)
  (case Qwf=>k_is)
  (case QxU=>k_is)
  (case Qxz=>k_is)
  (case QxF=>k_is)
  (case Qyz=>k_is)
  (case Qjf=>k_is)
  (case QeY=>k_is)
  (case Qfh=>k_is)
  (case Qev=>k_is)
  (case Qj1=>k_is)
  (case Qep=>k_is)
  (case QkS=>k_is)
  (case Qjg=>k_is)
  (case QwH=>k_is)
  (case Qxw=>k_is)
  (case Qxs=>k_is)
  (case QyP=>k_is)
  (case Qyw=>k_is)
  (case QjD=>k_is)
  (case QeQ=>k_is)
  (case Qfj=>k_is)
  (case Qed=>k_is)
  (case QjU=>k_is)
  (case Qd7=>k_is)
  (case QlL=>k_is)
  (case Qjz=>k_is)
  (case Qqc=>k_is)
  (case QrN=>k_is)
  (case QrJ=>k_is)
  (case Qsz=>k_is)
  (case QrR=>k_is)
  (case QgV=>k_is)
  (case QdT=>k_is)
  (case QeC=>k_is)
  (case Qdk=>k_is)
  (case Qg7=>k_is)
  (case Qdn=>k_is)
  (case QhY=>k_is)
  (case Qg4=>k_is)
  (case Qne=>k_is)
  (case Qjs=>k_is)
  (case Qnn=>k_is)
  (case Qoj=>k_is)
  (case QjK=>k_is)
  (case Qhc=>k_is)
  (case QjX=>k_is)
  (case Qjy=>k_is)
  (case Qic=>k_is)
  (case Qid=>k_is)
  (case Qif=>k_is)
  (case Qqh=>k_is)
  (case Qlp=>k_is)
  (case Qpx=>k_is)
  (case QpF=>k_is)
  (case QjS=>k_is)
  (case Qh5=>k_is)
  (case QgC=>k_is)
  (case Qfe=>k_is)
  (case QgI=>k_is)
  (case QgH=>k_is)
  (case QnX=>k_is)
  (case QjT=>k_is)
  (case Qn2=>k_is)
  (case Qm2=>k_is)
  (case QjY=>k_is)
  (case Qvh=>k_is)
  (case Qu4=>k_is)
  (case Qqf=>k_is)
  (case Qpt=>k_is)
  (case QuB=>k_is)
  (case QuA=>k_is)
  (case QuZ=>k_is)
  (case Qu1=>k_is)
  (case QpG=>k_is)
  (case Qpn=>k_is)
  (case y1=>k_is)
  (case y2=>k_is)
  (case QxJ=>k_is)
  (case Qw9=>k_is)
  (case Qtb=>k_is)
  (case QsB=>k_is)
  (case QxA=>k_is)
  (case QyS=>k_is)
  (case Qx9=>k_is)
  (case Qyh=>k_is)
  (case QsF=>k_is)
  (case QrK=>k_is)
  (case Qps=>k_is)
  (case QpC=>k_is)
  (case Qpz=>k_is)
  (case Qkh=>k_is)
  (case QnI=>k_is)
  (case Qon=>k_is)
  (case Qoi=>k_is)
  (case Qiv=>k_is)
  (case QlA=>k_is)
  (case Qlo=>k_is)
  (case Qlr=>k_is)
  (case Qg2=>k_is)
  (case QlJ=>k_is)
  (case Qlc=>k_is)
  (case QlV=>k_is)
  (case Qhe=>k_is)
  (case Qqz=>k_is)
  (case QpL=>k_is)
  (case Qqb=>k_is)
  (case Qkw=>k_is)
  (case Qnq=>k_is)
  (case Qn3=>k_is)
  (case QnZ=>k_is)
  (case QiN=>k_is)
  (case Qp8=>k_is)
  (case QqB=>k_is)
  (case Qqo=>k_is)
  (case QkH=>k_is)
  (case Qpu=>k_is)
  (case Qqk=>k_is)
  (case Qqy=>k_is)
  (case Qkr=>k_is)
  (case QmY=>k_is)
  (case Qom=>k_is)
  (case Qnl=>k_is)
  (case QiA=>k_is)
  (case QrO=>k_is)
  (case Qtc=>k_is)
  (case Qsk=>k_is)
  (case Qmj=>k_is)
  (case Qln=>k_is)
  (case QlF=>k_is)
  (case QlS=>k_is)
  (case QhB=>k_is)
  (case QrP=>k_is)
  (case Qrn=>k_is)
  (case Qs8=>k_is)
  (case Qmo=>k_is)
  (case Qop=>k_is)
  (case Qnu=>k_is)
  (case Qn7=>k_is)
  (case QiF=>k_is)
  (case Qm7=>k_is)
  (case Qoc=>k_is)
  (case QnV=>k_is)
  (case Qir=>k_is)
  (case Qqu=>k_is)
  (case Qpl=>k_is)
  (case Qqg=>k_is)
  (case QkD=>k_is)
  (case Qm6=>k_is)
  (case QnE=>k_is)
  (case Qm5=>k_is)
  (case Qix=>k_is)
  (case QpB=>k_is)
  (case Qpw=>k_is)
  (case QpE=>k_is)
  (case Qki=>k_is)
  (case QdN=>k_is)
  (case Qll=>k_is)
  (case Qk8=>k_is)
  (case QcQ=>k_is)
  (case QcG=>k_is)
  (case Qh2=>k_is)
  (case QhP=>k_is)
  (case Qb6=>k_is)
  (case Qsf=>k_is)
  (case QsH=>k_is)
  (case Qsy=>k_is)
  (case Qmy=>k_is)
  (case QnG=>k_is)
  (case Qn8=>k_is)
  (case QnW=>k_is)
  (case QiJ=>k_is)
  (case Qpm=>k_is)
  (case Qpy=>k_is)
  (case QpI=>k_is)
  (case Qke=>k_is)
  (case QjJ=>k_is)
  (case QjM=>k_is)
  (case Qje=>k_is)
  (case Qgx=>k_is)
  (case Qqv=>k_is)
  (case Qp2=>k_is)
  (case QpD=>k_is)
  (case Qkp=>k_is)
  (case Qj0=>k_is)
  (case Qjl=>k_is)
  (case QjQ=>k_is)
  (case QjR=>k_is)
  (case Qs1=>k_is)
  (case Qrm=>k_is)
  (case QrS=>k_is)
  (case Qml=>k_is)
  (case Qio=>k_is)
  (case Qib=>k_is)
  (case QhT=>k_is)
  (case QfI=>k_is)
  (case QbT=>k_is)
  (case QfP=>k_is)
  (case QfQ=>k_is)
  (case Qbc=>k_is)
  (case Qvd=>k_is)
  (case QuG=>k_is)
  (case Qvf=>k_is)
  (case Qp6=>k_is)
  (case QpR=>k_is)
  (case Qqx=>k_is)
  (case QpW=>k_is)
  (case QkF=>k_is)
  (case QmZ=>k_is)
  (case Qoe=>k_is)
  (case QnA=>k_is)
  (case QnK=>k_is)
  (case Qk2=>k_is)
  (case QlI=>k_is)
  (case Qlz=>k_is)
  (case Qg6=>k_is)
  (case Qor=>k_is)
  (case Qng=>k_is)
  (case Qny=>k_is)
  (case QnU=>k_is)
  (case Qjw=>k_is)
  (case Qjv=>k_is)
  (case QjO=>k_is)
  (case Qj4=>k_is)
  (case Qod=>k_is)
  (case Qnk=>k_is)
  (case Qoa=>k_is)
  (case Qm1=>k_is)
  (case Qnm=>k_is)
  (case Qnd=>k_is)
  (case Qnz=>k_is)
  (case Qis=>k_is)
  (case QlN=>k_is)
  (case Qlw=>k_is)
  (case QlO=>k_is)
  (case QhI=>k_is)
  (case Qni=>k_is)
  (case Qn4=>k_is)
  (case Qn5=>k_is)
  (case Qiw=>k_is)
  (case QnR=>k_is)
  (case QmW=>k_is)
  (case Qn1=>k_is)
  (case QiB=>k_is)
  (case QlD=>k_is)
  (case Qle=>k_is)
  (case QlW=>k_is)
  (case Qg5=>k_is)
  (case Qql=>k_is)
  (case QpQ=>k_is)
  (case QpU=>k_is)
  (case QkC=>k_is)
  (case Qin=>k_is)
  (case Qil=>k_is)
  (case QhR=>k_is)
  (case QfF=>k_is)
  (case Qjt=>k_is)
  (case QjE=>k_is)
  (case QjN=>k_is)
  (case Qgt=>k_is)
  (case Qh9=>k_is)
  (case QhQ=>k_is)
  (case Qie=>k_is)
  (case QfG=>k_is)
  (case QH8=>k_is)
  (case QIA=>k_is)
  (case QIX=>k_is)
  (case QA3=>k_is)
  (case Qig=>k_is)
  (case Qip=>k_is)
  (case Qii=>k_is)
  (case QfA=>k_is)
  (case QeN=>k_is)
  (case Qn0=>k_is)
  (case Qob=>k_is)
  (case Qdu=>k_is)
  (case QuR=>k_is)
  (case QuU=>k_is)
  (case QuO=>k_is)
  (case Qp1=>k_is)
  (case Qjb=>k_is)
  (case QjH=>k_is)
  (case QjL=>k_is)
  (case Qgl=>k_is)
  (case Qrl=>k_is)
  (case Qry=>k_is)
  (case QsC=>k_is)
  (case Qmr=>k_is)
  (case Qh4=>k_is)
  (case Qh1=>k_is)
  (case Qiq=>k_is)
  (case Qfs=>k_is)
  (case QnB=>k_is)
  (case Qnj=>k_is)
  (case Qnw=>k_is)
  (case Qiu=>k_is)
  (case QJb=>k_is)
  (case QHP=>k_is)
  (case QJC=>k_is)
  (case QI1=>k_is)
  (case z_len=>k_is)
  (case z_range=>k_is)
  (case z_int=>k_is)
  (case z_enumerate=>k_is)
  (case z_isinstance=>k_is)
  (case z_list=>k_is)
  (case z_set=>k_is)
  (case z_str=>k_is)
  (case z_all=>k_is)
  (case z_bool=>k_is)
  (case z_tuple=>k_is)
  (case z_any=>k_is)
  (case z_zip=>k_is)
  (case c_MOST_SIGNS=>k_is)
  (case c_LETTERS=>k_is)
  (case c_MOST_CLERKS=>k_is)
  (case c_MOST_ENTRIES=>k_is)
  (case c_MOST_DOORS=>k_is)
  (case c_MOST_OUTS=>k_is)
  (case c_MOST_SENT=>k_is)
  (case c_MOST_ROWS=>k_is)
  (case Qjh=>kit_is)
  (case Qnh=>kit_is)
  (case QnQ=>kit_is)
  (case QjA=>kit_is)
  (case Qnt=>kit_is)
  (case Qhq=>kit_is)
  (case QjV=>kit_is)
  (case Qj2=>kit_is)
  (case Qhy=>kit_is)
  (case Qjp=>kit_is)
  (case QjF=>kit_is)
  (case Qm3=>kit_is)
  (case QnS=>kit_is)
  (case QjB=>kit_is)
  (case Qnc=>kit_is)
  (case Qj3=>kit_is)
  (case Qnp=>kit_is)
  (case Qok=>kit_is)
  (case Qjd=>kit_is)
  (case QnH=>kit_is)
