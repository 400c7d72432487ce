import PyProof.Rows.All
import Wide.All
import OpenK.AllK
import Wide.FinOn
import Lean
import PyProof.EqAt
import PyProof.EqKinds
import PyProof.TupleCall
import PySem.Challenge.RW_dockethall_k12_no_clerk
theorem PySem.W.Fast.tw2055066804734853418 : True := trivial
theorem PySem.W.Fast.tw11724851015725799791 : True := trivial
theorem PySem.W.Fast.tw9706494943760941289 : True := trivial
theorem PySem.W.Fast.tw10123852258283132154 : True := trivial
theorem PySem.W.Fast.tw10218132632394289553 : True := trivial
theorem PySem.W.Fast.tw17114283938065517995 : True := trivial
theorem PySem.W.Fast.tw6216521543449148188 : True := trivial
theorem PySem.W.Fast.tw8028917819151144855 : True := trivial
theorem PySem.W.Fast.tw3372063799842785621 : True := trivial
theorem PySem.W.Fast.tw13151551460467207330 : True := trivial
theorem PySem.W.Fast.tw10409103519042944816 : True := trivial
theorem PySem.W.Fast.tw1542225165695085859 : True := trivial
theorem PySem.W.Fast.tw16705588592675765978 : True := trivial
theorem PySem.W.Fast.tw9971034551383883696 : True := trivial
theorem PySem.W.Fast.tw15473643816817625021 : True := trivial
theorem PySem.W.Fast.tw1037190148539777274 : True := trivial
theorem PySem.W.Fast.tw2771869181537808220 : True := trivial
theorem PySem.W.Fast.tw9313123569614367634 : True := trivial
theorem PySem.W.Fast.tw14146206377501836224 : True := trivial
theorem PySem.W.Fast.tw13602321731855819024 : True := trivial
theorem PySem.W.Fast.tw2371866210493299801 : True := trivial
theorem PySem.W.Fast.tw12941994838635118157 : True := trivial
theorem PySem.W.Fast.tw6831560738757832433 : True := trivial
theorem PySem.W.Fast.tw3567628322783607534 : True := trivial
set_option Elab.async false
set_option linter.all false
set_option maxRecDepth 100000
namespace L2
open PySem PySem.Spec PyProof.Rows
abbrev Key := Sum Int Str
def keyIs : Key → Value → Bool
  | .inl k, v => Value.isInt k v
  | .inr x, v => Value.isStrOf x v
def keyH (w : World) : Key → Int
  | .inl k => hashInt k
  | .inr x => hashStr w x
theorem keyIs_shape : ∀ {k : Key} {v : Value}, keyIs k v = true → (∃ i t, k = Sum.inl i ∧ v = Value.int i t) ∨ (∃ x t, k = Sum.inr x ∧ v = Value.str x t)
  | .inl i, v, h => by
    obtain ⟨t, e⟩ := Value.isInt_shape (k := i) (v := v) h
    exact .inl ⟨i, t, rfl, e⟩
  | .inr x, v, h => by
    obtain ⟨t, e⟩ := Value.isStrOf_shape (x := x) (v := v) h
    exact .inr ⟨x, t, rfl, e⟩
theorem key_ll (a b : Int) : decide ((Sum.inl a : Key) = Sum.inl b) = (a == b) := by
  by_cases e : a = b
  · subst e; simp
  · have h : ¬ (Sum.inl a : Key) = Sum.inl b := fun q => e (Sum.inl.inj q)
    rw [decide_eq_false h]
    exact (beq_eq_false_iff_ne.mpr e).symm
theorem key_rr (a b : Str) : decide ((Sum.inr a : Key) = Sum.inr b) = decide (a = b) := by
  by_cases e : a = b
  · subst e; simp
  · have h : ¬ (Sum.inr a : Key) = Sum.inr b := fun q => e (Sum.inr.inj q)
    rw [decide_eq_false h, decide_eq_false e]
theorem key_lr (a : Int) (b : Str) : decide ((Sum.inl a : Key) = Sum.inr b) = false := decide_eq_false (fun q => nomatch q)
theorem key_rl (a : Str) (b : Int) : decide ((Sum.inr a : Key) = Sum.inl b) = false := decide_eq_false (fun q => nomatch q)
def mixKind (prog : Program) (w : World) : PySem.KeyKind prog w Key where
  is := keyIs
  hash := keyH w
  inj := fun v a b ha hb => by
    rcases keyIs_shape ha with ⟨i, t, rfl, rfl⟩ | ⟨x, t, rfl, rfl⟩
    · rcases keyIs_shape hb with ⟨j, u, rfl, e⟩ | ⟨y, u, rfl, e⟩
      · injection e with e1 _; rw [e1]
      · exact nomatch e
    · rcases keyIs_shape hb with ⟨j, u, rfl, e⟩ | ⟨y, u, rfl, e⟩
      · exact nomatch e
      · injection e with e1 _; rw [e1]
  byValue := fun k v h => by
    rcases keyIs_shape h with ⟨i, t, rfl, rfl⟩ | ⟨x, t, rfl, rfl⟩ <;> rfl
  pyHash := fun hv h => by
    rcases keyIs_shape hv with ⟨i, t, rfl, rfl⟩ | ⟨x, t, rfl, rfl⟩
    · exact wpAny_pyHash_int h
    · exact wpAny_pyHash_str h
  eqBool := fun hu hv h => by
    rcases keyIs_shape hu with ⟨i, t, rfl, rfl⟩ | ⟨x, t, rfl, rfl⟩
    · rcases keyIs_shape hv with ⟨j, u, rfl, rfl⟩ | ⟨y, u, rfl, rfl⟩
      · rw [key_ll] at h; exact wpAny_eqBool_int h
      · rw [key_lr] at h; exact SeqAt.EqAt.int_str i t y u _ _ _ _ h
    · rcases keyIs_shape hv with ⟨j, u, rfl, rfl⟩ | ⟨y, u, rfl, rfl⟩
      · rw [key_rl] at h; exact SeqAt.EqAt.str_int x t j u _ _ _ _ h
      · rw [key_rr] at h; exact wpAny_eqBool_str h
  «strs» := fun k x t v h => by
    rcases keyIs_shape h with ⟨i, u, rfl, e⟩ | ⟨y, u, rfl, e⟩
    · exact nomatch e
    · injection e with e1 _
      subst e1
      cases v <;> rfl
end L2
namespace L2
open PySem PySem.Spec PyProof.Rows
inductive V where
  | non | bl (b : Bool) | int (i : Int) | str (x : Str) | byt (b : Array UInt8) | flt (b : UInt64) | ref (a : Addr) | ty (n : String)
  deriving DecidableEq
def RelV : V → Value → Prop
  | .non, u => u = Value.none
  | .bl b, u => u = Value.bool b
  | .int i, u => ∃ t, u = Value.int i t
  | .str x, u => ∃ t, u = Value.str x t
  | .byt b, u => ∃ t, u = Value.bytes b t
  | .flt b, u => ∃ t, u = Value.float b t
  | .ref a, u => u = Value.ref a
  | .ty n, u => u = Value.type n
abbrev Vals : List V → List Value → Prop := Paired RelV
theorem Vals.length {xs : List V} {us : List Value} (r : Vals xs us) : xs.length = us.length := Paired.length r
theorem Vals.get : ∀ {xs : List V} {us : List Value} {i : Nat} {x : V}, Vals xs us → xs[i]? = some x → ∃ u, us[i]? = some u ∧ RelV x u
  | _, _, _, _, .nil, e => by simp at e
  | _, _, 0, _, .cons r _, e => by simp at e; subst e; exact ⟨_, rfl, r⟩
  | _, _, i + 1, x, .cons _ t, e => by
    obtain ⟨u, h1, h2⟩ := Vals.get (i := i) (x := x) t (by simpa using e)
    exact ⟨u, by simpa using h1, h2⟩
theorem Vals.set {x : V} {u : Value} (r : RelV x u) : ∀ {xs : List V} {us : List Value} (i : Nat), Vals xs us → Vals (xs.set i x) (us.set i u)
  | _, _, _, .nil => .nil
  | _, _, 0, .cons _ t => .cons r t
  | _, _, i + 1, .cons q t => .cons q (Vals.set r i t)
theorem Vals.append : ∀ {xs ys : List V} {us ws : List Value}, Vals xs us → Vals ys ws → Vals (xs ++ ys) (us ++ ws)
  | _, _, _, _, .nil, s => s
  | _, _, _, _, .cons r t, s => .cons r (Vals.append t s)
theorem Vals.take : ∀ {xs : List V} {us : List Value} (n : Nat), Vals xs us → Vals (xs.take n) (us.take n)
  | _, _, 0, _ => .nil
  | _, _, _ + 1, .nil => .nil
  | _, _, n + 1, .cons r t => .cons r (Vals.take n t)
theorem Vals.drop : ∀ {xs : List V} {us : List Value} (n : Nat), Vals xs us → Vals (xs.drop n) (us.drop n)
  | _, _, 0, r => r
  | _, _, _ + 1, .nil => .nil
  | _, _, n + 1, .cons _ t => Vals.drop n t
theorem Vals.none_of : ∀ {xs : List V} {us : List Value} {i : Nat}, Vals xs us → xs[i]? = none → us[i]? = none := fun {xs us i} r e => by
  have h1 := r.length
  have h2 : xs.length ≤ i := List.getElem?_eq_none_iff.mp e
  exact List.getElem?_eq_none_iff.mpr (by omega)
def RelO : Option V → Option Value → Prop
  | some v, some u => RelV v u
  | none, none => True
  | _, _ => False
def KV {κ : Type} : List (κ × V) → List (κ × Value) → Prop := Paired fun (p : κ × V) (q : κ × Value) => p.1 = q.1 ∧ RelV p.2 q.2
def kV : Key → V
  | .inl i => .int i
  | .inr x => .str x
inductive HO where
  /-- a list -/
  | lst (xs : List V)
  /-- a tuple (never changes) -/
  | tup (xs : List V)
  /-- a dict whose keys are ints and texts; one whose keys are tuples of ints and texts (the empty one is both) -/
  | dK (kvs : List (Key × V)) | dT (kvs : List (List Key × V))
  /-- a set of ints: its members, its size -/
  | set (S : Int → Bool) (n : Nat)
  /-- an instance of the class at C, its dict at dx, its attributes -/
  | ins (C dx : Addr) (fs : List (Str × V))
  /-- the dict of the instance at x -/
  | own (x : Addr)
  /-- the dict of an exception -/
  | xd (fs : List (Str × V))
  /-- a bound method, f of x -/
  | met (f x : Addr)
  /-- a range object lo, lo + 1, .. below hi -/
  | rng (lo hi : Int)
  /-- a thing that is known to the object (the script; a dict while a loop walks it): read, never written while it is so -/
  | frz (o : Obj) (u : HO)
  /-- a code object's table -/
  | tbl (ps : Array Value)
  /-- any other thing, by what is true of its one object (a def of one's own: SetO a S n := HO.ext fun h => ..) -/
  | ext (φ : Heap → Prop)
abbrev Hp := Addr → Option HO
def upd (H : Hp) (a : Addr) (o : HO) : Hp := fun b => if b = a then some o else H b
theorem upd_same {H : Hp} {a : Addr} {o : HO} : upd H a o a = some o := by unfold upd; rw [if_pos rfl]
theorem upd_ne {H : Hp} {a b : Addr} {o : HO} (h : b ≠ a) : upd H a o b = H b := by unfold upd; rw [if_neg h]
theorem upd_upd {H : Hp} {a : Addr} {o u : HO} : upd (upd H a o) a u = upd H a u := by
  funext b; unfold upd; split <;> rfl
theorem ne_of_none {H : Hp} {a b : Addr} {o : HO} (h : H a = some o) (h' : H b = none) : a ≠ b := by
  intro e; subst e; rw [h] at h'; cases h'
section
variable (P : Program) (w : World)
def ObjOk (H : Hp) (h : Heap) (a : Addr) : HO → Prop
  | .lst xs => xs.length ≤ sizeLine ∧ ∃ (its : List Value) (n : Nat), Vals xs its ∧ h.get? a = some { cls := .type "list", data := .seq its.toArray n }
  | .tup xs => xs.length ≤ sizeLine ∧ ∃ its : List Value, Vals xs its ∧ IsTup h a its.toArray
  | .dK kvs => kvs.length ≤ sizeLine ∧ (a == sysModules) = false ∧ ∃ vs, KV kvs vs ∧ h.DictOf (mixKind P w) a vs
  | .dT kvs => kvs.length ≤ sizeLine ∧ (a == sysModules) = false ∧ ∃ xs : List (List Key × Addr × Value),
      Paired (fun (p : List Key × V) (q : List Key × Addr × Value) => p.1 = q.1 ∧ H q.2.1 = some (.tup (p.1.map kV)) ∧ RelV p.2 q.2.2) kvs xs ∧
      ∃ o es ep, h.get? a = some o ∧ o.ExactDict ∧ o.data = .dict es ep ∧ es.toList = xs.map (entryOfKey (tupleKind (mixKind P w))) ∧ (xs.map (·.1)).Nodup
  | .set S n => h.SetOf (intKind P w) a S n
  | .ins C dx fs => H dx = some (.own a) ∧ fs.length ≤ 1000 ∧ dx ≠ a ∧ h.get? a = some (PySem.W.instObj C dx) ∧
      ∃ mA, h.Ns1 dx mA ∧ (∀ f, RelO (fs.lookup f) (mA f)) ∧ PySem.Within mA (fs.map (·.1))
  | .own _ => ∃ o, h.get? a = some o
  | .xd fs => ∃ mA, h.Ns1 a mA ∧ ∀ f, RelO (fs.lookup f) (mA f)
  | .rng lo hi => ∃ t u v, h.get? a = some { cls := .type "range", data := .fields #[.int lo t, .int hi u, .int 1 v] }
  | .frz o u => h.get? a = some o ∧ ObjOk H h a u
  | .tbl ps => h.get? a = some { cls := .none, data := .fields ps }
  | .met f x => h.get? a = some (PySem.W.methodObj (.ref f) (.ref x))
  | .ext φ => φ h ∧ (∃ o, h.get? a = some o) ∧ ∀ h1 h2 : Heap, φ h1 → (∀ o, h1.get? a = some o → h2.get? a = some o) → φ h2
def HOk (H : Hp) (h : Heap) : Prop := ∀ a o, H a = some o → ObjOk P w H h a o
end
section
variable {P : Program} {w : World} {H H' : Hp} {h h' : Heap} {a : Addr} {o : HO}
theorem ObjOk.lt (x : ObjOk P w H h a o) : a < h.objs.size := by
  cases o with
  | lst xs => obtain ⟨_, _, _, _, e⟩ := x; exact Heap.lt_size e
  | tup xs => obtain ⟨_, _, _, p⟩ := x; exact p.lt
  | dK kvs => obtain ⟨_, _, _, _, o, _, _, e, _⟩ := x; exact Heap.lt_size e
  | dT kvs => obtain ⟨_, _, _, _, o, _, _, e, _⟩ := x; exact Heap.lt_size e
  | set S n => obtain ⟨o, _, _, _, e, _⟩ := x; exact Heap.lt_size e
  | ins C dx fs => obtain ⟨_, _, _, e, _⟩ := x; exact Heap.lt_size e
  | own y => obtain ⟨_, e⟩ := x; exact Heap.lt_size e
  | xd fs => obtain ⟨_, ⟨_, _, _, e, _⟩, _⟩ := x; exact Heap.lt_size e
  | rng lo hi => obtain ⟨_, _, _, e⟩ := x; exact Heap.lt_size e
  | frz ob u => obtain ⟨e, _⟩ := x; exact Heap.lt_size e
  | tbl ps => exact Heap.lt_size (show h.get? a = some _ from x)
  | met f y => exact Heap.lt_size (show h.get? a = some _ from x)
  | ext φ => obtain ⟨_, ⟨_, e⟩, _⟩ := x; exact Heap.lt_size e
theorem Paired.mapP {α β : Type} {F G : α → β → Prop} : ∀ {l₁ : List α} {l₂ : List β}, Paired F l₁ l₂ → (∀ a b, F a b → G a b) → Paired G l₁ l₂
  | _, _, .nil, _ => .nil
  | _, _, .cons r t, f => .cons (f _ _ r) (Paired.mapP t f)
theorem ObjOk.stay (x : ObjOk P w H h a o) (k : ∀ b u, (b = a ∨ H b = some (.own a)) → h.get? b = some u → h'.get? b = some u)
    (ho : ∀ b, H b = some (.own a) → H' b = some (.own a)) (ht : ∀ b xs, H b = some (.tup xs) → H' b = some (.tup xs)) : ObjOk P w H' h' a o := by
  induction o with
  | lst xs => obtain ⟨z, its, n, r, e⟩ := x; exact ⟨z, its, n, r, k _ _ (.inl rfl) e⟩
  | tup xs => obtain ⟨z, its, r, ob, e, c⟩ := x; exact ⟨z, its, r, ob, k _ _ (.inl rfl) e, c⟩
  | dK kvs => obtain ⟨z, y, vs, r, ob, es, ep, e, c⟩ := x; exact ⟨z, y, vs, r, ob, es, ep, k _ _ (.inl rfl) e, c⟩
  | dT kvs =>
    obtain ⟨z, y, xs, r, ob, es, ep, e, c⟩ := x
    exact ⟨z, y, xs, Paired.mapP r fun p q z => ⟨z.1, ht _ _ z.2.1, z.2.2⟩, ob, es, ep, k _ _ (.inl rfl) e, c⟩
  | set S n => obtain ⟨ob, es, ep, t, e, c⟩ := x; exact ⟨ob, es, ep, t, k _ _ (.inl rfl) e, c⟩
  | ins C dx fs =>
    obtain ⟨d, z, ne, e, mA, ⟨od, es, ep, e2, c⟩, r⟩ := x
    exact ⟨ho _ d, z, ne, k _ _ (.inl rfl) e, mA, ⟨od, es, ep, k _ _ (.inr d) e2, c⟩, r⟩
  | own y => obtain ⟨ob, e⟩ := x; exact ⟨ob, k _ _ (.inl rfl) e⟩
  | xd fs => obtain ⟨mA, ⟨od, es, ep, e, c⟩, r⟩ := x; exact ⟨mA, ⟨od, es, ep, k _ _ (.inl rfl) e, c⟩, r⟩
  | rng lo hi => obtain ⟨t, u, v, e⟩ := x; exact ⟨t, u, v, k _ _ (.inl rfl) e⟩
  | frz ob u ih => obtain ⟨e, q⟩ := x; exact ⟨k _ _ (.inl rfl) e, ih q⟩
  | tbl ps =>
    have e : h.get? a = some { cls := .none, data := .fields ps } := x
    show h'.get? a = some { cls := .none, data := .fields ps }
    exact k a _ (.inl rfl) e
  | met f y =>
    have e : h.get? a = some (PySem.W.methodObj (.ref f) (.ref y)) := x
    show h'.get? a = some (PySem.W.methodObj (.ref f) (.ref y))
    exact k a _ (.inl rfl) e
  | ext φ => obtain ⟨p, ⟨o, e⟩, st⟩ := x; exact ⟨st _ _ p fun o q => k _ _ (.inl rfl) q, ⟨o, k _ _ (.inl rfl) e⟩, st⟩
theorem HOk.lt (x : HOk P w H h) (e : H a = some o) : a < h.objs.size := (x a o e).lt
theorem HOk.fresh (x : HOk P w H h) (e : h.objs.size ≤ a) : H a = none := by
  cases q : H a with
  | none => rfl
  | some u => exact absurd (Nat.lt_of_lt_of_le (x.lt q) e) (Nat.lt_irrefl _)
theorem HOk.kept (x : HOk P w H h) (k : ∀ b u, h.get? b = some u → h'.get? b = some u) : HOk P w H h' := fun a o e =>
  (x a o e).stay (fun b u _ q => k b u q) (fun _ q => q) fun _ _ q => q
theorem HOk.laid (x : HOk P w H h) (k : ∀ b u, h.get? b = some u → h'.get? b = some u) (hp : h.objs.size ≤ a) (new : ObjOk P w (upd H a o) h' a o) : HOk P w (upd H a o) h' := fun b u e => by
  have hn := x.fresh hp
  by_cases hb : b = a
  · subst hb; rw [upd_same] at e; cases e; exact new
  · rw [upd_ne hb] at e
    exact (x b u e).stay (fun c v _ q => k c v q) (fun c q => by rw [upd_ne (ne_of_none q hn)]; exact q) fun c xs q => by rw [upd_ne (ne_of_none q hn)]; exact q
end
def Rd (H : Hp) (a : Addr) (u : HO) : Prop := H a = some u ∨ ∃ o, H a = some (.frz o u)
theorem Rd.of {H : Hp} {a : Addr} {u : HO} (h : H a = some u) : Rd H a u := .inl h
theorem Rd.ok {P : Program} {w : World} {H : Hp} {h : Heap} {a : Addr} {u : HO} (r : Rd H a u) (x : HOk P w H h) : ObjOk P w H h a u := by
  rcases r with r | ⟨o, r⟩
  · exact x a u r
  · obtain ⟨_, q⟩ := x a _ r
    exact q
def Mut : Option HO → Prop
  | some (.lst _) => True
  | some (.dK _) => True
  | some (.dT _) => True
  | some (.set _ _) => True
  | some (.ins _ _ _) => True
  | some (.ext _) => True
  | _ => False
section
variable {P : Program} {w : World} {H : Hp} {h h' : Heap} {x e : Addr} {o' : HO}
theorem HOk.write (ok : HOk P w H h) (mu : Mut (H x)) (he : e = x ∨ H e = some (.own x)) (k : ∀ b u, b ≠ e → h.get? b = some u → h'.get? b = some u) (heo : ∃ u, h'.get? e = some u)
    (new : ObjOk P w (upd H x o') h' x o') : HOk P w (upd H x o') h' := fun b u q => by
  have nown : ∀ c y, H c = some (.own y) → c ≠ x := fun c y r z => by subst z; rw [r] at mu; exact mu
  have ntup : ∀ c xs, H c = some (.tup xs) → c ≠ x := fun c xs r z => by subst z; rw [r] at mu; exact mu
  by_cases hb : b = x
  · subst hb; rw [upd_same] at q; cases q; exact new
  · rw [upd_ne hb] at q
    by_cases hbe : b = e
    · have q' : H b = some (.own x) := by
        rcases he with z | z
        · exact absurd (hbe.trans z) hb
        · rw [hbe]; exact z
      rw [q] at q'; cases q'
      obtain ⟨v, hv⟩ := heo
      exact ⟨v, by rw [hbe]; exact hv⟩
    · refine (ok b u q).stay (fun c v hc r => k c v ?_ r) (fun c r => by rw [upd_ne (nown c b r)]; exact r) fun c xs r => by rw [upd_ne (ntup c xs r)]; exact r
      rcases hc with rfl | hc
      · exact hbe
      · rintro rfl
        rcases he with z | z
        · exact nown c b hc z
        · rw [hc] at z; cases z; exact hb rfl
end
structure Un (fs ex : List Addr) (H H' : Hp) (h h' : Heap) : Prop where
  keep : ∀ b o, h.get? b = some o → H b = none → b ∉ fs → b ∉ ex → h'.get? b = some o
  slot : ∀ b o, h.get? b = some o → H b = none → b ∈ fs → b ∉ ex → ∃ sl, h'.get? b = some { o with slots := sl }
  free : ∀ b o, h.get? b = some o → H b = none → b ∉ ex → H' b = none
  there : ∀ b o, h.get? b = some o → b ∉ ex → ∃ o', h'.get? b = some o'
  tups : ∀ b xs, H b = some (.tup xs) → H' b = some (.tup xs)
  frzs : ∀ b o u, H b = some (.frz o u) → H' b = some (.frz o u)
  tbls : ∀ b ps, H b = some (.tbl ps) → ∃ more, H' b = some (.tbl (ps ++ more))
section
variable {fs fs' ex ex' : List Addr} {H H1 H2 : Hp} {h h1 h2 h' : Heap} {a x e : Addr} {o : HO}
theorem Un.any (u : Un fs ex H H1 h h1) {b : Addr} {ob : Obj} (q : h.get? b = some ob) (n : H b = none) (hx : b ∉ ex) : ∃ sl, h1.get? b = some { ob with slots := sl } := by
  by_cases hb : b ∈ fs
  · exact u.slot b ob q n hb hx
  · exact ⟨ob.slots, u.keep b ob q n hb hx⟩
theorem Un.trans (a : Un fs ex H H1 h h1) (b : Un fs ex H1 H2 h1 h2) : Un fs ex H H2 h h2 where
  keep := fun c ob q n hc hx => b.keep c ob (a.keep c ob q n hc hx) (a.free c ob q n hx) hc hx
  slot := fun c ob q n hc hx => by
    obtain ⟨sl, e1⟩ := a.slot c ob q n hc hx
    obtain ⟨sl', e2⟩ := b.slot c _ e1 (a.free c ob q n hx) hc hx
    exact ⟨sl', e2⟩
  free := fun c ob q n hx => by
    obtain ⟨o', e1⟩ := a.there c ob q hx
    exact b.free c o' e1 (a.free c ob q n hx) hx
  there := fun c ob q hx => by
    obtain ⟨o', e1⟩ := a.there c ob q hx
    exact b.there c o' e1 hx
  tups := fun c xs q => b.tups c xs (a.tups c xs q)
  frzs := fun c ob xs q => b.frzs c ob xs (a.frzs c ob xs q)
  tbls := fun c ps q => by
    obtain ⟨m1, e1⟩ := a.tbls c ps q
    obtain ⟨m2, e2⟩ := b.tbls c _ e1
    exact ⟨m1 ++ m2, by rw [e2, Array.append_assoc]⟩
theorem Un.kept (k : ∀ b u, h.get? b = some u → h'.get? b = some u) : Un fs ex H H h h' :=
  ⟨fun b ob q _ _ _ => k b ob q, fun b ob q _ _ _ => ⟨ob.slots, k b ob q⟩, fun _ _ _ n _ => n, fun b ob q _ => ⟨ob, k b ob q⟩, fun _ _ q => q, fun _ _ _ q => q, fun _ ps q => ⟨#[], by rw [q]; simp⟩⟩
theorem Un.refl : Un fs ex H H h h := Un.kept fun _ _ q => q
theorem Un.laid (k : ∀ b u, h.get? b = some u → h'.get? b = some u) (hp : h.objs.size ≤ a) (hn : H a = none) : Un fs ex H (upd H a o) h h' where
  keep := fun b u q _ _ _ => k b u q
  slot := fun b u q _ _ _ => ⟨u.slots, k b u q⟩
  free := fun b u q n _ => by rw [upd_ne (Nat.ne_of_lt (Nat.lt_of_lt_of_le (Heap.lt_size q) hp))]; exact n
  there := fun b u q _ => ⟨u, k b u q⟩
  tups := fun b xs q => by rw [upd_ne (ne_of_none q hn)]; exact q
  frzs := fun b u xs q => by rw [upd_ne (ne_of_none q hn)]; exact q
  tbls := fun b ps q => ⟨#[], by rw [upd_ne (ne_of_none q hn), q]; simp⟩
theorem Un.write (mu : Mut (H x)) (he : e = x ∨ H e = some (.own x)) (k : ∀ b u, b ≠ e → h.get? b = some u → h'.get? b = some u) (heo : ∃ u, h'.get? e = some u) : Un fs ex H (upd H x o) h h' := by
  have hx : ∀ b, H b = none → b ≠ x := fun b n z => by subst z; rw [n] at mu; exact mu
  have hb : ∀ b, H b = none → b ≠ e := fun b n z => by
    subst z
    rcases he with r | r
    · exact hx b n r
    · rw [n] at r; cases r
  have hm : ∀ b u, H b = some u → ¬ Mut (some u) → b ≠ x := fun b u q nm z => by subst z; rw [q] at mu; exact nm mu
  refine ⟨fun b u q n _ _ => k b u (hb b n) q, fun b u q n _ _ => ⟨u.slots, k b u (hb b n) q⟩, fun b u q n _ => by rw [upd_ne (hx b n)]; exact n, fun b u q _ => ?_,
    fun b xs q => by rw [upd_ne (hm b _ q fun z => z)]; exact q, fun b u xs q => by rw [upd_ne (hm b _ q fun z => z)]; exact q, fun b ps q => ⟨#[], by rw [upd_ne (hm b _ q fun z => z), q]; simp⟩⟩
  by_cases hbe : b = e
  · subst hbe; exact heo
  · exact ⟨u, k b u hbe q⟩
theorem Un.mono (u : Un fs ex H H1 h h1) (hs : ∀ b ∈ fs, b ∈ fs') (hx : ∀ b ∈ ex, b ∈ ex') : Un fs' ex' H H1 h h1 :=
  ⟨fun b ob q n hb he => u.keep b ob q n (fun z => hb (hs b z)) fun z => he (hx b z), fun _ _ q n _ he => u.any q n fun z => he (hx _ z), fun b ob q n he => u.free b ob q n fun z => he (hx b z), fun b ob q he => u.there b ob q fun z => he (hx b z), u.tups, u.frzs, u.tbls⟩
end
def trk (h : Heap) (H : Hp) : List Addr := (List.range h.objs.size).filter fun a => (H a).isSome
def hidT (h : Heap) (H : Hp) : Heap := PySem.W.hideAll h (trk h H)
theorem hidT_size (h : Heap) (H : Hp) : (hidT h H).objs.size = h.objs.size := PySem.W.hideAll_size _ _
theorem hidT_get {h : Heap} {H : Hp} {b : Addr} {o : Obj} (e : h.get? b = some o) (n : H b = none) : (hidT h H).get? b = some o :=
  PySem.W.hideAll_get _ e fun hm => by
    have q : (H b).isSome = true := (List.mem_filter.mp hm).2
    rw [n] at q; simp at q
theorem of_hidT {h : Heap} {H : Hp} {b : Addr} {o : Obj} (e : (hidT h H).get? b = some o) : h.get? b = some o ∧ H b = none := by
  have e' : h.get? b = some o := PySem.W.of_hideAll (trk h H) e
  refine ⟨e', ?_⟩
  cases q : H b with
  | none => rfl
  | some x =>
    have hm : b ∈ trk h H := List.mem_filter.mpr ⟨List.mem_range.mpr (Heap.lt_size e'), by simp [q]⟩
    have z : (hidT h H).get? b = none := PySem.W.hideAll_none (trk h H) hm
    rw [z] at e; cases e
def allNews (g h : Heap) (L : Addr) : List (Addr × Obj) := (List.range h.objs.size).filterMap fun a => if a = L ∨ (g.get? a).isSome = true then none else (h.get? a).map fun o => (a, o)
def rest (g h : Heap) (L d : Addr) : List (Addr × Obj) := (allNews g h L).filter fun p => decide (p.1 ≠ d)
end L2
namespace L2
open PySem PySem.Spec PyProof.Rows
structure Mod (K : PySem.W.Frag) (mg : Str → Option Value) (base : Heap) : Prop where
  kin : K.In base
  glob : base.Ns mainGlobals mg
  blt : ∃ mb, base.Ns builtinsNs mb ∧ ∀ x : Str, x ≠ "__name__" → mb x = bootBuiltins x
  nolimit : base.NoLimit
structure Cx where
  prog : Program
  w : World
  K : PySem.W.Frag
  mg : Str → Option Value
  base : Heap
  A : Around
  N : List Str
  s₀ : Shared
  H₀ : Hp
  env : Env
  outer : List Env
  stack : List Env
  ex : List Addr
  fn : Str → Bool
  calm : Bool
  pn : List (Addr × Obj)
  xe : Value → Shared → Prop
def frs (l : List Env) : List Addr := l.filterMap (·.frame)
abbrev Cx.fs (X : Cx) : List Addr := frs X.outer
def Vis (sc : Scope) (x : Str) : Prop := sc.names.lookup x = some .local ∨ sc.names.lookup x = some .cell ∨ sc.names.lookup x = some .free
def Loc (sc : Scope) (x : Str) : Prop := sc.names.lookup x = some .local ∨ sc.names.lookup x = some .cell
def Look (env : Env) (h : Heap) (m : Str → Option Value) (x : Str) (u : Value) : Prop :=
  (env.kindOf x = some .local ∧ m x = some u) ∨ ((env.kindOf x = some .cell ∨ env.kindOf x = some .free) ∧ ∃ c, env.cells.lookup x = some c ∧ h.IsCell c (some u))
structure Cx.Ok (X : Cx) : Prop where
  mod : Mod X.K X.mg X.base
  kind : X.env.scope.kind = .function
  glob : X.env.globals = mainGlobals
  blt : X.env.builtins = builtinsNs
  above : X.s₀.heap.objs.size ≤ X.env.locals
  inj : ∀ x y c, X.env.cells.lookup x = some c → X.env.cells.lookup y = some c → x = y
  has : ∀ x, (X.env.kindOf x = some .cell ∨ X.env.kindOf x = some .free) → ∃ c, X.env.cells.lookup x = some c
  cab : ∀ x c, X.fn x = true → X.env.cells.lookup x = some c → X.s₀.heap.objs.size ≤ c
  hd : X.calm = true → X.A.handled = none
  frames : X.A.frames = some X.stack
  stk : X.stack = X.outer ∨ (X.stack = X.env :: X.outer ∧ X.env.frame = some X.env.locals)
  exf : ∀ b ∈ X.ex, b ≠ X.env.locals ∧ ∀ x c, X.env.cells.lookup x = some c → c ≠ b
  bs : ∀ b o, X.base.get? b = some o → X.s₀.heap.get? b = some o ∧ X.H₀ b = none
  bsz : X.base.objs.size ≤ X.s₀.heap.objs.size
  noex : ∀ b o, X.base.get? b = some o → b ∉ X.ex
  exfs : ∀ b ∈ X.ex, b ∉ X.fs
  funs : X.s₀.heap.FunFrames X.base X.outer
  frf : ∀ b ∈ X.fs, X.H₀ b = none
structure Inv (X : Cx) (pins : List (Addr × Obj)) (σ : List (Option V)) (H : Hp) (s : Shared) : Prop where
  ok : X.Ok
  os : s.os = X.s₀.os
  bare : AllBare s.gens
  base : Un X.fs X.ex X.H₀ H X.s₀.heap s.heap
  loc : ∃ m, s.heap.Ns X.env.locals m ∧ ∀ (i : Nat) (x : Str) (v : V), X.N[i]? = some x → σ[i]? = some (some v) → Vis X.env.scope x → ∃ u, RelV v u ∧ Look X.env s.heap m x u
  cell : ∀ x c, X.env.cells.lookup x = some c → ∃ v, s.heap.IsCell c v
  free : H X.env.locals = none
  freeC : ∀ x c, X.env.cells.lookup x = some c → H c = none
  pin : ∀ p ∈ X.pn ++ pins, s.heap.get? p.1 = some p.2 ∧ H p.1 = none ∧ p.1 ≠ X.env.locals ∧ p.1 ∉ X.fs ∧ ∀ v, p.2.data ≠ .cell v
  hok : HOk X.prog X.w H s.heap
  len : σ.length = X.N.length
section
variable {X : Cx} {pins : List (Addr × Obj)} {σ : List (Option V)} {H H' : Hp} {s : Shared} {h' : Heap}
theorem Cx.Ok.nofr (ok : X.Ok) {b : Addr} {o : Obj} (e : X.base.get? b = some o) : b ∉ X.fs := fun hb => by
  have := (ok.funs.mem hb).1
  rw [e] at this; cases this
theorem Inv.bs (I : Inv X pins σ H s) : ∀ b o, X.base.get? b = some o → s.heap.get? b = some o ∧ H b = none := fun b o e =>
  ⟨I.base.keep b o (I.ok.bs b o e).1 (I.ok.bs b o e).2 (I.ok.nofr e) (I.ok.noex b o e), I.base.free b o (I.ok.bs b o e).1 (I.ok.bs b o e).2 (I.ok.noex b o e)⟩
theorem Inv.bk (I : Inv X pins σ H s) : ∀ b o, X.base.get? b = some o → s.heap.get? b = some o := fun b o e => (I.bs b o e).1
theorem Inv.mod (I : Inv X pins σ H s) : Mod X.K X.mg X.base := I.ok.mod
theorem Inv.kIn (I : Inv X pins σ H s) : X.K.In s.heap := I.ok.mod.kin.keeps I.bk
theorem Inv.nolimit (I : Inv X pins σ H s) : s.heap.NoLimit := I.ok.mod.nolimit.keeps I.bk
theorem Inv.fr (I : Inv X pins σ H s) : ∃ m, Fr X.base X.env.locals s.heap m :=
  let ⟨m, hn, _⟩ := I.loc
  ⟨m, hn, I.bk, Nat.le_trans I.ok.bsz I.ok.above⟩
theorem Inv.lt (I : Inv X pins σ H s) : X.env.locals < s.heap.objs.size := let ⟨_, hn, _⟩ := I.loc; hn.lt
theorem Inv.sz (I : Inv X pins σ H s) : X.s₀.heap.objs.size ≤ s.heap.objs.size := Nat.le_trans I.ok.above (Nat.le_of_lt I.lt)
theorem Inv.nofs (I : Inv X pins σ H s) {a : Addr} (h : s.heap.objs.size ≤ a) : a ∉ X.fs := fun hb => by
  obtain ⟨_, o, ho, _⟩ := I.ok.funs.mem hb
  exact absurd (Nat.lt_of_lt_of_le (Heap.lt_size ho) (Nat.le_trans I.sz h)) (Nat.lt_irrefl _)
theorem Inv.cne (I : Inv X pins σ H s) : ∀ x c, X.env.cells.lookup x = some c → c ≠ X.env.locals := fun x c e z => by
  obtain ⟨v, o, ho, hd⟩ := I.cell x c e
  obtain ⟨m, ⟨o', es, ep, ho', hd', _⟩, _⟩ := I.loc
  rw [z, ho'] at ho; cases ho; rw [hd'] at hd; cases hd
theorem Inv.funs (I : Inv X pins σ H s) : s.heap.FunFrames X.base X.outer := by
  have all : ∀ (l : List Env), (∀ b ∈ frs l, b ∈ X.fs) → X.s₀.heap.FunFrames X.base l → s.heap.FunFrames X.base l := by
    intro l
    induction l with
    | nil => intro _ _; trivial
    | cons env r ih =>
      intro hs hl
      obtain ⟨hk, ⟨L, o, hf, hn, ho, hd⟩, hr⟩ := hl
      have hL : L ∈ X.fs := hs L (by unfold frs; rw [List.filterMap_cons, hf]; exact List.mem_cons_self)
      obtain ⟨sl, e⟩ := I.base.slot L o ho (I.ok.frf L hL) hL fun z => I.ok.exfs L z hL
      exact ⟨hk, ⟨L, _, hf, hn, e, hd⟩, ih (fun b hb => hs b (by unfold frs; rw [List.filterMap_cons, hf]; exact List.mem_cons_of_mem _ hb)) hr⟩
  exact all X.outer (fun _ hb => hb) I.ok.funs
theorem Inv.stack (I : Inv X pins σ H s) : s.heap.FunFrames X.base X.stack := by
  rcases I.ok.stk with e | ⟨e, hf⟩
  · rw [e]; exact I.funs
  · rw [e]
    obtain ⟨m, hn, _⟩ := I.loc
    refine .cons (by rw [I.ok.kind]; decide) hf hn ?_ I.funs
    exact Heap.get?_none_of_le (Nat.le_trans I.ok.bsz I.ok.above)
theorem Inv.stkSub (I : Inv X pins σ H s) : ∀ b ∈ frs X.stack, b ∈ X.env.locals :: X.fs := fun b hb => by
  rcases I.ok.stk with e | ⟨e, hf⟩
  · rw [e] at hb; exact List.mem_cons_of_mem _ hb
  · rw [e] at hb
    unfold frs at hb
    rw [List.filterMap_cons, hf] at hb
    exact hb
theorem Inv.stkFree (I : Inv X pins σ H s) : ∀ b ∈ frs X.stack, H b = none := fun b hb => by
  rcases List.mem_cons.mp (I.stkSub b hb) with e | hb
  · rw [e]; exact I.free
  · obtain ⟨_, o, ho, _⟩ := I.ok.funs.mem hb
    exact I.base.free b o ho (I.ok.frf b hb) fun z => I.ok.exfs b z hb
theorem Inv.step {g' : Array GenState} {t' : Nat} {d' : Drawn} {ch : List Addr} (I : Inv X pins σ H s)
    (hch : ∀ b ∈ ch, (b ∈ X.ex ∨ X.s₀.heap.objs.size ≤ b) ∧ b ≠ X.env.locals ∧ (∀ x c, X.env.cells.lookup x = some c → c ≠ b) ∧ ∀ p ∈ X.pn ++ pins, p.1 ≠ b)
    (keep : ∀ b o, b ≠ X.env.locals → b ∉ X.fs → b ∉ ch → s.heap.get? b = some o → H b = none → h'.get? b = some o)
    (slot : ∀ b o, b ≠ X.env.locals → b ∈ X.fs → b ∉ ch → s.heap.get? b = some o → H b = none → ∃ sl, h'.get? b = some { o with slots := sl }) (free : ∀ b o, b ∉ ch → s.heap.get? b = some o → H b = none → H' b = none)
    (there : ∀ b o, b ∉ ch → s.heap.get? b = some o → ∃ o', h'.get? b = some o')
    (tups : ∀ b xs, H b = some (.tup xs) → H' b = some (.tup xs)) (frzs : ∀ b o u, H b = some (.frz o u) → H' b = some (.frz o u)) (tbls : ∀ b ps, H b = some (.tbl ps) → ∃ more, H' b = some (.tbl (ps ++ more)))
    (ns : ∀ m, s.heap.Ns X.env.locals m → h'.Ns X.env.locals m) (hok : HOk X.prog X.w H' h') (hg : AllBare g') :
    Inv X pins σ H' { s with heap := h', gens := g', drawn := d', toks := t' } := by
  have neL : ∀ b o, X.s₀.heap.get? b = some o → b ≠ X.env.locals := fun b o e => Nat.ne_of_lt (Nat.lt_of_lt_of_le (Heap.lt_size e) I.ok.above)
  have neC : ∀ b o, X.s₀.heap.get? b = some o → b ∉ X.ex → b ∉ ch := fun b o e hx hb => by
    rcases (hch b hb).1 with z | z
    · exact hx z
    · exact absurd (Nat.lt_of_lt_of_le (Heap.lt_size e) z) (Nat.lt_irrefl _)
  have cellK : ∀ x c, X.env.cells.lookup x = some c → ∀ v, s.heap.IsCell c v → h'.IsCell c v := fun x c e v ⟨o, ho, hd⟩ => by
    have nch : c ∉ ch := fun z => (hch c z).2.2.1 x c e rfl
    by_cases hc : c ∈ X.fs
    · obtain ⟨sl, q⟩ := slot c o (I.cne x c e) hc nch ho (I.freeC x c e)
      exact ⟨_, q, hd⟩
    · exact ⟨o, keep c o (I.cne x c e) hc nch ho (I.freeC x c e), hd⟩
  refine ⟨I.ok, I.os, hg, ⟨fun b o e n hb hx => ?_, fun b o e n hb hx => ?_, fun b o e n hx => ?_, fun b o e hx => ?_, fun b xs e => tups b xs (I.base.tups b xs e), fun b o xs e => frzs b o xs (I.base.frzs b o xs e), fun b ps e => ?_⟩, ?_, fun x c e => ?_, ?_, fun x c e => ?_, fun p hp => ?_, hok, I.len⟩
  · exact keep b o (neL b o e) hb (neC b o e hx) (I.base.keep b o e n hb hx) (I.base.free b o e n hx)
  · obtain ⟨sl, e1⟩ := I.base.slot b o e n hb hx
    obtain ⟨sl', e2⟩ := slot b _ (neL b o e) hb (neC b o e hx) e1 (I.base.free b o e n hx)
    exact ⟨sl', e2⟩
  · obtain ⟨o', e1⟩ := I.base.there b o e hx
    exact free b o' (neC b o e hx) e1 (I.base.free b o e n hx)
  · obtain ⟨o', e1⟩ := I.base.there b o e hx
    exact there b o' (neC b o e hx) e1
  · obtain ⟨m1, e1⟩ := I.base.tbls b ps e
    obtain ⟨m2, e2⟩ := tbls b _ e1
    exact ⟨m1 ++ m2, by rw [e2, Array.append_assoc]⟩
  · obtain ⟨m, hn, hl⟩ := I.loc
    refine ⟨m, ns m hn, fun i x v e1 e2 e3 => ?_⟩
    obtain ⟨u, r, l⟩ := hl i x v e1 e2 e3
    refine ⟨u, r, ?_⟩
    rcases l with l | ⟨k, c, e, z⟩
    · exact .inl l
    · exact .inr ⟨k, c, e, cellK x c e _ z⟩
  · obtain ⟨v, z⟩ := I.cell x c e
    exact ⟨v, cellK x c e v z⟩
  · obtain ⟨m, ⟨o, _, _, ho, _⟩, _⟩ := I.loc
    exact free _ o (fun z => (hch _ z).2.1 rfl) ho I.free
  · obtain ⟨v, o, ho, hd⟩ := I.cell x c e
    exact free c o (fun z => (hch c z).2.2.1 x c e rfl) ho (I.freeC x c e)
  · obtain ⟨e, n, ne, nf, d⟩ := I.pin p hp
    have nch : p.1 ∉ ch := fun z => (hch p.1 z).2.2.2 p hp rfl
    exact ⟨keep p.1 p.2 ne nf nch e n, free p.1 p.2 nch e n, ne, nf, d⟩
theorem Inv.un {t' : Nat} (I : Inv X pins σ H s) (u : Un X.fs [] H H' s.heap h') (hok : HOk X.prog X.w H' h') : Inv X pins σ H' { s with heap := h', toks := t' } := by
  obtain ⟨m, ⟨o, es, ep, ho, r⟩, _⟩ := id I.loc
  obtain ⟨sl, hL⟩ := u.any ho I.free (by simp)
  exact I.step (g' := s.gens) (d' := s.drawn) (ch := []) (fun _ z => nomatch z) (fun b o _ hb _ e n => u.keep b o e n hb (by simp)) (fun b o _ hb _ e n => u.slot b o e n hb (by simp)) (fun b o _ e n => u.free b o e n (by simp)) (fun b o _ e => u.there b o e (by simp)) u.tups u.frzs u.tbls (fun m' hm => by
    obtain ⟨o', es', ep', ho', r'⟩ := hm
    rw [ho] at ho'; cases ho'
    exact ⟨_, es', ep', hL, r'⟩) hok I.bare
theorem Inv.call {g' : Array GenState} {t' : Nat} {d' : Drawn} {ch : List Addr} (I : Inv X pins σ H s) (u : Un (frs X.stack) ch H H' s.heap h') (hok : HOk X.prog X.w H' h') (hg : AllBare g')
    (hch : ∀ b ∈ ch, (b ∈ X.ex ∨ X.s₀.heap.objs.size ≤ b) ∧ b ≠ X.env.locals ∧ (∀ x c, X.env.cells.lookup x = some c → c ≠ b) ∧ ∀ p ∈ X.pn ++ pins, p.1 ≠ b) :
    Inv X pins σ H' { s with heap := h', gens := g', drawn := d', toks := t' } := by
  obtain ⟨m, ⟨o, es, ep, ho, r⟩, _⟩ := id I.loc
  obtain ⟨sl, hL⟩ := u.any ho I.free fun z => (hch _ z).2.1 rfl
  exact I.step (ch := ch) hch (fun b o hL hb hc e n => u.keep b o e n (fun z => (List.mem_cons.mp (I.stkSub b z)).elim hL hb) hc) (fun b o _ _ hc e n => u.any e n hc) (fun b o hc e n => u.free b o e n hc) (fun b o hc e => u.there b o e hc) u.tups u.frzs u.tbls (fun m' hm => by
    obtain ⟨o', es', ep', ho', r'⟩ := hm
    rw [ho] at ho'; cases ho'
    exact ⟨_, es', ep', hL, r'⟩) hok hg
theorem Inv.turned {t' : Nat} {it : Addr} (I : Inv X pins σ H s) (k : ∀ b o, b ≠ it → s.heap.get? b = some o → h'.get? b = some o) (hn : H it = none) (hL : it ≠ X.env.locals)
    (h1 : it ∈ X.ex ∨ X.s₀.heap.objs.size ≤ it) (h2 : ∀ x c, X.env.cells.lookup x = some c → c ≠ it) (h3 : ∀ p ∈ X.pn ++ pins, p.1 ≠ it) : Inv X pins σ H { s with heap := h', toks := t' } := by
  have nit : ∀ b u, H b = some u → b ≠ it := fun b u e z => by rw [z, hn] at e; cases e
  refine I.step (g' := s.gens) (d' := s.drawn) (ch := [it]) (fun b hb => ?_) (fun b o _ _ hc e _ => k b o (fun z => hc (by simp [z])) e) (fun b o _ _ hc e _ => ⟨o.slots, k b o (fun z => hc (by simp [z])) e⟩) (fun _ _ _ _ n => n)
    (fun b o hc e => ⟨o, k b o (fun z => hc (by simp [z])) e⟩) (fun _ _ e => e) (fun _ _ _ e => e) (fun b ps e => ⟨#[], by rw [e]; simp⟩) (fun m hm => ?_) (fun b u e => ?_) I.bare
  · have e : b = it := by simpa using hb
    subst e
    exact ⟨h1, hL, h2, h3⟩
  · obtain ⟨o, es, ep, ho, r⟩ := hm
    exact ⟨o, es, ep, k _ o (Ne.symm hL) ho, r⟩
  · refine (I.hok b u e).stay (fun c v hc q => k c v ?_ q) (fun _ q => q) fun _ _ q => q
    rcases hc with z | z
    · rw [z]; exact nit b u e
    · exact nit c _ z
theorem Inv.tok (I : Inv X pins σ H s) (t : Nat) : Inv X pins σ H { s with toks := t } := I.un (h' := s.heap) (t' := t) Un.refl I.hok
theorem Inv.kept {t' : Nat} (I : Inv X pins σ H s) (k : ∀ b u, s.heap.get? b = some u → h'.get? b = some u) : Inv X pins σ H { s with heap := h', toks := t' } := I.un (Un.kept k) (I.hok.kept k)
theorem Inv.laid {a : Addr} {o : HO} {t' : Nat} (I : Inv X pins σ H s) (k : ∀ b u, s.heap.get? b = some u → h'.get? b = some u) (hp : s.heap.objs.size ≤ a) (new : ObjOk X.prog X.w (upd H a o) h' a o) :
    Inv X pins σ (upd H a o) { s with heap := h', toks := t' } := I.un (Un.laid k hp (I.hok.fresh hp)) (I.hok.laid k hp new)
theorem Inv.write {x e : Addr} {o : HO} {t' : Nat} (I : Inv X pins σ H s) (mu : Mut (H x)) (he : e = x ∨ H e = some (.own x)) (k : ∀ b u, b ≠ e → s.heap.get? b = some u → h'.get? b = some u) (heo : ∃ u, h'.get? e = some u)
    (new : ObjOk X.prog X.w (upd H x o) h' x o) : Inv X pins σ (upd H x o) { s with heap := h', toks := t' } := I.un (Un.write mu he k heo) (I.hok.write mu he k heo new)
theorem Inv.weak {σ' : List (Option V)} (I : Inv X pins σ H s) (hl : σ'.length = σ.length) (w : ∀ (i : Nat) v, σ'[i]? = some (some v) → σ[i]? = some (some v)) : Inv X pins σ' H s :=
  ⟨I.ok, I.os, I.bare, I.base, let ⟨m, hn, hl'⟩ := I.loc; ⟨m, hn, fun i x v e1 e2 e3 => hl' i x v e1 (w i v e2) e3⟩, I.cell, I.free, I.freeC, I.pin, I.hok, hl.trans I.len⟩
theorem Inv.pins_of {pins' : List (Addr × Obj)} (I : Inv X pins σ H s) (h : ∀ p ∈ pins', s.heap.get? p.1 = some p.2 ∧ H p.1 = none ∧ p.1 ≠ X.env.locals ∧ p.1 ∉ X.fs ∧ ∀ v, p.2.data ≠ .cell v) : Inv X pins' σ H s :=
  ⟨I.ok, I.os, I.bare, I.base, I.loc, I.cell, I.free, I.freeC, fun p hp => (List.mem_append.mp hp).elim (fun z => I.pin p (List.mem_append_left _ z)) (h p), I.hok, I.len⟩
theorem nodup_ix {N : List Str} (hN : N.Nodup) {i j : Nat} {x : Str} (a : N[i]? = some x) (b : N[j]? = some x) : i = j := by
  obtain ⟨h1, e1⟩ := List.getElem?_eq_some_iff.mp a
  obtain ⟨h2, e2⟩ := List.getElem?_eq_some_iff.mp b
  exact (List.getElem_inj hN).mp (e1.trans e2.symm)
theorem store_ok2 {M : Model} {A : Around} {E : Value → Shared → Prop} {i : Nat} {x : Str} {v : V} {u : Value} {Q : Unit → Shared → Prop} (I : Inv X pins σ H s) (hN : X.N.Nodup) (hi : X.N[i]? = some x) (hx : Loc X.env.scope x) (r : RelV v u)
    (h : ∀ s', Inv X pins (σ.set i (some v)) H s' → (∃ a, Heap.SameBut a s.heap s'.heap ∧ (a = X.env.locals ∨ X.env.cells.lookup x = some a)) → Q () s') (hf : X.fn x = true ∨ X.env.scope.names.lookup x = some .local := by first | exact .inl rfl | exact .inr rfl | assumption) : wpAny M A (storeName X.env x u) Q E s := by
  obtain ⟨m, hn, hl⟩ := id I.loc
  have hcls : (X.env.scope.kind == .class || (X.env.scope.kind == .module && X.env.locals != X.env.globals)) = false := by rw [I.ok.kind]; rfl
  have hiσ : i < σ.length := by rw [I.len]; exact (List.getElem?_eq_some_iff.mp hi).1
  have cne := I.cne
  have tracked : ∀ {a : Addr} {h' : Heap}, (∃ o, s.heap.get? a = some o ∧ H a = none) → Heap.SameBut a s.heap h' → HOk X.prog X.w H h' := fun {a h'} ha hs b ob e => by
    obtain ⟨_, _, hfree⟩ := ha
    refine (I.hok b ob e).stay (fun c w' hc q => (hs.2 c ?_).trans q) (fun _ q => q) fun _ _ q => q
    rintro rfl
    rcases hc with rfl | hc
    · rw [hfree] at e; cases e
    · rw [hfree] at hc; cases hc
  rcases hx with hk | hk
  · refine wpAny_storeName_local hk hn (fun h' hn' hs => ?_) hcls
    obtain ⟨oL, _, _, hoL, _⟩ := id hn
    refine h _ ⟨I.ok, I.os, I.bare, ⟨fun b o e n hb hx => ?_, fun b o e n hb hx => ?_, I.base.free, fun b o e hx => ?_, I.base.tups, I.base.frzs, I.base.tbls⟩, ⟨_, hn', fun j y v' e1 e2 e3 => ?_⟩, fun y c e => ?_, I.free, I.freeC, fun p hp => ?_, tracked ⟨oL, hoL, I.free⟩ hs, by simpa using I.len⟩ ⟨_, hs, .inl rfl⟩
    · exact (hs.2 b (Nat.ne_of_lt (Nat.lt_of_lt_of_le (Heap.lt_size e) I.ok.above))).trans (I.base.keep b o e n hb hx)
    · obtain ⟨sl, e1⟩ := I.base.slot b o e n hb hx
      exact ⟨sl, (hs.2 b (Nat.ne_of_lt (Nat.lt_of_lt_of_le (Heap.lt_size e) I.ok.above))).trans e1⟩
    · obtain ⟨o', e1⟩ := I.base.there b o e hx
      exact ⟨o', (hs.2 b (Nat.ne_of_lt (Nat.lt_of_lt_of_le (Heap.lt_size e) I.ok.above))).trans e1⟩
    · by_cases hj : j = i
      · subst hj
        rw [hi] at e1; cases e1
        rw [List.getElem?_set_self hiσ] at e2
        cases e2
        exact ⟨u, r, .inl ⟨hk, by simp⟩⟩
      · rw [List.getElem?_set_ne (Ne.symm hj)] at e2
        obtain ⟨u', r', q⟩ := hl j y v' e1 e2 e3
        refine ⟨u', r', ?_⟩
        rcases q with ⟨k, e⟩ | ⟨k, c, e, z⟩
        · refine .inl ⟨k, ?_⟩
          have : y ≠ x := fun e => hj (nodup_ix hN e1 (e ▸ hi))
          simp [this, e]
        · exact .inr ⟨k, c, e, z.sameBut hs (cne y c e)⟩
    · obtain ⟨w', z⟩ := I.cell y c e
      exact ⟨w', z.sameBut hs (cne y c e)⟩
    · obtain ⟨e, n, ne, nf, d⟩ := I.pin p hp
      exact ⟨(hs.2 p.1 ne).trans e, n, ne, nf, d⟩
  · have hfn : X.fn x = true := by
      rcases hf with z | z
      · exact z
      · rw [z] at hk; cases hk
    obtain ⟨c, hc⟩ := I.ok.has x (.inl hk)
    obtain ⟨w', z⟩ := I.cell x c hc
    refine wpAny_storeName_cell I.ok.kind hk hc z (fun h' hc' hs => ?_)
    obtain ⟨oc, hoc, hocd⟩ := id z
    refine h { s with heap := h' } ⟨I.ok, I.os, I.bare, ⟨fun b o e n hb hx => ?_, fun b o e n hb hx => ?_, I.base.free, fun b o e hx => ?_, I.base.tups, I.base.frzs, I.base.tbls⟩, ⟨m, hn.sameBut hs (Ne.symm (cne x c hc)), fun j y v' e1 e2 e3 => ?_⟩, fun y c' e => ?_, I.free, I.freeC, fun p hp => ?_, tracked ⟨oc, hoc, I.freeC x c hc⟩ hs, by simpa using I.len⟩ ⟨c, hs, .inr hc⟩
    · exact (hs.2 b (Nat.ne_of_lt (Nat.lt_of_lt_of_le (Heap.lt_size e) (I.ok.cab x c hfn hc)))).trans (I.base.keep b o e n hb hx)
    · obtain ⟨sl, e1⟩ := I.base.slot b o e n hb hx
      exact ⟨sl, (hs.2 b (Nat.ne_of_lt (Nat.lt_of_lt_of_le (Heap.lt_size e) (I.ok.cab x c hfn hc)))).trans e1⟩
    · obtain ⟨o', e1⟩ := I.base.there b o e hx
      exact ⟨o', (hs.2 b (Nat.ne_of_lt (Nat.lt_of_lt_of_le (Heap.lt_size e) (I.ok.cab x c hfn hc)))).trans e1⟩
    · by_cases hj : j = i
      · subst hj
        rw [hi] at e1; cases e1
        rw [List.getElem?_set_self hiσ] at e2
        cases e2
        exact ⟨u, r, .inr ⟨.inl hk, c, hc, hc'⟩⟩
      · rw [List.getElem?_set_ne (Ne.symm hj)] at e2
        obtain ⟨u', r', q⟩ := hl j y v' e1 e2 e3
        refine ⟨u', r', ?_⟩
        rcases q with q | ⟨k, c', e, z'⟩
        · exact .inl q
        · refine .inr ⟨k, c', e, z'.sameBut hs ?_⟩
          rintro rfl
          exact hj (nodup_ix hN e1 (I.ok.inj _ _ _ e hc ▸ hi))
    · by_cases hcc : c' = c
      · subst hcc; exact ⟨_, hc'⟩
      · obtain ⟨w2, z2⟩ := I.cell y c' e
        exact ⟨w2, z2.sameBut hs hcc⟩
    · obtain ⟨e, n, ne, nf, d⟩ := I.pin p hp
      refine ⟨(hs.2 p.1 ?_).trans e, n, ne, nf, d⟩
      intro q
      rw [q, hoc] at e
      have q' : oc = p.2 := Option.some.inj e
      exact d w' (by rw [← q']; exact hocd)
theorem store_ok {M : Model} {A : Around} {E : Value → Shared → Prop} {i : Nat} {x : Str} {v : V} {u : Value} {Q : Unit → Shared → Prop} (I : Inv X pins σ H s) (hN : X.N.Nodup) (hi : X.N[i]? = some x) (hx : Loc X.env.scope x) (r : RelV v u)
    (h : ∀ s', Inv X pins (σ.set i (some v)) H s' → Q () s') (hf : X.fn x = true ∨ X.env.scope.names.lookup x = some .local := by first | exact .inl rfl | exact .inr rfl | assumption) : wpAny M A (storeName X.env x u) Q E s :=
  store_ok2 I hN hi hx r (fun s' I' _ => h s' I') hf
theorem Inv.call' {s' : Shared} {ch : List Addr} (I : Inv X pins σ H s) (ho : s'.os = s.os) (u : Un (frs X.stack) ch H H' s.heap s'.heap) (hok : HOk X.prog X.w H' s'.heap) (hg : AllBare s'.gens)
    (hch : ∀ b ∈ ch, (b ∈ X.ex ∨ X.s₀.heap.objs.size ≤ b) ∧ b ≠ X.env.locals ∧ (∀ x c, X.env.cells.lookup x = some c → c ≠ b) ∧ ∀ p ∈ X.pn ++ pins, p.1 ≠ b) : Inv X pins σ H' s' := by
  obtain ⟨h', g', d', t', o'⟩ := s'
  have e : o' = s.os := ho
  subst e
  exact I.call (g' := g') (t' := t') (d' := d') u hok hg hch
end
abbrev XK := Value → Option Addr → Hp → Prop
abbrev St := List (Option V)
abbrev VK := V → Hp → Prop
abbrev TE := St → Hp → VK → Prop
abbrev TT := St → Hp → (Bool → Hp → Prop) → Prop
abbrev TA := St → Hp → (List V → Hp → Prop) → Prop
structure Ends where
  nx : St → Hp → Prop
  rt : VK
  bk : St → Hp → Prop := fun _ _ => False
  ct : St → Hp → Prop := fun _ _ => False
abbrev TS := Ends → St → Hp → Prop
def EP (X : Cx) (pins : List (Addr × Obj)) (σ : St) (Q : VK) (u : Value) (s' : Shared) : Prop := ∃ v H', Inv X pins σ H' s' ∧ RelV v u ∧ Q v H'
def TP (X : Cx) (pins : List (Addr × Obj)) (σ : St) (Q : Bool → Hp → Prop) (b : Bool) (s' : Shared) : Prop := ∃ H', Inv X pins σ H' s' ∧ Q b H'
def AP (X : Cx) (pins : List (Addr × Obj)) (σ : St) (Q : List V → Hp → Prop) (us : List Value) (s' : Shared) : Prop := ∃ vs H', Inv X pins σ H' s' ∧ Vals vs us ∧ Q vs H'
def SP (X : Cx) (pins : List (Addr × Obj)) (D : Ends) (f : Flow) (s' : Shared) : Prop :=
  match f with
  | .next => ∃ σ' H', Inv X pins σ' H' s' ∧ D.nx σ' H'
  | .brk => ∃ σ' H', Inv X pins σ' H' s' ∧ D.bk σ' H'
  | .cont => ∃ σ' H', Inv X pins σ' H' s' ∧ D.ct σ' H'
  | .ret u => ∃ v σ' H', Inv X pins σ' H' s' ∧ RelV v u ∧ D.rt v H'
def PE (X : Cx) (e : Expr) (t : TE) : Prop :=
  ∀ (pins : List (Addr × Obj)) (s : Shared) (σ : St) (H : Hp) (Q : VK), Inv X pins σ H s → t σ H Q → wpAny (model X.prog X.w) X.A (eval e X.env) (EP X pins σ Q) X.xe s
def PT (X : Cx) (e : Expr) (t : TT) : Prop :=
  ∀ (pins : List (Addr × Obj)) (s : Shared) (σ : St) (H : Hp) (Q : Bool → Hp → Prop), Inv X pins σ H s → t σ H Q → wpAny (model X.prog X.w) X.A (isTrue e X.env (eval e X.env)) (TP X pins σ Q) X.xe s
def PW (X : Cx) (e : Expr) (t : TT) : Prop :=
  ∀ (whole : Sem Value) (pins : List (Addr × Obj)) (s : Shared) (σ : St) (H : Hp) (Q : Bool → Hp → Prop), Inv X pins σ H s → t σ H Q → wpAny (model X.prog X.w) X.A (isTrue e X.env whole) (TP X pins σ Q) X.xe s
theorem PW.pt {X : Cx} {e : Expr} {t : TT} (h : PW X e t) : PT X e t := h _
def PA (X : Cx) (es : List Expr) (t : TA) : Prop :=
  ∀ (pos : Pos) (pins : List (Addr × Obj)) (s : Shared) (σ : St) (H : Hp) (Q : List V → Hp → Prop), Inv X pins σ H s → t σ H Q → wpAny (model X.prog X.w) X.A (spliced (backTo pos (starEach es X.env))) (AP X pins σ Q) X.xe s
def PS (X : Cx) (st : Stmt) (t : TS) : Prop :=
  ∀ (pins : List (Addr × Obj)) (s : Shared) (σ : St) (H : Hp) (D : Ends), Inv X pins σ H s → t D σ H → wpAny (model X.prog X.w) X.A (exec st X.env) (SP X pins D) X.xe s
def PSs (X : Cx) (st : List Stmt) (t : TS) : Prop :=
  ∀ (pins : List (Addr × Obj)) (s : Shared) (σ : St) (H : Hp) (D : Ends), Inv X pins σ H s → t D σ H → wpAny (model X.prog X.w) X.A (execs st X.env) (SP X pins D) X.xe s
theorem thn {α : Type} {t : Sem α} {Q Q' : α → Shared → Prop} {M : Model} {A : Around} {E : Value → Shared → Prop} {s : Shared} (h : wpAny M A t Q E s) (hQ : ∀ a s, Q a s → Q' a s) : wpAny M A t Q' E s := wpAny_mono h hQ fun _ _ x => x
end L2
namespace L2
open PySem PySem.Spec PyProof.Rows
section
variable {X : Cx}
def tVar (i : Nat) : TE := fun σ H Q => ∃ v, σ[i]? = some (some v) ∧ Q v H
def tC (v : V) : TE := fun _ H Q => Q v H
theorem pe_var {i : Nat} {x : Str} {pos : Pos} (hN : X.N[i]? = some x) (hv : Vis X.env.scope x) (hd : (x == ("__debug__" : Str)) = false := by decide) (hcd : (x == ("__classdict__" : Str)) = false := by decide) : PE X (.Name x pos) (tVar i) := by
  intro pins s σ H Q I h
  obtain ⟨v, e, h⟩ := h
  obtain ⟨m, hn, hl⟩ := I.loc
  obtain ⟨u, r, l⟩ := hl i x v hN e hv
  have fin : EP X pins σ Q u s := ⟨v, H, I, r, h⟩
  rcases l with ⟨hk, hm⟩ | ⟨hk, c, hc, hcell⟩
  · exact wpAny_Name (wpAny_loadName_local I.ok.kind hk hn hm fin) hd
  · rcases hk with hk | hk
    · exact wpAny_Name (wpAny_loadName_cell I.ok.kind hk hc hcell fin) hd
    · exact wpAny_Name (wpAny_loadName_free I.ok.kind hk hc hcell fin hcd) hd
theorem pe_int {i j pos} : PE X (.Constant (.int i) j pos) (tC (.int i)) := fun _ _ _ H _ I h => wpAny_Constant_int ⟨.int i, H, I.tok _, ⟨_, rfl⟩, h⟩
theorem pe_bl {b j pos} : PE X (.Constant (.bool b) j pos) (tC (.bl b)) := fun _ _ _ H _ I h => Constant_bool ⟨.bl b, H, I, rfl, h⟩
theorem pe_non {j pos} : PE X (.Constant .none j pos) (tC .non) := fun _ _ _ H _ I h => Constant_none ⟨.non, H, I, rfl, h⟩
theorem pe_str {x j pos} : PE X (.Constant (.str x) j pos) (tC (.str x)) := fun _ _ _ H _ I h => Calls.Constant_str ⟨.str x, H, I.tok _, ⟨_, rfl⟩, h⟩
def Gl (X : Cx) (x : Str) : Prop := X.env.kindOf x = some .globalImplicit
theorem ld_glob {E : Value → Shared → Prop} {pins : List (Addr × Obj)} {s : Shared} {σ : St} {H : Hp} {x : Str} {u : Value} {pos : Pos} {Q : Value → Shared → Prop} (I : Inv X pins σ H s) (hg : Gl X x) (hm : X.mg x = some u) (h : Q u s)
    (hd : (x == ("__debug__" : Str)) = false := by decide) : wpAny (model X.prog X.w) X.A (eval (.Name x pos) X.env) Q E s :=
  Calls.Name_function_global I.ok.kind hg (Calls.loadGlobal_global (by rw [I.ok.glob]; exact I.mod.glob.keeps I.bk) hm h) hd
theorem ld_blt {E : Value → Shared → Prop} {pins : List (Addr × Obj)} {s : Shared} {σ : St} {H : Hp} {x : Str} {u : Value} {pos : Pos} {Q : Value → Shared → Prop} (I : Inv X pins σ H s) (hg : Gl X x) (hm : X.mg x = none) (hv : bootBuiltins x = some u) (h : Q u s)
    (hn : x ≠ "__name__" := by decide) (hd : (x == ("__debug__" : Str)) = false := by decide) : wpAny (model X.prog X.w) X.A (eval (.Name x pos) X.env) Q E s := by
  obtain ⟨mb, h1, h2⟩ := I.mod.blt
  exact Calls.Name_function_global I.ok.kind hg (Calls.loadGlobal_builtin (by rw [I.ok.glob]; exact I.mod.glob.keeps I.bk) hm (by rw [I.ok.blt]; exact h1.keeps I.bk) ((h2 x hn).trans hv) h) hd
theorem pe_glob {x : Str} {v : V} {u : Value} {pos : Pos} (hg : Gl X x) (hm : X.mg x = some u) (r : RelV v u) (hd : (x == ("__debug__" : Str)) = false := by decide) : PE X (.Name x pos) (tC v) :=
  fun _ _ _ H _ I h => ld_glob I hg hm ⟨v, H, I, r, h⟩ hd
theorem pe_bltn {x : Str} {v : V} {u : Value} {pos : Pos} (hg : Gl X x) (hm : X.mg x = none) (hv : bootBuiltins x = some u) (r : RelV v u) (hn : x ≠ "__name__" := by decide) (hd : (x == ("__debug__" : Str)) = false := by decide) : PE X (.Name x pos) (tC v) :=
  fun _ _ _ H _ I h => ld_blt I hg hm hv ⟨v, H, I, r, h⟩ hn hd
variable {a b : Expr} {ta tb : TE} {pos : Pos}
def tB (t : TE) : TT := fun σ H Q => t σ H fun x H1 => ∃ c, x = .bl c ∧ Q c H1
theorem pt_val {e : Expr} {t : TE} (h : PE X e t) (he : ∀ whole, isTrue e X.env whole = (do let v ← whole; standAt e.pos; holding [v] (truthy v)) := by intro _; rfl) : PT X e (tB t) := by
  intro pins s σ H Q I hw
  refine isTrue_plain (thn (h pins s σ H _ I hw) fun v s1 ⟨x, H1, I1, r1, q1⟩ => ?_) (he _)
  obtain ⟨d, rfl, q⟩ := q1
  cases r1
  exact wpAny_truthy_bool ⟨H1, I1, q⟩
variable {tA tB' : TT} {rest : List Expr}
def tAnd (t u : TT) : TT := fun σ H Q => t σ H fun c H1 => if c = true then u σ H1 Q else Q false H1
def tOr (t u : TT) : TT := fun σ H Q => t σ H fun c H1 => if c = true then Q true H1 else u σ H1 Q
def tNot (t : TT) : TT := fun σ H Q => t σ H fun c H1 => Q (!c) H1
theorem pw_and1 (ha : PT X a tA) : PW X (.BoolOp .And [a] pos) tA := by
  intro wh pins s σ H Q I h
  refine isTrue_and (thn (ha pins s σ H Q I h) fun c s1 e => ?_)
  cases c with
  | true => exact isTrue_and_nil e
  | false => exact e
theorem pw_or1 (ha : PT X a tA) : PW X (.BoolOp .Or [a] pos) tA := by
  intro wh pins s σ H Q I h
  refine isTrue_or (thn (ha pins s σ H Q I h) fun c s1 e => ?_)
  cases c with
  | false => exact isTrue_or_nil e
  | true => exact e
theorem pw_and (ha : PT X a tA) (hb : PW X (.BoolOp .And (b :: rest) pos) tB') : PW X (.BoolOp .And (a :: b :: rest) pos) (tAnd tA tB') := by
  intro wh pins s σ H Q I h
  refine isTrue_and (thn (ha pins s σ H _ I h) fun c s1 ⟨H1, I1, q1⟩ => ?_)
  cases c with
  | true => exact hb wh pins s1 σ H1 Q I1 q1
  | false => exact ⟨H1, I1, q1⟩
theorem pw_or (ha : PT X a tA) (hb : PW X (.BoolOp .Or (b :: rest) pos) tB') : PW X (.BoolOp .Or (a :: b :: rest) pos) (tOr tA tB') := by
  intro wh pins s σ H Q I h
  refine isTrue_or (thn (ha pins s σ H _ I h) fun c s1 ⟨H1, I1, q1⟩ => ?_)
  cases c with
  | true => exact ⟨H1, I1, q1⟩
  | false => exact hb wh pins s1 σ H1 Q I1 q1
theorem pt_not (ha : PT X a tA) : PT X (.UnaryOp .Not a pos) (tNot tA) := by
  intro pins s σ H Q I h
  exact isTrue_not (ha pins s σ H (fun c H1 => Q (!c) H1) I h)
def tAndV (ta tb : TE) : TE := fun σ H Q => ta σ H fun x H1 => ∃ c, x = .bl c ∧ if c = true then tb σ H1 Q else Q (.bl false) H1
def tNotV (ta : TE) : TE := fun σ H Q => ta σ H fun x H1 => ∃ c, x = .bl c ∧ Q (.bl (!c)) H1
theorem pe_one {op} {t : TE} (h : PE X a t) : PE X (.BoolOp op [a] pos) t := fun pins s σ H Q I hw => BoolOp_one (h pins s σ H Q I hw)
theorem pe_and (ha : PE X a ta) (hb : PE X (.BoolOp .And (b :: rest) pos) tb) : PE X (.BoolOp .And (a :: b :: rest) pos) (tAndV ta tb) := by
  intro pins s σ H Q I h
  refine BoolOp_and (thn (ha pins s σ H _ I h) fun v s1 ⟨x, H1, I1, r1, q1⟩ => ?_)
  obtain ⟨c, rfl, q1⟩ := q1
  cases r1
  refine wpAny_truthy_bool ?_
  cases c with
  | true => exact hb pins s1 σ H1 Q I1 q1
  | false => exact ⟨.bl false, H1, I1, rfl, q1⟩
theorem pe_not (ha : PE X a ta) : PE X (.UnaryOp .Not a pos) (tNotV ta) := by
  intro pins s σ H Q I h
  refine UnaryOp_ (thn (ha pins s σ H _ I h) fun v s1 ⟨x, H1, I1, r1, q1⟩ => ?_)
  obtain ⟨c, rfl, q1⟩ := q1
  cases r1
  exact not_of (wpAny_truthy_bool ⟨.bl (!c), H1, I1, rfl, q1⟩)
def tIf (t : TT) (ta tb : TE) : TE := fun σ H Q => t σ H fun c H1 => if c = true then ta σ H1 Q else tb σ H1 Q
theorem pe_ifExp {c : Expr} (hc : PT X c tA) (ha : PE X a ta) (hb : PE X b tb) : PE X (.IfExp c a b pos) (tIf tA ta tb) := by
  intro pins s σ H Q I h
  refine wpAny_IfExp (thn (hc pins s σ H _ I h) fun d s1 ⟨H1, I1, q1⟩ => ?_)
  cases d with
  | true => exact ha pins s1 σ H1 Q I1 q1
  | false => exact hb pins s1 σ H1 Q I1 q1
end
end L2
namespace L2
open PySem PySem.Spec PyProof.Rows
def SqL (K : PySem.W.Frag) (H : Hp) (a : Addr) (xs : List V) : Prop :=
  Rd H a (.lst xs) ∨
    ∃ (o : Obj) (its : Array Value) (n : Nat), K.lookup a = some o ∧ o.cls = .type "list" ∧ o.dict = none ∧ o.data = .seq its n ∧ its.size ≤ sizeLine ∧ Vals xs its.toList
def SqT (K : PySem.W.Frag) (H : Hp) (a : Addr) (xs : List V) : Prop :=
  Rd H a (.tup xs) ∨
    ∃ (o : Obj) (its : Array Value) (n : Nat), K.lookup a = some o ∧ o.cls = .type "tuple" ∧ o.data = .seq its n ∧ its.size ≤ sizeLine ∧ Vals xs its.toList
def absV : Value → Option V
  | .none => some .non
  | .bool b => some (.bl b)
  | .int i _ => some (.int i)
  | .str x _ => some (.str x)
  | .bytes b _ => some (.byt b)
  | .float b _ => some (.flt b)
  | .ref a => some (.ref a)
  | .type n => some (.ty n)
  | _ => none
theorem RelV.abs {x : V} {u : Value} (r : RelV x u) : absV u = some x := by
  cases x with
  | non => cases r; rfl
  | bl _ => cases r; rfl
  | int _ => obtain ⟨t, rfl⟩ := r; rfl
  | str _ => obtain ⟨t, rfl⟩ := r; rfl
  | byt _ => obtain ⟨t, rfl⟩ := r; rfl
  | flt _ => obtain ⟨t, rfl⟩ := r; rfl
  | ref _ => cases r; rfl
  | ty _ => cases r; rfl
theorem RelV.inj {x y : V} {u : Value} (r : RelV x u) (q : RelV y u) : x = y := Option.some.inj (r.abs.symm.trans q.abs)
theorem Vals.inj : ∀ {xs ys : List V} {us : List Value}, Vals xs us → Vals ys us → xs = ys
  | _, _, _, .nil, .nil => rfl
  | _, _, _, .cons r t, .cons r' t' => by rw [r.inj r', Vals.inj t t']
section
variable {X : Cx} {pins : List (Addr × Obj)} {σ : St} {H : Hp} {s : Shared} {a : Addr} {xs ys : List V}
theorem SqL.of {K : PySem.W.Frag} (h : H a = some (.lst xs)) : SqL K H a xs := .inl (.inl h)
theorem SqT.of {K : PySem.W.Frag} (h : H a = some (.tup xs)) : SqT K H a xs := .inl (.inl h)
theorem Inv.list (I : Inv X pins σ H s) (h : SqL X.K H a xs) : ∃ its : List Value, Vals xs its ∧ PlainL s.heap a its.toArray ∧ xs.length ≤ sizeLine := by
  rcases h with h | ⟨o, its, n, hk, hc, hd, hs, hz, r⟩
  · obtain ⟨z, its, n, r, e⟩ := h.ok I.hok
    exact ⟨its, r, ⟨_, n, e, rfl, rfl, rfl⟩, z⟩
  · refine ⟨its.toList, r, ⟨o, n, I.kIn a o hk, hc, hd, by simpa using hs⟩, ?_⟩
    have e := r.length
    simp only [Array.length_toList] at e
    omega
theorem Inv.tuple (I : Inv X pins σ H s) (h : SqT X.K H a xs) : ∃ its : List Value, Vals xs its ∧ IsTup s.heap a its.toArray ∧ xs.length ≤ sizeLine := by
  rcases h with h | ⟨o, its, n, hk, hc, hs, hz, r⟩
  · obtain ⟨z, its, r, p⟩ := h.ok I.hok
    exact ⟨its, r, p, z⟩
  · refine ⟨its.toList, r, ⟨o, I.kIn a o hk, hc, n, by simpa using hs⟩, ?_⟩
    have e := r.length
    simp only [Array.length_toList] at e
    omega
theorem Inv.list_inj (I : Inv X pins σ H s) (h : SqL X.K H a xs) (h' : SqL X.K H a ys) : xs = ys := by
  obtain ⟨its, r, ⟨o, n, e, _, _, d⟩, _⟩ := I.list h
  obtain ⟨its', r', ⟨o', n', e', _, _, d'⟩, _⟩ := I.list h'
  rw [e] at e'; cases e'
  rw [d] at d'
  injection d' with d1 _
  have : its = its' := by simpa using congrArg Array.toList d1
  subst this
  exact r.inj r'
end
abbrev Cx.wish (X : Cx) (E : Value → Shared → Prop) : Cx := { X with xe := E }
abbrev Cx.nox (X : Cx) : Cx := X.wish fun _ _ => False
theorem Cx.Ok.wish {X : Cx} (ok : X.Ok) (E : Value → Shared → Prop) : (X.wish E).Ok :=
  ⟨ok.mod, ok.kind, ok.glob, ok.blt, ok.above, ok.inj, ok.has, ok.cab, ok.hd, ok.frames, ok.stk, ok.exf, ok.bs, ok.bsz, ok.noex, ok.exfs, ok.funs, ok.frf⟩
theorem Cx.Ok.unwish {X : Cx} {E : Value → Shared → Prop} (ok : (X.wish E).Ok) : X.Ok :=
  ⟨ok.mod, ok.kind, ok.glob, ok.blt, ok.above, ok.inj, ok.has, ok.cab, ok.hd, ok.frames, ok.stk, ok.exf, ok.bs, ok.bsz, ok.noex, ok.exfs, ok.funs, ok.frf⟩
section
variable {X : Cx} {pins : List (Addr × Obj)} {σ : St} {H : Hp} {s : Shared} {E : Value → Shared → Prop}
theorem Inv.wish (I : Inv X pins σ H s) (E : Value → Shared → Prop) : Inv (X.wish E) pins σ H s := ⟨I.ok.wish E, I.os, I.bare, I.base, I.loc, I.cell, I.free, I.freeC, I.pin, I.hok, I.len⟩
theorem Inv.unwish (I : Inv (X.wish E) pins σ H s) : Inv X pins σ H s := ⟨I.ok.unwish, I.os, I.bare, I.base, I.loc, I.cell, I.free, I.freeC, I.pin, I.hok, I.len⟩
theorem SP.unwish {D : Ends} {f : Flow} {s' : Shared} (h : SP (X.wish E) pins D f s') : SP X pins D f s' := by
  cases f with
  | next => obtain ⟨σ', H', I, q⟩ := h; exact ⟨σ', H', I.unwish, q⟩
  | brk => obtain ⟨σ', H', I, q⟩ := h; exact ⟨σ', H', I.unwish, q⟩
  | cont => obtain ⟨σ', H', I, q⟩ := h; exact ⟨σ', H', I.unwish, q⟩
  | ret u => obtain ⟨v, σ', H', I, r, q⟩ := h; exact ⟨v, σ', H', I.unwish, r, q⟩
theorem PE.nox {e : Expr} {t : TE} (h : PE X.nox e t) : PE X e t := fun pins s σ H Q I hw =>
  wpAny_mono (h pins s σ H Q (I.wish _) hw) (fun _ _ ⟨v, H', I', r, q⟩ => ⟨v, H', I'.unwish, r, q⟩) fun _ _ z => False.elim z
theorem PT.nox {e : Expr} {t : TT} (h : PT X.nox e t) : PT X e t := fun pins s σ H Q I hw =>
  wpAny_mono (h pins s σ H Q (I.wish _) hw) (fun _ _ ⟨H', I', q⟩ => ⟨H', I'.unwish, q⟩) fun _ _ z => False.elim z
theorem PSs.nox {st : List Stmt} {t : TS} (h : PSs X.nox st t) : PSs X st t := fun pins s σ H D I hw =>
  wpAny_mono (h pins s σ H D (I.wish _) hw) (fun _ _ q => q.unwish) fun _ _ z => False.elim z
end
section
variable {X : Cx} {st : Stmt} {rest : List Stmt} {t u : TS} {e : Expr} {te : TE} {pos : Pos}
def tNext : TS := fun D σ H => D.nx σ H
def tSeq (t u : TS) : TS := fun D σ H => t { D with nx := u D } σ H
theorem pss_nil : PSs X [] tNext := fun _ _ σ H _ I h => wpAny_execs_nil ⟨σ, H, I, h⟩
theorem pss_cons (h1 : PS X st t) (h2 : PSs X rest u) : PSs X (st :: rest) (tSeq t u) := by
  intro pins s σ H D I h
  refine wpAny_execs_cons (thn (h1 pins s σ H { D with nx := u D } I h) fun f s1 q => ?_)
  cases f with
  | next =>
    obtain ⟨σ', H', I', q⟩ := q
    exact h2 pins s1 σ' H' D I' q
  | ret v => exact q
  | brk => exact q
  | cont => exact q
theorem pss_one (h1 : PS X st t) : PSs X [st] t := by
  intro pins s σ H D I h
  refine wpAny_execs_cons (thn (h1 pins s σ H D I h) fun f s1 q => ?_)
  cases f with
  | next => exact wpAny_execs_nil q
  | ret v => exact q
  | brk => exact q
  | cont => exact q
theorem Inv.quiet {pins : List (Addr × Obj)} {σ : St} {H : Hp} {s : Shared} (I : Inv X pins σ H s) : interactive X.env = false := by simp [interactive, I.ok.kind]
def tDrop (te : TE) : TS := fun D σ H => te σ H fun _ H1 => D.nx σ H1
theorem ps_expr (he : PE X e te) (hs : swapsWith e none pos.line X.env = pure false := by rfl) : PS X (.Expr e pos) (tDrop te) := by
  intro pins s σ H D I h
  exact wpAny_Expr_any (thn (he pins s σ H _ I h) fun v s1 ⟨x, H1, I1, r1, q1⟩ => ⟨σ, H1, I1, q1⟩) I.quiet hs
def tRet (te : TE) : TS := fun D σ H => te σ H D.rt
theorem ps_ret (he : PE X e te) : PS X (.Return (some e) pos) (tRet te) := by
  intro pins s σ H D I h
  exact wpAny_Return_some (thn (he pins s σ H _ I h) fun v s1 ⟨x, H1, I1, r1, q1⟩ => ⟨x, σ, H1, I1, r1, q1⟩)
def tIfS (c : TT) (t u : TS) : TS := fun D σ H => c σ H fun b H1 => if b = true then t D σ H1 else u D σ H1
theorem ps_if {c : Expr} {a b : List Stmt} {tc : TT} (hc : PT X c tc) (ha : PSs X a t) (hb : PSs X b u) : PS X (.If c a b pos) (tIfS tc t u) := by
  intro pins s σ H D I h
  refine wpAny_If (thn (hc pins s σ H _ I h) fun d s1 ⟨H1, I1, q1⟩ => ?_)
  cases d with
  | true => exact ha pins s1 σ H1 D I1 q1
  | false => exact hb pins s1 σ H1 D I1 q1
end
abbrev TG := V → St → Hp → (St → Hp → Prop) → Prop
abbrev TGs := List V → St → Hp → (St → Hp → Prop) → Prop
def PG (X : Cx) (target : Expr) (t : TG) : Prop :=
  ∀ (pins : List (Addr × Obj)) (s : Shared) (σ : St) (H : Hp) (v : V) (u : Value) (Q : St → Hp → Prop), Inv X pins σ H s → RelV v u → t v σ H Q →
    wpAny (model X.prog X.w) X.A (assign target X.env u) (fun _ s' => ∃ σ' H', Inv X pins σ' H' s' ∧ Q σ' H') X.xe s
def PGs (X : Cx) (ts : List Expr) (t : TGs) : Prop :=
  ∀ (pins : List (Addr × Obj)) (s : Shared) (σ : St) (H : Hp) (vs : List V) (us : List Value) (Q : St → Hp → Prop), Inv X pins σ H s → Vals vs us → t vs σ H Q →
    wpAny (model X.prog X.w) X.A (assignInOrder ((assignEach ts X.env).map (·.2)) us) (fun _ s' => ∃ σ' H', Inv X pins σ' H' s' ∧ Q σ' H') X.xe s
abbrev TSet := V → V → V → Hp → (Hp → Prop) → Prop
def PSet (X : Cx) (t : TSet) : Prop :=
  ∀ (pins : List (Addr × Obj)) (s : Shared) (σ : St) (H : Hp) (o i v : V) (ov iv u : Value) (Q : Hp → Prop), Inv X pins σ H s → RelV o ov → RelV i iv → RelV v u → t o i v H Q →
    wpAny (model X.prog X.w) X.A (setItem ov iv u) (fun _ s' => ∃ H', Inv X pins σ H' s' ∧ Q H') X.xe s
section
variable {X : Cx} {pos : Pos}
def gName (i : Nat) : TG := fun v σ H Q => Q (σ.set i (some v)) H
theorem pg_name {i : Nat} {x : Str} (hN : X.N.Nodup) (hi : X.N[i]? = some x) (hx : Loc X.env.scope x) (hf : X.fn x = true ∨ X.env.scope.names.lookup x = some .local := by first | exact .inl rfl | exact .inr rfl | assumption) : PG X (.Name x pos) (gName i) := by
  intro pins s σ H v u Q I r h
  exact wpAny_assign_Name (store_ok I hN hi hx r (fun s' I' => ⟨_, H, I', h⟩) hf)
def gNil : TGs := fun vs σ H Q => vs = [] ∧ Q σ H
def gCons (t : TG) (u : TGs) : TGs := fun vs σ H Q => ∃ v r, vs = v :: r ∧ t v σ H fun σ' H' => u r σ' H' Q
theorem pgs_nil : PGs X [] gNil := by
  intro pins s σ H vs us Q I r h
  obtain ⟨e, h⟩ := h
  subst e
  cases r
  exact assignInOrder_nil ⟨σ, H, I, h⟩
theorem pgs_cons {e : Expr} {es : List Expr} {t : TG} {u : TGs} (h1 : PG X e t) (h2 : PGs X es u)
    (hs : (assignEach (e :: es) X.env).map (·.2) = assign e X.env :: (assignEach es X.env).map (·.2) := by rfl) : PGs X (e :: es) (gCons t u) := by
  intro pins s σ H vs us Q I r h
  obtain ⟨v, vr, e1, h⟩ := h
  subst e1
  cases r with
  | cons r rr =>
    rw [hs]
    refine assignInOrder_cons (thn (h1 pins s σ H _ _ _ I r h) fun _ s1 ⟨σ1, H1, I1, q1⟩ => ?_)
    exact h2 pins s1 σ1 H1 _ _ Q I1 rr q1
def gTup (K : PySem.W.Frag) (n : Nat) (t : TGs) : TG := fun v σ H Q => ∃ a xs, v = .ref a ∧ SqT K H a xs ∧ xs.length = n ∧ t xs σ H Q
theorem pg_tup {es : List Expr} {k : Nat} {t : TGs} {n : Nat} (hc : X.calm = true) (h : PGs X es t)
    (hn : (assignEach es X.env).length = n := by rfl) (hst : (assignEach es X.env).findIdx? (·.1) = none := by rfl) : PG X (.Tuple es k pos) (gTup X.K n t) := by
  intro pins s σ H v u Q I r hw
  obtain ⟨a, xs, e1, hq, hl, hw⟩ := hw
  subst e1
  cases r
  obtain ⟨its, rv, ht, hz⟩ := I.tuple hq
  refine assign_Tuple_tuple (I.ok.hd hc) ht (by simp [hn, ← hl, rv.length]) hst fun h' hx => ?_
  have I1 : Inv X pins σ H { s with heap := h' } := I.kept (t' := s.toks) fun b o e => hx b o (Nat.ne_of_lt (Heap.lt_size e)) e
  exact h pins _ σ H xs _ Q I1 (by simpa using rv) hw
def gSub (to ti : TE) (t : TSet) : TG := fun v σ H Q => to σ H fun o H1 => ti σ H1 fun i H2 => t o i v H2 fun H3 => Q σ H3
theorem pg_sub {o i : Expr} {to ti : TE} {t : TSet} (ho : PE X o to) (hi : PE X i ti) (hs : PSet X t)
    (ha : ∀ v, assign (.Subscript o i pos) X.env v = (do
      let ov ← holding [v] (eval o X.env)
      let iv ← holding [v, ov] (eval i X.env)
      standAt pos
      holding [v, ov, iv] (setItem ov iv v)
      release [v, ov, iv] []) := by intro _; rfl) : PG X (.Subscript o i pos) (gSub to ti t) := by
  intro pins s σ H v u Q I r h
  rw [ha]
  refine wpAny_bind (wpAny_holding (thn (ho pins s σ H _ I h) fun ov s1 ⟨x, H1, I1, r1, q1⟩ => ?_))
  refine wpAny_bind (wpAny_holding (thn (hi pins s1 σ H1 _ I1 q1) fun iv s2 ⟨y, H2, I2, r2, q2⟩ => ?_))
  refine wpAny_bind (wpAny_standAt (wpAny_bind (wpAny_holding (thn (hs pins s2 σ H2 x y v ov iv u _ I2 r1 r2 r q2) fun _ s3 ⟨H3, I3, q3⟩ => ?_))))
  exact wpAny_release ⟨σ, H3, I3, q3⟩
def tAsg (te : TE) (g : TG) : TS := fun D σ H => te σ H fun x H1 => g x σ H1 D.nx
theorem ps_asg {tg e : Expr} {te : TE} {g : TG} (he : PE X e te) (hg : PG X tg g) (hs : swapsWithSole [tg] e pos.line X.env = pure false := by rfl) (hw : swappedStores [tg] e X.env = pure none := by rfl)
    (h1 : (assignEach [tg] X.env).map (·.2) = [assign tg X.env] := by rfl) : PS X (.Assign [tg] e pos) (tAsg te g) := by
  intro pins s σ H D I h
  refine wpAny_Assign_stores (thn (he pins s σ H _ I h) fun v s1 ⟨x, H1, I1, r1, q1⟩ => ?_) hs hw
  rw [h1]
  exact thn (hg pins s1 σ H1 x v _ I1 r1 q1) fun _ s2 q => q
theorem ps_set {i : Nat} {x : Str} {e : Expr} {te : TE} {pos' : Pos} (hN : X.N.Nodup) (hi : X.N[i]? = some x) (hx : Loc X.env.scope x) (he : PE X e te) (hs : swapsWith e (some (.Name x pos')) pos.line X.env = pure false := by rfl) (hf : X.fn x = true ∨ X.env.scope.names.lookup x = some .local := by first | exact .inl rfl | exact .inr rfl | assumption) :
    PS X (.Assign [.Name x pos'] e pos) (tAsg te (gName i)) := by
  intro pins s σ H D I h
  refine wpAny_Assign_Name (thn (he pins s σ H _ I h) fun v s1 ⟨y, H1, I1, r1, q1⟩ => ?_) hs
  exact store_ok I1 hN hi hx r1 (fun s2 I2 => ⟨_, H1, I2, q1⟩) hf
end
section
variable {X : Cx} {pos : Pos}
end
structure It where
  go : Nat → Hp → Prop
  yld : Nat → Hp → V → Hp → Prop
  stop : Nat → Hp → Prop
def FpOk (X : Cx) (pins : List (Addr × Obj)) (H : Hp) (b : Addr) : Prop :=
  H b = none ∧ b ≠ X.env.locals ∧ b ∉ X.fs ∧ (b ∈ X.ex ∨ X.s₀.heap.objs.size ≤ b) ∧ (∀ x c, X.env.cells.lookup x = some c → c ≠ b) ∧ ∀ p ∈ X.pn ++ pins, p.1 ≠ b
theorem Inv.fpOk {X : Cx} {pins : List (Addr × Obj)} {σ : St} {H H' : Hp} {s : Shared} {b : Addr} (I : Inv X pins σ H s) (hb : s.heap.objs.size ≤ b) (hn : H' b = none) : FpOk X pins H' b := by
  refine ⟨hn, Nat.ne_of_gt (Nat.lt_of_lt_of_le I.lt hb), I.nofs hb, .inr (Nat.le_trans I.sz hb), fun x c e z => ?_, fun p hp z => ?_⟩
  · obtain ⟨v, q⟩ := I.cell x c e
    exact absurd (Nat.lt_of_lt_of_le q.lt (by rw [z]; exact hb)) (Nat.lt_irrefl _)
  · exact absurd (Nat.lt_of_lt_of_le (Heap.lt_size (I.pin p hp).1) (by rw [z]; exact hb)) (Nat.lt_irrefl _)
structure Turn (P : Program) (w : World) (K : PySem.W.Frag) (tg : Expr) (J : It) (fp : List Addr) (it : Addr) (tn : Nat → Heap → Prop) : Prop where
  mem : it ∈ fp
  obj : ∀ i h, tn i h → ∀ b ∈ fp, ∃ o, h.get? b = some o ∧ ∀ v, o.data ≠ .cell v
  keep : ∀ i h h', tn i h → (∀ b ∈ fp, ∀ o, h.get? b = some o → h'.get? b = some o) → tn i h'
  item : ∀ (X : Cx), X.prog = P → X.w = w → X.K = K → X.calm = true → ∀ (i : Nat) (pins : List (Addr × Obj)) (s : Shared) (σ : St) (H : Hp) (E : Value → Shared → Prop), Inv X pins σ H s → (∀ b ∈ fp, FpOk X pins H b) → tn i s.heap → J.go i H →
    wpAny (model P w) X.A (pyNext (.ref it)) (fun r s1 => ∃ u, r = some u ∧
      wpAny (model P w) X.A (letOwnedTupleGo tg (.ref it) u) (fun _ s2 => ∃ x H', Inv X pins σ H' s2 ∧ RelV x u ∧ J.yld i H x H' ∧ tn (i + 1) s2.heap ∧ ∀ b ∈ fp, H' b = none) E s1) E s
  done : ∀ (X : Cx), X.prog = P → X.w = w → X.K = K → X.calm = true → ∀ (i : Nat) (pins : List (Addr × Obj)) (s : Shared) (σ : St) (H : Hp) (E : Value → Shared → Prop), Inv X pins σ H s → (∀ b ∈ fp, FpOk X pins H b) → tn i s.heap → J.stop i H →
    wpAny (model P w) X.A (pyNext (.ref it)) (fun r s1 => r = none ∧ Inv X pins σ H s1) E s
  self : ∀ (A : Around) (i : Nat) (s : Shared) (Q : Value → Shared → Prop) (E : Value → Shared → Prop), tn i s.heap → Q (.ref it) s → wpAny (model P w) A (pyIter (.ref it)) Q E s
abbrev TI := St → Hp → (It → Hp → Prop) → Prop
def PIE (X : Cx) (pins : List (Addr × Obj)) (σ : St) (tg : Expr) (R : It → Hp → Prop) (itv : Value) (s2 : Shared) : Prop :=
  ∃ (it : Addr) (fp : List Addr) (tn : Nat → Heap → Prop) (J : It) (H' : Hp), itv = .ref it ∧ Inv X pins σ H' s2 ∧ Turn X.prog X.w X.K tg J fp it tn ∧ tn 0 s2.heap ∧ (∀ b ∈ fp, FpOk X pins H' b) ∧ R J H'
def PI (X : Cx) (tg iter : Expr) (wi : TI) : Prop :=
  ∀ (pins : List (Addr × Obj)) (s : Shared) (σ : St) (H : Hp) (R : It → Hp → Prop), Inv X pins σ H s → wi σ H R →
    wpAny (model X.prog X.w) X.A (eval iter X.env) (fun v s1 => wpAny (model X.prog X.w) X.A (pyIter v) (PIE X pins σ tg R) X.xe s1) X.xe s
theorem go_of {M : Model} {A : Around} {E : Value → Shared → Prop} {s : Shared} {tg : Expr} {it : Addr} {u : Value} {o : Obj} {n : String} {vs : Array Value} {Q : Unit → Shared → Prop} (ho : s.heap.get? it = some o) (hc : o.cls = .type n) (hd : o.data = .fields vs)
    (hn : ["enumerate", "zip", "dict_itemiterator", "dict_reverseitemiterator", "odict_iterator", "itertools.zip_longest", "itertools.pairwise"].contains n = false) (hQ : Q () s) : wpAny M A (letOwnedTupleGo tg (.ref it) u) Q E s := by
  unfold letOwnedTupleGo
  cases tg <;> first
    | exact wpAny_pure hQ
    | (cases u <;> first
        | exact wpAny_pure hQ
        | (refine wpAny_bind (wpAny_load ho ?_)
           rw [hc, hd]
           show wpAny M A (if (["enumerate", "zip", "dict_itemiterator", "dict_reverseitemiterator", "odict_iterator", "itertools.zip_longest", "itertools.pairwise"].contains n && vs[0]? == some (rawInt _)) = true then _ else _) Q E s
           rw [if_neg (by intro h; rw [hn, Bool.false_and] at h; cases h)]
           exact wpAny_pure hQ))
def Itl (K : PySem.W.Frag) (a : Addr) : It :=
  ⟨fun i H => ∃ xs x, SqL K H a xs ∧ xs[i]? = some x, fun i H x H' => H' = H ∧ ∀ xs, SqL K H a xs → xs[i]? = some x, fun i H => ∃ xs, SqL K H a xs ∧ xs.length ≤ i⟩
def Itr (lo : Int) (n : Nat) : It := ⟨fun i _ => i < n, fun i H x H' => H' = H ∧ x = .int (lo + i), fun i _ => n ≤ i⟩
theorem turn_list {P : Program} {w : World} {K : PySem.W.Frag} {tg : Expr} (a it : Addr) : Turn P w K tg (Itl K a) [it] it (fun i h => h.IsListIter it a i) where
  mem := by simp
  obj := fun i h st b hb => by
    have e : b = it := by simpa using hb
    subst e
    obtain ⟨o, e, c, d⟩ := st
    exact ⟨o, e, fun v z => by rw [d] at z; cases z⟩
  keep := fun i h h' st k => st.at fun o e => k it (by simp) o e
  item := by
    intro X hP hw hK hc i pins s σ H E I hf st hg
    subst hP hw hK
    obtain ⟨xs, x, hq, hx⟩ := hg
    obtain ⟨its, rv, p, hz⟩ := I.list hq
    obtain ⟨u, hu, ru⟩ := rv.get hx
    obtain ⟨f0, f1, f2, f3, f4, f5⟩ := hf it (by simp)
    refine wpAny_pyNext_list_item st p.isList (x := u) (by simpa using hu) fun h' st' sb => ?_
    have I1 : Inv X pins σ H { s with heap := h' } := I.turned (t' := s.toks) (fun b o hb e => (sb.2 b hb).trans e) f0 f1 f3 f4 f5
    obtain ⟨o, e, c, d⟩ := id st'
    exact ⟨u, rfl, go_of (s := { s with heap := h' }) e c d (by decide) ⟨x, H, I1, ru, ⟨rfl, fun ys hy => by rw [I.list_inj hy hq]; exact hx⟩, st', fun b hb => (hf b hb).1⟩⟩
  done := by
    intro X hP hw hK hc i pins s σ H E I hf st hg
    subst hP hw hK
    obtain ⟨xs, hq, hx⟩ := hg
    obtain ⟨its, rv, p, hz⟩ := I.list hq
    obtain ⟨f0, f1, f2, f3, f4, f5⟩ := hf it (by simp)
    have hl := rv.length
    exact wpAny_pyNext_list_end (I.ok.hd hc) st p.isList (by simp; omega) fun h' eb => ⟨rfl, I.turned (t' := s.toks) (fun b o hb e => eb b o hb e) f0 f1 f3 f4 f5⟩
  self := fun _ _ _ _ _ st h => wpAny_pyIter_listiter st h
theorem turn_range {P : Program} {w : World} {K : PySem.W.Frag} {tg : Expr} (it : Addr) (lo : Int) (n : Nat) : Turn P w K tg (Itr lo n) [it] it (fun i h => IsRangeIter h it (lo + (i : Nat) * 1) ((n : Int) - (i : Nat)) 1) where
  mem := by simp
  obj := fun i h st b hb => by
    have e : b = it := by simpa using hb
    subst e
    exact ⟨_, st, fun v z => by
      have z' : Data.fields _ = Data.cell v := z
      cases z'⟩
  keep := fun i h h' st k => k it (by simp) _ st
  item := by
    intro X hP hw hK hc i pins s σ H E I hf st hg
    subst hP hw hK
    obtain ⟨f0, f1, f2, f3, f4, f5⟩ := hf it (by simp)
    have W := Walks.range (prog := X.prog) (w := X.w) (I.ok.hd hc) it lo 1 n
    refine W.item i s _ _ hg st fun v h' tk hv st' kk => ?_
    obtain ⟨t, rfl⟩ := hv
    have I1 : Inv X pins σ H { s with heap := h', toks := tk } := I.turned (fun b o hb e => kk b o (by simpa using hb) e) f0 f1 f3 f4 f5
    refine ⟨_, rfl, go_of (s := { s with heap := h', toks := tk }) (n := "range_iterator") st' rfl rfl (by decide) ⟨.int (lo + i), H, I1, ⟨t, ?_⟩, ⟨rfl, rfl⟩, st', fun b hb => (hf b hb).1⟩⟩
    rw [Int.mul_one]
  done := by
    intro X hP hw hK hc i pins s σ H E I hf st hg
    subst hP hw hK
    obtain ⟨f0, f1, f2, f3, f4, f5⟩ := hf it (by simp)
    exact wpAny_pyNext_range_end (I.ok.hd hc) st (by have : n ≤ i := hg; omega) fun h' eb => ⟨rfl, I.turned (t' := s.toks) (fun b o hb e => eb b o hb e) f0 f1 f3 f4 f5⟩
  self := fun _ _ _ _ _ st h => wpAny_pyIter_rangeiter st h
end L2
namespace L2
open PySem PySem.Spec PyProof.Rows
section
variable {X : Cx} {tg : Expr}
def iList (K : PySem.W.Frag) (tl : TE) : TI := fun σ H R => tl σ H fun x H1 => ∃ a, x = .ref a ∧ (∃ xs, SqL K H1 a xs) ∧ R (Itl K a) H1
theorem pi_list {l : Expr} {tl : TE} (hl : PE X l tl) : PI X tg l (iList X.K tl) := by
  intro pins s σ H R I h
  refine thn (hl pins s σ H _ I h) fun v s1 ⟨x, H1, I1, r1, q1⟩ => ?_
  obtain ⟨a, e, ⟨xs, hq⟩, q⟩ := q1
  subst e
  cases r1
  obtain ⟨its, rv, p, hz⟩ := I1.list hq
  refine wpAny_pyIter_list p.isList ?_
  refine ⟨s1.heap.objs.size, [s1.heap.objs.size], _, _, H1, rfl, I1.kept (t' := s1.toks) fun b o e => Heap.get?_push_of_some _ e, turn_list a _, ⟨_, Heap.get?_push_size _ rfl, rfl, rfl⟩, fun b hb => ?_, q⟩
  have e : b = s1.heap.objs.size := by simpa using hb
  subst e
  exact I1.fpOk (Nat.le_refl _) (I1.hok.fresh (Nat.le_refl _))
theorem range_it {pins : List (Addr × Obj)} {σ : St} {H : Hp} {s : Shared} {R : It → Hp → Prop} {E : Value → Shared → Prop} {lo hi : Int} {t u v : Tok} {tk : Nat} (I : Inv X pins σ H s) (h1 : -(2 ^ 62) ≤ lo) (h2 : lo < 2 ^ 62) (h3 : -(2 ^ 62) ≤ hi) (h4 : hi < 2 ^ 62)
    (q : R (Itr lo (hi - lo).toNat) H) : wpAny (model X.prog X.w) X.A (pyIter (.ref s.heap.objs.size)) (PIE X pins σ tg R) E { s with heap := s.heap.push { cls := .type "range", data := .fields #[.int lo t, .int hi u, .int 1 v] }, toks := tk } := by
  refine wpAny_pyIter_range (IsRange.new ..) (small_one h1 h2 h3 h4) ?_
  have I1 : Inv X pins σ H { s with heap := s.heap.push { cls := .type "range", data := .fields #[.int lo t, .int hi u, .int 1 v] }, toks := tk } := I.kept fun b o e => Heap.get?_push_of_some _ e
  refine ⟨(s.heap.push { cls := .type "range", data := .fields #[.int lo t, .int hi u, .int 1 v] }).objs.size, [(s.heap.push { cls := .type "range", data := .fields #[.int lo t, .int hi u, .int 1 v] }).objs.size], _, _, H, rfl,
    I1.kept (t' := tk) fun b o e => Heap.get?_push_of_some _ e, turn_range _ lo (hi - lo).toNat, ?_, fun b hb => ?_, q⟩
  · have e1 : lo + ((0 : Nat) : Int) * 1 = lo := by simp
    have e2 : (((hi - lo).toNat : Nat) : Int) - ((0 : Nat) : Int) = Builtin.Range.rangeSize lo hi 1 := by rw [rangeSize_one]; split <;> omega
    show IsRangeIter _ _ (lo + ((0 : Nat) : Int) * 1) ((((hi - lo).toNat : Nat) : Int) - ((0 : Nat) : Int)) 1
    rw [e1, e2]
    exact Heap.get?_push_size _ rfl
  · have e : b = (s.heap.push { cls := .type "range", data := .fields #[.int lo t, .int hi u, .int 1 v] }).objs.size := by simpa using hb
    subst e
    exact I1.fpOk (Nat.le_refl _) (I1.hok.fresh (Nat.le_refl _))
def iRng1 (ta : TA) : TI := fun σ H R => ta σ H fun vs H1 => ∃ j : Int, vs = [.int j] ∧ -(2 ^ 62) ≤ j ∧ j < 2 ^ 62 ∧ R (Itr 0 j.toNat) H1
theorem pi_range1 {a : Expr} {ta : TA} {p pos : Pos} (hg : Gl X "range") (hm : X.mg "range" = none) (ha : PA X [a] ta) (hs : starEach [a] X.env = [(false, eval a X.env)] := by rfl) : PI X tg (.Call (.Name "range" p) [a] [] pos) (iRng1 ta) := by
  intro pins s σ H R I h
  refine Call_ (ld_blt I hg hm boot_range (PyProof.Rows.callWith_type1 (thn (ha pos pins s σ H _ I h) fun us s1 ⟨vs, H1, I1, r1, q1⟩ => ?_) hs rfl))
  obtain ⟨j, e, q1, q2, q⟩ := q1
  subst e
  cases r1 with
  | cons r rr =>
    cases rr
    obtain ⟨t, rfl⟩ := r
    exact call_range_1 (range_it I1 (by omega) (by omega) q1 q2 (by simpa using q))
def tFor (wi : TI) (g : TG) (tb : TS) : TS := fun D σ H => wi σ H fun J H1 => ∃ W : Nat → Nat → St → Hp → Prop, (∃ m, W 0 m σ H1) ∧ ∀ i m σ H, W i m σ H →
  (J.stop i H ∧ D.nx σ H) ∨ (J.go i H ∧ ∃ N : St → Hp → Prop, (∀ σ' H', N σ' H' → ∃ m', m' < m ∧ W (i + 1) m' σ' H') ∧ ∀ x H', J.yld i H x H' → g x σ H' fun σ2 H2 => tb { D with nx := N, ct := N, bk := D.nx } σ2 H2)
def pinsAt (fp : List Addr) (h : Heap) : List (Addr × Obj) := fp.filterMap fun b => (h.get? b).map fun o => (b, o)
theorem mem_pinsAt {fp : List Addr} {h : Heap} {b : Addr} {o : Obj} (hb : b ∈ fp) (e : h.get? b = some o) : (b, o) ∈ pinsAt fp h := List.mem_filterMap.mpr ⟨b, hb, by rw [e]; rfl⟩
theorem of_pinsAt {fp : List Addr} {h : Heap} {p : Addr × Obj} (hp : p ∈ pinsAt fp h) : p.1 ∈ fp ∧ h.get? p.1 = some p.2 := by
  obtain ⟨b, hb, e⟩ := List.mem_filterMap.mp hp
  cases q : h.get? b with
  | none => rw [q] at e; cases e
  | some o =>
    rw [q] at e
    have e' : (b, o) = p := Option.some.inj e
    subst e'
    exact ⟨hb, q⟩
theorem Inv.pinned {pins : List (Addr × Obj)} {σ : St} {H : Hp} {s : Shared} {fp : List Addr} (I : Inv X pins σ H s) (hf : ∀ b ∈ fp, FpOk X pins H b) (ho : ∀ b ∈ fp, ∃ o, s.heap.get? b = some o ∧ ∀ v, o.data ≠ .cell v) : Inv X (pins ++ pinsAt fp s.heap) σ H s :=
  I.pins_of fun p hp => (List.mem_append.mp hp).elim (fun z => I.pin p (List.mem_append_right _ z)) fun z => by
    obtain ⟨hb, e⟩ := of_pinsAt z
    obtain ⟨f0, f1, f2, _⟩ := hf p.1 hb
    obtain ⟨o, e', d⟩ := ho p.1 hb
    rw [e] at e'; cases e'
    exact ⟨e, f0, f1, f2, d⟩
theorem Inv.unpinned {pins pl : List (Addr × Obj)} {σ : St} {H : Hp} {s : Shared} (I : Inv X (pins ++ pl) σ H s) : Inv X pins σ H s := I.pins_of fun p hp => I.pin p (List.mem_append_right _ (List.mem_append_left _ hp))
theorem ps_for {iter : Expr} {body : List Stmt} {wi : TI} {g : TG} {tb : TS} {pos : Pos} (hp : PassesOwn (model X.prog X.w) X.A X.env X.xe) (hc : X.calm = true) (hi : PI X tg iter wi) (hg : PG X tg g) (hb : PSs X body tb)
    (hs : ∀ x, foldedSetIterable iter X.env x = pure x := by intro _; rfl) : PS X (.For tg iter body [] pos) (tFor wi g tb) := by
  intro pins s σ H D I h
  refine wpAny_For (thn (hi pins s σ H _ I h) fun v s1 h1 => thn h1 fun itv s2 h2 => ?_) hs
  obtain ⟨it, fp, tn, J, H2, e, I2, T, st2, f2, W, ⟨m0, w0⟩, turn⟩ := h2
  subst e
  -- what stays true of the iterator's objects through the loop
  have stat : ∀ {H' : Hp}, (∀ b ∈ fp, H' b = none) → ∀ b ∈ fp, FpOk X pins H' b := fun hn b hb => ⟨hn b hb, (f2 b hb).2⟩
  refine codeAny_forLoop_any (fun n s' => ∃ i σ' H', Inv X pins σ' H' s' ∧ tn i s'.heap ∧ (∀ b ∈ fp, H' b = none) ∧ W i n σ' H') ?_ m0 ⟨0, σ, H2, I2, st2, fun b hb => (f2 b hb).1, w0⟩
  rintro n s3 ⟨i, σ3, H3, I3, st3, fr3, w3⟩
  rcases turn i n σ3 H3 w3 with ⟨stop, qn⟩ | ⟨go, N, hN, step⟩
  · refine wpAny_passesOwn hp (thn (T.done X rfl rfl rfl hc i pins s3 σ3 H3 X.xe I3 (stat fr3) st3 stop) fun r s4 ⟨hr, I4⟩ => ?_)
    subst hr
    exact wpAny_execs_nil ⟨σ3, H3, I4, qn⟩
  · refine wpAny_passesOwn hp (thn (T.item X rfl rfl rfl hc i pins s3 σ3 H3 X.xe I3 (stat fr3) st3 go) fun r s4 ⟨u, hr, h4⟩ => ?_)
    subst hr
    refine wpAny_passesOwn hp (thn h4 fun _ s5 ⟨x, H5, I5, r5, y5, st5, fr5⟩ => ?_)
    have I5' := I5.pinned (stat fr5) (T.obj _ _ st5)
    refine wpAny_passesOwn hp (thn (hg _ s5 σ3 H5 x u _ I5' r5 (step x H5 y5)) fun _ s6 ⟨σ6, H6, I6, q6⟩ => ?_)
    refine wpAny_passesOwn hp (thn (hb _ s6 σ6 H6 _ I6 q6) fun f s7 q7 => ?_)
    have again : ∀ {σ7 : St} {H7 : Hp}, Inv X (pins ++ pinsAt fp s5.heap) σ7 H7 s7 → N σ7 H7 → ∃ m, m < n ∧ ∃ i σ' H', Inv X pins σ' H' s7 ∧ tn i s7.heap ∧ (∀ b ∈ fp, H' b = none) ∧ W i m σ' H' := fun {σ7 H7} I7 n7 => by
      obtain ⟨m', hm, w7⟩ := hN σ7 H7 n7
      refine ⟨m', hm, i + 1, σ7, H7, I7.unpinned, T.keep _ _ _ st5 fun b hb o e => (I7.pin (b, o) (List.mem_append_right _ (List.mem_append_right _ (mem_pinsAt hb e)))).1, fun b hb => ?_, w7⟩
      obtain ⟨o, e, d⟩ := T.obj _ _ st5 b hb
      exact (I7.pin (b, o) (List.mem_append_right _ (List.mem_append_right _ (mem_pinsAt hb e)))).2.1
    cases f with
    | next => obtain ⟨σ7, H7, I7, n7⟩ := q7; exact again I7 n7
    | cont => obtain ⟨σ7, H7, I7, n7⟩ := q7; exact again I7 n7
    | brk => obtain ⟨σ7, H7, I7, q7⟩ := q7; exact ⟨σ7, H7, I7.unpinned, q7⟩
    | ret v => obtain ⟨x7, σ7, H7, I7, r7, q7⟩ := q7; exact ⟨x7, σ7, H7, I7.unpinned, r7, q7⟩
end
end L2
namespace L2
open PySem PySem.Spec PyProof.Rows
abbrev R2 := V → V → Hp → VK → Prop
def OpR (X : Cx) (f : Value → Value → Sem Value) (r : R2) : Prop :=
  ∀ (pins : List (Addr × Obj)) (s : Shared) (σ : St) (H : Hp) (x y : V) (v u : Value) (Q : VK), Inv X pins σ H s → RelV x v → RelV y u → r x y H Q →
    wpAny (model X.prog X.w) X.A (f v u) (EP X pins σ Q) X.xe s
def UnR (X : Cx) (f : Value → Sem Value) (r : V → Hp → VK → Prop) : Prop :=
  ∀ (pins : List (Addr × Obj)) (s : Shared) (σ : St) (H : Hp) (x : V) (v : Value) (Q : VK), Inv X pins σ H s → RelV x v → r x H Q →
    wpAny (model X.prog X.w) X.A (f v) (EP X pins σ Q) X.xe s
def CallR (X : Cx) (f : Value) (r : List V → Hp → VK → Prop) : Prop :=
  ∀ (pins : List (Addr × Obj)) (s : Shared) (σ : St) (H : Hp) (xs : List V) (us : List Value) (Q : VK), Inv X pins σ H s → Vals xs us → r xs H Q →
    wpAny (model X.prog X.w) X.A (call f us) (EP X pins σ Q) X.xe s
def tOp (r : R2) (ta tb : TE) : TE := fun σ H Q => ta σ H fun x H1 => tb σ H1 fun y H2 => r x y H2 Q
def tUn (r : V → Hp → VK → Prop) (ta : TE) : TE := fun σ H Q => ta σ H fun x H1 => r x H1 Q
def rI (C : Int → Int → Prop) (g : Int → Int → V) : R2 := fun x y H Q => ∃ i j, x = .int i ∧ y = .int j ∧ C i j ∧ Q (g i j) H
def rI0 (g : Int → Int → V) : R2 := fun x y H Q => ∃ i j, x = .int i ∧ y = .int j ∧ Q (g i j) H
def rU (g : Int → V) : V → Hp → VK → Prop := fun x H Q => ∃ i, x = .int i ∧ Q (g i) H
section
variable {X : Cx} {a b c : Expr} {ta tb tc : TE} {pos : Pos}
theorem binT (ha : PE X a ta) (hb : PE X b tb) {pins : List (Addr × Obj)} {s : Shared} {σ : St} {H : Hp} {R : V → V → Hp → Prop} (I : Inv X pins σ H s)
    (h : ta σ H fun x H1 => tb σ H1 fun y H2 => R x y H2) {Q : Value → Shared → Prop} {f : Value → Value → Sem Value}
    (hf : ∀ v u s2 x y H2, Inv X pins σ H2 s2 → RelV x v → RelV y u → R x y H2 → wpAny (model X.prog X.w) X.A (f v u) Q X.xe s2) :
    wpAny (model X.prog X.w) X.A (eval a X.env) (fun v s₁ => wpAny (model X.prog X.w) X.A (eval b X.env) (fun u s₂ => wpAny (model X.prog X.w) X.A (f v u) Q X.xe s₂) X.xe s₁) X.xe s := by
  refine thn (ha pins s σ H _ I h) fun v s1 ⟨x, H1, I1, r1, q1⟩ => ?_
  refine thn (hb pins s1 σ H1 _ I1 q1) fun u s2 ⟨y, H2, I2, r2, q2⟩ => ?_
  exact hf v u s2 x y H2 I2 r1 r2 q2
theorem pe_op {op : Operator} {r : R2} (ho : OpR X (binaryOp op) r) (ha : PE X a ta) (hb : PE X b tb) : PE X (.BinOp a op b pos) (tOp r ta tb) := by
  intro pins s σ H Q I h
  exact wpAny_BinOp (binT ha hb I h fun v u s2 x y H2 I2 rx ry q => ho pins s2 σ H2 x y v u Q I2 rx ry q)
theorem pe_un {op : UnaryOp} {r : V → Hp → VK → Prop} (ho : UnR X (unaryOp op) r) (ha : PE X a ta) : PE X (.UnaryOp op a pos) (tUn r ta) := by
  intro pins s σ H Q I h
  exact UnaryOp_ (thn (ha pins s σ H _ I h) fun v s1 ⟨x, H1, I1, r1, q1⟩ => ho pins s1 σ H1 x v Q I1 r1 q1)
theorem opI {f : Value → Value → Sem Value} {C : Int → Int → Prop} {g : Int → Int → Int}
    (rule : ∀ (i j : Int) (t u : Tok) (s : Shared) (Q : Value → Shared → Prop) (E : Value → Shared → Prop), C i j → Q (.int (g i j) s.toks) { s with toks := s.toks + 1 } → wpAny (model X.prog X.w) X.A (f (.int i t) (.int j u)) Q E s) :
    OpR X f (rI C fun i j => .int (g i j)) := by
  intro pins s σ H x y v u Q I rx ry h
  obtain ⟨i, j, rfl, rfl, hc, q⟩ := h
  obtain ⟨t, rfl⟩ := rx
  obtain ⟨t', rfl⟩ := ry
  exact rule i j t t' s _ _ hc ⟨.int (g i j), H, I.tok _, ⟨_, rfl⟩, q⟩
theorem opI0 {f : Value → Value → Sem Value} {g : Int → Int → Int}
    (rule : ∀ (i j : Int) (t u : Tok) (s : Shared) (Q : Value → Shared → Prop) (E : Value → Shared → Prop), Q (.int (g i j) s.toks) { s with toks := s.toks + 1 } → wpAny (model X.prog X.w) X.A (f (.int i t) (.int j u)) Q E s) :
    OpR X f (rI0 fun i j => .int (g i j)) := by
  intro pins s σ H x y v u Q I rx ry h
  obtain ⟨i, j, rfl, rfl, q⟩ := h
  obtain ⟨t, rfl⟩ := rx
  obtain ⟨t', rfl⟩ := ry
  exact rule i j t t' s _ _ ⟨.int (g i j), H, I.tok _, ⟨_, rfl⟩, q⟩
theorem opB0 {f : Value → Value → Sem Value} {g : Int → Int → Bool}
    (rule : ∀ (i j : Int) (t u : Tok) (s : Shared) (Q : Value → Shared → Prop) (E : Value → Shared → Prop), Q (.bool (g i j)) s → wpAny (model X.prog X.w) X.A (f (.int i t) (.int j u)) Q E s) :
    OpR X f (rI0 fun i j => .bl (g i j)) := by
  intro pins s σ H x y v u Q I rx ry h
  obtain ⟨i, j, rfl, rfl, q⟩ := h
  obtain ⟨t, rfl⟩ := rx
  obtain ⟨t', rfl⟩ := ry
  exact rule i j t t' s _ _ ⟨.bl (g i j), H, I, rfl, q⟩
def CPow (i j : Int) : Prop := 0 ≤ j ∧ j ≤ 1000000 ∧ i.natAbs < 2 ^ 64
def CMul (i j : Int) : Prop := (-(2 ^ 64) < i ∧ i < 2 ^ 64) ∨ (-(2 ^ 64) < j ∧ j < 2 ^ 64)
theorem CMul.ok {i j : Int} (h : CMul i j) : IntMulOk i j := by
  rcases h with ⟨h1, h2⟩ | ⟨h1, h2⟩
  · exact .of_left (intBits_le_64 h1 h2)
  · exact .of_right (intBits_le_64 h1 h2)
theorem op_add : OpR X (binaryOp .Add) (rI0 fun i j => .int (i + j)) := opI0 fun _ _ _ _ _ _ _ q => add_int q
theorem op_sub : OpR X (binaryOp .Sub) (rI0 fun i j => .int (i - j)) := opI0 fun _ _ _ _ _ _ _ q => sub_int q
theorem op_modN : OpR X (binaryOp .Mod) (rI (fun _ j => j ≠ 0) fun i j => .int (i.fmod j)) := opI fun _ _ _ _ _ _ _ hc q => mod_int' hc q
theorem op_pow : OpR X (binaryOp .Pow) (rI CPow fun i j => .int (i ^ j.toNat)) := opI fun _ _ _ _ _ _ _ hc q => pow_int_small hc.1 hc.2.1 hc.2.2 q
theorem unI {f : Value → Sem Value} {g : Int → Int}
    (rule : ∀ (i : Int) (t : Tok) (s : Shared) (Q : Value → Shared → Prop) (E : Value → Shared → Prop), Q (.int (g i) s.toks) { s with toks := s.toks + 1 } → wpAny (model X.prog X.w) X.A (f (.int i t)) Q E s) :
    UnR X f (rU fun i => .int (g i)) := by
  intro pins s σ H x v Q I rx h
  obtain ⟨i, rfl, q⟩ := h
  obtain ⟨t, rfl⟩ := rx
  exact rule i t s _ _ ⟨.int (g i), H, I.tok _, ⟨_, rfl⟩, q⟩
theorem un_neg : UnR X (unaryOp .USub) (rU fun i => .int (-i)) := unI fun _ _ _ _ _ q => neg_int q
end
def scal : V → V → Bool
  | .non, .non => true | .non, .int _ => true | .int _, .non => true | .non, .bl _ => true | .bl _, .non => true | .non, .str _ => true | .str _, .non => true
  | .int _, .int _ => true | .bl _, .bl _ => true | .str _, .str _ => true | .byt _, .byt _ => true
  | .int _, .str _ => true | .str _, .int _ => true | .bl _, .str _ => true | .str _, .bl _ => true
  | _, _ => false
section
variable {X : Cx} {a b c : Expr} {ta tb tc : TE} {pos : Pos}
theorem op_lt : OpR X (compareOp .Lt) (rI0 fun i j => .bl (decide (i < j))) := opB0 fun _ _ _ _ _ _ _ q => lt_int q
theorem op_le : OpR X (compareOp .LtE) (rI0 fun i j => .bl (decide (i ≤ j))) := opB0 fun _ _ _ _ _ _ _ q => le_int q
theorem op_gt : OpR X (compareOp .Gt) (rI0 fun i j => .bl (decide (j < i))) := opB0 fun _ _ _ _ _ _ _ q => gt_int q
theorem OpR.or {f : Value → Value → Sem Value} {r r' : R2} (h : OpR X f r) (h' : OpR X f r') : OpR X f (fun x y H Q => r x y H Q ∨ r' x y H Q) := by
  intro pins s σ H x y v u Q I rx ry q
  rcases q with q | q
  · exact h pins s σ H x y v u Q I rx ry q
  · exact h' pins s σ H x y v u Q I rx ry q
theorem nomark (b : Expr) {op : CmpOp} (h : op ≠ .In := by decide) (h2 : op ≠ .NotIn := by decide) : behindInMarks op b = false := by
  have e1 : (op == CmpOp.In) = false := by cases op <;> first | rfl | exact absurd rfl h
  have e2 : (op == CmpOp.NotIn) = false := by cases op <;> first | rfl | exact absurd rfl h2
  cases b <;> simp [behindInMarks, e1, e2]
theorem pe_cmpR {op : CmpOp} {r : R2} (ho : OpR X (compareOp op) r) (ha : PE X a ta) (hb : PE X b tb) (hm : behindInMarks op b = false) : PE X (.Compare a [op] [b] pos) (tOp r ta tb) := by
  intro pins s σ H Q I h
  exact wpAny_Compare1 (binT ha hb I h fun v u s2 x y H2 I2 rx ry q => ho pins s2 σ H2 x y v u Q I2 rx ry q) hm
def tTest (t : TE) : TT := fun σ H Q => t σ H fun x H' => ∃ k, x = .bl k ∧ Q k H'
theorem pt_cmpR {op : CmpOp} {r : R2} (ho : OpR X (compareOp op) r) (ha : PE X a ta) (hb : PE X b tb) (hm : behindInMarks op b = false) : PT X (.Compare a [op] [b] pos) (tTest (tOp r ta tb)) := by
  intro pins s σ H Q I h
  refine wpAny_isTrue_Compare1 (thn (ha pins s σ H _ I h) fun v s1 ⟨x, H1, I1, r1, q1⟩ => thn (hb pins s1 σ H1 _ I1 q1) fun u s2 ⟨y, H2, I2, r2, q2⟩ =>
    thn (ho pins s2 σ H2 x y v u _ I2 r1 r2 q2) fun c s3 ⟨z, H3, I3, r3, k, e, q3⟩ => ?_) hm
  subst e
  cases r3
  exact wpAny_truthy_bool ⟨H3, I3, q3⟩
def tChain (r r' : R2) (ta tb tc : TE) : TE := fun σ H Q => ta σ H fun x H1 => tb σ H1 fun y H2 => r x y H2 fun z H3 => ∃ k, z = .bl k ∧
  (if k = true then tc σ H3 fun w' H4 => r' y w' H4 Q else Q (.bl false) H3)
theorem pe_chain {op op' : CmpOp} {r r' : R2} (ho : OpR X (compareOp op) r) (ho' : OpR X (compareOp op') r') (ha : PE X a ta) (hb : PE X b tb) (hc : PE X c tc)
    (hm : lastMarks [op, op'] [b, c] = false := by with_unfolding_all rfl) : PE X (.Compare a [op, op'] [b, c] pos) (tChain r r' ta tb tc) := by
  intro pins s σ H Q I h
  refine Compare_chain (thn (ha pins s σ H _ I h) fun v s1 ⟨x, H1, I1, r1, q1⟩ => chain_link (thn (hb pins s1 σ H1 _ I1 q1) fun u s2 ⟨y, H2, I2, r2, q2⟩ =>
    thn (ho pins s2 σ H2 x y v u _ I2 r1 r2 q2) fun d s3 ⟨z, H3, I3, r3, k, e, q3⟩ => ?_)) hm
  subst e
  cases r3
  refine wpAny_truthy_bool ?_
  cases k with
  | false => exact ite_ff ⟨.bl false, H3, I3, rfl, q3⟩
  | true => exact ite_tt (chain_last (thn (hc pins s3 σ H3 _ I3 q3) fun w' s4 ⟨z', H4, I4, r4, q4⟩ => ho' pins s4 σ H4 y z' u w' Q I4 r2 r4 q4))
theorem pt_chain {op op' : CmpOp} {r r' : R2} (ho : OpR X (compareOp op) r) (ho' : OpR X (compareOp op') r') (ha : PE X a ta) (hb : PE X b tb) (hc : PE X c tc)
    (hm : lastMarks [op, op'] [b, c] = false := by with_unfolding_all rfl) : PT X (.Compare a [op, op'] [b, c] pos) (tTest (tChain r r' ta tb tc)) := by
  intro pins s σ H Q I h
  refine isTrue_chain (thn (ha pins s σ H _ I h) fun v s1 ⟨x, H1, I1, r1, q1⟩ => test_link (thn (hb pins s1 σ H1 _ I1 q1) fun u s2 ⟨y, H2, I2, r2, q2⟩ =>
    thn (ho pins s2 σ H2 x y v u _ I2 r1 r2 q2) fun d s3 ⟨z, H3, I3, r3, k, e, q3⟩ => ?_)) hm
  subst e
  cases r3
  refine wpAny_truthy_bool ?_
  cases k with
  | false =>
    obtain ⟨k', e', q'⟩ := q3
    cases e'
    exact ite_ff ⟨H3, I3, q'⟩
  | true =>
    refine ite_tt (test_last (thn (hc pins s3 σ H3 _ I3 q3) fun w' s4 ⟨z', H4, I4, r4, q4⟩ => thn (ho' pins s4 σ H4 y z' u w' _ I4 r2 r4 q4) fun d' s5 ⟨z2, H5, I5, r5, k2, e2, q5⟩ => ?_))
    subst e2
    cases r5
    exact wpAny_truthy_bool ⟨H5, I5, q5⟩
theorem line63 : (sizeLine : Nat) < 2 ^ 63 := by rw [sizeLine_eq]; decide
theorem op_add_str : OpR X (binaryOp .Add) (fun x y H Q => ∃ i j, x = .str i ∧ y = .str j ∧ i.length + j.length ≤ sizeLine ∧ Q (.str (i ++ j)) H) := by
  intro pins s σ H x y v u Q I rx ry h
  obtain ⟨i, j, rfl, rfl, hz, q⟩ := h
  obtain ⟨t, rfl⟩ := rx
  obtain ⟨t', rfl⟩ := ry
  exact add_str (fun t' tk => ⟨.str (i ++ j), H, I.tok _, ⟨_, rfl⟩, q⟩) hz
theorem vals1 {x : V} {us : List Value} (r : Vals [x] us) : ∃ u, us = [u] ∧ RelV x u := by
  cases r with
  | cons r1 r2 => cases r2; exact ⟨_, rfl, r1⟩
theorem vals2 {x y : V} {us : List Value} (r : Vals [x, y] us) : ∃ u w', us = [u, w'] ∧ RelV x u ∧ RelV y w' := by
  cases r with
  | cons r1 r2 =>
    cases r2 with
    | cons r3 r4 => cases r4; exact ⟨_, _, rfl, r1, r3⟩
end
end L2
namespace L2
open PySem PySem.Spec PyProof.Rows
structure ObjM (h : Heap) (x dx C : Addr) (mA : Str → Option Value) : Prop where
  obj : h.get? x = some (PySem.W.instObj C dx)
  ns : h.Ns1 dx mA
  ne : dx ≠ x
theorem lookIn_ns {h : Heap} {dx : Addr} {mA : Str → Option Value} (n : h.Ns1 dx mA) : ∃ od, h.get? dx = some od ∧ ∀ name, PySem.W.lookIn name od = some (mA name) := by
  obtain ⟨o, es, ep, ho, hd, hk, _, hm⟩ := n
  refine ⟨o, ho, fun name => ?_⟩
  have e := hm name
  unfold nsFind findBy at e
  rw [← Array.find?_toList] at e
  unfold PySem.W.lookIn
  rw [hd]
  dsimp only
  split
  · rename_i y q
    rw [q] at e
    exact congrArg some e
  · rename_i q
    rw [q] at e
    have a : es.toList.any (·.refKey) = false := by
      rw [List.any_eq_false]
      intro y hy
      obtain ⟨z, t, hkey⟩ := hk y (Array.mem_toList_iff.mp hy)
      simp [DictEntry.refKey, hkey]
    have a' : ¬ es.toList.any (·.refKey) = true := by rw [a]; exact Bool.false_ne_true
    rw [if_neg a']
    exact congrArg some e
theorem ObjM.look {h : Heap} {x dx C : Addr} {mA : Str → Option Value} (I : ObjM h x dx C mA) : ∃ od, PySem.W.InstAt h x (PySem.W.instObj C dx) C (some od) ∧ ∀ name, PySem.W.lookIn name od = some (mA name) :=
  let ⟨od, ho, hl⟩ := lookIn_ns I.ns
  ⟨od, ⟨I.obj, rfl, rfl, ho⟩, hl⟩
section
variable {prog : Program} {w : World} {A : Around} {E : Value → Shared → Prop} {s : Shared} {K : PySem.W.Frag} {x dx C f : Addr} {mA : Str → Option Value} {name : Str} {v : Value}
theorem get_map {expr : Bool} {Q : Value → Shared → Prop} (X : K.In s.heap) (I : ObjM s.heap x dx C mA) (hg : PySem.W.plainGet K C name = true) (hh : PySem.W.hasDictIn K C = true)
    (ha : PySem.W.findIn K (.ref C) name = some none) (hv : mA name = some v) (hv' : PySem.W.handedIn v = true) (h : Q v { s with toks := s.toks + 1 }) :
    wpAny (model prog w) A (getAttr (.ref x) name expr) Q E s := by
  obtain ⟨od, J, hl⟩ := I.look
  exact PySem.W.get_value X J (PySem.W.plainGet_of hg).1 (PySem.W.findObj_own hh ha rfl (by rw [hl, hv])) hv' h
theorem get_meth {pl : Sem Bool} {Q : Value × List Value → Shared → Prop} (X : K.In s.heap) (I : ObjM s.heap x dx C mA) (hg : PySem.W.plainGet K C name = true)
    (hf : PySem.W.findIn K (.ref C) name = some (some (.ref f))) (ht : PySem.W.isFn K (.ref f) = true) (hv : mA name = none) (h : Q (.ref f, [.ref x]) s) :
    wpAny (model prog w) A (getMethod (.ref x) name pl) Q E s := by
  obtain ⟨od, J, hl⟩ := I.look
  exact PySem.W.method_fn X J (PySem.W.plainGet_of hg).1 (PySem.W.plainGet_of hg).2 hf (beq_iff_eq.mp ht) (by show (PySem.W.lookIn name od).map (·.isSome) = some false; rw [hl, hv]; rfl) h
theorem set_map {ns : List Str} {Q : Unit → Shared → Prop} (X : K.In s.heap) (I : ObjM s.heap x dx C mA)
    (hs : PySem.W.findIn K (.ref C) "__setattr__" = some (some (.builtin "object.__setattr__"))) (hp : PySem.W.plainOver K C = true) (ht : PySem.W.takerIn K C name = some none) (hh : PySem.W.hasDictIn K C = true)
    (hw : PySem.Within mA ns) (hsz : ns.length ≤ sizeLine)
    (h : ∀ h', ObjM h' x dx C (fun y => if y = name then some v else mA y) → Heap.SameBut dx s.heap h' → Q () { s with heap := h', toks := s.toks + 2 }) :
    wpAny (model prog w) A (setAttr (.ref x) name v) Q E s := by
  obtain ⟨od, J, hl⟩ := I.look
  refine PySem.W.set_plain X J hs (PySem.W.osa_open (s := { s with toks := s.toks + 1 }) (r := none) X J hp ht fun b => ?_)
  obtain ⟨cd, hc, hd'⟩ := PySem.W.any_some hh
  have hx : s.heap.get? x = some ⟨.ref C, some dx, .plain, #[]⟩ := I.obj
  refine wpAny_bind (wpAny_pure (wpAny_bind (wpAny_bind (wpAny_loadPart hx (wpAny_bind (PySem.W.Looks.here (s := { s with toks := s.toks + 1 }) (PySem.W.looks_clsIn X hc) ?_))))))
  rw [hd']
  refine wpAny_pure (a := some dx) (wpAny_bind (wpAny_pure (wpAny_bind ?_)))
  refine wpAny_nsSet1 (s := { s with toks := s.toks + 1 }) I.ns fun h' hn2 hs2 => ?_
  obtain ⟨oD, esD, epD, hoD, hdD, hcD⟩ := hn2.count (PySem.Within.cons name v hw)
  refine wpAny_bind (wpAny_lookBehind hoD (by rw [hdD]; exact pastItsLine_dict (Nat.le_trans hcD (by rw [List.length_cons]; omega))) ?_)
  exact wpAny_pure (h _ ⟨(hs2.2 _ (Ne.symm I.ne)).trans I.obj, hn2, I.ne⟩ hs2)
theorem make_map {R : Result → Shared → Prop} {vs : List Value} {kw : List (Str × Value)} (X : K.In s.heap) (hm : PySem.W.makesIn K C = true)
    (hi : PySem.W.findIn K (.ref C) "__init__" = some (some (.ref f))) (hf : PySem.W.typeIn K (.ref f) = some (.type "function"))
    (h : codeAny (model prog w) (A.under (.builtin "type.__call__" ⟨.ref C :: vs, kw⟩)) (.call (.ref f) ⟨.ref (s.heap.objs.size + 1) :: vs, kw⟩) (PySem.W.InitBack (s.heap.objs.size + 1) R)
      { s with heap := (s.heap.push PySem.W.emptyDict).push (PySem.W.instObj C s.heap.objs.size) }) :
    codeAny (model prog w) A (.call (.ref C) ⟨vs, kw⟩) R s := by
  obtain ⟨hh, g, d, t, os⟩ := s
  exact PySem.W.make_core (PySem.W.makes_of X hm) (PySem.W.looks_findIn X hi) (fun self => PySem.W.bind_fn X self hf) (.inl rfl) h
end
def putF (f : Str) (v : V) : List (Str × V) → List (Str × V)
  | [] => [(f, v)]
  | (g, x) :: r => if g = f then (g, v) :: r else (g, x) :: putF f v r
theorem lookup_putF (f g : Str) (v : V) : ∀ fs : List (Str × V), (putF f v fs).lookup g = if g = f then some v else fs.lookup g
  | [] => by
    show List.lookup g [(f, v)] = _
    by_cases h : g = f
    · have hb : (g == f) = true := beq_iff_eq.mpr h
      simp only [List.lookup, hb, if_pos h]
    · have hb : (g == f) = false := beq_eq_false_iff_ne.mpr h
      simp only [List.lookup, hb, if_neg h]
  | (k, x) :: r => by
    have ih := lookup_putF f g v r
    rw [show putF f v ((k, x) :: r) = (if k = f then (k, v) :: r else (k, x) :: putF f v r) from rfl]
    by_cases hk : k = f
    · rw [if_pos hk]
      by_cases h : g = k
      · have hb : (g == k) = true := beq_iff_eq.mpr h
        simp only [List.lookup, hb, if_pos (h.trans hk)]
      · have hb : (g == k) = false := beq_eq_false_iff_ne.mpr h
        simp only [List.lookup, hb, if_neg (fun e : g = f => h (e.trans hk.symm))]
    · rw [if_neg hk]
      by_cases h : g = k
      · have hb : (g == k) = true := beq_iff_eq.mpr h
        simp only [List.lookup, hb, if_neg (fun e : g = f => hk (h.symm.trans e))]
      · have hb : (g == k) = false := beq_eq_false_iff_ne.mpr h
        simp only [List.lookup, hb]
        exact ih
theorem keys_putF (f : Str) (v : V) : ∀ fs : List (Str × V), f ∈ (putF f v fs).map (·.1) ∧ ∀ g, g ∈ fs.map (·.1) → g ∈ (putF f v fs).map (·.1)
  | [] => ⟨by simp [putF], fun g h => by simp at h⟩
  | (k, x) :: r => by
    obtain ⟨i1, i2⟩ := keys_putF f v r
    rw [show putF f v ((k, x) :: r) = (if k = f then (k, v) :: r else (k, x) :: putF f v r) from rfl]
    by_cases hk : k = f
    · rw [if_pos hk]
      subst hk
      exact ⟨by simp, fun g h => by simpa using h⟩
    · rw [if_neg hk]
      refine ⟨?_, fun g h => ?_⟩
      · rw [List.map_cons]
        exact List.mem_cons_of_mem _ i1
      · rw [List.map_cons] at h ⊢
        rcases List.mem_cons.mp h with e | e
        · exact List.mem_cons.mpr (.inl e)
        · exact List.mem_cons_of_mem _ (i2 g e)
theorem length_putF (f : Str) (v : V) : ∀ fs : List (Str × V), (putF f v fs).length ≤ fs.length + 1
  | [] => by simp [putF]
  | (k, x) :: r => by
    have ih := length_putF f v r
    rw [show putF f v ((k, x) :: r) = (if k = f then (k, v) :: r else (k, x) :: putF f v r) from rfl]
    by_cases hk : k = f
    · rw [if_pos hk, List.length_cons, List.length_cons]; omega
    · rw [if_neg hk, List.length_cons, List.length_cons]; omega
theorem RelO.some_of {v : V} {o : Option Value} (r : RelO (some v) o) : ∃ u, o = some u ∧ RelV v u := by
  cases o with
  | none => exact (show False from r).elim
  | some u => exact ⟨u, rfl, r⟩
theorem RelO.none_of {o : Option Value} (r : RelO none o) : o = none := by
  cases o with
  | none => rfl
  | some u => exact (show False from r).elim
theorem handed_of {v : V} {u : Value} (r : RelV v u) : PySem.W.handedIn u = true := by
  cases v with
  | non => cases (show u = Value.none from r); rfl
  | bl b => cases (show u = Value.bool b from r); rfl
  | int i => obtain ⟨t, e⟩ := (show ∃ t, u = Value.int i t from r); cases e; rfl
  | str x => obtain ⟨t, e⟩ := (show ∃ t, u = Value.str x t from r); cases e; rfl
  | byt b => obtain ⟨t, e⟩ := (show ∃ t, u = Value.bytes b t from r); cases e; rfl
  | flt b => obtain ⟨t, e⟩ := (show ∃ t, u = Value.float b t from r); cases e; rfl
  | ref a => cases (show u = Value.ref a from r); rfl
  | ty n => cases (show u = Value.type n from r); rfl
section
variable {P : Program} {w : World} {H H' : Hp} {h h' : Heap} {a C dx : Addr} {fs fs' : List (Str × V)}
theorem ins_get (hok : HOk P w H h) (e : H a = some (.ins C dx fs)) : ∃ mA, ObjM h a dx C mA ∧ (∀ f, RelO (fs.lookup f) (mA f)) ∧ PySem.Within mA (fs.map (·.1)) ∧ fs.length ≤ 1000 ∧ H dx = some (.own a) := by
  obtain ⟨d, z, ne, ob, mA, n, r, q⟩ := (show ObjOk P w H h a (.ins C dx fs) from hok a _ e)
  exact ⟨mA, ⟨ob, n, ne⟩, r, q, z, d⟩
end
structure Cls (K : PySem.W.Frag) (C : Addr) : Prop where
  pg : PySem.W.plainGet K C Str.empty = true
  hd : PySem.W.hasDictIn K C = true
  po : PySem.W.plainOver K C = true
  sa : PySem.W.findIn K (.ref C) "__setattr__" = some (some (.builtin "object.__setattr__"))
theorem Cls.get {K : PySem.W.Frag} {C : Addr} (c : Cls K C) (f : Str) : PySem.W.plainGet K C f = true := c.pg
def NoAttr (K : PySem.W.Frag) (C : Addr) (f : Str) : Prop := PySem.W.findIn K (.ref C) f = some none
theorem NoAttr.taker {K : PySem.W.Frag} {C : Addr} {f : Str} (n : NoAttr K C f) : PySem.W.takerIn K C f = some none := by
  unfold PySem.W.takerIn
  rw [show PySem.W.findIn K (.ref C) f = some none from n]
  rfl
structure Con (K : PySem.W.Frag) (C : Addr) (f : Str) (v : V) (u : Value) : Prop where
  at_ : PySem.W.findIn K (.ref C) f = some (some u)
  rel : RelV v u
  get : PySem.W.specialIn K u "__get__" = some none
  cp : PySem.W.copiedNames.contains f = false
structure Meth (K : PySem.W.Frag) (C : Addr) (m : Str) (f : Addr) : Prop where
  at_ : PySem.W.findIn K (.ref C) m = some (some (.ref f))
  fn : PySem.W.isFn K (.ref f) = true
  kp : PySem.W.keepIn K (.ref f) = true
section
variable {X : Cx} {pins : List (Addr × Obj)} {σ : St} {H : Hp} {s : Shared} {a C dx : Addr} {fs : List (Str × V)} {f : Str} {v : V} {A : Around} {E : Value → Shared → Prop}
theorem getattr_ok {b : Bool} {Q : Value → Shared → Prop} (I : Inv X pins σ H s) (e : H a = some (.ins C dx fs)) (c : Cls X.K C) (n : NoAttr X.K C f) (l : fs.lookup f = some v)
    (h : ∀ u s', Inv X pins σ H s' → RelV v u → Q u s') : wpAny (model X.prog X.w) A (getAttr (.ref a) f b) Q E s := by
  obtain ⟨mA, O, r, _, _, _⟩ := ins_get I.hok e
  obtain ⟨u, hu, ru⟩ := RelO.some_of (v := v) (o := mA f) (by rw [← l]; exact r f)
  exact get_map I.kIn O (c.get f) c.hd n hu (handed_of ru) (h u _ (I.tok _) ru)
theorem getmeth_ok {m : Str} {g : Addr} {pl : Sem Bool} {Q : Value × List Value → Shared → Prop} (I : Inv X pins σ H s) (e : H a = some (.ins C dx fs)) (c : Cls X.K C) (k : Meth X.K C m g) (l : fs.lookup m = none)
    (h : Q (.ref g, [.ref a]) s) : wpAny (model X.prog X.w) A (getMethod (.ref a) m pl) Q E s := by
  obtain ⟨mA, O, r, _, _, _⟩ := ins_get I.hok e
  have hn : mA m = none := RelO.none_of (by rw [← l]; exact r m)
  exact get_meth I.kIn O (c.get m) k.at_ k.fn hn h
theorem setattr_ok {y : V} {u : Value} {Q : Unit → Shared → Prop} (I : Inv X pins σ H s) (e : H a = some (.ins C dx fs)) (c : Cls X.K C) (n : NoAttr X.K C f) (hl : fs.length < 1000) (ry : RelV y u)
    (h : ∀ s', Inv X pins σ (upd H a (.ins C dx (putF f y fs))) s' → Q () s') : wpAny (model X.prog X.w) A (setAttr (.ref a) f u) Q E s := by
  obtain ⟨mA, O, r, wi, _, ho⟩ := ins_get I.hok e
  have hz : (fs.map (·.1)).length ≤ sizeLine := by rw [List.length_map, sizeLine_eq]; omega
  refine set_map I.kIn O c.sa c.po n.taker c.hd wi hz fun h' O' sb => h _ ?_
  have hd : ∃ o, h'.get? dx = some o := let ⟨o, _, _, e', _⟩ := O'.ns; ⟨o, e'⟩
  refine I.write (x := a) (e := dx) (by rw [e]; exact True.intro) (.inr ho) (fun b q hb z => (sb.2 b hb).trans z) hd ?_
  refine ⟨by rw [upd_ne O.ne]; exact ho, ?_, O.ne, O'.obj, _, O'.ns, fun g => ?_, fun g hg => ?_⟩
  · have := length_putF f y fs; omega
  · show RelO ((putF f y fs).lookup g) (if g = f then some u else mA g)
    rw [lookup_putF]
    by_cases q : g = f
    · rw [if_pos q, if_pos q]; exact ry
    · rw [if_neg q, if_neg q]; exact r g
  · by_cases q : g = f
    · rw [q]; exact (keys_putF f y fs).1
    · refine (keys_putF f y fs).2 g (wi g fun z => hg ?_)
      show (if g = f then some u else mA g) = none
      rw [if_neg q]; exact z
theorem Inv.made (I : Inv X pins σ H s) : Inv X pins σ (upd (upd H s.heap.objs.size (.own (s.heap.objs.size + 1))) (s.heap.objs.size + 1) (.ins C s.heap.objs.size []))
    { s with heap := (s.heap.push PySem.W.emptyDict).push (PySem.W.instObj C s.heap.objs.size) } := by
  have e1 : (s.heap.push PySem.W.emptyDict).get? s.heap.objs.size = some PySem.W.emptyDict := Heap.get?_push_size s.heap rfl
  have e2 : ((s.heap.push PySem.W.emptyDict).push (PySem.W.instObj C s.heap.objs.size)).get? (s.heap.objs.size + 1) = some (PySem.W.instObj C s.heap.objs.size) := by
    have := Heap.get?_push_size (s.heap.push PySem.W.emptyDict) (o := PySem.W.instObj C s.heap.objs.size) rfl
    rwa [Heap.size_push] at this
  have e3 : (s.heap.push PySem.W.emptyDict).Ns s.heap.objs.size (fun _ => none) := ⟨PySem.W.emptyDict, #[], _, e1, rfl, (fun e he => absurd he (by simp)), fun _ => rfl⟩
  have I1 := I.laid (a := s.heap.objs.size) (o := .own (s.heap.objs.size + 1)) (h' := s.heap.push PySem.W.emptyDict) (t' := s.toks) (fun b u q => Heap.get?_push_of_some _ q) (Nat.le_refl _) ⟨_, e1⟩
  refine I1.laid (a := s.heap.objs.size + 1) (o := .ins C s.heap.objs.size []) (t' := s.toks) (fun b u q => Heap.get?_push_of_some _ q) (Nat.le_of_eq (Heap.size_push _ _)) ?_
  have ne : s.heap.objs.size ≠ s.heap.objs.size + 1 := Nat.ne_of_lt (Nat.lt_succ_self _)
  refine ⟨by rw [upd_ne ne, upd_same], Nat.zero_le _, ne, e2, fun _ => none, (Heap.Ns1.of_empty e3).at fun o q => Heap.get?_push_of_some _ q, fun _ => True.intro, fun y hy => absurd rfl hy⟩
theorem attr_of {prog : Program} {w : World} {env : Env} {e : Expr} {f : Str} {pos : Pos} {s : Shared} {Q : Value → Shared → Prop} (hb : attributeBase e f env (eval e env) = eval e env)
    (h : wpAny (model prog w) A (eval e env) (fun o s₁ => wpAny (model prog w) A (getAttr o f true) Q E s₁) E s) : wpAny (model prog w) A (eval (.Attribute e f pos) env) Q E s :=
  Attribute_any_ h (by rw [arm_eval_Attribute, hb])
end
def tFld (K : PySem.W.Frag) (ta : TE) (f : Str) : TE := fun σ H Q => ta σ H fun x H1 => ∃ a C dx fs v, x = .ref a ∧ H1 a = some (.ins C dx fs) ∧ Cls K C ∧ NoAttr K C f ∧ fs.lookup f = some v ∧ Q v H1
def sFld (K : PySem.W.Frag) (ta tv : TE) (f : Str) : TS := fun D σ H => tv σ H fun y H1 => ta σ H1 fun x H2 => ∃ a C dx fs, x = .ref a ∧ H2 a = some (.ins C dx fs) ∧ Cls K C ∧ NoAttr K C f ∧ fs.length < 1000 ∧
  D.nx σ (upd H2 a (.ins C dx (putF f y fs)))
section
variable {X : Cx} {o e value : Expr} {f : Str} {pos pos' tpos : Pos} {ta tv : TE}
theorem pe_fld (he : PE X e ta) (hb : attributeBase e f X.env (eval e X.env) = eval e X.env) : PE X (.Attribute e f pos) (tFld X.K ta f) := by
  intro pins s σ H Q I h
  refine attr_of hb (thn (he pins s σ H _ I h) fun u s1 ⟨x, H1, I1, rx, a, C, dx, fs, v, ex, ea, c, n, l, q⟩ => ?_)
  subst ex
  obtain rfl : u = Value.ref a := rx
  exact getattr_ok I1 ea c n l fun u' s2 I2 ru => ⟨v, H1, I2, ru, q⟩
theorem ps_fld (ha : PE X o ta) (hv : PE X value tv) (hs : swapsWith value (some (.Attribute o f pos')) pos.line X.env = pure false) : PS X (.Assign [.Attribute o f pos'] value pos) (sFld X.K ta tv f) := by
  intro pins s σ H D I h
  refine plainObj_wpAny_Assign_Attribute (thn (hv pins s σ H _ I h) fun u s1 ⟨y, H1, I1, ry, q⟩ => thn (ha pins s1 σ H1 _ I1 q) fun ov s2 ⟨x, H2, I2, rx, a, C, dx, fs, ex, ea, c, n, l, q2⟩ => ?_) hs
  subst ex
  obtain rfl : ov = Value.ref a := rx
  exact setattr_ok I2 ea c n l ry fun s3 I3 => ⟨σ, _, I3, q2⟩
end
section
variable {X : Cx} {pins : List (Addr × Obj)} {σ : St} {H : Hp} {s : Shared} {A : Around} {E : Value → Shared → Prop} {Q : Value → Shared → Prop} {c : Value} {b : Bool}
inductive TyOf (K : PySem.W.Frag) (H : Hp) : V → Value → Prop where
  | non : TyOf K H .non (.type "NoneType")
  | bl (x : Bool) : TyOf K H (.bl x) (.type "bool")
  | int (i : Int) : TyOf K H (.int i) (.type "int")
  | str (x : Str) : TyOf K H (.str x) (.type "str")
  | flt (x : UInt64) : TyOf K H (.flt x) (.type "float")
  | lst {a : Addr} {xs : List V} (e : H a = some (.lst xs)) : TyOf K H (.ref a) (.type "list")
  | frz {a : Addr} {o : Obj} {xs : List V} (e : H a = some (.frz o (.lst xs))) : TyOf K H (.ref a) (.type "list")
  | tup {a : Addr} {xs : List V} (e : H a = some (.tup xs)) : TyOf K H (.ref a) (.type "tuple")
  | dK {a : Addr} {kvs : List (Key × V)} (e : H a = some (.dK kvs)) : TyOf K H (.ref a) (.type "dict")
  | dT {a : Addr} {kvs : List (List Key × V)} (e : H a = some (.dT kvs)) : TyOf K H (.ref a) (.type "dict")
  | ins {a C dx : Addr} {fs : List (Str × V)} (e : H a = some (.ins C dx fs)) (cl : Cls K C) (ha : PySem.W.findIn K (.ref C) "__class__" = some (some (.builtin "object.__class__")))
      (hn : PySem.W.specialIn K (.builtin "object.__class__") "__get__" = some (some (.builtin "getset_descriptor.__get__"))) (htk : PySem.W.takesIn K (.builtin "object.__class__") = some true)
      (hm : PySem.W.mroIn K C (.type "object") = some true) : TyOf K H (.ref a) (.ref C)
end
end L2
namespace L2
open PySem PySem.Spec PyProof.Rows
structure Room (k : Nat) (A : Around) : Prop where
  hd : A.handled = none
  dp : A.depth + 3 * k + 5 < recursionLimit
  un : A.units + 16 * k + 200 < cLine
theorem Room.mono {j k : Nat} {A : Around} (r : Room k A) (h : j ≤ k) : Room j A := ⟨r.hd, by have := r.dp; omega, by have := r.un; omega⟩
theorem Room.deeper {k : Nat} {A : Around} (r : Room (k + 1) A) (env : Env) : Room k (A.deeper env) :=
  ⟨r.hd, by have := r.dp; show A.depth + 1 + 3 * k + 5 < _; omega, by have := r.un; show A.units + 3 + 16 * k + 200 < _; omega⟩
theorem Room.in1 {k : Nat} {A : Around} (r : Room (k + 1) A) : Room k A.in1 :=
  ⟨r.hd, by have := r.dp; show A.depth + 3 * k + 5 < _; omega, by have := r.un; show A.units + 1 + 16 * k + 200 < _; omega⟩
theorem make_depth {A : Around} {C : Addr} {us : List Value} {kw : List (Str × Value)} : (A.under (.builtin "type.__call__" ⟨.ref C :: us, kw⟩)).depth = A.depth + 1 := by
  first | rfl | simp [Around.under, Code.weight, Code.isCreation, Code.isGuard, Code.isCaller, Code.frames, Code.isFrame, guardIds]
theorem make_units {A : Around} {C : Addr} {us : List Value} {kw : List (Str × Value)} : (A.under (.builtin "type.__call__" ⟨.ref C :: us, kw⟩)).units = A.units + 1 := by
  first | rfl | simp [Around.under, Code.cUnits, Code.frames, Code.isFrame]
theorem Room.make {k : Nat} {A : Around} (r : Room (k + 1) A) (C : Addr) (us : List Value) (kw : List (Str × Value)) : Room k (A.under (.builtin "type.__call__" ⟨.ref C :: us, kw⟩)) :=
  ⟨r.hd, by have := r.dp; rw [make_depth]; omega, by have := r.un; rw [make_units]; omega⟩
theorem Room.depth {k : Nat} {A : Around} (r : Room k A) : A.depth < recursionLimit := by have := r.dp; omega
theorem Room.units {k : Nat} {A : Around} (r : Room k A) : A.units + 64 < cLine := by have := r.un; omega
def tNil : TA := fun _ H Q => Q [] H
def tCons (ta : TE) (tr : TA) : TA := fun σ H Q => ta σ H fun x H1 => tr σ H1 fun xs H2 => Q (x :: xs) H2
section
variable {X : Cx} {e : Expr} {es : List Expr} {te : TE} {t : TA} {pos : Pos}
theorem pa_nil : PA X [] tNil := fun _ _ _ _ H Q I h => Calls.spliced_nil ⟨[], H, I, .nil, h⟩
theorem pa_cons (ha : PE X e te) (hr : PA X es t) (hs : starEach (e :: es) X.env = (false, eval e X.env) :: starEach es X.env := by rfl) : PA X (e :: es) (tCons te t) := by
  intro pos pins s σ H Q I h
  rw [hs]
  show wpAny _ _ (spliced ((false, eval e X.env) :: backTo pos (starEach es X.env))) _ _ s
  refine Calls.spliced_cons (thn (ha pins s σ H _ I h) fun u s1 ⟨x, H1, I1, r1, q1⟩ => ?_)
  exact thn (hr pos pins s1 σ H1 _ I1 q1) fun us s2 ⟨xs, H2, I2, r2, q2⟩ => ⟨x :: xs, H2, I2, .cons r1 r2, q2⟩
def tTup (t : TA) : TE := fun σ H Q => t σ H fun xs H1 => xs.length ≤ sizeLine ∧ ∀ p, H1 p = none → Q (.ref p) (upd H1 p (.tup xs))
def tLst (t : TA) : TE := fun σ H Q => t σ H fun xs H1 => xs.length ≤ sizeLine ∧ ∀ p, H1 p = none → Q (.ref p) (upd H1 p (.lst xs))
theorem pe_tup {x1} (h : PA X es t) : PE X (.Tuple es x1 pos) (tTup t) := by
  intro pins s σ H Q I hq
  refine wpAny_Tuple_spliced (thn (h pos pins s σ H _ I hq) fun us s1 ⟨xs, H1, I1, r, z, q⟩ => ⟨by rw [← r.length]; exact z, ?_⟩)
  have hf : H1 s1.heap.objs.size = none := I1.hok.fresh (Nat.le_refl _)
  refine ⟨.ref s1.heap.objs.size, upd H1 s1.heap.objs.size (.tup xs), I1.laid (t' := s1.toks) (fun b u e => Heap.get?_push_of_some _ e) (Nat.le_refl _) ?_, rfl, q _ hf⟩
  exact ⟨z, us, r, ⟨_, Heap.get?_push_size _ rfl, rfl, _, rfl⟩⟩
theorem pe_lst (h : PA X es t) : PE X (.List es pos) (tLst t) := by
  intro pins s σ H Q I hq
  refine wpAny_List_spliced (thn (h pos pins s σ H _ I hq) fun us s1 ⟨xs, H1, I1, r, z, q⟩ => ⟨by rw [← r.length]; exact z, ?_⟩)
  have hf : H1 s1.heap.objs.size = none := I1.hok.fresh (Nat.le_refl _)
  refine ⟨.ref s1.heap.objs.size, upd H1 s1.heap.objs.size (.lst xs), I1.laid (t' := s1.toks) (fun b u e => Heap.get?_push_of_some _ e) (Nat.le_refl _) ?_, rfl, q _ hf⟩
  exact ⟨z, us, 0, r, Heap.get?_push_size _ rfl⟩
end
abbrev Sp := List V → Hp → VK → XK → Prop
abbrev CXT := List Env → Hp → Shared → XK → Value → Shared → Prop
structure Env0 (P : Program) (w : World) (K : PySem.W.Frag) (mg : Str → Option Value) (base : Heap) (A : Around) (outer : List Env) (s : Shared) (H : Hp) : Prop where
  frames : A.frames = some outer
  mod : Mod K mg base
  bs : ∀ b o, base.get? b = some o → s.heap.get? b = some o ∧ H b = none
  bsz : base.objs.size ≤ s.heap.objs.size
  funs : s.heap.FunFrames base outer
  frf : ∀ b ∈ frs outer, H b = none
  hok : HOk P w H s.heap
  bare : AllBare s.gens
def CE (outer : List Env) (P : Program) (w : World) (H : Hp) (s : Shared) (Q : VK) (u : Value) (s' : Shared) : Prop :=
  ∃ v H', s'.os = s.os ∧ AllBare s'.gens ∧ Un (frs outer) [] H H' s.heap s'.heap ∧ HOk P w H' s'.heap ∧ RelV v u ∧ Q v H'
def CR (CX : CXT) (outer : List Env) (P : Program) (w : World) (H : Hp) (s : Shared) (Q : VK) (E : XK) (r : Result) (s' : Shared) : Prop :=
  match r with
  | .ok (.ret u) => CE outer P w H s Q u s'
  | .ok _ => False
  | .error e => CX outer H s E e s'
structure FnOk (P : Program) (w : World) (K : PySem.W.Frag) (mg : Str → Option Value) (base : Heap) (CX : CXT) (k : Nat) (f : Addr) (fd : FuncData) (ps : List Str) (sp : Sp) : Prop where
  len : ∀ vs H Q E, sp vs H Q E → vs.length = ps.length
  run : ∀ (A : Around) (outer : List Env) (s : Shared) (H : Hp) (args : Args) (us : List Value) (vs : List V) (Q : VK) (E : XK), Room k A → Env0 P w K mg base A outer s H → BindsTo s fd args (ps.zip us) → Vals vs us → sp vs H Q E →
    codeAny (model P w) A (.call (.ref f) args) (CR CX outer P w H s Q E) s
theorem FnOk.mono {P : Program} {w : World} {K : PySem.W.Frag} {mg : Str → Option Value} {base : Heap} {CX : CXT} {j k : Nat} {f : Addr} {fd : FuncData} {ps : List Str} {sp : Sp} (F : FnOk P w K mg base CX j f fd ps sp) (h : j ≤ k) :
    FnOk P w K mg base CX k f fd ps sp := ⟨F.len, fun A outer s H args us vs Q E hr => F.run A outer s H args us vs Q E (hr.mono h)⟩
theorem FnOk.imp {P : Program} {w : World} {K : PySem.W.Frag} {mg : Str → Option Value} {base : Heap} {CX : CXT} {k : Nat} {f : Addr} {fd : FuncData} {ps : List Str} {sp sp' : Sp} (F : FnOk P w K mg base CX k f fd ps sp)
    (h : ∀ vs H Q E, sp' vs H Q E → sp vs H Q E) : FnOk P w K mg base CX k f fd ps sp' :=
  ⟨fun vs H Q E q => F.len vs H Q E (h _ _ _ _ q), fun A outer s H args us vs Q E hr he hb hv hs => F.run A outer s H args us vs Q E hr he hb hv (h _ _ _ _ hs)⟩
theorem Env0.make {P : Program} {w : World} {K : PySem.W.Frag} {mg : Str → Option Value} {base : Heap} {A : Around} {outer : List Env} {s : Shared} {H : Hp} (e : Env0 P w K mg base A outer s H) (C : Addr) (us : List Value) (kw : List (Str × Value)) :
    Env0 P w K mg base (A.under (.builtin "type.__call__" ⟨.ref C :: us, kw⟩)) outer s H := ⟨by first | exact e.frames | (simpa [Around.under, Code.envs, Code.isFrame, pushEnvs] using e.frames), e.mod, e.bs, e.bsz, e.funs, e.frf, e.hok, e.bare⟩
theorem Env0.in1 {P : Program} {w : World} {K : PySem.W.Frag} {mg : Str → Option Value} {base : Heap} {A : Around} {outer : List Env} {s : Shared} {H : Hp} (e : Env0 P w K mg base A outer s H) :
    Env0 P w K mg base A.in1 outer s H := ⟨e.frames, e.mod, e.bs, e.bsz, e.funs, e.frf, e.hok, e.bare⟩
section
variable {X : Cx} {pins : List (Addr × Obj)} {σ : St} {H : Hp} {s s' : Shared}
theorem Inv.env0 (I : Inv X pins σ H s) : Env0 X.prog X.w X.K X.mg X.base X.A X.stack s H :=
  ⟨I.ok.frames, I.ok.mod, I.bs, Nat.le_trans I.ok.bsz I.sz, I.stack, I.stkFree, I.hok, I.bare⟩
theorem Inv.after {Q : VK} {u : Value} (I : Inv X pins σ H s) (h : CE X.stack X.prog X.w H s Q u s') : EP X pins σ Q u s' := by
  obtain ⟨v, H', os, bare, un, hok, r, q⟩ := h
  obtain ⟨hh, g, d, t, os'⟩ := s'
  obtain rfl : os' = s.os := os
  exact ⟨v, H', I.call (h' := hh) (g' := g) (d' := d) (t' := t) (ch := []) un hok bare (fun b z => absurd z (by simp)), r, q⟩
end
def tCall (sp : Sp) (dvs : List V) (E : XK) (t : TA) : TE := fun σ H Q => t σ H fun vs H1 => sp (vs ++ dvs) H1 Q E
def tMake (C : Addr) (sp : Sp) (dvs : List V) (E : XK) (t : TA) : TE := fun σ H Q => t σ H fun vs H1 => ∀ x dx, H1 x = none → H1 dx = none → dx ≠ x →
  sp (.ref x :: (vs ++ dvs)) (upd (upd H1 dx (.own x)) x (.ins C dx [])) (fun v H2 => v = .non ∧ Q (.ref x) H2) E
def Binds (K : PySem.W.Frag) (fd : FuncData) (ps : List Str) (ds : List Value) : Prop :=
  ∀ (s : Shared) (us : List Value), K.In s.heap → (us ++ ds).length = ps.length → BindsTo s fd ⟨us, []⟩ (ps.zip (us ++ ds))
theorem Binds.all {K : PySem.W.Frag} {fd : FuncData} {ps : List Str} (h : ∀ us : List Value, us.length = ps.length → bindArgs fd ⟨us, []⟩ = pure (ps.zip us)) : Binds K fd ps [] := fun s us _ hl => by
  rw [List.append_nil] at hl ⊢
  exact .of_eq (h us hl)
def Passes (CX : CXT) (X : Cx) (E : XK) : Prop := ∀ (pins : List (Addr × Obj)) (σ : St) (H : Hp) (s : Shared) (e : Value) (s' : Shared), Inv X pins σ H s → CX X.stack H s E e s' → X.xe e s'
section
variable {X : Cx} {CX : CXT} {k : Nat} {f C : Addr} {fd : FuncData} {ps : List Str} {sp : Sp} {dvs : List V} {ds : List Value} {E : XK} {x m : Str} {p pos apos : Pos} {e o : Expr} {es : List Expr} {ta : TE} {t : TA}
theorem run_fn {pins : List (Addr × Obj)} {σ : St} {H : Hp} {s : Shared} {Q : VK} {us : List Value} {vs : List V} (F : FnOk X.prog X.w X.K X.mg X.base CX k f fd ps sp) (hr : Room k X.A) (hb : Binds X.K fd ps ds) (hd : Vals dvs ds) (hx : Passes CX X E)
    (I : Inv X pins σ H s) (r : Vals vs us) (h : sp (vs ++ dvs) H Q E) : wpAny (model X.prog X.w) X.A (call (.ref f) us) (EP X pins σ Q) X.xe s := by
  have r2 : Vals (vs ++ dvs) (us ++ ds) := r.append hd
  have hl : (us ++ ds).length = ps.length := by rw [← r2.length]; exact F.len _ _ _ _ h
  refine wpAny_call (codeAny_mono (F.run X.A X.stack s H ⟨us, []⟩ (us ++ ds) (vs ++ dvs) Q E hr I.env0 (hb s us I.kIn hl) r2 h) fun r s' hq => ?_)
  cases r with
  | error e => exact hx pins σ H s e s' I hq
  | ok fl =>
    cases fl with
    | ret u => exact I.after hq
    | next => exact False.elim hq
    | brk => exact False.elim hq
    | cont => exact False.elim hq
theorem pe_call (F : FnOk X.prog X.w X.K X.mg X.base CX k f fd ps sp) (hr : Room k X.A) (hg : Gl X x) (hm : X.mg x = some (.ref f)) (hk : PySem.W.keepIn X.K (.ref f) = true) (hb : Binds X.K fd ps ds) (hd : Vals dvs ds) (hx : Passes CX X E)
    (ha : PA X (e :: es) t) (hdb : (x == ("__debug__" : Str)) = false := by decide) (he : starEach (e :: es) X.env = (false, eval e X.env) :: starEach es X.env := by rfl) (hpl : (backTo pos (starEach es X.env)).any (·.1) = false := by rfl) :
    PE X (.Call (.Name x p) (e :: es) [] pos) (tCall sp dvs E t) := by
  intro pins s σ H Q I h
  refine wpAny_Call_Name_kw (ld_glob I hg hm ?_ hdb)
  refine PySem.W.callWith_K (h₀ := X.base) I.ok.mod.kin hk (thn (ha pos pins s σ H _ I h) fun us s1 ⟨vs, H1, I1, r, q⟩ => ⟨I1.kIn, ?_⟩) he hpl
  exact run_fn F hr hb hd hx I1 r q
structure Mk (K : PySem.W.Frag) (C f : Addr) : Prop where
  makes : PySem.W.makesIn K C = true
  init : PySem.W.findIn K (.ref C) "__init__" = some (some (.ref f))
  fn : PySem.W.isFn K (.ref f) = true
  kp : PySem.W.keepIn K (.ref C) = true
theorem run_make {pins : List (Addr × Obj)} {σ : St} {H : Hp} {s : Shared} {Q : VK} {us : List Value} {vs : List V} (M : Mk X.K C f) (F : FnOk X.prog X.w X.K X.mg X.base CX k f fd ps sp) (hr : Room (k + 1) X.A) (hb : Binds X.K fd ps ds) (hd : Vals dvs ds)
    (hx : Passes CX X E) (I : Inv X pins σ H s) (r : Vals vs us)
    (h : ∀ x dx, H x = none → H dx = none → dx ≠ x → sp (.ref x :: (vs ++ dvs)) (upd (upd H dx (.own x)) x (.ins C dx [])) (fun v H2 => v = .non ∧ Q (.ref x) H2) E) :
    wpAny (model X.prog X.w) X.A (call (.ref C) us) (EP X pins σ Q) X.xe s := by
  have hq := h (s.heap.objs.size + 1) s.heap.objs.size (I.hok.fresh (Nat.le_succ _)) (I.hok.fresh (Nat.le_refl _)) (Nat.ne_of_lt (Nat.lt_succ_self _))
  have I2 := Inv.made (C := C) I
  have r2 : Vals (V.ref (s.heap.objs.size + 1) :: (vs ++ dvs)) (Value.ref (s.heap.objs.size + 1) :: (us ++ ds)) := .cons rfl (r.append hd)
  have hl : (Value.ref (s.heap.objs.size + 1) :: us ++ ds).length = ps.length := by
    have e := r2.length
    rw [F.len _ _ _ _ hq] at e
    exact e.symm
  refine wpAny_call (make_map (f := f) I.kIn M.makes M.init (beq_iff_eq.mp M.fn) (codeAny_mono (F.run _ X.stack _ _ ⟨Value.ref (s.heap.objs.size + 1) :: us, []⟩ (Value.ref (s.heap.objs.size + 1) :: (us ++ ds)) _ _ E (hr.make C us [])
    (I2.env0.make C us []) (hb _ (Value.ref (s.heap.objs.size + 1) :: us) I2.kIn hl) r2 hq) fun r s' hq' => ?_))
  cases r with
  | error e => exact hx pins σ _ _ e s' I2 hq'
  | ok fl =>
    cases fl with
    | ret u =>
      obtain ⟨v, H', I3, rv, ev, q3⟩ := I2.after hq'
      subst ev
      exact ⟨rv, ⟨V.ref (s.heap.objs.size + 1), H', I3, rfl, q3⟩⟩
    | next => exact False.elim hq'
    | brk => exact False.elim hq'
    | cont => exact False.elim hq'
theorem pe_make (M : Mk X.K C f) (F : FnOk X.prog X.w X.K X.mg X.base CX k f fd ps sp) (hr : Room (k + 1) X.A) (hg : Gl X x) (hm : X.mg x = some (.ref C)) (hb : Binds X.K fd ps ds) (hd : Vals dvs ds) (hx : Passes CX X E)
    (ha : PA X (e :: es) t) (hdb : (x == ("__debug__" : Str)) = false := by decide) (he : starEach (e :: es) X.env = (false, eval e X.env) :: starEach es X.env := by rfl) (hpl : (backTo pos (starEach es X.env)).any (·.1) = false := by rfl) :
    PE X (.Call (.Name x p) (e :: es) [] pos) (tMake C sp dvs E t) := by
  intro pins s σ H Q I h
  refine wpAny_Call_Name_kw (ld_glob I hg hm ?_ hdb)
  refine PySem.W.callWith_K (h₀ := X.base) I.ok.mod.kin M.kp (thn (ha pos pins s σ H _ I h) fun us s1 ⟨vs, H1, I1, r, q⟩ => ⟨I1.kIn, ?_⟩) he hpl
  exact run_make M F hr hb hd hx I1 r q
end
section
variable {X : Cx} {CX : CXT} {k : Nat} {f C : Addr} {fd : FuncData} {ps ks : List Str} {sp : Sp} {E : XK} {x m : Str} {p pos apos kpos : Pos} {e o : Expr} {es : List Expr} {kws : List Keyword} {te ta : TE} {t tk : TA} {nm : Option Str}
structure KBinds (K : PySem.W.Frag) (fd : FuncData) (ps ks : List Str) (g : List Value → List Value → List Value) (gV : List V → List V → List V) : Prop where
  to : ∀ (s : Shared) (us ws : List Value), K.In s.heap → (g us ws).length = ps.length → BindsTo s fd ⟨us, ks.zip ws⟩ (ps.zip (g us ws))
  rel : ∀ {vs : List V} {us : List Value} {zs : List V} {ws : List Value}, Vals vs us → Vals zs ws → Vals (gV vs zs) (g us ws)
variable {g : List Value → List Value → List Value} {gV : List V → List V → List V}
end
structure FnScope (N P : List Str) (sc : Scope) : Prop where
  kind : sc.kind = .function
  co : sc.isCoroutine = false
  gen : sc.isGenerator = false
  nd : N.Nodup
  pre : N.take P.length = P
  par : ∀ x ∈ P, sc.names.lookup x = some .local ∨ sc.names.lookup x = some .cell
  nofree : ∀ y ∈ sc.names, y.2 ≠ .free
theorem bindL_out {kindOf : Str → Option NameKind} {x : Str} : ∀ {binds : List (Str × Value)} {m : Str → Option Value}, (∀ v, (x, v) ∉ binds) → bindL kindOf binds m x = m x
  | [], _, _ => rfl
  | (n, v) :: r, m, h => by
    unfold bindL
    rw [bindL_out fun w hw => h w (List.mem_cons_of_mem _ hw)]
    split
    · have : x ≠ n := by rintro rfl; exact h v List.mem_cons_self
      simp [this]
    · rfl
theorem bindC_out {kindOf : Str → Option NameKind} {x : Str} : ∀ {binds : List (Str × Value)} {m : Str → Option Value}, (∀ v, (x, v) ∉ binds) → bindC kindOf binds m x = m x
  | [], _, _ => rfl
  | (n, v) :: r, m, h => by
    unfold bindC
    rw [bindC_out fun w hw => h w (List.mem_cons_of_mem _ hw)]
    split
    · rfl
    · have : x ≠ n := by rintro rfl; exact h v List.mem_cons_self
      simp [this]
theorem bindL_get {kindOf : Str → Option NameKind} {x : Str} {v : Value} : ∀ {P : List Str} {vs : List Value} {i : Nat} {m : Str → Option Value}, P.Nodup → P[i]? = some x → vs[i]? = some v → kindOf x = some .local →
    bindL kindOf (P.zip vs) m x = some v
  | [], _, _, _, _, h, _, _ => by simp at h
  | _ :: _, [], _, _, _, _, h, _ => by simp at h
  | p :: P, w :: vs, 0, m, nd, h1, h2, hk => by
    simp at h1 h2; subst h1; subst h2
    show bindL kindOf ((p, w) :: P.zip vs) m p = _
    unfold bindL
    rw [bindL_out fun v hv => (List.nodup_cons.mp nd).1 (List.of_mem_zip hv).1, if_pos hk]
    simp
  | p :: P, w :: vs, i + 1, m, nd, h1, h2, hk => by
    show bindL kindOf ((p, w) :: P.zip vs) m x = _
    unfold bindL
    exact bindL_get (i := i) (List.nodup_cons.mp nd).2 (by simpa using h1) (by simpa using h2) hk
theorem bindC_get {kindOf : Str → Option NameKind} {x : Str} {v : Value} : ∀ {P : List Str} {vs : List Value} {i : Nat} {m : Str → Option Value}, P.Nodup → P[i]? = some x → vs[i]? = some v → kindOf x ≠ some .local →
    bindC kindOf (P.zip vs) m x = some v
  | [], _, _, _, _, h, _, _ => by simp at h
  | _ :: _, [], _, _, _, _, h, _ => by simp at h
  | p :: P, w :: vs, 0, m, nd, h1, h2, hk => by
    simp at h1 h2; subst h1; subst h2
    show bindC kindOf ((p, w) :: P.zip vs) m p = _
    unfold bindC
    rw [bindC_out fun v hv => (List.nodup_cons.mp nd).1 (List.of_mem_zip hv).1, if_neg hk]
    simp
  | p :: P, w :: vs, i + 1, m, nd, h1, h2, hk => by
    show bindC kindOf ((p, w) :: P.zip vs) m x = _
    unfold bindC
    exact bindC_get (i := i) (List.nodup_cons.mp nd).2 (by simpa using h1) (by simpa using h2) hk
def start (N : List Str) (vs : List V) : St := vs.map some ++ List.replicate (N.length - vs.length) none
def cxOf (CX : CXT) (P : Program) (w : World) (K : PySem.W.Frag) (mg : Str → Option Value) (base : Heap) (N : List Str) (qual : Str) (scope : Scope) (f : Addr) (cd : Value) (A : Around) (outer : List Env) (s : Shared) (H : Hp) (E : XK) : Cx where
  prog := P
  w := w
  K := K
  mg := mg
  base := base
  A := A.deeper (envOfC qual scope s.heap.objs.size f cd)
  N := N
  s₀ := s
  H₀ := H
  env := envOfC qual scope s.heap.objs.size f cd
  outer := outer
  stack := envOfC qual scope s.heap.objs.size f cd :: outer
  ex := []
  calm := true
  fn := fun _ => true
  pn := []
  xe := fun e s' => wpAny (model P w) (A.deeper (envOfC qual scope s.heap.objs.size f cd)) (leaving (envOfC qual scope s.heap.objs.size f cd) e) (fun _ s'' => CX outer H s E e s'') (fun e' s'' => CX outer H s E e' s'') s'
theorem cell_has {sc : Scope} {n : Nat} {x : Str} (h : sc.names.lookup x = some .cell) : ∃ c, (cellsFrom n sc.names []).lookup x = some c := by
  have q := PySem.W.cellsFrom_some sc.names n [] (.inl h)
  exact Option.isSome_iff_exists.mp q
theorem inv_start {CX : CXT} {P : Program} {w : World} {K : PySem.W.Frag} {mg : Str → Option Value} {base : Heap} {N ps : List Str} {qual : Str} {scope : Scope} {f : Addr} {cd : Value} {A : Around} {outer : List Env} {s s1 : Shared} {H : Hp} {E : XK} {us : List Value} {vs : List V}
    (S : FnScope N ps scope) (hd : A.handled = none) (e0 : Env0 P w K mg base A outer s H) (hl : vs.length = ps.length) (r : Vals vs us)
    (x : InCallC s s.heap.objs.size (bindL (envOfC qual scope s.heap.objs.size f cd).kindOf (ps.zip us) fun _ => none) (cellsFrom (s.heap.objs.size + 1) scope.names []) (bindC (envOfC qual scope s.heap.objs.size f cd).kindOf (ps.zip us) fun _ => none) s1) :
    Inv (cxOf CX P w K mg base N qual scope f cd A outer s H E) [] (start N vs) H s1 := by
  have hpl : ps.length ≤ N.length := by have := congrArg List.length S.pre; rw [List.length_take] at this; omega
  obtain ⟨h1, tk, rfl, hk⟩ := x.done
  have noA : ∀ b : Addr, b ∉ (cxOf CX P w K mg base N qual scope f cd A outer s H E).ex := fun b z => absurd (show b ∈ ([] : List Addr) from z) (by simp)
  refine ⟨⟨e0.mod, S.kind, rfl, rfl, Nat.le_refl _, fun y z c h1 h2 => ?_, fun y hy => ?_, fun y c _ h => ?_, fun _ => hd, Around.frames_deeper e0.frames, .inr ⟨rfl, rfl⟩, fun b z => absurd z (noA b), e0.bs, e0.bsz, fun b _ _ => noA b, fun b z => absurd z (noA b), e0.funs, e0.frf⟩,
    rfl, e0.bare, Un.kept hk, ⟨_, x.toInCall.ns, fun i y v h1 h2 h3 => ?_⟩, fun y c h => ⟨_, x.cell y c h⟩, e0.hok.fresh (Nat.le_refl _), fun y c h => ?_, fun p hp => absurd (show p ∈ ([] : List (Addr × Obj)) from hp) (by simp), e0.hok.kept hk, ?_⟩
  · exact name_of_addr x.apart (PySem.mem_of_lookup h1) (PySem.mem_of_lookup h2)
  · have hy : scope.names.lookup y = some .cell ∨ scope.names.lookup y = some .free := hy
    rcases hy with hy | hy
    · exact cell_has hy
    · exact absurd rfl (S.nofree _ (PySem.mem_of_lookup hy))
  · exact Nat.le_of_lt (x.above y c (PySem.mem_of_lookup h))
  · have hi : i < vs.length := by
      unfold start at h2
      by_cases hi : i < vs.length
      · exact hi
      · rw [List.getElem?_append_right (by simpa using hi)] at h2
        rw [List.getElem?_replicate] at h2
        split at h2 <;> cases h2
    have ha : vs[i]? = some v := by
      unfold start at h2
      rw [List.getElem?_append_left (by simpa using hi), List.getElem?_map] at h2
      cases e : vs[i]? with
      | none => rw [e] at h2; cases h2
      | some a => rw [e] at h2; cases h2; rfl
    obtain ⟨u, hu, rv⟩ := r.get ha
    have hp : ps[i]? = some y := by
      rw [← S.pre, List.getElem?_take_of_lt (by omega)]; exact h1
    have ndP : ps.Nodup := by rw [← S.pre]; exact S.nd.sublist (List.take_sublist _ _)
    refine ⟨u, rv, ?_⟩
    rcases S.par y (List.mem_of_getElem? hp) with k | k
    · exact .inl ⟨k, bindL_get ndP hp hu k⟩
    · obtain ⟨c, e⟩ := cell_has (n := s.heap.objs.size + 1) k
      refine .inr ⟨.inl k, c, e, ?_⟩
      have q := x.cell y c e
      rw [bindC_get ndP hp hu (by show scope.names.lookup y ≠ _; rw [k]; decide)] at q
      exact q
  · exact e0.hok.fresh (Nat.le_of_lt (x.above y c (PySem.mem_of_lookup h)))
  · unfold start
    show _ = N.length
    rw [List.length_append, List.length_map, List.length_replicate]
    omega
theorem fn_of {CX : CXT} {P : Program} {w : World} {K : PySem.W.Frag} {mg : Str → Option Value} {base : Heap} {k : Nat} {f : Addr} {name qual : Str} {params : Arguments} {body : List Stmt} {scope : Scope} {dV kV doc pm cdv ct oc : Value} {an od : Option Addr}
    {osl : Array (Option Value)} {N ps : List Str} {sp : Sp} (lk : K.lookup f = some ⟨oc, od, .func (PySem.W.fnOf name qual params body scope dV kV doc pm an cdv ct), osl⟩) (hcd : PySem.W.codeIn K cdv qual = true) (S : FnScope N ps scope)
    (len : ∀ vs H Q E, sp vs H Q E → vs.length = ps.length)
    (hbody : ∀ (A : Around) (outer : List Env) (s : Shared) (H : Hp) (vs : List V) (Q : VK) (E : XK), Room k (A.deeper (envOfC qual scope s.heap.objs.size f cdv)) → sp vs H Q E →
      ∃ t, PSs (cxOf CX P w K mg base N qual scope f cdv A outer s H E) body t ∧ t { nx := fun _ H' => Q .non H', rt := Q } (start N vs) H) :
    FnOk P w K mg base CX (k + 1) f (PySem.W.fnOf name qual params body scope dV kV doc pm an cdv ct) ps sp := by
  refine ⟨len, fun A outer s H args us vs Q E hr e0 hb r hsp => ?_⟩
  have hl := len _ _ _ _ hsp
  have KX : K.In s.heap := e0.mod.kin.keeps fun b o e => (e0.bs b o e).1
  have lim : s.heap.NoLimit := e0.mod.nolimit.keeps fun b o e => (e0.bs b o e).1
  have hkind : ∀ y ∈ ps.zip us, scope.names.lookup y.1 = some .local ∨ (scope.names.lookup y.1 = some .cell ∧ ((cellsFrom (s.heap.objs.size + 1) scope.names []).lookup y.1).isSome = true) := fun ⟨n, v⟩ hy => by
    rcases S.par n (List.of_mem_zip hy).1 with q | q
    · exact .inl q
    · exact .inr ⟨q, PySem.W.cellsFrom_some _ _ _ (.inl q)⟩
  refine codeAny_call_function hr.depth (KX _ _ lk) rfl S.co S.gen rfl (PySem.W.codeRec_of KX hcd) (hb _ _ _ _ ?_)
  refine wpAny_newFunctionEnv_cells S.kind hkind fun env he s1 x => ?_
  subst he
  refine ⟨lim.keeps x.toInCall.keep, codeAny_func ?_⟩
  obtain ⟨t, ht, hq⟩ := hbody A outer s H vs Q E (hr.deeper _) hsp
  have I : Inv (cxOf CX P w K mg base N qual scope f cdv A outer s H E) [] (start N vs) H s1 := inv_start S hr.hd e0 hl r x
  refine wpAny_mono (ht [] s1 (start N vs) H _ I hq) (fun fl s' hs => ?_) fun e s' hs => hs
  have fin : ∀ {σ' : St} {H' : Hp} {v : V} {u : Value}, Inv (cxOf CX P w K mg base N qual scope f cdv A outer s H E) [] σ' H' s' → RelV v u → Q v H' → CE outer P w H s Q u s' :=
    fun {σ' H' v u} J rv q => ⟨v, H', J.os, J.bare, J.base, J.hok, rv, q⟩
  cases fl with
  | ret u =>
    obtain ⟨v, σ', H', J, rv, q⟩ := hs
    exact fin J rv q
  | next =>
    obtain ⟨σ', H', J, q⟩ := hs
    exact fin (v := V.non) (u := Value.none) J rfl q
  | brk =>
    obtain ⟨_, _, _, q⟩ := hs
    exact False.elim q
  | cont =>
    obtain ⟨_, _, _, q⟩ := hs
    exact False.elim q
end L2
namespace L2
open PySem PySem.Spec PyProof.Rows
section
variable {X : Cx} {x : Str} {p pos : Pos} {e : Expr} {es : List Expr} {t : TA} {id T : String} {r : List V → Hp → VK → Prop}
def tCB (r : List V → Hp → VK → Prop) (t : TA) : TE := fun σ H Q => t σ H fun vs H1 => r vs H1 Q
theorem pe_callB (hc : CallR X (.builtin id) r) (hg : Gl X x) (hm : X.mg x = none) (hv : bootBuiltins x = some (.builtin id)) (ha : PA X (e :: es) t) (hn : x ≠ "__name__" := by decide) (hdb : (x == ("__debug__" : Str)) = false := by decide)
    (he : starEach (e :: es) X.env = (false, eval e X.env) :: starEach es X.env := by rfl) (hpl : (backTo pos (starEach es X.env)).any (·.1) = false := by rfl) : PE X (.Call (.Name x p) (e :: es) [] pos) (tCB r t) := by
  intro pins s σ H Q I h
  refine wpAny_Call_Name_kw (ld_blt I hg hm hv ?_ hn hdb)
  exact PyProof.Rows.callWith_builtin1 (thn (ha pos pins s σ H _ I h) fun us s1 ⟨vs, H1, I1, r1, q1⟩ => hc pins s1 σ H1 vs us Q I1 r1 q1) he hpl
theorem pe_callTy (hc : CallR X (.type T) r) (hg : Gl X x) (hm : X.mg x = none) (hv : bootBuiltins x = some (.type T)) (ha : PA X (e :: es) t) (hn : x ≠ "__name__" := by decide) (hdb : (x == ("__debug__" : Str)) = false := by decide)
    (he : starEach (e :: es) X.env = (false, eval e X.env) :: starEach es X.env := by rfl) (hpl : (backTo pos (starEach es X.env)).any (·.1) = false := by rfl) : PE X (.Call (.Name x p) (e :: es) [] pos) (tCB r t) := by
  intro pins s σ H Q I h
  refine wpAny_Call_Name_kw (ld_blt I hg hm hv ?_ hn hdb)
  exact PyProof.Rows.callWith_type1 (thn (ha pos pins s σ H _ I h) fun us s1 ⟨vs, H1, I1, r1, q1⟩ => hc pins s1 σ H1 vs us Q I1 r1 q1) he hpl
end
end L2
namespace HT
open PySem PyProof.Rows
section
open PySem.SeqAt
open PySem.AutoSeq1 (wpAny_loadPart')
open PySem.MeetsSeq PySem.MeetsSeq2 PySem.MeetsSeq3
end
section
variable {prog : Program} {w : World} {A : Around} {E : Value → Shared → Prop} {s : Shared}
def sIx (n d : Nat) : Option Int → Nat
  | none => d
  | some v => if v < 0 then (v + (n : Int)).toNat else min v.toNat n
theorem sIx_none (n d : Nat) : sIx n d none = d := rfl
theorem sIx_nat (n d k : Nat) : sIx n d (some (k : Int)) = min k n := by
  show (if (k : Int) < 0 then ((k : Int) + (n : Int)).toNat else min (k : Int).toNat n) = min k n
  rw [if_neg (by omega), Int.toNat_natCast]
end
end HT
namespace L2
open PySem PySem.Spec PyProof.Rows
abbrev TO := St → Hp → (Option Int → Hp → Prop) → Prop
def PO (X : Cx) (e : Option Expr) (t : TO) : Prop :=
  ∀ (pins : List (Addr × Obj)) (s : Shared) (σ : St) (H : Hp) (Q : Option Int → Hp → Prop), Inv X pins σ H s → t σ H Q →
    wpAny (model X.prog X.w) X.A (evalPart e X.env) (fun u s' => ∃ o H', Inv X pins σ H' s' ∧ IsPart u o ∧ Q o H') X.xe s
def tNoPart : TO := fun _ H Q => Q none H
def tPart (t : TE) : TO := fun σ H Q => t σ H fun x H1 => ∃ i, x = .int i ∧ Q (some i) H1
section
variable {X : Cx} {e : Expr} {te : TE} {lo hi : Option Expr} {tl th : TO} {pos p2 : Pos}
theorem po_none : PO X none tNoPart := by
  intro pins s σ H Q I h
  rw [evalPart_none]
  exact wpAny_pure ⟨none, H, I, .none, h⟩
theorem po_some (h : PE X e te) : PO X (some e) (tPart te) := by
  intro pins s σ H Q I hw
  rw [evalPart_some]
  refine thn (h pins s σ H _ I hw) fun u s1 ⟨x, H1, I1, r1, q1⟩ => ?_
  obtain ⟨i, rfl, q⟩ := q1
  obtain ⟨t, rfl⟩ := r1
  exact ⟨some i, H1, I1, .int i t, q⟩
def SlR (X : Cx) (r : V → Option Int → Option Int → Hp → VK → Prop) : Prop :=
  ∀ (pins : List (Addr × Obj)) (s : Shared) (σ : St) (H : Hp) (x : V) (v vl vu : Value) (lo hi : Option Int) (sl : Addr) (Q : VK), Inv X pins σ H s → RelV x v → s.heap.IsSliceOf sl vl vu .none → IsPart vl lo → IsPart vu hi → r x lo hi H Q →
    ∃ T id, typeLookup (.type T) "__getitem__" = pure (some (.builtin id)) ∧ s.TypeIs v T ∧ wpAny (model X.prog X.w) X.A (getItem v (.ref sl)) (EP X pins σ Q) X.xe s
theorem SlR.or {r r' : V → Option Int → Option Int → Hp → VK → Prop} (h : SlR X r) (h' : SlR X r') : SlR X (fun x lo hi H Q => r x lo hi H Q ∨ r' x lo hi H Q) := by
  intro pins s σ H x v vl vu lo hi sl Q I rx hs pl pu q
  rcases q with q | q
  · exact h pins s σ H x v vl vu lo hi sl Q I rx hs pl pu q
  · exact h' pins s σ H x v vl vu lo hi sl Q I rx hs pl pu q
def tSl (r : V → Option Int → Option Int → Hp → VK → Prop) (te : TE) (tl th : TO) : TE := fun σ H Q => te σ H fun x H1 => tl σ H1 fun l H2 => th σ H2 fun u H3 => r x l u H3 Q
theorem pe_slice {r : V → Option Int → Option Int → Hp → VK → Prop} (hr : SlR X r) (he : PE X e te) (hl : PO X lo tl) (hu : PO X hi th) : PE X (.Subscript e (.Slice lo hi none p2) pos) (tSl r te tl th) := by
  intro pins s σ H Q I h
  refine Subscript_ (thn (he pins s σ H _ I h) fun v s1 ⟨x, H1, I1, r1, q1⟩ => ?_)
  refine wpAny_Slice (thn (hl pins s1 σ H1 _ I1 q1) fun vl s2 ⟨l, H2, I2, pl, q2⟩ => thn (hu pins s2 σ H2 _ I2 q2) fun vu s3 ⟨u, H3, I3, pu, q3⟩ => ?_)
  rw [evalPart_none]
  refine wpAny_pure ?_
  have I4 : Inv X pins σ H3 { s3 with heap := s3.heap.push { cls := .type "slice", data := .fields #[vl, vu, .none] } } := I3.kept (t' := s3.toks) fun b ob q => Heap.get?_push_of_some _ q
  obtain ⟨T, id, hT, ht, hg⟩ := hr pins { s3 with heap := s3.heap.push { cls := .type "slice", data := .fields #[vl, vu, .none] } } σ H3 x v vl vu l u s3.heap.objs.size Q I4 r1 (Heap.IsSliceOf.new ..) pl pu q3
  show wpAny (model X.prog X.w) X.A (subscriptTail e (.Slice lo hi none p2) v (.ref s3.heap.objs.size)) (EP X pins σ Q) X.xe { s3 with heap := s3.heap.push { cls := .type "slice", data := .fields #[vl, vu, .none] } }
  exact tail_any (ops := [.ref s3.heap.objs.size, v]) ht hT hg (by with_unfolding_all rfl)
def cutV (xs : List V) (lo hi : Option Int) : List V := (xs.drop (HT.sIx xs.length 0 lo)).take (HT.sIx xs.length xs.length hi - HT.sIx xs.length 0 lo)
theorem cutV_length (xs : List V) (lo hi : Option Int) : (cutV xs lo hi).length ≤ xs.length := by
  unfold cutV
  rw [List.length_take, List.length_drop]
  omega
end
end L2
namespace L2
open PySem PySem.Spec PyProof.Rows
def ixN (n : Nat) (i : Int) : Option Nat := if 0 ≤ i then (if i < n then some i.toNat else none) else if -(n : Int) ≤ i then some (i + n).toNat else none
def atI {α : Type} (xs : List α) (i : Int) : Option α := (ixN xs.length i).bind fun j => xs[j]?
theorem ixN_seq {n : Nat} {i : Int} {j : Nat} (h : ixN n i = some j) : seqIndex? i n = some j ∧ j < n ∧ -(n : Int) ≤ i ∧ i < n := by
  unfold ixN at h
  by_cases h0 : 0 ≤ i
  · rw [if_pos h0] at h
    by_cases h1 : i < n
    · rw [if_pos h1] at h
      have e : i.toNat = j := Option.some.inj h
      exact ⟨by rw [seqIndex_of h0 h1, e], by omega, by omega, h1⟩
    · rw [if_neg h1] at h; cases h
  · rw [if_neg h0] at h
    by_cases h1 : -(n : Int) ≤ i
    · rw [if_pos h1] at h
      have e : (i + n).toNat = j := Option.some.inj h
      exact ⟨by rw [seqIndex_neg (by omega) h1, e], by omega, h1, by omega⟩
    · rw [if_neg h1] at h; cases h
theorem atI_get {α : Type} {xs : List α} {i : Int} {v : α} (h : atI xs i = some v) : ∃ j, seqIndex? i xs.length = some j ∧ xs[j]? = some v ∧ j < xs.length ∧ -(xs.length : Int) ≤ i ∧ i < xs.length := by
  unfold atI at h
  cases e : ixN xs.length i with
  | none => rw [e] at h; cases h
  | some j =>
    rw [e] at h
    obtain ⟨h1, h2, h3, h4⟩ := ixN_seq e
    exact ⟨j, h1, h, h2, h3, h4⟩
theorem atI_nat {α : Type} {xs : List α} {j : Nat} {v : α} (h : xs[j]? = some v) : atI xs (j : Int) = some v := by
  have hj : j < xs.length := (List.getElem?_eq_some_iff.mp h).1
  have e : ixN xs.length (j : Int) = some j := by
    unfold ixN
    rw [if_pos (by omega), if_pos (by omega)]; simp
  unfold atI; rw [e]; exact h
def PlainIx (b : Expr) : Prop := ∀ o i, subscripted b false o i = operate [o, i] (getItem o i)
def IxR (X : Cx) (r : R2) : Prop :=
  ∀ (value slice : Expr) (pins : List (Addr × Obj)) (s : Shared) (σ : St) (H : Hp) (x y : V) (v u : Value) (Q : VK), Inv X pins σ H s → RelV x v → RelV y u → r x y H Q →
    subscripted slice false v u = operate [v, u] (getItem v u) → wpAny (model X.prog X.w) X.A (subscriptTail value slice v u) (EP X pins σ Q) X.xe s
def MtR (X : Cx) (id : String) (r : V → List V → Hp → VK → Prop) : Prop :=
  ∀ (pins : List (Addr × Obj)) (s : Shared) (σ : St) (H : Hp) (x : V) (xs : List V) (v : Value) (us : List Value) (Q : VK), Inv X pins σ H s → RelV x v → Vals xs us → r x xs H Q →
    wpAny (model X.prog X.w) X.A (call (.builtin id) (v :: us)) (EP X pins σ Q) X.xe s
section
variable {X : Cx} {a b : Expr} {ta tb : TE} {pos : Pos}
theorem IxR.or {r r' : R2} (h : IxR X r) (h' : IxR X r') : IxR X (fun x y H Q => r x y H Q ∨ r' x y H Q) := by
  intro value slice pins s σ H x y v u Q I rx ry q hs
  rcases q with q | q
  · exact h value slice pins s σ H x y v u Q I rx ry q hs
  · exact h' value slice pins s σ H x y v u Q I rx ry q hs
theorem MtR.or {id : String} {r r' : V → List V → Hp → VK → Prop} (h : MtR X id r) (h' : MtR X id r') : MtR X id (fun x xs H Q => r x xs H Q ∨ r' x xs H Q) := by
  intro pins s σ H x xs v us Q I rx rs q
  rcases q with q | q
  · exact h pins s σ H x xs v us Q I rx rs q
  · exact h' pins s σ H x xs v us Q I rx rs q
theorem pe_ix {r : R2} (hr : IxR X r) (ha : PE X a ta) (hb : PE X b tb) (hs : PlainIx b) : PE X (.Subscript a b pos) (tOp r ta tb) := by
  intro pins s σ H Q I h
  exact Subscript_ (binT ha hb I h fun v u s2 x y H2 I2 rx ry q => hr a b pins s2 σ H2 x y v u Q I2 rx ry q (hs _ _))
def rIxL (K : PySem.W.Frag) : R2 := fun x y H Q => ∃ p xs i v, x = .ref p ∧ y = .int i ∧ SqL K H p xs ∧ atI xs i = some v ∧ Q v H
def rIxT (K : PySem.W.Frag) : R2 := fun x y H Q => ∃ p xs i v, x = .ref p ∧ y = .int i ∧ SqT K H p xs ∧ atI xs i = some v ∧ Q v H
def rIxS : R2 := fun x y H Q => ∃ z i c, x = .str z ∧ y = .int i ∧ z.length ≤ sizeLine ∧ atI z.cps.toList i = some c ∧ Q (.str ⟨#[c]⟩) H
theorem ix_list : IxR X (rIxL X.K) := by
  intro value slice pins s σ H x y v u Q I rx ry h hs
  obtain ⟨p, xs, i, z, rfl, rfl, hq, he, q⟩ := h
  cases rx
  obtain ⟨t, rfl⟩ := ry
  obtain ⟨its, r, pl, hz⟩ := I.list hq
  obtain ⟨j, h1, h2, h3, h4, h5⟩ := atI_get he
  obtain ⟨w, ew, rw'⟩ := r.get h2
  have hl := r.length
  have hn := line63
  have fin : EP X pins σ Q w s := ⟨z, H, I, rw', q⟩
  by_cases h0 : 0 ≤ i
  · have hj : i.toNat = j := by
      rw [seqIndex_of h0 h5] at h1
      exact Option.some.inj h1
    exact item_listR pl.isList h0 (by omega) (by rw [hj]; simpa using ew) fin hs
  · have hj : (i + (its.toArray.size : Int)).toNat = j := by
      rw [seqIndex_neg (by omega) h4] at h1
      rw [List.size_toArray, ← hl]
      exact Option.some.inj h1
    exact subscriptTail_builtinR (x := w) pl.isList.typeIs slot_list_getitem.lookup
      (wpAny_getItem_list_neg (Q := fun r s' => r = w ∧ EP X pins σ Q r s') pl.isList (by omega) (by rw [List.size_toArray] <;> omega) (by omega) (by rw [hj]; simpa using ew) ⟨rfl, fin⟩) hs
theorem ix_tup : IxR X (rIxT X.K) := by
  intro value slice pins s σ H x y v u Q I rx ry h hs
  obtain ⟨p, xs, i, z, rfl, rfl, hq, he, q⟩ := h
  cases rx
  obtain ⟨t, rfl⟩ := ry
  obtain ⟨its, r, pl, hz⟩ := I.tuple hq
  obtain ⟨j, h1, h2, h3, h4, h5⟩ := atI_get he
  obtain ⟨w, ew, rw'⟩ := r.get h2
  have hl := r.length
  have hn := line63
  have fin : EP X pins σ Q w s := ⟨z, H, I, rw', q⟩
  exact subscriptTail_builtinR (x := w) pl.typeIs slot_tuple_getitem.lookup
    (getItem_tuple (j := j) (Q := fun r s' => r = w ∧ EP X pins σ Q r s') pl (by omega) (by omega) (by rw [List.size_toArray, ← hl]; exact h1) (by simpa using ew) ⟨rfl, fin⟩) hs
theorem ix_str : IxR X rIxS := by
  intro value slice pins s σ H x y v u Q I rx ry h hs
  obtain ⟨z, i, c, rfl, rfl, hz, he, q⟩ := h
  obtain ⟨t, rfl⟩ := rx
  obtain ⟨t', rfl⟩ := ry
  obtain ⟨j, h1, h2, h3, h4, h5⟩ := atI_get he
  have hl : z.cps.toList.length = z.length := by simp [Str.length]
  rw [hl] at h1 h4 h5
  have hn := line63
  exact tail_any (typeIs_str s z t) slot_str_getitem.lookup (getItem_str (c := c) (by
    have e1 : decide (i < -(2 ^ 63 : Int)) = false := decide_eq_false (by omega)
    have e2 : decide (i ≥ 2 ^ 63) = false := decide_eq_false (by omega)
    rw [e1, e2, Bool.or_false]) (by rw [h1]; simpa using h2) ⟨.str ⟨#[c]⟩, H, I.tok _, ⟨_, rfl⟩, q⟩) hs
def rIx (K : PySem.W.Frag) : R2 := fun x y H Q => rIxL K x y H Q ∨ rIxT K x y H Q ∨ rIxS x y H Q
theorem ix_seq : IxR X (rIx X.K) := ix_list.or (ix_tup.or ix_str)
theorem mapSeq_set (its : List Value) (n j : Nat) (u : Value) : Obj.mapSeq (·.setIfInBounds j u) { cls := .type "list", data := .seq its.toArray n } = { cls := .type "list", data := .seq (its.set j u).toArray n } := by
  simp [Obj.mapSeq]
theorem Inv.lst {pins : List (Addr × Obj)} {σ : St} {H : Hp} {s : Shared} {p : Addr} {xs : List V} (I : Inv X pins σ H s) (h : H p = some (.lst xs)) :
    ∃ (its : List Value) (n : Nat), Vals xs its ∧ s.heap.get? p = some { cls := .type "list", data := .seq its.toArray n } ∧ xs.length ≤ sizeLine := by
  obtain ⟨z, its, n, r, e⟩ := I.hok p _ h
  exact ⟨its, n, r, e, z⟩
theorem Inv.lstUpd {pins : List (Addr × Obj)} {σ : St} {H : Hp} {s : Shared} {p : Addr} {xs ys : List V} {its its' : List Value} {n n' : Nat} {f : Obj → Obj} (I : Inv X pins σ H s) (h : H p = some (.lst xs))
    (ho : s.heap.get? p = some { cls := .type "list", data := .seq its.toArray n }) (hf : f { cls := .type "list", data := .seq its.toArray n } = { cls := .type "list", data := .seq its'.toArray n' }) (r : Vals ys its') (hz : ys.length ≤ sizeLine) (t : Nat) :
    Inv X pins σ (upd H p (.lst ys)) { s with heap := s.heap.update p f, toks := t } := by
  have e : (s.heap.update p f).get? p = some { cls := .type "list", data := .seq its'.toArray n' } := by
    rw [Heap.get?_update_self f ho (by rw [hf] <;> rfl), hf]
  refine I.write (x := p) (e := p) (by rw [h]; trivial) (.inl rfl) (fun b u hb q => (Heap.get?_update_other _ _ (Ne.symm hb)).trans q) ⟨_, e⟩ ?_
  exact ⟨hz, its', n', r, e⟩
def rSetL : V → V → V → Hp → (Hp → Prop) → Prop := fun o i v H Q => ∃ p xs k j, o = .ref p ∧ i = .int k ∧ H p = some (.lst xs) ∧ ixN xs.length k = some j ∧ Q (upd H p (.lst (xs.set j v)))
theorem set_list : PSet X rSetL := by
  intro pins s σ H o i v ov iv u Q I ro ri rv h
  obtain ⟨p, xs, k, j, rfl, rfl, hp, hj, q⟩ := h
  cases ro
  obtain ⟨t, rfl⟩ := ri
  obtain ⟨its, n, r, ho, hz⟩ := I.lst hp
  obtain ⟨h1, h2, h3, h4⟩ := ixN_seq hj
  have hl := r.length
  have hn := line63
  have I' : Inv X pins σ (upd H p (.lst (xs.set j v))) { s with heap := s.heap.update p (Obj.mapSeq (·.setIfInBounds j u)) } :=
    I.lstUpd hp ho (mapSeq_set its n j u) (r.set rv j) (by rw [List.length_set]; exact hz) s.toks
  by_cases h0 : 0 ≤ k
  · have hk : k.toNat = j := by
      rw [seqIndex_of h0 h4] at h1
      exact Option.some.inj h1
    exact PySem.W.ki_setAt ho h0 (by omega) (by rw [List.size_toArray, ← hl]; exact h4) (by rw [hk]; exact ⟨_, I', q⟩)
  · have hk : (k + (its.toArray.size : Int)).toNat = j := by
      rw [seqIndex_neg (by omega) h3] at h1
      rw [List.size_toArray, ← hl]
      exact Option.some.inj h1
    exact PySem.W.ki_setBack ho (by omega) (by rw [List.size_toArray, ← hl]; exact h3) (by omega) (by rw [hk]; exact ⟨_, I', q⟩)
theorem slice_bounds (lo hi : Option Int) (n : Nat) : (sliceBounds lo hi none n).1 = ((HT.sIx n 0 lo : Nat) : Int) ∧ (sliceBounds lo hi none n).2.1 = ((HT.sIx n n hi : Nat) : Int) ∧ (sliceBounds lo hi none n).2.2 = 1 := by
  refine ⟨?_, ?_, rfl⟩
  · cases lo with
    | none => simp [sliceBounds, HT.sIx]
    | some i =>
      simp only [sliceBounds, HT.sIx, Option.getD_none, show (1 : Int) > 0 by decide, if_true]
      by_cases h : i < 0
      · simp only [h, if_true] <;> omega
      · simp only [h, if_false] <;> omega
  · cases hi with
    | none => simp [sliceBounds, HT.sIx]
    | some i =>
      simp only [sliceBounds, HT.sIx, Option.getD_none, show (1 : Int) > 0 by decide, if_true]
      by_cases h : i < 0
      · simp only [h, if_true] <;> omega
      · simp only [h, if_false] <;> omega
theorem slicePick_cut (its : List Value) (lo hi : Option Int) : slicePick its.toArray lo hi none = ((its.drop (HT.sIx its.length 0 lo)).take (HT.sIx its.length its.length hi - HT.sIx its.length 0 lo)).toArray := by
  obtain ⟨h1, h2, h3⟩ := slice_bounds lo hi its.toArray.size
  unfold slicePick
  rw [h1, h2, h3]
  simp only [sliceRange_one, pick_run, List.size_toArray] <;> rfl
def rSlL (K : PySem.W.Frag) : V → Option Int → Option Int → Hp → VK → Prop := fun x lo hi H Q => ∃ a xs, x = .ref a ∧ SqL K H a xs ∧ ∀ p, H p = none → Q (.ref p) (upd H p (.lst (cutV xs lo hi)))
theorem sl_list : SlR X (rSlL X.K) := by
  intro pins s σ H x v vl vu lo hi sl Q I rx hs pl pu h
  obtain ⟨a, xs, rfl, hx, q⟩ := h
  cases rx
  obtain ⟨its, r, ht, hz⟩ := I.list hx
  have hlen := r.length
  refine ⟨"list", _, slot_list_getitem.lookup, ht.isList.typeIs, ?_⟩
  refine wpAny_getItem_list_slice ht.isList hs pl pu .none (by simp) ?_ (by rw [List.size_toArray] <;> omega)
  rw [slicePick_cut, ← hlen]
  refine ⟨.ref s.heap.objs.size, _, I.laid (t' := s.toks) (o := .lst (cutV xs lo hi)) (fun b ob q => Heap.get?_push_of_some _ q) (Nat.le_refl _) ?_, rfl, q _ (I.hok.fresh (Nat.le_refl _))⟩
  exact ⟨Nat.le_trans (cutV_length xs lo hi) hz, _, 0, (r.drop (HT.sIx xs.length 0 lo)).take (HT.sIx xs.length xs.length hi - HT.sIx xs.length 0 lo), Heap.get?_push_size _ rfl⟩
theorem call_len_seq : CallR X (.builtin "len") (fun xs H Q => ∃ p ys, xs = [.ref p] ∧ (SqL X.K H p ys ∨ SqT X.K H p ys) ∧ Q (.int ys.length) H) := by
  intro pins s σ H xs us Q I r h
  obtain ⟨p, ys, rfl, hq, q⟩ := h
  obtain ⟨u, rfl, rx⟩ := vals1 r
  cases rx
  have hn := line63
  rcases hq with hq | hq
  · obtain ⟨its, r', pl, hz⟩ := I.list hq
    have hlen := r'.length
    exact Calls.call_len_list pl.isList (by simp only [List.size_toArray] <;> omega) ⟨.int ys.length, H, I.tok _, ⟨s.toks + 1, by rw [List.size_toArray, hlen]⟩, q⟩
  · obtain ⟨its, r', pl, hz⟩ := I.tuple hq
    have hlen := r'.length
    exact len_tuple pl (by simp only [List.size_toArray] <;> omega) ⟨.int ys.length, H, I.tok _, ⟨s.toks + 1, by rw [List.size_toArray, hlen]⟩, q⟩
theorem call_len_str : CallR X (.builtin "len") (fun xs H Q => ∃ z, xs = [.str z] ∧ z.length ≤ sizeLine ∧ Q (.int z.length) H) := by
  intro pins s σ H xs us Q I r h
  obtain ⟨z, rfl, hz, q⟩ := h
  obtain ⟨u, rfl, t, rfl⟩ := vals1 r
  have hn := line63
  exact len_str (by omega) ⟨.int z.length, H, I.tok _, ⟨_, rfl⟩, q⟩
theorem CallR.or {f : Value} {r r' : List V → Hp → VK → Prop} (h : CallR X f r) (h' : CallR X f r') : CallR X f (fun xs H Q => r xs H Q ∨ r' xs H Q) := by
  intro pins s σ H xs us Q I rs q
  rcases q with q | q
  · exact h pins s σ H xs us Q I rs q
  · exact h' pins s σ H xs us Q I rs q
theorem call_list_of : CallR X (.type "list") (fun xs H Q => ∃ p ys, xs = [.ref p] ∧ (SqL X.K H p ys ∨ SqT X.K H p ys) ∧ ∀ l, H l = none → Q (.ref l) (upd H l (.lst ys))) := by
  intro pins s σ H xs us Q I r h
  obtain ⟨p, ys, rfl, hq, q⟩ := h
  obtain ⟨u, rfl, rx⟩ := vals1 r
  cases rx
  have fin : ∀ (its : List Value), Vals ys its → ys.length ≤ sizeLine → ∀ (h' : Heap) (c' : Nat), (∀ b o', s.heap.get? b = some o' → h'.get? b = some o') →
      h'.get? s.heap.objs.size = some { cls := .type "list", dict := none, data := .seq its.toArray c', slots := #[] } → EP X pins σ Q (.ref s.heap.objs.size) { s with heap := h' } := fun its r' hz h' c' kp e =>
    ⟨.ref s.heap.objs.size, _, I.laid (t' := s.toks) kp (Nat.le_refl _) (show ObjOk X.prog X.w _ h' _ (.lst ys) from ⟨hz, its, c', r', e⟩), rfl, q _ (I.hok.fresh (Nat.le_refl _))⟩
  rcases hq with hq | hq
  · obtain ⟨its, r', pl, hz⟩ := I.list hq
    have hlen := r'.length
    obtain ⟨o, ho, hc, n, hd⟩ := pl.isList
    exact call_list_seq p (.inl rfl) ho hc hd (fun h' c' kp e => fin its r' hz h' c' kp e) (by simp only [List.size_toArray] <;> omega)
  · obtain ⟨its, r', pl, hz⟩ := I.tuple hq
    have hlen := r'.length
    obtain ⟨o, ho, hc, n, hd⟩ := pl
    exact call_list_seq p (.inr rfl) ho hc hd (fun h' c' kp e => fin its r' hz h' c' kp e) (by simp only [List.size_toArray] <;> omega)
theorem call_tuple_of : CallR X (.type "tuple") (fun xs H Q => ∃ p ys, xs = [.ref p] ∧ ((SqL X.K H p ys ∧ ∀ l, H l = none → Q (.ref l) (upd H l (.tup ys))) ∨ (SqT X.K H p ys ∧ Q (.ref p) H))) := by
  intro pins s σ H xs us Q I r h
  obtain ⟨p, ys, rfl, h⟩ := h
  obtain ⟨u, rfl, rx⟩ := vals1 r
  cases rx
  rcases h with ⟨hq, q⟩ | ⟨hq, q⟩
  · obtain ⟨its, r', pl, hz⟩ := I.list hq
    have hlen := r'.length
    refine call_tuple_list pl.isList (fun h' kp => ?_) (by simp only [List.size_toArray] <;> omega)
    have I1 : Inv X pins σ H { s with heap := h' } := I.kept (t' := s.toks) kp
    have I2 : Inv X pins σ (upd H h'.objs.size (.tup ys)) { s with heap := h'.push { cls := .type "tuple", data := .seq its.toArray } } :=
      I1.laid (t' := s.toks) (fun b o e => Heap.get?_push_of_some _ e) (Nat.le_refl _) (show ObjOk X.prog X.w _ _ _ (.tup ys) from ⟨hz, its, r', IsTup.new _ _⟩)
    exact ⟨.ref h'.objs.size, _, I2, rfl, q _ (I1.hok.fresh (Nat.le_refl _))⟩
  · obtain ⟨its, r', pl, hz⟩ := I.tuple hq
    exact call_tuple_same pl ⟨.ref p, H, I, rfl, q⟩
def tyV (K : PySem.W.Frag) (T : String) (x : V) (H : Hp) : Prop := match x with
  | .str _ => T = "str"
  | .int _ => T = "int"
  | .ref p => (T = "list" ∧ ∃ xs, SqL K H p xs) ∨ (T = "tuple" ∧ ∃ o, K.lookup p = some o ∧ o.cls = .type "tuple" ∧ o.dict = none) ∨
      (T = "dict" ∧ ((∃ kvs, H p = some (.dK kvs)) ∨ ∃ kvs, H p = some (.dT kvs))) ∨ (T = "set" ∧ ∃ S n, H p = some (.set S n))
  | _ => False
theorem tyV_is {pins : List (Addr × Obj)} {σ : St} {H : Hp} {s : Shared} {T : String} {x : V} {v : Value} (I : Inv X pins σ H s) (r : RelV x v) (ty : tyV X.K T x H) :
    s.TypeIs v T ∧ ∀ a, v = .ref a → ∃ ob, s.heap.get? a = some ob ∧ ob.dict = none := by
  cases x with
  | str z =>
    obtain ⟨t, rfl⟩ := r
    cases (show T = "str" from ty)
    exact ⟨typeIs_str s z t, fun _ e => nomatch e⟩
  | int i =>
    obtain ⟨t, rfl⟩ := r
    cases (show T = "int" from ty)
    exact ⟨typeIs_int s i t, fun _ e => nomatch e⟩
  | ref p =>
    cases r
    rcases ty with ⟨rfl, xs, hq⟩ | ⟨rfl, o, hk, hc, hd⟩ | ⟨rfl, hk⟩ | ⟨rfl, S, n, hk⟩
    · obtain ⟨its, _, pl, _⟩ := I.list hq
      refine ⟨pl.isList.typeIs, fun a e => ?_⟩
      cases e
      obtain ⟨o, n, e, c, hd, _⟩ := pl
      exact ⟨o, e, hd⟩
    · refine ⟨⟨o, I.kIn p o hk, hc⟩, fun a e => ?_⟩
      cases e
      exact ⟨o, I.kIn _ o hk, hd⟩
    · have z : ∃ o, s.heap.get? p = some o ∧ o.ExactDict := by
        rcases hk with ⟨kvs, hk⟩ | ⟨kvs, hk⟩
        · obtain ⟨_, _, _, _, o, _, _, e, ex, _⟩ := I.hok p _ hk
          exact ⟨o, e, ex⟩
        · obtain ⟨_, _, _, _, o, _, _, e, ex, _⟩ := I.hok p _ hk
          exact ⟨o, e, ex⟩
      obtain ⟨o, e, ex⟩ := z
      refine ⟨⟨o, e, ex.1⟩, fun a e2 => ?_⟩
      cases e2
      exact ⟨o, e, ex.2.1⟩
    · obtain ⟨o, _, _, _, e, ex, _⟩ := I.hok p _ hk
      refine ⟨⟨o, e, ex.1⟩, fun a e2 => ?_⟩
      cases e2
      exact ⟨o, e, ex.2.1⟩
  | _ => exact False.elim ty
def tBM (K : PySem.W.Frag) (T : String) (r : V → List V → Hp → VK → Prop) (to : TE) (t : TA) : TE := fun σ H Q => to σ H fun x H1 => tyV K T x H1 ∧ t σ H1 fun xs H2 => r x xs H2 Q
variable {o e : Expr} {es : List Expr} {to : TE} {t : TA} {name : Str} {apos cpos : Pos} {T id : String} {r : V → List V → Hp → VK → Prop}
theorem pe_bm (pa : PlainAttrs T) (slot : Slot T name id) (hty : typeOf (.builtin id) = pure (.type "method_descriptor")) (hm : MtR X id r) (ho : PE X o to) (ha : PA X (e :: es) t)
    (hbase : attributeBase o name X.env (eval o X.env) = eval o X.env := by rfl)
    (hfew : ((backTo cpos (starEach (e :: es) X.env)).all (fun x => !x.1) && (backToKw cpos (keywordEach [] X.env)).all (fun x => x.1.isSome)
      && decide ((e :: es).length + ([] : List Keyword).length + (if ([] : List Keyword).isEmpty then 0 else 1) < 30)) = true := by rfl)
    (hline : (apos.endLine == cpos.line) = true := by rfl) (hs : starEach (e :: es) X.env = (false, eval e X.env) :: starEach es X.env := by rfl) (hplain : (backTo cpos (starEach es X.env)).any (·.1) = false := by rfl) :
    PE X (.Call (.Attribute o name apos) (e :: es) [] cpos) (tBM X.K T r to t) := by
  intro pins s σ H Q I h
  refine wpAny_Call_method_late hbase hfew hline rfl (thn (ho pins s σ H _ I h) fun v s1 ⟨x, H1, I1, r1, ty, q1⟩ => ?_)
  obtain ⟨h1, h2⟩ := tyV_is I1 r1 ty
  refine ⟨T, id, pa, slot, hty, h1, h2, ?_⟩
  have hA := ha cpos pins s1 σ H1 _ I1 q1
  rw [hs] at hA ⊢
  refine Calls.callWith_builtin (by show (false || (backTo cpos (starEach es X.env)).any (·.1)) = false; rw [hplain] <;> rfl) (Calls.evalArgs_plain ?_)
  exact thn hA fun us s2 ⟨vs, H2, I2, r2, q2⟩ => hm pins s2 σ H2 x vs v us Q I2 r1 r2 q2
end
end L2
namespace L2
open PySem PySem.Spec PyProof.Rows
def MtM (X : Cx) (id : String) (r : V → List V → Hp → VK → Prop) : Prop :=
  ∀ (pins : List (Addr × Obj)) (s : Shared) (σ : St) (H : Hp) (x : V) (xs : List V) (v : Value) (us : List Value) (Q : VK), Inv X pins σ H s → RelV x v → Vals xs us → r x xs H Q →
    wpAny (model X.prog X.w) X.A (call (.builtin id) (v :: us)) (EP X pins σ Q) X.xe s
theorem Vals.one : ∀ {x : V} {us : List Value}, Vals [x] us → ∃ u, us = [u] ∧ RelV x u
  | _, _, .cons r .nil => ⟨_, rfl, r⟩
theorem Vals.zero : ∀ {us : List Value}, Vals [] us → us = []
  | _, .nil => rfl
theorem Vals.rep {xs : List V} {us : List Value} (h : Vals xs us) : ∀ k : Nat, Vals (List.replicate k xs).flatten (List.replicate k us).flatten
  | 0 => .nil
  | k + 1 => by
    rw [List.replicate_succ, List.replicate_succ, List.flatten_cons, List.flatten_cons]
    exact Vals.append h (Vals.rep h k)
section
variable {X : Cx} {pins : List (Addr × Obj)} {σ : St} {H : Hp} {s : Shared} {l b : Addr} {xs ys zs : List V}
theorem Inv.lset {its its' : List Value} {n : Nat} {f : Array Value → Array Value} {t' : Nat} (I : Inv X pins σ H s) (hH : H l = some (.lst xs))
    (e : s.heap.get? l = some { cls := .type "list", data := .seq its.toArray n }) (hf : f its.toArray = its'.toArray) (hv : Vals ys its') (hz : ys.length ≤ sizeLine) :
    Inv X pins σ (upd H l (.lst ys)) { s with heap := s.heap.update l (Obj.mapSeq f), toks := t' } := by
  have q := PySem.IsL.update e f
  rw [hf] at q
  refine I.write (x := l) (e := l) (by rw [hH]; exact trivial) (.inl rfl) (fun b' u hb hu => (Heap.get?_update_other s.heap (Obj.mapSeq f) (Ne.symm hb)).trans hu) ⟨_, q⟩ ?_
  exact ⟨hz, its', _, hv, q⟩
theorem Inv.lnew {its : List Value} {t' : Nat} (I : Inv X pins σ H s) (hv : Vals ys its) (hz : ys.length ≤ sizeLine) :
    Inv X pins σ (upd H s.heap.objs.size (.lst ys)) { s with heap := s.heap.push { cls := .type "list", data := .seq its.toArray }, toks := t' } :=
  I.laid (fun _ _ q => Heap.get?_push_of_some _ q) (Nat.le_refl _) ⟨hz, its, 0, hv, Heap.get?_push_size _ rfl⟩
theorem Inv.fresh (I : Inv X pins σ H s) : H s.heap.objs.size = none := I.hok.fresh (Nat.le_refl _)
theorem Inv.lstM (I : Inv X pins σ H s) (hH : H l = some (.lst xs)) : xs.length ≤ sizeLine ∧ ∃ (its : List Value) (n : Nat), Vals xs its ∧ xs.length = its.length ∧ s.heap.get? l = some { cls := .type "list", data := .seq its.toArray n } := by
  obtain ⟨z, its, n, r, e⟩ := I.hok l _ hH
  exact ⟨z, its, n, r, r.length, e⟩
end
section
variable {X : Cx}
def rAppend : V → List V → Hp → VK → Prop := fun x vs H Q => ∃ l xs y, x = .ref l ∧ vs = [y] ∧ H l = some (.lst xs) ∧ xs.length < sizeLine ∧ Q .non (upd H l (.lst (xs ++ [y])))
theorem mt_append : MtM X "list.append" rAppend := by
  intro pins s σ H x vs v us Q I rx rv h
  obtain ⟨l, xs, y, rfl, rfl, hH, hz, q⟩ := h
  cases rx
  obtain ⟨u, rfl, ru⟩ := rv.one
  obtain ⟨z, its, n, r, hl, e⟩ := I.lstM hH
  refine call_meets F.slot_list_append ⟨_, e, rfl⟩ F.entry_list_append (F.args_list_append_2 _ _) (PySem.list_append l its.toArray n u (by rw [List.size_toArray]; omega)) ⟨e, ?_⟩
  refine ⟨.non, _, I.lset (its' := its ++ [u]) hH e (by simp) (r.append (.cons ru .nil)) ?_, rfl, q⟩
  rw [List.length_append, List.length_singleton]
  omega
end
section
variable {prog : Program} {w : World} {A : Around} {E : Value → Shared → Prop} {s : Shared}
end
section
variable {X : Cx}
end
end L2
namespace Att
open PySem PySem.W PySem.Calls PyProof.Rows
theorem ints_of_wellAll {P : Params} {h : Heap} : ∀ (ns : List Int) (vs : List Value), WellAll P h vs (ns.map WData.int) → IntsAre vs ns := by
  intro ns
  induction ns with
  | nil =>
    intro vs w
    rw [List.map_nil] at w
    cases w
    exact .nil
  | cons n ns ih =>
    intro vs w
    rw [List.map_cons] at w
    cases w with
    | cons a b =>
      cases a
      exact .cons _ _ (ih _ b)
theorem script_of {l : OpenLaw} {n : Nat} (hn : l.most = some n) {P : Params} {h : Heap} {args : List WData} {vals : List Value}
    (hpre : l.row.toRowW.claim.pre args = true) (hwl : WellAll P h vals args) :
    ∃ a vs ns, vals = [Value.ref a] ∧ args = [WData.list (ns.map WData.int)] ∧ h.get? a = some { cls := .type "list", data := .seq vs.toArray } ∧ IntsAre vs ns ∧ ns.length ≤ n := by
  have hsh : WShape.hasAll [] args [.list .int] = true := (pre_splitW hpre).1
  have hc : l.pre.holds [] { args := args } = true := (pre_splitW hpre).2
  obtain ⟨d, r, rfl, h1, h2⟩ := hasAllW_cons hsh
  obtain rfl := hasAllW_nil h2
  obtain ⟨xs, rfl, h3⟩ := hasW_list h1
  obtain ⟨ns, rfl⟩ := items_int h3
  have hlen : ns.length ≤ n := by
    unfold OpenLaw.pre at hc
    have h4 : (WTm.not (.lt (.lit (.int (n : Int))) (.len (.arg 0)))).holds [] { args := [.list (ns.map .int)] } = true := by
      have h4 := (holds_andW hc).1
      rw [hn] at h4
      exact h4
    have h5 := condW_of h4 (w_not (w_lt w_lit (w_len_list (w_arg rfl))))
    rw [List.length_map] at h5
    refine Nat.le_of_not_lt fun q => ?_
    have q' : (n : Int) < ((ns.length : Nat) : Int) := by omega
    first
      | (rw [decide_eq_true q'] at h5; exact absurd h5 (by decide))
      | (simp at h5; omega)
  cases hwl with
  | cons w1 w2 =>
    cases w2
    cases w1 with
    | list ho hall => exact ⟨_, _, ns, rfl, rfl, ho, ints_of_wellAll ns _ hall, hlen⟩
theorem post_true (l : OpenLaw) (args : List WData) : l.row.toRowW.claim.post args (.bool true) args = true :=
  postW_of (r := l.row.toRowW) (X := (true == true))
    (show WShape.has [] (.bool true) .bool = true by first | rfl | decide | simp [WShape.has, WShape.arms, WShape.armsAll])
    (show (WTm.eq .res (.lit (.bool true))).value [] { args := args, res := some (.bool true), after := args } = some (.bool (true == true)) from w_eq_bool (w_res rfl) w_lit) rfl
theorem attach_call {l : OpenLaw} {n : Nat} {q : Program} {loose : List Str} {XP : (Str → Option Value) → Heap → Prop} {YP : World → Heap → Prop} {d : DefRec}
    (hn : l.most = some n) (hdf : d.params.defaults = [])
    (call : ∀ (w : World) (s₀ s₁ : Shared) (mg mb : Str → Option Value) (fa : Addr) (o : Obj) (pm cd doc : Value) (a : Addr) (vs : List Value) (ns : List Int),
      Ground q loose [] XP w s₀ mg mb s₁.heap → YP w s₁.heap →
      s₁.heap.get? fa = some o → o.data = .func (docDef d.name d.params d.body d.scope pm cd doc) → s₁.heap.CodeRec cd d.name → mg d.name = some (.ref fa) →
      s₁.heap.get? a = some { cls := .type "list", data := .seq vs.toArray } → IntsAre vs ns → ns.length ≤ n → s₁.gens = #[] →
      codeAny (model l.prog w) callerA (.call (.ref fa) ⟨[.ref a], []⟩) (fun r s' => r = .ok (.ret (.bool true)) ∧ OldK s₁.heap s'.heap ∧ s'.os = s₁.os ∧ AllBare s'.gens) s₁) :
    WalkO q loose XP YP l.row.toRowW d [] (fun f vs => PySem.call f vs) := by
  intro w s₀ s₁ mg mb G Y fa o pm cd doc dV kV ho hd hcd hD hmg hg args vals as hpre hlay hrd hwl hlo
  obtain rfl : dV = .none := Dflts.none hD hdf
  obtain rfl : kV = .none := Dflts.noKw hD
  obtain ⟨a, vs, ns, rfl, rfl, hobj, hints, hlen⟩ := script_of hn hpre hwl
  refine enter_call (codeAny_mono (call w s₀ s₁ mg mb fa o pm cd doc a vs ns G Y ho (fd_plain hd) hcd hmg hobj hints hlen hg) fun r s' hq => ?_)
  obtain ⟨rfl, h2, h3, h4⟩ := hq
  exact ⟨.inl ⟨.bool true, .bool true, [], rfl, fun _ => rfl, .bool true, post_true l _, fun _ => ⟨List.Pairwise.nil, fun _ hm => (nomatch hm)⟩⟩, h2, h3, h4⟩
section
variable {prog : Program} {w : World} {A : Around} {E : Value → Shared → Prop} {s : Shared} {K : Frag}
end
end Att
namespace L2
open PySem PySem.Spec PyProof.Rows
theorem vals_ints : ∀ {vs : List Value} {ns : List Int}, IntsAre vs ns → Vals (ns.map V.int) vs
  | _, _, .nil => .nil
  | _, _, .cons n t h => .cons ⟨t, rfl⟩ (vals_ints h)
def Only (H : Hp) : Prop := ∀ b, H b = none ∨ ∃ o xs, H b = some (.frz o (.lst xs))
theorem law_call {P : Program} {w : World} {K : PySem.W.Frag} {mg mb : Str → Option Value} {CX : CXT} {k : Nat} {fa a : Addr} {fd : FuncData} {x : Str} {sp : Sp} {s₁ : Shared} {vs : List Value} {ns : List Int}
    (KX : K.In s₁.heap) (hns : s₁.heap.Ns mainGlobals mg) (hb : s₁.heap.Ns builtinsNs mb) (hbb : ∀ x : Str, x ≠ "__name__" → mb x = bootBuiltins x) (hlim : s₁.heap.NoLimit) (hg : s₁.gens = #[])
    (ha : s₁.heap.get? a = some { cls := .type "list", data := .seq vs.toArray }) (hi : IntsAre vs ns) (hl : ns.length ≤ sizeLine) (hr : Room k callerA)
    (F : ∀ base : Heap, K.In base → base.Ns mainGlobals mg → FnOk P w K mg base CX k fa fd [x] sp) (hbind : ∀ (s : Shared) (u : Value), BindsTo s fd ⟨[u], []⟩ [(x, u)])
    (hsp : ∀ H : Hp, Only H → SqL K H a (ns.map V.int) → sp [.ref a] H (fun v _ => v = .bl true) fun _ _ _ => False)
    (hCX : ∀ H e s', CX [] H s₁ (fun _ _ _ => False) e s' → False) :
    codeAny (model P w) callerA (.call (.ref fa) ⟨[.ref a], []⟩) (fun r s' => r = .ok (.ret (.bool true)) ∧ OldK s₁.heap s'.heap ∧ s'.os = s₁.os ∧ AllBare s'.gens) s₁ := by
  have rv := vals_ints hi
  have lenV := hi.length
  -- from an abstract heap in which nothing but the script may be tracked
  have core : ∀ H : Hp, Only H → SqL K H a (ns.map V.int) → HOk P w H s₁.heap → (∀ b, H b ≠ none → b = a) → (H a ≠ none → K.lookup a = none) →
      codeAny (model P w) callerA (.call (.ref fa) ⟨[.ref a], []⟩) (fun r s' => r = .ok (.ret (.bool true)) ∧ OldK s₁.heap s'.heap ∧ s'.os = s₁.os ∧ AllBare s'.gens) s₁ := by
    intro H hO hS hok hA hK
    have base_of : ∀ {b : Addr} {o : Obj}, s₁.heap.get? b = some o → H b = none → (hidT s₁.heap H).get? b = some o := fun e n => hidT_get e n
    have noA : ∀ {b : Addr} {o : Obj} {es : Array DictEntry} {ep : Nat}, s₁.heap.get? b = some o → o.data = .dict es ep → H b = none := fun {b o es ep} e d => by
      cases q : H b with
      | none => rfl
      | some u =>
        have e' : b = a := hA b (by rw [q]; simp)
        subst e'
        rw [ha] at e; cases e
        have d' : Data.seq vs.toArray _ = Data.dict es ep := d
        cases d'
    have nsK : ∀ {b : Addr} {m : Str → Option Value}, s₁.heap.Ns b m → (hidT s₁.heap H).Ns b m := fun {b m} ⟨o, es, ep, e, d, r⟩ => ⟨o, es, ep, base_of e (noA e d), d, r⟩
    have hKb : K.In (hidT s₁.heap H) := fun b o e => base_of (KX b o e) (by
      cases q : H b with
      | none => rfl
      | some u =>
        have e' : b = a := hA b (by rw [q]; simp)
        subst e'
        rw [hK (by rw [q]; simp)] at e; cases e)
    have hM : Mod K mg (hidT s₁.heap H) := ⟨hKb, nsK hns, ⟨mb, nsK hb, hbb⟩, let ⟨mc, h1, h2⟩ := hlim; ⟨mc, nsK h1, h2⟩⟩
    have e0 : Env0 P w K mg (hidT s₁.heap H) callerA [] s₁ H := ⟨rfl, hM, fun b o e => of_hidT e, Nat.le_of_eq (hidT_size _ _), trivial, fun b hb => absurd (show b ∈ ([] : List Addr) from hb) (by simp), hok, .of_eq hg⟩
    refine codeAny_mono ((F _ hKb (nsK hns)).run callerA [] s₁ H ⟨[.ref a], []⟩ [.ref a] [.ref a] _ _ hr e0 (hbind s₁ (.ref a)) (.cons rfl .nil) (hsp H hO hS)) fun r s' h => ?_
    cases r with
    | error e => exact (hCX H e s' h).elim
    | ok fl =>
      cases fl with
      | next => exact False.elim h
      | brk => exact False.elim h
      | cont => exact False.elim h
      | ret u =>
        obtain ⟨v, H', os, bare, un, hok', r', q⟩ := h
        have q' : v = .bl true := q
        subst q'
        obtain rfl : u = Value.bool true := r'
        refine ⟨rfl, OldK.of_keep fun b o e => ?_, os, bare⟩
        cases q : H b with
        | none => exact un.keep b o e q (by intro z; exact absurd (show b ∈ ([] : List Addr) from z) (by simp)) (by simp)
        | some u =>
          rcases hO b with z | ⟨ob, xs, z⟩
          · rw [q] at z; cases z
          · have z2 := un.frzs b ob _ z
            obtain ⟨e1, _⟩ := hok b _ z
            obtain ⟨e2, _⟩ := hok' b _ z2
            rw [e] at e1; cases e1
            exact e2
  cases hk : K.lookup a with
  | some o =>
    -- the script is one of the module's own objects
    have e := KX a o hk
    rw [ha] at e
    cases e
    refine core (fun _ => none) (fun _ => .inl rfl) (.inr ⟨_, vs.toArray, _, hk, rfl, rfl, rfl, by rw [List.size_toArray, lenV]; exact hl, by simpa using rv⟩) (fun b u z => by have z' : (none : Option HO) = some u := z; cases z') (fun b z => absurd rfl z) fun z => absurd rfl z
  | none =>
    refine core (fun b => if b = a then some (.frz { cls := .type "list", data := .seq vs.toArray } (.lst (ns.map V.int))) else none) (fun b => ?_) (.inl (.inr ⟨{ cls := .type "list", data := .seq vs.toArray }, if_pos rfl⟩)) (fun b u z => ?_) (fun b z => ?_) fun _ => hk
    · by_cases hb : b = a
      · exact .inr ⟨_, _, if_pos hb⟩
      · exact .inl (if_neg hb)
    · by_cases hb : b = a
      · have z' := (if_pos hb).symm.trans z
        cases z'
        subst hb
        exact ⟨ha, by rw [List.length_map]; exact hl, vs, _, rv, ha⟩
      · have z' := (if_neg hb).symm.trans z
        cases z'
    · by_cases hb : b = a
      · exact hb
      · exact absurd (if_neg hb) z
end L2
namespace L2
open PySem PySem.Spec PyProof.Rows
theorem walk_of {l : PySem.W.OpenLaw} {n k : Nat} {q : Program} {loose : List Str} {XP : (Str → Option Value) → Heap → Prop} {YP : World → Heap → Prop} {d : DefRec} {K : Params → PySem.W.Frag} {CX : World → CXT} {sp : World → Sp} {x : Str}
    (hn : l.most = some n) (hn2 : n ≤ sizeLine) (hdf : d.params.defaults = []) (hr : Room k callerA)
    (hY : ∀ (w : World) (h : Heap), YP w h → (K w.params).In h)
    (F : ∀ (w : World) (mg : Str → Option Value) (fa : Addr) (h : Heap), (K w.params).In h → h.Ns mainGlobals mg → mg d.name = some (.ref fa) →
      ∃ fd : FuncData, (∀ (s : Shared) (u : Value), BindsTo s fd ⟨[u], []⟩ [(x, u)]) ∧
        ∀ base : Heap, (K w.params).In base → base.Ns mainGlobals mg → FnOk l.prog w (K w.params) mg base (CX w) k fa fd [x] (sp w))
    (hsp : ∀ (w : World) (H : Hp) (a : Addr) (ns : List Int), ns.length ≤ n → Only H → SqL (K w.params) H a (ns.map V.int) → sp w [.ref a] H (fun v _ => v = .bl true) fun _ _ _ => False)
    (hCX : ∀ (w : World) (H : Hp) (s : Shared) (e : Value) (s' : Shared), CX w [] H s (fun _ _ _ => False) e s' → False) :
    PySem.W.WalkO q loose XP YP l.row.toRowW d [] (fun f vs => PySem.call f vs) := by
  refine Att.attach_call hn hdf fun w s₀ s₁ mg mb fa o pm cd doc a vs ns G Y ho hd hcd hmg hobj hints hlen hg => ?_
  have KX := hY w _ Y
  obtain ⟨fd, hb, hF⟩ := F w mg fa _ KX G.T.g hmg
  exact law_call KX G.T.g G.T.b G.T.builtins G.T.nolimit hg hobj hints (Nat.le_trans hlen hn2) hr hF hb (fun H hO hS => hsp w H a ns hlen hO hS) fun H e s' => hCX w H s₁ e s'
end L2
namespace L2
open PySem PySem.Spec PyProof.Rows
def defArgs (s : Stmt) : Arguments := match s with
  | .FunctionDef _ a _ _ _ _ _ _ _ _ => a
  | _ => { posonlyargs := [], args := [], vararg := none, kwonlyargs := [], kw_defaults := [], kwarg := none, defaults := [] }
def defBody (s : Stmt) : List Stmt := match s with
  | .FunctionDef _ _ b _ _ _ _ _ _ _ => b
  | _ => []
def defScope (s : Stmt) : Scope := match s with
  | .FunctionDef _ _ _ _ _ _ sc _ _ _ => sc
  | _ => { kind := .function, names := [], isGenerator := false, isCoroutine := false }
abbrev CX0 : CXT := fun _ _ _ _ _ _ => False
abbrev E0 : XK := fun _ _ _ => False
theorem pass0 {X : Cx} : Passes CX0 X E0 := fun _ _ _ _ _ _ _ h => h.elim
structure Fun (K : PySem.W.Frag) (x qual : Str) (st : Stmt) (f : Addr) (fd : FuncData) : Prop where
  ex : ∃ (oc : Value) (od : Option Addr) (kV doc pm : Value) (an : Option Addr) (cdv ct : Value) (osl : Array (Option Value)),
    fd = PySem.W.fnOf x qual (defArgs st) (defBody st) (defScope st) .none kV doc pm an cdv ct ∧ K.lookup f = some ⟨oc, od, .func fd, osl⟩ ∧ PySem.W.codeIn K cdv qual = true
  kp : PySem.W.keepIn K (.ref f) = true
section
variable {P : Program} {w : World} {K : PySem.W.Frag} {mg : Str → Option Value} {base : Heap}
theorem Fun.ok {x qual : Str} {st : Stmt} {f : Addr} {fd : FuncData} {N ps : List Str} {k : Nat} {sp : Sp} (F : Fun K x qual st f fd) (S : FnScope N ps (defScope st)) (len : ∀ vs H Q E, sp vs H Q E → vs.length = ps.length)
    (hbody : ∀ (cdv : Value) (A : Around) (outer : List Env) (s : Shared) (H : Hp) (vs : List V) (Q : VK) (E : XK), Room k (A.deeper (envOfC qual (defScope st) s.heap.objs.size f cdv)) → sp vs H Q E →
      ∃ t, PSs (cxOf CX0 P w K mg base N qual (defScope st) f cdv A outer s H E).nox (defBody st) t ∧ t { nx := fun _ H' => Q .non H', rt := Q } (start N vs) H) : FnOk P w K mg base CX0 (k + 1) f fd ps sp := by
  obtain ⟨oc, od, kV, doc, pm, an, cdv, ct, osl, rfl, lk, hcd⟩ := F.ex
  refine fn_of lk hcd S len fun A outer s H vs Q E hr hsp => ?_
  obtain ⟨t, h, q⟩ := hbody cdv A outer s H vs Q E hr hsp
  exact ⟨t, h.nox, q⟩
theorem Fun.binds {x qual : Str} {st : Stmt} {f : Addr} {fd : FuncData} {ps : List Str} (F : Fun K x qual st f fd)
    (h : ∀ (kV doc pm : Value) (an : Option Addr) (cdv ct : Value) (us : List Value), us.length = ps.length → bindArgs (PySem.W.fnOf x qual (defArgs st) (defBody st) (defScope st) .none kV doc pm an cdv ct) ⟨us, []⟩ = pure (ps.zip us)) : Binds K fd ps [] := by
  obtain ⟨oc, od, kV, doc, pm, an, cdv, ct, osl, rfl, lk, hcd⟩ := F.ex
  exact .all (h kV doc pm an cdv ct)
end
section
variable {X : Cx}
end
theorem iteF {A B : Prop} (h : B) : if false = true then A else B := by
  rw [if_neg Bool.false_ne_true]
  exact h
theorem iteT {A B : Prop} (h : A) : if true = true then A else B := by
  rw [if_pos rfl]
  exact h
def Same (H H' : Hp) : Prop := ∀ b o, H b = some o → H' b = some o
theorem Same.refl (H : Hp) : Same H H := fun _ _ h => h
theorem Same.trans {H H1 H2 : Hp} (a : Same H H1) (b : Same H1 H2) : Same H H2 := fun c o h => b c o (a c o h)
theorem Same.free {H H' : Hp} (e : Same H H') {l : Addr} (h : H' l = Option.none) : H l = Option.none := by
  cases q : H l with
  | none => rfl
  | some o =>
    rw [e l o q] at h
    cases h
theorem Same.seq {K : PySem.W.Frag} {H H' : Hp} {a : Addr} {xs : List V} (e : Same H H') (h : SqL K H a xs) : SqL K H' a xs := by
  rcases h with (h | ⟨o, h⟩) | h
  · exact .inl (.inl (e _ _ h))
  · exact .inl (.inr ⟨o, e _ _ h⟩)
  · exact .inr h
end L2
set_option Elab.async false
set_option linter.all false
set_option maxRecDepth 100000
namespace L2
open PySem PySem.Spec PyProof.Rows
theorem ObjOk.obj {P : Program} {w : World} {H : Hp} {h : Heap} {a : Addr} {o : HO} (x : ObjOk P w H h a o) : ∃ u, h.get? a = some u := by
  cases o with
  | lst xs => obtain ⟨_, _, _, _, e⟩ := x; exact ⟨_, e⟩
  | tup xs => obtain ⟨_, _, _, ob, e, _⟩ := x; exact ⟨_, e⟩
  | dK kvs => obtain ⟨_, _, _, _, o, _, _, e, _⟩ := x; exact ⟨_, e⟩
  | dT kvs => obtain ⟨_, _, _, _, o, _, _, e, _⟩ := x; exact ⟨_, e⟩
  | set S n => obtain ⟨o, _, _, _, e, _⟩ := x; exact ⟨_, e⟩
  | ins C dx fs => obtain ⟨_, _, _, e, _⟩ := x; exact ⟨_, e⟩
  | own y => obtain ⟨_, e⟩ := x; exact ⟨_, e⟩
  | xd fs => obtain ⟨_, ⟨_, _, _, e, _⟩, _⟩ := x; exact ⟨_, e⟩
  | rng lo hi => obtain ⟨_, _, _, e⟩ := x; exact ⟨_, e⟩
  | frz ob u => obtain ⟨e, _⟩ := x; exact ⟨_, e⟩
  | tbl ps => exact ⟨_, (show h.get? a = some _ from x)⟩
  | met f y => exact ⟨_, (show h.get? a = some _ from x)⟩
  | ext φ => obtain ⟨_, ⟨_, e⟩, _⟩ := x; exact ⟨_, e⟩
theorem HOk.none_of {P : Program} {w : World} {H : Hp} {h : Heap} {a : Addr} (x : HOk P w H h) (e : h.get? a = none) : H a = none := by
  cases q : H a with
  | none => rfl
  | some u => obtain ⟨o, h2⟩ := (x a u q).obj; rw [e] at h2; cases h2
structure FlyS (P : Program) (w : World) (l : List Env) (H : Hp) (s : Shared) (ea C t : Addr) (H' : Hp) (B : Heap) (s' : Shared) : Prop where
  os : s'.os = s.os
  bare : AllBare s'.gens
  un : Un (frs l) [] H H' s.heap s'.heap
  kb : ∀ b o, s.heap.get? b = some o → H b = none → b ∉ frs l → B.get? b = some o
  th : ∀ b o, s.heap.get? b = some o → b ∉ frs l → ∃ o', B.get? b = some o'
  hok : HOk P w H' B
  fly : Heap.FlyingW B l ea (.ref C) (.ref t) s'.heap
def CXR (P : Program) (w : World) : CXT := fun l H s E e s' => ∃ ea C t H' B, e = .ref ea ∧ FlyS P w l H s ea C t H' B s' ∧ E (.ref C) none H'
section
variable {P : Program} {w : World} {l : List Env} {H H' : Hp} {s s' : Shared} {ea C t : Addr} {B h' : Heap}
theorem FlyS.land {tk : Nat} (F : FlyS P w l H s ea C t H' B s') (fl : Heap.FlyingW B l ea (.ref C) (.ref t) h') (up : s'.heap.UpToSlots h') (fs : ∀ b ∈ frs l, ∀ o, s.heap.get? b = some o → ∀ vs, o.data ≠ .fields vs) :
    FlyS P w l H s ea C t H' B { s' with heap := h', toks := tk } where
  os := F.os
  bare := F.bare
  un := {
    keep := fun b o e n hb _ => fl.1 b o (F.kb b o e n hb)
    slot := fun b o e n hb hx => by
      obtain ⟨sl, h1⟩ := F.un.slot b o e n hb hx
      obtain ⟨sl2, h2⟩ := up b _ h1 (fs b hb o e)
      exact ⟨sl2, h2⟩
    free := F.un.free
    there := fun b o e hx => by
      by_cases hb : b ∈ frs l
      · by_cases n : H b = none
        · obtain ⟨sl, h1⟩ := F.un.slot b o e n hb hx
          obtain ⟨sl2, h2⟩ := up b _ h1 (fs b hb o e)
          exact ⟨_, h2⟩
        · obtain ⟨_, ⟨o', h2, _⟩⟩ := fl.2.2.1.mem hb
          exact ⟨_, h2⟩
      · obtain ⟨o', h2⟩ := F.th b o e hb
        exact ⟨o', fl.1 b o' h2⟩
    tups := F.un.tups
    frzs := F.un.frzs
    tbls := F.un.tbls }
  kb := F.kb
  th := F.th
  hok := F.hok
  fly := fl
end
section
variable {X : Cx} {pins : List (Addr × Obj)} {σ : St} {H1 : Hp} {s1 : Shared} {E : XK} {ea C : Addr} {vs : List Value} {h' : Heap} {Ex : Value → Shared → Prop} {M : Model}
theorem stk_locals (I : Inv X pins σ H1 s1) : ∀ b o, X.s₀.heap.get? b = some o → b ∉ X.fs → b ∉ frs X.stack := fun b o e hb z => by
  rcases List.mem_cons.mp (I.stkSub b z) with q | q
  · have := Heap.lt_size e
    rw [q] at this
    exact absurd (Nat.lt_of_lt_of_le this I.ok.above) (Nat.lt_irrefl _)
  · exact hb q
theorem hide_ok (I : Inv X pins σ H1 s1) : HOk X.prog X.w H1 (PySem.W.hideAll s1.heap (frs X.stack)) := fun a o e =>
  (I.hok a o e).stay (fun b u hb q => PySem.W.hideAll_get _ q fun z => by
    have := I.stkFree b z
    rcases hb with rfl | hb
    · rw [this] at e; cases e
    · rw [this] at hb; cases hb) (fun _ q => q) fun _ _ q => q
theorem fs_data (I : Inv X pins σ H1 s1) : ∀ b ∈ X.fs, ∀ o, X.s₀.heap.get? b = some o → ∀ vs, o.data ≠ .fields vs := fun b hb o e => by
  obtain ⟨_, o', h1, h2⟩ := I.ok.funs.mem hb
  rw [e] at h1; cases h1
  exact h2
theorem leave_made (I : Inv X pins σ H1 s1) (hst : X.stack = X.env :: X.outer) (hfr : X.env.frame = some X.env.locals) (hex : X.ex = []) (hx : Heap.MadeExcOf s1.heap h' ea (.ref C) vs) (hE : E (.ref C) none H1) :
    wpAny M X.A (leaving X.env (.ref ea)) (fun _ s'' => CXR X.prog X.w X.outer X.H₀ X.s₀ E (.ref ea) s'') Ex { s1 with heap := h' } := by
  have hin : ∀ env ∈ X.stack, ∀ b, env.frame = some b → b ∈ frs X.stack := fun env he b hb => List.mem_filterMap.mpr ⟨env, he, hb⟩
  have st := I.stack
  refine wpAny_leaves_madeW (base := PySem.W.hideAll s1.heap (frs X.stack)) (h := s1.heap) (env := X.env) (outer := X.outer) (by rw [← hst]; exact I.ok.frames) hfr (fun b o q => PySem.W.of_hideAll _ q)
    (by rw [← hst]; exact PySem.W.funFrames_hide st hin) hx fun h2 t fl tp nt up => ?_
  have nx : ∀ b : Addr, b ∉ X.ex := fun b z => by rw [hex] at z; cases z
  have kbB : ∀ b o, X.s₀.heap.get? b = some o → X.H₀ b = none → b ∉ X.fs → (PySem.W.hideAll s1.heap (frs X.stack)).get? b = some o := fun b o e n hb => PySem.W.hideAll_get _ (I.base.keep b o e n hb (nx b)) (stk_locals I b o e hb)
  have thB : ∀ b o, X.s₀.heap.get? b = some o → b ∉ X.fs → ∃ o', (PySem.W.hideAll s1.heap (frs X.stack)).get? b = some o' := fun b o e hb => by
    obtain ⟨o', q⟩ := I.base.there b o e (nx b)
    exact ⟨o', PySem.W.hideAll_get _ q (stk_locals I b o e hb)⟩
  have slot : ∀ b o, X.s₀.heap.get? b = some o → X.H₀ b = none → b ∈ X.fs → ∃ sl, h2.get? b = some { o with slots := sl } := fun b o e n hb => by
    obtain ⟨sl, q⟩ := I.base.slot b o e n hb (nx b)
    obtain ⟨sl2, q2⟩ := up b _ (hx.keeps _ _ q) (fs_data I b hb o e)
    exact ⟨sl2, q2⟩
  refine ⟨ea, C, t, H1, _, rfl, ⟨I.os, I.bare, ⟨fun b o e n hb _ => fl.1 b o (kbB b o e n hb), fun b o e n hb _ => slot b o e n hb, fun b o e n _ => I.base.free b o e n (nx b), fun b o e _ => ?_, I.base.tups, I.base.frzs, I.base.tbls⟩, kbB, thB, hide_ok I, fl⟩, hE⟩
  by_cases hb : b ∈ X.fs
  · obtain ⟨sl, q⟩ := slot b o e (I.ok.frf b hb) hb
    exact ⟨_, q⟩
  · obtain ⟨o', q⟩ := thB b o e hb
    exact ⟨o', fl.1 b o' q⟩
theorem leave_on {s' : Shared} {e : Value} (I : Inv X pins σ H1 s1) (hst : X.stack = X.env :: X.outer) (hfr : X.env.frame = some X.env.locals) (hex : X.ex = []) (h : CXR X.prog X.w X.stack H1 s1 E e s') :
    wpAny M X.A (leaving X.env e) (fun _ s'' => CXR X.prog X.w X.outer X.H₀ X.s₀ E e s'') Ex s' := by
  obtain ⟨ea, C, t, H', B, rfl, F, hE⟩ := h
  have fl := F.fly
  rw [hst] at fl
  refine wpAny_leaves_onW (by rw [← hst]; exact I.ok.frames) hfr fl fun h2 fl2 up => ?_
  have nx : ∀ b : Addr, b ∉ X.ex := fun b z => by rw [hex] at z; cases z
  have nn : ∀ b : Addr, b ∉ ([] : List Addr) := fun b z => by cases z
  have kbB : ∀ b o, X.s₀.heap.get? b = some o → X.H₀ b = none → b ∉ X.fs → B.get? b = some o := fun b o e n hb =>
    F.kb b o (I.base.keep b o e n hb (nx b)) (I.base.free b o e n (nx b)) (stk_locals I b o e hb)
  have thB : ∀ b o, X.s₀.heap.get? b = some o → b ∉ X.fs → ∃ o', B.get? b = some o' := fun b o e hb => by
    obtain ⟨o', q⟩ := I.base.there b o e (nx b)
    exact F.th b o' q (stk_locals I b o e hb)
  have slot : ∀ b o, X.s₀.heap.get? b = some o → X.H₀ b = none → b ∈ X.fs → ∃ sl, h2.get? b = some { o with slots := sl } := fun b o e n hb => by
    obtain ⟨sl, q⟩ := I.base.slot b o e n hb (nx b)
    have hs : b ∈ frs X.stack := by
      rw [hst]
      obtain ⟨env, h1, h2⟩ := List.mem_filterMap.mp hb
      exact List.mem_filterMap.mpr ⟨env, List.mem_cons_of_mem _ h1, h2⟩
    obtain ⟨sl1, q1⟩ := F.un.slot b _ q (I.base.free b o e n (nx b)) hs (nn b)
    obtain ⟨sl2, q2⟩ := up b _ q1 (fs_data I b hb o e)
    exact ⟨sl2, q2⟩
  refine ⟨ea, C, t, H', B, rfl, ⟨F.os.trans I.os, F.bare, ⟨fun b o e n hb _ => fl2.1 b o (kbB b o e n hb), fun b o e n hb _ => slot b o e n hb, fun b o e n _ => ?_, fun b o e _ => ?_, fun b xs e => F.un.tups b xs (I.base.tups b xs e), fun b o u e => F.un.frzs b o u (I.base.frzs b o u e), fun b ps e => ?_⟩, kbB, thB, F.hok, fl2⟩, hE⟩
  · obtain ⟨o', q⟩ : ∃ o', s1.heap.get? b = some o' := I.base.there b o e (nx b)
    exact F.un.free b o' q (I.base.free b o e n (nx b)) (nn b)
  · by_cases hb : b ∈ X.fs
    · obtain ⟨sl, q⟩ := slot b o e (I.ok.frf b hb) hb
      exact ⟨_, q⟩
    · obtain ⟨o', q⟩ := thB b o e hb
      exact ⟨o', fl2.1 b o' q⟩
  · obtain ⟨m1, q1⟩ := I.base.tbls b ps e
    obtain ⟨m2, q2⟩ := F.un.tbls b _ q1
    exact ⟨m1 ++ m2, by rw [q2, Array.append_assoc]⟩
end
section
variable {P : Program} {w : World} {K : PySem.W.Frag} {mg : Str → Option Value} {base : Heap} {N : List Str} {qual : Str} {scope : Scope} {f : Addr} {cd : Value} {A : Around} {outer : List Env} {s : Shared} {H : Hp} {E : XK}
theorem passR : Passes (CXR P w) (cxOf (CXR P w) P w K mg base N qual scope f cd A outer s H E) E := fun pins σ H1 s1 e s' I h => leave_on I rfl rfl rfl h
end
end L2
set_option Elab.async false
set_option linter.all false
set_option maxRecDepth 100000
namespace L2
open PySem PySem.Spec PyProof.Rows
abbrev bmVE : List Value := [.type "ValueError", .type "Exception", .type "BaseException", .type "object"]
def XIn (K : PySem.W.Frag) (C : Addr) : Prop := PySem.W.excIn K C bmVE "ValueError.__new__" = true
theorem xcls {K : PySem.W.Frag} {h : Heap} {C : Addr} (X : K.In h) (q : XIn K C) : ∃ bm ns nm qn bs hd sn sub ab col dd k0 k1 k2 k3 k5 mN,
    h.get? C = some (excClassObj nm qn C ns bs bm hd sn sub ab col dd k0 k1 k2 k3 k5 "ValueError.__new__") ∧ h.Ns ns mN ∧ mN "__init__" = none ∧ OwnTail h bmVE bm := by
  unfold XIn PySem.W.excIn at q
  split at q
  · rename_i dd cd sl ho
    split at q
    · rename_i C' bm k0 k1 k2 k3 n k5 hm hs
      simp only [Bool.and_eq_true, beq_iff_eq, Bool.not_eq_true'] at q
      obtain ⟨⟨⟨⟨⟨rfl, rfl⟩, hdel⟩, ht⟩, hok⟩, hni⟩ := q
      obtain ⟨nm, bs, mro, ns, qn, hd, sn, sub, ab, col, del⟩ := cd
      dsimp only at hm hdel hok hni
      subst hm hdel
      have hsl : sl = #[k0, k1, k2, k3, some (.builtin "ValueError.__new__"), k5] := by
        obtain ⟨l⟩ := sl
        simp only at hs
        rw [hs]
      subst hsl
      exact ⟨bm, ns, nm, qn, bs, hd, sn, sub, ab, col, dd, k0, k1, k2, k3, k5, _, X _ _ ho, .of_isNs (PySem.W.isNs_of_in X hok), PySem.W.nsMap_none_of_in X hok hni, PySem.W.tail_of_in X ht⟩
    · cases q
  · cases q
def tRaise (C : Addr) (E : XK) (ta : TA) : TS := fun _ σ H => ta σ H fun vs H1 => vs.length ≤ sizeLine ∧ E (.ref C) none H1
section
variable {X : Cx} {C : Addr} {E : XK} {x : Str} {e₀ : Expr} {rest : List Expr} {ta : TA} {np cpos pos : Pos}
theorem ps_raise (hxe : ∀ pins σ H1 s1 ea h' vs, Inv X pins σ H1 s1 → Heap.MadeExcOf s1.heap h' ea (.ref C) vs → E (.ref C) none H1 → X.xe (.ref ea) { s1 with heap := h' }) (hc : X.calm = true)
    (hg : Gl X x) (hm : X.mg x = some (.ref C)) (hX : XIn X.K C) (ha : PA X (e₀ :: rest) ta) (he : starEach (e₀ :: rest) X.env = (false, eval e₀ X.env) :: starEach rest X.env := by rfl)
    (hplain : (backTo cpos (starEach rest X.env)).any (·.1) = false := by rfl) (hd : (x == ("__debug__" : Str)) = false := by decide) :
    PS X (.Raise (some (.Call (.Name x np) (e₀ :: rest) [] cpos)) none pos) (tRaise C E ta) := by
  intro pins s σ H D I h
  obtain ⟨bm, ns, nm, qn, bs, hdct, sn, sub, ab, col, dd, k0, k1, k2, k3, k5, mN, hC, hN, hni, T⟩ := xcls I.ok.mod.kin hX
  have FB := PySem.F.excBase_ValueError
  refine wpAny_Raise_call_subT (C := C) (nm := nm) (q := qn) (N := ns) (bs := bs) (bm := bm) (hdct := hdct) (sn := sn) (sub := sub) (ab := ab) (col := col) (dd := dd) (k0 := k0) (k1 := k1) (k2 := k2) (k3 := k3) (k5 := k5)
    FB (mN := mN) (T.hasType FB.hasBase) (I.ok.hd hc) (by rw [he]; show (false || (backTo cpos (starEach rest X.env)).any (·.1)) = false; rw [hplain]; rfl) hni (ld_glob I hg hm ⟨rfl, ?_⟩ hd)
  have q := ha cpos pins s σ H _ I h
  rw [he] at q ⊢
  exact Calls.evalArgs_plain (wpAny_mono q (fun us s₂ ⟨vs, H1, I1, r, hl, hE⟩ => ⟨rfl, by rw [← r.length]; exact hl, I1.bk _ _ hC, hN.keeps I1.bk, T.keeps I1.bk, fun h' e hme => hxe pins σ H1 s₂ e h' us I1 hme hE⟩) fun _ _ y => y)
end
end L2
set_option Elab.async false
set_option linter.all false
set_option maxRecDepth 100000
namespace L2
open PySem PySem.Spec PyProof.Rows
theorem matches_own {M : Model} {A : Around} {E : Value → Shared → Prop} {nm q : Str} {C D N : Addr} {bs bm : List Value} {hdct : Bool} {sn : List Str} {sub : List Value} {ab : Bool} {col : Option Bool} {dd : Option Addr} {k0 k1 k2 k3 k5 : Option Value} {newId : String}
    {h : Heap} {g : Array GenState} {d : Drawn} {t : Nat} {os : OsState} {e : Addr} {oe : Obj} {Q : Bool → Shared → Prop}
    (hD : h.get? D = some (excClassObj nm q D N bs bm hdct sn sub ab col dd k0 k1 k2 k3 k5 newId)) (he : h.get? e = some oe) (hcls : oe.cls = .ref C) (hbase : bm.contains (.type "BaseException") = true)
    (hs : PySem.W.Looks M h (isSubtype (.ref C) (.ref D)) true)
    (hq : Q true ⟨h, g, d, t, os⟩) : wpAny M A (excMatches (.ref e) (.ref D)) Q E ⟨h, g, d, t, os⟩ := by
  have hcB : (Value.ref D :: bm).contains (.type "BaseException") = true := by rw [List.contains_cons, hbase, Bool.or_true]
  have f := tc_notTuple
  unfold excMatches
  repeat (first | (with_reducible refine wpAny_loadPart_at he ?_; rw [hcls]) | with_reducible refine wpAny_loadPart_at hD ?_ | (with_reducible refine wpAny_isSubtype_exc hD ?_; rw [hcB]) | (with_reducible refine wpAny_bind (hs.at ?_)) | wp_step)
  exact hq
def exO (ea C : Addr) : HO := .ext fun h => ∃ o vs, h.get? ea = some o ∧ o.cls = .ref C ∧ o.data = .fields vs
abbrev Cx.marked (X : Cx) (ea : Addr) : Cx := { X with A := X.A.mark (some (.ref ea)), calm := false, xe := fun _ _ => False }
section
variable {X : Cx} {pins : List (Addr × Obj)} {σ : St} {H H' : Hp} {s s' : Shared} {ea C t : Addr} {B : Heap}
theorem Inv.mark (I : Inv X pins σ H s) (ea : Addr) : Inv (X.marked ea) pins σ H s :=
  ⟨⟨I.ok.mod, I.ok.kind, I.ok.glob, I.ok.blt, I.ok.above, I.ok.inj, I.ok.has, I.ok.cab, fun h => (nomatch h), I.ok.frames, I.ok.stk, I.ok.exf, I.ok.bs, I.ok.bsz, I.ok.noex, I.ok.exfs, I.ok.funs, I.ok.frf⟩, I.os, I.bare, I.base, I.loc, I.cell, I.free, I.freeC, I.pin, I.hok, I.len⟩
theorem Inv.unmark {ea : Addr} (J : X.Ok) (I : Inv (X.marked ea) pins σ H s) : Inv X pins σ H s := ⟨J, I.os, I.bare, I.base, I.loc, I.cell, I.free, I.freeC, I.pin, I.hok, I.len⟩
theorem landed (I : Inv X pins σ H s) (F : FlyS X.prog X.w X.stack H s ea C t H' B s') : H' ea = none ∧ Inv X pins σ (upd H' ea (exO ea C)) s' := by
  obtain ⟨f1, f2, f3, f4⟩ := F.fly
  obtain ⟨oe, ws, T, oT, ts, e1, ⟨e2, _⟩, e3, _⟩ := f4
  have nea : H' ea = none := F.hok.none_of f2
  refine ⟨nea, I.call' (H' := upd H' ea (exO ea C)) (ch := []) F.os ⟨F.un.keep, F.un.slot, fun b o e n hx => ?_, F.un.there, fun b xs e => ?_, fun b o u e => ?_, fun b ps e => ?_⟩ ?_ F.bare (fun b z => by cases z)⟩
  · have hne : b ≠ ea := by
      rintro rfl
      by_cases hb : b ∈ frs X.stack
      · obtain ⟨_, o', h1, h2⟩ := f3.mem hb
        rw [e1] at h1; cases h1
        exact h2 _ e3
      · have := F.kb b o e n hb
        rw [f2] at this; cases this
    rw [upd_ne hne]
    exact F.un.free b o e n hx
  · have := F.un.tups b xs e
    rw [upd_ne (ne_of_none this nea)]; exact this
  · have := F.un.frzs b o u e
    rw [upd_ne (ne_of_none this nea)]; exact this
  · obtain ⟨m, this⟩ := F.un.tbls b ps e
    exact ⟨m, by rw [upd_ne (ne_of_none this nea)]; exact this⟩
  · intro a o e
    by_cases ha : a = ea
    · subst ha
      rw [upd_same] at e
      cases e
      refine ⟨⟨oe, ws, e1, e2, e3⟩, ⟨oe, e1⟩, fun h1 h2 ⟨o, vs, p1, p2, p3⟩ k => ⟨o, vs, k o p1, p2, p3⟩⟩
    · rw [upd_ne ha] at e
      refine ((F.hok a o e).stay (fun b u _ q => f1 b u q) (fun b q => ?_) fun b xs q => ?_)
      · rw [upd_ne (ne_of_none q nea)]; exact q
      · rw [upd_ne (ne_of_none q nea)]; exact q
theorem frs_data (I : Inv X pins σ H s) : ∀ b ∈ frs X.stack, ∀ o, s.heap.get? b = some o → ∀ vs, o.data ≠ .fields vs := fun b hb o e => by
  obtain ⟨_, o', h1, h2⟩ := I.stack.mem hb
  rw [e] at h1; cases h1
  exact h2
theorem unbind_ok {M : Model} {A : Around} {E : Value → Shared → Prop} {i : Nat} {n : Str} {pos : Pos} {Q : Unit → Shared → Prop} (I : Inv X pins σ H s) (hN : X.N.Nodup) (hi : X.N[i]? = some n) (hk : X.env.scope.names.lookup n = some .local)
    (h : ∀ s', Inv X pins (σ.set i none) H s' → Q () s') : wpAny M A (do bindName X.env n .none; unbindBehindTheSuite X.env n pos) Q E s := by
  obtain ⟨m, hn, hl⟩ := id I.loc
  have hcls : (X.env.scope.kind == .class || (X.env.scope.kind == .module && X.env.locals != X.env.globals)) = false := by rw [I.ok.kind]; rfl
  have hiσ : i < σ.length := by rw [I.len]; exact (List.getElem?_eq_some_iff.mp hi).1
  have cne := I.cne
  refine wpAny_nameGoes_keeps hk hn hcls fun h' v hn' hs => ?_
  obtain ⟨oL, _, _, hoL, _⟩ := id hn
  have tracked : HOk X.prog X.w H h' := fun b ob e => by
    refine (I.hok b ob e).stay (fun c w' hc q => (hs.2 c ?_).trans q) (fun _ q => q) fun _ _ q => q
    rintro rfl
    rcases hc with rfl | hc
    · rw [I.free] at e; cases e
    · rw [I.free] at hc; cases hc
  refine h _ ⟨I.ok, I.os, I.bare, ⟨fun b o e n hb hx => ?_, fun b o e n hb hx => ?_, I.base.free, fun b o e hx => ?_, I.base.tups, I.base.frzs, I.base.tbls⟩, ⟨_, hn', fun j y v' e1 e2 e3 => ?_⟩, fun y c e => ?_, I.free, I.freeC, fun p hp => ?_, tracked, by simpa using I.len⟩
  · exact (hs.2 b (Nat.ne_of_lt (Nat.lt_of_lt_of_le (Heap.lt_size e) I.ok.above))).trans (I.base.keep b o e n hb hx)
  · obtain ⟨sl, e1⟩ := I.base.slot b o e n hb hx
    exact ⟨sl, (hs.2 b (Nat.ne_of_lt (Nat.lt_of_lt_of_le (Heap.lt_size e) I.ok.above))).trans e1⟩
  · obtain ⟨o', e1⟩ := I.base.there b o e hx
    exact ⟨o', (hs.2 b (Nat.ne_of_lt (Nat.lt_of_lt_of_le (Heap.lt_size e) I.ok.above))).trans e1⟩
  · by_cases hj : j = i
    · subst hj
      rw [List.getElem?_set_self hiσ] at e2
      cases e2
    · rw [List.getElem?_set_ne (Ne.symm hj)] at e2
      obtain ⟨u', r', q⟩ := hl j y v' e1 e2 e3
      refine ⟨u', r', ?_⟩
      rcases q with ⟨k, e⟩ | ⟨k, c, e, z⟩
      · refine .inl ⟨k, ?_⟩
        have : y ≠ n := fun e => hj (nodup_ix hN e1 (e ▸ hi))
        simp [this, e]
      · exact .inr ⟨k, c, e, z.sameBut hs (cne y c e)⟩
  · obtain ⟨w', z⟩ := I.cell y c e
    exact ⟨w', z.sameBut hs (cne y c e)⟩
  · obtain ⟨e, n, ne, nf, d⟩ := I.pin p hp
    exact ⟨(hs.2 p.1 ne).trans e, n, ne, nf, d⟩
end
def Ends.un (D : Ends) (i : Nat) : Ends := { nx := fun σ H => D.nx (σ.set i none) H, rt := D.rt, bk := fun σ H => D.bk (σ.set i none) H, ct := fun σ H => D.ct (σ.set i none) H }
section
variable {X : Cx} {pins : List (Addr × Obj)} {σ : St} {H H' : Hp} {s s' : Shared} {ea C DD t : Addr} {B : Heap} {x n : Str} {np hpos : Pos} {b₀ : Stmt} {suite : List Stmt} {rest : List ExceptHandler} {D : Ends} {Ex : Value → Shared → Prop} {i : Nat} {ts : TS}
theorem caught (I : Inv X pins σ H s) (hst : X.stack = X.env :: X.outer) (hfr : X.env.frame = some X.env.locals) (F : FlyS X.prog X.w X.stack H s ea C t H' B s') (hg : Gl X x) (hm : X.mg x = some (.ref DD)) (hXD : XIn X.K DD) (hsub : PySem.W.subIn X.K (.ref C) (.ref DD) = some true)
    (hN : X.N.Nodup) (hi : X.N[i]? = some n) (hk : X.env.scope.names.lookup n = some .local) (hs : PSs (X.marked ea) (b₀ :: suite) ts) (h : H' ea = none → ts (D.un i) (σ.set i (some (.ref ea))) (upd H' ea (exO ea C))) (hd : (x == ("__debug__" : Str)) = false := by decide) :
    wpAny (model X.prog X.w) X.A (noteFrame (.ref ea) X.env)
      (fun _ s₂ => wpAny (model X.prog X.w) X.A (setFlight (.ref ea) none) (fun _ s₃ =>
        wpAny (model X.prog X.w) X.A (handleBy (.ref ea) X.env (.ExceptHandler (some (.Name x np)) (some n) (b₀ :: suite) hpos :: rest)) (SP X pins D) Ex s₃) Ex s₂) Ex s' := by
  have fd := frs_data I
  have fl := F.fly
  rw [hst] at fl
  refine wpAny_looks_onW (by rw [← hst]; exact I.ok.frames) hfr fl fun h₄ held4 up4 => ?_
  refine wpAny_landsW held4 fun h₅ fl5 up5 => ?_
  have F5 := F.land (tk := s'.toks) (h' := h₅) (by rw [hst]; exact fl5) (up4.trans up5) fd
  obtain ⟨nea, I5⟩ := landed I F5
  obtain ⟨oe, he, hcls⟩ := F5.fly.there
  obtain ⟨bm, ns, nm, qn, bs, hdct, sn, sub, ab, col, dd, k0, k1, k2, k3, k5, mN, hC, hN', hni, T⟩ := xcls I5.kIn hXD
  have FB := PySem.F.excBase_ValueError
  have LS : PySem.W.Looks (model X.prog X.w) h₅ (isSubtype (.ref C) (.ref DD)) true := PySem.W.looks_subIn I5.kIn hsub
  refine wpAny_handleBy_cons (codeAny_handlers_test (ld_glob (I5.mark ea) hg hm ?_ hd)) (by intro q; cases q)
  refine matches_own hC he hcls (T.hasType FB.hasBase) LS (codeAny_handlers_suite_as ?_)
  refine lands_againW F5.fly fun h₆ fl6 up6 => ?_
  have F6 := F5.land (tk := s'.toks) (h' := h₆) fl6 up6 fd
  obtain ⟨_, I6⟩ := landed I F6
  refine store_ok (v := .ref ea) I6 hN hi (.inl hk) rfl (fun s7 I7 => ?_) (.inr hk)
  refine wpAny_mono (hs pins s7 _ _ (D.un i) (I7.mark ea) (h nea)) (fun f s8 q => ?_) (fun _ _ z => z.elim)
  have go : ∀ {σ8 : St} {H8 : Hp}, Inv (X.marked ea) pins σ8 H8 s8 → (∀ s9, Inv X pins (σ8.set i none) H8 s9 → SP X pins D f s9) → wpAny (model X.prog X.w) X.A (do bindName X.env n .none; unbindBehindTheSuite X.env n hpos) (fun _ s₅ => SP X pins D f s₅) Ex s8 :=
    fun I8 k => unbind_ok (I8.unmark I.ok) hN hi hk k
  cases f with
  | next => obtain ⟨σ8, H8, I8, q8⟩ := q; exact go I8 fun s9 I9 => ⟨_, H8, I9, q8⟩
  | brk => obtain ⟨σ8, H8, I8, q8⟩ := q; exact go I8 fun s9 I9 => ⟨_, H8, I9, q8⟩
  | cont => obtain ⟨σ8, H8, I8, q8⟩ := q; exact go I8 fun s9 I9 => ⟨_, H8, I9, q8⟩
  | ret u => obtain ⟨v, σ8, H8, I8, r, q8⟩ := q; exact go I8 fun s9 I9 => ⟨v, _, H8, I9, r, q8⟩
end
end L2
set_option Elab.async false
set_option linter.all false
set_option maxRecDepth 100000
namespace L2
open PySem PySem.Spec PyProof.Rows
abbrev TX := St → Hp → VK → XK → Prop
abbrev TXS := Ends → St → Hp → (St → XK) → Prop
def XP (X : Cx) (pins : List (Addr × Obj)) (σ : St) (R : XK) (ex : Value) (s' : Shared) : Prop := ∃ H1 s1, Inv X pins σ H1 s1 ∧ CXR X.prog X.w X.stack H1 s1 R ex s'
def PX (X : Cx) (e : Expr) (t : TX) : Prop := ∀ (pins : List (Addr × Obj)) (s : Shared) (σ : St) (H : Hp) (Q : VK) (R : XK), Inv X pins σ H s → t σ H Q R → wpAny (model X.prog X.w) X.A (eval e X.env) (EP X pins σ Q) (XP X pins σ R) s
def PXS (X : Cx) (st : Stmt) (t : TXS) : Prop := ∀ (pins : List (Addr × Obj)) (s : Shared) (σ : St) (H : Hp) (D : Ends) (R : St → XK), Inv X pins σ H s → t D σ H R → wpAny (model X.prog X.w) X.A (exec st X.env) (SP X pins D) (fun ex s' => ∃ σ1, XP X pins σ1 (R σ1) ex s') s
def PXSs (X : Cx) (st : List Stmt) (t : TXS) : Prop := ∀ (pins : List (Addr × Obj)) (s : Shared) (σ : St) (H : Hp) (D : Ends) (R : St → XK), Inv X pins σ H s → t D σ H R → wpAny (model X.prog X.w) X.A (execs st X.env) (SP X pins D) (fun ex s' => ∃ σ1, XP X pins σ1 (R σ1) ex s') s
section
variable {X : Cx} {k : Nat} {f : Addr} {fd : FuncData} {ps : List Str} {sp : Sp} {dvs : List V} {ds : List Value} {x : Str} {p pos : Pos} {e : Expr} {es : List Expr} {ta : TA}
theorem PA.nox {es : List Expr} {t : TA} (h : PA X.nox es t) {pos : Pos} {pins : List (Addr × Obj)} {s : Shared} {σ : St} {H : Hp} {Q : List V → Hp → Prop} {E : Value → Shared → Prop} (I : Inv X pins σ H s) (q : t σ H Q) :
    wpAny (model X.prog X.w) X.A (spliced (backTo pos (starEach es X.env))) (AP X pins σ Q) E s :=
  wpAny_mono (h pos pins s σ H Q (I.wish _) q) (fun _ _ ⟨v, H', I', r, q⟩ => ⟨v, H', I'.unwish, r, q⟩) fun _ _ z => False.elim z
theorem run_fnX {pins : List (Addr × Obj)} {σ : St} {H : Hp} {s : Shared} {Q : VK} {R : XK} {us : List Value} {vs : List V} (F : FnOk X.prog X.w X.K X.mg X.base (CXR X.prog X.w) k f fd ps sp) (hr : Room k X.A) (hb : Binds X.K fd ps ds) (hd : Vals dvs ds)
    (I : Inv X pins σ H s) (r : Vals vs us) (h : sp (vs ++ dvs) H Q R) : wpAny (model X.prog X.w) X.A (call (.ref f) us) (EP X pins σ Q) (XP X pins σ R) s := by
  have r2 : Vals (vs ++ dvs) (us ++ ds) := r.append hd
  have hl : (us ++ ds).length = ps.length := by rw [← r2.length]; exact F.len _ _ _ _ h
  refine wpAny_call (codeAny_mono (F.run X.A X.stack s H ⟨us, []⟩ (us ++ ds) (vs ++ dvs) Q R hr I.env0 (hb s us I.kIn hl) r2 h) fun r s' hq => ?_)
  cases r with
  | error e => exact ⟨H, s, I, hq⟩
  | ok fl =>
    cases fl with
    | ret u => exact I.after hq
    | next => exact False.elim hq
    | brk => exact False.elim hq
    | cont => exact False.elim hq
def tXCall (sp : Sp) (dvs : List V) (t : TA) : TX := fun σ H Q R => t σ H fun vs H1 => sp (vs ++ dvs) H1 Q R
theorem px_call (F : FnOk X.prog X.w X.K X.mg X.base (CXR X.prog X.w) k f fd ps sp) (hr : Room k X.A) (hg : Gl X x) (hm : X.mg x = some (.ref f)) (hk : PySem.W.keepIn X.K (.ref f) = true) (hb : Binds X.K fd ps ds) (hd : Vals dvs ds)
    (ha : PA X.nox (e :: es) ta) (hdb : (x == ("__debug__" : Str)) = false := by decide) (he : starEach (e :: es) X.env = (false, eval e X.env) :: starEach es X.env := by rfl) (hpl : (backTo pos (starEach es X.env)).any (·.1) = false := by rfl) :
    PX X (.Call (.Name x p) (e :: es) [] pos) (tXCall sp dvs ta) := by
  intro pins s σ H Q R I h
  refine wpAny_Call_Name_kw (ld_glob I hg hm ?_ hdb)
  refine PySem.W.callWith_K (h₀ := X.base) I.ok.mod.kin hk (thn (PA.nox ha I h) fun us s1 ⟨vs, H1, I1, r, q⟩ => ⟨I1.kIn, ?_⟩) he hpl
  exact run_fnX F hr hb hd I1 r q
variable {t u : TXS} {te : TX} {st : Stmt} {rest : List Stmt} {i : Nat} {px : Pos}
def tXSet (i : Nat) (te : TX) : TXS := fun D σ H R => te σ H (fun v H1 => D.nx (σ.set i (some v)) H1) (R σ)
theorem pxs_set (hN : X.N.Nodup) (hi : X.N[i]? = some x) (hx : Loc X.env.scope x) (he : PX X e te) (hs : swapsWith e (some (.Name x px)) pos.line X.env = pure false := by rfl) (hf : X.fn x = true ∨ X.env.scope.names.lookup x = some .local := by first | exact .inl rfl | exact .inr rfl | assumption) :
    PXS X (.Assign [.Name x px] e pos) (tXSet i te) := by
  intro pins s σ H D R I h
  refine wpAny_Assign_Name (wpAny_mono (he pins s σ H _ _ I h) (fun v s1 ⟨y, H1, I1, r1, q1⟩ => ?_) fun ex s' z => ⟨σ, z⟩) hs
  exact store_ok I1 hN hi hx r1 (fun s2 I2 => ⟨_, H1, I2, q1⟩) hf
def tXLift (t : TS) : TXS := fun D σ H _ => t D σ H
theorem PSs.lx {sts : List Stmt} {t : TS} (h : PSs X.nox sts t) : PXSs X sts (tXLift t) := fun pins s σ H D R I hw =>
  wpAny_mono (h pins s σ H D (I.wish _) hw) (fun _ _ q => q.unwish) fun _ _ z => False.elim z
theorem PS.lx {t : TS} (h : PS X.nox st t) : PXS X st (tXLift t) := fun pins s σ H D R I hw =>
  wpAny_mono (h pins s σ H D (I.wish _) hw) (fun _ _ q => q.unwish) fun _ _ z => False.elim z
theorem pxss_one (h : PXS X st t) : PXSs X [st] t := by
  intro pins s σ H D R I hw
  refine wpAny_execs_cons (wpAny_mono (h pins s σ H D R I hw) (fun f s1 q => ?_) fun _ _ z => z)
  cases f with
  | next => exact wpAny_execs_nil q
  | brk => exact q
  | cont => exact q
  | ret u => exact q
def Under (K : PySem.W.Frag) (DD : Addr) (c : Value) (C : Addr) : Prop := c = .ref C ∧ PySem.W.subIn K (.ref C) (.ref DD) = some true
def tTry (K : PySem.W.Frag) (DD : Addr) (i : Nat) (tb : TXS) (ts : Addr → TS) : TS := fun D σ H => tb D σ H fun σ1 c _ H' => ∃ C, Under K DD c C ∧ ∀ ea, H' ea = none → ts ea (D.un i) (σ1.set i (some (.ref ea))) (upd H' ea (exO ea C))
theorem ps_try {n : Str} {np hpos tpos : Pos} {b₀ : Stmt} {suite body : List Stmt} {DD : Addr} {tb : TXS} {ts : Addr → TS} (hst : X.stack = X.env :: X.outer) (hfr : X.env.frame = some X.env.locals) (hg : Gl X x) (hm : X.mg x = some (.ref DD)) (hXD : XIn X.K DD)
    (hN : X.N.Nodup) (hi : X.N[i]? = some n) (hk : X.env.scope.names.lookup n = some .local) (hb : PXSs X body tb) (hs : ∀ ea, PSs (X.marked ea) (b₀ :: suite) (ts ea)) (hd : (x == ("__debug__" : Str)) = false := by decide) :
    PS X (.Try body [.ExceptHandler (some (.Name x np)) (some n) (b₀ :: suite) hpos] [] [] tpos) (tTry X.K DD i tb ts) := by
  intro pins s σ H D I h
  refine wpAny_Try_except (wpAny_mono (hb pins s σ H D _ I h) (fun f s1 q => ?_) fun ex s' z => ?_)
  · cases f with
    | next => exact wpAny_execs_nil q
    | brk => exact q
    | cont => exact q
    | ret u => exact q
  · obtain ⟨σ1, H1, s1, I1, ea, C, t, H', B, rfl, F, C', ⟨e, hsub⟩, q⟩ := z
    cases e
    exact caught I1 hst hfr F hg hm hXD hsub hN hi hk (hs ea) (q ea) hd
end
end L2
set_option Elab.async false
set_option linter.all false
set_option maxRecDepth 100000
namespace L2
open PySem PySem.Spec PyProof.Rows
def ExAt (x D : Addr) (h : Heap) : Prop := ∃ o vs, h.get? x = some o ∧ o.cls = .ref D ∧ o.data = .fields vs
section
open PySem.W PySem.Calls Builtin Builtin.ObjectAttr Builtin.Getset_descriptor
variable {K : PySem.W.Frag} {x D : Addr}
theorem ex_type {M : Model} {h : Heap} (I : ExAt x D h) : Looks M h (typeOf (.ref x)) (.ref D) := by
  obtain ⟨o, vs, h1, h2, _⟩ := I
  exact h2 ▸ (Looks.ld h1).andThen .now
theorem looks_find_data {M : Model} {h : Heap} (X : K.In h) {name : Str} {a g : Value} (ha : findIn K (.ref D) name = some (some a)) (hg : specialIn K a "__get__" = some (some g)) (ht : takesIn K a = some true) :
    Looks M h (find (.ref x) (.ref D) name) (.bind g a) := by
  have L1 := looks_findIn (M := M) X ha
  have L2 : Looks M h (getOf (some a)) (some g) := looks_specialIn X hg
  have L3 := looks_takesIn (M := M) X ht
  exact L1.andThen (L2.andThen ((show Looks M h (dataDescriptor? (some a) (some g)) (some (g, a)) from L3.andThen .now).andThen (Looks.tag .now)))
variable {prog : Program} {w : World} {A : Around} {E : Value → Shared → Prop} {s : Shared} {name : Str}
theorem ex_check {M : Model} {nameV : Value} {Q : Unit → Shared → Prop} (X : K.In s.heap) (I : ExAt x D s.heap) (hb : mroIn K D (.type "BaseException") = some true) (hq : Q () s) : wpAny M A (checkBuiltinCall "BaseException.__getattribute__" ⟨[.ref x, nameV], []⟩) Q E s := by
  obtain ⟨hh, g, dr, t, os⟩ := s
  have hk : builtinKind "BaseException.__getattribute__" = some .slot := by decide +kernel
  have hsplit : splitId "BaseException.__getattribute__" = some ("BaseException", "__getattribute__") := by decide +kernel
  have L0 := ex_type (M := M) I
  have L1 := looks_mroIn (M := M) X hb
  have ha := F.args_bexc_ga (.ref x) nameV
  simp only [checkBuiltinCall, hk, hsplit]
  refine wpAny_bind ?_
  unfold isInstance
  repeat (first | lk | wp_step)
  exact hq
theorem ex_get {R : Result → Shared → Prop} {tp : Value} (X : K.In s.heap) (I : ExAt x D s.heap) (hm : mroIn K D (.type "object") = some true)
    (h : R (.ok (.ret (.ref D))) s) : codeAny (model prog w) A (.call (.builtin "getset_descriptor.__get__") ⟨[.builtin "object.__class__", .ref x, tp], []⟩) R s := by
  obtain ⟨hh, g, dr, t, os⟩ := s
  have L0 := ex_type (M := model prog w) I
  have L1 := looks_mroIn (M := model prog w) X hm
  refine codeAny_call_builtin KF.slot_gs.plain KF.entry_gs (KF.slot_gs.check _ _ _ _ _ _ _ _ KF.type_class (KF.args_gs _ _ _) ?_)
  unfold Builtin.«getset_descriptor.__get__» descrGet
  rw [dga_obj]
  refine wpAny_bind (wpAny_pure ?_)
  unfold descrGetter descrCheckInstance descrNameAndClass isInstance
  simp only [KF.owner_class]
  repeat lk
  refine ⟨Code.quiet_builtin _ (by decide +kernel), codeAny_builtin KF.entry_class ?_⟩
  unfold Builtin.«object.__class__» shownTypeOf
  repeat lk
  exact h
theorem ex_entry {g a : Value} {tk : Tok} {Q : Fin → Shared → Prop} (X : K.In s.heap) (I : ExAt x D s.heap) (ha : findIn K (.ref D) "__class__" = some (some (.builtin "object.__class__")))
    (hn : specialIn K (.builtin "object.__class__") "__get__" = some (some (.builtin "getset_descriptor.__get__"))) (ht : takesIn K (.builtin "object.__class__") = some true) (hm : mroIn K D (.type "object") = some true)
    (hq : Q (.done (.ret (.ref D))) s) : wpAny (model prog w) A (Builtin.«object.__getattribute__» ⟨[.ref x, .str "__class__" tk], []⟩) Q E s := by
  have L3 := looks_find_data (x := x) (M := model prog w) X ha hn ht
  have L0 := ex_type (M := model prog w) I
  obtain ⟨hh, gg, d, t, os⟩ := s
  refine wpAny_bind (wpAny_pure ?_)
  refine wpAny_bind (wpAny_pure (wpAny_bind (L0.at (wpAny_bind (L3.at ?_)))))
  show wpAny _ _ (holding [_] (call (.builtin "getset_descriptor.__get__") [.builtin "object.__class__", .ref x, .ref D]) >>= ret) _ _ _
  exact wpAny_bind (wpAny_holding (wpAny_call (ex_get (s := ⟨hh, gg, d, t, os⟩) X I hm (wpAny_pure hq))))
theorem ex_attr {Q : Option Value → Shared → Prop} (X : K.In s.heap) (I : ExAt x D s.heap) (g1 : findIn K (.ref D) "__getattribute__" = some (some (.builtin "BaseException.__getattribute__"))) (hb : mroIn K D (.type "BaseException") = some true)
    (g2 : findIn K (.ref D) "__getattr__" = some none) (ha : findIn K (.ref D) "__class__" = some (some (.builtin "object.__class__")))
    (hn : specialIn K (.builtin "object.__class__") "__get__" = some (some (.builtin "getset_descriptor.__get__"))) (ht : takesIn K (.builtin "object.__class__") = some true) (hm : mroIn K D (.type "object") = some true)
    (h : Q (some (.ref D)) { s with toks := s.toks + 1 }) : wpAny (model prog w) A (getAttr? (.ref x) "__class__") Q E s := by
  obtain ⟨hh, g, d, t, os⟩ := s
  have L0 := ex_type (M := model prog w) I
  have L1 := looks_findIn (M := model prog w) X g1
  have L2 := looks_findIn (M := model prog w) X g2
  have f3 := PySem.F.attr_ValueError.ga.bind (.ref x)
  have hx2 : (Value.builtin "BaseException.__getattribute__" == Value.builtin "object.__getattribute__") = false := by decide +kernel
  have hx1 : (onTheHeap (Value.ref D) && Value.builtin "BaseException.__getattribute__" == Value.builtin "object.__getattribute__") = false := by rw [hx2]; rfl
  unfold getAttr? getAttrBy? getAttrBy
  refine wpAny_bind (wpAny_mkText (wpAny_bind (wpAny_attempt (wpAny_holding (wpAny_bind (L0.at (wpAny_bind (L1.at ?_))))))))
  show wpAny _ _ (if (onTheHeap (Value.ref D) && Value.builtin "BaseException.__getattribute__" == Value.builtin "object.__getattribute__") = true then _ else getAttrByItsOwn _ _ _ _ _ _) _ _ _
  rw [hx1, if_neg (by decide)]
  unfold getAttrByItsOwn
  refine wpAny_bind ?_
  show wpAny _ _ (typeLookup (.ref D) "__getattr__") _ _ _
  refine L2.at ?_
  refine wpAny_bind (wpAny_attempt ?_)
  refine wpAny_holding ?_
  show wpAny _ _ (boundAndCalled (.builtin "BaseException.__getattribute__") (.ref x) _) _ _ _
  unfold boundAndCalled
  refine wpAny_bind (wpAny_of_eq f3 ?_)
  refine wpAny_call (codeAny_call_builtin PySem.F.attr_ValueError.ga.plain F.entry_bexc_ga (ex_check (s := ⟨hh, g, d, t + 1, os⟩) X I hb (ex_entry (g := .none) (a := .none) (s := ⟨hh, g, d, t + 1, os⟩) X I ha hn ht hm ?_)))
  show wpAny _ _ (handedOut (.ref D)) _ _ _
  exact handed_on rfl (wpAny_pure h)
structure ExCls (K : PySem.W.Frag) (D : Addr) : Prop where
  cl : (clsIn K D).isSome = true
  g1 : findIn K (.ref D) "__getattribute__" = some (some (.builtin "BaseException.__getattribute__"))
  hb : mroIn K D (.type "BaseException") = some true
  g2 : findIn K (.ref D) "__getattr__" = some none
  ha : findIn K (.ref D) "__class__" = some (some (.builtin "object.__class__"))
  hn : specialIn K (.builtin "object.__class__") "__get__" = some (some (.builtin "getset_descriptor.__get__"))
  htk : takesIn K (.builtin "object.__class__") = some true
  hm : mroIn K D (.type "object") = some true
theorem kitx_exc (e : ExCls K D) : KitX K (.ref x) (.ref D) (ExAt x D) where
  ty := fun _ _ _ I => ex_type I
  it := fun _ _ X _ => by
    obtain ⟨cdD, hcD⟩ := Option.isSome_iff_exists.mp e.cl
    unfold clsIn at hcD
    split at hcD
    · rename_i c' d' cd' sl' ho
      intro A' Q' E' s' k q
      unfold isType loadHead
      exact wpAny_bind (wpAny_loadPart (k _ _ (X _ _ ho)) (wpAny_pure q))
    · cases hcD
  ne := fun h tp dd its n sl X htp => by
    obtain ⟨cdD, hcD⟩ := Option.isSome_iff_exists.mp e.cl
    refine Bool.eq_false_iff.mpr fun q => ?_
    have e : D = tp := Value.ref.inj (beq_iff_eq.mp q)
    subst e
    unfold clsIn at hcD
    split at hcD
    · rename_i c' d' cd' sl' ho
      have z := (X _ _ ho).symm.trans htp
      cases z
    · cases hcD
  ca := fun X I k => ex_attr X I e.g1 e.hb e.g2 e.ha e.hn e.htk e.hm k
theorem XIn.cl (h : XIn K D) : (clsIn K D).isSome = true := by
  unfold XIn excIn at h
  split at h
  · rename_i dd cd sl ho
    unfold clsIn
    rw [ho]; rfl
  · cases h
end
end L2
set_option Elab.async false
set_option linter.all false
set_option maxRecDepth 100000
set_option maxHeartbeats 1000000
namespace L2
open PySem PySem.Spec PyProof.Rows
section
variable {prog : Program} {w : World} {A : Around} {R : Result → Shared → Prop} {s : Shared}
theorem compLoop_gen {elt target iter : Expr} {ifs : List Expr} {scope : Scope} {pos : Pos} {it acc : Value} {env : Env} (I : Nat → Shared → Prop) (NB : Value → Shared → Prop) (hNB : ∀ e s', NB e s' → notedBy (model prog w) A env (fun e s' => R (.error e) s') e s')
    (turn : ∀ n s, I n s → wpAny (model prog w) A (pyNext it) (fun r s₁ => match r with
      | none => R (.ok .next) s₁
      | some v => wpAny (model prog w) A (letOwnedTupleGo target it v) (fun _ s₁' => wpAny (model prog w) A (assign target env v) (fun _ s₂ =>
          wpAny (model prog w) A (forIn ifs true fun c r => if r = true then do let ok ← isTrue c env (eval c env); pure (ForInStep.yield ok) else pure (ForInStep.yield r)) (fun ok s₃ =>
            if ok = true then wpAny (model prog w) A (eval elt env) (fun x s₄ =>
              wpAny (model prog w) A (call (.builtin "list.append") [acc, x]) (fun _ s₅ => ∃ m, m < n ∧ I m s₅) NB s₄) NB s₃
            else ∃ m, m < n ∧ I m s₃) NB s₂) NB s₁') NB s₁) NB s)
    (n : Nat) (h : I n s) :
    codeAny (model prog w) A (.compLoop (.ListComp elt [⟨target, iter, ifs, 0⟩] scope pos) 0 it acc env) R s := by
  refine codeAny_loop rfl I (fun n s hI => ?_) n h
  show wpAny _ A ((compTurn (.ListComp elt [⟨target, iter, ifs, 0⟩] scope pos) 0 it acc env).onRaise (fun x => do noteFrame x env; theTreesLotGoes x)) _ _ s
  refine wpAny_noted ?_
  rw [compTurn_list]
  refine wpAny_bind (wpAny_standAt (wpAny_bind (wpAny_mono (turn n s hI) (fun r s₁ h₁ => ?_) hNB)))
  cases r with
  | none => exact wpAny_pure h₁
  | some v =>
    refine wpAny_bind (wpAny_mono h₁ (fun _ s₁' h₁' => ?_) hNB)
    refine wpAny_bind (wpAny_mono h₁' (fun _ s₂ h₂ => wpAny_bind (wpAny_mono h₂ (fun ok s₃ h₃ => ?_) hNB)) hNB)
    cases ok with
    | false => exact wpAny_pure ⟨rfl, h₃⟩
    | true =>
      exact wpAny_bind (wpAny_bind (wpAny_mono h₃ (fun x s₄ h₄ => wpAny_bind (wpAny_mono h₄ (fun _ s₅ h₅ => wpAny_pure (wpAny_pure ⟨rfl, h₅⟩)) hNB)) hNB))
end
def relabelS (scope outer : Scope) : Scope :=
  { scope with names := scope.names.map fun (n, k) => if (k == .free && outer.kind == .function && outer.names.lookup n == some .cell) then (n, .cell) else (n, k) }
theorem lookup_relabel (c : Str → NameKind → Bool) (x : Str) : ∀ names : List (Str × NameKind), (names.map fun (n, k) => if c n k = true then (n, NameKind.cell) else (n, k)).lookup x = (names.lookup x).map fun k => if c x k = true then NameKind.cell else k
  | [] => rfl
  | (n, k) :: r => by
    have ih := lookup_relabel c x r
    show List.lookup x ((if c n k = true then (n, NameKind.cell) else (n, k)) :: _) = _
    by_cases hx : x = n
    · subst hx
      by_cases hc : c x k = true
      · rw [if_pos hc, List.lookup_cons_self, List.lookup_cons_self]; simp [hc]
      · rw [if_neg hc, List.lookup_cons_self, List.lookup_cons_self]; simp [hc]
    · have hb : (x == n) = false := by simpa using hx
      by_cases hc : c n k = true
      · rw [if_pos hc, List.lookup_cons, List.lookup_cons, hb]; exact ih
      · rw [if_neg hc, List.lookup_cons, List.lookup_cons, hb]; exact ih
theorem relabelS_lookup (scope outer : Scope) (x : Str) : (relabelS scope outer).names.lookup x = (scope.names.lookup x).map fun k => if (k == .free && outer.kind == .function && outer.names.lookup x == some .cell) = true then NameKind.cell else k :=
  lookup_relabel (fun n k => k == .free && outer.kind == .function && outer.names.lookup n == some .cell) x scope.names
theorem relabelS_free {scope outer : Scope} {x : Str} (h : scope.names.lookup x = some .free) : (relabelS scope outer).names.lookup x = some .cell ∨ (relabelS scope outer).names.lookup x = some .free := by
  rw [relabelS_lookup, h]
  show some (if _ then _ else _) = _ ∨ some (if _ then _ else _) = _
  split
  · exact .inl rfl
  · exact .inr rfl
theorem relabelS_back {scope outer : Scope} {x : Str} (h : (relabelS scope outer).names.lookup x = some .cell ∨ (relabelS scope outer).names.lookup x = some .free) : scope.names.lookup x = some .cell ∨ scope.names.lookup x = some .free := by
  rw [relabelS_lookup] at h
  cases e : scope.names.lookup x with
  | none => rw [e] at h; rcases h with h | h <;> cases h
  | some k =>
    rw [e] at h
    cases k with
    | free => exact .inr rfl
    | cell => exact .inl rfl
    | _ => rcases h with h | h <;> cases h
def clFrom (env : Env) : List (Str × NameKind) → List (Str × Addr) → List (Str × Addr)
  | [], acc => acc
  | (n, k) :: r, acc => if (k == .free) = true then clFrom env r ((n, (env.cells.lookup n).getD 0) :: acc) else clFrom env r acc
theorem closure_eq {scope : Scope} {env : Env} (h : ∀ y ∈ scope.names, y.2 = .free → (env.cells.lookup y.1).isSome = true) : closureFor scope env = pure (clFrom env scope.names []) := by
  have go : ∀ (names : List (Str × NameKind)) (acc : List (Str × Addr)), (∀ y ∈ names, y.2 = .free → (env.cells.lookup y.1).isSome = true) →
      (forIn names acc fun x r => if (x.2 == NameKind.free) = true then (cellOf env x.1 >>= fun a => pure (ForInStep.yield ((x.1, a) :: r))) else pure (ForInStep.yield r) : Sem (List (Str × Addr))) = pure (clFrom env names acc) := by
    intro names
    induction names with
    | nil => intro acc _; rfl
    | cons y r ih =>
      intro acc hy
      obtain ⟨n, k⟩ := y
      rw [List.forIn_cons]
      unfold clFrom
      by_cases hk : (k == NameKind.free) = true
      · obtain ⟨c, hc⟩ := Option.isSome_iff_exists.mp (hy (n, k) List.mem_cons_self (beq_iff_eq.mp hk))
        have e : cellOf env n = pure c := by unfold cellOf; rw [show env.cells.lookup n = some c from hc]
        simp only [hk, if_true, e]
        rw [show (env.cells.lookup n).getD 0 = c from by rw [show env.cells.lookup n = some c from hc]; rfl]
        exact ih _ fun y hm => hy y (List.mem_cons_of_mem _ hm)
      · simp only [hk]
        exact ih _ fun y hm => hy y (List.mem_cons_of_mem _ hm)
  have e := go scope.names [] h
  unfold closureFor
  exact congrArg (fun m => m >>= fun s => (pure s : Sem (List (Str × Addr)))) e
theorem clFrom_mem {env : Env} {p : Str × Addr} : ∀ {names : List (Str × NameKind)} {acc : List (Str × Addr)}, p ∈ clFrom env names acc → p ∈ acc ∨ p.2 = (env.cells.lookup p.1).getD 0 ∧ ∃ y ∈ names, y.1 = p.1 ∧ y.2 = .free
  | [], _, h => .inl h
  | (n, k) :: r, acc, h => by
    unfold clFrom at h
    split at h
    · rename_i hk
      rcases clFrom_mem h with h | ⟨h, y, hy, e⟩
      · rcases List.mem_cons.mp h with h | h
        · subst h; exact .inr ⟨rfl, (n, k), List.mem_cons_self, rfl, beq_iff_eq.mp hk⟩
        · exact .inl h
      · exact .inr ⟨h, y, List.mem_cons_of_mem _ hy, e⟩
    · rcases clFrom_mem h with h | ⟨h, y, hy, e⟩
      · exact .inl h
      · exact .inr ⟨h, y, List.mem_cons_of_mem _ hy, e⟩
theorem clFrom_has {env : Env} {x : Str} : ∀ {names : List (Str × NameKind)} {acc : List (Str × Addr)}, (acc.lookup x).isSome = true ∨ (∃ y ∈ names, y.1 = x ∧ y.2 = .free) → ((clFrom env names acc).lookup x).isSome = true
  | [], _, h => h.elim id fun ⟨_, hy, _⟩ => nomatch hy
  | (n, k) :: r, acc, h => by
    unfold clFrom
    split
    · rename_i hk
      refine clFrom_has ?_
      rcases h with h | ⟨y, hy, e1, e2⟩
      · refine .inl ?_
        rw [List.lookup_cons]
        split
        · rfl
        · exact h
      · rcases List.mem_cons.mp hy with rfl | hy
        · refine .inl ?_
          have e1 : n = x := e1
          subst e1
          rw [List.lookup_cons_self]; rfl
        · exact .inr ⟨y, hy, e1, e2⟩
    · rename_i hk
      refine clFrom_has ?_
      rcases h with h | ⟨y, hy, e1, e2⟩
      · exact .inl h
      · rcases List.mem_cons.mp hy with rfl | hy
        · have e2 : k = .free := e2
          subst e2
          exact absurd rfl hk
        · exact .inr ⟨y, hy, e1, e2⟩
theorem mem_lookup {α : Type} {l : List (Str × α)} {x : Str} {c : α} (h : l.lookup x = some c) : (x, c) ∈ l := PySem.mem_of_lookup h
theorem cf_mem {p : Str × Addr} : ∀ {names : List (Str × NameKind)} {n : Nat} {acc : List (Str × Addr)}, p ∈ cellsFrom n names acc → p ∈ acc ∨ n ≤ p.2
  | [], _, _, h => .inl h
  | (y, k) :: r, n, acc, h => by
    unfold cellsFrom at h
    split at h
    · rcases cf_mem h with h | h
      · rcases List.mem_cons.mp h with h | h
        · subst h; exact .inr (Nat.le_refl _)
        · exact .inl h
      · exact .inr (Nat.le_of_succ_le h)
    · exact cf_mem h
theorem cf_inj : ∀ {names : List (Str × NameKind)} {n : Nat} {acc : List (Str × Addr)}, (∀ p ∈ acc, p.2 < n) → (∀ p ∈ acc, ∀ q ∈ acc, p.2 = q.2 → p.1 = q.1) → ∀ p ∈ cellsFrom n names acc, ∀ q ∈ cellsFrom n names acc, p.2 = q.2 → p.1 = q.1
  | [], _, _, _, h => h
  | (y, k) :: r, n, acc, hl, hi => by
    unfold cellsFrom
    split
    · refine cf_inj (fun p hp => ?_) fun p hp q hq e => ?_
      · rcases List.mem_cons.mp hp with rfl | hp
        · exact Nat.lt_succ_self _
        · exact Nat.lt_succ_of_lt (hl p hp)
      · rcases List.mem_cons.mp hp with rfl | hp <;> rcases List.mem_cons.mp hq with rfl | hq
        · rfl
        · exact absurd e (Nat.ne_of_gt (hl q hq))
        · exact absurd e (Nat.ne_of_lt (hl p hp))
        · exact hi p hp q hq e
    · exact cf_inj hl hi
theorem cf_cell : ∀ {names : List (Str × NameKind)} {h : Heap} {acc : List (Str × Addr)}, (∀ p ∈ acc, ∃ v, h.IsCell p.2 v) → ∀ p ∈ cellsFrom h.objs.size names acc, ∃ v, (pushCells h names).IsCell p.2 v
  | [], _, _, h => h
  | (y, k) :: r, h, acc, hc => by
    unfold cellsFrom pushCells
    split
    · have := cf_cell (names := r) (h := h.push { cls := .type "cell", data := .cell none }) (acc := (y, h.objs.size) :: acc) fun p hp => by
        rcases List.mem_cons.mp hp with rfl | hp
        · exact ⟨none, _, Heap.get?_push_size _ rfl, rfl⟩
        · obtain ⟨v, q⟩ := hc p hp
          exact ⟨v, q.keeps fun b o e => Heap.get?_push_of_some _ e⟩
      rwa [Heap.size_push] at this
    · exact cf_cell hc
theorem cf_skip {x : Str} : ∀ {names : List (Str × NameKind)} {n : Nat} {acc : List (Str × Addr)}, (∀ y ∈ names, y.1 = x → y.2 = .free) → (cellsFrom n names acc).lookup x = acc.lookup x
  | [], _, _, _ => rfl
  | (y, k) :: r, n, acc, h => by
    unfold cellsFrom
    split
    · rename_i hk
      rw [cf_skip fun z hz => h z (List.mem_cons_of_mem _ hz), List.lookup_cons]
      split
      · rename_i hb
        have hx : x = y := beq_iff_eq.mp hb
        have := h (y, k) List.mem_cons_self hx.symm
        have this : k = .free := this
        subst this
        exact absurd hk (by decide)
      · rfl
    · exact cf_skip fun z hz => h z (List.mem_cons_of_mem _ hz)
def cenvOf (scope : Scope) (cl : List (Str × Addr)) (L : Addr) (env : Env) : Env :=
  { scope := relabelS scope env.scope, locals := L, globals := env.globals, cells := cellsFrom (L + 1) scope.names cl, qual := env.qual, func := none, code := env.code, frame := env.frame, builtins := env.builtins }
theorem newEnvC {M : Model} {A : Around} {E : Value → Shared → Prop} {s : Shared} {scope : Scope} {cl : List (Str × Addr)} {env : Env} {Q : Env → Shared → Prop}
    (h : ∀ c, { c with scope := relabel scope env } = cenvOf scope cl s.heap.objs.size env → c.locals = s.heap.objs.size → Q c { s with heap := pushCells (s.heap.push { cls := .type "dict", data := .dict #[] }) scope.names }) :
    wpAny M A (newFunctionEnv scope env.globals cl [] env.qual none .none (some env)) Q E s := by
  simp only [newFunctionEnv, Option.isSome_some, if_true]
  refine wpAny_bind (wpAny_alloc ?_)
  refine wpAny_bind (wpAny_layCells _ (fun name kind cells => by cases hkc : kind == NameKind.cell <;> simp [hkc]) _ _ _ _ ?_)
  rw [show ({ s with heap := s.heap.push { cls := .type "dict", data := .dict #[] } } : Shared).heap.objs.size = s.heap.objs.size + 1 from Heap.size_push ..]
  refine wpAny_bind (wpAny_pure (wpAny_pure (h _ ?_ rfl)))
  rfl
def capt (js : List (Option Nat)) (σ : St) : St := js.map fun j => j.bind fun j => (σ[j]?).join
structure CompSc (N' : List Str) (js : List (Option Nat)) (scope outer : Scope) (N : List Str) : Prop where
  kind : scope.kind = .function
  uniq : ∀ y ∈ scope.names, scope.names.lookup y.1 = some y.2
  nd : N'.Nodup
  len : js.length = N'.length
  free : ∀ y ∈ scope.names, y.2 = .free → outer.names.lookup y.1 = some .cell ∨ outer.names.lookup y.1 = some .free
  cap : ((N'.zip js).all fun p => match p.2 with
    | none => true
    | some j => decide (N[j]? = some p.1) && decide (scope.names.lookup p.1 = some .free)) = true
theorem CompSc.capOf {N' : List Str} {js : List (Option Nat)} {scope outer : Scope} {N : List Str} (S : CompSc N' js scope outer N) {i j : Nat} {x : Str} (h1 : N'[i]? = some x) (h2 : js[i]? = some (some j)) :
    N[j]? = some x ∧ scope.names.lookup x = some .free ∧ ∀ y ∈ scope.names, y.1 = x → y.2 = .free := by
  have h := List.all_eq_true.mp S.cap (x, some j) (by
    refine List.mem_of_getElem? (i := i) ?_
    rw [List.getElem?_zip_eq_some]
    exact ⟨h1, h2⟩)
  simp only [Bool.and_eq_true, decide_eq_true_eq] at h
  exact ⟨h.1, h.2, fun y hy e => by
    have := S.uniq y hy
    rw [e, h.2] at this
    exact (Option.some.inj this).symm⟩
theorem CompSc.names {N' : List Str} {js : List (Option Nat)} {scope outer : Scope} {N : List Str} (S : CompSc N' js scope outer N) : ∀ y ∈ scope.names, y.2 = .local → scope.names.lookup y.1 = some .local := fun y hy e => by
  rw [S.uniq y hy, e]
def cxC (X : Cx) (N' : List Str) (scope : Scope) (fp : List Addr) (s : Shared) (H : Hp) : Cx :=
  { X with N := N', s₀ := s, H₀ := H, env := cenvOf scope (clFrom X.env scope.names []) s.heap.objs.size X.env, outer := X.stack, ex := fp,
           fn := fun x => match scope.names.lookup x with | some .cell => true | _ => false, pn := [], xe := fun _ _ => False }
theorem inv_comp {X : Cx} {N' : List Str} {js : List (Option Nat)} {scope : Scope} {pins : List (Addr × Obj)} {σ : St} {H : Hp} {s : Shared} {fp : List Addr} (S : CompSc N' js scope X.env.scope X.N) (I : Inv X pins σ H s) (hf : ∀ b ∈ fp, FpOk X pins H b)
    (hlt : ∀ b ∈ fp, b < s.heap.objs.size) :
    Inv (cxC X N' scope fp s H) [] (capt js σ) H { s with heap := pushCells (s.heap.push { cls := .type "dict", data := .dict #[] }) scope.names } := by
  have hk : ∀ b o, s.heap.get? b = some o → (pushCells (s.heap.push { cls := .type "dict", data := .dict #[] }) scope.names).get? b = some o := fun b o e => pushCells_keeps _ _ b o (Heap.get?_push_of_some _ e)
  have sz : (s.heap.push { cls := .type "dict", data := .dict #[] }).objs.size = s.heap.objs.size + 1 := Heap.size_push ..
  -- captured cells stand in the outer frame
  have out : ∀ x, (∃ y ∈ scope.names, y.1 = x ∧ y.2 = .free) → ∃ c, X.env.cells.lookup x = some c := fun x ⟨y, hy, e1, e2⟩ => by
    subst e1
    exact I.ok.has y.1 (S.free y hy e2)
  have clm : ∀ p ∈ clFrom X.env scope.names [], X.env.cells.lookup p.1 = some p.2 := fun p hp => by
    rcases clFrom_mem hp with h | ⟨h, hy⟩
    · cases h
    · obtain ⟨c, hc⟩ := out p.1 hy
      rw [hc] at h ⊢
      rw [h]; rfl
  have cllt : ∀ p ∈ clFrom X.env scope.names [], p.2 < s.heap.objs.size := fun p hp => by
    obtain ⟨v, q⟩ := I.cell p.1 p.2 (clm p hp)
    exact q.lt
  have cin : ∀ x c, (cellsFrom (s.heap.objs.size + 1) scope.names (clFrom X.env scope.names [])).lookup x = some c → X.env.cells.lookup x = some c ∨ s.heap.objs.size + 1 ≤ c := fun x c e => by
    rcases cf_mem (mem_lookup e) with h | h
    · exact .inl (clm _ h)
    · exact .inr h
  have capL : ∀ x, scope.names.lookup x = some .free → (∀ y ∈ scope.names, y.1 = x → y.2 = .free) → (cellsFrom (s.heap.objs.size + 1) scope.names (clFrom X.env scope.names [])).lookup x = X.env.cells.lookup x := fun x hx hy => by
    rw [cf_skip hy]
    have hs := clFrom_has (env := X.env) (x := x) (names := scope.names) (acc := []) (.inr ⟨_, mem_lookup hx, rfl, rfl⟩)
    obtain ⟨c, hc⟩ := Option.isSome_iff_exists.mp hs
    rw [hc, clm _ (mem_lookup hc)]
  refine ⟨⟨I.ok.mod, S.kind, I.ok.glob, I.ok.blt, Nat.le_refl _, fun x y c h1 h2 => ?_, fun x hx => ?_, fun x c hx h => ?_, I.ok.hd, I.ok.frames, .inl rfl, fun b hb => ?_, I.bs, Nat.le_trans I.ok.bsz I.sz, fun b o e hb => ?_, fun b hb hz => ?_, I.stack, I.stkFree⟩,
    rfl, I.bare, Un.kept hk, ?_, fun x c h => ?_, I.hok.fresh (Nat.le_refl _), fun x c h => ?_, fun p hp => absurd (show p ∈ ([] : List (Addr × Obj)) from hp) (by simp), I.hok.kept hk, ?_⟩
  · refine cf_inj (names := scope.names) (n := s.heap.objs.size + 1) (acc := clFrom X.env scope.names []) (fun p hp => Nat.lt_succ_of_lt (cllt p hp)) (fun p hp q hq e => ?_) (x, c) (mem_lookup h1) (y, c) (mem_lookup h2) rfl
    have a := clm p hp
    have b := clm q hq
    rw [← e] at b
    exact I.ok.inj _ _ _ a b
  · have hx' := relabelS_back (show (relabelS scope X.env.scope).names.lookup x = some .cell ∨ _ from hx)
    refine Option.isSome_iff_exists.mp (PySem.W.cellsFrom_some scope.names _ _ ?_)
    rcases hx' with h | h
    · exact .inl h
    · exact .inr (clFrom_has (.inr ⟨_, mem_lookup h, rfl, rfl⟩))
  · rcases cf_mem (mem_lookup h) with hm | hm
    · -- an own cell's name is captured too: its first entry is the own one
      have hx' : scope.names.lookup x = some .cell := by
        have hx2 : (match scope.names.lookup x with | some .cell => true | _ => false) = true := hx
        split at hx2
        · assumption
        · cases hx2
      rcases clFrom_mem hm with q | ⟨_, y, hy, e1, e2⟩
      · cases q
      · have := S.uniq y hy
        have e1 : y.1 = x := e1
        rw [e1, hx', e2] at this
        cases this
    · exact Nat.le_of_succ_le hm
  · refine ⟨Nat.ne_of_lt (hlt b hb), fun x c h e => ?_⟩
    rcases cin x c h with q | q
    · exact (hf b hb).2.2.2.2.1 x c q e
    · have := hlt b hb
      rw [← e] at this
      exact absurd (Nat.lt_of_lt_of_le this (Nat.le_of_succ_le q)) (Nat.lt_irrefl _)
  · rcases (hf b hb).2.2.2.1 with z | z
    · exact I.ok.noex b o e z
    · exact absurd (Nat.lt_of_lt_of_le (Heap.lt_size (I.ok.bs b o e).1) z) (Nat.lt_irrefl _)
  · rcases List.mem_cons.mp (I.stkSub b hz) with e | e
    · exact (hf b hb).2.1 e
    · exact (hf b hb).2.2.1 e
  · obtain ⟨m, hn, hl⟩ := I.loc
    refine ⟨fun _ => none, (Heap.Ns.new s.heap (.type "dict")).keeps (pushCells_keeps _ _), fun i x v h1 h2 h3 => ?_⟩
    have h2' : ((js[i]?).map fun j => j.bind fun j => (σ[j]?).join) = some (some v) := by
      unfold capt at h2
      rw [List.getElem?_map] at h2
      exact h2
    cases e : js[i]? with
    | none => rw [e] at h2'; cases h2'
    | some o =>
      rw [e] at h2'
      cases o with
      | none => cases h2'
      | some j =>
        have h4 : (σ[j]?).join = some v := Option.some.inj h2'
        have h5 : σ[j]? = some (some v) := by
          cases z : σ[j]? with
          | none => rw [z] at h4; cases h4
          | some o => rw [z] at h4; have h4 : o = some v := h4; rw [h4]
        obtain ⟨hN, hx, hy⟩ := S.capOf h1 e
        have hvis := S.free _ (mem_lookup hx) rfl
        obtain ⟨u, r, lk⟩ := hl j x v hN h5 (.inr hvis)
        refine ⟨u, r, .inr ⟨relabelS_free hx, ?_⟩⟩
        rcases lk with ⟨k, _⟩ | ⟨_, c, hc, z⟩
        · have k : X.env.scope.names.lookup x = some .local := k
          rcases hvis with q | q
          · rw [k] at q; cases q
          · rw [k] at q; cases q
        · exact ⟨c, (capL x hx hy).trans hc, z.keeps hk⟩
  · have := cf_cell (names := scope.names) (h := s.heap.push { cls := .type "dict", data := .dict #[] }) (acc := clFrom X.env scope.names []) (fun p hp => by
      obtain ⟨v, q⟩ := I.cell p.1 p.2 (clm p hp)
      exact ⟨v, q.keeps fun b o e => Heap.get?_push_of_some _ e⟩) (x, c) (by rw [sz]; exact mem_lookup h)
    exact this
  · rcases cin x c h with q | q
    · exact I.freeC x c q
    · exact I.hok.fresh (Nat.le_of_succ_le q)
  · show (js.map _).length = N'.length
    rw [List.length_map]; exact S.len
def eMax (X : Cx) (e : Expr) : TE := fun σ H Q => ∃ t, PE X e t ∧ t σ H Q
theorem pe_max {X : Cx} {e : Expr} : PE X e (eMax X e) := fun pins s σ H Q I ⟨t, ht, h⟩ => ht pins s σ H Q I h
def gMax (X : Cx) (e : Expr) : TG := fun v σ H Q => ∃ t, PG X e t ∧ t v σ H Q
theorem pg_max {X : Cx} {e : Expr} : PG X e (gMax X e) := fun pins s σ H v u Q I r ⟨t, ht, h⟩ => ht pins s σ H v u Q I r h
def PIf (X : Cx) (ifs : List Expr) (tc : TT) : Prop := (ifs = [] ∧ tc = fun _ H Q => Q true H) ∨ ∃ c, ifs = [c] ∧ PT X c tc
theorem pif_nil {X : Cx} : PIf X [] (fun _ H Q => Q true H) := .inl ⟨rfl, rfl⟩
theorem PIf.run {X : Cx} {ifs : List Expr} {tc : TT} (h : PIf X ifs tc) {pins : List (Addr × Obj)} {s : Shared} {σ : St} {H : Hp} {Q : Bool → Hp → Prop} (I : Inv X pins σ H s) (q : tc σ H Q) :
    wpAny (model X.prog X.w) X.A (forIn ifs true fun c r => if r = true then do let ok ← isTrue c X.env (eval c X.env); pure (ForInStep.yield ok) else pure (ForInStep.yield r)) (TP X pins σ Q) X.xe s := by
  rcases h with ⟨rfl, rfl⟩ | ⟨c, rfl, h⟩
  · exact wpAny_tests_nil ⟨H, I, q⟩
  · exact wpAny_tests_one (h pins s σ H Q I q)
def cMax (X : Cx) (ifs : List Expr) : TT := fun σ H Q => ∃ t, PIf X ifs t ∧ t σ H Q
def CompW (X' : Cx) (js : List (Option Nat)) (tg elt : Expr) (ifs : List Expr) (σ : St) (H1 : Hp) (J : It) (p : Addr) (Q : VK) : Prop :=
  ∃ W : Nat → Nat → St → Hp → Prop, (∃ m, W 0 m (capt js σ) (upd H1 p (.lst []))) ∧ ∀ i m τ H', W i m τ H' →
  (J.stop i H' ∧ Q (.ref p) H') ∨ (J.go i H' ∧ ∃ N : St → Hp → Prop, (∀ τ' H'', N τ' H'' → ∃ m', m' < m ∧ W (i + 1) m' τ' H'') ∧ ∀ x H'', J.yld i H' x H'' → gMax X' tg x τ H'' fun τ2 H2 => cMax X' ifs τ2 H2 fun b H3 =>
    if b = true then eMax X' elt τ2 H3 fun y H4 => ∃ ys, H4 p = some (.lst ys) ∧ ys.length < sizeLine ∧ N τ2 (upd H4 p (.lst (ys ++ [y]))) else N τ2 H3)
def tComp (X : Cx) (N' : List Str) (js : List (Option Nat)) (scope : Scope) (tg elt : Expr) (ifs : List Expr) (wi : TI) : TE := fun σ H Q => wi σ H fun J H1 => ∀ p, H1 p = none → ∀ fp s,
  CompW (cxC X N' scope fp s (upd H1 p (.lst []))) js tg elt ifs σ H1 J p Q
section
variable {X : Cx} {N' : List Str} {js : List (Option Nat)} {scope : Scope} {tg iter elt : Expr} {ifs : List Expr} {wi : TI} {pos : Pos}
theorem comp_block {pins : List (Addr × Obj)} {σ : St} {H : Hp} {s : Shared} {R : V → Hp → Prop} {E : Value → Shared → Prop} (hc : X.calm = true) (S : CompSc N' js scope X.env.scope X.N)
    {it : Addr} {fp : List Addr} {tn : Nat → Heap → Prop} {J : It} (I2 : Inv X pins σ H s) (T : Turn X.prog X.w X.K tg J fp it tn) (st : tn 0 s.heap) (hf : ∀ b ∈ fp, FpOk X pins H b)
    (hW : ∀ p, H p = none → ∀ fp s, CompW (cxC X N' scope fp s (upd H p (.lst []))) js tg elt ifs σ H J p R)
    {RR : Value → Addr → Result → Shared → Prop}
    (hRR : ∀ (D C : Addr) (s' : Shared) (H' : Hp), Inv X pins σ H' s' → (∃ m, s'.heap.Ns C m) → H' C = none → C ≠ X.env.locals → X.s₀.heap.objs.size ≤ C → (∀ x c, X.env.cells.lookup x = some c → c ≠ C) → (∀ p ∈ X.pn ++ pins, p.1 ≠ C) → R (.ref D) H' → RR (.ref D) C (.ok .next) s') :
    wpAny (model X.prog X.w) X.A (newList []) (fun acc s₃ => wpAny (model X.prog X.w) X.A (newFunctionEnv scope X.env.globals (clFrom X.env scope.names []) [] X.env.qual none .none (some X.env)) (fun cenv s₄ =>
      codeAny (model X.prog X.w) X.A (.compStart (.ListComp elt [⟨tg, iter, ifs, 0⟩] scope pos) 0 (.ref it) acc { cenv with scope := relabel scope X.env }) (RR acc cenv.locals) s₄) E s₃) E s := by
  refine wpAny_newObj_type ?_
  have hfresh : H s.heap.objs.size = none := I2.hok.fresh (Nat.le_refl _)
  have I3 : Inv X pins σ (upd H s.heap.objs.size (.lst [])) { s with heap := s.heap.push { cls := .type "list", data := .seq ([] : List Value).toArray } } := I2.lnew (t' := s.toks) .nil (Nat.zero_le _)
  generalize hs3 : ({ s with heap := s.heap.push { cls := .type "list", data := .seq ([] : List Value).toArray } } : Shared) = s3 at I3 ⊢
  have hsz3 : s3.heap.objs.size = s.heap.objs.size + 1 := by rw [← hs3]; exact Heap.size_push ..
  have hk3 : ∀ b o, s.heap.get? b = some o → s3.heap.get? b = some o := fun b o e => by rw [← hs3]; exact Heap.get?_push_of_some _ e
  have flt : ∀ b ∈ fp, b < s.heap.objs.size := fun b hb => by
    obtain ⟨o, e, _⟩ := T.obj _ _ st b hb
    exact Heap.lt_size e
  have hf3 : ∀ b ∈ fp, FpOk X pins (upd H s.heap.objs.size (.lst [])) b := fun b hb => ⟨by rw [upd_ne (Nat.ne_of_lt (flt b hb))]; exact (hf b hb).1, (hf b hb).2⟩
  have st3 : tn 0 s3.heap := T.keep _ _ _ st fun b _ o e => hk3 b o e
  refine newEnvC fun cenv ecenv el => ?_
  rw [ecenv, el]
  have I4 := inv_comp (fp := fp) S I3 hf3 fun b hb => by rw [hsz3]; exact Nat.lt_succ_of_lt (flt b hb)
  obtain ⟨W, ⟨m0, w0⟩, turn⟩ := hW _ hfresh fp s3
  generalize hX' : cxC X N' scope fp s3 (upd H s.heap.objs.size (.lst [])) = X' at I4 turn
  generalize hs4 : ({ s3 with heap := pushCells (s3.heap.push { cls := .type "dict", data := .dict #[] }) scope.names } : Shared) = s4 at I4 ⊢
  have eenv : cenvOf scope (clFrom X.env scope.names []) s3.heap.objs.size X.env = X'.env := by rw [← hX']; rfl
  have eprog : X'.prog = X.prog := by rw [← hX']; rfl
  have ew : X'.w = X.w := by rw [← hX']; rfl
  have eK : X'.K = X.K := by rw [← hX']; rfl
  have eA : X'.A = X.A := by rw [← hX']; rfl
  have ecalm : X'.calm = true := by rw [← hX']; exact hc
  have exe : ∀ e s', X'.xe e s' → False := fun e s' h => by rw [← hX'] at h; exact h
  have eex : X'.ex = fp := by rw [← hX']; rfl
  have efs : X'.fs = frs X.stack := by rw [← hX']; rfl
  have epn : X'.pn = [] := by rw [← hX']; rfl
  have es0 : X'.s₀ = s3 := by rw [← hX']; rfl
  have eH0 : X'.H₀ = upd H s.heap.objs.size (.lst []) := by rw [← hX']; rfl
  have eloc : X'.env.locals = s3.heap.objs.size := by rw [← eenv]; rfl
  rw [eenv]
  have st4 : tn 0 s4.heap := T.keep _ _ _ st3 fun b _ o e => by rw [← hs4]; exact pushCells_keeps _ _ b o (Heap.get?_push_of_some _ e)
  -- the iterator's objects, seen from the block
  have fpok : ∀ {H' : Hp}, (∀ b ∈ fp, H' b = none) → ∀ b ∈ fp, FpOk X' [] H' b := fun {H'} hn b hb => by
    obtain ⟨h1, h2⟩ := I4.ok.exf b (by rw [eex]; exact hb)
    exact ⟨hn b hb, h1, fun z => I4.ok.exfs b (by rw [eex]; exact hb) z, .inl (by rw [eex]; exact hb), h2, fun p hp => by rw [epn] at hp; cases hp⟩
  have loop : ∀ s5, s5 = s4 → codeAny (model X.prog X.w) X.A (.compLoop (.ListComp elt [⟨tg, iter, ifs, 0⟩] scope pos) 0 (.ref it) (.ref s.heap.objs.size) X'.env) (RR (.ref s.heap.objs.size) s3.heap.objs.size) s5 := by
    rintro s5 rfl
    refine compLoop_gen (fun n s' => ∃ i τ H', Inv X' [] τ H' s' ∧ tn i s'.heap ∧ (∀ b ∈ fp, H' b = none) ∧ W i n τ H') (fun _ _ => False) (fun _ _ h => h.elim) ?_ m0 ⟨0, _, _, I4, st4, fun b hb => (hf3 b hb).1, w0⟩
    rintro n s6 ⟨i, τ, H6, I6, st6, fr6, w6⟩
    have A1 : ∀ {α : Type} {t : Sem α} {Q : α → Shared → Prop} {s : Shared}, wpAny (model X'.prog X'.w) X'.A t Q X'.xe s → wpAny (model X.prog X.w) X.A t Q (fun _ _ => False) s := fun {α t Q s} h => by
      rw [eprog, ew, eA] at h
      exact wpAny_mono h (fun _ _ q => q) exe
    rcases turn i n τ H6 w6 with ⟨stop, qn⟩ | ⟨go, N, hN, step⟩
    · have h7 := T.done X' eprog ew eK ecalm i [] s6 τ H6 (fun _ _ => False) I6 (fpok fr6) st6 stop
      rw [eA] at h7
      refine thn h7 fun r s7 ⟨hr, I7⟩ => ?_
      subst hr
      -- back to the frame around
      have un := I7.base
      rw [es0, eH0, efs, eex] at un
      have Iout : Inv X pins σ H6 s7 := I3.call' (ch := fp) (by rw [I7.os, es0]) un (by have := I7.hok; rw [eprog, ew] at this; exact this) I7.bare fun b hb => by
        obtain ⟨f0, f1, f2, f3, f4, f5⟩ := hf3 b hb
        exact ⟨f3, f1, f4, f5⟩
      refine hRR _ _ s7 H6 Iout ?_ ?_ ?_ ?_ ?_ ?_ qn
      · obtain ⟨m, hn, _⟩ := I7.loc
        rw [eloc] at hn
        exact ⟨m, hn⟩
      · have := I7.free
        rw [eloc] at this
        exact this
      · exact Nat.ne_of_gt I3.lt
      · exact I3.sz
      · intro x c e z
        obtain ⟨v, q⟩ := I3.cell x c e
        exact absurd q.lt (by rw [z]; exact Nat.lt_irrefl _)
      · intro p hp z
        exact absurd (Heap.lt_size (I3.pin p hp).1) (by rw [z]; exact Nat.lt_irrefl _)
    · have h6 := T.item X' eprog ew eK ecalm i [] s6 τ H6 (fun _ _ => False) I6 (fpok fr6) st6 go
      rw [eA] at h6
      refine thn h6 fun r s7 ⟨u, hr, h7⟩ => ?_
      subst hr
      refine thn h7 fun _ s8 ⟨x, H8, I8, r8, y8, st8, fr8⟩ => ?_
      have I8' := I8.pinned (fpok fr8) (T.obj _ _ st8)
      refine thn (A1 (pg_max _ s8 τ H8 x u _ I8' r8 (step x H8 y8))) fun _ s9 ⟨τ9, H9, I9, q9⟩ => ?_
      obtain ⟨tcc, hif, q9⟩ := q9
      refine thn (A1 (hif.run I9 q9)) fun ok s10 ⟨H10, I10, q10⟩ => ?_
      have again : ∀ {τ' : St} {H' : Hp} {s' : Shared}, Inv X' ([] ++ pinsAt fp s8.heap) τ' H' s' → N τ' H' → ∃ m, m < n ∧ ∃ i τ H', Inv X' [] τ H' s' ∧ tn i s'.heap ∧ (∀ b ∈ fp, H' b = none) ∧ W i m τ H' := fun {τ' H' s'} I' n' => by
        obtain ⟨m', hm, w'⟩ := hN τ' H' n'
        refine ⟨m', hm, i + 1, τ', H', I'.unpinned, T.keep _ _ _ st8 fun b hb o e => (I'.pin (b, o) (List.mem_append_right _ (List.mem_append_right _ (mem_pinsAt hb e)))).1, fun b hb => ?_, w'⟩
        obtain ⟨o, e, d⟩ := T.obj _ _ st8 b hb
        exact (I'.pin (b, o) (List.mem_append_right _ (List.mem_append_right _ (mem_pinsAt hb e)))).2.1
      cases ok with
      | false =>
        rw [if_neg Bool.false_ne_true] at q10 ⊢
        exact again I10 q10
      | true =>
        rw [if_pos rfl] at q10 ⊢
        refine thn (A1 (pe_max _ s10 τ9 H10 _ I10 q10)) fun y s11 ⟨yv, H11, I11, r11, ys, hp11, hz, n11⟩ => ?_
        refine thn (A1 (mt_append _ s11 τ9 H11 (.ref s.heap.objs.size) [yv] (.ref s.heap.objs.size) [y] (fun _ H' => N τ9 H') I11 rfl (.cons r11 .nil) ⟨_, ys, yv, rfl, rfl, hp11, hz, n11⟩)) fun _ s12 ⟨v12, H12, I12, _, n12⟩ => ?_
        exact again I12 n12
  exact codeAny_compStart_list (loop _ rfl) (T.self _ 0 _ _ _ st4 (loop _ rfl))
theorem pe_comp (hc : X.calm = true) (S : CompSc N' js scope X.env.scope X.N) (hi : PI X tg iter wi)
    (hs : ∀ x, foldedSetIterable iter X.env x = pure x := by intro _; rfl) : PE X (.ListComp elt [⟨tg, iter, ifs, 0⟩] scope pos) (tComp X N' js scope tg elt ifs wi) := by
  intro pins s σ H Q I h
  rw [eval_ListComp]
  have hcl : closureFor scope X.env = pure (clFrom X.env scope.names []) := closure_eq fun y hy e => by
    obtain ⟨c, hc⟩ := I.ok.has y.1 (S.free y hy e)
    rw [hc]; rfl
  refine wpAny_comprehension_free (use := none) rfl hs hcl S.kind S.names (thn (hi pins s σ H _ I h) fun v s1 h1 => thn h1 fun itv s2 h2 => ?_)
  obtain ⟨it, fp, tn, J, H2, e, I2, T, st2, f2, hW⟩ := h2
  subst e
  refine comp_block (R := Q) (RR := fun acc C => compPost (model X.prog X.w) X.A X.xe none (EP X pins σ Q) acc C) hc S I2 T st2 f2 hW ?_
  intro D C s' H' I' ⟨m, hn⟩ hC h1 h2 h3 h4 q
  refine ⟨m, hn, fun h' hsb => ⟨.ref D, H', ?_, rfl, q⟩⟩
  exact I'.turned (t' := s'.toks) (fun b o hb e => (hsb.2 b hb).trans e) hC (Ne.symm (Ne.symm h1)) (.inr h2) h3 h4
theorem ps_comp {i : Nat} {x : Str} {px spos : Pos} (hc : X.calm = true) (S : CompSc N' js scope X.env.scope X.N) (hi : PI X tg iter wi)
    (hN : X.N.Nodup) (hx : X.N[i]? = some x) (hl : Loc X.env.scope x)
    (hsw : swapsWith (.ListComp elt [⟨tg, iter, ifs, 0⟩] scope pos) (some (.Name x px)) spos.line X.env = pure true)
    (hf : X.fn x = true ∨ X.env.scope.names.lookup x = some .local := by first | exact .inl rfl | exact .inr rfl | assumption)
    (hs : ∀ x, foldedSetIterable iter X.env x = pure x := by intro _; rfl) : PS X (.Assign [.Name x px] (.ListComp elt [⟨tg, iter, ifs, 0⟩] scope pos) spos) (tAsg (tComp X N' js scope tg elt ifs wi) (gName i)) := by
  intro pins s σ H D I h
  rw [exec_Assign_Name_used _ _ _ _ hsw]
  refine wpAny_bind (wpAny_standAt (wpAny_bind ?_))
  show wpAny _ X.A (do let _ ← comprehension (.ListComp elt [⟨tg, iter, ifs, 0⟩] scope pos) scope X.env _ (newList []) false (eval iter X.env) (some (assign (.Name x px) X.env))) _ _ s
  have hcl : closureFor scope X.env = pure (clFrom X.env scope.names []) := closure_eq fun y hy e => by
    obtain ⟨c, hc⟩ := I.ok.has y.1 (S.free y hy e)
    rw [hc]; rfl
  refine wpAny_bind (wpAny_mono (wpAny_comprehension_free (use := some (assign (.Name x px) X.env)) (Q := fun _ s' => SP X pins D .next s') rfl hs hcl S.kind S.names
    (thn (hi pins s σ H _ I h) fun v s1 h1 => thn h1 fun itv s2 h2 => ?_)) (fun _ s' hq => wpAny_pure (wpAny_pure hq)) fun _ _ e => e)
  obtain ⟨it, fp, tn, J, H2, e, I2, T, st2, f2, hW⟩ := h2
  subst e
  refine comp_block (R := fun v H' => D.nx (σ.set i (some v)) H') (RR := fun acc C => compPost (model X.prog X.w) X.A X.xe (some (assign (.Name x px) X.env)) (fun _ s' => SP X pins D .next s') acc C) hc S I2 T st2 f2 hW ?_
  intro DD C s' H' I' ⟨m, hn⟩ hC h1 h2 h3 h4 q
  show wpAny _ X.A (assign (.Name x px) X.env (.ref DD)) _ _ s'
  refine wpAny_assign_Name (store_ok2 (v := .ref DD) I' hN hx hl rfl (fun s'' I'' ⟨a, hsb, ha⟩ => ?_) hf)
  have hCa : C ≠ a := by
    rcases ha with rfl | ha
    · exact h1
    · exact Ne.symm (h3 x a ha)
  refine ⟨m, hn.sameBut hsb hCa, fun h' hsb' => ⟨_, H', ?_, q⟩⟩
  exact I''.turned (t' := s''.toks) (fun b o hb e => (hsb'.2 b hb).trans e) hC h1 (.inr h2) h3 h4
end
end L2
set_option Elab.async false
set_option linter.all false
set_option maxRecDepth 100000
namespace DL
open PySem PySem.Spec PyProof.Rows L2
inductive D where
  | non | bl (b : Bool) | int (i : Int) | str (x : Str)
  | lst (xs : List D) | tup (xs : List D) | dic (kvs : List (Key × D)) | ins (c : Str) (fs : List (Str × D)) | err (c : Str)
instance : Inhabited D := ⟨.non⟩
abbrev CTab := Str → Option Addr
section
variable (K : PySem.W.Frag) (CT : CTab) (H : Hp)
mutual
def Rep : D → V → Prop
  | .non, v => v = .non
  | .bl b, v => v = .bl b
  | .int i, v => v = .int i
  | .str x, v => v = .str x
  | .lst ds, v => ∃ a vs, v = .ref a ∧ SqL K H a vs ∧ RepL ds vs
  | .tup ds, v => ∃ a vs, v = .ref a ∧ SqT K H a vs ∧ RepL ds vs
  | .dic kds, v => ∃ a kvs, v = .ref a ∧ Rd H a (.dK kvs) ∧ RepK kds kvs
  | .ins c fds, v => ∃ a C dx fs, v = .ref a ∧ CT c = some C ∧ H a = some (.ins C dx fs) ∧ RepF fds fs
  | .err c, v => ∃ a C, v = .ref a ∧ CT c = some C ∧ H a = some (exO a C)
def RepL : List D → List V → Prop
  | [], vs => vs = []
  | d :: ds, vs => ∃ v r, vs = v :: r ∧ Rep d v ∧ RepL ds r
def RepK : List (Key × D) → List (Key × V) → Prop
  | [], kvs => kvs = []
  | (k, d) :: ds, kvs => ∃ v r, kvs = (k, v) :: r ∧ Rep d v ∧ RepK ds r
def RepF : List (Str × D) → List (Str × V) → Prop
  | [], kvs => kvs = []
  | (k, d) :: ds, kvs => ∃ v r, kvs = (k, v) :: r ∧ Rep d v ∧ RepF ds r
end
end
section
variable {K : PySem.W.Frag} {CT : CTab} {H H' : Hp}
theorem Same.sqT {a : Addr} {xs : List V} (e : Same H H') (h : SqT K H a xs) : SqT K H' a xs := by
  rcases h with (h | ⟨o, h⟩) | h
  · exact .inl (.inl (e _ _ h))
  · exact .inl (.inr ⟨o, e _ _ h⟩)
  · exact .inr h
theorem Same.rd {a : Addr} {u : HO} (e : Same H H') (h : Rd H a u) : Rd H' a u := by
  rcases h with h | ⟨o, h⟩
  · exact .inl (e _ _ h)
  · exact .inr ⟨o, e _ _ h⟩
mutual
theorem Rep.mono (e : Same H H') : ∀ (d : D) (v : V), Rep K CT H d v → Rep K CT H' d v
  | .non, _, h => h
  | .bl _, _, h => h
  | .int _, _, h => h
  | .str _, _, h => h
  | .lst ds, _, ⟨a, vs, h1, h2, h3⟩ => ⟨a, vs, h1, e.seq h2, RepL.mono e ds vs h3⟩
  | .tup ds, _, ⟨a, vs, h1, h2, h3⟩ => ⟨a, vs, h1, Same.sqT e h2, RepL.mono e ds vs h3⟩
  | .dic ds, _, ⟨a, vs, h1, h2, h3⟩ => ⟨a, vs, h1, Same.rd e h2, RepK.mono e ds vs h3⟩
  | .ins c ds, _, ⟨a, C, dx, fs, h1, h2, h3, h4⟩ => ⟨a, C, dx, fs, h1, h2, e _ _ h3, RepF.mono e ds fs h4⟩
  | .err c, _, ⟨a, C, h1, h2, h3⟩ => ⟨a, C, h1, h2, e _ _ h3⟩
theorem RepL.mono (e : Same H H') : ∀ (ds : List D) (vs : List V), RepL K CT H ds vs → RepL K CT H' ds vs
  | [], _, h => h
  | d :: ds, _, ⟨v, r, h1, h2, h3⟩ => ⟨v, r, h1, Rep.mono e d v h2, RepL.mono e ds r h3⟩
theorem RepK.mono (e : Same H H') : ∀ (ds : List (Key × D)) (vs : List (Key × V)), RepK K CT H ds vs → RepK K CT H' ds vs
  | [], _, h => h
  | (k, d) :: ds, _, ⟨v, r, h1, h2, h3⟩ => ⟨v, r, h1, Rep.mono e d v h2, RepK.mono e ds r h3⟩
theorem RepF.mono (e : Same H H') : ∀ (ds : List (Str × D)) (vs : List (Str × V)), RepF K CT H ds vs → RepF K CT H' ds vs
  | [], _, h => h
  | (k, d) :: ds, _, ⟨v, r, h1, h2, h3⟩ => ⟨v, r, h1, Rep.mono e d v h2, RepF.mono e ds r h3⟩
end
theorem RepL.length : ∀ {ds : List D} {vs : List V}, RepL K CT H ds vs → ds.length = vs.length
  | [], _, h => by cases h; rfl
  | d :: ds, _, ⟨v, r, h1, h2, h3⟩ => by subst h1; simp [RepL.length h3]
theorem RepL.get : ∀ {ds : List D} {vs : List V} {i : Nat} {d : D}, RepL K CT H ds vs → ds[i]? = some d → ∃ v, vs[i]? = some v ∧ Rep K CT H d v
  | [], _, _, _, _, e => by simp at e
  | d :: ds, _, 0, _, ⟨v, r, h1, h2, h3⟩, e => by subst h1; simp at e; subst e; exact ⟨v, rfl, h2⟩
  | d :: ds, _, i + 1, x, ⟨v, r, h1, h2, h3⟩, e => by
    subst h1
    obtain ⟨u, a, b⟩ := RepL.get (i := i) (d := x) h3 (by simpa using e)
    exact ⟨u, by simpa using a, b⟩
theorem RepL.append : ∀ {ds es : List D} {vs us : List V}, RepL K CT H ds vs → RepL K CT H es us → RepL K CT H (ds ++ es) (vs ++ us)
  | [], _, _, _, h, k => by cases h; exact k
  | d :: ds, _, _, _, ⟨v, r, h1, h2, h3⟩, k => by subst h1; exact ⟨v, _, rfl, h2, RepL.append h3 k⟩
theorem RepL.take : ∀ (n : Nat) {ds : List D} {vs : List V}, RepL K CT H ds vs → RepL K CT H (ds.take n) (vs.take n)
  | 0, _, _, _ => by simp [RepL]
  | n + 1, [], _, h => by cases h; simp [RepL]
  | n + 1, d :: ds, _, ⟨v, r, h1, h2, h3⟩ => by subst h1; exact ⟨v, _, rfl, h2, RepL.take n h3⟩
theorem RepL.drop : ∀ (n : Nat) {ds : List D} {vs : List V}, RepL K CT H ds vs → RepL K CT H (ds.drop n) (vs.drop n)
  | 0, _, _, h => h
  | n + 1, [], _, h => by cases h; simp [RepL]
  | n + 1, d :: ds, _, ⟨v, r, h1, h2, h3⟩ => by subst h1; exact RepL.drop n h3
theorem RepL.set {d : D} {v : V} (q : Rep K CT H d v) : ∀ (i : Nat) {ds : List D} {vs : List V}, RepL K CT H ds vs → RepL K CT H (ds.set i d) (vs.set i v)
  | _, [], _, h => by cases h; simp [RepL]
  | 0, _ :: ds, _, ⟨w, r, h1, h2, h3⟩ => by subst h1; exact ⟨v, r, rfl, q, h3⟩
  | i + 1, e :: ds, _, ⟨w, r, h1, h2, h3⟩ => by subst h1; exact ⟨w, _, rfl, h2, RepL.set q i h3⟩
theorem RepL.rep {ds : List D} {vs : List V} (h : RepL K CT H ds vs) : ∀ k : Nat, RepL K CT H (List.replicate k ds).flatten (List.replicate k vs).flatten
  | 0 => rfl
  | k + 1 => by
    rw [List.replicate_succ, List.replicate_succ, List.flatten_cons, List.flatten_cons]
    exact h.append (h.rep k)
theorem RepL.one {d : D} {v : V} (h : Rep K CT H d v) : RepL K CT H [d] [v] := ⟨v, [], rfl, h, rfl⟩
theorem RepL.map_int : ∀ (ns : List Int), RepL K CT H (ns.map D.int) (ns.map V.int)
  | [] => rfl
  | n :: ns => ⟨_, _, rfl, rfl, RepL.map_int ns⟩
end
inductive Out (α : Type) where
  | ok (a : α) | exc (x : D) | stuck
namespace Out
def bind {α β : Type} : Out α → (α → Out β) → Out β
  | .ok a, f => f a
  | .exc x, _ => .exc x
  | .stuck, _ => .stuck
instance : Monad Out where
  pure := .ok
  bind := bind
def post {α : Type} (o : Out α) (k : α → Prop) (x : D → Prop) : Prop := match o with
  | .ok a => k a
  | .exc e => x e
  | .stuck => False
@[simp] theorem bind_ok {α β : Type} (a : α) (f : α → Out β) : (Out.ok a >>= f) = f a := rfl
@[simp] theorem bind_exc {α β : Type} (x : D) (f : α → Out β) : ((Out.exc x : Out α) >>= f) = .exc x := rfl
@[simp] theorem bind_stuck {α β : Type} (f : α → Out β) : ((Out.stuck : Out α) >>= f) = .stuck := rfl
@[simp] theorem bind_ok' {α β : Type} (a : α) (f : α → Out β) : (Out.ok a).bind f = f a := rfl
@[simp] theorem bind_exc' {α β : Type} (x : D) (f : α → Out β) : (Out.exc x : Out α).bind f = .exc x := rfl
@[simp] theorem bind_stuck' {α β : Type} (f : α → Out β) : (Out.stuck : Out α).bind f = .stuck := rfl
@[simp] theorem pure_eq {α : Type} (a : α) : (pure a : Out α) = .ok a := rfl
theorem post_bind {α β : Type} (o : Out α) (f : α → Out β) (k : β → Prop) (x : D → Prop) : (o >>= f).post k x ↔ o.post (fun a => (f a).post k x) x := by
  cases o <;> exact Iff.rfl
theorem post_mono {α : Type} {o : Out α} {k k' : α → Prop} {x : D → Prop} (h : o.post k x) (hk : ∀ a, k a → k' a) : o.post k' x := by
  cases o with
  | ok a => exact hk a h
  | exc e => exact h
  | stuck => exact h
end Out
end DL
set_option Elab.async false
set_option linter.all false
set_option maxRecDepth 100000
namespace DL
open PySem PySem.Spec PyProof.Rows L2
abbrev St := L2.St
inductive SM where
  | k | o | l | s
abbrev SD := List (Option (SM × D))
structure Dc where
  X : Cx
  CT : CTab
  G0 : Hp
  XD : D → Prop
  /-- what is lent -/
  B : Hp
  /-- what of the entry's objects may be written -/
  M : Addr → Prop
abbrev Dc.K (C : Dc) : PySem.W.Frag := C.X.K
abbrev Dc.R (C : Dc) (G : Hp) (d : D) (v : V) : Prop := Rep C.X.K C.CT G d v
def Own (K : PySem.W.Frag) (CT : CTab) (G H : Hp) (p : Addr) : D → Prop
  | .lst ds => ∃ vs, H p = some (.lst vs) ∧ RepL K CT G ds vs
  | .dic ds => ∃ kvs, H p = some (.dK kvs) ∧ RepK K CT G ds kvs
  | .ins c ds => ∃ A dx fs, CT c = some A ∧ H p = some (.ins A dx fs) ∧ RepF K CT G ds fs
  | _ => False
theorem Own.there {K : PySem.W.Frag} {CT : CTab} {G H : Hp} {p : Addr} : ∀ {d : D}, Own K CT G H p d → ∃ o, H p = some o
  | .lst _, ⟨_, h, _⟩ => ⟨_, h⟩
  | .dic _, ⟨_, h, _⟩ => ⟨_, h⟩
  | .ins _ _, ⟨_, _, _, _, h, _⟩ => ⟨_, h⟩
  | .non, h => h.elim
  | .bl _, h => h.elim
  | .int _, h => h.elim
  | .str _, h => h.elim
  | .tup _, h => h.elim
theorem Own.mono {K : PySem.W.Frag} {CT : CTab} {G G' H H' : Hp} {p : Addr} (g : Same G G') (h : ∀ o, H p = some o → H' p = some o) : ∀ {d : D}, Own K CT G H p d → Own K CT G' H' p d
  | .lst ds, ⟨vs, a, b⟩ => ⟨vs, h _ a, RepL.mono g ds vs b⟩
  | .dic ds, ⟨vs, a, b⟩ => ⟨vs, h _ a, RepK.mono g ds vs b⟩
  | .ins _ ds, ⟨A, dx, fs, e, a, b⟩ => ⟨A, dx, fs, e, h _ a, RepF.mono g ds fs b⟩
  | .non, h => h.elim
  | .bl _, h => h.elim
  | .int _, h => h.elim
  | .str _, h => h.elim
  | .tup _, h => h.elim
theorem Own.rep {K : PySem.W.Frag} {CT : CTab} {G H : Hp} {p : Addr} (g : Same G H) : ∀ {d : D}, Own K CT G H p d → Rep K CT H d (.ref p)
  | .lst ds, ⟨vs, a, b⟩ => ⟨p, vs, rfl, SqL.of a, RepL.mono g ds vs b⟩
  | .dic ds, ⟨vs, a, b⟩ => ⟨p, vs, rfl, Rd.of a, RepK.mono g ds vs b⟩
  | .ins _ ds, ⟨A, dx, fs, e, a, b⟩ => ⟨p, A, dx, fs, rfl, e, a, RepF.mono g ds fs b⟩
  | .non, h => h.elim
  | .bl _, h => h.elim
  | .int _, h => h.elim
  | .str _, h => h.elim
  | .tup _, h => h.elim
structure GH (C : Dc) (G H : Hp) : Prop where
  sub : Same G H
  g0 : Same C.G0 G
  new : ∀ b, C.G0 b = none → G b ≠ none → C.X.H₀ b = none
  fr : ∀ b o, C.X.H₀ b = some o → ¬ C.M b → H b = some o
  dom : ∀ b, H b = none → C.X.H₀ b = none
  bs : Same C.B H
  bh : ∀ b, C.X.H₀ b = none → C.B b = none
structure StR (C : Dc) (G H : Hp) (σ : St) (ς : SD) : Prop extends GH C G H where
  len : σ.length = ς.length
  fz : ∀ (i : Nat) d, ς[i]? = some (some (.k, d)) → ∃ v, σ[i]? = some (some v) ∧ Rep C.X.K C.CT G d v
  ow : ∀ (i : Nat) d, ς[i]? = some (some (.o, d)) → ∃ p, σ[i]? = some (some (.ref p)) ∧ G p = none ∧ C.X.H₀ p = none ∧ Own C.X.K C.CT G H p d
  ln : ∀ (i : Nat) d, ς[i]? = some (some (.l, d)) → ∃ v, σ[i]? = some (some v) ∧ Rep C.X.K C.CT C.B d v
  inj : ∀ (i j : Nat) d e p, i ≠ j → ς[i]? = some (some (.o, d)) → ς[j]? = some (some (.o, e)) → σ[i]? = some (some (.ref p)) → σ[j]? ≠ some (some (.ref p))
  sf : ∀ (i : Nat) d, ς[i]? = some (some (.s, d)) → ∃ p, σ[i]? = some (some (.ref p)) ∧ G p = none ∧ C.X.H₀ p ≠ none ∧ C.M p ∧ C.B p = none ∧ Own C.X.K C.CT G H p d
  su : ∀ (i j : Nat) d e, ς[i]? = some (some (.s, d)) → ς[j]? = some (some (.s, e)) → i = j
section
variable {C : Dc} {G G' H H' : Hp} {σ : St} {ς : SD}
theorem GH.gnone (S : GH C G H) {p : Addr} (h : H p = none) : G p = none := S.sub.free h
theorem GH.h0none (S : GH C G H) {p : Addr} (h : H p = none) : C.X.H₀ p = none := S.dom p h
theorem same_upd {H : Hp} {p : Addr} {o : HO} (h : H p = none) : Same H (upd H p o) := fun b u e => by
  rw [upd_ne (ne_of_none e h)]; exact e
theorem same_upd2 {G H : Hp} {p : Addr} {o : HO} (s : Same G H) : Same (upd G p o) (upd H p o) := fun b u e => by
  by_cases hb : b = p
  · subst hb; rw [upd_same] at e ⊢; exact e
  · rw [upd_ne hb] at e ⊢; exact s b u e
theorem GH.grow (S : GH C G H) (hH : Same H H') (hG : Same G G') (hs : Same G' H') (hn : ∀ b, G b = none → G' b ≠ none → H b = none) : GH C G' H' where
  sub := hs
  g0 := S.g0.trans hG
  new := fun b h0 h1 => by
    cases q : G b with
    | none => exact S.h0none (hn b q h1)
    | some o => exact S.new b h0 (by rw [q]; simp)
  fr := fun b o e m => hH b o (S.fr b o e m)
  dom := fun b e => S.dom b (hH.free e)
  bs := S.bs.trans hH
  bh := S.bh
theorem StR.own_ne (S : StR C G H σ ς) {i : Nat} {d : D} {p : Addr} (h : ς[i]? = some (some (.o, d))) (hp : σ[i]? = some (some (.ref p))) : ∃ o, H p = some o := by
  obtain ⟨q, e, _, _, o⟩ := S.ow i d h
  rw [hp] at e; cases e
  exact o.there
theorem StR.grow (S : StR C G H σ ς) (hH : Same H H') (hG : Same G G') (hs : Same G' H') (hn : ∀ b, G b = none → G' b ≠ none → H b = none) : StR C G' H' σ ς where
  toGH := S.toGH.grow hH hG hs hn
  len := S.len
  fz := fun i d e => let ⟨v, a, b⟩ := S.fz i d e; ⟨v, a, Rep.mono hG d v b⟩
  ow := fun i d e => by
    obtain ⟨p, a, b, c, o⟩ := S.ow i d e
    refine ⟨p, a, ?_, c, o.mono hG fun u q => hH _ _ q⟩
    cases q : G' p with
    | none => rfl
    | some u =>
      obtain ⟨w, hw⟩ := o.there
      have := hn p b (by rw [q]; simp)
      rw [hw] at this; cases this
  ln := S.ln
  inj := S.inj
  sf := fun i d e => by
    obtain ⟨p, a, b, c, m, z, o⟩ := S.sf i d e
    refine ⟨p, a, ?_, c, m, z, o.mono hG fun u q => hH _ _ q⟩
    cases q : G' p with
    | none => rfl
    | some u =>
      obtain ⟨w, hw⟩ := o.there
      have := hn p b (by rw [q]; simp)
      rw [hw] at this; cases this
  su := S.su
theorem StR.alloc (S : StR C G H σ ς) {p : Addr} {o : HO} (h : H p = none) : StR C (upd G p o) (upd H p o) σ ς :=
  S.grow (same_upd h) (same_upd (S.sub.free h)) (same_upd2 S.sub) fun b g n => by
    by_cases hb : b = p
    · subst hb; exact h
    · rw [upd_ne hb, g] at n; exact absurd rfl n
theorem StR.allocO (S : StR C G H σ ς) {p : Addr} {o : HO} (h : H p = none) : StR C G (upd H p o) σ ς :=
  S.grow (same_upd h) (Same.refl G) (S.sub.trans (same_upd h)) fun b g n => absurd g n
end
def KD (C : Dc) (G H : Hp) (σ : St) (ς : SD) (Q : VK) (d : D) : Prop := ∀ v H' G', StR C G' H' σ ς → Same H H' → Same G G' → Rep C.X.K C.CT G' d v → Q v H'
def KB (C : Dc) (G H : Hp) (σ : St) (ς : SD) (Q : VK) (d : D) : Prop := ∀ v H' G', StR C G' H' σ ς → Same H H' → Same G G' → Rep C.X.K C.CT H' d v → Q v H'
def KF (C : Dc) (G H : Hp) (σ : St) (ς : SD) (Q : VK) (d : D) : Prop := ∀ p H' G', StR C G' H' σ ς → Same H H' → Same G G' → H p = none → G' p = none → Own C.X.K C.CT G' H' p d → Q (.ref p) H'
def DE (C : Dc) (e : Expr) (E : SD → Out D) : Prop := ∃ t, PE C.X e t ∧ ∀ G H σ ς Q, StR C G H σ ς → (E ς).post (KD C G H σ ς Q) C.XD → t σ H Q
def DB (C : Dc) (e : Expr) (E : SD → Out D) : Prop := ∃ t, PE C.X e t ∧ ∀ G H σ ς Q, StR C G H σ ς → (E ς).post (KB C G H σ ς Q) C.XD → t σ H Q
def DF (C : Dc) (e : Expr) (E : SD → Out D) : Prop := ∃ t, PE C.X e t ∧ ∀ G H σ ς Q, StR C G H σ ς → (E ς).post (KF C G H σ ς Q) C.XD → t σ H Q
def KT (C : Dc) (G H : Hp) (σ : St) (ς : SD) (Q : Bool → Hp → Prop) (b : Bool) : Prop := ∀ H' G', StR C G' H' σ ς → Same H H' → Same G G' → Q b H'
def DT (C : Dc) (e : Expr) (T : SD → Out Bool) : Prop := ∃ t, PT C.X e t ∧ ∀ G H σ ς Q, StR C G H σ ς → (T ς).post (KT C G H σ ς Q) C.XD → t σ H Q
def DW (C : Dc) (e : Expr) (T : SD → Out Bool) : Prop := ∃ t, PW C.X e t ∧ ∀ G H σ ς Q, StR C G H σ ς → (T ς).post (KT C G H σ ς Q) C.XD → t σ H Q
def DA (C : Dc) (es : List Expr) (A : SD → Out (List D)) : Prop := ∃ t, PA C.X es t ∧ ∀ G H σ ς Q, StR C G H σ ς →
  (A ς).post (fun ds => ∀ vs H' G', StR C G' H' σ ς → Same H H' → Same G G' → RepL C.X.K C.CT G' ds vs → Q vs H') C.XD → t σ H Q
def DAB (C : Dc) (es : List Expr) (A : SD → Out (List D)) : Prop := ∃ t, PA C.X es t ∧ ∀ G H σ ς Q, StR C G H σ ς →
  (A ς).post (fun ds => ∀ vs H' G', StR C G' H' σ ς → Same H H' → Same G G' → RepL C.X.K C.CT H' ds vs → Q vs H') C.XD → t σ H Q
inductive Fl where
  | nx (ς : SD) | rt (fr : Bool) (d : D) | bk (ς : SD) | ct (ς : SD)
def RetR (K : PySem.W.Frag) (CT : CTab) (fr : Bool) (H0 G' H' : Hp) (d : D) (v : V) : Prop :=
  if fr = true then ∃ p, v = .ref p ∧ H0 p = none ∧ G' p = none ∧ Own K CT G' H' p d else Rep K CT G' d v
def FlK (C : Dc) (G : Hp) (W : Ends) : Fl → Prop
  | .nx ς' => ∀ σ' H' G', StR C G' H' σ' ς' → Same G G' → W.nx σ' H'
  | .bk ς' => ∀ σ' H' G', StR C G' H' σ' ς' → Same G G' → W.bk σ' H'
  | .ct ς' => ∀ σ' H' G', StR C G' H' σ' ς' → Same G G' → W.ct σ' H'
  | .rt fr d => ∀ v H' G', GH C G' H' → Same G G' → RetR C.X.K C.CT fr C.X.H₀ G' H' d v → W.rt v H'
def DS (C : Dc) (st : Stmt) (T : SD → Out Fl) : Prop := ∃ t, PS C.X st t ∧ ∀ G H σ ς W, StR C G H σ ς → (T ς).post (FlK C G W) C.XD → t W σ H
def DSs (C : Dc) (st : List Stmt) (T : SD → Out Fl) : Prop := ∃ t, PSs C.X st t ∧ ∀ G H σ ς W, StR C G H σ ς → (T ς).post (FlK C G W) C.XD → t W σ H
section
variable {C : Dc} {e : Expr} {E : SD → Out D}
theorem StR.freeze {G H : Hp} {σ : St} {ς : SD} (S : StR C G H σ ς) {p : Addr} {o : HO} (hp : H p = some o) (hg : G p = none) (h0 : C.X.H₀ p = none) (hn : ∀ (i : Nat) d, ς[i]? = some (some (.o, d)) → σ[i]? ≠ some (some (.ref p))) : StR C (upd G p o) H σ ς where
  sub := fun b u q => by
    by_cases hb : b = p
    · subst hb; rw [upd_same] at q; cases q; exact hp
    · rw [upd_ne hb] at q; exact S.sub b u q
  g0 := S.g0.trans (same_upd hg)
  new := fun b h1 h2 => by
    by_cases hb : b = p
    · subst hb; exact h0
    · rw [upd_ne hb] at h2; exact S.new b h1 h2
  fr := S.fr
  dom := S.dom
  bs := S.bs
  bh := S.bh
  len := S.len
  fz := fun i d q => let ⟨v, a, b⟩ := S.fz i d q; ⟨v, a, Rep.mono (same_upd hg) d v b⟩
  ow := fun i d q => by
    obtain ⟨r, a, b, c, w⟩ := S.ow i d q
    refine ⟨r, a, ?_, c, w.mono (same_upd hg) fun _ z => z⟩
    rw [upd_ne (by rintro rfl; exact hn i d q a)]; exact b
  ln := S.ln
  inj := S.inj
  sf := fun i d q => by
    obtain ⟨r, a, b, c, m, z, w⟩ := S.sf i d q
    refine ⟨r, a, ?_, c, m, z, w.mono (same_upd hg) fun _ z => z⟩
    rw [upd_ne (by rintro rfl; exact c h0)]; exact b
  su := S.su
theorem Own.known {K : PySem.W.Frag} {CT : CTab} {G H : Hp} {p : Addr} {o : HO} (hg : G p = none) (hp : H p = some o) : ∀ {d : D}, Own K CT G H p d → Rep K CT (upd G p o) d (.ref p)
  | .lst ds, ⟨vs, a, b⟩ => by rw [hp] at a; cases a; exact ⟨p, vs, rfl, SqL.of upd_same, RepL.mono (same_upd hg) ds vs b⟩
  | .dic ds, ⟨vs, a, b⟩ => by rw [hp] at a; cases a; exact ⟨p, vs, rfl, Rd.of upd_same, RepK.mono (same_upd hg) ds vs b⟩
  | .ins _ ds, ⟨A, dx, fs, e, a, b⟩ => by rw [hp] at a; cases a; exact ⟨p, A, dx, fs, rfl, e, upd_same, RepF.mono (same_upd hg) ds fs b⟩
  | .non, h => h.elim
  | .bl _, h => h.elim
  | .int _, h => h.elim
  | .str _, h => h.elim
  | .tup _, h => h.elim
theorem StR.new_ne {G H : Hp} {σ : St} {ς : SD} (S : StR C G H σ ς) {p : Addr} (h : H p = none) : ∀ (i : Nat) d, ς[i]? = some (some (.o, d)) → σ[i]? ≠ some (some (.ref p)) := fun i d q z => by
  obtain ⟨o, w⟩ := S.own_ne q z
  rw [h] at w; cases w
theorem KD.ofF {G H : Hp} {σ : St} {ς : SD} {Q : VK} {d : D} (S : StR C G H σ ς) (k : KD C G H σ ς Q d) : KF C G H σ ς Q d := fun p H' G' S' hH hG hp hg ow => by
  obtain ⟨o, ho⟩ := ow.there
  exact k _ _ _ (S'.freeze ho hg (S.h0none hp) (S.new_ne hp)) hH (hG.trans (same_upd hg)) (ow.known hg ho)
theorem DF.de (h : DF C e E) : DE C e E := by
  obtain ⟨t, h1, h2⟩ := h
  refine ⟨t, h1, fun G H σ ς Q S q => h2 G H σ ς Q S (Out.post_mono q fun d k => KD.ofF S k)⟩
theorem DE.db (h : DE C e E) : DB C e E := by
  obtain ⟨t, h1, h2⟩ := h
  refine ⟨t, h1, fun G H σ ς Q S q => h2 G H σ ς Q S (Out.post_mono q fun d k v H' G' S' a b r => k v H' G' S' a b (Rep.mono S'.sub d v r))⟩
theorem DF.db (h : DF C e E) : DB C e E := h.de.db
def D.scal : D → Bool
  | .non => true
  | .bl _ => true
  | .int _ => true
  | .str _ => true
  | _ => false
theorem Rep.scal {K : PySem.W.Frag} {CT : CTab} {G H : Hp} : ∀ {d : D} {v : V}, d.scal = true → Rep K CT H d v → Rep K CT G d v
  | .non, _, _, h => h
  | .bl _, _, _, h => h
  | .int _, _, _, h => h
  | .str _, _, _, h => h
def scalar (o : Out D) : Out D := o >>= fun d => if d.scal = true then .ok d else .stuck
theorem DB.de (h : DB C e E) : DE C e (fun ς => scalar (E ς)) := by
  obtain ⟨t, h1, h2⟩ := h
  refine ⟨t, h1, fun G H σ ς Q S q => h2 G H σ ς Q S ?_⟩
  unfold scalar at q
  rw [Out.post_bind] at q
  refine Out.post_mono q fun d k v H' G' S' a b r => ?_
  by_cases hs : d.scal = true
  · rw [if_pos hs] at k
    exact k v H' G' S' a b (r.scal hs)
  · rw [if_neg hs] at k
    exact k.elim
theorem KD.now {G H : Hp} {σ : St} {ς : SD} {Q : VK} {d : D} {v : V} (k : KD C G H σ ς Q d) (S : StR C G H σ ς) (r : Rep C.X.K C.CT G d v) : Q v H := k v H G S (Same.refl H) (Same.refl G) r
theorem KB.now {G H : Hp} {σ : St} {ς : SD} {Q : VK} {d : D} {v : V} (k : KB C G H σ ς Q d) (S : StR C G H σ ς) (r : Rep C.X.K C.CT H d v) : Q v H := k v H G S (Same.refl H) (Same.refl G) r
theorem KT.now {G H : Hp} {σ : St} {ς : SD} {Q : Bool → Hp → Prop} {b : Bool} (k : KT C G H σ ς Q b) (S : StR C G H σ ς) : Q b H := k H G S (Same.refl H) (Same.refl G)
theorem KD.later {G H G1 H1 : Hp} {σ : St} {ς : SD} {Q : VK} {d : D} (k : KD C G H σ ς Q d) (hH : Same H H1) (hG : Same G G1) : KD C G1 H1 σ ς Q d := fun v H' G' S a b r => k v H' G' S (hH.trans a) (hG.trans b) r
theorem KB.later {G H G1 H1 : Hp} {σ : St} {ς : SD} {Q : VK} {d : D} (k : KB C G H σ ς Q d) (hH : Same H H1) (hG : Same G G1) : KB C G1 H1 σ ς Q d := fun v H' G' S a b r => k v H' G' S (hH.trans a) (hG.trans b) r
theorem KT.later {G H G1 H1 : Hp} {σ : St} {ς : SD} {Q : Bool → Hp → Prop} {d : Bool} (k : KT C G H σ ς Q d) (hH : Same H H1) (hG : Same G G1) : KT C G1 H1 σ ς Q d := fun H' G' S a b => k H' G' S (hH.trans a) (hG.trans b)
theorem KF.later {G H G1 H1 : Hp} {σ : St} {ς : SD} {Q : VK} {d : D} (k : KF C G H σ ς Q d) (hH : Same H H1) (hG : Same G G1) : KF C G1 H1 σ ς Q d := fun p H' G' S a b hp hg ow => k p H' G' S (hH.trans a) (hG.trans b) (hH.free hp) hg ow
theorem KF.lst {G H : Hp} {σ : St} {ς : SD} {Q : VK} {ds : List D} {vs : List V} (k : KF C G H σ ς Q (.lst ds)) (S : StR C G H σ ς) (r : RepL C.X.K C.CT G ds vs) : ∀ p, H p = none → Q (.ref p) (upd H p (.lst vs)) := fun p hp =>
  k p _ G (S.allocO hp) (same_upd hp) (Same.refl G) hp (S.gnone hp) ⟨vs, upd_same, r⟩
theorem KD.lst {G H : Hp} {σ : St} {ς : SD} {Q : VK} {ds : List D} {vs : List V} (k : KD C G H σ ς Q (.lst ds)) (S : StR C G H σ ς) (r : RepL C.X.K C.CT G ds vs) : ∀ p, H p = none → Q (.ref p) (upd H p (.lst vs)) := fun p hp =>
  k _ _ _ (S.alloc hp) (same_upd hp) (same_upd (S.gnone hp)) ⟨p, vs, rfl, SqL.of upd_same, RepL.mono (same_upd (S.gnone hp)) ds vs r⟩
theorem KD.tup {G H : Hp} {σ : St} {ς : SD} {Q : VK} {ds : List D} {vs : List V} (k : KD C G H σ ς Q (.tup ds)) (S : StR C G H σ ς) (r : RepL C.X.K C.CT G ds vs) : ∀ p, H p = none → Q (.ref p) (upd H p (.tup vs)) := fun p hp =>
  k _ _ _ (S.alloc hp) (same_upd hp) (same_upd (S.gnone hp)) ⟨p, vs, rfl, SqT.of upd_same, RepL.mono (same_upd (S.gnone hp)) ds vs r⟩
end
end DL
set_option Elab.async false
set_option linter.all false
set_option maxRecDepth 100000
namespace DL
open PySem PySem.Spec PyProof.Rows L2
def eVar (i : Nat) : SD → Out D := fun ς => match ς[i]? with | some (some (.k, d)) => .ok d | _ => .stuck
def eVarB (i : Nat) : SD → Out D := fun ς => match ς[i]? with | some (some (_, d)) => .ok d | _ => .stuck
def eC (d : D) : SD → Out D := fun _ => .ok d
section
variable {C : Dc} {pos : Pos}
theorem post_var {i : Nat} {ς : SD} {k : D → Prop} {x : D → Prop} (h : (eVar i ς).post k x) : ∃ d, ς[i]? = some (some (.k, d)) ∧ k d := by
  unfold eVar at h
  split at h
  · rename_i d e; exact ⟨d, e, h⟩
  · exact h.elim
theorem post_varB {i : Nat} {ς : SD} {k : D → Prop} {x : D → Prop} (h : (eVarB i ς).post k x) : ∃ b d, ς[i]? = some (some (b, d)) ∧ k d := by
  unfold eVarB at h
  split at h
  · rename_i b d e; exact ⟨b, d, e, h⟩
  · exact h.elim
theorem de_var (i : Nat) {x : Str} (hN : C.X.N[i]? = some x := by rfl) (hv : Vis C.X.env.scope x := by first | exact Or.inl rfl | exact Or.inr (Or.inl rfl) | exact Or.inr (Or.inr rfl))
    (hd : (x == ("__debug__" : Str)) = false := by decide) (hcd : (x == ("__classdict__" : Str)) = false := by decide) : DE C (.Name x pos) (eVar i) := by
  refine ⟨_, pe_var (i := i) hN hv hd hcd, fun G H σ ς Q S q => ?_⟩
  obtain ⟨d, e, k⟩ := post_var q
  obtain ⟨v, a, b⟩ := S.fz i d e
  exact ⟨v, a, k.now S b⟩
theorem db_var (i : Nat) {x : Str} (hN : C.X.N[i]? = some x := by rfl) (hv : Vis C.X.env.scope x := by first | exact Or.inl rfl | exact Or.inr (Or.inl rfl) | exact Or.inr (Or.inr rfl))
    (hd : (x == ("__debug__" : Str)) = false := by decide) (hcd : (x == ("__classdict__" : Str)) = false := by decide) : DB C (.Name x pos) (eVarB i) := by
  refine ⟨_, pe_var (i := i) hN hv hd hcd, fun G H σ ς Q S q => ?_⟩
  obtain ⟨b, d, e, k⟩ := post_varB q
  cases b with
  | k =>
    obtain ⟨v, a, b⟩ := S.fz i d e
    exact ⟨v, a, k.now S (Rep.mono S.sub d v b)⟩
  | o =>
    obtain ⟨p, a, b, c, w⟩ := S.ow i d e
    exact ⟨_, a, k.now S (w.rep S.sub)⟩
  | l =>
    obtain ⟨v, a, b⟩ := S.ln i d e
    exact ⟨v, a, k.now S (Rep.mono S.bs d v b)⟩
  | s =>
    obtain ⟨p, a, b, c, m, z, w⟩ := S.sf i d e
    exact ⟨_, a, k.now S (w.rep S.sub)⟩
theorem de_int {i : Int} {j} : DE C (.Constant (.int i) j pos) (eC (.int i)) := ⟨_, pe_int, fun G H σ ς Q S q => KD.now q S rfl⟩
theorem de_bl {b : Bool} {j} : DE C (.Constant (.bool b) j pos) (eC (.bl b)) := ⟨_, pe_bl, fun G H σ ς Q S q => KD.now q S rfl⟩
theorem de_non {j} : DE C (.Constant .none j pos) (eC .non) := ⟨_, pe_non, fun G H σ ς Q S q => KD.now q S rfl⟩
theorem de_str {x : Str} {j} : DE C (.Constant (.str x) j pos) (eC (.str x)) := ⟨_, pe_str, fun G H σ ς Q S q => KD.now q S rfl⟩
def toV : D → V
  | .bl b => .bl b
  | .int i => .int i
  | .str x => .str x
  | _ => .non
theorem toV_rep {K : PySem.W.Frag} {CT : CTab} {H : Hp} : ∀ {d : D}, d.scal = true → Rep K CT H d (toV d)
  | .non, _ => rfl
  | .bl _, _ => rfl
  | .int _, _ => rfl
  | .str _, _ => rfl
theorem de_glob {x : Str} {d : D} {u : Value} (hg : Gl C.X x) (hm : C.X.mg x = some u) (hs : d.scal = true) (r : RelV (toV d) u) (hd : (x == ("__debug__" : Str)) = false := by decide) : DE C (.Name x pos) (eC d) :=
  ⟨_, pe_glob hg hm r hd, fun G H σ ς Q S q => KD.now q S (toV_rep hs)⟩
end
def e1 (f : D → Out D) (a : SD → Out D) : SD → Out D := fun ς => a ς >>= f
def e2 (f : D → D → Out D) (a b : SD → Out D) : SD → Out D := fun ς => a ς >>= fun x => b ς >>= fun y => f x y
def DRS (C : Dc) (r : R2) (f : D → D → Out D) : Prop := ∀ G H σ ς (Q : VK) x y vx vy, StR C G H σ ς → Rep C.X.K C.CT H x vx → Rep C.X.K C.CT H y vy →
  (f x y).post (fun d => d.scal = true ∧ Q (toV d) H) (fun _ => False) → r vx vy H Q
def scal2 (f : D → D → Out D) : Prop := ∀ x y, match f x y with | .ok d => d.scal = true | .exc _ => False | .stuck => True
section
variable {C : Dc} {a b c : Expr} {A B A' : SD → Out D} {pos : Pos}
theorem post_of_scal {o : Out D} {G H : Hp} {σ : St} {ς : SD} {Q : VK} (S : StR C G H σ ς) (hs : match o with | .ok d => d.scal = true | .exc _ => False | .stuck => True) (q : o.post (KD C G H σ ς Q) C.XD) :
    o.post (fun d => d.scal = true ∧ Q (toV d) H) (fun _ => False) := by
  cases o with
  | ok d => exact ⟨hs, KD.now q S (toV_rep hs)⟩
  | exc _ => exact hs
  | stuck => exact q
theorem dop {t : TE} {r : R2} {f : D → D → Out D} {ta tb : TE} (hr : DRS C r f) (hs : scal2 f)
    (h1 : ∀ G H σ ς Q, StR C G H σ ς → (A ς).post (KB C G H σ ς Q) C.XD → ta σ H Q) (h2 : ∀ G H σ ς Q, StR C G H σ ς → (B ς).post (KB C G H σ ς Q) C.XD → tb σ H Q) :
    ∀ G H σ ς Q, StR C G H σ ς → (e2 f A B ς).post (KD C G H σ ς Q) C.XD → tOp r ta tb σ H Q := by
  intro G H σ ς Q S q
  unfold e2 at q
  rw [Out.post_bind] at q
  refine h1 G H σ ς _ S (Out.post_mono q fun x k v1 H1 G1 S1 a1 b1 r1 => ?_)
  rw [Out.post_bind] at k
  refine h2 G1 H1 σ ς _ S1 (Out.post_mono k fun y k2 v2 H2 G2 S2 a2 b2 r2 => ?_)
  refine hr G2 H2 σ ς _ x y v1 v2 S2 (Rep.mono a2 x v1 r1) r2 (post_of_scal S2 (hs x y) ?_)
  exact Out.post_mono k2 fun d kd => KD.later kd (a1.trans a2) (b1.trans b2)
theorem de_op {op : Operator} {r : R2} {f : D → D → Out D} (ho : OpR C.X (binaryOp op) r) (hr : DRS C r f) (hs : scal2 f) (ha : DB C a A) (hb : DB C b B) : DE C (.BinOp a op b pos) (e2 f A B) := by
  obtain ⟨ta, p1, q1⟩ := ha
  obtain ⟨tb, p2, q2⟩ := hb
  exact ⟨_, pe_op ho p1 p2, dop (t := ta) hr hs q1 q2⟩
theorem de_cmp {op : CmpOp} {r : R2} {f : D → D → Out D} (ho : OpR C.X (compareOp op) r) (hr : DRS C r f) (hs : scal2 f) (ha : DB C a A) (hb : DB C b B) (hm : behindInMarks op b = false) : DE C (.Compare a [op] [b] pos) (e2 f A B) := by
  obtain ⟨ta, p1, q1⟩ := ha
  obtain ⟨tb, p2, q2⟩ := hb
  exact ⟨_, pe_cmpR ho p1 p2 hm, dop (t := ta) hr hs q1 q2⟩
def tVal (a : SD → Out D) : SD → Out Bool := fun ς => a ς >>= fun d => match d with | .bl b => .ok b | _ => .stuck
theorem post_tVal {o : Out D} {G H : Hp} {σ : St} {ς : SD} {Q : Bool → Hp → Prop} (q : (o >>= fun d => match d with | .bl b => Out.ok b | _ => .stuck).post (KT C G H σ ς Q) C.XD) :
    o.post (KD C G H σ ς fun x H' => ∃ k, x = .bl k ∧ Q k H') C.XD := by
  rw [Out.post_bind] at q
  refine Out.post_mono q fun d k v H' G' S' a b r => ?_
  cases d with
  | bl c => exact ⟨c, r, k H' G' S' a b⟩
  | _ => exact k.elim
theorem dt_cmp {op : CmpOp} {r : R2} {f : D → D → Out D} (ho : OpR C.X (compareOp op) r) (hr : DRS C r f) (hs : scal2 f) (ha : DB C a A) (hb : DB C b B) (hm : behindInMarks op b = false) : DT C (.Compare a [op] [b] pos) (tVal (e2 f A B)) := by
  obtain ⟨ta, p1, q1⟩ := ha
  obtain ⟨tb, p2, q2⟩ := hb
  exact ⟨_, pt_cmpR ho p1 p2 hm, fun G H σ ς Q S q => dop (t := ta) hr hs q1 q2 G H σ ς _ S (post_tVal q)⟩
theorem dt_val (h : DE C a A) (he : ∀ whole, isTrue a C.X.env whole = (do let v ← whole; standAt a.pos; holding [v] (truthy v)) := by intro _; rfl) : DT C a (tVal A) := by
  obtain ⟨ta, p1, q1⟩ := h
  exact ⟨_, pt_val p1 he, fun G H σ ς Q S q => q1 G H σ ς _ S (post_tVal q)⟩
def eChain (f g : D → D → Out D) (a b c : SD → Out D) : SD → Out D := fun ς => a ς >>= fun x => b ς >>= fun y => f x y >>= fun z => match z with
  | .bl true => c ς >>= fun w => g y w
  | .bl false => .ok (.bl false)
  | _ => .stuck
theorem dchain {r r' : R2} {f g : D → D → Out D} {ta tb tc : TE} (hr : DRS C r f) (hs : scal2 f) (hr' : DRS C r' g) (hs' : scal2 g)
    (h1 : ∀ G H σ ς Q, StR C G H σ ς → (A ς).post (KB C G H σ ς Q) C.XD → ta σ H Q) (h2 : ∀ G H σ ς Q, StR C G H σ ς → (B ς).post (KB C G H σ ς Q) C.XD → tb σ H Q)
    (h3 : ∀ G H σ ς Q, StR C G H σ ς → (A' ς).post (KB C G H σ ς Q) C.XD → tc σ H Q) :
    ∀ G H σ ς Q, StR C G H σ ς → (eChain f g A B A' ς).post (KD C G H σ ς Q) C.XD → tChain r r' ta tb tc σ H Q := by
  intro G H σ ς Q S q
  unfold eChain at q
  rw [Out.post_bind] at q
  refine h1 G H σ ς _ S (Out.post_mono q fun x k v1 H1 G1 S1 a1 b1 r1 => ?_)
  rw [Out.post_bind] at k
  refine h2 G1 H1 σ ς _ S1 (Out.post_mono k fun y k2 v2 H2 G2 S2 a2 b2 r2 => ?_)
  rw [Out.post_bind] at k2
  refine hr G2 H2 σ ς _ x y v1 v2 S2 (Rep.mono a2 x v1 r1) r2 ?_
  have hxy := hs x y
  cases e : f x y with
  | exc _ => rw [e] at hxy; exact hxy
  | stuck => rw [e] at k2; exact k2.elim
  | ok z =>
    rw [e] at k2
    refine ⟨by rw [e] at hxy; exact hxy, ?_⟩
    cases z with
    | bl cc =>
      refine ⟨cc, rfl, ?_⟩
      cases cc with
      | false => exact iteF (KD.now (KD.later (show KD C G H σ ς Q (.bl false) from k2) (a1.trans a2) (b1.trans b2)) S2 rfl)
      | true =>
        refine iteT (h3 G2 H2 σ ς _ S2 ?_)
        have k2' : (A' ς >>= fun w => g y w).post (KD C G H σ ς Q) C.XD := k2
        rw [Out.post_bind] at k2'
        refine Out.post_mono k2' fun w k3 v3 H3 G3 S3 a3 b3 r3 => ?_
        refine hr' G3 H3 σ ς _ y w v2 v3 S3 (Rep.mono a3 y v2 r2) r3 (post_of_scal S3 (hs' y w) ?_)
        exact Out.post_mono k3 fun d kd => KD.later kd ((a1.trans a2).trans a3) ((b1.trans b2).trans b3)
    | _ => exact k2.elim
theorem de_chain {op op' : CmpOp} {r r' : R2} {f g : D → D → Out D} (ho : OpR C.X (compareOp op) r) (hr : DRS C r f) (hs : scal2 f) (ho' : OpR C.X (compareOp op') r') (hr' : DRS C r' g) (hs' : scal2 g)
    (ha : DB C a A) (hb : DB C b B) (hc : DB C c A') (hm : lastMarks [op, op'] [b, c] = false := by with_unfolding_all rfl) : DE C (.Compare a [op, op'] [b, c] pos) (eChain f g A B A') := by
  obtain ⟨ta, p1, q1⟩ := ha
  obtain ⟨tb, p2, q2⟩ := hb
  obtain ⟨tc, p3, q3⟩ := hc
  exact ⟨_, pe_chain ho ho' p1 p2 p3 hm, dchain hr hs hr' hs' q1 q2 q3⟩
theorem dt_chain {op op' : CmpOp} {r r' : R2} {f g : D → D → Out D} (ho : OpR C.X (compareOp op) r) (hr : DRS C r f) (hs : scal2 f) (ho' : OpR C.X (compareOp op') r') (hr' : DRS C r' g) (hs' : scal2 g)
    (ha : DB C a A) (hb : DB C b B) (hc : DB C c A') (hm : lastMarks [op, op'] [b, c] = false := by with_unfolding_all rfl) : DT C (.Compare a [op, op'] [b, c] pos) (tVal (eChain f g A B A')) := by
  obtain ⟨ta, p1, q1⟩ := ha
  obtain ⟨tb, p2, q2⟩ := hb
  obtain ⟨tc, p3, q3⟩ := hc
  exact ⟨_, pt_chain ho ho' p1 p2 p3 hm, fun G H σ ς Q S q => dchain hr hs hr' hs' q1 q2 q3 G H σ ς _ S (post_tVal q)⟩
end
section
variable {C : Dc}
def dI (cnd : Int → Int → Bool) (g : Int → Int → D) : D → D → Out D
  | .int i, .int j => if cnd i j = true then .ok (g i j) else .stuck
  | _, _ => .stuck
def dI0 (g : Int → Int → D) : D → D → Out D
  | .int i, .int j => .ok (g i j)
  | _, _ => .stuck
theorem post_ite {α : Type} {c : Prop} [Decidable c] {a b : Out α} {k : α → Prop} {x : D → Prop} (h : (if c then a else b).post k x) : (c ∧ a.post k x) ∨ (¬ c ∧ b.post k x) := by
  by_cases e : c
  · rw [if_pos e] at h; exact .inl ⟨e, h⟩
  · rw [if_neg e] at h; exact .inr ⟨e, h⟩
theorem scal_ite {c : Prop} [Decidable c] {d : D} (h : d.scal = true) : match (if c then Out.ok d else Out.stuck : Out D) with | .ok d => d.scal = true | .exc _ => False | .stuck => True := by
  by_cases e : c
  · rw [if_pos e]; exact h
  · rw [if_neg e]; exact True.intro
theorem scal_dI {cnd : Int → Int → Bool} {g : Int → Int → D} (h : ∀ i j, (g i j).scal = true) : scal2 (dI cnd g) := by
  intro x y
  cases x with
  | int i =>
    cases y with
    | int j => exact scal_ite (h i j)
    | _ => exact True.intro
  | _ => exact True.intro
theorem scal_dI0 {g : Int → Int → D} (h : ∀ i j, (g i j).scal = true) : scal2 (dI0 g) := by
  intro x y
  cases x <;> cases y <;> simp [dI0, h]
theorem drs_dI {cnd : Int → Int → Bool} {P : Int → Int → Prop} {g : Int → Int → D} (hP : ∀ i j, cnd i j = true → P i j) : DRS C (rI P fun i j => toV (g i j)) (dI cnd g) := by
  intro G H σ ς Q x y vx vy S hx hy q
  cases x with
  | int i =>
    cases y with
    | int j =>
      cases hx; cases hy
      refine ⟨i, j, rfl, rfl, ?_⟩
      rcases post_ite (show (if cnd i j = true then Out.ok (g i j) else Out.stuck).post _ _ from q) with ⟨hc, q⟩ | ⟨hc, q⟩
      · exact ⟨hP i j hc, q.2⟩
      · exact q.elim
    | _ => exact q.elim
  | _ => exact q.elim
theorem drs_dI0 {g : Int → Int → D} : DRS C (rI0 fun i j => toV (g i j)) (dI0 g) := by
  intro G H σ ς Q x y vx vy S hx hy q
  cases x with
  | int i =>
    cases y with
    | int j =>
      cases hx; cases hy
      exact ⟨i, j, rfl, rfl, q.2⟩
    | _ => exact q.elim
  | _ => exact q.elim
variable {a b c : Expr} {A B : SD → Out D} {pos : Pos}
def dSub : D → D → Out D := dI0 fun i j => .int (i - j)
def big (i : Int) : Bool := decide (i.natAbs < 2 ^ 9000)
def dMul : D → D → Out D := dI (fun i j => decide (Builtin.Int.intBits i + Builtin.Int.intBits j ≤ 134217728)) fun i j => .int (i * j)
def dFdiv : D → D → Out D := dI (fun i j => decide (j ≠ 0) && big j) fun i j => .int (i.fdiv j)
def dMod : D → D → Out D := dI (fun i j => decide (j ≠ 0)) fun i j => .int (i.fmod j)
def dPow : D → D → Out D := dI (fun i j => decide (0 ≤ j) && decide (j ≤ 1000000) && decide (i.natAbs < 2 ^ 64)) fun i j => .int (i ^ j.toNat)
theorem big_bits {i : Int} (h : big i = true) : i.natAbs.log2 < 9000 := by
  have h' : i.natAbs < 2 ^ 9000 := of_decide_eq_true h
  by_cases z : i.natAbs = 0
  · rw [z]; decide
  · exact (Nat.log2_lt z).mpr h'
theorem op_mulB {X : Cx} : OpR X (binaryOp .Mult) (rI IntMulOk fun i j => .int (i * j)) := opI fun _ _ _ _ _ _ _ hc q => mul_int q hc
def CDivB (i j : Int) : Prop := j ≠ 0 ∧ j.natAbs.log2 < 9000
theorem op_fdivB {X : Cx} : OpR X (binaryOp .FloorDiv) (rI CDivB fun i j => .int (i.fdiv j)) := opI fun _ _ _ _ _ _ _ hc q => floordiv_int hc.1 q (.inl (PyProof.noPylong_of_log2 hc.2))
theorem de_sub (ha : DB C a A) (hb : DB C b B) : DE C (.BinOp a .Sub b pos) (e2 dSub A B) := de_op op_sub drs_dI0 (scal_dI0 fun _ _ => rfl) ha hb
theorem de_mul (ha : DB C a A) (hb : DB C b B) : DE C (.BinOp a .Mult b pos) (e2 dMul A B) := de_op op_mulB (drs_dI fun i j h => IntMulOk.of_le (Nat.le_refl _) (Nat.le_refl _) (of_decide_eq_true h)) (scal_dI fun _ _ => rfl) ha hb
theorem de_fdiv (ha : DB C a A) (hb : DB C b B) : DE C (.BinOp a .FloorDiv b pos) (e2 dFdiv A B) := de_op op_fdivB (drs_dI fun i j h => by
  rw [Bool.and_eq_true] at h
  exact ⟨of_decide_eq_true h.1, big_bits h.2⟩) (scal_dI fun _ _ => rfl) ha hb
theorem de_mod (ha : DB C a A) (hb : DB C b B) : DE C (.BinOp a .Mod b pos) (e2 dMod A B) := de_op op_modN (drs_dI fun i j h => of_decide_eq_true h) (scal_dI fun _ _ => rfl) ha hb
theorem de_pow (ha : DB C a A) (hb : DB C b B) : DE C (.BinOp a .Pow b pos) (e2 dPow A B) := de_op op_pow (drs_dI fun i j h => by
  rw [Bool.and_eq_true, Bool.and_eq_true] at h
  exact ⟨of_decide_eq_true h.1.1, of_decide_eq_true h.1.2, of_decide_eq_true h.2⟩) (scal_dI fun _ _ => rfl) ha hb
def dAdd : D → D → Out D
  | .int i, .int j => .ok (.int (i + j))
  | .str x, .str y => if x.length + y.length ≤ sizeLine then .ok (.str (x ++ y)) else .stuck
  | _, _ => .stuck
theorem de_add (ha : DB C a A) (hb : DB C b B) : DE C (.BinOp a .Add b pos) (e2 dAdd A B) := by
  refine de_op (op_add.or op_add_str) ?_ ?_ ha hb
  · intro G H σ ς Q x y vx vy S hx hy q
    cases x with
    | int i =>
      cases y with
      | int j =>
        cases hx; cases hy
        exact .inl ⟨i, j, rfl, rfl, q.2⟩
      | _ => exact q.elim
    | str i =>
      cases y with
      | str j =>
        cases hx; cases hy
        rcases post_ite (show (if i.length + j.length ≤ sizeLine then Out.ok (D.str (i ++ j)) else Out.stuck).post _ _ from q) with ⟨hc, q⟩ | ⟨hc, q⟩
        · exact .inr ⟨i, j, rfl, rfl, hc, q.2⟩
        · exact q.elim
      | _ => exact q.elim
    | _ => exact q.elim
  · intro x y
    cases x with
    | int i =>
      cases y with
      | int j => exact rfl
      | _ => exact True.intro
    | str i =>
      cases y with
      | str j => exact scal_ite rfl
      | _ => exact True.intro
    | _ => exact True.intro
def dLt : D → D → Out D := dI0 fun i j => .bl (decide (i < j))
def dLe : D → D → Out D := dI0 fun i j => .bl (decide (i ≤ j))
def dGt : D → D → Out D := dI0 fun i j => .bl (decide (j < i))
def dGe : D → D → Out D := dI0 fun i j => .bl (decide (j ≤ i))
end
section
variable {C : Dc} {a b c : Expr} {A B : SD → Out D} {pos : Pos}
def dNeg : D → Out D
  | .int i => .ok (.int (-i))
  | _ => .stuck
theorem de_neg (ha : DB C a A) : DE C (.UnaryOp .USub a pos) (e1 dNeg A) := by
  obtain ⟨ta, p1, q1⟩ := ha
  refine ⟨_, pe_un un_neg p1, fun G H σ ς Q S q => ?_⟩
  unfold e1 at q
  rw [Out.post_bind] at q
  refine q1 G H σ ς _ S (Out.post_mono q fun x k v1 H1 G1 S1 a1 b1 r1 => ?_)
  cases x with
  | int i => cases r1; exact ⟨i, rfl, KD.now (KD.later k a1 b1) S1 rfl⟩
  | _ => exact k.elim
variable {TA TB : SD → Out Bool} {rest : List Expr}
def tAnd' (a b : SD → Out Bool) : SD → Out Bool := fun ς => a ς >>= fun c => if c = true then b ς else .ok false
def tOr' (a b : SD → Out Bool) : SD → Out Bool := fun ς => a ς >>= fun c => if c = true then .ok true else b ς
def tNot' (a : SD → Out Bool) : SD → Out Bool := fun ς => a ς >>= fun c => .ok (!c)
theorem DW.dt {e : Expr} {T : SD → Out Bool} (h : DW C e T) : DT C e T := let ⟨t, p, q⟩ := h; ⟨t, p.pt, q⟩
theorem dw_and1 (ha : DT C a TA) : DW C (.BoolOp .And [a] pos) TA := let ⟨t, p, q⟩ := ha; ⟨t, pw_and1 p, q⟩
theorem dw_or1 (ha : DT C a TA) : DW C (.BoolOp .Or [a] pos) TA := let ⟨t, p, q⟩ := ha; ⟨t, pw_or1 p, q⟩
theorem dw_and (ha : DT C a TA) (hb : DW C (.BoolOp .And (b :: rest) pos) TB) : DW C (.BoolOp .And (a :: b :: rest) pos) (tAnd' TA TB) := by
  obtain ⟨t1, p1, q1⟩ := ha
  obtain ⟨t2, p2, q2⟩ := hb
  refine ⟨_, pw_and p1 p2, fun G H σ ς Q S q => ?_⟩
  unfold tAnd' at q
  rw [Out.post_bind] at q
  refine q1 G H σ ς _ S (Out.post_mono q fun x k H1 G1 S1 a1 b1 => ?_)
  cases x with
  | true => exact iteT (q2 G1 H1 σ ς _ S1 (Out.post_mono (show (TB ς).post _ _ from k) fun x k => KT.later k a1 b1))
  | false => exact iteF (KT.now (KT.later (show KT C G H σ ς Q false from k) a1 b1) S1)
theorem dw_or (ha : DT C a TA) (hb : DW C (.BoolOp .Or (b :: rest) pos) TB) : DW C (.BoolOp .Or (a :: b :: rest) pos) (tOr' TA TB) := by
  obtain ⟨t1, p1, q1⟩ := ha
  obtain ⟨t2, p2, q2⟩ := hb
  refine ⟨_, pw_or p1 p2, fun G H σ ς Q S q => ?_⟩
  unfold tOr' at q
  rw [Out.post_bind] at q
  refine q1 G H σ ς _ S (Out.post_mono q fun x k H1 G1 S1 a1 b1 => ?_)
  cases x with
  | true => exact iteT (KT.now (KT.later (show KT C G H σ ς Q true from k) a1 b1) S1)
  | false => exact iteF (q2 G1 H1 σ ς _ S1 (Out.post_mono (show (TB ς).post _ _ from k) fun x k => KT.later k a1 b1))
theorem dt_not (ha : DT C a TA) : DT C (.UnaryOp .Not a pos) (tNot' TA) := by
  obtain ⟨t1, p1, q1⟩ := ha
  refine ⟨_, pt_not p1, fun G H σ ς Q S q => ?_⟩
  unfold tNot' at q
  rw [Out.post_bind] at q
  exact q1 G H σ ς _ S (Out.post_mono q fun x k H1 G1 S1 a1 b1 => k H1 G1 S1 a1 b1)
def eAnd (a b : SD → Out D) : SD → Out D := fun ς => a ς >>= fun d => match d with | .bl true => b ς | .bl false => .ok (.bl false) | _ => .stuck
def eOr (a b : SD → Out D) : SD → Out D := fun ς => a ς >>= fun d => match d with | .bl true => .ok (.bl true) | .bl false => b ς | _ => .stuck
def eNot (a : SD → Out D) : SD → Out D := fun ς => a ς >>= fun d => match d with | .bl c => .ok (.bl (!c)) | _ => .stuck
theorem de_one {op} (h : DE C a A) : DE C (.BoolOp op [a] pos) A := let ⟨t, p, q⟩ := h; ⟨t, pe_one p, q⟩
theorem de_and (ha : DE C a A) (hb : DE C (.BoolOp .And (b :: rest) pos) B) : DE C (.BoolOp .And (a :: b :: rest) pos) (eAnd A B) := by
  obtain ⟨t1, p1, q1⟩ := ha
  obtain ⟨t2, p2, q2⟩ := hb
  refine ⟨_, pe_and p1 p2, fun G H σ ς Q S q => ?_⟩
  unfold eAnd at q
  rw [Out.post_bind] at q
  refine q1 G H σ ς _ S (Out.post_mono q fun x k v1 H1 G1 S1 a1 b1 r1 => ?_)
  cases x with
  | bl c =>
    refine ⟨c, r1, ?_⟩
    cases c with
    | true => exact iteT (q2 G1 H1 σ ς _ S1 (Out.post_mono (show (B ς).post _ _ from k) fun x k => KD.later k a1 b1))
    | false => exact iteF (KD.now (KD.later (show KD C G H σ ς Q (.bl false) from k) a1 b1) S1 rfl)
  | _ => exact k.elim
theorem de_not (ha : DE C a A) : DE C (.UnaryOp .Not a pos) (eNot A) := by
  obtain ⟨t1, p1, q1⟩ := ha
  refine ⟨_, pe_not p1, fun G H σ ς Q S q => ?_⟩
  unfold eNot at q
  rw [Out.post_bind] at q
  refine q1 G H σ ς _ S (Out.post_mono q fun x k v1 H1 G1 S1 a1 b1 r1 => ?_)
  cases x with
  | bl c => exact ⟨c, r1, KD.now (KD.later (show KD C G H σ ς Q (.bl (!c)) from k) a1 b1) S1 rfl⟩
  | _ => exact k.elim
def eIf (t : SD → Out Bool) (a b : SD → Out D) : SD → Out D := fun ς => t ς >>= fun c => if c = true then a ς else b ς
theorem de_if {t : Expr} (ht : DT C t TA) (ha : DE C a A) (hb : DE C b B) : DE C (.IfExp t a b pos) (eIf TA A B) := by
  obtain ⟨t0, p0, q0⟩ := ht
  obtain ⟨t1, p1, q1⟩ := ha
  obtain ⟨t2, p2, q2⟩ := hb
  refine ⟨_, pe_ifExp p0 p1 p2, fun G H σ ς Q S q => ?_⟩
  unfold eIf at q
  rw [Out.post_bind] at q
  refine q0 G H σ ς _ S (Out.post_mono q fun x k H1 G1 S1 a1 b1 => ?_)
  cases x with
  | true => exact iteT (q1 G1 H1 σ ς _ S1 (Out.post_mono (show (A ς).post _ _ from k) fun x k => KD.later k a1 b1))
  | false => exact iteF (q2 G1 H1 σ ς _ S1 (Out.post_mono (show (B ς).post _ _ from k) fun x k => KD.later k a1 b1))
end
end DL
set_option Elab.async false
set_option linter.all false
set_option maxRecDepth 100000
namespace DL
open PySem PySem.Spec PyProof.Rows L2
def aNil : SD → Out (List D) := fun _ => .ok []
def aCons (a : SD → Out D) (r : SD → Out (List D)) : SD → Out (List D) := fun ς => a ς >>= fun x => r ς >>= fun xs => .ok (x :: xs)
section
variable {C : Dc} {e : Expr} {es : List Expr} {E : SD → Out D} {A : SD → Out (List D)} {pos : Pos}
theorem da_nil : DA C [] aNil := ⟨_, pa_nil, fun G H σ ς Q S q => q [] H G S (Same.refl H) (Same.refl G) rfl⟩
theorem dab_nil : DAB C [] aNil := ⟨_, pa_nil, fun G H σ ς Q S q => q [] H G S (Same.refl H) (Same.refl G) rfl⟩
theorem da_cons (ha : DE C e E) (hr : DA C es A) (hs : starEach (e :: es) C.X.env = (false, eval e C.X.env) :: starEach es C.X.env := by rfl) : DA C (e :: es) (aCons E A) := by
  obtain ⟨t1, p1, q1⟩ := ha
  obtain ⟨t2, p2, q2⟩ := hr
  refine ⟨_, pa_cons p1 p2 hs, fun G H σ ς Q S q => ?_⟩
  unfold aCons at q
  rw [Out.post_bind] at q
  refine q1 G H σ ς _ S (Out.post_mono q fun x k v1 H1 G1 S1 a1 b1 r1 => ?_)
  rw [Out.post_bind] at k
  refine q2 G1 H1 σ ς _ S1 (Out.post_mono k fun xs k2 vs H2 G2 S2 a2 b2 r2 => ?_)
  exact k2 (v1 :: vs) H2 G2 S2 (a1.trans a2) (b1.trans b2) ⟨v1, vs, rfl, Rep.mono b2 x v1 r1, r2⟩
theorem dab_cons (ha : DB C e E) (hr : DAB C es A) (hs : starEach (e :: es) C.X.env = (false, eval e C.X.env) :: starEach es C.X.env := by rfl) : DAB C (e :: es) (aCons E A) := by
  obtain ⟨t1, p1, q1⟩ := ha
  obtain ⟨t2, p2, q2⟩ := hr
  refine ⟨_, pa_cons p1 p2 hs, fun G H σ ς Q S q => ?_⟩
  unfold aCons at q
  rw [Out.post_bind] at q
  refine q1 G H σ ς _ S (Out.post_mono q fun x k v1 H1 G1 S1 a1 b1 r1 => ?_)
  rw [Out.post_bind] at k
  refine q2 G1 H1 σ ς _ S1 (Out.post_mono k fun xs k2 vs H2 G2 S2 a2 b2 r2 => ?_)
  exact k2 (v1 :: vs) H2 G2 S2 (a1.trans a2) (b1.trans b2) ⟨v1, vs, rfl, Rep.mono a2 x v1 r1, r2⟩
def fits (n : Nat) : Bool := decide (n ≤ sizeLine)
def eTup (a : SD → Out (List D)) : SD → Out D := fun ς => a ς >>= fun xs => if fits xs.length = true then .ok (.tup xs) else .stuck
def eLst (a : SD → Out (List D)) : SD → Out D := fun ς => a ς >>= fun xs => if fits xs.length = true then .ok (.lst xs) else .stuck
theorem de_tup {x1} (h : DA C es A) : DE C (.Tuple es x1 pos) (eTup A) := by
  obtain ⟨t, p, q⟩ := h
  refine ⟨_, pe_tup p, fun G H σ ς Q S k => ?_⟩
  unfold eTup at k
  rw [Out.post_bind] at k
  refine q G H σ ς _ S (Out.post_mono k fun xs k2 vs H1 G1 S1 a1 b1 r1 => ?_)
  rcases post_ite k2 with ⟨hc, k3⟩ | ⟨_, k3⟩
  · exact ⟨by rw [← r1.length]; exact of_decide_eq_true hc, KD.tup (KD.later k3 a1 b1) S1 r1⟩
  · exact k3.elim
theorem df_lst (h : DA C es A) : DF C (.List es pos) (eLst A) := by
  obtain ⟨t, p, q⟩ := h
  refine ⟨_, pe_lst p, fun G H σ ς Q S k => ?_⟩
  unfold eLst at k
  rw [Out.post_bind] at k
  refine q G H σ ς _ S (Out.post_mono k fun xs k2 vs H1 G1 S1 a1 b1 r1 => ?_)
  rcases post_ite k2 with ⟨hc, k3⟩ | ⟨_, k3⟩
  · exact ⟨by rw [← r1.length]; exact of_decide_eq_true hc, KF.lst (KF.later k3 a1 b1) S1 r1⟩
  · exact k3.elim
end
theorem atI_rep {K : PySem.W.Frag} {CT : CTab} {H : Hp} {ds : List D} {vs : List V} {i : Int} {d : D} (r : RepL K CT H ds vs) (h : atI ds i = some d) : ∃ v, atI vs i = some v ∧ Rep K CT H d v := by
  unfold atI at h ⊢
  rw [← r.length]
  cases e : ixN ds.length i with
  | none => rw [e] at h; cases h
  | some j =>
    rw [e] at h
    exact r.get h
def optO {α : Type} : Option α → Out α
  | some a => .ok a
  | none => .stuck
theorem post_opt {α : Type} {o : Option α} {k : α → Prop} {x : D → Prop} (h : (optO o).post k x) : ∃ a, o = some a ∧ k a := by
  cases o with
  | none => exact h.elim
  | some a => exact ⟨a, rfl, h⟩
def dIx : D → D → Out D
  | .lst xs, .int i => optO (atI xs i)
  | .tup xs, .int i => optO (atI xs i)
  | .str x, .int i => if fits x.length = true then optO ((atI x.cps.toList i).map fun c => D.str ⟨#[c]⟩) else .stuck
  | _, _ => .stuck
section
variable {C : Dc} {a b : Expr} {A B : SD → Out D} {pos : Pos}
theorem de_ix (ha : DE C a A) (hb : DB C b B) (hs : PlainIx b := by intro _ _; rfl) : DE C (.Subscript a b pos) (e2 dIx A B) := by
  obtain ⟨ta, p1, q1⟩ := ha
  obtain ⟨tb, p2, q2⟩ := hb
  refine ⟨_, pe_ix ix_seq p1 p2 hs, fun G H σ ς Q S q => ?_⟩
  unfold e2 at q
  rw [Out.post_bind] at q
  refine q1 G H σ ς _ S (Out.post_mono q fun x k v1 H1 G1 S1 a1 b1 r1 => ?_)
  rw [Out.post_bind] at k
  refine q2 G1 H1 σ ς _ S1 (Out.post_mono k fun y k2 v2 H2 G2 S2 a2 b2 r2 => ?_)
  have r1' := Rep.mono b2 x v1 r1
  cases y with
  | int i =>
    cases r2
    cases x with
    | lst xs =>
      obtain ⟨p, vs, rfl, h2, h3⟩ := r1'
      obtain ⟨d, e, kd⟩ := post_opt k2
      obtain ⟨v, e2, r⟩ := atI_rep h3 e
      exact .inl ⟨p, vs, i, v, rfl, rfl, S2.sub.seq h2, e2, KD.now (KD.later kd (a1.trans a2) (b1.trans b2)) S2 r⟩
    | tup xs =>
      obtain ⟨p, vs, rfl, h2, h3⟩ := r1'
      obtain ⟨d, e, kd⟩ := post_opt k2
      obtain ⟨v, e2, r⟩ := atI_rep h3 e
      exact .inr (.inl ⟨p, vs, i, v, rfl, rfl, Same.sqT S2.sub h2, e2, KD.now (KD.later kd (a1.trans a2) (b1.trans b2)) S2 r⟩)
    | str z =>
      cases r1'
      rcases post_ite (show (if fits z.length = true then optO ((atI z.cps.toList i).map fun c => D.str ⟨#[c]⟩) else .stuck).post _ C.XD from k2) with ⟨hc, q⟩ | ⟨_, q⟩
      · obtain ⟨d, e, kd⟩ := post_opt q
        cases e3 : atI z.cps.toList i with
        | none => rw [e3] at e; cases e
        | some c =>
          rw [e3] at e
          cases e
          exact .inr (.inr ⟨z, i, c, rfl, rfl, of_decide_eq_true hc, e3, KD.now (KD.later kd (a1.trans a2) (b1.trans b2)) S2 rfl⟩)
      · exact q.elim
    | _ => exact k2.elim
  | _ => cases x <;> exact k2.elim
end
def cutD {α : Type} (xs : List α) (lo hi : Option Int) : List α := (xs.drop (HT.sIx xs.length 0 lo)).take (HT.sIx xs.length xs.length hi - HT.sIx xs.length 0 lo)
theorem cut_rep {K : PySem.W.Frag} {CT : CTab} {H : Hp} {ds : List D} {vs : List V} (lo hi : Option Int) (r : RepL K CT H ds vs) : RepL K CT H (cutD ds lo hi) (cutV vs lo hi) := by
  unfold cutD cutV
  rw [r.length]
  exact (r.drop _).take _
def oNo : SD → Out (Option Int) := fun _ => .ok none
def oSome (e : SD → Out D) : SD → Out (Option Int) := fun ς => e ς >>= fun d => match d with | .int i => .ok (some i) | _ => .stuck
def DO (C : Dc) (e : Option Expr) (T : SD → Out (Option Int)) : Prop := ∃ t, PO C.X e t ∧ ∀ G H σ ς Q, StR C G H σ ς → (T ς).post (fun o => ∀ H' G', StR C G' H' σ ς → Same H H' → Same G G' → Q o H') C.XD → t σ H Q
section
variable {C : Dc} {a b : Expr} {A B : SD → Out D} {lo hi : Option Expr} {L U : SD → Out (Option Int)} {pos p2 : Pos}
theorem do_none : DO C none oNo := ⟨_, po_none, fun G H σ ς Q S q => q H G S (Same.refl H) (Same.refl G)⟩
theorem do_some (h : DB C a A) : DO C (some a) (oSome A) := by
  obtain ⟨t, p, q⟩ := h
  refine ⟨_, po_some p, fun G H σ ς Q S k => ?_⟩
  unfold oSome at k
  rw [Out.post_bind] at k
  refine q G H σ ς _ S (Out.post_mono k fun x k2 v1 H1 G1 S1 a1 b1 r1 => ?_)
  cases x with
  | int i => cases r1; exact ⟨i, rfl, k2 H1 G1 S1 a1 b1⟩
  | _ => exact k2.elim
def eSl (a : SD → Out D) (l u : SD → Out (Option Int)) : SD → Out D := fun ς => a ς >>= fun x => l ς >>= fun i => u ς >>= fun j => match x with
  | .lst xs => .ok (.lst (cutD xs i j))
  | _ => .stuck
theorem df_sl (ha : DE C a A) (hl : DO C lo L) (hu : DO C hi U) : DF C (.Subscript a (.Slice lo hi none p2) pos) (eSl A L U) := by
  obtain ⟨ta, p1, q1⟩ := ha
  obtain ⟨tl, p3, q3⟩ := hl
  obtain ⟨tu, p4, q4⟩ := hu
  refine ⟨_, pe_slice sl_list p1 p3 p4, fun G H σ ς Q S q => ?_⟩
  unfold eSl at q
  rw [Out.post_bind] at q
  refine q1 G H σ ς _ S (Out.post_mono q fun x k v1 H1 G1 S1 a1 b1 r1 => ?_)
  rw [Out.post_bind] at k
  refine q3 G1 H1 σ ς _ S1 (Out.post_mono k fun i k2 H2 G2 S2 a2 b2 => ?_)
  rw [Out.post_bind] at k2
  refine q4 G2 H2 σ ς _ S2 (Out.post_mono k2 fun j k3 H3 G3 S3 a3 b3 => ?_)
  cases x with
  | lst xs =>
    obtain ⟨p, vs, rfl, h2, h3⟩ := Rep.mono (b2.trans b3) _ v1 r1
    exact ⟨p, vs, rfl, S3.sub.seq h2, KF.lst (KF.later (show KF C G H σ ς Q (.lst (cutD xs i j)) from k3) ((a1.trans a2).trans a3) ((b1.trans b2).trans b3)) S3 (cut_rep i j h3)⟩
  | _ => exact k3.elim
def trk (H : Hp) (v : V) : Prop := ∃ p xs, v = .ref p ∧ H p = some (.lst xs)
end
section
variable {C : Dc} {x : Str} {p pos : Pos} {e : Expr} {es : List Expr} {A : SD → Out (List D)} {id T : String}
def eA (f : List D → Out D) (a : SD → Out (List D)) : SD → Out D := fun ς => a ς >>= f
def DCS (C : Dc) (r : List V → Hp → VK → Prop) (f : List D → Out D) : Prop := ∀ G H σ ς (Q : VK) xs vs, StR C G H σ ς → RepL C.X.K C.CT H xs vs →
  (f xs).post (fun d => d.scal = true ∧ Q (toV d) H) (fun _ => False) → r vs H Q
def scalA (f : List D → Out D) : Prop := ∀ xs, match f xs with | .ok d => d.scal = true | .exc _ => False | .stuck => True
theorem dcall {r : List V → Hp → VK → Prop} {f : List D → Out D} {t : TA} (hr : DCS C r f) (hs : scalA f)
    (h : ∀ G H σ ς Q, StR C G H σ ς → (A ς).post (fun ds => ∀ vs H' G', StR C G' H' σ ς → Same H H' → Same G G' → RepL C.X.K C.CT H' ds vs → Q vs H') C.XD → t σ H Q) :
    ∀ G H σ ς Q, StR C G H σ ς → (eA f A ς).post (KD C G H σ ς Q) C.XD → tCB r t σ H Q := by
  intro G H σ ς Q S q
  unfold eA at q
  rw [Out.post_bind] at q
  refine h G H σ ς _ S (Out.post_mono q fun ds k vs H1 G1 S1 a1 b1 r1 => ?_)
  exact hr G1 H1 σ ς Q ds vs S1 r1 (post_of_scal S1 (hs ds) (Out.post_mono k fun d kd => KD.later kd a1 b1))
theorem de_callB {r : List V → Hp → VK → Prop} {f : List D → Out D} (hc : CallR C.X (.builtin id) r) (hr : DCS C r f) (hs : scalA f) (hg : Gl C.X x) (hm : C.X.mg x = none) (hv : bootBuiltins x = some (.builtin id)) (ha : DAB C (e :: es) A) (hn : x ≠ "__name__" := by decide) (hdb : (x == ("__debug__" : Str)) = false := by decide)
    (he : starEach (e :: es) C.X.env = (false, eval e C.X.env) :: starEach es C.X.env := by rfl) (hpl : (backTo pos (starEach es C.X.env)).any (·.1) = false := by rfl) : DE C (.Call (.Name x p) (e :: es) [] pos) (eA f A) := by
  obtain ⟨t, p1, q1⟩ := ha
  exact ⟨_, pe_callB hc hg hm hv p1 hn hdb he hpl, dcall hr hs q1⟩
def fLen : List D → Out D
  | [.lst xs] => .ok (.int xs.length)
  | [.tup xs] => .ok (.int xs.length)
  | [.str x] => if fits x.length = true then .ok (.int x.length) else .stuck
  | _ => .stuck
theorem dcs_len : DCS C (fun xs H Q => (∃ p ys, xs = [.ref p] ∧ (SqL C.X.K H p ys ∨ SqT C.X.K H p ys) ∧ Q (.int ys.length) H) ∨ ∃ z, xs = [.str z] ∧ z.length ≤ sizeLine ∧ Q (.int z.length) H) fLen := by
  intro G H σ ς Q xs vs S r q
  cases xs with
  | nil => exact q.elim
  | cons x xr =>
    obtain ⟨v, vr, rfl, r1, r2⟩ := r
    cases xr with
    | cons y yr => cases x <;> exact q.elim
    | nil =>
      cases r2
      cases x with
      | lst ys =>
        obtain ⟨p, us, rfl, h2, h3⟩ := r1
        exact .inl ⟨p, us, rfl, .inl h2, by rw [← h3.length]; exact q.2⟩
      | tup ys =>
        obtain ⟨p, us, rfl, h2, h3⟩ := r1
        exact .inl ⟨p, us, rfl, .inr h2, by rw [← h3.length]; exact q.2⟩
      | str z =>
        cases r1
        rcases post_ite (show (if fits z.length = true then Out.ok (D.int z.length) else .stuck).post _ _ from q) with ⟨hc, q⟩ | ⟨_, q⟩
        · exact .inr ⟨z, rfl, of_decide_eq_true hc, q.2⟩
        · exact q.elim
      | _ => exact q.elim
theorem scal_len : scalA fLen := by
  intro xs
  cases xs with
  | nil => exact True.intro
  | cons x xr =>
    cases xr with
    | cons y yr => cases x <;> exact True.intro
    | nil =>
      cases x with
      | lst ys => exact rfl
      | tup ys => exact rfl
      | str z => exact scal_ite rfl
      | _ => exact True.intro
theorem de_len (hg : Gl C.X "len") (hm : C.X.mg "len" = none) (ha : DAB C (e :: es) A)
    (he : starEach (e :: es) C.X.env = (false, eval e C.X.env) :: starEach es C.X.env := by rfl) (hpl : (backTo pos (starEach es C.X.env)).any (·.1) = false := by rfl) : DE C (.Call (.Name "len" p) (e :: es) [] pos) (eA fLen A) :=
  de_callB (call_len_seq.or call_len_str) dcs_len scal_len hg hm PySem.boot_len ha (by decide) (by decide) he hpl
def f1 (g : D → Out D) : List D → Out D
  | [x] => g x
  | _ => .stuck
theorem scal_f1 {g : D → Out D} (h : ∀ x, match g x with | .ok d => d.scal = true | .exc _ => False | .stuck => True) : scalA (f1 g) := by
  intro xs
  match xs with
  | [] => exact True.intro
  | [x] => exact h x
  | _ :: _ :: _ => exact True.intro
def dAbs : D → Out D
  | .int i => .ok (.int (if i < 0 then -i else i))
  | _ => .stuck
theorem dcs_f1 {r : List V → Hp → VK → Prop} {g : D → Out D} (h : ∀ G H σ ς (Q : VK) x v, StR C G H σ ς → Rep C.X.K C.CT H x v → (g x).post (fun d => d.scal = true ∧ Q (toV d) H) (fun _ => False) → r [v] H Q) : DCS C r (f1 g) := by
  intro G H σ ς Q xs vs S r q
  match xs, r with
  | [], _ => exact q.elim
  | [x], ⟨v, vr, e1, r1, r2⟩ => cases r2; subst e1; exact h G H σ ς Q x v S r1 q
  | _ :: _ :: _, _ => exact q.elim
end
mutual
def D.py : D → PyData
  | .non => .none
  | .bl b => .bool b
  | .int i => .int i
  | .str x => .str x
  | .lst xs => .list (D.pys xs)
  | .tup xs => .tuple (D.pys xs)
  | .dic _ => .dict []
  | .ins _ _ => .dict []
  | .err _ => .dict []
def D.pys : List D → List PyData
  | [] => []
  | x :: xs => D.py x :: D.pys xs
end
section
variable {X : Cx} {pins : List (Addr × Obj)} {σ : L2.St} {H : Hp} {s : Shared} {CT : CTab}
mutual
theorem reads_of (I : Inv X pins σ H s) : ∀ (d : D) (v : V) (u : Value), Rep X.K CT H d v → RelV v u → d.py.canLay0 = true → ∃ as, Reads s.heap u d.py as
  | .non, _, _, h, r, _ => by cases h; cases r; exact ⟨_, .none⟩
  | .bl b, _, _, h, r, _ => by cases h; cases r; exact ⟨_, .bool b⟩
  | .int i, _, _, h, r, _ => by cases h; obtain ⟨t, rfl⟩ := r; exact ⟨_, .int i t⟩
  | .str x, _, _, h, r, _ => by cases h; obtain ⟨t, rfl⟩ := r; exact ⟨_, .str x t⟩
  | .lst ds, _, _, ⟨a, vs, h1, h2, h3⟩, r, c => by
    subst h1; cases r
    obtain ⟨its, q, ⟨o, n, ho, hc, _, hd⟩, _⟩ := I.list h2
    obtain ⟨as, ra⟩ := reads_all I ds vs its h3 q (by simpa [D.py, PyData.canLay0] using c)
    exact ⟨_, .list ho hc hd (by simpa using ra)⟩
  | .tup ds, _, _, ⟨a, vs, h1, h2, h3⟩, r, c => by
    subst h1; cases r
    obtain ⟨its, q, ⟨o, ho, hc, n, hd⟩, _⟩ := I.tuple h2
    obtain ⟨as, ra⟩ := reads_all I ds vs its h3 q (by simpa [D.py, PyData.canLay0] using c)
    exact ⟨_, .tuple ho hc hd (by simpa using ra)⟩
  | .dic _, _, _, _, _, c => by simp [D.py, PyData.canLay0] at c
  | .ins _ _, _, _, _, _, c => by simp [D.py, PyData.canLay0] at c
  | .err _, _, _, _, _, c => by simp [D.py, PyData.canLay0] at c
theorem reads_all (I : Inv X pins σ H s) : ∀ (ds : List D) (vs : List V) (us : List Value), RepL X.K CT H ds vs → Vals vs us → PyData.canLayAll0 (D.pys ds) = true → ∃ as, ReadsAll s.heap us (D.pys ds) as
  | [], _, _, h, r, _ => by cases h; cases r; exact ⟨_, .nil⟩
  | d :: ds, _, _, ⟨v, w, h1, h2, h3⟩, r, c => by
    subst h1
    cases r with
    | cons r1 r2 =>
      have c' : d.py.canLay0 = true ∧ PyData.canLayAll0 (D.pys ds) = true := by simpa [D.pys, PyData.canLayAll0] using c
      obtain ⟨as, q1⟩ := reads_of I d v _ h2 r1 c'.1
      obtain ⟨bs, q2⟩ := reads_all I ds w _ h3 r2 c'.2
      exact ⟨_, .cons q1 q2⟩
end
end
def shp (d : D) : Bool := SeqAt.shaped d.py
def dEq (x y : D) : Out D := if (shp x && shp y) = true then .ok (.bl (PyData.eqv x.py y.py)) else .stuck
def dNe (x y : D) : Out D := if (shp x && shp y) = true then .ok (.bl (!PyData.eqv x.py y.py)) else .stuck
section
variable {C : Dc} {a b : Expr} {A B : SD → Out D} {pos : Pos}
def rEqD (C : Dc) (n : Bool) : R2 := fun vx vy H Q => ∃ x y, Rep C.X.K C.CT H x vx ∧ Rep C.X.K C.CT H y vy ∧ shp x = true ∧ shp y = true ∧ Q (.bl (n != PyData.eqv x.py y.py)) H
theorem op_eqD (hu : C.X.A.units + 64 < cLine) : OpR C.X (compareOp .Eq) (rEqD C false) := by
  intro pins s σ H vx vy u w Q I rx ry h
  obtain ⟨x, y, h1, h2, h3, h4, q⟩ := h
  obtain ⟨as, ra⟩ := reads_of I x vx u h1 rx (SeqAt.canLay_of_shaped h3)
  obtain ⟨bs, rb⟩ := reads_of I y vy w h2 ry (SeqAt.canLay_of_shaped h4)
  exact eq_dataH ra rb h3 h4 hu ⟨.bl _, H, I, rfl, by simpa using q⟩
theorem op_neD (hu : C.X.A.units + 64 < cLine) : OpR C.X (compareOp .NotEq) (rEqD C true) := by
  intro pins s σ H vx vy u w Q I rx ry h
  obtain ⟨x, y, h1, h2, h3, h4, q⟩ := h
  obtain ⟨as, ra⟩ := reads_of I x vx u h1 rx (SeqAt.canLay_of_shaped h3)
  obtain ⟨bs, rb⟩ := reads_of I y vy w h2 ry (SeqAt.canLay_of_shaped h4)
  exact ne_dataH ra rb h3 h4 hu ⟨.bl _, H, I, rfl, by simpa using q⟩
theorem drs_eq : DRS C (rEqD C false) dEq := by
  intro G H σ ς Q x y vx vy S hx hy q
  rcases post_ite q with ⟨hc, q⟩ | ⟨_, q⟩
  · rw [Bool.and_eq_true] at hc
    exact ⟨x, y, hx, hy, hc.1, hc.2, by simpa [toV] using q.2⟩
  · exact q.elim
theorem drs_ne : DRS C (rEqD C true) dNe := by
  intro G H σ ς Q x y vx vy S hx hy q
  rcases post_ite q with ⟨hc, q⟩ | ⟨_, q⟩
  · rw [Bool.and_eq_true] at hc
    exact ⟨x, y, hx, hy, hc.1, hc.2, by simpa [toV] using q.2⟩
  · exact q.elim
theorem scal_eq : scal2 dEq := fun x y => scal_ite rfl
theorem scal_ne : scal2 dNe := fun x y => scal_ite rfl
theorem dt_lt (ha : DB C a A) (hb : DB C b B) : DT C (.Compare a [.Lt] [b] pos) (tVal (e2 dLt A B)) := dt_cmp op_lt drs_dI0 (scal_dI0 fun _ _ => rfl) ha hb (nomark _)
theorem dt_gt (ha : DB C a A) (hb : DB C b B) : DT C (.Compare a [.Gt] [b] pos) (tVal (e2 dGt A B)) := dt_cmp op_gt drs_dI0 (scal_dI0 fun _ _ => rfl) ha hb (nomark _)
theorem de_eq (hu : C.X.A.units + 64 < cLine) (ha : DB C a A) (hb : DB C b B) : DE C (.Compare a [.Eq] [b] pos) (e2 dEq A B) := de_cmp (op_eqD hu) drs_eq scal_eq ha hb (nomark _)
theorem dt_eq (hu : C.X.A.units + 64 < cLine) (ha : DB C a A) (hb : DB C b B) : DT C (.Compare a [.Eq] [b] pos) (tVal (e2 dEq A B)) := dt_cmp (op_eqD hu) drs_eq scal_eq ha hb (nomark _)
theorem dt_ne (hu : C.X.A.units + 64 < cLine) (ha : DB C a A) (hb : DB C b B) : DT C (.Compare a [.NotEq] [b] pos) (tVal (e2 dNe A B)) := dt_cmp (op_neD hu) drs_ne scal_ne ha hb (nomark _)
end
end DL
set_option Elab.async false
set_option linter.all false
set_option maxRecDepth 100000
namespace DL
open PySem PySem.Spec PyProof.Rows L2
section
variable {C : Dc} {a b : Expr} {A B : SD → Out D} {pos : Pos}
end
def tyName : D → String
  | .non => "NoneType"
  | .bl _ => "bool"
  | .int _ => "int"
  | .str _ => "str"
  | .lst _ => "list"
  | .tup _ => "tuple"
  | .dic _ => "dict"
  | .ins _ _ => "object"
  | .err _ => "object"
structure ClsD (K : PySem.W.Frag) (A : Addr) : Prop where
  cl : Cls K A
  ha : PySem.W.findIn K (.ref A) "__class__" = some (some (.builtin "object.__class__"))
  hn : PySem.W.specialIn K (.builtin "object.__class__") "__get__" = some (some (.builtin "getset_descriptor.__get__"))
  htk : PySem.W.takesIn K (.builtin "object.__class__") = some true
  hm : PySem.W.mroIn K A (.type "object") = some true
def KitD (K : PySem.W.Frag) (CT : CTab) (d : D) (uc : Value) (b : Bool) : Prop := match d with
  | .ins c _ => ∀ A, CT c = some A → ClsD K A ∧ PySem.W.kitOne K (.ref A) uc = some b
  | .err c => ∀ A, CT c = some A → ExCls K A ∧ PySem.W.kitOne K (.ref A) uc = some b
  | d => PySem.W.kitOne K (.type (tyName d)) uc = some b
section
variable {C : Dc} {e cx : Expr} {E : SD → Out D} {p pos : Pos} {vc : V} {uc : Value}
theorem isi_rep {pins : List (Addr × Obj)} {σ : L2.St} {H : Hp} {s : Shared} {A : Around} {Ex : Value → Shared → Prop} {Q : Value → Shared → Prop} {d : D} {v : V} {u : Value} {b : Bool} (I : Inv C.X pins σ H s) (h : Rep C.X.K C.CT H d v) (r : RelV v u) (k : KitD C.X.K C.CT d uc b)
    (q : ∀ tk, Q (.bool b) { s with toks := tk }) : wpAny (model C.X.prog C.X.w) A (call (.builtin "isinstance") [u, uc]) Q Ex s := by
  cases d with
  | non => cases h; cases r; exact PySem.W.kia_one PySem.W.kitx_none I.kIn True.intro k (fun z => nomatch z) q
  | bl y => cases h; cases r; exact PySem.W.kia_one PySem.W.kitx_bool I.kIn True.intro k (fun z => nomatch z) q
  | int i => cases h; obtain ⟨t, rfl⟩ := r; exact PySem.W.kia_one PySem.W.kitx_int I.kIn True.intro k (fun z => nomatch z) q
  | str i => cases h; obtain ⟨t, rfl⟩ := r; exact PySem.W.kia_one PySem.W.kitx_str I.kIn True.intro k (fun z => nomatch z) q
  | lst ds =>
    obtain ⟨a, vs, rfl, h2, _⟩ := h; cases r
    obtain ⟨its, _, ⟨o, n, ho, hc, _⟩, _⟩ := I.list h2
    exact PySem.W.kia_one PySem.W.kitx_list I.kIn ⟨o, ho, hc⟩ k (fun z => nomatch z) q
  | tup ds =>
    obtain ⟨a, vs, rfl, h2, _⟩ := h; cases r
    obtain ⟨its, _, ⟨o, ho, hc, _⟩, _⟩ := I.tuple h2
    exact PySem.W.kia_one PySem.W.kitx_tuple I.kIn ⟨o, ho, hc⟩ k (fun z => nomatch z) q
  | dic ds =>
    obtain ⟨a, kvs, rfl, h2, _⟩ := h; cases r
    obtain ⟨_, _, vs, _, p⟩ := h2.ok I.hok
    obtain ⟨o, es, ep, h1, h2, _⟩ := p
    exact PySem.W.kia_one PySem.W.kitx_dict I.kIn ⟨o, h1, h2.1⟩ k (fun z => nomatch z) q
  | ins c fs =>
    obtain ⟨a, A', dx, fs', rfl, h1, h2, _⟩ := h; cases r
    obtain ⟨cd, kk⟩ := k A' h1
    obtain ⟨mA, O, _⟩ := ins_get I.hok h2
    obtain ⟨od, J, _⟩ := O.look
    exact PySem.W.kia_one (PySem.W.kitx_own (cd.cl.get _) cd.cl.hd cd.ha cd.hn cd.htk cd.hm) I.kIn J kk (fun z => nomatch z) q
  | err c =>
    obtain ⟨a, A', rfl, h1, h2⟩ := h; cases r
    obtain ⟨cd, kk⟩ := k A' h1
    obtain ⟨J, _⟩ := (show ObjOk C.X.prog C.X.w H s.heap a (exO a A') from I.hok a _ h2)
    exact PySem.W.kia_one (kitx_exc cd) I.kIn J kk (fun z => nomatch z) q
def clsV : V → Option Value
  | .ty n => some (.type n)
  | .ref a => some (.ref a)
  | _ => none
def eIsa (f : D → Out Bool) (a : SD → Out D) : SD → Out D := fun ς => a ς >>= fun d => f d >>= fun b => .ok (.bl b)
theorem de_isa {f : D → Out Bool} (hc : PE C.X cx (tC vc)) (rc : clsV vc = some uc) (hf : ∀ d, match f d with | .ok b => KitD C.X.K C.CT d uc b | .exc _ => False | .stuck => True) (hg : Gl C.X "isinstance") (hm : C.X.mg "isinstance" = none) (h : DB C e E)
    (he : starEach (e :: [cx]) C.X.env = (false, eval e C.X.env) :: starEach [cx] C.X.env := by rfl) (he2 : starEach (cx :: []) C.X.env = (false, eval cx C.X.env) :: starEach [] C.X.env := by rfl)
    (hpl : (backTo pos (starEach [cx] C.X.env)).any (·.1) = false := by rfl) : DE C (.Call (.Name "isinstance" p) [e, cx] [] pos) (eIsa f E) := by
  obtain ⟨t, p1, q1⟩ := h
  have hR : CallR C.X (.builtin "isinstance") (fun xs H Q => ∃ d x b, xs = [x, vc] ∧ Rep C.X.K C.CT H d x ∧ KitD C.X.K C.CT d uc b ∧ Q (.bl b) H) := by
    intro pins s σ H xs us Q I r h
    obtain ⟨d, x, b, rfl, h1, h2, q⟩ := h
    obtain ⟨u, w, rfl, r1, r2⟩ := vals2 r
    have : w = uc := by
      cases vc <;> first
        | (cases rc; cases r2; rfl)
        | cases rc
    subst this
    exact isi_rep I h1 r1 h2 fun tk => ⟨.bl b, H, I.tok _, rfl, q⟩
  refine ⟨_, pe_callB hR hg hm PyProof.Rows.Boot.«isinstance» (pa_cons p1 (pa_cons hc pa_nil he2) he) (by decide) (by decide) he hpl, fun G H σ ς Q S q => ?_⟩
  unfold eIsa at q
  rw [Out.post_bind] at q
  refine q1 G H σ ς _ S (Out.post_mono q fun d k v1 H1 G1 S1 a1 b1 r1 => ?_)
  rw [Out.post_bind] at k
  have hd := hf d
  cases e : f d with
  | exc _ => rw [e] at hd; exact hd.elim
  | stuck => rw [e] at k; exact k.elim
  | ok b =>
    rw [e] at k hd
    exact ⟨d, v1, b, rfl, r1, hd, KD.now (KD.later (show KD C G H σ ς Q (.bl b) from k) a1 b1) S1 rfl⟩
end
end DL
set_option Elab.async false
set_option linter.all false
set_option maxRecDepth 100000
namespace DL
open PySem PySem.Spec PyProof.Rows L2
section
variable {C : Dc} {G H : Hp} {σ : St} {ς : SD}
theorem get_set {α : Type} {xs : List α} {i j : Nat} {x y : α} (h : (xs.set i x)[j]? = some y) : (i = j ∧ y = x ∧ i < xs.length) ∨ (i ≠ j ∧ xs[j]? = some y) := by
  rw [List.getElem?_set] at h
  by_cases e : i = j
  · rw [if_pos e] at h
    by_cases l : i < xs.length
    · rw [if_pos l] at h; exact .inl ⟨e, (Option.some.inj h).symm, l⟩
    · rw [if_neg l] at h; cases h
  · rw [if_neg e] at h; exact .inr ⟨e, h⟩
theorem set_get {α : Type} {xs : List α} {i : Nat} {x : α} (h : i < xs.length) : (xs.set i x)[i]? = some x := by
  rw [List.getElem?_set, if_pos rfl, if_pos h]
theorem set_get_ne {α : Type} {xs : List α} {i j : Nat} {x : α} (h : i ≠ j) : (xs.set i x)[j]? = xs[j]? := by
  rw [List.getElem?_set, if_neg h]
theorem StR.set (S : StR C G H σ ς) {d : D} {v : V} (i : Nat) (r : Rep C.X.K C.CT G d v) : StR C G H (σ.set i (some v)) (ς.set i (some (.k, d))) where
  toGH := S.toGH
  len := by rw [List.length_set, List.length_set]; exact S.len
  fz := fun j e h => by
    rcases get_set h with ⟨rfl, h2, l⟩ | ⟨ne, h2⟩
    · cases h2
      exact ⟨v, set_get (by rw [S.len]; exact l), r⟩
    · rw [set_get_ne ne]; exact S.fz j e h2
  ow := fun j e h => by
    rcases get_set h with ⟨rfl, h2, l⟩ | ⟨ne, h2⟩
    · cases h2
    · rw [set_get_ne ne]; exact S.ow j e h2
  ln := fun j e h => by
    rcases get_set h with ⟨rfl, h2, l⟩ | ⟨ne, h2⟩
    · cases h2
    · rw [set_get_ne ne]; exact S.ln j e h2
  inj := fun j k d1 d2 p hjk h1 h2 h3 => by
    rcases get_set h1 with ⟨rfl, q1, l⟩ | ⟨n1, q1⟩
    · cases q1
    · rcases get_set h2 with ⟨rfl, q2, l⟩ | ⟨n2, q2⟩
      · cases q2
      · rw [set_get_ne n1] at h3
        rw [set_get_ne n2]; exact S.inj j k d1 d2 p hjk q1 q2 h3
  sf := fun j e h => by
    rcases get_set h with ⟨rfl, h2, l⟩ | ⟨ne, h2⟩
    · cases h2
    · rw [set_get_ne ne]; exact S.sf j e h2
  su := fun j k d1 d2 h1 h2 => by
    rcases get_set h1 with ⟨rfl, q1, l⟩ | ⟨n1, q1⟩
    · cases q1
    · rcases get_set h2 with ⟨rfl, q2, l⟩ | ⟨n2, q2⟩
      · cases q2
      · exact S.su j k d1 d2 q1 q2
theorem StR.setO (S : StR C G H σ ς) {d : D} {p : Addr} (i : Nat) (hg : G p = none) (h0 : C.X.H₀ p = none) (ow : Own C.X.K C.CT G H p d) (hn : ∀ (j : Nat) e, j ≠ i → ς[j]? = some (some (.o, e)) → σ[j]? ≠ some (some (.ref p))) :
    StR C G H (σ.set i (some (.ref p))) (ς.set i (some (.o, d))) where
  toGH := S.toGH
  len := by rw [List.length_set, List.length_set]; exact S.len
  fz := fun j e h => by
    rcases get_set h with ⟨rfl, h2, l⟩ | ⟨ne, h2⟩
    · cases h2
    · rw [set_get_ne ne]; exact S.fz j e h2
  ow := fun j e h => by
    rcases get_set h with ⟨rfl, h2, l⟩ | ⟨ne, h2⟩
    · cases h2
      exact ⟨p, set_get (by rw [S.len]; exact l), hg, h0, ow⟩
    · rw [set_get_ne ne]; exact S.ow j e h2
  ln := fun j e h => by
    rcases get_set h with ⟨rfl, h2, l⟩ | ⟨ne, h2⟩
    · cases h2
    · rw [set_get_ne ne]; exact S.ln j e h2
  inj := fun j k d1 d2 q hjk h1 h2 h3 => by
    rcases get_set h1 with ⟨rfl, q1, l1⟩ | ⟨n1, q1⟩
    · rcases get_set h2 with ⟨rfl, q2, l⟩ | ⟨n2, q2⟩
      · exact absurd rfl hjk
      · rw [set_get (by rw [S.len]; exact l1)] at h3
        cases h3
        rw [set_get_ne n2]; exact hn k d2 (Ne.symm n2) q2
    · rcases get_set h2 with ⟨rfl, q2, l⟩ | ⟨n2, q2⟩
      · rw [set_get_ne n1] at h3
        rw [set_get (by rw [S.len]; exact l)]
        intro z; cases z
        exact hn j d1 (Ne.symm n1) q1 h3
      · rw [set_get_ne n1] at h3
        rw [set_get_ne n2]; exact S.inj j k d1 d2 q hjk q1 q2 h3
  sf := fun j e h => by
    rcases get_set h with ⟨rfl, h2, l⟩ | ⟨ne, h2⟩
    · cases h2
    · rw [set_get_ne ne]; exact S.sf j e h2
  su := fun j k d1 d2 h1 h2 => by
    rcases get_set h1 with ⟨rfl, q1, l⟩ | ⟨n1, q1⟩
    · cases q1
    · rcases get_set h2 with ⟨rfl, q2, l⟩ | ⟨n2, q2⟩
      · cases q2
      · exact S.su j k d1 d2 q1 q2
end
def sNil : SD → Out Fl := fun ς => .ok (.nx ς)
def thenF (U : SD → Out Fl) : Fl → Out Fl
  | .nx ς => U ς
  | .rt b d => .ok (.rt b d)
  | .bk ς => .ok (.bk ς)
  | .ct ς => .ok (.ct ς)
def sSeq (T U : SD → Out Fl) : SD → Out Fl := fun ς => T ς >>= thenF U
section
variable {C : Dc} {e : Expr} {E : SD → Out D} {st : Stmt} {rest : List Stmt} {T U : SD → Out Fl} {pos : Pos}
theorem FlK.later {G G1 : Hp} {W : Ends} {f : Fl} (h : FlK C G W f) (s : Same G G1) : FlK C G1 W f := by
  cases f with
  | nx ς => exact fun σ' H' G' S q => h σ' H' G' S (s.trans q)
  | bk ς => exact fun σ' H' G' S q => h σ' H' G' S (s.trans q)
  | ct ς => exact fun σ' H' G' S q => h σ' H' G' S (s.trans q)
  | rt b d => exact fun σ' H' G' S q => h σ' H' G' S (s.trans q)
theorem dss_nil : DSs C [] sNil := ⟨_, pss_nil, fun G H σ ς W S q => q σ H G S (Same.refl G)⟩
theorem dss_cons (h1 : DS C st T) (h2 : DSs C rest U) : DSs C (st :: rest) (sSeq T U) := by
  obtain ⟨t1, p1, q1⟩ := h1
  obtain ⟨t2, p2, q2⟩ := h2
  refine ⟨_, pss_cons p1 p2, fun G H σ ς W S q => ?_⟩
  unfold sSeq at q
  rw [Out.post_bind] at q
  refine q1 G H σ ς _ S (Out.post_mono q fun f k => ?_)
  cases f with
  | nx ς' => exact fun σ' H' G' S' s' => q2 G' H' σ' ς' W S' (Out.post_mono (show (U ς').post _ _ from k) fun f k => FlK.later k s')
  | bk ς' => exact k
  | ct ς' => exact k
  | rt b d => exact k
theorem dss_one (h1 : DS C st T) : DSs C [st] T := let ⟨t, p, q⟩ := h1; ⟨t, pss_one p, q⟩
def sSet (i : Nat) (E : SD → Out D) : SD → Out Fl := fun ς => E ς >>= fun d => .ok (.nx (ς.set i (some (.k, d))))
def sSetO (i : Nat) (E : SD → Out D) : SD → Out Fl := fun ς => E ς >>= fun d => .ok (.nx (ς.set i (some (.o, d))))
theorem ds_set {i : Nat} {x : Str} {pos' : Pos} (hN : C.X.N.Nodup) (hi : C.X.N[i]? = some x) (hx : Loc C.X.env.scope x) (he : DE C e E) (hs : swapsWith e (some (.Name x pos')) pos.line C.X.env = pure false := by rfl)
    (hf : C.X.fn x = true ∨ C.X.env.scope.names.lookup x = some .local := by first | exact .inl rfl | exact .inr rfl | assumption) : DS C (.Assign [.Name x pos'] e pos) (sSet i E) := by
  obtain ⟨t, p, q⟩ := he
  refine ⟨_, ps_set hN hi hx p hs hf, fun G H σ ς W S k => ?_⟩
  unfold sSet at k
  rw [Out.post_bind] at k
  exact q G H σ ς _ S (Out.post_mono k fun d k v H1 G1 S1 a1 b1 r1 => k _ H1 G1 (S1.set i r1) b1)
theorem ds_setO {i : Nat} {x : Str} {pos' : Pos} (hN : C.X.N.Nodup) (hi : C.X.N[i]? = some x) (hx : Loc C.X.env.scope x) (he : DF C e E) (hs : swapsWith e (some (.Name x pos')) pos.line C.X.env = pure false := by rfl)
    (hf : C.X.fn x = true ∨ C.X.env.scope.names.lookup x = some .local := by first | exact .inl rfl | exact .inr rfl | assumption) : DS C (.Assign [.Name x pos'] e pos) (sSetO i E) := by
  obtain ⟨t, p, q⟩ := he
  refine ⟨_, ps_set hN hi hx p hs hf, fun G H σ ς W S k => ?_⟩
  unfold sSetO at k
  rw [Out.post_bind] at k
  exact q G H σ ς _ S (Out.post_mono k fun d k p H1 G1 S1 a1 b1 hp hg ow => k _ H1 G1 (S1.setO i hg (S.h0none hp) ow fun j e _ z => S.new_ne hp j e z) b1)
def sPar (i j : Nat) (A : SD → Out (List D)) : SD → Out Fl := fun ς => A ς >>= fun ds => match ds with
  | [x, y] => .ok (.nx ((ς.set i (some (.k, x))).set j (some (.k, y))))
  | _ => .stuck
def setAll : List Nat → List D → SD → Out SD
  | [], [], ς => .ok ς
  | i :: is, d :: ds, ς => setAll is ds (ς.set i (some (.k, d)))
  | _, _, _ => .stuck
def DGs (C : Dc) (es : List Expr) (is : List Nat) : Prop := ∃ t, PGs C.X es t ∧ ∀ G H σ ς ds vs ς' (Q : St → Hp → Prop), StR C G H σ ς → RepL C.X.K C.CT G ds vs → setAll is ds ς = .ok ς' →
  (∀ σ', StR C G H σ' ς' → Q σ' H) → t vs σ H Q
theorem dgs_nil : DGs C [] [] := by
  refine ⟨_, pgs_nil, fun G H σ ς ds vs ς' Q S r h q => ?_⟩
  cases ds with
  | nil =>
    cases h
    exact ⟨r, q σ S⟩
  | cons d ds => cases h
theorem dgs_cons {i : Nat} {is : List Nat} {x : Str} {es : List Expr} (hN : C.X.N.Nodup) (hi : C.X.N[i]? = some x) (hx : Loc C.X.env.scope x) (h2 : DGs C es is)
    (hf : C.X.fn x = true ∨ C.X.env.scope.names.lookup x = some .local := by first | exact .inl rfl | exact .inr rfl | assumption)
    (hs : (assignEach (.Name x pos :: es) C.X.env).map (·.2) = assign (.Name x pos) C.X.env :: (assignEach es C.X.env).map (·.2) := by rfl) : DGs C (.Name x pos :: es) (i :: is) := by
  obtain ⟨t, p, q⟩ := h2
  refine ⟨_, pgs_cons (pg_name hN hi hx hf) p hs, fun G H σ ς ds vs ς' Q S r h k => ?_⟩
  cases ds with
  | nil => cases h
  | cons d ds =>
    obtain ⟨v, w, rfl, r1, r2⟩ := r
    exact ⟨v, w, rfl, q G H _ _ ds w ς' Q (S.set i r1) r2 h k⟩
def sUnp (is : List Nat) (E : SD → Out D) : SD → Out Fl := fun ς => E ς >>= fun d => match d with
  | .tup ds => setAll is ds ς >>= fun ς' => .ok (.nx ς')
  | _ => .stuck
theorem setAll_len : ∀ {is : List Nat} {ds : List D} {ς ς' : SD}, setAll is ds ς = .ok ς' → ds.length = is.length
  | [], [], _, _, _ => rfl
  | i :: is, d :: ds, ς, ς', h => by
    have := setAll_len (is := is) (ds := ds) h
    simp [this]
  | [], _ :: _, _, _, h => by cases h
  | _ :: _, [], _, _, h => by cases h
def sRet (E : SD → Out D) : SD → Out Fl := fun ς => E ς >>= fun d => .ok (.rt false d)
def sRetF (E : SD → Out D) : SD → Out Fl := fun ς => E ς >>= fun d => .ok (.rt true d)
theorem ds_ret (he : DE C e E) : DS C (.Return (some e) pos) (sRet E) := by
  obtain ⟨t, p, q⟩ := he
  refine ⟨_, ps_ret p, fun G H σ ς W S k => ?_⟩
  unfold sRet at k
  rw [Out.post_bind] at k
  exact q G H σ ς _ S (Out.post_mono k fun d k v H1 G1 S1 a1 b1 r1 => k v H1 G1 S1.toGH b1 r1)
theorem ds_retF (he : DF C e E) : DS C (.Return (some e) pos) (sRetF E) := by
  obtain ⟨t, p, q⟩ := he
  refine ⟨_, ps_ret p, fun G H σ ς W S k => ?_⟩
  unfold sRetF at k
  rw [Out.post_bind] at k
  exact q G H σ ς _ S (Out.post_mono k fun d k p H1 G1 S1 a1 b1 hp hg ow => k _ H1 G1 S1.toGH b1 ⟨p, rfl, S.h0none hp, hg, ow⟩)
def sRetO (i : Nat) : SD → Out Fl := fun ς => match ς[i]? with | some (some (.o, d)) => .ok (.rt true d) | _ => .stuck
theorem ds_retO (i : Nat) {x : Str} {px : Pos} (hN : C.X.N[i]? = some x := by rfl) (hv : Vis C.X.env.scope x := by first | exact Or.inl rfl | exact Or.inr (Or.inl rfl) | exact Or.inr (Or.inr rfl))
    (hd : (x == ("__debug__" : Str)) = false := by decide) (hcd : (x == ("__classdict__" : Str)) = false := by decide) : DS C (.Return (some (.Name x px)) pos) (sRetO i) := by
  refine ⟨_, ps_ret (pe_var (i := i) hN hv hd hcd), fun G H σ ς W S k => ?_⟩
  unfold sRetO at k
  split at k
  · rename_i d z
    obtain ⟨p, a, b, c, w⟩ := S.ow i d z
    exact ⟨_, a, k _ H G S.toGH (Same.refl G) ⟨p, rfl, c, b, w⟩⟩
  · exact k.elim
def sDrop (E : SD → Out D) : SD → Out Fl := fun ς => E ς >>= fun _ => .ok (.nx ς)
def sIf (c : SD → Out Bool) (T U : SD → Out Fl) : SD → Out Fl := fun ς => c ς >>= fun b => if b = true then T ς else U ς
theorem ds_if {c : Expr} {a b : List Stmt} {TC : SD → Out Bool} (hc : DT C c TC) (ha : DSs C a T) (hb : DSs C b U) : DS C (.If c a b pos) (sIf TC T U) := by
  obtain ⟨t0, p0, q0⟩ := hc
  obtain ⟨t1, p1, q1⟩ := ha
  obtain ⟨t2, p2, q2⟩ := hb
  refine ⟨_, ps_if p0 p1 p2, fun G H σ ς W S k => ?_⟩
  unfold sIf at k
  rw [Out.post_bind] at k
  refine q0 G H σ ς _ S (Out.post_mono k fun b k H1 G1 S1 a1 b1 => ?_)
  cases b with
  | true => exact iteT (q1 G1 H1 σ ς W S1 (Out.post_mono (show (T ς).post _ _ from k) fun f k => FlK.later k b1))
  | false => exact iteF (q2 G1 H1 σ ς W S1 (Out.post_mono (show (U ς).post _ _ from k) fun f k => FlK.later k b1))
end
def loopD (body : D → SD → Out Fl) : List D → SD → Out Fl
  | [], ς => .ok (.nx ς)
  | x :: xs, ς => body x ς >>= fun f => match f with
    | .nx ς' => loopD body xs ς'
    | .ct ς' => loopD body xs ς'
    | .bk ς' => .ok (.nx ς')
    | .rt b d => .ok (.rt b d)
def DG (C : Dc) (tg : Expr) (g : D → SD → Out SD) : Prop := ∃ t, PG C.X tg t ∧ ∀ G H σ ς d v ς' (Q : St → Hp → Prop), StR C G H σ ς → Rep C.X.K C.CT G d v → g d ς = .ok ς' → (∀ σ', StR C G H σ' ς' → Q σ' H) → t v σ H Q
def gN (i : Nat) : D → SD → Out SD := fun d ς => .ok (ς.set i (some (.k, d)))
def gT (is : List Nat) : D → SD → Out SD := fun d ς => match d with | .tup ds => setAll is ds ς | _ => .stuck
def noExc {α β γ : Type} (g : α → β → Out γ) : Prop := ∀ a b x, g a b ≠ .exc x
theorem noExc_gN (i : Nat) : noExc (gN i) := fun _ _ _ h => by cases h
theorem noExc_setAll (is : List Nat) : ∀ (ds : List D) (ς : SD) x, setAll is ds ς ≠ .exc x := by
  induction is with
  | nil => intro ds ς x h; cases ds <;> cases h
  | cons i is ih => intro ds ς x h; cases ds with
    | nil => cases h
    | cons d ds => exact ih ds _ x h
theorem noExc_gT (is : List Nat) : noExc (gT is) := fun d ς x h => by
  cases d with
  | tup ds => exact noExc_setAll is ds ς x h
  | _ => cases h
section
variable {C : Dc} {e tg iter : Expr} {E : SD → Out D} {body : List Stmt} {T U : SD → Out Fl} {pos : Pos} {g : D → SD → Out SD}
theorem dg_name {i : Nat} {x : Str} (hN : C.X.N.Nodup) (hi : C.X.N[i]? = some x) (hx : Loc C.X.env.scope x)
    (hf : C.X.fn x = true ∨ C.X.env.scope.names.lookup x = some .local := by first | exact .inl rfl | exact .inr rfl | assumption) : DG C (.Name x pos) (gN i) :=
  ⟨_, pg_name hN hi hx hf, fun G H σ ς d v ς' Q S r h k => by cases h; exact k _ (S.set i r)⟩
theorem dg_tup {es : List Expr} {is : List Nat} {k : Nat} (hc : C.X.calm = true) (hg : DGs C es is) (hn : (assignEach es C.X.env).length = is.length := by rfl) (hst : (assignEach es C.X.env).findIdx? (·.1) = none := by rfl) :
    DG C (.Tuple es k pos) (gT is) := by
  obtain ⟨t2, p2, q2⟩ := hg
  refine ⟨_, pg_tup hc p2 hn hst, fun G H σ ς d v ς' Q S r h k => ?_⟩
  cases d with
  | tup ds =>
    obtain ⟨a, vs, rfl, h2, h3⟩ := r
    exact ⟨a, vs, rfl, Same.sqT S.sub h2, by rw [← h3.length]; exact setAll_len h, q2 G H σ ς ds vs ς' Q S h3 h k⟩
  | _ => cases h
def sFor (g : D → SD → Out SD) (its : SD → Out (List D)) (T : SD → Out Fl) : SD → Out Fl := fun ς => its ς >>= fun xs => loopD (fun x ς => g x ς >>= fun ς' => T ς') xs ς
def itL (E : SD → Out D) : SD → Out (List D) := fun ς => E ς >>= fun d => match d with | .lst xs => .ok xs | _ => .stuck
def itT (E : SD → Out D) : SD → Out (List D) := fun ς => E ς >>= fun d => match d with | .tup xs => .ok xs | _ => .stuck
theorem turnD {W : Ends} {x : D} {v : V} {xs : List D} {G H : Hp} {σ : St} {ς : SD} {tb : TS} {tt : TG} {N : L2.St → Hp → Prop} (hne : noExc g)
    (hg : ∀ G H σ ς d v ς' (Q : St → Hp → Prop), StR C G H σ ς → Rep C.X.K C.CT G d v → g d ς = .ok ς' → (∀ σ', StR C G H σ' ς' → Q σ' H) → tt v σ H Q)
    (hb : ∀ G H σ ς W, StR C G H σ ς → (T ς).post (FlK C G W) C.XD → tb W σ H)
    (S : StR C G H σ ς) (r : Rep C.X.K C.CT G x v) (q : (loopD (fun x ς => g x ς >>= fun ς' => T ς') (x :: xs) ς).post (FlK C G W) C.XD)
    (hN : ∀ σ' H' G' ς', StR C G' H' σ' ς' → Same G G' → (loopD (fun x ς => g x ς >>= fun ς' => T ς') xs ς').post (FlK C G' W) C.XD → N σ' H') :
    tt v σ H fun σ2 H2 => tb { W with nx := N, ct := N, bk := W.nx } σ2 H2 := by
  have q' : ((g x ς >>= fun ς' => T ς') >>= fun f => match f with
    | .nx ς' => loopD (fun x ς => g x ς >>= fun ς' => T ς') xs ς'
    | .ct ς' => loopD (fun x ς => g x ς >>= fun ς' => T ς') xs ς'
    | .bk ς' => .ok (.nx ς')
    | .rt b d => .ok (.rt b d)).post (FlK C G W) C.XD := q
  rw [Out.post_bind, Out.post_bind] at q'
  cases z : g x ς with
  | exc y => exact absurd z (hne _ _ _)
  | stuck => rw [z] at q'; exact q'.elim
  | ok ς1 =>
    rw [z] at q'
    refine hg G H σ ς x v ς1 _ S r z fun σ1 S1 => hb G H σ1 ς1 _ S1 (Out.post_mono q' fun f k => ?_)
    cases f with
    | nx ς' => exact fun σ' H' G' S' s' => hN σ' H' G' ς' S' s' (Out.post_mono (show (loopD _ xs ς').post _ _ from k) fun f k => FlK.later k s')
    | ct ς' => exact fun σ' H' G' S' s' => hN σ' H' G' ς' S' s' (Out.post_mono (show (loopD _ xs ς').post _ _ from k) fun f k => FlK.later k s')
    | bk ς' => exact fun σ' H' G' S' s' => (show FlK C G W (.nx ς') from k) σ' H' G' S' s'
    | rt b d => exact k
theorem drop_cons {α : Type} {xs : List α} {i : Nat} {x : α} (h : xs[i]? = some x) : xs.drop i = x :: xs.drop (i + 1) := by
  obtain ⟨l, e⟩ := List.getElem?_eq_some_iff.mp h
  rw [List.drop_eq_getElem_cons l, e]
def rangeD (lo : Int) (n : Nat) : List D := (List.range n).map fun (i : Nat) => D.int (lo + i)
theorem rangeD_get {lo : Int} {n i : Nat} (h : i < n) : (rangeD lo n)[i]? = some (D.int (lo + i)) := by
  unfold rangeD
  rw [List.getElem?_map, List.getElem?_range h]; rfl
theorem rangeD_len {lo : Int} {n : Nat} : (rangeD lo n).length = n := by simp [rangeD]
def small62 (i : Int) : Bool := decide (-(2 ^ 62) ≤ i) && decide (i < 2 ^ 62)
def itR1 (A : SD → Out D) : SD → Out (List D) := fun ς => A ς >>= fun d => match d with
  | .int n => if small62 n = true then .ok (rangeD 0 n.toNat) else .stuck
  | _ => .stuck
theorem small62_of {i : Int} (h : small62 i = true) : -(2 ^ 62) ≤ i ∧ i < 2 ^ 62 := by
  unfold small62 at h
  rw [Bool.and_eq_true] at h
  exact ⟨of_decide_eq_true h.1, of_decide_eq_true h.2⟩
end
end DL
set_option Elab.async false
set_option linter.all false
set_option maxRecDepth 100000
namespace DL
open PySem PySem.Spec PyProof.Rows L2
def RetG (K : PySem.W.Frag) (CT : CTab) (fr : Bool) (H0 G' H' : Hp) (d : D) (v : V) : Prop :=
  if (fr && !d.scal) = true then ∃ p, v = .ref p ∧ H0 p = none ∧ G' p = none ∧ Own K CT G' H' p d else Rep K CT G' d v
def retF (fr : Bool) : Fl → Out D
  | .rt b d => if (!fr || b || d.scal) = true then .ok d else .stuck
  | .nx _ => .ok .non
  | _ => .stuck
def bodyF (fr : Bool) (n len : Nat) (T : SD → Out Fl) : List D → Out D := fun ds =>
  if ds.length = n then T (ds.map (fun d => some (.k, d)) ++ List.replicate (len - n) none) >>= retF fr else .stuck
def SpD (K : PySem.W.Frag) (CT : CTab) (fr : Bool) (m : List D → Out D) : Sp := fun vs H Q _ => ∃ ds G0, Same G0 H ∧ RepL K CT G0 ds vs ∧
  (m ds).post (fun d => ∀ v H' G', Same G0 G' → Same H H' → Same G' H' → (∀ b, G0 b = none → G' b ≠ none → H b = none) → RetG K CT fr H G' H' d v → Q v H') (fun _ => False)
structure FunV (K : PySem.W.Frag) (x qual : Str) (st : Stmt) (f : Addr) (fd : FuncData) (dV : Value) : Prop where
  ex : ∃ (oc : Value) (od : Option Addr) (kV doc pm : Value) (an : Option Addr) (cdv ct : Value) (osl : Array (Option Value)),
    fd = PySem.W.fnOf x qual (defArgs st) (defBody st) (defScope st) dV kV doc pm an cdv ct ∧ K.lookup f = some ⟨oc, od, .func fd, osl⟩ ∧ PySem.W.codeIn K cdv qual = true
  kp : PySem.W.keepIn K (.ref f) = true
theorem funV_mk {K : PySem.W.Frag} {x qual : Str} {st : Stmt} {f : Addr} {oc : Value} {od an : Option Addr} {osl : Array (Option Value)} {dV kV doc pm cdv ct : Value} (l : K.lookup f = some ⟨oc, od, .func (PySem.W.fnOf x qual (defArgs st) (defBody st) (defScope st) dV kV doc pm an cdv ct), osl⟩)
    (c : PySem.W.codeIn K cdv qual = true) (k : PySem.W.keepIn K (.ref f) = true) : FunV K x qual st f (PySem.W.fnOf x qual (defArgs st) (defBody st) (defScope st) dV kV doc pm an cdv ct) dV := ⟨⟨oc, od, kV, doc, pm, an, cdv, ct, osl, rfl, l, c⟩, k⟩
theorem FunV.binds {K : PySem.W.Frag} {x qual : Str} {st : Stmt} {f : Addr} {fd : FuncData} {ps : List Str} (F : FunV K x qual st f fd .none)
    (h : ∀ (kV doc pm : Value) (an : Option Addr) (cdv ct : Value) (us : List Value), us.length = ps.length → bindArgs (PySem.W.fnOf x qual (defArgs st) (defBody st) (defScope st) .none kV doc pm an cdv ct) ⟨us, []⟩ = pure (ps.zip us)) : Binds K fd ps [] := by
  obtain ⟨oc, od, kV, doc, pm, an, cdv, ct, osl, rfl, lk, hcd⟩ := F.ex
  exact .all (h kV doc pm an cdv ct)
abbrev dcOf (P : Program) (w : World) (K : PySem.W.Frag) (mg : Str → Option Value) (base : Heap) (CT : CTab) (N : List Str) (qual : Str) (sc : Scope) (f : Addr) (cdv : Value) (A : Around) (outer : List Env) (s : Shared) (H : Hp) (E : XK) (G : Hp) : Dc :=
  { X := (cxOf CX0 P w K mg base N qual sc f cdv A outer s H E).nox, CT := CT, G0 := G, XD := fun _ => False, B := H, M := fun _ => False }
theorem start_get {N : List Str} {vs : List V} {i : Nat} {v : V} (h : vs[i]? = some v) : (L2.start N vs)[i]? = some (some v) := by
  unfold L2.start
  have hi : i < vs.length := (List.getElem?_eq_some_iff.mp h).1
  rw [List.getElem?_append_left (by simpa using hi), List.getElem?_map, h]; rfl
theorem slots_get {ds : List D} {k : Nat} {i : Nat} {x : SM × D} (h : (ds.map (fun d => some (SM.k, d)) ++ List.replicate k (none : Option (SM × D)))[i]? = some (some x)) : ∃ d, ds[i]? = some d ∧ x = (.k, d) := by
  by_cases hi : i < ds.length
  · rw [List.getElem?_append_left (by simpa using hi), List.getElem?_map] at h
    cases e : ds[i]? with
    | none => rw [e] at h; cases h
    | some d => rw [e] at h; cases h; exact ⟨d, rfl, rfl⟩
  · rw [List.getElem?_append_right (by simpa using hi), List.getElem?_replicate] at h
    split at h <;> cases h
theorem GH.freezeR {C : Dc} {G' H' : Hp} (S : GH C G' H') {p : Addr} {o : HO} (hp : H' p = some o) (hg : G' p = none) (h0 : C.X.H₀ p = none) : GH C (upd G' p o) H' where
  sub := fun b u q => by
    by_cases hb : b = p
    · subst hb; rw [upd_same] at q; cases q; exact hp
    · rw [upd_ne hb] at q; exact S.sub b u q
  g0 := S.g0.trans (same_upd hg)
  new := fun b h1 h2 => by
    by_cases hb : b = p
    · subst hb; exact h0
    · rw [upd_ne hb] at h2; exact S.new b h1 h2
  fr := S.fr
  dom := S.dom
  bs := S.bs
  bh := S.bh
theorem fnV {P : Program} {w : World} {K : PySem.W.Frag} {mg : Str → Option Value} {base : Heap} {CT : CTab} {fr : Bool} {x qual : Str} {st : Stmt} {f : Addr} {fd : FuncData} {dV : Value} {N ps : List Str} {k : Nat} {T : SD → Out Fl}
    (F : FunV K x qual st f fd dV) (S : FnScope N ps (defScope st))
    (hb : ∀ (cdv : Value) (A : Around) (outer : List Env) (s : Shared) (H : Hp) (E : XK) (G : Hp), Room k (A.deeper (envOfC qual (defScope st) s.heap.objs.size f cdv)) → DSs (dcOf P w K mg base CT N qual (defScope st) f cdv A outer s H E G) (defBody st) T) :
    FnOk P w K mg base CX0 (k + 1) f fd ps (SpD K CT fr (bodyF fr ps.length N.length T)) := by
  obtain ⟨oc, od, kV, doc, pm, an, cdv, ct, osl, rfl, lk, hcd⟩ := F.ex
  have hpl : ps.length ≤ N.length := by have := congrArg List.length S.pre; rw [List.length_take] at this; omega
  have len : ∀ vs H Q E, SpD K CT fr (bodyF fr ps.length N.length T) vs H Q E → vs.length = ps.length := by
    intro vs H Q E ⟨ds, G0, sub, r, q⟩
    unfold bodyF at q
    by_cases hl : ds.length = ps.length
    · rw [← r.length]; exact hl
    · rw [if_neg hl] at q; exact q.elim
  refine fn_of lk hcd S len fun A outer s H vs Q E hr hsp => ?_
  have hlen := len vs H Q E hsp
  obtain ⟨ds, G0, sub, r, q⟩ := hsp
  obtain ⟨t, p1, q1⟩ := hb cdv A outer s H E G0 hr
  have hl : ds.length = ps.length := by rw [r.length]; exact hlen
  refine ⟨t, p1.nox, ?_⟩
  unfold bodyF at q
  rw [if_pos hl, Out.post_bind] at q
  have S0 : StR (dcOf P w K mg base CT N qual (defScope st) f cdv A outer s H E G0) G0 H (L2.start N vs) (ds.map (fun d => some (.k, d)) ++ List.replicate (N.length - ps.length) none) := {
    sub := sub
    g0 := Same.refl _
    new := fun b h1 h2 => absurd h1 h2
    fr := fun b o e _ => e
    dom := fun b e => e
    bs := Same.refl _
    bh := fun b e => e
    len := by unfold L2.start; simp; omega
    fz := fun i d e => by
      obtain ⟨d', e1, e2⟩ := slots_get e
      cases e2
      obtain ⟨v, e3, rv⟩ := r.get e1
      exact ⟨v, start_get e3, rv⟩
    ow := fun i d e => by
      obtain ⟨d', e1, e2⟩ := slots_get e
      cases e2
    ln := fun i d e => by
      obtain ⟨d', e1, e2⟩ := slots_get e
      cases e2
    inj := fun i j d e p _ h => by
      obtain ⟨d', e1, e2⟩ := slots_get h
      cases e2
    sf := fun i d e => by
      obtain ⟨d', e1, e2⟩ := slots_get e
      cases e2
    su := fun i j d e h => by
      obtain ⟨d', e1, e2⟩ := slots_get h
      cases e2 }
  refine q1 G0 H (L2.start N vs) _ _ S0 (Out.post_mono q fun fl kk => ?_)
  cases fl with
  | nx ς' => exact fun σ' H' G' S' s' => kk .non H' G' s' (fun b o e => S'.fr b o e id) S'.sub S'.new (by unfold RetG; rw [if_neg (by cases fr <;> decide)]; rfl)
  | bk ς' => exact fun σ' H' G' S' s' => kk.elim
  | ct ς' => exact fun σ' H' G' S' s' => kk.elim
  | rt b d =>
    intro v H' G' S' s' ret
    have kk' : (if (!fr || b || d.scal) = true then Out.ok d else Out.stuck).post (fun d => ∀ v H' G', Same G0 G' → Same H H' → Same G' H' → (∀ b, G0 b = none → G' b ≠ none → H b = none) → RetG K CT fr H G' H' d v → Q v H') (fun _ => False) := kk
    rcases post_ite kk' with ⟨hc, k2⟩ | ⟨_, k2⟩
    · have k3 : ∀ v H' G', Same G0 G' → Same H H' → Same G' H' → (∀ b, G0 b = none → G' b ≠ none → H b = none) → RetG K CT fr H G' H' d v → Q v H' := k2
      cases b with
      | false =>
        refine k3 v H' G' s' (fun b o e => S'.fr b o e id) S'.sub S'.new ?_
        unfold RetG
        have hn : ¬ (fr && !d.scal) = true := by revert hc; cases fr <;> cases d.scal <;> simp
        rw [if_neg hn]
        exact ret
      | true =>
        obtain ⟨p, rfl, h0, hg, ow⟩ := (show ∃ p, v = .ref p ∧ H p = none ∧ G' p = none ∧ Own K CT G' H' p d from ret)
        cases fr with
        | true =>
          refine k3 _ H' G' s' (fun b o e => S'.fr b o e id) S'.sub S'.new ?_
          have hs : d.scal = false := by cases d <;> first | rfl | exact ow.elim
          unfold RetG
          rw [if_pos (by rw [hs]; rfl)]
          exact ⟨p, rfl, h0, hg, ow⟩
        | false =>
          obtain ⟨o, ho⟩ := ow.there
          have S2 := GH.freezeR S' ho hg h0
          refine k3 _ H' _ (s'.trans (same_upd hg)) (fun b o e => S2.fr b o e id) S2.sub S2.new ?_
          unfold RetG
          rw [if_neg (by simp)]
          exact ow.known hg ho
    · exact k2.elim
theorem FnOk.as {P : Program} {w : World} {K : PySem.W.Frag} {mg : Str → Option Value} {base : Heap} {CT : CTab} {fr : Bool} {k : Nat} {f : Addr} {fd : FuncData} {ps : List Str} {m m' : List D → Out D}
    (F : FnOk P w K mg base CX0 k f fd ps (SpD K CT fr m)) (h : ∀ ds, m' ds = .stuck ∨ m' ds = m ds) : FnOk P w K mg base CX0 k f fd ps (SpD K CT fr m') := by
  refine F.imp fun vs H Q E ⟨ds, G0, sub, r, q⟩ => ⟨ds, G0, sub, r, ?_⟩
  rcases h ds with e | e
  · rw [e] at q; exact q.elim
  · rw [← e]; exact q
def DefOk (P : Program) (w : World) (K : PySem.W.Frag) (mg : Str → Option Value) (base : Heap) (CT : CTab) (x : Str) (k : Nat) (fr : Bool) (dd : List D) (m : List D → Out D) : Prop :=
  ∃ f fd ps ds, FnOk P w K mg base CX0 k f fd ps (SpD K CT fr m) ∧ mg x = some (.ref f) ∧ PySem.W.keepIn K (.ref f) = true ∧ Binds K fd ps ds ∧ Vals (dd.map toV) ds
theorem rep_toVs {K : PySem.W.Frag} {CT : CTab} {H : Hp} : ∀ {dd : List D}, dd.all D.scal = true → RepL K CT H dd (dd.map toV)
  | [], _ => rfl
  | d :: ds, h => by
    rw [List.all_cons, Bool.and_eq_true] at h
    exact ⟨_, _, rfl, toV_rep h.1, rep_toVs h.2⟩
def nonScal (o : Out D) : Out D := o >>= fun d => if d.scal = true then .stuck else .ok d
section
variable {C : Dc} {x : Str} {k : Nat} {fr : Bool} {dd : List D} {m : List D → Out D} {e : Expr} {es : List Expr} {A : SD → Out (List D)} {p pos : Pos}
theorem de_f (h : DefOk C.X.prog C.X.w C.X.K C.X.mg C.X.base C.CT x k fr dd m) (hr : Room k C.X.A) (ha : DA C (e :: es) A) (hg : Gl C.X x) (hs : dd.all D.scal = true := by rfl) (hx : ∀ x, ¬ C.XD x := by exact fun _ h => h)
    (hdb : (x == ("__debug__" : Str)) = false := by decide) (he : starEach (e :: es) C.X.env = (false, eval e C.X.env) :: starEach es C.X.env := by rfl) (hpl : (backTo pos (starEach es C.X.env)).any (·.1) = false := by rfl) :
    DE C (.Call (.Name x p) (e :: es) [] pos) (eA (fun xs => m (xs ++ dd)) A) := by
  obtain ⟨f, fd, ps, ds, F, hm, hk, hb, hd⟩ := h
  obtain ⟨t, p1, q1⟩ := ha
  refine ⟨_, pe_call F hr hg hm hk hb hd pass0 p1 hdb he hpl, fun G H σ ς Q S q => ?_⟩
  unfold eA at q
  rw [Out.post_bind] at q
  refine q1 G H σ ς _ S (Out.post_mono q fun xs kk vs H1 G1 S1 a1 b1 r1 => ⟨xs ++ dd, G1, S1.sub, r1.append (rep_toVs hs), ?_⟩)
  cases z : m (xs ++ dd) with
  | stuck => rw [z] at kk; exact kk.elim
  | exc y => rw [z] at kk; exact absurd kk (hx y)
  | ok d =>
    rw [z] at kk
    intro v H' G' g1 h1 s1 n1 ret
    unfold RetG at ret
    by_cases hc : (fr && !d.scal) = true
    · rw [if_pos hc] at ret
      obtain ⟨pp, rfl, h0, hg', ow⟩ := ret
      obtain ⟨o, ho⟩ := ow.there
      have S2 := (S1.grow h1 g1 s1 n1).freeze ho hg' (S1.h0none h0) (fun i d' z1 z2 => by
        obtain ⟨o', ho'⟩ := S1.own_ne z1 z2
        rw [h0] at ho'; cases ho')
      exact (show KD C G H σ ς Q d from kk) _ _ _ S2 (a1.trans h1) ((b1.trans g1).trans (same_upd hg')) (ow.known hg' ho)
    · rw [if_neg hc] at ret
      exact (show KD C G H σ ς Q d from kk) v H' G' (S1.grow h1 g1 s1 n1) (a1.trans h1) (b1.trans g1) ret
end
abbrev bitsI (i : Int) : Nat := Builtin.Int.intBits i
theorem weight_mem : ∀ {xs : List PySem.W.WData} {x : PySem.W.WData}, x ∈ xs → x.weight ≤ PySem.W.WData.weightAll xs
  | y :: r, x, hx => by
    rcases List.mem_cons.mp hx with rfl | hx'
    · simp only [PySem.W.WData.weightAll]; omega
    · have := weight_mem hx'
      simp only [PySem.W.WData.weightAll]; omega
theorem bits_of_lay {ns : List Int} (h : PySem.W.WData.layableAll [PySem.W.WData.list (ns.map PySem.W.WData.int)] = true) : ∀ z ∈ ns, bitsI z ≤ 1048576 := fun z hz => by
  have h1 : (PySem.W.WData.list (ns.map PySem.W.WData.int)).layable = true := by simpa [PySem.W.WData.layableAll] using h
  have h2 : (PySem.W.WData.list (ns.map PySem.W.WData.int)).weight ≤ 2 ^ 20 := of_decide_eq_true (Bool.and_eq_true_iff.mp h1).2
  have h3 : (PySem.W.WData.int z).weight ≤ PySem.W.WData.weightAll (ns.map PySem.W.WData.int) := weight_mem (List.mem_map.mpr ⟨z, hz, rfl⟩)
  have h4 : (PySem.W.WData.int z).weight ≤ 1048576 := by
    have e : (2 : Nat) ^ 20 = 1048576 := by decide
    simp only [PySem.W.WData.weight] at h2
    omega
  simpa only [PySem.W.WData.weight, Builtin.Int.intBits] using h4
theorem walk_of {l : PySem.W.OpenLaw} {n k : Nat} {q : Program} {loose : List Str} {XP : (Str → Option Value) → Heap → Prop} {YP : World → Heap → Prop} {d : DefRec} {K : Params → PySem.W.Frag} {CX : World → CXT} {sp : World → Sp} {x : Str}
    (hn : l.most = some n) (hn2 : n ≤ sizeLine) (hdf : d.params.defaults = []) (hr : Room k callerA)
    (hY : ∀ (w : World) (h : Heap), YP w h → (K w.params).In h)
    (F : ∀ (w : World) (mg : Str → Option Value) (fa : Addr) (h : Heap), (K w.params).In h → h.Ns mainGlobals mg → mg d.name = some (.ref fa) →
      ∃ fd : FuncData, (∀ (s : Shared) (u : Value), BindsTo s fd ⟨[u], []⟩ [(x, u)]) ∧
        ∀ base : Heap, (K w.params).In base → base.Ns mainGlobals mg → FnOk l.prog w (K w.params) mg base (CX w) k fa fd [x] (sp w))
    (hsp : ∀ (w : World) (H : Hp) (a : Addr) (ns : List Int), ns.length ≤ n → (∀ z ∈ ns, bitsI z ≤ 1048576) → Only H → SqL (K w.params) H a (ns.map V.int) → sp w [.ref a] H (fun v _ => v = .bl true) fun _ _ _ => False)
    (hCX : ∀ (w : World) (H : Hp) (s : Shared) (e : Value) (s' : Shared), CX w [] H s (fun _ _ _ => False) e s' → False) :
    PySem.W.WalkO q loose XP YP l.row.toRowW d [] (fun f vs => PySem.call f vs) := by
  intro w s₀ s₁ mg mb G Y fa o pm cd doc dV kV ho hd hcd hD hmg hg args vals as hpre hlay hrd hwl hlo
  obtain rfl : dV = .none := PySem.W.Dflts.none hD hdf
  obtain rfl : kV = .none := PySem.W.Dflts.noKw hD
  obtain ⟨a, vs, ns, rfl, rfl, hobj, hints, hlen⟩ := Att.script_of hn hpre hwl
  have KX := hY w _ Y
  obtain ⟨fd, hb, hF⟩ := F w mg fa _ KX G.T.g hmg
  refine PySem.W.enter_call (codeAny_mono (law_call KX G.T.g G.T.b G.T.builtins G.T.nolimit hg hobj hints (Nat.le_trans hlen hn2) hr hF hb (fun H hO hS => hsp w H a ns hlen (bits_of_lay hlay) hO hS) fun H e s' => hCX w H s₁ e s') fun r s' hq => ?_)
  obtain ⟨rfl, h2, h3, h4⟩ := hq
  exact ⟨.inl ⟨.bool true, .bool true, [], rfl, fun _ => rfl, .bool true, Att.post_true l _, fun _ => ⟨List.Pairwise.nil, fun _ hm => (nomatch hm)⟩⟩, h2, h3, h4⟩
end DL
set_option Elab.async false
set_option linter.all false
set_option maxRecDepth 100000
namespace DL
open PySem PySem.Spec PyProof.Rows L2
def rCatS (K : PySem.W.Frag) : R2 := fun x y H Q => ∃ l b xs zs, x = .ref l ∧ y = .ref b ∧ SqL K H l xs ∧ SqL K H b zs ∧ xs.length + zs.length ≤ sizeLine ∧ ∀ p, H p = none → Q (.ref p) (upd H p (.lst (xs ++ zs)))
theorem op_catS {X : Cx} : OpR X (binaryOp .Add) (rCatS X.K) := by
  intro pins s σ H x y v u Q I rx ry h
  obtain ⟨l, b, xs, zs, rfl, rfl, hH, hB, hz, q⟩ := h
  cases rx
  cases ry
  obtain ⟨its, r, pl, hz1⟩ := I.list hH
  obtain ⟨its2, r2, pl2, hz2⟩ := I.list hB
  obtain ⟨⟨cls, dd, data, sl⟩, n, ho, hc, hdd, hd⟩ := pl
  obtain ⟨⟨cls2, dd2, data2, sl2⟩, n2, ho2, hc2, hdd2, hd2⟩ := pl2
  simp only at hc hd hc2 hd2
  subst hc hd hc2 hd2
  have e : its.toArray ++ its2.toArray = (its ++ its2).toArray := by simp
  have h1 := r.length
  have h2 := r2.length
  refine concat_meets ⟨_, ho, rfl⟩ ⟨_, ho2, rfl⟩ noFill_list_add seq_list_add PySem.F.slot_list_add PySem.F.entry_list_add (PySem.F.args_list_add_2 _ _) (list_addW l b its.toArray its2.toArray n n2 dd dd2 sl sl2 (by rw [List.size_toArray, List.size_toArray]; omega)) ⟨ho, ho2, ?_⟩
  rw [e]
  exact ⟨.ref _, _, I.lnew (t' := s.toks) (r.append r2) (by rw [List.length_append]; omega), rfl, q _ I.fresh⟩
def dCat : D → D → Out D
  | .lst xs, .lst ys => if fits (xs.length + ys.length) = true then .ok (.lst (xs ++ ys)) else .stuck
  | _, _ => .stuck
section
variable {C : Dc} {a b : Expr} {A B : SD → Out D} {pos : Pos}
theorem df_cat (ha : DE C a A) (hb : DE C b B) : DF C (.BinOp a .Add b pos) (e2 dCat A B) := by
  obtain ⟨ta, p1, q1⟩ := ha
  obtain ⟨tb, p2, q2⟩ := hb
  refine ⟨_, pe_op op_catS p1 p2, fun G H σ ς Q S q => ?_⟩
  unfold e2 at q
  rw [Out.post_bind] at q
  refine q1 G H σ ς _ S (Out.post_mono q fun x k v1 H1 G1 S1 a1 b1 r1 => ?_)
  rw [Out.post_bind] at k
  refine q2 G1 H1 σ ς _ S1 (Out.post_mono k fun y k2 v2 H2 G2 S2 a2 b2 r2 => ?_)
  have r1' := Rep.mono b2 x v1 r1
  cases x with
  | lst xs =>
    cases y with
    | lst ys =>
      obtain ⟨p, vs, rfl, h2, h3⟩ := r1'
      obtain ⟨p', vs', rfl, h2', h3'⟩ := r2
      rcases post_ite (show (if fits (xs.length + ys.length) = true then Out.ok (D.lst (xs ++ ys)) else .stuck).post _ _ from k2) with ⟨hc, k3⟩ | ⟨_, k3⟩
      · exact ⟨p, p', vs, vs', rfl, rfl, S2.sub.seq h2, S2.sub.seq h2', by rw [← h3.length, ← h3'.length]; exact of_decide_eq_true hc,
          KF.lst (KF.later (show KF C G H σ ς Q (.lst (xs ++ ys)) from k3) (a1.trans a2) (b1.trans b2)) S2 (h3.append h3')⟩
      · exact k3.elim
    | _ => exact k2.elim
  | _ => cases y <;> exact k2.elim
def dList : D → Out D
  | .lst xs => .ok (.lst xs)
  | .tup xs => .ok (.lst xs)
  | _ => .stuck
def dTuple : D → Out D
  | .lst xs => .ok (.tup xs)
  | .tup xs => .ok (.tup xs)
  | _ => .stuck
theorem df_list {p : Pos} (hg : Gl C.X "list") (hm : C.X.mg "list" = none) (ha : DE C a A)
    (he : starEach (a :: []) C.X.env = (false, eval a C.X.env) :: starEach [] C.X.env := by rfl) : DF C (.Call (.Name "list" p) [a] [] pos) (e1 dList A) := by
  obtain ⟨ta, p1, q1⟩ := ha
  refine ⟨_, pe_callTy call_list_of hg hm PyProof.Rows.Boot.«list» (pa_cons p1 pa_nil he) (by decide) (by decide) he rfl, fun G H σ ς Q S q => ?_⟩
  unfold e1 at q
  rw [Out.post_bind] at q
  refine q1 G H σ ς _ S (Out.post_mono q fun x k v1 H1 G1 S1 a1 b1 r1 => ?_)
  cases x with
  | lst xs =>
    obtain ⟨p, vs, rfl, h2, h3⟩ := r1
    exact ⟨p, vs, rfl, .inl (S1.sub.seq h2), KF.lst (KF.later (show KF C G H σ ς Q (.lst xs) from k) a1 b1) S1 h3⟩
  | tup xs =>
    obtain ⟨p, vs, rfl, h2, h3⟩ := r1
    exact ⟨p, vs, rfl, .inr (Same.sqT S1.sub h2), KF.lst (KF.later (show KF C G H σ ς Q (.lst xs) from k) a1 b1) S1 h3⟩
  | _ => exact k.elim
theorem de_tuple {p : Pos} (hg : Gl C.X "tuple") (hm : C.X.mg "tuple" = none) (ha : DE C a A)
    (he : starEach (a :: []) C.X.env = (false, eval a C.X.env) :: starEach [] C.X.env := by rfl) : DE C (.Call (.Name "tuple" p) [a] [] pos) (e1 dTuple A) := by
  obtain ⟨ta, p1, q1⟩ := ha
  refine ⟨_, pe_callTy call_tuple_of hg hm PyProof.Rows.Boot.«tuple» (pa_cons p1 pa_nil he) (by decide) (by decide) he rfl, fun G H σ ς Q S q => ?_⟩
  unfold e1 at q
  rw [Out.post_bind] at q
  refine q1 G H σ ς _ S (Out.post_mono q fun x k v1 H1 G1 S1 a1 b1 r1 => ?_)
  cases x with
  | lst xs =>
    obtain ⟨p, vs, rfl, h2, h3⟩ := r1
    exact ⟨p, vs, rfl, .inl ⟨S1.sub.seq h2, KD.tup (KD.later (show KD C G H σ ς Q (.tup xs) from k) a1 b1) S1 h3⟩⟩
  | tup xs =>
    obtain ⟨p, vs, rfl, h2, h3⟩ := r1
    exact ⟨p, vs, rfl, .inr ⟨Same.sqT S1.sub h2, KD.now (KD.later (show KD C G H σ ς Q (.tup xs) from k) a1 b1) S1 ⟨p, vs, rfl, h2, h3⟩⟩⟩
  | _ => exact k.elim
end
section
variable {C : Dc} {e : Expr} {es : List Expr} {A : SD → Out (List D)} {p pos : Pos}
end
def isaT (T : String) : D → Out Bool
  | .ins _ _ => .stuck
  | .err _ => .stuck
  | .bl _ => .ok (T == "bool" || T == "int")
  | d => .ok (tyName d == T)
structure Kit (K : PySem.W.Frag) (T : String) : Prop where
  h : ∀ d : D, (match d with | .ins _ _ => True | .err _ => True | .bl _ => PySem.W.kitOne K (.type "bool") (.type T) = some (T == "bool" || T == "int") | d => PySem.W.kitOne K (.type (tyName d)) (.type T) = some (tyName d == T))
section
variable {C : Dc} {e : Expr} {E : SD → Out D} {p pc pos : Pos}
theorem de_isaB (T : Str) {T' : String} (k : Kit C.X.K T') (hgT : Gl C.X T) (hmT : C.X.mg T = none) (hb : bootBuiltins T = some (.type T')) (hg : Gl C.X "isinstance") (hm : C.X.mg "isinstance" = none) (h : DB C e E)
    (hn : T ≠ "__name__" := by decide) (hdb : (T == ("__debug__" : Str)) = false := by decide)
    (he : starEach (e :: [.Name T pc]) C.X.env = (false, eval e C.X.env) :: starEach [.Name T pc] C.X.env := by rfl) (he2 : starEach (.Name T pc :: []) C.X.env = (false, eval (.Name T pc) C.X.env) :: starEach [] C.X.env := by rfl)
    (hpl : (backTo pos (starEach [.Name T pc] C.X.env)).any (·.1) = false := by rfl) : DE C (.Call (.Name "isinstance" p) [e, .Name T pc] [] pos) (eIsa (isaT T') E) := by
  refine de_isa (vc := .ty T') (uc := .type T') (pe_bltn hgT hmT hb rfl hn hdb) rfl (fun d => ?_) hg hm h he he2 hpl
  have := k.h d
  cases d <;> first | exact True.intro | exact this
end
theorem kit_of {K : PySem.W.Frag} {T : String} (h1 : PySem.W.kitOne K (.type "NoneType") (.type T) = some ("NoneType" == T)) (h2 : PySem.W.kitOne K (.type "bool") (.type T) = some (T == "bool" || T == "int"))
    (h3 : PySem.W.kitOne K (.type "int") (.type T) = some ("int" == T)) (h4 : PySem.W.kitOne K (.type "str") (.type T) = some ("str" == T)) (h5 : PySem.W.kitOne K (.type "list") (.type T) = some ("list" == T))
    (h6 : PySem.W.kitOne K (.type "tuple") (.type T) = some ("tuple" == T)) (h7 : PySem.W.kitOne K (.type "dict") (.type T) = some ("dict" == T)) : Kit K T := ⟨fun d => by
  cases d with
  | non => exact h1
  | bl _ => exact h2
  | int _ => exact h3
  | str _ => exact h4
  | lst _ => exact h5
  | tup _ => exact h6
  | dic _ => exact h7
  | ins _ _ => exact True.intro
  | err _ => exact True.intro⟩
theorem kit_int {K : PySem.W.Frag} : Kit K "int" := kit_of (by rfl) (by rfl) (by rfl) (by rfl) (by rfl) (by rfl) (by rfl)
theorem kit_bool {K : PySem.W.Frag} : Kit K "bool" := kit_of (by rfl) (by rfl) (by rfl) (by rfl) (by rfl) (by rfl) (by rfl)
theorem kit_list {K : PySem.W.Frag} : Kit K "list" := kit_of (by rfl) (by rfl) (by rfl) (by rfl) (by rfl) (by rfl) (by rfl)
def sAppend (i : Nat) (E : SD → Out D) : SD → Out Fl := fun ς => match ς[i]? with
  | some (some (.o, .lst xs)) => E ς >>= fun d => if decide (xs.length < sizeLine) = true then .ok (.nx (ς.set i (some (.o, .lst (xs ++ [d]))))) else .stuck
  | _ => .stuck
def sPutO (i : Nat) (I E : SD → Out D) : SD → Out Fl := fun ς => E ς >>= fun d => match ς[i]? with
  | some (some (.o, .lst xs)) => I ς >>= fun k => match k with
    | .int k => optO (ixN xs.length k) >>= fun j => .ok (.nx (ς.set i (some (.o, .lst (xs.set j d)))))
    | _ => .stuck
  | _ => .stuck
section
variable {C : Dc} {G H : Hp} {σ : St} {ς : SD}
theorem set_self {α : Type} {xs : List α} {i : Nat} {x : α} (h : xs[i]? = some x) : xs.set i x = xs := by
  obtain ⟨hi, e⟩ := List.getElem?_eq_some_iff.mp h
  rw [← e]; exact List.set_getElem_self hi
theorem StR.write (S : StR C G H σ ς) {i : Nat} {p : Addr} {xs ys : List D} {vs ws : List V} (hi : ς[i]? = some (some (.o, .lst xs))) (hp : σ[i]? = some (some (.ref p))) (hH : H p = some (.lst vs)) (r : RepL C.X.K C.CT G ys ws) :
    StR C G (upd H p (.lst ws)) σ (ς.set i (some (.o, .lst ys))) := by
  obtain ⟨p', e1, hg, h0, ow⟩ := S.ow i _ hi
  rw [hp] at e1; cases e1
  have hil : i < ς.length := (List.getElem?_eq_some_iff.mp hi).1
  have ne : ∀ b o, G b = some o → b ≠ p := fun b o e z => by subst z; rw [hg] at e; cases e
  have S' : StR C G (upd H p (.lst ws)) (σ.set i (some (.ref p))) (ς.set i (some (.o, .lst ys))) := {
    sub := fun b o e => by rw [upd_ne (ne b o e)]; exact S.sub b o e
    g0 := S.g0
    new := S.new
    fr := fun b o e m => by
      rw [upd_ne (by rintro rfl; rw [h0] at e; cases e)]; exact S.fr b o e m
    dom := fun b e => by
      by_cases hb : b = p
      · subst hb; exact h0
      · rw [upd_ne hb] at e; exact S.dom b e
    bs := fun b o e => by
      rw [upd_ne (by rintro rfl; rw [S.bh _ h0] at e; cases e)]; exact S.bs b o e
    bh := S.bh
    len := by rw [List.length_set, List.length_set]; exact S.len
    fz := fun j d h => by
      rcases get_set h with ⟨rfl, h2, l⟩ | ⟨hne, h2⟩
      · cases h2
      · rw [set_get_ne hne]; exact S.fz j d h2
    ow := fun j d h => by
      rcases get_set h with ⟨rfl, h2, l⟩ | ⟨hne, h2⟩
      · cases h2
        exact ⟨p, set_get (by rw [S.len]; exact l), hg, h0, ⟨ws, upd_same, r⟩⟩
      · rw [set_get_ne hne]
        obtain ⟨q, a, b, c, w⟩ := S.ow j d h2
        have qp : q ≠ p := by
          rintro rfl
          exact S.inj i j _ _ q hne hi h2 hp a
        exact ⟨q, a, b, c, w.mono (Same.refl G) fun o z => by rw [upd_ne qp]; exact z⟩
    ln := fun j d h => by
      rcases get_set h with ⟨rfl, h2, l⟩ | ⟨hne, h2⟩
      · cases h2
      · rw [set_get_ne hne]; exact S.ln j d h2
    inj := fun j k d1 d2 q hjk h1 h2 h3 => by
      have get : ∀ (j : Nat) d, (ς.set i (some (.o, D.lst ys)))[j]? = some (some (.o, d)) → ∃ d', ς[j]? = some (some (.o, d')) := fun j d h => by
        rcases get_set h with ⟨rfl, h2, l⟩ | ⟨hne, h2⟩
        · exact ⟨_, hi⟩
        · exact ⟨_, h2⟩
      obtain ⟨d1', g1⟩ := get j d1 h1
      obtain ⟨d2', g2⟩ := get k d2 h2
      rw [set_self hp] at h3 ⊢
      exact S.inj j k d1' d2' q hjk g1 g2 h3
    sf := fun j d h => by
      rcases get_set h with ⟨rfl, h2, l⟩ | ⟨hne, h2⟩
      · cases h2
      · rw [set_get_ne hne]
        obtain ⟨q, a, b, c, m, z, w⟩ := S.sf j d h2
        have qp : q ≠ p := by
          rintro rfl
          exact c h0
        exact ⟨q, a, b, c, m, z, w.mono (Same.refl G) fun o z => by rw [upd_ne qp]; exact z⟩
    su := fun j k d1 d2 h1 h2 => by
      rcases get_set h1 with ⟨rfl, q1, l⟩ | ⟨n1, q1⟩
      · cases q1
      · rcases get_set h2 with ⟨rfl, q2, l⟩ | ⟨n2, q2⟩
        · cases q2
        · exact S.su j k d1 d2 q1 q2 }
  rw [set_self hp] at S'
  exact S'
variable {a e : Expr} {A E : SD → Out D} {pos p1 p2 p3 : Pos} {x : Str}
theorem ds_append (i : Nat) (he : DE C e E) (hN : C.X.N[i]? = some x := by rfl) (hv : Vis C.X.env.scope x := by first | exact Or.inl rfl | exact Or.inr (Or.inl rfl) | exact Or.inr (Or.inr rfl))
    (hd : (x == ("__debug__" : Str)) = false := by decide) (hcd : (x == ("__classdict__" : Str)) = false := by decide)
    (hbase : attributeBase (.Name x p1) "append" C.X.env (eval (.Name x p1) C.X.env) = eval (.Name x p1) C.X.env := by rfl)
    (hfew : ((backTo p3 (starEach (e :: []) C.X.env)).all (fun x => !x.1) && (backToKw p3 (keywordEach [] C.X.env)).all (fun x => x.1.isSome)
      && decide ((e :: []).length + ([] : List Keyword).length + (if ([] : List Keyword).isEmpty then 0 else 1) < 30)) = true := by rfl)
    (hline : (p2.endLine == p3.line) = true := by rfl) (hs : starEach (e :: []) C.X.env = (false, eval e C.X.env) :: starEach [] C.X.env := by rfl)
    (hsw : swapsWith (.Call (.Attribute (.Name x p1) "append" p2) [e] [] p3) none pos.line C.X.env = pure false := by rfl) :
    DS C (.Expr (.Call (.Attribute (.Name x p1) "append" p2) [e] [] p3) pos) (sAppend i E) := by
  obtain ⟨t, p, q⟩ := he
  refine ⟨_, ps_expr (pe_bm PySem.F.plainAttrs_list PySem.F.slot_list_append PySem.F.type_list_append mt_append (pe_var (i := i) hN hv hd hcd) (pa_cons p pa_nil hs) hbase hfew hline hs rfl) hsw, fun G H σ ς W S k => ?_⟩
  unfold sAppend at k
  split at k
  · rename_i xs z
    obtain ⟨pp, e1, hg, h0, ow⟩ := S.ow i _ z
    obtain ⟨vs, hv1, hv2⟩ := ow
    rw [Out.post_bind] at k
    refine ⟨_, e1, .inl ⟨rfl, vs, SqL.of hv1⟩, q G H σ ς _ S (Out.post_mono k fun d k2 v H1 G1 S1 a1 b1 r1 => ?_)⟩
    rcases post_ite k2 with ⟨hc, k3⟩ | ⟨_, k3⟩
    · have hl := hv2.length
      refine ⟨pp, vs, v, rfl, rfl, a1 _ _ hv1, by rw [← hl]; exact of_decide_eq_true hc, ?_⟩
      exact k3 σ _ G1 (S1.write z e1 (a1 _ _ hv1) ((RepL.mono b1 xs vs hv2).append (RepL.one r1))) b1
    · exact k3.elim
  · exact k.elim
theorem ds_putO (i : Nat) (hi : DB C a A) (he : DE C e E) (hN : C.X.N[i]? = some x := by rfl) (hv : Vis C.X.env.scope x := by first | exact Or.inl rfl | exact Or.inr (Or.inl rfl) | exact Or.inr (Or.inr rfl))
    (hd : (x == ("__debug__" : Str)) = false := by decide) (hcd : (x == ("__classdict__" : Str)) = false := by decide)
    (hst : ∀ v, assign (.Subscript (.Name x p1) a p2) C.X.env v = (do
      let ov ← holding [v] (eval (.Name x p1) C.X.env)
      let iv ← holding [v, ov] (eval a C.X.env)
      standAt p2
      holding [v, ov, iv] (setItem ov iv v)
      release [v, ov, iv] []) := by intro _; rfl)
    (hs : swapsWithSole [.Subscript (.Name x p1) a p2] e pos.line C.X.env = pure false := by rfl) (hw : swappedStores [.Subscript (.Name x p1) a p2] e C.X.env = pure none := by rfl)
    (h1 : (assignEach [.Subscript (.Name x p1) a p2] C.X.env).map (·.2) = [assign (.Subscript (.Name x p1) a p2) C.X.env] := by rfl) : DS C (.Assign [.Subscript (.Name x p1) a p2] e pos) (sPutO i A E) := by
  obtain ⟨t, p, q⟩ := he
  obtain ⟨t2, p2, q2⟩ := hi
  refine ⟨_, ps_asg p (pg_sub (pe_var (i := i) hN hv hd hcd) p2 set_list hst) hs hw h1, fun G H σ ς W S k => ?_⟩
  unfold sPutO at k
  rw [Out.post_bind] at k
  refine q G H σ ς _ S (Out.post_mono k fun d k v H1 G1 S1 a1 b1 r1 => ?_)
  split at k
  · rename_i xs z
    obtain ⟨pp, e1, hg, h0, ow⟩ := S1.ow i _ z
    obtain ⟨vs, hv1, hv2⟩ := ow
    rw [Out.post_bind] at k
    refine ⟨_, e1, q2 G1 H1 σ ς _ S1 (Out.post_mono k fun y k2 w H2 G2 S2 a2 b2 r2 => ?_)⟩
    cases y with
    | int j =>
      cases r2
      have k2' : (optO (ixN xs.length j) >>= fun j => Out.ok (Fl.nx (ς.set i (some (.o, D.lst (xs.set j d)))))).post (FlK C G W) C.XD := k2
      rw [Out.post_bind] at k2'
      obtain ⟨jj, ej, k3⟩ := post_opt k2'
      refine ⟨pp, vs, j, jj, rfl, rfl, a2 _ _ hv1, by rw [← hv2.length]; exact ej, ?_⟩
      exact k3 σ _ G2 (S2.write z e1 (a2 _ _ hv1) ((RepL.mono b2 xs vs hv2).set (Rep.mono b2 d v r1) jj)) (b1.trans b2)
    | _ => exact k2.elim
  · exact k.elim
end
end DL
set_option Elab.async false
set_option linter.all false
set_option maxRecDepth 100000
namespace DL
open PySem PySem.Spec PyProof.Rows L2
structure DIt (K : PySem.W.Frag) (CT : CTab) (G1 : Hp) (J : It) (ds : List D) : Prop where
  go : ∀ G H (i : Nat) d, Same G1 G → Same G H → ds[i]? = some d → J.go i H ∧ ∀ x H', J.yld i H x H' → ∃ G', Same G G' ∧ Same H H' ∧ Same G' H' ∧ (∀ b, G b = none → G' b ≠ none → H b = none) ∧ Rep K CT G' d x
  stop : ∀ G H, Same G1 G → Same G H → J.stop ds.length H
structure DItB (K : PySem.W.Frag) (CT : CTab) (B1 G1 : Hp) (J : It) (ds : List D) : Prop where
  go : ∀ G H (i : Nat) d, Same G1 G → Same G H → Same B1 H → ds[i]? = some d → J.go i H ∧ ∀ x H', J.yld i H x H' → ∃ G', Same G G' ∧ Same H H' ∧ Same G' H' ∧ (∀ b, G b = none → G' b ≠ none → H b = none) ∧ Rep K CT G' d x
  stop : ∀ G H, Same G1 G → Same G H → Same B1 H → J.stop ds.length H
theorem DIt.b {K : PySem.W.Frag} {CT : CTab} {B1 G1 : Hp} {J : It} {ds : List D} (h : DIt K CT G1 J ds) : DItB K CT B1 G1 J ds := ⟨fun G H i d a b _ e => h.go G H i d a b e, fun G H a b _ => h.stop G H a b⟩
def DIB (C : Dc) (tg iter : Expr) (its : SD → Out (List D)) : Prop := ∃ wi, PI C.X tg iter wi ∧ ∀ G H σ ς (R : It → Hp → Prop), StR C G H σ ς →
  (its ς).post (fun ds => ∀ J H1 G1, StR C G1 H1 σ ς → Same H H1 → Same G G1 → DItB C.X.K C.CT H1 G1 J ds → R J H1) C.XD → wi σ H R
def DI (C : Dc) (tg iter : Expr) (its : SD → Out (List D)) : Prop := ∃ wi, PI C.X tg iter wi ∧ ∀ G H σ ς (R : It → Hp → Prop), StR C G H σ ς →
  (its ς).post (fun ds => ∀ J H1 G1, StR C G1 H1 σ ς → Same H H1 → Same G G1 → DIt C.X.K C.CT G1 J ds → R J H1) C.XD → wi σ H R
section
variable {C : Dc} {e tg iter : Expr} {E : SD → Out D} {body : List Stmt} {T U : SD → Out Fl} {pos : Pos} {g : D → SD → Out SD} {its : SD → Out (List D)}
theorem DI.b (h : DI C tg iter its) : DIB C tg iter its := by
  obtain ⟨wi, p, q⟩ := h
  exact ⟨wi, p, fun G H σ ς R S k => q G H σ ς R S (Out.post_mono k fun ds kd J H1 G1 S1 a b dit => kd J H1 G1 S1 a b dit.b)⟩
theorem dit_list {K : PySem.W.Frag} {CT : CTab} {G1 : Hp} {a : Addr} {ds : List D} {vs : List V} (h : SqL K G1 a vs) (r : RepL K CT G1 ds vs) : DIt K CT G1 (Itl K a) ds where
  go := fun G H i d s1 sH hd => by
    obtain ⟨v, hv, rv⟩ := r.get hd
    have hq : SqL K H a vs := sH.seq (s1.seq h)
    refine ⟨⟨vs, v, hq, hv⟩, fun x H' ⟨e, y⟩ => ?_⟩
    have ex : vs[i]? = some x := y vs hq
    rw [hv] at ex; cases ex
    subst e
    exact ⟨G, Same.refl _, Same.refl _, sH, fun b g n => absurd g n, Rep.mono s1 d v rv⟩
  stop := fun G H s1 sH => ⟨vs, sH.seq (s1.seq h), by rw [r.length]; exact Nat.le_refl _⟩
theorem dit_range {K : PySem.W.Frag} {CT : CTab} {G1 : Hp} {lo : Int} {n : Nat} : DIt K CT G1 (Itr lo n) (rangeD lo n) where
  go := fun G H i d s1 sH hd => by
    have hi : i < n := by
      have := (List.getElem?_eq_some_iff.mp hd).1
      rw [rangeD_len] at this; exact this
    rw [rangeD_get hi] at hd; cases hd
    exact ⟨hi, fun x H' ⟨e, y⟩ => by
      subst e y
      exact ⟨G, Same.refl _, Same.refl _, sH, fun b g n => absurd g n, rfl⟩⟩
  stop := fun G H s1 sH => by rw [rangeD_len]; exact Nat.le_refl _
theorem di_list (h : DE C iter E) : DI C tg iter (itL E) := by
  obtain ⟨t, p, q⟩ := h
  refine ⟨_, pi_list p, fun G H σ ς R S k => ?_⟩
  unfold itL at k
  rw [Out.post_bind] at k
  refine q G H σ ς _ S (Out.post_mono k fun d k v H1 G1 S1 a1 b1 r1 => ?_)
  cases d with
  | lst xs =>
    obtain ⟨a, vs, rfl, h2, h3⟩ := r1
    exact ⟨a, rfl, ⟨vs, S1.sub.seq h2⟩, k _ H1 G1 S1 a1 b1 (dit_list h2 h3)⟩
  | _ => exact k.elim
theorem di_range1 {a : Expr} {A : SD → Out D} {p1 p2 : Pos} (hgl : Gl C.X "range") (hm : C.X.mg "range" = none) (ha : DB C a A)
    (hst : starEach [a] C.X.env = (false, eval a C.X.env) :: starEach [] C.X.env := by rfl) : DI C tg (.Call (.Name "range" p1) [a] [] p2) (itR1 A) := by
  obtain ⟨t, p, q⟩ := ha
  refine ⟨_, pi_range1 hgl hm (pa_cons p pa_nil hst) hst, fun G H σ ς R S k => ?_⟩
  unfold itR1 at k
  rw [Out.post_bind] at k
  refine q G H σ ς _ S (Out.post_mono k fun d k v H1 G1 S1 a1 b1 r => ?_)
  cases d with
  | int n =>
    cases r
    rcases post_ite k with ⟨hc, k⟩ | ⟨_, k⟩
    · obtain ⟨c1, c2⟩ := small62_of hc
      exact ⟨n, rfl, c1, c2, k _ H1 G1 S1 a1 b1 dit_range⟩
    · exact k.elim
  | _ => exact k.elim
theorem ds_forI (hp : PassesOwn (model C.X.prog C.X.w) C.X.A C.X.env C.X.xe) (hc : C.X.calm = true) (hi : DI C tg iter its) (hg : DG C tg g) (hne : noExc g) (hb : DSs C body T)
    (hs : ∀ x, foldedSetIterable iter C.X.env x = pure x := by intro _; rfl) : DS C (.For tg iter body [] pos) (sFor g its T) := by
  obtain ⟨t0, p0, q0⟩ := hi
  obtain ⟨t1, p1, q1⟩ := hg
  obtain ⟨t2, p2, q2⟩ := hb
  refine ⟨_, ps_for hp hc p0 p1 p2 hs, fun G H σ ς W S k => ?_⟩
  unfold sFor at k
  rw [Out.post_bind] at k
  refine q0 G H σ ς _ S (Out.post_mono k fun xs k J H1 G1 S1 a1 b1 dit => ?_)
  refine ⟨fun i m σ' H' => m = xs.length - i ∧ i ≤ xs.length ∧ ∃ G' ς', StR C G' H' σ' ς' ∧ Same G1 G' ∧ (loopD (fun x ς => g x ς >>= fun ς' => T ς') (xs.drop i) ς').post (FlK C G' W) C.XD,
    ⟨xs.length, by simp, Nat.zero_le _, G1, ς, S1, Same.refl _, Out.post_mono (by simpa using k) fun f k => FlK.later k b1⟩, ?_⟩
  rintro i m σ' H' ⟨rfl, hle, G', ς', S', s', q'⟩
  by_cases hlt : i < xs.length
  · have hd : xs[i]? = some xs[i] := by simp [hlt]
    obtain ⟨hgo, hy⟩ := dit.go G' H' i _ s' S'.sub hd
    refine .inr ⟨hgo, fun σ2 H2 => ∃ G2 ς2, StR C G2 H2 σ2 ς2 ∧ Same G1 G2 ∧ (loopD (fun x ς => g x ς >>= fun ς' => T ς') (xs.drop (i + 1)) ς2).post (FlK C G2 W) C.XD,
      fun σ2 H2 h2 => ⟨xs.length - (i + 1), by omega, rfl, hlt, h2⟩, fun x H'' y => ?_⟩
    obtain ⟨G'', g1, h1, s1, n1, r⟩ := hy x H'' y
    rw [drop_cons hd] at q'
    exact turnD hne q1 q2 (S'.grow h1 g1 s1 n1) r (Out.post_mono q' fun f k => FlK.later k g1) fun σ2 H2 G2 ς2 S2 s2 q2 => ⟨G2, ς2, S2, (s'.trans g1).trans s2, q2⟩
  · have e : i = xs.length := by omega
    subst e
    rw [List.drop_length] at q'
    exact .inl ⟨dit.stop G' H' s' S'.sub, q' σ' H' G' S' (Same.refl _)⟩
end
def compM (f : D → Out (Option D)) : List D → Out (List D)
  | [] => .ok []
  | x :: xs => f x >>= fun o => compM f xs >>= fun ys => .ok (o.toList ++ ys)
def captS (ς : SD) (j : Nat) : Option (SM × D) := match ς[j]? with
  | some (some (.k, d)) => some (.k, d)
  | some (some (_, d)) => some (.l, d)
  | _ => none
def captD (js : List (Option Nat)) (ς : SD) : SD := js.map fun j => j.bind (captS ς)
def turnC (js : List (Option Nat)) (g : D → SD → Out SD) (c : SD → Out Bool) (e : SD → Out D) (ς : SD) (x : D) : Out (Option D) :=
  g x (captD js ς) >>= fun τ => c τ >>= fun b => if b = true then e τ >>= fun y => .ok (some y) else .ok none
def eComp (js : List (Option Nat)) (its : SD → Out (List D)) (g : D → SD → Out SD) (c : SD → Out Bool) (e : SD → Out D) : SD → Out D := fun ς =>
  its ς >>= fun xs => compM (turnC js g c e ς) xs >>= fun ys => if fits ys.length = true then .ok (.lst ys) else .stuck
def DIf (C : Dc) (ifs : List Expr) (T : SD → Out Bool) : Prop := ∃ t, PIf C.X ifs t ∧ ∀ G H σ ς Q, StR C G H σ ς → (T ς).post (KT C G H σ ς Q) C.XD → t σ H Q
def cTrue : SD → Out Bool := fun _ => .ok true
theorem dif_nil {C : Dc} : DIf C [] cTrue := ⟨_, pif_nil, fun G H σ ς Q S q => KT.now q S⟩
def gKeep (g : D → SD → Out SD) (τ0 : SD) : Prop := ∀ x τ, g x τ0 = .ok τ → τ.length = τ0.length ∧ ∀ (i : Nat) md, τ0[i]? = some (some md) → τ[i]? = some (some md)
theorem gKeep_gN {i : Nat} {τ0 : SD} (h : τ0[i]? = some none) : gKeep (gN i) τ0 := by
  intro x τ e
  cases e
  refine ⟨List.length_set .., fun j md hj => ?_⟩
  rw [set_get_ne (by rintro rfl; rw [h] at hj; cases hj)]; exact hj
theorem keep_setAll : ∀ (is : List Nat) (ds : List D) (τ0 τ : SD), (∀ i ∈ is, ∀ md, τ0[i]? = some (some md) → False) → setAll is ds τ0 = .ok τ → τ.length = τ0.length ∧ ∀ (i : Nat) md, τ0[i]? = some (some md) → τ[i]? = some (some md)
  | [], [], τ0, τ, _, e => by cases e; exact ⟨rfl, fun _ _ h => h⟩
  | i :: is, d :: ds, τ0, τ, h, e => by
    have e' : setAll is ds (τ0.set i (some (.k, d))) = .ok τ := e
    -- the later targets may meet the stored one again: only what was there ahead is kept
    have go : ∀ (is : List Nat) (ds : List D) (τ1 τ : SD), τ1.length = τ0.length → (∀ i ∈ is, ∀ md, τ0[i]? = some (some md) → False) → (∀ (i : Nat) md, τ0[i]? = some (some md) → τ1[i]? = some (some md)) → setAll is ds τ1 = .ok τ →
        τ.length = τ0.length ∧ ∀ (i : Nat) md, τ0[i]? = some (some md) → τ[i]? = some (some md) := by
      intro is
      induction is with
      | nil => intro ds τ1 τ hl _ hk e; cases ds with
        | nil => cases e; exact ⟨hl, hk⟩
        | cons _ _ => cases e
      | cons i is ih => intro ds τ1 τ hl hn hk e; cases ds with
        | nil => cases e
        | cons d ds =>
          refine ih ds _ τ (by rw [List.length_set]; exact hl) (fun j hj => hn j (List.mem_cons_of_mem _ hj)) (fun j md hj => ?_) e
          rw [set_get_ne (by rintro rfl; exact hn _ List.mem_cons_self md hj)]; exact hk j md hj
    refine go is ds _ τ (List.length_set ..) (fun j hj => h j (List.mem_cons_of_mem _ hj)) (fun j md hj => ?_) e'
    rw [set_get_ne (by rintro rfl; exact h _ List.mem_cons_self md hj)]; exact hj
  | [], _ :: _, _, _, _, e => by cases e
  | _ :: _, [], _, _, _, e => by cases e
theorem gKeep_gT {is : List Nat} {τ0 : SD} (h : ∀ i ∈ is, τ0[i]? = some none) : gKeep (gT is) τ0 := by
  intro x τ e
  cases x with
  | tup ds => exact keep_setAll is ds τ0 τ (fun i hi md z => by rw [h i hi] at z; cases z) e
  | _ => cases e
theorem captD_none {js : List (Option Nat)} {i : Nat} (h : js[i]? = some none) (ς : SD) : (captD js ς)[i]? = some none := by
  unfold captD
  rw [List.getElem?_map, h]; rfl
section
variable {C : Dc} {G H : Hp} {σ : St} {ς : SD}
theorem StR.weak {ς' : SD} (S : StR C G H σ ς') (hl : ς'.length = ς.length) (h : ∀ (i : Nat) md, ς[i]? = some (some md) → ς'[i]? = some (some md)) : StR C G H σ ς :=
  { S with len := by rw [S.len, hl], fz := fun i d e => S.fz i d (h i _ e), ow := fun i d e => S.ow i d (h i _ e), ln := fun i d e => S.ln i d (h i _ e), inj := fun i j d e p n h1 h2 => S.inj i j d e p n (h i _ h1) (h j _ h2), sf := fun i d e => S.sf i d (h i _ e), su := fun i j d e h1 h2 => S.su i j d e (h i _ h1) (h j _ h2) }
theorem StR.updM (S : StR C G H σ ς) {p : Addr} {o : HO} (hM : C.M p) (h0 : C.X.H₀ p ≠ none) (hno : ∀ (i : Nat) d, ς[i]? ≠ some (some (.s, d))) (hB : C.B p = none) (hg : G p = none) : StR C G (upd H p o) σ ς where
  sub := fun b u e => by rw [upd_ne (by rintro rfl; rw [hg] at e; cases e)]; exact S.sub b u e
  g0 := S.g0
  new := S.new
  fr := fun b u e m => by rw [upd_ne (by rintro rfl; exact m hM)]; exact S.fr b u e m
  dom := fun b e => by
    by_cases hb : b = p
    · subst hb; rw [upd_same] at e; cases e
    · rw [upd_ne hb] at e; exact S.dom b e
  bs := fun b u e => by rw [upd_ne (by rintro rfl; rw [hB] at e; cases e)]; exact S.bs b u e
  bh := S.bh
  len := S.len
  fz := S.fz
  ow := fun i d e => by
    obtain ⟨q, a, b, c, w⟩ := S.ow i d e
    exact ⟨q, a, b, c, w.mono (Same.refl G) fun u z => by rw [upd_ne (by rintro rfl; exact h0 c)]; exact z⟩
  ln := S.ln
  inj := S.inj
  sf := fun i d e => absurd e (hno i d)
  su := S.su
abbrev ccOf (C : Dc) (N' : List Str) (scope : Scope) (fp : List Addr) (s : Shared) (H1 G1 : Hp) (p : Addr) : Dc :=
  { X := cxC C.X N' scope fp s (upd H1 p (.lst [])), CT := C.CT, G0 := G1, XD := fun _ => False, B := H1, M := fun b => b = p }
theorem captD_get {js : List (Option Nat)} {i : Nat} {md : SM × D} (h : (captD js ς)[i]? = some (some md)) : ∃ j, js[i]? = some (some j) ∧ captS ς j = some md := by
  unfold captD at h
  rw [List.getElem?_map] at h
  cases e : js[i]? with
  | none => rw [e] at h; cases h
  | some o =>
    rw [e] at h
    cases o with
    | none => cases h
    | some j => exact ⟨j, rfl, Option.some.inj h⟩
theorem capt_get {js : List (Option Nat)} {i j : Nat} {v : V} (h : js[i]? = some (some j)) (hv : σ[j]? = some (some v)) : (capt js σ)[i]? = some (some v) := by
  unfold capt
  rw [List.getElem?_map, h]
  show some ((σ[j]?).join) = _
  rw [hv]; rfl
theorem captS_cases {j : Nat} {m : SM} {d : D} (h : captS ς j = some (m, d)) : (m = .k ∧ ς[j]? = some (some (.k, d))) ∨ (m = .l ∧ (ς[j]? = some (some (.o, d)) ∨ ς[j]? = some (some (.l, d)) ∨ ς[j]? = some (some (.s, d)))) := by
  unfold captS at h
  split at h
  · rename_i d' e; cases h; exact .inl ⟨rfl, e⟩
  · rename_i m' d' hne e
    cases h
    cases m' with
    | k => exact (hne rfl).elim
    | o => exact .inr ⟨rfl, .inl e⟩
    | l => exact .inr ⟨rfl, .inr (.inl e)⟩
    | s => exact .inr ⟨rfl, .inr (.inr e)⟩
  · cases h
theorem captD_no {js : List (Option Nat)} {i : Nat} {d : D} (h : (captD js ς)[i]? = some (some (.s, d))) : False := by
  obtain ⟨j, h1, h2⟩ := captD_get h
  rcases captS_cases h2 with ⟨h3, _⟩ | ⟨h3, _⟩ <;> cases h3
theorem StR.comp {N' : List Str} {scope : Scope} {fp : List Addr} {s : Shared} {js : List (Option Nat)} {p : Addr} (S : StR C G H σ ς) (hp : H p = none) : StR (ccOf C N' scope fp s H G p) G (upd H p (.lst [])) (capt js σ) (captD js ς) where
  sub := S.sub.trans (same_upd hp)
  g0 := Same.refl _
  new := fun b h1 h2 => absurd h1 h2
  fr := fun b o e _ => e
  dom := fun b e => e
  bs := same_upd hp
  bh := fun b e => by
    have e' : upd H p (.lst []) b = none := e
    by_cases hb : b = p
    · subst hb; exact hp
    · rw [upd_ne hb] at e'; exact e'
  len := by unfold capt captD; rw [List.length_map, List.length_map]
  fz := fun i d e => by
    obtain ⟨j, h1, h2⟩ := captD_get e
    rcases captS_cases h2 with ⟨_, h3⟩ | ⟨h3, _⟩
    · obtain ⟨v, a, b⟩ := S.fz j d h3
      exact ⟨v, capt_get h1 a, b⟩
    · cases h3
  ow := fun i d e => by
    obtain ⟨j, h1, h2⟩ := captD_get e
    rcases captS_cases h2 with ⟨h3, _⟩ | ⟨h3, _⟩ <;> cases h3
  ln := fun i d e => by
    obtain ⟨j, h1, h2⟩ := captD_get e
    rcases captS_cases h2 with ⟨h3, _⟩ | ⟨_, h3 | h3 | h3⟩
    · cases h3
    · obtain ⟨q, a, _, _, w⟩ := S.ow j d h3
      exact ⟨_, capt_get h1 a, w.rep S.sub⟩
    · obtain ⟨v, a, b⟩ := S.ln j d h3
      exact ⟨v, capt_get h1 a, Rep.mono S.bs d v b⟩
    · obtain ⟨q, a, _, _, _, _, w⟩ := S.sf j d h3
      exact ⟨_, capt_get h1 a, w.rep S.sub⟩
  inj := fun i j d e q _ h => by
    obtain ⟨j, h1, h2⟩ := captD_get h
    rcases captS_cases h2 with ⟨h3, _⟩ | ⟨h3, _⟩ <;> cases h3
  sf := fun i d e => (captD_no e).elim
  su := fun i j d e h => (captD_no h).elim
variable {N' : List Str} {js : List (Option Nat)} {scope : Scope} {tg iter elt : Expr} {ifs : List Expr} {its : SD → Out (List D)} {g : D → SD → Out SD} {c : SD → Out Bool} {e : SD → Out D} {pos : Pos}
theorem compW_of {J : It} {xs : List D} {p : Addr} {fp : List Addr} {s : Shared} {Q : VK} (S : StR C G H σ ς) (hp : H p = none) (dit : DItB C.X.K C.CT H G J xs) (hx : ∀ x, ¬ C.XD x) (hk : gKeep g (captD js ς)) (hne : noExc g)
    (hin : DG (ccOf C N' scope fp s H G p) tg g ∧ DIf (ccOf C N' scope fp s H G p) ifs c ∧ DE (ccOf C N' scope fp s H G p) elt e)
    (q : (compM (turnC js g c e ς) xs >>= fun ys => if fits ys.length = true then Out.ok (D.lst ys) else .stuck).post (fun d => ∀ H' G', StR C G' H' σ ς → Same H H' → Same G G' → G' p = none → Own C.X.K C.CT G' H' p d → Q (.ref p) H') C.XD) :
    CompW (cxC C.X N' scope fp s (upd H p (.lst []))) js tg elt ifs σ H J p Q := by
  obtain ⟨⟨tt, pg, hg⟩, ⟨tcc, pif, hcI⟩, ⟨te, pe, he⟩⟩ := hin
  generalize hτ : captD js ς = τ0 at hk
  have S0 : StR (ccOf C N' scope fp s H G p) G (upd H p (.lst [])) (capt js σ) τ0 := by rw [← hτ]; exact S.comp hp
  refine ⟨fun i m τ H' => m = xs.length - i ∧ i ≤ xs.length ∧ ∃ G' acc vs, StR (ccOf C N' scope fp s H G p) G' H' τ τ0 ∧ H' p = some (.lst vs) ∧ RepL C.X.K C.CT G' acc vs ∧ G' p = none ∧
    (compM (turnC js g c e ς) (xs.drop i)).post (fun ys => (if fits (acc ++ ys).length = true then Out.ok (D.lst (acc ++ ys)) else .stuck).post (fun d => ∀ H' G', StR C G' H' σ ς → Same H H' → Same G G' → G' p = none → Own C.X.K C.CT G' H' p d → Q (.ref p) H') C.XD) C.XD,
    ⟨xs.length, by simp, Nat.zero_le _, G, [], [], S0, upd_same, rfl, S.sub.free hp, by rw [Out.post_bind] at q; simpa using q⟩, ?_⟩
  rintro i m τ H' ⟨rfl, hle, G', acc, vs, S', hp', r', hg', q'⟩
  have hH0 : (ccOf C N' scope fp s H G p).X.H₀ p ≠ none := by
    show upd H p (.lst []) p ≠ none
    rw [upd_same]; simp
  by_cases hlt : i < xs.length
  · have hd : xs[i]? = some xs[i] := by simp [hlt]
    obtain ⟨hgo, hy⟩ := dit.go G' H' i _ S'.g0 S'.sub S'.bs hd
    refine .inr ⟨hgo, fun τ2 H2 => i + 1 ≤ xs.length ∧ ∃ G' acc vs, StR (ccOf C N' scope fp s H G p) G' H2 τ2 τ0 ∧ H2 p = some (.lst vs) ∧ RepL C.X.K C.CT G' acc vs ∧ G' p = none ∧
      (compM (turnC js g c e ς) (xs.drop (i + 1))).post (fun ys => (if fits (acc ++ ys).length = true then Out.ok (D.lst (acc ++ ys)) else .stuck).post (fun d => ∀ H' G', StR C G' H' σ ς → Same H H' → Same G G' → G' p = none → Own C.X.K C.CT G' H' p d → Q (.ref p) H') C.XD) C.XD,
      fun τ2 H2 h2 => ⟨xs.length - (i + 1), by omega, rfl, h2⟩, fun x H'' y => ?_⟩
    obtain ⟨G'', g1, h1, s1, n1, r⟩ := hy x H'' y
    have S'' := S'.grow h1 g1 s1 n1
    have hgp : G'' p = none := by
      cases z : G'' p with
      | none => rfl
      | some o =>
        have := n1 p hg' (by rw [z]; simp)
        rw [hp'] at this; cases this
    rw [drop_cons hd, compM, Out.post_bind] at q'
    have tu : turnC js g c e ς xs[i] = (g xs[i] τ0 >>= fun τ => c τ >>= fun b => if b = true then e τ >>= fun y => Out.ok (some y) else Out.ok none) := by unfold turnC; rw [hτ]
    rw [tu, Out.post_bind] at q'
    cases z : g xs[i] τ0 with
    | exc w => exact absurd z (hne _ _ _)
    | stuck => rw [z] at q'; exact q'.elim
    | ok τ1 =>
      rw [z] at q'
      obtain ⟨hl1, hk1⟩ := hk _ _ z
      refine ⟨tt, pg, hg G'' H'' τ τ0 xs[i] x τ1 _ S'' r z fun τ2 S2 => ?_⟩
      have q2 : (c τ1 >>= fun b => if b = true then e τ1 >>= fun y => Out.ok (some y) else Out.ok none).post _ _ := q'
      rw [Out.post_bind] at q2
      -- no refusal leaves the block
      have q3 : (c τ1).post (fun b => (if b = true then e τ1 >>= fun y => Out.ok (some y) else Out.ok none).post (fun o => (compM (turnC js g c e ς) (xs.drop (i + 1)) >>= fun ys => Out.ok (o.toList ++ ys)).post (fun ys => (if fits (acc ++ ys).length = true then Out.ok (D.lst (acc ++ ys)) else .stuck).post (fun d => ∀ H' G', StR C G' H' σ ς → Same H H' → Same G G' → G' p = none → Own C.X.K C.CT G' H' p d → Q (.ref p) H') C.XD) C.XD) C.XD) (fun _ => False) := by
        cases w : c τ1 with
        | ok b => rw [w] at q2; exact q2
        | exc w' => rw [w] at q2; exact absurd q2 (hx _)
        | stuck => rw [w] at q2; exact q2.elim
      refine ⟨tcc, pif, hcI G'' H'' τ2 τ1 _ S2 (Out.post_mono q3 fun b kb H3 G3 S3 a3 b3 => ?_)⟩
      have hp3 : H3 p = some (.lst vs) := a3 _ _ (h1 _ _ hp')
      have hg3 : G3 p = none := by
        cases z3 : G3 p with
        | none => rfl
        | some o =>
          have e3 : (ccOf C N' scope fp s H G p).G0 p = none := S.sub.free hp
          exact absurd (S3.new p e3 (by rw [z3]; simp)) hH0
      cases b with
      | false =>
        refine iteF ⟨hlt, G3, acc, vs, S3.weak (by rw [hl1]) hk1, hp3, RepL.mono (g1.trans b3) acc vs r', hg3, ?_⟩
        have kb' : (compM (turnC js g c e ς) (xs.drop (i + 1)) >>= fun ys => Out.ok ((none : Option D).toList ++ ys)).post (fun ys => (if fits (acc ++ ys).length = true then Out.ok (D.lst (acc ++ ys)) else .stuck).post (fun d => ∀ H' G', StR C G' H' σ ς → Same H H' → Same G G' → G' p = none → Own C.X.K C.CT G' H' p d → Q (.ref p) H') C.XD) C.XD := kb
        rw [Out.post_bind] at kb'
        exact Out.post_mono kb' fun ys k => k
      | true =>
        have kb : (e τ1 >>= fun y => Out.ok (some y)).post (fun o => (compM (turnC js g c e ς) (xs.drop (i + 1)) >>= fun ys => Out.ok (o.toList ++ ys)).post (fun ys => (if fits (acc ++ ys).length = true then Out.ok (D.lst (acc ++ ys)) else .stuck).post (fun d => ∀ H' G', StR C G' H' σ ς → Same H H' → Same G G' → G' p = none → Own C.X.K C.CT G' H' p d → Q (.ref p) H') C.XD) C.XD) C.XD := kb
        rw [Out.post_bind] at kb
        have kb2 : (e τ1).post (fun y => (compM (turnC js g c e ς) (xs.drop (i + 1)) >>= fun ys => Out.ok ((some y : Option D).toList ++ ys)).post (fun ys => (if fits (acc ++ ys).length = true then Out.ok (D.lst (acc ++ ys)) else .stuck).post (fun d => ∀ H' G', StR C G' H' σ ς → Same H H' → Same G G' → G' p = none → Own C.X.K C.CT G' H' p d → Q (.ref p) H') C.XD) C.XD) (fun _ => False) := by
          cases w : e τ1 with
          | ok b => rw [w] at kb; exact kb
          | exc w' => rw [w] at kb; exact absurd kb (hx _)
          | stuck => rw [w] at kb; exact kb.elim
        refine iteT ⟨te, pe, he G3 H3 τ2 τ1 _ S3 (Out.post_mono kb2 fun y ky v4 H4 G4 S4 a4 b4 r4 => ?_)⟩
        rw [Out.post_bind] at ky
        have hp4 : H4 p = some (.lst vs) := a4 _ _ hp3
        have hg4 : G4 p = none := by
          cases z3 : G4 p with
          | none => rfl
          | some o =>
            have e3 : (ccOf C N' scope fp s H G p).G0 p = none := S.sub.free hp
            exact absurd (S4.new p e3 (by rw [z3]; simp)) hH0
        have rr := RepL.mono ((g1.trans b3).trans b4) acc vs r'
        refine ⟨vs, hp4, ?_, hlt, G4, acc ++ [y], vs ++ [v4], ?_, upd_same, rr.append (RepL.one r4), hg4, ?_⟩
        · cases w : compM (turnC js g c e ς) (xs.drop (i + 1)) with
          | stuck => rw [w] at ky; exact ky.elim
          | exc w' => rw [w] at ky; exact absurd ky (hx _)
          | ok ys =>
            rw [w] at ky
            rcases post_ite (show (if fits (acc ++ ((some y : Option D).toList ++ ys)).length = true then Out.ok (D.lst (acc ++ ((some y : Option D).toList ++ ys))) else .stuck).post _ _ from ky) with ⟨hc, _⟩ | ⟨_, k⟩
            · have hc' := of_decide_eq_true hc
              rw [List.length_append, List.length_append] at hc'
              have : (some y : Option D).toList.length = 1 := rfl
              have hl := r'.length
              omega
            · exact k.elim
        · exact (S4.weak (by rw [hl1]) hk1).updM rfl hH0 (fun i d z => by rw [← hτ] at z; exact captD_no z) hp hg4
        · exact Out.post_mono ky fun ys k => by
            have e5 : acc ++ [y] ++ ys = acc ++ ((some y : Option D).toList ++ ys) := by simp
            rw [e5]; exact k
  · have ei : i = xs.length := by omega
    subst ei
    rw [List.drop_length] at q'
    refine .inl ⟨dit.stop G' H' S'.g0 S'.sub S'.bs, ?_⟩
    have q2 : (if fits (acc ++ []).length = true then Out.ok (D.lst (acc ++ [])) else .stuck).post _ C.XD := q'
    rcases post_ite q2 with ⟨_, k⟩ | ⟨_, k⟩
    · rw [List.append_nil] at k
      have hHH : Same H H' := fun b o eb => S'.fr b o (by
        show upd H p (.lst []) b = some o
        rw [upd_ne (ne_of_none eb hp)]; exact eb) (ne_of_none eb hp)
      have SG : StR C G' H' σ ς := S.grow hHH S'.g0 S'.sub fun b h1 h2 => by
        have := S'.new b h1 h2
        have this : upd H p (.lst []) b = none := this
        by_cases hb : b = p
        · subst hb; exact hp
        · rw [upd_ne hb] at this; exact this
      exact k H' G' SG hHH S'.g0 hg' ⟨vs, hp', r'⟩
    · exact k.elim
theorem compT (hi : ∃ wi, PI C.X tg iter wi ∧ ∀ G H σ ς (R : It → Hp → Prop), StR C G H σ ς → (its ς).post (fun ds => ∀ J H1 G1, StR C G1 H1 σ ς → Same H H1 → Same G G1 → DItB C.X.K C.CT H1 G1 J ds → R J H1) C.XD → wi σ H R)
    (hx : ∀ x, ¬ C.XD x) (hk : ∀ ς, gKeep g (captD js ς)) (hne : noExc g)
    (hin : ∀ fp s H G p, DG (ccOf C N' scope fp s H G p) tg g ∧ DIf (ccOf C N' scope fp s H G p) ifs c ∧ DE (ccOf C N' scope fp s H G p) elt e) :
    ∃ wi, PI C.X tg iter wi ∧ ∀ G H σ ς Q, StR C G H σ ς → (eComp js its g c e ς).post (KF C G H σ ς Q) C.XD → tComp C.X N' js scope tg elt ifs wi σ H Q := by
  obtain ⟨wi, pi, hq⟩ := hi
  refine ⟨wi, pi, fun G H σ ς Q S k => ?_⟩
  unfold eComp at k
  rw [Out.post_bind] at k
  refine hq G H σ ς _ S (Out.post_mono k fun xs k J H1 G1 S1 a1 b1 dit p hp fp s => ?_)
  refine compW_of S1 hp dit hx (hk ς) hne (hin fp s H1 G1 p) (Out.post_mono k fun d kd H' G' S' h1 g1 hg ow => ?_)
  exact kd p H' G' S' (a1.trans h1) (b1.trans g1) (a1.free hp) hg ow
theorem df_comp (hc : C.X.calm = true) (S : CompSc N' js scope C.X.env.scope C.X.N) (hi : DIB C tg iter its) (hk : ∀ ς, gKeep g (captD js ς)) (hne : noExc g)
    (hin : ∀ fp s H G p, DG (ccOf C N' scope fp s H G p) tg g ∧ DIf (ccOf C N' scope fp s H G p) ifs c ∧ DE (ccOf C N' scope fp s H G p) elt e)
    (hx : ∀ x, ¬ C.XD x := by exact fun _ h => h) (hs : ∀ x, foldedSetIterable iter C.X.env x = pure x := by intro _; rfl) : DF C (.ListComp elt [⟨tg, iter, ifs, 0⟩] scope pos) (eComp js its g c e) := by
  obtain ⟨wi, pi, h⟩ := compT hi hx hk hne hin
  exact ⟨_, pe_comp hc S pi hs, h⟩
variable {i : Nat} {x : Str} {px spos : Pos}
theorem ds_setOC (hc : C.X.calm = true) (S : CompSc N' js scope C.X.env.scope C.X.N) (hi : DIB C tg iter its) (hk : ∀ ς, gKeep g (captD js ς)) (hne : noExc g)
    (hin : ∀ fp s H G p, DG (ccOf C N' scope fp s H G p) tg g ∧ DIf (ccOf C N' scope fp s H G p) ifs c ∧ DE (ccOf C N' scope fp s H G p) elt e)
    (hN : C.X.N.Nodup) (hxN : C.X.N[i]? = some x) (hl : Loc C.X.env.scope x)
    (hsw : swapsWith (.ListComp elt [⟨tg, iter, ifs, 0⟩] scope pos) (some (.Name x px)) spos.line C.X.env = pure true := by rfl)
    (hf : C.X.fn x = true ∨ C.X.env.scope.names.lookup x = some .local := by first | exact .inl rfl | exact .inr rfl | assumption)
    (hx : ∀ x, ¬ C.XD x := by exact fun _ h => h) (hs : ∀ x, foldedSetIterable iter C.X.env x = pure x := by intro _; rfl) : DS C (.Assign [.Name x px] (.ListComp elt [⟨tg, iter, ifs, 0⟩] scope pos) spos) (sSetO i (eComp js its g c e)) := by
  obtain ⟨wi, pi, h⟩ := compT hi hx hk hne hin
  refine ⟨_, ps_comp hc S pi hN hxN hl hsw hf hs, fun G H σ ς W S k => ?_⟩
  unfold sSetO at k
  rw [Out.post_bind] at k
  exact h G H σ ς _ S (Out.post_mono k fun d k p H1 G1 S1 a1 b1 hp hg ow => k _ H1 G1 (S1.setO i hg (S.h0none hp) ow fun j e _ z => S.new_ne hp j e z) b1)
end
end DL
set_option Elab.async false
set_option linter.all false
set_option maxRecDepth 100000
namespace L2
open PySem PySem.Spec PyProof.Rows
section
variable {X : Cx} {tg : Expr}
theorem all_range (bs : List Bool) : (List.range bs.length).all (fun i => (bs[i]?).getD false) = bs.all id := by
  rw [Bool.eq_iff_iff, List.all_eq_true, List.all_eq_true]
  constructor
  · intro h b hb
    obtain ⟨i, hi, e⟩ := List.mem_iff_getElem.mp hb
    have := h i (List.mem_range.mpr hi)
    rw [List.getElem?_eq_getElem hi, Option.getD_some, e] at this
    exact this
  · intro h i hi
    have hi' := List.mem_range.mp hi
    rw [List.getElem?_eq_getElem hi', Option.getD_some]
    exact h _ (List.getElem_mem hi')
theorem call_allB (hc : X.calm = true) : CallR X (.builtin "all") (fun xs H Q => ∃ (p : Addr) (bs : List Bool), xs = [.ref p] ∧ SqL X.K H p (bs.map V.bl) ∧ Q (.bl (bs.all id)) H) := by
  intro pins s σ H xs us Q I r h
  obtain ⟨p, bs, rfl, hq, q⟩ := h
  obtain ⟨u, rfl, rx⟩ := vals1 r
  cases rx
  obtain ⟨its, rv, pl, hz⟩ := I.list hq
  have hlen := rv.length
  refine call_all_walk ?_
  refine wpAny_pyIter_list pl.isList ?_
  have hp : p < s.heap.objs.size := by obtain ⟨o, n, ho, _⟩ := pl; exact Heap.lt_size ho
  have hne : p ≠ s.heap.objs.size := Nat.ne_of_lt hp
  refine ⟨_, _, _, _, _, _, fun i => (bs[i]?).getD false, rfl, Walks.list (A := X.A.in1) (I.ok.hd hc) _ p hne its.toArray, ⟨⟨_, Heap.get?_push_size _ rfl, rfl, rfl⟩, pl.isList.at fun o e => Heap.get?_push_of_some _ e⟩, ?_, fun h' tk kk => ⟨.bl (bs.all id), H, ?_, ?_, q⟩⟩
  · intro i v s2 Q2 E2 hv hQ2
    have hv' : its[i]? = some v := by simpa using hv
    have hi : i < bs.length := by
      have := (List.getElem?_eq_some_iff.mp hv').1
      rw [List.length_map] at hlen
      omega
    obtain ⟨y, hy, ry⟩ := rv.get (i := i) (x := .bl bs[i]) (by rw [List.getElem?_map, List.getElem?_eq_getElem hi]; rfl)
    rw [hv'] at hy
    cases hy
    cases ry
    have hQ2 : Q2 ((bs[i]?).getD false) s2 := hQ2
    rw [List.getElem?_eq_getElem hi, Option.getD_some] at hQ2
    exact wpAny_pure hQ2
  · exact I.kept fun b o e => kk b o (by
      intro hb
      have e2 : b = s.heap.objs.size := by simpa using hb
      subst e2
      exact absurd (Heap.lt_size e) (Nat.lt_irrefl _)) (Heap.get?_push_of_some _ e)
  · rw [List.size_toArray, ← hlen, List.length_map, all_range]; exact rfl
end
end L2
namespace DL
open PySem PySem.Spec PyProof.Rows L2
section
variable {C : Dc} {e tg iter a b : Expr} {E A B : SD → Out D} {pos p : Pos} {es : List Expr} {AA : SD → Out (List D)}
def blsOf : List D → Option (List Bool)
  | [] => some []
  | .bl b :: r => (blsOf r).map (b :: ·)
  | _ :: _ => none
theorem blsOf_rep {K : PySem.W.Frag} {CT : CTab} {H : Hp} : ∀ {ds : List D} {bs : List Bool} {vs : List V}, blsOf ds = some bs → RepL K CT H ds vs → vs = bs.map V.bl
  | [], bs, vs, h, r => by cases h; exact r
  | d :: ds, bs, vs, h, ⟨v, w, h1, h2, h3⟩ => by
    cases d with
    | bl b =>
      cases e : blsOf ds with
      | none => rw [blsOf, e] at h; cases h
      | some cs =>
        rw [blsOf, e] at h
        cases h
        cases h2
        rw [h1, blsOf_rep e h3]; rfl
    | _ => cases h
def fAll : D → Out D
  | .lst xs => match blsOf xs with | some bs => .ok (.bl (bs.all id)) | none => .stuck
  | _ => .stuck
theorem de_all (hc : C.X.calm = true) (hg : Gl C.X "all") (hm : C.X.mg "all" = none) (ha : DAB C (e :: es) AA)
    (he : starEach (e :: es) C.X.env = (false, eval e C.X.env) :: starEach es C.X.env := by rfl) (hpl : (backTo pos (starEach es C.X.env)).any (·.1) = false := by rfl) : DE C (.Call (.Name "all" p) (e :: es) [] pos) (eA (f1 fAll) AA) := by
  refine de_callB (call_allB hc) (dcs_f1 ?_) (scal_f1 ?_) hg hm PyProof.Rows.Boot.«all» ha (by decide) (by decide) he hpl
  · intro G H σ ς Q x v S r q
    cases x with
    | lst xs =>
      cases eb : blsOf xs with
      | none => rw [fAll, eb] at q; exact q.elim
      | some bs =>
        rw [fAll, eb] at q
        obtain ⟨a, vs, rfl, h2, h3⟩ := r
        rw [blsOf_rep eb h3] at h2
        exact ⟨a, bs, rfl, h2, q.2⟩
    | _ => exact q.elim
  · intro x
    cases x with
    | lst xs =>
      rw [fAll]
      cases blsOf xs with
      | none => exact True.intro
      | some bs => exact rfl
    | _ => exact True.intro
theorem pe_dnew0 {X : Cx} : PE X (.Dict [] [] pos) (fun _ H Q => ∀ p, H p = none → Q (.ref p) (upd H p (.dK []))) := fun pins s σ H Q I h => by
  have hb : sysModules < s.heap.objs.size := Nat.lt_trans (by decide) (show mainGlobals < s.heap.objs.size from (I.mod.glob.keeps I.bk).lt)
  exact wpAny_Dict_empty ⟨.ref s.heap.objs.size, _, I.laid (a := s.heap.objs.size) (o := .dK []) (t' := s.toks) (fun _ _ q => Heap.get?_push_of_some _ q) (Nat.le_refl _)
    ⟨Nat.zero_le _, beq_eq_false_iff_ne.mpr (Ne.symm (Nat.ne_of_lt hb)), [], .nil, Heap.DictOf.new s.heap⟩, rfl, h _ (I.hok.fresh (Nat.le_refl _))⟩
def eDic0 : SD → Out D := fun _ => .ok (.dic [])
theorem df_dic0 : DF C (.Dict [] [] pos) eDic0 := ⟨_, pe_dnew0, fun G H σ ς Q S q p hp => by
  have q : KF C G H σ ς Q (.dic []) := q
  exact q p _ G (S.allocO hp) (same_upd hp) (Same.refl _) hp (S.gnone hp) ⟨[], upd_same, rfl⟩⟩
end
end DL
set_option Elab.async false
set_option linter.all false
set_option maxRecDepth 100000
namespace DL
open PySem PySem.Spec PyProof.Rows L2
def ctOf (K : PySem.W.Frag) : CTab := fun c => match PySem.W.nsIn K mainGlobals c with | some (some (.ref a)) => some a | _ => none
theorem ct_of {K : PySem.W.Frag} {c : Str} {a : Addr} (h : PySem.W.nsIn K mainGlobals c = some (some (.ref a))) : ctOf K c = some a := by unfold ctOf; rw [h]
def XDof (CT : CTab) (E : XK) (H : Hp) : D → Prop := fun d => ∃ c C, d = .err c ∧ CT c = some C ∧ ∀ H', Same H H' → E (.ref C) none H'
def SpX (K : PySem.W.Frag) (CT : CTab) (fr : Bool) (m : List D → Out D) : Sp := fun vs H Q E => ∃ ds G0, Same G0 H ∧ RepL K CT G0 ds vs ∧
  (m ds).post (fun d => ∀ v H' G', Same G0 G' → Same H H' → Same G' H' → (∀ b, G0 b = none → G' b ≠ none → H b = none) → RetG K CT fr H G' H' d v → Q v H') (XDof CT E H)
abbrev dcX (P : Program) (w : World) (K : PySem.W.Frag) (mg : Str → Option Value) (base : Heap) (CT : CTab) (N : List Str) (qual : Str) (sc : Scope) (f : Addr) (cdv : Value) (A : Around) (outer : List Env) (s : Shared) (H : Hp) (E : XK) (G : Hp) : Dc :=
  { X := cxOf (CXR P w) P w K mg base N qual sc f cdv A outer s H E, CT := CT, G0 := G, XD := XDof CT E H, B := H, M := fun _ => False }
structure Rz (C : Dc) (E : XK) : Prop where
  pass : Passes (CXR C.X.prog C.X.w) C.X E
  xd : ∀ d, C.XD d → ∃ c Cc, d = .err c ∧ C.CT c = some Cc ∧ ∀ H', (∀ b o, C.X.H₀ b = some o → ¬ C.M b → H' b = some o) → E (.ref Cc) none H'
  made : ∀ (Cc : Addr) pins σ H1 s1 ea h' vs, Inv C.X pins σ H1 s1 → Heap.MadeExcOf s1.heap h' ea (.ref Cc) vs → E (.ref Cc) none H1 → C.X.xe (.ref ea) { s1 with heap := h' }
  calm : C.X.calm = true
theorem rz_dcX {P : Program} {w : World} {K : PySem.W.Frag} {mg : Str → Option Value} {base : Heap} {CT : CTab} {N : List Str} {qual : Str} {sc : Scope} {f : Addr} {cdv : Value} {A : Around} {outer : List Env} {s : Shared} {H : Hp} {E : XK} {G : Hp} :
    Rz (dcX P w K mg base CT N qual sc f cdv A outer s H E G) E where
  pass := passR
  xd := fun d ⟨c, Cc, h1, h2, h3⟩ => ⟨c, Cc, h1, h2, fun H' k => h3 H' fun b o e => k b o e id⟩
  made := fun Cc pins σ H1 s1 ea h' vs I hx hE => leave_made I rfl rfl rfl hx hE
  calm := rfl
theorem fnX {P : Program} {w : World} {K : PySem.W.Frag} {mg : Str → Option Value} {base : Heap} {CT : CTab} {fr : Bool} {x qual : Str} {st : Stmt} {f : Addr} {fd : FuncData} {dV : Value} {N ps : List Str} {k : Nat} {T : SD → Out Fl}
    (F : FunV K x qual st f fd dV) (S : FnScope N ps (defScope st))
    (hb : ∀ (cdv : Value) (A : Around) (outer : List Env) (s : Shared) (H : Hp) (E : XK) (G : Hp), Room k (A.deeper (envOfC qual (defScope st) s.heap.objs.size f cdv)) → DSs (dcX P w K mg base CT N qual (defScope st) f cdv A outer s H E G) (defBody st) T) :
    FnOk P w K mg base (CXR P w) (k + 1) f fd ps (SpX K CT fr (bodyF fr ps.length N.length T)) := by
  obtain ⟨oc, od, kV, doc, pm, an, cdv, ct, osl, rfl, lk, hcd⟩ := F.ex
  have hpl : ps.length ≤ N.length := by have := congrArg List.length S.pre; rw [List.length_take] at this; omega
  have len : ∀ vs H Q E, SpX K CT fr (bodyF fr ps.length N.length T) vs H Q E → vs.length = ps.length := by
    intro vs H Q E ⟨ds, G0, sub, r, q⟩
    unfold bodyF at q
    by_cases hl : ds.length = ps.length
    · rw [← r.length]; exact hl
    · rw [if_neg hl] at q; exact q.elim
  refine fn_of lk hcd S len fun A outer s H vs Q E hr hsp => ?_
  have hlen := len vs H Q E hsp
  obtain ⟨ds, G0, sub, r, q⟩ := hsp
  obtain ⟨t, p1, q1⟩ := hb cdv A outer s H E G0 hr
  have hl : ds.length = ps.length := by rw [r.length]; exact hlen
  refine ⟨t, p1, ?_⟩
  unfold bodyF at q
  rw [if_pos hl, Out.post_bind] at q
  have S0 : StR (dcX P w K mg base CT N qual (defScope st) f cdv A outer s H E G0) G0 H (L2.start N vs) (ds.map (fun d => some (.k, d)) ++ List.replicate (N.length - ps.length) none) := {
    sub := sub
    g0 := Same.refl _
    new := fun b h1 h2 => absurd h1 h2
    fr := fun b o e _ => e
    dom := fun b e => e
    bs := Same.refl _
    bh := fun b e => e
    len := by unfold L2.start; simp; omega
    fz := fun i d e => by
      obtain ⟨d', e1, e2⟩ := slots_get e
      cases e2
      obtain ⟨v, e3, rv⟩ := r.get e1
      exact ⟨v, start_get e3, rv⟩
    ow := fun i d e => by
      obtain ⟨d', e1, e2⟩ := slots_get e
      cases e2
    ln := fun i d e => by
      obtain ⟨d', e1, e2⟩ := slots_get e
      cases e2
    inj := fun i j d e p _ h => by
      obtain ⟨d', e1, e2⟩ := slots_get h
      cases e2
    sf := fun i d e => by
      obtain ⟨d', e1, e2⟩ := slots_get e
      cases e2
    su := fun i j d e h => by
      obtain ⟨d', e1, e2⟩ := slots_get h
      cases e2 }
  refine q1 G0 H (L2.start N vs) _ _ S0 (Out.post_mono q fun fl kk => ?_)
  cases fl with
  | nx ς' => exact fun σ' H' G' S' s' => kk .non H' G' s' (fun b o e => S'.fr b o e id) S'.sub S'.new (by unfold RetG; rw [if_neg (by cases fr <;> decide)]; rfl)
  | bk ς' => exact fun σ' H' G' S' s' => kk.elim
  | ct ς' => exact fun σ' H' G' S' s' => kk.elim
  | rt b d =>
    intro v H' G' S' s' ret
    have kk' : (if (!fr || b || d.scal) = true then Out.ok d else Out.stuck).post (fun d => ∀ v H' G', Same G0 G' → Same H H' → Same G' H' → (∀ b, G0 b = none → G' b ≠ none → H b = none) → RetG K CT fr H G' H' d v → Q v H') (XDof CT E H) := kk
    rcases post_ite kk' with ⟨hc, k2⟩ | ⟨_, k2⟩
    · have k3 : ∀ v H' G', Same G0 G' → Same H H' → Same G' H' → (∀ b, G0 b = none → G' b ≠ none → H b = none) → RetG K CT fr H G' H' d v → Q v H' := k2
      cases b with
      | false =>
        refine k3 v H' G' s' (fun b o e => S'.fr b o e id) S'.sub S'.new ?_
        unfold RetG
        have hn : ¬ (fr && !d.scal) = true := by revert hc; cases fr <;> cases d.scal <;> simp
        rw [if_neg hn]
        exact ret
      | true =>
        obtain ⟨p, rfl, h0, hg, ow⟩ := (show ∃ p, v = .ref p ∧ H p = none ∧ G' p = none ∧ Own K CT G' H' p d from ret)
        cases fr with
        | true =>
          refine k3 _ H' G' s' (fun b o e => S'.fr b o e id) S'.sub S'.new ?_
          have hs : d.scal = false := by cases d <;> first | rfl | exact ow.elim
          unfold RetG
          rw [if_pos (by rw [hs]; rfl)]
          exact ⟨p, rfl, h0, hg, ow⟩
        | false =>
          obtain ⟨o, ho⟩ := ow.there
          have S2 := GH.freezeR S' ho hg h0
          refine k3 _ H' _ (s'.trans (same_upd hg)) (fun b o e => S2.fr b o e id) S2.sub S2.new ?_
          unfold RetG
          rw [if_neg (by simp)]
          exact ow.known hg ho
    · exact k2.elim
def DefX (P : Program) (w : World) (K : PySem.W.Frag) (mg : Str → Option Value) (base : Heap) (CT : CTab) (x : Str) (k : Nat) (fr : Bool) (dd : List D) (m : List D → Out D) : Prop :=
  ∃ f fd ps ds, FnOk P w K mg base (CXR P w) k f fd ps (SpX K CT fr m) ∧ mg x = some (.ref f) ∧ PySem.W.keepIn K (.ref f) = true ∧ Binds K fd ps ds ∧ Vals (dd.map toV) ds
abbrev Dc.nox (C : Dc) : Dc := { C with X := C.X.nox, XD := fun _ => False }
def noX {α : Type} : Out α → Out α
  | .exc _ => .stuck
  | o => o
theorem noX_ok {α : Type} (a : α) : noX (.ok a) = .ok a := rfl
theorem post_noX {α : Type} {o : Out α} {k : α → Prop} {x : D → Prop} (h : (noX o).post k x) : o.post k (fun _ => False) := by cases o <;> exact h
section
variable {C : Dc} {G H : Hp} {σ : St} {ς : SD} {e : Expr} {es : List Expr} {st : Stmt} {sts : List Stmt}
theorem GH.nox (S : GH C G H) : GH C.nox G H := ⟨S.sub, S.g0, S.new, S.fr, S.dom, S.bs, S.bh⟩
theorem GH.unnox (S : GH C.nox G H) : GH C G H := ⟨S.sub, S.g0, S.new, S.fr, S.dom, S.bs, S.bh⟩
theorem StR.nox (S : StR C G H σ ς) : StR C.nox G H σ ς := ⟨S.toGH.nox, S.len, S.fz, S.ow, S.ln, S.inj, S.sf, S.su⟩
theorem StR.unnox (S : StR C.nox G H σ ς) : StR C G H σ ς := ⟨S.toGH.unnox, S.len, S.fz, S.ow, S.ln, S.inj, S.sf, S.su⟩
theorem DE.lift {E : SD → Out D} (h : DE C.nox e E) : DE C e (fun ς => noX (E ς)) := by
  obtain ⟨t, p, q⟩ := h
  exact ⟨t, p.nox, fun G H σ ς Q S k => q G H σ ς Q S.nox (Out.post_mono (post_noX k) fun d kd v H' G' S' a b r => kd v H' G' S'.unnox a b r)⟩
theorem DT.lift {E : SD → Out Bool} (h : DT C.nox e E) : DT C e (fun ς => noX (E ς)) := by
  obtain ⟨t, p, q⟩ := h
  exact ⟨t, p.nox, fun G H σ ς Q S k => q G H σ ς Q S.nox (Out.post_mono (post_noX k) fun d kd H' G' S' a b => kd H' G' S'.unnox a b)⟩
theorem PA.nox' {X : Cx} {t : TA} (h : PA X.nox es t) : PA X es t := fun pos pins s σ H Q I q => PA.nox h I q
theorem DA.lift {A : SD → Out (List D)} (h : DA C.nox es A) : DA C es (fun ς => noX (A ς)) := by
  obtain ⟨t, p, q⟩ := h
  exact ⟨t, PA.nox' p, fun G H σ ς Q S k => q G H σ ς Q S.nox (Out.post_mono (post_noX k) fun d kd v H' G' S' a b r => kd v H' G' S'.unnox a b r)⟩
theorem FlK.nox {W : Ends} {f : Fl} (h : FlK C G W f) : FlK C.nox G W f := by
  cases f with
  | nx ς => exact fun σ' H' G' S q => h σ' H' G' S.unnox q
  | bk ς => exact fun σ' H' G' S q => h σ' H' G' S.unnox q
  | ct ς => exact fun σ' H' G' S q => h σ' H' G' S.unnox q
  | rt b d => exact fun v H' G' S q r => h v H' G' S.unnox q r
theorem PS.nox' {X : Cx} {t : TS} (h : PS X.nox st t) : PS X st t := fun pins s σ H D I hw =>
  wpAny_mono (h pins s σ H D (I.wish _) hw) (fun _ _ q => q.unwish) fun _ _ z => False.elim z
theorem DS.lift {T : SD → Out Fl} (h : DS C.nox st T) : DS C st (fun ς => noX (T ς)) := by
  obtain ⟨t, p, q⟩ := h
  exact ⟨t, PS.nox' p, fun G H σ ς W S k => q G H σ ς W S.nox (Out.post_mono (post_noX k) fun f kf => kf.nox)⟩
theorem DSs.lift {T : SD → Out Fl} (h : DSs C.nox sts T) : DSs C sts (fun ς => noX (T ς)) := by
  obtain ⟨t, p, q⟩ := h
  exact ⟨t, p.nox, fun G H σ ς W S k => q G H σ ς W S.nox (Out.post_mono (post_noX k) fun f kf => kf.nox)⟩
variable {x : Str} {k : Nat} {fr : Bool} {dd : List D} {m : List D → Out D} {A : SD → Out (List D)} {p pos : Pos} {E : XK}
def sRaise (c : Str) (A : SD → Out (List D)) : SD → Out Fl := fun ς => A ς >>= fun xs => if fits xs.length = true then .exc (.err c) else .stuck
theorem ds_raise {c : Str} {Cc : Addr} {np cpos : Pos} (rz : Rz C E) (hg : Gl C.X c) (hm : C.X.mg c = some (.ref Cc)) (hct : C.CT c = some Cc) (hX : XIn C.X.K Cc) (ha : DA C (e :: es) A)
    (he : starEach (e :: es) C.X.env = (false, eval e C.X.env) :: starEach es C.X.env := by rfl) (hplain : (backTo cpos (starEach es C.X.env)).any (·.1) = false := by rfl) (hd : (c == ("__debug__" : Str)) = false := by decide) :
    DS C (.Raise (some (.Call (.Name c np) (e :: es) [] cpos)) none pos) (sRaise c A) := by
  obtain ⟨t, p1, q1⟩ := ha
  refine ⟨_, ps_raise (rz.made Cc) rz.calm hg hm hX p1 he hplain hd, fun G H σ ς W S q => ?_⟩
  unfold sRaise at q
  rw [Out.post_bind] at q
  refine q1 G H σ ς _ S (Out.post_mono q fun xs kk vs H1 G1 S1 a1 b1 r1 => ?_)
  rcases post_ite kk with ⟨hc, k2⟩ | ⟨_, k2⟩
  · refine ⟨by rw [← r1.length]; exact of_decide_eq_true hc, ?_⟩
    obtain ⟨c', Cc', e1, e2, e3⟩ := rz.xd _ (show C.XD (.err c) from k2)
    cases e1
    rw [hct] at e2
    cases e2
    exact e3 H1 fun b o q m => S1.fr b o q m
  · exact k2.elim
end
end DL
set_option Elab.async false
set_option linter.all false
set_option maxRecDepth 100000
namespace DL
open PySem PySem.Spec PyProof.Rows L2
inductive FX where
  | fl (f : Fl) | ex (c : Str) (ς : SD)
def FXK (C : Dc) (G : Hp) (W : Ends) (R : St → XK) : FX → Prop
  | .fl f => FlK C G W f
  | .ex c ς1 => ∃ Cc, C.CT c = some Cc ∧ ∀ σ1 H1 G1, StR C G1 H1 σ1 ς1 → Same G G1 → R σ1 (.ref Cc) none H1
def DXSs (C : Dc) (sts : List Stmt) (T : SD → Out FX) : Prop := ∃ t, PXSs C.X sts t ∧ ∀ G H σ ς W R, StR C G H σ ς → (T ς).post (FXK C G W R) (fun _ => False) → t W σ H R
def DXS (C : Dc) (st : Stmt) (T : SD → Out FX) : Prop := ∃ t, PXS C.X st t ∧ ∀ G H σ ς W R, StR C G H σ ς → (T ς).post (FXK C G W R) (fun _ => False) → t W σ H R
inductive EX where
  | v (d : D) | ex (c : Str)
def EXK (C : Dc) (G H : Hp) (σ : St) (ς : SD) (Q : VK) (R : XK) : EX → Prop
  | .v d => KD C G H σ ς Q d
  | .ex c => ∃ Cc, C.CT c = some Cc ∧ ∀ H1 G1, StR C G1 H1 σ ς → Same H H1 → Same G G1 → R (.ref Cc) none H1
def DX (C : Dc) (e : Expr) (T : SD → Out EX) : Prop := ∃ t, PX C.X e t ∧ ∀ G H σ ς Q R, StR C G H σ ς → (T ς).post (EXK C G H σ ς Q R) (fun _ => False) → t σ H Q R
def toEX : Out D → Out EX
  | .ok d => .ok (.v d)
  | .exc (.err c) => .ok (.ex c)
  | _ => .stuck
section
variable {C : Dc} {x : Str} {k : Nat} {fr : Bool} {dd : List D} {m : List D → Out D} {e : Expr} {es : List Expr} {A : SD → Out (List D)} {p pos : Pos}
def xCall (m : List D → Out D) (A : SD → Out (List D)) : SD → Out EX := fun ς => A ς >>= fun xs => toEX (m xs)
theorem dx_f (h : DefX C.X.prog C.X.w C.X.K C.X.mg C.X.base C.CT x k fr dd m) (hr : Room k C.X.A) (ha : DA C.nox (e :: es) A) (hg : Gl C.X x) (hs : dd.all D.scal = true := by rfl)
    (hdb : (x == ("__debug__" : Str)) = false := by decide) (he : starEach (e :: es) C.X.env = (false, eval e C.X.env) :: starEach es C.X.env := by rfl) (hpl : (backTo pos (starEach es C.X.env)).any (·.1) = false := by rfl) :
    DX C (.Call (.Name x p) (e :: es) [] pos) (xCall (fun xs => m (xs ++ dd)) A) := by
  obtain ⟨f, fd, ps, ds, F, hm, hk, hb, hd⟩ := h
  obtain ⟨t, p1, q1⟩ := ha
  refine ⟨_, px_call F hr hg hm hk hb hd p1 hdb he hpl, fun G H σ ς Q R S q => ?_⟩
  unfold xCall at q
  rw [Out.post_bind] at q
  refine q1 G H σ ς _ S.nox (Out.post_mono q fun xs kk vs H1 G1 S1' a1 b1 r1 => ?_)
  have S1 := S1'.unnox
  refine ⟨xs ++ dd, G1, S1.sub, r1.append (rep_toVs hs), ?_⟩
  have kk : (toEX (m (xs ++ dd))).post (EXK C G H σ ς Q R) (fun _ => False) := kk
  cases z : m (xs ++ dd) with
  | stuck => rw [z] at kk; exact kk.elim
  | exc y =>
    rw [z] at kk
    cases y with
    | err c =>
      obtain ⟨Cc, e1, e2⟩ := (show EXK C G H σ ς Q R (.ex c) from kk)
      exact ⟨c, Cc, rfl, e1, fun H' s' => e2 H' G1 (S1.grow s' (Same.refl _) (S1.sub.trans s') fun b g n => absurd g n) (a1.trans s') b1⟩
    | _ => exact kk.elim
  | ok d =>
    rw [z] at kk
    have kk : KD C G H σ ς Q d := kk
    intro v H' G' g1 h1 s1 n1 ret
    unfold RetG at ret
    by_cases hc : (fr && !d.scal) = true
    · rw [if_pos hc] at ret
      obtain ⟨pp, rfl, h0, hg', ow⟩ := ret
      obtain ⟨o, ho⟩ := ow.there
      have S2 := (S1.grow h1 g1 s1 n1).freeze ho hg' (S1.h0none h0) (fun i d' z1 z2 => by
        obtain ⟨o', ho'⟩ := S1.own_ne z1 z2
        rw [h0] at ho'; cases ho')
      exact kk _ _ _ S2 (a1.trans h1) ((b1.trans g1).trans (same_upd hg')) (ow.known hg' ho)
    · rw [if_neg hc] at ret
      exact kk v H' G' (S1.grow h1 g1 s1 n1) (a1.trans h1) (b1.trans g1) ret
variable {T U : SD → Out FX} {TE : SD → Out EX} {st : Stmt} {sts rest : List Stmt} {i : Nat} {px : Pos}
def xSet (i : Nat) (E : SD → Out EX) : SD → Out FX := fun ς => E ς >>= fun r => match r with | .v d => .ok (.fl (.nx (ς.set i (some (.k, d))))) | .ex c => .ok (.ex c ς)
theorem dxs_set (hN : C.X.N.Nodup) (hi : C.X.N[i]? = some x) (hx : Loc C.X.env.scope x) (h : DX C e TE) (hs : swapsWith e (some (.Name x px)) pos.line C.X.env = pure false := by rfl)
    (hf : C.X.fn x = true ∨ C.X.env.scope.names.lookup x = some .local := by first | exact .inl rfl | exact .inr rfl | assumption) : DXS C (.Assign [.Name x px] e pos) (xSet i TE) := by
  obtain ⟨t, p1, q1⟩ := h
  refine ⟨_, pxs_set hN hi hx p1 hs hf, fun G H σ ς W R S q => ?_⟩
  unfold xSet at q
  rw [Out.post_bind] at q
  refine q1 G H σ ς _ _ S (Out.post_mono q fun r kr => ?_)
  cases r with
  | v d => exact fun v H' G' S' a b rv => (show FlK C G W (.nx (ς.set i (some (.k, d)))) from kr) _ H' G' (S'.set i rv) b
  | ex c =>
    obtain ⟨Cc, e1, e2⟩ := (show FXK C G W R (.ex c ς) from kr)
    exact ⟨Cc, e1, fun H1 G1 S1 a b => e2 σ H1 G1 S1 b⟩
def xLift (T : SD → Out Fl) : SD → Out FX := fun ς => noX (T ς) >>= fun f => .ok (.fl f)
theorem DSs.dx {T : SD → Out Fl} (h : DSs C.nox sts T) : DXSs C sts (xLift T) := by
  obtain ⟨t, p1, q1⟩ := h
  refine ⟨_, PSs.lx p1, fun G H σ ς W R S q => ?_⟩
  unfold xLift at q
  rw [Out.post_bind] at q
  exact q1 G H σ ς W S.nox (Out.post_mono (post_noX q) fun f kf => FlK.nox (show FlK C G W f from kf))
theorem DS.dx {T : SD → Out Fl} (h : DS C.nox st T) : DXS C st (xLift T) := by
  obtain ⟨t, p1, q1⟩ := h
  refine ⟨_, PS.lx p1, fun G H σ ς W R S q => ?_⟩
  unfold xLift at q
  rw [Out.post_bind] at q
  exact q1 G H σ ς W S.nox (Out.post_mono (post_noX q) fun f kf => FlK.nox (show FlK C G W f from kf))
theorem FXK.later {G G1 : Hp} {W : Ends} {R : St → XK} {f : FX} (h : FXK C G W R f) (s : Same G G1) : FXK C G1 W R f := by
  cases f with
  | fl f => exact FlK.later (show FlK C G W f from h) s
  | ex c ς => obtain ⟨Cc, e1, e2⟩ := h; exact ⟨Cc, e1, fun σ1 H1 G1 S b => e2 σ1 H1 G1 S (s.trans b)⟩
theorem dxss_one (h : DXS C st T) : DXSs C [st] T := let ⟨t, p, q⟩ := h; ⟨t, pxss_one p, q⟩
abbrev Dc.marked (C : Dc) (ea : Addr) : Dc := { C with X := C.X.marked ea, XD := fun _ => False }
section
variable {G H : Hp} {σ : St} {ς : SD} {ea : Addr}
theorem GH.mark (S : GH C G H) : GH (C.marked ea) G H := ⟨S.sub, S.g0, S.new, S.fr, S.dom, S.bs, S.bh⟩
theorem GH.unmark (S : GH (C.marked ea) G H) : GH C G H := ⟨S.sub, S.g0, S.new, S.fr, S.dom, S.bs, S.bh⟩
theorem StR.mark (S : StR C G H σ ς) : StR (C.marked ea) G H σ ς := ⟨S.toGH.mark, S.len, S.fz, S.ow, S.ln, S.inj, S.sf, S.su⟩
theorem StR.unmark (S : StR (C.marked ea) G H σ ς) : StR C G H σ ς := ⟨S.toGH.unmark, S.len, S.fz, S.ow, S.ln, S.inj, S.sf, S.su⟩
theorem StR.unset (S : StR C G H σ ς) (i : Nat) : StR C G H (σ.set i none) (ς.set i none) where
  toGH := S.toGH
  len := by rw [List.length_set, List.length_set]; exact S.len
  fz := fun j e h => by
    rcases get_set h with ⟨rfl, h2, l⟩ | ⟨ne, h2⟩
    · cases h2
    · rw [set_get_ne ne]; exact S.fz j e h2
  ow := fun j e h => by
    rcases get_set h with ⟨rfl, h2, l⟩ | ⟨ne, h2⟩
    · cases h2
    · rw [set_get_ne ne]; exact S.ow j e h2
  ln := fun j e h => by
    rcases get_set h with ⟨rfl, h2, l⟩ | ⟨ne, h2⟩
    · cases h2
    · rw [set_get_ne ne]; exact S.ln j e h2
  inj := fun j k d1 d2 p hjk h1 h2 h3 => by
    rcases get_set h1 with ⟨rfl, q1, l⟩ | ⟨n1, q1⟩
    · cases q1
    · rcases get_set h2 with ⟨rfl, q2, l⟩ | ⟨n2, q2⟩
      · cases q2
      · rw [set_get_ne n1] at h3
        rw [set_get_ne n2]
        exact S.inj j k d1 d2 p hjk q1 q2 h3
  sf := fun j e h => by
    rcases get_set h with ⟨rfl, h2, l⟩ | ⟨ne, h2⟩
    · cases h2
    · rw [set_get_ne ne]; exact S.sf j e h2
  su := fun j k d1 d2 h1 h2 => by
    rcases get_set h1 with ⟨rfl, q1, l⟩ | ⟨n1, q1⟩
    · cases q1
    · rcases get_set h2 with ⟨rfl, q2, l⟩ | ⟨n2, q2⟩
      · cases q2
      · exact S.su j k d1 d2 q1 q2
end
def unF (i : Nat) : Fl → Fl
  | .nx ς => .nx (ς.set i none)
  | .bk ς => .bk (ς.set i none)
  | .ct ς => .ct (ς.set i none)
  | f => f
def sTry (cs : List Str) (i : Nat) (T : SD → Out FX) (TS : SD → Out Fl) : SD → Out Fl := fun ς => noX (T ς) >>= fun r => match r with
  | .fl f => .ok f
  | .ex c ς1 => if cs.contains c = true then noX (TS (ς1.set i (some (.k, .err c)))) >>= fun f => .ok (unF i f) else .stuck
theorem ds_try {cs : List Str} {n : Str} {np hpos tpos : Pos} {b₀ : Stmt} {suite body : List Stmt} {DD : Addr} {TS : SD → Out Fl} (hst : C.X.stack = C.X.env :: C.X.outer) (hfr : C.X.env.frame = some C.X.env.locals) (hg : Gl C.X x) (hm : C.X.mg x = some (.ref DD)) (hXD : XIn C.X.K DD)
    (hcs : ∀ c ∈ cs, ∃ Cc, C.CT c = some Cc ∧ PySem.W.subIn C.X.K (.ref Cc) (.ref DD) = some true)
    (hN : C.X.N.Nodup) (hi : C.X.N[i]? = some n) (hk : C.X.env.scope.names.lookup n = some .local) (hb : DXSs C body T) (hs : ∀ ea, DSs (C.marked ea) (b₀ :: suite) TS) (hd : (x == ("__debug__" : Str)) = false := by decide) :
    DS C (.Try body [.ExceptHandler (some (.Name x np)) (some n) (b₀ :: suite) hpos] [] [] tpos) (sTry cs i T TS) := by
  obtain ⟨t1, p1, q1⟩ := hb
  refine ⟨_, ps_try (ts := fun ea => (hs ea).choose) hst hfr hg hm hXD hN hi hk p1 (fun ea => (hs ea).choose_spec.1) hd, fun G H σ ς W S q => ?_⟩
  have q2 := fun ea => (hs ea).choose_spec.2
  unfold sTry at q
  rw [Out.post_bind] at q
  refine q1 G H σ ς W _ S (Out.post_mono (post_noX q) fun r kr => ?_)
  cases r with
  | fl f => exact kr
  | ex c ς1 =>
    rcases post_ite kr with ⟨hc, kr⟩ | ⟨_, kr⟩
    · obtain ⟨Cc, e1, e2⟩ := hcs c (by simpa using hc)
      refine ⟨Cc, e1, fun σ1 H1 G1 S1 b1 => ⟨Cc, ⟨rfl, e2⟩, fun ea hea => ?_⟩⟩
      rw [Out.post_bind] at kr
      have gn := S1.gnone hea
      have S2 := (S1.alloc (o := exO ea Cc) hea).set i (d := .err c) (v := .ref ea) ⟨ea, Cc, rfl, e1, upd_same⟩
      refine q2 ea _ _ _ _ (W.un i) S2.mark (Out.post_mono (post_noX kr) fun f kf => ?_)
      have sg : Same G (upd G1 ea (exO ea Cc)) := b1.trans (same_upd gn)
      cases f with
      | nx ς' => exact fun σ' H' G' S' s' => (show FlK C G W (.nx (ς'.set i none)) from kf) _ H' G' (S'.unmark.unset i) (sg.trans s')
      | bk ς' => exact fun σ' H' G' S' s' => (show FlK C G W (.bk (ς'.set i none)) from kf) _ H' G' (S'.unmark.unset i) (sg.trans s')
      | ct ς' => exact fun σ' H' G' S' s' => (show FlK C G W (.ct (ς'.set i none)) from kf) _ H' G' (S'.unmark.unset i) (sg.trans s')
      | rt b d => exact fun v H' G' S' s' r => (show FlK C G W (.rt b d) from kf) v H' G' S'.unmark (sg.trans s') r
    · exact kr.elim
end
end DL
set_option Elab.async false
set_option linter.all false
set_option maxRecDepth 100000
namespace L2
open PySem PySem.Spec PyProof.Rows
end L2
namespace DL
open PySem PySem.Spec PyProof.Rows L2
section
variable {C : Dc} {pos p : Pos} {e cx : Expr} {E : SD → Out D}
def isaE (tbl : List (Str × Bool)) : D → Out Bool
  | .err c => match tbl.lookup c with | some b => .ok b | none => .stuck
  | _ => .stuck
def KitE (K : PySem.W.Frag) (CT : CTab) (uc : Value) (tbl : List (Str × Bool)) : Prop := ∀ c b, tbl.lookup c = some b → ∀ A, CT c = some A → ExCls K A ∧ PySem.W.kitOne K (.ref A) uc = some b
theorem kitE_nil {K : PySem.W.Frag} {CT : CTab} {uc : Value} : KitE K CT uc [] := fun _ _ h => nomatch h
theorem kitE_cons {K : PySem.W.Frag} {CT : CTab} {uc : Value} {c : Str} {b : Bool} {A : Addr} {tbl : List (Str × Bool)} (hc : CT c = some A) (hx : ExCls K A) (hk : PySem.W.kitOne K (.ref A) uc = some b) (r : KitE K CT uc tbl) : KitE K CT uc ((c, b) :: tbl) := by
  intro c' b' h A' hA
  rw [List.lookup_cons] at h
  cases e : c' == c with
  | true =>
    rw [e] at h
    cases h
    rw [beq_iff_eq.mp e, hc] at hA
    cases hA
    exact ⟨hx, hk⟩
  | false =>
    rw [e] at h
    exact r c' b' h A' hA
theorem de_isaE {vc : V} {uc : Value} {tbl : List (Str × Bool)} (hc : PE C.X cx (tC vc)) (rc : clsV vc = some uc) (hk : KitE C.X.K C.CT uc tbl) (hg : Gl C.X "isinstance") (hm : C.X.mg "isinstance" = none) (h : DB C e E)
    (he : starEach (e :: [cx]) C.X.env = (false, eval e C.X.env) :: starEach [cx] C.X.env := by rfl) (he2 : starEach (cx :: []) C.X.env = (false, eval cx C.X.env) :: starEach [] C.X.env := by rfl)
    (hpl : (backTo pos (starEach [cx] C.X.env)).any (·.1) = false := by rfl) : DE C (.Call (.Name "isinstance" p) [e, cx] [] pos) (eIsa (isaE tbl) E) := by
  refine de_isa hc rc (fun d => ?_) hg hm h he he2 hpl
  cases d with
  | err c =>
    rw [isaE]
    cases e : tbl.lookup c with
    | none => exact True.intro
    | some b => exact fun A hA => hk c b e A hA
  | _ => exact True.intro
end
end DL
set_option Elab.async false
set_option linter.all false
set_option maxRecDepth 100000
namespace L2
open PySem PySem.Spec PyProof.Rows
def Itz (K : PySem.W.Frag) (a b : Addr) : It :=
  ⟨fun i H => ∃ xs ys x y, SqL K H a xs ∧ SqL K H b ys ∧ xs[i]? = some x ∧ ys[i]? = some y,
   fun i H v H' => ∃ p x y, H p = none ∧ v = .ref p ∧ H' = upd H p (.tup [x, y]) ∧ (∀ xs, SqL K H a xs → xs[i]? = some x) ∧ ∀ ys, SqL K H b ys → ys[i]? = some y,
   fun i H => ∃ xs ys, SqL K H a xs ∧ SqL K H b ys ∧ (xs.length ≤ i ∨ ys.length ≤ i)⟩
theorem turn_zip {P : Program} {w : World} {K : PySem.W.Frag} {elts : List Expr} {k1 : Nat} {pos : Pos} {z TI TO i1 i2 l1 l2 : Addr} (D : ZipApart z TI TO i1 i2 l1 l2) :
    Turn P w K (.Tuple elts k1 pos) (Itz K l1 l2) [z, TI, TO, i1, i2] z (fun i h => IsZip h z TI TO .none ∧ IsPair h TI (.ref i1) (.ref i2) ∧ (∃ a b, IsPair h TO a b) ∧ h.IsListIter i1 l1 i ∧ h.IsListIter i2 l2 i) where
  mem := by simp
  obj := fun i h st b hb => by
    obtain ⟨s1, s2, ⟨_, _, s3⟩, ⟨o4, e4, c4, d4⟩, ⟨o5, e5, c5, d5⟩⟩ := st
    simp only [List.mem_cons, List.not_mem_nil, or_false] at hb
    rcases hb with rfl | rfl | rfl | rfl | rfl
    · exact ⟨_, s1, fun v q => by cases q⟩
    · exact ⟨_, s2, fun v q => by cases q⟩
    · exact ⟨_, s3, fun v q => by cases q⟩
    · exact ⟨_, e4, fun v q => by rw [d4] at q; cases q⟩
    · exact ⟨_, e5, fun v q => by rw [d5] at q; cases q⟩
  keep := fun i h h' st k => by
    obtain ⟨s1, s2, ⟨a, b, s3⟩, s4, s5⟩ := st
    exact ⟨k z (by simp) _ s1, k TI (by simp) _ s2, ⟨a, b, k TO (by simp) _ s3⟩, s4.at fun o e => k i1 (by simp) o e, s5.at fun o e => k i2 (by simp) o e⟩
  item := by
    intro X hP hw hK hc i pins s σ H E I hf st hg
    subst hP hw hK
    obtain ⟨xs, ys, x, y, q1, q2, hx, hy⟩ := hg
    obtain ⟨its1, rv1, p1, hz1⟩ := I.list q1
    obtain ⟨its2, rv2, p2, hz2⟩ := I.list q2
    obtain ⟨u1, hu1, ru1⟩ := rv1.get hx
    obtain ⟨u2, hu2, ru2⟩ := rv2.get hy
    obtain ⟨s1, s2, ⟨a, b, s3⟩, s4, s5⟩ := st
    refine wpAny_pyNext_zip_item D s1 s2 s3 s4 s5 p1.isList p2.isList (x := u1) (y := u2) (by simpa using hu1) (by simpa using hu2) fun h' a1 a2 a3 a4 a5 a6 hk => ?_
    have hT : H s.heap.objs.size = none := I.hok.fresh (Nat.le_refl _)
    have fp : ∀ c ∈ [z, TO, i1, i2], FpOk X pins H c := fun c hc => hf c (by
      simp only [List.mem_cons, List.not_mem_nil, or_false] at hc ⊢
      rcases hc with rfl | rfl | rfl | rfl <;> simp)
    have out : ∀ c, c ∉ [z, TO, i1, i2] → ∀ o, s.heap.get? c = some o → h'.get? c = some o := fun c hc o e => hk c o (fun q => hc (by simp [q])) (fun q => hc (by simp [q])) (fun q => hc (by simp [q])) (fun q => hc (by simp [q])) e
    have trk : ∀ c o, H c = some o → c ∉ [z, TO, i1, i2] := fun c o e hc => by rw [(fp c hc).1] at e; cases e
    have hok : HOk X.prog X.w (upd H s.heap.objs.size (.tup [x, y])) h' := fun c o e => by
      by_cases hcT : c = s.heap.objs.size
      · subst hcT
        rw [upd_same] at e
        cases e
        exact ⟨by show 2 ≤ sizeLine; decide, [u1, u2], .cons ru1 (.cons ru2 .nil), ⟨_, a5, rfl, _, rfl⟩⟩
      · rw [upd_ne hcT] at e
        refine (I.hok c o e).stay (fun b u hb q => out b ?_ u q) (fun b q => ?_) fun b ts q => ?_
        · rcases hb with rfl | hb
          · exact trk b _ e
          · exact trk b _ hb
        · rw [upd_ne (ne_of_none q hT)]; exact q
        · rw [upd_ne (ne_of_none q hT)]; exact q
    have I1 : Inv X pins σ (upd H s.heap.objs.size (.tup [x, y])) { s with heap := h', gens := s.gens, drawn := s.drawn, toks := s.toks } := I.step (ch := [z, TO, i1, i2])
      (fun c hc => ⟨(fp c hc).2.2.2.1, (fp c hc).2.1, (fp c hc).2.2.2.2.1, (fp c hc).2.2.2.2.2⟩) (fun c o _ _ hc e _ => out c hc o e) (fun c o _ _ hc e _ => ⟨o.slots, out c hc o e⟩)
      (fun c o hc e n => by rw [upd_ne (Nat.ne_of_lt (Heap.lt_size e))]; exact n) (fun c o hc e => ⟨o, out c hc o e⟩)
      (fun c ts e => by rw [upd_ne (ne_of_none e hT)]; exact e) (fun c o u e => by rw [upd_ne (ne_of_none e hT)]; exact e) (fun c ts e => ⟨#[], by rw [upd_ne (ne_of_none e hT), e]; simp⟩)
      (fun m hm => by
        obtain ⟨o, es, ep, ho, r⟩ := hm
        exact ⟨o, es, ep, out _ (fun hc => (fp _ hc).2.1 rfl) o ho, r⟩) hok I.bare
    have lt : ∀ {c o}, s.heap.get? c = some o → s.heap.objs.size ≠ c := fun e => Nat.ne_of_gt (Heap.lt_size e)
    refine ⟨_, rfl, wpAny_letOwnedTupleGo_zip a1 fun h2 hz2 hs2 => ?_⟩
    obtain ⟨z0, z1, z2, z3, z4, z5⟩ := hf z (by simp)
    have I2 : Inv X pins σ (upd H s.heap.objs.size (.tup [x, y])) { s with heap := h2 } := Inv.turned (s := { s with heap := h', gens := s.gens, drawn := s.drawn, toks := s.toks }) (t' := s.toks) (it := z) I1 (fun b o hb e => (hs2.2 b hb).trans e) (by rw [upd_ne (lt s1).symm]; exact z0) z1 z3 z4 z5
    refine ⟨.ref s.heap.objs.size, _, I2, rfl, ⟨_, x, y, hT, rfl, rfl, fun xs' q' => by rw [I.list_inj q' q1]; exact hx, fun ys' q' => by rw [I.list_inj q' q2]; exact hy⟩,
      ⟨hz2, hs2.extBut _ _ D.TIz (out TI (by simp [D.TIz, D.TITO, D.TIi1, D.TIi2]) _ s2), ⟨_, _, hs2.extBut _ _ D.TOz a2⟩, a3.extBut hs2.extBut D.i1z, a4.extBut hs2.extBut D.i2z⟩, fun c hc => ?_⟩
    have : H c = none := (hf c hc).1
    obtain ⟨oc, hoc⟩ : ∃ o, s.heap.get? c = some o := by
      simp only [List.mem_cons, List.not_mem_nil, or_false] at hc
      rcases hc with rfl | rfl | rfl | rfl | rfl
      · exact ⟨_, s1⟩
      · exact ⟨_, s2⟩
      · exact ⟨_, s3⟩
      · obtain ⟨o, e, _⟩ := s4; exact ⟨o, e⟩
      · obtain ⟨o, e, _⟩ := s5; exact ⟨o, e⟩
    rw [upd_ne (lt hoc).symm]; exact this
  done := by
    intro X hP hw hK hc i pins s σ H E I hf st hg
    subst hP hw hK
    obtain ⟨xs, ys, q1, q2, hend⟩ := hg
    obtain ⟨its1, rv1, p1, hz1⟩ := I.list q1
    obtain ⟨its2, rv2, p2, hz2⟩ := I.list q2
    have l1 := rv1.length
    have l2 := rv2.length
    obtain ⟨s1, s2, ⟨a, b, s3⟩, s4, s5⟩ := st
    have fp : ∀ c ∈ [z, TO, i1, i2], FpOk X pins H c := fun c hc => hf c (by
      simp only [List.mem_cons, List.not_mem_nil, or_false] at hc ⊢
      rcases hc with rfl | rfl | rfl | rfl <;> simp)
    refine wpAny_pyNext_zip_end (I.ok.hd hc) D s1 s2 s3 s4 s5 p1.isList p2.isList (by simp; omega) fun h' hk => ⟨rfl, ?_⟩
    have out : ∀ c, c ∉ [z, TO, i1, i2] → ∀ o, s.heap.get? c = some o → h'.get? c = some o := fun c hc o e => hk c o (fun q => hc (by simp [q])) (fun q => hc (by simp [q])) (fun q => hc (by simp [q])) (fun q => hc (by simp [q])) e
    have trk : ∀ c o, H c = some o → c ∉ [z, TO, i1, i2] := fun c o e hc => by rw [(fp c hc).1] at e; cases e
    exact I.step (g' := s.gens) (d' := s.drawn) (t' := s.toks) (ch := [z, TO, i1, i2]) (fun c hc => ⟨(fp c hc).2.2.2.1, (fp c hc).2.1, (fp c hc).2.2.2.2.1, (fp c hc).2.2.2.2.2⟩) (fun c o _ _ hc e _ => out c hc o e) (fun c o _ _ hc e _ => ⟨o.slots, out c hc o e⟩)
      (fun c o hc e n => n) (fun c o hc e => ⟨o, out c hc o e⟩) (fun c ts e => e) (fun c o u e => e) (fun c ts e => ⟨#[], by rw [e]; simp⟩)
      (fun m hm => by
        obtain ⟨o, es, ep, ho, r⟩ := hm
        exact ⟨o, es, ep, out _ (fun hc => (fp _ hc).2.1 rfl) o ho, r⟩)
      (fun c o e => (I.hok c o e).stay (fun b u hb q => out b (by
        rcases hb with rfl | hb
        · exact trk b _ e
        · exact trk b _ hb) u q) (fun b q => q) fun b ts q => q) I.bare
  self := fun _ _ _ _ _ st h => wpAny_pyIter_zip st.1 h
section
variable {X : Cx}
theorem zip_apart (n l1 l2 : Nat) (h1 : l1 < n) (h2 : l2 < n) : ZipApart (n + 4) (n + 2) (n + 3) n (n + 1) l1 l2 := ⟨(show ¬ ((n + 2 : Nat) = n + 4) by omega), (show ¬ ((n + 3 : Nat) = n + 4) by omega), (show ¬ ((n : Nat) = n + 4) by omega), (show ¬ ((n + 1 : Nat) = n + 4) by omega), (show ¬ ((n + 2 : Nat) = n + 3) by omega), (show ¬ ((n + 2 : Nat) = n) by omega), (show ¬ ((n + 2 : Nat) = n + 1) by omega), (show ¬ ((n + 3 : Nat) = n) by omega), (show ¬ ((n + 3 : Nat) = n + 1) by omega), (show ¬ ((n : Nat) = n + 1) by omega), (show ¬ ((l1 : Nat) = n + 4) by omega), (show ¬ ((l1 : Nat) = n + 3) by omega), (show ¬ ((l1 : Nat) = n) by omega), (show ¬ ((l1 : Nat) = n + 1) by omega), (show ¬ ((l2 : Nat) = n + 4) by omega), (show ¬ ((l2 : Nat) = n + 3) by omega), (show ¬ ((l2 : Nat) = n) by omega), (show ¬ ((l2 : Nat) = n + 1) by omega)⟩
def iZip (K : PySem.W.Frag) (ta : TA) : TI := fun σ H R => ta σ H fun vs H1 => ∃ a b, vs = [.ref a, .ref b] ∧ (∃ xs, SqL K H1 a xs) ∧ (∃ ys, SqL K H1 b ys) ∧ R (Itz K a b) H1
theorem pi_zip {elts : List Expr} {k1 : Nat} {tpos : Pos} {a b : Expr} {ta : TA} {p pos : Pos} (hg : Gl X "zip") (hm : X.mg "zip" = none) (ha : PA X [a, b] ta) (hs : starEach [a, b] X.env = [(false, eval a X.env), (false, eval b X.env)] := by rfl) (hs2 : starEach [b] X.env = [(false, eval b X.env)] := by rfl) :
    PI X (.Tuple elts k1 tpos) (.Call (.Name "zip" p) [a, b] [] pos) (iZip X.K ta) := by
  intro pins s σ H R I h
  refine Call_ (ld_blt I hg hm PyProof.Rows.Boot.«zip» (PyProof.Rows.callWith_type1 (thn (ha pos pins s σ H _ I h) fun us s1 ⟨vs, H1, I1, r1, q1⟩ => ?_) (by rw [hs, hs2]) (by rw [hs2]; rfl)))
  obtain ⟨l1, l2, e, ⟨xs, hx⟩, ⟨ys, hy⟩, q⟩ := q1
  subst e
  cases r1 with
  | cons r rr =>
    cases rr with
    | cons r' rr =>
      cases rr
      cases r
      cases r'
      obtain ⟨its1, rv1, p1, hz1⟩ := I1.list hx
      obtain ⟨its2, rv2, p2, hz2⟩ := I1.list hy
      have n1 : l1 < s1.heap.objs.size := by obtain ⟨o, n, ho, _⟩ := p1; exact Heap.lt_size ho
      have n2 : l2 < s1.heap.objs.size := by obtain ⟨o, n, ho, _⟩ := p2; exact Heap.lt_size ho
      refine call_zip_2 p1.isList p2.isList fun h' c1 c2 c3 c4 c5 c6 hk => ?_
      refine wpAny_pyIter_zip c1 ?_
      refine ⟨_, _, _, Itz X.K l1 l2, H1, rfl, I1.kept (t' := s1.toks) fun b o e => hk b o e, turn_zip (i1 := s1.heap.objs.size) (i2 := s1.heap.objs.size + 1) (TI := s1.heap.objs.size + 2) (TO := s1.heap.objs.size + 3) (z := s1.heap.objs.size + 4) (l1 := l1) (l2 := l2)
        (zip_apart s1.heap.objs.size l1 l2 n1 n2), ⟨c1, c2, ⟨_, _, c3⟩, c4, c5⟩, fun b hb => ?_, q⟩
      have hb' : s1.heap.objs.size ≤ b := by
        simp only [List.mem_cons, List.not_mem_nil, or_false] at hb
        rcases hb with rfl | rfl | rfl | rfl | rfl <;> omega
      exact I1.fpOk hb' (I1.hok.fresh hb')
end
end L2
namespace DL
open PySem PySem.Spec PyProof.Rows L2
def itZ (A B : SD → Out D) : SD → Out (List D) := fun ς => A ς >>= fun x => B ς >>= fun y => match x, y with
  | .lst xs, .lst ys => .ok (List.zipWith (fun a b => .tup [a, b]) xs ys)
  | _, _ => .stuck
section
variable {C : Dc} {a b : Expr} {A B : SD → Out D}
theorem dit_zip {K : PySem.W.Frag} {CT : CTab} {G1 : Hp} {p q : Addr} {xs ys : List D} {us vs : List V} (h1 : SqL K G1 p us) (r1 : RepL K CT G1 xs us) (h2 : SqL K G1 q vs) (r2 : RepL K CT G1 ys vs) : DIt K CT G1 (Itz K p q) (List.zipWith (fun a b => D.tup [a, b]) xs ys) where
  go := fun G H i d s1 sH hd => by
    rw [List.getElem?_zipWith] at hd
    cases e1 : xs[i]? with
    | none => rw [e1] at hd; cases hd
    | some x =>
      cases e2 : ys[i]? with
      | none => rw [e1, e2] at hd; cases hd
      | some y =>
        rw [e1, e2] at hd
        cases hd
        obtain ⟨u, hu, ru⟩ := r1.get e1
        obtain ⟨v, hv, rv⟩ := r2.get e2
        have q1 : SqL K H p us := sH.seq (s1.seq h1)
        have q2 : SqL K H q vs := sH.seq (s1.seq h2)
        refine ⟨⟨us, vs, u, v, q1, q2, hu, hv⟩, fun w H' ⟨t, x', y', n, e, e', k1, k2⟩ => ?_⟩
        have z1 := k1 us q1
        have z2 := k2 vs q2
        rw [hu] at z1; cases z1
        rw [hv] at z2; cases z2
        subst e e'
        have gn : G t = none := sH.free n
        refine ⟨upd G t (.tup [u, v]), same_upd gn, same_upd n, same_upd2 sH, fun b g g' => ?_, t, [u, v], rfl, SqT.of upd_same, ⟨u, _, rfl, Rep.mono (s1.trans (same_upd gn)) x u ru, v, _, rfl, Rep.mono (s1.trans (same_upd gn)) y v rv, rfl⟩⟩
        by_cases hb : b = t
        · subst hb; exact n
        · rw [upd_ne hb] at g'; exact absurd g g'
  stop := fun G H s1 sH => by
    refine ⟨us, vs, sH.seq (s1.seq h1), sH.seq (s1.seq h2), ?_⟩
    have l1 := r1.length
    have l2 := r2.length
    rw [List.length_zipWith]
    omega
theorem di_zip {elts : List Expr} {k1 : Nat} {tpos p pos : Pos} (hgl : Gl C.X "zip") (hm : C.X.mg "zip" = none) (ha : DE C a A) (hb : DE C b B)
    (hst : starEach [a, b] C.X.env = (false, eval a C.X.env) :: starEach [b] C.X.env := by rfl) (hst2 : starEach [b] C.X.env = (false, eval b C.X.env) :: starEach [] C.X.env := by rfl) : DI C (.Tuple elts k1 tpos) (.Call (.Name "zip" p) [a, b] [] pos) (itZ A B) := by
  obtain ⟨t0, p0, q0⟩ := ha
  obtain ⟨t3, p3, q3⟩ := hb
  refine ⟨_, pi_zip hgl hm (pa_cons p0 (pa_cons p3 pa_nil hst2) hst) (by rw [hst, hst2]; rfl) (by rw [hst2]; rfl), fun G H σ ς R S k => ?_⟩
  unfold itZ at k
  rw [Out.post_bind] at k
  refine q0 G H σ ς _ S (Out.post_mono k fun d k v H1 G1 S1 a1 b1 r => ?_)
  rw [Out.post_bind] at k
  refine q3 G1 H1 σ ς _ S1 (Out.post_mono k fun d2 k v2 H2 G2 S2 a2 b2 r' => ?_)
  cases d with
  | lst xs =>
    cases d2 with
    | lst ys =>
      obtain ⟨p1, us, rfl, h1, r1⟩ := Rep.mono b2 _ v r
      obtain ⟨p2, vs, rfl, h2, r2⟩ := r'
      exact ⟨p1, p2, rfl, ⟨us, S2.sub.seq h1⟩, ⟨vs, S2.sub.seq h2⟩, k _ H2 G2 S2 (a1.trans a2) (b1.trans b2) (dit_zip h1 r1 h2 r2)⟩
    | _ => exact k.elim
  | _ => exact k.elim
end
end DL
set_option Elab.async false
set_option linter.all false
set_option maxRecDepth 100000
namespace DL
open PySem PySem.Spec PyProof.Rows L2
def putD (f : Str) (d : D) : List (Str × D) → List (Str × D)
  | [] => [(f, d)]
  | (g, x) :: r => if g = f then (g, d) :: r else (g, x) :: putD f d r
section
variable {K : PySem.W.Frag} {CT : CTab} {H H' : Hp}
theorem RepF.look : ∀ {fds : List (Str × D)} {fs : List (Str × V)} {f : Str}, RepF K CT H fds fs → (∀ d, fds.lookup f = some d → ∃ v, fs.lookup f = some v ∧ Rep K CT H d v) ∧ (fds.lookup f = none → fs.lookup f = none)
  | [], _, f, h => by cases h; exact ⟨fun d z => (by cases z), fun _ => rfl⟩
  | (k, d) :: fds, _, f, ⟨v, r, h1, h2, h3⟩ => by
    subst h1
    have ih := RepF.look (f := f) h3
    rw [List.lookup_cons, List.lookup_cons]
    cases f == k with
    | true => exact ⟨fun d' z => by cases z; exact ⟨v, rfl, h2⟩, fun z => by cases z⟩
    | false => exact ih
theorem RepF.len : ∀ {fds : List (Str × D)} {fs : List (Str × V)}, RepF K CT H fds fs → fds.length = fs.length
  | [], _, h => by cases h; rfl
  | (k, d) :: fds, _, ⟨v, r, h1, h2, h3⟩ => by subst h1; rw [List.length_cons, List.length_cons, RepF.len h3]
theorem RepF.put {f : Str} {d : D} {v : V} (q : Rep K CT H d v) : ∀ {fds : List (Str × D)} {fs : List (Str × V)}, RepF K CT H fds fs → RepF K CT H (putD f d fds) (putF f v fs)
  | [], _, h => by cases h; exact ⟨v, [], rfl, q, rfl⟩
  | (k, x) :: fds, _, ⟨u, r, h1, h2, h3⟩ => by
    subst h1
    unfold putD putF
    by_cases hk : k = f
    · rw [if_pos hk, if_pos hk]; exact ⟨v, r, rfl, q, h3⟩
    · rw [if_neg hk, if_neg hk]; exact ⟨u, _, rfl, h2, RepF.put q h3⟩
end
def FldOk (K : PySem.W.Frag) (CT : CTab) (cs : List Str) (f : Str) : Prop := ∀ c, cs.contains c = true → ∀ A, CT c = some A → Cls K A ∧ NoAttr K A f
def dFld (cs : List Str) (f : Str) : D → Out D
  | .ins c fs => if cs.contains c = true then optO (fs.lookup f) else .stuck
  | _ => .stuck
section
variable {C : Dc} {e : Expr} {E : SD → Out D} {f : Str} {cs : List Str} {pos : Pos}
theorem de_fld (hF : FldOk C.X.K C.CT cs f) (h : DE C e E) (hb : attributeBase e f C.X.env (eval e C.X.env) = eval e C.X.env := by rfl) : DE C (.Attribute e f pos) (e1 (dFld cs f) E) := by
  obtain ⟨t, p, q⟩ := h
  refine ⟨_, pe_fld p hb, fun G H σ ς Q S k => ?_⟩
  unfold e1 at k
  rw [Out.post_bind] at k
  refine q G H σ ς _ S (Out.post_mono k fun d k v H1 G1 S1 a1 b1 r => ?_)
  cases d with
  | ins c fds =>
    rcases post_ite k with ⟨hc, k⟩ | ⟨_, k⟩
    · obtain ⟨d, e1', kd⟩ := post_opt k
      obtain ⟨a, A, dx, fs, rfl, h1, h2, h3⟩ := r
      obtain ⟨v, e2', rv⟩ := (RepF.look h3).1 d e1'
      obtain ⟨cl, na⟩ := hF c hc A h1
      exact ⟨a, A, dx, fs, v, rfl, S1.sub _ _ h2, cl, na, e2', KD.now (KD.later kd a1 b1) S1 rv⟩
    · exact k.elim
  | _ => exact k.elim
theorem StR.writeS {G H : Hp} {σ : St} {ς : SD} (S : StR C G H σ ς) {i : Nat} {p A dx : Addr} {c : Str} {fds fds' : List (Str × D)} {fs' : List (Str × V)} (hi : ς[i]? = some (some (.s, .ins c fds))) (hp : σ[i]? = some (some (.ref p))) (hc : C.CT c = some A) (r : RepF C.X.K C.CT G fds' fs') :
    StR C G (upd H p (.ins A dx fs')) σ (ς.set i (some (.s, .ins c fds'))) := by
  obtain ⟨p', e1, hg, h0, hM, hB, ow⟩ := S.sf i _ hi
  rw [hp] at e1; cases e1
  have ne : ∀ b o, G b = some o → b ≠ p := fun b o e z => by subst z; rw [hg] at e; cases e
  have S' : StR C G (upd H p (.ins A dx fs')) (σ.set i (some (.ref p))) (ς.set i (some (.s, .ins c fds'))) := {
    sub := fun b o e => by rw [upd_ne (ne b o e)]; exact S.sub b o e
    g0 := S.g0
    new := S.new
    fr := fun b o e m => by
      rw [upd_ne (by rintro rfl; exact m hM)]; exact S.fr b o e m
    dom := fun b e => by
      by_cases hb : b = p
      · subst hb; rw [upd_same] at e; cases e
      · rw [upd_ne hb] at e; exact S.dom b e
    bs := fun b o e => by
      rw [upd_ne (by rintro rfl; rw [hB] at e; cases e)]; exact S.bs b o e
    bh := S.bh
    len := by rw [List.length_set, List.length_set]; exact S.len
    fz := fun j d h => by
      rcases get_set h with ⟨rfl, h2, l⟩ | ⟨hne, h2⟩
      · cases h2
      · rw [set_get_ne hne]; exact S.fz j d h2
    ow := fun j d h => by
      rcases get_set h with ⟨rfl, h2, l⟩ | ⟨hne, h2⟩
      · cases h2
      · rw [set_get_ne hne]
        obtain ⟨q, a, b, c', w⟩ := S.ow j d h2
        have qp : q ≠ p := by
          rintro rfl
          exact h0 c'
        exact ⟨q, a, b, c', w.mono (Same.refl G) fun o z => by rw [upd_ne qp]; exact z⟩
    ln := fun j d h => by
      rcases get_set h with ⟨rfl, h2, l⟩ | ⟨hne, h2⟩
      · cases h2
      · rw [set_get_ne hne]; exact S.ln j d h2
    inj := fun j k d1 d2 q hjk h1 h2 h3 => by
      rcases get_set h1 with ⟨rfl, q1, l⟩ | ⟨n1, q1⟩
      · cases q1
      · rcases get_set h2 with ⟨rfl, q2, l⟩ | ⟨n2, q2⟩
        · cases q2
        · rw [set_get_ne n1] at h3
          rw [set_get_ne n2]
          exact S.inj j k d1 d2 q hjk q1 q2 h3
    sf := fun j d h => by
      rcases get_set h with ⟨rfl, h2, l⟩ | ⟨hne, h2⟩
      · cases h2
        exact ⟨p, set_get (by rw [S.len]; exact l), hg, h0, hM, hB, ⟨A, dx, fs', hc, upd_same, r⟩⟩
      · exact absurd (S.su i j _ _ hi h2) hne
    su := fun j k d1 d2 h1 h2 => by
      have get : ∀ (j : Nat) d, (ς.set i (some (.s, D.ins c fds')))[j]? = some (some (.s, d)) → ∃ d', ς[j]? = some (some (.s, d')) := fun j d h => by
        rcases get_set h with ⟨rfl, h2, l⟩ | ⟨hne, h2⟩
        · exact ⟨_, hi⟩
        · exact ⟨_, h2⟩
      obtain ⟨d1', g1⟩ := get j d1 h1
      obtain ⟨d2', g2⟩ := get k d2 h2
      exact S.su j k d1' d2' g1 g2 }
  rw [set_self hp] at S'
  exact S'
def sFldS (cs : List Str) (f : Str) (i : Nat) (E : SD → Out D) : SD → Out Fl := fun ς => E ς >>= fun d => match ς[i]? with
  | some (some (.s, .ins c fds)) => if (cs.contains c && decide (fds.length < 1000)) = true then .ok (.nx (ς.set i (some (.s, .ins c (putD f d fds))))) else .stuck
  | _ => .stuck
theorem ds_fldS (i : Nat) {x : Str} {px pa : Pos} (hF : FldOk C.X.K C.CT cs f) (h : DE C e E) (hN : C.X.N[i]? = some x := by rfl) (hv : Vis C.X.env.scope x := by first | exact Or.inl rfl | exact Or.inr (Or.inl rfl) | exact Or.inr (Or.inr rfl))
    (hd : (x == ("__debug__" : Str)) = false := by decide) (hcd : (x == ("__classdict__" : Str)) = false := by decide)
    (hs : swapsWith e (some (.Attribute (.Name x px) f pa)) pos.line C.X.env = pure false := by rfl) : DS C (.Assign [.Attribute (.Name x px) f pa] e pos) (sFldS cs f i E) := by
  obtain ⟨t, p, q⟩ := h
  refine ⟨_, ps_fld (pe_var (i := i) hN hv hd hcd) p hs, fun G H σ ς W S k => ?_⟩
  unfold sFldS at k
  rw [Out.post_bind] at k
  refine q G H σ ς _ S (Out.post_mono k fun d k v H1 G1 S1 a1 b1 r => ?_)
  split at k
  · rename_i c fds z
    rcases post_ite k with ⟨hc, k⟩ | ⟨_, k⟩
    · rw [Bool.and_eq_true] at hc
      obtain ⟨pp, e1', hg, h0, hM, hB, A, dx, fs, hA, hH, rf⟩ := S1.sf i _ z
      obtain ⟨cl, na⟩ := hF c hc.1 A hA
      refine ⟨_, e1', pp, A, dx, fs, rfl, hH, cl, na, by rw [← rf.len]; exact of_decide_eq_true hc.2, ?_⟩
      exact (show FlK C G W (.nx (ς.set i (some (.s, .ins c (putD f d fds))))) from k) σ _ G1 (S1.writeS z e1' hA (rf.put r)) b1
    · exact k.elim
  · exact k.elim
end
end DL
set_option Elab.async false
set_option linter.all false
set_option maxRecDepth 100000
namespace L2
open PySem PySem.Spec PyProof.Rows
section
variable {X : Cx} {CX : CXT} {k : Nat} {m : Str} {dvs : List V} {E : XK} {o e : Expr} {es : List Expr} {ta : TE} {t : TA} {apos pos : Pos} {cs : Addr → Sp → Prop}
def MTab (X : Cx) (CX : CXT) (k : Nat) (m : Str) (dvs : List V) (cs : Addr → Sp → Prop) : Prop :=
  ∀ C sp, cs C sp → Cls X.K C ∧ ∃ f fd ps ds, Meth X.K C m f ∧ FnOk X.prog X.w X.K X.mg X.base CX k f fd ps sp ∧ Binds X.K fd ps ds ∧ Vals dvs ds
def tMethT (m : Str) (dvs : List V) (cs : Addr → Sp → Prop) (E : XK) (ta : TE) (t : TA) : TE := fun σ H Q => ta σ H fun x H1 => ∃ a C dx fs sp, x = .ref a ∧ H1 a = some (.ins C dx fs) ∧ cs C sp ∧ fs.lookup m = none ∧ t σ H1 fun vs H2 => sp (x :: (vs ++ dvs)) H2 Q E
theorem pe_methT {pl : Sem Bool} (he : PE X o ta) (tab : MTab X CX k m dvs cs) (hr : Room k X.A) (hx : Passes CX X E) (ha : PA X (e :: es) t)
    (hst : starEach (e :: es) X.env = (false, eval e X.env) :: starEach es X.env := by rfl) (hpl : (backTo pos (starEach es X.env)).any (·.1) = false := by rfl)
    (ht : eval (.Call (.Attribute o m apos) (e :: es) [] pos) X.env = (do
      let ov ← eval o X.env
      standAt apos.atName
      let (f, first) ← holding [ov] (getMethod ov m pl)
      callWith pos f first (backTo pos (starEach (e :: es) X.env)) (backToKw pos (keywordEach [] X.env))) := by rfl) :
    PE X (.Call (.Attribute o m apos) (e :: es) [] pos) (tMethT m dvs cs E ta t) := by
  intro pins s σ H Q I h
  refine PySem.W.methodCall_KW (pl := pl) (thn (he pins s σ H _ I h) fun u s1 ⟨x, H1, I1, rx, a, C, dx, fs, sp, ex, ea, hc, l, q⟩ => ?_) ht
  subst ex
  obtain rfl : u = Value.ref a := rx
  obtain ⟨c, f, fd, ps, ds, hm, F, hb, hd⟩ := tab C sp hc
  refine getmeth_ok I1 ea c hm l ?_
  refine PySem.W.callWith_K (first := [.ref a]) (h₀ := X.base) I.ok.mod.kin hm.kp (thn (ha pos pins s1 σ H1 _ I1 q) fun us s2 ⟨vs, H2, I2, r, q2⟩ => ⟨I2.kIn, ?_⟩) hst hpl
  exact run_fn (us := .ref a :: us) (vs := .ref a :: vs) F hr hb hd hx I2 (.cons rfl r) q2
theorem pe_methT0 {pl : Sem Bool} (he : PE X o ta) (tab : MTab X CX k m dvs cs) (hr : Room k X.A) (hx : Passes CX X E)
    (ht : eval (.Call (.Attribute o m apos) [] [] pos) X.env = (do
      let ov ← eval o X.env
      standAt apos.atName
      let (f, first) ← holding [ov] (getMethod ov m pl)
      callWith pos f first (backTo pos (starEach [] X.env)) (backToKw pos (keywordEach [] X.env))) := by rfl) :
    PE X (.Call (.Attribute o m apos) [] [] pos) (tMethT m dvs cs E ta tNil) := by
  intro pins s σ H Q I h
  refine PySem.W.methodCall_KW (pl := pl) (thn (he pins s σ H _ I h) fun u s1 ⟨x, H1, I1, rx, a, C, dx, fs, sp, ex, ea, hc, l, q⟩ => ?_) ht
  subst ex
  obtain rfl : u = Value.ref a := rx
  obtain ⟨c, f, fd, ps, ds, hm, F, hb, hd⟩ := tab C sp hc
  refine getmeth_ok I1 ea c hm l ?_
  exact PySem.W.callWith_K0 (first := [.ref a]) I1.kIn hm.kp (run_fn (us := [.ref a]) (vs := [.ref a]) F hr hb hd hx I1 (.cons rfl .nil) q)
end
end L2
namespace DL
open PySem PySem.Spec PyProof.Rows L2
def XDofI (CT : CTab) (E : XK) (H : Hp) (p : Addr) : D → Prop := fun d => ∃ c C, d = .err c ∧ CT c = some C ∧ ∀ H', (∀ b o, H b = some o → b ≠ p → H' b = some o) → E (.ref C) none H'
def SpI (K : PySem.W.Frag) (CT : CTab) (m : Str → List (Str × D) → List D → Out (List (Str × D))) : Sp := fun vs H Q E => ∃ p c A dx fs fds vs' ds G0, vs = .ref p :: vs' ∧ CT c = some A ∧ H p = some (.ins A dx fs) ∧ G0 p = none ∧ Same G0 H ∧ RepF K CT G0 fds fs ∧ RepL K CT G0 ds vs' ∧
  (m c fds ds).post (fun fds' => ∀ H' G' fs' dx', Same G0 G' → (∀ b o, H b = some o → b ≠ p → H' b = some o) → Same G' H' → (∀ b, G0 b = none → G' b ≠ none → H b = none) → H' p = some (.ins A dx' fs') → RepF K CT G' fds' fs' → Q .non H') (XDofI CT E H p)
def selfAt (c : Str) (ς : SD) : Out (List (Str × D)) := match (ς[0]? : Option (Option (SM × D))) with
  | some (some (SM.s, D.ins c' fds)) => if c' = c then .ok fds else .stuck
  | _ => .stuck
def selfOf (c : Str) : Fl → Out (List (Str × D))
  | .nx ς => selfAt c ς
  | _ => .stuck
def bodyI (n len : Nat) (T : SD → Out Fl) : Str → List (Str × D) → List D → Out (List (Str × D)) := fun c fds ds =>
  if ds.length + 1 = n then T (some (.s, .ins c fds) :: (ds.map (fun d => some (.k, d)) ++ List.replicate (len - n) none)) >>= selfOf c else .stuck
abbrev dcI (P : Program) (w : World) (K : PySem.W.Frag) (mg : Str → Option Value) (base : Heap) (CT : CTab) (N : List Str) (qual : Str) (sc : Scope) (f : Addr) (cdv : Value) (A : Around) (outer : List Env) (s : Shared) (H : Hp) (E : XK) (G : Hp) (p : Addr) : Dc :=
  { X := cxOf (CXR P w) P w K mg base N qual sc f cdv A outer s H E, CT := CT, G0 := G, XD := XDofI CT E H p, B := fun b => if b = p then none else H b, M := fun b => b = p }
theorem fnI {P : Program} {w : World} {K : PySem.W.Frag} {mg : Str → Option Value} {base : Heap} {CT : CTab} {x qual : Str} {st : Stmt} {f : Addr} {fd : FuncData} {dV : Value} {N ps : List Str} {k : Nat} {T : SD → Out Fl}
    (F : FunV K x qual st f fd dV) (S : FnScope N ps (defScope st))
    (hb : ∀ (cdv : Value) (A : Around) (outer : List Env) (s : Shared) (H : Hp) (E : XK) (G : Hp) (p : Addr), Room k (A.deeper (envOfC qual (defScope st) s.heap.objs.size f cdv)) → DSs (dcI P w K mg base CT N qual (defScope st) f cdv A outer s H E G p) (defBody st) T) :
    FnOk P w K mg base (CXR P w) (k + 1) f fd ps (SpI K CT (bodyI ps.length N.length T)) := by
  obtain ⟨oc, od, kV, doc, pm, an, cdv, ct, osl, rfl, lk, hcd⟩ := F.ex
  have hpl : ps.length ≤ N.length := by have := congrArg List.length S.pre; rw [List.length_take] at this; omega
  have len : ∀ vs H Q E, SpI K CT (bodyI ps.length N.length T) vs H Q E → vs.length = ps.length := by
    intro vs H Q E ⟨p, c, A, dx, fs, fds, vs', ds, G0, e, _, _, _, _, _, r, q⟩
    unfold bodyI at q
    by_cases hl : ds.length + 1 = ps.length
    · rw [e, List.length_cons, ← r.length]; exact hl
    · rw [if_neg hl] at q; exact q.elim
  refine fn_of lk hcd S len fun A outer s H vs Q E hr hsp => ?_
  have hlen := len vs H Q E hsp
  obtain ⟨p, c, Ac, dx, fs, fds, vs', ds, G0, rfl, hct, hp, hg, sub, rf, r, q⟩ := hsp
  obtain ⟨t, p1, q1⟩ := hb cdv A outer s H E G0 p hr
  have hl : ds.length + 1 = ps.length := by rw [r.length]; exact hlen
  refine ⟨t, p1, ?_⟩
  unfold bodyI at q
  rw [if_pos hl, Out.post_bind] at q
  have get : ∀ (i : Nat) x, (some (SM.s, D.ins c fds) :: (ds.map (fun d => some (SM.k, d)) ++ List.replicate (N.length - ps.length) none))[i]? = some (some x) → (i = 0 ∧ x = (.s, .ins c fds)) ∨ ∃ j d, i = j + 1 ∧ ds[j]? = some d ∧ x = (.k, d) := fun i x h => by
    cases i with
    | zero => exact .inl ⟨rfl, by simpa using h.symm⟩
    | succ j =>
      rw [List.getElem?_cons_succ] at h
      obtain ⟨d, e1, e2⟩ := slots_get h
      exact .inr ⟨j, d, rfl, e1, e2⟩
  have S0 : StR (dcI P w K mg base CT N qual (defScope st) f cdv A outer s H E G0 p) G0 H (L2.start N (.ref p :: vs')) (some (.s, .ins c fds) :: (ds.map (fun d => some (.k, d)) ++ List.replicate (N.length - ps.length) none)) := {
    sub := sub
    g0 := Same.refl _
    new := fun b h1 h2 => absurd h1 h2
    fr := fun b o e _ => e
    dom := fun b e => e
    bs := fun b o e => by
      have e' : (if b = p then none else H b) = some o := e
      by_cases hb : b = p
      · rw [if_pos hb] at e'; cases e'
      · rw [if_neg hb] at e'; exact e'
    bh := fun b e => by
      show (if b = p then none else H b) = none
      by_cases hb : b = p
      · rw [if_pos hb]
      · rw [if_neg hb]; exact e
    len := by unfold L2.start; simp; have := r.length; simp at hlen; omega
    fz := fun i d e => by
      rcases get i _ e with ⟨_, z⟩ | ⟨j, d', rfl, e1, z⟩
      · cases z
      · cases z
        obtain ⟨v, e3, rv⟩ := r.get e1
        exact ⟨v, start_get (by simpa using e3), rv⟩
    ow := fun i d e => by
      rcases get i _ e with ⟨_, z⟩ | ⟨j, d', rfl, e1, z⟩ <;> cases z
    ln := fun i d e => by
      rcases get i _ e with ⟨_, z⟩ | ⟨j, d', rfl, e1, z⟩ <;> cases z
    inj := fun i j d e p _ h => by
      rcases get i _ h with ⟨_, z⟩ | ⟨j, d', rfl, e1, z⟩ <;> cases z
    sf := fun i d e => by
      rcases get i _ e with ⟨rfl, z⟩ | ⟨j, d', rfl, e1, z⟩
      · cases z
        exact ⟨p, start_get rfl, hg, (by show H p ≠ none; rw [hp]; simp), rfl, if_pos rfl, ⟨Ac, dx, fs, hct, hp, rf⟩⟩
      · cases z
    su := fun i j d e h1 h2 => by
      rcases get i _ h1 with ⟨rfl, z⟩ | ⟨j, d', rfl, e1, z⟩
      · rcases get j _ h2 with ⟨rfl, z⟩ | ⟨j, d', rfl, e1, z⟩
        · rfl
        · cases z
      · cases z }
  refine q1 G0 H (L2.start N (.ref p :: vs')) _ _ S0 (Out.post_mono q fun fl kk => ?_)
  cases fl with
  | nx ς' =>
    intro σ' H' G' S' s'
    have kk : (selfAt c ς').post _ _ := kk
    unfold selfAt at kk
    split at kk
    · rename_i c' fds' z
      rcases post_ite kk with ⟨rfl, k2⟩ | ⟨_, k2⟩
      · obtain ⟨p', e1, hg', h0, hM, hB, A', dx', fs', hA', hH', rf'⟩ := S'.sf 0 _ z
        have hM : p' = p := hM
        subst hM
        have hA' : CT c' = some A' := hA'
        rw [hct] at hA'
        cases hA'
        exact k2 H' G' fs' dx' s' (fun b o e hb => S'.fr b o e hb) S'.sub S'.new hH' rf'
      · exact k2.elim
    · exact kk.elim
  | bk ς' => exact kk.elim
  | ct ς' => exact kk.elim
  | rt b d => exact kk.elim
end DL
set_option Elab.async false
set_option linter.all false
set_option maxRecDepth 100000
namespace DL
open PySem PySem.Spec PyProof.Rows L2
theorem rz_dcI {P : Program} {w : World} {K : PySem.W.Frag} {mg : Str → Option Value} {base : Heap} {CT : CTab} {N : List Str} {qual : Str} {sc : Scope} {f : Addr} {cdv : Value} {A : Around} {outer : List Env} {s : Shared} {H : Hp} {E : XK} {G : Hp} {p : Addr} :
    Rz (dcI P w K mg base CT N qual sc f cdv A outer s H E G p) E where
  pass := passR
  xd := fun d ⟨c, Cc, h1, h2, h3⟩ => ⟨c, Cc, h1, h2, fun H' k => h3 H' fun b o e hb => k b o e hb⟩
  made := fun Cc pins σ H1 s1 ea h' vs I hx hE => leave_made I rfl rfl rfl hx hE
  calm := rfl
section
variable {C : Dc} {E : XK} {c : Str} {A f : Addr} {fd : FuncData} {ps : List Str} {ds : List Value} {dd : List D} {k : Nat} {m : Str → List (Str × D) → List D → Out (List (Str × D))} {e : Expr} {es : List Expr} {AA : SD → Out (List D)} {p pos : Pos}
def eMake (c : Str) (m : Str → List (Str × D) → List D → Out (List (Str × D))) (a : SD → Out (List D)) : SD → Out D := fun ς => a ς >>= fun xs => m c [] xs >>= fun fds => .ok (.ins c fds)
def MkOk (P : Program) (w : World) (K : PySem.W.Frag) (mg : Str → Option Value) (base : Heap) (CT : CTab) (c : Str) (k : Nat) (m : Str → List (Str × D) → List D → Out (List (Str × D))) : Prop :=
  ∃ A f fd ps, CT c = some A ∧ mg c = some (.ref A) ∧ Mk K A f ∧ FnOk P w K mg base (CXR P w) k f fd ps (SpI K CT m) ∧ Binds K fd ps []
theorem df_make (rz : Rz C E) (h : MkOk C.X.prog C.X.w C.X.K C.X.mg C.X.base C.CT c k m) (hr : Room (k + 1) C.X.A) (ha : DA C (e :: es) AA) (hg : Gl C.X c)
    (hdb : (c == ("__debug__" : Str)) = false := by decide) (he : starEach (e :: es) C.X.env = (false, eval e C.X.env) :: starEach es C.X.env := by rfl) (hpl : (backTo pos (starEach es C.X.env)).any (·.1) = false := by rfl) :
    DF C (.Call (.Name c p) (e :: es) [] pos) (eMake c m AA) := by
  obtain ⟨A, f, fd, ps, hct, hm, M, F, hb⟩ := h
  obtain ⟨t, p1, q1⟩ := ha
  refine ⟨_, pe_make M F hr hg hm hb .nil rz.pass p1 hdb he hpl, fun G H σ ς Q S q => ?_⟩
  unfold eMake at q
  rw [Out.post_bind] at q
  refine q1 G H σ ς _ S (Out.post_mono q fun xs kk vs H1 G1 S1 a1 b1 r1 => ?_)
  intro x dx nx ndx ne
  rw [Out.post_bind] at kk
  have keep : ∀ b o, H1 b = some o → upd (upd H1 dx (.own x)) x (.ins A dx []) b = some o := fun b o e => by
    rw [upd_ne (ne_of_none e nx), upd_ne (ne_of_none e ndx)]; exact e
  have back : ∀ b, upd (upd H1 dx (.own x)) x (.ins A dx []) b = none → H1 b = none := fun b e => by
    by_cases hx : b = x
    · subst hx; exact nx
    · rw [upd_ne hx] at e
      by_cases hd : b = dx
      · subst hd; exact ndx
      · rw [upd_ne hd] at e; exact e
  refine ⟨x, c, A, dx, [], [], vs ++ [], xs, G1, rfl, hct, upd_same, S1.sub.free nx, fun b o e => keep b o (S1.sub b o e), rfl, by rw [List.append_nil]; exact r1, ?_⟩
  cases z : m c [] xs with
  | stuck => rw [z] at kk; exact kk.elim
  | exc y =>
    rw [z] at kk
    obtain ⟨c', Cc, e1', e2', e3'⟩ := rz.xd y kk
    exact ⟨c', Cc, e1', e2', fun H' s' => e3' H' fun b o q m' => s' b o (keep b o (S1.fr b o q m')) (ne_of_none (S1.fr b o q m') nx)⟩
  | ok fds =>
    rw [z] at kk
    intro H' G' fs' dx' g1 h1 s1 n1 hp rf
    have hh : Same H1 H' := fun b o e => h1 b o (keep b o e) (ne_of_none e nx)
    have hgp : G' x = none := by
      cases zz : G' x with
      | none => rfl
      | some o => have := n1 x (S1.sub.free nx) (by rw [zz]; simp); rw [upd_same] at this; cases this
    exact ⟨rfl, (show KF C G H σ ς Q (.ins c fds) from kk) x H' G' (S1.grow hh g1 s1 fun b g g' => back b (n1 b g g')) (a1.trans hh) (b1.trans g1) (a1.free nx) hgp ⟨A, dx', fs', hct, hp, rf⟩⟩
end
def MtOk (P : Program) (w : World) (K : PySem.W.Frag) (mg : Str → Option Value) (base : Heap) (CT : CTab) (CX : CXT) (name : Str) (k : Nat) (cs : List Str) (sp : Str → Sp) : Prop :=
  ∀ c, cs.contains c = true → ∃ A f fd ps, CT c = some A ∧ Cls K A ∧ Meth K A name f ∧ FnOk P w K mg base CX k f fd ps (sp c) ∧ Binds K fd ps []
def csOf (CT : CTab) (cs : List Str) (sp : Str → Sp) : Addr → Sp → Prop := fun A s => ∃ c, cs.contains c = true ∧ CT c = some A ∧ s = sp c
theorem mtab {X : Cx} {CT : CTab} {CX : CXT} {name : Str} {k : Nat} {cs : List Str} {sp : Str → Sp} (h : MtOk X.prog X.w X.K X.mg X.base CT CX name k cs sp) : MTab X CX k name [] (csOf CT cs sp) := by
  rintro A s ⟨c, hc, hA, rfl⟩
  obtain ⟨A', f, fd, ps, h1, h2, h3, h4, h5⟩ := h c hc
  rw [hA] at h1; cases h1
  exact ⟨h2, f, fd, ps, [], h3, h4, h5, .nil⟩
section
variable {C : Dc} {name : Str} {k : Nat} {cs : List Str} {fr : Bool} {mt : Str → List D → Out D} {o e : Expr} {es : List Expr} {O : SD → Out D} {AA : SD → Out (List D)} {apos pos : Pos}
def eMeth (cs : List Str) (name : Str) (mt : Str → List D → Out D) (O : SD → Out D) (A : SD → Out (List D)) : SD → Out D := fun ς => O ς >>= fun d => match d with
  | .ins c fds => if (cs.contains c && (fds.lookup name).isNone) = true then A ς >>= fun xs => mt c (.ins c fds :: xs) else .stuck
  | _ => .stuck
theorem meth_go {G H : Hp} {σ : St} {ς : SD} {Q : VK} {t : TA} {c : Str} {fds : List (Str × D)} {v1 : V} {H1 G1 : Hp} (S1 : StR C G1 H1 σ ς) (a1 : Same H H1) (b1 : Same G G1) (r1 : Rep C.X.K C.CT G1 (.ins c fds) v1)
    (tk : MtOk C.X.prog C.X.w C.X.K C.X.mg C.X.base C.CT CX0 name k cs (fun c => SpD C.X.K C.CT fr (mt c))) (hx : ∀ x, ¬ C.XD x)
    (hq : ∀ G H σ ς Q, StR C G H σ ς → (AA ς).post (fun ds => ∀ vs H' G', StR C G' H' σ ς → Same H H' → Same G G' → RepL C.X.K C.CT G' ds vs → Q vs H') C.XD → t σ H Q)
    {K' : D → Prop} (hK : ∀ d v H2 G2 H' G', StR C G2 H2 σ ς → Same H H2 → Same G G2 → K' d → Same G2 G' → Same H2 H' → Same G' H' → (∀ b, G2 b = none → G' b ≠ none → H2 b = none) → RetG C.X.K C.CT fr H2 G' H' d v → Q v H')
    (kk : (if (cs.contains c && (fds.lookup name).isNone) = true then AA ς >>= fun xs => mt c (.ins c fds :: xs) else .stuck).post K' C.XD) :
    ∃ a Cc dx fs sp, v1 = .ref a ∧ H1 a = some (.ins Cc dx fs) ∧ csOf C.CT cs (fun c => SpD C.X.K C.CT fr (mt c)) Cc sp ∧ fs.lookup name = none ∧ t σ H1 fun vs H2 => sp (v1 :: (vs ++ [])) H2 Q E0 := by
  rcases post_ite kk with ⟨hc, kk⟩ | ⟨_, kk⟩
  · rw [Bool.and_eq_true] at hc
    obtain ⟨a, Cc, dx, fs, rfl, hct, hh, rf⟩ := r1
    refine ⟨a, Cc, dx, fs, _, rfl, S1.sub _ _ hh, ⟨c, hc.1, hct, rfl⟩, (RepF.look rf).2 (by simpa using hc.2), ?_⟩
    rw [Out.post_bind] at kk
    refine hq G1 H1 σ ς _ S1 (Out.post_mono kk fun xs k2 vs H2 G2 S2 a2 b2 r2 => ?_)
    refine ⟨.ins c fds :: xs, G2, S2.sub, ⟨_, _, rfl, Rep.mono b2 (.ins c fds) (.ref a) ⟨a, Cc, dx, fs, rfl, hct, hh, rf⟩, by rw [List.append_nil]; exact r2⟩, ?_⟩
    cases z : mt c (.ins c fds :: xs) with
    | stuck => rw [z] at k2; exact k2.elim
    | exc y => rw [z] at k2; exact absurd k2 (hx y)
    | ok d =>
      rw [z] at k2
      intro v H' G' g1 h1 s1 n1 ret
      exact hK d v H2 G2 H' G' S2 (a1.trans a2) (b1.trans b2) k2 g1 h1 s1 n1 ret
  · exact kk.elim
theorem retKD {G H : Hp} {σ : St} {ς : SD} {Q : VK} : ∀ d v H2 G2 H' G', StR C G2 H2 σ ς → Same H H2 → Same G G2 → KD C G H σ ς Q d → Same G2 G' → Same H2 H' → Same G' H' → (∀ b, G2 b = none → G' b ≠ none → H2 b = none) → RetG C.X.K C.CT fr H2 G' H' d v → Q v H' := by
  intro d v H2 G2 H' G' S2 a b kd g1 h1 s1 n1 ret
  unfold RetG at ret
  by_cases hc : (fr && !d.scal) = true
  · rw [if_pos hc] at ret
    obtain ⟨pp, rfl, h0, hg', ow⟩ := ret
    obtain ⟨o, ho⟩ := ow.there
    have S3 := (S2.grow h1 g1 s1 n1).freeze ho hg' (S2.h0none h0) (fun i d' z1 z2 => by
      obtain ⟨o', ho'⟩ := S2.own_ne z1 z2
      rw [h0] at ho'; cases ho')
    exact kd _ _ _ S3 (a.trans h1) ((b.trans g1).trans (same_upd hg')) (ow.known hg' ho)
  · rw [if_neg hc] at ret
    exact kd v H' G' (S2.grow h1 g1 s1 n1) (a.trans h1) (b.trans g1) ret
theorem de_meth0 {pl : Sem Bool} (tk : MtOk C.X.prog C.X.w C.X.K C.X.mg C.X.base C.CT CX0 name k cs (fun c => SpD C.X.K C.CT fr (mt c))) (hr : Room k C.X.A) (ho : DE C o O) (hx : ∀ x, ¬ C.XD x := by exact fun _ h => h)
    (ht : eval (.Call (.Attribute o name apos) [] [] pos) C.X.env = (do
      let ov ← eval o C.X.env
      standAt apos.atName
      let (f, first) ← holding [ov] (getMethod ov name pl)
      callWith pos f first (backTo pos (starEach [] C.X.env)) (backToKw pos (keywordEach [] C.X.env))) := by rfl) :
    DE C (.Call (.Attribute o name apos) [] [] pos) (eMeth cs name mt O aNil) := by
  obtain ⟨t1, p1, q1⟩ := ho
  refine ⟨_, pe_methT0 (pl := pl) p1 (mtab tk) hr pass0 ht, fun G H σ ς Q S q => ?_⟩
  unfold eMeth at q
  rw [Out.post_bind] at q
  refine q1 G H σ ς _ S (Out.post_mono q fun d kk v1 H1 G1 S1 a1 b1 r1 => ?_)
  cases d with
  | ins c fds => exact meth_go (AA := aNil) (t := tNil) S1 a1 b1 r1 tk hx (fun G H σ ς Q S q => q [] H G S (Same.refl H) (Same.refl G) rfl) retKD kk
  | _ => exact kk.elim
end
end DL
set_option Elab.async false
set_option linter.all false
set_option maxRecDepth 100000
namespace DL
open PySem PySem.Spec PyProof.Rows L2
section
variable {C : Dc} {name : Str} {k : Nat} {cs : List Str} {mt : Str → List D → Out D} {o e : Expr} {es : List Expr} {O : SD → Out D} {AA : SD → Out (List D)} {apos pos : Pos}
variable {E : XK} {m : Str → List (Str × D) → List D → Out (List (Str × D))} {x : Str} {px spos : Pos}
def sMethS (cs : List Str) (name : Str) (m : Str → List (Str × D) → List D → Out (List (Str × D))) (i : Nat) (A : SD → Out (List D)) : SD → Out Fl := fun ς => match (ς[i]? : Option (Option (SM × D))) with
  | some (some (SM.s, D.ins c fds)) => if (cs.contains c && (fds.lookup name).isNone) = true then A ς >>= fun xs => m c fds xs >>= fun fds' => .ok (.nx (ς.set i (some (.s, .ins c fds')))) else .stuck
  | _ => .stuck
theorem ds_methS {pl : Sem Bool} (i : Nat) (rz : Rz C E) (tk : MtOk C.X.prog C.X.w C.X.K C.X.mg C.X.base C.CT (CXR C.X.prog C.X.w) name k cs (fun _ => SpI C.X.K C.CT m)) (hr : Room k C.X.A) (ha : DA C (e :: es) AA)
    (hN : C.X.N[i]? = some x := by rfl) (hv : Vis C.X.env.scope x := by first | exact Or.inl rfl | exact Or.inr (Or.inl rfl) | exact Or.inr (Or.inr rfl))
    (hd : (x == ("__debug__" : Str)) = false := by decide) (hcd : (x == ("__classdict__" : Str)) = false := by decide)
    (hst : starEach (e :: es) C.X.env = (false, eval e C.X.env) :: starEach es C.X.env := by rfl) (hpl : (backTo pos (starEach es C.X.env)).any (·.1) = false := by rfl)
    (ht : eval (.Call (.Attribute (.Name x px) name apos) (e :: es) [] pos) C.X.env = (do
      let ov ← eval (.Name x px) C.X.env
      standAt apos.atName
      let (f, first) ← holding [ov] (getMethod ov name pl)
      callWith pos f first (backTo pos (starEach (e :: es) C.X.env)) (backToKw pos (keywordEach [] C.X.env))) := by rfl)
    (hsw : swapsWith (.Call (.Attribute (.Name x px) name apos) (e :: es) [] pos) none spos.line C.X.env = pure false := by rfl) :
    DS C (.Expr (.Call (.Attribute (.Name x px) name apos) (e :: es) [] pos) spos) (sMethS cs name m i AA) := by
  obtain ⟨t2, p2, q2⟩ := ha
  refine ⟨_, ps_expr (pe_methT (pl := pl) (pe_var (i := i) hN hv hd hcd) (mtab tk) hr rz.pass p2 hst hpl ht) hsw, fun G H σ ς W S kk => ?_⟩
  unfold sMethS at kk
  split at kk
  · rename_i c fds z
    rcases post_ite kk with ⟨hc, kk⟩ | ⟨_, kk⟩
    · rw [Bool.and_eq_true] at hc
      obtain ⟨p, e1', hg, h0, hM, hB, A, dx, fs, hct, hh, rf⟩ := S.sf i _ z
      refine ⟨_, e1', p, A, dx, fs, _, rfl, hh, ⟨c, hc.1, hct, rfl⟩, (RepF.look rf).2 (by simpa using hc.2), ?_⟩
      rw [Out.post_bind] at kk
      refine q2 G H σ ς _ S (Out.post_mono kk fun xs k2 vs H2 G2 S2 a2 b2 r2 => ?_)
      obtain ⟨p', e2', hg2, _, _, _, A2, dx2, fs2, hct2, hh2, rf2⟩ := S2.sf i _ z
      rw [e1'] at e2'; cases e2'
      rw [Out.post_bind] at k2
      refine ⟨p, c, A2, dx2, fs2, fds, vs ++ [], xs, G2, rfl, hct2, hh2, hg2, S2.sub, rf2, by rw [List.append_nil]; exact r2, ?_⟩
      cases zz : m c fds xs with
      | stuck => rw [zz] at k2; exact k2.elim
      | exc y =>
        rw [zz] at k2
        obtain ⟨c', Cc, f1, f2, f3⟩ := rz.xd y k2
        exact ⟨c', Cc, f1, f2, fun H' s' => f3 H' fun b o q mm => s' b o (S2.fr b o q mm) (by rintro rfl; exact mm hM)⟩
      | ok fds' =>
        rw [zz] at k2
        intro H' G' fs' dx' g1 h1 s1 n1 hp rf'
        have gp : G' p = none := by
          cases y : G' p with
          | none => rfl
          | some o => have := n1 p hg2 (by rw [y]; simp); rw [hh2] at this; cases this
        have S3 : StR C G' (upd H' p (.ins A2 dx2 fs2)) σ ς := S2.grow (fun b o e => by
            by_cases hb : b = p
            · subst hb; rw [upd_same]; rw [hh2] at e; exact e
            · rw [upd_ne hb]; exact h1 b o e hb) g1 (fun b o e => by
            rw [upd_ne (by rintro rfl; rw [gp] at e; cases e)]; exact s1 b o e) n1
        have S4 := S3.writeS (dx := dx') z e1' hct2 rf'
        have eq : upd (upd H' p (.ins A2 dx2 fs2)) p (.ins A2 dx' fs') = H' := by
          rw [upd_upd]
          funext b
          by_cases hb : b = p
          · subst hb; rw [upd_same, hp]
          · rw [upd_ne hb]
        rw [eq] at S4
        exact (show FlK C G W (.nx (ς.set i (some (.s, .ins c fds')))) from k2) σ H' G' S4 (b2.trans g1)
    · exact kk.elim
  · exact kk.elim
end
end DL
set_option Elab.async false
set_option linter.all false
set_option maxRecDepth 100000
namespace DL
open PySem PySem.Spec PyProof.Rows L2
def inCls (s : Stmt) (j : Nat) : Stmt := match s with
  | .ClassDef _ _ _ b _ _ _ _ _ _ _ => b.getD j (.Pass ⟨0, 0, 0, 0⟩)
  | _ => .Pass ⟨0, 0, 0, 0⟩
section
variable {C : Dc} {pos p : Pos} {e cx : Expr} {E : SD → Out D}
end
def eIxO (i : Nat) (b : SD → Out D) : SD → Out D := fun ς => match (ς[i]? : Option (Option (SM × D))) with
  | some (some (SM.o, D.lst xs)) => b ς >>= fun k => match k with | .int k => optO (atI xs k) | _ => .stuck
  | _ => .stuck
section
variable {C : Dc} {pos px : Pos} {b : Expr} {B : SD → Out D} {x f : Str} {cs : List Str}
theorem de_ixO (i : Nat) (hb : DB C b B) (hN : C.X.N[i]? = some x := by rfl) (hv : Vis C.X.env.scope x := by first | exact Or.inl rfl | exact Or.inr (Or.inl rfl) | exact Or.inr (Or.inr rfl))
    (hd : (x == ("__debug__" : Str)) = false := by decide) (hcd : (x == ("__classdict__" : Str)) = false := by decide) (hs : PlainIx b := by intro _ _; rfl) : DE C (.Subscript (.Name x px) b pos) (eIxO i B) := by
  obtain ⟨tb, p2, q2⟩ := hb
  refine ⟨_, pe_ix ix_seq (pe_var (i := i) hN hv hd hcd) p2 hs, fun G H σ ς Q S q => ?_⟩
  unfold eIxO at q
  split at q
  · rename_i xs z
    obtain ⟨p, e1', hg, h0, ow⟩ := S.ow i _ z
    rw [Out.post_bind] at q
    refine ⟨_, e1', q2 G H σ ς _ S (Out.post_mono q fun y k2 v2 H2 G2 S2 a2 b2 r2 => ?_)⟩
    cases y with
    | int k =>
      cases r2
      obtain ⟨d, e2', kd⟩ := post_opt k2
      obtain ⟨p', e3', hg', h0', vs, hv1, hv2⟩ := S2.ow i _ z
      rw [e1'] at e3'; cases e3'
      obtain ⟨v, e4', rv⟩ := atI_rep hv2 e2'
      exact .inl ⟨p, vs, k, v, rfl, rfl, SqL.of hv1, e4', KD.now (KD.later kd a2 b2) S2 rv⟩
    | _ => exact k2.elim
  · exact q.elim
end
end DL
set_option Elab.async false
set_option linter.all false
set_option maxRecDepth 100000
namespace L2
open PySem PySem.Spec PyProof.Rows
section
variable {X : Cx}
end
end L2
namespace DL
open PySem PySem.Spec PyProof.Rows L2
def enumD (i : Nat) : List D → List D
  | [] => []
  | x :: xs => .tup [.int i, x] :: enumD (i + 1) xs
def itE (A : SD → Out D) : SD → Out (List D) := fun ς => A ς >>= fun x => match x with
  | .lst xs => .ok (enumD 0 xs)
  | _ => .stuck
section
variable {C : Dc} {a : Expr} {A : SD → Out D}
def eSlB (a : SD → Out D) (l u : SD → Out (Option Int)) : SD → Out D := fun ς => a ς >>= fun x => l ς >>= fun i => u ς >>= fun j => match x with
  | .lst xs => if xs.all D.scal = true then .ok (.lst (cutD xs i j)) else .stuck
  | _ => .stuck
end
end DL
set_option Elab.async false
set_option linter.all false
set_option maxRecDepth 100000
namespace L2
open PySem PySem.Spec PyProof.Rows
theorem valsB : ∀ {bs : List Bool} {its : List Value}, Vals (bs.map V.bl) its → its = bs.map Value.bool
  | [], _, .nil => rfl
  | b :: bs, _, .cons r rr => by
    cases r
    rw [valsB rr]; rfl
def eqB (c : Bool) : Value → Bool
  | .bool b => b == c
  | _ => false
section
variable {X : Cx}
def rCountB (K : PySem.W.Frag) : V → List V → Hp → VK → Prop := fun x vs H Q => ∃ (l : Addr) (bs : List Bool) (c : Bool), x = .ref l ∧ vs = [.bl c] ∧ SqL K H l (bs.map .bl) ∧ Q (.int ((bs.countP (· == c) : Nat) : Int)) H
theorem mt_countB : MtR X "list.count" (rCountB X.K) := by
  intro pins s σ H x vs v us Q I rx rv h
  obtain ⟨l, bs, c, rfl, rfl, hS, q⟩ := h
  cases rx
  obtain ⟨u, rfl, ru⟩ := rv.one
  cases ru
  obtain ⟨its, r, pl, hz⟩ := I.list hS
  obtain rfl := valsB r
  obtain ⟨⟨cls, dd, data, sl⟩, ho, hc, n, hd⟩ := pl.isList
  replace hc : cls = .type "list" := hc
  replace hd : data = .seq (bs.map Value.bool).toArray n := hd
  subst hc hd
  refine call_meets F.slot_list_count pl.isList.typeIs F.entry_list_count (F.args_list_count_2 _ _) (PySem.SeqAt.list_countAt l (bs.map Value.bool).toArray n dd sl (.bool c) (eqB c)) ⟨ho, fun y hy => ?_, ?_⟩
  · rw [List.mem_toArray] at hy
    obtain ⟨b, _, rfl⟩ := List.mem_map.mp hy
    exact PySem.SeqAt.EqAt.bool_bool b c
  · have e : (bs.map Value.bool).toArray.toList.countP (eqB c) = bs.countP (· == c) := by
      rw [List.toList_toArray, List.countP_map]; rfl
    rw [e]
    exact ⟨.int _, H, I.kept (t' := s.toks + 1) (fun b o e => e), ⟨_, rfl⟩, q⟩
def rIndexB (K : PySem.W.Frag) : V → List V → Hp → VK → Prop := fun x vs H Q => ∃ (l : Addr) (bs : List Bool) (c : Bool) (j : Nat), x = .ref l ∧ vs = [.bl c] ∧ SqL K H l (bs.map .bl) ∧ bs[j]? = some c ∧ j < 1000 ∧ (∀ m, m < j → ∀ b, bs[m]? = some b → (b == c) = false) ∧ Q (.int ((j : Nat) : Int)) H
theorem mt_indexB : MtR X "list.index" (rIndexB X.K) := by
  intro pins s σ H x vs v us Q I rx rv h
  obtain ⟨l, bs, c, j, rfl, rfl, hS, hj, h1, hno, q⟩ := h
  cases rx
  obtain ⟨u, rfl, ru⟩ := rv.one
  cases ru
  obtain ⟨its, r, pl, hz⟩ := I.list hS
  obtain rfl := valsB r
  obtain ⟨⟨cls, dd, data, sl⟩, ho, hc, n, hd⟩ := pl.isList
  replace hc : cls = .type "list" := hc
  replace hd : data = .seq (bs.map Value.bool).toArray n := hd
  subst hc hd
  have hjl : j < bs.length := (List.getElem?_eq_some_iff.mp hj).1
  have hjs : j < (bs.map Value.bool).toArray.size := by simpa using hjl
  have hge : ∀ (m : Nat) (hm : m < (bs.map Value.bool).toArray.size), eqB c (bs.map Value.bool).toArray[m] = (bs[m]'(by simpa using hm) == c) := fun m hm => by simp [eqB]
  refine call_meets F.slot_list_index pl.isList.typeIs F.entry_list_index (F.args_list_index_2 _ _) (PySem.SeqAt.list_indexAt l (bs.map Value.bool).toArray n dd sl (.bool c) (eqB c) j hjs (by omega) ?_ ?_) ⟨ho, fun y hy => ?_, ?_⟩
  · rw [hge]
    have : bs[j] = c := (List.getElem?_eq_some_iff.mp hj).2
    rw [this]; simp
  · intro m hm hlt
    rw [hge]
    exact hno m hlt _ (List.getElem?_eq_getElem (by simpa using hm))
  · rw [List.mem_toArray] at hy
    obtain ⟨b, _, rfl⟩ := List.mem_map.mp hy
    exact PySem.SeqAt.EqAt.bool_bool b c
  · exact ⟨.int _, H, I.kept (t' := s.toks + 1) (fun b o e => e), ⟨_, rfl⟩, q⟩
end
end L2
namespace DL
open PySem PySem.Spec PyProof.Rows L2
def eLm (f : List D → D → Out D) (O E : SD → Out D) : SD → Out D := fun ς => O ς >>= fun x => match x with | .lst xs => E ς >>= fun y => f xs y | _ => .stuck
def fCountB (xs : List D) (y : D) : Out D := match y, blsOf xs with | .bl c, some bs => .ok (.int ((bs.countP (· == c) : Nat) : Int)) | _, _ => .stuck
def fIndexB (xs : List D) (y : D) : Out D := match y, blsOf xs with | .bl c, some bs => (match bs.findIdx? (· == c) with | some j => if decide (j < 1000) = true then .ok (.int (j : Int)) else .stuck | none => .stuck) | _, _ => .stuck
section
variable {C : Dc} {o e : Expr} {O E : SD → Out D} {apos cpos : Pos}
theorem de_count (ho : DE C o O) (he : DE C e E)
    (hbase : attributeBase o "count" C.X.env (eval o C.X.env) = eval o C.X.env := by rfl)
    (hfew : ((backTo cpos (starEach (e :: []) C.X.env)).all (fun x => !x.1) && (backToKw cpos (keywordEach [] C.X.env)).all (fun x => x.1.isSome)
      && decide ((e :: []).length + ([] : List Keyword).length + (if ([] : List Keyword).isEmpty then 0 else 1) < 30)) = true := by rfl)
    (hline : (apos.endLine == cpos.line) = true := by rfl) (hs : starEach (e :: []) C.X.env = (false, eval e C.X.env) :: starEach [] C.X.env := by rfl) :
    DE C (.Call (.Attribute o "count" apos) [e] [] cpos) (eLm fCountB O E) := by
  obtain ⟨t0, p0, q0⟩ := ho
  obtain ⟨t1, p1, q1⟩ := he
  refine ⟨_, pe_bm PySem.F.plainAttrs_list PySem.F.slot_list_count PySem.F.type_list_count mt_countB p0 (pa_cons p1 pa_nil hs) hbase hfew hline hs rfl, fun G H σ ς Q S k => ?_⟩
  unfold eLm at k
  rw [Out.post_bind] at k
  refine q0 G H σ ς _ S (Out.post_mono k fun x k v H1 G1 S1 a1 b1 r1 => ?_)
  cases x with
  | lst xs =>
    obtain ⟨p, vs, rfl, h1, r⟩ := r1
    refine ⟨.inl ⟨rfl, vs, S1.sub.seq h1⟩, ?_⟩
    have k : (E ς >>= fun y => fCountB xs y).post (KD C G H σ ς Q) C.XD := k
    rw [Out.post_bind] at k
    refine q1 G1 H1 σ ς _ S1 (Out.post_mono k fun y k v2 H2 G2 S2 a2 b2 r2 => ?_)
    cases y with
    | bl c =>
      cases r2
      unfold fCountB at k
      cases z : blsOf xs with
      | none => rw [z] at k; exact k.elim
      | some bs =>
        rw [z] at k
        rw [blsOf_rep z r] at h1
        exact ⟨p, bs, c, rfl, rfl, S2.sub.seq (b2.seq h1), (show KD C G H σ ς Q _ from k) _ H2 G2 S2 (a1.trans a2) (b1.trans b2) rfl⟩
    | _ => unfold fCountB at k; exact k.elim
  | _ => exact k.elim
theorem de_index (ho : DE C o O) (he : DE C e E)
    (hbase : attributeBase o "index" C.X.env (eval o C.X.env) = eval o C.X.env := by rfl)
    (hfew : ((backTo cpos (starEach (e :: []) C.X.env)).all (fun x => !x.1) && (backToKw cpos (keywordEach [] C.X.env)).all (fun x => x.1.isSome)
      && decide ((e :: []).length + ([] : List Keyword).length + (if ([] : List Keyword).isEmpty then 0 else 1) < 30)) = true := by rfl)
    (hline : (apos.endLine == cpos.line) = true := by rfl) (hs : starEach (e :: []) C.X.env = (false, eval e C.X.env) :: starEach [] C.X.env := by rfl) :
    DE C (.Call (.Attribute o "index" apos) [e] [] cpos) (eLm fIndexB O E) := by
  obtain ⟨t0, p0, q0⟩ := ho
  obtain ⟨t1, p1, q1⟩ := he
  refine ⟨_, pe_bm PySem.F.plainAttrs_list PySem.F.slot_list_index PySem.F.type_list_index mt_indexB p0 (pa_cons p1 pa_nil hs) hbase hfew hline hs rfl, fun G H σ ς Q S k => ?_⟩
  unfold eLm at k
  rw [Out.post_bind] at k
  refine q0 G H σ ς _ S (Out.post_mono k fun x k v H1 G1 S1 a1 b1 r1 => ?_)
  cases x with
  | lst xs =>
    obtain ⟨p, vs, rfl, h1, r⟩ := r1
    refine ⟨.inl ⟨rfl, vs, S1.sub.seq h1⟩, ?_⟩
    have k : (E ς >>= fun y => fIndexB xs y).post (KD C G H σ ς Q) C.XD := k
    rw [Out.post_bind] at k
    refine q1 G1 H1 σ ς _ S1 (Out.post_mono k fun y k v2 H2 G2 S2 a2 b2 r2 => ?_)
    cases y with
    | bl c =>
      cases r2
      unfold fIndexB at k
      cases z : blsOf xs with
      | none => rw [z] at k; exact k.elim
      | some bs =>
        rw [z] at k
        rw [blsOf_rep z r] at h1
        cases y : bs.findIdx? (· == c) with
        | none =>
          have k : (match bs.findIdx? (· == c) with | some j => if decide (j < 1000) = true then Out.ok (D.int (j : Int)) else .stuck | none => .stuck).post (KD C G H σ ς Q) C.XD := k
          rw [y] at k; exact k.elim
        | some j =>
          have k : (match bs.findIdx? (· == c) with | some j => if decide (j < 1000) = true then Out.ok (D.int (j : Int)) else .stuck | none => .stuck).post (KD C G H σ ς Q) C.XD := k
          rw [y] at k
          rcases post_ite k with ⟨hc, k⟩ | ⟨_, k⟩
          · obtain ⟨hlt, hp, hno⟩ := List.findIdx?_eq_some_iff_getElem.mp y
            refine ⟨p, bs, c, j, rfl, rfl, S2.sub.seq (b2.seq h1), ?_, of_decide_eq_true hc, fun m hm b hb => ?_, (show KD C G H σ ς Q _ from k) _ H2 G2 S2 (a1.trans a2) (b1.trans b2) rfl⟩
            · rw [List.getElem?_eq_getElem hlt]
              have : bs[j] = c := by simpa using hp
              rw [this]
            · have hml : m < bs.length := (List.getElem?_eq_some_iff.mp hb).1
              have e : bs[m] = b := (List.getElem?_eq_some_iff.mp hb).2
              have := hno m hm
              rw [e] at this
              simpa using this
          · exact k.elim
    | _ => unfold fIndexB at k; exact k.elim
  | _ => exact k.elim
end
end DL
set_option Elab.async false
set_option linter.all false
set_option maxRecDepth 100000
namespace L2
open PySem PySem.Spec PyProof.Rows
structure FnM (P : Program) (w : World) (K : PySem.W.Frag) (mg : Str → Option Value) (base : Heap) (k : Nat) (f : Addr) (fd : FuncData) (ps : List Str) (sp : Sp) : Prop where
  many : ∀ vs H Q E, sp vs H Q E → vs.length = ps.length
  go : ∀ (ea : Addr) (A : Around) (outer : List Env) (s : Shared) (H : Hp) (args : Args) (us : List Value) (vs : List V) (Q : VK), Room k A → Env0 P w K mg base A outer s H →
    BindsTo s fd args (ps.zip us) → Vals vs us → sp vs H Q E0 → codeAny (model P w) (A.mark (some (.ref ea))) (.call (.ref f) args) (CR CX0 outer P w H s Q E0) s
theorem fnM_of {P : Program} {w : World} {K : PySem.W.Frag} {mg : Str → Option Value} {base : Heap} {k : Nat} {f : Addr} {x qual : Str} {st : Stmt} {dV kV doc pm cdv ct oc : Value} {an od : Option Addr} {osl : Array (Option Value)} {N ps : List Str} {sp : Sp}
    (lk : K.lookup f = some ⟨oc, od, .func (PySem.W.fnOf x qual (defArgs st) (defBody st) (defScope st) dV kV doc pm an cdv ct), osl⟩) (hcd : PySem.W.codeIn K cdv qual = true) (S : FnScope N ps (defScope st))
    (many : ∀ vs H Q E, sp vs H Q E → vs.length = ps.length)
    (hb : ∀ (ea : Addr) (A : Around) (outer : List Env) (s : Shared) (H : Hp) (vs : List V) (Q : VK), Room k (A.deeper (envOfC qual (defScope st) s.heap.objs.size f cdv)) → sp vs H Q E0 →
      ∃ t, PSs ((cxOf CX0 P w K mg base N qual (defScope st) f cdv A outer s H E0).nox.marked ea) (defBody st) t ∧ t { nx := fun _ H' => Q .non H', rt := Q } (start N vs) H) :
    FnM P w K mg base (k + 1) f (PySem.W.fnOf x qual (defArgs st) (defBody st) (defScope st) dV kV doc pm an cdv ct) ps sp := by
  refine ⟨many, ?_⟩
  intro ea A outer s H args us vs Q room e0 bind rel want
  have inH : K.In s.heap := e0.mod.kin.keeps fun b o e => (e0.bs b o e).1
  have free : s.heap.NoLimit := e0.mod.nolimit.keeps fun b o e => (e0.bs b o e).1
  have kinds : ∀ y ∈ ps.zip us, (defScope st).names.lookup y.1 = some .local ∨ ((defScope st).names.lookup y.1 = some .cell ∧ ((cellsFrom (s.heap.objs.size + 1) (defScope st).names []).lookup y.1).isSome = true) := by
    rintro ⟨n, v⟩ hy
    exact (S.par n (List.of_mem_zip hy).1).imp id fun q => ⟨q, PySem.W.cellsFrom_some _ _ _ (.inl q)⟩
  refine codeAny_call_function (A := A.mark (some (.ref ea))) room.depth (inH _ _ lk) rfl S.co S.gen rfl (PySem.W.codeRec_of inH hcd) (bind _ _ _ _ (wpAny_newFunctionEnv_cells S.kind kinds ?_))
  rintro env rfl s1 x
  refine ⟨free.keeps x.toInCall.keep, codeAny_func ?_⟩
  obtain ⟨t, ht, hq⟩ := hb ea A outer s H vs Q (room.deeper _) want
  have I := (inv_start (CX := CX0) (E := E0) (qual := qual) (f := f) (cd := cdv) S room.hd e0 (many _ _ _ _ want) rel x).mark ea
  refine wpAny_mono (ht [] s1 (start N vs) H _ I hq) ?_ (fun e s' z => False.elim z)
  intro fl s' hs
  cases fl with
  | ret u => obtain ⟨v, σ', H', J, rv, q⟩ := hs; exact ⟨v, H', J.os, J.bare, J.base, J.hok, rv, q⟩
  | next => obtain ⟨σ', H', J, q⟩ := hs; exact ⟨.non, H', J.os, J.bare, J.base, J.hok, rfl, q⟩
  | brk => obtain ⟨_, _, _, q⟩ := hs; exact q.elim
  | cont => obtain ⟨_, _, _, q⟩ := hs; exact q.elim
section
variable {X : Cx} {k : Nat} {f ea : Addr} {fd : FuncData} {ps : List Str} {sp : Sp} {dvs : List V} {ds : List Value} {x : Str} {p pos : Pos} {e : Expr} {es : List Expr} {t : TA}
theorem pe_callM (F : FnM X.prog X.w X.K X.mg X.base k f fd ps sp) (hr : Room k X.A) (hg : Gl X x) (hm : X.mg x = some (.ref f)) (hk : PySem.W.keepIn X.K (.ref f) = true) (hb : Binds X.K fd ps ds) (hd : Vals dvs ds) (ha : PA (X.marked ea) (e :: es) t)
    (hdb : (x == ("__debug__" : Str)) = false := by decide) (he : starEach (e :: es) X.env = (false, eval e X.env) :: starEach es X.env := by rfl) (hpl : (backTo pos (starEach es X.env)).any (·.1) = false := by rfl) :
    PE (X.marked ea) (.Call (.Name x p) (e :: es) [] pos) (tCall sp dvs E0 t) := by
  intro pins s σ H Q I h
  refine wpAny_Call_Name_kw (ld_glob (X := X.marked ea) I hg hm ?_ hdb)
  refine PySem.W.callWith_K (h₀ := X.base) I.ok.mod.kin hk (thn (ha pos pins s σ H _ I h) fun us s1 ⟨vs, H1, I1, r, q⟩ => ⟨I1.kIn, ?_⟩) he hpl
  have r2 : Vals (vs ++ dvs) (us ++ ds) := r.append hd
  have hl : (us ++ ds).length = ps.length := by rw [← r2.length]; exact F.many _ _ _ _ q
  have e0 := I1.env0
  refine wpAny_call (codeAny_mono (F.go ea X.A X.stack s1 H1 ⟨us, []⟩ (us ++ ds) (vs ++ dvs) Q hr ⟨e0.frames, e0.mod, e0.bs, e0.bsz, e0.funs, e0.frf, e0.hok, e0.bare⟩ (hb s1 us I1.kIn hl) r2 q) ?_)
  intro r' s' hq
  match r', hq with
  | .error e, hq => exact False.elim hq
  | .ok (.ret u), hq => exact I1.after hq
end
end L2
namespace DL
open PySem PySem.Spec PyProof.Rows L2
def DefM (P : Program) (w : World) (K : PySem.W.Frag) (mg : Str → Option Value) (base : Heap) (CT : CTab) (x : Str) (k : Nat) (m : List D → Out D) : Prop :=
  ∃ f fd ps, FnM P w K mg base k f fd ps (SpD K CT false m) ∧ mg x = some (.ref f) ∧ PySem.W.keepIn K (.ref f) = true ∧ Binds K fd ps []
theorem fnM {P : Program} {w : World} {K : PySem.W.Frag} {mg : Str → Option Value} {base : Heap} {CT : CTab} {x qual : Str} {st : Stmt} {f : Addr} {fd : FuncData} {dV : Value} {N ps : List Str} {k : Nat} {T : SD → Out Fl}
    (F : FunV K x qual st f fd dV) (S : FnScope N ps (defScope st))
    (hb : ∀ (cdv : Value) (A : Around) (outer : List Env) (s : Shared) (H : Hp) (E : XK) (G : Hp) (ea : Addr), Room k (A.deeper (envOfC qual (defScope st) s.heap.objs.size f cdv)) → DSs ((dcOf P w K mg base CT N qual (defScope st) f cdv A outer s H E G).marked ea) (defBody st) T) :
    FnM P w K mg base (k + 1) f fd ps (SpD K CT false (bodyF false ps.length N.length T)) := by
  obtain ⟨oc, od, kV, doc, pm, an, cdv, ct, osl, rfl, lk, hcd⟩ := F.ex
  have hpl : ps.length ≤ N.length := by have := congrArg List.length S.pre; rw [List.length_take] at this; omega
  have len : ∀ vs H Q E, SpD K CT false (bodyF false ps.length N.length T) vs H Q E → vs.length = ps.length := by
    intro vs H Q E ⟨ds, G0, sub, r, q⟩
    unfold bodyF at q
    by_cases hl : ds.length = ps.length
    · rw [← r.length]; exact hl
    · rw [if_neg hl] at q; exact q.elim
  refine fnM_of lk hcd S len fun ea A outer s H vs Q hr hsp => ?_
  have hlen := len vs H Q E0 hsp
  obtain ⟨ds, G0, sub, r, q⟩ := hsp
  obtain ⟨t, p1, q1⟩ := hb cdv A outer s H E0 G0 ea hr
  have hl : ds.length = ps.length := by rw [r.length]; exact hlen
  refine ⟨t, p1, ?_⟩
  unfold bodyF at q
  rw [if_pos hl, Out.post_bind] at q
  have S0 : StR ((dcOf P w K mg base CT N qual (defScope st) f cdv A outer s H E0 G0).marked ea) G0 H (L2.start N vs) (ds.map (fun d => some (.k, d)) ++ List.replicate (N.length - ps.length) none) := {
    sub := sub
    g0 := Same.refl _
    new := fun b h1 h2 => absurd h1 h2
    fr := fun b o e _ => e
    dom := fun b e => e
    bs := Same.refl _
    bh := fun b e => e
    len := by unfold L2.start; simp; omega
    fz := fun i d e => by
      obtain ⟨d', e1, e2⟩ := slots_get e
      cases e2
      obtain ⟨v, e3, rv⟩ := r.get e1
      exact ⟨v, start_get e3, rv⟩
    ow := fun i d e => by
      obtain ⟨d', e1, e2⟩ := slots_get e
      cases e2
    ln := fun i d e => by
      obtain ⟨d', e1, e2⟩ := slots_get e
      cases e2
    inj := fun i j d e p _ h => by
      obtain ⟨d', e1, e2⟩ := slots_get h
      cases e2
    sf := fun i d e => by
      obtain ⟨d', e1, e2⟩ := slots_get e
      cases e2
    su := fun i j d e h => by
      obtain ⟨d', e1, e2⟩ := slots_get h
      cases e2 }
  refine q1 G0 H (L2.start N vs) _ _ S0 (Out.post_mono q fun fl kk => ?_)
  cases fl with
  | nx ς' => exact fun σ' H' G' S' s' => kk .non H' G' s' (fun b o e => S'.fr b o e id) S'.sub S'.new (by unfold RetG; rw [if_neg (by decide)]; rfl)
  | bk ς' => exact fun σ' H' G' S' s' => kk.elim
  | ct ς' => exact fun σ' H' G' S' s' => kk.elim
  | rt b d =>
    intro v H' G' S' s' ret
    have k3 : ∀ v H' G', Same G0 G' → Same H H' → Same G' H' → (∀ b, G0 b = none → G' b ≠ none → H b = none) → RetG K CT false H G' H' d v → Q v H' := by
      have kk' : (if (!false || b || d.scal) = true then Out.ok d else Out.stuck).post (fun d => ∀ v H' G', Same G0 G' → Same H H' → Same G' H' → (∀ b, G0 b = none → G' b ≠ none → H b = none) → RetG K CT false H G' H' d v → Q v H') (fun _ => False) := kk
      rw [if_pos (by simp)] at kk'
      exact kk'
    cases b with
    | false =>
      refine k3 v H' G' s' (fun b o e => S'.fr b o e id) S'.sub S'.new ?_
      unfold RetG
      rw [if_neg (by simp)]
      exact ret
    | true =>
      obtain ⟨p, rfl, h0, hg, ow⟩ := (show ∃ p, v = .ref p ∧ H p = none ∧ G' p = none ∧ Own K CT G' H' p d from ret)
      obtain ⟨o, ho⟩ := ow.there
      have S2 := GH.freezeR S' ho hg h0
      refine k3 _ H' _ (s'.trans (same_upd hg)) (fun b o e => S2.fr b o e id) S2.sub S2.new ?_
      unfold RetG
      rw [if_neg (by simp)]
      exact ow.known hg ho
section
variable {C : Dc} {ea : Addr} {x : Str} {k : Nat} {m : List D → Out D} {e : Expr} {es : List Expr} {A : SD → Out (List D)} {p pos : Pos}
theorem de_fM (h : DefM C.X.prog C.X.w C.X.K C.X.mg C.X.base C.CT x k m) (hr : Room k C.X.A) (ha : DA (C.marked ea) (e :: es) A) (hg : Gl C.X x)
    (hdb : (x == ("__debug__" : Str)) = false := by decide) (he : starEach (e :: es) C.X.env = (false, eval e C.X.env) :: starEach es C.X.env := by rfl) (hpl : (backTo pos (starEach es C.X.env)).any (·.1) = false := by rfl) :
    DE (C.marked ea) (.Call (.Name x p) (e :: es) [] pos) (eA (fun xs => m (xs ++ [])) A) := by
  obtain ⟨f, fd, ps, F, hm, hk, hb⟩ := h
  obtain ⟨t, p1, q1⟩ := ha
  refine ⟨_, pe_callM F hr hg hm hk hb .nil p1 hdb he hpl, fun G H σ ς Q S q => ?_⟩
  unfold eA at q
  rw [Out.post_bind] at q
  refine q1 G H σ ς _ S (Out.post_mono q fun xs kk vs H1 G1 S1 a1 b1 r1 => ⟨xs ++ [], G1, S1.sub, by rw [List.append_nil, List.append_nil]; exact r1, ?_⟩)
  cases z : m (xs ++ []) with
  | stuck => rw [z] at kk; exact kk.elim
  | exc y => rw [z] at kk; exact kk.elim
  | ok d =>
    rw [z] at kk
    intro v H' G' g1 h1 s1 n1 ret
    unfold RetG at ret
    rw [if_neg (by simp)] at ret
    exact (show KD (C.marked ea) G H σ ς Q d from kk) v H' G' (S1.grow h1 g1 s1 n1) (a1.trans h1) (b1.trans g1) ret
end
end DL
set_option Elab.async false
set_option linter.all false
set_option maxRecDepth 100000
namespace L2
open PySem PySem.Spec PyProof.Rows
section
variable {X : Cx} {tg : Expr}
end
end L2
namespace DL
open PySem PySem.Spec PyProof.Rows L2
section
variable {C : Dc} {a b c e : Expr} {es : List Expr} {A B E : SD → Out D} {AA : SD → Out (List D)} {tg : Expr} {p pos : Pos}
def frz (j : Nat) (ς : SD) : SD := match (ς[j]? : Option (Option (SM × D))) with
  | some (some (SM.o, d)) => ς.set j (some (.k, d))
  | _ => ς
theorem StR.frz {G H : Hp} {σ : L2.St} {ς : SD} (S : StR C G H σ ς) {j : Nat} {d : D} (z : ς[j]? = some (some (.o, d))) : ∃ G', Same G G' ∧ StR C G' H σ (ς.set j (some (.k, d))) := by
  obtain ⟨p, e, hg, h0, ow⟩ := S.ow j d z
  obtain ⟨o, ho⟩ := ow.there
  have hj : j < ς.length := (List.getElem?_eq_some_iff.mp z).1
  have get : ∀ (i : Nat) x, (ς.set j (some (.k, d)))[i]? = some (some x) → (i = j ∧ x = (.k, d)) ∨ (i ≠ j ∧ ς[i]? = some (some x)) := fun i x h => by
    rw [List.getElem?_set] at h
    by_cases q : j = i
    · rw [if_pos q, if_pos (by omega)] at h
      cases h
      exact .inl ⟨q.symm, rfl⟩
    · rw [if_neg q] at h
      exact .inr ⟨fun w => q w.symm, h⟩
  refine ⟨upd G p o, same_upd hg, ?_⟩
  have hn : ∀ (i : Nat) d', i ≠ j → ς[i]? = some (some (.o, d')) → σ[i]? ≠ some (some (.ref p)) := fun i d' hi q w => S.inj i j d' d p hi q z w e
  exact {
    toGH := GH.freezeR S.toGH ho hg h0
    len := by rw [List.length_set]; exact S.len
    fz := fun i d' q => by
      rcases get i _ q with ⟨rfl, w⟩ | ⟨_, w⟩
      · cases w
        exact ⟨_, e, ow.known hg ho⟩
      · obtain ⟨v, a, b⟩ := S.fz i d' w
        exact ⟨v, a, Rep.mono (same_upd hg) d' v b⟩
    ow := fun i d' q => by
      rcases get i _ q with ⟨rfl, w⟩ | ⟨hi, w⟩
      · cases w
      · obtain ⟨r, a, b, c, w'⟩ := S.ow i d' w
        refine ⟨r, a, ?_, c, w'.mono (same_upd hg) fun _ z => z⟩
        rw [upd_ne (by rintro rfl; exact hn i d' hi w a)]; exact b
    ln := fun i d' q => by
      rcases get i _ q with ⟨rfl, w⟩ | ⟨_, w⟩
      · cases w
      · exact S.ln i d' w
    inj := fun i k d1 d2 q hne h1 h2 => by
      rcases get i _ h1 with ⟨rfl, w⟩ | ⟨_, w⟩
      · cases w
      · rcases get k _ h2 with ⟨rfl, w2⟩ | ⟨_, w2⟩
        · cases w2
        · exact S.inj i k d1 d2 q hne w w2
    sf := fun i d' q => by
      rcases get i _ q with ⟨rfl, w⟩ | ⟨_, w⟩
      · cases w
      · obtain ⟨r, a, b, c, m, z', w'⟩ := S.sf i d' w
        refine ⟨r, a, ?_, c, m, z', w'.mono (same_upd hg) fun _ z => z⟩
        rw [upd_ne (by rintro rfl; exact c h0)]; exact b
    su := fun i k d1 d2 h1 h2 => by
      rcases get i _ h1 with ⟨rfl, w⟩ | ⟨_, w⟩
      · cases w
      · rcases get k _ h2 with ⟨rfl, w2⟩ | ⟨_, w2⟩
        · cases w2
        · exact S.su i k d1 d2 w w2 }
end
end DL
set_option Elab.async false
set_option linter.all false
set_option maxRecDepth 100000
namespace DL
open PySem PySem.Spec PyProof.Rows L2
theorem dMod_pos {i j : Int} (h : 0 < j) : dMod (.int i) (.int j) = .ok (.int (i % j)) := by
  show (if decide (j ≠ 0) = true then Out.ok (D.int (i.fmod j)) else Out.stuck) = _
  rw [if_pos (decide_eq_true (by omega)), Int.fmod_eq_emod_of_nonneg i (by omega)]
theorem big_of {j : Int} {n : Nat} (h : j.natAbs < 2 ^ n) (hn : n ≤ 9000) : big j = true := decide_eq_true (Nat.lt_of_lt_of_le h (Nat.pow_le_pow_right (by decide) hn))
theorem dFdiv_ok {i j : Int} (h : j ≠ 0) (hb : big j = true) : dFdiv (.int i) (.int j) = .ok (.int (i.fdiv j)) := by
  show (if (decide (j ≠ 0) && big j) = true then Out.ok (D.int (i.fdiv j)) else Out.stuck) = _
  rw [if_pos (by rw [hb, decide_eq_true h]; rfl)]
theorem dFdiv_pos {i j : Int} (h : 0 < j) (hb : big j = true) : dFdiv (.int i) (.int j) = .ok (.int (i / j)) := by
  rw [dFdiv_ok (by omega) hb, Int.fdiv_eq_ediv_of_nonneg i (by omega)]
theorem bits_of {i : Int} {n : Nat} (h : i.natAbs < 2 ^ n) : bitsI i ≤ n := PySem.intBits_le_iff.mpr h
theorem of_bits {i : Int} {n : Nat} (h : bitsI i ≤ n) : i.natAbs < 2 ^ n := PySem.intBits_le_iff.mp h
theorem dMul_ok {i j : Int} (h : bitsI i + bitsI j ≤ 134217728) : dMul (.int i) (.int j) = .ok (.int (i * j)) := by
  show (if decide (bitsI i + bitsI j ≤ 134217728) = true then Out.ok (D.int (i * j)) else Out.stuck) = _
  rw [if_pos (decide_eq_true h)]
theorem dMul_of {i j : Int} {m n : Nat} (hi : bitsI i ≤ m) (hj : bitsI j ≤ n) (h : m + n ≤ 134217728) : dMul (.int i) (.int j) = .ok (.int (i * j)) := dMul_ok (by omega)
theorem dAdd_int (i j : Int) : dAdd (.int i) (.int j) = .ok (.int (i + j)) := rfl
theorem dSub_int (i j : Int) : dSub (.int i) (.int j) = .ok (.int (i - j)) := rfl
theorem dNeg_int (i : Int) : dNeg (.int i) = .ok (.int (-i)) := rfl
theorem dAbs_int (i : Int) : dAbs (.int i) = .ok (.int (i.natAbs : Int)) := by
  show Out.ok (D.int (if i < 0 then -i else i)) = _
  congr 2; split <;> omega
theorem dLt_int (i j : Int) : dLt (.int i) (.int j) = .ok (.bl (decide (i < j))) := rfl
theorem dLe_int (i j : Int) : dLe (.int i) (.int j) = .ok (.bl (decide (i ≤ j))) := rfl
theorem dGt_int (i j : Int) : dGt (.int i) (.int j) = .ok (.bl (decide (j < i))) := rfl
theorem dGe_int (i j : Int) : dGe (.int i) (.int j) = .ok (.bl (decide (j ≤ i))) := rfl
theorem dPow_ok {i j : Int} (h : (decide (0 ≤ j) && decide (j ≤ 1000000) && decide (i.natAbs < 2 ^ 64)) = true) : dPow (.int i) (.int j) = .ok (.int (i ^ j.toNat)) := by
  show (if _ = true then Out.ok (D.int (i ^ j.toNat)) else Out.stuck) = _
  rw [if_pos h]
mutual
def layD : D → Bool
  | .non => true
  | .bl _ => true
  | .int _ => true
  | .str x => PyData.strOk x
  | .lst xs => layDs xs
  | .tup xs => layDs xs
  | _ => false
def layDs : List D → Bool
  | [] => true
  | x :: xs => layD x && layDs xs
end
mutual
def dep : D → Nat
  | .lst xs => deps xs + 1
  | .tup xs => deps xs + 1
  | _ => 0
def deps : List D → Nat
  | [] => 0
  | x :: xs => max (dep x) (deps xs)
end
mutual
theorem lay_py : ∀ d : D, layD d = true → d.py.canLay0 = true
  | .non, _ => rfl
  | .bl _, _ => rfl
  | .int _, _ => rfl
  | .str x, h => h
  | .lst xs, h => lay_pys xs h
  | .tup xs, h => lay_pys xs h
theorem lay_pys : ∀ ds : List D, layDs ds = true → PyData.canLayAll0 (D.pys ds) = true
  | [], _ => rfl
  | x :: xs, h => by
    rw [layDs, Bool.and_eq_true] at h
    rw [D.pys, PyData.canLayAll0, Bool.and_eq_true]
    exact ⟨lay_py x h.1, lay_pys xs h.2⟩
end
mutual
theorem dep_py : ∀ d : D, layD d = true → d.py.depth = dep d
  | .non, _ => rfl
  | .bl _, _ => rfl
  | .int _, _ => rfl
  | .str x, h => rfl
  | .lst xs, h => by rw [D.py, PyData.depth, dep, dep_pys xs h]
  | .tup xs, h => by rw [D.py, PyData.depth, dep, dep_pys xs h]
theorem dep_pys : ∀ ds : List D, layDs ds = true → PyData.depthAll (D.pys ds) = deps ds
  | [], _ => rfl
  | x :: xs, h => by
    rw [layDs, Bool.and_eq_true] at h
    rw [D.pys, PyData.depthAll, deps, dep_py x h.1, dep_pys xs h.2]
end
theorem shp_of {d : D} (h : layD d = true) (hd : dep d ≤ 64) : shp d = true := by
  unfold shp SeqAt.shaped
  rw [lay_py d h, dep_py d h]
  simpa using hd
theorem shp_int (i : Int) : shp (.int i) = true := shp_of rfl (Nat.zero_le _)
theorem shp_non : shp .non = true := shp_of rfl (Nat.zero_le _)
theorem dEq_of {x y : D} (hx : shp x = true) (hy : shp y = true) : dEq x y = .ok (.bl (PyData.eqv x.py y.py)) := by
  unfold dEq; rw [hx, hy]; rfl
theorem dNe_of {x y : D} (hx : shp x = true) (hy : shp y = true) : dNe x y = .ok (.bl (!PyData.eqv x.py y.py)) := by
  unfold dNe; rw [hx, hy]; rfl
theorem beq_dec (i j : Int) : (i == j) = decide (i = j) := by
  by_cases h : i = j
  · subst h; simp
  · simp [h]
theorem dEq_int (i j : Int) : dEq (.int i) (.int j) = .ok (.bl (decide (i = j))) := by
  rw [dEq_of (shp_int i) (shp_int j), ← beq_dec]
  rfl
theorem dNe_int (i j : Int) : dNe (.int i) (.int j) = .ok (.bl (!decide (i = j))) := by
  rw [dNe_of (shp_int i) (shp_int j), ← beq_dec]
  rfl
theorem dNe_pair (a b c d : Int) : dNe (.tup [.int a, .int b]) (.tup [.int c, .int d]) = .ok (.bl (!decide (a = c ∧ b = d))) := by
  rw [dNe_of (shp_of rfl (by simp [dep, deps])) (shp_of rfl (by simp [dep, deps]))]
  show Out.ok (D.bl (!((a == c) && ((b == d) && true)))) = _
  rw [beq_dec, beq_dec, Bool.and_true]
  congr 2
  by_cases h1 : a = c <;> by_cases h2 : b = d <;> simp [h1, h2]
theorem loopD_all {body : D → SD → Out Fl} {P : SD → Prop} {xs : List D} (h : ∀ x ∈ xs, ∀ ς, P ς → ∃ ς', body x ς = .ok (.nx ς') ∧ P ς') : ∀ ς, P ς → ∃ ς', loopD body xs ς = .ok (.nx ς') ∧ P ς' := by
  induction xs with
  | nil => intro ς p; exact ⟨ς, rfl, p⟩
  | cons x xs ih =>
    intro ς p
    obtain ⟨ς1, e1, p1⟩ := h x List.mem_cons_self ς p
    obtain ⟨ς2, e2, p2⟩ := ih (fun y hy => h y (List.mem_cons_of_mem _ hy)) ς1 p1
    refine ⟨ς2, ?_, p2⟩
    rw [loopD, e1]
    exact e2
theorem fits_small {n : Nat} (h : n ≤ 1000 := by decide) : fits n = true := decide_eq_true (Nat.le_trans h (by decide))
theorem ixL {xs : List D} {x : D} (k : Nat) (h : xs[k]? = some x) : dIx (.lst xs) (.int (k : Int)) = .ok x := by
  show optO (atI xs (k : Int)) = _
  rw [atI_nat h]; rfl
theorem cut_to {α : Type} (xs : List α) (k : Nat) : cutD xs none (some (k : Int)) = xs.take k := by
  unfold cutD
  rw [HT.sIx_none, HT.sIx_nat, List.drop_zero, Nat.sub_zero]
  by_cases h : k ≤ xs.length
  · rw [Nat.min_eq_left h]
  · rw [Nat.min_eq_right (by omega), List.take_of_length_le (Nat.le_refl _), List.take_of_length_le (by omega)]
theorem cut_from {α : Type} (xs : List α) (k : Nat) : cutD xs (some (k : Int)) none = xs.drop k := by
  unfold cutD
  rw [HT.sIx_none, HT.sIx_nat]
  by_cases h : k ≤ xs.length
  · rw [Nat.min_eq_left h, List.take_of_length_le (by rw [List.length_drop]; exact Nat.le_refl _)]
  · rw [Nat.min_eq_right (by omega), List.drop_length, List.drop_eq_nil_of_le (by omega)]; simp
theorem dCat_ok {xs ys : List D} (h : xs.length + ys.length ≤ 1000) : dCat (.lst xs) (.lst ys) = .ok (.lst (xs ++ ys)) := by
  show (if fits _ = true then _ else _) = _
  rw [if_pos (fits_small h)]
theorem sFor_of {g : D → SD → Out SD} {its : SD → Out (List D)} {T : SD → Out Fl} {ς : SD} {xs : List D} {r : Out Fl} (h : its ς = .ok xs) (hL : loopD (fun x ς => g x ς >>= fun ς' => T ς') xs ς = r) : sFor g its T ς = r := by
  unfold sFor
  rw [h]; exact hL
theorem loop_range {body : D → SD → Out Fl} {P : SD → Prop} {n : Nat} (h : ∀ k : Nat, k < n → ∀ ς, P ς → ∃ ς', body (.int (k : Int)) ς = .ok (.nx ς') ∧ P ς') (ς : SD) (hp : P ς) : ∃ ς', loopD body (rangeD 0 n) ς = .ok (.nx ς') ∧ P ς' :=
  loopD_all (fun x hx ς p => by
    unfold rangeD at hx
    obtain ⟨i, hi, rfl⟩ := List.mem_map.mp hx
    have := h i (List.mem_range.mp hi) ς p
    rwa [Int.zero_add]) ς hp
theorem rng_ok {A : SD → Out D} {ς : SD} (m : Nat) (h : A ς = .ok (.int (m : Int))) (hm : m ≤ 1000000) : itR1 A ς = .ok (rangeD 0 m) := by
  have hs : small62 (m : Int) = true := by
    unfold small62
    rw [Bool.and_eq_true]
    exact ⟨decide_eq_true (by omega), decide_eq_true (by omega)⟩
  unfold itR1
  rw [h, Out.bind_ok]
  simp only [hs, if_true, Int.toNat_natCast]
end DL
set_option Elab.async false
set_option linter.all false
set_option maxRecDepth 100000
namespace DL
open PySem PySem.Spec PyProof.Rows L2
theorem compM_of {f : D → Out (Option D)} {h : D → Option D} : ∀ {xs : List D}, (∀ x ∈ xs, f x = .ok (h x)) → compM f xs = .ok (xs.filterMap h)
  | [], _ => rfl
  | x :: xs, hf => by
    rw [compM, hf x List.mem_cons_self, Out.bind_ok, compM_of (xs := xs) (fun y hy => hf y (List.mem_cons_of_mem _ hy)), Out.bind_ok, List.filterMap_cons]
    cases h x <;> rfl
theorem blsOf_map {α : Type} (f : α → Bool) : ∀ xs : List α, blsOf (xs.map fun x => D.bl (f x)) = some (xs.map f)
  | [] => rfl
  | x :: xs => by rw [List.map_cons, blsOf, blsOf_map f xs]; rfl
theorem fAll_map {α : Type} (f : α → Bool) (xs : List α) : fAll (.lst (xs.map fun x => D.bl (f x))) = .ok (.bl (xs.all f)) := by
  rw [fAll, blsOf_map]
  show Out.ok (D.bl ((xs.map f).all id)) = _
  rw [List.all_map]; rfl
theorem fits_of {n : Nat} (h : n ≤ 1000) : fits n = true := fits_small h
end DL
namespace My
end My
set_option Elab.async false
set_option linter.all false
namespace DL
open PySem PySem.Spec L2
section
variable {i j : Nat} {d x y : D} {m : SM} {ς ς' ς1 : SD} {E A B : SD → Out D} {AA : SD → Out (List D)} {f : D → Out D} {g : D → D → Out D} {h : List D → Out D} {r : Out D} {xs ys : List D} {T U : SD → Out Fl} {P Q : SD → Out Bool} {b c : Bool} {fl : Fl} {rf : Out Fl} {rb : Out Bool}
theorem r_var (e : ς[i]? = some (some (.k, d))) : eVar i ς = .ok d := by unfold eVar; rw [e]
theorem r_varB (e : ς[i]? = some (some (m, d))) : eVarB i ς = .ok d := by unfold eVarB; rw [e]
theorem r_C : eC d ς = .ok d := rfl
theorem r_e1 (a : A ς = .ok x) (k : f x = r) : e1 f A ς = r := by unfold e1; rw [a]; exact k
theorem r_e2 (a : A ς = .ok x) (a' : B ς = .ok y) (k : g x y = r) : e2 g A B ς = r := by unfold e2; rw [a, Out.bind_ok, a']; exact k
theorem r_eA (a : AA ς = .ok xs) (k : h xs = r) : eA h AA ς = r := by unfold eA; rw [a]; exact k
theorem r_call {dd : List D} (a : AA ς = .ok xs) (e : xs ++ dd = ys) (k : h ys = r) : eA (fun xs => h (xs ++ dd)) AA ς = r := by unfold eA; rw [a]; show h (xs ++ dd) = r; rw [e]; exact k
theorem r_nil : aNil ς = .ok [] := rfl
theorem r_cons (a : A ς = .ok x) (k : AA ς = .ok xs) : aCons A AA ς = .ok (x :: xs) := by unfold aCons; rw [a, Out.bind_ok, k]; rfl
theorem r_tup (a : AA ς = .ok xs) (k : xs.length ≤ 1000) : eTup AA ς = .ok (.tup xs) := by unfold eTup; rw [a, Out.bind_ok, if_pos (fits_of k)]
theorem r_lst (a : AA ς = .ok xs) (k : xs.length ≤ 1000) : eLst AA ς = .ok (.lst xs) := by unfold eLst; rw [a, Out.bind_ok, if_pos (fits_of k)]
theorem r_tVal (a : A ς = .ok (.bl b)) : tVal A ς = .ok b := by unfold tVal; rw [a]; rfl
theorem r_not' (a : P ς = .ok b) : tNot' P ς = .ok (!b) := by unfold tNot'; rw [a]; rfl
theorem r_or' (a : P ς = .ok b) (k : (if b = true then .ok true else Q ς) = rb) : tOr' P Q ς = rb := by unfold tOr'; rw [a]; exact k
theorem r_and' (a : P ς = .ok b) (k : (if b = true then Q ς else .ok false) = rb) : tAnd' P Q ς = rb := by unfold tAnd'; rw [a]; exact k
theorem r_eAnd (a : A ς = .ok (.bl b)) (k : (if b = true then B ς else .ok (.bl false)) = r) : eAnd A B ς = r := by unfold eAnd; rw [a]; cases b <;> exact k
theorem r_eOr (a : A ς = .ok (.bl b)) (k : (if b = true then .ok (.bl true) else B ς) = r) : eOr A B ς = r := by unfold eOr; rw [a]; cases b <;> exact k
theorem r_eNot (a : A ς = .ok (.bl b)) : eNot A ς = .ok (.bl (!b)) := by unfold eNot; rw [a]; rfl
theorem r_eIf (a : P ς = .ok b) (k : (if b = true then A ς else B ς) = r) : eIf P A B ς = r := by unfold eIf; rw [a]; exact k
theorem r_isa {F : D → Out Bool} (a : A ς = .ok x) (k : F x = .ok b) : eIsa F A ς = .ok (.bl b) := by unfold eIsa; rw [a, Out.bind_ok, k]; rfl
theorem r_chain {g' : D → D → Out D} {E' : SD → Out D} (a : A ς = .ok x) (a' : B ς = .ok y) (k : g x y = .ok (.bl b)) (k' : (if b = true then E' ς >>= fun w => g' y w else .ok (.bl false)) = r) : eChain g g' A B E' ς = r := by unfold eChain; rw [a, Out.bind_ok, a', Out.bind_ok, k]; cases b <;> exact k'
theorem r_bind {z : D} (a : E ς = .ok z) (k : f z = r) : (E ς >>= fun w => f w) = r := by rw [a]; exact k
theorem r_set (a : E ς = .ok d) (k : ς.set i (some (.k, d)) = ς') : sSet i E ς = .ok (.nx ς') := by unfold sSet; rw [a, Out.bind_ok, k]
theorem r_setO (a : E ς = .ok d) (k : ς.set i (some (.o, d)) = ς') : sSetO i E ς = .ok (.nx ς') := by unfold sSetO; rw [a, Out.bind_ok, k]
theorem r_seq (a : T ς = .ok fl) (k : thenF U fl = rf) : sSeq T U ς = rf := by unfold sSeq; rw [a]; exact k
theorem r_okR {α : Type} {a : α} : (Out.ok a) = Out.ok a := rfl
theorem r_lm {f : List D → D → Out D} (a : A ς = .ok (.lst xs)) (a' : B ς = .ok y) (k : f xs y = r) : eLm f A B ς = r := by unfold eLm; rw [a, Out.bind_ok]; show (B ς >>= _) = _; rw [a']; exact k
theorem r_then (k : U ς = rf) : thenF U (.nx ς) = rf := k
theorem r_thenR {z : Bool} : thenF U (.rt z d) = .ok (.rt z d) := rfl
theorem r_if (a : P ς = .ok b) (k : (if b = true then T ς else U ς) = rf) : sIf P T U ς = rf := by unfold sIf; rw [a]; exact k
theorem r_iteT {α : Type} {u v w : α} (a : b = true) (k : u = w) : (if b = true then u else v) = w := by rw [if_pos a]; exact k
theorem r_iteF {α : Type} {u v w : α} (a : b = false) (k : v = w) : (if b = true then u else v) = w := by subst a; exact k
theorem r_ret (a : E ς = .ok d) : sRet E ς = .ok (.rt false d) := by unfold sRet; rw [a]; rfl
theorem r_retF (a : E ς = .ok d) : sRetF E ς = .ok (.rt true d) := by unfold sRetF; rw [a]; rfl
theorem r_retO (e : ς[i]? = some (some (.o, d))) : sRetO i ς = .ok (.rt true d) := by unfold sRetO; rw [e]
theorem r_drop (a : E ς = .ok d) : sDrop E ς = .ok (.nx ς) := by unfold sDrop; rw [a]; rfl
theorem r_sNil : sNil ς = .ok (.nx ς) := rfl
theorem size_le {n : Nat} (k : n ≤ 1000) : decide (n < sizeLine) = true := decide_eq_true (Nat.lt_of_le_of_lt k (by decide))
theorem r_app (e : ς[i]? = some (some (.o, .lst xs))) (a : E ς = .ok d) (k : xs.length ≤ 1000) (l : ς.set i (some (.o, .lst (xs ++ [d]))) = ς') : sAppend i E ς = .ok (.nx ς') := by
  unfold sAppend; rw [e]; show (E ς >>= fun d => if decide (xs.length < sizeLine) = true then _ else _) = _; rw [a, Out.bind_ok, if_pos (size_le k), l]
theorem r_put {I : SD → Out D} {k : Int} (a : E ς = .ok d) (e : ς[i]? = some (some (.o, .lst xs))) (a' : I ς = .ok (.int k)) (q : ixN xs.length k = some j) (l : ς.set i (some (.o, .lst (xs.set j d))) = ς') : sPutO i I E ς = .ok (.nx ς') := by
  unfold sPutO; rw [a, Out.bind_ok, e]
  show (I ς >>= _) = _
  rw [a', Out.bind_ok]
  show (optO (ixN xs.length k) >>= _) = _
  rw [q]
  show Out.ok (Fl.nx (ς.set i (some (.o, .lst (xs.set j d))))) = _
  rw [l]
theorem r_scalar {o : Out D} (a : o = .ok d) (k : d.scal = true) : scalar o = .ok d := by unfold scalar; rw [a, Out.bind_ok, if_pos k]
theorem r_nonScal {o : Out D} (a : o = .ok d) (k : d.scal = false) : nonScal o = .ok d := by unfold nonScal; rw [a, Out.bind_ok, k]; rfl
theorem r_noX {α : Type} {o : Out α} {a : α} (k : o = .ok a) : noX o = .ok a := by rw [k]; rfl
theorem r_sl {l u : SD → Out (Option Int)} {p q : Option Int} (a : A ς = .ok (.lst xs)) (k1 : l ς = .ok p) (k2 : u ς = .ok q) (e : cutD xs p q = ys) : eSl A l u ς = .ok (.lst ys) := by unfold eSl; rw [a, Out.bind_ok, k1, Out.bind_ok, k2, Out.bind_ok]; show Out.ok (D.lst _) = _; rw [e]
theorem r_slB {l u : SD → Out (Option Int)} {p q : Option Int} (a : A ς = .ok (.lst xs)) (k1 : l ς = .ok p) (k2 : u ς = .ok q) (s : xs.all D.scal = true) (e : cutD xs p q = ys) : eSlB A l u ς = .ok (.lst ys) := by
  unfold eSlB; rw [a, Out.bind_ok, k1, Out.bind_ok, k2, Out.bind_ok]
  show (if xs.all D.scal = true then Out.ok (D.lst _) else _) = _
  rw [if_pos s, e]
theorem r_oNo : oNo ς = .ok none := rfl
theorem r_oSome {k : Int} (a : E ς = .ok (.int k)) : oSome E ς = .ok (some k) := by unfold oSome; rw [a]; rfl
theorem r_ixO {k : Int} (e : ς[i]? = some (some (.o, .lst xs))) (a : A ς = .ok (.int k)) (q : atI xs k = some d) : eIxO i A ς = .ok d := by
  unfold eIxO; rw [e]
  show (A ς >>= _) = _
  rw [a, Out.bind_ok]
  show optO (atI xs k) = _
  rw [q]; rfl
theorem r_setAllN : setAll [] [] ς = .ok ς := rfl
theorem r_setAllC {is : List Nat} {rs : Out SD} (a : ς.set i (some (.k, d)) = ς1) (k : setAll is ys ς1 = rs) : setAll (i :: is) (d :: ys) ς = rs := by show setAll is ys (ς.set i (some (.k, d))) = rs; rw [a]; exact k
theorem r_unp {is : List Nat} (a : E ς = .ok (.tup ys)) (k : setAll is ys ς = .ok ς') : sUnp is E ς = .ok (.nx ς') := by unfold sUnp; rw [a, Out.bind_ok]; show (setAll is ys ς >>= _) = _; rw [k]; rfl
theorem r_body {fr : Bool} (a : T ς = .ok fl) (k : retF fr fl = r) : (T ς >>= retF fr) = r := by rw [a]; exact k
theorem r_rt {z : Bool} : retF false (.rt z d) = .ok d := by unfold retF; simp
theorem r_rtT : retF true (.rt true d) = .ok d := by unfold retF; simp
theorem r_rtS {z : Bool} (k : d.scal = true) : retF true (.rt z d) = .ok d := by unfold retF; simp [k]
theorem r_gN {L : SD → Out Fl} (a : ς.set i (some (.k, d)) = ς1) (k : L ς1 = rf) : (gN i d ς >>= fun ς' => L ς') = rf := by unfold gN; rw [a]; exact k
theorem r_gT {L : SD → Out Fl} {is : List Nat} (a : setAll is ys ς = .ok ς1) (k : L ς1 = rf) : (gT is (.tup ys) ς >>= fun ς' => L ς') = rf := by unfold gT; show (setAll is ys ς >>= fun ς' => L ς') = rf; rw [a]; exact k
theorem r_meth {cs : List Str} {n cl : Str} {fds : List (Str × D)} {mt : Str → List D → Out D} (a : A ς = .ok (.ins cl fds)) (k1 : cs.contains cl = true) (k2 : fds.lookup n = none) (k3 : AA ς = .ok xs) (k : mt cl (.ins cl fds :: xs) = r) : eMeth cs n mt A AA ς = r := by
  unfold eMeth; rw [a, Out.bind_ok]
  show (if (cs.contains cl && (fds.lookup n).isNone) = true then _ else _) = _
  rw [k1, k2]
  show (AA ς >>= _) = _
  rw [k3]; exact k
theorem r_make {cl : Str} {fds : List (Str × D)} {mk : Str → List (Str × D) → List D → Out (List (Str × D))} (a : AA ς = .ok xs) (k : mk cl [] xs = .ok fds) : eMake cl mk AA ς = .ok (.ins cl fds) := by unfold eMake; rw [a, Out.bind_ok, k]; rfl
theorem r_methS {cs : List Str} {n cl : Str} {fds fds' : List (Str × D)} {mk : Str → List (Str × D) → List D → Out (List (Str × D))} (e : ς[i]? = some (some (.s, .ins cl fds))) (k1 : cs.contains cl = true) (k2 : fds.lookup n = none) (a : AA ς = .ok xs) (k : mk cl fds xs = .ok fds') (l : ς.set i (some (.s, .ins cl fds')) = ς') : sMethS cs n mk i AA ς = .ok (.nx ς') := by
  unfold sMethS; rw [e]
  show (if (cs.contains cl && (fds.lookup n).isNone) = true then _ else _) = _
  rw [k1, k2]
  show (AA ς >>= _) = _
  rw [a, Out.bind_ok, k, Out.bind_ok, l]
theorem r_for {gg : D → SD → Out SD} {its : SD → Out (List D)} {L : SD → Out Fl} (a : its ς = .ok xs) (k : loopD (fun x ς => gg x ς >>= fun ς' => L ς') xs ς = rf) : sFor gg its L ς = rf := sFor_of a k
theorem r_itL (a : E ς = .ok (.lst xs)) : itL E ς = .ok xs := by unfold itL; rw [a]; rfl
theorem r_itT (a : E ς = .ok (.tup xs)) : itT E ς = .ok xs := by unfold itT; rw [a]; rfl
theorem r_itE (a : E ς = .ok (.lst xs)) : itE E ς = .ok (enumD 0 xs) := by unfold itE; rw [a]; rfl
theorem r_itZ (a : A ς = .ok (.lst xs)) (a' : B ς = .ok (.lst ys)) : itZ A B ς = .ok (List.zipWith (fun a b => .tup [a, b]) xs ys) := by unfold itZ; rw [a, Out.bind_ok, a']; rfl
end
theorem r_self {T : SD → Out Fl} {ς τ : SD} {c : Str} {fds : List (Str × D)} (a : T ς = .ok (.nx (some (.s, .ins c fds) :: τ))) : (T ς >>= selfOf c) = .ok fds := by
  rw [a]; simp [selfOf, selfAt]
theorem r_seqX {T U : SD → Out Fl} {ς : SD} {x : D} (a : T ς = .exc x) : sSeq T U ς = .exc x := by unfold sSeq; rw [a]; rfl
theorem r_raise {AA : SD → Out (List D)} {ς : SD} {xs : List D} {c : Str} (a : AA ς = .ok xs) (k : xs.length ≤ 1000) : sRaise c AA ς = .exc (.err c) := by unfold sRaise; rw [a, Out.bind_ok, if_pos (fits_of k)]
theorem r_selfX {T : SD → Out Fl} {ς : SD} {c : Str} {x : D} (a : T ς = .exc x) : (T ς >>= selfOf c) = .exc x := by rw [a]; rfl
theorem r_makeX {AA : SD → Out (List D)} {ς : SD} {xs : List D} {cl : Str} {x : D} {mk : Str → List (Str × D) → List D → Out (List (Str × D))} (a : AA ς = .ok xs) (k : mk cl [] xs = .exc x) : eMake cl mk AA ς = .exc x := by unfold eMake; rw [a, Out.bind_ok, k]; rfl
theorem r_retFX {E : SD → Out D} {ς : SD} {x : D} (a : E ς = .exc x) : sRetF E ς = .exc x := by unfold sRetF; rw [a]; rfl
theorem r_bodyX {T : SD → Out Fl} {ς : SD} {fr : Bool} {x : D} (a : T ς = .exc x) : (T ς >>= retF fr) = .exc x := by rw [a]; rfl
theorem r_tryOk {cs : List Str} {i : Nat} {T : SD → Out FX} {TS : SD → Out Fl} {ς : SD} {f : Fl} (a : T ς = .ok (.fl f)) : sTry cs i T TS ς = .ok f := by unfold sTry; rw [a]; rfl
theorem r_tryEx {cs : List Str} {i : Nat} {T : SD → Out FX} {TS : SD → Out Fl} {ς ς1 ς2 : SD} {f : Fl} {c : Str} (a : T ς = .ok (.ex c ς1)) (k : cs.contains c = true) (s : ς1.set i (some (.k, .err c)) = ς2) (b : TS ς2 = .ok f) : sTry cs i T TS ς = .ok (unF i f) := by
  unfold sTry; rw [a]
  show (if cs.contains c = true then noX (TS (ς1.set i (some (.k, .err c)))) >>= _ else _) = _
  rw [if_pos k, s, b]; rfl
theorem r_xSetOk {m : List D → Out D} {i : Nat} {AA : SD → Out (List D)} {ς ς' : SD} {xs : List D} {d : D} (a : AA ς = .ok xs) (k : m xs = .ok d) (l : ς.set i (some (.k, d)) = ς') : xSet i (xCall m AA) ς = .ok (.fl (.nx ς')) := by
  unfold xSet xCall; rw [a, Out.bind_ok, k]; show Out.ok (FX.fl (Fl.nx (ς.set i (some (.k, d))))) = _; rw [l]
theorem r_xSetEx {m : List D → Out D} {i : Nat} {AA : SD → Out (List D)} {ς : SD} {xs : List D} {c : Str} (a : AA ς = .ok xs) (k : m xs = .exc (.err c)) : xSet i (xCall m AA) ς = .ok (.ex c ς) := by
  unfold xSet xCall; rw [a, Out.bind_ok, k]; rfl
theorem c_nil {ς : SD} : captD [] ς = [] := rfl
theorem c_none {ς τ : SD} {js : List (Option Nat)} (k : captD js ς = τ) : captD (none :: js) ς = none :: τ := by rw [← k]; rfl
theorem c_k {ς τ : SD} {js : List (Option Nat)} {j : Nat} {d : D} (e : ς[j]? = some (some (.k, d))) (k : captD js ς = τ) : captD (some j :: js) ς = some (.k, d) :: τ := by
  rw [← k]; show captS ς j :: _ = _; unfold captS; rw [e]; rfl
theorem c_o {ς τ : SD} {js : List (Option Nat)} {j : Nat} {d : D} (e : ς[j]? = some (some (.o, d))) (k : captD js ς = τ) : captD (some j :: js) ς = some (.l, d) :: τ := by
  rw [← k]; show captS ς j :: _ = _; unfold captS; rw [e]; rfl
theorem c_l {ς τ : SD} {js : List (Option Nat)} {j : Nat} {d : D} (e : ς[j]? = some (some (.l, d))) (k : captD js ς = τ) : captD (some j :: js) ς = some (.l, d) :: τ := by
  rw [← k]; show captS ς j :: _ = _; unfold captS; rw [e]; rfl
theorem c_s {ς τ : SD} {js : List (Option Nat)} {j : Nat} {d : D} (e : ς[j]? = some (some (.s, d))) (k : captD js ς = τ) : captD (some j :: js) ς = some (.l, d) :: τ := by
  rw [← k]; show captS ς j :: _ = _; unfold captS; rw [e]; rfl
theorem r_turn {js : List (Option Nat)} {i : Nat} {e : SD → Out D} {ς τ0 τ : SD} {x d : D} (c : captD js ς = τ0) (a : τ0.set i (some (.k, x)) = τ) (k : e τ = .ok d) : turnC js (gN i) cTrue e ς x = .ok (some d) := by
  unfold turnC gN cTrue
  rw [c, a, Out.bind_ok, Out.bind_ok, if_pos rfl, k]; rfl
theorem r_turnT {js : List (Option Nat)} {is : List Nat} {e : SD → Out D} {ς τ0 τ : SD} {xs : List D} {d : D} (c : captD js ς = τ0) (a : setAll is xs τ0 = .ok τ) (k : e τ = .ok d) : turnC js (gT is) cTrue e ς (.tup xs) = .ok (some d) := by
  unfold turnC gT cTrue
  show ((setAll is xs (captD js ς)) >>= _) = _
  rw [c, a, Out.bind_ok, Out.bind_ok, if_pos rfl, k]; rfl
theorem comp_of {α : Type} {js : List (Option Nat)} {its : SD → Out (List D)} {g : D → SD → Out SD} {e : SD → Out D} {ς : SD} {l : List α} (f : α → D) (h : α → D) (hi : its ς = .ok (l.map f)) (ht : ∀ x ∈ l, turnC js g cTrue e ς (f x) = .ok (some (h x))) (hl : l.length ≤ 1000) :
    eComp js its g cTrue e ς = .ok (.lst (l.map h)) := by
  have go : ∀ l : List α, (∀ x ∈ l, turnC js g cTrue e ς (f x) = .ok (some (h x))) → compM (turnC js g cTrue e ς) (l.map f) = .ok (l.map h) := by
    intro l
    induction l with
    | nil => intro _; rfl
    | cons x xs ih =>
      intro H
      have h1 := H x (List.mem_cons_self ..)
      have h2 := ih fun y hy => H y (List.mem_cons_of_mem _ hy)
      show compM (turnC js g cTrue e ς) (f x :: xs.map f) = _
      unfold compM
      rw [h1, Out.bind_ok, h2]; rfl
  unfold eComp
  rw [hi, Out.bind_ok, go l ht, Out.bind_ok, if_pos (fits_of (by rw [List.length_map]; exact hl))]
theorem comp_id {js : List (Option Nat)} {its : SD → Out (List D)} {g : D → SD → Out SD} {e : SD → Out D} {ς : SD} {l : List D} (h : D → D) (hi : its ς = .ok l) (ht : ∀ x ∈ l, turnC js g cTrue e ς x = .ok (some (h x))) (hl : l.length ≤ 1000) :
    eComp js its g cTrue e ς = .ok (.lst (l.map h)) := comp_of (fun d => d) h (by rw [hi, List.map_id']) ht hl
theorem comp_rng {js : List (Option Nat)} {its : SD → Out (List D)} {g : D → SD → Out SD} {e : SD → Out D} {ς : SD} {n : Nat} (h : Nat → D) (hi : its ς = .ok (rangeD 0 n)) (ht : ∀ k : Nat, k < n → turnC js g cTrue e ς (.int (k : Int)) = .ok (some (h k))) (hl : n ≤ 1000) :
    eComp js its g cTrue e ς = .ok (.lst ((List.range n).map h)) := by
  refine comp_of (fun i : Nat => D.int (0 + (i : Int))) h hi (fun k hk => ?_) (by rw [List.length_range]; exact hl)
  show turnC js g cTrue e ς (.int (0 + (k : Int))) = _
  rw [Int.zero_add]
  exact ht k (List.mem_range.mp hk)
theorem r_get {ς : SD} {i : Nat} {m : SM} {d : D} (h : ς[i]? = some (some (m, d))) : ς[i]? = some (some (m, d)) := h
theorem r_len {n : Nat} (h : n ≤ 1000) : n ≤ 1000 := h
theorem r_bits {i : Int} {n : Nat} (h : bitsI i ≤ n) : bitsI i ≤ n := h
theorem r_dec {m n : Nat} (h : decide (m ≤ n) = true) : decide (m ≤ n) = true := h
theorem r_id {α : Type} {a b : α} (h : a = b) : a = b := h
theorem r_scal {d : D} {b : Bool} (h : d.scal = b) : d.scal = b := h
theorem r_look0 {n : Str} : List.lookup n ([] : List (Str × D)) = none := rfl
theorem l_get0 {α : Type} {x : α} {xs : List α} : (x :: xs)[0]? = some x := rfl
theorem l_getS {α : Type} {x : α} {xs : List α} {n : Nat} {r : Option α} (h : xs[n]? = r) : (x :: xs)[n + 1]? = r := by rw [List.getElem?_cons_succ]; exact h
theorem l_set0 {α : Type} {x y : α} {xs : List α} : (x :: xs).set 0 y = y :: xs := rfl
theorem l_setS {α : Type} {x y : α} {xs ys : List α} {n : Nat} (h : xs.set n y = ys) : (x :: xs).set (n + 1) y = x :: ys := by rw [List.set_cons_succ, h]
theorem l_cat0 {α : Type} {ys : List α} : [] ++ ys = ys := rfl
theorem l_catS {α : Type} {x : α} {xs ys zs : List α} (h : xs ++ ys = zs) : x :: xs ++ ys = x :: zs := by rw [List.cons_append, h]
theorem bd_lit {i : Int} (h : decide (i.natAbs < 2 ^ 300) = true) : bitsI i ≤ 300 := bits_of (of_decide_eq_true h)
theorem bd_add {i j : Int} {m n : Nat} (a : bitsI i ≤ m) (b : bitsI j ≤ n) : bitsI (i + j) ≤ m + n + 1 := by
  have a := of_bits a
  have b := of_bits b
  refine bits_of ?_
  have c1 : 2 ^ m ≤ 2 ^ (m + n) := Nat.pow_le_pow_right (by decide) (by omega)
  have c2 : 2 ^ n ≤ 2 ^ (m + n) := Nat.pow_le_pow_right (by decide) (by omega)
  rw [Nat.pow_succ]
  omega
theorem bd_sub {i j : Int} {m n : Nat} (a : bitsI i ≤ m) (b : bitsI j ≤ n) : bitsI (i - j) ≤ m + n + 1 := by
  have a := of_bits a
  have b := of_bits b
  refine bits_of ?_
  have c1 : 2 ^ m ≤ 2 ^ (m + n) := Nat.pow_le_pow_right (by decide) (by omega)
  have c2 : 2 ^ n ≤ 2 ^ (m + n) := Nat.pow_le_pow_right (by decide) (by omega)
  rw [Nat.pow_succ]
  omega
theorem bd_neg {i : Int} {m : Nat} (a : bitsI i ≤ m) : bitsI (-i) ≤ m := by
  have a := of_bits a
  exact bits_of (by omega)
theorem bd_mul {i j : Int} {m n : Nat} (a : bitsI i ≤ m) (b : bitsI j ≤ n) : bitsI (i * j) ≤ m + n := by
  have a := of_bits a
  have b := of_bits b
  refine bits_of ?_
  rw [Int.natAbs_mul, Nat.pow_add]
  exact Nat.mul_lt_mul'' a b
theorem bd_mod {i j : Int} {n : Nat} (h : 0 < j) (b : bitsI j ≤ n) : bitsI (i % j) ≤ n := by
  have b := of_bits b
  have h1 := Int.emod_nonneg i (show j ≠ 0 by omega)
  have h2 := Int.emod_lt_of_pos i h
  exact bits_of (by omega)
theorem bd_div {i j : Int} {n : Nat} (a : bitsI i ≤ n) : bitsI (i / j) ≤ n := by
  have a := of_bits a
  exact bits_of (Nat.lt_of_le_of_lt (Int.natAbs_ediv_le_natAbs i j) a)
theorem r_mul {i j : Int} {m n : Nat} (hi : bitsI i ≤ m) (hj : bitsI j ≤ n) (h : decide (m + n ≤ 134217728) = true) : dMul (.int i) (.int j) = .ok (.int (i * j)) := dMul_of hi hj (of_decide_eq_true h)
theorem r_fdiv {i j : Int} {n : Nat} (h : 0 < j) (hj : bitsI j ≤ n) (hn : decide (n ≤ 9000) = true) : dFdiv (.int i) (.int j) = .ok (.int (i / j)) := dFdiv_pos h (big_of (of_bits hj) (of_decide_eq_true hn))
end DL
set_option Elab.async false
set_option linter.all false
set_option maxRecDepth 100000
set_option maxHeartbeats 4000000
namespace My
open PySem PySem.Spec L2 DL
def top (i : Nat) : Stmt := PySem.Challenge.pw_dockethall_k12_no_clerk.main.body.getD i (.Pass ⟨0, 0, 0, 0⟩)
def cls_all : List Str := ["Deal", "Bundle", "Copy", "Rows"]
abbrev s_law_mix : Stmt := top 35
theorem sc_law_mix : FnScope ["_law_cell", "_law_k", "_law_number_here"] ["_law_cell", "_law_k"] (defScope s_law_mix) := ⟨rfl, rfl, rfl, by decide +kernel, rfl, by decide +kernel, by decide +kernel⟩
theorem l_law_mix__law_cell : (defScope s_law_mix).names.lookup ("_law_cell" : Str) = some NameKind.local := by decide +kernel
theorem l_law_mix__law_k : (defScope s_law_mix).names.lookup ("_law_k" : Str) = some NameKind.local := by decide +kernel
theorem l_law_mix__law_number_here : (defScope s_law_mix).names.lookup ("_law_number_here" : Str) = some NameKind.local := by decide +kernel
noncomputable def T_law_mix : SD → Out Fl := (sSeq (sSet 2 (e2 dMod (e2 dMul (e2 dAdd (e2 dAdd (e2 dMod (eVar 0) (eC (.int 2147483647))) (e2 dMul (eC (.int 48271)) (eVar 1))) (eC (.int 1))) (eC (.int 69621))) (eC (.int 2147483629)))) (sRet (e2 dMod (e2 dMul (eVar 2) (eVar 2)) (eC (.int 2147483587)))))
noncomputable def b_law_mix : List D → Out D := bodyF false 2 3 T_law_mix
theorem u_law_mix (d0 d1 : D) : b_law_mix [d0, d1] = (T_law_mix [some (.k, d0), some (.k, d1), none] >>= retF false) := rfl
theorem d_law_mix {P : Program} {w : World} {K : PySem.W.Frag} {mg : Str → Option Value} {base : Heap} {CT : CTab} {f : Addr} {fd : FuncData} {dV : Value} (F : FunV K "_law_mix" "_law_mix" s_law_mix f fd dV)  : FnOk P w K mg base CX0 1 f fd ["_law_cell", "_law_k"] (SpD K CT false b_law_mix) :=
    @fnV P w K mg base CT false "_law_mix" "_law_mix" s_law_mix f fd dV ["_law_cell", "_law_k", "_law_number_here"] ["_law_cell", "_law_k"] 0 T_law_mix F sc_law_mix fun cdv A outer s H E G hr => 
      (dss_cons (ds_set (i := 2) sc_law_mix.nd rfl (Or.inl l_law_mix__law_number_here) (de_mod (DE.db (de_mul (DE.db (de_add (DE.db (de_add (DE.db (de_mod (DE.db (de_var 0 rfl (Or.inl l_law_mix__law_cell))) (DE.db de_int))) (DE.db (de_mul (DE.db de_int) (DE.db (de_var 1 rfl (Or.inl l_law_mix__law_k))))))) (DE.db de_int))) (DE.db de_int))) (DE.db de_int))) (dss_one (ds_ret (de_mod (DE.db (de_mul (DE.db (de_var 2 rfl (Or.inl l_law_mix__law_number_here))) (DE.db (de_var 2 rfl (Or.inl l_law_mix__law_number_here))))) (DE.db de_int)))))
abbrev s_law_odd : Stmt := top 39
theorem sc_law_odd : FnScope ["_law_cell", "_law_far"] ["_law_cell"] (defScope s_law_odd) := ⟨rfl, rfl, rfl, by decide +kernel, rfl, by decide +kernel, by decide +kernel⟩
theorem l_law_odd__law_cell : (defScope s_law_odd).names.lookup ("_law_cell" : Str) = some NameKind.local := by decide +kernel
theorem l_law_odd__law_far : (defScope s_law_odd).names.lookup ("_law_far" : Str) = some NameKind.local := by decide +kernel
theorem g_law_odd__law_mix : (defScope s_law_odd).names.lookup ("_law_mix" : Str) = some NameKind.globalImplicit := by decide +kernel
noncomputable def T_law_odd : SD → Out Fl := (sSeq (sSet 1 (e2 dMod (e2 dFdiv (eVar 0) (eC (.int 7))) (e2 dPow (eC (.int 10)) (eC (.int 59))))) (sRet (e2 dIx (eLst (aCons (e1 dNeg (eC (.int 1))) (aCons (eC (.int 10)) (aCons (e2 dAdd (eC (.int 10)) (eVar 1)) (aCons (e2 dSub (e1 dNeg (eC (.int 1))) (eVar 1)) (aCons (eC (.bl true)) (aCons (eC (.bl false)) (aCons (eC (.str "1")) (aCons (eC .non) (aCons (eLst (aCons (eC (.int 1)) aNil)) (aCons (eC (.int 9)) aNil))))))))))) (e2 dMod (eA (fun xs => b_law_mix (xs ++ [])) (aCons (eVar 0) (aCons (eC (.int 4)) aNil))) (eC (.int 10))))))
noncomputable def b_law_odd : List D → Out D := bodyF false 1 2 T_law_odd
theorem u_law_odd (d0 : D) : b_law_odd [d0] = (T_law_odd [some (.k, d0), none] >>= retF false) := rfl
theorem d_law_odd {P : Program} {w : World} {K : PySem.W.Frag} {mg : Str → Option Value} {base : Heap} {CT : CTab} {f : Addr} {fd : FuncData} {dV : Value} (F : FunV K "_law_odd" "_law_odd" s_law_odd f fd dV) (h_law_mix : DefOk P w K mg base CT "_law_mix" 1 false [] b_law_mix) : FnOk P w K mg base CX0 2 f fd ["_law_cell"] (SpD K CT false b_law_odd) :=
    @fnV P w K mg base CT false "_law_odd" "_law_odd" s_law_odd f fd dV ["_law_cell", "_law_far"] ["_law_cell"] 1 T_law_odd F sc_law_odd fun cdv A outer s H E G hr => 
      (dss_cons (ds_set (i := 1) sc_law_odd.nd rfl (Or.inl l_law_odd__law_far) (de_mod (DE.db (de_fdiv (DE.db (de_var 0 rfl (Or.inl l_law_odd__law_cell))) (DE.db de_int))) (DE.db (de_pow (DE.db de_int) (DE.db de_int))))) (dss_one (ds_ret (de_ix (DF.de (df_lst (da_cons (de_neg (DE.db de_int)) (da_cons de_int (da_cons (de_add (DE.db de_int) (DE.db (de_var 1 rfl (Or.inl l_law_odd__law_far)))) (da_cons (de_sub (DE.db (de_neg (DE.db de_int))) (DE.db (de_var 1 rfl (Or.inl l_law_odd__law_far)))) (da_cons de_bl (da_cons de_bl (da_cons de_str (da_cons de_non (da_cons (DF.de (df_lst (da_cons de_int da_nil))) (da_cons de_int da_nil)))))))))))) (DE.db (de_mod (DE.db (de_f h_law_mix (hr.mono (by decide)) (da_cons (de_var 0 rfl (Or.inl l_law_odd__law_cell)) (da_cons de_int da_nil)) g_law_odd__law_mix)) (DE.db de_int)))))))
abbrev s_law_counts : Stmt := top 40
theorem sc_law_counts : FnScope ["_law_cell", "_law_many", "_law_found_here"] ["_law_cell", "_law_many"] (defScope s_law_counts) := ⟨rfl, rfl, rfl, by decide +kernel, rfl, by decide +kernel, by decide +kernel⟩
theorem l_law_counts__law_many : (defScope s_law_counts).names.lookup ("_law_many" : Str) = some NameKind.local := by decide +kernel
theorem g_law_counts_range : (defScope s_law_counts).names.lookup ("range" : Str) = some NameKind.globalImplicit := by decide +kernel
abbrev cs_law_counts_0 : PySem.Scope := { kind := PySem.ScopeKind.function, names := [ (PySem.Str.ofString ".0", PySem.NameKind.local), (PySem.Str.ofString "_law_k", PySem.NameKind.local), (PySem.Str.ofString "_law_mix", PySem.NameKind.globalImplicit), (PySem.Str.ofString "_law_cell", PySem.NameKind.free)], isGenerator := false, isCoroutine := false, more := [] : PySem.Scope }
theorem S_law_counts_0 : CompSc ["_law_k", "_law_cell"] [none, some 0] cs_law_counts_0 (defScope s_law_counts) ["_law_cell", "_law_many", "_law_found_here"] := ⟨rfl, by decide +kernel, by decide +kernel, rfl, by decide +kernel, by decide +kernel⟩
theorem l_law_counts_c0__law_k : (relabelS cs_law_counts_0 (defScope s_law_counts)).names.lookup ("_law_k" : Str) = some NameKind.local := by decide +kernel
theorem l_law_counts_c0__law_cell : (relabelS cs_law_counts_0 (defScope s_law_counts)).names.lookup ("_law_cell" : Str) = some NameKind.cell := by decide +kernel
theorem g_law_counts_c0__law_mix : (relabelS cs_law_counts_0 (defScope s_law_counts)).names.lookup ("_law_mix" : Str) = some NameKind.globalImplicit := by decide +kernel
noncomputable def X_law_counts_0 : SD → Out D := (e2 dMod (eA (fun xs => b_law_mix (xs ++ [])) (aCons (eVar 1) (aCons (e2 dAdd (eC (.int 20)) (eVar 0)) aNil))) (eC (.int 10)))
theorem l_law_counts__law_found_here : (defScope s_law_counts).names.lookup ("_law_found_here" : Str) = some NameKind.local := by decide +kernel
theorem l_law_counts__law_cell : (defScope s_law_counts).names.lookup ("_law_cell" : Str) = some NameKind.cell := by decide +kernel
theorem g_law_counts__law_mix : (defScope s_law_counts).names.lookup ("_law_mix" : Str) = some NameKind.globalImplicit := by decide +kernel
theorem g_law_counts__law_odd : (defScope s_law_counts).names.lookup ("_law_odd" : Str) = some NameKind.globalImplicit := by decide +kernel
noncomputable def T_law_counts : SD → Out Fl := (sSeq (sSetO 2 (eComp [none, some 0] (itR1 (eVar 1)) (gN 0) cTrue X_law_counts_0)) (sSeq (sIf (tAnd' (tVal (e2 dGt (eVar 1) (eC (.int 0)))) (tVal (e2 dEq (e2 dMod (eA (fun xs => b_law_mix (xs ++ [])) (aCons (eVar 0) (aCons (eC (.int 5)) aNil))) (eC (.int 3))) (eC (.int 0))))) (sPutO 2 (e2 dMod (eA (fun xs => b_law_mix (xs ++ [])) (aCons (eVar 0) (aCons (eC (.int 6)) aNil))) (eVar 1)) (eA (fun xs => b_law_odd (xs ++ [])) (aCons (eVar 0) aNil))) sNil) (sRetO 2)))
noncomputable def b_law_counts : List D → Out D := bodyF true 2 3 T_law_counts
theorem u_law_counts (d0 d1 : D) : b_law_counts [d0, d1] = (T_law_counts [some (.k, d0), some (.k, d1), none] >>= retF true) := rfl
theorem d_law_counts {P : Program} {w : World} {K : PySem.W.Frag} {mg : Str → Option Value} {base : Heap} {CT : CTab} {f : Addr} {fd : FuncData} {dV : Value} (F : FunV K "_law_counts" "_law_counts" s_law_counts f fd dV) (h_law_mix : DefOk P w K mg base CT "_law_mix" 1 false [] b_law_mix) (h_law_odd : DefOk P w K mg base CT "_law_odd" 2 false [] b_law_odd) (z_range : mg "range" = none) : FnOk P w K mg base CX0 3 f fd ["_law_cell", "_law_many"] (SpD K CT true b_law_counts) :=
    @fnV P w K mg base CT true "_law_counts" "_law_counts" s_law_counts f fd dV ["_law_cell", "_law_many", "_law_found_here"] ["_law_cell", "_law_many"] 2 T_law_counts F sc_law_counts fun cdv A outer s H E G hr => 
      (dss_cons (ds_setOC (i := 2) rfl S_law_counts_0 (DI.b (di_range1 g_law_counts_range z_range (DE.db (de_var 1 rfl (Or.inl l_law_counts__law_many))))) (fun ς => gKeep_gN (captD_none rfl ς)) (noExc_gN _) (fun fp s H G p => ⟨(dg_name (i := 0) S_law_counts_0.nd rfl (Or.inl l_law_counts_c0__law_k) (hf := Or.inr l_law_counts_c0__law_k)), dif_nil, (de_mod (DE.db (de_f h_law_mix (hr.mono (by decide)) (da_cons (de_var 1 rfl (Or.inr (Or.inl l_law_counts_c0__law_cell))) (da_cons (de_add (DE.db de_int) (DE.db (de_var 0 rfl (Or.inl l_law_counts_c0__law_k)))) da_nil)) g_law_counts_c0__law_mix)) (DE.db de_int))⟩) sc_law_counts.nd rfl (Or.inl l_law_counts__law_found_here)) (dss_cons (ds_if (DW.dt (dw_and (dt_gt (DE.db (de_var 1 rfl (Or.inl l_law_counts__law_many))) (DE.db de_int)) (dw_and1 (dt_eq hr.units (DE.db (de_mod (DE.db (de_f h_law_mix (hr.mono (by decide)) (da_cons (de_var 0 rfl (Or.inr (Or.inl l_law_counts__law_cell))) (da_cons de_int da_nil)) g_law_counts__law_mix)) (DE.db de_int))) (DE.db de_int))))) (dss_one (ds_putO 2 (DE.db (de_mod (DE.db (de_f h_law_mix (hr.mono (by decide)) (da_cons (de_var 0 rfl (Or.inr (Or.inl l_law_counts__law_cell))) (da_cons de_int da_nil)) g_law_counts__law_mix)) (DE.db (de_var 1 rfl (Or.inl l_law_counts__law_many))))) (de_f h_law_odd (hr.mono (by decide)) (da_cons (de_var 0 rfl (Or.inr (Or.inl l_law_counts__law_cell))) da_nil) g_law_counts__law_odd) rfl (Or.inl l_law_counts__law_found_here))) dss_nil) (dss_one (ds_retO 2 rfl (Or.inl l_law_counts__law_found_here)))))
abbrev s_law_number : Stmt := top 38
theorem sc_law_number : FnScope ["_law_cell", "_law_far"] ["_law_cell"] (defScope s_law_number) := ⟨rfl, rfl, rfl, by decide +kernel, rfl, by decide +kernel, by decide +kernel⟩
theorem l_law_number__law_cell : (defScope s_law_number).names.lookup ("_law_cell" : Str) = some NameKind.local := by decide +kernel
theorem l_law_number__law_far : (defScope s_law_number).names.lookup ("_law_far" : Str) = some NameKind.local := by decide +kernel
theorem g_law_number__law_mix : (defScope s_law_number).names.lookup ("_law_mix" : Str) = some NameKind.globalImplicit := by decide +kernel
noncomputable def T_law_number : SD → Out Fl := (sSeq (sSet 1 (e2 dMod (e2 dFdiv (eVar 0) (eC (.int 7))) (e2 dPow (eC (.int 10)) (eC (.int 59))))) (sSeq (sIf (tVal (e2 dGt (e2 dMod (eA (fun xs => b_law_mix (xs ++ [])) (aCons (eVar 0) (aCons (eC (.int 1)) aNil))) (eC (.int 4))) (eC (.int 0)))) (sRet (e2 dSub (e2 dMod (eA (fun xs => b_law_mix (xs ++ [])) (aCons (eVar 0) (aCons (eC (.int 2)) aNil))) (eC (.int 16))) (eC (.int 1)))) sNil) (sRet (e2 dIx (eLst (aCons (e2 dAdd (eC (.int 13)) (eVar 1)) (aCons (e2 dSub (e1 dNeg (eC (.int 1))) (eVar 1)) (aCons (eC (.bl true)) (aCons (eC (.bl false)) (aCons (eC .non) (aCons (eC (.str "3")) (aCons (eLst (aCons (eC (.int 3)) aNil)) aNil)))))))) (e2 dMod (eA (fun xs => b_law_mix (xs ++ [])) (aCons (eVar 0) (aCons (eC (.int 3)) aNil))) (eC (.int 7)))))))
noncomputable def b_law_number : List D → Out D := bodyF false 1 2 T_law_number
theorem u_law_number (d0 : D) : b_law_number [d0] = (T_law_number [some (.k, d0), none] >>= retF false) := rfl
theorem d_law_number {P : Program} {w : World} {K : PySem.W.Frag} {mg : Str → Option Value} {base : Heap} {CT : CTab} {f : Addr} {fd : FuncData} {dV : Value} (F : FunV K "_law_number" "_law_number" s_law_number f fd dV) (h_law_mix : DefOk P w K mg base CT "_law_mix" 1 false [] b_law_mix) : FnOk P w K mg base CX0 2 f fd ["_law_cell"] (SpD K CT false b_law_number) :=
    @fnV P w K mg base CT false "_law_number" "_law_number" s_law_number f fd dV ["_law_cell", "_law_far"] ["_law_cell"] 1 T_law_number F sc_law_number fun cdv A outer s H E G hr => 
      (dss_cons (ds_set (i := 1) sc_law_number.nd rfl (Or.inl l_law_number__law_far) (de_mod (DE.db (de_fdiv (DE.db (de_var 0 rfl (Or.inl l_law_number__law_cell))) (DE.db de_int))) (DE.db (de_pow (DE.db de_int) (DE.db de_int))))) (dss_cons (ds_if (dt_gt (DE.db (de_mod (DE.db (de_f h_law_mix (hr.mono (by decide)) (da_cons (de_var 0 rfl (Or.inl l_law_number__law_cell)) (da_cons de_int da_nil)) g_law_number__law_mix)) (DE.db de_int))) (DE.db de_int)) (dss_one (ds_ret (de_sub (DE.db (de_mod (DE.db (de_f h_law_mix (hr.mono (by decide)) (da_cons (de_var 0 rfl (Or.inl l_law_number__law_cell)) (da_cons de_int da_nil)) g_law_number__law_mix)) (DE.db de_int))) (DE.db de_int)))) dss_nil) (dss_one (ds_ret (de_ix (DF.de (df_lst (da_cons (de_add (DE.db de_int) (DE.db (de_var 1 rfl (Or.inl l_law_number__law_far)))) (da_cons (de_sub (DE.db (de_neg (DE.db de_int))) (DE.db (de_var 1 rfl (Or.inl l_law_number__law_far)))) (da_cons de_bl (da_cons de_bl (da_cons de_non (da_cons de_str (da_cons (DF.de (df_lst (da_cons de_int da_nil))) da_nil))))))))) (DE.db (de_mod (DE.db (de_f h_law_mix (hr.mono (by decide)) (da_cons (de_var 0 rfl (Or.inl l_law_number__law_cell)) (da_cons de_int da_nil)) g_law_number__law_mix)) (DE.db de_int))))))))
abbrev s_law_rows : Stmt := top 41
theorem sc_law_rows : FnScope ["_law_cell", "_law_many", "_law_rows_here", "_law_at", "_law_counts_here", "_law_some"] ["_law_cell"] (defScope s_law_rows) := ⟨rfl, rfl, rfl, by decide +kernel, rfl, by decide +kernel, by decide +kernel⟩
theorem l_law_rows__law_cell : (defScope s_law_rows).names.lookup ("_law_cell" : Str) = some NameKind.cell := by decide +kernel
theorem g_law_rows__law_mix : (defScope s_law_rows).names.lookup ("_law_mix" : Str) = some NameKind.globalImplicit := by decide +kernel
theorem l_law_rows__law_many : (defScope s_law_rows).names.lookup ("_law_many" : Str) = some NameKind.cell := by decide +kernel
theorem g_law_rows_range : (defScope s_law_rows).names.lookup ("range" : Str) = some NameKind.globalImplicit := by decide +kernel
abbrev cs_law_rows_0 : PySem.Scope := { kind := PySem.ScopeKind.function, names := [ (PySem.Str.ofString ".0", PySem.NameKind.local), (PySem.Str.ofString "_law_j", PySem.NameKind.cell), (PySem.Str.ofString "range", PySem.NameKind.globalImplicit), (PySem.Str.ofString "_law_cell", PySem.NameKind.free), (PySem.Str.ofString "_law_many", PySem.NameKind.free)], isGenerator := false, isCoroutine := false, more := [] : PySem.Scope }
theorem S_law_rows_0 : CompSc ["_law_j", "_law_many", "_law_cell"] [none, some 1, some 0] cs_law_rows_0 (defScope s_law_rows) ["_law_cell", "_law_many", "_law_rows_here", "_law_at", "_law_counts_here", "_law_some"] := ⟨rfl, by decide +kernel, by decide +kernel, rfl, by decide +kernel, by decide +kernel⟩
theorem l_law_rows_c0__law_j : (relabelS cs_law_rows_0 (defScope s_law_rows)).names.lookup ("_law_j" : Str) = some NameKind.cell := by decide +kernel
theorem l_law_rows_c0__law_many : (relabelS cs_law_rows_0 (defScope s_law_rows)).names.lookup ("_law_many" : Str) = some NameKind.cell := by decide +kernel
theorem g_law_rows_c0_range : (relabelS cs_law_rows_0 (defScope s_law_rows)).names.lookup ("range" : Str) = some NameKind.globalImplicit := by decide +kernel
abbrev cs_law_rows_1 : PySem.Scope := { kind := PySem.ScopeKind.function, names := [ (PySem.Str.ofString ".0", PySem.NameKind.local), (PySem.Str.ofString "_law_k", PySem.NameKind.local), (PySem.Str.ofString "_law_mix", PySem.NameKind.globalImplicit), (PySem.Str.ofString "_law_cell", PySem.NameKind.free), (PySem.Str.ofString "_law_j", PySem.NameKind.free)], isGenerator := false, isCoroutine := false, more := [] : PySem.Scope }
theorem S_law_rows_1 : CompSc ["_law_k", "_law_cell", "_law_j"] [none, some 2, some 0] cs_law_rows_1 (relabelS cs_law_rows_0 (defScope s_law_rows)) ["_law_j", "_law_many", "_law_cell"] := ⟨rfl, by decide +kernel, by decide +kernel, rfl, by decide +kernel, by decide +kernel⟩
theorem l_law_rows_c1__law_k : (relabelS cs_law_rows_1 (relabelS cs_law_rows_0 (defScope s_law_rows))).names.lookup ("_law_k" : Str) = some NameKind.local := by decide +kernel
theorem l_law_rows_c1__law_cell : (relabelS cs_law_rows_1 (relabelS cs_law_rows_0 (defScope s_law_rows))).names.lookup ("_law_cell" : Str) = some NameKind.cell := by decide +kernel
theorem l_law_rows_c1__law_j : (relabelS cs_law_rows_1 (relabelS cs_law_rows_0 (defScope s_law_rows))).names.lookup ("_law_j" : Str) = some NameKind.cell := by decide +kernel
theorem g_law_rows_c1__law_mix : (relabelS cs_law_rows_1 (relabelS cs_law_rows_0 (defScope s_law_rows))).names.lookup ("_law_mix" : Str) = some NameKind.globalImplicit := by decide +kernel
noncomputable def X_law_rows_0 : SD → Out D := (e2 dMod (eA (fun xs => b_law_mix (xs ++ [])) (aCons (eVar 1) (aCons (e2 dAdd (e2 dAdd (eC (.int 30)) (e2 dMul (eC (.int 11)) (eVar 2))) (eVar 0)) aNil))) (eC (.int 10)))
noncomputable def X_law_rows_1 : SD → Out D := (eComp [none, some 2, some 0] (itR1 (eVar 1)) (gN 0) cTrue X_law_rows_0)
theorem l_law_rows__law_rows_here : (defScope s_law_rows).names.lookup ("_law_rows_here" : Str) = some NameKind.local := by decide +kernel
theorem g_law_rows_len : (defScope s_law_rows).names.lookup ("len" : Str) = some NameKind.globalImplicit := by decide +kernel
theorem l_law_rows__law_at : (defScope s_law_rows).names.lookup ("_law_at" : Str) = some NameKind.local := by decide +kernel
theorem g_law_rows__law_counts : (defScope s_law_rows).names.lookup ("_law_counts" : Str) = some NameKind.globalImplicit := by decide +kernel
theorem l_law_rows__law_counts_here : (defScope s_law_rows).names.lookup ("_law_counts_here" : Str) = some NameKind.local := by decide +kernel
theorem g_law_rows_tuple : (defScope s_law_rows).names.lookup ("tuple" : Str) = some NameKind.globalImplicit := by decide +kernel
theorem l_law_rows__law_some : (defScope s_law_rows).names.lookup ("_law_some" : Str) = some NameKind.local := by decide +kernel
noncomputable def T_law_rows : SD → Out Fl := (sSeq (sSet 1 (e2 dMod (eA (fun xs => b_law_mix (xs ++ [])) (aCons (eVar 0) (aCons (eC (.int 7)) aNil))) (eC (.int 8)))) (sSeq (sSetO 2 (eComp [none, some 1, some 0] (itR1 (e2 dMod (eA (fun xs => b_law_mix (xs ++ [])) (aCons (eVar 0) (aCons (eC (.int 8)) aNil))) (eC (.int 15)))) (gN 0) cTrue X_law_rows_1)) (sSeq (sIf (tAnd' (tVal (e2 dNe (eVarB 2) (eLst aNil))) (tVal (e2 dGt (e2 dMod (eA (fun xs => b_law_mix (xs ++ [])) (aCons (eVar 0) (aCons (eC (.int 9)) aNil))) (eC (.int 3))) (eC (.int 0))))) (sSeq (sSet 3 (e2 dMod (eA (fun xs => b_law_mix (xs ++ [])) (aCons (eVar 0) (aCons (eC (.int 10)) aNil))) (eA fLen (aCons (eVarB 2) aNil)))) (sSeq (sSet 4 (eA (fun xs => b_law_counts (xs ++ [])) (aCons (eVar 0) (aCons (eVar 1) aNil)))) (sSeq (sSet 5 (eLst (aCons (e2 dCat (eIxO 2 (eVar 3)) (eLst (aCons (eC (.int 1)) aNil))) (aCons (e1 dTuple (eIxO 2 (eVar 3))) (aCons (eC (.str "1")) (aCons (eC .non) (aCons (eVar 4) (aCons (eSl (eIxO 2 (eVar 3)) (oSome (eC (.int 1))) oNo) (aCons (eVar 4) aNil))))))))) (sPutO 2 (eVar 3) (e2 dIx (eVar 5) (e2 dMod (eA (fun xs => b_law_mix (xs ++ [])) (aCons (eVar 0) (aCons (eC (.int 11)) aNil))) (eC (.int 7)))))))) sNil) (sRetO 2))))
noncomputable def b_law_rows : List D → Out D := bodyF true 1 6 T_law_rows
theorem u_law_rows (d0 : D) : b_law_rows [d0] = (T_law_rows [some (.k, d0), none, none, none, none, none] >>= retF true) := rfl
theorem d_law_rows {P : Program} {w : World} {K : PySem.W.Frag} {mg : Str → Option Value} {base : Heap} {CT : CTab} {f : Addr} {fd : FuncData} {dV : Value} (F : FunV K "_law_rows" "_law_rows" s_law_rows f fd dV) (h_law_mix : DefOk P w K mg base CT "_law_mix" 1 false [] b_law_mix) (h_law_counts : DefOk P w K mg base CT "_law_counts" 3 true [] b_law_counts) (z_range : mg "range" = none) (z_len : mg "len" = none) (z_tuple : mg "tuple" = none) : FnOk P w K mg base CX0 4 f fd ["_law_cell"] (SpD K CT true b_law_rows) :=
    @fnV P w K mg base CT true "_law_rows" "_law_rows" s_law_rows f fd dV ["_law_cell", "_law_many", "_law_rows_here", "_law_at", "_law_counts_here", "_law_some"] ["_law_cell"] 3 T_law_rows F sc_law_rows fun cdv A outer s H E G hr => 
      (dss_cons (ds_set (i := 1) sc_law_rows.nd rfl (Or.inr l_law_rows__law_many) (de_mod (DE.db (de_f h_law_mix (hr.mono (by decide)) (da_cons (de_var 0 rfl (Or.inr (Or.inl l_law_rows__law_cell))) (da_cons de_int da_nil)) g_law_rows__law_mix)) (DE.db de_int))) (dss_cons (ds_setOC (i := 2) rfl S_law_rows_0 (DI.b (di_range1 g_law_rows_range z_range (DE.db (de_mod (DE.db (de_f h_law_mix (hr.mono (by decide)) (da_cons (de_var 0 rfl (Or.inr (Or.inl l_law_rows__law_cell))) (da_cons de_int da_nil)) g_law_rows__law_mix)) (DE.db de_int))))) (fun ς => gKeep_gN (captD_none rfl ς)) (noExc_gN _) (fun fp s H G p => ⟨(dg_name (i := 0) S_law_rows_0.nd rfl (Or.inr l_law_rows_c0__law_j) (hf := Or.inl rfl)), dif_nil, (DF.de (df_comp rfl S_law_rows_1 (DI.b (di_range1 g_law_rows_c0_range z_range (DE.db (de_var 1 rfl (Or.inr (Or.inl l_law_rows_c0__law_many)))))) (fun ς => gKeep_gN (captD_none rfl ς)) (noExc_gN _) (fun fp s H G p => ⟨(dg_name (i := 0) S_law_rows_1.nd rfl (Or.inl l_law_rows_c1__law_k) (hf := Or.inr l_law_rows_c1__law_k)), dif_nil, (de_mod (DE.db (de_f h_law_mix (hr.mono (by decide)) (da_cons (de_var 1 rfl (Or.inr (Or.inl l_law_rows_c1__law_cell))) (da_cons (de_add (DE.db (de_add (DE.db de_int) (DE.db (de_mul (DE.db de_int) (DE.db (de_var 2 rfl (Or.inr (Or.inl l_law_rows_c1__law_j)))))))) (DE.db (de_var 0 rfl (Or.inl l_law_rows_c1__law_k)))) da_nil)) g_law_rows_c1__law_mix)) (DE.db de_int))⟩)))⟩) sc_law_rows.nd rfl (Or.inl l_law_rows__law_rows_here)) (dss_cons (ds_if (DW.dt (dw_and (dt_ne hr.units (db_var 2 rfl (Or.inl l_law_rows__law_rows_here)) (DE.db (DF.de (df_lst da_nil)))) (dw_and1 (dt_gt (DE.db (de_mod (DE.db (de_f h_law_mix (hr.mono (by decide)) (da_cons (de_var 0 rfl (Or.inr (Or.inl l_law_rows__law_cell))) (da_cons de_int da_nil)) g_law_rows__law_mix)) (DE.db de_int))) (DE.db de_int))))) (dss_cons (ds_set (i := 3) sc_law_rows.nd rfl (Or.inl l_law_rows__law_at) (de_mod (DE.db (de_f h_law_mix (hr.mono (by decide)) (da_cons (de_var 0 rfl (Or.inr (Or.inl l_law_rows__law_cell))) (da_cons de_int da_nil)) g_law_rows__law_mix)) (DE.db (de_len g_law_rows_len z_len (dab_cons (db_var 2 rfl (Or.inl l_law_rows__law_rows_here)) dab_nil))))) (dss_cons (ds_set (i := 4) sc_law_rows.nd rfl (Or.inl l_law_rows__law_counts_here) (de_f h_law_counts (hr.mono (by decide)) (da_cons (de_var 0 rfl (Or.inr (Or.inl l_law_rows__law_cell))) (da_cons (de_var 1 rfl (Or.inr (Or.inl l_law_rows__law_many))) da_nil)) g_law_rows__law_counts)) (dss_cons (ds_set (i := 5) sc_law_rows.nd rfl (Or.inl l_law_rows__law_some) (DF.de (df_lst (da_cons (DF.de (df_cat (de_ixO 2 (DE.db (de_var 3 rfl (Or.inl l_law_rows__law_at))) rfl (Or.inl l_law_rows__law_rows_here)) (DF.de (df_lst (da_cons de_int da_nil))))) (da_cons (de_tuple g_law_rows_tuple z_tuple (de_ixO 2 (DE.db (de_var 3 rfl (Or.inl l_law_rows__law_at))) rfl (Or.inl l_law_rows__law_rows_here))) (da_cons de_str (da_cons de_non (da_cons (de_var 4 rfl (Or.inl l_law_rows__law_counts_here)) (da_cons (DF.de (df_sl (de_ixO 2 (DE.db (de_var 3 rfl (Or.inl l_law_rows__law_at))) rfl (Or.inl l_law_rows__law_rows_here)) (do_some (DE.db de_int)) do_none)) (da_cons (de_var 4 rfl (Or.inl l_law_rows__law_counts_here)) da_nil)))))))))) (dss_one (ds_putO 2 (DE.db (de_var 3 rfl (Or.inl l_law_rows__law_at))) (de_ix (de_var 5 rfl (Or.inl l_law_rows__law_some)) (DE.db (de_mod (DE.db (de_f h_law_mix (hr.mono (by decide)) (da_cons (de_var 0 rfl (Or.inr (Or.inl l_law_rows__law_cell))) (da_cons de_int da_nil)) g_law_rows__law_mix)) (DE.db de_int)))) rfl (Or.inl l_law_rows__law_rows_here)))))) dss_nil) (dss_one (ds_retO 2 rfl (Or.inl l_law_rows__law_rows_here))))))
abbrev s_law_thing : Stmt := top 42
theorem sc_law_thing : FnScope ["_law_cell", "_law_kind", "_law_thing_here"] ["_law_cell", "_law_kind"] (defScope s_law_thing) := ⟨rfl, rfl, rfl, by decide +kernel, rfl, by decide +kernel, by decide +kernel⟩
theorem l_law_thing__law_kind : (defScope s_law_thing).names.lookup ("_law_kind" : Str) = some NameKind.local := by decide +kernel
theorem l_law_thing__law_cell : (defScope s_law_thing).names.lookup ("_law_cell" : Str) = some NameKind.local := by decide +kernel
theorem g_law_thing__law_number : (defScope s_law_thing).names.lookup ("_law_number" : Str) = some NameKind.globalImplicit := by decide +kernel
theorem g_law_thing__law_mix : (defScope s_law_thing).names.lookup ("_law_mix" : Str) = some NameKind.globalImplicit := by decide +kernel
theorem g_law_thing__law_counts : (defScope s_law_thing).names.lookup ("_law_counts" : Str) = some NameKind.globalImplicit := by decide +kernel
theorem l_law_thing__law_thing_here : (defScope s_law_thing).names.lookup ("_law_thing_here" : Str) = some NameKind.local := by decide +kernel
theorem g_law_thing__law_rows : (defScope s_law_thing).names.lookup ("_law_rows" : Str) = some NameKind.globalImplicit := by decide +kernel
theorem g_law_thing_tuple : (defScope s_law_thing).names.lookup ("tuple" : Str) = some NameKind.globalImplicit := by decide +kernel
noncomputable def T_law_thing : SD → Out Fl := (sSeq (sIf (tVal (e2 dLt (eVar 1) (eC (.int 2)))) (sRet (eA (fun xs => b_law_number (xs ++ [])) (aCons (eVar 0) aNil))) sNil) (sSeq (sSet 2 (eA (fun xs => b_law_counts (xs ++ [])) (aCons (eVar 0) (aCons (e2 dMod (eA (fun xs => b_law_mix (xs ++ [])) (aCons (eVar 0) (aCons (eC (.int 12)) aNil))) (eC (.int 9))) aNil)))) (sSeq (sIf (tVal (e2 dEq (eVar 1) (eC (.int 3)))) (sSet 2 (eA (fun xs => b_law_rows (xs ++ [])) (aCons (eVar 0) aNil))) sNil) (sSeq (sIf (tVal (e2 dEq (e2 dMod (eA (fun xs => b_law_mix (xs ++ [])) (aCons (eVar 0) (aCons (eC (.int 13)) aNil))) (eC (.int 9))) (eC (.int 0)))) (sRet (e2 dIx (eLst (aCons (e1 dTuple (eVar 2)) (aCons (eC .non) (aCons (eC (.str "1,2")) (aCons (eC (.int 3)) (aCons (eC (.bl true)) (aCons eDic0 aNil))))))) (e2 dMod (eA (fun xs => b_law_mix (xs ++ [])) (aCons (eVar 0) (aCons (eC (.int 14)) aNil))) (eC (.int 6))))) sNil) (sRet (eVar 2))))))
noncomputable def b_law_thing : List D → Out D := bodyF false 2 3 T_law_thing
theorem u_law_thing (d0 d1 : D) : b_law_thing [d0, d1] = (T_law_thing [some (.k, d0), some (.k, d1), none] >>= retF false) := rfl
theorem d_law_thing {P : Program} {w : World} {K : PySem.W.Frag} {mg : Str → Option Value} {base : Heap} {CT : CTab} {f : Addr} {fd : FuncData} {dV : Value} (F : FunV K "_law_thing" "_law_thing" s_law_thing f fd dV) (h_law_number : DefOk P w K mg base CT "_law_number" 2 false [] b_law_number) (h_law_counts : DefOk P w K mg base CT "_law_counts" 3 true [] b_law_counts) (h_law_mix : DefOk P w K mg base CT "_law_mix" 1 false [] b_law_mix) (h_law_rows : DefOk P w K mg base CT "_law_rows" 4 true [] b_law_rows) (z_tuple : mg "tuple" = none) : FnOk P w K mg base CX0 5 f fd ["_law_cell", "_law_kind"] (SpD K CT false b_law_thing) :=
    @fnV P w K mg base CT false "_law_thing" "_law_thing" s_law_thing f fd dV ["_law_cell", "_law_kind", "_law_thing_here"] ["_law_cell", "_law_kind"] 4 T_law_thing F sc_law_thing fun cdv A outer s H E G hr => 
      (dss_cons (ds_if (dt_lt (DE.db (de_var 1 rfl (Or.inl l_law_thing__law_kind))) (DE.db de_int)) (dss_one (ds_ret (de_f h_law_number (hr.mono (by decide)) (da_cons (de_var 0 rfl (Or.inl l_law_thing__law_cell)) da_nil) g_law_thing__law_number))) dss_nil) (dss_cons (ds_set (i := 2) sc_law_thing.nd rfl (Or.inl l_law_thing__law_thing_here) (de_f h_law_counts (hr.mono (by decide)) (da_cons (de_var 0 rfl (Or.inl l_law_thing__law_cell)) (da_cons (de_mod (DE.db (de_f h_law_mix (hr.mono (by decide)) (da_cons (de_var 0 rfl (Or.inl l_law_thing__law_cell)) (da_cons de_int da_nil)) g_law_thing__law_mix)) (DE.db de_int)) da_nil)) g_law_thing__law_counts)) (dss_cons (ds_if (dt_eq hr.units (DE.db (de_var 1 rfl (Or.inl l_law_thing__law_kind))) (DE.db de_int)) (dss_one (ds_set (i := 2) sc_law_thing.nd rfl (Or.inl l_law_thing__law_thing_here) (de_f h_law_rows (hr.mono (by decide)) (da_cons (de_var 0 rfl (Or.inl l_law_thing__law_cell)) da_nil) g_law_thing__law_rows))) dss_nil) (dss_cons (ds_if (dt_eq hr.units (DE.db (de_mod (DE.db (de_f h_law_mix (hr.mono (by decide)) (da_cons (de_var 0 rfl (Or.inl l_law_thing__law_cell)) (da_cons de_int da_nil)) g_law_thing__law_mix)) (DE.db de_int))) (DE.db de_int)) (dss_one (ds_ret (de_ix (DF.de (df_lst (da_cons (de_tuple g_law_thing_tuple z_tuple (de_var 2 rfl (Or.inl l_law_thing__law_thing_here))) (da_cons de_non (da_cons de_str (da_cons de_int (da_cons de_bl (da_cons (DF.de df_dic0) da_nil)))))))) (DE.db (de_mod (DE.db (de_f h_law_mix (hr.mono (by decide)) (da_cons (de_var 0 rfl (Or.inl l_law_thing__law_cell)) (da_cons de_int da_nil)) g_law_thing__law_mix)) (DE.db de_int)))))) dss_nil) (dss_one (ds_ret (de_var 2 rfl (Or.inl l_law_thing__law_thing_here))))))))
abbrev s_sums_of : Stmt := top 23
theorem sc_sums_of : FnScope ["one", "other"] ["one", "other"] (defScope s_sums_of) := ⟨rfl, rfl, rfl, by decide +kernel, rfl, by decide +kernel, by decide +kernel⟩
theorem l_sums_of_one : (defScope s_sums_of).names.lookup ("one" : Str) = some NameKind.local := by decide +kernel
theorem l_sums_of_other : (defScope s_sums_of).names.lookup ("other" : Str) = some NameKind.local := by decide +kernel
theorem g_sums_of_zip : (defScope s_sums_of).names.lookup ("zip" : Str) = some NameKind.globalImplicit := by decide +kernel
abbrev cs_sums_of_0 : PySem.Scope := { kind := PySem.ScopeKind.function, names := [ (PySem.Str.ofString ".0", PySem.NameKind.local), (PySem.Str.ofString "each", PySem.NameKind.local), (PySem.Str.ofString "more", PySem.NameKind.local)], isGenerator := false, isCoroutine := false, more := [] : PySem.Scope }
theorem S_sums_of_0 : CompSc ["each", "more"] [none, none] cs_sums_of_0 (defScope s_sums_of) ["one", "other"] := ⟨rfl, by decide +kernel, by decide +kernel, rfl, by decide +kernel, by decide +kernel⟩
theorem l_sums_of_c0_more : (relabelS cs_sums_of_0 (defScope s_sums_of)).names.lookup ("more" : Str) = some NameKind.local := by decide +kernel
theorem l_sums_of_c0_each : (relabelS cs_sums_of_0 (defScope s_sums_of)).names.lookup ("each" : Str) = some NameKind.local := by decide +kernel
noncomputable def X_sums_of_0 : SD → Out D := (e2 dAdd (eVar 0) (eVar 1))
noncomputable def T_sums_of : SD → Out Fl := (sRetF (eComp [none, none] (itZ (eVar 0) (eVar 1)) (gT [0, 1]) cTrue X_sums_of_0))
noncomputable def b_sums_of : List D → Out D := bodyF true 2 2 T_sums_of
theorem u_sums_of (d0 d1 : D) : b_sums_of [d0, d1] = (T_sums_of [some (.k, d0), some (.k, d1)] >>= retF true) := rfl
theorem d_sums_of {P : Program} {w : World} {K : PySem.W.Frag} {mg : Str → Option Value} {base : Heap} {CT : CTab} {f : Addr} {fd : FuncData} {dV : Value} (F : FunV K "sums_of" "sums_of" s_sums_of f fd dV) (z_zip : mg "zip" = none) : FnOk P w K mg base CX0 1 f fd ["one", "other"] (SpD K CT true b_sums_of) :=
    @fnV P w K mg base CT true "sums_of" "sums_of" s_sums_of f fd dV ["one", "other"] ["one", "other"] 0 T_sums_of F sc_sums_of fun cdv A outer s H E G hr => 
      (dss_one (ds_retF (df_comp rfl S_sums_of_0 (DI.b (di_zip g_sums_of_zip z_zip (de_var 0 rfl (Or.inl l_sums_of_one)) (de_var 1 rfl (Or.inl l_sums_of_other)))) (fun ς => gKeep_gT (fun i hi => captD_none (by revert hi; revert i; decide) ς)) (noExc_gT _) (fun fp s H G p => ⟨(dg_tup rfl (dgs_cons (i := 0) S_sums_of_0.nd rfl (Or.inl l_sums_of_c0_each) (dgs_cons (i := 1) S_sums_of_0.nd rfl (Or.inl l_sums_of_c0_more) dgs_nil (hf := Or.inr l_sums_of_c0_more)) (hf := Or.inr l_sums_of_c0_each))), dif_nil, (de_add (DE.db (de_var 0 rfl (Or.inl l_sums_of_c0_each))) (DE.db (de_var 1 rfl (Or.inl l_sums_of_c0_more))))⟩))))
abbrev s_running_sums : Stmt := top 24
theorem sc_running_sums : FnScope ["rows", "sums", "row"] ["rows"] (defScope s_running_sums) := ⟨rfl, rfl, rfl, by decide +kernel, rfl, by decide +kernel, by decide +kernel⟩
theorem l_running_sums_rows : (defScope s_running_sums).names.lookup ("rows" : Str) = some NameKind.local := by decide +kernel
abbrev cs_running_sums_0 : PySem.Scope := { kind := PySem.ScopeKind.function, names := [(PySem.Str.ofString ".0", PySem.NameKind.local), (PySem.Str.ofString "each", PySem.NameKind.local)], isGenerator := false, isCoroutine := false, more := [] : PySem.Scope }
theorem S_running_sums_0 : CompSc ["each"] [none] cs_running_sums_0 (defScope s_running_sums) ["rows", "sums", "row"] := ⟨rfl, by decide +kernel, by decide +kernel, rfl, by decide +kernel, by decide +kernel⟩
theorem l_running_sums_c0_each : (relabelS cs_running_sums_0 (defScope s_running_sums)).names.lookup ("each" : Str) = some NameKind.local := by decide +kernel
noncomputable def X_running_sums_0 : SD → Out D := (eC (.int 0))
theorem l_running_sums_sums : (defScope s_running_sums).names.lookup ("sums" : Str) = some NameKind.local := by decide +kernel
theorem l_running_sums_row : (defScope s_running_sums).names.lookup ("row" : Str) = some NameKind.local := by decide +kernel
theorem g_running_sums_sums_of : (defScope s_running_sums).names.lookup ("sums_of" : Str) = some NameKind.globalImplicit := by decide +kernel
noncomputable def L_running_sums_0 : SD → Out Fl := (sAppend 1 (eA (fun xs => b_sums_of (xs ++ [])) (aCons (eIxO 1 (e1 dNeg (eC (.int 1)))) (aCons (eVar 2) aNil))))
noncomputable def T_running_sums : SD → Out Fl := (sSeq (sSetO 1 (eLst (aCons (eComp [none] (itL (e2 dIx (eVar 0) (eC (.int 0)))) (gN 0) cTrue X_running_sums_0) aNil))) (sSeq (sFor (gN 2) (itL (eVar 0)) L_running_sums_0) (sRetO 1)))
noncomputable def b_running_sums : List D → Out D := bodyF true 1 3 T_running_sums
theorem u_running_sums (d0 : D) : b_running_sums [d0] = (T_running_sums [some (.k, d0), none, none] >>= retF true) := rfl
theorem d_running_sums {P : Program} {w : World} {K : PySem.W.Frag} {mg : Str → Option Value} {base : Heap} {CT : CTab} {f : Addr} {fd : FuncData} {dV : Value} (F : FunV K "running_sums" "running_sums" s_running_sums f fd dV) (h_sums_of : DefOk P w K mg base CT "sums_of" 1 true [] b_sums_of) : FnOk P w K mg base CX0 2 f fd ["rows"] (SpD K CT true b_running_sums) :=
    @fnV P w K mg base CT true "running_sums" "running_sums" s_running_sums f fd dV ["rows", "sums", "row"] ["rows"] 1 T_running_sums F sc_running_sums fun cdv A outer s H E G hr => 
      (dss_cons (ds_setO (i := 1) sc_running_sums.nd rfl (Or.inl l_running_sums_sums) (df_lst (da_cons (DF.de (df_comp rfl S_running_sums_0 (DI.b (di_list (de_ix (de_var 0 rfl (Or.inl l_running_sums_rows)) (DE.db de_int)))) (fun ς => gKeep_gN (captD_none rfl ς)) (noExc_gN _) (fun fp s H G p => ⟨(dg_name (i := 0) S_running_sums_0.nd rfl (Or.inl l_running_sums_c0_each) (hf := Or.inr l_running_sums_c0_each)), dif_nil, de_int⟩))) da_nil))) (dss_cons (ds_forI PassesOwn.never rfl (di_list (de_var 0 rfl (Or.inl l_running_sums_rows))) (dg_name (i := 2) sc_running_sums.nd rfl (Or.inl l_running_sums_row)) (noExc_gN _) (dss_one (ds_append 1 (de_f h_sums_of (hr.mono (by decide)) (da_cons (de_ixO 1 (DE.db (de_neg (DE.db de_int))) rfl (Or.inl l_running_sums_sums)) (da_cons (de_var 2 rfl (Or.inl l_running_sums_row)) da_nil)) g_running_sums_sums_of) rfl (Or.inl l_running_sums_sums)))) (dss_one (ds_retO 1 rfl (Or.inl l_running_sums_sums)))))
abbrev s_Clerk_keep_rows : Stmt := inCls (top 25) 1
theorem sc_Clerk_keep_rows : FnScope ["self", "rows"] ["self", "rows"] (defScope s_Clerk_keep_rows) := ⟨rfl, rfl, rfl, by decide +kernel, rfl, by decide +kernel, by decide +kernel⟩
theorem l_Clerk_keep_rows_rows : (defScope s_Clerk_keep_rows).names.lookup ("rows" : Str) = some NameKind.local := by decide +kernel
abbrev cs_Clerk_keep_rows_0 : PySem.Scope := { kind := PySem.ScopeKind.function, names := [ (PySem.Str.ofString ".0", PySem.NameKind.local), (PySem.Str.ofString "row", PySem.NameKind.local), (PySem.Str.ofString "list", PySem.NameKind.globalImplicit)], isGenerator := false, isCoroutine := false, more := [] : PySem.Scope }
theorem S_Clerk_keep_rows_0 : CompSc ["row"] [none] cs_Clerk_keep_rows_0 (defScope s_Clerk_keep_rows) ["self", "rows"] := ⟨rfl, by decide +kernel, by decide +kernel, rfl, by decide +kernel, by decide +kernel⟩
theorem l_Clerk_keep_rows_c0_row : (relabelS cs_Clerk_keep_rows_0 (defScope s_Clerk_keep_rows)).names.lookup ("row" : Str) = some NameKind.local := by decide +kernel
theorem g_Clerk_keep_rows_c0_list : (relabelS cs_Clerk_keep_rows_0 (defScope s_Clerk_keep_rows)).names.lookup ("list" : Str) = some NameKind.globalImplicit := by decide +kernel
noncomputable def X_Clerk_keep_rows_0 : SD → Out D := (e1 dList (eVar 0))
theorem l_Clerk_keep_rows_self : (defScope s_Clerk_keep_rows).names.lookup ("self" : Str) = some NameKind.local := by decide +kernel
theorem g_Clerk_keep_rows_running_sums : (defScope s_Clerk_keep_rows).names.lookup ("running_sums" : Str) = some NameKind.globalImplicit := by decide +kernel
noncomputable def T_Clerk_keep_rows : SD → Out Fl := (sSeq (fun ς => noX (sFldS cls_all "table" 0 (eComp [none] (itL (eVar 1)) (gN 0) cTrue X_Clerk_keep_rows_0) ς)) (fun ς => noX (sFldS cls_all "heads" 0 (eA (fun xs => b_running_sums (xs ++ [])) (aCons (eVar 1) aNil)) ς)))
noncomputable def i_Clerk_keep_rows : Str → List (Str × D) → List D → Out (List (Str × D)) := bodyI 2 2 T_Clerk_keep_rows
theorem u_Clerk_keep_rows (c : Str) (fds : List (Str × D)) (d1 : D) : i_Clerk_keep_rows c fds [d1] = (T_Clerk_keep_rows [some (.s, .ins c fds), some (.k, d1)] >>= selfOf c) := rfl
theorem d_Clerk_keep_rows {P : Program} {w : World} {K : PySem.W.Frag} {mg : Str → Option Value} {base : Heap} {CT : CTab} {f : Addr} {fd : FuncData} {dV : Value} (F : FunV K "keep_rows" "Clerk.keep_rows" s_Clerk_keep_rows f fd dV) (h_running_sums : DefOk P w K mg base CT "running_sums" 2 true [] b_running_sums) (z_list : mg "list" = none) (fo_table : FldOk K CT cls_all "table") (fo_heads : FldOk K CT cls_all "heads") : FnOk P w K mg base (CXR P w) 3 f fd ["self", "rows"] (SpI K CT i_Clerk_keep_rows) :=
    @fnI P w K mg base CT "keep_rows" "Clerk.keep_rows" s_Clerk_keep_rows f fd dV ["self", "rows"] ["self", "rows"] 2 T_Clerk_keep_rows F sc_Clerk_keep_rows fun cdv A outer s H E G p hr => 
      (dss_cons (DS.lift (ds_fldS 0 fo_table (DF.de (df_comp rfl S_Clerk_keep_rows_0 (DI.b (di_list (de_var 1 rfl (Or.inl l_Clerk_keep_rows_rows)))) (fun ς => gKeep_gN (captD_none rfl ς)) (noExc_gN _) (fun fp s H G p => ⟨(dg_name (i := 0) S_Clerk_keep_rows_0.nd rfl (Or.inl l_Clerk_keep_rows_c0_row) (hf := Or.inr l_Clerk_keep_rows_c0_row)), dif_nil, (DF.de (df_list g_Clerk_keep_rows_c0_list z_list (de_var 0 rfl (Or.inl l_Clerk_keep_rows_c0_row))))⟩))) rfl (Or.inl l_Clerk_keep_rows_self))) (dss_one (DS.lift (ds_fldS 0 fo_heads (de_f h_running_sums (hr.mono (by decide)) (da_cons (de_var 1 rfl (Or.inl l_Clerk_keep_rows_rows)) da_nil) g_Clerk_keep_rows_running_sums) rfl (Or.inl l_Clerk_keep_rows_self)))))
abbrev s_is_whole : Stmt := top 17
theorem sc_is_whole : FnScope ["thing"] ["thing"] (defScope s_is_whole) := ⟨rfl, rfl, rfl, by decide +kernel, rfl, by decide +kernel, by decide +kernel⟩
theorem l_is_whole_thing : (defScope s_is_whole).names.lookup ("thing" : Str) = some NameKind.local := by decide +kernel
theorem g_is_whole_int : (defScope s_is_whole).names.lookup ("int" : Str) = some NameKind.globalImplicit := by decide +kernel
theorem g_is_whole_isinstance : (defScope s_is_whole).names.lookup ("isinstance" : Str) = some NameKind.globalImplicit := by decide +kernel
theorem g_is_whole_bool : (defScope s_is_whole).names.lookup ("bool" : Str) = some NameKind.globalImplicit := by decide +kernel
noncomputable def T_is_whole : SD → Out Fl := (sRet (eAnd (eIsa (isaT "int") (eVar 0)) (eNot (eIsa (isaT "bool") (eVar 0)))))
noncomputable def b_is_whole : List D → Out D := bodyF false 1 1 T_is_whole
theorem u_is_whole (d0 : D) : b_is_whole [d0] = (T_is_whole [some (.k, d0)] >>= retF false) := rfl
theorem d_is_whole {P : Program} {w : World} {K : PySem.W.Frag} {mg : Str → Option Value} {base : Heap} {CT : CTab} {f : Addr} {fd : FuncData} {dV : Value} (F : FunV K "is_whole" "is_whole" s_is_whole f fd dV) (z_isinstance : mg "isinstance" = none) (z_int : mg "int" = none) (z_bool : mg "bool" = none) : FnOk P w K mg base CX0 1 f fd ["thing"] (SpD K CT false b_is_whole) :=
    @fnV P w K mg base CT false "is_whole" "is_whole" s_is_whole f fd dV ["thing"] ["thing"] 0 T_is_whole F sc_is_whole fun cdv A outer s H E G hr => 
      (dss_one (ds_ret (de_and (de_isaB "int" kit_int g_is_whole_int z_int PyProof.Rows.Boot.«int» g_is_whole_isinstance z_isinstance (DE.db (de_var 0 rfl (Or.inl l_is_whole_thing)))) (de_one (de_not (de_isaB "bool" kit_bool g_is_whole_bool z_bool PyProof.Rows.Boot.«bool» g_is_whole_isinstance z_isinstance (DE.db (de_var 0 rfl (Or.inl l_is_whole_thing)))))))))
abbrev s_is_within : Stmt := top 18
theorem sc_is_within : FnScope ["thing", "least", "most"] ["thing", "least", "most"] (defScope s_is_within) := ⟨rfl, rfl, rfl, by decide +kernel, rfl, by decide +kernel, by decide +kernel⟩
theorem l_is_within_thing : (defScope s_is_within).names.lookup ("thing" : Str) = some NameKind.local := by decide +kernel
theorem g_is_within_is_whole : (defScope s_is_within).names.lookup ("is_whole" : Str) = some NameKind.globalImplicit := by decide +kernel
theorem l_is_within_least : (defScope s_is_within).names.lookup ("least" : Str) = some NameKind.local := by decide +kernel
theorem l_is_within_most : (defScope s_is_within).names.lookup ("most" : Str) = some NameKind.local := by decide +kernel
noncomputable def T_is_within : SD → Out Fl := (sRet (eAnd (eA (fun xs => b_is_whole (xs ++ [])) (aCons (eVar 0) aNil)) (eChain dLe dLe (eVar 1) (eVar 0) (eVar 2))))
noncomputable def b_is_within : List D → Out D := bodyF false 3 3 T_is_within
theorem u_is_within (d0 d1 d2 : D) : b_is_within [d0, d1, d2] = (T_is_within [some (.k, d0), some (.k, d1), some (.k, d2)] >>= retF false) := rfl
theorem d_is_within {P : Program} {w : World} {K : PySem.W.Frag} {mg : Str → Option Value} {base : Heap} {CT : CTab} {f : Addr} {fd : FuncData} {dV : Value} (F : FunV K "is_within" "is_within" s_is_within f fd dV) (h_is_whole : DefOk P w K mg base CT "is_whole" 1 false [] b_is_whole) : FnOk P w K mg base CX0 2 f fd ["thing", "least", "most"] (SpD K CT false b_is_within) :=
    @fnV P w K mg base CT false "is_within" "is_within" s_is_within f fd dV ["thing", "least", "most"] ["thing", "least", "most"] 1 T_is_within F sc_is_within fun cdv A outer s H E G hr => 
      (dss_one (ds_ret (de_and (de_f h_is_whole (hr.mono (by decide)) (da_cons (de_var 0 rfl (Or.inl l_is_within_thing)) da_nil) g_is_within_is_whole) (de_one (de_chain op_le drs_dI0 (scal_dI0 fun _ _ => rfl) op_le drs_dI0 (scal_dI0 fun _ _ => rfl) (DE.db (de_var 1 rfl (Or.inl l_is_within_least))) (DE.db (de_var 0 rfl (Or.inl l_is_within_thing))) (DE.db (de_var 2 rfl (Or.inl l_is_within_most))))))))
abbrev s_is_row : Stmt := top 31
theorem sc_is_row : FnScope ["thing"] ["thing"] (defScope s_is_row) := ⟨rfl, rfl, rfl, by decide +kernel, rfl, by decide +kernel, by decide +kernel⟩
theorem l_is_row_thing : (defScope s_is_row).names.lookup ("thing" : Str) = some NameKind.local := by decide +kernel
theorem g_is_row_list : (defScope s_is_row).names.lookup ("list" : Str) = some NameKind.globalImplicit := by decide +kernel
theorem g_is_row_isinstance : (defScope s_is_row).names.lookup ("isinstance" : Str) = some NameKind.globalImplicit := by decide +kernel
theorem g_is_row_len : (defScope s_is_row).names.lookup ("len" : Str) = some NameKind.globalImplicit := by decide +kernel
theorem g_is_row_MOST_OUTS : (defScope s_is_row).names.lookup ("MOST_OUTS" : Str) = some NameKind.globalImplicit := by decide +kernel
abbrev cs_is_row_0 : PySem.Scope := { kind := PySem.ScopeKind.function, names := [ (PySem.Str.ofString ".0", PySem.NameKind.local), (PySem.Str.ofString "count", PySem.NameKind.local), (PySem.Str.ofString "is_within", PySem.NameKind.globalImplicit), (PySem.Str.ofString "MOST_SENT", PySem.NameKind.globalImplicit)], isGenerator := false, isCoroutine := false, more := [] : PySem.Scope }
theorem S_is_row_0 : CompSc ["count"] [none] cs_is_row_0 (defScope s_is_row) ["thing"] := ⟨rfl, by decide +kernel, by decide +kernel, rfl, by decide +kernel, by decide +kernel⟩
theorem l_is_row_c0_count : (relabelS cs_is_row_0 (defScope s_is_row)).names.lookup ("count" : Str) = some NameKind.local := by decide +kernel
theorem g_is_row_c0_MOST_SENT : (relabelS cs_is_row_0 (defScope s_is_row)).names.lookup ("MOST_SENT" : Str) = some NameKind.globalImplicit := by decide +kernel
theorem g_is_row_c0_is_within : (relabelS cs_is_row_0 (defScope s_is_row)).names.lookup ("is_within" : Str) = some NameKind.globalImplicit := by decide +kernel
noncomputable def X_is_row_0 : SD → Out D := (eA (fun xs => b_is_within (xs ++ [])) (aCons (eVar 0) (aCons (eC (.int 0)) (aCons (eC (.int 9)) aNil))))
theorem g_is_row_all : (defScope s_is_row).names.lookup ("all" : Str) = some NameKind.globalImplicit := by decide +kernel
noncomputable def T_is_row : SD → Out Fl := (sSeq (sIf (tOr' (tNot' (tVal (eIsa (isaT "list") (eVar 0)))) (tVal (e2 dGt (eA fLen (aCons (eVar 0) aNil)) (eC (.int 6))))) (sRet (eC (.bl false))) sNil) (sRet (eA (f1 fAll) (aCons (eComp [none] (itL (eVar 0)) (gN 0) cTrue X_is_row_0) aNil))))
noncomputable def b_is_row : List D → Out D := bodyF false 1 1 T_is_row
theorem u_is_row (d0 : D) : b_is_row [d0] = (T_is_row [some (.k, d0)] >>= retF false) := rfl
theorem d_is_row {P : Program} {w : World} {K : PySem.W.Frag} {mg : Str → Option Value} {base : Heap} {CT : CTab} {f : Addr} {fd : FuncData} {dV : Value} {u_MOST_OUTS : Value} {u_MOST_SENT : Value} (F : FunV K "is_row" "is_row" s_is_row f fd dV) (h_is_within : DefOk P w K mg base CT "is_within" 2 false [] b_is_within) (z_isinstance : mg "isinstance" = none) (z_list : mg "list" = none) (z_len : mg "len" = none) (z_all : mg "all" = none) (c_MOST_OUTS : mg "MOST_OUTS" = some u_MOST_OUTS) (r_MOST_OUTS : RelV (toV (.int 6)) u_MOST_OUTS) (c_MOST_SENT : mg "MOST_SENT" = some u_MOST_SENT) (r_MOST_SENT : RelV (toV (.int 9)) u_MOST_SENT) : FnOk P w K mg base CX0 3 f fd ["thing"] (SpD K CT false b_is_row) :=
    @fnV P w K mg base CT false "is_row" "is_row" s_is_row f fd dV ["thing"] ["thing"] 2 T_is_row F sc_is_row fun cdv A outer s H E G hr => 
      (dss_cons (ds_if (DW.dt (dw_or (dt_not (dt_val (de_isaB "list" kit_list g_is_row_list z_list PyProof.Rows.Boot.«list» g_is_row_isinstance z_isinstance (DE.db (de_var 0 rfl (Or.inl l_is_row_thing)))))) (dw_or1 (dt_gt (DE.db (de_len g_is_row_len z_len (dab_cons (DE.db (de_var 0 rfl (Or.inl l_is_row_thing))) dab_nil))) (DE.db (de_glob (d := (.int 6)) g_is_row_MOST_OUTS c_MOST_OUTS rfl r_MOST_OUTS)))))) (dss_one (ds_ret de_bl)) dss_nil) (dss_one (ds_ret (de_all rfl g_is_row_all z_all (dab_cons (DE.db (DF.de (df_comp rfl S_is_row_0 (DI.b (di_list (de_var 0 rfl (Or.inl l_is_row_thing)))) (fun ς => gKeep_gN (captD_none rfl ς)) (noExc_gN _) (fun fp s H G p => ⟨(dg_name (i := 0) S_is_row_0.nd rfl (Or.inl l_is_row_c0_count) (hf := Or.inr l_is_row_c0_count)), dif_nil, (de_f h_is_within (hr.mono (by decide)) (da_cons (de_var 0 rfl (Or.inl l_is_row_c0_count)) (da_cons de_int (da_cons (de_glob (d := (.int 9)) g_is_row_c0_MOST_SENT c_MOST_SENT rfl r_MOST_SENT) da_nil))) g_is_row_c0_is_within)⟩)))) dab_nil)))))
abbrev s_is_table : Stmt := top 32
theorem sc_is_table : FnScope ["thing"] ["thing"] (defScope s_is_table) := ⟨rfl, rfl, rfl, by decide +kernel, rfl, by decide +kernel, by decide +kernel⟩
theorem l_is_table_thing : (defScope s_is_table).names.lookup ("thing" : Str) = some NameKind.cell := by decide +kernel
theorem g_is_table_list : (defScope s_is_table).names.lookup ("list" : Str) = some NameKind.globalImplicit := by decide +kernel
theorem g_is_table_isinstance : (defScope s_is_table).names.lookup ("isinstance" : Str) = some NameKind.globalImplicit := by decide +kernel
theorem g_is_table_len : (defScope s_is_table).names.lookup ("len" : Str) = some NameKind.globalImplicit := by decide +kernel
theorem g_is_table_MOST_ROWS : (defScope s_is_table).names.lookup ("MOST_ROWS" : Str) = some NameKind.globalImplicit := by decide +kernel
abbrev cs_is_table_0 : PySem.Scope := { kind := PySem.ScopeKind.function, names := [ (PySem.Str.ofString ".0", PySem.NameKind.local), (PySem.Str.ofString "row", PySem.NameKind.local), (PySem.Str.ofString "is_row", PySem.NameKind.globalImplicit)], isGenerator := false, isCoroutine := false, more := [] : PySem.Scope }
theorem S_is_table_0 : CompSc ["row"] [none] cs_is_table_0 (defScope s_is_table) ["thing"] := ⟨rfl, by decide +kernel, by decide +kernel, rfl, by decide +kernel, by decide +kernel⟩
theorem l_is_table_c0_row : (relabelS cs_is_table_0 (defScope s_is_table)).names.lookup ("row" : Str) = some NameKind.local := by decide +kernel
theorem g_is_table_c0_is_row : (relabelS cs_is_table_0 (defScope s_is_table)).names.lookup ("is_row" : Str) = some NameKind.globalImplicit := by decide +kernel
noncomputable def X_is_table_0 : SD → Out D := (eA (fun xs => b_is_row (xs ++ [])) (aCons (eVar 0) aNil))
theorem g_is_table_all : (defScope s_is_table).names.lookup ("all" : Str) = some NameKind.globalImplicit := by decide +kernel
abbrev cs_is_table_1 : PySem.Scope := { kind := PySem.ScopeKind.function, names := [ (PySem.Str.ofString ".0", PySem.NameKind.local), (PySem.Str.ofString "row", PySem.NameKind.local), (PySem.Str.ofString "len", PySem.NameKind.globalImplicit), (PySem.Str.ofString "thing", PySem.NameKind.free)], isGenerator := false, isCoroutine := false, more := [] : PySem.Scope }
theorem S_is_table_1 : CompSc ["row", "thing"] [none, some 0] cs_is_table_1 (defScope s_is_table) ["thing"] := ⟨rfl, by decide +kernel, by decide +kernel, rfl, by decide +kernel, by decide +kernel⟩
theorem l_is_table_c1_row : (relabelS cs_is_table_1 (defScope s_is_table)).names.lookup ("row" : Str) = some NameKind.local := by decide +kernel
theorem g_is_table_c1_len : (relabelS cs_is_table_1 (defScope s_is_table)).names.lookup ("len" : Str) = some NameKind.globalImplicit := by decide +kernel
theorem l_is_table_c1_thing : (relabelS cs_is_table_1 (defScope s_is_table)).names.lookup ("thing" : Str) = some NameKind.cell := by decide +kernel
noncomputable def X_is_table_1 : SD → Out D := (e2 dEq (eA fLen (aCons (eVar 0) aNil)) (eA fLen (aCons (e2 dIx (eVar 1) (eC (.int 0))) aNil)))
noncomputable def T_is_table : SD → Out Fl := (sSeq (sIf (tOr' (tNot' (tVal (eIsa (isaT "list") (eVar 0)))) (tNot' (tVal (eChain dLe dLe (eC (.int 1)) (eA fLen (aCons (eVar 0) aNil)) (eC (.int 12)))))) (sRet (eC (.bl false))) sNil) (sSeq (sIf (tNot' (tVal (eA (f1 fAll) (aCons (eComp [none] (itL (eVar 0)) (gN 0) cTrue X_is_table_0) aNil)))) (sRet (eC (.bl false))) sNil) (sRet (eA (f1 fAll) (aCons (eComp [none, some 0] (itL (eVar 0)) (gN 0) cTrue X_is_table_1) aNil)))))
noncomputable def b_is_table : List D → Out D := bodyF false 1 1 T_is_table
theorem u_is_table (d0 : D) : b_is_table [d0] = (T_is_table [some (.k, d0)] >>= retF false) := rfl
theorem d_is_table {P : Program} {w : World} {K : PySem.W.Frag} {mg : Str → Option Value} {base : Heap} {CT : CTab} {f : Addr} {fd : FuncData} {dV : Value} {u_MOST_ROWS : Value} (F : FunV K "is_table" "is_table" s_is_table f fd dV) (h_is_row : DefOk P w K mg base CT "is_row" 3 false [] b_is_row) (z_isinstance : mg "isinstance" = none) (z_list : mg "list" = none) (z_len : mg "len" = none) (z_all : mg "all" = none) (c_MOST_ROWS : mg "MOST_ROWS" = some u_MOST_ROWS) (r_MOST_ROWS : RelV (toV (.int 12)) u_MOST_ROWS) : FnOk P w K mg base CX0 4 f fd ["thing"] (SpD K CT false b_is_table) :=
    @fnV P w K mg base CT false "is_table" "is_table" s_is_table f fd dV ["thing"] ["thing"] 3 T_is_table F sc_is_table fun cdv A outer s H E G hr => 
      (dss_cons (ds_if (DW.dt (dw_or (dt_not (dt_val (de_isaB "list" kit_list g_is_table_list z_list PyProof.Rows.Boot.«list» g_is_table_isinstance z_isinstance (DE.db (de_var 0 rfl (Or.inr (Or.inl l_is_table_thing))))))) (dw_or1 (dt_not (dt_chain op_le drs_dI0 (scal_dI0 fun _ _ => rfl) op_le drs_dI0 (scal_dI0 fun _ _ => rfl) (DE.db de_int) (DE.db (de_len g_is_table_len z_len (dab_cons (DE.db (de_var 0 rfl (Or.inr (Or.inl l_is_table_thing)))) dab_nil))) (DE.db (de_glob (d := (.int 12)) g_is_table_MOST_ROWS c_MOST_ROWS rfl r_MOST_ROWS))))))) (dss_one (ds_ret de_bl)) dss_nil) (dss_cons (ds_if (dt_not (dt_val (de_all rfl g_is_table_all z_all (dab_cons (DE.db (DF.de (df_comp rfl S_is_table_0 (DI.b (di_list (de_var 0 rfl (Or.inr (Or.inl l_is_table_thing))))) (fun ς => gKeep_gN (captD_none rfl ς)) (noExc_gN _) (fun fp s H G p => ⟨(dg_name (i := 0) S_is_table_0.nd rfl (Or.inl l_is_table_c0_row) (hf := Or.inr l_is_table_c0_row)), dif_nil, (de_f h_is_row (hr.mono (by decide)) (da_cons (de_var 0 rfl (Or.inl l_is_table_c0_row)) da_nil) g_is_table_c0_is_row)⟩)))) dab_nil)))) (dss_one (ds_ret de_bl)) dss_nil) (dss_one (ds_ret (de_all rfl g_is_table_all z_all (dab_cons (DE.db (DF.de (df_comp rfl S_is_table_1 (DI.b (di_list (de_var 0 rfl (Or.inr (Or.inl l_is_table_thing))))) (fun ς => gKeep_gN (captD_none rfl ς)) (noExc_gN _) (fun fp s H G p => ⟨(dg_name (i := 0) S_is_table_1.nd rfl (Or.inl l_is_table_c1_row) (hf := Or.inr l_is_table_c1_row)), dif_nil, (de_eq hr.units (DE.db (de_len g_is_table_c1_len z_len (dab_cons (DE.db (de_var 0 rfl (Or.inl l_is_table_c1_row))) dab_nil))) (DE.db (de_len g_is_table_c1_len z_len (dab_cons (DE.db (de_ix (de_var 1 rfl (Or.inr (Or.inl l_is_table_c1_thing))) (DE.db de_int))) dab_nil))))⟩)))) dab_nil))))))
abbrev s_Rows_init : Stmt := inCls (top 29) 0
theorem sc_Rows_init : FnScope ["self", "rows"] ["self", "rows"] (defScope s_Rows_init) := ⟨rfl, rfl, rfl, by decide +kernel, rfl, by decide +kernel, by decide +kernel⟩
theorem l_Rows_init_rows : (defScope s_Rows_init).names.lookup ("rows" : Str) = some NameKind.local := by decide +kernel
theorem g_Rows_init_is_table : (defScope s_Rows_init).names.lookup ("is_table" : Str) = some NameKind.globalImplicit := by decide +kernel
theorem g_Rows_init_NoClerk : (defScope s_Rows_init).names.lookup ("NoClerk" : Str) = some NameKind.globalImplicit := by decide +kernel
theorem l_Rows_init_self : (defScope s_Rows_init).names.lookup ("self" : Str) = some NameKind.local := by decide +kernel
noncomputable def T_Rows_init : SD → Out Fl := (sSeq (sIf (fun ς => noX ((tNot' (tVal (eA (fun xs => b_is_table (xs ++ [])) (aCons (eVar 1) aNil)))) ς)) (sRaise "NoClerk" (aCons (eC (.str "rows are made of a list of 1 to 12 rows of one length")) aNil)) sNil) (sMethS cls_all "keep_rows" i_Clerk_keep_rows 0 (fun ς => noX ((aCons (eVar 1) aNil) ς))))
noncomputable def i_Rows_init : Str → List (Str × D) → List D → Out (List (Str × D)) := bodyI 2 2 T_Rows_init
theorem u_Rows_init (c : Str) (fds : List (Str × D)) (d1 : D) : i_Rows_init c fds [d1] = (T_Rows_init [some (.s, .ins c fds), some (.k, d1)] >>= selfOf c) := rfl
theorem d_Rows_init {P : Program} {w : World} {K : PySem.W.Frag} {mg : Str → Option Value} {base : Heap} {CT : CTab} {f : Addr} {fd : FuncData} {dV : Value} {C_NoClerk : Addr} (F : FunV K "__init__" "Rows.__init__" s_Rows_init f fd dV) (h_is_table : DefOk P w K mg base CT "is_table" 4 false [] b_is_table) (m_NoClerk : mg "NoClerk" = some (.ref C_NoClerk)) (t_NoClerk : CT "NoClerk" = some C_NoClerk) (x_NoClerk : XIn K C_NoClerk) (ms_keep_rows : MtOk P w K mg base CT (CXR P w) "keep_rows" 3 cls_all (fun _ => SpI K CT i_Clerk_keep_rows)) : FnOk P w K mg base (CXR P w) 5 f fd ["self", "rows"] (SpI K CT i_Rows_init) :=
    @fnI P w K mg base CT "__init__" "Rows.__init__" s_Rows_init f fd dV ["self", "rows"] ["self", "rows"] 4 T_Rows_init F sc_Rows_init fun cdv A outer s H E G p hr => 
      (dss_cons (ds_if (DT.lift (dt_not (dt_val (de_f h_is_table (hr.mono (by decide)) (da_cons (de_var 1 rfl (Or.inl l_Rows_init_rows)) da_nil) g_Rows_init_is_table)))) (dss_one (ds_raise rz_dcI g_Rows_init_NoClerk m_NoClerk t_NoClerk x_NoClerk (da_cons de_str da_nil))) dss_nil) (dss_one (ds_methS 0 rz_dcI ms_keep_rows (hr.mono (by decide)) (DA.lift (da_cons (de_var 1 rfl (Or.inl l_Rows_init_rows)) da_nil)) rfl (Or.inl l_Rows_init_self))))
abbrev s_single_row : Stmt := top 30
theorem sc_single_row : FnScope ["many", "place"] ["many", "place"] (defScope s_single_row) := ⟨rfl, rfl, rfl, by decide +kernel, rfl, by decide +kernel, by decide +kernel⟩
theorem l_single_row_many : (defScope s_single_row).names.lookup ("many" : Str) = some NameKind.local := by decide +kernel
theorem g_single_row_range : (defScope s_single_row).names.lookup ("range" : Str) = some NameKind.globalImplicit := by decide +kernel
abbrev cs_single_row_0 : PySem.Scope := { kind := PySem.ScopeKind.function, names := [ (PySem.Str.ofString ".0", PySem.NameKind.local), (PySem.Str.ofString "out", PySem.NameKind.local), (PySem.Str.ofString "place", PySem.NameKind.free)], isGenerator := false, isCoroutine := false, more := [] : PySem.Scope }
theorem S_single_row_0 : CompSc ["out", "place"] [none, some 1] cs_single_row_0 (defScope s_single_row) ["many", "place"] := ⟨rfl, by decide +kernel, by decide +kernel, rfl, by decide +kernel, by decide +kernel⟩
theorem l_single_row_c0_out : (relabelS cs_single_row_0 (defScope s_single_row)).names.lookup ("out" : Str) = some NameKind.local := by decide +kernel
theorem l_single_row_c0_place : (relabelS cs_single_row_0 (defScope s_single_row)).names.lookup ("place" : Str) = some NameKind.cell := by decide +kernel
noncomputable def X_single_row_0 : SD → Out D := (eIf (tVal (e2 dEq (eVar 0) (eVar 1))) (eC (.int 1)) (eC (.int 0)))
noncomputable def T_single_row : SD → Out Fl := (sRetF (eComp [none, some 1] (itR1 (eVar 0)) (gN 0) cTrue X_single_row_0))
noncomputable def b_single_row : List D → Out D := bodyF true 2 2 T_single_row
theorem u_single_row (d0 d1 : D) : b_single_row [d0, d1] = (T_single_row [some (.k, d0), some (.k, d1)] >>= retF true) := rfl
theorem d_single_row {P : Program} {w : World} {K : PySem.W.Frag} {mg : Str → Option Value} {base : Heap} {CT : CTab} {f : Addr} {fd : FuncData} {dV : Value} (F : FunV K "single_row" "single_row" s_single_row f fd dV) (z_range : mg "range" = none) : FnOk P w K mg base CX0 1 f fd ["many", "place"] (SpD K CT true b_single_row) :=
    @fnV P w K mg base CT true "single_row" "single_row" s_single_row f fd dV ["many", "place"] ["many", "place"] 0 T_single_row F sc_single_row fun cdv A outer s H E G hr => 
      (dss_one (ds_retF (df_comp rfl S_single_row_0 (DI.b (di_range1 g_single_row_range z_range (DE.db (de_var 0 rfl (Or.inl l_single_row_many))))) (fun ς => gKeep_gN (captD_none rfl ς)) (noExc_gN _) (fun fp s H G p => ⟨(dg_name (i := 0) S_single_row_0.nd rfl (Or.inl l_single_row_c0_out) (hf := Or.inr l_single_row_c0_out)), dif_nil, (de_if (dt_eq hr.units (DE.db (de_var 0 rfl (Or.inl l_single_row_c0_out))) (DE.db (de_var 1 rfl (Or.inr (Or.inl l_single_row_c0_place))))) de_int de_int)⟩))))
abbrev s_Deal_init : Stmt := inCls (top 26) 0
theorem sc_Deal_init : FnScope ["self", "many"] ["self", "many"] (defScope s_Deal_init) := ⟨rfl, rfl, rfl, by decide +kernel, rfl, by decide +kernel, by decide +kernel⟩
theorem l_Deal_init_many : (defScope s_Deal_init).names.lookup ("many" : Str) = some NameKind.cell := by decide +kernel
theorem g_Deal_init_MOST_OUTS : (defScope s_Deal_init).names.lookup ("MOST_OUTS" : Str) = some NameKind.globalImplicit := by decide +kernel
theorem g_Deal_init_is_within : (defScope s_Deal_init).names.lookup ("is_within" : Str) = some NameKind.globalImplicit := by decide +kernel
theorem g_Deal_init_NoClerk : (defScope s_Deal_init).names.lookup ("NoClerk" : Str) = some NameKind.globalImplicit := by decide +kernel
theorem g_Deal_init_range : (defScope s_Deal_init).names.lookup ("range" : Str) = some NameKind.globalImplicit := by decide +kernel
abbrev cs_Deal_init_0 : PySem.Scope := { kind := PySem.ScopeKind.function, names := [ (PySem.Str.ofString ".0", PySem.NameKind.local), (PySem.Str.ofString "state", PySem.NameKind.local), (PySem.Str.ofString "single_row", PySem.NameKind.globalImplicit), (PySem.Str.ofString "many", PySem.NameKind.free)], isGenerator := false, isCoroutine := false, more := [] : PySem.Scope }
theorem S_Deal_init_0 : CompSc ["state", "many"] [none, some 1] cs_Deal_init_0 (defScope s_Deal_init) ["self", "many"] := ⟨rfl, by decide +kernel, by decide +kernel, rfl, by decide +kernel, by decide +kernel⟩
theorem l_Deal_init_c0_state : (relabelS cs_Deal_init_0 (defScope s_Deal_init)).names.lookup ("state" : Str) = some NameKind.local := by decide +kernel
theorem l_Deal_init_c0_many : (relabelS cs_Deal_init_0 (defScope s_Deal_init)).names.lookup ("many" : Str) = some NameKind.cell := by decide +kernel
theorem g_Deal_init_c0_single_row : (relabelS cs_Deal_init_0 (defScope s_Deal_init)).names.lookup ("single_row" : Str) = some NameKind.globalImplicit := by decide +kernel
noncomputable def X_Deal_init_0 : SD → Out D := (eA (fun xs => b_single_row (xs ++ [])) (aCons (eVar 1) (aCons (eVar 0) aNil)))
theorem l_Deal_init_self : (defScope s_Deal_init).names.lookup ("self" : Str) = some NameKind.local := by decide +kernel
noncomputable def T_Deal_init : SD → Out Fl := (sSeq (sIf (fun ς => noX ((tNot' (tVal (eA (fun xs => b_is_within (xs ++ [])) (aCons (eVar 1) (aCons (eC (.int 1)) (aCons (eC (.int 6)) aNil)))))) ς)) (sRaise "NoClerk" (aCons (eC (.str "a deal is made of a whole number from 1 to 6")) aNil)) sNil) (sMethS cls_all "keep_rows" i_Clerk_keep_rows 0 (fun ς => noX ((aCons (eComp [none, some 1] (itR1 (eVar 1)) (gN 0) cTrue X_Deal_init_0) aNil) ς))))
noncomputable def i_Deal_init : Str → List (Str × D) → List D → Out (List (Str × D)) := bodyI 2 2 T_Deal_init
theorem u_Deal_init (c : Str) (fds : List (Str × D)) (d1 : D) : i_Deal_init c fds [d1] = (T_Deal_init [some (.s, .ins c fds), some (.k, d1)] >>= selfOf c) := rfl
theorem d_Deal_init {P : Program} {w : World} {K : PySem.W.Frag} {mg : Str → Option Value} {base : Heap} {CT : CTab} {f : Addr} {fd : FuncData} {dV : Value} {u_MOST_OUTS : Value} {C_NoClerk : Addr} (F : FunV K "__init__" "Deal.__init__" s_Deal_init f fd dV) (h_is_within : DefOk P w K mg base CT "is_within" 2 false [] b_is_within) (h_single_row : DefOk P w K mg base CT "single_row" 1 true [] b_single_row) (z_range : mg "range" = none) (c_MOST_OUTS : mg "MOST_OUTS" = some u_MOST_OUTS) (r_MOST_OUTS : RelV (toV (.int 6)) u_MOST_OUTS) (m_NoClerk : mg "NoClerk" = some (.ref C_NoClerk)) (t_NoClerk : CT "NoClerk" = some C_NoClerk) (x_NoClerk : XIn K C_NoClerk) (ms_keep_rows : MtOk P w K mg base CT (CXR P w) "keep_rows" 3 cls_all (fun _ => SpI K CT i_Clerk_keep_rows)) : FnOk P w K mg base (CXR P w) 4 f fd ["self", "many"] (SpI K CT i_Deal_init) :=
    @fnI P w K mg base CT "__init__" "Deal.__init__" s_Deal_init f fd dV ["self", "many"] ["self", "many"] 3 T_Deal_init F sc_Deal_init fun cdv A outer s H E G p hr => 
      (dss_cons (ds_if (DT.lift (dt_not (dt_val (de_f h_is_within (hr.mono (by decide)) (da_cons (de_var 1 rfl (Or.inr (Or.inl l_Deal_init_many))) (da_cons de_int (da_cons (de_glob (d := (.int 6)) g_Deal_init_MOST_OUTS c_MOST_OUTS rfl r_MOST_OUTS) da_nil))) g_Deal_init_is_within)))) (dss_one (ds_raise rz_dcI g_Deal_init_NoClerk m_NoClerk t_NoClerk x_NoClerk (da_cons de_str da_nil))) dss_nil) (dss_one (ds_methS 0 rz_dcI ms_keep_rows (hr.mono (by decide)) (DA.lift (da_cons (DF.de (df_comp rfl S_Deal_init_0 (DI.b (di_range1 g_Deal_init_range z_range (DE.db (de_var 1 rfl (Or.inr (Or.inl l_Deal_init_many)))))) (fun ς => gKeep_gN (captD_none rfl ς)) (noExc_gN _) (fun fp s H G p => ⟨(dg_name (i := 0) S_Deal_init_0.nd rfl (Or.inl l_Deal_init_c0_state) (hf := Or.inr l_Deal_init_c0_state)), dif_nil, (de_f h_single_row (hr.mono (by decide)) (da_cons (de_var 1 rfl (Or.inr (Or.inl l_Deal_init_c0_many))) (da_cons (de_var 0 rfl (Or.inl l_Deal_init_c0_state)) da_nil)) g_Deal_init_c0_single_row)⟩))) da_nil)) rfl (Or.inl l_Deal_init_self))))
abbrev s_Bundle_init : Stmt := inCls (top 27) 0
theorem sc_Bundle_init : FnScope ["self", "size"] ["self", "size"] (defScope s_Bundle_init) := ⟨rfl, rfl, rfl, by decide +kernel, rfl, by decide +kernel, by decide +kernel⟩
theorem l_Bundle_init_size : (defScope s_Bundle_init).names.lookup ("size" : Str) = some NameKind.cell := by decide +kernel
theorem g_Bundle_init_MOST_ROWS : (defScope s_Bundle_init).names.lookup ("MOST_ROWS" : Str) = some NameKind.globalImplicit := by decide +kernel
theorem g_Bundle_init_is_within : (defScope s_Bundle_init).names.lookup ("is_within" : Str) = some NameKind.globalImplicit := by decide +kernel
theorem g_Bundle_init_NoClerk : (defScope s_Bundle_init).names.lookup ("NoClerk" : Str) = some NameKind.globalImplicit := by decide +kernel
theorem g_Bundle_init_range : (defScope s_Bundle_init).names.lookup ("range" : Str) = some NameKind.globalImplicit := by decide +kernel
abbrev cs_Bundle_init_0 : PySem.Scope := { kind := PySem.ScopeKind.function, names := [ (PySem.Str.ofString ".0", PySem.NameKind.local), (PySem.Str.ofString "state", PySem.NameKind.local), (PySem.Str.ofString "size", PySem.NameKind.free)], isGenerator := false, isCoroutine := false, more := [] : PySem.Scope }
theorem S_Bundle_init_0 : CompSc ["state", "size"] [none, some 1] cs_Bundle_init_0 (defScope s_Bundle_init) ["self", "size"] := ⟨rfl, by decide +kernel, by decide +kernel, rfl, by decide +kernel, by decide +kernel⟩
theorem l_Bundle_init_c0_state : (relabelS cs_Bundle_init_0 (defScope s_Bundle_init)).names.lookup ("state" : Str) = some NameKind.local := by decide +kernel
theorem l_Bundle_init_c0_size : (relabelS cs_Bundle_init_0 (defScope s_Bundle_init)).names.lookup ("size" : Str) = some NameKind.cell := by decide +kernel
noncomputable def X_Bundle_init_0 : SD → Out D := (eLst (aCons (eIf (tVal (e2 dEq (eVar 0) (e2 dSub (eVar 1) (eC (.int 1))))) (eC (.int 1)) (eC (.int 0))) aNil))
theorem l_Bundle_init_self : (defScope s_Bundle_init).names.lookup ("self" : Str) = some NameKind.local := by decide +kernel
noncomputable def T_Bundle_init : SD → Out Fl := (sSeq (sIf (fun ς => noX ((tNot' (tVal (eA (fun xs => b_is_within (xs ++ [])) (aCons (eVar 1) (aCons (eC (.int 1)) (aCons (eC (.int 12)) aNil)))))) ς)) (sRaise "NoClerk" (aCons (eC (.str "a bundle is made of a whole number from 1 to 12")) aNil)) sNil) (sMethS cls_all "keep_rows" i_Clerk_keep_rows 0 (fun ς => noX ((aCons (eComp [none, some 1] (itR1 (eVar 1)) (gN 0) cTrue X_Bundle_init_0) aNil) ς))))
noncomputable def i_Bundle_init : Str → List (Str × D) → List D → Out (List (Str × D)) := bodyI 2 2 T_Bundle_init
theorem u_Bundle_init (c : Str) (fds : List (Str × D)) (d1 : D) : i_Bundle_init c fds [d1] = (T_Bundle_init [some (.s, .ins c fds), some (.k, d1)] >>= selfOf c) := rfl
theorem d_Bundle_init {P : Program} {w : World} {K : PySem.W.Frag} {mg : Str → Option Value} {base : Heap} {CT : CTab} {f : Addr} {fd : FuncData} {dV : Value} {u_MOST_ROWS : Value} {C_NoClerk : Addr} (F : FunV K "__init__" "Bundle.__init__" s_Bundle_init f fd dV) (h_is_within : DefOk P w K mg base CT "is_within" 2 false [] b_is_within) (z_range : mg "range" = none) (c_MOST_ROWS : mg "MOST_ROWS" = some u_MOST_ROWS) (r_MOST_ROWS : RelV (toV (.int 12)) u_MOST_ROWS) (m_NoClerk : mg "NoClerk" = some (.ref C_NoClerk)) (t_NoClerk : CT "NoClerk" = some C_NoClerk) (x_NoClerk : XIn K C_NoClerk) (ms_keep_rows : MtOk P w K mg base CT (CXR P w) "keep_rows" 3 cls_all (fun _ => SpI K CT i_Clerk_keep_rows)) : FnOk P w K mg base (CXR P w) 4 f fd ["self", "size"] (SpI K CT i_Bundle_init) :=
    @fnI P w K mg base CT "__init__" "Bundle.__init__" s_Bundle_init f fd dV ["self", "size"] ["self", "size"] 3 T_Bundle_init F sc_Bundle_init fun cdv A outer s H E G p hr => 
      (dss_cons (ds_if (DT.lift (dt_not (dt_val (de_f h_is_within (hr.mono (by decide)) (da_cons (de_var 1 rfl (Or.inr (Or.inl l_Bundle_init_size))) (da_cons de_int (da_cons (de_glob (d := (.int 12)) g_Bundle_init_MOST_ROWS c_MOST_ROWS rfl r_MOST_ROWS) da_nil))) g_Bundle_init_is_within)))) (dss_one (ds_raise rz_dcI g_Bundle_init_NoClerk m_NoClerk t_NoClerk x_NoClerk (da_cons de_str da_nil))) dss_nil) (dss_one (ds_methS 0 rz_dcI ms_keep_rows (hr.mono (by decide)) (DA.lift (da_cons (DF.de (df_comp rfl S_Bundle_init_0 (DI.b (di_range1 g_Bundle_init_range z_range (DE.db (de_var 1 rfl (Or.inr (Or.inl l_Bundle_init_size)))))) (fun ς => gKeep_gN (captD_none rfl ς)) (noExc_gN _) (fun fp s H G p => ⟨(dg_name (i := 0) S_Bundle_init_0.nd rfl (Or.inl l_Bundle_init_c0_state) (hf := Or.inr l_Bundle_init_c0_state)), dif_nil, (DF.de (df_lst (da_cons (de_if (dt_eq hr.units (DE.db (de_var 0 rfl (Or.inl l_Bundle_init_c0_state))) (DE.db (de_sub (DE.db (de_var 1 rfl (Or.inr (Or.inl l_Bundle_init_c0_size)))) (DE.db de_int)))) de_int de_int) da_nil)))⟩))) da_nil)) rfl (Or.inl l_Bundle_init_self))))
abbrev s_Copy_init : Stmt := inCls (top 28) 0
theorem sc_Copy_init : FnScope ["self", "counts"] ["self", "counts"] (defScope s_Copy_init) := ⟨rfl, rfl, rfl, by decide +kernel, rfl, by decide +kernel, by decide +kernel⟩
theorem l_Copy_init_counts : (defScope s_Copy_init).names.lookup ("counts" : Str) = some NameKind.local := by decide +kernel
theorem g_Copy_init_is_row : (defScope s_Copy_init).names.lookup ("is_row" : Str) = some NameKind.globalImplicit := by decide +kernel
theorem g_Copy_init_NoClerk : (defScope s_Copy_init).names.lookup ("NoClerk" : Str) = some NameKind.globalImplicit := by decide +kernel
theorem l_Copy_init_self : (defScope s_Copy_init).names.lookup ("self" : Str) = some NameKind.local := by decide +kernel
noncomputable def T_Copy_init : SD → Out Fl := (sSeq (sIf (fun ς => noX ((tNot' (tVal (eA (fun xs => b_is_row (xs ++ [])) (aCons (eVar 1) aNil)))) ς)) (sRaise "NoClerk" (aCons (eC (.str "a copy is made of a list of at most 6 whole numbers from 0 to 9")) aNil)) sNil) (sMethS cls_all "keep_rows" i_Clerk_keep_rows 0 (fun ς => noX ((aCons (eLst (aCons (eVar 1) aNil)) aNil) ς))))
noncomputable def i_Copy_init : Str → List (Str × D) → List D → Out (List (Str × D)) := bodyI 2 2 T_Copy_init
theorem u_Copy_init (c : Str) (fds : List (Str × D)) (d1 : D) : i_Copy_init c fds [d1] = (T_Copy_init [some (.s, .ins c fds), some (.k, d1)] >>= selfOf c) := rfl
theorem d_Copy_init {P : Program} {w : World} {K : PySem.W.Frag} {mg : Str → Option Value} {base : Heap} {CT : CTab} {f : Addr} {fd : FuncData} {dV : Value} {C_NoClerk : Addr} (F : FunV K "__init__" "Copy.__init__" s_Copy_init f fd dV) (h_is_row : DefOk P w K mg base CT "is_row" 3 false [] b_is_row) (m_NoClerk : mg "NoClerk" = some (.ref C_NoClerk)) (t_NoClerk : CT "NoClerk" = some C_NoClerk) (x_NoClerk : XIn K C_NoClerk) (ms_keep_rows : MtOk P w K mg base CT (CXR P w) "keep_rows" 3 cls_all (fun _ => SpI K CT i_Clerk_keep_rows)) : FnOk P w K mg base (CXR P w) 4 f fd ["self", "counts"] (SpI K CT i_Copy_init) :=
    @fnI P w K mg base CT "__init__" "Copy.__init__" s_Copy_init f fd dV ["self", "counts"] ["self", "counts"] 3 T_Copy_init F sc_Copy_init fun cdv A outer s H E G p hr => 
      (dss_cons (ds_if (DT.lift (dt_not (dt_val (de_f h_is_row (hr.mono (by decide)) (da_cons (de_var 1 rfl (Or.inl l_Copy_init_counts)) da_nil) g_Copy_init_is_row)))) (dss_one (ds_raise rz_dcI g_Copy_init_NoClerk m_NoClerk t_NoClerk x_NoClerk (da_cons de_str da_nil))) dss_nil) (dss_one (ds_methS 0 rz_dcI ms_keep_rows (hr.mono (by decide)) (DA.lift (da_cons (DF.de (df_lst (da_cons (de_var 1 rfl (Or.inl l_Copy_init_counts)) da_nil))) da_nil)) rfl (Or.inl l_Copy_init_self))))
abbrev s_law_made : Stmt := top 45
theorem sc_law_made : FnScope ["_law_thing_here", "_law_kind"] ["_law_thing_here", "_law_kind"] (defScope s_law_made) := ⟨rfl, rfl, rfl, by decide +kernel, rfl, by decide +kernel, by decide +kernel⟩
theorem l_law_made__law_kind : (defScope s_law_made).names.lookup ("_law_kind" : Str) = some NameKind.local := by decide +kernel
theorem l_law_made__law_thing_here : (defScope s_law_made).names.lookup ("_law_thing_here" : Str) = some NameKind.local := by decide +kernel
theorem g_law_made_Deal : (defScope s_law_made).names.lookup ("Deal" : Str) = some NameKind.globalImplicit := by decide +kernel
theorem g_law_made_Bundle : (defScope s_law_made).names.lookup ("Bundle" : Str) = some NameKind.globalImplicit := by decide +kernel
theorem g_law_made_Copy : (defScope s_law_made).names.lookup ("Copy" : Str) = some NameKind.globalImplicit := by decide +kernel
theorem g_law_made_Rows : (defScope s_law_made).names.lookup ("Rows" : Str) = some NameKind.globalImplicit := by decide +kernel
noncomputable def T_law_made : SD → Out Fl := (sSeq (sIf (fun ς => noX ((tVal (e2 dEq (eVar 1) (eC (.int 0)))) ς)) (sRetF (eMake "Deal" i_Deal_init (fun ς => noX ((aCons (eVar 0) aNil) ς)))) sNil) (sSeq (sIf (fun ς => noX ((tVal (e2 dEq (eVar 1) (eC (.int 1)))) ς)) (sRetF (eMake "Bundle" i_Bundle_init (fun ς => noX ((aCons (eVar 0) aNil) ς)))) sNil) (sSeq (sIf (fun ς => noX ((tVal (e2 dEq (eVar 1) (eC (.int 2)))) ς)) (sRetF (eMake "Copy" i_Copy_init (fun ς => noX ((aCons (eVar 0) aNil) ς)))) sNil) (sRetF (eMake "Rows" i_Rows_init (fun ς => noX ((aCons (eVar 0) aNil) ς)))))))
noncomputable def b_law_made : List D → Out D := bodyF true 2 2 T_law_made
theorem u_law_made (d0 d1 : D) : b_law_made [d0, d1] = (T_law_made [some (.k, d0), some (.k, d1)] >>= retF true) := rfl
theorem d_law_made {P : Program} {w : World} {K : PySem.W.Frag} {mg : Str → Option Value} {base : Heap} {CT : CTab} {f : Addr} {fd : FuncData} {dV : Value} (F : FunV K "_law_made" "_law_made" s_law_made f fd dV) (mk_Deal : MkOk P w K mg base CT "Deal" 4 i_Deal_init) (mk_Bundle : MkOk P w K mg base CT "Bundle" 4 i_Bundle_init) (mk_Copy : MkOk P w K mg base CT "Copy" 4 i_Copy_init) (mk_Rows : MkOk P w K mg base CT "Rows" 5 i_Rows_init) : FnOk P w K mg base (CXR P w) 7 f fd ["_law_thing_here", "_law_kind"] (SpX K CT true b_law_made) :=
    @fnX P w K mg base CT true "_law_made" "_law_made" s_law_made f fd dV ["_law_thing_here", "_law_kind"] ["_law_thing_here", "_law_kind"] 6 T_law_made F sc_law_made fun cdv A outer s H E G hr => 
      (dss_cons (ds_if (DT.lift (dt_eq hr.units (DE.db (de_var 1 rfl (Or.inl l_law_made__law_kind))) (DE.db de_int))) (dss_one (ds_retF (df_make rz_dcX mk_Deal (hr.mono (by decide)) (DA.lift (da_cons (de_var 0 rfl (Or.inl l_law_made__law_thing_here)) da_nil)) g_law_made_Deal))) dss_nil) (dss_cons (ds_if (DT.lift (dt_eq hr.units (DE.db (de_var 1 rfl (Or.inl l_law_made__law_kind))) (DE.db de_int))) (dss_one (ds_retF (df_make rz_dcX mk_Bundle (hr.mono (by decide)) (DA.lift (da_cons (de_var 0 rfl (Or.inl l_law_made__law_thing_here)) da_nil)) g_law_made_Bundle))) dss_nil) (dss_cons (ds_if (DT.lift (dt_eq hr.units (DE.db (de_var 1 rfl (Or.inl l_law_made__law_kind))) (DE.db de_int))) (dss_one (ds_retF (df_make rz_dcX mk_Copy (hr.mono (by decide)) (DA.lift (da_cons (de_var 0 rfl (Or.inl l_law_made__law_thing_here)) da_nil)) g_law_made_Copy))) dss_nil) (dss_one (ds_retF (df_make rz_dcX mk_Rows (hr.mono (by decide)) (DA.lift (da_cons (de_var 0 rfl (Or.inl l_law_made__law_thing_here)) da_nil)) g_law_made_Rows))))))
abbrev s_law_kinds : Stmt := top 37
theorem sc_law_kinds : FnScope ["_law_e", "_law_kinds_here"] ["_law_e"] (defScope s_law_kinds) := ⟨rfl, rfl, rfl, by decide +kernel, rfl, by decide +kernel, by decide +kernel⟩
theorem l_law_kinds__law_e : (defScope s_law_kinds).names.lookup ("_law_e" : Str) = some NameKind.local := by decide +kernel
theorem g_law_kinds_NoShare : (defScope s_law_kinds).names.lookup ("NoShare" : Str) = some NameKind.globalImplicit := by decide +kernel
theorem g_law_kinds_isinstance : (defScope s_law_kinds).names.lookup ("isinstance" : Str) = some NameKind.globalImplicit := by decide +kernel
theorem g_law_kinds_NoClerk : (defScope s_law_kinds).names.lookup ("NoClerk" : Str) = some NameKind.globalImplicit := by decide +kernel
theorem g_law_kinds_NoOffice : (defScope s_law_kinds).names.lookup ("NoOffice" : Str) = some NameKind.globalImplicit := by decide +kernel
theorem g_law_kinds_NoText : (defScope s_law_kinds).names.lookup ("NoText" : Str) = some NameKind.globalImplicit := by decide +kernel
theorem l_law_kinds__law_kinds_here : (defScope s_law_kinds).names.lookup ("_law_kinds_here" : Str) = some NameKind.local := by decide +kernel
theorem g_law_kinds_NoDocket : (defScope s_law_kinds).names.lookup ("NoDocket" : Str) = some NameKind.globalImplicit := by decide +kernel
theorem g_law_kinds_Endless : (defScope s_law_kinds).names.lookup ("Endless" : Str) = some NameKind.globalImplicit := by decide +kernel
theorem g_law_kinds_TooLong : (defScope s_law_kinds).names.lookup ("TooLong" : Str) = some NameKind.globalImplicit := by decide +kernel
theorem g_law_kinds_TooMany : (defScope s_law_kinds).names.lookup ("TooMany" : Str) = some NameKind.globalImplicit := by decide +kernel
theorem g_law_kinds_Unlike : (defScope s_law_kinds).names.lookup ("Unlike" : Str) = some NameKind.globalImplicit := by decide +kernel
theorem g_law_kinds_NoSum : (defScope s_law_kinds).names.lookup ("NoSum" : Str) = some NameKind.globalImplicit := by decide +kernel
theorem g_law_kinds_NoRow : (defScope s_law_kinds).names.lookup ("NoRow" : Str) = some NameKind.globalImplicit := by decide +kernel
theorem g_law_kinds_NoName : (defScope s_law_kinds).names.lookup ("NoName" : Str) = some NameKind.globalImplicit := by decide +kernel
theorem g_law_kinds_NoCount : (defScope s_law_kinds).names.lookup ("NoCount" : Str) = some NameKind.globalImplicit := by decide +kernel
theorem g_law_kinds_ValueError : (defScope s_law_kinds).names.lookup ("ValueError" : Str) = some NameKind.globalImplicit := by decide +kernel
noncomputable def T_law_kinds : SD → Out Fl := (sSeq (sSet 1 (eLst (aCons (eIsa (isaE [("NoClerk", false)]) (eVar 0)) (aCons (eIsa (isaE [("NoClerk", true)]) (eVar 0)) (aCons (eIsa (isaE [("NoClerk", false)]) (eVar 0)) (aCons (eIsa (isaE [("NoClerk", false)]) (eVar 0)) aNil)))))) (sSeq (sSet 1 (e2 dCat (eVar 1) (eLst (aCons (eIsa (isaE [("NoClerk", false)]) (eVar 0)) (aCons (eIsa (isaE [("NoClerk", false)]) (eVar 0)) (aCons (eIsa (isaE [("NoClerk", false)]) (eVar 0)) (aCons (eIsa (isaE [("NoClerk", false)]) (eVar 0)) aNil))))))) (sSeq (sSet 1 (e2 dCat (eVar 1) (eLst (aCons (eIsa (isaE [("NoClerk", false)]) (eVar 0)) (aCons (eIsa (isaE [("NoClerk", false)]) (eVar 0)) (aCons (eIsa (isaE [("NoClerk", false)]) (eVar 0)) (aCons (eIsa (isaE [("NoClerk", false)]) (eVar 0)) aNil))))))) (sSeq (sSet 1 (e2 dCat (eVar 1) (eLst (aCons (eIsa (isaE [("NoClerk", false)]) (eVar 0)) aNil)))) (sSeq (sIf (tOr' (tNot' (tVal (eIsa (isaE [("NoClerk", true)]) (eVar 0)))) (tVal (e2 dNe (eLm fCountB (eVar 1) (eC (.bl true))) (eC (.int 1))))) (sRet (e1 dNeg (eC (.int 1)))) sNil) (sRet (eLm fIndexB (eVar 1) (eC (.bl true)))))))))
noncomputable def b_law_kinds : List D → Out D := bodyF false 1 2 T_law_kinds
theorem u_law_kinds (d0 : D) : b_law_kinds [d0] = (T_law_kinds [some (.k, d0), none] >>= retF false) := rfl
theorem d_law_kinds {P : Program} {w : World} {K : PySem.W.Frag} {mg : Str → Option Value} {base : Heap} {CT : CTab} {f : Addr} {fd : FuncData} {dV : Value} {C_NoShare : Addr} {C_NoClerk : Addr} {C_NoOffice : Addr} {C_NoText : Addr} {C_NoDocket : Addr} {C_Endless : Addr} {C_TooLong : Addr} {C_TooMany : Addr} {C_Unlike : Addr} {C_NoSum : Addr} {C_NoRow : Addr} {C_NoName : Addr} {C_NoCount : Addr} (F : FunV K "_law_kinds" "_law_kinds" s_law_kinds f fd dV) (z_isinstance : mg "isinstance" = none) (z_ValueError : mg "ValueError" = none) (m_NoShare : mg "NoShare" = some (.ref C_NoShare)) (m_NoClerk : mg "NoClerk" = some (.ref C_NoClerk)) (t_NoClerk : CT "NoClerk" = some C_NoClerk) (x_NoClerk : XIn K C_NoClerk) (m_NoOffice : mg "NoOffice" = some (.ref C_NoOffice)) (m_NoText : mg "NoText" = some (.ref C_NoText)) (m_NoDocket : mg "NoDocket" = some (.ref C_NoDocket)) (m_Endless : mg "Endless" = some (.ref C_Endless)) (m_TooLong : mg "TooLong" = some (.ref C_TooLong)) (m_TooMany : mg "TooMany" = some (.ref C_TooMany)) (m_Unlike : mg "Unlike" = some (.ref C_Unlike)) (m_NoSum : mg "NoSum" = some (.ref C_NoSum)) (m_NoRow : mg "NoRow" = some (.ref C_NoRow)) (m_NoName : mg "NoName" = some (.ref C_NoName)) (m_NoCount : mg "NoCount" = some (.ref C_NoCount)) (ke_NoShare : KitE K CT (.ref C_NoShare) [("NoClerk", false)]) (ke_NoClerk : KitE K CT (.ref C_NoClerk) [("NoClerk", true)]) (ke_NoOffice : KitE K CT (.ref C_NoOffice) [("NoClerk", false)]) (ke_NoText : KitE K CT (.ref C_NoText) [("NoClerk", false)]) (ke_NoDocket : KitE K CT (.ref C_NoDocket) [("NoClerk", false)]) (ke_Endless : KitE K CT (.ref C_Endless) [("NoClerk", false)]) (ke_TooLong : KitE K CT (.ref C_TooLong) [("NoClerk", false)]) (ke_TooMany : KitE K CT (.ref C_TooMany) [("NoClerk", false)]) (ke_Unlike : KitE K CT (.ref C_Unlike) [("NoClerk", false)]) (ke_NoSum : KitE K CT (.ref C_NoSum) [("NoClerk", false)]) (ke_NoRow : KitE K CT (.ref C_NoRow) [("NoClerk", false)]) (ke_NoName : KitE K CT (.ref C_NoName) [("NoClerk", false)]) (ke_NoCount : KitE K CT (.ref C_NoCount) [("NoClerk", false)]) (ke_ValueError : KitE K CT (.type "ValueError") [("NoClerk", true)]) : FnOk P w K mg base CX0 1 f fd ["_law_e"] (SpD K CT false b_law_kinds) :=
    @fnV P w K mg base CT false "_law_kinds" "_law_kinds" s_law_kinds f fd dV ["_law_e", "_law_kinds_here"] ["_law_e"] 0 T_law_kinds F sc_law_kinds fun cdv A outer s H E G hr => 
      (dss_cons (ds_set (i := 1) sc_law_kinds.nd rfl (Or.inl l_law_kinds__law_kinds_here) (DF.de (df_lst (da_cons (de_isaE (vc := .ref C_NoShare) (uc := .ref C_NoShare) (pe_glob g_law_kinds_NoShare m_NoShare rfl) rfl ke_NoShare g_law_kinds_isinstance z_isinstance (DE.db (de_var 0 rfl (Or.inl l_law_kinds__law_e)))) (da_cons (de_isaE (vc := .ref C_NoClerk) (uc := .ref C_NoClerk) (pe_glob g_law_kinds_NoClerk m_NoClerk rfl) rfl ke_NoClerk g_law_kinds_isinstance z_isinstance (DE.db (de_var 0 rfl (Or.inl l_law_kinds__law_e)))) (da_cons (de_isaE (vc := .ref C_NoOffice) (uc := .ref C_NoOffice) (pe_glob g_law_kinds_NoOffice m_NoOffice rfl) rfl ke_NoOffice g_law_kinds_isinstance z_isinstance (DE.db (de_var 0 rfl (Or.inl l_law_kinds__law_e)))) (da_cons (de_isaE (vc := .ref C_NoText) (uc := .ref C_NoText) (pe_glob g_law_kinds_NoText m_NoText rfl) rfl ke_NoText g_law_kinds_isinstance z_isinstance (DE.db (de_var 0 rfl (Or.inl l_law_kinds__law_e)))) da_nil))))))) (dss_cons (ds_set (i := 1) sc_law_kinds.nd rfl (Or.inl l_law_kinds__law_kinds_here) (DF.de (df_cat (de_var 1 rfl (Or.inl l_law_kinds__law_kinds_here)) (DF.de (df_lst (da_cons (de_isaE (vc := .ref C_NoDocket) (uc := .ref C_NoDocket) (pe_glob g_law_kinds_NoDocket m_NoDocket rfl) rfl ke_NoDocket g_law_kinds_isinstance z_isinstance (DE.db (de_var 0 rfl (Or.inl l_law_kinds__law_e)))) (da_cons (de_isaE (vc := .ref C_Endless) (uc := .ref C_Endless) (pe_glob g_law_kinds_Endless m_Endless rfl) rfl ke_Endless g_law_kinds_isinstance z_isinstance (DE.db (de_var 0 rfl (Or.inl l_law_kinds__law_e)))) (da_cons (de_isaE (vc := .ref C_TooLong) (uc := .ref C_TooLong) (pe_glob g_law_kinds_TooLong m_TooLong rfl) rfl ke_TooLong g_law_kinds_isinstance z_isinstance (DE.db (de_var 0 rfl (Or.inl l_law_kinds__law_e)))) (da_cons (de_isaE (vc := .ref C_TooMany) (uc := .ref C_TooMany) (pe_glob g_law_kinds_TooMany m_TooMany rfl) rfl ke_TooMany g_law_kinds_isinstance z_isinstance (DE.db (de_var 0 rfl (Or.inl l_law_kinds__law_e)))) da_nil))))))))) (dss_cons (ds_set (i := 1) sc_law_kinds.nd rfl (Or.inl l_law_kinds__law_kinds_here) (DF.de (df_cat (de_var 1 rfl (Or.inl l_law_kinds__law_kinds_here)) (DF.de (df_lst (da_cons (de_isaE (vc := .ref C_Unlike) (uc := .ref C_Unlike) (pe_glob g_law_kinds_Unlike m_Unlike rfl) rfl ke_Unlike g_law_kinds_isinstance z_isinstance (DE.db (de_var 0 rfl (Or.inl l_law_kinds__law_e)))) (da_cons (de_isaE (vc := .ref C_NoSum) (uc := .ref C_NoSum) (pe_glob g_law_kinds_NoSum m_NoSum rfl) rfl ke_NoSum g_law_kinds_isinstance z_isinstance (DE.db (de_var 0 rfl (Or.inl l_law_kinds__law_e)))) (da_cons (de_isaE (vc := .ref C_NoRow) (uc := .ref C_NoRow) (pe_glob g_law_kinds_NoRow m_NoRow rfl) rfl ke_NoRow g_law_kinds_isinstance z_isinstance (DE.db (de_var 0 rfl (Or.inl l_law_kinds__law_e)))) (da_cons (de_isaE (vc := .ref C_NoName) (uc := .ref C_NoName) (pe_glob g_law_kinds_NoName m_NoName rfl) rfl ke_NoName g_law_kinds_isinstance z_isinstance (DE.db (de_var 0 rfl (Or.inl l_law_kinds__law_e)))) da_nil))))))))) (dss_cons (ds_set (i := 1) sc_law_kinds.nd rfl (Or.inl l_law_kinds__law_kinds_here) (DF.de (df_cat (de_var 1 rfl (Or.inl l_law_kinds__law_kinds_here)) (DF.de (df_lst (da_cons (de_isaE (vc := .ref C_NoCount) (uc := .ref C_NoCount) (pe_glob g_law_kinds_NoCount m_NoCount rfl) rfl ke_NoCount g_law_kinds_isinstance z_isinstance (DE.db (de_var 0 rfl (Or.inl l_law_kinds__law_e)))) da_nil)))))) (dss_cons (ds_if (DW.dt (dw_or (dt_not (dt_val (de_isaE (vc := .ty "ValueError") (uc := .type "ValueError") (pe_bltn g_law_kinds_ValueError z_ValueError PyProof.Rows.Boot.«ValueError» rfl) rfl ke_ValueError g_law_kinds_isinstance z_isinstance (DE.db (de_var 0 rfl (Or.inl l_law_kinds__law_e)))))) (dw_or1 (dt_ne hr.units (DE.db (de_count (de_var 1 rfl (Or.inl l_law_kinds__law_kinds_here)) de_bl)) (DE.db de_int))))) (dss_one (ds_ret (de_neg (DE.db de_int)))) dss_nil) (dss_one (ds_ret (de_index (de_var 1 rfl (Or.inl l_law_kinds__law_kinds_here)) de_bl))))))))
theorem dM_law_kinds {P : Program} {w : World} {K : PySem.W.Frag} {mg : Str → Option Value} {base : Heap} {CT : CTab} {f : Addr} {fd : FuncData} {dV : Value} {C_NoShare : Addr} {C_NoClerk : Addr} {C_NoOffice : Addr} {C_NoText : Addr} {C_NoDocket : Addr} {C_Endless : Addr} {C_TooLong : Addr} {C_TooMany : Addr} {C_Unlike : Addr} {C_NoSum : Addr} {C_NoRow : Addr} {C_NoName : Addr} {C_NoCount : Addr} (F : FunV K "_law_kinds" "_law_kinds" s_law_kinds f fd dV) (z_isinstance : mg "isinstance" = none) (z_ValueError : mg "ValueError" = none) (m_NoShare : mg "NoShare" = some (.ref C_NoShare)) (m_NoClerk : mg "NoClerk" = some (.ref C_NoClerk)) (t_NoClerk : CT "NoClerk" = some C_NoClerk) (x_NoClerk : XIn K C_NoClerk) (m_NoOffice : mg "NoOffice" = some (.ref C_NoOffice)) (m_NoText : mg "NoText" = some (.ref C_NoText)) (m_NoDocket : mg "NoDocket" = some (.ref C_NoDocket)) (m_Endless : mg "Endless" = some (.ref C_Endless)) (m_TooLong : mg "TooLong" = some (.ref C_TooLong)) (m_TooMany : mg "TooMany" = some (.ref C_TooMany)) (m_Unlike : mg "Unlike" = some (.ref C_Unlike)) (m_NoSum : mg "NoSum" = some (.ref C_NoSum)) (m_NoRow : mg "NoRow" = some (.ref C_NoRow)) (m_NoName : mg "NoName" = some (.ref C_NoName)) (m_NoCount : mg "NoCount" = some (.ref C_NoCount)) (ke_NoShare : KitE K CT (.ref C_NoShare) [("NoClerk", false)]) (ke_NoClerk : KitE K CT (.ref C_NoClerk) [("NoClerk", true)]) (ke_NoOffice : KitE K CT (.ref C_NoOffice) [("NoClerk", false)]) (ke_NoText : KitE K CT (.ref C_NoText) [("NoClerk", false)]) (ke_NoDocket : KitE K CT (.ref C_NoDocket) [("NoClerk", false)]) (ke_Endless : KitE K CT (.ref C_Endless) [("NoClerk", false)]) (ke_TooLong : KitE K CT (.ref C_TooLong) [("NoClerk", false)]) (ke_TooMany : KitE K CT (.ref C_TooMany) [("NoClerk", false)]) (ke_Unlike : KitE K CT (.ref C_Unlike) [("NoClerk", false)]) (ke_NoSum : KitE K CT (.ref C_NoSum) [("NoClerk", false)]) (ke_NoRow : KitE K CT (.ref C_NoRow) [("NoClerk", false)]) (ke_NoName : KitE K CT (.ref C_NoName) [("NoClerk", false)]) (ke_NoCount : KitE K CT (.ref C_NoCount) [("NoClerk", false)]) (ke_ValueError : KitE K CT (.type "ValueError") [("NoClerk", true)]) : FnM P w K mg base 1 f fd ["_law_e"] (SpD K CT false b_law_kinds) :=
    @fnM P w K mg base CT "_law_kinds" "_law_kinds" s_law_kinds f fd dV ["_law_e", "_law_kinds_here"] ["_law_e"] 0 T_law_kinds F sc_law_kinds fun cdv A outer s H E G ea hr => 
      (dss_cons (ds_set (i := 1) sc_law_kinds.nd rfl (Or.inl l_law_kinds__law_kinds_here) (DF.de (df_lst (da_cons (de_isaE (vc := .ref C_NoShare) (uc := .ref C_NoShare) (pe_glob g_law_kinds_NoShare m_NoShare rfl) rfl ke_NoShare g_law_kinds_isinstance z_isinstance (DE.db (de_var 0 rfl (Or.inl l_law_kinds__law_e)))) (da_cons (de_isaE (vc := .ref C_NoClerk) (uc := .ref C_NoClerk) (pe_glob g_law_kinds_NoClerk m_NoClerk rfl) rfl ke_NoClerk g_law_kinds_isinstance z_isinstance (DE.db (de_var 0 rfl (Or.inl l_law_kinds__law_e)))) (da_cons (de_isaE (vc := .ref C_NoOffice) (uc := .ref C_NoOffice) (pe_glob g_law_kinds_NoOffice m_NoOffice rfl) rfl ke_NoOffice g_law_kinds_isinstance z_isinstance (DE.db (de_var 0 rfl (Or.inl l_law_kinds__law_e)))) (da_cons (de_isaE (vc := .ref C_NoText) (uc := .ref C_NoText) (pe_glob g_law_kinds_NoText m_NoText rfl) rfl ke_NoText g_law_kinds_isinstance z_isinstance (DE.db (de_var 0 rfl (Or.inl l_law_kinds__law_e)))) da_nil))))))) (dss_cons (ds_set (i := 1) sc_law_kinds.nd rfl (Or.inl l_law_kinds__law_kinds_here) (DF.de (df_cat (de_var 1 rfl (Or.inl l_law_kinds__law_kinds_here)) (DF.de (df_lst (da_cons (de_isaE (vc := .ref C_NoDocket) (uc := .ref C_NoDocket) (pe_glob g_law_kinds_NoDocket m_NoDocket rfl) rfl ke_NoDocket g_law_kinds_isinstance z_isinstance (DE.db (de_var 0 rfl (Or.inl l_law_kinds__law_e)))) (da_cons (de_isaE (vc := .ref C_Endless) (uc := .ref C_Endless) (pe_glob g_law_kinds_Endless m_Endless rfl) rfl ke_Endless g_law_kinds_isinstance z_isinstance (DE.db (de_var 0 rfl (Or.inl l_law_kinds__law_e)))) (da_cons (de_isaE (vc := .ref C_TooLong) (uc := .ref C_TooLong) (pe_glob g_law_kinds_TooLong m_TooLong rfl) rfl ke_TooLong g_law_kinds_isinstance z_isinstance (DE.db (de_var 0 rfl (Or.inl l_law_kinds__law_e)))) (da_cons (de_isaE (vc := .ref C_TooMany) (uc := .ref C_TooMany) (pe_glob g_law_kinds_TooMany m_TooMany rfl) rfl ke_TooMany g_law_kinds_isinstance z_isinstance (DE.db (de_var 0 rfl (Or.inl l_law_kinds__law_e)))) da_nil))))))))) (dss_cons (ds_set (i := 1) sc_law_kinds.nd rfl (Or.inl l_law_kinds__law_kinds_here) (DF.de (df_cat (de_var 1 rfl (Or.inl l_law_kinds__law_kinds_here)) (DF.de (df_lst (da_cons (de_isaE (vc := .ref C_Unlike) (uc := .ref C_Unlike) (pe_glob g_law_kinds_Unlike m_Unlike rfl) rfl ke_Unlike g_law_kinds_isinstance z_isinstance (DE.db (de_var 0 rfl (Or.inl l_law_kinds__law_e)))) (da_cons (de_isaE (vc := .ref C_NoSum) (uc := .ref C_NoSum) (pe_glob g_law_kinds_NoSum m_NoSum rfl) rfl ke_NoSum g_law_kinds_isinstance z_isinstance (DE.db (de_var 0 rfl (Or.inl l_law_kinds__law_e)))) (da_cons (de_isaE (vc := .ref C_NoRow) (uc := .ref C_NoRow) (pe_glob g_law_kinds_NoRow m_NoRow rfl) rfl ke_NoRow g_law_kinds_isinstance z_isinstance (DE.db (de_var 0 rfl (Or.inl l_law_kinds__law_e)))) (da_cons (de_isaE (vc := .ref C_NoName) (uc := .ref C_NoName) (pe_glob g_law_kinds_NoName m_NoName rfl) rfl ke_NoName g_law_kinds_isinstance z_isinstance (DE.db (de_var 0 rfl (Or.inl l_law_kinds__law_e)))) da_nil))))))))) (dss_cons (ds_set (i := 1) sc_law_kinds.nd rfl (Or.inl l_law_kinds__law_kinds_here) (DF.de (df_cat (de_var 1 rfl (Or.inl l_law_kinds__law_kinds_here)) (DF.de (df_lst (da_cons (de_isaE (vc := .ref C_NoCount) (uc := .ref C_NoCount) (pe_glob g_law_kinds_NoCount m_NoCount rfl) rfl ke_NoCount g_law_kinds_isinstance z_isinstance (DE.db (de_var 0 rfl (Or.inl l_law_kinds__law_e)))) da_nil)))))) (dss_cons (ds_if (DW.dt (dw_or (dt_not (dt_val (de_isaE (vc := .ty "ValueError") (uc := .type "ValueError") (pe_bltn g_law_kinds_ValueError z_ValueError PyProof.Rows.Boot.«ValueError» rfl) rfl ke_ValueError g_law_kinds_isinstance z_isinstance (DE.db (de_var 0 rfl (Or.inl l_law_kinds__law_e)))))) (dw_or1 (dt_ne hr.units (DE.db (de_count (de_var 1 rfl (Or.inl l_law_kinds__law_kinds_here)) de_bl)) (DE.db de_int))))) (dss_one (ds_ret (de_neg (DE.db de_int)))) dss_nil) (dss_one (ds_ret (de_index (de_var 1 rfl (Or.inl l_law_kinds__law_kinds_here)) de_bl))))))))
abbrev s_Clerk_period : Stmt := inCls (top 25) 2
theorem sc_Clerk_period : FnScope ["self"] ["self"] (defScope s_Clerk_period) := ⟨rfl, rfl, rfl, by decide +kernel, rfl, by decide +kernel, by decide +kernel⟩
theorem l_Clerk_period_self : (defScope s_Clerk_period).names.lookup ("self" : Str) = some NameKind.local := by decide +kernel
theorem g_Clerk_period_len : (defScope s_Clerk_period).names.lookup ("len" : Str) = some NameKind.globalImplicit := by decide +kernel
noncomputable def T_Clerk_period : SD → Out Fl := (sRet (eA fLen (aCons (e1 (dFld cls_all "table") (eVar 0)) aNil)))
noncomputable def b_Clerk_period : List D → Out D := bodyF false 1 1 T_Clerk_period
theorem u_Clerk_period (d0 : D) : b_Clerk_period [d0] = (T_Clerk_period [some (.k, d0)] >>= retF false) := rfl
theorem d_Clerk_period {P : Program} {w : World} {K : PySem.W.Frag} {mg : Str → Option Value} {base : Heap} {CT : CTab} {f : Addr} {fd : FuncData} {dV : Value} (F : FunV K "period" "Clerk.period" s_Clerk_period f fd dV) (z_len : mg "len" = none) (fo_table : FldOk K CT cls_all "table") : FnOk P w K mg base CX0 1 f fd ["self"] (SpD K CT false b_Clerk_period) :=
    @fnV P w K mg base CT false "period" "Clerk.period" s_Clerk_period f fd dV ["self"] ["self"] 0 T_Clerk_period F sc_Clerk_period fun cdv A outer s H E G hr => 
      (dss_one (ds_ret (de_len g_Clerk_period_len z_len (dab_cons (DE.db (de_fld fo_table (de_var 0 rfl (Or.inl l_Clerk_period_self)))) dab_nil))))
abbrev s_Clerk_outs : Stmt := inCls (top 25) 3
theorem sc_Clerk_outs : FnScope ["self"] ["self"] (defScope s_Clerk_outs) := ⟨rfl, rfl, rfl, by decide +kernel, rfl, by decide +kernel, by decide +kernel⟩
theorem l_Clerk_outs_self : (defScope s_Clerk_outs).names.lookup ("self" : Str) = some NameKind.local := by decide +kernel
theorem g_Clerk_outs_len : (defScope s_Clerk_outs).names.lookup ("len" : Str) = some NameKind.globalImplicit := by decide +kernel
noncomputable def T_Clerk_outs : SD → Out Fl := (sRet (eA fLen (aCons (e2 dIx (e1 (dFld cls_all "table") (eVar 0)) (eC (.int 0))) aNil)))
noncomputable def b_Clerk_outs : List D → Out D := bodyF false 1 1 T_Clerk_outs
theorem u_Clerk_outs (d0 : D) : b_Clerk_outs [d0] = (T_Clerk_outs [some (.k, d0)] >>= retF false) := rfl
theorem d_Clerk_outs {P : Program} {w : World} {K : PySem.W.Frag} {mg : Str → Option Value} {base : Heap} {CT : CTab} {f : Addr} {fd : FuncData} {dV : Value} (F : FunV K "outs" "Clerk.outs" s_Clerk_outs f fd dV) (z_len : mg "len" = none) (fo_table : FldOk K CT cls_all "table") : FnOk P w K mg base CX0 1 f fd ["self"] (SpD K CT false b_Clerk_outs) :=
    @fnV P w K mg base CT false "outs" "Clerk.outs" s_Clerk_outs f fd dV ["self"] ["self"] 0 T_Clerk_outs F sc_Clerk_outs fun cdv A outer s H E G hr => 
      (dss_one (ds_ret (de_len g_Clerk_outs_len z_len (dab_cons (DE.db (de_ix (de_fld fo_table (de_var 0 rfl (Or.inl l_Clerk_outs_self))) (DE.db de_int))) dab_nil))))
abbrev s_law_found : Stmt := top 46
theorem sc_law_found : FnScope ["_law_thing_here", "_law_kind", "_law_clerk", "_law_told", "_law_e"] ["_law_thing_here", "_law_kind"] (defScope s_law_found) := ⟨rfl, rfl, rfl, by decide +kernel, rfl, by decide +kernel, by decide +kernel⟩
theorem l_law_found__law_clerk : (defScope s_law_found).names.lookup ("_law_clerk" : Str) = some NameKind.local := by decide +kernel
theorem l_law_found__law_told : (defScope s_law_found).names.lookup ("_law_told" : Str) = some NameKind.local := by decide +kernel
theorem l_law_found__law_thing_here : (defScope s_law_found).names.lookup ("_law_thing_here" : Str) = some NameKind.local := by decide +kernel
theorem l_law_found__law_kind : (defScope s_law_found).names.lookup ("_law_kind" : Str) = some NameKind.local := by decide +kernel
theorem g_law_found__law_made : (defScope s_law_found).names.lookup ("_law_made" : Str) = some NameKind.globalImplicit := by decide +kernel
theorem l_law_found__law_e : (defScope s_law_found).names.lookup ("_law_e" : Str) = some NameKind.local := by decide +kernel
theorem g_law_found__law_kinds : (defScope s_law_found).names.lookup ("_law_kinds" : Str) = some NameKind.globalImplicit := by decide +kernel
theorem g_law_found_HallError : (defScope s_law_found).names.lookup ("HallError" : Str) = some NameKind.globalImplicit := by decide +kernel
noncomputable def T_law_found : SD → Out Fl := (sSeq (sSet 2 (eC .non)) (sSeq (sSet 3 (e1 dNeg (eC (.int 2)))) (sSeq (sTry ["NoClerk"] 4 (xSet 2 (xCall (fun xs => b_law_made (xs ++ [])) (aCons (eVar 0) (aCons (eVar 1) aNil)))) (sSet 3 (eA (fun xs => b_law_kinds (xs ++ [])) (aCons (eVar 4) aNil)))) (sSeq (sIf (tVal (e2 dEq (eVar 3) (e1 dNeg (eC (.int 2))))) (sRet (eTup (aCons (eMeth cls_all "period" (fun _ => b_Clerk_period) (eVar 2) aNil) (aCons (eMeth cls_all "outs" (fun _ => b_Clerk_outs) (eVar 2) aNil) aNil)))) sNil) (sSeq (sIf (tVal (e2 dEq (eVar 3) (eC (.int 1)))) (sRet (eC .non)) sNil) (sRet (eTup aNil)))))))
noncomputable def b_law_found : List D → Out D := bodyF false 2 5 T_law_found
theorem u_law_found (d0 d1 : D) : b_law_found [d0, d1] = (T_law_found [some (.k, d0), some (.k, d1), none, none, none] >>= retF false) := rfl
theorem d_law_found {P : Program} {w : World} {K : PySem.W.Frag} {mg : Str → Option Value} {base : Heap} {CT : CTab} {f : Addr} {fd : FuncData} {dV : Value} {C_HallError : Addr} (F : FunV K "_law_found" "_law_found" s_law_found f fd dV) (h_law_made : DefX P w K mg base CT "_law_made" 7 true [] b_law_made) (hM_law_kinds : DefM P w K mg base CT "_law_kinds" 1 b_law_kinds) (m_HallError : mg "HallError" = some (.ref C_HallError)) (x_HallError : XIn K C_HallError) (hs_HallError : ∀ c ∈ (["NoClerk"] : List Str), ∃ Cc, CT c = some Cc ∧ PySem.W.subIn K (.ref Cc) (.ref C_HallError) = some true) (mt_period : MtOk P w K mg base CT CX0 "period" 1 cls_all (fun c => SpD K CT false ((fun _ => b_Clerk_period) c))) (mt_outs : MtOk P w K mg base CT CX0 "outs" 1 cls_all (fun c => SpD K CT false ((fun _ => b_Clerk_outs) c))) : FnOk P w K mg base CX0 8 f fd ["_law_thing_here", "_law_kind"] (SpD K CT false b_law_found) :=
    @fnV P w K mg base CT false "_law_found" "_law_found" s_law_found f fd dV ["_law_thing_here", "_law_kind", "_law_clerk", "_law_told", "_law_e"] ["_law_thing_here", "_law_kind"] 7 T_law_found F sc_law_found fun cdv A outer s H E G hr => 
      (dss_cons (ds_set (i := 2) sc_law_found.nd rfl (Or.inl l_law_found__law_clerk) de_non) (dss_cons (ds_set (i := 3) sc_law_found.nd rfl (Or.inl l_law_found__law_told) (de_neg (DE.db de_int))) (dss_cons (ds_try (cs := ["NoClerk"]) (i := 4) rfl rfl g_law_found_HallError m_HallError x_HallError hs_HallError sc_law_found.nd rfl l_law_found__law_e (dxss_one (dxs_set (i := 2) sc_law_found.nd rfl (Or.inl l_law_found__law_clerk) (dx_f h_law_made (hr.mono (by decide)) (da_cons (de_var 0 rfl (Or.inl l_law_found__law_thing_here)) (da_cons (de_var 1 rfl (Or.inl l_law_found__law_kind)) da_nil)) g_law_found__law_made))) (fun ea => (dss_one (ds_set (i := 3) sc_law_found.nd rfl (Or.inl l_law_found__law_told) (de_fM hM_law_kinds (hr.mono (by decide)) (da_cons (de_var 4 rfl (Or.inl l_law_found__law_e)) da_nil) g_law_found__law_kinds))))) (dss_cons (ds_if (dt_eq hr.units (DE.db (de_var 3 rfl (Or.inl l_law_found__law_told))) (DE.db (de_neg (DE.db de_int)))) (dss_one (ds_ret (de_tup (da_cons (de_meth0 mt_period (hr.mono (by decide)) (de_var 2 rfl (Or.inl l_law_found__law_clerk))) (da_cons (de_meth0 mt_outs (hr.mono (by decide)) (de_var 2 rfl (Or.inl l_law_found__law_clerk))) da_nil))))) dss_nil) (dss_cons (ds_if (dt_eq hr.units (DE.db (de_var 3 rfl (Or.inl l_law_found__law_told))) (DE.db de_int)) (dss_one (ds_ret de_non)) dss_nil) (dss_one (ds_ret (de_tup da_nil))))))))
abbrev s_law_whole : Stmt := top 36
theorem sc_law_whole : FnScope ["_law_found_here"] ["_law_found_here"] (defScope s_law_whole) := ⟨rfl, rfl, rfl, by decide +kernel, rfl, by decide +kernel, by decide +kernel⟩
theorem l_law_whole__law_found_here : (defScope s_law_whole).names.lookup ("_law_found_here" : Str) = some NameKind.local := by decide +kernel
theorem g_law_whole_int : (defScope s_law_whole).names.lookup ("int" : Str) = some NameKind.globalImplicit := by decide +kernel
theorem g_law_whole_isinstance : (defScope s_law_whole).names.lookup ("isinstance" : Str) = some NameKind.globalImplicit := by decide +kernel
theorem g_law_whole_bool : (defScope s_law_whole).names.lookup ("bool" : Str) = some NameKind.globalImplicit := by decide +kernel
noncomputable def T_law_whole : SD → Out Fl := (sRet (eAnd (eIsa (isaT "int") (eVar 0)) (eNot (eIsa (isaT "bool") (eVar 0)))))
noncomputable def b_law_whole : List D → Out D := bodyF false 1 1 T_law_whole
theorem u_law_whole (d0 : D) : b_law_whole [d0] = (T_law_whole [some (.k, d0)] >>= retF false) := rfl
theorem d_law_whole {P : Program} {w : World} {K : PySem.W.Frag} {mg : Str → Option Value} {base : Heap} {CT : CTab} {f : Addr} {fd : FuncData} {dV : Value} (F : FunV K "_law_whole" "_law_whole" s_law_whole f fd dV) (z_isinstance : mg "isinstance" = none) (z_int : mg "int" = none) (z_bool : mg "bool" = none) : FnOk P w K mg base CX0 1 f fd ["_law_found_here"] (SpD K CT false b_law_whole) :=
    @fnV P w K mg base CT false "_law_whole" "_law_whole" s_law_whole f fd dV ["_law_found_here"] ["_law_found_here"] 0 T_law_whole F sc_law_whole fun cdv A outer s H E G hr => 
      (dss_one (ds_ret (de_and (de_isaB "int" kit_int g_law_whole_int z_int PyProof.Rows.Boot.«int» g_law_whole_isinstance z_isinstance (DE.db (de_var 0 rfl (Or.inl l_law_whole__law_found_here)))) (de_one (de_not (de_isaB "bool" kit_bool g_law_whole_bool z_bool PyProof.Rows.Boot.«bool» g_law_whole_isinstance z_isinstance (DE.db (de_var 0 rfl (Or.inl l_law_whole__law_found_here)))))))))
abbrev s_law_is_row : Stmt := top 43
theorem sc_law_is_row : FnScope ["_law_thing_here", "_law_many"] ["_law_thing_here"] (defScope s_law_is_row) := ⟨rfl, rfl, rfl, by decide +kernel, rfl, by decide +kernel, by decide +kernel⟩
theorem l_law_is_row__law_thing_here : (defScope s_law_is_row).names.lookup ("_law_thing_here" : Str) = some NameKind.local := by decide +kernel
theorem g_law_is_row_list : (defScope s_law_is_row).names.lookup ("list" : Str) = some NameKind.globalImplicit := by decide +kernel
theorem g_law_is_row_isinstance : (defScope s_law_is_row).names.lookup ("isinstance" : Str) = some NameKind.globalImplicit := by decide +kernel
theorem g_law_is_row_len : (defScope s_law_is_row).names.lookup ("len" : Str) = some NameKind.globalImplicit := by decide +kernel
theorem l_law_is_row__law_many : (defScope s_law_is_row).names.lookup ("_law_many" : Str) = some NameKind.local := by decide +kernel
theorem g_law_is_row__law_whole : (defScope s_law_is_row).names.lookup ("_law_whole" : Str) = some NameKind.globalImplicit := by decide +kernel
noncomputable def L_law_is_row_0 : SD → Out Fl := (sIf (tOr' (tNot' (tVal (eA (fun xs => b_law_whole (xs ++ [])) (aCons (eVar 1) aNil)))) (tOr' (tVal (e2 dLt (eVar 1) (eC (.int 0)))) (tVal (e2 dGt (eVar 1) (eC (.int 9)))))) (sRet (eC (.bl false))) sNil)
noncomputable def T_law_is_row : SD → Out Fl := (sSeq (sIf (tOr' (tNot' (tVal (eIsa (isaT "list") (eVar 0)))) (tVal (e2 dGt (eA fLen (aCons (eVar 0) aNil)) (eC (.int 6))))) (sRet (eC (.bl false))) sNil) (sSeq (sFor (gN 1) (itL (eVar 0)) L_law_is_row_0) (sRet (eC (.bl true)))))
noncomputable def b_law_is_row : List D → Out D := bodyF false 1 2 T_law_is_row
theorem u_law_is_row (d0 : D) : b_law_is_row [d0] = (T_law_is_row [some (.k, d0), none] >>= retF false) := rfl
theorem d_law_is_row {P : Program} {w : World} {K : PySem.W.Frag} {mg : Str → Option Value} {base : Heap} {CT : CTab} {f : Addr} {fd : FuncData} {dV : Value} (F : FunV K "_law_is_row" "_law_is_row" s_law_is_row f fd dV) (h_law_whole : DefOk P w K mg base CT "_law_whole" 1 false [] b_law_whole) (z_isinstance : mg "isinstance" = none) (z_list : mg "list" = none) (z_len : mg "len" = none) : FnOk P w K mg base CX0 2 f fd ["_law_thing_here"] (SpD K CT false b_law_is_row) :=
    @fnV P w K mg base CT false "_law_is_row" "_law_is_row" s_law_is_row f fd dV ["_law_thing_here", "_law_many"] ["_law_thing_here"] 1 T_law_is_row F sc_law_is_row fun cdv A outer s H E G hr => 
      (dss_cons (ds_if (DW.dt (dw_or (dt_not (dt_val (de_isaB "list" kit_list g_law_is_row_list z_list PyProof.Rows.Boot.«list» g_law_is_row_isinstance z_isinstance (DE.db (de_var 0 rfl (Or.inl l_law_is_row__law_thing_here)))))) (dw_or1 (dt_gt (DE.db (de_len g_law_is_row_len z_len (dab_cons (DE.db (de_var 0 rfl (Or.inl l_law_is_row__law_thing_here))) dab_nil))) (DE.db de_int))))) (dss_one (ds_ret de_bl)) dss_nil) (dss_cons (ds_forI PassesOwn.never rfl (di_list (de_var 0 rfl (Or.inl l_law_is_row__law_thing_here))) (dg_name (i := 1) sc_law_is_row.nd rfl (Or.inl l_law_is_row__law_many)) (noExc_gN _) (dss_one (ds_if (DW.dt (dw_or (dt_not (dt_val (de_f h_law_whole (hr.mono (by decide)) (da_cons (de_var 1 rfl (Or.inl l_law_is_row__law_many)) da_nil) g_law_is_row__law_whole))) (dw_or (dt_lt (DE.db (de_var 1 rfl (Or.inl l_law_is_row__law_many))) (DE.db de_int)) (dw_or1 (dt_gt (DE.db (de_var 1 rfl (Or.inl l_law_is_row__law_many))) (DE.db de_int)))))) (dss_one (ds_ret de_bl)) dss_nil))) (dss_one (ds_ret de_bl))))
abbrev s_law_due : Stmt := top 44
theorem sc_law_due : FnScope ["_law_thing_here", "_law_kind", "_law_row"] ["_law_thing_here", "_law_kind"] (defScope s_law_due) := ⟨rfl, rfl, rfl, by decide +kernel, rfl, by decide +kernel, by decide +kernel⟩
theorem l_law_due__law_kind : (defScope s_law_due).names.lookup ("_law_kind" : Str) = some NameKind.local := by decide +kernel
theorem l_law_due__law_thing_here : (defScope s_law_due).names.lookup ("_law_thing_here" : Str) = some NameKind.local := by decide +kernel
theorem g_law_due__law_whole : (defScope s_law_due).names.lookup ("_law_whole" : Str) = some NameKind.globalImplicit := by decide +kernel
theorem g_law_due__law_is_row : (defScope s_law_due).names.lookup ("_law_is_row" : Str) = some NameKind.globalImplicit := by decide +kernel
theorem g_law_due_len : (defScope s_law_due).names.lookup ("len" : Str) = some NameKind.globalImplicit := by decide +kernel
theorem g_law_due_list : (defScope s_law_due).names.lookup ("list" : Str) = some NameKind.globalImplicit := by decide +kernel
theorem g_law_due_isinstance : (defScope s_law_due).names.lookup ("isinstance" : Str) = some NameKind.globalImplicit := by decide +kernel
theorem l_law_due__law_row : (defScope s_law_due).names.lookup ("_law_row" : Str) = some NameKind.local := by decide +kernel
noncomputable def L_law_due_0 : SD → Out Fl := (sIf (tOr' (tNot' (tVal (eA (fun xs => b_law_is_row (xs ++ [])) (aCons (eVar 2) aNil)))) (tVal (e2 dNe (eA fLen (aCons (eVar 2) aNil)) (eA fLen (aCons (e2 dIx (eVar 0) (eC (.int 0))) aNil))))) (sRet (eC .non)) sNil)
noncomputable def T_law_due : SD → Out Fl := (sSeq (sIf (tVal (e2 dLt (eVar 1) (eC (.int 2)))) (sSeq (sIf (tOr' (tNot' (tVal (eA (fun xs => b_law_whole (xs ++ [])) (aCons (eVar 0) aNil)))) (tOr' (tVal (e2 dLt (eVar 0) (eC (.int 1)))) (tVal (e2 dGt (eVar 0) (e2 dIx (eLst (aCons (eC (.int 6)) (aCons (eC (.int 12)) aNil))) (eVar 1)))))) (sRet (eC .non)) sNil) (sRet (e2 dIx (eLst (aCons (eTup (aCons (eVar 0) (aCons (eVar 0) aNil))) (aCons (eTup (aCons (eVar 0) (aCons (eC (.int 1)) aNil))) aNil))) (eVar 1)))) sNil) (sSeq (sIf (tVal (e2 dEq (eVar 1) (eC (.int 2)))) (sSeq (sIf (tNot' (tVal (eA (fun xs => b_law_is_row (xs ++ [])) (aCons (eVar 0) aNil)))) (sRet (eC .non)) sNil) (sRet (eTup (aCons (eC (.int 1)) (aCons (eA fLen (aCons (eVar 0) aNil)) aNil))))) sNil) (sSeq (sIf (tOr' (tNot' (tVal (eIsa (isaT "list") (eVar 0)))) (tOr' (tVal (e2 dLt (eA fLen (aCons (eVar 0) aNil)) (eC (.int 1)))) (tVal (e2 dGt (eA fLen (aCons (eVar 0) aNil)) (eC (.int 12)))))) (sRet (eC .non)) sNil) (sSeq (sFor (gN 2) (itL (eVar 0)) L_law_due_0) (sRet (eTup (aCons (eA fLen (aCons (eVar 0) aNil)) (aCons (eA fLen (aCons (e2 dIx (eVar 0) (eC (.int 0))) aNil)) aNil))))))))
noncomputable def b_law_due : List D → Out D := bodyF false 2 3 T_law_due
theorem u_law_due (d0 d1 : D) : b_law_due [d0, d1] = (T_law_due [some (.k, d0), some (.k, d1), none] >>= retF false) := rfl
theorem d_law_due {P : Program} {w : World} {K : PySem.W.Frag} {mg : Str → Option Value} {base : Heap} {CT : CTab} {f : Addr} {fd : FuncData} {dV : Value} (F : FunV K "_law_due" "_law_due" s_law_due f fd dV) (h_law_whole : DefOk P w K mg base CT "_law_whole" 1 false [] b_law_whole) (h_law_is_row : DefOk P w K mg base CT "_law_is_row" 2 false [] b_law_is_row) (z_len : mg "len" = none) (z_isinstance : mg "isinstance" = none) (z_list : mg "list" = none) : FnOk P w K mg base CX0 3 f fd ["_law_thing_here", "_law_kind"] (SpD K CT false b_law_due) :=
    @fnV P w K mg base CT false "_law_due" "_law_due" s_law_due f fd dV ["_law_thing_here", "_law_kind", "_law_row"] ["_law_thing_here", "_law_kind"] 2 T_law_due F sc_law_due fun cdv A outer s H E G hr => 
      (dss_cons (ds_if (dt_lt (DE.db (de_var 1 rfl (Or.inl l_law_due__law_kind))) (DE.db de_int)) (dss_cons (ds_if (DW.dt (dw_or (dt_not (dt_val (de_f h_law_whole (hr.mono (by decide)) (da_cons (de_var 0 rfl (Or.inl l_law_due__law_thing_here)) da_nil) g_law_due__law_whole))) (dw_or (dt_lt (DE.db (de_var 0 rfl (Or.inl l_law_due__law_thing_here))) (DE.db de_int)) (dw_or1 (dt_gt (DE.db (de_var 0 rfl (Or.inl l_law_due__law_thing_here))) (DE.db (de_ix (DF.de (df_lst (da_cons de_int (da_cons de_int da_nil)))) (DE.db (de_var 1 rfl (Or.inl l_law_due__law_kind)))))))))) (dss_one (ds_ret de_non)) dss_nil) (dss_one (ds_ret (de_ix (DF.de (df_lst (da_cons (de_tup (da_cons (de_var 0 rfl (Or.inl l_law_due__law_thing_here)) (da_cons (de_var 0 rfl (Or.inl l_law_due__law_thing_here)) da_nil))) (da_cons (de_tup (da_cons (de_var 0 rfl (Or.inl l_law_due__law_thing_here)) (da_cons de_int da_nil))) da_nil)))) (DE.db (de_var 1 rfl (Or.inl l_law_due__law_kind))))))) dss_nil) (dss_cons (ds_if (dt_eq hr.units (DE.db (de_var 1 rfl (Or.inl l_law_due__law_kind))) (DE.db de_int)) (dss_cons (ds_if (dt_not (dt_val (de_f h_law_is_row (hr.mono (by decide)) (da_cons (de_var 0 rfl (Or.inl l_law_due__law_thing_here)) da_nil) g_law_due__law_is_row))) (dss_one (ds_ret de_non)) dss_nil) (dss_one (ds_ret (de_tup (da_cons de_int (da_cons (de_len g_law_due_len z_len (dab_cons (DE.db (de_var 0 rfl (Or.inl l_law_due__law_thing_here))) dab_nil)) da_nil)))))) dss_nil) (dss_cons (ds_if (DW.dt (dw_or (dt_not (dt_val (de_isaB "list" kit_list g_law_due_list z_list PyProof.Rows.Boot.«list» g_law_due_isinstance z_isinstance (DE.db (de_var 0 rfl (Or.inl l_law_due__law_thing_here)))))) (dw_or (dt_lt (DE.db (de_len g_law_due_len z_len (dab_cons (DE.db (de_var 0 rfl (Or.inl l_law_due__law_thing_here))) dab_nil))) (DE.db de_int)) (dw_or1 (dt_gt (DE.db (de_len g_law_due_len z_len (dab_cons (DE.db (de_var 0 rfl (Or.inl l_law_due__law_thing_here))) dab_nil))) (DE.db de_int)))))) (dss_one (ds_ret de_non)) dss_nil) (dss_cons (ds_forI PassesOwn.never rfl (di_list (de_var 0 rfl (Or.inl l_law_due__law_thing_here))) (dg_name (i := 2) sc_law_due.nd rfl (Or.inl l_law_due__law_row)) (noExc_gN _) (dss_one (ds_if (DW.dt (dw_or (dt_not (dt_val (de_f h_law_is_row (hr.mono (by decide)) (da_cons (de_var 2 rfl (Or.inl l_law_due__law_row)) da_nil) g_law_due__law_is_row))) (dw_or1 (dt_ne hr.units (DE.db (de_len g_law_due_len z_len (dab_cons (DE.db (de_var 2 rfl (Or.inl l_law_due__law_row))) dab_nil))) (DE.db (de_len g_law_due_len z_len (dab_cons (DE.db (de_ix (de_var 0 rfl (Or.inl l_law_due__law_thing_here)) (DE.db de_int))) dab_nil))))))) (dss_one (ds_ret de_non)) dss_nil))) (dss_one (ds_ret (de_tup (da_cons (de_len g_law_due_len z_len (dab_cons (DE.db (de_var 0 rfl (Or.inl l_law_due__law_thing_here))) dab_nil)) (da_cons (de_len g_law_due_len z_len (dab_cons (DE.db (de_ix (de_var 0 rfl (Or.inl l_law_due__law_thing_here)) (DE.db de_int))) dab_nil)) da_nil)))))))))
abbrev s_law : Stmt := top 47
theorem sc_law : FnScope ["_law_script", "_law_cell", "_law_kind", "_law_thing_here"] ["_law_script"] (defScope s_law) := ⟨rfl, rfl, rfl, by decide +kernel, rfl, by decide +kernel, by decide +kernel⟩
theorem l_law__law_script : (defScope s_law).names.lookup ("_law_script" : Str) = some NameKind.local := by decide +kernel
theorem l_law__law_cell : (defScope s_law).names.lookup ("_law_cell" : Str) = some NameKind.local := by decide +kernel
theorem g_law_range : (defScope s_law).names.lookup ("range" : Str) = some NameKind.globalImplicit := by decide +kernel
theorem l_law__law_kind : (defScope s_law).names.lookup ("_law_kind" : Str) = some NameKind.local := by decide +kernel
theorem g_law__law_thing : (defScope s_law).names.lookup ("_law_thing" : Str) = some NameKind.globalImplicit := by decide +kernel
theorem l_law__law_thing_here : (defScope s_law).names.lookup ("_law_thing_here" : Str) = some NameKind.local := by decide +kernel
theorem g_law__law_found : (defScope s_law).names.lookup ("_law_found" : Str) = some NameKind.globalImplicit := by decide +kernel
theorem g_law__law_due : (defScope s_law).names.lookup ("_law_due" : Str) = some NameKind.globalImplicit := by decide +kernel
noncomputable def L_law_0 : SD → Out Fl := (sSeq (sSet 3 (eA (fun xs => b_law_thing (xs ++ [])) (aCons (eVar 1) (aCons (eVar 2) aNil)))) (sIf (tVal (e2 dNe (eA (fun xs => b_law_found (xs ++ [])) (aCons (eVar 3) (aCons (eVar 2) aNil))) (eA (fun xs => b_law_due (xs ++ [])) (aCons (eVar 3) (aCons (eVar 2) aNil))))) (sRet (eC (.bl false))) sNil))
noncomputable def L_law_1 : SD → Out Fl := (sFor (gN 2) (itR1 (eC (.int 4))) L_law_0)
noncomputable def T_law : SD → Out Fl := (sSeq (sFor (gN 1) (itL (e2 dCat (eLst (aCons (eC (.int 0)) (aCons (eC (.int 1)) aNil))) (eSl (eVar 0) oNo (oSome (eC (.int 42)))))) L_law_1) (sRet (eC (.bl true))))
noncomputable def b_law : List D → Out D := bodyF false 1 4 T_law
theorem u_law (d0 : D) : b_law [d0] = (T_law [some (.k, d0), none, none, none] >>= retF false) := rfl
theorem d_law {P : Program} {w : World} {K : PySem.W.Frag} {mg : Str → Option Value} {base : Heap} {CT : CTab} {f : Addr} {fd : FuncData} {dV : Value} (F : FunV K "law" "law" s_law f fd dV) (h_law_thing : DefOk P w K mg base CT "_law_thing" 5 false [] b_law_thing) (h_law_found : DefOk P w K mg base CT "_law_found" 8 false [] b_law_found) (h_law_due : DefOk P w K mg base CT "_law_due" 3 false [] b_law_due) (z_range : mg "range" = none) : FnOk P w K mg base CX0 9 f fd ["_law_script"] (SpD K CT false b_law) :=
    @fnV P w K mg base CT false "law" "law" s_law f fd dV ["_law_script", "_law_cell", "_law_kind", "_law_thing_here"] ["_law_script"] 8 T_law F sc_law fun cdv A outer s H E G hr => 
      (dss_cons (ds_forI PassesOwn.never rfl (di_list (DF.de (df_cat (DF.de (df_lst (da_cons de_int (da_cons de_int da_nil)))) (DF.de (df_sl (de_var 0 rfl (Or.inl l_law__law_script)) do_none (do_some (DE.db de_int))))))) (dg_name (i := 1) sc_law.nd rfl (Or.inl l_law__law_cell)) (noExc_gN _) (dss_one (ds_forI PassesOwn.never rfl (di_range1 g_law_range z_range (DE.db de_int)) (dg_name (i := 2) sc_law.nd rfl (Or.inl l_law__law_kind)) (noExc_gN _) (dss_cons (ds_set (i := 3) sc_law.nd rfl (Or.inl l_law__law_thing_here) (de_f h_law_thing (hr.mono (by decide)) (da_cons (de_var 1 rfl (Or.inl l_law__law_cell)) (da_cons (de_var 2 rfl (Or.inl l_law__law_kind)) da_nil)) g_law__law_thing)) (dss_one (ds_if (dt_ne hr.units (DE.db (de_f h_law_found (hr.mono (by decide)) (da_cons (de_var 3 rfl (Or.inl l_law__law_thing_here)) (da_cons (de_var 2 rfl (Or.inl l_law__law_kind)) da_nil)) g_law__law_found)) (DE.db (de_f h_law_due (hr.mono (by decide)) (da_cons (de_var 3 rfl (Or.inl l_law__law_thing_here)) (da_cons (de_var 2 rfl (Or.inl l_law__law_kind)) da_nil)) g_law__law_due))) (dss_one (ds_ret de_bl)) dss_nil)))))) (dss_one (ds_ret de_bl)))
end My
set_option Elab.async false
set_option linter.all false
set_option maxRecDepth 100000
set_option maxHeartbeats 4000000
set_option exponentiation.threshold 20000
namespace My
open PySem PySem.Spec L2 DL
local macro_rules | `(tactic| walk_at "g") => `(tactic| ((repeat (first | exact l_get0 | apply l_getS)); done))
local macro_rules | `(tactic| walk_at "s") => `(tactic| repeat (first | exact l_set0 | apply l_setS))
local macro_rules | `(tactic| walk_at "all") => `(tactic| repeat (first | with_reducible exact r_setAllN | (apply r_setAllC; focus walk_at "s")))
local macro_rules | `(tactic| walk_at "cap") => `(tactic| repeat (first | exact c_nil | apply c_none | (apply c_k; focus walk_at "g") | (apply c_o; focus walk_at "g") | (apply c_l; focus walk_at "g") | (apply c_s; focus walk_at "g")))
local macro_rules | `(tactic| walk_at "b") => `(tactic| first | rfl | with_reducible assumption | (simp only [Bool.not_eq_true', Bool.not_eq_false', decide_eq_true_eq, decide_eq_false_iff_not, Bool.not_true, Bool.not_false]; first | with_reducible assumption | omega) | (simp; done))
local macro_rules | `(tactic| walk_at "p") => `(tactic| first | decide | with_reducible assumption | omega)
local macro_rules | `(tactic| walk_at "l") => `(tactic| first | decide | with_reducible assumption | (simp only [List.length_map, List.length_cons, List.length_nil, List.length_range, List.length_append]; omega) | omega | (simp; omega))
local macro_rules | `(tactic| walk_at "e") => `(tactic| first
  | ((with_reducible apply r_id); with_reducible assumption)
  | with_reducible exact r_okR | with_reducible exact r_look0
  | with_reducible apply r_var | with_reducible apply r_varB | with_reducible exact r_C | with_reducible exact r_nil | with_reducible exact r_oNo | with_reducible exact r_sNil | with_reducible exact r_thenR
  | with_reducible exact dAdd_int _ _ | with_reducible exact dSub_int _ _ | with_reducible exact dNeg_int _ | with_reducible exact dAbs_int _ | with_reducible exact dLt_int _ _ | with_reducible exact dLe_int _ _ | with_reducible exact dGt_int _ _ | with_reducible exact dGe_int _ _ | with_reducible exact dEq_int _ _ | with_reducible exact dNe_int _ _
  | with_reducible exact dMod_pos (by walk_at "p")
  | with_reducible exact r_rt | with_reducible exact r_rtT | with_reducible exact r_rtS rfl
  | with_reducible apply r_retO
  | with_reducible exact l_set0 | with_reducible apply l_setS
  | with_reducible exact l_cat0 | with_reducible apply l_catS
  | with_reducible exact r_setAllN | with_reducible apply r_setAllC
  | with_reducible exact c_nil | with_reducible apply c_none | ((with_reducible apply c_k); focus walk_at "g") | ((with_reducible apply c_o); focus walk_at "g") | ((with_reducible apply c_l); focus walk_at "g") | ((with_reducible apply c_s); focus walk_at "g")
  | ((with_reducible apply r_scal); exact rfl)
  | ((with_reducible apply r_get); focus walk_at "g")
  | ((with_reducible apply r_bits); with_reducible assumption)
  | ((with_reducible apply bd_mod); focus walk_at "p") | with_reducible apply bd_add | with_reducible apply bd_sub | with_reducible apply bd_mul | with_reducible apply bd_div | with_reducible apply bd_neg | with_reducible exact bd_lit rfl
  | ((with_reducible apply r_dec); focus exact rfl)
  | ((with_reducible apply r_len); focus walk_at "l")
  | with_reducible apply r_mul
  | ((with_reducible apply r_fdiv); focus walk_at "p")
  | ((with_reducible apply r_iteT); focus walk_at "b")
  | ((with_reducible apply r_iteF); focus walk_at "b")
  | with_reducible apply r_cons | with_reducible apply r_e2 | with_reducible apply r_e1 | with_reducible apply r_seq | with_reducible apply r_set | with_reducible apply r_setO | with_reducible apply r_if | with_reducible apply r_then | with_reducible apply r_tVal | with_reducible apply r_not' | with_reducible apply r_or' | with_reducible apply r_and' | with_reducible apply r_eAnd | with_reducible apply r_eOr | with_reducible apply r_eNot | with_reducible apply r_eIf | with_reducible apply r_isa | with_reducible apply r_chain | with_reducible apply r_bind | with_reducible apply r_ret | with_reducible apply r_retF | with_reducible apply r_drop | with_reducible apply r_tup | with_reducible apply r_lst | with_reducible apply r_scalar | with_reducible apply r_nonScal | with_reducible apply r_noX | with_reducible apply r_oSome | with_reducible apply r_body | with_reducible apply r_gN | with_reducible apply r_gT | with_reducible apply r_unp | with_reducible apply r_for | with_reducible apply r_itL | with_reducible apply r_itT | with_reducible apply r_itE | with_reducible apply r_itZ | with_reducible apply r_call | with_reducible apply r_eA | with_reducible apply r_sl | with_reducible apply r_slB | with_reducible apply r_ixO | with_reducible apply r_meth | with_reducible apply r_make | with_reducible apply r_app | with_reducible apply r_put | with_reducible apply r_turn | with_reducible apply r_turnT | with_reducible apply r_self | with_reducible apply r_methS | with_reducible apply r_lm)
def dl (r : List Int) : D := .lst (r.map .int)
def tbD (t : List (List Int)) : D := .lst (t.map dl)
theorem comp_map {js : List (Option Nat)} {its : SD → Out (List D)} {g : D → SD → Out SD} {e : SD → Out D} {ς : SD} {xs : List D} {h : D → D} (hi : its ς = .ok xs) (ht : ∀ x ∈ xs, turnC js g cTrue e ς x = .ok (some (h x))) (hl : xs.length ≤ 1000) :
    eComp js its g cTrue e ς = .ok (.lst (xs.map h)) := by
  unfold eComp
  rw [hi, Out.bind_ok, compM_of (h := fun x => some (h x)) ht, Out.bind_ok]
  have e : xs.filterMap (fun x => some (h x)) = xs.map h := by rw [← List.filterMap_eq_map]; rfl
  rw [e, if_pos (fits_of (by rw [List.length_map]; exact hl))]
theorem comp_zip {js : List (Option Nat)} {its : SD → Out (List D)} {e : SD → Out D} {ς : SD} {a b : List Int} (f : Int → Int → Int) (hi : its ς = .ok (List.zipWith (fun x y => .tup [x, y]) (a.map .int) (b.map .int)))
    (ht : ∀ x ∈ a, ∀ y ∈ b, turnC js (gT [0, 1]) cTrue e ς (.tup [.int x, .int y]) = .ok (some (.int (f x y)))) (hl : a.length ≤ 1000) : eComp js its (gT [0, 1]) cTrue e ς = .ok (dl (List.zipWith f a b)) := by
  have hz : List.zipWith (fun x y => D.tup [x, y]) (a.map .int) (b.map .int) = (List.zip a b).map fun p => D.tup [.int p.1, .int p.2] := by
    rw [List.zipWith_map, List.map_zip_eq_zipWith]
    rfl
  rw [comp_map (h := fun d => match d with | .tup [.int x, .int y] => .int (f x y) | _ => .non) (by rw [hi, hz]) ?_ ?_]
  · unfold dl
    rw [List.map_map, List.map_zipWith, List.map_zip_eq_zipWith]
    rfl
  · intro x hx
    obtain ⟨⟨p, q⟩, hp, rfl⟩ := List.mem_map.mp hx
    exact ht p (List.of_mem_zip hp).1 q (List.of_mem_zip hp).2
  · rw [List.length_map, List.length_zip]
    omega
theorem loopL {body : D → SD → Out Fl} {P : Nat → SD → Prop} : ∀ {xs : List D} (n : Nat), (∀ k x, xs[k]? = some x → ∀ ς, P (n + k) ς → ∃ ς', body x ς = .ok (.nx ς') ∧ P (n + k + 1) ς') → ∀ ς, P n ς → ∃ ς', loopD body xs ς = .ok (.nx ς') ∧ P (n + xs.length) ς'
  | [], n, _, ς, p => ⟨ς, rfl, p⟩
  | x :: xs, n, h, ς, p => by
    obtain ⟨ς1, e1', p1⟩ := h 0 x rfl ς p
    obtain ⟨ς2, e2', p2⟩ := loopL (xs := xs) (n + 1) (fun k y hy ς q => by
      have := h (k + 1) y hy ς (by rw [show n + (k + 1) = n + 1 + k by omega]; exact q)
      rw [show n + (k + 1) + 1 = n + 1 + k + 1 by omega] at this
      exact this) ς1 p1
    refine ⟨ς2, ?_, by rw [List.length_cons, show n + (xs.length + 1) = n + 1 + xs.length by omega]; exact p2⟩
    rw [loopD, e1']
    exact e2'
def cs (t : List (List Int)) (k j : Nat) : Int := ((t.take k).map fun r => r.getD j 0).sum
def pre (t : List (List Int)) (m k : Nat) : List Int := (List.range m).map (cs t k)
theorem pre_succ {t : List (List Int)} {m k : Nat} {r : List Int} (hr : t[k]? = some r) (hm : r.length = m) : List.zipWith (· + ·) (pre t m k) r = pre t m (k + 1) := by
  apply List.ext_getElem?
  intro j
  unfold pre
  rw [List.getElem?_zipWith, List.getElem?_map, List.getElem?_map]
  by_cases hj : j < m
  · have h1 : (List.range m)[j]? = some j := by simp [hj]
    have h2 : r[j]? = some r[j] := by simp [hm, hj]
    rw [h1, h2]
    show some (cs t k j + r[j]) = some (cs t (k + 1) j)
    unfold cs
    rw [List.take_add_one, hr]
    simp [hm, hj, List.getD_eq_getElem?_getD]
  · have h1 : (List.range m)[j]? = none := by simp; omega
    rw [h1]; rfl
theorem pre_zero (t : List (List Int)) (m : Nat) : pre t m 0 = List.replicate m 0 := by
  unfold pre
  rw [List.eq_replicate_iff]
  refine ⟨by simp, fun x hx => ?_⟩
  obtain ⟨j, _, rfl⟩ := List.mem_map.mp hx
  rfl
structure Tb (t : List (List Int)) (m : Nat) : Prop where
  n1 : 1 ≤ t.length
  n2 : t.length ≤ 12
  m6 : m ≤ 6
  row : ∀ r ∈ t, r.length = m
  ent : ∀ r ∈ t, ∀ x ∈ r, 0 ≤ x ∧ x ≤ 9
theorem sums_ok {a b : List Int} (hl : a.length ≤ 1000) : b_sums_of [dl a, dl b] = .ok (dl (List.zipWith (· + ·) a b)) := by
  have h := comp_zip (js := [none, none]) (its := itZ (eVar 0) (eVar 1)) (e := X_sums_of_0) (ς := [some (.k, dl a), some (.k, dl b)]) (a := a) (b := b) (· + ·) rfl (fun x _ y _ => rfl) hl
  rw [u_sums_of]
  unfold T_sums_of sRetF
  rw [h]; rfl
def hdD (t : List (List Int)) (m : Nat) (k : Nat) : D := .lst ((List.range (k + 1)).map fun i => dl (pre t m i))
theorem running_ok {t : List (List Int)} {m : Nat} (h : Tb t m) : b_running_sums [tbD t] = .ok (hdD t m t.length) := by
  obtain ⟨n1, n2, m6, row, _⟩ := h
  have r0 : t[0]? = some t[0] := by simp
  have hr0 : (t[0]).length = m := row _ (List.getElem_mem _)
  have hix : dIx (tbD t) (.int 0) = .ok (dl t[0]) := ixL 0 (by rw [List.getElem?_map, r0]; rfl)
  have hc : eComp [none] (itL (e2 dIx (eVar 0) (eC (.int 0)))) (gN 0) cTrue X_running_sums_0 [some (.k, tbD t), none, none] = .ok (dl (pre t m 0)) := by
    rw [comp_map (xs := (t[0]).map .int) (h := fun _ => .int 0) (by simp only [itL, e2, eVar, eC, Out.bind_ok, List.getElem?_cons_zero, hix]; rfl) (fun x _ => rfl) (by rw [List.length_map]; omega)]
    rw [pre_zero, List.map_map]
    unfold dl
    congr 2
    rw [List.map_replicate]
    exact List.eq_replicate_iff.mpr ⟨by simp [hr0], fun x hx => by obtain ⟨_, _, rfl⟩ := List.mem_map.mp hx; rfl⟩
  obtain ⟨ς', hL, a2, rfl⟩ := loopL (body := fun x ς => gN 2 x ς >>= fun ς' => L_running_sums_0 ς') (xs := t.map dl) (P := fun k ς => ∃ a2, ς = [some (.k, tbD t), some (.o, hdD t m k), a2]) 0
    (by
      rintro k x hx ς ⟨a2, rfl⟩
      rw [Nat.zero_add] at *
      rw [List.getElem?_map] at hx
      cases ht : t[k]? with
      | none => rw [ht] at hx; cases hx
      | some r =>
        rw [ht] at hx
        cases hx
        have hk : k < t.length := (List.getElem?_eq_some_iff.mp ht).1
        have hrm : r.length = m := row r (List.mem_of_getElem? ht)
        have hl : (pre t m k).length = m := by simp [pre]
        have s := sums_ok (a := pre t m k) (b := r) (by omega)
        rw [pre_succ ht hrm] at s
        have hat : atI ((List.range (k + 1)).map fun i => dl (pre t m i)) (-1) = some (dl (pre t m k)) := by
          unfold atI ixN
          simp
          rw [if_pos (by omega), show ((-1 : Int) + ((k : Int) + 1)).toNat = k by omega]
          simp
        refine ⟨[some (.k, tbD t), some (.o, hdD t m (k + 1)), some (.k, dl r)], ?_, _, rfl⟩
        have e1' : eIxO 1 (e1 dNeg (eC (.int 1))) [some (.k, tbD t), some (.o, hdD t m k), some (.k, dl r)] = .ok (dl (pre t m k)) := by
          unfold eIxO hdD
          simp only [List.getElem?_cons_succ, List.getElem?_cons_zero, e1, eC, Out.bind_ok, dNeg_int, hat]; rfl
        have hlt : decide (((List.range (k + 1)).map fun i => dl (pre t m i)).length < sizeLine) = true := by
          have : (1000 : Nat) ≤ sizeLine := by decide
          rw [List.length_map, List.length_range]
          exact decide_eq_true (by omega)
        have hnext : ((List.range (k + 1)).map fun i => dl (pre t m i)) ++ [dl (pre t m (k + 1))] = (List.range (k + 1 + 1)).map fun i => dl (pre t m i) := by
          rw [List.range_succ (n := k + 1), List.map_append]; rfl
        show L_running_sums_0 [some (.k, tbD t), some (.o, hdD t m k), some (.k, dl r)] = _
        unfold L_running_sums_0 sAppend
        simp only [List.getElem?_cons_succ, List.getElem?_cons_zero, hdD]
        have e3' : eA (fun xs => b_sums_of (xs ++ [])) (aCons (eIxO 1 (e1 dNeg (eC (.int 1)))) (aCons (eVar 2) aNil)) [some (.k, tbD t), some (.o, hdD t m k), some (.k, dl r)] = .ok (dl (pre t m (k + 1))) := by
          simp only [eA, aCons, aNil, e1', eVar, Out.bind_ok, List.getElem?_cons_succ, List.getElem?_cons_zero, List.append_nil, s]
        rw [show (D.lst ((List.range (k + 1)).map fun i => dl (pre t m i))) = hdD t m k from rfl, e3', Out.bind_ok, if_pos hlt, hnext]
        rfl)
    [some (.k, tbD t), some (.o, hdD t m 0), none] ⟨_, rfl⟩
  rw [Nat.zero_add, List.length_map] at hL
  have hfor := sFor_of (g := gN 2) (its := itL (eVar 0)) (T := L_running_sums_0) (ς := [some (.k, tbD t), some (.o, hdD t m 0), none]) (xs := t.map dl) rfl hL
  rw [u_running_sums]
  unfold T_running_sums
  have hs : sSetO 1 (eLst (aCons (eComp [none] (itL (e2 dIx (eVar 0) (eC (.int 0)))) (gN 0) cTrue X_running_sums_0) aNil)) [some (.k, tbD t), none, none] = .ok (.nx [some (.k, tbD t), some (.o, hdD t m 0), none]) := by
    simp only [sSetO, eLst, aCons, aNil, hc, Out.bind_ok, List.length_cons, List.length_nil, fits_small, Nat.reduceAdd, Nat.reduceLeDiff, if_true]; rfl
  simp only [sSeq, hs, Out.bind_ok, thenF, hfor]
  rfl
def ckF (t : List (List Int)) (m : Nat) : List (Str × D) := [("table", tbD t), ("heads", hdD t m t.length)]
def ck (c : Str) (t : List (List Int)) (m : Nat) : D := .ins c (ckF t m)
theorem look_t (t : List (List Int)) (m : Nat) : (ckF t m).lookup ("table" : Str) = some (tbD t) := by
  unfold ckF; rw [List.lookup_cons, beq_self_eq_true]
theorem look_no {n : Str} (h1 : (n == ("table" : Str)) = false) (h2 : (n == ("heads" : Str)) = false) (t : List (List Int)) (m : Nat) : (ckF t m).lookup n = none := by
  unfold ckF; rw [List.lookup_cons, h1, List.lookup_cons, h2]; rfl
theorem put_h (t : List (List Int)) (m : Nat) : putD "heads" (hdD t m t.length) [("table", tbD t)] = ckF t m := by
  have : ¬ (("table" : Str) = ("heads" : Str)) := by decide +kernel
  unfold putD
  rw [if_neg this]; rfl
theorem keep_ok {c : Str} (hc : cls_all.contains c = true) {t : List (List Int)} {m : Nat} (h : Tb t m) : i_Clerk_keep_rows c [] [tbD t] = .ok (ckF t m) := by
  have hk : eComp [none] (itL (eVar 1)) (gN 0) cTrue X_Clerk_keep_rows_0 [some (.s, .ins c []), some (.k, tbD t)] = .ok (tbD t) := by
    rw [comp_map (xs := t.map dl) (h := id) rfl ?_ (by rw [List.length_map]; have := h.n2; omega), List.map_id]
    · rfl
    · intro x hx
      obtain ⟨r, _, rfl⟩ := List.mem_map.mp hx
      rfl
  have r1 := running_ok h
  have hz : ∀ n : Nat, n < 10 → (cls_all.contains c && decide (n < 1000)) = true := fun n hn => by rw [hc, Bool.true_and]; exact decide_eq_true (by omega)
  have s1 : sFldS cls_all "table" 0 (eComp [none] (itL (eVar 1)) (gN 0) cTrue X_Clerk_keep_rows_0) [some (.s, .ins c []), some (.k, tbD t)] = .ok (.nx [some (.s, .ins c [("table", tbD t)]), some (.k, tbD t)]) := by
    unfold sFldS
    rw [hk, Out.bind_ok]
    show (if (cls_all.contains c && decide (([] : List (Str × D)).length < 1000)) = true then _ else _) = _
    exact (if_pos (c := (cls_all.contains c && decide (0 < 1000)) = true) (hz 0 (by decide))).trans rfl
  have s2 : sFldS cls_all "heads" 0 (eA (fun xs => b_running_sums (xs ++ [])) (aCons (eVar 1) aNil)) [some (.s, .ins c [("table", tbD t)]), some (.k, tbD t)] = .ok (.nx [some (.s, .ins c (ckF t m)), some (.k, tbD t)]) := by
    unfold sFldS
    have : eA (fun xs => b_running_sums (xs ++ [])) (aCons (eVar 1) aNil) [some (.s, .ins c [("table", tbD t)]), some (.k, tbD t)] = .ok (hdD t m t.length) := by
      simp only [eA, aCons, aNil, eVar, Out.bind_ok, List.getElem?_cons_succ, List.getElem?_cons_zero, List.append_nil, r1]
    rw [this, Out.bind_ok]
    show (if (cls_all.contains c && decide ([(("table" : Str), tbD t)].length < 1000)) = true then _ else _) = _
    refine (if_pos (c := (cls_all.contains c && decide (1 < 1000)) = true) (hz 1 (by decide))).trans ?_
    rw [put_h]; rfl
  rw [u_Clerk_keep_rows]
  unfold T_Clerk_keep_rows
  simp only [sSeq, s1, noX_ok, Out.bind_ok, thenF, s2]
  simp only [selfOf, selfAt, List.getElem?_cons_zero, if_true]
theorem fld_t {c : Str} (hc : cls_all.contains c = true) (t : List (List Int)) (m : Nat) : dFld cls_all "table" (ck c t m) = .ok (tbD t) := by
  show (if cls_all.contains c = true then optO ((ckF t m).lookup ("table" : Str)) else .stuck) = _
  rw [if_pos hc, look_t]; rfl
theorem period_ok {c : Str} (hc : cls_all.contains c = true) (t : List (List Int)) (m : Nat) : b_Clerk_period [ck c t m] = .ok (.int (t.length : Int)) := by
  have : fLen [tbD t] = .ok (.int (t.length : Int)) := by simp [fLen, tbD]
  simp only [u_Clerk_period, T_Clerk_period, sRet, eA, aCons, aNil, e1, eVar, List.getElem?_cons_zero, Out.bind_ok, fld_t hc, this]
  rfl
theorem whole_int (i : Int) : b_is_whole [.int i] = .ok (.bl true) := by
  rw [u_is_whole]; simp [T_is_whole, bodyF, retF, sSeq, thenF, sSet, sRet, sIf, sNil, eVar, eC, e1, e2, eA, f1, aNil, aCons, tVal, tAnd', tOr', tNot', eAnd, eOr, eNot, eIf, eTup, eLst, eIsa, isaT, tyName, oNo, oSome, sPar, sUnp, setAll, gN, gT, fLen, fits_small, Out.bind_ok, Out.bind_exc, Out.bind_stuck, Out.pure_eq, D.scal, dAdd_int, dSub_int, dNeg_int, dAbs_int, dLt_int, dLe_int, dGt_int, dGe_int, dEq_int, dNe_int, List.length_cons, List.length_nil, List.map_cons, List.map_nil, List.cons_append, List.nil_append, List.append_nil, List.getElem?_cons_zero, List.getElem?_cons_succ, List.set_cons_zero, List.set_cons_succ, List.replicate, Nat.reduceAdd, Nat.reduceSub, Nat.reduceLeDiff, Nat.zero_add, Nat.add_zero, reduceIte, Bool.not_true, Bool.not_false, Bool.true_and, Bool.and_true, Bool.false_and, Bool.and_false, Bool.or_true, Bool.true_or, Bool.or_false, Bool.false_or, Bool.false_eq_true, decide_true, decide_false, decide_eq_true_eq, Bool.not_eq_true', decide_eq_false_iff_not, Int.reduceEq, Int.reduceLT, Int.reduceLE, Int.reduceNeg, Nat.reduceEqDiff, ↓reduceIte, not_true_eq_false, not_false_eq_true]
theorem within_ok {i a b : Int} (h1 : a ≤ i) (h2 : i ≤ b) : b_is_within [.int i, .int a, .int b] = .ok (.bl true) := by
  have hw := whole_int i
  have e1' : decide (a ≤ i) = true := decide_eq_true h1
  have e2' : decide (i ≤ b) = true := decide_eq_true h2
  rw [u_is_within]
  simp [T_is_within, bodyF, retF, sSeq, thenF, sSet, sRet, sIf, sNil, eVar, eC, e1, e2, eA, f1, aNil, aCons, tVal, tAnd', tOr', tNot', eAnd, eOr, eNot, eIf, eTup, eLst, eIsa, isaT, tyName, oNo, oSome, sPar, sUnp, setAll, gN, gT, fLen, fits_small, Out.bind_ok, Out.bind_exc, Out.bind_stuck, Out.pure_eq, D.scal, dAdd_int, dSub_int, dNeg_int, dAbs_int, dLt_int, dLe_int, dGt_int, dGe_int, dEq_int, dNe_int, List.length_cons, List.length_nil, List.map_cons, List.map_nil, List.cons_append, List.nil_append, List.append_nil, List.getElem?_cons_zero, List.getElem?_cons_succ, List.set_cons_zero, List.set_cons_succ, List.replicate, Nat.reduceAdd, Nat.reduceSub, Nat.reduceLeDiff, Nat.zero_add, Nat.add_zero, reduceIte, Bool.not_true, Bool.not_false, Bool.true_and, Bool.and_true, Bool.false_and, Bool.and_false, Bool.or_true, Bool.true_or, Bool.or_false, Bool.false_or, Bool.false_eq_true, decide_true, decide_false, decide_eq_true_eq, Bool.not_eq_true', decide_eq_false_iff_not, Int.reduceEq, Int.reduceLT, Int.reduceLE, Int.reduceNeg, Nat.reduceEqDiff, ↓reduceIte, not_true_eq_false, not_false_eq_true, hw, eChain, h1, h2]
theorem isrow_ok {r : List Int} (hl : r.length ≤ 6) (h : ∀ x ∈ r, 0 ≤ x ∧ x ≤ 9) : b_is_row [dl r] = .ok (.bl true) := by
  have hlen : fLen [dl r] = .ok (.int (r.length : Int)) := by simp [fLen, dl]
  have hc : eComp [none] (itL (eVar 0)) (gN 0) cTrue X_is_row_0 [some (.k, dl r)] = .ok (.lst (r.map fun _ => D.bl true)) := by
    refine comp_of D.int (fun _ => .bl true) rfl (fun x hx => ?_) (by omega)
    have hw := within_ok (h x hx).1 (h x hx).2
    refine r_turn (by walk_at "cap") (by walk_at "s") ?_
    unfold X_is_row_0
    (repeat walk_at "e")
  have ha : fAll (.lst (r.map fun _ => D.bl true)) = .ok (.bl true) := by rw [fAll_map (fun _ => true)]; simp
  have hf : f1 fAll [.lst (r.map fun _ => D.bl true)] = .ok (.bl true) := ha
  have hi : isaT "list" (dl r) = .ok true := by simp [isaT, dl, tyName]
  have hg : decide ((6 : Int) < (r.length : Int)) = false := decide_eq_false (by omega)
  rw [u_is_row]
  unfold T_is_row
  (repeat walk_at "e")
theorem istable_ok {t : List (List Int)} {m : Nat} (h : Tb t m) : b_is_table [tbD t] = .ok (.bl true) := by
  obtain ⟨n1, n2, m6, row, ent'⟩ := h
  have hlen : fLen [tbD t] = .ok (.int (t.length : Int)) := by simp [fLen, tbD]
  have hc : eComp [none] (itL (eVar 0)) (gN 0) cTrue X_is_table_0 [some (.k, tbD t)] = .ok (.lst (t.map fun _ => D.bl true)) := by
    refine comp_of dl (fun _ => .bl true) rfl (fun x hx => ?_) (by omega)
    have hw := isrow_ok (r := x) (by rw [row x hx]; exact m6) (ent' x hx)
    refine r_turn (by walk_at "cap") (by walk_at "s") ?_
    unfold X_is_table_0
    (repeat walk_at "e")
  have r0 : t[0]? = some t[0] := by simp
  have hr0 : (t[0]).length = m := row _ (List.getElem_mem _)
  have hix0 : dIx (tbD t) (.int 0) = .ok (dl t[0]) := ixL 0 (by rw [List.getElem?_map, r0]; rfl)
  have hl0 : fLen [dl t[0]] = .ok (.int (m : Int)) := by simp [fLen, dl, hr0]
  have hc2 : eComp [none, some 0] (itL (eVar 0)) (gN 0) cTrue X_is_table_1 [some (.k, tbD t)] = .ok (.lst (t.map fun _ => D.bl true)) := by
    refine comp_of dl (fun _ => .bl true) rfl (fun x hx => ?_) (by omega)
    have hlx : fLen [dl x] = .ok (.int (m : Int)) := by simp [fLen, dl, row x hx]
    have he : dEq (.int (m : Int)) (.int (m : Int)) = .ok (.bl true) := by rw [dEq_int]; simp
    refine r_turn (by walk_at "cap") (by walk_at "s") ?_
    unfold X_is_table_1
    (repeat walk_at "e")
  have ha : fAll (.lst (t.map fun _ => D.bl true)) = .ok (.bl true) := by rw [fAll_map (fun _ => true)]; simp
  have hf : f1 fAll [.lst (t.map fun _ => D.bl true)] = .ok (.bl true) := ha
  have hi : isaT "list" (tbD t) = .ok true := by simp [isaT, tbD, tyName]
  have hg : decide ((1 : Int) ≤ (t.length : Int)) = true := decide_eq_true (by omega)
  have hg2 : decide ((t.length : Int) ≤ 12) = true := decide_eq_true (by omega)
  rw [u_is_table]
  unfold T_is_table
  (repeat walk_at "e")
theorem rows_init {c : Str} (hc : cls_all.contains c = true) {t : List (List Int)} {m : Nat} (h : Tb t m) : i_Rows_init c [] [tbD t] = .ok (ckF t m) := by
  have h1 := istable_ok h
  have h2 := keep_ok hc h
  rw [u_Rows_init]
  unfold T_Rows_init
  (repeat walk_at "e")
theorem copy_init {c : Str} (hc : cls_all.contains c = true) {r : List Int} {m : Nat} (h : Tb [r] m) : i_Copy_init c [] [dl r] = .ok (ckF [r] m) := by
  have h1 := isrow_ok (r := r) (by rw [h.row r (by simp)]; exact h.m6) (h.ent r (by simp))
  have h2 : i_Clerk_keep_rows c [] [.lst [dl r]] = .ok (ckF [r] m) := keep_ok hc h
  rw [u_Copy_init]
  unfold T_Copy_init
  (repeat walk_at "e")
def one (n s : Nat) : List Int := (List.range n).map fun k => if k = s then 1 else 0
def dealT (n : Nat) : List (List Int) := (List.range n).map (one n)
def bunT (n : Nat) : List (List Int) := (List.range n).map fun s => [if s + 1 = n then 1 else 0]
theorem single_ok {n s : Nat} (h : n ≤ 100) : b_single_row [.int n, .int s] = .ok (dl (one n s)) := by
  have hc : eComp [none, some 1] (itR1 (eVar 0)) (gN 0) cTrue X_single_row_0 [some (.k, .int n), some (.k, .int s)] = .ok (.lst ((List.range n).map fun k => D.int (if k = s then 1 else 0))) := by
    refine comp_rng (fun k => D.int (if k = s then 1 else 0)) (rng_ok n rfl (by omega)) (fun k hk => ?_) (by omega)
    refine r_turn (by walk_at "cap") (by walk_at "s") ?_
    unfold X_single_row_0
    by_cases e : k = s
    · have e' : decide ((k : Int) = (s : Int)) = true := decide_eq_true (by omega)
      rw [if_pos e]
      (repeat walk_at "e")
    · have e' : decide ((k : Int) = (s : Int)) = false := decide_eq_false (by omega)
      rw [if_neg e]
      (repeat walk_at "e")
  have he : dl (one n s) = .lst ((List.range n).map fun k => D.int (if k = s then 1 else 0)) := by unfold dl one; rw [List.map_map]; rfl
  rw [he, u_single_row]
  unfold T_single_row
  (repeat walk_at "e")
theorem tb_deal {n : Nat} (h1 : 1 ≤ n) (h6 : n ≤ 6) : Tb (dealT n) n := by
  refine ⟨by simp [dealT]; omega, by simp [dealT]; omega, h6, fun r hr => ?_, fun r hr x hx => ?_⟩ <;> obtain ⟨s, _, rfl⟩ := List.mem_map.mp hr
  · simp [one]
  · obtain ⟨k, _, rfl⟩ := List.mem_map.mp hx
    split <;> decide
theorem tb_bun {n : Nat} (h1 : 1 ≤ n) (h6 : n ≤ 12) : Tb (bunT n) 1 := by
  refine ⟨by simp [bunT]; omega, by simp [bunT]; omega, by decide, fun r hr => ?_, fun r hr x hx => ?_⟩ <;> obtain ⟨s, _, rfl⟩ := List.mem_map.mp hr
  · simp
  · rw [List.mem_singleton.mp hx]
    split <;> decide
theorem deal_init {c : Str} (hc : cls_all.contains c = true) {n : Nat} (n1 : 1 ≤ n) (n6 : n ≤ 6) : i_Deal_init c [] [.int n] = .ok (ckF (dealT n) n) := by
  have h1 := within_ok (i := n) (a := 1) (b := 6) (by omega) (by omega)
  have h2 := keep_ok hc (tb_deal n1 n6)
  have hc' : eComp [none, some 1] (itR1 (eVar 1)) (gN 0) cTrue X_Deal_init_0 [some (.s, .ins c []), some (.k, .int n)] = .ok (tbD (dealT n)) := by
    have he : tbD (dealT n) = .lst ((List.range n).map fun s => dl (one n s)) := by unfold tbD dealT; rw [List.map_map]; rfl
    rw [he]
    refine comp_rng (fun s => dl (one n s)) (rng_ok n rfl (by omega)) (fun k hk => ?_) (by omega)
    have hs := single_ok (n := n) (s := k) (by omega)
    refine r_turn (by walk_at "cap") (by walk_at "s") ?_
    unfold X_Deal_init_0
    (repeat walk_at "e")
  rw [u_Deal_init]
  unfold T_Deal_init
  (repeat walk_at "e")
theorem bun_init {c : Str} (hc : cls_all.contains c = true) {n : Nat} (n1 : 1 ≤ n) (n6 : n ≤ 12) : i_Bundle_init c [] [.int n] = .ok (ckF (bunT n) 1) := by
  have h1 := within_ok (i := n) (a := 1) (b := 12) (by omega) (by omega)
  have h2 := keep_ok hc (tb_bun n1 n6)
  have hc' : eComp [none, some 1] (itR1 (eVar 1)) (gN 0) cTrue X_Bundle_init_0 [some (.s, .ins c []), some (.k, .int n)] = .ok (tbD (bunT n)) := by
    have he : tbD (bunT n) = .lst ((List.range n).map fun s => D.lst [.int (if s + 1 = n then 1 else 0)]) := by unfold tbD bunT; rw [List.map_map]; rfl
    rw [he]
    refine comp_rng (fun s => D.lst [.int (if s + 1 = n then 1 else 0)]) (rng_ok n rfl (by omega)) (fun k hk => ?_) (by omega)
    refine r_turn (by walk_at "cap") (by walk_at "s") ?_
    unfold X_Bundle_init_0
    by_cases e : k + 1 = n
    · have e' : decide ((k : Int) = (n : Int) - 1) = true := decide_eq_true (by omega)
      rw [if_pos e]
      (repeat walk_at "e")
    · have e' : decide ((k : Int) = (n : Int) - 1) = false := decide_eq_false (by omega)
      rw [if_neg e]
      (repeat walk_at "e")
  rw [u_Bundle_init]
  unfold T_Bundle_init
  (repeat walk_at "e")
def mixV (c k : Int) : Int := (c % 2147483647 + 48271 * k + 1) * 69621 % 2147483629 * ((c % 2147483647 + 48271 * k + 1) * 69621 % 2147483629) % 2147483587
theorem mix_ok {c k : Int} (hk : bitsI k ≤ 1000) : b_law_mix [.int c, .int k] = .ok (.int (mixV c k)) := by
  rw [u_law_mix]
  unfold T_law_mix mixV
  (repeat walk_at "e")
theorem mixL {c : Int} (k : Int) (h : decide (k.natAbs < 2 ^ 300) = true) : b_law_mix [.int c, .int k] = .ok (.int (mixV c k)) := mix_ok (Nat.le_trans (bd_lit h) (by decide))
inductive Pl : D → Prop where
  | non : Pl .non
  | bl (b : Bool) : Pl (.bl b)
  | int (i : Int) : Pl (.int i)
  | str (x : Str) : Pl (.str x)
  | tup (xs : List D) : Pl (.tup xs)
  | dic (kv : List (Key × D)) : Pl (.dic kv)
  | lst (xs : List D) (h : xs.length ≤ 100) (hx : ∀ x ∈ xs, Pl x) : Pl (.lst xs)
def isI : D → Bool
  | .int _ => true
  | _ => false
def inR (a b : Int) : D → Bool
  | .int i => decide (a ≤ i) && decide (i ≤ b)
  | _ => false
theorem whole_gen {d : D} (h : Pl d) : b_is_whole [d] = .ok (.bl (isI d)) := by
  rw [u_is_whole]; cases h <;> simp [T_is_whole, bodyF, retF, sSeq, thenF, sSet, sRet, sIf, sNil, eVar, eC, e1, e2, eA, f1, aNil, aCons, tVal, tAnd', tOr', tNot', eAnd, eOr, eNot, eIf, eTup, eLst, eIsa, isaT, tyName, oNo, oSome, sPar, sUnp, setAll, gN, gT, fLen, fits_small, Out.bind_ok, Out.bind_exc, Out.bind_stuck, Out.pure_eq, D.scal, dAdd_int, dSub_int, dNeg_int, dAbs_int, dLt_int, dLe_int, dGt_int, dGe_int, dEq_int, dNe_int, List.length_cons, List.length_nil, List.map_cons, List.map_nil, List.cons_append, List.nil_append, List.append_nil, List.getElem?_cons_zero, List.getElem?_cons_succ, List.set_cons_zero, List.set_cons_succ, List.replicate, Nat.reduceAdd, Nat.reduceSub, Nat.reduceLeDiff, Nat.zero_add, Nat.add_zero, reduceIte, Bool.not_true, Bool.not_false, Bool.true_and, Bool.and_true, Bool.false_and, Bool.and_false, Bool.or_true, Bool.true_or, Bool.or_false, Bool.false_or, Bool.false_eq_true, decide_true, decide_false, decide_eq_true_eq, Bool.not_eq_true', decide_eq_false_iff_not, Int.reduceEq, Int.reduceLT, Int.reduceLE, Int.reduceNeg, Nat.reduceEqDiff, ↓reduceIte, not_true_eq_false, not_false_eq_true, isI]
theorem lwhole_gen {d : D} (h : Pl d) : b_law_whole [d] = .ok (.bl (isI d)) := by
  rw [u_law_whole]; cases h <;> simp [T_law_whole, bodyF, retF, sSeq, thenF, sSet, sRet, sIf, sNil, eVar, eC, e1, e2, eA, f1, aNil, aCons, tVal, tAnd', tOr', tNot', eAnd, eOr, eNot, eIf, eTup, eLst, eIsa, isaT, tyName, oNo, oSome, sPar, sUnp, setAll, gN, gT, fLen, fits_small, Out.bind_ok, Out.bind_exc, Out.bind_stuck, Out.pure_eq, D.scal, dAdd_int, dSub_int, dNeg_int, dAbs_int, dLt_int, dLe_int, dGt_int, dGe_int, dEq_int, dNe_int, List.length_cons, List.length_nil, List.map_cons, List.map_nil, List.cons_append, List.nil_append, List.append_nil, List.getElem?_cons_zero, List.getElem?_cons_succ, List.set_cons_zero, List.set_cons_succ, List.replicate, Nat.reduceAdd, Nat.reduceSub, Nat.reduceLeDiff, Nat.zero_add, Nat.add_zero, reduceIte, Bool.not_true, Bool.not_false, Bool.true_and, Bool.and_true, Bool.false_and, Bool.and_false, Bool.or_true, Bool.true_or, Bool.or_false, Bool.false_or, Bool.false_eq_true, decide_true, decide_false, decide_eq_true_eq, Bool.not_eq_true', decide_eq_false_iff_not, Int.reduceEq, Int.reduceLT, Int.reduceLE, Int.reduceNeg, Nat.reduceEqDiff, ↓reduceIte, not_true_eq_false, not_false_eq_true, isI]
theorem isaList {d : D} (h : Pl d) (hn : ∀ xs, d ≠ .lst xs) : isaT "list" d = .ok false := by
  cases h <;> first | rfl | (simp [isaT, tyName]; done) | exact absurd rfl (hn _)
theorem within_gen {d : D} (h : Pl d) (a b : Int) : b_is_within [d, .int a, .int b] = .ok (.bl (inR a b d)) := by
  have hw := whole_gen h
  rw [u_is_within]
  unfold T_is_within
  by_cases hi : ∃ i, d = .int i
  · obtain ⟨i, rfl⟩ := hi
    have hw : b_is_whole [.int i] = .ok (.bl true) := hw
    show _ = Out.ok (D.bl (decide (a ≤ i) && decide (i ≤ b)))
    by_cases e : a ≤ i
    · have e' : decide (a ≤ i) = true := decide_eq_true e
      rw [e', Bool.true_and]
      (repeat walk_at "e")
    · have e' : decide (a ≤ i) = false := decide_eq_false e
      rw [e', Bool.false_and]
      (repeat walk_at "e")
  · have hf : isI d = false := by cases d <;> first | rfl | exact absurd ⟨_, rfl⟩ hi
    have hr : inR a b d = false := by cases d <;> first | rfl | exact absurd ⟨_, rfl⟩ hi
    rw [hf] at hw
    rw [hr]
    (repeat walk_at "e")
def isRow : D → Bool
  | .lst xs => decide (xs.length ≤ 6) && xs.all (inR 0 9)
  | _ => false
theorem fLenL (xs : List D) : fLen [.lst xs] = .ok (.int (xs.length : Int)) := rfl
theorem isaL (xs : List D) : isaT "list" (.lst xs) = .ok true := by simp [isaT, tyName]
theorem fAllG {α : Type} (f : α → Bool) (xs : List α) : f1 fAll [.lst (xs.map fun x => D.bl (f x))] = .ok (.bl (xs.all f)) := fAll_map f xs
theorem isrow_gen {d : D} (h : Pl d) : b_is_row [d] = .ok (.bl (isRow d)) := by
  rw [u_is_row]
  unfold T_is_row
  by_cases hl : ∃ xs, d = .lst xs
  · obtain ⟨xs, rfl⟩ := hl
    cases h with
    | lst _ hn hx =>
      have i1 := isaL xs
      by_cases h6 : xs.length ≤ 6
      · have g : decide ((6 : Int) < (xs.length : Int)) = false := decide_eq_false (by omega)
        have hc : eComp [none] (itL (eVar 0)) (gN 0) cTrue X_is_row_0 [some (.k, .lst xs)] = .ok (.lst (xs.map fun x => D.bl (inR 0 9 x))) := by
          refine comp_id (fun x => D.bl (inR 0 9 x)) rfl (fun x hxm => ?_) (by omega)
          have hw := within_gen (hx x hxm) 0 9
          refine r_turn (by walk_at "cap") (by walk_at "s") ?_
          unfold X_is_row_0
          (repeat walk_at "e")
        have hf := fAllG (inR 0 9) xs
        show _ = Out.ok (D.bl (decide (xs.length ≤ 6) && xs.all (inR 0 9)))
        rw [decide_eq_true h6, Bool.true_and]
        (repeat (first | with_reducible exact fLenL _ | walk_at "e"))
      · have g : decide ((6 : Int) < (xs.length : Int)) = true := decide_eq_true (by omega)
        show _ = Out.ok (D.bl (decide (xs.length ≤ 6) && xs.all (inR 0 9)))
        rw [decide_eq_false h6, Bool.false_and]
        (repeat (first | with_reducible exact fLenL _ | walk_at "e"))
  · have i1 := isaList h fun xs e => hl ⟨xs, e⟩
    have hr : isRow d = false := by cases d <;> first | rfl | exact absurd ⟨_, rfl⟩ hl
    rw [hr]
    (repeat walk_at "e")
theorem loop_chk {body : D → SD → Out Fl} {P : SD → Prop} {good : D → Bool} {v : D} : ∀ {xs : List D}, (∀ x ∈ xs, ∀ ς, P ς → (good x = true → ∃ ς', body x ς = .ok (.nx ς') ∧ P ς') ∧ (good x = false → body x ς = .ok (.rt false v))) →
    ∀ ς, P ς → (xs.all good = true → ∃ ς', loopD body xs ς = .ok (.nx ς') ∧ P ς') ∧ (xs.all good = false → loopD body xs ς = .ok (.rt false v))
  | [], _, ς, p => ⟨fun _ => ⟨ς, rfl, p⟩, fun h => by simp at h⟩
  | x :: xs, h, ς, p => by
    have h1 := h x (List.mem_cons_self ..) ς p
    have ih := fun ς p => loop_chk (xs := xs) (fun y hy => h y (List.mem_cons_of_mem _ hy)) ς p
    rw [List.all_cons]
    cases g : good x with
    | true =>
      obtain ⟨ς1, e, p1⟩ := h1.1 g
      have e' : ∀ r, loopD body xs ς1 = r → loopD body (x :: xs) ς = r := fun r hr => by rw [loopD, e]; exact hr
      rw [Bool.true_and]
      exact ⟨fun ha => by obtain ⟨ς2, e2', p2⟩ := (ih ς1 p1).1 ha; exact ⟨ς2, e' _ e2', p2⟩, fun ha => e' _ ((ih ς1 p1).2 ha)⟩
    | false =>
      rw [Bool.false_and]
      exact ⟨fun ha => (by cases ha), fun _ => (by rw [loopD, h1.2 g]; rfl)⟩
theorem lrow_gen {d : D} (h : Pl d) : b_law_is_row [d] = .ok (.bl (isRow d)) := by
  rw [u_law_is_row]
  unfold T_law_is_row
  by_cases hl : ∃ xs, d = .lst xs
  · obtain ⟨xs, rfl⟩ := hl
    cases h with
    | lst _ hn hx =>
      have i1 := isaL xs
      by_cases h6 : xs.length ≤ 6
      · have g : decide ((6 : Int) < (xs.length : Int)) = false := decide_eq_false (by omega)
        have L := loop_chk (body := fun x ς => gN 1 x ς >>= fun ς' => L_law_is_row_0 ς') (P := fun ς => ∃ a1, ς = [some (.k, .lst xs), a1]) (good := inR 0 9) (v := .bl false) (xs := xs)
          (by
            rintro x hxm ς ⟨a1, rfl⟩
            have hw := lwhole_gen (hx x hxm)
            refine ⟨fun gd => ⟨[some (.k, .lst xs), some (.k, x)], ?_, _, rfl⟩, fun gd => ?_⟩
            · refine r_gN (by walk_at "s") ?_
              unfold L_law_is_row_0
              cases x <;> first | (cases gd; done) | skip
              rename_i i
              have gd : (decide (0 ≤ i) && decide (i ≤ 9)) = true := gd
              rw [Bool.and_eq_true, decide_eq_true_eq, decide_eq_true_eq] at gd
              have hw : b_law_whole [.int i] = .ok (.bl true) := hw
              have g1 : decide (i < 0) = false := decide_eq_false (by omega)
              have g2 : decide ((9 : Int) < i) = false := decide_eq_false (by omega)
              (repeat walk_at "e")
            · refine r_gN (by walk_at "s") ?_
              unfold L_law_is_row_0
              by_cases hi : ∃ i, x = .int i
              · obtain ⟨i, rfl⟩ := hi
                have gd : (decide (0 ≤ i) && decide (i ≤ 9)) = false := gd
                have hw : b_law_whole [.int i] = .ok (.bl true) := hw
                by_cases e : i < 0
                · have g1 : decide (i < 0) = true := decide_eq_true e
                  (repeat walk_at "e")
                · have g1 : decide (i < 0) = false := decide_eq_false e
                  have g2 : decide ((9 : Int) < i) = true := by
                    rw [decide_eq_true (show 0 ≤ i by omega), Bool.true_and, decide_eq_false_iff_not] at gd
                    exact decide_eq_true (by omega)
                  (repeat walk_at "e")
              · have hf : isI x = false := by cases x <;> first | rfl | exact absurd ⟨_, rfl⟩ hi
                rw [hf] at hw
                (repeat walk_at "e"))
          [some (.k, .lst xs), none] ⟨_, rfl⟩
        show _ = Out.ok (D.bl (decide (xs.length ≤ 6) && xs.all (inR 0 9)))
        rw [decide_eq_true h6, Bool.true_and]
        have hits : itL (eVar 0) [some (.k, .lst xs), none] = .ok xs := rfl
        cases ga : xs.all (inR 0 9) with
        | true =>
          obtain ⟨ς', hL, a1, rfl⟩ := L.1 ga
          (repeat (first | with_reducible exact fLenL _ | walk_at "e"))
        | false =>
          have hL := L.2 ga
          (repeat (first | with_reducible exact fLenL _ | walk_at "e"))
      · have g : decide ((6 : Int) < (xs.length : Int)) = true := decide_eq_true (by omega)
        show _ = Out.ok (D.bl (decide (xs.length ≤ 6) && xs.all (inR 0 9)))
        rw [decide_eq_false h6, Bool.false_and]
        (repeat (first | with_reducible exact fLenL _ | walk_at "e"))
  · have i1 := isaList h fun xs e => hl ⟨xs, e⟩
    have hr : isRow d = false := by cases d <;> first | rfl | exact absurd ⟨_, rfl⟩ hl
    rw [hr]
    (repeat walk_at "e")
theorem row_of {d : D} (h : isRow d = true) : ∃ r : List Int, d = dl r ∧ r.length ≤ 6 ∧ ∀ x ∈ r, 0 ≤ x ∧ x ≤ 9 := by
  cases d with
  | lst xs =>
    have h : (decide (xs.length ≤ 6) && xs.all (inR 0 9)) = true := h
    rw [Bool.and_eq_true, decide_eq_true_eq, List.all_eq_true] at h
    have key : ∀ xs : List D, (∀ x ∈ xs, inR 0 9 x = true) → ∃ r : List Int, xs = r.map .int ∧ ∀ x ∈ r, 0 ≤ x ∧ x ≤ 9 := by
      intro xs
      induction xs with
      | nil => exact fun _ => ⟨[], rfl, fun x hx => by cases hx⟩
      | cons x xs ih =>
        intro hx
        obtain ⟨r, e, hr⟩ := ih fun y hy => hx y (List.mem_cons_of_mem _ hy)
        have h1 := hx x (List.mem_cons_self ..)
        cases x with
        | int i =>
          have h1 : (decide (0 ≤ i) && decide (i ≤ 9)) = true := h1
          rw [Bool.and_eq_true, decide_eq_true_eq, decide_eq_true_eq] at h1
          refine ⟨i :: r, by rw [e]; rfl, fun y hy => ?_⟩
          rcases List.mem_cons.mp hy with rfl | hy
          · exact h1
          · exact hr y hy
        | _ => cases h1
    obtain ⟨r, e, hr⟩ := key xs h.2
    subst e
    refine ⟨r, rfl, ?_, hr⟩
    simpa using h.1
  | _ => cases h
def lenD : D → Nat
  | .lst xs => xs.length
  | _ => 0
def isTab : D → Bool
  | .lst (x :: xs) => decide ((x :: xs).length ≤ 12) && (x :: xs).all isRow && (x :: xs).all (fun y => decide (lenD y = lenD x))
  | _ => false
theorem tab_of {d : D} (h : isTab d = true) : ∃ (t : List (List Int)) (m : Nat), d = tbD t ∧ Tb t m := by
  cases d with
  | lst ys =>
    cases ys with
    | nil => cases h
    | cons x xs =>
      have h : (decide ((x :: xs).length ≤ 12) && (x :: xs).all isRow && (x :: xs).all (fun y => decide (lenD y = lenD x))) = true := h
      rw [Bool.and_eq_true, Bool.and_eq_true, decide_eq_true_eq, List.all_eq_true, List.all_eq_true] at h
      obtain ⟨⟨h12, hr⟩, hl⟩ := h
      have key : ∀ (zs : List D) (m : Nat), (∀ z ∈ zs, isRow z = true) → (∀ z ∈ zs, lenD z = m) → ∃ t : List (List Int), zs = t.map dl ∧ (∀ r ∈ t, r.length = m) ∧ (∀ r ∈ t, r.length ≤ 6) ∧ ∀ r ∈ t, ∀ x ∈ r, 0 ≤ x ∧ x ≤ 9 := by
        intro zs m
        induction zs with
        | nil => exact fun _ _ => ⟨[], rfl, fun r hr => by (cases hr), fun r hr => by (cases hr), fun r hr => by (cases hr)⟩
        | cons z zs ih =>
          intro h1 h2
          obtain ⟨t, e, g1, g2, g3⟩ := ih (fun y hy => h1 y (List.mem_cons_of_mem _ hy)) fun y hy => h2 y (List.mem_cons_of_mem _ hy)
          obtain ⟨r, rfl, r6, r9⟩ := row_of (h1 z (List.mem_cons_self ..))
          have hm : r.length = m := by have := h2 _ (List.mem_cons_self ..); simpa [lenD, dl] using this
          refine ⟨r :: t, by rw [e]; rfl, fun y hy => ?_, fun y hy => ?_, fun y hy => ?_⟩ <;> rcases List.mem_cons.mp hy with rfl | hy
          · exact hm
          · exact g1 y hy
          · exact r6
          · exact g2 y hy
          · exact r9
          · exact g3 y hy
      obtain ⟨t, e, g1, g2, g3⟩ := key (x :: xs) (lenD x) hr fun z hz => of_decide_eq_true (hl z hz)
      cases t with
      | nil => cases e
      | cons r t =>
        refine ⟨r :: t, lenD x, by rw [e]; rfl, ⟨by simp, ?_, ?_, g1, g3⟩⟩
        · have := congrArg List.length e
          rw [List.length_map] at this
          omega
        · rw [← g1 r (List.mem_cons_self ..)]; exact g2 r (List.mem_cons_self ..)
  | _ => cases h
theorem istab_gen {d : D} (h : Pl d) : b_is_table [d] = .ok (.bl (isTab d)) := by
  rw [u_is_table]
  unfold T_is_table
  by_cases hl : ∃ xs, d = .lst xs
  · obtain ⟨ys, rfl⟩ := hl
    cases h with
    | lst _ hn hx =>
      have i1 := isaL ys
      cases ys with
      | nil =>
        show _ = Out.ok (D.bl false)
        have g : decide ((1 : Int) ≤ (([] : List D).length : Int)) = false := by decide
        (repeat (first | with_reducible exact fLenL _ | walk_at "e"))
      | cons x xs =>
        have g1 : decide ((1 : Int) ≤ ((x :: xs).length : Int)) = true := decide_eq_true (by simp; omega)
        by_cases h12 : (x :: xs).length ≤ 12
        · have g2 : decide (((x :: xs).length : Int) ≤ 12) = true := decide_eq_true (by omega)
          have hc : eComp [none] (itL (eVar 0)) (gN 0) cTrue X_is_table_0 [some (.k, .lst (x :: xs))] = .ok (.lst ((x :: xs).map fun x => D.bl (isRow x))) := by
            refine comp_id (fun x => D.bl (isRow x)) rfl (fun y hy => ?_) (by omega)
            have hw := isrow_gen (hx y hy)
            refine r_turn (by walk_at "cap") (by walk_at "s") ?_
            unfold X_is_table_0
            (repeat walk_at "e")
          have hf := fAllG isRow (x :: xs)
          show _ = Out.ok (D.bl (decide ((x :: xs).length ≤ 12) && (x :: xs).all isRow && (x :: xs).all (fun y => decide (lenD y = lenD x))))
          rw [decide_eq_true h12, Bool.true_and]
          cases ga : (x :: xs).all isRow with
          | true =>
            rw [ga] at hf
            rw [Bool.true_and]
            rw [List.all_eq_true] at ga
            have lenOf : ∀ y ∈ x :: xs, fLen [y] = .ok (.int (lenD y : Int)) := fun y hy => by
              obtain ⟨r, rfl, _, _⟩ := row_of (ga y hy)
              simp [fLen, lenD, dl]
            have l0 := lenOf x (List.mem_cons_self ..)
            have hix : dIx (.lst (x :: xs)) (.int 0) = .ok x := ixL 0 rfl
            have hc2 : eComp [none, some 0] (itL (eVar 0)) (gN 0) cTrue X_is_table_1 [some (.k, .lst (x :: xs))] = .ok (.lst ((x :: xs).map fun y => D.bl (decide (lenD y = lenD x)))) := by
              refine comp_id (fun y => D.bl (decide (lenD y = lenD x))) rfl (fun y hy => ?_) (by omega)
              have ly := lenOf y hy
              have he : dEq (.int (lenD y : Int)) (.int (lenD x : Int)) = .ok (.bl (decide (lenD y = lenD x))) := by
                have z : decide ((lenD y : Int) = (lenD x : Int)) = decide (lenD y = lenD x) := by
                  by_cases h : lenD y = lenD x
                  · rw [decide_eq_true h, decide_eq_true (by omega)]
                  · rw [decide_eq_false h, decide_eq_false (by omega)]
                rw [dEq_int, z]
              refine r_turn (by walk_at "cap") (by walk_at "s") ?_
              unfold X_is_table_1
              (repeat walk_at "e")
            have hf2 := fAllG (fun y => decide (lenD y = lenD x)) (x :: xs)
            (repeat (first | with_reducible exact fLenL _ | walk_at "e"))
          | false =>
            rw [ga] at hf
            rw [Bool.false_and]
            (repeat (first | with_reducible exact fLenL _ | walk_at "e"))
        · have g2 : decide (((x :: xs).length : Int) ≤ 12) = false := decide_eq_false (by omega)
          show _ = Out.ok (D.bl (decide ((x :: xs).length ≤ 12) && (x :: xs).all isRow && (x :: xs).all (fun y => decide (lenD y = lenD x))))
          rw [decide_eq_false h12, Bool.false_and, Bool.false_and]
          (repeat (first | with_reducible exact fLenL _ | walk_at "e"))
  · have i1 := isaList h fun xs e => hl ⟨xs, e⟩
    have hr : isTab d = false := by cases d <;> first | rfl | exact absurd ⟨_, rfl⟩ hl
    rw [hr]
    (repeat walk_at "e")
theorem deal_no {c : Str} {d : D} (h : Pl d) (hn : inR 1 6 d = false) : i_Deal_init c [] [d] = .exc (.err "NoClerk") := by
  have hw := within_gen h 1 6
  rw [hn] at hw
  rw [u_Deal_init]
  unfold T_Deal_init
  refine r_selfX (r_seqX (r_if (b := !false) (by (repeat walk_at "e")) ?_))
  refine r_iteT rfl (r_raise (xs := [.str _]) (by (repeat walk_at "e")) (by decide))
theorem bun_no {c : Str} {d : D} (h : Pl d) (hn : inR 1 12 d = false) : i_Bundle_init c [] [d] = .exc (.err "NoClerk") := by
  have hw := within_gen h 1 12
  rw [hn] at hw
  rw [u_Bundle_init]
  unfold T_Bundle_init
  refine r_selfX (r_seqX (r_if (b := !false) (by (repeat walk_at "e")) ?_))
  refine r_iteT rfl (r_raise (xs := [.str _]) (by (repeat walk_at "e")) (by decide))
theorem copy_no {c : Str} {d : D} (h : Pl d) (hn : isRow d = false) : i_Copy_init c [] [d] = .exc (.err "NoClerk") := by
  have hw := isrow_gen h
  rw [hn] at hw
  rw [u_Copy_init]
  unfold T_Copy_init
  refine r_selfX (r_seqX (r_if (b := !false) (by (repeat walk_at "e")) ?_))
  refine r_iteT rfl (r_raise (xs := [.str _]) (by (repeat walk_at "e")) (by decide))
theorem rows_no {c : Str} {d : D} (h : Pl d) (hn : isTab d = false) : i_Rows_init c [] [d] = .exc (.err "NoClerk") := by
  have hw := istab_gen h
  rw [hn] at hw
  rw [u_Rows_init]
  unfold T_Rows_init
  refine r_selfX (r_seqX (r_if (b := !false) (by (repeat walk_at "e")) ?_))
  refine r_iteT rfl (r_raise (xs := [.str _]) (by (repeat walk_at "e")) (by decide))
theorem outs_ok {c : Str} (hc : cls_all.contains c = true) {t : List (List Int)} {m : Nat} (h : Tb t m) : b_Clerk_outs [.ins c (ckF t m)] = .ok (.int (m : Int)) := by
  have n1 := h.n1
  have r0 : t[0]? = some t[0] := by simp
  have hr0 : (t[0]).length = m := h.row _ (List.getElem_mem _)
  have hix0 : dIx (tbD t) (.int 0) = .ok (dl t[0]) := ixL 0 (by rw [List.getElem?_map, r0]; rfl)
  have hl0 : fLen [dl t[0]] = .ok (.int (m : Int)) := by simp [fLen, dl, hr0]
  have hf : dFld cls_all "table" (.ins c (ckF t m)) = .ok (tbD t) := fld_t hc t m
  rw [u_Clerk_outs]
  unfold T_Clerk_outs
  (repeat walk_at "e")
def Good (d : D) (k : Int) : Prop := ∃ c t m, cls_all.contains c = true ∧ Tb t m ∧ b_law_made [d, .int k] = .ok (.ins c (ckF t m)) ∧ b_law_due [d, .int k] = .ok (.tup [.int (t.length : Int), .int (m : Int)])
def Bad (d : D) (k : Int) : Prop := b_law_made [d, .int k] = .exc (.err "NoClerk") ∧ b_law_due [d, .int k] = .ok .non
theorem kd (i j : Int) (b : Bool) (h : decide (i = j) = b) : dEq (.int i) (.int j) = .ok (.bl b) := by rw [dEq_int, h]
theorem num_due {d : D} (h : Pl d) {k : Int} {b : Int} (hk : k < 2) (hix : dIx (.lst [.int 6, .int 12]) (.int k) = .ok (.int b)) (hn : inR 1 b d = false) : b_law_due [d, .int k] = .ok .non := by
  have hw := lwhole_gen h
  have g0 : decide (k < 2) = true := decide_eq_true hk
  rw [u_law_due]
  unfold T_law_due
  by_cases hi : ∃ i, d = .int i
  · obtain ⟨i, rfl⟩ := hi
    have hn : (decide (1 ≤ i) && decide (i ≤ b)) = false := hn
    have hw : b_law_whole [.int i] = .ok (.bl true) := hw
    by_cases e : i < 1
    · have g1 : decide (i < 1) = true := decide_eq_true e
      (repeat walk_at "e")
    · have g1 : decide (i < 1) = false := decide_eq_false e
      have g2 : decide (b < i) = true := by
        rw [decide_eq_true (show 1 ≤ i by omega), Bool.true_and, decide_eq_false_iff_not] at hn
        exact decide_eq_true (by omega)
      (repeat walk_at "e")
  · have hf : isI d = false := by cases d <;> first | rfl | exact absurd ⟨_, rfl⟩ hi
    rw [hf] at hw
    (repeat walk_at "e")
theorem num_good {i k b : Int} {r : D} (hk : k < 2) (hix : dIx (.lst [.int 6, .int 12]) (.int k) = .ok (.int b)) (h1 : 1 ≤ i) (h2 : i ≤ b) (hr : dIx (.lst [.tup [.int i, .int i], .tup [.int i, .int 1]]) (.int k) = .ok r) : b_law_due [.int i, .int k] = .ok r := by
  have hw : b_law_whole [.int i] = .ok (.bl true) := lwhole_gen (.int i)
  have g0 : decide (k < 2) = true := decide_eq_true hk
  have g1 : decide (i < 1) = false := decide_eq_false (by omega)
  have g2 : decide (b < i) = false := decide_eq_false (by omega)
  rw [u_law_due]
  unfold T_law_due
  (repeat walk_at "e")
theorem kind0 {d : D} (h : Pl d) : Good d 0 ∨ Bad d 0 := by
  have e0 := kd 0 0 true (by decide)
  cases hr : inR 1 6 d with
  | true =>
    cases d with
    | int i =>
      have hr : (decide (1 ≤ i) && decide (i ≤ 6)) = true := hr
      rw [Bool.and_eq_true, decide_eq_true_eq, decide_eq_true_eq] at hr
      obtain ⟨n, rfl⟩ : ∃ n : Nat, i = n := ⟨i.toNat, by omega⟩
      have hi := deal_init (c := "Deal") (by decide +kernel) (n := n) (by omega) (by omega)
      have hl : (dealT n).length = n := by simp [dealT]
      refine .inl ⟨"Deal", dealT n, n, by decide +kernel, tb_deal (by omega) (by omega), ?_, ?_⟩
      · rw [u_law_made]
        unfold T_law_made
        (repeat walk_at "e")
      · rw [hl]
        exact num_good (b := 6) (by decide) (ixL 0 rfl) (by omega) (by omega) (ixL 0 rfl)
    | _ => cases hr
  | false =>
    have hi := deal_no (c := "Deal") h hr
    refine .inr ⟨?_, num_due h (by decide) (ixL 0 rfl) hr⟩
    rw [u_law_made]
    unfold T_law_made
    refine r_bodyX (r_seqX (r_if (b := true) (by (repeat walk_at "e")) (r_iteT rfl (r_retFX (r_makeX (xs := [d]) (by (repeat walk_at "e")) hi)))))
theorem kind1 {d : D} (h : Pl d) : Good d 1 ∨ Bad d 1 := by
  have e0 := kd 1 0 false (by decide)
  have e1' := kd 1 1 true (by decide)
  cases hr : inR 1 12 d with
  | true =>
    cases d with
    | int i =>
      have hr : (decide (1 ≤ i) && decide (i ≤ 12)) = true := hr
      rw [Bool.and_eq_true, decide_eq_true_eq, decide_eq_true_eq] at hr
      obtain ⟨n, rfl⟩ : ∃ n : Nat, i = n := ⟨i.toNat, by omega⟩
      have hi := bun_init (c := "Bundle") (by decide +kernel) (n := n) (by omega) (by omega)
      have hl : (bunT n).length = n := by simp [bunT]
      refine .inl ⟨"Bundle", bunT n, 1, by decide +kernel, tb_bun (by omega) (by omega), ?_, ?_⟩
      · rw [u_law_made]
        unfold T_law_made
        (repeat walk_at "e")
      · rw [hl]
        exact num_good (b := 12) (by decide) (ixL 1 rfl) (by omega) (by omega) (ixL 1 rfl)
    | _ => cases hr
  | false =>
    have hi := bun_no (c := "Bundle") h hr
    refine .inr ⟨?_, num_due h (by decide) (ixL 1 rfl) hr⟩
    rw [u_law_made]
    unfold T_law_made
    refine r_bodyX (r_seq (fl := .nx [some (.k, d), some (.k, .int 1)]) (by (repeat walk_at "e")) (r_then (r_seqX (r_if (b := true) (by (repeat walk_at "e")) (r_iteT rfl (r_retFX (r_makeX (xs := [d]) (by (repeat walk_at "e")) hi)))))))
theorem kind2 {d : D} (h : Pl d) : Good d 2 ∨ Bad d 2 := by
  have e0 := kd 2 0 false (by decide)
  have e1' := kd 2 1 false (by decide)
  have e2' := kd 2 2 true (by decide)
  have g0 : decide ((2 : Int) < 2) = false := by decide
  have hw := lrow_gen h
  cases hr : isRow d with
  | true =>
    rw [hr] at hw
    obtain ⟨r, rfl, r6, r9⟩ := row_of hr
    have tb : Tb [r] r.length := ⟨by simp, by simp, r6, fun x hx => by rw [List.mem_singleton.mp hx], fun x hx => by rw [List.mem_singleton.mp hx]; exact r9⟩
    have hi := copy_init (c := "Copy") (by decide +kernel) tb
    have hl : fLen [dl r] = .ok (.int (r.length : Int)) := by simp [fLen, dl]
    refine .inl ⟨"Copy", [r], r.length, by decide +kernel, tb, ?_, ?_⟩
    · rw [u_law_made]
      unfold T_law_made
      (repeat walk_at "e")
    · rw [u_law_due]
      unfold T_law_due
      show _ = Out.ok (D.tup [.int 1, .int (r.length : Int)])
      (repeat walk_at "e")
  | false =>
    rw [hr] at hw
    have hi := copy_no (c := "Copy") h hr
    refine .inr ⟨?_, ?_⟩
    · rw [u_law_made]
      unfold T_law_made
      refine r_bodyX (r_seq (fl := .nx [some (.k, d), some (.k, .int 2)]) (by (repeat walk_at "e")) (r_then (r_seq (fl := .nx [some (.k, d), some (.k, .int 2)]) (by (repeat walk_at "e")) (r_then (r_seqX (r_if (b := true) (by (repeat walk_at "e")) (r_iteT rfl (r_retFX (r_makeX (xs := [d]) (by (repeat walk_at "e")) hi)))))))))
    · rw [u_law_due]
      unfold T_law_due
      (repeat walk_at "e")
theorem kind3 {d : D} (h : Pl d) : Good d 3 ∨ Bad d 3 := by
  have e0 := kd 3 0 false (by decide)
  have e1' := kd 3 1 false (by decide)
  have e2' := kd 3 2 false (by decide)
  have g0 : decide ((3 : Int) < 2) = false := by decide
  have made : ∀ x, i_Rows_init "Rows" [] [d] = .exc x → b_law_made [d, .int 3] = .exc x := fun x hi => by
    rw [u_law_made]
    unfold T_law_made
    refine r_bodyX (r_seq (fl := .nx [some (.k, d), some (.k, .int 3)]) (by (repeat walk_at "e")) (r_then (r_seq (fl := .nx [some (.k, d), some (.k, .int 3)]) (by (repeat walk_at "e")) (r_then (r_seq (fl := .nx [some (.k, d), some (.k, .int 3)]) (by (repeat walk_at "e")) (r_then (r_retFX (r_makeX (xs := [d]) (by (repeat walk_at "e")) hi))))))))
  by_cases hl : ∃ xs, d = .lst xs
  · obtain ⟨ys, rfl⟩ := hl
    have hP := h
    cases h with
    | lst _ hn hx =>
      have i1 := isaL ys
      cases ys with
      | nil =>
        refine .inr ⟨made _ (rows_no hP rfl), ?_⟩
        have g : decide ((([] : List D).length : Int) < 1) = true := by decide
        rw [u_law_due]
        unfold T_law_due
        (repeat (first | with_reducible exact fLenL _ | walk_at "e"))
      | cons x xs =>
        have g1 : decide (((x :: xs).length : Int) < 1) = false := decide_eq_false (by simp; omega)
        by_cases h12 : (x :: xs).length ≤ 12
        · have g2 : decide ((12 : Int) < ((x :: xs).length : Int)) = false := decide_eq_false (by omega)
          have hits : itL (eVar 0) [some (.k, .lst (x :: xs)), some (.k, .int 3), none] = .ok (x :: xs) := rfl
          have hix : dIx (.lst (x :: xs)) (.int 0) = .ok x := ixL 0 rfl
          cases hr0 : isRow x with
          | false =>
            have hw := lrow_gen (hx x (List.mem_cons_self ..))
            rw [hr0] at hw
            refine .inr ⟨made _ (rows_no hP ?_), ?_⟩
            · show (decide ((x :: xs).length ≤ 12) && (x :: xs).all isRow && (x :: xs).all (fun y => decide (lenD y = lenD x))) = false
              rw [List.all_cons, hr0, Bool.false_and, Bool.and_false, Bool.false_and]
            · have hL : loopD (fun x ς => gN 2 x ς >>= fun ς' => L_law_due_0 ς') (x :: xs) [some (.k, .lst (x :: xs)), some (.k, .int 3), none] = .ok (.rt false .non) := by
                have : (gN 2 x [some (.k, .lst (x :: xs)), some (.k, .int 3), none] >>= fun ς' => L_law_due_0 ς') = .ok (.rt false .non) := by
                  refine r_gN (by walk_at "s") ?_
                  unfold L_law_due_0
                  (repeat walk_at "e")
                rw [loopD, this]; rfl
              rw [u_law_due]
              unfold T_law_due
              (repeat (first | with_reducible exact fLenL _ | walk_at "e"))
          | true =>
            obtain ⟨r0, rfl, r6, r9⟩ := row_of hr0
            have hl0 : fLen [dl r0] = .ok (.int (r0.length : Int)) := by simp [fLen, dl]
            have L := loop_chk (body := fun x ς => gN 2 x ς >>= fun ς' => L_law_due_0 ς') (P := fun ς => ∃ a2, ς = [some (.k, .lst (dl r0 :: xs)), some (.k, .int 3), a2]) (good := fun y => isRow y && decide (lenD y = lenD (dl r0))) (v := .non) (xs := dl r0 :: xs)
              (by
                rintro y hy ς ⟨a2, rfl⟩
                have hw := lrow_gen (hx y hy)
                refine ⟨fun gd => ⟨[some (.k, .lst (dl r0 :: xs)), some (.k, .int 3), some (.k, y)], ?_, _, rfl⟩, fun gd => ?_⟩
                · rw [Bool.and_eq_true, decide_eq_true_eq] at gd
                  obtain ⟨r, rfl, _, _⟩ := row_of gd.1
                  rw [gd.1] at hw
                  have hm : r.length = r0.length := by have := gd.2; simpa [lenD, dl] using this
                  have hly : fLen [dl r] = .ok (.int (r0.length : Int)) := by simp [fLen, dl, hm]
                  have hne : dNe (.int (r0.length : Int)) (.int (r0.length : Int)) = .ok (.bl false) := by rw [dNe_int]; simp
                  refine r_gN (by walk_at "s") ?_
                  unfold L_law_due_0
                  (repeat walk_at "e")
                · refine r_gN (by walk_at "s") ?_
                  unfold L_law_due_0
                  cases hry : isRow y with
                  | false =>
                    rw [hry] at hw
                    (repeat walk_at "e")
                  | true =>
                    rw [hry] at hw
                    rw [hry, Bool.true_and, decide_eq_false_iff_not] at gd
                    obtain ⟨r, rfl, _, _⟩ := row_of hry
                    have hm : ¬ r.length = r0.length := by simpa [lenD, dl] using gd
                    have hly : fLen [dl r] = .ok (.int (r.length : Int)) := by simp [fLen, dl]
                    have hne : dNe (.int (r.length : Int)) (.int (r0.length : Int)) = .ok (.bl true) := by rw [dNe_int, decide_eq_false (by omega)]; rfl
                    (repeat walk_at "e"))
              [some (.k, .lst (dl r0 :: xs)), some (.k, .int 3), none] ⟨_, rfl⟩
            have htab : isTab (.lst (dl r0 :: xs)) = (dl r0 :: xs).all (fun y => isRow y && decide (lenD y = lenD (dl r0))) := by
              show (decide ((dl r0 :: xs).length ≤ 12) && (dl r0 :: xs).all isRow && (dl r0 :: xs).all (fun y => decide (lenD y = lenD (dl r0)))) = _
              rw [decide_eq_true h12, Bool.true_and]
              generalize dl r0 :: xs = zs
              induction zs with
              | nil => rfl
              | cons z zs ih =>
                simp only [List.all_cons, ← ih]
                cases isRow z <;> cases decide (lenD z = lenD (dl r0)) <;> simp
            cases ga : (dl r0 :: xs).all (fun y => isRow y && decide (lenD y = lenD (dl r0))) with
            | true =>
              obtain ⟨ς', hL, a2, rfl⟩ := L.1 ga
              rw [ga] at htab
              obtain ⟨t, m, e, tb⟩ := tab_of htab
              have hi := rows_init (c := "Rows") (by decide +kernel) tb
              have hm : r0.length = m := by
                have n1 := tb.n1
                have e' : dl r0 :: xs = t.map dl := by unfold tbD at e; injection e
                cases t with
                | nil => simp at n1
                | cons r t =>
                  rw [List.map_cons] at e'
                  injection e' with e1' _
                  have : r0.length = r.length := by
                    have := congrArg lenD e1'
                    simpa [lenD, dl] using this
                  rw [this]; exact tb.row r (List.mem_cons_self ..)
              have hlen : (dl r0 :: xs).length = t.length := by
                have e' : dl r0 :: xs = t.map dl := by unfold tbD at e; injection e
                rw [e', List.length_map]
              rw [← e] at hi
              refine .inl ⟨"Rows", t, m, by decide +kernel, tb, ?_, ?_⟩
              · rw [u_law_made]
                unfold T_law_made
                (repeat walk_at "e")
              · rw [← hlen, ← hm]
                rw [u_law_due]
                unfold T_law_due
                (repeat (first | with_reducible exact fLenL (dl r0 :: xs) | walk_at "e"))
            | false =>
              have hL := L.2 ga
              rw [ga] at htab
              refine .inr ⟨made _ (rows_no hP htab), ?_⟩
              rw [u_law_due]
              unfold T_law_due
              (repeat (first | with_reducible exact fLenL _ | walk_at "e"))
        · have g2 : decide ((12 : Int) < ((x :: xs).length : Int)) = true := decide_eq_true (by omega)
          refine .inr ⟨made _ (rows_no hP ?_), ?_⟩
          · show (decide ((x :: xs).length ≤ 12) && (x :: xs).all isRow && (x :: xs).all (fun y => decide (lenD y = lenD x))) = false
            rw [decide_eq_false h12, Bool.false_and, Bool.false_and]
          · rw [u_law_due]
            unfold T_law_due
            (repeat (first | with_reducible exact fLenL _ | walk_at "e"))
  · have i1 := isaList h fun xs e => hl ⟨xs, e⟩
    have hr : isTab d = false := by cases d <;> first | rfl | exact absurd ⟨_, rfl⟩ hl
    refine .inr ⟨made _ (rows_no h hr), ?_⟩
    rw [u_law_due]
    unfold T_law_due
    (repeat walk_at "e")
theorem isaE_ok (b : Bool) : isaE [("NoClerk", b)] (.err "NoClerk") = .ok b := by cases b <;> rfl
theorem kinds_ok : b_law_kinds [.err "NoClerk"] = .ok (.int 1) := by
  have c1 : dCat (.lst [.bl false, .bl true, .bl false, .bl false]) (.lst [.bl false, .bl false, .bl false, .bl false]) = .ok (.lst [.bl false, .bl true, .bl false, .bl false, .bl false, .bl false, .bl false, .bl false]) := by rw [dCat_ok (by decide)]; rfl
  have c2 : dCat (.lst [.bl false, .bl true, .bl false, .bl false, .bl false, .bl false, .bl false, .bl false]) (.lst [.bl false, .bl false, .bl false, .bl false]) = .ok (.lst [.bl false, .bl true, .bl false, .bl false, .bl false, .bl false, .bl false, .bl false, .bl false, .bl false, .bl false, .bl false]) := by rw [dCat_ok (by decide)]; rfl
  have c3 : dCat (.lst [.bl false, .bl true, .bl false, .bl false, .bl false, .bl false, .bl false, .bl false, .bl false, .bl false, .bl false, .bl false]) (.lst [.bl false]) = .ok (.lst [.bl false, .bl true, .bl false, .bl false, .bl false, .bl false, .bl false, .bl false, .bl false, .bl false, .bl false, .bl false, .bl false]) := by rw [dCat_ok (by decide)]; rfl
  have h1 : fCountB [.bl false, .bl true, .bl false, .bl false, .bl false, .bl false, .bl false, .bl false, .bl false, .bl false, .bl false, .bl false, .bl false] (.bl true) = .ok (.int 1) := by rfl
  have h2 : fIndexB [.bl false, .bl true, .bl false, .bl false, .bl false, .bl false, .bl false, .bl false, .bl false, .bl false, .bl false, .bl false, .bl false] (.bl true) = .ok (.int 1) := by rfl
  have n1 : dNe (.int 1) (.int 1) = .ok (.bl false) := by rw [dNe_int]; rfl
  rw [u_law_kinds]
  unfold T_law_kinds
  (repeat (first | with_reducible exact isaE_ok _ | walk_at "e"))
theorem found_good {d : D} {k : Int} (h : Good d k) : ∃ a b : Int, b_law_found [d, .int k] = .ok (.tup [.int a, .int b]) ∧ b_law_due [d, .int k] = .ok (.tup [.int a, .int b]) := by
  obtain ⟨c, t, m, hc, tb, hm, hd⟩ := h
  refine ⟨t.length, m, ?_, hd⟩
  have hp : b_Clerk_period [.ins c (ckF t m)] = .ok (.int (t.length : Int)) := period_ok hc t m
  have ho := outs_ok hc tb
  have l1 : (ckF t m).lookup ("period" : Str) = none := look_no (by decide +kernel) (by decide +kernel) t m
  have l2 : (ckF t m).lookup ("outs" : Str) = none := look_no (by decide +kernel) (by decide +kernel) t m
  have e1' : dEq (.int (-2)) (.int (-2)) = .ok (.bl true) := by rw [dEq_int]; rfl
  have ht : sTry ["NoClerk"] 4 (xSet 2 (xCall (fun xs => b_law_made (xs ++ [])) (aCons (eVar 0) (aCons (eVar 1) aNil)))) (sSet 3 (eA (fun xs => b_law_kinds (xs ++ [])) (aCons (eVar 4) aNil))) [some (.k, d), some (.k, .int k), some (.k, .non), some (.k, .int (-2)), none]
      = .ok (.nx [some (.k, d), some (.k, .int k), some (.k, .ins c (ckF t m)), some (.k, .int (-2)), none]) := by
    refine r_tryOk (r_xSetOk (xs := [d, .int k]) (by (repeat walk_at "e")) ?_ (by walk_at "s"))
    show b_law_made ([d, .int k] ++ []) = _
    rw [List.append_nil]; exact hm
  rw [u_law_found]
  unfold T_law_found
  (repeat walk_at "e")
theorem found_bad {d : D} {k : Int} (h : Bad d k) : b_law_found [d, .int k] = .ok .non := by
  have hk := kinds_ok
  have e1' : dEq (.int 1) (.int (-2)) = .ok (.bl false) := by rw [dEq_int]; rfl
  have e2' : dEq (.int 1) (.int 1) = .ok (.bl true) := by rw [dEq_int]; rfl
  have ht : sTry ["NoClerk"] 4 (xSet 2 (xCall (fun xs => b_law_made (xs ++ [])) (aCons (eVar 0) (aCons (eVar 1) aNil)))) (sSet 3 (eA (fun xs => b_law_kinds (xs ++ [])) (aCons (eVar 4) aNil))) [some (.k, d), some (.k, .int k), some (.k, .non), some (.k, .int (-2)), none]
      = .ok (.nx [some (.k, d), some (.k, .int k), some (.k, .non), some (.k, .int 1), none]) := by
    refine r_tryEx (c := "NoClerk") (f := .nx [some (.k, d), some (.k, .int k), some (.k, .non), some (.k, .int 1), some (.k, .err "NoClerk")]) (r_xSetEx (xs := [d, .int k]) (by (repeat walk_at "e")) ?_) (by decide +kernel) (by walk_at "s") (by (repeat walk_at "e"))
    show b_law_made ([d, .int k] ++ []) = _
    rw [List.append_nil]; exact h.1
  rw [u_law_found]
  unfold T_law_found
  (repeat walk_at "e")
theorem ixD {xs : List D} {i : Int} (h0 : 0 ≤ i) (h1 : i < xs.length) : ∃ d, d ∈ xs ∧ dIx (.lst xs) (.int i) = .ok d := by
  obtain ⟨n, rfl⟩ : ∃ n : Nat, i = n := ⟨i.toNat, by omega⟩
  have hn : n < xs.length := by omega
  exact ⟨xs[n], List.getElem_mem hn, ixL n (List.getElem?_eq_getElem hn)⟩
theorem pl_one (i : Int) : Pl (.lst [.int i]) := .lst _ (by simp) fun x hx => by rw [List.mem_singleton.mp hx]; exact .int i
theorem h59 : dPow (.int 10) (.int 59) = .ok (.int 100000000000000000000000000000000000000000000000000000000000) := by rw [dPow_ok (by decide)]; rfl
theorem number_ok (c : Int) : ∃ d, b_law_number [.int c] = .ok d ∧ Pl d := by
  have q1 := mixL (c := c) 1 rfl
  have q2 := mixL (c := c) 2 rfl
  have q3 := mixL (c := c) 3 rfl
  have p59 := h59
  by_cases e : 0 < mixV c 1 % 4
  · have e' : decide (0 < mixV c 1 % 4) = true := decide_eq_true e
    refine ⟨.int (mixV c 2 % 16 - 1), ?_, .int _⟩
    rw [u_law_number]
    unfold T_law_number
    (repeat walk_at "e")
  · have e' : decide (0 < mixV c 1 % 4) = false := decide_eq_false e
    obtain ⟨d, hd, hi⟩ := ixD (xs := [.int (13 + c / 7 % 100000000000000000000000000000000000000000000000000000000000), .int (-1 - c / 7 % 100000000000000000000000000000000000000000000000000000000000), .bl true, .bl false, .non, .str "3", .lst [.int 3]]) (i := mixV c 3 % 7) (Int.emod_nonneg _ (by decide)) (Int.emod_lt_of_pos (mixV c 3) (b := 7) (by decide))
    refine ⟨d, ?_, ?_⟩
    · rw [u_law_number]
      unfold T_law_number
      (repeat walk_at "e")
    · simp only [List.mem_cons, List.not_mem_nil, or_false] at hd
      rcases hd with rfl | rfl | rfl | rfl | rfl | rfl | rfl
      · exact .int _
      · exact .int _
      · exact .bl _
      · exact .bl _
      · exact .non
      · exact .str _
      · exact pl_one 3
theorem odd_ok (c : Int) : ∃ d, b_law_odd [.int c] = .ok d ∧ Pl d := by
  have q4 := mixL (c := c) 4 rfl
  have p59 := h59
  obtain ⟨d, hd, hi⟩ := ixD (xs := [.int (-1), .int 10, .int (10 + c / 7 % 100000000000000000000000000000000000000000000000000000000000), .int (-1 - c / 7 % 100000000000000000000000000000000000000000000000000000000000), .bl true, .bl false, .str "1", .non, .lst [.int 1], .int 9]) (i := mixV c 4 % 10) (Int.emod_nonneg _ (by decide)) (Int.emod_lt_of_pos (mixV c 4) (b := 10) (by decide))
  refine ⟨d, ?_, ?_⟩
  · rw [u_law_odd]
    unfold T_law_odd
    (repeat walk_at "e")
  · simp only [List.mem_cons, List.not_mem_nil, or_false] at hd
    rcases hd with rfl | rfl | rfl | rfl | rfl | rfl | rfl | rfl | rfl | rfl
    · exact .int _
    · exact .int _
    · exact .int _
    · exact .int _
    · exact .bl _
    · exact .bl _
    · exact .str _
    · exact .non
    · exact pl_one 1
    · exact .int _
theorem counts_ok (c : Int) {m : Nat} (hm : m ≤ 20) : ∃ xs : List D, b_law_counts [.int c, .int (m : Int)] = .ok (.lst xs) ∧ xs.length = m ∧ ∀ x ∈ xs, Pl x := by
  have q5 := mixL (c := c) 5 rfl
  have q6 := mixL (c := c) 6 rfl
  have hc : eComp [none, some 0] (itR1 (eVar 1)) (gN 0) cTrue X_law_counts_0 [some (.k, .int c), some (.k, .int (m : Int)), none] = .ok (.lst ((List.range m).map fun k : Nat => D.int (mixV c (20 + (k : Int)) % 10))) := by
    refine comp_rng (fun k => D.int (mixV c (20 + (k : Int)) % 10)) (rng_ok m rfl (by omega)) (fun k hk => ?_) (by omega)
    refine r_turn (by walk_at "cap") (by walk_at "s") ?_
    unfold X_law_counts_0
    have q := mix_ok (c := c) (k := 20 + (k : Int)) (Nat.le_trans (bits_of (by omega : (20 + (k : Int)).natAbs < 2 ^ 100)) (by decide))
    (repeat walk_at "e")
  have hp : ∀ x ∈ (List.range m).map fun k : Nat => D.int (mixV c (20 + (k : Int)) % 10), Pl x := fun x hx => by obtain ⟨k, _, rfl⟩ := List.mem_map.mp hx; exact .int _
  by_cases h0 : 0 < (m : Int)
  · have g0 : decide (0 < (m : Int)) = true := decide_eq_true h0
    by_cases e : mixV c 5 % 3 = 0
    · have g1 : decide (mixV c 5 % 3 = 0) = true := decide_eq_true e
      obtain ⟨d, hd, hpd⟩ := odd_ok c
      have z0 := Int.emod_nonneg (mixV c 6) (show (m : Int) ≠ 0 by omega)
      have z1 := Int.emod_lt_of_pos (mixV c 6) h0
      obtain ⟨j, hj⟩ : ∃ j : Nat, mixV c 6 % (m : Int) = j := ⟨(mixV c 6 % (m : Int)).toNat, by omega⟩
      have hixn : ixN ((List.range m).map fun k : Nat => D.int (mixV c (20 + (k : Int)) % 10)).length (mixV c 6 % (m : Int)) = some j := by
        rw [List.length_map, List.length_range, hj]
        unfold ixN
        rw [if_pos (by omega), if_pos (by omega)]; simp
      have hmod : dMod (.int (mixV c 6)) (.int (m : Int)) = .ok (.int (mixV c 6 % (m : Int))) := dMod_pos h0
      refine ⟨((List.range m).map fun k : Nat => D.int (mixV c (20 + (k : Int)) % 10)).set j d, ?_, by simp, fun x hx => ?_⟩
      · rw [u_law_counts]
        unfold T_law_counts
        (repeat walk_at "e")
      · rcases List.mem_or_eq_of_mem_set hx with h | h
        · exact hp x h
        · rw [h]; exact hpd
    · have g1 : decide (mixV c 5 % 3 = 0) = false := decide_eq_false e
      refine ⟨_, ?_, by simp, hp⟩
      rw [u_law_counts]
      unfold T_law_counts
      (repeat walk_at "e")
  · have g0 : decide (0 < (m : Int)) = false := decide_eq_false h0
    refine ⟨_, ?_, by simp, hp⟩
    rw [u_law_counts]
    unfold T_law_counts
    (repeat walk_at "e")
theorem lay_ints : ∀ a : List Int, layDs (a.map .int) = true
  | [] => rfl
  | x :: xs => by show (layD (.int x) && layDs (xs.map .int)) = true; rw [lay_ints xs]; rfl
theorem dep_ints : ∀ a : List Int, deps (a.map .int) = 0
  | [] => rfl
  | x :: xs => by show max (dep (.int x)) (deps (xs.map .int)) = 0; rw [dep_ints xs]; rfl
theorem lay_tb : ∀ t : List (List Int), layDs (t.map dl) = true
  | [] => rfl
  | x :: xs => by show (layDs (x.map .int) && layDs (xs.map dl)) = true; rw [lay_tb xs, lay_ints x]; rfl
theorem dep_tb : ∀ t : List (List Int), deps (t.map dl) ≤ 1
  | [] => Nat.zero_le _
  | x :: xs => by
    show max (deps (x.map .int) + 1) (deps (xs.map dl)) ≤ 1
    have := dep_tb xs
    rw [dep_ints x]; omega
theorem ne_nil {t : List (List Int)} (h : t ≠ []) : dNe (.lst (t.map dl)) (.lst []) = .ok (.bl true) := by
  have h1 : shp (.lst (t.map dl)) = true := shp_of (d := .lst (t.map dl)) (lay_tb t) (by show deps (t.map dl) + 1 ≤ 64; have := dep_tb t; omega)
  have h2 : shp (.lst []) = true := shp_of (d := .lst []) rfl (by decide)
  rw [dNe_of h1 h2]
  cases t with
  | nil => exact absurd rfl h
  | cons r t => rfl
theorem dic0 {ς : SD} : eDic0 ς = .ok (.dic []) := rfl
theorem pl_ints {r : List Int} (h : r.length ≤ 100) : Pl (dl r) := .lst _ (by rw [List.length_map]; exact h) fun x hx => by obtain ⟨i, _, rfl⟩ := List.mem_map.mp hx; exact .int i
theorem rows_ok (c : Int) : ∃ xs : List D, b_law_rows [.int c] = .ok (.lst xs) ∧ xs.length ≤ 100 ∧ ∀ x ∈ xs, Pl x := by
  have q7 := mixL (c := c) 7 rfl
  have q8 := mixL (c := c) 8 rfl
  have q9 := mixL (c := c) 9 rfl
  have q10 := mixL (c := c) 10 rfl
  have q11 := mixL (c := c) 11 rfl
  obtain ⟨m, hm⟩ : ∃ m : Nat, mixV c 7 % 8 = (m : Int) := ⟨(mixV c 7 % 8).toNat, by have := Int.emod_nonneg (mixV c 7) (b := 8) (by decide); omega⟩
  have m7 : m ≤ 7 := by have := Int.emod_lt_of_pos (mixV c 7) (b := 8) (by decide); omega
  obtain ⟨n, hn⟩ : ∃ n : Nat, mixV c 8 % 15 = (n : Int) := ⟨(mixV c 8 % 15).toNat, by have := Int.emod_nonneg (mixV c 8) (b := 15) (by decide); omega⟩
  have n14 : n ≤ 14 := by have := Int.emod_lt_of_pos (mixV c 8) (b := 15) (by decide); omega
  have s1 : sSet 1 (e2 dMod (eA (fun xs => b_law_mix (xs ++ [])) (aCons (eVar 0) (aCons (eC (.int 7)) aNil))) (eC (.int 8))) [some (.k, .int c), none, none, none, none, none] = .ok (.nx [some (.k, .int c), some (.k, .int m), none, none, none, none]) := by
    rw [← hm]
    (repeat walk_at "e")
  obtain ⟨t, ht⟩ : ∃ t : List (List Int), t = (List.range n).map fun s : Nat => (List.range m).map fun k : Nat => mixV c (30 + 11 * (s : Int) + (k : Int)) % 10 := ⟨_, rfl⟩
  have tl : t.length = n := by rw [ht]; simp
  have trow : ∀ r ∈ t, r.length = m := fun r hr => by rw [ht] at hr; obtain ⟨s, _, rfl⟩ := List.mem_map.mp hr; simp
  have hc : eComp [none, some 1, some 0] (itR1 (e2 dMod (eA (fun xs => b_law_mix (xs ++ [])) (aCons (eVar 0) (aCons (eC (.int 8)) aNil))) (eC (.int 15)))) (gN 0) cTrue X_law_rows_1 [some (.k, .int c), some (.k, .int m), none, none, none, none] = .ok (.lst (t.map dl)) := by
    have he : t.map dl = (List.range n).map fun s : Nat => D.lst ((List.range m).map fun k : Nat => D.int (mixV c (30 + 11 * (s : Int) + (k : Int)) % 10)) := by
      rw [ht, List.map_map]
      apply List.map_congr_left
      intro s _
      show dl _ = _
      unfold dl; rw [List.map_map]; rfl
    rw [he]
    refine comp_rng (fun s => D.lst ((List.range m).map fun k : Nat => D.int (mixV c (30 + 11 * (s : Int) + (k : Int)) % 10))) (rng_ok n (by rw [← hn]; (repeat walk_at "e")) (by omega)) (fun s hs => ?_) (by omega)
    refine r_turn (by walk_at "cap") (by walk_at "s") ?_
    unfold X_law_rows_1
    refine comp_rng (fun k => D.int (mixV c (30 + 11 * (s : Int) + (k : Int)) % 10)) (rng_ok m rfl (by omega)) (fun k hk => ?_) (by omega)
    refine r_turn (by walk_at "cap") (by walk_at "s") ?_
    unfold X_law_rows_0
    have q := mix_ok (c := c) (k := 30 + 11 * (s : Int) + (k : Int)) (Nat.le_trans (bits_of (by omega : (30 + 11 * (s : Int) + (k : Int)).natAbs < 2 ^ 100)) (by decide))
    have b7 : bitsI (s : Int) ≤ 100 := bits_of (by omega)
    (repeat walk_at "e")
  have hpl : ∀ x ∈ t.map dl, Pl x := fun x hx => by
    obtain ⟨r, hr, rfl⟩ := List.mem_map.mp hx
    exact pl_ints (by rw [trow r hr]; omega)
  have hlen : (t.map dl).length ≤ 100 := by rw [List.length_map]; omega
  by_cases h0 : t = []
  · have hne : dNe (.lst (t.map dl)) (.lst []) = .ok (.bl false) := by
      subst h0
      show dNe (.lst []) (.lst []) = _
      have h2 : shp (.lst []) = true := shp_of (d := .lst []) rfl (by decide)
      rw [dNe_of h2 h2]; rfl
    refine ⟨t.map dl, ?_, hlen, hpl⟩
    rw [u_law_rows]
    unfold T_law_rows
    (repeat walk_at "e")
  have hne := ne_nil h0
  have npos : 0 < n := by
    cases t with
    | nil => exact absurd rfl h0
    | cons r t => rw [← tl]; simp
  by_cases e9 : 0 < mixV c 9 % 3
  · have g9 : decide (0 < mixV c 9 % 3) = true := decide_eq_true e9
    have z0 := Int.emod_nonneg (mixV c 10) (show (n : Int) ≠ 0 by omega)
    have z1 := Int.emod_lt_of_pos (mixV c 10) (show (0 : Int) < (n : Int) by omega)
    obtain ⟨a, ha⟩ : ∃ a : Nat, mixV c 10 % (n : Int) = a := ⟨(mixV c 10 % (n : Int)).toNat, by omega⟩
    have an : a < t.length := by omega
    have hflen : fLen [.lst (t.map dl)] = .ok (.int (n : Int)) := by rw [fLenL, List.length_map, tl]
    have s3 : ∀ a2, sSet 3 (e2 dMod (eA (fun xs => b_law_mix (xs ++ [])) (aCons (eVar 0) (aCons (eC (.int 10)) aNil))) (eA fLen (aCons (eVarB 2) aNil))) [some (.k, .int c), some (.k, .int m), some (.o, .lst (t.map dl)), none, none, a2] = .ok (.nx [some (.k, .int c), some (.k, .int m), some (.o, .lst (t.map dl)), some (.k, .int a), none, a2]) := fun a2 => by
      have hmod : dMod (.int (mixV c 10)) (.int (n : Int)) = .ok (.int (mixV c 10 % (n : Int))) := dMod_pos (by omega)
      rw [← ha]
      (repeat walk_at "e")
    have hat : atI (t.map dl) (a : Int) = some (dl t[a]) := atI_nat (by rw [List.getElem?_map, List.getElem?_eq_getElem an]; rfl)
    have hra : (t[a]).length = m := trow _ (List.getElem_mem _)
    obtain ⟨xs4, h4, l4, p4⟩ := counts_ok c (m := m) (by omega)
    have hcat : dCat (dl t[a]) (.lst [.int 1]) = .ok (.lst ((t[a]).map .int ++ [.int 1])) := by
      unfold dl; rw [dCat_ok (by simp; omega)]
    have htup : dTuple (dl t[a]) = .ok (.tup ((t[a]).map .int)) := rfl
    have hcut : cutD ((t[a]).map D.int) (some 1) none = ((t[a]).map D.int).drop 1 := cut_from _ 1
    have hsl : ∀ ς : SD, ς[2]? = some (some (.o, .lst (t.map dl))) → ς[3]? = some (some (.k, .int a)) → eSl (eIxO 2 (eVar 3)) (oSome (eC (.int 1))) oNo ς = .ok (.lst (((t[a]).map D.int).drop 1)) := fun ς h2 h3 =>
      r_sl (xs := (t[a]).map D.int) (r_ixO h2 (r_var h3) hat) (r_oSome r_C) r_oNo hcut
    obtain ⟨d, hd, hi⟩ := ixD (xs := [.lst ((t[a]).map .int ++ [.int 1]), .tup ((t[a]).map .int), .str "1", .non, .lst xs4, .lst (((t[a]).map D.int).drop 1), .lst xs4]) (i := mixV c 11 % 7) (Int.emod_nonneg _ (by decide)) (Int.emod_lt_of_pos (mixV c 11) (b := 7) (by decide))
    have hpd : Pl d := by
      have pi : ∀ x ∈ (t[a]).map D.int, Pl x := fun x hx => by obtain ⟨i, _, rfl⟩ := List.mem_map.mp hx; exact .int i
      simp only [List.mem_cons, List.not_mem_nil, or_false] at hd
      rcases hd with rfl | rfl | rfl | rfl | rfl | rfl | rfl
      · refine .lst _ (by simp; omega) fun x hx => ?_
        rcases List.mem_append.mp hx with h | h
        · exact pi x h
        · rw [List.mem_singleton.mp h]; exact .int _
      · exact .tup _
      · exact .str _
      · exact .non
      · exact .lst _ (by omega) p4
      · exact .lst _ (by simp; omega) fun x hx => pi x (List.mem_of_mem_drop hx)
      · exact .lst _ (by omega) p4
    have hixn : ixN (t.map dl).length (a : Int) = some a := by
      rw [List.length_map]
      unfold ixN
      rw [if_pos (by omega), if_pos (by omega)]; simp
    refine ⟨(t.map dl).set a d, ?_, by simp; omega, fun x hx => ?_⟩
    · rw [u_law_rows]
      unfold T_law_rows
      (repeat (first | with_reducible exact q9 | with_reducible exact q11 | with_reducible exact s3 _ | with_reducible exact hsl _ (by walk_at "g") (by walk_at "g") | walk_at "e"))
    · rcases List.mem_or_eq_of_mem_set hx with h | h
      · exact hpl x h
      · rw [h]; exact hpd
  · have g9 : decide (0 < mixV c 9 % 3) = false := decide_eq_false e9
    refine ⟨t.map dl, ?_, hlen, hpl⟩
    rw [u_law_rows]
    unfold T_law_rows
    (repeat walk_at "e")
theorem thing_low (c : Int) {k : Int} (hk : k < 2) : ∃ d, b_law_thing [.int c, .int k] = .ok d ∧ Pl d := by
  obtain ⟨d, hd, hp⟩ := number_ok c
  have g : decide (k < 2) = true := decide_eq_true hk
  refine ⟨d, ?_, hp⟩
  rw [u_law_thing]
  unfold T_law_thing
  (repeat walk_at "e")
theorem thing_high (c : Int) {k : Int} (hk : ¬ k < 2) : ∃ d, b_law_thing [.int c, .int k] = .ok d ∧ Pl d := by
  have q12 := mixL (c := c) 12 rfl
  have q13 := mixL (c := c) 13 rfl
  have q14 := mixL (c := c) 14 rfl
  have g : decide (k < 2) = false := decide_eq_false hk
  obtain ⟨m, hm⟩ : ∃ m : Nat, mixV c 12 % 9 = (m : Int) := ⟨(mixV c 12 % 9).toNat, by have := Int.emod_nonneg (mixV c 12) (b := 9) (by decide); omega⟩
  have m8 : m ≤ 8 := by have := Int.emod_lt_of_pos (mixV c 12) (b := 9) (by decide); omega
  obtain ⟨ys, hy, ly, py⟩ := counts_ok c (m := m) (by omega)
  have s2 : sSet 2 (eA (fun xs => b_law_counts (xs ++ [])) (aCons (eVar 0) (aCons (e2 dMod (eA (fun xs => b_law_mix (xs ++ [])) (aCons (eVar 0) (aCons (eC (.int 12)) aNil))) (eC (.int 9))) aNil))) [some (.k, .int c), some (.k, .int k), none] = .ok (.nx [some (.k, .int c), some (.k, .int k), some (.k, .lst ys)]) := by
    rw [← hm] at hy
    (repeat walk_at "e")
  obtain ⟨xs, hs, hx, px⟩ : ∃ xs : List D, sIf (tVal (e2 dEq (eVar 1) (eC (.int 3)))) (sSet 2 (eA (fun xs => b_law_rows (xs ++ [])) (aCons (eVar 0) aNil))) sNil [some (.k, .int c), some (.k, .int k), some (.k, .lst ys)] = .ok (.nx [some (.k, .int c), some (.k, .int k), some (.k, .lst xs)]) ∧ xs.length ≤ 100 ∧ ∀ x ∈ xs, Pl x := by
    by_cases h3 : k = 3
    · obtain ⟨xs, hr, hl, hp⟩ := rows_ok c
      have g3 : decide (k = 3) = true := decide_eq_true h3
      exact ⟨xs, by (repeat walk_at "e"), hl, hp⟩
    · have g3 : decide (k = 3) = false := decide_eq_false h3
      exact ⟨ys, by (repeat walk_at "e"), by omega, py⟩
  by_cases h9 : mixV c 13 % 9 = 0
  · have g9 : decide (mixV c 13 % 9 = 0) = true := decide_eq_true h9
    obtain ⟨d, hd, hi⟩ := ixD (xs := [.tup xs, .non, .str "1,2", .int 3, .bl true, .dic []]) (i := mixV c 14 % 6) (Int.emod_nonneg _ (by decide)) (Int.emod_lt_of_pos (mixV c 14) (b := 6) (by decide))
    have htup : dTuple (.lst xs) = .ok (.tup xs) := rfl
    refine ⟨d, ?_, ?_⟩
    · rw [u_law_thing]
      unfold T_law_thing
      (repeat (first | with_reducible exact q13 | with_reducible exact q14 | with_reducible exact dic0 | walk_at "e"))
    · simp only [List.mem_cons, List.not_mem_nil, or_false] at hd
      rcases hd with rfl | rfl | rfl | rfl | rfl | rfl
      · exact .tup _
      · exact .non
      · exact .str _
      · exact .int _
      · exact .bl _
      · exact .dic _
  · have g9 : decide (mixV c 13 % 9 = 0) = false := decide_eq_false h9
    refine ⟨.lst xs, ?_, .lst _ hx px⟩
    rw [u_law_thing]
    unfold T_law_thing
    (repeat walk_at "e")
theorem ne_tup (a b : Int) : dNe (.tup [.int a, .int b]) (.tup [.int a, .int b]) = .ok (.bl false) := by rw [dNe_pair]; simp
theorem ne_non : dNe .non .non = .ok (.bl false) := by
  rw [dNe_of shp_non shp_non]; rfl
theorem both {d : D} {k : Int} (h : Good d k ∨ Bad d k) : ∃ r, b_law_found [d, .int k] = .ok r ∧ b_law_due [d, .int k] = .ok r ∧ dNe r r = .ok (.bl false) := by
  rcases h with h | h
  · obtain ⟨a, b, h1, h2⟩ := found_good h
    exact ⟨_, h1, h2, ne_tup a b⟩
  · exact ⟨_, found_bad h, h.2, ne_non⟩
theorem turn_ok (c : Int) (k : Nat) (hk : k < 4) : ∃ d r, b_law_thing [.int c, .int (k : Int)] = .ok d ∧ b_law_found [d, .int (k : Int)] = .ok r ∧ b_law_due [d, .int (k : Int)] = .ok r ∧ dNe r r = .ok (.bl false) := by
  have fin : ∀ d, Pl d → Good d k ∨ Bad d k := fun d hp => by
    rcases (show k = 0 ∨ k = 1 ∨ k = 2 ∨ k = 3 by omega) with rfl | rfl | rfl | rfl
    · exact kind0 hp
    · exact kind1 hp
    · exact kind2 hp
    · exact kind3 hp
  by_cases h2 : (k : Int) < 2
  · obtain ⟨d, hd, hp⟩ := thing_low c h2
    obtain ⟨r, h1, h2, h3⟩ := both (fin d hp)
    exact ⟨d, r, hd, h1, h2, h3⟩
  · obtain ⟨d, hd, hp⟩ := thing_high c h2
    obtain ⟨r, h1, h2, h3⟩ := both (fin d hp)
    exact ⟨d, r, hd, h1, h2, h3⟩
theorem the_law (ns : List Int) (hl : ns.length ≤ 63) (hb : ∀ z ∈ ns, bitsI z ≤ 1048576) : b_law [.lst (ns.map .int)] = .ok (.bl true) := by
  have hits : itL (e2 dCat (eLst (aCons (eC (.int 0)) (aCons (eC (.int 1)) aNil))) (eSl (eVar 0) oNo (oSome (eC (.int 42))))) [some (.k, .lst (ns.map .int)), none, none, none] = .ok (([0, 1] ++ ns.take 42).map D.int) := by
    have hcat : dCat (.lst [.int 0, .int 1]) (.lst ((ns.take 42).map .int)) = .ok (.lst (([0, 1] ++ ns.take 42).map D.int)) := by
      rw [dCat_ok (by simp; omega)]; simp
    have hcut : cutD (ns.map D.int) none (some 42) = (ns.take 42).map D.int := by
      have := cut_to (ns.map D.int) 42
      rw [← List.map_take] at this
      exact this
    (repeat walk_at "e")
  obtain ⟨ς', hL, a1, a2, a3, rfl⟩ := loopD_all (body := fun x ς => gN 1 x ς >>= fun ς' => L_law_1 ς') (P := fun ς => ∃ a1 a2 a3, ς = [some (.k, .lst (ns.map .int)), a1, a2, a3]) (xs := ([0, 1] ++ ns.take 42).map D.int)
    (by
      rintro x hx ς ⟨a1, a2, a3, rfl⟩
      obtain ⟨z, hz, rfl⟩ := List.mem_map.mp hx
      obtain ⟨ς', hI, b2, b3, rfl⟩ := loop_range (body := fun x ς => gN 2 x ς >>= fun ς' => L_law_0 ς') (n := 4) (P := fun ς => ∃ b2 b3, ς = [some (.k, .lst (ns.map .int)), some (.k, .int z), b2, b3])
        (by
          rintro k hk ς ⟨b2, b3, rfl⟩
          obtain ⟨d, r, h1, h2, h3, h4⟩ := turn_ok z k hk
          refine ⟨[some (.k, .lst (ns.map .int)), some (.k, .int z), some (.k, .int k), some (.k, d)], ?_, _, _, rfl⟩
          refine r_gN (by walk_at "s") ?_
          unfold L_law_0
          (repeat walk_at "e"))
        [some (.k, .lst (ns.map .int)), some (.k, .int z), a2, a3] ⟨_, _, rfl⟩
      refine ⟨[some (.k, .lst (ns.map .int)), some (.k, .int z), b2, b3], ?_, _, _, _, rfl⟩
      refine r_gN (by walk_at "s") ?_
      unfold L_law_1
      exact sFor_of (rng_ok 4 r_C (by decide)) hI)
    [some (.k, .lst (ns.map .int)), none, none, none] ⟨_, _, _, rfl⟩
  have hfor := sFor_of (g := gN 1) (T := L_law_1) hits hL
  rw [u_law]
  unfold T_law
  (repeat walk_at "e")
end My
set_option Elab.async false
set_option linter.all false
set_option maxRecDepth 100000
set_option maxHeartbeats 4000000
namespace My
open PySem PySem.Spec L2 DL
theorem all_mk {l : PySem.W.OpenLaw} {w : World} {K : PySem.W.Frag} {h : Heap} {mg : Str → Option Value} {fa : Addr} (X : K.In h) (G : h.Ns mainGlobals mg) (hfa : mg "law" = some (.ref fa))
    {C_Deal : Addr} {C_Bundle : Addr} {C_Copy : Addr} {C_Rows : Addr} {f_Clerk_keep_rows : Addr} {f_Rows_init : Addr} {f_Deal_init : Addr} {f_Bundle_init : Addr} {f_Copy_init : Addr} {f_Clerk_period : Addr} {f_Clerk_outs : Addr} {f_law_mix : Addr} {od_law_mix an_law_mix : Option Addr} {sl_law_mix : Array (Option Value)} {oc_law_mix kV_law_mix dc_law_mix pm_law_mix cd_law_mix ct_law_mix : Value} {f_law_odd : Addr} {od_law_odd an_law_odd : Option Addr} {sl_law_odd : Array (Option Value)} {oc_law_odd kV_law_odd dc_law_odd pm_law_odd cd_law_odd ct_law_odd : Value} {f_law_counts : Addr} {od_law_counts an_law_counts : Option Addr} {sl_law_counts : Array (Option Value)} {oc_law_counts kV_law_counts dc_law_counts pm_law_counts cd_law_counts ct_law_counts : Value} {f_law_number : Addr} {od_law_number an_law_number : Option Addr} {sl_law_number : Array (Option Value)} {oc_law_number kV_law_number dc_law_number pm_law_number cd_law_number ct_law_number : Value} {f_law_rows : Addr} {od_law_rows an_law_rows : Option Addr} {sl_law_rows : Array (Option Value)} {oc_law_rows kV_law_rows dc_law_rows pm_law_rows cd_law_rows ct_law_rows : Value} {f_law_thing : Addr} {od_law_thing an_law_thing : Option Addr} {sl_law_thing : Array (Option Value)} {oc_law_thing kV_law_thing dc_law_thing pm_law_thing cd_law_thing ct_law_thing : Value} {f_sums_of : Addr} {od_sums_of an_sums_of : Option Addr} {sl_sums_of : Array (Option Value)} {oc_sums_of kV_sums_of dc_sums_of pm_sums_of cd_sums_of ct_sums_of : Value} {f_running_sums : Addr} {od_running_sums an_running_sums : Option Addr} {sl_running_sums : Array (Option Value)} {oc_running_sums kV_running_sums dc_running_sums pm_running_sums cd_running_sums ct_running_sums : Value} {od_Clerk_keep_rows an_Clerk_keep_rows : Option Addr} {sl_Clerk_keep_rows : Array (Option Value)} {oc_Clerk_keep_rows kV_Clerk_keep_rows dc_Clerk_keep_rows pm_Clerk_keep_rows cd_Clerk_keep_rows ct_Clerk_keep_rows : Value} {f_is_whole : Addr} {od_is_whole an_is_whole : Option Addr} {sl_is_whole : Array (Option Value)} {oc_is_whole kV_is_whole dc_is_whole pm_is_whole cd_is_whole ct_is_whole : Value} {f_is_within : Addr} {od_is_within an_is_within : Option Addr} {sl_is_within : Array (Option Value)} {oc_is_within kV_is_within dc_is_within pm_is_within cd_is_within ct_is_within : Value} {f_is_row : Addr} {od_is_row an_is_row : Option Addr} {sl_is_row : Array (Option Value)} {oc_is_row kV_is_row dc_is_row pm_is_row cd_is_row ct_is_row : Value} {f_is_table : Addr} {od_is_table an_is_table : Option Addr} {sl_is_table : Array (Option Value)} {oc_is_table kV_is_table dc_is_table pm_is_table cd_is_table ct_is_table : Value} {od_Rows_init an_Rows_init : Option Addr} {sl_Rows_init : Array (Option Value)} {oc_Rows_init kV_Rows_init dc_Rows_init pm_Rows_init cd_Rows_init ct_Rows_init : Value} {f_single_row : Addr} {od_single_row an_single_row : Option Addr} {sl_single_row : Array (Option Value)} {oc_single_row kV_single_row dc_single_row pm_single_row cd_single_row ct_single_row : Value} {od_Deal_init an_Deal_init : Option Addr} {sl_Deal_init : Array (Option Value)} {oc_Deal_init kV_Deal_init dc_Deal_init pm_Deal_init cd_Deal_init ct_Deal_init : Value} {od_Bundle_init an_Bundle_init : Option Addr} {sl_Bundle_init : Array (Option Value)} {oc_Bundle_init kV_Bundle_init dc_Bundle_init pm_Bundle_init cd_Bundle_init ct_Bundle_init : Value} {od_Copy_init an_Copy_init : Option Addr} {sl_Copy_init : Array (Option Value)} {oc_Copy_init kV_Copy_init dc_Copy_init pm_Copy_init cd_Copy_init ct_Copy_init : Value} {f_law_made : Addr} {od_law_made an_law_made : Option Addr} {sl_law_made : Array (Option Value)} {oc_law_made kV_law_made dc_law_made pm_law_made cd_law_made ct_law_made : Value} {f_law_kinds : Addr} {od_law_kinds an_law_kinds : Option Addr} {sl_law_kinds : Array (Option Value)} {oc_law_kinds kV_law_kinds dc_law_kinds pm_law_kinds cd_law_kinds ct_law_kinds : Value} {od_Clerk_period an_Clerk_period : Option Addr} {sl_Clerk_period : Array (Option Value)} {oc_Clerk_period kV_Clerk_period dc_Clerk_period pm_Clerk_period cd_Clerk_period ct_Clerk_period : Value} {od_Clerk_outs an_Clerk_outs : Option Addr} {sl_Clerk_outs : Array (Option Value)} {oc_Clerk_outs kV_Clerk_outs dc_Clerk_outs pm_Clerk_outs cd_Clerk_outs ct_Clerk_outs : Value} {f_law_found : Addr} {od_law_found an_law_found : Option Addr} {sl_law_found : Array (Option Value)} {oc_law_found kV_law_found dc_law_found pm_law_found cd_law_found ct_law_found : Value} {f_law_whole : Addr} {od_law_whole an_law_whole : Option Addr} {sl_law_whole : Array (Option Value)} {oc_law_whole kV_law_whole dc_law_whole pm_law_whole cd_law_whole ct_law_whole : Value} {f_law_is_row : Addr} {od_law_is_row an_law_is_row : Option Addr} {sl_law_is_row : Array (Option Value)} {oc_law_is_row kV_law_is_row dc_law_is_row pm_law_is_row cd_law_is_row ct_law_is_row : Value} {f_law_due : Addr} {od_law_due an_law_due : Option Addr} {sl_law_due : Array (Option Value)} {oc_law_due kV_law_due dc_law_due pm_law_due cd_law_due ct_law_due : Value} {f_law : Addr} {od_law an_law : Option Addr} {sl_law : Array (Option Value)} {oc_law kV_law dc_law pm_law cd_law ct_law : Value} {tk_MOST_OUTS : Tok} {tk_MOST_SENT : Tok} {tk_MOST_ROWS : Tok} {C_NoClerk : Addr} {C_NoShare : Addr} {C_NoOffice : Addr} {C_NoText : Addr} {C_NoDocket : Addr} {C_Endless : Addr} {C_TooLong : Addr} {C_TooMany : Addr} {C_Unlike : Addr} {C_NoSum : Addr} {C_NoRow : Addr} {C_NoName : Addr} {C_NoCount : Addr} {C_HallError : Addr}
    (a_Deal : PySem.W.nsIn K mainGlobals "Deal" = some (some (.ref C_Deal)))
    (pg_Deal : PySem.W.plainGet K C_Deal Str.empty = true)
    (hd_Deal : PySem.W.hasDictIn K C_Deal = true)
    (po_Deal : PySem.W.plainOver K C_Deal = true)
    (sa_Deal : PySem.W.findIn K (.ref C_Deal) "__setattr__" = some (some (.builtin "object.__setattr__")))
    (no_Deal_table : PySem.W.findIn K (.ref C_Deal) "table" = some none)
    (no_Deal_heads : PySem.W.findIn K (.ref C_Deal) "heads" = some none)
    (a_Bundle : PySem.W.nsIn K mainGlobals "Bundle" = some (some (.ref C_Bundle)))
    (pg_Bundle : PySem.W.plainGet K C_Bundle Str.empty = true)
    (hd_Bundle : PySem.W.hasDictIn K C_Bundle = true)
    (po_Bundle : PySem.W.plainOver K C_Bundle = true)
    (sa_Bundle : PySem.W.findIn K (.ref C_Bundle) "__setattr__" = some (some (.builtin "object.__setattr__")))
    (no_Bundle_table : PySem.W.findIn K (.ref C_Bundle) "table" = some none)
    (no_Bundle_heads : PySem.W.findIn K (.ref C_Bundle) "heads" = some none)
    (a_Copy : PySem.W.nsIn K mainGlobals "Copy" = some (some (.ref C_Copy)))
    (pg_Copy : PySem.W.plainGet K C_Copy Str.empty = true)
    (hd_Copy : PySem.W.hasDictIn K C_Copy = true)
    (po_Copy : PySem.W.plainOver K C_Copy = true)
    (sa_Copy : PySem.W.findIn K (.ref C_Copy) "__setattr__" = some (some (.builtin "object.__setattr__")))
    (no_Copy_table : PySem.W.findIn K (.ref C_Copy) "table" = some none)
    (no_Copy_heads : PySem.W.findIn K (.ref C_Copy) "heads" = some none)
    (a_Rows : PySem.W.nsIn K mainGlobals "Rows" = some (some (.ref C_Rows)))
    (pg_Rows : PySem.W.plainGet K C_Rows Str.empty = true)
    (hd_Rows : PySem.W.hasDictIn K C_Rows = true)
    (po_Rows : PySem.W.plainOver K C_Rows = true)
    (sa_Rows : PySem.W.findIn K (.ref C_Rows) "__setattr__" = some (some (.builtin "object.__setattr__")))
    (no_Rows_table : PySem.W.findIn K (.ref C_Rows) "table" = some none)
    (no_Rows_heads : PySem.W.findIn K (.ref C_Rows) "heads" = some none)
    (q_Deal_period : PySem.W.findIn K (.ref C_Deal) "period" = some (some (.ref f_Clerk_period)))
    (q_Bundle_period : PySem.W.findIn K (.ref C_Bundle) "period" = some (some (.ref f_Clerk_period)))
    (q_Copy_period : PySem.W.findIn K (.ref C_Copy) "period" = some (some (.ref f_Clerk_period)))
    (q_Rows_period : PySem.W.findIn K (.ref C_Rows) "period" = some (some (.ref f_Clerk_period)))
    (q_Deal_outs : PySem.W.findIn K (.ref C_Deal) "outs" = some (some (.ref f_Clerk_outs)))
    (q_Bundle_outs : PySem.W.findIn K (.ref C_Bundle) "outs" = some (some (.ref f_Clerk_outs)))
    (q_Copy_outs : PySem.W.findIn K (.ref C_Copy) "outs" = some (some (.ref f_Clerk_outs)))
    (q_Rows_outs : PySem.W.findIn K (.ref C_Rows) "outs" = some (some (.ref f_Clerk_outs)))
    (q_Deal_keep_rows : PySem.W.findIn K (.ref C_Deal) "keep_rows" = some (some (.ref f_Clerk_keep_rows)))
    (q_Bundle_keep_rows : PySem.W.findIn K (.ref C_Bundle) "keep_rows" = some (some (.ref f_Clerk_keep_rows)))
    (q_Copy_keep_rows : PySem.W.findIn K (.ref C_Copy) "keep_rows" = some (some (.ref f_Clerk_keep_rows)))
    (q_Rows_keep_rows : PySem.W.findIn K (.ref C_Rows) "keep_rows" = some (some (.ref f_Clerk_keep_rows)))
    (q_Deal_init : PySem.W.findIn K (.ref C_Deal) "__init__" = some (some (.ref f_Deal_init)))
    (q_Bundle_init : PySem.W.findIn K (.ref C_Bundle) "__init__" = some (some (.ref f_Bundle_init)))
    (q_Copy_init : PySem.W.findIn K (.ref C_Copy) "__init__" = some (some (.ref f_Copy_init)))
    (q_Rows_init : PySem.W.findIn K (.ref C_Rows) "__init__" = some (some (.ref f_Rows_init)))
    (mk1_Deal : PySem.W.makesIn K C_Deal = true)
    (mk2_Deal : PySem.W.keepIn K (.ref C_Deal) = true)
    (mk1_Bundle : PySem.W.makesIn K C_Bundle = true)
    (mk2_Bundle : PySem.W.keepIn K (.ref C_Bundle) = true)
    (mk1_Copy : PySem.W.makesIn K C_Copy = true)
    (mk2_Copy : PySem.W.keepIn K (.ref C_Copy) = true)
    (mk1_Rows : PySem.W.makesIn K C_Rows = true)
    (mk2_Rows : PySem.W.keepIn K (.ref C_Rows) = true)
    (a_law_mix : PySem.W.nsIn K mainGlobals "_law_mix" = some (some (.ref f_law_mix)))
    (l_law_mix : K.lookup f_law_mix = some ⟨oc_law_mix, od_law_mix, .func (PySem.W.fnOf "_law_mix" "_law_mix" (defArgs s_law_mix) (defBody s_law_mix) (defScope s_law_mix) .none kV_law_mix dc_law_mix pm_law_mix an_law_mix cd_law_mix ct_law_mix), sl_law_mix⟩)
    (c_law_mix : PySem.W.codeIn K cd_law_mix "_law_mix" = true)
    (k_law_mix : PySem.W.keepIn K (.ref f_law_mix) = true)
    (a_law_odd : PySem.W.nsIn K mainGlobals "_law_odd" = some (some (.ref f_law_odd)))
    (l_law_odd : K.lookup f_law_odd = some ⟨oc_law_odd, od_law_odd, .func (PySem.W.fnOf "_law_odd" "_law_odd" (defArgs s_law_odd) (defBody s_law_odd) (defScope s_law_odd) .none kV_law_odd dc_law_odd pm_law_odd an_law_odd cd_law_odd ct_law_odd), sl_law_odd⟩)
    (c_law_odd : PySem.W.codeIn K cd_law_odd "_law_odd" = true)
    (k_law_odd : PySem.W.keepIn K (.ref f_law_odd) = true)
    (a_law_counts : PySem.W.nsIn K mainGlobals "_law_counts" = some (some (.ref f_law_counts)))
    (l_law_counts : K.lookup f_law_counts = some ⟨oc_law_counts, od_law_counts, .func (PySem.W.fnOf "_law_counts" "_law_counts" (defArgs s_law_counts) (defBody s_law_counts) (defScope s_law_counts) .none kV_law_counts dc_law_counts pm_law_counts an_law_counts cd_law_counts ct_law_counts), sl_law_counts⟩)
    (c_law_counts : PySem.W.codeIn K cd_law_counts "_law_counts" = true)
    (k_law_counts : PySem.W.keepIn K (.ref f_law_counts) = true)
    (a_law_number : PySem.W.nsIn K mainGlobals "_law_number" = some (some (.ref f_law_number)))
    (l_law_number : K.lookup f_law_number = some ⟨oc_law_number, od_law_number, .func (PySem.W.fnOf "_law_number" "_law_number" (defArgs s_law_number) (defBody s_law_number) (defScope s_law_number) .none kV_law_number dc_law_number pm_law_number an_law_number cd_law_number ct_law_number), sl_law_number⟩)
    (c_law_number : PySem.W.codeIn K cd_law_number "_law_number" = true)
    (k_law_number : PySem.W.keepIn K (.ref f_law_number) = true)
    (a_law_rows : PySem.W.nsIn K mainGlobals "_law_rows" = some (some (.ref f_law_rows)))
    (l_law_rows : K.lookup f_law_rows = some ⟨oc_law_rows, od_law_rows, .func (PySem.W.fnOf "_law_rows" "_law_rows" (defArgs s_law_rows) (defBody s_law_rows) (defScope s_law_rows) .none kV_law_rows dc_law_rows pm_law_rows an_law_rows cd_law_rows ct_law_rows), sl_law_rows⟩)
    (c_law_rows : PySem.W.codeIn K cd_law_rows "_law_rows" = true)
    (k_law_rows : PySem.W.keepIn K (.ref f_law_rows) = true)
    (a_law_thing : PySem.W.nsIn K mainGlobals "_law_thing" = some (some (.ref f_law_thing)))
    (l_law_thing : K.lookup f_law_thing = some ⟨oc_law_thing, od_law_thing, .func (PySem.W.fnOf "_law_thing" "_law_thing" (defArgs s_law_thing) (defBody s_law_thing) (defScope s_law_thing) .none kV_law_thing dc_law_thing pm_law_thing an_law_thing cd_law_thing ct_law_thing), sl_law_thing⟩)
    (c_law_thing : PySem.W.codeIn K cd_law_thing "_law_thing" = true)
    (k_law_thing : PySem.W.keepIn K (.ref f_law_thing) = true)
    (a_sums_of : PySem.W.nsIn K mainGlobals "sums_of" = some (some (.ref f_sums_of)))
    (l_sums_of : K.lookup f_sums_of = some ⟨oc_sums_of, od_sums_of, .func (PySem.W.fnOf "sums_of" "sums_of" (defArgs s_sums_of) (defBody s_sums_of) (defScope s_sums_of) .none kV_sums_of dc_sums_of pm_sums_of an_sums_of cd_sums_of ct_sums_of), sl_sums_of⟩)
    (c_sums_of : PySem.W.codeIn K cd_sums_of "sums_of" = true)
    (k_sums_of : PySem.W.keepIn K (.ref f_sums_of) = true)
    (a_running_sums : PySem.W.nsIn K mainGlobals "running_sums" = some (some (.ref f_running_sums)))
    (l_running_sums : K.lookup f_running_sums = some ⟨oc_running_sums, od_running_sums, .func (PySem.W.fnOf "running_sums" "running_sums" (defArgs s_running_sums) (defBody s_running_sums) (defScope s_running_sums) .none kV_running_sums dc_running_sums pm_running_sums an_running_sums cd_running_sums ct_running_sums), sl_running_sums⟩)
    (c_running_sums : PySem.W.codeIn K cd_running_sums "running_sums" = true)
    (k_running_sums : PySem.W.keepIn K (.ref f_running_sums) = true)
    (n_Clerk_keep_rows : PySem.W.isFn K (.ref f_Clerk_keep_rows) = true)
    (l_Clerk_keep_rows : K.lookup f_Clerk_keep_rows = some ⟨oc_Clerk_keep_rows, od_Clerk_keep_rows, .func (PySem.W.fnOf "keep_rows" "Clerk.keep_rows" (defArgs s_Clerk_keep_rows) (defBody s_Clerk_keep_rows) (defScope s_Clerk_keep_rows) .none kV_Clerk_keep_rows dc_Clerk_keep_rows pm_Clerk_keep_rows an_Clerk_keep_rows cd_Clerk_keep_rows ct_Clerk_keep_rows), sl_Clerk_keep_rows⟩)
    (c_Clerk_keep_rows : PySem.W.codeIn K cd_Clerk_keep_rows "Clerk.keep_rows" = true)
    (k_Clerk_keep_rows : PySem.W.keepIn K (.ref f_Clerk_keep_rows) = true)
    (a_is_whole : PySem.W.nsIn K mainGlobals "is_whole" = some (some (.ref f_is_whole)))
    (l_is_whole : K.lookup f_is_whole = some ⟨oc_is_whole, od_is_whole, .func (PySem.W.fnOf "is_whole" "is_whole" (defArgs s_is_whole) (defBody s_is_whole) (defScope s_is_whole) .none kV_is_whole dc_is_whole pm_is_whole an_is_whole cd_is_whole ct_is_whole), sl_is_whole⟩)
    (c_is_whole : PySem.W.codeIn K cd_is_whole "is_whole" = true)
    (k_is_whole : PySem.W.keepIn K (.ref f_is_whole) = true)
    (a_is_within : PySem.W.nsIn K mainGlobals "is_within" = some (some (.ref f_is_within)))
    (l_is_within : K.lookup f_is_within = some ⟨oc_is_within, od_is_within, .func (PySem.W.fnOf "is_within" "is_within" (defArgs s_is_within) (defBody s_is_within) (defScope s_is_within) .none kV_is_within dc_is_within pm_is_within an_is_within cd_is_within ct_is_within), sl_is_within⟩)
    (c_is_within : PySem.W.codeIn K cd_is_within "is_within" = true)
    (k_is_within : PySem.W.keepIn K (.ref f_is_within) = true)
    (a_is_row : PySem.W.nsIn K mainGlobals "is_row" = some (some (.ref f_is_row)))
    (l_is_row : K.lookup f_is_row = some ⟨oc_is_row, od_is_row, .func (PySem.W.fnOf "is_row" "is_row" (defArgs s_is_row) (defBody s_is_row) (defScope s_is_row) .none kV_is_row dc_is_row pm_is_row an_is_row cd_is_row ct_is_row), sl_is_row⟩)
    (c_is_row : PySem.W.codeIn K cd_is_row "is_row" = true)
    (k_is_row : PySem.W.keepIn K (.ref f_is_row) = true)
    (a_is_table : PySem.W.nsIn K mainGlobals "is_table" = some (some (.ref f_is_table)))
    (l_is_table : K.lookup f_is_table = some ⟨oc_is_table, od_is_table, .func (PySem.W.fnOf "is_table" "is_table" (defArgs s_is_table) (defBody s_is_table) (defScope s_is_table) .none kV_is_table dc_is_table pm_is_table an_is_table cd_is_table ct_is_table), sl_is_table⟩)
    (c_is_table : PySem.W.codeIn K cd_is_table "is_table" = true)
    (k_is_table : PySem.W.keepIn K (.ref f_is_table) = true)
    (n_Rows_init : PySem.W.isFn K (.ref f_Rows_init) = true)
    (l_Rows_init : K.lookup f_Rows_init = some ⟨oc_Rows_init, od_Rows_init, .func (PySem.W.fnOf "__init__" "Rows.__init__" (defArgs s_Rows_init) (defBody s_Rows_init) (defScope s_Rows_init) .none kV_Rows_init dc_Rows_init pm_Rows_init an_Rows_init cd_Rows_init ct_Rows_init), sl_Rows_init⟩)
    (c_Rows_init : PySem.W.codeIn K cd_Rows_init "Rows.__init__" = true)
    (k_Rows_init : PySem.W.keepIn K (.ref f_Rows_init) = true)
    (a_single_row : PySem.W.nsIn K mainGlobals "single_row" = some (some (.ref f_single_row)))
    (l_single_row : K.lookup f_single_row = some ⟨oc_single_row, od_single_row, .func (PySem.W.fnOf "single_row" "single_row" (defArgs s_single_row) (defBody s_single_row) (defScope s_single_row) .none kV_single_row dc_single_row pm_single_row an_single_row cd_single_row ct_single_row), sl_single_row⟩)
    (c_single_row : PySem.W.codeIn K cd_single_row "single_row" = true)
    (k_single_row : PySem.W.keepIn K (.ref f_single_row) = true)
    (n_Deal_init : PySem.W.isFn K (.ref f_Deal_init) = true)
    (l_Deal_init : K.lookup f_Deal_init = some ⟨oc_Deal_init, od_Deal_init, .func (PySem.W.fnOf "__init__" "Deal.__init__" (defArgs s_Deal_init) (defBody s_Deal_init) (defScope s_Deal_init) .none kV_Deal_init dc_Deal_init pm_Deal_init an_Deal_init cd_Deal_init ct_Deal_init), sl_Deal_init⟩)
    (c_Deal_init : PySem.W.codeIn K cd_Deal_init "Deal.__init__" = true)
    (k_Deal_init : PySem.W.keepIn K (.ref f_Deal_init) = true)
    (n_Bundle_init : PySem.W.isFn K (.ref f_Bundle_init) = true)
    (l_Bundle_init : K.lookup f_Bundle_init = some ⟨oc_Bundle_init, od_Bundle_init, .func (PySem.W.fnOf "__init__" "Bundle.__init__" (defArgs s_Bundle_init) (defBody s_Bundle_init) (defScope s_Bundle_init) .none kV_Bundle_init dc_Bundle_init pm_Bundle_init an_Bundle_init cd_Bundle_init ct_Bundle_init), sl_Bundle_init⟩)
    (c_Bundle_init : PySem.W.codeIn K cd_Bundle_init "Bundle.__init__" = true)
    (k_Bundle_init : PySem.W.keepIn K (.ref f_Bundle_init) = true)
    (n_Copy_init : PySem.W.isFn K (.ref f_Copy_init) = true)
    (l_Copy_init : K.lookup f_Copy_init = some ⟨oc_Copy_init, od_Copy_init, .func (PySem.W.fnOf "__init__" "Copy.__init__" (defArgs s_Copy_init) (defBody s_Copy_init) (defScope s_Copy_init) .none kV_Copy_init dc_Copy_init pm_Copy_init an_Copy_init cd_Copy_init ct_Copy_init), sl_Copy_init⟩)
    (c_Copy_init : PySem.W.codeIn K cd_Copy_init "Copy.__init__" = true)
    (k_Copy_init : PySem.W.keepIn K (.ref f_Copy_init) = true)
    (a_law_made : PySem.W.nsIn K mainGlobals "_law_made" = some (some (.ref f_law_made)))
    (l_law_made : K.lookup f_law_made = some ⟨oc_law_made, od_law_made, .func (PySem.W.fnOf "_law_made" "_law_made" (defArgs s_law_made) (defBody s_law_made) (defScope s_law_made) .none kV_law_made dc_law_made pm_law_made an_law_made cd_law_made ct_law_made), sl_law_made⟩)
    (c_law_made : PySem.W.codeIn K cd_law_made "_law_made" = true)
    (k_law_made : PySem.W.keepIn K (.ref f_law_made) = true)
    (a_law_kinds : PySem.W.nsIn K mainGlobals "_law_kinds" = some (some (.ref f_law_kinds)))
    (l_law_kinds : K.lookup f_law_kinds = some ⟨oc_law_kinds, od_law_kinds, .func (PySem.W.fnOf "_law_kinds" "_law_kinds" (defArgs s_law_kinds) (defBody s_law_kinds) (defScope s_law_kinds) .none kV_law_kinds dc_law_kinds pm_law_kinds an_law_kinds cd_law_kinds ct_law_kinds), sl_law_kinds⟩)
    (c_law_kinds : PySem.W.codeIn K cd_law_kinds "_law_kinds" = true)
    (k_law_kinds : PySem.W.keepIn K (.ref f_law_kinds) = true)
    (n_Clerk_period : PySem.W.isFn K (.ref f_Clerk_period) = true)
    (l_Clerk_period : K.lookup f_Clerk_period = some ⟨oc_Clerk_period, od_Clerk_period, .func (PySem.W.fnOf "period" "Clerk.period" (defArgs s_Clerk_period) (defBody s_Clerk_period) (defScope s_Clerk_period) .none kV_Clerk_period dc_Clerk_period pm_Clerk_period an_Clerk_period cd_Clerk_period ct_Clerk_period), sl_Clerk_period⟩)
    (c_Clerk_period : PySem.W.codeIn K cd_Clerk_period "Clerk.period" = true)
    (k_Clerk_period : PySem.W.keepIn K (.ref f_Clerk_period) = true)
    (n_Clerk_outs : PySem.W.isFn K (.ref f_Clerk_outs) = true)
    (l_Clerk_outs : K.lookup f_Clerk_outs = some ⟨oc_Clerk_outs, od_Clerk_outs, .func (PySem.W.fnOf "outs" "Clerk.outs" (defArgs s_Clerk_outs) (defBody s_Clerk_outs) (defScope s_Clerk_outs) .none kV_Clerk_outs dc_Clerk_outs pm_Clerk_outs an_Clerk_outs cd_Clerk_outs ct_Clerk_outs), sl_Clerk_outs⟩)
    (c_Clerk_outs : PySem.W.codeIn K cd_Clerk_outs "Clerk.outs" = true)
    (k_Clerk_outs : PySem.W.keepIn K (.ref f_Clerk_outs) = true)
    (a_law_found : PySem.W.nsIn K mainGlobals "_law_found" = some (some (.ref f_law_found)))
    (l_law_found : K.lookup f_law_found = some ⟨oc_law_found, od_law_found, .func (PySem.W.fnOf "_law_found" "_law_found" (defArgs s_law_found) (defBody s_law_found) (defScope s_law_found) .none kV_law_found dc_law_found pm_law_found an_law_found cd_law_found ct_law_found), sl_law_found⟩)
    (c_law_found : PySem.W.codeIn K cd_law_found "_law_found" = true)
    (k_law_found : PySem.W.keepIn K (.ref f_law_found) = true)
    (a_law_whole : PySem.W.nsIn K mainGlobals "_law_whole" = some (some (.ref f_law_whole)))
    (l_law_whole : K.lookup f_law_whole = some ⟨oc_law_whole, od_law_whole, .func (PySem.W.fnOf "_law_whole" "_law_whole" (defArgs s_law_whole) (defBody s_law_whole) (defScope s_law_whole) .none kV_law_whole dc_law_whole pm_law_whole an_law_whole cd_law_whole ct_law_whole), sl_law_whole⟩)
    (c_law_whole : PySem.W.codeIn K cd_law_whole "_law_whole" = true)
    (k_law_whole : PySem.W.keepIn K (.ref f_law_whole) = true)
    (a_law_is_row : PySem.W.nsIn K mainGlobals "_law_is_row" = some (some (.ref f_law_is_row)))
    (l_law_is_row : K.lookup f_law_is_row = some ⟨oc_law_is_row, od_law_is_row, .func (PySem.W.fnOf "_law_is_row" "_law_is_row" (defArgs s_law_is_row) (defBody s_law_is_row) (defScope s_law_is_row) .none kV_law_is_row dc_law_is_row pm_law_is_row an_law_is_row cd_law_is_row ct_law_is_row), sl_law_is_row⟩)
    (c_law_is_row : PySem.W.codeIn K cd_law_is_row "_law_is_row" = true)
    (k_law_is_row : PySem.W.keepIn K (.ref f_law_is_row) = true)
    (a_law_due : PySem.W.nsIn K mainGlobals "_law_due" = some (some (.ref f_law_due)))
    (l_law_due : K.lookup f_law_due = some ⟨oc_law_due, od_law_due, .func (PySem.W.fnOf "_law_due" "_law_due" (defArgs s_law_due) (defBody s_law_due) (defScope s_law_due) .none kV_law_due dc_law_due pm_law_due an_law_due cd_law_due ct_law_due), sl_law_due⟩)
    (c_law_due : PySem.W.codeIn K cd_law_due "_law_due" = true)
    (k_law_due : PySem.W.keepIn K (.ref f_law_due) = true)
    (a_law : PySem.W.nsIn K mainGlobals "law" = some (some (.ref f_law)))
    (l_law : K.lookup f_law = some ⟨oc_law, od_law, .func (PySem.W.fnOf "law" "law" (defArgs s_law) (defBody s_law) (defScope s_law) .none kV_law dc_law pm_law an_law cd_law ct_law), sl_law⟩)
    (c_law : PySem.W.codeIn K cd_law "law" = true)
    (k_law : PySem.W.keepIn K (.ref f_law) = true)
    (z_range : PySem.W.nsIn K mainGlobals "range" = some none)
    (z_len : PySem.W.nsIn K mainGlobals "len" = some none)
    (z_tuple : PySem.W.nsIn K mainGlobals "tuple" = some none)
    (z_zip : PySem.W.nsIn K mainGlobals "zip" = some none)
    (z_list : PySem.W.nsIn K mainGlobals "list" = some none)
    (z_isinstance : PySem.W.nsIn K mainGlobals "isinstance" = some none)
    (z_int : PySem.W.nsIn K mainGlobals "int" = some none)
    (z_bool : PySem.W.nsIn K mainGlobals "bool" = some none)
    (z_all : PySem.W.nsIn K mainGlobals "all" = some none)
    (z_ValueError : PySem.W.nsIn K mainGlobals "ValueError" = some none)
    (c_MOST_OUTS : PySem.W.nsIn K mainGlobals "MOST_OUTS" = some (some (.int 6 tk_MOST_OUTS)))
    (c_MOST_SENT : PySem.W.nsIn K mainGlobals "MOST_SENT" = some (some (.int 9 tk_MOST_SENT)))
    (c_MOST_ROWS : PySem.W.nsIn K mainGlobals "MOST_ROWS" = some (some (.int 12 tk_MOST_ROWS)))
    (a_NoClerk : PySem.W.nsIn K mainGlobals "NoClerk" = some (some (.ref C_NoClerk)))
    (x_NoClerk : PySem.W.excIn K C_NoClerk bmVE "ValueError.__new__" = true)
    (a_NoShare : PySem.W.nsIn K mainGlobals "NoShare" = some (some (.ref C_NoShare)))
    (a_NoOffice : PySem.W.nsIn K mainGlobals "NoOffice" = some (some (.ref C_NoOffice)))
    (a_NoText : PySem.W.nsIn K mainGlobals "NoText" = some (some (.ref C_NoText)))
    (a_NoDocket : PySem.W.nsIn K mainGlobals "NoDocket" = some (some (.ref C_NoDocket)))
    (a_Endless : PySem.W.nsIn K mainGlobals "Endless" = some (some (.ref C_Endless)))
    (a_TooLong : PySem.W.nsIn K mainGlobals "TooLong" = some (some (.ref C_TooLong)))
    (a_TooMany : PySem.W.nsIn K mainGlobals "TooMany" = some (some (.ref C_TooMany)))
    (a_Unlike : PySem.W.nsIn K mainGlobals "Unlike" = some (some (.ref C_Unlike)))
    (a_NoSum : PySem.W.nsIn K mainGlobals "NoSum" = some (some (.ref C_NoSum)))
    (a_NoRow : PySem.W.nsIn K mainGlobals "NoRow" = some (some (.ref C_NoRow)))
    (a_NoName : PySem.W.nsIn K mainGlobals "NoName" = some (some (.ref C_NoName)))
    (a_NoCount : PySem.W.nsIn K mainGlobals "NoCount" = some (some (.ref C_NoCount)))
    (a_HallError : PySem.W.nsIn K mainGlobals "HallError" = some (some (.ref C_HallError)))
    (x_HallError : PySem.W.excIn K C_HallError bmVE "ValueError.__new__" = true)
    (y1 : PySem.W.specialIn K (.builtin "object.__class__") "__get__" = some (some (.builtin "getset_descriptor.__get__")))
    (y2 : PySem.W.takesIn K (.builtin "object.__class__") = some true)
    (e1_NoClerk : PySem.W.mroIn K C_NoClerk (.type "BaseException") = some true)
    (e2_NoClerk : PySem.W.findIn K (.ref C_NoClerk) "__getattribute__" = some (some (.builtin "BaseException.__getattribute__")))
    (e3_NoClerk : PySem.W.findIn K (.ref C_NoClerk) "__getattr__" = some none)
    (e4_NoClerk : PySem.W.findIn K (.ref C_NoClerk) "__class__" = some (some (.builtin "object.__class__")))
    (e5_NoClerk : PySem.W.mroIn K C_NoClerk (.type "object") = some true)
    (s_NoClerk_HallError : PySem.W.subIn K (.ref C_NoClerk) (.ref C_HallError) = some true)
    (o_NoClerk_NoShare : PySem.W.kitOne K (.ref C_NoClerk) (.ref C_NoShare) = some false)
    (o_NoClerk_NoClerk : PySem.W.kitOne K (.ref C_NoClerk) (.ref C_NoClerk) = some true)
    (o_NoClerk_NoOffice : PySem.W.kitOne K (.ref C_NoClerk) (.ref C_NoOffice) = some false)
    (o_NoClerk_NoText : PySem.W.kitOne K (.ref C_NoClerk) (.ref C_NoText) = some false)
    (o_NoClerk_NoDocket : PySem.W.kitOne K (.ref C_NoClerk) (.ref C_NoDocket) = some false)
    (o_NoClerk_Endless : PySem.W.kitOne K (.ref C_NoClerk) (.ref C_Endless) = some false)
    (o_NoClerk_TooLong : PySem.W.kitOne K (.ref C_NoClerk) (.ref C_TooLong) = some false)
    (o_NoClerk_TooMany : PySem.W.kitOne K (.ref C_NoClerk) (.ref C_TooMany) = some false)
    (o_NoClerk_Unlike : PySem.W.kitOne K (.ref C_NoClerk) (.ref C_Unlike) = some false)
    (o_NoClerk_NoSum : PySem.W.kitOne K (.ref C_NoClerk) (.ref C_NoSum) = some false)
    (o_NoClerk_NoRow : PySem.W.kitOne K (.ref C_NoClerk) (.ref C_NoRow) = some false)
    (o_NoClerk_NoName : PySem.W.kitOne K (.ref C_NoClerk) (.ref C_NoName) = some false)
    (o_NoClerk_NoCount : PySem.W.kitOne K (.ref C_NoClerk) (.ref C_NoCount) = some false)
    (o_NoClerk_ValueError : PySem.W.kitOne K (.ref C_NoClerk) (.type "ValueError") = some true) :
    ∃ fd : FuncData, (∀ (s : Shared) (v : Value), BindsTo s fd ⟨[v], []⟩ [("_law_script", v)]) ∧ ∀ base : Heap, K.In base → base.Ns mainGlobals mg → FnOk l.prog w K mg base CX0 9 fa fd ["_law_script"] (SpD K (ctOf K) false b_law) := by
  have ee := hfa.symm.trans (PySem.W.mg_of X G a_law)
  cases ee
  have mm_Deal := PySem.W.mg_of X G a_Deal
  have tt_Deal := ct_of a_Deal
  have cl_Deal : Cls K C_Deal := ⟨pg_Deal, hd_Deal, po_Deal, sa_Deal⟩
  have mm_Bundle := PySem.W.mg_of X G a_Bundle
  have tt_Bundle := ct_of a_Bundle
  have cl_Bundle : Cls K C_Bundle := ⟨pg_Bundle, hd_Bundle, po_Bundle, sa_Bundle⟩
  have mm_Copy := PySem.W.mg_of X G a_Copy
  have tt_Copy := ct_of a_Copy
  have cl_Copy : Cls K C_Copy := ⟨pg_Copy, hd_Copy, po_Copy, sa_Copy⟩
  have mm_Rows := PySem.W.mg_of X G a_Rows
  have tt_Rows := ct_of a_Rows
  have cl_Rows : Cls K C_Rows := ⟨pg_Rows, hd_Rows, po_Rows, sa_Rows⟩
  have fo_table : FldOk K (ctOf K) cls_all "table" := by
    intro c hc A hA
    have hm : c ∈ cls_all := by simpa using hc
    simp only [cls_all, List.mem_cons, List.not_mem_nil, or_false] at hm
    rcases hm with rfl | rfl | rfl | rfl
    · rw [tt_Deal] at hA; cases hA; exact ⟨cl_Deal, no_Deal_table⟩
    · rw [tt_Bundle] at hA; cases hA; exact ⟨cl_Bundle, no_Bundle_table⟩
    · rw [tt_Copy] at hA; cases hA; exact ⟨cl_Copy, no_Copy_table⟩
    · rw [tt_Rows] at hA; cases hA; exact ⟨cl_Rows, no_Rows_table⟩
  have fo_heads : FldOk K (ctOf K) cls_all "heads" := by
    intro c hc A hA
    have hm : c ∈ cls_all := by simpa using hc
    simp only [cls_all, List.mem_cons, List.not_mem_nil, or_false] at hm
    rcases hm with rfl | rfl | rfl | rfl
    · rw [tt_Deal] at hA; cases hA; exact ⟨cl_Deal, no_Deal_heads⟩
    · rw [tt_Bundle] at hA; cases hA; exact ⟨cl_Bundle, no_Bundle_heads⟩
    · rw [tt_Copy] at hA; cases hA; exact ⟨cl_Copy, no_Copy_heads⟩
    · rw [tt_Rows] at hA; cases hA; exact ⟨cl_Rows, no_Rows_heads⟩
  have F_law_mix := funV_mk (st := s_law_mix) l_law_mix c_law_mix k_law_mix
  have B_law_mix := F_law_mix.binds (ps := ["_law_cell", "_law_k"]) fun _ _ _ _ _ _ us hl => match us, hl with | [_, _], _ => rfl
  have F_law_odd := funV_mk (st := s_law_odd) l_law_odd c_law_odd k_law_odd
  have B_law_odd := F_law_odd.binds (ps := ["_law_cell"]) fun _ _ _ _ _ _ us hl => match us, hl with | [_], _ => rfl
  have F_law_counts := funV_mk (st := s_law_counts) l_law_counts c_law_counts k_law_counts
  have B_law_counts := F_law_counts.binds (ps := ["_law_cell", "_law_many"]) fun _ _ _ _ _ _ us hl => match us, hl with | [_, _], _ => rfl
  have F_law_number := funV_mk (st := s_law_number) l_law_number c_law_number k_law_number
  have B_law_number := F_law_number.binds (ps := ["_law_cell"]) fun _ _ _ _ _ _ us hl => match us, hl with | [_], _ => rfl
  have F_law_rows := funV_mk (st := s_law_rows) l_law_rows c_law_rows k_law_rows
  have B_law_rows := F_law_rows.binds (ps := ["_law_cell"]) fun _ _ _ _ _ _ us hl => match us, hl with | [_], _ => rfl
  have F_law_thing := funV_mk (st := s_law_thing) l_law_thing c_law_thing k_law_thing
  have B_law_thing := F_law_thing.binds (ps := ["_law_cell", "_law_kind"]) fun _ _ _ _ _ _ us hl => match us, hl with | [_, _], _ => rfl
  have F_sums_of := funV_mk (st := s_sums_of) l_sums_of c_sums_of k_sums_of
  have B_sums_of := F_sums_of.binds (ps := ["one", "other"]) fun _ _ _ _ _ _ us hl => match us, hl with | [_, _], _ => rfl
  have F_running_sums := funV_mk (st := s_running_sums) l_running_sums c_running_sums k_running_sums
  have B_running_sums := F_running_sums.binds (ps := ["rows"]) fun _ _ _ _ _ _ us hl => match us, hl with | [_], _ => rfl
  have F_Clerk_keep_rows := funV_mk (st := s_Clerk_keep_rows) l_Clerk_keep_rows c_Clerk_keep_rows k_Clerk_keep_rows
  have B_Clerk_keep_rows := F_Clerk_keep_rows.binds (ps := ["self", "rows"]) fun _ _ _ _ _ _ us hl => match us, hl with | [_, _], _ => rfl
  have F_is_whole := funV_mk (st := s_is_whole) l_is_whole c_is_whole k_is_whole
  have B_is_whole := F_is_whole.binds (ps := ["thing"]) fun _ _ _ _ _ _ us hl => match us, hl with | [_], _ => rfl
  have F_is_within := funV_mk (st := s_is_within) l_is_within c_is_within k_is_within
  have B_is_within := F_is_within.binds (ps := ["thing", "least", "most"]) fun _ _ _ _ _ _ us hl => match us, hl with | [_, _, _], _ => rfl
  have F_is_row := funV_mk (st := s_is_row) l_is_row c_is_row k_is_row
  have B_is_row := F_is_row.binds (ps := ["thing"]) fun _ _ _ _ _ _ us hl => match us, hl with | [_], _ => rfl
  have F_is_table := funV_mk (st := s_is_table) l_is_table c_is_table k_is_table
  have B_is_table := F_is_table.binds (ps := ["thing"]) fun _ _ _ _ _ _ us hl => match us, hl with | [_], _ => rfl
  have F_Rows_init := funV_mk (st := s_Rows_init) l_Rows_init c_Rows_init k_Rows_init
  have B_Rows_init := F_Rows_init.binds (ps := ["self", "rows"]) fun _ _ _ _ _ _ us hl => match us, hl with | [_, _], _ => rfl
  have F_single_row := funV_mk (st := s_single_row) l_single_row c_single_row k_single_row
  have B_single_row := F_single_row.binds (ps := ["many", "place"]) fun _ _ _ _ _ _ us hl => match us, hl with | [_, _], _ => rfl
  have F_Deal_init := funV_mk (st := s_Deal_init) l_Deal_init c_Deal_init k_Deal_init
  have B_Deal_init := F_Deal_init.binds (ps := ["self", "many"]) fun _ _ _ _ _ _ us hl => match us, hl with | [_, _], _ => rfl
  have F_Bundle_init := funV_mk (st := s_Bundle_init) l_Bundle_init c_Bundle_init k_Bundle_init
  have B_Bundle_init := F_Bundle_init.binds (ps := ["self", "size"]) fun _ _ _ _ _ _ us hl => match us, hl with | [_, _], _ => rfl
  have F_Copy_init := funV_mk (st := s_Copy_init) l_Copy_init c_Copy_init k_Copy_init
  have B_Copy_init := F_Copy_init.binds (ps := ["self", "counts"]) fun _ _ _ _ _ _ us hl => match us, hl with | [_, _], _ => rfl
  have F_law_made := funV_mk (st := s_law_made) l_law_made c_law_made k_law_made
  have B_law_made := F_law_made.binds (ps := ["_law_thing_here", "_law_kind"]) fun _ _ _ _ _ _ us hl => match us, hl with | [_, _], _ => rfl
  have F_law_kinds := funV_mk (st := s_law_kinds) l_law_kinds c_law_kinds k_law_kinds
  have B_law_kinds := F_law_kinds.binds (ps := ["_law_e"]) fun _ _ _ _ _ _ us hl => match us, hl with | [_], _ => rfl
  have F_Clerk_period := funV_mk (st := s_Clerk_period) l_Clerk_period c_Clerk_period k_Clerk_period
  have B_Clerk_period := F_Clerk_period.binds (ps := ["self"]) fun _ _ _ _ _ _ us hl => match us, hl with | [_], _ => rfl
  have F_Clerk_outs := funV_mk (st := s_Clerk_outs) l_Clerk_outs c_Clerk_outs k_Clerk_outs
  have B_Clerk_outs := F_Clerk_outs.binds (ps := ["self"]) fun _ _ _ _ _ _ us hl => match us, hl with | [_], _ => rfl
  have F_law_found := funV_mk (st := s_law_found) l_law_found c_law_found k_law_found
  have B_law_found := F_law_found.binds (ps := ["_law_thing_here", "_law_kind"]) fun _ _ _ _ _ _ us hl => match us, hl with | [_, _], _ => rfl
  have F_law_whole := funV_mk (st := s_law_whole) l_law_whole c_law_whole k_law_whole
  have B_law_whole := F_law_whole.binds (ps := ["_law_found_here"]) fun _ _ _ _ _ _ us hl => match us, hl with | [_], _ => rfl
  have F_law_is_row := funV_mk (st := s_law_is_row) l_law_is_row c_law_is_row k_law_is_row
  have B_law_is_row := F_law_is_row.binds (ps := ["_law_thing_here"]) fun _ _ _ _ _ _ us hl => match us, hl with | [_], _ => rfl
  have F_law_due := funV_mk (st := s_law_due) l_law_due c_law_due k_law_due
  have B_law_due := F_law_due.binds (ps := ["_law_thing_here", "_law_kind"]) fun _ _ _ _ _ _ us hl => match us, hl with | [_, _], _ => rfl
  have F_law := funV_mk (st := s_law) l_law c_law k_law
  have B_law := F_law.binds (ps := ["_law_script"]) fun _ _ _ _ _ _ us hl => match us, hl with | [_], _ => rfl
  have zz_range : mg "range" = none := PySem.W.mg_none_of X G z_range
  have zz_len : mg "len" = none := PySem.W.mg_none_of X G z_len
  have zz_tuple : mg "tuple" = none := PySem.W.mg_none_of X G z_tuple
  have zz_zip : mg "zip" = none := PySem.W.mg_none_of X G z_zip
  have zz_list : mg "list" = none := PySem.W.mg_none_of X G z_list
  have zz_isinstance : mg "isinstance" = none := PySem.W.mg_none_of X G z_isinstance
  have zz_int : mg "int" = none := PySem.W.mg_none_of X G z_int
  have zz_bool : mg "bool" = none := PySem.W.mg_none_of X G z_bool
  have zz_all : mg "all" = none := PySem.W.mg_none_of X G z_all
  have zz_ValueError : mg "ValueError" = none := PySem.W.mg_none_of X G z_ValueError
  have cc_MOST_OUTS := PySem.W.mg_of X G c_MOST_OUTS
  have cc_MOST_SENT := PySem.W.mg_of X G c_MOST_SENT
  have cc_MOST_ROWS := PySem.W.mg_of X G c_MOST_ROWS
  have mm_NoClerk := PySem.W.mg_of X G a_NoClerk
  have tt_NoClerk := ct_of a_NoClerk
  have xx_NoClerk : XIn K C_NoClerk := x_NoClerk
  have mm_NoShare := PySem.W.mg_of X G a_NoShare
  have tt_NoShare := ct_of a_NoShare
  have mm_NoOffice := PySem.W.mg_of X G a_NoOffice
  have tt_NoOffice := ct_of a_NoOffice
  have mm_NoText := PySem.W.mg_of X G a_NoText
  have tt_NoText := ct_of a_NoText
  have mm_NoDocket := PySem.W.mg_of X G a_NoDocket
  have tt_NoDocket := ct_of a_NoDocket
  have mm_Endless := PySem.W.mg_of X G a_Endless
  have tt_Endless := ct_of a_Endless
  have mm_TooLong := PySem.W.mg_of X G a_TooLong
  have tt_TooLong := ct_of a_TooLong
  have mm_TooMany := PySem.W.mg_of X G a_TooMany
  have tt_TooMany := ct_of a_TooMany
  have mm_Unlike := PySem.W.mg_of X G a_Unlike
  have tt_Unlike := ct_of a_Unlike
  have mm_NoSum := PySem.W.mg_of X G a_NoSum
  have tt_NoSum := ct_of a_NoSum
  have mm_NoRow := PySem.W.mg_of X G a_NoRow
  have tt_NoRow := ct_of a_NoRow
  have mm_NoName := PySem.W.mg_of X G a_NoName
  have tt_NoName := ct_of a_NoName
  have mm_NoCount := PySem.W.mg_of X G a_NoCount
  have tt_NoCount := ct_of a_NoCount
  have mm_HallError := PySem.W.mg_of X G a_HallError
  have tt_HallError := ct_of a_HallError
  have xx_HallError : XIn K C_HallError := x_HallError
  have ex_NoClerk : ExCls K C_NoClerk := ⟨XIn.cl xx_NoClerk, e2_NoClerk, e1_NoClerk, e3_NoClerk, e4_NoClerk, y1, y2, e5_NoClerk⟩
  have hs_HallError : ∀ c ∈ (["NoClerk"] : List Str), ∃ Cc, ctOf K c = some Cc ∧ PySem.W.subIn K (.ref Cc) (.ref C_HallError) = some true := by
    intro c hc
    simp only [List.mem_cons, List.not_mem_nil, or_false] at hc
    rcases hc with rfl
    · exact ⟨_, tt_NoClerk, s_NoClerk_HallError⟩
  have ke_NoShare : KitE K (ctOf K) (.ref C_NoShare) [("NoClerk", false)] := (kitE_cons tt_NoClerk ex_NoClerk o_NoClerk_NoShare kitE_nil)
  have ke_NoClerk : KitE K (ctOf K) (.ref C_NoClerk) [("NoClerk", true)] := (kitE_cons tt_NoClerk ex_NoClerk o_NoClerk_NoClerk kitE_nil)
  have ke_NoOffice : KitE K (ctOf K) (.ref C_NoOffice) [("NoClerk", false)] := (kitE_cons tt_NoClerk ex_NoClerk o_NoClerk_NoOffice kitE_nil)
  have ke_NoText : KitE K (ctOf K) (.ref C_NoText) [("NoClerk", false)] := (kitE_cons tt_NoClerk ex_NoClerk o_NoClerk_NoText kitE_nil)
  have ke_NoDocket : KitE K (ctOf K) (.ref C_NoDocket) [("NoClerk", false)] := (kitE_cons tt_NoClerk ex_NoClerk o_NoClerk_NoDocket kitE_nil)
  have ke_Endless : KitE K (ctOf K) (.ref C_Endless) [("NoClerk", false)] := (kitE_cons tt_NoClerk ex_NoClerk o_NoClerk_Endless kitE_nil)
  have ke_TooLong : KitE K (ctOf K) (.ref C_TooLong) [("NoClerk", false)] := (kitE_cons tt_NoClerk ex_NoClerk o_NoClerk_TooLong kitE_nil)
  have ke_TooMany : KitE K (ctOf K) (.ref C_TooMany) [("NoClerk", false)] := (kitE_cons tt_NoClerk ex_NoClerk o_NoClerk_TooMany kitE_nil)
  have ke_Unlike : KitE K (ctOf K) (.ref C_Unlike) [("NoClerk", false)] := (kitE_cons tt_NoClerk ex_NoClerk o_NoClerk_Unlike kitE_nil)
  have ke_NoSum : KitE K (ctOf K) (.ref C_NoSum) [("NoClerk", false)] := (kitE_cons tt_NoClerk ex_NoClerk o_NoClerk_NoSum kitE_nil)
  have ke_NoRow : KitE K (ctOf K) (.ref C_NoRow) [("NoClerk", false)] := (kitE_cons tt_NoClerk ex_NoClerk o_NoClerk_NoRow kitE_nil)
  have ke_NoName : KitE K (ctOf K) (.ref C_NoName) [("NoClerk", false)] := (kitE_cons tt_NoClerk ex_NoClerk o_NoClerk_NoName kitE_nil)
  have ke_NoCount : KitE K (ctOf K) (.ref C_NoCount) [("NoClerk", false)] := (kitE_cons tt_NoClerk ex_NoClerk o_NoClerk_NoCount kitE_nil)
  have ke_ValueError : KitE K (ctOf K) (.type "ValueError") [("NoClerk", true)] := (kitE_cons tt_NoClerk ex_NoClerk o_NoClerk_ValueError kitE_nil)
  refine ⟨PySem.W.fnOf "law" "law" (defArgs s_law) (defBody s_law) (defScope s_law) .none kV_law dc_law pm_law an_law cd_law ct_law, fun s v => .of_eq rfl, fun base _ _ => ?_⟩
  have K_law_mix : FnOk l.prog w K mg base CX0 1 _ _ ["_law_cell", "_law_k"] (SpD K (ctOf K) false b_law_mix) := d_law_mix F_law_mix 
  have H_law_mix : DefOk l.prog w K mg base (ctOf K) "_law_mix" 1 false [] b_law_mix := ⟨_, _, _, _, K_law_mix, PySem.W.mg_of X G a_law_mix, k_law_mix, B_law_mix, .nil⟩
  have K_law_odd : FnOk l.prog w K mg base CX0 2 _ _ ["_law_cell"] (SpD K (ctOf K) false b_law_odd) := d_law_odd F_law_odd H_law_mix
  have H_law_odd : DefOk l.prog w K mg base (ctOf K) "_law_odd" 2 false [] b_law_odd := ⟨_, _, _, _, K_law_odd, PySem.W.mg_of X G a_law_odd, k_law_odd, B_law_odd, .nil⟩
  have K_law_counts : FnOk l.prog w K mg base CX0 3 _ _ ["_law_cell", "_law_many"] (SpD K (ctOf K) true b_law_counts) := d_law_counts F_law_counts H_law_mix H_law_odd zz_range
  have H_law_counts : DefOk l.prog w K mg base (ctOf K) "_law_counts" 3 true [] b_law_counts := ⟨_, _, _, _, K_law_counts, PySem.W.mg_of X G a_law_counts, k_law_counts, B_law_counts, .nil⟩
  have K_law_number : FnOk l.prog w K mg base CX0 2 _ _ ["_law_cell"] (SpD K (ctOf K) false b_law_number) := d_law_number F_law_number H_law_mix
  have H_law_number : DefOk l.prog w K mg base (ctOf K) "_law_number" 2 false [] b_law_number := ⟨_, _, _, _, K_law_number, PySem.W.mg_of X G a_law_number, k_law_number, B_law_number, .nil⟩
  have K_law_rows : FnOk l.prog w K mg base CX0 4 _ _ ["_law_cell"] (SpD K (ctOf K) true b_law_rows) := d_law_rows F_law_rows H_law_mix H_law_counts zz_range zz_len zz_tuple
  have H_law_rows : DefOk l.prog w K mg base (ctOf K) "_law_rows" 4 true [] b_law_rows := ⟨_, _, _, _, K_law_rows, PySem.W.mg_of X G a_law_rows, k_law_rows, B_law_rows, .nil⟩
  have K_law_thing : FnOk l.prog w K mg base CX0 5 _ _ ["_law_cell", "_law_kind"] (SpD K (ctOf K) false b_law_thing) := d_law_thing F_law_thing H_law_number H_law_counts H_law_mix H_law_rows zz_tuple
  have H_law_thing : DefOk l.prog w K mg base (ctOf K) "_law_thing" 5 false [] b_law_thing := ⟨_, _, _, _, K_law_thing, PySem.W.mg_of X G a_law_thing, k_law_thing, B_law_thing, .nil⟩
  have K_sums_of : FnOk l.prog w K mg base CX0 1 _ _ ["one", "other"] (SpD K (ctOf K) true b_sums_of) := d_sums_of F_sums_of zz_zip
  have H_sums_of : DefOk l.prog w K mg base (ctOf K) "sums_of" 1 true [] b_sums_of := ⟨_, _, _, _, K_sums_of, PySem.W.mg_of X G a_sums_of, k_sums_of, B_sums_of, .nil⟩
  have K_running_sums : FnOk l.prog w K mg base CX0 2 _ _ ["rows"] (SpD K (ctOf K) true b_running_sums) := d_running_sums F_running_sums H_sums_of
  have H_running_sums : DefOk l.prog w K mg base (ctOf K) "running_sums" 2 true [] b_running_sums := ⟨_, _, _, _, K_running_sums, PySem.W.mg_of X G a_running_sums, k_running_sums, B_running_sums, .nil⟩
  have K_Clerk_keep_rows : FnOk l.prog w K mg base (CXR l.prog w) 3 _ _ ["self", "rows"] (SpI K (ctOf K) i_Clerk_keep_rows) := d_Clerk_keep_rows F_Clerk_keep_rows H_running_sums zz_list fo_table fo_heads
  have ms_keep_rows : MtOk l.prog w K mg base (ctOf K) (CXR l.prog w) "keep_rows" 3 cls_all (fun _ => SpI K (ctOf K) i_Clerk_keep_rows) := by
    intro c hc
    have hm : c ∈ cls_all := by simpa using hc
    simp only [cls_all, List.mem_cons, List.not_mem_nil, or_false] at hm
    rcases hm with rfl | rfl | rfl | rfl
    · exact ⟨C_Deal, f_Clerk_keep_rows, _, _, tt_Deal, cl_Deal, ⟨q_Deal_keep_rows, n_Clerk_keep_rows, k_Clerk_keep_rows⟩, K_Clerk_keep_rows.mono (by decide), B_Clerk_keep_rows⟩
    · exact ⟨C_Bundle, f_Clerk_keep_rows, _, _, tt_Bundle, cl_Bundle, ⟨q_Bundle_keep_rows, n_Clerk_keep_rows, k_Clerk_keep_rows⟩, K_Clerk_keep_rows.mono (by decide), B_Clerk_keep_rows⟩
    · exact ⟨C_Copy, f_Clerk_keep_rows, _, _, tt_Copy, cl_Copy, ⟨q_Copy_keep_rows, n_Clerk_keep_rows, k_Clerk_keep_rows⟩, K_Clerk_keep_rows.mono (by decide), B_Clerk_keep_rows⟩
    · exact ⟨C_Rows, f_Clerk_keep_rows, _, _, tt_Rows, cl_Rows, ⟨q_Rows_keep_rows, n_Clerk_keep_rows, k_Clerk_keep_rows⟩, K_Clerk_keep_rows.mono (by decide), B_Clerk_keep_rows⟩
  have K_is_whole : FnOk l.prog w K mg base CX0 1 _ _ ["thing"] (SpD K (ctOf K) false b_is_whole) := d_is_whole F_is_whole zz_isinstance zz_int zz_bool
  have H_is_whole : DefOk l.prog w K mg base (ctOf K) "is_whole" 1 false [] b_is_whole := ⟨_, _, _, _, K_is_whole, PySem.W.mg_of X G a_is_whole, k_is_whole, B_is_whole, .nil⟩
  have K_is_within : FnOk l.prog w K mg base CX0 2 _ _ ["thing", "least", "most"] (SpD K (ctOf K) false b_is_within) := d_is_within F_is_within H_is_whole
  have H_is_within : DefOk l.prog w K mg base (ctOf K) "is_within" 2 false [] b_is_within := ⟨_, _, _, _, K_is_within, PySem.W.mg_of X G a_is_within, k_is_within, B_is_within, .nil⟩
  have K_is_row : FnOk l.prog w K mg base CX0 3 _ _ ["thing"] (SpD K (ctOf K) false b_is_row) := d_is_row F_is_row H_is_within zz_isinstance zz_list zz_len zz_all cc_MOST_OUTS ⟨_, rfl⟩ cc_MOST_SENT ⟨_, rfl⟩
  have H_is_row : DefOk l.prog w K mg base (ctOf K) "is_row" 3 false [] b_is_row := ⟨_, _, _, _, K_is_row, PySem.W.mg_of X G a_is_row, k_is_row, B_is_row, .nil⟩
  have K_is_table : FnOk l.prog w K mg base CX0 4 _ _ ["thing"] (SpD K (ctOf K) false b_is_table) := d_is_table F_is_table H_is_row zz_isinstance zz_list zz_len zz_all cc_MOST_ROWS ⟨_, rfl⟩
  have H_is_table : DefOk l.prog w K mg base (ctOf K) "is_table" 4 false [] b_is_table := ⟨_, _, _, _, K_is_table, PySem.W.mg_of X G a_is_table, k_is_table, B_is_table, .nil⟩
  have K_Rows_init : FnOk l.prog w K mg base (CXR l.prog w) 5 _ _ ["self", "rows"] (SpI K (ctOf K) i_Rows_init) := d_Rows_init F_Rows_init H_is_table mm_NoClerk tt_NoClerk xx_NoClerk ms_keep_rows
  have mk_Rows : MkOk l.prog w K mg base (ctOf K) "Rows" 5 i_Rows_init := ⟨C_Rows, f_Rows_init, _, _, tt_Rows, mm_Rows, ⟨mk1_Rows, q_Rows_init, n_Rows_init, mk2_Rows⟩, K_Rows_init, B_Rows_init⟩
  have K_single_row : FnOk l.prog w K mg base CX0 1 _ _ ["many", "place"] (SpD K (ctOf K) true b_single_row) := d_single_row F_single_row zz_range
  have H_single_row : DefOk l.prog w K mg base (ctOf K) "single_row" 1 true [] b_single_row := ⟨_, _, _, _, K_single_row, PySem.W.mg_of X G a_single_row, k_single_row, B_single_row, .nil⟩
  have K_Deal_init : FnOk l.prog w K mg base (CXR l.prog w) 4 _ _ ["self", "many"] (SpI K (ctOf K) i_Deal_init) := d_Deal_init F_Deal_init H_is_within H_single_row zz_range cc_MOST_OUTS ⟨_, rfl⟩ mm_NoClerk tt_NoClerk xx_NoClerk ms_keep_rows
  have mk_Deal : MkOk l.prog w K mg base (ctOf K) "Deal" 4 i_Deal_init := ⟨C_Deal, f_Deal_init, _, _, tt_Deal, mm_Deal, ⟨mk1_Deal, q_Deal_init, n_Deal_init, mk2_Deal⟩, K_Deal_init, B_Deal_init⟩
  have K_Bundle_init : FnOk l.prog w K mg base (CXR l.prog w) 4 _ _ ["self", "size"] (SpI K (ctOf K) i_Bundle_init) := d_Bundle_init F_Bundle_init H_is_within zz_range cc_MOST_ROWS ⟨_, rfl⟩ mm_NoClerk tt_NoClerk xx_NoClerk ms_keep_rows
  have mk_Bundle : MkOk l.prog w K mg base (ctOf K) "Bundle" 4 i_Bundle_init := ⟨C_Bundle, f_Bundle_init, _, _, tt_Bundle, mm_Bundle, ⟨mk1_Bundle, q_Bundle_init, n_Bundle_init, mk2_Bundle⟩, K_Bundle_init, B_Bundle_init⟩
  have K_Copy_init : FnOk l.prog w K mg base (CXR l.prog w) 4 _ _ ["self", "counts"] (SpI K (ctOf K) i_Copy_init) := d_Copy_init F_Copy_init H_is_row mm_NoClerk tt_NoClerk xx_NoClerk ms_keep_rows
  have mk_Copy : MkOk l.prog w K mg base (ctOf K) "Copy" 4 i_Copy_init := ⟨C_Copy, f_Copy_init, _, _, tt_Copy, mm_Copy, ⟨mk1_Copy, q_Copy_init, n_Copy_init, mk2_Copy⟩, K_Copy_init, B_Copy_init⟩
  have K_law_made : FnOk l.prog w K mg base (CXR l.prog w) 7 _ _ ["_law_thing_here", "_law_kind"] (SpX K (ctOf K) true b_law_made) := d_law_made F_law_made mk_Deal mk_Bundle mk_Copy mk_Rows
  have H_law_made : DefX l.prog w K mg base (ctOf K) "_law_made" 7 true [] b_law_made := ⟨_, _, _, _, K_law_made, PySem.W.mg_of X G a_law_made, k_law_made, B_law_made, .nil⟩
  have K_law_kinds : FnOk l.prog w K mg base CX0 1 _ _ ["_law_e"] (SpD K (ctOf K) false b_law_kinds) := d_law_kinds F_law_kinds zz_isinstance zz_ValueError mm_NoShare mm_NoClerk tt_NoClerk xx_NoClerk mm_NoOffice mm_NoText mm_NoDocket mm_Endless mm_TooLong mm_TooMany mm_Unlike mm_NoSum mm_NoRow mm_NoName mm_NoCount ke_NoShare ke_NoClerk ke_NoOffice ke_NoText ke_NoDocket ke_Endless ke_TooLong ke_TooMany ke_Unlike ke_NoSum ke_NoRow ke_NoName ke_NoCount ke_ValueError
  have KM_law_kinds : FnM l.prog w K mg base 1 _ _ ["_law_e"] (SpD K (ctOf K) false b_law_kinds) := dM_law_kinds F_law_kinds zz_isinstance zz_ValueError mm_NoShare mm_NoClerk tt_NoClerk xx_NoClerk mm_NoOffice mm_NoText mm_NoDocket mm_Endless mm_TooLong mm_TooMany mm_Unlike mm_NoSum mm_NoRow mm_NoName mm_NoCount ke_NoShare ke_NoClerk ke_NoOffice ke_NoText ke_NoDocket ke_Endless ke_TooLong ke_TooMany ke_Unlike ke_NoSum ke_NoRow ke_NoName ke_NoCount ke_ValueError
  have HM_law_kinds : DefM l.prog w K mg base (ctOf K) "_law_kinds" 1 b_law_kinds := ⟨_, _, _, KM_law_kinds, PySem.W.mg_of X G a_law_kinds, k_law_kinds, B_law_kinds⟩
  have K_Clerk_period : FnOk l.prog w K mg base CX0 1 _ _ ["self"] (SpD K (ctOf K) false b_Clerk_period) := d_Clerk_period F_Clerk_period zz_len fo_table
  have mt_period : MtOk l.prog w K mg base (ctOf K) CX0 "period" 1 cls_all (fun c => SpD K (ctOf K) false ((fun _ => b_Clerk_period) c)) := by
    intro c hc
    have hm : c ∈ cls_all := by simpa using hc
    simp only [cls_all, List.mem_cons, List.not_mem_nil, or_false] at hm
    rcases hm with rfl | rfl | rfl | rfl
    · exact ⟨C_Deal, f_Clerk_period, _, _, tt_Deal, cl_Deal, ⟨q_Deal_period, n_Clerk_period, k_Clerk_period⟩, K_Clerk_period.mono (by decide), B_Clerk_period⟩
    · exact ⟨C_Bundle, f_Clerk_period, _, _, tt_Bundle, cl_Bundle, ⟨q_Bundle_period, n_Clerk_period, k_Clerk_period⟩, K_Clerk_period.mono (by decide), B_Clerk_period⟩
    · exact ⟨C_Copy, f_Clerk_period, _, _, tt_Copy, cl_Copy, ⟨q_Copy_period, n_Clerk_period, k_Clerk_period⟩, K_Clerk_period.mono (by decide), B_Clerk_period⟩
    · exact ⟨C_Rows, f_Clerk_period, _, _, tt_Rows, cl_Rows, ⟨q_Rows_period, n_Clerk_period, k_Clerk_period⟩, K_Clerk_period.mono (by decide), B_Clerk_period⟩
  have K_Clerk_outs : FnOk l.prog w K mg base CX0 1 _ _ ["self"] (SpD K (ctOf K) false b_Clerk_outs) := d_Clerk_outs F_Clerk_outs zz_len fo_table
  have mt_outs : MtOk l.prog w K mg base (ctOf K) CX0 "outs" 1 cls_all (fun c => SpD K (ctOf K) false ((fun _ => b_Clerk_outs) c)) := by
    intro c hc
    have hm : c ∈ cls_all := by simpa using hc
    simp only [cls_all, List.mem_cons, List.not_mem_nil, or_false] at hm
    rcases hm with rfl | rfl | rfl | rfl
    · exact ⟨C_Deal, f_Clerk_outs, _, _, tt_Deal, cl_Deal, ⟨q_Deal_outs, n_Clerk_outs, k_Clerk_outs⟩, K_Clerk_outs.mono (by decide), B_Clerk_outs⟩
    · exact ⟨C_Bundle, f_Clerk_outs, _, _, tt_Bundle, cl_Bundle, ⟨q_Bundle_outs, n_Clerk_outs, k_Clerk_outs⟩, K_Clerk_outs.mono (by decide), B_Clerk_outs⟩
    · exact ⟨C_Copy, f_Clerk_outs, _, _, tt_Copy, cl_Copy, ⟨q_Copy_outs, n_Clerk_outs, k_Clerk_outs⟩, K_Clerk_outs.mono (by decide), B_Clerk_outs⟩
    · exact ⟨C_Rows, f_Clerk_outs, _, _, tt_Rows, cl_Rows, ⟨q_Rows_outs, n_Clerk_outs, k_Clerk_outs⟩, K_Clerk_outs.mono (by decide), B_Clerk_outs⟩
  have K_law_found : FnOk l.prog w K mg base CX0 8 _ _ ["_law_thing_here", "_law_kind"] (SpD K (ctOf K) false b_law_found) := d_law_found F_law_found H_law_made HM_law_kinds mm_HallError xx_HallError hs_HallError mt_period mt_outs
  have H_law_found : DefOk l.prog w K mg base (ctOf K) "_law_found" 8 false [] b_law_found := ⟨_, _, _, _, K_law_found, PySem.W.mg_of X G a_law_found, k_law_found, B_law_found, .nil⟩
  have K_law_whole : FnOk l.prog w K mg base CX0 1 _ _ ["_law_found_here"] (SpD K (ctOf K) false b_law_whole) := d_law_whole F_law_whole zz_isinstance zz_int zz_bool
  have H_law_whole : DefOk l.prog w K mg base (ctOf K) "_law_whole" 1 false [] b_law_whole := ⟨_, _, _, _, K_law_whole, PySem.W.mg_of X G a_law_whole, k_law_whole, B_law_whole, .nil⟩
  have K_law_is_row : FnOk l.prog w K mg base CX0 2 _ _ ["_law_thing_here"] (SpD K (ctOf K) false b_law_is_row) := d_law_is_row F_law_is_row H_law_whole zz_isinstance zz_list zz_len
  have H_law_is_row : DefOk l.prog w K mg base (ctOf K) "_law_is_row" 2 false [] b_law_is_row := ⟨_, _, _, _, K_law_is_row, PySem.W.mg_of X G a_law_is_row, k_law_is_row, B_law_is_row, .nil⟩
  have K_law_due : FnOk l.prog w K mg base CX0 3 _ _ ["_law_thing_here", "_law_kind"] (SpD K (ctOf K) false b_law_due) := d_law_due F_law_due H_law_whole H_law_is_row zz_len zz_isinstance zz_list
  have H_law_due : DefOk l.prog w K mg base (ctOf K) "_law_due" 3 false [] b_law_due := ⟨_, _, _, _, K_law_due, PySem.W.mg_of X G a_law_due, k_law_due, B_law_due, .nil⟩
  have K_law : FnOk l.prog w K mg base CX0 9 _ _ ["_law_script"] (SpD K (ctOf K) false b_law) := d_law F_law H_law_thing H_law_found H_law_due zz_range
  exact K_law
theorem walk {l : PySem.W.OpenLaw} {q : Program} {loose : List Str} {XP : (Str → Option Value) → Heap → Prop} {YP : World → Heap → Prop} {d : DefRec} {K : Params → PySem.W.Frag} (hn : l.most = some 63) (hdf : d.params.defaults = [])
    (hY : ∀ (w : World) (h : Heap), YP w h → (K w.params).In h) (hlaw : ∀ ns : List Int, ns.length ≤ 63 → (∀ z ∈ ns, bitsI z ≤ 1048576) → b_law [.lst (ns.map .int)] = .ok (.bl true))
    (F : ∀ (w : World) (mg : Str → Option Value) (fa : Addr) (h : Heap), (K w.params).In h → h.Ns mainGlobals mg → mg d.name = some (.ref fa) →
      ∃ fd : FuncData, (∀ (s : Shared) (u : Value), BindsTo s fd ⟨[u], []⟩ [("_law_script", u)]) ∧ ∀ base : Heap, (K w.params).In base → base.Ns mainGlobals mg → FnOk l.prog w (K w.params) mg base CX0 9 fa fd ["_law_script"] (SpD (K w.params) (ctOf (K w.params)) false b_law)) :
    PySem.W.WalkO q loose XP YP l.row.toRowW d [] (fun f vs => PySem.call f vs) :=
  DL.walk_of (n := 63) (k := 9) (x := "_law_script") (CX := fun _ => CX0) (sp := fun w => SpD (K w.params) (ctOf (K w.params)) false b_law) hn (by decide) hdf ⟨rfl, by decide, by decide⟩ hY F
    (fun w H a ns hl hbits _ hS => ⟨[.lst (ns.map .int)], H, Same.refl H, ⟨.ref a, [], rfl, ⟨a, _, rfl, hS, RepL.map_int ns⟩, rfl⟩, by rw [hlaw ns hl hbits]; exact fun v H' G' _ _ _ _ r => r⟩) fun _ _ _ _ _ z => z
end My
open PySem PySem.W PyProof.Rows
set_option maxRecDepth 100000 in
set_option maxHeartbeats 0 in
theorem PySem.Challenge.cw_dockethall_k12_no_clerk_holds : PySem.Challenge.rw_dockethall_k12_no_clerk.Holds := by
  w_on; o_law; k_head; (case hw => w_witness2)
  k_fill
  refine My.walk (l := PySem.Challenge.rw_dockethall_k12_no_clerk) rfl rfl (fun w h Y => PySem.W.kIn_of Y) My.the_law ?F
  case F =>
    intro w mg fa h KX G hmg
    refine' My.all_mk KX G hmg ?a_Deal ?pg_Deal ?hd_Deal ?po_Deal ?sa_Deal ?no_Deal_table ?no_Deal_heads ?a_Bundle ?pg_Bundle ?hd_Bundle ?po_Bundle ?sa_Bundle ?no_Bundle_table ?no_Bundle_heads ?a_Copy ?pg_Copy ?hd_Copy ?po_Copy ?sa_Copy ?no_Copy_table ?no_Copy_heads ?a_Rows ?pg_Rows ?hd_Rows ?po_Rows ?sa_Rows ?no_Rows_table ?no_Rows_heads ?q_Deal_period ?q_Bundle_period ?q_Copy_period ?q_Rows_period ?q_Deal_outs ?q_Bundle_outs ?q_Copy_outs ?q_Rows_outs ?q_Deal_keep_rows ?q_Bundle_keep_rows ?q_Copy_keep_rows ?q_Rows_keep_rows ?q_Deal_init ?q_Bundle_init ?q_Copy_init ?q_Rows_init ?mk1_Deal ?mk2_Deal ?mk1_Bundle ?mk2_Bundle ?mk1_Copy ?mk2_Copy ?mk1_Rows ?mk2_Rows ?a_law_mix ?l_law_mix ?c_law_mix ?k_law_mix ?a_law_odd ?l_law_odd ?c_law_odd ?k_law_odd ?a_law_counts ?l_law_counts ?c_law_counts ?k_law_counts ?a_law_number ?l_law_number ?c_law_number ?k_law_number ?a_law_rows ?l_law_rows ?c_law_rows ?k_law_rows ?a_law_thing ?l_law_thing ?c_law_thing ?k_law_thing ?a_sums_of ?l_sums_of ?c_sums_of ?k_sums_of ?a_running_sums ?l_running_sums ?c_running_sums ?k_running_sums ?n_Clerk_keep_rows ?l_Clerk_keep_rows ?c_Clerk_keep_rows ?k_Clerk_keep_rows ?a_is_whole ?l_is_whole ?c_is_whole ?k_is_whole ?a_is_within ?l_is_within ?c_is_within ?k_is_within ?a_is_row ?l_is_row ?c_is_row ?k_is_row ?a_is_table ?l_is_table ?c_is_table ?k_is_table ?n_Rows_init ?l_Rows_init ?c_Rows_init ?k_Rows_init ?a_single_row ?l_single_row ?c_single_row ?k_single_row ?n_Deal_init ?l_Deal_init ?c_Deal_init ?k_Deal_init ?n_Bundle_init ?l_Bundle_init ?c_Bundle_init ?k_Bundle_init ?n_Copy_init ?l_Copy_init ?c_Copy_init ?k_Copy_init ?a_law_made ?l_law_made ?c_law_made ?k_law_made ?a_law_kinds ?l_law_kinds ?c_law_kinds ?k_law_kinds ?n_Clerk_period ?l_Clerk_period ?c_Clerk_period ?k_Clerk_period ?n_Clerk_outs ?l_Clerk_outs ?c_Clerk_outs ?k_Clerk_outs ?a_law_found ?l_law_found ?c_law_found ?k_law_found ?a_law_whole ?l_law_whole ?c_law_whole ?k_law_whole ?a_law_is_row ?l_law_is_row ?c_law_is_row ?k_law_is_row ?a_law_due ?l_law_due ?c_law_due ?k_law_due ?a_law ?l_law ?c_law ?k_law ?z_range ?z_len ?z_tuple ?z_zip ?z_list ?z_isinstance ?z_int ?z_bool ?z_all ?z_ValueError ?c_MOST_OUTS ?c_MOST_SENT ?c_MOST_ROWS ?a_NoClerk ?x_NoClerk ?a_NoShare ?a_NoOffice ?a_NoText ?a_NoDocket ?a_Endless ?a_TooLong ?a_TooMany ?a_Unlike ?a_NoSum ?a_NoRow ?a_NoName ?a_NoCount ?a_HallError ?x_HallError ?y1 ?y2 ?e1_NoClerk ?e2_NoClerk ?e3_NoClerk ?e4_NoClerk ?e5_NoClerk ?s_NoClerk_HallError ?o_NoClerk_NoShare ?o_NoClerk_NoClerk ?o_NoClerk_NoOffice ?o_NoClerk_NoText ?o_NoClerk_NoDocket ?o_NoClerk_Endless ?o_NoClerk_TooLong ?o_NoClerk_TooMany ?o_NoClerk_Unlike ?o_NoClerk_NoSum ?o_NoClerk_NoRow ?o_NoClerk_NoName ?o_NoClerk_NoCount ?o_NoClerk_ValueError
    (case a_Deal => k_is)
    (case pg_Deal => k_is)
    (case hd_Deal => k_is)
    (case po_Deal => k_is)
    (case sa_Deal => k_is)
    (case no_Deal_table => k_is)
    (case no_Deal_heads => k_is)
    (case a_Bundle => k_is)
    (case pg_Bundle => k_is)
    (case hd_Bundle => k_is)
    (case po_Bundle => k_is)
    (case sa_Bundle => k_is)
    (case no_Bundle_table => k_is)
    (case no_Bundle_heads => k_is)
    (case a_Copy => k_is)
    (case pg_Copy => k_is)
    (case hd_Copy => k_is)
    (case po_Copy => k_is)
    (case sa_Copy => k_is)
    (case no_Copy_table => k_is)
    (case no_Copy_heads => k_is)
    (case a_Rows => k_is)
    (case pg_Rows => k_is)
    (case hd_Rows => k_is)
    (case po_Rows => k_is)
    (case sa_Rows => k_is)
    (case no_Rows_table => k_is)
    (case no_Rows_heads => k_is)
    (case q_Deal_period => k_is)
    (case q_Bundle_period => k_is)
    (case q_Copy_period => k_is)
    (case q_Rows_period => k_is)
    (case q_Deal_outs => k_is)
    (case q_Bundle_outs => k_is)
    (case q_Copy_outs => k_is)
    (case q_Rows_outs => k_is)
    (case q_Deal_keep_rows => k_is)
    (case q_Bundle_keep_rows => k_is)
    (case q_Copy_keep_rows => k_is)
    (case q_Rows_keep_rows => k_is)
    (case q_Deal_init => k_is)
    (case q_Bundle_init => k_is)
    (case q_Copy_init => k_is)
    (case q_Rows_init => k_is)
    (case mk1_Deal => k_is)
    (case mk2_Deal => k_is)
    (case mk1_Bundle => k_is)
    (case mk2_Bundle => k_is)
    (case mk1_Copy => k_is)
    (case mk2_Copy => k_is)
    (case mk1_Rows => k_is)
    (case mk2_Rows => k_is)
    (case a_law_mix => k_is)
    (case l_law_mix => k_is)
    (case c_law_mix => k_is)
    (case k_law_mix => k_is)
    (case a_law_odd => k_is)
    (case l_law_odd => k_is)
    (case c_law_odd => k_is)
    (case k_law_odd => k_is)
    (case a_law_counts => k_is)
    (case l_law_counts => k_is)
    (case c_law_counts => k_is)
    (case k_law_counts => k_is)
    (case a_law_number => k_is)
    (case l_law_number => k_is)
    (case c_law_number => k_is)
    (case k_law_number => k_is)
    (case a_law_rows => k_is)
    (case l_law_rows => k_is)
    (case c_law_rows => k_is)
    (case k_law_rows => k_is)
    (case a_law_thing => k_is)
    (case l_law_thing => k_is)
    (case c_law_thing => k_is)
    (case k_law_thing => k_is)
    (case a_sums_of => k_is)
    (case l_sums_of => k_is)
    (case c_sums_of => k_is)
    (case k_sums_of => k_is)
    (case a_running_sums => k_is)
    (case l_running_sums => k_is)
    (case c_running_sums => k_is)
    (case k_running_sums => k_is)
    (case n_Clerk_keep_rows => k_is)
    (case l_Clerk_keep_rows => k_is)
    (case c_Clerk_keep_rows => k_is)
    (case k_Clerk_keep_rows => k_is)
    (case a_is_whole => k_is)
    (case l_is_whole => k_is)
    (case c_is_whole => k_is)
    (case k_is_whole => k_is)
    (case a_is_within => k_is)
    (case l_is_within => k_is)
    (case c_is_within => k_is)
    (case k_is_within => k_is)
    (case a_is_row => k_is)
    (case l_is_row => k_is)
    (case c_is_row => k_is)
    (case k_is_row => k_is)
    (case a_is_table => k_is)
    (case l_is_table => k_is)
    (case c_is_table => k_is)
    (case k_is_table => k_is)
    (case n_Rows_init => k_is)
    (case l_Rows_init => k_is)
    (case c_Rows_init => k_is)
    (case k_Rows_init => k_is)
    (case a_single_row => k_is)
    (case l_single_row => k_is)
    (case c_single_row => k_is)
    (case k_single_row => k_is)
    (case n_Deal_init => k_is)
    (case l_Deal_init => k_is)
    (case c_Deal_init => k_is)
    (case k_Deal_init => k_is)
    (case n_Bundle_init => k_is)
    (case l_Bundle_init => k_is)
    (case c_Bundle_init => k_is)
    (case k_Bundle_init => k_is)
    (case n_Copy_init => k_is)
    (case l_Copy_init => k_is)
    (case c_Copy_init => k_is)
    (case k_Copy_init => k_is)
    (case a_law_made => k_is)
    (case l_law_made => k_is)
    (case c_law_made => k_is)
    (case k_law_made => k_is)
    (case a_law_kinds => k_is)
    (case l_law_kinds => k_is)
    (case c_law_kinds => k_is)
    (case k_law_kinds => k_is)
    (case n_Clerk_period => k_is)
    (case l_Clerk_period => k_is)
    (case c_Clerk_period => k_is)
    (case k_Clerk_period => k_is)
    (case n_Clerk_outs => k_is)
    (case l_Clerk_outs => k_is)
    (case c_Clerk_outs => k_is)
    (case k_Clerk_outs => k_is)
    (case a_law_found => k_is)
    (case l_law_found => k_is)
    (case c_law_found => k_is)
    (case k_law_found => k_is)
    (case a_law_whole => k_is)
    (case l_law_whole => k_is)
    (case c_law_whole => k_is)
    (case k_law_whole => k_is)
    (case a_law_is_row => k_is)
    (case l_law_is_row => k_is)
    (case c_law_is_row => k_is)
    (case k_law_is_row => k_is)
    (case a_law_due => k_is)
    (case l_law_due => k_is)
    (case c_law_due => k_is)
    (case k_law_due => k_is)
    (case a_law => k_is)
    (case l_law => k_is)
    (case c_law => k_is)
    (case k_law => k_is)
    (case z_range => k_is)
    (case z_len => k_is)
    (case z_tuple => k_is)
    (case z_zip => k_is)
    (case z_list => k_is)
    (case z_isinstance => k_is)
    (case z_int => k_is)
    (case z_bool => k_is)
    (case z_all => k_is)
    (case z_ValueError => k_is)
    (case c_MOST_OUTS => k_is)
    (case c_MOST_SENT => k_is)
    (case c_MOST_ROWS => k_is)
    (case a_NoClerk => k_is)
    (case x_NoClerk => first | k_exc | k_is)
    (case a_NoShare => k_is)
    (case a_NoOffice => k_is)
    (case a_NoText => k_is)
    (case a_NoDocket => k_is)
    (case a_Endless => k_is)
    (case a_TooLong => k_is)
    (case a_TooMany => k_is)
    (case a_Unlike => k_is)
    (case a_NoSum => k_is)
    (case a_NoRow => k_is)
    (case a_NoName => k_is)
    (case a_NoCount => k_is)
    (case a_HallError => k_is)
    (case x_HallError => first | k_exc | k_is)
    (case y1 => k_is)
    (case y2 => k_is)
    (case e1_NoClerk => k_is)
    (case e2_NoClerk => k_is)
    (case e3_NoClerk => k_is)
    (case e4_NoClerk => k_is)
    (case e5_NoClerk => k_is)
    (case s_NoClerk_HallError => k_is)
    (case o_NoClerk_NoShare => kit_is)
    (case o_NoClerk_NoClerk => kit_is)
    (case o_NoClerk_NoOffice => kit_is)
    (case o_NoClerk_NoText => kit_is)
    (case o_NoClerk_NoDocket => kit_is)
    (case o_NoClerk_Endless => kit_is)
    (case o_NoClerk_TooLong => kit_is)
    (case o_NoClerk_TooMany => kit_is)
    (case o_NoClerk_Unlike => kit_is)
    (case o_NoClerk_NoSum => kit_is)
    (case o_NoClerk_NoRow => kit_is)
    (case o_NoClerk_NoName => kit_is)
    (case o_NoClerk_NoCount => kit_is)
    (case o_NoClerk_ValueError => kit_is)
